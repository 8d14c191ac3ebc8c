/- Texts of one seat, merged. -/
import Derived.Test.YtgmneapgihakgaaGreatDoorZ07
import Derived.Deep.DeepMust
import Derived.Test.YtgmneapgihakgaaGreatDoorZ06
import Derived.Deep.LoopGhost
import Derived.BigQuiet
import Derived.Deep.DeepCutAuto
import Derived.Deep.QuietTactic
import Derived.Deep.RegionWith
import Derived.Shelf.Slices.In.SortNone
import Derived.RangeFuncNested
import Derived.RangeFuncBound
import Derived.RangeFuncCalls
import Derived.RangeFuncLeaves
import Derived.RangeFuncBox
import Derived.Shelf.Abstract
import Derived.Shelf.RegionOpen
import Derived.WalkKit
import Derived.OwnWalkIn
import Derived.TacticsInMore
import Derived.LoopNIn
import Derived.LoopIn
import Derived.Sort.LoopGhostIn
import Derived.RangeFuncWrites
set_option maxRecDepth 100000
set_option maxHeartbeats 4000000
set_option linter.unusedVariables false
/- A set of texts: Add, Remove. -/
namespace Go.Proofs.YtgmneapgihakgaaGreatDoor
open Go.RowKit Go.Sort
open Tx (Rise At Ord above)
/-- What a set has with one more. -/
def addS (l : List Txt) (x : Txt) (l' : List Txt) : Prop := Rise slt l' ∧ (∀ y, y ∈ l' ↔ y = x ∨ y ∈ l) ∧ l'.length ≤ l.length + 1
/-- What a set has with one less. -/
def remS (l : List Txt) (x : Txt) (l' : List Txt) : Prop := Rise slt l' ∧ (∀ y, y ∈ l' ↔ y ≠ x ∧ y ∈ l) ∧ l'.length ≤ l.length
/-- The box is written with a row of its own that stands in another block. -/
theorem SetT.stored {w w2 : World} {p B : Nat} {v v' : Value} {l l' : List Txt} (h : SetT w p B v l) (hp : w2.heap[p]? = w.heap[p]?) (hr : RowS w2 B v' l') (hrise : Rise slt l') (hne : v'.ownBlock ≠ some p) :
    SetT (w2.setCell ⟨p, 0, none⟩ v') p B v' l' := by
  have c2 := (cell_same hp 0).trans h.c0
  refine ⟨World.cell?_setCell_same' _ _ _ (by rw [c2]; rfl), by rw [World.frozen?_setCell]; exact (frozen_same hp 0).trans h.f0, hr.keep (fun g hg => Below.heap_setCell w2 _ v' g (fun e => hne (by rw [hg]; exact congrArg some e))), hrise, hne⟩
theorem sxAdd_any {w : World} {p B : Nat} {v : Value} {l : List Txt} (h : SetT w p B v l) (hl : l.length ≤ 90000) (hB : B ≤ w.heap.size) (x : Txt) :
    Calls Tryz.prog 86 #[.pointer (some ⟨p, 0, none⟩), .string (str x)] w fun e w' => (∃ b, e = .returned (.bool b)) ∧ ∃ v' l', SetT w' p B v' l' ∧ addS l x l' ∧ SetK p B v w w' ∧ (v'.ownBlock = v.ownBlock ∨ ∃ g, v'.ownBlock = some g ∧ w.heap.size ≤ g) := by
  have HP := Lib.hid (sxPlace_any h (by omega) x)
  have hn := fun W => setT_not_nil W p
  have HS := Lib.hid h
  have HLT := Lib.hid (World.block_lt_of_cell? _ _ h.c0)
  have hlt := HLT.out
  obtain ⟨a, c, rfl⟩ := h.row.slice
  clear h
  go_enter Tryz.func86, Tryz.ntmps86
  go_upto_region 2 with (go_at_call 179; refine HP.out.mono ?_; rintro e w1 ⟨k, rfl, hat, q, rfl⟩; have HAT := Lib.hid hat; clear hat)
  have hk := HAT.out.le
  by_cases hx : l[k]? = some x
  · rw [decide_eq_true hx]
    have HX := Lib.hid hx
    clear hx
    go_wp2
    go_ret
    exact ⟨⟨_, rfl⟩, _, l, HS.out.drewN q, ⟨HS.out.rise, fun y => ⟨.inr, fun h => h.elim (fun e => by rw [e]; exact List.mem_of_getElem? HX.out) id⟩, by omega⟩, ⟨Nat.le_refl _, rfl, rfl, rfl, fun _ _ _ _ => rfl⟩, .inl rfl⟩
  · rw [decide_eq_false hx]
    have HX := Lib.hid hx
    clear hx
    have c0 : (w.drewN q).cell? ⟨p, 0, none⟩ = some (.slice a l.length c) := (HS.out.drewN q).c0
    have f0 : (w.drewN q).frozen? ⟨p, 0, none⟩ = false := (HS.out.drewN q).f0
    have HI := Lib.hid (fun T => sxIns_any B (w.drewN q).heap.size 1 k (.slice a l.length c) l x T ((w.drewN q).alloc (.cells #[.string (str x)] T)) hk (by omega) ((HS.out.drewN q).row.below ((Below.refl _ _).alloc (Nat.le_refl _) _)) (by simp; omega) (heap_alloc_new _ _) (fun e => by have := ((HS.out.drewN q).row.lt e).1; omega))
    go_wp2_with (go_at_call 180; refine (HI.out _).mono ?_; rintro e w2 ⟨v2, rfl, hi2⟩; have HI2 := Lib.hid hi2; obtain ⟨a2, c2, rfl⟩ := hi2.row.slice; have hw2p : w2.heap[p]? = w.heap[p]? := (hi2.keep p HS.out.ne (by simp; omega)).trans (Below.heap_alloc (w.drewN q) _ p hlt); have c2p : w2.cell? ⟨p, 0, none⟩ = some (.slice a l.length c) := (cell_same hw2p 0).trans HS.out.c0; have f2p : w2.frozen? ⟨p, 0, none⟩ = false := (frozen_same hw2p 0).trans HS.out.f0; have HWP := Lib.hid hw2p; clear hi2 hw2p)
    go_ret
    have hne2 : (Value.slice a2 (Tx.ins l k x).length c2).ownBlock ≠ some p := fun e => by
      have hlen := ins_len (x := x) hk
      rcases HI2.out.row.open with ⟨h, h0⟩ | ⟨g, cap, cur, h, _⟩
      · rw [h0] at hlen; cases hlen
      · have hx0 : (Tx.ins l k x)[0]? = some ((Tx.ins l k x)[0]'(by omega)) := List.getElem?_eq_getElem (by omega)
        have h1 := ((HI2.out.row.cells h).2 0 _ hx0).1
        rw [h] at e
        injection e with e
        have e' : g = p := e
        rw [e', c2p] at h1
        cases h1
    refine ⟨⟨_, rfl⟩, _, Tx.ins l k x, HS.out.stored HWP.out HI2.out.row (HAT.out.ins_rise sord HS.out.rise HX.out) hne2, ⟨HAT.out.ins_rise sord HS.out.rise HX.out, fun y => Tx.ins_mem, by rw [ins_len hk]; omega⟩, ?_, HI2.out.at'.imp id (fun ⟨g, hg, hle⟩ => ⟨g, hg, Nat.le_trans (by simp) hle⟩)⟩
    exact SetK.stored (w := w) (B := B) (p := p) (v := .slice a l.length c) (Nat.le_trans (by simp) HI2.out.below.size) HI2.out.below.os HI2.out.below.tape HI2.out.below.output (fun k hv hk' => (HI2.out.keep k hv (by simp; omega)).trans (Below.heap_alloc (w.drewN q) _ k hk')) _
theorem sxRemove_any {w : World} {p B : Nat} {v : Value} {l : List Txt} (h : SetT w p B v l) (hl : l.length ≤ 90000) (x : Txt) :
    Calls Tryz.prog 345 #[.pointer (some ⟨p, 0, none⟩), .string (str x)] w fun e w' => (∃ b, e = .returned (.bool b)) ∧ ∃ v' l', SetT w' p B v' l' ∧ remS l x l' ∧ SetK p B v w w' ∧ (v'.ownBlock = v.ownBlock ∨ ∃ g, v'.ownBlock = some g ∧ w.heap.size ≤ g) := by
  have HP := Lib.hid (sxPlace_any h (by omega) x)
  have HS := Lib.hid h
  obtain ⟨a, c, rfl⟩ := h.row.slice
  clear h
  go_enter Tryz.func345, Tryz.ntmps345
  go_upto_region 2 with (go_at_call 179; refine HP.out.mono ?_; rintro e w1 ⟨k, rfl, hat, q, rfl⟩; have HAT := Lib.hid hat; clear hat)
  have hk := HAT.out.le
  by_cases hx : l[k]? = some x
  · rw [decide_eq_true hx]
    have HX := Lib.hid hx
    have hkl := (List.getElem?_eq_some_iff.1 hx).1
    clear hx
    have c0 : (w.drewN q).cell? ⟨p, 0, none⟩ = some (.slice a l.length c) := (HS.out.drewN q).c0
    have f0 : (w.drewN q).frozen? ⟨p, 0, none⟩ = false := (HS.out.drewN q).f0
    obtain ⟨g, cap, hgc⟩ : ∃ g cap, (Value.slice a l.length c) = .slice (some ⟨g, 0, none⟩) l.length cap := by
      rcases HS.out.row.open with ⟨_, h⟩ | ⟨g, cap, _, h, _⟩
      · rw [h] at hkl; cases hkl
      · exact ⟨g, cap, h⟩
    cases hgc
    have HD := Lib.hid (sxDel_any B g c k l (w.drewN q) hkl (HS.out.drewN q).row)
    have HLT := Lib.hid (World.block_lt_of_cell? _ _ HS.out.c0)
    have hlt := HLT.out
    go_wp2_with (go_at_call 346; refine HD.out.mono ?_; rintro e w2 ⟨v2, rfl, hg2, hi2⟩; have HI2 := Lib.hid hi2; have HG2 := Lib.hid hg2; obtain ⟨a2, c2, rfl⟩ := hi2.row.slice; have hw2p : w2.heap[p]? = w.heap[p]? := hi2.keep p HS.out.ne hlt; have c2p : w2.cell? ⟨p, 0, none⟩ = some (.slice (some ⟨g, 0, none⟩) l.length c) := (cell_same hw2p 0).trans HS.out.c0; have f2p : w2.frozen? ⟨p, 0, none⟩ = false := (frozen_same hw2p 0).trans HS.out.f0; have HWP := Lib.hid hw2p; clear hi2 hw2p hg2)
    go_ret
    refine ⟨⟨_, rfl⟩, _, Tx.del l k, HS.out.stored HWP.out HI2.out.row (Tx.del_rise k HS.out.rise) (fun e => HS.out.ne (by rw [← e, HG2.out]; rfl)), ⟨Tx.del_rise k HS.out.rise, fun y => Tx.del_mem sord HS.out.rise HX.out, by rw [del_len hkl]; omega⟩, ?_, HI2.out.at'⟩
    exact SetK.stored (w := w) (B := B) (p := p) (v := .slice (some ⟨g, 0, none⟩) l.length c) HI2.out.below.size HI2.out.below.os HI2.out.below.tape HI2.out.below.output (fun k hv hk' => HI2.out.keep k hv hk') _
  · rw [decide_eq_false hx]
    have HX := Lib.hid hx
    clear hx
    go_wp2
    go_ret
    exact ⟨⟨_, rfl⟩, _, l, HS.out.drewN q, ⟨HS.out.rise, fun y => ⟨fun h => ⟨fun e => HX.out ((HAT.out.mem sord HS.out.rise).1 (e ▸ h)), h⟩, fun h => h.2⟩, by omega⟩, ⟨Nat.le_refl _, rfl, rfl, rfl, fun _ _ _ _ => rfl⟩, .inl rfl⟩
end Go.Proofs.YtgmneapgihakgaaGreatDoor
/- What two texts are to each other. -/
namespace Go.Proofs.YtgmneapgihakgaaGreatDoor
open Go.RowKit Go.Sort
theorem sxNaN_any (x : Txt) (w : World) : Calls Tryz.prog 289 #[.string (str x)] w fun e w' => e = .returned (.bool false) ∧ w = w' := by
  go_enter Tryz.func289, Tryz.ntmps289
  go_wp2
  go_ret
  exact ⟨by simp, rfl⟩
theorem str_list (t : Txt) : (str t).toList = t := by simp [str, ByteArray.toList_eq]
theorem str_less (x y : Txt) : Op.bytesLess (str x).toList (str y).toList = slt x y := by rw [str_list, str_list, bytesLess_eq]; rfl
theorem str_ne {x y : Txt} (h : x ≠ y) : ((str x).toList == (str y).toList) = false := by rw [str_list, str_list]; simpa using h
def cmpS (x y : Txt) : Int := if slt x y then -1 else if slt y x then 1 else 0
theorem sxCmp_any (x y : Txt) (w : World) : Calls Tryz.prog 230 #[.string (str x), .string (str y)] w fun e w' => e = .returned (.int .i64 (cmpS x y)) ∧ w = w' := by
  have hl := str_less x y
  have hq : cmpS x y = if slt x y then -1 else if slt y x then 1 else 0 := rfl
  have HQ := Lib.hid hq
  clear hq
  generalize cmpS x y = r at HQ ⊢
  cases h1 : slt x y with
  | true =>
    rw [h1] at HQ hl
    have hr : r = -1 := by rw [HQ.out]; rfl
    subst hr
    clear h1 HQ
    go_enter Tryz.func230, Tryz.ntmps230
    go_wp2_with (go_at_call 289; refine (sxNaN_any _ _).mono ?_; rintro e w1 ⟨rfl, rfl⟩)
    go_ret
    exact ⟨rfl, rfl⟩
  | false =>
    cases h2 : slt y x with
    | true =>
      rw [h1, h2] at HQ
      rw [h1] at hl
      have hm := str_ne (fun e : x = y => by rw [e, sord.irr] at h2; cases h2)
      have hr : r = 1 := by rw [HQ.out]; rfl
      subst hr
      clear h1 h2 HQ
      go_enter Tryz.func230, Tryz.ntmps230
      go_wp2_with (go_at_call 289; refine (sxNaN_any _ _).mono ?_; rintro e w1 ⟨rfl, rfl⟩)
      go_ret
      exact ⟨rfl, rfl⟩
    | false =>
      rw [h1, h2] at HQ
      rw [h1] at hl
      obtain rfl := sord.tri h1 h2
      have hm : ((str x).toList == (str x).toList) = true := by simp
      have hr : r = 0 := by rw [HQ.out]; rfl
      subst hr
      clear h1 h2 HQ
      go_enter Tryz.func230, Tryz.ntmps230
      go_wp2_with (go_at_call 289; refine (sxNaN_any _ _).mono ?_; rintro e w1 ⟨rfl, rfl⟩)
      go_ret
      exact ⟨rfl, rfl⟩
theorem sxSame_any (x y : Txt) (w : World) : Calls Tryz.prog 152 #[.string (str x), .string (str y)] w fun e w' => e = .returned (.bool (decide (x = y))) ∧ w = w' := by
  have HC := Lib.hid (sxCmp_any x y)
  by_cases h : x = y
  · subst h
    have h0 : cmpS x x = 0 := by simp [cmpS, sord.irr]
    rw [h0] at HC
    rw [decide_eq_true rfl]
    clear h0
    go_enter Tryz.func152, Tryz.ntmps152
    go_wp2_with (go_at_call 230; refine (HC.out _).mono ?_; rintro e w1 ⟨rfl, rfl⟩)
    go_ret
    exact ⟨rfl, rfl⟩
  · rw [decide_eq_false h]
    have h0 : cmpS x y = -1 ∨ cmpS x y = 1 := by
      unfold cmpS
      cases h1 : slt x y with
      | true => exact .inl rfl
      | false =>
        cases h2 : slt y x with
        | true => exact .inr rfl
        | false => exact absurd (sord.tri h1 h2) h
    clear h
    rcases h0 with h0 | h0
    all_goals
      rw [h0] at HC
      clear h0
      go_enter Tryz.func152, Tryz.ntmps152
      go_wp2_with (go_at_call 230; refine (HC.out _).mono ?_; rintro e w1 ⟨rfl, rfl⟩)
      go_ret
      exact ⟨rfl, rfl⟩
end Go.Proofs.YtgmneapgihakgaaGreatDoor
/- The contract of slices.CompactFunc at texts, by 'same'. -/
namespace Go.Proofs.YtgmneapgihakgaaGreatDoor
open Go.RowKit Go.Sort
theorem sizeS : ∀ w, (Go.sizeOf (Tryz.prog.elem 52)).run Tryz.prog w = .ok 1 w := fun w => by kernel_rfl
theorem zero_lenS (n : Nat) : (Builtin.zeroCells #[.string ⟨#[]⟩] n).toList.length = n := by simp [Builtin.zeroCells]
theorem zero_oneS (n : Nat) : ∀ v ∈ (Builtin.zeroCells #[.string ⟨#[]⟩] n).toList, v.oneCell' = true := by
  intro v hv
  simp only [Builtin.zeroCells, Array.toList_map, Array.toList_range] at hv
  obtain ⟨i, hi, rfl⟩ := List.mem_map.1 hv
  simp [Nat.mod_one, Value.oneCell']
/-- 'clear(s)', s of texts. -/
theorem run_clearS (w : World) (ty : TypeId) (b o n c : Nat) (hn : 0 < n) (hc : ∀ j, j < n → (w.cell? ⟨b, o + j, none⟩).isSome = true) (hf : ∀ j, j < n → w.frozen? ⟨b, o + j, none⟩ = false) :
    (Builtin.clear_ #[52] ty #[.slice (some ⟨b, o, none⟩) n c]).run Tryz.prog w = .ok (.tuple #[]) (w.setCells b o (Builtin.zeroCells #[.string ⟨#[]⟩] n).toList) := by
  have hst := run_storeCells_cells (P := Tryz.prog) b o (Builtin.zeroCells #[.string ⟨#[]⟩] n).toList 0 w (by rw [zero_lenS]; simpa using hc) (by rw [zero_lenS]; simpa using hf) (zero_oneS n)
  simp only [Nat.add_zero] at hst
  have hv : ∀ w, (zeroValue 9).run Tryz.prog w = .ok (.string ⟨#[]⟩) w := fun w => by kernel_rfl
  have hz : (Value.string ⟨#[]⟩).cells = #[.string ⟨#[]⟩] := rfl
  obtain ⟨n', rfl⟩ : ∃ m, n = m + 1 := ⟨n - 1, by omega⟩
  simp [Builtin.clear_, run_underlying Tryz.underlying52, hv, hz, hst]
theorem cutS_at (g n c q : Nat) (hq : q < c) (hqn : q ≤ n) : ∀ W, (Instr.sliceAt 52 (.slice (some ⟨g, 0, none⟩) n c) (some (.int .i64 (q : Int))) none none).run Tryz.prog W = .ok (.slice (some ⟨g, q, none⟩) (n - q) (c - q)) W := by
  intro W
  have hT : Tryz.prog.underlying 52 = some (.slice (Tryz.prog.elem 52)) := by kernel_rfl
  rw [run_sliceAt_slice (h := hT), run_slice_l (ht := hT) (h0 := by omega) (h1 := by omega), sizeS W]
  simp only [Result.andThen, sliced, Int.toNat_natCast]
  rw [if_neg (by omega)]
  simp only [Option.map_some, add_plain', Nat.zero_add, Nat.mul_one]
theorem cutS_head (g n c q : Nat) (hq : q ≤ n) (hc : n ≤ c) (h0 : 0 < c) : ∀ W, (Instr.sliceAt 52 (.slice (some ⟨g, 0, none⟩) n c) none (some (.int .i64 (q : Int))) none).run Tryz.prog W = .ok (.slice (some ⟨g, 0, none⟩) q c) W := by
  intro W
  have hT : Tryz.prog.underlying 52 = some (.slice (Tryz.prog.elem 52)) := by kernel_rfl
  rw [run_sliceAt_slice (h := hT), run_slice_h (ht := hT) (h0 := by omega) (h2 := by omega), sizeS W]
  simp only [Result.andThen, sliced, Int.toNat_natCast]
  rw [if_neg (by omega)]
  simp only [Option.map_some, add_plain', Nat.zero_add, Nat.zero_mul, Nat.sub_zero]
set_option maxHeartbeats 8000000 in
theorem sxCptF_any (v : Value) (m : List Txt) (hm : m.length ≤ 100000) (B : Nat) (w : World) (hB : B ≤ w.heap.size) (hr : RowS w B v m) :
    Calls Tryz.prog 151 #[v, .func (.func 152) #[] #[]] w fun e w' => ∃ v', e = .returned v' ∧ RowS w' B v' (Tx.cmpn m m.length) ∧ Below B w w' := by
  by_cases hs : m.length < 2
  · have hq : Tx.cmpn m m.length = m := by
      match m, hs with
      | [], _ => rfl
      | [x], _ => rfl
      | x :: y :: t, h => simp at h; omega
    rw [hq]
    have HSL := Lib.hid hr
    obtain ⟨a, c, rfl⟩ := hr.slice
    have hs' : (m.length : Int) < 2 := by omega
    clear hr
    go_enter Tryz.func151, Tryz.ntmps151
    go_wp2
    go_ret
    exact ⟨_, rfl, HSL.out, Below.refl _ _⟩
  · rcases hr.open with ⟨_, hz⟩ | ⟨g, cap, cur, rfl, hBg, hb, hc1, hc2, hc3, hc4⟩
    · rw [hz] at hs; simp at hs
    · have HR0 := Lib.hid hr
      have HBG := Lib.hid hBg
      have hs' : ¬ (m.length : Int) < 2 := by omega
      clear hr hb hc2 hc3 hc4 hBg
      go_enter Tryz.func151, Tryz.ntmps151
      go_wp2
      go_loopg [5] (m.length - 1) (fun n i wr => ∃ k : Nat, k + 1 ≤ m.length ∧ n = m.length - 1 - k ∧ i = .int .i64 ((k : Int) + 1) ∧ Hid (Tx.cmpn m (k + 1) = m.take (k + 1)) ∧ Hid (RowS wr B (.slice (some ⟨g, 0, none⟩) m.length cap) m) ∧ Hid (Below B w wr))
      case atStart => exact ⟨0, by omega, by omega, rfl, rfl, HR0.out, Below.refl _ _⟩
      case round =>
        obtain ⟨k, hk, rfl, rfl, HK, HR, HB⟩ := hrel
        by_cases hlt : k + 1 < m.length
        · obtain ⟨x, hx⟩ := some_atP (show k < m.length by omega)
          obtain ⟨y, hy⟩ := some_atP hlt
          have d0 := ((HR.out.cells rfl).2 k x hx).1
          have d2 := ((HR.out.cells rfl).2 (k + 1) y hy).1
          have hi : (k : Int) + 1 < (m.length : Int) := by omega
          have hi0 : (k : Int) < (m.length : Int) := by omega
          have hk0 : (0 : Int) ≤ (k : Int) := by omega
          have hk1 : (0 : Int) ≤ (k : Int) + 1 := by omega
          have hw1 : IntKind.i64.wrap ((k : Int) + 1 - 1) = (k : Int) := by rw [show (k : Int) + 1 - 1 = k by omega]; exact IntWalk.i64_in _ (by omega)
          have hw0 : IntKind.i64.wrap (k : Int) = (k : Int) := IntWalk.i64_in _ (by omega)
          have ht1 : ((k : Int) + 1).toNat = k + 1 := by omega
          have HS := Lib.hid (fun W => sxSame_any y x W)
          have HRd : Hid (RowS wr.drew B (.slice (some ⟨g, 0, none⟩) m.length cap) m) := HR.out.below (below_drewT (Below.refl _ _) 1)
          have HBd : Hid (Below B w wr.drew) := below_drewT HB.out 1
          by_cases hc : y = x
          · subst hc
            have HC1 := Lib.hid ((Tx.cmpn_same hy hx).trans HK.out)
            rw [decide_eq_true rfl] at HS
            clear hx hy
            obtain ⟨L2, hL2⟩ : ∃ L2, L2 = m.length - (k + 1) := ⟨_, rfl⟩
            have hkc : k + 1 < cap := Nat.lt_of_lt_of_le hlt hc1
            have hcut := cutS_at g m.length cap (k + 1) hkc (by omega)
            rw [← hL2, show ((k + 1 : Nat) : Int) = (k : Int) + 1 by omega] at hcut
            go_upto_region 6 with fail
            go_region_with (go_at_call 152; refine (HS.out _).mono ?_; rintro e w4 ⟨rfl, rfl⟩)
            all_goals
              go_wp2
              clear hcut d0 d2
              go_loopg [5, 7] (L2 - 1) (fun n cv iv wr2 => ∃ (i : Nat) (A : List Txt), i + 1 ≤ L2 ∧ n = L2 - 1 - i ∧ cv = .int .i64 (A.length : Nat) ∧ iv = .int .i64 ((i : Int) + 1) ∧ Hid (A = Tx.cmpn m (k + 1 + (i + 1))) ∧ Hid (A.length + 1 ≤ k + 1 + (i + 1)) ∧ Hid (RowS wr2 B (.slice (some ⟨g, 0, none⟩) m.length cap) (A ++ m.drop A.length)) ∧ Hid (Below B w wr2))
              case atStart =>
                have htl : (m.take (k + 1)).length = k + 1 := by rw [List.length_take]; omega
                refine ⟨0, m.take (k + 1), by omega, by omega, by rw [htl]; rfl, rfl, HC1.out.symm, by show _ ≤ _; rw [htl]; omega, ?_, HBd⟩
                show RowP _ _ _ _ _ _
                rw [htl, List.take_append_drop]
                exact HRd.out
              case round =>
                obtain ⟨i, A, hi2, rfl, rfl, rfl, HA, HAL, HR2, HB2⟩ := hrel
                have HRL : Hid ((A ++ m.drop A.length).length = m.length) := by have := HAL.out; show _ = _; rw [List.length_append, List.length_drop]; omega
                by_cases hlt2 : i + 1 < L2
                · obtain ⟨o, ho⟩ := some_atP (show k + 1 + i < m.length by omega)
                  obtain ⟨p, hp⟩ := some_atP (show k + 1 + (i + 1) < m.length by omega)
                  obtain ⟨z, hz⟩ := some_atP (show A.length < m.length by have := HAL.out; omega)
                  have d0 := ((HR2.out.cells rfl).2 _ _ ((rest_atP (by have := HAL.out; omega)).trans ho)).1
                  have d2 := ((HR2.out.cells rfl).2 _ _ ((rest_atP (by have := HAL.out; omega)).trans hp)).1
                  have d4 := ((HR2.out.cells rfl).2 _ _ ((rest_atP (Nat.le_refl _)).trans hz)).1
                  have f4 := ((HR2.out.cells rfl).2 _ _ ((rest_atP (Nat.le_refl _)).trans hz)).2
                  have hj : (i : Int) + 1 < (L2 : Int) := by omega
                  have hj0 : (i : Int) < (L2 : Int) := by omega
                  have hj1 : (0 : Int) ≤ (i : Int) := by omega
                  have hj2 : (0 : Int) ≤ (i : Int) + 1 := by omega
                  have hv1 : IntKind.i64.wrap ((i : Int) + 1 - 1) = (i : Int) := by rw [show (i : Int) + 1 - 1 = i by omega]; exact IntWalk.i64_in _ (by omega)
                  have hv0 : IntKind.i64.wrap (i : Int) = (i : Int) := IntWalk.i64_in _ (by omega)
                  have ht2 : ((i : Int) + 1).toNat = i + 1 := by omega
                  have hA0 : (0 : Int) ≤ (A.length : Int) := by omega
                  have hA1 : (A.length : Int) < (m.length : Int) := by have := HAL.out; omega
                  have HS2 := Lib.hid (fun W => sxSame_any p o W)
                  by_cases hc2 : p = o
                  · subst hc2
                    have HN := Lib.hid (HA.out.trans (Tx.cmpn_same hp ho).symm)
                    rw [decide_eq_true rfl] at HS2
                    have HRe : Hid (RowS wr.drew B (.slice (some ⟨g, 0, none⟩) m.length cap) (A ++ m.drop A.length)) := HR2.out.below (below_drewT (Below.refl _ _) 1)
                    have HBe : Hid (Below B w wr.drew) := below_drewT HB2.out 1
                    clear ho hp hz d4 f4
                    go_upto_region 11 with fail
                    go_region_with (go_at_call 152; refine (HS2.out _).mono ?_; rintro e w4 ⟨rfl, rfl⟩)
                    all_goals
                      go_wp2
                      go_roundg (L2 - 1 - (i + 1))
                      case measure => omega
                      case rel => exact ⟨i + 1, A, by omega, by omega, rfl, by go_num, HN, by have := HAL.out; show _ ≤ _; omega, HRe, HBe⟩
                  · have HN : Hid (A ++ [p] = Tx.cmpn m (k + 1 + (i + 1) + 1)) := by show _ = _; rw [HA.out]; exact (Tx.cmpn_next hp ho hc2).symm
                    rw [decide_eq_false hc2] at HS2
                    have HRe : Hid (RowS (wr.drew.setCell ⟨g, A.length, none⟩ (.string (str p))) B (.slice (some ⟨g, 0, none⟩) m.length cap) (A ++ [p] ++ m.drop (A ++ [p]).length)) := by
                      have h : RowS wr.drew B (.slice (some ⟨g, 0, none⟩) m.length cap) (A ++ m.drop A.length) := HR2.out.below (below_drewT (Below.refl _ _) 1)
                      rw [← HRL.out] at h
                      have h2 := RowP.set h A.length p
                      rw [List.length_set, HRL.out, set_restP (by have := HAL.out; omega)] at h2
                      exact h2
                    have HBe : Hid (Below B w (wr.drew.setCell ⟨g, A.length, none⟩ (.string (str p)))) := (below_drewT HB2.out 1).setCell (p := ⟨g, A.length, none⟩) HBG.out _
                    clear ho hp hz hc2
                    go_upto_region 11 with fail
                    go_region_with (go_at_call 152; refine (HS2.out _).mono ?_; rintro e w4 ⟨rfl, rfl⟩)
                    all_goals
                      go_wp2
                      go_roundg (L2 - 1 - (i + 1))
                      case measure => omega
                      case rel => exact ⟨i + 1, A ++ [p], by omega, by omega, by rw [List.length_append]; go_num, by go_num, HN, by have := HAL.out; show _ ≤ _; rw [List.length_append, List.length_singleton]; omega, HRe, HBe⟩
                · have hj : k + 1 + (i + 1) = m.length := by omega
                  have hAm : A.length < m.length := by have := HAL.out; omega
                  have hAc : A.length < cap := Nat.lt_of_lt_of_le hAm hc1
                  have HEND : Hid (A = Tx.cmpn m m.length) := by have h := HA.out; rw [hj] at h; exact h
                  obtain ⟨S, hS⟩ : ∃ S, S = m.drop A.length := ⟨_, rfl⟩
                  have hSl : S.length = m.length - A.length := by rw [hS, List.length_drop]
                  have hR4 := HR2.out
                  have hRl := HRL.out
                  rw [← hS] at hR4 hRl
                  obtain ⟨hcl1, hcl2, _, _⟩ := hR4.cleared hRl (Builtin.zeroCells #[.string ⟨#[]⟩] (m.length - A.length)).toList (by rw [zero_lenS, hSl])
                  have HCL := Lib.hid hcl1
                  have HCB := Lib.hid (HB2.out.trans hcl2)
                  have hcl := fun (ty : TypeId) => run_clearS wr ty g A.length (m.length - A.length) (cap - A.length) (by omega) (fun j hj => by
                    obtain ⟨y, hy⟩ := some_atP (l := A ++ S) (k := A.length + j) (by rw [hRl]; omega)
                    rw [((hR4.cells rfl).2 _ y hy).1]; rfl) (fun j hj => by
                    obtain ⟨y, hy⟩ := some_atP (l := A ++ S) (k := A.length + j) (by rw [hRl]; omega)
                    exact ((hR4.cells rfl).2 _ y hy).2)
                  have hct := cutS_at g m.length cap A.length hAc (by omega)
                  have hch := cutS_head g m.length cap A.length (by omega) hc1 (by omega)
                  have hj' : ¬ (i : Int) + 1 < (L2 : Int) := by omega
                  generalize hWZ : wr.setCells g A.length (Builtin.zeroCells #[.string ⟨#[]⟩] (m.length - A.length)).toList = WZ at HCL HCB hcl
                  clear hWZ hR4 hS hSl HRL hcl1 hcl2 hRl
                  go_wp2
                  go_ret
                  exact ⟨_, rfl, by rw [← HEND.out]; exact HCL.out, HCB.out⟩
          · have HN : Hid (Tx.cmpn m (k + 1 + 1) = m.take (k + 1 + 1)) := by show _ = _; rw [Tx.cmpn_next hy hx hc, HK.out, Tx.take_snoc hy]
            rw [decide_eq_false hc] at HS
            clear hx hy hc
            go_upto_region 6 with fail
            go_region_with (go_at_call 152; refine (HS.out _).mono ?_; rintro e w4 ⟨rfl, rfl⟩)
            all_goals
              go_wp2
              go_roundg (m.length - 1 - (k + 1))
              case measure => omega
              case rel => exact ⟨k + 1, by omega, by omega, by go_num, HN, HRd, HBd⟩
        · have hkk : k + 1 = m.length := by omega
          have HQ : Hid (Tx.cmpn m m.length = m) := by
            have h := HK.out
            rw [hkk, List.take_length] at h
            exact h
          clear hkk
          go_wp2
          go_ret
          exact ⟨_, rfl, by rw [HQ.out]; exact HR.out, HB.out⟩
end Go.Proofs.YtgmneapgihakgaaGreatDoor
/- The set of some texts. -/
namespace Go.Proofs.YtgmneapgihakgaaGreatDoor
open Go.RowKit Go.Sort
open Tx (Rise At Ord above)
def srt (l : List Txt) : List Txt := l.mergeSort fun x y => decide (x ≤ y)
/-- Some texts, rising, each once. -/
def dd (l : List Txt) : List Txt := Tx.cmpn (srt l) (srt l).length
theorem srt_le (l : List Txt) : (srt l).Pairwise fun a b => slt b a = false := by
  have h := List.pairwise_mergeSort (le := fun x y : Txt => decide (x ≤ y)) (fun a b c h1 h2 => decide_eq_true (List.le_trans (of_decide_eq_true h1) (of_decide_eq_true h2))) (fun a b => by
    rcases List.le_total a b with h | h
    · rw [decide_eq_true h]; rfl
    · rw [decide_eq_true h, Bool.or_true]) l
  exact h.imp (fun {a b} h => decide_eq_false (List.not_lt.2 (of_decide_eq_true h)))
theorem srt_len (l : List Txt) : (srt l).length = l.length := List.length_mergeSort l
theorem srt_mem (l : List Txt) (z : Txt) : z ∈ srt l ↔ z ∈ l := List.mem_mergeSort
theorem dd_rise (l : List Txt) : Rise slt (dd l) := (Tx.cmpn_rise sord (srt l) (srt_le l) _ (Nat.le_refl _)).1
theorem dd_mem (l : List Txt) (z : Txt) : z ∈ dd l ↔ z ∈ l := by
  unfold dd
  rw [(Tx.cmpn_rise sord (srt l) (srt_le l) _ (Nat.le_refl _)).2, List.take_length, srt_mem]
theorem dd_len (l : List Txt) : (dd l).length ≤ l.length := by
  have := Tx.cmpn_len (srt l) (srt l).length
  exact Nat.le_trans this (Nat.le_of_eq (srt_len l))
theorem sxClone_any (v : Value) (l : List Txt) (hl : l.length ≤ 100000) (w : World) (hv : SlS w v l) :
    Calls Tryz.prog 149 #[v] w fun e w' => ∃ v', e = .returned v' ∧ RowS w' w.heap.size v' l ∧ Below w.heap.size w w' := by
  obtain ⟨i0, hi, hz0, hz1, hz2⟩ := info_parts infoS
  obtain ⟨a, b, o, c, rfl, ha, hx⟩ := hv
  cases a with
  | none =>
    have hl0 : l = [] := ha.resolve_right (fun h => by cases h)
    subst hl0
    exact (Tryz.slices_Clone_nil _ c w).mono fun e w' h => ⟨_, h.1, by rw [h.2]; exact ⟨RowP.nil _ _ _ _, Below.refl _ _⟩⟩
  | some ad =>
    have HX := Lib.hid hx
    have HA := Lib.hid ha
    have q22 : ∀ (w : World) (a : Option Addr) (n c n' c' : Nat), (binOp .eql 52 (.slice a n c) (.slice none n' c')).run Tryz.prog w = .ok (.bool a.isNone) w := fun w a n c n' c' => Lib.run_eql_slice_nil w _ _ a n c n' c' Tryz.underlying52
    clear ha hx
    go_enter Tryz.func149, Tryz.ntmps149
    go_wp2_with (at_builtin; refine wpList_append_own _ rfl _ _ 52 rfl w.heap.size 9 i0 _ 1 16 Tryz.underlying52 hi hz0 hz1 hz2 rfl (by decide) _ _ _ rfl (World.ownsRow_made w #[] 0 (Nat.le_refl _) (Nat.zero_le _) rfl) ad l.length c (l.map eS) rfl ?p0 ?p1 ?p2 ?p3 ?p4 ?p5 ?_)
    case p0 => simp
    case p1 =>
      intro j u hj
      rcases HA.out with h | h
      · subst h; simp at hj
      · cases h
        rw [List.getElem?_map] at hj
        cases hy : l[j]? with
        | none => rw [hy] at hj; cases hj
        | some y =>
          rw [hy] at hj
          cases hj
          rw [show (⟨b, o, none⟩ : Addr).add j = ⟨b, o + j, none⟩ by unfold Addr.add; split <;> simp_all]
          exact ((Below.refl w.heap.size w).alloc (Nat.le_refl _) _).cell (p := ⟨b, o + j, none⟩) (World.block_lt_of_cell? _ _ (HX.out j y hy)) |>.trans (HX.out j y hy)
    case p2 =>
      intro u hu
      obtain ⟨y, _, rfl⟩ := List.mem_map.1 hu
      rfl
    case p3 => unfold maxLen; omega
    case p4 => omega
    case p5 => simp
    intro v' w1 hown hgrow _
    go_wp2
    go_ret
    refine ⟨v', rfl, ?_, ((Below.refl _ w).alloc (Nat.le_refl _) _).grown hgrow (by simp) (by intro k hk; simp [Value.ownBlock] at hk; omega)⟩
    show w1.ownsRow _ _ _ _ _ _
    simpa using hown
theorem sxSort_any (v : Value) (l : List Txt) (hl : l.length ≤ 100000) (B : Nat) (w : World) (hr : RowS w B v l) :
    Calls Tryz.prog 150 #[v] w fun e w' => e = .returned (.tuple #[]) ∧ RowS w' B v (srt l) ∧ Below B w w' := by
  rcases hr.open with ⟨rfl, rfl⟩ | ⟨g, cap, cur, rfl, hB, hg, _⟩
  · exact (Any.slices_Sort_string_none Tryz.lays190 none 0 w).mono fun e w' h => ⟨h.1, by rw [h.2, show srt [] = [] from List.mergeSort_nil]; exact hr, by rw [h.2]; exact Below.refl _ _⟩
  · refine (Tryz.slices_Sort_string g 0 cap l w (hr.holds rfl) (Array.getElem?_eq_some_iff.1 hg).1 (by omega)).mono ?_
    rintro e w' ⟨he, n, os, hw⟩
    have h := RowP.put (n := n) (os := os) hr (srt l) l.length (srt_len l) (Nat.le_of_eq (srt_len l).symm)
    have hw' : w' = grow (putRow eS (Sort.ahead w n) g 0 (srt l).toArray) os := hw
    rw [hw']
    rw [List.take_of_length_le (Nat.le_of_eq (srt_len l))] at h
    exact ⟨he, h.1, h.2⟩
theorem sxOf_any (v : Value) (l : List Txt) (hl : l.length ≤ 90000) (w : World) (hv : SlS w v l) :
    Calls Tryz.prog 60 #[v] w fun e w' => ∃ p v', e = .returned (.pointer (some ⟨p, 0, none⟩)) ∧ w.heap.size ≤ p ∧ SetT w' p w.heap.size v' (dd l) ∧ Below w.heap.size w w' := by
  have HC := Lib.hid (sxClone_any v l (by omega) w hv)
  have HL := Lib.hid (srt_len l)
  have hll := hl
  obtain ⟨a, c, rfl⟩ := hv.slice
  clear hv
  go_enter Tryz.func60, Tryz.ntmps60
  go_wp2_with (first
    | (go_at_call 149; refine HC.out.mono ?_; rintro e w1 ⟨v1, rfl, hr1, hb1⟩; have HR1 := Lib.hid hr1; have HB1 := Lib.hid hb1; obtain ⟨a1, c1, rfl⟩ := hr1.slice; clear hr1 hb1)
    | (go_at_call 150; refine (sxSort_any _ l (by omega) _ _ HR1.out).mono ?_; rintro e w2 ⟨rfl, hr2, hb2⟩; have HR2 := Lib.hid hr2; have HB2 := Lib.hid hb2; clear hr2 hb2)
    | (go_at_call 151; refine (sxCptF_any _ (srt l) (by have := HL.out; omega) w.heap.size _ (Nat.le_trans HB1.out.size HB2.out.size) HR2.out).mono ?_; rintro e w3 ⟨v3, rfl, hr3, hb3⟩; have HR3 := Lib.hid hr3; have HB3 := Lib.hid hb3; obtain ⟨a3, c3, rfl⟩ := hr3.slice; clear hr3 hb3))
  go_ret
  have hb : Below w.heap.size w w3 := HB1.out.trans (HB2.out.trans HB3.out)
  refine ⟨w3.heap.size, _, rfl, hb.size, ⟨World.cell?_alloc_new w3 _ _ 0, World.frozen?_alloc_new w3 _ _ 0, HR3.out.below ((Below.refl _ _).alloc (Nat.le_refl _) _), dd_rise l, fun e => ?_⟩, hb.alloc hb.size _⟩
  have := (HR3.out.lt e).1
  exact absurd this (Nat.lt_irrefl _)
end Go.Proofs.YtgmneapgihakgaaGreatDoor
/- Rows one by one: slices.Values of texts; a set's texts, each sought anew. -/
namespace Go.Proofs.YtgmneapgihakgaaGreatDoor
open Go.RowKit Go.Sort
open Tx (Rise At Ord above)
attribute [local go_sem] Oper.semAt_some
abbrev WF : Fence := Fence.wide
/-- What goes through a row of texts, each of which a round takes; what the rounds keep. -/
def SeqG (n : Nat) (g : Nat) (lb : Array Value) (G : List Txt → World → Prop) (E : List Txt) : Prop :=
  ∀ (l : Nat) (J : List Txt → World → Prop) (W : World), (∀ pre W, J pre W → G pre W) → (∀ pre W q, J pre W → J pre (W.drewN q)) →
    (∀ pre x W, J pre W → pre.length < E.length → YieldAt WF (n - 1) Tryz.prog l #[.string (str x)] W fun e W' => e = .returned (.bool true) ∧ J (pre ++ [x]) W') → J [] W →
    CallsIn WF n Tryz.prog g (#[.func (.yield l) #[] #[]] ++ lb) W fun e W' => (∃ v, e = .returned v) ∧ J E W'
/-- The two that a set's row asks. -/
structure Asks (W : World) (p b1 b2 : Nat) : Prop where
  c1 : W.cell? ⟨b1, 0, none⟩ = some (.func (.func 183) #[.pointer (some ⟨p, 0, none⟩)] #[])
  c2 : W.cell? ⟨b2, 0, none⟩ = some (.func (.func 184) #[.pointer (some ⟨p, 0, none⟩)] #[])
set_option maxHeartbeats 4000000 in
/-- The row of a set that may be another between two of its texts. -/
theorem row1_in (n : Nat) (hn : 1 ≤ n) (p b1 b2 : Nat) (E : List Txt) (st : Nat → List Txt) (hst : ∀ j, (st j).length ≤ 100000) (hE0 : fst (st 0) = fst E) (hE : ∀ j x t, E.drop j = x :: t → fst (above slt (st (j + 1)) x) = fst t)
    : SeqG n 251 #[.pointer (some ⟨b1, 0, none⟩), .pointer (some ⟨b2, 0, none⟩)] (fun pre W => (∃ B v, SetT W p B v (st pre.length)) ∧ Asks W p b1 b2) E := by
  intro l J W hG hJq hY h0
  refine callsIn_of_wp Tryz.func251 rfl trivial ?_ rfl
  simp only [Tryz.ntmps251, List.size_toArray, List.length_cons, List.length_nil, Nat.reduceAdd, Nat.reduceSub, Array.replicate_succ, Array.replicate_zero, List.push_toArray, List.append_toArray, List.nil_append, List.cons_append]
  have HG0 := Lib.hid (hG _ _ h0)
  obtain ⟨⟨B0, v0, hS0⟩, c1, c2⟩ := HG0.out
  have HL := Lib.hid (sxLeast_any hS0)
  rw [show (st ([] : List Txt).length) = st 0 from rfl, hE0] at HL
  clear hS0
  gi_wp2_with (refine ⟨trivial, ?_⟩; gi_at_call 183; refine (callsIn_wide.2 HL.out).mono ?_; rintro e w1 ⟨rfl, rfl⟩)
  gi_loopg [4, 5] E.length (fun k s4 s5 wr => ∃ pre rest, Hid (E = pre ++ rest) ∧ k = rest.length ∧ s4 = .string (str (fst rest).1) ∧ s5 = .bool (fst rest).2 ∧ Hid (J pre wr))
  case atStart => exact ⟨[], E, rfl, rfl, rfl, rfl, h0⟩
  case round =>
    obtain ⟨pre, rest, HPR, rfl, rfl, rfl, hJs⟩ := hrel
    cases rest with
    | nil =>
      have hfin : Hid (J E wr) := by have := HPR.out; rw [List.append_nil] at this; rw [this]; exact hJs
      have hf : (fst []).2 = false := rfl
      gi_wp2
      go_end0
      exact ⟨⟨_, rfl⟩, hfin.out⟩
    | cons x t =>
      have hf : (fst (x :: t)).2 = true := rfl
      have hf1 : (fst (x :: t)).1 = x := rfl
      rw [hf, hf1]
      obtain ⟨fn, tmps, assign, body, hy, hR⟩ := hY pre x wr hJs.out (by rw [HPR.out]; simp)
      have HN : Hid (fst (above slt (st (pre ++ [x]).length) x) = fst t) := by
        have := hE pre.length x t (by rw [HPR.out, List.drop_left])
        show _ = _
        rw [List.length_append]
        exact this
      gi_wp2
      refine hR.mono ?_
      rintro e W3 ⟨rfl, hJ3⟩
      have HG3 := Lib.hid (hG _ _ hJ3)
      have HJ3 := Lib.hid hJ3
      obtain ⟨⟨B3, v3, hS3⟩, c31, c32⟩ := HG3.out
      have HA := Lib.hid (sxAbove_any hS3 (hst _) x)
      rw [HN.out] at HA
      clear hS3 hJ3
      gi_wp2_with (refine ⟨trivial, ?_⟩; gi_at_call 184; refine (callsIn_wide.2 HA.out).mono ?_; rintro e w4 ⟨rfl, q, rfl⟩)
      go_roundg t.length
      case rel => exact ⟨pre ++ [x], t, by show _ = _; rw [HPR.out]; simp, rfl, rfl, rfl, hJq _ _ _ HJ3.out⟩
      case measure => simp
/-- How a round's body may be left: it goes on. -/
def goesOn (B : Nat) (I : List Txt → World → Prop) (xs : List Txt) (W : World) : Exit → Act → World → Prop
  | .normal, _, W' => KeepsFrom B W W' ∧ I xs W'
  | _, _, _ => False
/-- A range over a row of texts whose body never leaves, and may turn what the row is read from, so long as it keeps what the row asks. -/
theorem rangeG {n : Nat} {g : Operand} {ps : Array Tmp} {assign body : Code} {Q : Exit → Act → World → Prop} {a : Act} {w : World} (h1 : 1 ≤ n) {gf : Nat} {lb : Array Value}
    (hg : a.eval g = .func (.func gf) #[] lb) (eg : ∀ args w, (callFunc gf args).run Tryz.prog w = .ok (.enter gf args) w) {G : List Txt → World → Prop} {E : List Txt} (hseq : SeqG (n - 1) gf lb G E) (hps : 1 = ps.size)
    (I : List Txt → World → Prop) (hI : OwnFrom w.heap.size I) (hIG : ∀ pre W, I pre W → G pre W) (hIq : ∀ pre W q, I pre W → I pre (W.drewN q)) (h0 : I [] w) (a₁ : Txt → Act)
    (hassign : ∀ (l : Nat) (x : Txt) (W : World) (K : Act → World → Prop), K (a₁ x) W →
      assign.wpIn (WF.inRound l) (n - 1 - 1) Tryz.prog (Exit.then K (fun _ _ _ => False)) { tmps := (ps.zip #[.string (str x)]).foldl (fun t (p, v) => t.setIfInBounds p v) a.tmps, defers := [] } W)
    (hbody : ∀ (l : Nat) (pre : List Txt) (x : Txt) (W : World), I pre W → pre.length < E.length → body.wpIn (WF.inRound l) (n - 1 - 1) Tryz.prog (goesOn w.heap.size I (pre ++ [x]) W) (a₁ x) W)
    (hdone : ∀ (D : Nat) (W : World), w.heap.size ≤ D → I E W → W.heap[D]? = some (.deferred (some [])) → Q .normal { a with defers := { target := .collected D, args := #[] } :: a.defers } W) :
    (Code.rangeFunc g ps assign body).wpIn WF n Tryz.prog Q a w := by
  refine wpIn_rangeFunc (fun fn hfn => ?_)
  rw [show WF.round = none from rfl]
  obtain ⟨lp, hlp⟩ : ∃ lp : LoopState → Loop, lp = fun st => { state := st, pending := none, fn, tmps := a.tmps, params := ps, assign, body, defers := w.heap.size } := ⟨_, rfl⟩
  obtain ⟨X, hX⟩ : ∃ X, X = (w.alloc (.deferred (some []))).alloc (.loop (lp .ready)) := ⟨_, rfl⟩
  have xl : X.heap[w.heap.size + 1]? = some (.loop (lp .ready)) := by
    rw [hX]; have := heap_alloc_new (w.alloc (.deferred (some []))) (.loop (lp .ready)); rwa [World.size_alloc] at this
  have xd : X.heap[w.heap.size]? = some (.deferred (some [])) := by
    rw [hX]; exact (Below.heap_alloc _ _ _ (by simp)).trans (heap_alloc_new w _)
  have xs : w.heap.size ≤ X.heap.size := by rw [hX]; simp; omega
  have xi : I [] X := by rw [hX]; exact hI.alloc _ (hI.alloc _ h0)
  refine ⟨w.heap.size + 1, [{ target := .collected w.heap.size, args := #[] }], X, { target := .fn (.func gf) lb, args := #[.func (.yield (w.heap.size + 1)) #[] #[]] }, X, gf, #[.func (.yield (w.heap.size + 1)) #[] #[]] ++ lb, X, ?_, ?_, fun _ _ => trivial, ?_, fun _ => h1, ?_⟩
  · rw [hX, hlp]; exact run_enterLoop_outer _ _ _ _ _
  · simp only [resolve, hg]
    simp [go_sem]
  · simp [invoke, go_sem, eg]
  · refine (hseq (w.heap.size + 1) (fun pre W => I pre W ∧ W.heap[w.heap.size + 1]? = some (.loop (lp .ready)) ∧ W.heap[w.heap.size]? = some (.deferred (some []))) X (fun pre W h => hIG pre W h.1) (fun pre W q h => ⟨hIq pre W q h.1, h.2⟩) ?_ ⟨xi, xl, xd⟩).mono ?_
    · rintro pre x W ⟨hi, hl, hk⟩ hlen
      have hlt : w.heap.size + 1 < W.heap.size := (Array.getElem?_eq_some_iff.1 hl).1
      have hy := run_yield (P := Tryz.prog) (args := #[.string (str x)]) hl (by rw [hlp]; exact hps)
      rw [hlp] at hy
      refine ⟨fn, _, assign, body, hy, roundIn_of_wpIn hfn (hassign _ x W _ ⟨_, run_beginRound hl (by rw [hlp]), ?_⟩)⟩
      obtain ⟨W2, hW2⟩ : ∃ W2, W2 = W.putObj (w.heap.size + 1) (.loop { lp .ready with state := .busy }) := ⟨_, rfl⟩
      have hl2 : W2.heap[w.heap.size + 1]? = some (.loop { lp .ready with state := .busy }) := by rw [hW2]; exact World.putObj_heap_same hlt
      have hk2 : W2.heap[w.heap.size]? = some (.deferred (some [])) := by rw [hW2]; exact (World.putObj_heap_other (by omega)).trans hk
      have hi2 : I pre W2 := by rw [hW2]; exact hI.putObj _ hi (by omega) hl rfl
      rw [← hW2]
      refine wpIn_mono (hbody _ pre x W2 hi2 hlen) ?_
      rintro e a3 W3 hp
      cases e with
      | normal =>
        obtain ⟨hk3, hi3⟩ := hp
        have hl3 := hk3.same _ _ (by omega) hl2 rfl
        have he := run_endRound (P := Tryz.prog) none hl3
        rw [hlp] at he hl3
        refine ⟨_, _, he, rfl, hI.putObj _ hi3 (by omega) hl3 rfl, ?_, (World.putObj_heap_other (by omega)).trans (hk3.same _ _ (Nat.le_refl _) hk2 rfl)⟩
        rw [hlp]; exact World.putObj_heap_same (Array.getElem?_eq_some_iff.1 hl3).1
      | _ => exact hp.elim
    · rintro e W2 ⟨⟨v, rfl⟩, hi, hl, hk⟩
      exact ⟨none, _, by have := run_endLoop (P := Tryz.prog) hl (by rw [hlp]; simp); rw [hlp] at this; exact this, hdone _ _ (Nat.le_refl _) (hI.putObj _ hi (by omega) hl rfl) ((World.putObj_heap_other (by omega)).trans hk)⟩
end Go.Proofs.YtgmneapgihakgaaGreatDoor
