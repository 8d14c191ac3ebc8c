/- Texts of one seat, merged. -/
import Derived.Test.YtgmneapgihakgaaGreatDoorZ05
import Derived.Laws.OwnMore
import Derived.Lib.SlicesCompact
import Derived.Test.YtgmneapgihakgaaGreatDoorZ01
import Derived.Sort.Walk0
import Derived.Deep.DeepCutAuto
import Derived.Test.YtgmneapgihakgaaGreatDoorZ04
import Derived.Defers
import Derived.Recover
import Derived.Test.YtgmneapgihakgaaGreatDoorZ03
import Derived.Deep.LoopGhost
import Derived.BigQuiet
import Derived.Deep.QuietTactic
set_option maxRecDepth 100000
set_option maxHeartbeats 4000000
set_option linter.unusedVariables false
/- Each once, of a sorted row. -/
namespace Go.Proofs.YtgmneapgihakgaaGreatDoor.Tx
variable {α : Type} [DecidableEq α]
def cmpn (l : List α) : Nat → List α
  | 0 => []
  | 1 => l.take 1
  | j + 2 => if l[j + 1]? = l[j]? then cmpn l (j + 1) else cmpn l (j + 1) ++ (l[j + 1]?).toList
theorem take_snoc {α : Type} {l : List α} {k : Nat} {y : α} (h : l[k]? = some y) : l.take (k + 1) = l.take k ++ [y] := by rw [List.take_add_one, h]; rfl
theorem cmpn_same {l : List α} {j : Nat} {x : α} (h : l[j + 1]? = some x) (h2 : l[j]? = some x) : cmpn l (j + 2) = cmpn l (j + 1) := by
  rw [cmpn, if_pos (by rw [h, h2])]
theorem cmpn_next {l : List α} {j : Nat} {x y : α} (h : l[j + 1]? = some x) (h2 : l[j]? = some y) (hn : x ≠ y) : cmpn l (j + 2) = cmpn l (j + 1) ++ [x] := by
  rw [cmpn, if_neg (by rw [h, h2]; simpa using hn), h]; rfl
theorem cmpn_len (l : List α) : ∀ j, (cmpn l j).length ≤ j
  | 0 => Nat.le_refl _
  | 1 => by unfold cmpn; rw [List.length_take]; omega
  | j + 2 => by
    unfold cmpn
    have := cmpn_len l (j + 1)
    split
    · omega
    · rw [List.length_append]
      cases l[j + 1]? <;> simp <;> omega
theorem cmpn_rise {lt : α → α → Bool} (O : Ord lt) (l : List α) (hs : l.Pairwise fun a b => lt b a = false) : ∀ j, j ≤ l.length → Rise lt (cmpn l j) ∧ ∀ z, z ∈ cmpn l j ↔ z ∈ l.take j
  | 0, _ => ⟨List.Pairwise.nil, fun z => by simp [cmpn]⟩
  | 1, h => by
    refine ⟨?_, fun z => Iff.rfl⟩
    unfold cmpn
    match l, h with
    | x :: t, _ => simp
  | j + 2, h => by
    obtain ⟨h1, h2⟩ := cmpn_rise O l hs (j + 1) (by omega)
    have e1 : l[j + 1]? = some l[j + 1] := List.getElem?_eq_getElem (by omega)
    have e0 : l[j]? = some l[j] := List.getElem?_eq_getElem (by omega)
    have hge : ∀ i z, i < j + 1 → l[i]? = some z → lt l[j + 1] z = false := fun i z hi hz => by
      have := List.pairwise_iff_getElem.1 hs i (j + 1) (by omega) (by omega) (by omega)
      rw [(List.getElem?_eq_some_iff.1 hz).2] at this
      exact this
    have hge0 : ∀ i z, i < j → l[i]? = some z → lt l[j] z = false := fun i z hi hz => by
      have := List.pairwise_iff_getElem.1 hs i j (by omega) (by omega) (by omega)
      rw [(List.getElem?_eq_some_iff.1 hz).2] at this
      exact this
    generalize l[j + 1] = x at e1 hge
    generalize l[j] = y at e0 hge0
    have hm : ∀ z, z ∈ l.take (j + 2) ↔ z ∈ l.take (j + 1) ∨ z = x := fun z => by rw [take_snoc e1]; simp
    by_cases hxy : x = y
    · subst hxy
      rw [cmpn_same e1 e0]
      refine ⟨h1, fun z => ?_⟩
      rw [h2, hm]
      constructor
      · exact .inl
      · rintro (h | rfl)
        · exact h
        · rw [take_snoc e0]; simp
    · rw [cmpn_next e1 e0 hxy]
      have hyx : lt y x = true := by
        cases hq : lt y x with
        | true => rfl
        | false => exact absurd (O.tri (hge j y (by omega) e0) hq) hxy
      have hle : ∀ z, z ∈ l.take (j + 1) → lt z x = true := by
        intro z hz
        rw [take_snoc e0] at hz
        rcases List.mem_append.1 hz with hz | hz
        · obtain ⟨i, hi⟩ := List.getElem?_of_mem hz
          have hij : i < j := by
            have := (List.getElem?_eq_some_iff.1 hi).1
            rw [List.length_take] at this; omega
          rw [List.getElem?_take_of_lt hij] at hi
          have hyz := hge0 i z hij hi
          cases hzy : lt z y with
          | true => exact O.tr hzy hyx
          | false => rw [← O.tri hyz hzy]; exact hyx
        · simp at hz; subst hz; exact hyx
      refine ⟨?_, fun z => ?_⟩
      · refine List.pairwise_append.2 ⟨h1, by simp, fun a ha b hb => ?_⟩
        simp at hb; subst hb
        exact hle a ((h2 a).1 ha)
      · rw [List.mem_append, h2, hm]; simp
end Go.Proofs.YtgmneapgihakgaaGreatDoor.Tx
namespace Go.Proofs.YtgmneapgihakgaaGreatDoor
open Go.RowKit Go.Sort
variable {α : Type} {enc : α → Value} {t : TypeId} {w w' : World} {B B' : Nat} {v : Value} {l : List α}
theorem some_atP {α : Type} {l : List α} {k : Nat} (h : k < l.length) : ∃ x, l[k]? = some x := ⟨l[k], List.getElem?_eq_getElem h⟩
theorem RowP.set {g c : Nat} (h : RowP enc t w B (.slice (some ⟨g, 0, none⟩) l.length c) l) (i : Nat) (x : α) : RowP enc t (w.setCell ⟨g, i, none⟩ (enc x)) B (.slice (some ⟨g, 0, none⟩) (l.set i x).length c) (l.set i x) := by
  have h' : w.ownsRow B t 1 (.slice (some ⟨g, 0, none⟩) l.length c) l.length (l.map enc) := h
  have := (h'.stored i (enc x)).1
  show World.ownsRow _ _ _ _ _ _ _
  rw [List.length_set, List.map_set]
  exact this
theorem rest_atP {α : Type} {A m : List α} {t : Nat} (h : A.length ≤ t) : (A ++ m.drop A.length)[t]? = m[t]? := by
  rw [List.getElem?_append_right h, List.getElem?_drop]
  congr 1
  omega
theorem set_restP {α : Type} {A m : List α} {x : α} (h : A.length < m.length) : (A ++ m.drop A.length).set A.length x = (A ++ [x]) ++ m.drop (A ++ [x]).length := by
  rw [List.set_append_right _ _ (Nat.le_refl _), Nat.sub_self, List.drop_eq_getElem_cons h, List.set_cons_zero]
  simp
/-- What is behind a place is cleared; what stands ahead of it stays. -/
theorem RowP.cleared {g c n : Nat} {A S : List α} (h : RowP enc t w B (.slice (some ⟨g, 0, none⟩) n c) (A ++ S)) (hn : (A ++ S).length = n) (vs : List Value) (hvs : vs.length = S.length) :
    RowP enc t (w.setCells g A.length vs) B (.slice (some ⟨g, 0, none⟩) A.length c) A ∧ Below B w (w.setCells g A.length vs) ∧ (∀ k, k ≠ g → (w.setCells g A.length vs).heap[k]? = w.heap[k]?) ∧ w.heap.size ≤ (w.setCells g A.length vs).heap.size := by
  rcases h.open with ⟨h0, _⟩ | ⟨g', cap', cur, hv, hB, hb, hc1, hc2, hc3, hc4⟩
  · cases h0
  · cases hv
    have hl : (A ++ S).length = A.length + S.length := List.length_append
    have hsz : A.length + vs.length ≤ cur.size := by omega
    rw [setCells_row g t _ _ cur w hb hsz]
    have hg := setRow_heap w g cur (cur.toList.take A.length ++ vs ++ cur.toList.drop (A.length + vs.length)).toArray t _ hb
    refine ⟨.mk hB hg (by omega) hc2 ?_ ?_, below_setRow (Below.refl _ _) hB _, fun k hk => setRow_other w g k _ hk, by simp [World.setRow]⟩
    · have h9 : cur.toList.length = cur.size := Array.length_toList
      simp only [List.size_toArray, List.length_append, List.length_take, List.length_drop]
      omega
    · have h9 : cur.toList.length = cur.size := Array.length_toList
      show List.take A.length (cur.toList.take A.length ++ vs ++ cur.toList.drop (A.length + vs.length)) = _
      rw [List.append_assoc, List.take_append_of_le_length (by rw [List.length_take]; omega), List.take_take, Nat.min_self]
      have := congrArg (List.take A.length) hc4
      rw [List.take_take, Nat.min_eq_left (by omega), List.map_append, List.take_append_of_le_length (by simp)] at this
      rw [this]
      exact List.take_of_length_le (by simp)
end Go.Proofs.YtgmneapgihakgaaGreatDoor
/- A set of texts: its box; where a text stands in it, how many, what stands at a place, above a text. -/
namespace Go.Proofs.YtgmneapgihakgaaGreatDoor
open Go.RowKit Go.Sort
open Tx (Rise At Ord above)
abbrev Txt := List UInt8
abbrev eS : Txt → Value := fun l => .string (str l)
def slt (x y : Txt) : Bool := decide (x < y)
theorem sord : Ord slt where
  irr x := decide_eq_false (List.lt_irrefl x)
  tr h1 h2 := decide_eq_true (List.lt_trans (of_decide_eq_true h1) (of_decide_eq_true h2))
  tri h1 h2 := List.le_antisymm (List.not_lt.1 (of_decide_eq_false h2)) (List.not_lt.1 (of_decide_eq_false h1))
theorem infoS : (Tryz.prog.info? 9).map (fun i => (i.zero, i.size, i.bytes)) = some (some (.string ⟨#[]⟩), 1, 16) := by kernel_rfl
abbrev SlS := @SlP Txt eS
abbrev RowS := @RowP Txt eS 9
theorem sxBin_any (v : Value) (l : List Txt) (hl : l.length ≤ 100000) (x : Txt) (w : World) (hv : SlS w v l) (hr : Rise slt l) :
    Calls Tryz.prog 248 #[v, .string (str x)] w fun e w' => ∃ p, e = .returned (.tuple #[.int .i64 (p : Nat), .bool (decide (l[p]? = some x))]) ∧ At slt l x p ∧ ∃ q, w' = w.drewN q := by
  obtain ⟨a, b, o, c, rfl, ha, hx⟩ := hv
  rcases ha with rfl | rfl
  · exact (Any2.slices_BinarySearch_string_empty Tryz.lays226 a c (str x) w).mono fun e w' ⟨he, hw⟩ =>
      ⟨0, by rw [he]; rfl, ⟨Nat.le_refl _, fun m y h => absurd h (Nat.not_lt_zero m), fun m y _ h => by simp at h⟩, 0, by rw [hw]; rfl⟩
  · have hk : ∃ k, At slt l x k := by
      refine ⟨(l.filter (fun y => slt y x)).length, ?_⟩
      clear hx hl
      induction l with
      | nil => exact ⟨by simp, fun m y h => by simp at h, fun m y _ h => by simp at h⟩
      | cons y t ih =>
        have hr' := List.pairwise_cons.1 hr
        have i := ih hr'.2
        rw [List.filter_cons]
        by_cases hy : slt y x = true
        · rw [if_pos hy]
          refine ⟨by have := i.le; simp only [List.length_cons]; omega, fun m z hm hz => ?_, fun m z hm hz => ?_⟩
          · cases m with
            | zero => simp at hz; subst hz; exact hy
            | succ m => exact i.low m z (by simp only [List.length_cons] at hm; omega) (by simpa using hz)
          · cases m with
            | zero => simp only [List.length_cons] at hm; omega
            | succ m => exact i.high m z (by simp only [List.length_cons] at hm; omega) (by simpa using hz)
        · have hy' : slt y x = false := by simpa using hy
          rw [if_neg hy]
          have h0 : ∀ z ∈ t, slt z x = false := fun z hz => by
            cases hzx : slt z x with
            | false => rfl
            | true => rw [sord.tr (hr'.1 z hz) hzx] at hy'; cases hy'
          have hn : t.filter (fun y => slt y x) = [] := List.filter_eq_nil_iff.2 (fun z hz => by rw [h0 z hz]; simp)
          rw [hn]
          refine ⟨by simp, fun m z hm => by simp at hm, fun m z _ hz => ?_⟩
          rcases List.mem_cons.1 (List.mem_of_getElem? hz) with rfl | h
          · exact hy'
          · exact h0 z h
    obtain ⟨k, hk⟩ := hk
    have hS : ∀ j, j < l.length → w.cell? ⟨b, o + j, none⟩ = some (.string (str (l.getD j x))) := fun j hj => by
      have := hx j l[j] (List.getElem?_eq_getElem hj)
      rw [this]
      simp [hj]
    have hd : ∀ t : Txt, (str t).toList = t := fun t => by simp [str, ByteArray.toList_eq]
    have hb : Lib.bsGo (fun t => Op.bytesLess (str (l.getD t x)).toList (str x).toList) l.length 0 l.length = k := by
      refine Lib.bsGo_spec _ k (fun t ht => ?_) (fun t ht => ?_) _ _ _ (Nat.le_refl _) (Nat.zero_le _) hk.le
      · have hl := hk.le
        have := hk.low t l[t] ht (List.getElem?_eq_getElem (by omega))
        simp only [hd, bytesLess_eq]
        rw [show l.getD t x = l[t] by simp [show t < l.length by omega]]
        exact this
      · simp only [hd, bytesLess_eq]
        by_cases htl : t < l.length
        · have := hk.high t l[t] ht (List.getElem?_eq_getElem htl)
          rw [show l.getD t x = l[t] by simp [htl]]
          exact this
        · rw [show l.getD t x = x by simp [htl]]
          exact sord.irr x
    refine (Any2.slices_BinarySearch_string Tryz.lays226 b o l.length c (fun j => str (l.getD j x)) (str x) w (by omega) hS).mono ?_
    rintro e w' ⟨he, q, hw⟩
    rw [hb] at he
    refine ⟨k, ?_, hk, q, hw⟩
    have hdec : decide (k < l.length ∧ str (l.getD k x) = str x) = decide (l[k]? = some x) := by
      congr 1
      apply propext
      constructor
      · rintro ⟨h1, h2⟩
        have h3 : l.getD k x = x := by have := congrArg ByteArray.toList h2; simpa only [hd] using this
        rw [List.getElem?_eq_getElem h1]
        rw [show l.getD k x = l[k] by simp [h1]] at h3
        rw [h3]
      · intro h
        have h1 := (List.getElem?_eq_some_iff.1 h).1
        refine ⟨h1, ?_⟩
        rw [show l.getD k x = x by simp [h]]
    rw [he]
    simp only [hdec]
/-- A set's box: a rising row of its own. -/
structure SetT (w : World) (p B : Nat) (v : Value) (l : List Txt) : Prop where
  c0 : w.cell? ⟨p, 0, none⟩ = some v
  f0 : w.frozen? ⟨p, 0, none⟩ = false
  row : RowS w B v l
  rise : Rise slt l
  ne : v.ownBlock ≠ some p
theorem SetT.below {w w' : World} {p B : Nat} {v : Value} {l : List Txt} (h : SetT w p B v l) (hb : Below w.heap.size w w') : SetT w' p B v l := by
  have hlt := World.block_lt_of_cell? _ _ h.c0
  exact ⟨(hb.cell (p := ⟨p, 0, none⟩) hlt).trans h.c0, (hb.frozen (p := ⟨p, 0, none⟩) hlt).trans h.f0, h.row.below hb, h.rise, h.ne⟩
theorem below_drewT {B : Nat} {w w' : World} (h : Below B w w') (q : Nat) : Below B w (w'.drewN q) := ⟨h.os, h.tape, h.output, h.size, h.block⟩
theorem SetT.drewN {w : World} {p B : Nat} {v : Value} {l : List Txt} (h : SetT w p B v l) (q : Nat) : SetT (w.drewN q) p B v l := h.below (below_drewT (Below.refl _ w) q)
theorem setT_not_nil (w : World) (q : Nat) : (binOp .eql 133 (.pointer (some ⟨q, 0, none⟩)) (.pointer none)).run Tryz.prog w = .ok (.bool false) w := by kernel_rfl
theorem sxPlace_any {w : World} {p B : Nat} {v : Value} {l : List Txt} (h : SetT w p B v l) (hl : l.length ≤ 100000) (x : Txt) :
    Calls Tryz.prog 179 #[.pointer (some ⟨p, 0, none⟩), .string (str x)] w fun e w' => ∃ k, e = .returned (.tuple #[.int .i64 (k : Nat), .bool (decide (l[k]? = some x))]) ∧ At slt l x k ∧ ∃ q, w' = w.drewN q := by
  have HB := Lib.hid (sxBin_any v l hl x w h.row.sl h.rise)
  have hn := fun W => setT_not_nil W p
  have c0 := h.c0
  obtain ⟨a, c, rfl⟩ := h.row.slice
  clear h
  go_enter Tryz.func179, Tryz.ntmps179
  go_wp2_with (go_at_call 248; refine HB.out.mono ?_; rintro e w1 ⟨k, rfl, hat, q, rfl⟩; have HAT := Lib.hid hat; clear hat)
  go_ret2
  exact ⟨k, rfl, HAT.out, q, rfl⟩
theorem sxLen_any {w : World} {p B : Nat} {v : Value} {l : List Txt} (h : SetT w p B v l) :
    Calls Tryz.prog 301 #[.pointer (some ⟨p, 0, none⟩)] w fun e w' => e = .returned (.int .i64 (l.length : Nat)) ∧ w = w' := by
  have hn := fun W => setT_not_nil W p
  have c0 := h.c0
  obtain ⟨a, c, rfl⟩ := h.row.slice
  clear h
  go_enter Tryz.func301, Tryz.ntmps301
  go_wp2
  go_ret
  exact ⟨rfl, rfl⟩
/-- What stands at a place, if it is one. -/
def atS (l : List Txt) (k : Int) : Txt × Bool := if 0 ≤ k ∧ k < l.length then ((l[k.toNat]?).getD [], true) else ([], false)
theorem sxAt_any {w : World} {p B : Nat} {v : Value} {l : List Txt} (h : SetT w p B v l) (k : Int) :
    Calls Tryz.prog 252 #[.pointer (some ⟨p, 0, none⟩), .int .i64 k] w fun e w' => e = .returned (.tuple #[.string (str (atS l k).1), .bool (atS l k).2]) ∧ w = w' := by
  have HL := Lib.hid (sxLen_any h)
  have c0 := h.c0
  have HS := Lib.hid h.row.sl
  obtain ⟨a, c, rfl⟩ := h.row.slice
  clear h
  have HQ : Hid (atS l k = if 0 ≤ k ∧ k < l.length then ((l[k.toNat]?).getD [], true) else ([], false)) := rfl
  generalize atS l k = r at HQ ⊢
  by_cases h0 : 0 ≤ k
  · have i0 : ¬ k < 0 := by omega
    by_cases h1 : k < l.length
    · obtain ⟨n, rfl⟩ := Int.eq_ofNat_of_zero_le h0
      have hn : n < l.length := by omega
      have hy : l[n]? = some l[n] := List.getElem?_eq_getElem hn
      have hr : r = (l[n], true) := by rw [HQ.out, if_pos ⟨h0, h1⟩, Int.toNat_natCast, hy]; rfl
      subst hr
      obtain ⟨a', b, o, c', he, ha, hx⟩ := HS.out
      obtain rfl : a = a' := by cases he; rfl
      obtain rfl : a = some ⟨b, o, none⟩ := ha.resolve_left (by intro h; rw [h] at hn; cases hn)
      have d0 := hx n _ hy
      generalize l[n] = y at d0 ⊢
      have i1 : ¬ (l.length : Int) ≤ (n : Int) := by omega
      clear HQ he ha hx hy
      go_enter Tryz.func252, Tryz.ntmps252
      go_wp2_with (go_at_call 301; refine HL.out.mono ?_; rintro e w1 ⟨rfl, rfl⟩)
      go_ret2
      exact ⟨rfl, rfl⟩
    · have hr : r = ([], false) := by rw [HQ.out, if_neg (fun h => h1 h.2)]
      subst hr
      have i1 : (l.length : Int) ≤ k := by omega
      clear HQ h1
      go_enter Tryz.func252, Tryz.ntmps252
      go_wp2_with (go_at_call 301; refine HL.out.mono ?_; rintro e w1 ⟨rfl, rfl⟩)
      go_ret2
      exact ⟨rfl, rfl⟩
  · have hr : r = ([], false) := by rw [HQ.out, if_neg (fun h => h0 h.1)]
    subst hr
    have i0 : k < 0 := by omega
    clear HQ h0
    go_enter Tryz.func252, Tryz.ntmps252
    go_wp2
    go_ret2
    exact ⟨rfl, rfl⟩
/-- The first of a row, if it has one. -/
def fst (l : List Txt) : Txt × Bool := match l with | [] => ([], false) | x :: _ => (x, true)
theorem fst_drop (l : List Txt) (n : Nat) : atS l n = fst (l.drop n) := by
  unfold atS
  by_cases h : n < l.length
  · rw [if_pos ⟨by omega, by omega⟩, Int.toNat_natCast, List.drop_eq_getElem_cons h, List.getElem?_eq_getElem h]; rfl
  · rw [if_neg (by omega), List.drop_eq_nil_of_le (by omega)]; rfl
theorem sxLeast_any {w : World} {p B : Nat} {v : Value} {l : List Txt} (h : SetT w p B v l) :
    Calls Tryz.prog 183 #[.pointer (some ⟨p, 0, none⟩)] w fun e w' => e = .returned (.tuple #[.string (str (fst l).1), .bool (fst l).2]) ∧ w = w' := by
  have HA := Lib.hid (sxAt_any h 0)
  have e0 : atS l 0 = fst l := fst_drop l 0
  rw [e0] at HA
  clear h e0
  generalize fst l = r at HA ⊢
  go_enter Tryz.func183, Tryz.ntmps183
  go_wp2_with (go_at_call 252; refine HA.out.mono ?_; rintro e w1 ⟨rfl, rfl⟩)
  go_ret2
  exact ⟨rfl, rfl⟩
theorem sxAbove_any {w : World} {p B : Nat} {v : Value} {l : List Txt} (h : SetT w p B v l) (hl : l.length ≤ 100000) (x : Txt) :
    Calls Tryz.prog 184 #[.pointer (some ⟨p, 0, none⟩), .string (str x)] w fun e w' => e = .returned (.tuple #[.string (str (fst (above slt l x)).1), .bool (fst (above slt l x)).2]) ∧ ∃ q, w' = w.drewN q := by
  have HP := Lib.hid (sxPlace_any h hl x)
  have HA := Lib.hid (fun (q k : Nat) => sxAt_any (h.drewN q) k)
  have HRI := Lib.hid h.rise
  clear h
  obtain ⟨r, hr⟩ : ∃ r, r = fst (above slt l x) := ⟨_, rfl⟩
  rw [← hr]
  have HR := Lib.hid hr
  clear hr
  go_enter Tryz.func184, Tryz.ntmps184
  go_upto_region 2 with (go_at_call 179; refine HP.out.mono ?_; rintro e w1 ⟨k, rfl, hat, q, rfl⟩; have HAT := Lib.hid hat; clear hat)
  have hk := HAT.out.le
  by_cases hx : l[k]? = some x
  · rw [decide_eq_true hx]
    have HE : Hid (atS l ((k + 1 : Nat) : Int) = fst (above slt l x)) := by
      show _ = _
      rw [fst_drop, HAT.out.drop_above1 sord HRI.out hx]
    have HA2 := Lib.hid (HA.out q (k + 1))
    rw [HE.out, ← HR.out] at HA2
    clear hx HE
    go_wp2_with (go_at_call 252; refine HA2.out.mono ?_; rintro e w1 ⟨rfl, rfl⟩)
    go_ret2
    exact ⟨rfl, q, rfl⟩
  · rw [decide_eq_false hx]
    have HE : Hid (atS l (k : Int) = fst (above slt l x)) := by
      show _ = _
      rw [fst_drop, HAT.out.drop_above sord HRI.out hx]
    have HA2 := Lib.hid (HA.out q k)
    rw [HE.out, ← HR.out] at HA2
    clear hx HE
    go_wp2_with (go_at_call 252; refine HA2.out.mono ?_; rintro e w1 ⟨rfl, rfl⟩)
    go_ret2
    exact ⟨rfl, q, rfl⟩
end Go.Proofs.YtgmneapgihakgaaGreatDoor
/- The contracts of a leaf's cell: its bytes and its key by the codec's and the shape's calls, its size. -/
namespace Go.Proofs.YtgmneapgihakgaaGreatDoor
open Go.RowKit
open Sl (Cl Kd)
theorem lt3 (w : World) (o1 o2 o3 : Obj) : w.heap.size + 1 + 1 < (((w.alloc o1).alloc o2).alloc o3).heap.size := by simp
theorem size2 (w : World) (o1 o2 : Obj) : ((w.alloc o1).alloc o2).heap.size = w.heap.size + 1 + 1 := by simp
theorem cell3 (w : World) (o1 o2 : Obj) (x : Value) (T : TypeId) : (((w.alloc o1).alloc o2).alloc (.cells #[x] T)).cell? ⟨w.heap.size + 1 + 1, 0, none⟩ = some x := by
  have := World.cell?_alloc_new ((w.alloc o1).alloc o2) #[x] T 0
  rw [size2] at this
  exact this
theorem below3 (w : World) (o1 o2 o3 : Obj) : Below w.heap.size w (((w.alloc o1).alloc o2).alloc o3) :=
  below_step (below_step ((Below.refl _ _).alloc (Nat.le_refl _) _) ((Below.refl _ _).alloc (Nat.le_refl _) _)) ((Below.refl _ _).alloc (Nat.le_refl _) _)
end Go.Proofs.YtgmneapgihakgaaGreatDoor
/- Rows of a leaf's cells in memory; the contracts of Size and Sum. -/
namespace Go.Proofs.YtgmneapgihakgaaGreatDoor
open Go.RowKit
open Sl (Cl Kd)
def okC (x : Cl) : Prop := x.chain < 4294967296 ∧ x.long < 4294967296
def SlC (w : World) (v : Value) (l : List Cl) : Prop :=
  ∃ (a : Option Addr) (b o c : Nat), v = .slice a l.length c ∧ (l = [] ∨ a = some ⟨b, o, none⟩) ∧
    ∀ (j : Nat) x, l[j]? = some x → w.cell? ⟨b, o + j * 4, none⟩ = some (.string (str x.key)) ∧ w.cell? ⟨b, o + j * 4 + 1, none⟩ = some (.string (str x.val)) ∧ w.cell? ⟨b, o + j * 4 + 2, none⟩ = some (.int .u32 x.chain) ∧ w.cell? ⟨b, o + j * 4 + 3, none⟩ = some (.int .u32 x.long)
theorem SlC.below {w w' : World} {v : Value} {l : List Cl} (h : SlC w v l) (hb : Below w.heap.size w w') : SlC w' v l := by
  obtain ⟨a, b, o, c, hv, ha, hx⟩ := h
  refine ⟨a, b, o, c, hv, ha, fun j p hj => ?_⟩
  obtain ⟨h0, h1, h2, h3⟩ := hx j p hj
  have hlt := World.block_lt_of_cell? _ _ h0
  exact ⟨(hb.cell (p := ⟨b, o + j * 4, none⟩) hlt).trans h0, (hb.cell (p := ⟨b, o + j * 4 + 1, none⟩) hlt).trans h1, (hb.cell (p := ⟨b, o + j * 4 + 2, none⟩) hlt).trans h2, (hb.cell (p := ⟨b, o + j * 4 + 3, none⟩) hlt).trans h3⟩
theorem In2C.step {w w1 w2 : World} {g h : Nat} {x0 x1 x2 x3 y0 y1 y2 y3 : Value} (H : w1.cell? ⟨g, 0, none⟩ = some x0 ∧ w1.cell? ⟨g, 1, none⟩ = some x1 ∧ w1.cell? ⟨g, 2, none⟩ = some x2 ∧ w1.cell? ⟨g, 3, none⟩ = some x3 ∧ w1.cell? ⟨h, 0, none⟩ = some y0 ∧ w1.cell? ⟨h, 1, none⟩ = some y1 ∧ w1.cell? ⟨h, 2, none⟩ = some y2 ∧ w1.cell? ⟨h, 3, none⟩ = some y3 ∧ Below g w w1) (hb : Below w1.heap.size w1 w2) : w2.cell? ⟨g, 0, none⟩ = some x0 ∧ w2.cell? ⟨g, 1, none⟩ = some x1 ∧ w2.cell? ⟨g, 2, none⟩ = some x2 ∧ w2.cell? ⟨g, 3, none⟩ = some x3 ∧ w2.cell? ⟨h, 0, none⟩ = some y0 ∧ w2.cell? ⟨h, 1, none⟩ = some y1 ∧ w2.cell? ⟨h, 2, none⟩ = some y2 ∧ w2.cell? ⟨h, 3, none⟩ = some y3 ∧ Below g w w2 := by
  obtain ⟨h0, h1, h2, h3, k0, k1, k2, k3, hB⟩ := H
  have hg := World.block_lt_of_cell? _ _ h0
  have hh := World.block_lt_of_cell? _ _ k0
  exact ⟨(hb.cell (p := ⟨g, 0, none⟩) hg).trans h0, (hb.cell (p := ⟨g, 1, none⟩) hg).trans h1, (hb.cell (p := ⟨g, 2, none⟩) hg).trans h2, (hb.cell (p := ⟨g, 3, none⟩) hg).trans h3, (hb.cell (p := ⟨h, 0, none⟩) hh).trans k0, (hb.cell (p := ⟨h, 1, none⟩) hh).trans k1, (hb.cell (p := ⟨h, 2, none⟩) hh).trans k2, (hb.cell (p := ⟨h, 3, none⟩) hh).trans k3, hB.trans (hb.mono (Nat.le_of_lt hg))⟩
theorem In2C.first {w w1 : World} {x0 x1 x2 x3 y0 y1 y2 y3 : Value} {T U : TypeId} (hb : Below ((w.alloc (.cells #[x0, x1, x2, x3] T)).alloc (.cells #[y0, y1, y2, y3] U)).heap.size ((w.alloc (.cells #[x0, x1, x2, x3] T)).alloc (.cells #[y0, y1, y2, y3] U)) w1) : w1.drew.cell? ⟨w.heap.size, 0, none⟩ = some x0 ∧ w1.drew.cell? ⟨w.heap.size, 1, none⟩ = some x1 ∧ w1.drew.cell? ⟨w.heap.size, 2, none⟩ = some x2 ∧ w1.drew.cell? ⟨w.heap.size, 3, none⟩ = some x3 ∧ w1.drew.cell? ⟨w.heap.size + 1, 0, none⟩ = some y0 ∧ w1.drew.cell? ⟨w.heap.size + 1, 1, none⟩ = some y1 ∧ w1.drew.cell? ⟨w.heap.size + 1, 2, none⟩ = some y2 ∧ w1.drew.cell? ⟨w.heap.size + 1, 3, none⟩ = some y3 ∧ Below w.heap.size w w1.drew := by
  have hz := size2 w (.cells #[x0, x1, x2, x3] T) (.cells #[y0, y1, y2, y3] U)
  rw [hz] at hb
  have hB : Below w.heap.size w w1 := ((((Below.refl _ _).alloc (Nat.le_refl _) (.cells #[x0, x1, x2, x3] T)).alloc (by simp) (.cells #[y0, y1, y2, y3] U))).trans (hb.mono (by omega))
  refine ⟨?_, ?_, ?_, ?_, ?_, ?_, ?_, ?_, hB.drew⟩
  · exact (hb.cell (p := ⟨w.heap.size, 0, none⟩) (by show w.heap.size < _; omega)).trans (by simp)
  · exact (hb.cell (p := ⟨w.heap.size, 1, none⟩) (by show w.heap.size < _; omega)).trans (by simp)
  · exact (hb.cell (p := ⟨w.heap.size, 2, none⟩) (by show w.heap.size < _; omega)).trans (by simp)
  · exact (hb.cell (p := ⟨w.heap.size, 3, none⟩) (by show w.heap.size < _; omega)).trans (by simp)
  · exact (hb.cell (p := ⟨w.heap.size + 1, 0, none⟩) (by show w.heap.size + 1 < _; omega)).trans (by have := World.cell?_alloc_new (w.alloc (.cells #[x0, x1, x2, x3] T)) #[y0, y1, y2, y3] U 0; rw [show (w.alloc (.cells #[x0, x1, x2, x3] T)).heap.size = w.heap.size + 1 by simp] at this; exact this)
  · exact (hb.cell (p := ⟨w.heap.size + 1, 1, none⟩) (by show w.heap.size + 1 < _; omega)).trans (by have := World.cell?_alloc_new (w.alloc (.cells #[x0, x1, x2, x3] T)) #[y0, y1, y2, y3] U 1; rw [show (w.alloc (.cells #[x0, x1, x2, x3] T)).heap.size = w.heap.size + 1 by simp] at this; exact this)
  · exact (hb.cell (p := ⟨w.heap.size + 1, 2, none⟩) (by show w.heap.size + 1 < _; omega)).trans (by have := World.cell?_alloc_new (w.alloc (.cells #[x0, x1, x2, x3] T)) #[y0, y1, y2, y3] U 2; rw [show (w.alloc (.cells #[x0, x1, x2, x3] T)).heap.size = w.heap.size + 1 by simp] at this; exact this)
  · exact (hb.cell (p := ⟨w.heap.size + 1, 3, none⟩) (by show w.heap.size + 1 < _; omega)).trans (by have := World.cell?_alloc_new (w.alloc (.cells #[x0, x1, x2, x3] T)) #[y0, y1, y2, y3] U 3; rw [show (w.alloc (.cells #[x0, x1, x2, x3] T)).heap.size = w.heap.size + 1 by simp] at this; exact this)
theorem box4C (w : World) (x0 x1 x2 x3 : Value) (T : TypeId) : (w.alloc (.cells #[x0, x1, x2, x3] T)).cell? ⟨w.heap.size, 0, none⟩ = some x0 ∧ (w.alloc (.cells #[x0, x1, x2, x3] T)).cell? ⟨w.heap.size, 1, none⟩ = some x1 ∧ (w.alloc (.cells #[x0, x1, x2, x3] T)).cell? ⟨w.heap.size, 2, none⟩ = some x2 ∧ (w.alloc (.cells #[x0, x1, x2, x3] T)).cell? ⟨w.heap.size, 3, none⟩ = some x3 :=
  ⟨by simp, by simp, by simp, by simp⟩
theorem take_some {α : Type} (l : List α) (k : Nat) (h : k < l.length) : ∃ x, l[k]? = some x := ⟨_, List.getElem?_eq_getElem h⟩
theorem encC_le (l : List Cl) (k : Nat) (h : l.length ≤ 100000) : Sl.sum Sl.shC (l.take k) ≤ 6579600000 := by
  have h1 := Sl.sum_take Sl.shC l k
  have h2 := Sl.sum_le Sl.shC 65794 (fun x => Sl.encC_len x) l
  omega
end Go.Proofs.YtgmneapgihakgaaGreatDoor
/- Rows of a branch's cells in memory; the contracts of Size and Sum. -/
namespace Go.Proofs.YtgmneapgihakgaaGreatDoor
open Go.RowKit
open Sl (Cl Kd)
def okK (x : Kd) : Prop := x.page < 4294967296
def SlK (w : World) (v : Value) (l : List Kd) : Prop :=
  ∃ (a : Option Addr) (b o c : Nat), v = .slice a l.length c ∧ (l = [] ∨ a = some ⟨b, o, none⟩) ∧
    ∀ (j : Nat) x, l[j]? = some x → w.cell? ⟨b, o + j * 2, none⟩ = some (.string (str x.key)) ∧ w.cell? ⟨b, o + j * 2 + 1, none⟩ = some (.int .u32 x.page)
theorem SlK.below {w w' : World} {v : Value} {l : List Kd} (h : SlK w v l) (hb : Below w.heap.size w w') : SlK w' v l := by
  obtain ⟨a, b, o, c, hv, ha, hx⟩ := h
  refine ⟨a, b, o, c, hv, ha, fun j p hj => ?_⟩
  obtain ⟨h0, h1⟩ := hx j p hj
  have hlt := World.block_lt_of_cell? _ _ h0
  exact ⟨(hb.cell (p := ⟨b, o + j * 2, none⟩) hlt).trans h0, (hb.cell (p := ⟨b, o + j * 2 + 1, none⟩) hlt).trans h1⟩
theorem In2K.step {w w1 w2 : World} {g h : Nat} {x0 x1 x2 x3 y0 y1 : Value} (H : w1.cell? ⟨g, 0, none⟩ = some x0 ∧ w1.cell? ⟨g, 1, none⟩ = some x1 ∧ w1.cell? ⟨g, 2, none⟩ = some x2 ∧ w1.cell? ⟨g, 3, none⟩ = some x3 ∧ w1.cell? ⟨h, 0, none⟩ = some y0 ∧ w1.cell? ⟨h, 1, none⟩ = some y1 ∧ Below g w w1) (hb : Below w1.heap.size w1 w2) : w2.cell? ⟨g, 0, none⟩ = some x0 ∧ w2.cell? ⟨g, 1, none⟩ = some x1 ∧ w2.cell? ⟨g, 2, none⟩ = some x2 ∧ w2.cell? ⟨g, 3, none⟩ = some x3 ∧ w2.cell? ⟨h, 0, none⟩ = some y0 ∧ w2.cell? ⟨h, 1, none⟩ = some y1 ∧ Below g w w2 := by
  obtain ⟨h0, h1, h2, h3, k0, k1, hB⟩ := H
  have hg := World.block_lt_of_cell? _ _ h0
  have hh := World.block_lt_of_cell? _ _ k0
  exact ⟨(hb.cell (p := ⟨g, 0, none⟩) hg).trans h0, (hb.cell (p := ⟨g, 1, none⟩) hg).trans h1, (hb.cell (p := ⟨g, 2, none⟩) hg).trans h2, (hb.cell (p := ⟨g, 3, none⟩) hg).trans h3, (hb.cell (p := ⟨h, 0, none⟩) hh).trans k0, (hb.cell (p := ⟨h, 1, none⟩) hh).trans k1, hB.trans (hb.mono (Nat.le_of_lt hg))⟩
theorem In2K.first {w w1 : World} {x0 x1 x2 x3 y0 y1 : Value} {T U : TypeId} (hb : Below ((w.alloc (.cells #[x0, x1, x2, x3] T)).alloc (.cells #[y0, y1] U)).heap.size ((w.alloc (.cells #[x0, x1, x2, x3] T)).alloc (.cells #[y0, y1] U)) w1) : w1.drew.cell? ⟨w.heap.size, 0, none⟩ = some x0 ∧ w1.drew.cell? ⟨w.heap.size, 1, none⟩ = some x1 ∧ w1.drew.cell? ⟨w.heap.size, 2, none⟩ = some x2 ∧ w1.drew.cell? ⟨w.heap.size, 3, none⟩ = some x3 ∧ w1.drew.cell? ⟨w.heap.size + 1, 0, none⟩ = some y0 ∧ w1.drew.cell? ⟨w.heap.size + 1, 1, none⟩ = some y1 ∧ Below w.heap.size w w1.drew := by
  have hz := size2 w (.cells #[x0, x1, x2, x3] T) (.cells #[y0, y1] U)
  rw [hz] at hb
  have hB : Below w.heap.size w w1 := ((((Below.refl _ _).alloc (Nat.le_refl _) (.cells #[x0, x1, x2, x3] T)).alloc (by simp) (.cells #[y0, y1] U))).trans (hb.mono (by omega))
  refine ⟨?_, ?_, ?_, ?_, ?_, ?_, hB.drew⟩
  · exact (hb.cell (p := ⟨w.heap.size, 0, none⟩) (by show w.heap.size < _; omega)).trans (by simp)
  · exact (hb.cell (p := ⟨w.heap.size, 1, none⟩) (by show w.heap.size < _; omega)).trans (by simp)
  · exact (hb.cell (p := ⟨w.heap.size, 2, none⟩) (by show w.heap.size < _; omega)).trans (by simp)
  · exact (hb.cell (p := ⟨w.heap.size, 3, none⟩) (by show w.heap.size < _; omega)).trans (by simp)
  · exact (hb.cell (p := ⟨w.heap.size + 1, 0, none⟩) (by show w.heap.size + 1 < _; omega)).trans (by have := World.cell?_alloc_new (w.alloc (.cells #[x0, x1, x2, x3] T)) #[y0, y1] U 0; rw [show (w.alloc (.cells #[x0, x1, x2, x3] T)).heap.size = w.heap.size + 1 by simp] at this; exact this)
  · exact (hb.cell (p := ⟨w.heap.size + 1, 1, none⟩) (by show w.heap.size + 1 < _; omega)).trans (by have := World.cell?_alloc_new (w.alloc (.cells #[x0, x1, x2, x3] T)) #[y0, y1] U 1; rw [show (w.alloc (.cells #[x0, x1, x2, x3] T)).heap.size = w.heap.size + 1 by simp] at this; exact this)
theorem box4K (w : World) (x0 x1 x2 x3 : Value) (T : TypeId) : (w.alloc (.cells #[x0, x1, x2, x3] T)).cell? ⟨w.heap.size, 0, none⟩ = some x0 ∧ (w.alloc (.cells #[x0, x1, x2, x3] T)).cell? ⟨w.heap.size, 1, none⟩ = some x1 ∧ (w.alloc (.cells #[x0, x1, x2, x3] T)).cell? ⟨w.heap.size, 2, none⟩ = some x2 ∧ (w.alloc (.cells #[x0, x1, x2, x3] T)).cell? ⟨w.heap.size, 3, none⟩ = some x3 :=
  ⟨by simp, by simp, by simp, by simp⟩
theorem encK_le (l : List Kd) (k : Nat) (h : l.length ≤ 100000) : Sl.sum Sl.shK (l.take k) ≤ 6579600000 := by
  have h1 := Sl.sum_take Sl.shK l k
  have h2 := Sl.sum_le Sl.shK 65794 (fun x => Nat.le_trans (Sl.encK_len x) (by decide)) l
  omega
end Go.Proofs.YtgmneapgihakgaaGreatDoor
/- Cells that stay as they were while new memory is made. -/
namespace Go.Proofs.YtgmneapgihakgaaGreatDoor
open Go.RowKit
theorem step2 {w w1 w2 : World} {B : Nat} {p0 p1 : Addr} {x0 x1 : Value} (hB : B ≤ w.heap.size) (H : w1.cell? p0 = some x0 ∧ w1.cell? p1 = some x1 ∧ Below B w w1) (hb : Below w1.heap.size w1 w2) : w2.cell? p0 = some x0 ∧ w2.cell? p1 = some x1 ∧ Below B w w2 := by
  obtain ⟨h0, h1, hq⟩ := H
  exact ⟨(hb.cell (p := p0) (World.block_lt_of_cell? _ _ h0)).trans h0, (hb.cell (p := p1) (World.block_lt_of_cell? _ _ h1)).trans h1, hq.trans (hb.mono (Nat.le_trans hB hq.size))⟩
theorem step4 {w w1 w2 : World} {B : Nat} {p0 p1 p2 p3 : Addr} {x0 x1 x2 x3 : Value} (hB : B ≤ w.heap.size) (H : w1.cell? p0 = some x0 ∧ w1.cell? p1 = some x1 ∧ w1.cell? p2 = some x2 ∧ w1.cell? p3 = some x3 ∧ Below B w w1) (hb : Below w1.heap.size w1 w2) : w2.cell? p0 = some x0 ∧ w2.cell? p1 = some x1 ∧ w2.cell? p2 = some x2 ∧ w2.cell? p3 = some x3 ∧ Below B w w2 := by
  obtain ⟨h0, h1, h2, h3, hq⟩ := H
  exact ⟨(hb.cell (p := p0) (World.block_lt_of_cell? _ _ h0)).trans h0, (hb.cell (p := p1) (World.block_lt_of_cell? _ _ h1)).trans h1, (hb.cell (p := p2) (World.block_lt_of_cell? _ _ h2)).trans h2, (hb.cell (p := p3) (World.block_lt_of_cell? _ _ h3)).trans h3, hq.trans (hb.mono (Nat.le_trans hB hq.size))⟩
theorem step6 {w w1 w2 : World} {B : Nat} {p0 p1 p2 p3 p4 p5 : Addr} {x0 x1 x2 x3 x4 x5 : Value} (hB : B ≤ w.heap.size) (H : w1.cell? p0 = some x0 ∧ w1.cell? p1 = some x1 ∧ w1.cell? p2 = some x2 ∧ w1.cell? p3 = some x3 ∧ w1.cell? p4 = some x4 ∧ w1.cell? p5 = some x5 ∧ Below B w w1) (hb : Below w1.heap.size w1 w2) : w2.cell? p0 = some x0 ∧ w2.cell? p1 = some x1 ∧ w2.cell? p2 = some x2 ∧ w2.cell? p3 = some x3 ∧ w2.cell? p4 = some x4 ∧ w2.cell? p5 = some x5 ∧ Below B w w2 := by
  obtain ⟨h0, h1, h2, h3, h4, h5, hq⟩ := H
  exact ⟨(hb.cell (p := p0) (World.block_lt_of_cell? _ _ h0)).trans h0, (hb.cell (p := p1) (World.block_lt_of_cell? _ _ h1)).trans h1, (hb.cell (p := p2) (World.block_lt_of_cell? _ _ h2)).trans h2, (hb.cell (p := p3) (World.block_lt_of_cell? _ _ h3)).trans h3, (hb.cell (p := p4) (World.block_lt_of_cell? _ _ h4)).trans h4, (hb.cell (p := p5) (World.block_lt_of_cell? _ _ h5)).trans h5, hq.trans (hb.mono (Nat.le_trans hB hq.size))⟩
theorem step8 {w w1 w2 : World} {B : Nat} {p0 p1 p2 p3 p4 p5 p6 p7 : Addr} {x0 x1 x2 x3 x4 x5 x6 x7 : Value} (hB : B ≤ w.heap.size) (H : w1.cell? p0 = some x0 ∧ w1.cell? p1 = some x1 ∧ w1.cell? p2 = some x2 ∧ w1.cell? p3 = some x3 ∧ w1.cell? p4 = some x4 ∧ w1.cell? p5 = some x5 ∧ w1.cell? p6 = some x6 ∧ w1.cell? p7 = some x7 ∧ Below B w w1) (hb : Below w1.heap.size w1 w2) : w2.cell? p0 = some x0 ∧ w2.cell? p1 = some x1 ∧ w2.cell? p2 = some x2 ∧ w2.cell? p3 = some x3 ∧ w2.cell? p4 = some x4 ∧ w2.cell? p5 = some x5 ∧ w2.cell? p6 = some x6 ∧ w2.cell? p7 = some x7 ∧ Below B w w2 := by
  obtain ⟨h0, h1, h2, h3, h4, h5, h6, h7, hq⟩ := H
  exact ⟨(hb.cell (p := p0) (World.block_lt_of_cell? _ _ h0)).trans h0, (hb.cell (p := p1) (World.block_lt_of_cell? _ _ h1)).trans h1, (hb.cell (p := p2) (World.block_lt_of_cell? _ _ h2)).trans h2, (hb.cell (p := p3) (World.block_lt_of_cell? _ _ h3)).trans h3, (hb.cell (p := p4) (World.block_lt_of_cell? _ _ h4)).trans h4, (hb.cell (p := p5) (World.block_lt_of_cell? _ _ h5)).trans h5, (hb.cell (p := p6) (World.block_lt_of_cell? _ _ h6)).trans h6, (hb.cell (p := p7) (World.block_lt_of_cell? _ _ h7)).trans h7, hq.trans (hb.mono (Nat.le_trans hB hq.size))⟩
theorem step12 {w w1 w2 : World} {B : Nat} {p0 p1 p2 p3 p4 p5 p6 p7 p8 p9 p10 p11 : Addr} {x0 x1 x2 x3 x4 x5 x6 x7 x8 x9 x10 x11 : Value} (hB : B ≤ w.heap.size) (H : w1.cell? p0 = some x0 ∧ w1.cell? p1 = some x1 ∧ w1.cell? p2 = some x2 ∧ w1.cell? p3 = some x3 ∧ w1.cell? p4 = some x4 ∧ w1.cell? p5 = some x5 ∧ w1.cell? p6 = some x6 ∧ w1.cell? p7 = some x7 ∧ w1.cell? p8 = some x8 ∧ w1.cell? p9 = some x9 ∧ w1.cell? p10 = some x10 ∧ w1.cell? p11 = some x11 ∧ Below B w w1) (hb : Below w1.heap.size w1 w2) : w2.cell? p0 = some x0 ∧ w2.cell? p1 = some x1 ∧ w2.cell? p2 = some x2 ∧ w2.cell? p3 = some x3 ∧ w2.cell? p4 = some x4 ∧ w2.cell? p5 = some x5 ∧ w2.cell? p6 = some x6 ∧ w2.cell? p7 = some x7 ∧ w2.cell? p8 = some x8 ∧ w2.cell? p9 = some x9 ∧ w2.cell? p10 = some x10 ∧ w2.cell? p11 = some x11 ∧ Below B w w2 := by
  obtain ⟨h0, h1, h2, h3, h4, h5, h6, h7, h8, h9, h10, h11, hq⟩ := H
  exact ⟨(hb.cell (p := p0) (World.block_lt_of_cell? _ _ h0)).trans h0, (hb.cell (p := p1) (World.block_lt_of_cell? _ _ h1)).trans h1, (hb.cell (p := p2) (World.block_lt_of_cell? _ _ h2)).trans h2, (hb.cell (p := p3) (World.block_lt_of_cell? _ _ h3)).trans h3, (hb.cell (p := p4) (World.block_lt_of_cell? _ _ h4)).trans h4, (hb.cell (p := p5) (World.block_lt_of_cell? _ _ h5)).trans h5, (hb.cell (p := p6) (World.block_lt_of_cell? _ _ h6)).trans h6, (hb.cell (p := p7) (World.block_lt_of_cell? _ _ h7)).trans h7, (hb.cell (p := p8) (World.block_lt_of_cell? _ _ h8)).trans h8, (hb.cell (p := p9) (World.block_lt_of_cell? _ _ h9)).trans h9, (hb.cell (p := p10) (World.block_lt_of_cell? _ _ h10)).trans h10, (hb.cell (p := p11) (World.block_lt_of_cell? _ _ h11)).trans h11, hq.trans (hb.mono (Nat.le_trans hB hq.size))⟩
end Go.Proofs.YtgmneapgihakgaaGreatDoor
/- Plain facts of bodies of cells, for the walks of Body; nothing of the program. -/
namespace Go.Proofs.YtgmneapgihakgaaGreatDoor
namespace Sl
open Oc
variable {α : Type}
def bodyR (S : Sh α) (l : List α) : List UInt8 × Int :=
  if right S l ≠ 0 then ([], right S l) else if 4072 < sum S l then ([], 14) else (body S l, 0)
theorem bodyR_bad (S : Sh α) (l : List α) (h : right S l ≠ 0) : bodyR S l = ([], right S l) := by unfold bodyR; rw [if_pos h]
theorem bodyR_full (S : Sh α) (l : List α) (h : right S l = 0) (h2 : 4072 < sum S l) : bodyR S l = ([], 14) := by unfold bodyR; rw [if_neg (by rw [h]; decide), if_pos h2]
theorem bodyR_ok (S : Sh α) (l : List α) (h : right S l = 0) (h2 : ¬ 4072 < sum S l) : bodyR S l = (body S l, 0) := by unfold bodyR; rw [if_neg (by rw [h]; decide), if_neg h2]
theorem encC_pos (c : Cl) : 1 ≤ (encC c).length := by
  unfold encC; split <;> simp only [List.length_append, big_length, encKey_len] <;> omega
theorem encK_pos (k : Kd) : 1 ≤ (encK k).length := by
  unfold encK; simp only [List.length_append, big_length, encKey_len]; omega
theorem at_le (S : Sh α) (l : List α) (k : Nat) (h : sum S l ≤ 4072) : 2 * l.length + ((l.take k).flatMap S.enc).length ≤ 4072 := by
  have h1 := sum_eq S l
  have h2 : ((l.take k).flatMap S.enc).length ≤ (l.flatMap S.enc).length := by
    conv => rhs; rw [← List.take_append_drop k l, List.flatMap_append, List.length_append]
    omega
  omega
theorem begins_at (S : Sh α) (l : List α) (k : Nat) (x : α) (h : l[k]? = some x) (n : Nat) : begins S n (l.take (k + 1)) = begins S n (l.take k) ++ big 2 (n + ((l.take k).flatMap S.enc).length) := by
  rw [take_snoc' l k x h, begins_snoc]
theorem flat_at (S : Sh α) (l : List α) (k : Nat) (x : α) (h : l[k]? = some x) : (l.take (k + 1)).flatMap S.enc = (l.take k).flatMap S.enc ++ S.enc x := by
  rw [take_snoc' l k x h, flat_snoc]
theorem u8_irr (a : UInt8) : ¬ a < a := fun h => by rw [UInt8.lt_iff_toNat_lt] at h; omega
theorem less_self : ∀ u : List UInt8, less u u = false
  | [] => rfl
  | a :: u => by simp [less, u8_irr a, less_self u]
theorem less_asym : ∀ x y : List UInt8, less x y = true → less y x = false
  | [], [], _ => rfl
  | [], _ :: _, _ => rfl
  | _ :: _, [], h => by cases h
  | a :: x, b :: y, h => by
    simp only [less, Bool.or_eq_true, decide_eq_true_eq, Bool.and_eq_true, beq_iff_eq] at h
    rcases h with h | ⟨rfl, h⟩
    · have h1 : ¬ b < a := fun h2 => by rw [UInt8.lt_iff_toNat_lt] at h h2; omega
      have h2 : ¬ b = a := fun h2 => u8_irr a (h2 ▸ h)
      simp [less, h1, h2]
    · simp [less, u8_irr a, less_asym x y h]
theorem less_tri : ∀ x y : List UInt8, less x y = false → less y x = false → x = y
  | [], [], _, _ => rfl
  | [], _ :: _, h, _ => by cases h
  | _ :: _, [], _, h => by cases h
  | a :: x, b :: y, h, k => by
    simp only [less, Bool.or_eq_false_iff, decide_eq_false_iff_not, Bool.and_eq_false_imp, beq_iff_eq] at h k
    have hab : a = b := by
      have h1 := h.1
      have h2 := k.1
      rw [UInt8.lt_iff_toNat_lt] at h1 h2
      exact UInt8.toNat_inj.1 (by omega)
    rw [hab, less_tri x y (h.2 hab) (k.2 hab.symm)]
end Sl
end Go.Proofs.YtgmneapgihakgaaGreatDoor
/- The contract of the document's own cell. -/
namespace Go.Proofs.YtgmneapgihakgaaGreatDoor
open Go.RowKit
open Sl (Cl Kd)
theorem ext_take (l : List UInt8) (n : Nat) (h : n ≤ l.length) : (str l).extract 0 n = str (l.take n) := by
  have := str_take l n
  rwa [Nat.min_eq_right h] at this
theorem big1_at (x : Int) (n : Nat) (hx : x = n) (hn : n < 256) (w : World) :
    Calls Tryz.prog 290 #[.int .u64 x, .int .i64 1] w fun e w' => e = .returned (.string (str (Oc.big 1 n))) ∧ Below w.heap.size w w' := big_any x n 1 hx (by omega) (by omega) (by omega) w
theorem big2_at (x : Int) (n : Nat) (hx : x = n) (hn : n < 65536) (w : World) :
    Calls Tryz.prog 290 #[.int .u64 x, .int .i64 2] w fun e w' => e = .returned (.string (str (Oc.big 2 n))) ∧ Below w.heap.size w w' := big_any x n 2 hx (by omega) (by omega) (by omega) w
theorem big4_at (x : Int) (n : Nat) (hx : x = n) (hn : n < 4294967296) (w : World) :
    Calls Tryz.prog 290 #[.int .u64 x, .int .i64 4] w fun e w' => e = .returned (.string (str (Oc.big 4 n))) ∧ Below w.heap.size w w' := big_any x n 4 hx (by omega) (by omega) (by omega) w
theorem below_drewN {B : Nat} {u v : World} (h : Below B u v) (n : Nat) : Below B u (v.drewN n) := ⟨h.os, h.tape, h.output, h.size, h.block⟩
theorem quiet_box {w : World} {x0 x1 x2 x3 : Value} {T : TypeId} (n : Nat) :
    ((w.alloc (.cells #[x0, x1, x2, x3] T)).drewN n).cell? ⟨w.heap.size, 0, none⟩ = some x0 ∧ ((w.alloc (.cells #[x0, x1, x2, x3] T)).drewN n).cell? ⟨w.heap.size, 1, none⟩ = some x1 ∧ ((w.alloc (.cells #[x0, x1, x2, x3] T)).drewN n).cell? ⟨w.heap.size, 2, none⟩ = some x2 ∧ ((w.alloc (.cells #[x0, x1, x2, x3] T)).drewN n).cell? ⟨w.heap.size, 3, none⟩ = some x3 ∧ Below w.heap.size w ((w.alloc (.cells #[x0, x1, x2, x3] T)).drewN n) :=
  ⟨by simp, by simp, by simp, by simp, below_drewN ((Below.refl _ _).alloc (Nat.le_refl _) _) n⟩
end Go.Proofs.YtgmneapgihakgaaGreatDoor
/- The contracts of the document's own Sum and right. -/
namespace Go.Proofs.YtgmneapgihakgaaGreatDoor
open Go.RowKit
open Sl (Cl Kd)
namespace Sl
/-- What the document's answer takes a cell for: a leaf's, or a branch's. -/
def shR (leaf : Bool) : Sh Cl := ⟨fun c => if leaf then encC c else encK ⟨c.key, c.chain⟩, Cl.key, fun c => if leaf then fitsC c else true⟩
theorem shR_len (leaf : Bool) (c : Cl) : ((shR leaf).enc c).length ≤ 65794 := by
  cases leaf
  · exact Nat.le_trans (encK_len ⟨c.key, c.chain⟩) (by decide)
  · exact encC_len c
end Sl
theorem shR_le (leaf : Bool) (l : List Cl) (k : Nat) (h : l.length ≤ 100000) : Sl.sum (Sl.shR leaf) (l.take k) ≤ 6579600000 := by
  have h1 := Sl.sum_take (Sl.shR leaf) l k
  have h2 := Sl.sum_le (Sl.shR leaf) 65794 (Sl.shR_len leaf) l
  omega
end Go.Proofs.YtgmneapgihakgaaGreatDoor
