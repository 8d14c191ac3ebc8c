/- Texts of one seat, merged. -/
import Derived.Test.YtdgcdekgleegbaaGreatS08
import Derived.Laws.CopyOwn
import Derived.Laws.CopyRow
import Derived.Laws.AppendOwn
import Derived.Laws.OwnMore
import Derived.Lib.SliceRun
import Derived.Lib.AppendZerosOnto
import Derived.Lib.Overlaps
import Derived.Below
import Derived.Test.YtdgcdekgleegbaaGreatS04
import Derived.Shelf.Spec.SlicesInsert
import Derived.Shelf.RegionOpenPlain
set_option maxRecDepth 100000
set_option maxHeartbeats 4000000
set_option linter.unusedVariables false
/- The contracts of Make, Save and Drop of a space in memory. -/
namespace Go.Proofs.YtdgcdekgleegbaaGreat
open Go.RowKit Go.Maps
open Sl (Cl Kd Nd Rn)
theorem turned_cell {w w' : World} {b q i : Nat} {x : Value} (h : w.mapTurned w' b) (hq : q ≠ b) (hx : w.cell? ⟨q, i, none⟩ = some x) : w'.cell? ⟨q, i, none⟩ = some x := by
  have hlt := World.block_lt_of_cell? _ _ hx
  have := h.grown.block q hlt (fun e => hq (Option.some.inj e))
  simp only [World.cell?] at hx ⊢
  rw [this]; exact hx
theorem Mem.turn {w w' : World} {p b B n n' made frozen : Nat} {F : Nat → Option Nd} {f : Nat → Option Value} (h : Mem w p b B n made frozen F) (ht : w.mapTurned w' b) (F' : Nat → Option Nd) (hm : MapN w' b n' f) (h1 : ∀ k, k < 4294967296 → F' k = none → f k = none) (h2 : ∀ k nd, k < 4294967296 → F' k = some nd → ∃ v, f k = some v ∧ NdO w B v nd) : Mem w' p b B n' made frozen F' := by
  refine ⟨turned_cell ht h.ne h.c0, turned_cell ht h.ne h.c1, turned_cell ht h.ne h.c2, (ht.frozen _).trans h.f0, (ht.frozen _).trans h.f1, (ht.frozen _).trans h.f2, ⟨f, hm, h1, fun k nd hk hF => ?_⟩, h.pB, h.bB, h.ne⟩
  obtain ⟨v, hv, hn⟩ := h2 k nd hk hF
  exact ⟨v, hv, hn.two (Two.turned (p := p) ht) h.pB h.bB⟩
theorem Mem.store {w : World} {p b B n made frozen : Nat} {F : Nat → Option Nd} (h : Mem w p b B n made frozen F) {k : Nat} (hk : k < 4294967296) (hn : n < maxLen) {v : Value} {nd : Nd} (hv : NdO w B v nd) :
    ∃ w', (Instr.mapUpdate 93 (.map (some b)) (.int .u32 k) v).run Tryz.prog w = .ok () w' ∧ Mem w' p b B (n + 1) made frozen (upd F k (some nd)) ∧ w.mapTurned w' b := by
  obtain ⟨f, hm, h1, h2⟩ := h.map
  obtain ⟨w', hr, hm', ht⟩ := hm.store hk hn v
  refine ⟨w', hr, h.turn ht _ hm' (fun j hj hF => ?_) (fun j nd' hj hF => ?_), ht⟩
  · by_cases hjk : j = k
    · subst hjk; rw [upd_same] at hF; cases hF
    · rw [upd_other _ _ _ hjk] at hF ⊢; exact h1 j hj hF
  · by_cases hjk : j = k
    · subst hjk; rw [upd_same] at hF ⊢; cases hF; exact ⟨v, rfl, hv⟩
    · rw [upd_other _ _ _ hjk] at hF ⊢; exact h2 j nd' hj hF
theorem Mem.dropped {w : World} {p b B n made frozen : Nat} {F : Nat → Option Nd} (h : Mem w p b B n made frozen F) {k : Nat} (hk : k < 4294967296) (ty : TypeId) :
    ∃ w', (Builtin.delete_ #[93, 28] ty #[.map (some b), .int .u32 k]).run Tryz.prog w = .ok (.tuple #[]) w' ∧ Mem w' p b B n made frozen (upd F k none) ∧ w.mapTurned w' b := by
  obtain ⟨f, hm, h1, h2⟩ := h.map
  obtain ⟨w', hr, hm', ht⟩ := hm.drop hk ty
  refine ⟨w', hr, h.turn ht _ hm' (fun j hj hF => ?_) (fun j nd' hj hF => ?_), ht⟩
  · by_cases hjk : j = k
    · subst hjk; exact upd_same _ _ _
    · rw [upd_other _ _ _ hjk] at hF ⊢; exact h1 j hj hF
  · by_cases hjk : j = k
    · subst hjk; rw [upd_same] at hF; cases hF
    · rw [upd_other _ _ _ hjk] at hF ⊢; exact h2 j nd' hj hF
theorem Mem.setMade {w : World} {p b B n made frozen : Nat} {F : Nat → Option Nd} (h : Mem w p b B n made frozen F) (x : Nat) : Mem (w.setCell ⟨p, 1, none⟩ (.int .u32 x)) p b B n x frozen F := by
  obtain ⟨f, hm, h1, h2⟩ := h.map
  refine ⟨(World.cell?_setCell_other _ _ _ _ (by simp)).trans h.c0, World.cell?_setCell_same' _ _ _ (by rw [h.c1]; rfl), (World.cell?_setCell_other _ _ _ _ (by simp)).trans h.c2, (World.frozen?_setCell _ _ _ _).trans h.f0, (World.frozen?_setCell _ _ _ _).trans h.f1, (World.frozen?_setCell _ _ _ _).trans h.f2, ⟨f, hm.kept (RowKit.Below.heap_setCell _ _ _ _ h.ne.symm), h1, fun k nd hk hF => ?_⟩, h.pB, h.bB, h.ne⟩
  obtain ⟨v, hv, hn⟩ := h2 k nd hk hF
  exact ⟨v, hv, hn.two (Two.set w 1 _) h.pB h.bB⟩
theorem map_not_nil (w : World) (b : Nat) : (binOp .eql 93 (.map (some b)) (.map none)).run Tryz.prog w = .ok (.bool false) w := by
  have hu := Tryz.underlying93
  have h : ∀ d : Nat, (Op.equalIn (d + 1) 93 (.map (some b)) (.map none)).run Tryz.prog w = .ok false w := fun d => by
    simp [Op.equalIn, run_underlying hu]
  simp only [binOp]
  simp [Op.equal, Op.maxDepth, h 9999]
theorem make_any {w : World} {p b B n made frozen : Nat} {F : Nat → Option Nd} (h : Mem w p b B n made frozen F) (hB : B ≤ w.heap.size) (v : Value) (nd : Nd) (hv : NdV w v nd) (h1 : nd.cs.length ≤ 100000) (h2 : nd.ks.length ≤ 100000) (hm : made ≤ 1000000) (hn : n ≤ 1000000) :
    Calls Tryz.prog 26 #[.pointer (some ⟨p, 0, none⟩), v] w fun e w' => e = .returned (.tuple #[.int .u32 (2 + made : Nat), .int .i64 0]) ∧ Mem w' p b B (n + 1) (made + 1) frozen (upd F (2 + made) (some nd)) ∧ Two p b w w' := by
  obtain ⟨K, hK⟩ : ∃ K : Nat, K = 2 + made := ⟨_, rfl⟩
  have hk2 : K < 4294967296 := by omega
  have hw1 : IntKind.u32.wrap (2 + (made : Int)) = (K : Int) := by rw [IntKind.wrap_u32]; omega
  have hw2 : IntKind.u32.wrap ((made : Int) + 1) = ((made + 1 : Nat) : Int) := by rw [IntKind.wrap_u32]; omega
  rw [← hK]
  have HC := Lib.hid (fun W (hW : Below w.heap.size w W) => copied_any v nd W (hv.below hW) h1 h2)
  have HM := Lib.hid (fun W (hW : Below w.heap.size w W) => h.below hW)
  have HBS := Lib.hid hB
  have hqm := fun W => map_not_nil W b
  obtain ⟨vc, vk, rfl, _, hcc, _, hkk⟩ := hv
  unfold ndV at HC ⊢
  obtain ⟨a, m, c, _, _, _⟩ := hcc
  obtain ⟨a', m', c', _, _, _⟩ := hkk
  have HB0 : Hid (Below w.heap.size w (w.alloc (.cells #[.bool nd.leaf, .slice a m c, .slice a' m' c'] 71))) := (Below.refl _ _).alloc (Nat.le_refl _) _
  have c0 := (HM.out _ HB0.out).c0
  have c1 := (HM.out _ HB0.out).c1
  clear h hB h1 h2 hK
  go_enter Tryz.func26, Tryz.ntmps26
  go_wp2_with fail
  go_region_with (go_at_call 63; refine (HC.out _ HB0.out.drew).mono ?_; rintro e w1 ⟨v1, rfl, hv1, hb1⟩; have hq1 := hv1; obtain ⟨vc, vk, rfl, hc, hrk⟩ := hv1; obtain ⟨a5, n5, c5, _, _, _⟩ := hc.cap; obtain ⟨a6, n6, c6, _, _, _⟩ := hrk.cap; have HB1 := Lib.hid (HB0.out.drew.trans (hb1.mono HB0.out.size)); obtain ⟨w2, hr, hm2, ht2⟩ := (HM.out _ HB1.out).store hk2 (by unfold maxLen; omega) (hq1.base (Nat.le_trans HBS.out HB0.out.size)); unfold ndV at hr ⊢; have HM2 := Lib.hid hm2; have HT2 := Lib.hid ht2; have j0 := (HM.out _ HB1.out).c0; have k0 := hm2.c0; have k1 := hm2.c1; have y1 := hm2.f1; clear hb1 hq1 hc hrk hm2 ht2)
  all_goals
    go_wp2
    go_ret2
    exact ⟨rfl, HM2.out.setMade _, ((Two.of HB1.out).trans (Two.turned HT2.out)).trans (Two.set _ 1 _)⟩
theorem save_none {w : World} {p b B n made frozen : Nat} {F : Nat → Option Nd} (h : Mem w p b B n made frozen F) {v : Value} {nd : Nd} (hv : NdV w v nd) {k : Nat} (hk : k < 4294967296) (hF : F k = none) :
    Calls Tryz.prog 32 #[.pointer (some ⟨p, 0, none⟩), .int .u32 k, v] w fun e w' => e = .returned (.int .i64 12) ∧ Below w.heap.size w w' := by
  have HB0 : Hid (∀ o1, Below w.heap.size w (w.alloc o1)) := fun o1 => (Below.refl _ _).alloc (Nat.le_refl _) _
  have HH := Lib.hid (fun W (hW : Below w.heap.size w W) => has_none (h.below hW) hk hF)
  obtain ⟨vc, vk, rfl, _, hcc, _, hkk⟩ := hv
  unfold ndV
  obtain ⟨a, m, c, _, _, _⟩ := hcc
  obtain ⟨a', m', c', _, _, _⟩ := hkk
  clear h
  go_enter Tryz.func32, Tryz.ntmps32
  go_wp2_with (go_at_call 65; refine (HH.out _ (HB0.out _)).mono ?_; rintro e w1 ⟨rfl, hb1⟩; have HB1 := Lib.hid ((HB0.out _).trans (hb1.mono (HB0.out _).size)); clear hb1)
  go_ret
  exact ⟨rfl, HB1.out⟩
theorem save_old {w : World} {p b B n made frozen : Nat} {F : Nat → Option Nd} (h : Mem w p b B n made frozen F) {v : Value} {nd : Nd} (hv : NdV w v nd) {k : Nat} (hk : k < 4294967296) (hk2 : 2 ≤ k) {x : Nd} (hF : F k = some x) (ho : ¬ frozen + 2 ≤ k) :
    Calls Tryz.prog 32 #[.pointer (some ⟨p, 0, none⟩), .int .u32 k, v] w fun e w' => e = .returned (.int .i64 11) ∧ Below w.heap.size w w' := by
  have HB0 : Hid (∀ o1, Below w.heap.size w (w.alloc o1)) := fun o1 => (Below.refl _ _).alloc (Nat.le_refl _) _
  have HH := Lib.hid (fun W (hW : Below w.heap.size w W) => has_some (h.below hW) hk hF)
  have HO := Lib.hid (fun W (hW : Below w.heap.size w W) => own_some (h.below hW) hk hk2 hF)
  rw [decide_eq_false ho] at HO
  obtain ⟨vc, vk, rfl, _, hcc, _, hkk⟩ := hv
  unfold ndV
  obtain ⟨a, m, c, _, _, _⟩ := hcc
  obtain ⟨a', m', c', _, _, _⟩ := hkk
  clear h
  go_enter Tryz.func32, Tryz.ntmps32
  go_wp2_with (first
    | (go_at_call 65; refine (HH.out _ (HB0.out _)).mono ?_; rintro e w1 ⟨rfl, hb1⟩; have HB1 := Lib.hid ((HB0.out _).trans (hb1.mono (HB0.out _).size)); clear hb1)
    | (go_at_call 31; refine (HO.out _ HB1.out).mono ?_; rintro e w2 ⟨rfl, hb2⟩; have HB2 := Lib.hid (HB1.out.trans (hb2.mono HB1.out.size)); clear hb2))
  go_ret
  exact ⟨rfl, HB2.out⟩
theorem save_own {w : World} {p b B n made frozen : Nat} {F : Nat → Option Nd} (h : Mem w p b B n made frozen F) (hB : B ≤ w.heap.size) {v : Value} {nd : Nd} (hv : NdV w v nd) (h1 : nd.cs.length ≤ 100000) (h2 : nd.ks.length ≤ 100000) (hn : n ≤ 1000000) {k : Nat} (hk : k < 4294967296) (hk2 : 2 ≤ k) {x : Nd} (hF : F k = some x) (ho : frozen + 2 ≤ k) :
    Calls Tryz.prog 32 #[.pointer (some ⟨p, 0, none⟩), .int .u32 k, v] w fun e w' => e = .returned (.int .i64 0) ∧ Mem w' p b B (n + 1) made frozen (upd F k (some nd)) ∧ Two p b w w' := by
  have HB0 : Hid (∀ o1, Below w.heap.size w (w.alloc o1)) := fun o1 => (Below.refl _ _).alloc (Nat.le_refl _) _
  have HH := Lib.hid (fun W (hW : Below w.heap.size w W) => has_some (h.below hW) hk hF)
  have HO := Lib.hid (fun W (hW : Below w.heap.size w W) => own_some (h.below hW) hk hk2 hF)
  rw [decide_eq_true ho] at HO
  have HC := Lib.hid (fun W (hW : Below w.heap.size w W) => copied_any v nd W (hv.below hW) h1 h2)
  have HM := Lib.hid (fun W (hW : Below w.heap.size w W) => h.below hW)
  have HBS := Lib.hid hB
  obtain ⟨vc, vk, rfl, _, hcc, _, hkk⟩ := hv
  unfold ndV at HC ⊢
  obtain ⟨a, m, c, _, _, _⟩ := hcc
  obtain ⟨a', m', c', _, _, _⟩ := hkk
  have HK := Lib.hid (Kp.laid (Below.refl _ w) (Nat.le_refl _) #[.bool nd.leaf, .slice a m c, .slice a' m' c'] 71)
  clear h hB h1 h2
  go_enter Tryz.func32, Tryz.ntmps32
  go_wp2_with (first
    | (go_at_call 65; refine (HH.out _ (HB0.out _)).mono ?_; rintro e w1 ⟨rfl, hb1⟩; have HK1 := Lib.hid (HK.out.step (Nat.le_refl _) hb1); clear hb1)
    | (go_at_call 31; refine (HO.out _ HK1.out.below).mono ?_; rintro e w2 ⟨rfl, hb2⟩; have HK2 := Lib.hid (HK1.out.step (Nat.le_refl _) hb2); obtain ⟨⟨z0, z1, z2⟩, _⟩ := HK2.out.three; have i0 := (HM.out _ HK2.out.below).c0; clear hb2))
  go_region_with (go_at_call 63; refine (HC.out _ HK2.out.below.drew).mono ?_; rintro e w3 ⟨v1, rfl, hv1, hb1⟩; have hq1 := hv1; obtain ⟨vc, vk, rfl, hc, hrk⟩ := hv1; obtain ⟨a5, n5, c5, _, _, _⟩ := hc.cap; obtain ⟨a6, n6, c6, _, _, _⟩ := hrk.cap; have HB1 := Lib.hid (HK2.out.below.drew.trans (hb1.mono HK2.out.below.size)); obtain ⟨w4, hr, hm2, ht2⟩ := (HM.out _ HB1.out).store hk (by unfold maxLen; omega) (hq1.base (Nat.le_trans HBS.out HK2.out.below.size)); unfold ndV at hr ⊢; have HM2 := Lib.hid hm2; have HT2 := Lib.hid ht2; have j0 := (HM.out _ HB1.out).c0; have k0 := hm2.c0; clear hb1 hq1 hc hrk hm2 ht2)
  all_goals
    go_wp2
    go_ret
    exact ⟨rfl, HM2.out, (Two.of HB1.out).trans (Two.turned HT2.out)⟩
theorem drop_none {w : World} {p b B n made frozen : Nat} {F : Nat → Option Nd} (h : Mem w p b B n made frozen F) {k : Nat} (hk : k < 4294967296) (hF : F k = none) :
    Calls Tryz.prog 33 #[.pointer (some ⟨p, 0, none⟩), .int .u32 k] w fun e w' => e = .returned (.int .i64 12) ∧ Below w.heap.size w w' := by
  have HH := Lib.hid (has_none h hk hF)
  go_enter Tryz.func33, Tryz.ntmps33
  go_wp2_with (go_at_call 65; refine (HH.out).mono ?_; rintro e w1 ⟨rfl, hb1⟩; have HB1 := Lib.hid hb1; clear hb1)
  go_ret
  exact ⟨rfl, HB1.out⟩
theorem drop_old {w : World} {p b B n made frozen : Nat} {F : Nat → Option Nd} (h : Mem w p b B n made frozen F) {k : Nat} (hk : k < 4294967296) (hk2 : 2 ≤ k) {x : Nd} (hF : F k = some x) (ho : ¬ frozen + 2 ≤ k) :
    Calls Tryz.prog 33 #[.pointer (some ⟨p, 0, none⟩), .int .u32 k] w fun e w' => e = .returned (.int .i64 0) ∧ Below w.heap.size w w' := by
  have HH := Lib.hid (has_some h hk hF)
  have HO := Lib.hid (fun W (hW : Below w.heap.size w W) => own_some (h.below hW) hk hk2 hF)
  rw [decide_eq_false ho] at HO
  go_enter Tryz.func33, Tryz.ntmps33
  go_wp2_with (first
    | (go_at_call 65; refine (HH.out).mono ?_; rintro e w1 ⟨rfl, hb1⟩; have HB1 := Lib.hid hb1; clear hb1)
    | (go_at_call 31; refine (HO.out _ HB1.out).mono ?_; rintro e w2 ⟨rfl, hb2⟩; have HB2 := Lib.hid (HB1.out.trans (hb2.mono HB1.out.size)); clear hb2))
  go_ret
  exact ⟨rfl, HB2.out⟩
theorem drop_own {w : World} {p b B n made frozen : Nat} {F : Nat → Option Nd} (h : Mem w p b B n made frozen F) {k : Nat} (hk : k < 4294967296) (hk2 : 2 ≤ k) {x : Nd} (hF : F k = some x) (ho : frozen + 2 ≤ k) :
    Calls Tryz.prog 33 #[.pointer (some ⟨p, 0, none⟩), .int .u32 k] w fun e w' => e = .returned (.int .i64 0) ∧ Mem w' p b B n made frozen (upd F k none) ∧ Two p b w w' := by
  have HH := Lib.hid (has_some h hk hF)
  have HO := Lib.hid (fun W (hW : Below w.heap.size w W) => own_some (h.below hW) hk hk2 hF)
  rw [decide_eq_true ho] at HO
  have HM := Lib.hid (fun W (hW : Below w.heap.size w W) => h.below hW)
  go_enter Tryz.func33, Tryz.ntmps33
  go_wp2_with (first
    | (go_at_call 65; refine (HH.out).mono ?_; rintro e w1 ⟨rfl, hb1⟩; have HB1 := Lib.hid hb1; clear hb1)
    | (go_at_call 31; refine (HO.out _ HB1.out).mono ?_; rintro e w2 ⟨rfl, hb2⟩; have HB2 := Lib.hid (HB1.out.trans (hb2.mono HB1.out.size)); have i0 := (HM.out _ HB2.out).c0; obtain ⟨w3, hr, hm, ht⟩ := (HM.out _ HB2.out).dropped hk 0; have HM3 := Lib.hid hm; have HT3 := Lib.hid ht; clear hb2 hm ht))
  go_ret
  exact ⟨rfl, HM3.out, (Two.of HB2.out).trans (Two.turned HT3.out)⟩
end Go.Proofs.YtdgcdekgleegbaaGreat
/- Copying, clearing and shifting rows of structs in a block that is known whole. -/
namespace Go.Proofs.YtdgcdekgleegbaaGreat
open Go.RowKit
section
variable {P : Program}
theorem run_copy_rowS (w : World) (dT sT ty elem : TypeId) (S : Nat) (g o dLen dCap : Nat) (a : Addr) (sLen sCap : Nat) (cur : Array Value) (t : TypeId) (cs : List Value)
    (hu : P.underlying dT = some (.slice elem)) (hs : (P.info? elem).map (·.size) = some S)
    (hg : w.heap[g]? = some (.cells cur t (0, 0))) (hn : cs.length = Nat.min sLen dLen * S)
    (hsrc : ∀ j v, cs[j]? = some v → w.cell? (a.add j) = some v) (hfit : o + cs.length ≤ cur.size) (h1 : ∀ v ∈ cs, v.oneCell' = true) :
    (Builtin.copy_ #[dT, sT] ty #[.slice (some ⟨g, o, none⟩) dLen dCap, .slice (some a) sLen sCap]).run P w =
      .ok (goInt (Nat.min sLen dLen)) (w.setRow g (cur.toList.take o ++ cs ++ cur.toList.drop (o + cs.length)).toArray) := by
  have hl := run_loadCells_list (P := P) w a cs hsrc
  have hst := run_storeCells_at P g o t cs 0 cur w hg (by simpa using hfit) h1
  cases hq : P.info? elem with
  | none => simp [hq] at hs
  | some i =>
    have hi : i.size = S := by simpa [hq] using hs
    simp [Builtin.copy_, run_underlying hu, Builtin.lenOf, Builtin.firstCells, sizeOf, typeInfo, hq, hi, ← hn, hl, hst]
theorem setCells_row (g : Nat) (t : TypeId) : ∀ (vs : List Value) (o : Nat) (cur : Array Value) (w : World), w.heap[g]? = some (.cells cur t (0, 0)) → o + vs.length ≤ cur.size →
    w.setCells g o vs = w.setRow g (cur.toList.take o ++ vs ++ cur.toList.drop (o + vs.length)).toArray
  | [], o, cur, w, hg, _ => by
    simp only [World.setCells, List.append_nil, List.length_nil, Nat.add_zero, List.take_append_drop, Array.toArray_toList]
    rw [setRow_self w g cur t (0, 0) hg]
  | v :: rest, o, cur, w, hg, hl => by
    have ih := setCells_row g t rest (o + 1) (cur.setIfInBounds o v) (w.setRow g (cur.setIfInBounds o v)) (setRow_heap w g cur _ t _ hg) (by simp at hl ⊢; omega)
    rw [World.setCells, setCell_eq_setRow w g o cur t (0, 0) v hg, ih, setRow_setRow]
    congr 2
    have e := list_seg_step cur.toList o v rest (by simp at hl ⊢; omega)
    simpa [Array.toList_setIfInBounds] using e
/-- 'clear(s)', s of one element of several cells. -/
theorem run_clear_one (w : World) (t e ty : TypeId) (z : Value) (zs : List Value) (hz : z.cells = zs.toArray) (ht : P.underlying t = some (.slice e)) (hv : ∀ w, (zeroValue e).run P w = .ok z w) (h1 : ∀ v ∈ zs, v.oneCell' = true) (b o c : Nat)
    (hc : ∀ j, j < zs.length → (w.cell? ⟨b, o + j, none⟩).isSome = true) (hf : ∀ j, j < zs.length → w.frozen? ⟨b, o + j, none⟩ = false) :
    (Builtin.clear_ #[t] ty #[.slice (some ⟨b, o, none⟩) 1 c]).run P w = .ok (.tuple #[]) (w.setCells b o zs) := by
  have hzc : (Builtin.zeroCells z.cells 1).toList = zs := by
    rw [hz]
    simp only [Builtin.zeroCells, Nat.one_mul, Array.toList_map, Array.toList_range, List.size_toArray]
    apply List.ext_getElem
    · simp
    · intro i h1 h2
      have hi : i < zs.length := by simpa using h2
      simp [Nat.mod_eq_of_lt hi, hi]
  have hst := run_storeCells_cells (P := P) b o zs 0 w (by simpa using hc) (by simpa using hf) h1
  simp only [Nat.add_zero] at hst
  simp [Builtin.clear_, run_underlying ht, hv, hzc, hst]
end
theorem seg_ins (I N S : Nat) (cur xs vs : List Value) (hI : I ≤ N) (hx : cur.take N = xs) (hN : N + S ≤ cur.length) (hv : vs.length = S) :
    (((cur.take (I + S) ++ xs.drop I ++ cur.drop (I + S + (xs.drop I).length)).take I ++ vs ++ (cur.take (I + S) ++ xs.drop I ++ cur.drop (I + S + (xs.drop I).length)).drop (I + vs.length)).take (N + S) = xs.take I ++ vs ++ xs.drop I) := by
  have hxl : xs.length = N := by rw [← hx, List.length_take]; omega
  have h1 : (cur.take (I + S)).length = I + S := by rw [List.length_take]; omega
  have h2 : (cur.take (I + S) ++ xs.drop I ++ cur.drop (I + S + (xs.drop I).length)).take I = xs.take I := by
    rw [List.append_assoc, List.take_append_of_le_length (by omega), List.take_take, ← hx, List.take_take, Nat.min_eq_left (by omega), Nat.min_eq_left (by omega)]
  have h3 : (cur.take (I + S) ++ xs.drop I ++ cur.drop (I + S + (xs.drop I).length)).drop (I + vs.length) = xs.drop I ++ cur.drop (I + S + (xs.drop I).length) := by
    rw [hv, List.append_assoc, List.drop_append_of_le_length (by omega), List.drop_of_length_le (by omega), List.nil_append]
  rw [h2, h3, ← List.append_assoc, List.take_append_of_le_length (by simp only [List.length_append, List.length_take, List.length_drop]; omega), List.take_of_length_le (by simp only [List.length_append, List.length_take, List.length_drop]; omega)]
theorem seg_ins_len (I N S : Nat) (cur xs vs : List Value) (hI : I ≤ N) (hx : cur.take N = xs) (hN : N + S ≤ cur.length) (hv : vs.length = S) :
    ((cur.take (I + S) ++ xs.drop I ++ cur.drop (I + S + (xs.drop I).length)).take I ++ vs ++ (cur.take (I + S) ++ xs.drop I ++ cur.drop (I + S + (xs.drop I).length)).drop (I + vs.length)).length = cur.length := by
  have hxl : xs.length = N := by rw [← hx, List.length_take]; omega
  simp only [List.length_append, List.length_take, List.length_drop]; omega
/-- The other order: what is put in first, then what stood behind. -/
theorem seg_ins2 (I N S : Nat) (cur xs vs : List Value) (hI : I ≤ N) (hxl : xs.length = N) (hx : cur.take I = xs.take I) (hN : N + S ≤ cur.length) (hv : vs.length = S) :
    ((cur.take I ++ vs ++ cur.drop (I + vs.length)).take (I + S) ++ xs.drop I ++ (cur.take I ++ vs ++ cur.drop (I + vs.length)).drop (I + S + (xs.drop I).length)).take (N + S) = xs.take I ++ vs ++ xs.drop I := by
  have h1 : (cur.take I).length = I := by rw [List.length_take]; omega
  have h2 : (cur.take I ++ vs ++ cur.drop (I + vs.length)).take (I + S) = xs.take I ++ vs := by
    rw [List.take_append_of_le_length (by rw [List.length_append]; omega), List.take_of_length_le (by rw [List.length_append]; omega), hx]
  rw [h2, List.take_append_of_le_length (by simp only [List.length_append, List.length_take, List.length_drop]; omega), List.take_of_length_le (by simp only [List.length_append, List.length_take, List.length_drop]; omega)]
theorem seg_ins2_len (I N S : Nat) (cur xs vs : List Value) (hI : I ≤ N) (hxl : xs.length = N) (hN : N + S ≤ cur.length) (hv : vs.length = S) :
    ((cur.take I ++ vs ++ cur.drop (I + vs.length)).take (I + S) ++ xs.drop I ++ (cur.take I ++ vs ++ cur.drop (I + vs.length)).drop (I + S + (xs.drop I).length)).length = cur.length := by
  simp only [List.length_append, List.length_take, List.length_drop]; omega
theorem seg_del (I N S : Nat) (cur xs zs : List Value) (hI : I + S ≤ N) (hx : cur.take N = xs) (hN : N ≤ cur.length) (hz : zs.length = S) :
    (((cur.take I ++ xs.drop (I + S) ++ cur.drop (I + (xs.drop (I + S)).length)).take (N - S) ++ zs ++ (cur.take I ++ xs.drop (I + S) ++ cur.drop (I + (xs.drop (I + S)).length)).drop (N - S + zs.length)).take (N - S) = xs.take I ++ xs.drop (I + S)) := by
  have hxl : xs.length = N := by rw [← hx, List.length_take]; omega
  have h1 : (cur.take I ++ xs.drop (I + S)).length = N - S := by simp only [List.length_append, List.length_take, List.length_drop]; omega
  have h2 : (cur.take I ++ xs.drop (I + S) ++ cur.drop (I + (xs.drop (I + S)).length)).take (N - S) = xs.take I ++ xs.drop (I + S) := by
    rw [List.take_append_of_le_length (by omega), List.take_of_length_le (by omega), ← hx, List.take_take, Nat.min_eq_left (by omega)]
  rw [h2, List.append_assoc, List.take_append_of_le_length (by simp only [List.length_append, List.length_take, List.length_drop]; omega), List.take_of_length_le (by simp only [List.length_append, List.length_take, List.length_drop]; omega)]
theorem seg_del_len (I N S : Nat) (cur xs zs : List Value) (hI : I + S ≤ N) (hx : cur.take N = xs) (hN : N ≤ cur.length) (hz : zs.length = S) :
    ((cur.take I ++ xs.drop (I + S) ++ cur.drop (I + (xs.drop (I + S)).length)).take (N - S) ++ zs ++ (cur.take I ++ xs.drop (I + S) ++ cur.drop (I + (xs.drop (I + S)).length)).drop (N - S + zs.length)).length = cur.length := by
  have hxl : xs.length = N := by rw [← hx, List.length_take]; omega
  simp only [List.length_append, List.length_take, List.length_drop]; omega
theorem owns_setRow {w : World} {g B e S cap n' : Nat} {cur : Array Value} {l : List Value} {xs' : List Value} (hg : w.heap[g]? = some (.cells cur e (0, 0))) (hB : B ≤ g) (hn' : n' ≤ cap) (hcap : cap ≤ maxLen) (hsz : l.length = cap * S) (hx : xs'.length = n' * S) (ht : l.take (n' * S) = xs') :
    (w.setRow g l.toArray).ownsRow B e S (.slice (some ⟨g, 0, none⟩) n' cap) n' xs' :=
  ⟨hx, .inr ⟨g, cap, l.toArray, rfl, hB, setRow_heap w g cur _ e _ hg, hn', hcap, by simpa using hsz, by simpa using ht⟩⟩
end Go.Proofs.YtdgcdekgleegbaaGreat
/- The contract of slices.Insert of one cell, at a row of one's own. -/
namespace Go.Proofs.YtdgcdekgleegbaaGreat
open Go.RowKit
open Sl (Cl Kd)
inductive InsOutC (B : Nat) (l : List Cl) (w : World) (e : Ending) (w' : World) : Prop
  | mk (v : Value) (he : e = .returned v) (hr : RowC w' B v l) (hb : Below B w w')
theorem flatAtC (x : Cl) (vb : Nat) (T : TypeId) (w : World) (hvb : w.heap[vb]? = some (.cells (cellsC x).toArray T (0, 0))) : ∀ j u, (cellsC x)[j]? = some u → w.cell? ((⟨vb, 0, none⟩ : Addr).add j) = some u := by
  intro j u hj
  rw [add_plain', Nat.zero_add, cell_of_row w vb j _ T (0, 0) hvb]
  simpa using hj
theorem rowAtC (w : World) (g : Nat) (cur : Array Value) (l : List Cl) (hg : w.heap[g]? = some (.cells cur 32 (0, 0))) (htk : cur.toList.take (l.length * 4) = l.flatMap cellsC) (k : Nat) : ∀ j u, ((l.flatMap cellsC).drop (k * 4))[j]? = some u → w.cell? ((⟨g, k * 4, none⟩ : Addr).add j) = some u := by
  intro j u hj
  rw [add_plain', cell_of_row w g _ _ _ (0, 0) hg]
  rw [List.getElem?_drop, ← htk] at hj
  have hlt := (List.getElem?_eq_some_iff.1 hj).1
  rw [List.length_take] at hlt
  rw [List.getElem?_take_of_lt (by omega)] at hj
  simpa using hj
theorem flat_takeC (l : List Cl) (x : Cl) (i : Nat) : (l.flatMap cellsC).take (i * 4) ++ cellsC x ++ (l.flatMap cellsC).drop (i * 4) = (l.take i ++ x :: l.drop i).flatMap cellsC := by
  have h : ∀ (l : List Cl) (i : Nat), (l.flatMap cellsC).take (i * 4) = (l.take i).flatMap cellsC ∧ (l.flatMap cellsC).drop (i * 4) = (l.drop i).flatMap cellsC := by
    intro l
    induction l with
    | nil => intro i; simp
    | cons y t ih =>
      intro i
      cases i with
      | zero => simp
      | succ i =>
        obtain ⟨h1, h2⟩ := ih i
        have hl := cellsC_len y
        rw [List.flatMap_cons, List.take_succ_cons, List.drop_succ_cons, List.flatMap_cons, show (i + 1) * 4 = (cellsC y).length + i * 4 by rw [hl]; omega, List.take_append, List.drop_append]
        rw [List.take_of_length_le (by omega), List.drop_of_length_le (by omega), Nat.add_sub_cancel_left, h1, h2]
        exact ⟨rfl, rfl⟩
  obtain ⟨h1, h2⟩ := h l i
  rw [h1, h2, List.flatMap_append, List.flatMap_cons, List.append_assoc]
set_option maxHeartbeats 4000000 in
theorem insertC_shift (B g cap i vb vc : Nat) (cur : Array Value) (l : List Cl) (x : Cl) (T : TypeId) (w : World) (hi : i < l.length) (hroom : l.length + 1 ≤ cap) (hcap : cap ≤ maxLen) (hg : w.heap[g]? = some (.cells cur 32 (0, 0))) (hB : B ≤ g) (hsz : cur.size = cap * 4) (htk : cur.toList.take (l.length * 4) = l.flatMap cellsC) (hvb : w.heap[vb]? = some (.cells (cellsC x).toArray T (0, 0))) (hne : vb ≠ g) :
    Calls Tryz.prog 140 #[.slice (some ⟨g, 0, none⟩) l.length cap, .int .i64 i, .slice (some ⟨vb, 0, none⟩) 1 vc] w (InsOutC B (l.take i ++ x :: l.drop i) w) := by
  obtain ⟨i0, hi0, hz0, hz1, hz2⟩ := info_parts info42
  have hs1 : (Tryz.prog.info? 32).map (·.size) = some 4 := by rw [hi0]; simp [hz1]
  have hflen : (l.flatMap cellsC).length = l.length * 4 := flat_len _ _ cellsC_len _
  have hfd : ((l.flatMap cellsC).drop (i * 4)).length = (l.length - i) * 4 := by rw [List.length_drop, hflen]; omega
  have hxl := cellsC_len x
  have hxs : (cellsC x).toArray.size = 4 := by simpa using hxl
  have hcl : cur.toList.length = cap * 4 := by simpa using hsz
  have hov : ∀ lb cb, (callFunc 164 #[.slice (some ⟨vb, 0, none⟩) 1 vc, .slice (some ⟨g, (i + 1) * 4, none⟩) lb cb]).run Tryz.prog w = .ok (.value (.bool false)) w := fun lb cb => by
    rw [run_callFunc_extern Tryz.func164 (by kernel_rfl) (by kernel_rfl) (by kernel_rfl) (e := Extern.SlicesOverlaps.overlaps #[29, 29] #[4]) (by kernel_rfl),
      Lib.run_overlaps_apart w 29 4 32 Tryz.underlying29 4 (fun w => by kernel_rfl) ⟨vb, 0, none⟩ ⟨g, (i + 1) * 4, none⟩ 1 vc lb cb hne T 32 4 (cap * 4) (by simp [World.shape?, hvb, hxs]) (by simp [World.shape?, hg, hsz]) (by omega) (by simp [World.frozen?, hvb]) (by simp [World.frozen?, hvb])]
    rfl
  obtain ⟨R1, hR1⟩ : ∃ R1, R1 = cur.toList.take ((i + 1) * 4) ++ (l.flatMap cellsC).drop (i * 4) ++ cur.toList.drop ((i + 1) * 4 + ((l.flatMap cellsC).drop (i * 4)).length) := ⟨_, rfl⟩
  obtain ⟨R2, hR2⟩ : ∃ R2, R2 = R1.take (i * 4) ++ cellsC x ++ R1.drop (i * 4 + (cellsC x).length) := ⟨_, rfl⟩
  have hR1l : R1.length = cap * 4 := by rw [hR1]; simp only [List.length_append, List.length_take, List.length_drop, hcl, hflen]; omega
  have hcp1 : ∀ ty dl dc sl sc, dl = l.length - i → sl = l.length + 1 - i → (Builtin.copy_ #[29, 29] ty #[.slice (some ⟨g, (i + 1) * 4, none⟩) dl dc, .slice (some ⟨g, i * 4, none⟩) sl sc]).run Tryz.prog w.drew = .ok (goInt (Nat.min sl dl)) (w.drew.setRow g R1.toArray) := fun ty dl dc sl sc h1 h2 => by
    subst h1; subst h2
    rw [hR1]
    exact run_copy_rowS w.drew _ _ ty 32 4 g ((i + 1) * 4) _ dc ⟨g, i * 4, none⟩ _ sc cur 32 ((l.flatMap cellsC).drop (i * 4)) Tryz.underlying29 hs1 hg (by rw [hfd]; simp only [Nat.min_def]; split <;> omega) (rowAtC w.drew g cur l hg htk i) (by rw [hfd, hsz]; omega) (fun v hv => flat_oneC l v (List.mem_of_mem_drop hv))
  have hcp2 : ∀ (W : World), W.heap = (w.drew.setRow g R1.toArray).heap → ∀ ty dl dc, 1 ≤ dl → (Builtin.copy_ #[29, 29] ty #[.slice (some ⟨g, i * 4, none⟩) dl dc, .slice (some ⟨vb, 0, none⟩) 1 vc]).run Tryz.prog W = .ok (goInt (Nat.min 1 dl)) (W.setRow g R2.toArray) := fun W hW ty dl dc h1 => by
    have hgW : W.heap[g]? = some (.cells R1.toArray 32 (0, 0)) := by rw [hW]; exact setRow_heap w.drew g cur _ _ _ hg
    have hvW : W.heap[vb]? = some (.cells (cellsC x).toArray T (0, 0)) := by rw [hW, setRow_other w.drew g vb _ hne]; exact hvb
    have := run_copy_rowS (P := Tryz.prog) W 29 29 ty 32 4 g (i * 4) dl dc ⟨vb, 0, none⟩ 1 vc R1.toArray 32 (cellsC x) Tryz.underlying29 hs1 hgW (by rw [hxl]; simp only [Nat.min_def]; split <;> omega) (flatAtC x vb T W hvW) (by rw [hxl, List.size_toArray, hR1l]; omega) (fun v hv => cellsC_one x v hv)
    rw [this, hR2]
  have HR : Hid (R2.length = cap * 4 ∧ R2.take ((l.length + 1) * 4) = (l.take i ++ x :: l.drop i).flatMap cellsC) := by
    have e1 : (i + 1) * 4 = i * 4 + 4 := by omega
    rw [e1] at hR1
    refine ⟨?_, ?_⟩
    · rw [hR2, hR1, seg_ins_len (i * 4) (l.length * 4) 4 cur.toList _ _ (by omega) htk (by rw [hcl]; omega) hxl, hcl]
    · rw [show (l.length + 1) * 4 = l.length * 4 + 4 by omega, hR2, hR1, seg_ins (i * 4) (l.length * 4) 4 cur.toList _ _ (by omega) htk (by rw [hcl]; omega) hxl, flat_takeC]
  have HG := Lib.hid hg
  have HB := Lib.hid hB
  have hin : ¬ ((i : Int) = (l.length : Int)) := by omega
  have hb2 : ¬ (cap = i + 1) := by omega
  have hb4 : ¬ (cap = i) := by omega
  have hb5 : i ≤ l.length := by omega
  have hw1 : IntKind.i64.wrap ((i : Int) + 1) = (i : Int) + 1 := IntWalk.i64_in _ (by unfold maxLen at hcap; omega)
  have hw2 : IntKind.i64.wrap ((l.length : Int) + 1) = (l.length : Int) + 1 := IntWalk.i64_in _ (by unfold maxLen at hcap; omega)
  have HCAP := Lib.hid hcap
  unfold maxLen at hcap
  have hb1 : (0 : Int) ≤ (i : Int) + 1 := by omega
  have htn : ((i : Int) + 1).toNat = i + 1 := by omega
  have htn2 : ((l.length : Int) + 1).toNat = l.length + 1 := by omega
  have HROOM := Lib.hid hroom
  have hb3 : (i : Int) ≤ (l.length : Int) + 1 := by omega
  have mixed : Tryz.prog.follows Departure.mixedOrders = true := by kernel_rfl
  clear hR1 hR2 hR1l hflen hfd hxs hcl hsz htk hvb hg hs1 hi0 hz0 hz1 hz2 hxl
  go_enter Tryz.func140, Tryz.ntmps140
  go_wp2_with (simp only [hov])
  go_region_law_o (refine Go.Proofs.step_copy_runI rfl _ _ 29 29 rfl _ _ (by simp [Act.eval, Act.put]) (by simp [Act.eval, Act.put]) (hcp1 _ _ _ _ _ (by omega) (by omega)) ?_)
  go_wp2_with (refine Go.Proofs.wpList_copy_runI (o := ⟨some 82, _, _, _, _, _⟩) _ rfl _ _ 29 29 rfl _ _ rfl rfl (hcp2 _ rfl _ _ _ (by omega)) ?_)
  go_ret
  refine ⟨_, rfl, ?_, ?_⟩
  · have hgW : (w.drew.setRow g R1.toArray).heap[g]? = some (.cells R1.toArray 32 (0, 0)) := setRow_heap w.drew g cur _ _ _ HG.out
    have hlen : (l.take i ++ x :: l.drop i).length = l.length + 1 := by simp only [List.length_append, List.length_take, List.length_cons, List.length_drop]; omega
    show World.ownsRow _ _ _ _ _ _ _
    rw [hlen]
    exact owns_setRow hgW HB.out HROOM.out HCAP.out HR.out.1 (by rw [flat_len _ _ cellsC_len _, hlen]) HR.out.2
  · exact below_setRow (below_setRow (Below.refl _ _).drew HB.out _) HB.out _
end Go.Proofs.YtdgcdekgleegbaaGreat
/- The contract of slices.Insert of one cell, at a row of one's own: at its end, and where there is no room. -/
namespace Go.Proofs.YtdgcdekgleegbaaGreat
open Go.RowKit
open Sl (Cl Kd)
theorem insertC_end (B vb vc : Nat) (v : Value) (l : List Cl) (x : Cl) (T : TypeId) (w : World) (hv : RowC w B v l) (hB : B ≤ w.heap.size) (hl : l.length ≤ 100000) (hvb : w.heap[vb]? = some (.cells (cellsC x).toArray T (0, 0))) :
    Calls Tryz.prog 140 #[v, .int .i64 l.length, .slice (some ⟨vb, 0, none⟩) 1 vc] w (InsOutC B (l ++ [x]) w) := by
  obtain ⟨i0, hi0, hz0, hz1, hz2⟩ := info_parts info42
  have HOWN := Lib.hid hv
  have HLO := Lib.hid (fun k hk => (World.ownsRow.lt hv k hk).1)
  have HF := Lib.hid (flatAtC x vb T w hvb)
  have HXL := Lib.hid (show (cellsC x).length = 1 * 4 from cellsC_len x)
  have HX1 := Lib.hid (fun u hu => cellsC_one x u hu)
  have HFIN : Hid (∀ v' w1, w1.ownsRow B 32 4 v' (l.length + 1) (l.flatMap cellsC ++ cellsC x) → RowC w1 B v' (l ++ [x])) := fun v' w1 h => by
    show World.ownsRow _ _ _ _ _ _ _
    rw [List.length_append, List.flatMap_append]
    simpa using h
  obtain ⟨_, h1⟩ := hv
  rcases h1 with ⟨rfl, h0⟩ | ⟨g, cap, cur, rfl, hg, _, hn, hm, _, _⟩
  · obtain rfl : l = [] := List.length_eq_zero_iff.1 h0
    clear hvb
    go_enter Tryz.func140, Tryz.ntmps140
    go_wp2_with (at_builtin; refine wpList_append_own _ rfl _ _ 29 rfl B 32 i0 _ 4 40 Tryz.underlying29 hi0 hz0 hz1 hz2 rfl (by decide) _ 0 _ rfl HOWN.out ⟨vb, 0, none⟩ 1 vc (cellsC x) rfl HXL.out HF.out HX1.out (by unfold maxLen; omega) (by omega) hB ?_)
    intro v' w1 hown hgrow _
    go_wp2
    go_ret
    exact ⟨_, rfl, HFIN.out _ _ hown, (Below.refl _ _).grown hgrow hB (fun k hk => by simp [Value.ownBlock] at hk)⟩
  · unfold maxLen at hm
    clear hvb
    by_cases hcn : cap = l.length
    all_goals
      try subst hcn
      go_enter Tryz.func140, Tryz.ntmps140
      go_wp2_with (at_builtin; refine wpList_append_own _ rfl _ _ 29 rfl B 32 i0 _ 4 40 Tryz.underlying29 hi0 hz0 hz1 hz2 rfl (by decide) _ l.length _ rfl HOWN.out ⟨vb, 0, none⟩ 1 vc (cellsC x) rfl HXL.out HF.out HX1.out (by unfold maxLen; omega) (by omega) hB ?_)
      intro v' w1 hown hgrow _
      go_wp2
      go_ret
      exact ⟨_, rfl, HFIN.out _ _ hown, (Below.refl _ _).grown hgrow hB HLO.out⟩
theorem zeros_lenC (z : Array Value) (n : Nat) : (Builtin.zeroCells z n).size = n * z.size := by simp [Builtin.zeroCells]
set_option maxHeartbeats 8000000 in
theorem insertC_grow (B g cap i vb vc : Nat) (cur : Array Value) (l : List Cl) (x : Cl) (T : TypeId) (w : World) (hi : i < l.length) (hnc : l.length ≤ cap) (hroom : ¬ l.length + 1 ≤ cap) (hl : l.length ≤ 100000) (hB : B ≤ w.heap.size) (hg : w.heap[g]? = some (.cells cur 32 (0, 0))) (htk : cur.toList.take (l.length * 4) = l.flatMap cellsC) (hvb : w.heap[vb]? = some (.cells (cellsC x).toArray T (0, 0))) :
    Calls Tryz.prog 140 #[.slice (some ⟨g, 0, none⟩) l.length cap, .int .i64 i, .slice (some ⟨vb, 0, none⟩) 1 vc] w (InsOutC B (l.take i ++ x :: l.drop i) w) := by
  obtain ⟨i0, hi0, hz0, hz1, hz2⟩ := info_parts info42
  obtain rfl : cap = l.length := by omega
  obtain ⟨z, hzz, hzs⟩ : ∃ z, i0.zero = some z ∧ z.cells.size = 4 := ⟨_, hz0, rfl⟩
  have hs1 : (Tryz.prog.info? 32).map (·.size) = some 4 := by rw [hi0]; simp [hz1]
  have hflen : (l.flatMap cellsC).length = l.length * 4 := flat_len _ _ cellsC_len _
  have hxl := cellsC_len x
  have hglt : g < w.heap.size := (Array.getElem?_eq_some_iff.1 hg).1
  have hvlt : vb < w.heap.size := (Array.getElem?_eq_some_iff.1 hvb).1
  have hrow : ∀ k, ∀ j u, ((l.flatMap cellsC).drop (k * 4))[j]? = some u → w.cell? ((⟨g, k * 4, none⟩ : Addr).add j) = some u := rowAtC w g cur l hg htk
  have hold : (Builtin.firstCells i0.size i (.slice (some ⟨g, 0, none⟩) i l.length)).run Tryz.prog w.drew = .ok ((l.flatMap cellsC).take (i * 4)).toArray w.drew := by
    rw [hz1]
    exact run_firstCells_some w.drew 4 i ⟨g, 0, none⟩ i l.length ((l.flatMap cellsC).take (i * 4)) (by rw [List.length_take, hflen]; omega) (fun j u hj => by
      have hj2 := (List.getElem?_eq_some_iff.1 hj).1
      rw [List.length_take] at hj2
      rw [List.getElem?_take_of_lt (by omega)] at hj
      exact hrow 0 j u (by rw [Nat.zero_mul, List.drop_zero]; exact hj))
  obtain ⟨G, hG⟩ : ∃ G, G = grownCap w (l.length + 1) l.length 32 := ⟨_, rfl⟩
  have hrz : ∀ ty, (Builtin.append_ #[29, 3] ty #[.slice (some ⟨g, 0, none⟩) i l.length, .int .i64 ((l.length : Int) + 1 - (i : Int))]).run Tryz.prog w =
      .ok (.slice (some ⟨w.heap.size, 0, none⟩) (l.length + 1) G) (w.drew.alloc (.cells (((l.flatMap cellsC).take (i * 4)).toArray ++ Builtin.zeroCells z.cells (l.length + 1 - i) ++ Builtin.zeroCells z.cells (G - (l.length + 1))) 32)) := fun ty => by
    have hik : i + (l.length + 1 - i) = l.length + 1 := by omega
    have h := Lib.run_append_grow_zeros w 29 3 ty 32 i0 _ .i64 .i64 Tryz.underlying29 Tryz.underlying3 hi0 hzz (some ⟨g, 0, none⟩) i l.length _ hold (l.length + 1 - i) (by omega) (by rw [hz1]; decide) (by omega) (by omega) (by rw [hz2]; omega) (by rw [hz2, hik]; exact growslice_fits (by omega) (by omega))
    rw [hik, ← hG] at h
    rw [show (l.length : Int) + 1 - (i : Int) = ((l.length + 1 - i : Nat) : Int) by omega]
    exact h
  obtain ⟨R0, hR0⟩ : ∃ R0 : Array Value, R0 = ((l.flatMap cellsC).take (i * 4)).toArray ++ Builtin.zeroCells z.cells (l.length + 1 - i) ++ Builtin.zeroCells z.cells (G - (l.length + 1)) := ⟨_, rfl⟩
  rw [← hR0] at hrz
  have hGn : l.length + 1 ≤ G := by rw [hG]; exact grownCap_ge w _ _ _
  have hGm : G ≤ maxLen := by rw [hG]; exact grownCap_le_maxLen w (l.length + 1) l.length 32 (by unfold maxLen; omega)
  have hR0l : R0.toList.length = G * 4 := by
    rw [hR0]
    simp only [Array.toList_append, List.length_append, Array.length_toList, zeros_lenC, hzs, List.length_take, hflen]
    omega
  have hR0t : R0.toList.take (i * 4) = (l.flatMap cellsC).take (i * 4) := by
    rw [hR0]
    simp only [Array.toList_append, List.append_assoc]
    rw [List.take_append_of_le_length (by rw [List.length_take, hflen]; omega), List.take_of_length_le (by rw [List.length_take]; omega)]
  obtain ⟨R1, hR1⟩ : ∃ R1, R1 = R0.toList.take (i * 4) ++ cellsC x ++ R0.toList.drop (i * 4 + (cellsC x).length) := ⟨_, rfl⟩
  obtain ⟨R2, hR2⟩ : ∃ R2, R2 = R1.take ((i + 1) * 4) ++ (l.flatMap cellsC).drop (i * 4) ++ R1.drop ((i + 1) * 4 + ((l.flatMap cellsC).drop (i * 4)).length) := ⟨_, rfl⟩
  have hR1l : R1.length = G * 4 := by rw [hR1]; simp only [List.length_append, List.length_take, List.length_drop, hR0l, hxl]; omega
  have hh0 : ∀ W : World, W.heap = (w.alloc (.cells R0 32)).heap → W.heap[w.heap.size]? = some (.cells R0 32 (0, 0)) := fun W hW => by rw [hW]; exact heap_alloc_new w _
  have hvW : ∀ W : World, W.heap = (w.alloc (.cells R0 32)).heap → W.heap[vb]? = some (.cells (cellsC x).toArray T (0, 0)) := fun W hW => by rw [hW, Below.heap_alloc w _ vb hvlt]; exact hvb
  have hcpA : ∀ (W : World), W.heap = (w.alloc (.cells R0 32)).heap → ∀ ty dl dc, 1 ≤ dl → (Builtin.copy_ #[29, 29] ty #[.slice (some ⟨w.heap.size, i * 4, none⟩) dl dc, .slice (some ⟨vb, 0, none⟩) 1 vc]).run Tryz.prog W = .ok (goInt (Nat.min 1 dl)) (W.setRow w.heap.size R1.toArray) := fun W hW ty dl dc h1 => by
    have := run_copy_rowS (P := Tryz.prog) W 29 29 ty 32 4 w.heap.size (i * 4) dl dc ⟨vb, 0, none⟩ 1 vc R0 32 (cellsC x) Tryz.underlying29 hs1 (hh0 W hW) (by rw [hxl]; simp only [Nat.min_def]; split <;> omega) (flatAtC x vb T W (hvW W hW)) (by rw [hxl, ← Array.length_toList, hR0l]; omega) (fun v hv => cellsC_one x v hv)
    rw [this, hR1]
  have hcpB : ∀ (W : World), W.heap = ((w.alloc (.cells R0 32)).setRow w.heap.size R1.toArray).heap → ∀ ty dl dc sl sc, dl = l.length - i → sl = l.length - i → (Builtin.copy_ #[29, 29] ty #[.slice (some ⟨w.heap.size, (i + 1) * 4, none⟩) dl dc, .slice (some ⟨g, i * 4, none⟩) sl sc]).run Tryz.prog W = .ok (goInt (Nat.min sl dl)) (W.setRow w.heap.size R2.toArray) := fun W hW ty dl dc sl sc h1 h2 => by
    subst h1; subst h2
    have hgW : W.heap[w.heap.size]? = some (.cells R1.toArray 32 (0, 0)) := by rw [hW]; exact setRow_heap _ _ R0 _ _ _ (heap_alloc_new w _)
    have hgg : W.heap[g]? = some (.cells cur 32 (0, 0)) := by rw [hW, setRow_other _ _ g _ (by omega), Below.heap_alloc w _ g hglt]; exact hg
    have hfd : ((l.flatMap cellsC).drop (i * 4)).length = (l.length - i) * 4 := by rw [List.length_drop, hflen]; omega
    have := run_copy_rowS (P := Tryz.prog) W 29 29 ty 32 4 w.heap.size ((i + 1) * 4) (l.length - i) dc ⟨g, i * 4, none⟩ (l.length - i) sc R1.toArray 32 ((l.flatMap cellsC).drop (i * 4)) Tryz.underlying29 hs1 hgW (by rw [hfd]; simp only [Nat.min_def]; split <;> omega) (rowAtC W g cur l hgg htk i) (by rw [hfd, List.size_toArray, hR1l]; omega) (fun v hv => flat_oneC l v (List.mem_of_mem_drop hv))
    rw [this, hR2]
  have HR : Hid (R2.length = G * 4 ∧ R2.take ((l.length + 1) * 4) = (l.take i ++ x :: l.drop i).flatMap cellsC) := by
    have e1 : (i + 1) * 4 = i * 4 + 4 := by omega
    rw [e1] at hR2
    refine ⟨?_, ?_⟩
    · rw [hR2, hR1, seg_ins2_len (i * 4) (l.length * 4) 4 R0.toList _ _ (by omega) hflen (by rw [hR0l]; omega) hxl, hR0l]
    · rw [show (l.length + 1) * 4 = l.length * 4 + 4 by omega, hR2, hR1, seg_ins2 (i * 4) (l.length * 4) 4 R0.toList _ _ (by omega) hflen hR0t (by rw [hR0l]; omega) hxl, flat_takeC]
  have HB := Lib.hid hB
  have HGN := Lib.hid hGn
  have HGM := Lib.hid hGm
  unfold maxLen at hGm
  have hin : ¬ ((i : Int) = (l.length : Int)) := by omega
  have hb4 : ¬ (l.length = i) := by omega
  have hb5 : i ≤ l.length := by omega
  have hb6 : ¬ (G = i) := by omega
  have hb7 : ¬ (G = i + 1) := by omega
  have hw1 : IntKind.i64.wrap ((i : Int) + 1) = (i : Int) + 1 := IntWalk.i64_in _ (by omega)
  have hw2 : IntKind.i64.wrap ((l.length : Int) + 1) = (l.length : Int) + 1 := IntWalk.i64_in _ (by omega)
  have hw3 : IntKind.i64.wrap ((l.length : Int) + 1 - (i : Int)) = (l.length : Int) + 1 - (i : Int) := IntWalk.i64_in _ (by omega)
  have hb1 : (0 : Int) ≤ (i : Int) + 1 := by omega
  have htn : ((i : Int) + 1).toNat = i + 1 := by omega
  have hb3 : (i : Int) ≤ (l.length : Int) + 1 := by omega
  have mixed : Tryz.prog.follows Departure.mixedOrders = true := by kernel_rfl
  clear hR0 hR1 hR2 hR0l hR0t hR1l hh0 hvW hflen htk hvb hg hs1 hi0 hz0 hz1 hz2 hxl hzz hzs hrow hold hG hglt hvlt hroom hnc
  go_enter Tryz.func140, Tryz.ntmps140
  go_wp2_with (first
    | (at_builtin; refine Lib.wpList_append_run _ rfl _ _ _ _ rfl _ _ rfl rfl _ _ (hrz _) ?_)
    | (refine Go.Proofs.wpList_copy_runI (o := ⟨some 45, _, _, _, _, _⟩) _ rfl _ _ 29 29 rfl _ _ rfl rfl (hcpA (w.alloc (.cells R0 32)).drew rfl _ _ _ (by omega)) ?_))
  go_region_law_o (refine Go.Proofs.step_copy_runI rfl _ _ 29 29 rfl (.slice (some ⟨w.heap.size, (i + 1) * 4, none⟩) (l.length - i) (G - (i + 1))) (.slice (some ⟨g, i * 4, none⟩) (l.length - i) (l.length - i)) (by simp [Act.eval, Act.put]) (by simp [Act.eval, Act.put]) (hcpB (((w.alloc (.cells R0 32)).drew.setRow w.heap.size R1.toArray).drew) rfl 3 _ _ _ _ rfl rfl) ?_)
  go_wp2
  go_ret
  refine ⟨_, rfl, ?_, ?_⟩
  · have hgW : ((w.alloc (.cells R0 32)).drew.setRow w.heap.size R1.toArray).drew.heap[w.heap.size]? = some (.cells R1.toArray 32 (0, 0)) := setRow_heap _ _ R0 _ _ _ (heap_alloc_new w _)
    have hlen : (l.take i ++ x :: l.drop i).length = l.length + 1 := by simp only [List.length_append, List.length_take, List.length_cons, List.length_drop]; omega
    show World.ownsRow _ _ _ _ _ _ _
    rw [hlen]
    exact owns_setRow hgW HB.out HGN.out HGM.out HR.out.1 (by rw [flat_len _ _ cellsC_len _, hlen]) HR.out.2
  · exact below_setRow (below_setRow ((Below.refl _ _).alloc HB.out _).drew HB.out _).drew HB.out _
end Go.Proofs.YtdgcdekgleegbaaGreat
