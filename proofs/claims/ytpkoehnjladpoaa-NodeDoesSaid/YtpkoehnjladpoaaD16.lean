/- Texts of one seat, merged. -/
import Derived.Test.YtpkoehnjladpoaaD15
import Derived.Test.YtpkoehnjladpoaaD04
import Derived.Test.YtpkoehnjladpoaaD09
import Derived.Test.YtpkoehnjladpoaaD11
import Derived.Test.YtpkoehnjladpoaaD12
import Derived.Test.YtpkoehnjladpoaaD13
import Derived.Test.YtpkoehnjladpoaaD14
import Derived.Deep.DeepCutAuto
import Derived.Deep.RegionHeld3
set_option maxRecDepth 100000
set_option maxHeartbeats 4000000
set_option linter.unusedVariables false
/- The contract of the document's Placed. -/
namespace Go.Proofs.Ytpkoehnjladpoaa
open Go.RowKit
open Sl (Cl Kd Nd Rn)
theorem fold_snoc {β : Type} (f : β → Cl → β) (s : β) (l : List Cl) (j : Nat) (x : Cl) (h : l[j]? = some x) : (l.take (j + 1)).foldl f s = f ((l.take j).foldl f s) x := by
  rw [List.take_add_one, h, List.foldl_append]; rfl
theorem plS_len (x : Cl) : ∀ (l : List Cl) (s : List Cl × Bool), (l.foldl (Sl.plS x) s).1.length ≤ s.1.length + 2 * l.length
  | [], s => by simp
  | y :: t, s => by
    rw [List.foldl_cons]
    have ih := plS_len x t (Sl.plS x s y)
    have h : (Sl.plS x s y).1.length ≤ s.1.length + 2 := by
      unfold Sl.plS
      split
      · split <;> simp
      · simp
    rw [List.length_cons]; omega
/-- Four boxes: the node, the cell, the answer, the row's own. -/
theorem AccI.start4 (w : World) (lf : Bool) (x : Value) (c0 c1 c2 c3 : Value) : AccI w (w.heap.size + 1 + 1 + 1) (row1 w.heap.size #[.bool lf, x] ++ row1 (w.heap.size + 1) #[c0, c1, c2, c3] ++ row1 (w.heap.size + 1 + 1) #[.bool false, .slice none 0 0]) lf (.slice none 0 0) [] ((((w.alloc (.cells #[.bool lf, x] 49)).alloc (.cells #[c0, c1, c2, c3] 42)).alloc (.cells #[.bool false, .slice none 0 0] 49)).alloc (.cells #[.bool lf, .slice none 0 0] 49)) := by
  have h := (((Kp.laid (Below.refl _ w) (Nat.le_refl _) #[.bool lf, x] 49).more (Nat.le_refl _) #[c0, c1, c2, c3] 42).more (Nat.le_refl _) #[.bool false, .slice none 0 0] 49).more (Nat.le_refl _) #[.bool lf, .slice none 0 0] 49
  rw [show (w.alloc (.cells #[.bool lf, x] 49)).heap.size = w.heap.size + 1 by simp, show ((w.alloc (.cells #[.bool lf, x] 49)).alloc (.cells #[c0, c1, c2, c3] 42)).heap.size = w.heap.size + 1 + 1 by simp, show (((w.alloc (.cells #[.bool lf, x] 49)).alloc (.cells #[c0, c1, c2, c3] 42)).alloc (.cells #[.bool false, .slice none 0 0] 49)).heap.size = w.heap.size + 1 + 1 + 1 by simp] at h
  obtain ⟨⟨c0, c1⟩, f0, f1⟩ := h.right.two
  refine ⟨h.left, fun p hp => ?_, by omega, c0, c1, f0, f1, World.ownsRow_nil _ _ _ _⟩
  rcases List.mem_append.1 hp with h | h
  · rcases List.mem_append.1 h with h | h
    · rw [row1_block h]; omega
    · rw [row1_block h]; omega
  · rw [row1_block h]; omega
set_option maxHeartbeats 8000000 in
theorem rplaced_any (v : Value) (n : Rn) (x : Cl) (w : World) (hv : RnV w v n) (hl : n.l.length ≤ 50000) :
    Calls Try.prog 21 #[v, aggC x] w (RetR (Sl.placedR n x) w) := by
  obtain ⟨vc, rfl, hc, hcc⟩ := hv
  obtain ⟨lf, l⟩ := n
  simp only at hc hl ⊢
  clear hcc
  unfold rnV aggC
  obtain ⟨a, b, o, c, rfl, ha, hx⟩ := hc
  have HX := Lib.hid hx
  have HA := Lib.hid ha
  clear ha hx
  have HW : Hid (Sl.placedR ⟨lf, l⟩ x = ⟨lf, if (l.foldl (Sl.plS x) ([], false)).2 then (l.foldl (Sl.plS x) ([], false)).1 else (l.foldl (Sl.plS x) ([], false)).1 ++ [x]⟩) := rfl
  generalize Sl.placedR ⟨lf, l⟩ x = R at HW ⊢
  have HI0 := Lib.hid (AccI.start4 w lf (.slice a l.length c) (.string (str x.key)) (.string (str x.val)) (.int .u32 x.chain) (.int .u32 x.long))
  go_enter Try.func21, Try.ntmps21
  go_wp2
  generalize ((((w.alloc (.cells #[.bool lf, .slice a l.length c] 49)).alloc (.cells #[.string (str x.key), .string (str x.val), .int .u32 x.chain, .int .u32 x.long] 42)).alloc (.cells #[.bool false, .slice none 0 0] 49)).alloc (.cells #[.bool lf, .slice none 0 0] 49)) = W0 at HI0 ⊢
  go_loopg [6, 15] l.length (fun n d i wr => ∃ (j : Nat) (m : List Cl) (dn : Bool), j ≤ l.length ∧ n = l.length - j ∧ d = .bool dn ∧ i = .int .i64 (j : Nat) ∧ Hid ((l.take j).foldl (Sl.plS x) ([], false) = (m, dn)) ∧ ∃ s, Hid (AccI w (w.heap.size + 1 + 1 + 1) (row1 w.heap.size #[.bool lf, .slice a l.length c] ++ row1 (w.heap.size + 1) #[.string (str x.key), .string (str x.val), .int .u32 x.chain, .int .u32 x.long] ++ row1 (w.heap.size + 1 + 1) #[.bool false, .slice none 0 0]) lf s m wr))
  case atStart => exact ⟨0, [], false, Nat.zero_le _, rfl, rfl, rfl, Lib.hid rfl, _, HI0⟩
  case round =>
    obtain ⟨j, m, dn, hk', rfl, rfl, rfl, HM, s, HJ⟩ := hrel
    have HML : Hid (m.length ≤ 2 * j) := by
      have h := plS_len x (l.take j) ([], false)
      rw [HM.out, List.length_take] at h
      show _ ≤ _
      simp at h; omega
    by_cases hlt : j < l.length
    · obtain ⟨y, hy⟩ := take_some l j hlt
      obtain ⟨e0, e1, e2, e3⟩ := HX.out j y hy
      have hblt : b < w.heap.size := World.block_lt_of_cell? _ _ e0
      have d0 := (HJ.out.kp.below.cell (p := ⟨b, o + j * 4, none⟩) hblt).trans e0
      have d1 := (HJ.out.kp.below.cell (p := ⟨b, o + j * 4 + 1, none⟩) hblt).trans e1
      have d2 := (HJ.out.kp.below.cell (p := ⟨b, o + j * 4 + 2, none⟩) hblt).trans e2
      have d3 := (HJ.out.kp.below.cell (p := ⟨b, o + j * 4 + 3, none⟩) hblt).trans e3
      obtain rfl : a = some ⟨b, o, none⟩ := by
        rcases HA.out with h | h
        · rw [h] at hlt; cases hlt
        · exact h
      have hji : (j : Int) < l.length := by omega
      have HF := Lib.hid ((fold_snoc (Sl.plS x) ([], false) l j y hy).trans (by rw [HM.out]))
      have HJ1 := Lib.hid (HJ.out.step (oneB' wr (.cells #[.string (str y.key), .string (str y.val), .int .u32 y.chain, .int .u32 y.long] 42)))
      have HBY := Lib.hid (Kp.laid (Below.refl wr.heap.size wr) (Nat.le_refl _) #[.string (str y.key), .string (str y.val), .int .u32 y.chain, .int .u32 y.long] 42)
      clear e0 e1 e2 e3 hblt hy
      go_upto_region 6 with fail
      clear d0 d1 d2 d3
      generalize (wr.alloc (.cells #[.string (str y.key), .string (str y.val), .int .u32 y.chain, .int .u32 y.long] 42)) = W1 at HJ1 HBY ⊢
      have HQ : Hid (w.heap.size + 1 + 1 + 1 < wr.heap.size) := World.block_lt_of_cell? _ _ HJ.out.c0
      have HNS : Hid (s.ownBlock ≠ some wr.heap.size) := fun h => Nat.lt_irrefl _ (HJ.out.row.lo _ h)
      clear HJ
      have HW1 : Hid (wr.heap.size < W1.heap.size) := World.block_lt_of_cell? _ _ HBY.out.four.1.1
      generalize wr.heap.size = q at HBY HQ HW1 HNS ⊢
      obtain ⟨⟨x0, x1, x2, x3⟩, _⟩ := HJ1.out.kp.left.right.four
      obtain ⟨⟨y0, y1, y2, y3⟩, _⟩ := HBY.out.four
      have m1c := HJ1.out.c1
      have m1f := HJ1.out.f1
      cases dn with
      | true =>
        have HF2 : Hid ((l.take (j + 1)).foldl (Sl.plS x) ([], false) = (m ++ [y], true)) := HF.out.trans (by unfold Sl.plS; rw [if_neg (by simp)])
        obtain ⟨a6, n6, c6, w6, hrun6, m1, m2, m3, _⟩ := HJ1.out.push y (by have := HML.out; omega) W1.heap.size rfl
        have HM2 := Lib.hid m3
        clear m3
        go_wp2_with (at_builtin; refine Lib.wpList_append_run _ rfl _ _ _ _ rfl _ _ rfl rfl _ _ hrun6 ?_)
        go_roundg (l.length - (j + 1))
        case measure => omega
        case rel => exact ⟨j + 1, _, _, by omega, rfl, rfl, by go_num, HF2, _, HM2⟩
      | false =>
        cases hle : Sl.less y.key x.key with
        | true =>
          have hb1 : Op.bytesLess (str y.key).toList (str x.key).toList = true := (bl _ _).trans hle
          have hb3 : Op.bytesLess (str x.key).toList (str y.key).toList = false := (bl _ _).trans (Sl.less_asym _ _ hle)
          have hb2 := str_bne (a := x.key) (b := y.key) (fun e => by rw [e, Sl.less_self] at hle; cases hle)
          have HF2 : Hid ((l.take (j + 1)).foldl (Sl.plS x) ([], false) = (m ++ [y], false)) := HF.out.trans (by unfold Sl.plS; rw [if_neg (by simp [hle])])
          obtain ⟨a6, n6, c6, w6, hrun6, m1, m2, m3, _⟩ := HJ1.out.push y (by have := HML.out; omega) W1.heap.size rfl
          have HM2 := Lib.hid m3
          clear m3 hle
          go_wp2_with (at_builtin; refine Lib.wpList_append_run _ rfl _ _ _ _ rfl _ _ rfl rfl _ _ hrun6 ?_)
          go_roundg (l.length - (j + 1))
          case measure => omega
          case rel => exact ⟨j + 1, _, _, by omega, rfl, rfl, by go_num, HF2, _, HM2⟩
        | false =>
          have hb1 : Op.bytesLess (str y.key).toList (str x.key).toList = false := (bl _ _).trans hle
          obtain ⟨a6, n6, c6, w6, hrun6, m1, m2, m3, mk⟩ := HJ1.out.push x (by have := HML.out; omega) W1.heap.size rfl
          have HM2 := Lib.hid m3
          have hgq : q ≠ w.heap.size + 1 + 1 + 1 := by have := HQ.out; omega
          have HY6 := Lib.hid (And.intro (mk q 0 _ HNS.out hgq y0) (And.intro (mk q 1 _ HNS.out hgq y1) (And.intro (mk q 2 _ HNS.out hgq y2) (mk q 3 _ HNS.out hgq y3))))
          clear m3 mk hgq
          by_cases he : x.key = y.key
          · have hb2 := str_beq he
            have hb3 : Op.bytesLess (str x.key).toList (str y.key).toList = false := (bl _ _).trans (by rw [he]; exact Sl.less_self _)
            have HF2 : Hid ((l.take (j + 1)).foldl (Sl.plS x) ([], false) = (m ++ [x], true)) := HF.out.trans (by unfold Sl.plS; rw [if_pos (by simp [hle]), if_pos he])
            clear hle he
            go_upto_region 9 with (at_builtin; refine Lib.wpList_append_run _ rfl _ _ _ _ rfl _ _ rfl rfl _ _ hrun6 ?_)
            clear hrun6 m1 m2 m1c m1f x0 x1 x2 x3 y0 y1 y2 y3
            generalize (w6.setCell ⟨w.heap.size + 1 + 1 + 1, 1, none⟩ (.slice a6 n6 c6)) = W2 at HM2 HY6 ⊢
            obtain ⟨⟨x0, x1, x2, x3⟩, _⟩ := HM2.out.kp.left.right.four
            obtain ⟨y0, y1, y2, y3⟩ := HY6.out
            go_wp2
            go_roundg (l.length - (j + 1))
            case measure => omega
            case rel => exact ⟨j + 1, _, _, by omega, rfl, rfl, by go_num, HF2, _, HM2⟩
          · have hb2 := str_bne he
            have hb3 : Op.bytesLess (str x.key).toList (str y.key).toList = true := (bl _ _).trans (by
              cases h : Sl.less x.key y.key
              · exact absurd (Sl.less_tri x.key y.key h hle) he
              · rfl)
            have HF2 : Hid ((l.take (j + 1)).foldl (Sl.plS x) ([], false) = (m ++ [x] ++ [y], true)) := HF.out.trans (by unfold Sl.plS; rw [if_pos (by simp [hle]), if_neg he])
            clear hle he
            go_upto_region 9 with (at_builtin; refine Lib.wpList_append_run _ rfl _ _ _ _ rfl _ _ rfl rfl _ _ hrun6 ?_)
            clear hrun6 m1 m2 m1c m1f x0 x1 x2 x3 y0 y1 y2 y3
            generalize (w6.setCell ⟨w.heap.size + 1 + 1 + 1, 1, none⟩ (.slice a6 n6 c6)) = W2 at HM2 HY6 ⊢
            obtain ⟨⟨x0, x1, x2, x3⟩, _⟩ := HM2.out.kp.left.right.four
            obtain ⟨y0, y1, y2, y3⟩ := HY6.out
            have m1c := HM2.out.c1
            have m1f := HM2.out.f1
            obtain ⟨a7, n7, c7, w7, hrun7, m1, m2, m3, _⟩ := HM2.out.push y (by have := HML.out; rw [List.length_append]; simp; omega) W2.heap.size rfl
            have HM3 := Lib.hid m3
            clear m3
            go_wp2_with (at_builtin; refine Lib.wpList_append_run _ rfl _ _ _ _ rfl _ _ rfl rfl _ _ hrun7 ?_)
            go_roundg (l.length - (j + 1))
            case measure => omega
            case rel => exact ⟨j + 1, _, _, by omega, rfl, rfl, by go_num, HF2, _, HM3⟩
    · obtain rfl : j = l.length := by omega
      rw [List.take_length] at HM
      obtain ⟨⟨x0, x1, x2, x3⟩, _⟩ := HJ.out.kp.left.right.four
      obtain ⟨⟨z0, z1⟩, z2, z3⟩ := HJ.out.kp.right.two
      have hq : w.heap.size + 1 + 1 < w.heap.size + 1 + 1 + 1 + 1 := by omega
      have k0 := HJ.out.c0
      have k1 := HJ.out.c1
      have k2 := HJ.out.f1
      cases dn with
      | true =>
        obtain ⟨a6, c6, rfl, hcap⟩ := HJ.out.row.form
        have HC6 := Lib.hid hcap
        clear hcap
        go_wp2
        refine bodyPost_ret_by (v := rnV lf (.slice a6 m.length c6)) ?_ rfl ?_
        · simp [rnV, results, Try.results21, go_sem, z0, z1]
        · refine ⟨_, rfl, ?_, below_set2 HJ.out.kp.below (by omega)⟩
          rw [HW.out, HM.out]
          exact ⟨_, rfl, ((HJ.out.row.set hq _).set hq _).sl, HC6.out⟩
      | false =>
        obtain ⟨a6, n6, c6, w6, hrun6, m1, m2, m3, _⟩ := HJ.out.push x (by have := HML.out; omega) wr.heap.size rfl
        have HM2 := Lib.hid m3
        have HC6 := Lib.hid m3.row.cap
        clear m3
        go_upto_region 14 with (at_builtin; refine Lib.wpList_append_run _ rfl _ _ _ _ rfl _ _ rfl rfl _ _ hrun6 ?_)
        clear hrun6 m1 m2 k0 k1 k2 x0 x1 x2 x3 z0 z1 z2 z3
        generalize (w6.setCell ⟨w.heap.size + 1 + 1 + 1, 1, none⟩ (.slice a6 n6 c6)) = W2 at HM2 ⊢
        obtain ⟨⟨z0, z1⟩, z2, z3⟩ := HM2.out.kp.right.two
        have k0 := HM2.out.c0
        have k1 := HM2.out.c1
        go_wp2
        refine bodyPost_ret_by (v := rnV lf (.slice a6 n6 c6)) ?_ rfl ?_
        · simp [rnV, results, Try.results21, go_sem, z0, z1]
        · refine ⟨_, rfl, ?_, below_set2 HM2.out.kp.below (by omega)⟩
          rw [HW.out, HM.out]
          exact ⟨_, rfl, ((HM2.out.row.set hq _).set hq _).sl, HC6.out⟩
end Go.Proofs.Ytpkoehnjladpoaa
/- For the law NodeDoes: tools. -/
namespace Go.Proofs.Ytpkoehnjladpoaa
open Go.RowKit
open Sl (Cl Kd Nd Rn)
theorem SlC.form3 {w : World} {v : Value} {l : List Cl} (h : SlC w v l) : ∃ a c, v = .slice a l.length c := by
  obtain ⟨a, b, o, c, hv, _⟩ := h
  exact ⟨a, c, hv⟩
theorem twoM {w w1 : World} {L : List (Addr × Value)} (h : Kp w.heap.size w L w1) (A : Array Value) (T : TypeId) (B : Array Value) (U : TypeId) : Kp w.heap.size w (L ++ row1 w1.heap.size A ++ row1 (w1.heap.size + 1) B) ((w1.alloc (.cells A T)).alloc (.cells B U)) := by
  have h1 := h.more (Nat.le_refl _) A T
  have h2 := h1.more (Nat.le_refl _) B U
  rwa [show (w1.alloc (.cells A T)).heap.size = w1.heap.size + 1 by simp] at h2
theorem twoB2 (w : World) (A B : Obj) : Below w.heap.size w ((w.alloc A).alloc B) := ((Below.refl _ _).alloc (Nat.le_refl _) _).alloc (by simp) _
theorem Kp.lts {B : Nat} {w0 w : World} {L : List (Addr × Value)} (h : Kp B w0 L w) : ∀ p ∈ L, p.1.block < w.heap.size := fun p hp => World.block_lt_of_cell? _ _ (h.cell p hp)
theorem Kp.put4 {B : Nat} {w0 w : World} {L : List (Addr × Value)} {g : Nat} {x0 x1 x2 x3 : Value} (h : Kp B w0 (L ++ row1 g #[x0, x1, x2, x3]) w) (hL : ∀ p ∈ L, p.1.block < g) (hB : B ≤ g) (y0 y1 y2 y3 : Value) :
    Kp B w0 (L ++ row1 g #[y0, y1, y2, y3]) ((((w.setCell ⟨g, 0, none⟩ y0).setCell ⟨g, 1, none⟩ y1).setCell ⟨g, 2, none⟩ y2).setCell ⟨g, 3, none⟩ y3) := by
  obtain ⟨⟨c0, c1, c2, c3⟩, f0, f1, f2, f3⟩ := h.right.four
  have hne : ∀ i, ∀ q ∈ L, q.1 ≠ (⟨g, i, none⟩ : Addr) := fun i q hq he => by have := hL q hq; rw [he] at this; exact Nat.lt_irrefl _ this
  have hk := (((h.left.set (p := ⟨g, 0, none⟩) (hne 0) hB y0).set (p := ⟨g, 1, none⟩) (hne 1) hB y1).set (p := ⟨g, 2, none⟩) (hne 2) hB y2).set (p := ⟨g, 3, none⟩) (hne 3) hB y3
  refine hk.both ⟨fun p hp => ?_, fun p hp => ?_, hk.below⟩
  · obtain ⟨i, hi, rfl⟩ := List.mem_map.1 hp
    have hi4 : i < 4 := List.mem_range.1 hi
    match i, hi4 with
    | 0, _ => exact (World.cell?_setCell_other _ _ _ _ (by simp)).trans ((World.cell?_setCell_other _ _ _ _ (by simp)).trans ((World.cell?_setCell_other _ _ _ _ (by simp)).trans (World.cell?_setCell_same' _ _ _ (by rw [c0]; rfl))))
    | 1, _ => exact (World.cell?_setCell_other _ _ _ _ (by simp)).trans ((World.cell?_setCell_other _ _ _ _ (by simp)).trans (World.cell?_setCell_same' _ _ _ (by rw [World.cell?_setCell_other _ _ _ _ (by simp), c1]; rfl)))
    | 2, _ => exact (World.cell?_setCell_other _ _ _ _ (by simp)).trans (World.cell?_setCell_same' _ _ _ (by rw [World.cell?_setCell_other _ _ _ _ (by simp), World.cell?_setCell_other _ _ _ _ (by simp), c2]; rfl))
    | 3, _ => exact World.cell?_setCell_same' _ _ _ (by rw [World.cell?_setCell_other _ _ _ _ (by simp), World.cell?_setCell_other _ _ _ _ (by simp), World.cell?_setCell_other _ _ _ _ (by simp), c3]; rfl)
  · obtain ⟨i, hi, rfl⟩ := List.mem_map.1 hp
    have hi4 : i < 4 := List.mem_range.1 hi
    show World.frozen? _ _ = false
    rw [World.frozen?_setCell, World.frozen?_setCell, World.frozen?_setCell, World.frozen?_setCell]
    match i, hi4 with
    | 0, _ => exact f0
    | 1, _ => exact f1
    | 2, _ => exact f2
    | 3, _ => exact f3
/-- What the law's search comes to. -/
structure Found (l : List Cl) (key : List UInt8) (th : Bool) (y : Cl) (p : Int) : Prop where
  hs : Sl.hs l key l.length = (y, p)
  hp : decide (0 ≤ p) = th
  hr : Sl.toR ⟨true, Sl.cutL Sl.shC l key, []⟩ = Sl.woR (Sl.toR ⟨true, l, []⟩) p
theorem found_any (l : List Cl) (key : List UInt8) (h : Sl.rises Sl.shC l = true) (x : Cl) (hx : Sl.there Sl.shC l key = true → l[Sl.place Sl.shC l key]? = some x) (hx0 : Sl.there Sl.shC l key = false → x = ⟨[], [], 0, 0⟩) : ∃ p, Found l key (Sl.there Sl.shC l key) x p := by
  cases ht : Sl.there Sl.shC l key with
  | true =>
    obtain ⟨y, hy, h1, h2⟩ := Sl.hs_there l key h ht
    rw [hx ht] at hy
    cases hy
    exact ⟨_, h1, decide_eq_true (by omega), h2⟩
  | false =>
    obtain ⟨h1, h2⟩ := Sl.hs_gone l key h ht
    rw [hx0 ht]
    exact ⟨_, h1, by decide, h2⟩
end Go.Proofs.Ytpkoehnjladpoaa
/- Sixteen cells that stay as they were. -/
namespace Go.Proofs.Ytpkoehnjladpoaa
open Go.RowKit
theorem step16w {w w1 w2 : World} {B : Nat} {p0 p1 p2 p3 p4 p5 p6 p7 p8 p9 p10 p11 p12 p13 p14 p15 : Addr} {x0 x1 x2 x3 x4 x5 x6 x7 x8 x9 x10 x11 x12 x13 x14 x15 : Value} (hB : B ≤ w.heap.size) (H : w1.cell? p0 = some x0 ∧ w1.cell? p1 = some x1 ∧ w1.cell? p2 = some x2 ∧ w1.cell? p3 = some x3 ∧ w1.cell? p4 = some x4 ∧ w1.cell? p5 = some x5 ∧ w1.cell? p6 = some x6 ∧ w1.cell? p7 = some x7 ∧ w1.cell? p8 = some x8 ∧ w1.cell? p9 = some x9 ∧ w1.cell? p10 = some x10 ∧ w1.cell? p11 = some x11 ∧ w1.cell? p12 = some x12 ∧ w1.cell? p13 = some x13 ∧ w1.cell? p14 = some x14 ∧ w1.cell? p15 = some x15 ∧ Below B w w1) (hb : Below w1.heap.size w1 w2) : w2.cell? p0 = some x0 ∧ w2.cell? p1 = some x1 ∧ w2.cell? p2 = some x2 ∧ w2.cell? p3 = some x3 ∧ w2.cell? p4 = some x4 ∧ w2.cell? p5 = some x5 ∧ w2.cell? p6 = some x6 ∧ w2.cell? p7 = some x7 ∧ w2.cell? p8 = some x8 ∧ w2.cell? p9 = some x9 ∧ w2.cell? p10 = some x10 ∧ w2.cell? p11 = some x11 ∧ w2.cell? p12 = some x12 ∧ w2.cell? p13 = some x13 ∧ w2.cell? p14 = some x14 ∧ w2.cell? p15 = some x15 ∧ Below B w w2 := by
  obtain ⟨h0, h1, h2, h3, h4, h5, h6, h7, h8, h9, h10, h11, h12, h13, h14, h15, hq⟩ := H
  exact ⟨(hb.cell (p := p0) (World.block_lt_of_cell? _ _ h0)).trans h0, (hb.cell (p := p1) (World.block_lt_of_cell? _ _ h1)).trans h1, (hb.cell (p := p2) (World.block_lt_of_cell? _ _ h2)).trans h2, (hb.cell (p := p3) (World.block_lt_of_cell? _ _ h3)).trans h3, (hb.cell (p := p4) (World.block_lt_of_cell? _ _ h4)).trans h4, (hb.cell (p := p5) (World.block_lt_of_cell? _ _ h5)).trans h5, (hb.cell (p := p6) (World.block_lt_of_cell? _ _ h6)).trans h6, (hb.cell (p := p7) (World.block_lt_of_cell? _ _ h7)).trans h7, (hb.cell (p := p8) (World.block_lt_of_cell? _ _ h8)).trans h8, (hb.cell (p := p9) (World.block_lt_of_cell? _ _ h9)).trans h9, (hb.cell (p := p10) (World.block_lt_of_cell? _ _ h10)).trans h10, (hb.cell (p := p11) (World.block_lt_of_cell? _ _ h11)).trans h11, (hb.cell (p := p12) (World.block_lt_of_cell? _ _ h12)).trans h12, (hb.cell (p := p13) (World.block_lt_of_cell? _ _ h13)).trans h13, (hb.cell (p := p14) (World.block_lt_of_cell? _ _ h14)).trans h14, (hb.cell (p := p15) (World.block_lt_of_cell? _ _ h15)).trans h15, hq.trans (hb.mono (Nat.le_trans hB hq.size))⟩
theorem last16w {w w1 : World} {B : Nat} {p0 p1 p2 p3 p4 p5 p6 p7 p8 p9 p10 p11 p12 p13 p14 p15 : Addr} {x0 x1 x2 x3 x4 x5 x6 x7 x8 x9 x10 x11 x12 x13 x14 x15 : Value} (H : w1.cell? p0 = some x0 ∧ w1.cell? p1 = some x1 ∧ w1.cell? p2 = some x2 ∧ w1.cell? p3 = some x3 ∧ w1.cell? p4 = some x4 ∧ w1.cell? p5 = some x5 ∧ w1.cell? p6 = some x6 ∧ w1.cell? p7 = some x7 ∧ w1.cell? p8 = some x8 ∧ w1.cell? p9 = some x9 ∧ w1.cell? p10 = some x10 ∧ w1.cell? p11 = some x11 ∧ w1.cell? p12 = some x12 ∧ w1.cell? p13 = some x13 ∧ w1.cell? p14 = some x14 ∧ w1.cell? p15 = some x15 ∧ Below B w w1) : Below B w w1 := H.2.2.2.2.2.2.2.2.2.2.2.2.2.2.2.2
end Go.Proofs.Ytpkoehnjladpoaa
/- For the law NodeDoes at a branch: tools. -/
namespace Go.Proofs.Ytpkoehnjladpoaa.Sl
theorem rises_kids (l : List Cl) : rises shK (l.map toK) = rises shC l := by
  cases h : rises shC l with
  | true =>
    rw [rises_pw] at h ⊢
    rw [List.pairwise_map]
    exact h
  | false =>
    cases h2 : rises shK (l.map toK) with
    | false => rfl
    | true =>
      rw [rises_pw, List.pairwise_map] at h2
      have h3 : rises shC l = true := (rises_pw shC l).2 h2
      rw [h3] at h; cases h
theorem setPage_len (l : List Kd) (p : Int) (g : Nat) : (setPage l p g).length = l.length := by
  unfold setPage; split
  · exact List.length_modify _ _ _
  · rfl
theorem toR_page (ks : List Kd) (p : Int) (g : Nat) : toR ⟨false, [], setPage ks p g⟩ = ⟨false, setChain (ks.map toC) p g⟩ := by
  rw [setChain_map]; rfl
end Go.Proofs.Ytpkoehnjladpoaa.Sl
namespace Go.Proofs.Ytpkoehnjladpoaa
open Go.RowKit
open Sl (Cl Kd Nd Rn)
theorem flat_chain : ∀ (l : List Cl) (p g : Nat), p < l.length → (l.flatMap cellsC).set (p * 4 + 2) (.int .u32 g) = (l.modify p (fun x => ⟨x.key, x.val, g, x.long⟩)).flatMap cellsC
  | [], p, g, h => absurd h (Nat.not_lt_zero _)
  | y :: t, 0, g, _ => by simp [cellsC]
  | y :: t, p + 1, g, h => by
    have ih := flat_chain t p g (by simpa using h)
    have hy := cellsC_len y
    rw [List.modify_succ_cons, List.flatMap_cons, List.flatMap_cons, ← ih, List.set_append_right _ _ (by omega), show (p + 1) * 4 + 2 - (cellsC y).length = p * 4 + 2 by omega]
theorem RnV.slc {w : World} {b : Bool} {u : Value} {n : Rn} (h : RnV w (.agg #[.bool b, u]) n) : SlC w u n.l ∧ Cap u := by
  obtain ⟨vc, hv, hc, hcc⟩ := h
  unfold rnV at hv
  simp at hv
  rw [hv.2]; exact ⟨hc, hcc⟩
theorem SlK.form3 {w : World} {v : Value} {l : List Kd} (h : SlK w v l) : ∃ a c, v = .slice a l.length c := by
  obtain ⟨a, b, o, c, hv, _⟩ := h
  exact ⟨a, c, hv⟩
theorem hasK_out (n : Nd) (p : Int) (h : ¬ (0 ≤ p ∧ p < n.ks.length)) : Sl.hasK n p = false := by
  unfold Sl.hasK
  by_cases h0 : 0 ≤ p
  · rw [decide_eq_false (fun h1 => h ⟨h0, h1⟩)]; simp
  · rw [decide_eq_false h0]; simp
theorem turnK_all (v : Value) (ks : List Kd) (p : Int) (g : Nat) (w : World) (hv : NdV w v ⟨false, [], ks⟩) (hl : ks.length ≤ 100000) :
    Calls Try.prog 22 #[v, .int .i64 p, .int .u32 g] w (RetN ⟨false, [], Sl.setPage ks p g⟩ w) := by
  by_cases h : 0 ≤ p ∧ p < ks.length
  · obtain ⟨q, rfl⟩ : ∃ q : Nat, p = q := ⟨p.toNat, by omega⟩
    exact turn_in v ⟨false, [], ks⟩ q g w hv rfl hl (show q < ks.length by omega)
  · rw [show Sl.setPage ks p g = ks by unfold Sl.setPage; rw [if_neg h]]
    exact turnK_no v ⟨false, [], ks⟩ p g w hv rfl hl (hasK_out _ _ h)
theorem remK_all (v : Value) (ks : List Kd) (p : Int) (w : World) (hv : NdV w v ⟨false, [], ks⟩) (hl : ks.length ≤ 90000) :
    Calls Try.prog 24 #[v, .int .i64 p] w (RetN (Sl.remN ⟨false, [], ks⟩ p) w) := by
  by_cases h : 0 ≤ p ∧ p < ks.length
  · obtain ⟨q, rfl⟩ : ∃ q : Nat, p = q := ⟨p.toNat, by omega⟩
    rw [show Sl.remN ⟨false, [], ks⟩ q = ⟨false, [], Sl.setK [] (Sl.cutP ks q)⟩ by unfold Sl.remN; rw [if_neg (by simp), if_pos h]]
    exact rem_in v ⟨false, [], ks⟩ q w hv rfl (by show ks.length ≤ 100000; omega) (show q < ks.length by omega)
  · rw [show Sl.remN ⟨false, [], ks⟩ p = ⟨false, [], ks⟩ by unfold Sl.remN; rw [if_neg (by simp), if_neg h]]
    exact remK_no v ⟨false, [], ks⟩ p w hv rfl (by show ks.length ≤ 100000; omega) (hasK_out _ _ h)
theorem remN_len (ks : List Kd) (p : Int) : (Sl.remN ⟨false, [], ks⟩ p).ks.length ≤ ks.length := by
  unfold Sl.remN
  rw [if_neg (by simp)]
  split
  · show (Sl.setK [] (Sl.cutP ks p)).length ≤ _
    rw [Sl.setK_len]; exact Sl.cutP_le ks p
  · exact Nat.le_refl _
theorem remN_cs (ks : List Kd) (p : Int) : (Sl.remN ⟨false, [], ks⟩ p).cs.length = 0 := by
  unfold Sl.remN
  rw [if_neg (by simp)]
  split <;> rfl
/-- The document's node with a chain turned, in its box. -/
theorem turned_any {w : World} {g : Nat} {c : Nat} {R : List Cl} {B : Nat} (h : RowC w B (.slice (some ⟨g, 0, none⟩) R.length c) R) (p x : Nat) (hp : p < R.length) :
    RowC (w.setCell ⟨g, p * 4 + 2, none⟩ (.int .u32 x)) B (.slice (some ⟨g, 0, none⟩) R.length c) (Sl.setChain R p x) := by
  have h1 := (World.ownsRow.stored h (p * 4 + 2) (.int .u32 x)).1
  rw [flat_chain R p x hp] at h1
  unfold Sl.setChain
  rw [if_pos ⟨by omega, by omega⟩, Int.toNat_natCast]
  show World.ownsRow _ _ _ _ _ _ _
  rw [List.length_modify]
  exact h1
end Go.Proofs.Ytpkoehnjladpoaa
