/- The contract of the document's own Join. -/
import Derived.Test.YtilccpklbaglpaaFromTo
import Derived.Test.YtilccpklbaglpaaAppC
import Derived.Deep.LoopGhost
set_option maxRecDepth 100000
set_option maxHeartbeats 4000000
set_option linter.unusedVariables false
namespace Go.Proofs.Ytilccpklbaglpaa.Sl
def keyR (lf : Bool) (k : List UInt8) (l : List Cl) : List Cl := if lf then l else setC k l
def joinR (a : Rn) (k : List UInt8) (b : Rn) : Rn := ⟨a.leaf, a.l ++ keyR a.leaf k b.l⟩
theorem keyR_len (lf : Bool) (k : List UInt8) (l : List Cl) : (keyR lf k l).length = l.length := by
  unfold keyR; cases lf
  · exact setC_len k l
  · rfl
theorem keyR_true (k : List UInt8) (l : List Cl) : keyR true k l = l := rfl
theorem keyR_zero (k : List UInt8) (l : List Cl) (x : Cl) (h : l[0]? = some x) : (keyR false k l)[0]? = some ⟨k, x.val, x.chain, x.long⟩ := by
  cases l with
  | nil => simp at h
  | cons y t => simp at h; subst h; rfl
theorem keyR_succ (lf : Bool) (k : List UInt8) (l : List Cl) (j : Nat) (hj : j ≠ 0) : (keyR lf k l)[j]? = l[j]? := by
  cases lf
  · cases l with
    | nil => rfl
    | cons y t => obtain ⟨j, rfl⟩ : ∃ i, j = i + 1 := ⟨j - 1, by omega⟩; rfl
  · rfl
end Go.Proofs.Ytilccpklbaglpaa.Sl
namespace Go.Proofs.Ytilccpklbaglpaa
open Go.RowKit
open Sl (Cl Kd Nd Rn)
theorem z2At {w : World} {g : Nat} {b : Bool} {v : Value} (hg : w.heap.size = g) : (w.alloc (.cells #[.bool b, v] 49)).cell? ⟨g, 0, none⟩ = some (.bool b) ∧ (w.alloc (.cells #[.bool b, v] 49)).cell? ⟨g, 1, none⟩ = some v ∧ (w.alloc (.cells #[.bool b, v] 49)).frozen? ⟨g, 0, none⟩ = false ∧ (w.alloc (.cells #[.bool b, v] 49)).frozen? ⟨g, 1, none⟩ = false := by
  subst hg
  exact ⟨by simp, by simp, by simp, by simp⟩
theorem startR (w : World) (lf bl : Bool) (x y : Value) (W : World) (hW : W = (((w.alloc (.cells #[.bool lf, x] 49)).alloc (.cells #[.bool bl, y] 49)).alloc (.cells #[.bool false, .slice none 0 0] 49)).alloc (.cells #[.bool lf, .slice none 0 0] 49)) :
    W.heap.size = w.heap.size + 1 + 1 + 1 + 1 ∧ Below w.heap.size w W ∧ W.cell? ⟨w.heap.size, 0, none⟩ = some (.bool lf) ∧ W.cell? ⟨w.heap.size, 1, none⟩ = some x ∧ W.cell? ⟨w.heap.size + 1, 0, none⟩ = some (.bool bl) ∧ W.cell? ⟨w.heap.size + 1, 1, none⟩ = some y ∧ Z2 W (w.heap.size + 1 + 1) ∧
    W.cell? ⟨w.heap.size + 1 + 1 + 1, 0, none⟩ = some (.bool lf) ∧ W.cell? ⟨w.heap.size + 1 + 1 + 1, 1, none⟩ = some (.slice none 0 0) ∧ W.frozen? ⟨w.heap.size + 1 + 1 + 1, 0, none⟩ = false ∧ W.frozen? ⟨w.heap.size + 1 + 1 + 1, 1, none⟩ = false := by
  subst hW
  have s1 : (w.alloc (.cells #[.bool lf, x] 49)).heap.size = w.heap.size + 1 := by simp
  have s2 : ((w.alloc (.cells #[.bool lf, x] 49)).alloc (.cells #[.bool bl, y] 49)).heap.size = w.heap.size + 1 + 1 := by simp
  have s3 : (((w.alloc (.cells #[.bool lf, x] 49)).alloc (.cells #[.bool bl, y] 49)).alloc (.cells #[.bool false, .slice none 0 0] 49)).heap.size = w.heap.size + 1 + 1 + 1 := by simp
  have b4 := (Below.refl _ (((w.alloc (.cells #[.bool lf, x] 49)).alloc (.cells #[.bool bl, y] 49)).alloc (.cells #[.bool false, .slice none 0 0] 49))).alloc (Nat.le_refl _) (.cells #[.bool lf, .slice none 0 0] 49)
  have b3 := ((Below.refl _ ((w.alloc (.cells #[.bool lf, x] 49)).alloc (.cells #[.bool bl, y] 49))).alloc (Nat.le_refl _) (.cells #[.bool false, .slice none 0 0] 49)).alloc (by simp <;> omega) (.cells #[.bool lf, .slice none 0 0] 49)
  have b2 := (((Below.refl _ (w.alloc (.cells #[.bool lf, x] 49))).alloc (Nat.le_refl _) (.cells #[.bool bl, y] 49)).alloc (by simp <;> omega) (.cells #[.bool false, .slice none 0 0] 49)).alloc (by simp <;> omega) (.cells #[.bool lf, .slice none 0 0] 49)
  have b1 := ((((Below.refl _ w).alloc (Nat.le_refl _) (.cells #[.bool lf, x] 49)).alloc (by simp <;> omega) (.cells #[.bool bl, y] 49)).alloc (by simp <;> omega) (.cells #[.bool false, .slice none 0 0] 49)).alloc (by simp <;> omega) (.cells #[.bool lf, .slice none 0 0] 49)
  obtain ⟨p0, p1, _, _⟩ := z2At (w := w) (b := lf) (v := x) rfl
  obtain ⟨q0, q1, _, _⟩ := z2At (w := w.alloc (.cells #[.bool lf, x] 49)) (b := bl) (v := y) s1
  have hz := Z2.new ((w.alloc (.cells #[.bool lf, x] 49)).alloc (.cells #[.bool bl, y] 49))
  rw [s2] at hz
  refine ⟨by simp, b1, (b2.cell (p := ⟨w.heap.size, 0, none⟩) (show w.heap.size < _ by omega)).trans p0, (b2.cell (p := ⟨w.heap.size, 1, none⟩) (show w.heap.size < _ by omega)).trans p1, (b3.cell (p := ⟨w.heap.size + 1, 0, none⟩) (show w.heap.size + 1 < _ by omega)).trans q0, (b3.cell (p := ⟨w.heap.size + 1, 1, none⟩) (show w.heap.size + 1 < _ by omega)).trans q1, hz.below b4, z2At s3⟩
/-- What holds of the world between two rounds of Join. -/
structure JoinI (w : World) (lf : Bool) (s : Value) (l : List Cl) (wr : World) : Prop where
  below : Below w.heap.size w wr
  leaf : wr.cell? ⟨w.heap.size, 0, none⟩ = some (.bool lf)
  res : Z2 wr (w.heap.size + 1 + 1)
  c0 : wr.cell? ⟨w.heap.size + 1 + 1 + 1, 0, none⟩ = some (.bool lf)
  c1 : wr.cell? ⟨w.heap.size + 1 + 1 + 1, 1, none⟩ = some s
  f0 : wr.frozen? ⟨w.heap.size + 1 + 1 + 1, 0, none⟩ = false
  f1 : wr.frozen? ⟨w.heap.size + 1 + 1 + 1, 1, none⟩ = false
  row : RowC wr (w.heap.size + 1 + 1 + 1 + 1) s l
  cap : Cap s
theorem JoinI.step {w wr w' : World} {lf : Bool} {s : Value} {l : List Cl} (h : JoinI w lf s l wr) (hb : Below wr.heap.size wr w') : JoinI w lf s l w' := by
  have c := fun {p : Addr} {x : Value} (hx : wr.cell? p = some x) => (hb.cell (p := p) (World.block_lt_of_cell? _ _ hx)).trans hx
  have hlt := World.block_lt_of_cell? _ _ h.c0
  exact ⟨h.below.trans (hb.mono h.below.size), c h.leaf, h.res.below hb, c h.c0, c h.c1, (hb.frozen (p := ⟨w.heap.size + 1 + 1 + 1, 0, none⟩) hlt).trans h.f0, (hb.frozen (p := ⟨w.heap.size + 1 + 1 + 1, 1, none⟩) hlt).trans h.f1, h.row.below hb, h.cap⟩
theorem slOne (W : World) (y : Cl) : SlC (W.alloc (.cells #[.string (str y.key), .string (str y.val), .int .u32 y.chain, .int .u32 y.long] 42)) (.slice (some ⟨W.heap.size, 0, none⟩) 1 1) [y] := by
  refine ⟨_, W.heap.size, 0, 1, rfl, .inr rfl, fun j x hj => ?_⟩
  obtain rfl : j = 0 := by
    have := (List.getElem?_eq_some_iff.1 hj).1
    simp at this; exact this
  simp at hj
  subst hj
  exact ⟨World.cell?_alloc_new W _ _ 0, World.cell?_alloc_new W _ _ 1, World.cell?_alloc_new W _ _ 2, World.cell?_alloc_new W _ _ 3⟩
theorem JoinI.push {w W : World} {lf : Bool} {s : Value} {l : List Cl} (h : JoinI w lf s l W) (y : Cl) (hl : l.length ≤ 200000) (Hn : Nat) (hHn : W.heap.size = Hn) :
    ∃ a n c w', (Builtin.append_ #[40, 40] 40 #[s, .slice (some ⟨Hn, 0, none⟩) 1 1]).run Try.prog (W.alloc (.cells #[.string (str y.key), .string (str y.val), .int .u32 y.chain, .int .u32 y.long] 42)) = .ok (.slice a n c) w' ∧
      w'.cell? ⟨w.heap.size + 1 + 1 + 1, 1, none⟩ = some s ∧ w'.frozen? ⟨w.heap.size + 1 + 1 + 1, 1, none⟩ = false ∧ JoinI w lf (.slice a n c) (l ++ [y]) (w'.setCell ⟨w.heap.size + 1 + 1 + 1, 1, none⟩ (.slice a n c)) := by
  subst hHn
  have H := h.step ((Below.refl _ W).alloc (Nat.le_refl _) (.cells #[.string (str y.key), .string (str y.val), .int .u32 y.chain, .int .u32 y.long] 42))
  have hlt := World.block_lt_of_cell? _ _ H.c0
  obtain ⟨v', w', hr, hrow, _, hb⟩ := appC (W.alloc (.cells #[.string (str y.key), .string (str y.val), .int .u32 y.chain, .int .u32 y.long] 42)) (w.heap.size + 1 + 1 + 1 + 1) s (.slice (some ⟨W.heap.size, 0, none⟩) 1 1) l [y] 40 hlt H.row (slOne W y) ⟨_, _, _, Nat.le_refl _, by decide, fun h => by cases h⟩ hl (by simp)
  obtain ⟨a, n, c, ha, hc, hn⟩ := hrow.cap
  have k1 := (hb.cell (p := ⟨w.heap.size + 1 + 1 + 1, 1, none⟩) (Nat.lt_succ_self _)).trans H.c1
  have k2 := (hb.frozen (p := ⟨w.heap.size + 1 + 1 + 1, 1, none⟩) (Nat.lt_succ_self _)).trans H.f1
  refine ⟨a, n, c, w', hr, k1, k2, ?_⟩
  refine ⟨(H.below.trans (hb.mono (by omega))).setCell (show w.heap.size ≤ w.heap.size + 1 + 1 + 1 by omega) _, (World.cell?_setCell_far _ _ _ _ (show w.heap.size + 1 + 1 + 1 ≠ w.heap.size by omega)).trans ((hb.cell (p := ⟨w.heap.size, 0, none⟩) (show w.heap.size < _ by omega)).trans H.leaf), ?_, (World.cell?_setCell_other _ _ _ _ (by simp)).trans ((hb.cell (p := ⟨w.heap.size + 1 + 1 + 1, 0, none⟩) (Nat.lt_succ_self _)).trans H.c0), World.cell?_setCell_same' _ _ _ (by rw [k1]; rfl), (World.frozen?_setCell _ _ _ _).trans ((hb.frozen (p := ⟨w.heap.size + 1 + 1 + 1, 0, none⟩) (Nat.lt_succ_self _)).trans H.f0), (World.frozen?_setCell _ _ _ _).trans k2, hrow.set (Nat.lt_succ_self _) _, ⟨_, _, _, ha, hc, hn⟩⟩
  have hz : w.heap.size + 1 + 1 < w.heap.size + 1 + 1 + 1 + 1 := by omega
  exact ⟨(World.cell?_setCell_far _ _ _ _ (show w.heap.size + 1 + 1 + 1 ≠ w.heap.size + 1 + 1 by omega)).trans ((hb.cell (p := ⟨w.heap.size + 1 + 1, 0, none⟩) hz).trans H.res.z0), (World.cell?_setCell_far _ _ _ _ (show w.heap.size + 1 + 1 + 1 ≠ w.heap.size + 1 + 1 by omega)).trans ((hb.cell (p := ⟨w.heap.size + 1 + 1, 1, none⟩) hz).trans H.res.z1), (World.frozen?_setCell _ _ _ _).trans ((hb.frozen (p := ⟨w.heap.size + 1 + 1, 0, none⟩) hz).trans H.res.f0), (World.frozen?_setCell _ _ _ _).trans ((hb.frozen (p := ⟨w.heap.size + 1 + 1, 1, none⟩) hz).trans H.res.f1)⟩
theorem rjoin_any (u v : Value) (a b : Rn) (k0 : List UInt8) (w : World) (hu : RnV w u a) (hv : RnV w v b) (ha : a.l.length ≤ 100000) (hb : b.l.length ≤ 100000) :
    Calls Try.prog 30 #[u, .string (str k0), v] w (RetR (Sl.joinR a k0 b) w) := by
  obtain ⟨i0, hi, hz0, hz1, hz2⟩ := info_parts info42
  obtain ⟨vc, rfl, hc, hcc⟩ := hu
  obtain ⟨vc', rfl, hc', hcc'⟩ := hv
  generalize b.leaf = bl
  obtain ⟨lf, L⟩ := a
  obtain ⟨bl', M⟩ := b
  unfold rnV
  have hsl1 := hc
  have hcap1 := hcc
  obtain ⟨o1, b1, f1, c1, rfl, h1, hx1⟩ := hc
  obtain ⟨o2, b2, f2, c2, rfl, h2, hx2⟩ := hc'
  simp only at ha hb h1 h2 hx1 hx2 hsl1 hcap1 ⊢
  have HX2 := Lib.hid hx2
  have HA2 := Lib.hid h2
  clear h1 h2 hx1 hx2 hcc hcc'
  have HV1 : Hid (∀ W, Below w.heap.size w W → SlC W (.slice o1 L.length c1) L) := fun W hW => hsl1.below hW
  obtain ⟨W, hW⟩ : ∃ W, W = ((((w.alloc (.cells #[.bool lf, .slice o1 L.length c1] 49)).alloc (.cells #[.bool bl, .slice o2 M.length c2] 49)).alloc (.cells #[.bool false, .slice none 0 0] 49)).alloc (.cells #[.bool lf, .slice none 0 0] 49)) := ⟨_, rfl⟩
  obtain ⟨s0, sB, p0, p1, q0, q1, sZ, n0, n1, n2, n3⟩ := startR w lf bl _ _ W hW
  obtain ⟨v1, w1, hrun, hr1, hg1, hb1⟩ := appC W W.heap.size (.slice none 0 0) (.slice o1 L.length c1) [] L 40 (Nat.le_refl _) (World.ownsRow_nil _ _ _ _) (hsl1.below sB) hcap1 (by decide) (by omega)
  rw [List.nil_append] at hr1
  obtain ⟨a5, n5, c5, ha5, hc5, hn5⟩ := hr1.cap
  have hRR := Lib.hid hr1
  rw [s0] at hb1 hRR
  have HH : Hid (Below w.heap.size w w1 ∧ w1.cell? ⟨w.heap.size, 0, none⟩ = some (.bool lf) ∧ w1.cell? ⟨w.heap.size + 1, 1, none⟩ = some (.slice o2 M.length c2) ∧ Z2 w1 (w.heap.size + 1 + 1) ∧ w1.cell? ⟨w.heap.size + 1 + 1 + 1, 0, none⟩ = some (.bool lf) ∧ w1.cell? ⟨w.heap.size + 1 + 1 + 1, 1, none⟩ = some (.slice none 0 0) ∧ w1.frozen? ⟨w.heap.size + 1 + 1 + 1, 0, none⟩ = false ∧ w1.frozen? ⟨w.heap.size + 1 + 1 + 1, 1, none⟩ = false) :=
    ⟨sB.trans (hb1.mono (by omega)), (hb1.cell (show w.heap.size < _ by omega)).trans p0, (hb1.cell (show w.heap.size + 1 < _ by omega)).trans q1, sZ.below (s0 ▸ hb1), (hb1.cell (show w.heap.size + 1 + 1 + 1 < _ by omega)).trans n0, (hb1.cell (show w.heap.size + 1 + 1 + 1 < _ by omega)).trans n1, (hb1.frozen (show w.heap.size + 1 + 1 + 1 < _ by omega)).trans n2, (hb1.frozen (show w.heap.size + 1 + 1 + 1 < _ by omega)).trans n3⟩
  subst hW
  have e1 := HH.out.2.2.2.2.2.1
  have e3 := HH.out.2.2.2.2.2.2.2
  have e4 := HH.out.2.2.1
  clear hr1 hg1 hb1 s0 sB p0 p1 q0 q1 sZ n0 n1 n2 n3 hsl1
  go_enter Try.func30, Try.ntmps30
  go_wp2_with (at_builtin; refine Lib.wpList_append_run _ rfl _ _ _ _ rfl _ _ rfl rfl _ _ hrun ?_)
  have HI : Hid (JoinI w lf (.slice a5 n5 c5) L (w1.setCell ⟨w.heap.size + 1 + 1 + 1, 1, none⟩ (.slice a5 n5 c5))) := by
    obtain ⟨k0, k1, k2, k3, k4, k5, k6, k7⟩ := HH.out
    refine ⟨k0.setCell (by show _ ≤ _; simp <;> omega) _, (World.cell?_setCell_far _ _ _ _ (show w.heap.size + 1 + 1 + 1 ≠ w.heap.size by omega)).trans k1, ⟨(World.cell?_setCell_far _ _ _ _ (show w.heap.size + 1 + 1 + 1 ≠ w.heap.size + 1 + 1 by omega)).trans k3.z0, (World.cell?_setCell_far _ _ _ _ (show w.heap.size + 1 + 1 + 1 ≠ w.heap.size + 1 + 1 by omega)).trans k3.z1, (World.frozen?_setCell _ _ _ _).trans k3.f0, (World.frozen?_setCell _ _ _ _).trans k3.f1⟩, (World.cell?_setCell_other _ _ _ _ (by simp)).trans k4, World.cell?_setCell_same' _ _ _ (by rw [k5]; rfl), (World.frozen?_setCell _ _ _ _).trans k6, (World.frozen?_setCell _ _ _ _).trans k7, hRR.out.set (Nat.lt_succ_self _) _, ⟨_, _, _, ha5, hc5, hn5⟩⟩
  clear HH hRR HV1 hrun
  generalize (w1.setCell ⟨w.heap.size + 1 + 1 + 1, 1, none⟩ (.slice a5 n5 c5)) = w2 at HI
  go_loopg [22] M.length (fun n i wr => ∃ k : Nat, k ≤ M.length ∧ n = M.length - k ∧ i = .int .i64 k ∧ ∃ s, Hid (JoinI w lf s (L ++ (Sl.keyR lf k0 M).take k) wr))
  case atStart => exact ⟨0, Nat.zero_le _, rfl, rfl, _, Lib.hid (by rw [List.take_zero, List.append_nil]; exact HI.out)⟩
  case round =>
    obtain ⟨j, hk, rfl, rfl, s, HJ⟩ := hrel
    have j1 := fun o1 => (HJ.out.step ((Below.refl _ wr).alloc (Nat.le_refl _) o1)).leaf
    by_cases hlt : j < M.length
    · obtain ⟨x, hx⟩ := take_some M j hlt
      obtain ⟨e0, e1, e2, e3⟩ := HX2.out j x hx
      have hblt : b2 < w.heap.size := World.block_lt_of_cell? _ _ e0
      have d0 := (HJ.out.below.cell (p := ⟨b2, f2 + j * 4, none⟩) hblt).trans e0
      have d1 := (HJ.out.below.cell (p := ⟨b2, f2 + j * 4 + 1, none⟩) hblt).trans e1
      have d2 := (HJ.out.below.cell (p := ⟨b2, f2 + j * 4 + 2, none⟩) hblt).trans e2
      have d3 := (HJ.out.below.cell (p := ⟨b2, f2 + j * 4 + 3, none⟩) hblt).trans e3
      obtain rfl : o2 = some ⟨b2, f2, none⟩ := by
        rcases HA2.out with h | h
        · rw [h] at hlt; cases hlt
        · exact h
      have hki : (j : Int) < M.length := by omega
      have hk0 : (0 : Int) ≤ (j : Int) := by omega
      have hsl : (L ++ (Sl.keyR lf k0 M).take j).length ≤ 200000 := by rw [List.length_append, List.length_take]; omega
      have htk := fun y (h : (Sl.keyR lf k0 M)[j]? = some y) => Lib.hid (Sl.take_snoc' (Sl.keyR lf k0 M) j y h)
      clear e0 e1 e2 e3 hblt
      by_cases hkey : j = 0 ∧ lf = false
      · obtain ⟨hj0, rfl⟩ := hkey
        subst hj0
        simp only [Nat.zero_mul, Nat.add_zero] at d0 d1 d2 d3
        obtain ⟨a6, n6, c6, w6, hrun6, m1, m2, m3⟩ := (HJ.out.step ((Below.refl _ wr).alloc (Nat.le_refl _) (.cells #[.string (str k0), .string (str x.val), .int .u32 x.chain, .int .u32 x.long] 42))).push ⟨k0, x.val, x.chain, x.long⟩ hsl (wr.heap.size + 1) (by simp)
        have HM := Lib.hid m3
        clear m3
        have hne0 : w.heap.size + 1 + 1 + 1 < wr.heap.size := World.block_lt_of_cell? _ _ HJ.out.c0
        have hne1 : ¬ wr.heap.size = w.heap.size + 1 + 1 + 1 := by omega
        have hne2 : ¬ w.heap.size + 1 + 1 + 1 = wr.heap.size := by omega
        have j4 := fun o1 => (HJ.out.step ((Below.refl _ wr).alloc (Nat.le_refl _) o1)).c1
        have j3 := (HJ.out.step (((Below.refl _ wr).alloc (Nat.le_refl _) (.cells #[.string (str x.key), .string (str x.val), .int .u32 x.chain, .int .u32 x.long] 42)).setCell (p := ⟨wr.heap.size, 0, none⟩) (Nat.le_refl _) (.string (str k0)))).c1
        go_wp2_with (at_builtin; refine Lib.wpList_append_run _ rfl _ _ _ _ rfl _ _ rfl rfl _ _ hrun6 ?_)
        go_wp2
        go_roundg (M.length - (0 + 1))
        case measure => omega
        case rel =>
          refine ⟨0 + 1, by omega, rfl, by go_num, .slice a6 n6 c6, Lib.hid ?_⟩
          rw [(htk _ (Sl.keyR_zero k0 M x hx)).out, ← List.append_assoc]
          exact HM.out
      · obtain ⟨a6, n6, c6, w6, hrun6, m1, m2, m3⟩ := (HJ.out.step ((Below.refl _ wr).alloc (Nat.le_refl _) (.cells #[.string (str x.key), .string (str x.val), .int .u32 x.chain, .int .u32 x.long] 42))).push x hsl (wr.heap.size + 1) (by simp)
        have HM := Lib.hid m3
        clear m3
        have hkx : (Sl.keyR lf k0 M)[j]? = some x := by
          by_cases hj : j = 0
          · have : lf = true := by
              cases lf
              · exact absurd ⟨hj, rfl⟩ hkey
              · rfl
            subst this; exact hx
          · rw [Sl.keyR_succ lf k0 M j hj]; exact hx
        have HKX := Lib.hid hkx
        have j3 := fun o1 => (HJ.out.step ((Below.refl _ wr).alloc (Nat.le_refl _) o1)).c1
        clear hkx
        have hgo : (¬ (j : Int) = 0) ∨ j = 0 ∧ lf = true := by
          by_cases h : j = 0
          · right
            refine ⟨h, ?_⟩
            cases lf
            · exact absurd ⟨h, rfl⟩ hkey
            · rfl
          · left; omega
        clear hkey
        rcases hgo with hgo | ⟨rfl, rfl⟩
        · skip
          go_wp2_with (at_builtin; refine Lib.wpList_append_run _ rfl _ _ _ _ rfl _ _ rfl rfl _ _ hrun6 ?_)
          go_wp2
          go_roundg (M.length - (j + 1))
          case measure => omega
          case rel =>
            refine ⟨j + 1, by omega, rfl, by go_num, .slice a6 n6 c6, Lib.hid ?_⟩
            rw [(htk _ HKX.out).out, ← List.append_assoc]
            exact HM.out
        · simp only [Nat.zero_mul, Nat.add_zero] at d0 d1 d2 d3
          go_wp2_with (at_builtin; refine Lib.wpList_append_run _ rfl _ _ _ _ rfl _ _ rfl rfl _ _ hrun6 ?_)
          go_wp2
          go_roundg (M.length - (0 + 1))
          case measure => omega
          case rel =>
            refine ⟨0 + 1, by omega, rfl, by go_num, .slice a6 n6 c6, Lib.hid ?_⟩
            rw [(htk _ HKX.out).out, ← List.append_assoc]
            exact HM.out
    · obtain rfl : j = M.length := by omega
      have HJ2 : Hid (JoinI w lf s (L ++ Sl.keyR lf k0 M) wr) := by
        have := HJ.out
        rwa [List.take_of_length_le (Nat.le_of_eq (Sl.keyR_len _ _ _))] at this
      obtain ⟨a6, n6, c6, h6, h7, h8⟩ := HJ2.out.cap
      have k0' := HJ2.out.c0
      have k1 := HJ2.out.c1
      have z0 := HJ2.out.res.z0
      have z1 := HJ2.out.res.z1
      have z2 := HJ2.out.res.f0
      have z3 := HJ2.out.res.f1
      go_wp2
      refine bodyPost_ret_by (v := rnV lf (.slice a6 n6 c6)) ?_ rfl ?_
      · simp [rnV, results, Try.results30, go_sem, z0, z1]
      · refine ⟨_, rfl, ⟨.slice a6 n6 c6, rfl, ?_, ⟨_, _, _, h6, h7, h8⟩⟩, ?_⟩
        · exact ((HJ2.out.row.set (by show _ < _; simp <;> omega) _).set (by show _ < _; simp <;> omega) _).sl
        · exact (HJ2.out.below.setCell (by show _ ≤ _; simp <;> omega) _).setCell (by show _ ≤ _; simp <;> omega) _
end Go.Proofs.Ytilccpklbaglpaa
