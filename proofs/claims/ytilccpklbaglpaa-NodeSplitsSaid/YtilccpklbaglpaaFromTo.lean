/- The contracts of the law's From, To and same. -/
import Derived.Test.YtilccpklbaglpaaRNode
import Derived.OwnWalk
import Derived.Test.YtilccpklbaglpaaJn
import Derived.Test.YtilccpklbaglpaaSteps3
set_option maxRecDepth 100000
set_option maxHeartbeats 4000000
set_option linter.unusedVariables false
namespace Go.Proofs.Ytilccpklbaglpaa
open Go.RowKit
open Sl (Cl Kd Nd Rn)
set_option maxHeartbeats 2000000 in
set_option maxRecDepth 100000 in
theorem kidsOwn_any (v : Value) (l : List Cl) (hll : l.length ≤ 100000) (w : World) (hv : SlC w v l) :
    Calls Try.prog 40 #[v] w (OwnK (l.map toK) w) := by
  obtain ⟨i0, hi, hz0, hz1, hz2⟩ := info_parts info47
  obtain ⟨a, b, o, c, rfl, ha, hx⟩ := hv
  have HX := Lib.hid hx
  have HA := Lib.hid ha
  clear ha hx
  go_enter Try.func40, Try.ntmps40
  go_wp2
  go_loopg [3, 8] l.length (fun n s i wr => ∃ m : List Kd, m.length ≤ l.length ∧ n = l.length - m.length ∧ i = .int .i64 m.length ∧ Hid (m = (l.take m.length).map toK) ∧ Hid (wr.ownsRow w.heap.size 52 2 s m.length (m.flatMap cellsK)) ∧ Hid (Below w.heap.size w wr))
  case atStart => exact ⟨[], Nat.zero_le _, rfl, rfl, rfl, World.ownsRow_nil _ _ _ _, Below.refl _ _⟩
  case round =>
    obtain ⟨m, hk, rfl, rfl, HM, HO, HB⟩ := hrel
    by_cases hlt : m.length < l.length
    · obtain ⟨x, hx⟩ := take_some l m.length hlt
      obtain ⟨e0, e1, e2, e3⟩ := HX.out m.length x hx
      have hblt : b < w.heap.size := World.block_lt_of_cell? _ _ e0
      have d0 := (HB.out.cell (p := ⟨b, o + m.length * 4, none⟩) hblt).trans e0
      have d1 := (HB.out.cell (p := ⟨b, o + m.length * 4 + 1, none⟩) hblt).trans e1
      have d2 := (HB.out.cell (p := ⟨b, o + m.length * 4 + 2, none⟩) hblt).trans e2
      have d3 := (HB.out.cell (p := ⟨b, o + m.length * 4 + 3, none⟩) hblt).trans e3
      obtain rfl : a = some ⟨b, o, none⟩ := by
        rcases HA.out with h | h
        · rw [h] at hlt; cases hlt
        · exact h
      have HS := Lib.hid (map_take_snoc toK l m.length x hx)
      have hBs := HB.out.size
      clear e0 e1 e2 e3 hx
      go_wp2_with (at_builtin; refine wpList_append_own _ rfl _ _ 44 rfl w.heap.size 52 i0 _ 2 24 Try.underlying44 hi hz0 hz1 hz2 rfl (by decide) _ m.length _ rfl ((HO.out.alloc _).alloc _) ⟨wr.heap.size + 1, 0, none⟩ 1 1 (cellsK (toK x)) rfl rfl ?p1 ?p2 ?p3 ?p4 ?p5 ?_)
      case p1 => exact fun _ _ h => h
      case p2 => exact cellsK_one _
      case p3 => unfold maxLen; omega
      case p4 => omega
      case p5 => omega
      intro v' w4 hown' hgrow _
      have HO4 : Hid (w4.ownsRow w.heap.size 52 2 v' (m ++ [toK x]).length ((m ++ [toK x]).flatMap cellsK)) := by
        show w4.ownsRow _ _ _ _ _ _
        rw [List.flatMap_append, List.length_append]; simpa using hown'
      have HB4 : Hid (Below w.heap.size w w4) := ((HB.out.alloc hBs _).alloc (by simp; omega) _).grown hgrow (by simp; omega) (fun g hg => (HO.out.lt g hg).1)
      clear hown' hgrow
      go_wp2
      go_roundg (l.length - (m.length + 1))
      case measure => omega
      case rel =>
        refine ⟨m ++ [toK x], by rw [List.length_append]; exact hlt, by rw [List.length_append]; rfl, by rw [List.length_append]; go_num, ?_, HO4, HB4⟩
        show _ = _
        rw [List.length_append, show m.length + [toK x].length = m.length + 1 from rfl, HS.out, ← HM.out]
    · have hkk : m.length = l.length := by omega
      have hm : m = l.map toK := by
        have := HM.out
        rw [hkk, List.take_length] at this
        exact this
      have HMM := Lib.hid hm
      have HSK := Lib.hid (HO.out)
      clear hm hkk
      go_wp2
      go_ret
      exact ⟨_, rfl, (show RowK _ _ _ (l.map toK) by rw [← HMM.out]; exact HSK.out), HB.out⟩
set_option maxHeartbeats 2000000 in
set_option maxRecDepth 100000 in
theorem cellsOwn_any (v : Value) (l : List Kd) (hll : l.length ≤ 100000) (w : World) (hv : SlK w v l) :
    Calls Try.prog 41 #[v] w (OwnC (l.map toC) w) := by
  obtain ⟨i0, hi, hz0, hz1, hz2⟩ := info_parts info42
  obtain ⟨a, b, o, c, rfl, ha, hx⟩ := hv
  have HX := Lib.hid hx
  have HA := Lib.hid ha
  clear ha hx
  go_enter Try.func41, Try.ntmps41
  go_wp2
  go_loopg [3, 8] l.length (fun n s i wr => ∃ m : List Cl, m.length ≤ l.length ∧ n = l.length - m.length ∧ i = .int .i64 m.length ∧ Hid (m = (l.take m.length).map toC) ∧ Hid (wr.ownsRow w.heap.size 42 4 s m.length (m.flatMap cellsC)) ∧ Hid (Below w.heap.size w wr))
  case atStart => exact ⟨[], Nat.zero_le _, rfl, rfl, rfl, World.ownsRow_nil _ _ _ _, Below.refl _ _⟩
  case round =>
    obtain ⟨m, hk, rfl, rfl, HM, HO, HB⟩ := hrel
    by_cases hlt : m.length < l.length
    · obtain ⟨x, hx⟩ := take_some l m.length hlt
      obtain ⟨e0, e1⟩ := HX.out m.length x hx
      have hblt : b < w.heap.size := World.block_lt_of_cell? _ _ e0
      have d0 := (HB.out.cell (p := ⟨b, o + m.length * 2, none⟩) hblt).trans e0
      have d1 := (HB.out.cell (p := ⟨b, o + m.length * 2 + 1, none⟩) hblt).trans e1
      obtain rfl : a = some ⟨b, o, none⟩ := by
        rcases HA.out with h | h
        · rw [h] at hlt; cases hlt
        · exact h
      have HS := Lib.hid (map_take_snoc toC l m.length x hx)
      have hBs := HB.out.size
      clear e0 e1 hx
      go_wp2_with (at_builtin; refine wpList_append_own _ rfl _ _ 40 rfl w.heap.size 42 i0 _ 4 40 Try.underlying40 hi hz0 hz1 hz2 rfl (by decide) _ m.length _ rfl ((HO.out.alloc _).alloc _) ⟨wr.heap.size + 1, 0, none⟩ 1 1 (cellsC (toC x)) rfl rfl ?p1 ?p2 ?p3 ?p4 ?p5 ?_)
      case p1 => exact fun _ _ h => h
      case p2 => exact cellsC_one _
      case p3 => unfold maxLen; omega
      case p4 => omega
      case p5 => omega
      intro v' w4 hown' hgrow _
      have HO4 : Hid (w4.ownsRow w.heap.size 42 4 v' (m ++ [toC x]).length ((m ++ [toC x]).flatMap cellsC)) := by
        show w4.ownsRow _ _ _ _ _ _
        rw [List.flatMap_append, List.length_append]; simpa using hown'
      have HB4 : Hid (Below w.heap.size w w4) := ((HB.out.alloc hBs _).alloc (by simp; omega) _).grown hgrow (by simp; omega) (fun g hg => (HO.out.lt g hg).1)
      clear hown' hgrow
      go_wp2
      go_roundg (l.length - (m.length + 1))
      case measure => omega
      case rel =>
        refine ⟨m ++ [toC x], by rw [List.length_append]; exact hlt, by rw [List.length_append]; rfl, by rw [List.length_append]; go_num, ?_, HO4, HB4⟩
        show _ = _
        rw [List.length_append, show m.length + [toC x].length = m.length + 1 from rfl, HS.out, ← HM.out]
    · have hkk : m.length = l.length := by omega
      have hm : m = l.map toC := by
        have := HM.out
        rw [hkk, List.take_length] at this
        exact this
      have HMM := Lib.hid hm
      have HSK := Lib.hid (HO.out)
      clear hm hkk
      go_wp2
      go_ret
      exact ⟨_, rfl, (show RowC _ _ _ (l.map toC) by rw [← HMM.out]; exact HSK.out), HB.out⟩
theorem from_any (lf : Bool) (v : Value) (l : List Cl) (w : World) (hv : SlC w v l) (hc : Cap v) (hl : l.length ≤ 100000) :
    Calls Try.prog 15 #[.bool lf, v] w (RetN (Sl.fromN lf l) w) := by
  have HKO := Lib.hid (fun W (hW : Below w.heap.size w W) => kidsOwn_any v l hl W (hv.below hW))
  have HV := Lib.hid hv
  have HC := Lib.hid hc
  obtain ⟨a, n, c, _, _, _⟩ := hc
  have HB : Hid (∀ o1, Below w.heap.size w (w.alloc o1)) := fun o1 => (Below.refl _ _).alloc (Nat.le_refl _) _
  have HZ := Lib.hid (Z3.new w)
  clear hv
  cases lf with
  | true =>
    go_enter Try.func15, Try.ntmps15
    go_wp2
    refine bodyPost_ret_by (v := ndV true (.slice a n c) (.slice none 0 0)) ?_ rfl ?_
    · simp [ndV, results, Try.results15, go_sem]
    · refine ⟨_, rfl, ⟨.slice a n c, .slice none 0 0, rfl, HV.out.below ?_, HC.out, SlK.nil _, cap_nil⟩, ?_⟩
      all_goals exact (HB.out _)
  | false =>
    go_enter Try.func15, Try.ntmps15
    go_wp2_with (go_at_call 40; refine (HKO.out _ (HB.out _)).mono ?_; rintro e w1 ⟨v1, rfl, hr1, hb1⟩; obtain ⟨a5, n5, c5, ha5, hc5, hn5⟩ := hr1.cap; have HR1 := Lib.hid hr1; have HB1 := Lib.hid ((HB.out _).trans (hb1.mono (HB.out _).size)); have HZ1 := HZ.out.below hb1; have z0 := HZ1.z0; have z1 := HZ1.z1; have z2 := HZ1.z2; have z3 := HZ1.f0; have z4 := HZ1.f1; have z5 := HZ1.f2; clear hr1 hb1 HZ1)
    refine bodyPost_ret_by (v := ndV false (.slice none 0 0) (.slice a5 n5 c5)) ?_ rfl ?_
    · simp [ndV, results, Try.results15, go_sem, z0, z1, z2]
    · have hq : w.heap.size < (w.alloc (.cells #[.bool false, .slice none 0 0, .slice none 0 0] 46)).heap.size := by simp
      refine ⟨_, rfl, ⟨.slice none 0 0, .slice a5 n5 c5, rfl, SlC.nil _, cap_nil, (((HR1.out.set hq _).set hq _).set hq _).sl, ⟨_, _, _, ha5, hc5, hn5⟩⟩, ((HB1.out.setCell (Nat.le_refl _) _).setCell (Nat.le_refl _) _).setCell (Nat.le_refl _) _⟩
/-- An empty box of the document's node. -/
structure Z2 (w : World) (g : Nat) : Prop where
  z0 : w.cell? ⟨g, 0, none⟩ = some (.bool false)
  z1 : w.cell? ⟨g, 1, none⟩ = some (.slice none 0 0)
  f0 : w.frozen? ⟨g, 0, none⟩ = false
  f1 : w.frozen? ⟨g, 1, none⟩ = false
theorem Z2.lt {w : World} {g : Nat} (h : Z2 w g) : g < w.heap.size := World.block_lt_of_cell? _ _ h.z0
theorem Z2.below {w w' : World} {g : Nat} (h : Z2 w g) (hb : Below w.heap.size w w') : Z2 w' g :=
  ⟨(hb.cell (p := ⟨g, 0, none⟩) h.lt).trans h.z0, (hb.cell (p := ⟨g, 1, none⟩) h.lt).trans h.z1,
   (hb.frozen (p := ⟨g, 0, none⟩) h.lt).trans h.f0, (hb.frozen (p := ⟨g, 1, none⟩) h.lt).trans h.f1⟩
theorem Z2.new (w : World) : Z2 (w.alloc (.cells #[.bool false, .slice none 0 0] 49)) w.heap.size := by
  constructor <;> simp
theorem to_any (v : Value) (n : Nd) (w : World) (hv : NdV w v n) (hl : n.ks.length ≤ 100000) :
    Calls Try.prog 16 #[v] w (RetR (Sl.toR n) w) := by
  obtain ⟨vc, vk, rfl, hc, hcc, hk, hkk⟩ := hv
  have HKO := Lib.hid (fun W (hW : Below w.heap.size w W) => cellsOwn_any vk n.ks hl W (hk.below hW))
  have HV := Lib.hid hc
  have HC := Lib.hid hcc
  unfold ndV
  obtain ⟨a, m, c, _, _, _⟩ := hcc
  obtain ⟨a', m', c', _, _, _⟩ := hkk
  have HB : Hid (∀ o1 o2, Below w.heap.size w ((w.alloc o1).alloc o2)) := fun o1 o2 => ((Below.refl _ _).alloc (Nat.le_refl _) _).alloc (by simp) _
  have HZ : Hid (∀ o1, Z2 ((w.alloc o1).alloc (.cells #[.bool false, .slice none 0 0] 49)) (w.heap.size + 1)) := fun o1 => by
    have := Z2.new (w.alloc o1)
    rwa [show (w.alloc o1).heap.size = w.heap.size + 1 by simp] at this
  clear hc hk
  obtain ⟨lf, cs, ks⟩ := n
  cases lf with
  | true =>
    go_enter Try.func16, Try.ntmps16
    go_wp2
    refine bodyPost_ret_by (v := rnV true (.slice a m c)) ?_ rfl ?_
    · simp [rnV, results, Try.results16, go_sem]
    · refine ⟨_, rfl, ⟨.slice a m c, rfl, HV.out.below ?_, HC.out⟩, ?_⟩
      all_goals exact (HB.out _ _)
  | false =>
    go_enter Try.func16, Try.ntmps16
    go_wp2_with (go_at_call 41; refine (HKO.out _ (HB.out _ _)).mono ?_; rintro e w1 ⟨v1, rfl, hr1, hb1⟩; obtain ⟨a5, n5, c5, ha5, hc5, hn5⟩ := hr1.cap; have HR1 := Lib.hid hr1; have HB1 := Lib.hid ((HB.out _ _).trans (hb1.mono (HB.out _ _).size)); have HZ1 := (HZ.out _).below hb1; have z0 := HZ1.z0; have z1 := HZ1.z1; have z3 := HZ1.f0; have z4 := HZ1.f1; clear hr1 hb1 HZ1)
    refine bodyPost_ret_by (v := rnV false (.slice a5 n5 c5)) ?_ rfl ?_
    · simp [rnV, results, Try.results16, go_sem, z0, z1]
    · have hq : ∀ o1 o2, w.heap.size + 1 < ((w.alloc o1).alloc o2).heap.size := by intro o1 o2; simp
      refine ⟨_, rfl, ⟨.slice a5 n5 c5, rfl, ((HR1.out.set (hq _ _) _).set (hq _ _) _).sl, ⟨_, _, _, ha5, hc5, hn5⟩⟩, (HB1.out.setCell (by show _ ≤ _; simp) _).setCell (by show _ ≤ _; simp) _⟩
theorem lsame_any (u v : Value) (n : Nd) (w : World) (hu : NdV w u n) (hv : RnV w v (Sl.toR n)) (h1 : n.cs.length ≤ 100000) (h2 : n.ks.length ≤ 100000) :
    Calls Try.prog 18 #[u, v] w fun e w' => e = .returned (.bool true) ∧ Below w.heap.size w w' := by
  have HT := Lib.hid (fun W (hW : Below w.heap.size w W) => to_any u n W (hu.below hW) h2)
  have HS := Lib.hid (fun x W (hx : RnV W x (Sl.toR n)) (hW : Below w.heap.size w W) => rsame10_any x v (Sl.toR n) W hx (hv.below hW) (by unfold Sl.toR; cases n.leaf <;> simp <;> omega))
  obtain ⟨vc, vk, rfl, hc, hcc, hk, hkk⟩ := hu
  obtain ⟨vr, rfl, hr, hrc⟩ := hv
  unfold ndV at HT ⊢
  unfold rnV at HS ⊢
  obtain ⟨a, m, c, _, _, _⟩ := hcc
  obtain ⟨a', m', c', _, _, _⟩ := hkk
  obtain ⟨a2, m2, c2, _, _, _⟩ := hrc
  clear hc hk hr h1 h2
  revert HT HS
  generalize Sl.toR n = r
  generalize r.leaf = rl
  generalize n.leaf = nl
  intro HT HS
  have h1 : (w.alloc (.cells #[.bool nl, .slice a m c, .slice a' m' c'] 46)).heap.size = w.heap.size + 1 := by simp
  have hU := (Below.refl _ (w.alloc (.cells #[.bool nl, .slice a m c, .slice a' m' c'] 46))).alloc (Nat.le_refl _) (.cells #[.bool rl, .slice a2 m2 c2] 49)
  have hF : Hid (((w.alloc (.cells #[.bool nl, .slice a m c, .slice a' m' c'] 46)).alloc (.cells #[.bool rl, .slice a2 m2 c2] 49)).drew.cell? ⟨w.heap.size, 0, none⟩ = some (.bool nl) ∧ ((w.alloc (.cells #[.bool nl, .slice a m c, .slice a' m' c'] 46)).alloc (.cells #[.bool rl, .slice a2 m2 c2] 49)).drew.cell? ⟨w.heap.size, 1, none⟩ = some (.slice a m c) ∧ ((w.alloc (.cells #[.bool nl, .slice a m c, .slice a' m' c'] 46)).alloc (.cells #[.bool rl, .slice a2 m2 c2] 49)).drew.cell? ⟨w.heap.size, 2, none⟩ = some (.slice a' m' c') ∧ ((w.alloc (.cells #[.bool nl, .slice a m c, .slice a' m' c'] 46)).alloc (.cells #[.bool rl, .slice a2 m2 c2] 49)).drew.cell? ⟨w.heap.size + 1, 0, none⟩ = some (.bool rl) ∧ ((w.alloc (.cells #[.bool nl, .slice a m c, .slice a' m' c'] 46)).alloc (.cells #[.bool rl, .slice a2 m2 c2] 49)).drew.cell? ⟨w.heap.size + 1, 1, none⟩ = some (.slice a2 m2 c2) ∧ Below w.heap.size w ((w.alloc (.cells #[.bool nl, .slice a m c, .slice a' m' c'] 46)).alloc (.cells #[.bool rl, .slice a2 m2 c2] 49)).drew) := by
    refine ⟨(hU.drew.cell (p := ⟨w.heap.size, 0, none⟩) (show w.heap.size < _ by omega)).trans (World.cell?_alloc_new w _ _ 0), (hU.drew.cell (p := ⟨w.heap.size, 1, none⟩) (show w.heap.size < _ by omega)).trans (World.cell?_alloc_new w _ _ 1), (hU.drew.cell (p := ⟨w.heap.size, 2, none⟩) (show w.heap.size < _ by omega)).trans (World.cell?_alloc_new w _ _ 2), ?_, ?_, (((Below.refl _ _).alloc (Nat.le_refl _) _).alloc (by simp) _).drew⟩
    · rw [← h1]; exact World.cell?_alloc_new _ _ _ 0
    · rw [← h1]; exact World.cell?_alloc_new _ _ _ 1
  clear h1 hU
  go_enter Try.func18, Try.ntmps18
  go_wp2_with fail
  go_region_held3 (fun w' => w'.cell? ⟨w.heap.size, 0, none⟩ = some (.bool nl) ∧ w'.cell? ⟨w.heap.size, 1, none⟩ = some (.slice a m c) ∧ w'.cell? ⟨w.heap.size, 2, none⟩ = some (.slice a' m' c') ∧ w'.cell? ⟨w.heap.size + 1, 0, none⟩ = some (.bool rl) ∧ w'.cell? ⟨w.heap.size + 1, 1, none⟩ = some (.slice a2 m2 c2) ∧ Below w.heap.size w w')
    ((first | assumption | exact step5 (Nat.le_refl _) ‹_› hb | exact hF.out))
    (first
    | (go_at_call 46; with_reducible refine (HS.out _ _ HR1.out (last5 (by assumption))).mono ?_; rintro e w2 ⟨rfl, hb⟩)
    | (go_at_call 16; with_reducible refine (HT.out _ (last5 (by assumption))).mono ?_; rintro e w1 ⟨v1, rfl, hr1, hb⟩; have HR1 := Lib.hid hr1; clear hr1))
  rename_i hS
  have HB := Lib.hid (last5 hS)
  clear hS
  go_wp2
  go_ret
  exact ⟨rfl, HB.out⟩
end Go.Proofs.Ytilccpklbaglpaa
