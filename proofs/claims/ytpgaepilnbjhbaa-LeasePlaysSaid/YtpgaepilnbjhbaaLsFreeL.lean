/- A table of another row; a table without a thing. -/
import Derived.Test.YtpgaepilnbjhbaaLsPlcL
import Derived.Test.YtpgaepilnbjhbaaLsCatL
set_option maxRecDepth 100000
set_option maxHeartbeats 4000000
set_option linter.unusedVariables false
namespace Go.Proofs.Ytpgaepilnbjhbaa
open Go.RowKit
open Ls (Txt Ln Ms sameL sameM Plc)
attribute [local go_sem] store_fn store_nil
theorem keyL' : Ls.Key sameL := Ls.keyL
theorem withL_any (fn : Value) (hfn : IsFn fn) (s0 s1 : Value) (h0 : ∃ a n c, s0 = .slice a n c) (h1 : ∃ a n c, s1 = .slice a n c) (w : World) :
    Calls Try.prog 32 #[.agg #[fn, s0], s1] w fun e w' => e = .returned (.agg #[fn, s1]) ∧ Below w.heap.size w w' := by
  obtain ⟨a0, n0, c0, rfl⟩ := h0
  obtain ⟨a1, n1, c1, rfl⟩ := h1
  rcases hfn with ⟨kf, rfl⟩ | rfl
  · go_enter Try.func32, Try.ntmps32
    go_wp2
    refine bodyPost_ret_by (v := .agg #[.func (.func kf) #[] #[], .slice a1 n1 c1]) ?_ rfl ⟨rfl, ?_⟩
    · simp [results, Try.results32, go_sem]
    · exact ((Below.refl _ _).alloc (Nat.le_refl _) _).alloc (by simp) _
  · go_enter Try.func32, Try.ntmps32
    go_wp2
    refine bodyPost_ret_by (v := .agg #[.nilFunc, .slice a1 n1 c1]) ?_ rfl ⟨rfl, ?_⟩
    · simp [results, Try.results32, go_sem]
    · exact ((Below.refl _ _).alloc (Nat.le_refl _) _).alloc (by simp) _
inductive TabOutL (fn : Value) (l : List Ln) (w : World) (e : Ending) (w' : World) : Prop
  | mk (sl : Value) (he : e = .returned (.agg #[fn, sl])) (hs : SlG cL 3 w' sl l) (hb : Below w.heap.size w w')
abbrev fw0L (w : World) (fn sl : Value) (x : Ln) : World := ((w.alloc (.cells #[fn, sl] 27)).alloc (.cells #[.string (str x.q), .int .u64 x.id] 34)).alloc (.cells #[.nilFunc, .slice none 0 0] 27)
theorem fL_start (w : World) (fn sl : Value) (x : Ln) : Boxed2 (fw0L w fn sl x) w.heap.size 27 fn sl ∧ Boxed2 (fw0L w fn sl x) (w.heap.size + 1 + 1) 27 .nilFunc (.slice none 0 0) ∧ Below w.heap.size w (fw0L w fn sl x) ∧ (fw0L w fn sl x).heap.size = w.heap.size + 1 + 1 + 1 :=
  ⟨((Boxed2.new w _ _ _).alloc _).alloc _, boxed2_at (Boxed2.new _ _ _ _) (by simp), ((below_alloc w _).alloc (by simp) _).alloc (by simp <;> omega) _, by simp⟩
/-- The same row, or one of the call's own. -/
inductive FreeOutL (fn sl : Value) (l0 l : List Ln) (w : World) (e : Ending) (w' : World) : Prop
  | mk (v : Value) (he : e = .returned (.agg #[fn, v])) (hs : (v = sl ∧ l = l0) ∨ RowG cL 3 80 w' w.heap.size v l) (hv : ∃ a n c, v = .slice a n c) (hb : Below w.heap.size w w')
theorem freeL_end {w W W' : World} {fn sl y0 y1 : Value} {l : List Ln} {tm : Array Value} (h4 : tm[4]? = some (.pointer (some ⟨w.heap.size + 1 + 1, 0, none⟩))) (hR : Boxed2 W (w.heap.size + 1 + 1) 27 y0 y1) (hb : Below w.heap.size w W) (hsl : ∃ a n c, sl = .slice a n c)
    (hW : W' = (W.setCell ⟨w.heap.size + 1 + 1, 0, none⟩ fn).setCell ⟨w.heap.size + 1 + 1, 1, none⟩ sl) :
    bodyPost Try.prog Try.f8 (FreeOutL fn sl l l w) .ret { tmps := tm, defers := [] } W' := by
  subst hW
  have h2 := hR.set fn sl
  refine bodyPost_ret_by (v := .agg #[fn, sl]) ?_ rfl ⟨sl, rfl, .inl ⟨rfl, rfl⟩, hsl, (hb.setCell (show w.heap.size ≤ w.heap.size + 1 + 1 by omega) _).setCell (show w.heap.size ≤ w.heap.size + 1 + 1 by omega) _⟩
  have c0 := h2.c0
  have c1 := h2.c1
  simp [results, Try.results8, go_sem, h4, c0, c1]
/-- A row laid later stays where a box is written. -/
theorem rowSetL {W : World} {B b : Nat} {u : Value} {l : List Ln} {T : TypeId} (h : RowG cL 3 T W B u l) (hB : b < B) (v0 v1 : Value) : SlG cL 3 ((W.setCell ⟨b, 0, none⟩ v0).setCell ⟨b, 1, none⟩ v1) u l :=
  (h.keep fun g hg => by
    have := (h.lt g hg).1
    rw [Below.heap_setCell _ _ _ _ (by show g ≠ b; omega), Below.heap_setCell _ _ _ _ (by show g ≠ b; omega)]).sl encL
theorem slSetL {w W : World} {b : Nat} {u : Value} {l : List Ln} (h : SlG cL 3 w u l) (hb : Below w.heap.size w W) (hB : w.heap.size ≤ b) (v0 v1 : Value) : SlG cL 3 ((W.setCell ⟨b, 0, none⟩ v0).setCell ⟨b, 1, none⟩ v1) u l :=
  h.below ((hb.setCell (p := ⟨b, 0, none⟩) hB _).setCell (p := ⟨b, 1, none⟩) hB _)
set_option maxHeartbeats 4000000 in
theorem freeL_any (fn : Value) (hfn : IsFn fn) (sl : Value) (l : List Ln) (hl : l.length ≤ 1000) (hu : Ls.Uni sameL l) (x : Ln) (w : World) (hsl : SlG cL 3 w sl l) :
    Calls Try.prog 8 #[.agg #[fn, sl], .agg #[.string (str x.q), .int .u64 x.id]] w (FreeOutL fn sl l (Ls.free sameL x l) w) := by
  have HP := Lib.hid (fun W h => placeL_any fn sl l x W h)
  obtain ⟨hT, hR, hB, hz⟩ := fL_start w fn sl x
  have HT := Lib.hid hT
  have HR := Lib.hid hR
  have HB := Lib.hid hB
  have HS0 := Lib.hid hsl
  have HS := Lib.hid (hsl.below hB)
  obtain ⟨sa, sb, so, sc, rfl, hlc, hcm, ha0, ha, _⟩ := hsl.get
  have hcm' : sc ≤ 9223372036854775807 := hcm
  have HA := Lib.hid ha
  clear hsl hT hR hB ha hcm
  have hz2 : w.heap.size + 1 + 1 < (fw0L w fn (.slice sa l.length sc) x).heap.size := by omega
  have HW := Lib.hid (fun a2 n2 c2 W => withL_any fn hfn (.slice sa l.length sc) (.slice a2 n2 c2) ⟨_, _, _, rfl⟩ ⟨_, _, _, rfl⟩ W)
  rcases hfn with ⟨kf, rfl⟩ | rfl
  · skip
    go_enter Try.func8, Try.ntmps8
    go_wp2_with (go_at_call 31; (with_reducible refine (HP.out _ HS.out).mono ?_); rintro e w1 ⟨k, b, rfl, hp, hb⟩; have HPL := Lib.hid hp; have HB1 := Lib.hid (HB.out.trans (hb.mono HB.out.size)); have hT1 := HT.out.below hb; have hR1 := HR.out.below hb; have HS1 := Lib.hid (HS.out.below hb); have c0 := hT1.c0; have c1 := hT1.c1; have r0 := hR1.c0; have r1 := hR1.c1; have r2 := hR1.f0; have r3 := hR1.f1; have HR1 := Lib.hid hR1; have HTb := Lib.hid hT1; have hz3 := Nat.lt_of_lt_of_le hz2 hb.size; clear hp hb hT1 hR1; cases b)
    · go_wp2
      have hN : ∀ e ∈ l, sameL e x = false := by cases HPL.out; assumption
      rw [Ls.free_none hN]
      exact freeL_end rfl HR1.out HB1.out ⟨_, _, _, rfl⟩ rfl
    · obtain ⟨e, he, hs⟩ : ∃ e, l[k]? = some e ∧ sameL e x = true := by cases HPL.out with | there k e he hs => exact ⟨e, he, hs⟩
      have hk : k < l.length := (List.getElem?_eq_some_iff.1 he).1
      obtain rfl : sa = some ⟨sb, so, none⟩ := HA.out.resolve_left (fun h => by have := ha0 h; omega)
      have hF := Ls.free_at keyL' hu he hs
      have HF := Lib.hid hF
      have hlen1 : (l.take k).length + (l.drop (k + 1)).length ≤ 200000 := by rw [List.length_take, List.length_drop]; omega
      have HL1 := Lib.hid hlen1
      have hwr : IntKind.i64.wrap ((k : Int) + 1) = (k : Int) + 1 := wrap_small _ (by omega) (by omega)
      have hk1 : (k : Int) + 1 ≤ (l.length : Int) := by omega
      have hk2 : (0 : Int) ≤ (k : Int) + 1 := by omega
      have hk3 : (k : Int) ≤ (l.length : Int) := by omega
      have hk4 : (k : Int) ≤ (sc : Int) := by omega
      have hk5 : (0 : Int) ≤ (k : Int) := by omega
      clear hF he hs HPL HP hlen1
      by_cases hc : sc = k + 1
      · subst hc
        have hlk : l.length - (k + 1) = 0 := by omega
        have hk6 : (k : Int) ≤ (k : Int) + 1 := by omega
        have HT2 : Hid (∀ W, Below w.heap.size w W → SlG cL 3 W (.slice (some ⟨sb, so, none⟩) 0 0) (l.drop (k + 1))) := fun W hW => by
          have h := ((HS0.out.below hW).tail (k + 1) (by omega)).2 rfl
          rw [Nat.sub_self, hlk] at h
          exact h
        have HC : Hid (∀ W, Below w.heap.size w W → ∀ W2, (W2 = W.alloc (.cells #[.slice (some ⟨sb, so, none⟩) k (k + 1), .slice (some ⟨sb, so, none⟩) (0) (0)] 25) ∨ W2 = (W.alloc (.cells #[.slice (some ⟨sb, so, none⟩) k (k + 1), .slice (some ⟨sb, so, none⟩) (0) (0)] 25)).drew) → Calls Try.prog 33 #[.slice (some ⟨W.heap.size, 0, none⟩) 2 2] W2 (OwnG cL 3 80 (l.take k ++ l.drop (k + 1)) W)) := fun W hW W2 h2 =>
          concat2L W _ _ _ _ HL1.out ((HS0.out.below hW).cut k (by omega)) (HT2.out W hW) _ rfl W2 h2
        go_wp2_with fail
        go_region_held3 (fun w' => w'.cell? ⟨w.heap.size, 0, none⟩ = some (.func (.func kf) #[] #[]) ∧ w'.cell? ⟨w.heap.size, 1, none⟩ = some (.slice (some ⟨sb, so, none⟩) l.length (k + 1)) ∧ w'.cell? ⟨w.heap.size + 1 + 1, 0, none⟩ = some (cv w' (w.heap.size + 1 + 1) 0) ∧ w'.cell? ⟨w.heap.size + 1 + 1, 1, none⟩ = some (cv w' (w.heap.size + 1 + 1) 1) ∧ w'.frozen? ⟨w.heap.size + 1 + 1, 0, none⟩ = false ∧ w'.frozen? ⟨w.heap.size + 1 + 1, 1, none⟩ = false ∧ Below w.heap.size w w')
          ((first | assumption | exact firstF (w1 := w1.drew) HTb.out HR1.out HB1.out.drew | (with_reducible exact stepF (Nat.le_refl _) ‹_› hb) | (with_reducible exact stepF (Nat.le_refl _) (firstF HTb.out HR1.out HB1.out) hb) | exact stepF (Nat.le_refl _) ‹_› (below_alloc _ _) | exact stepFs (stepFs ‹_› (by omega) (by omega)) (by omega) (by omega)))
          (first
          | (go_at_call 32; with_reducible refine (HW.out _ _ _ _).mono ?_; rintro e w3 ⟨rfl, hb⟩; have HZ3 := Lib.hid (zF (by assumption) hb); have HR3 := Lib.hid (HR2.out.below hb))
          | (go_at_call 33; with_reducible refine (HC.out w1 HB1.out _ (Or.inr rfl)).mono ?_; rintro e w2 ⟨v2, rfl, hr2, hb⟩; obtain ⟨a2, n2, c2, rfl⟩ := hr2.slice'; have HR2 := Lib.hid (hr2.base (Nat.succ_le_of_lt hz3)); clear hr2))
        rename_i hS
        have HSS := Lib.hid hS
        clear hS
        go_wp2
        obtain ⟨z0, z1⟩ := HZ3.out
        have HBB := Lib.hid (lastF HSS.out)
        have hq := Nat.lt_succ_self (w.heap.size + 1 + 1)
        refine bodyPost_ret_by (v := .agg #[(.func (.func kf) #[] #[]), .slice a2 n2 c2]) ?_ rfl ⟨_, rfl, .inr (by rw [HF.out]; exact ((HR3.out.set hq _).set hq _).base (by omega)), ⟨_, _, _, rfl⟩, HBB.out⟩
        simp [results, Try.results8, go_sem, z0, z1]
      · have hcI : ¬ (sc : Int) = (k : Int) + 1 := by omega
        have HT2 : Hid (∀ W, Below w.heap.size w W → SlG cL 3 W (.slice (some ⟨sb, so + (k + 1) * 3, none⟩) (l.length - (k + 1)) (sc - (k + 1))) (l.drop (k + 1))) := fun W hW => ((HS0.out.below hW).tail (k + 1) (by omega)).1
        have HC : Hid (∀ W, Below w.heap.size w W → ∀ W2, (W2 = W.alloc (.cells #[.slice (some ⟨sb, so, none⟩) k (sc), .slice (some ⟨sb, so + (k + 1) * 3, none⟩) (l.length - (k + 1)) (sc - (k + 1))] 25) ∨ W2 = (W.alloc (.cells #[.slice (some ⟨sb, so, none⟩) k (sc), .slice (some ⟨sb, so + (k + 1) * 3, none⟩) (l.length - (k + 1)) (sc - (k + 1))] 25)).drew) → Calls Try.prog 33 #[.slice (some ⟨W.heap.size, 0, none⟩) 2 2] W2 (OwnG cL 3 80 (l.take k ++ l.drop (k + 1)) W)) := fun W hW W2 h2 =>
          concat2L W _ _ _ _ HL1.out ((HS0.out.below hW).cut k (by omega)) (HT2.out W hW) _ rfl W2 h2
        go_wp2_with fail
        go_region_held3 (fun w' => w'.cell? ⟨w.heap.size, 0, none⟩ = some (.func (.func kf) #[] #[]) ∧ w'.cell? ⟨w.heap.size, 1, none⟩ = some (.slice (some ⟨sb, so, none⟩) l.length (sc)) ∧ w'.cell? ⟨w.heap.size + 1 + 1, 0, none⟩ = some (cv w' (w.heap.size + 1 + 1) 0) ∧ w'.cell? ⟨w.heap.size + 1 + 1, 1, none⟩ = some (cv w' (w.heap.size + 1 + 1) 1) ∧ w'.frozen? ⟨w.heap.size + 1 + 1, 0, none⟩ = false ∧ w'.frozen? ⟨w.heap.size + 1 + 1, 1, none⟩ = false ∧ Below w.heap.size w w')
          ((first | assumption | exact firstF (w1 := w1.drew) HTb.out HR1.out HB1.out.drew | (with_reducible exact stepF (Nat.le_refl _) ‹_› hb) | (with_reducible exact stepF (Nat.le_refl _) (firstF HTb.out HR1.out HB1.out) hb) | exact stepF (Nat.le_refl _) ‹_› (below_alloc _ _) | exact stepFs (stepFs ‹_› (by omega) (by omega)) (by omega) (by omega)))
          (first
          | (go_at_call 32; with_reducible refine (HW.out _ _ _ _).mono ?_; rintro e w3 ⟨rfl, hb⟩; have HZ3 := Lib.hid (zF (by assumption) hb); have HR3 := Lib.hid (HR2.out.below hb))
          | (go_at_call 33; with_reducible refine (HC.out w1 HB1.out _ (Or.inr rfl)).mono ?_; rintro e w2 ⟨v2, rfl, hr2, hb⟩; obtain ⟨a2, n2, c2, rfl⟩ := hr2.slice'; have HR2 := Lib.hid (hr2.base (Nat.succ_le_of_lt hz3)); clear hr2))
        rename_i hS
        have HSS := Lib.hid hS
        clear hS
        go_wp2
        obtain ⟨z0, z1⟩ := HZ3.out
        have HBB := Lib.hid (lastF HSS.out)
        have hq := Nat.lt_succ_self (w.heap.size + 1 + 1)
        refine bodyPost_ret_by (v := .agg #[(.func (.func kf) #[] #[]), .slice a2 n2 c2]) ?_ rfl ⟨_, rfl, .inr (by rw [HF.out]; exact ((HR3.out.set hq _).set hq _).base (by omega)), ⟨_, _, _, rfl⟩, HBB.out⟩
        simp [results, Try.results8, go_sem, z0, z1]
  · skip
    go_enter Try.func8, Try.ntmps8
    go_wp2_with (go_at_call 31; (with_reducible refine (HP.out _ HS.out).mono ?_); rintro e w1 ⟨k, b, rfl, hp, hb⟩; have HPL := Lib.hid hp; have HB1 := Lib.hid (HB.out.trans (hb.mono HB.out.size)); have hT1 := HT.out.below hb; have hR1 := HR.out.below hb; have HS1 := Lib.hid (HS.out.below hb); have c0 := hT1.c0; have c1 := hT1.c1; have r0 := hR1.c0; have r1 := hR1.c1; have r2 := hR1.f0; have r3 := hR1.f1; have HR1 := Lib.hid hR1; have HTb := Lib.hid hT1; have hz3 := Nat.lt_of_lt_of_le hz2 hb.size; clear hp hb hT1 hR1; cases b)
    · go_wp2
      have hN : ∀ e ∈ l, sameL e x = false := by cases HPL.out; assumption
      rw [Ls.free_none hN]
      exact freeL_end rfl HR1.out HB1.out ⟨_, _, _, rfl⟩ rfl
    · obtain ⟨e, he, hs⟩ : ∃ e, l[k]? = some e ∧ sameL e x = true := by cases HPL.out with | there k e he hs => exact ⟨e, he, hs⟩
      have hk : k < l.length := (List.getElem?_eq_some_iff.1 he).1
      obtain rfl : sa = some ⟨sb, so, none⟩ := HA.out.resolve_left (fun h => by have := ha0 h; omega)
      have hF := Ls.free_at keyL' hu he hs
      have HF := Lib.hid hF
      have hlen1 : (l.take k).length + (l.drop (k + 1)).length ≤ 200000 := by rw [List.length_take, List.length_drop]; omega
      have HL1 := Lib.hid hlen1
      have hwr : IntKind.i64.wrap ((k : Int) + 1) = (k : Int) + 1 := wrap_small _ (by omega) (by omega)
      have hk1 : (k : Int) + 1 ≤ (l.length : Int) := by omega
      have hk2 : (0 : Int) ≤ (k : Int) + 1 := by omega
      have hk3 : (k : Int) ≤ (l.length : Int) := by omega
      have hk4 : (k : Int) ≤ (sc : Int) := by omega
      have hk5 : (0 : Int) ≤ (k : Int) := by omega
      clear hF he hs HPL HP hlen1
      by_cases hc : sc = k + 1
      · subst hc
        have hlk : l.length - (k + 1) = 0 := by omega
        have hk6 : (k : Int) ≤ (k : Int) + 1 := by omega
        have HT2 : Hid (∀ W, Below w.heap.size w W → SlG cL 3 W (.slice (some ⟨sb, so, none⟩) 0 0) (l.drop (k + 1))) := fun W hW => by
          have h := ((HS0.out.below hW).tail (k + 1) (by omega)).2 rfl
          rw [Nat.sub_self, hlk] at h
          exact h
        have HC : Hid (∀ W, Below w.heap.size w W → ∀ W2, (W2 = W.alloc (.cells #[.slice (some ⟨sb, so, none⟩) k (k + 1), .slice (some ⟨sb, so, none⟩) (0) (0)] 25) ∨ W2 = (W.alloc (.cells #[.slice (some ⟨sb, so, none⟩) k (k + 1), .slice (some ⟨sb, so, none⟩) (0) (0)] 25)).drew) → Calls Try.prog 33 #[.slice (some ⟨W.heap.size, 0, none⟩) 2 2] W2 (OwnG cL 3 80 (l.take k ++ l.drop (k + 1)) W)) := fun W hW W2 h2 =>
          concat2L W _ _ _ _ HL1.out ((HS0.out.below hW).cut k (by omega)) (HT2.out W hW) _ rfl W2 h2
        go_wp2_with fail
        go_region_held3 (fun w' => w'.cell? ⟨w.heap.size, 0, none⟩ = some .nilFunc ∧ w'.cell? ⟨w.heap.size, 1, none⟩ = some (.slice (some ⟨sb, so, none⟩) l.length (k + 1)) ∧ w'.cell? ⟨w.heap.size + 1 + 1, 0, none⟩ = some (cv w' (w.heap.size + 1 + 1) 0) ∧ w'.cell? ⟨w.heap.size + 1 + 1, 1, none⟩ = some (cv w' (w.heap.size + 1 + 1) 1) ∧ w'.frozen? ⟨w.heap.size + 1 + 1, 0, none⟩ = false ∧ w'.frozen? ⟨w.heap.size + 1 + 1, 1, none⟩ = false ∧ Below w.heap.size w w')
          ((first | assumption | exact firstF (w1 := w1.drew) HTb.out HR1.out HB1.out.drew | (with_reducible exact stepF (Nat.le_refl _) ‹_› hb) | (with_reducible exact stepF (Nat.le_refl _) (firstF HTb.out HR1.out HB1.out) hb) | exact stepF (Nat.le_refl _) ‹_› (below_alloc _ _) | exact stepFs (stepFs ‹_› (by omega) (by omega)) (by omega) (by omega)))
          (first
          | (go_at_call 32; with_reducible refine (HW.out _ _ _ _).mono ?_; rintro e w3 ⟨rfl, hb⟩; have HZ3 := Lib.hid (zF (by assumption) hb); have HR3 := Lib.hid (HR2.out.below hb))
          | (go_at_call 33; with_reducible refine (HC.out w1 HB1.out _ (Or.inr rfl)).mono ?_; rintro e w2 ⟨v2, rfl, hr2, hb⟩; obtain ⟨a2, n2, c2, rfl⟩ := hr2.slice'; have HR2 := Lib.hid (hr2.base (Nat.succ_le_of_lt hz3)); clear hr2))
        rename_i hS
        have HSS := Lib.hid hS
        clear hS
        go_wp2
        obtain ⟨z0, z1⟩ := HZ3.out
        have HBB := Lib.hid (lastF HSS.out)
        have hq := Nat.lt_succ_self (w.heap.size + 1 + 1)
        refine bodyPost_ret_by (v := .agg #[.nilFunc, .slice a2 n2 c2]) ?_ rfl ⟨_, rfl, .inr (by rw [HF.out]; exact ((HR3.out.set hq _).set hq _).base (by omega)), ⟨_, _, _, rfl⟩, HBB.out⟩
        simp [results, Try.results8, go_sem, z0, z1]
      · have hcI : ¬ (sc : Int) = (k : Int) + 1 := by omega
        have HT2 : Hid (∀ W, Below w.heap.size w W → SlG cL 3 W (.slice (some ⟨sb, so + (k + 1) * 3, none⟩) (l.length - (k + 1)) (sc - (k + 1))) (l.drop (k + 1))) := fun W hW => ((HS0.out.below hW).tail (k + 1) (by omega)).1
        have HC : Hid (∀ W, Below w.heap.size w W → ∀ W2, (W2 = W.alloc (.cells #[.slice (some ⟨sb, so, none⟩) k (sc), .slice (some ⟨sb, so + (k + 1) * 3, none⟩) (l.length - (k + 1)) (sc - (k + 1))] 25) ∨ W2 = (W.alloc (.cells #[.slice (some ⟨sb, so, none⟩) k (sc), .slice (some ⟨sb, so + (k + 1) * 3, none⟩) (l.length - (k + 1)) (sc - (k + 1))] 25)).drew) → Calls Try.prog 33 #[.slice (some ⟨W.heap.size, 0, none⟩) 2 2] W2 (OwnG cL 3 80 (l.take k ++ l.drop (k + 1)) W)) := fun W hW W2 h2 =>
          concat2L W _ _ _ _ HL1.out ((HS0.out.below hW).cut k (by omega)) (HT2.out W hW) _ rfl W2 h2
        go_wp2_with fail
        go_region_held3 (fun w' => w'.cell? ⟨w.heap.size, 0, none⟩ = some .nilFunc ∧ w'.cell? ⟨w.heap.size, 1, none⟩ = some (.slice (some ⟨sb, so, none⟩) l.length (sc)) ∧ w'.cell? ⟨w.heap.size + 1 + 1, 0, none⟩ = some (cv w' (w.heap.size + 1 + 1) 0) ∧ w'.cell? ⟨w.heap.size + 1 + 1, 1, none⟩ = some (cv w' (w.heap.size + 1 + 1) 1) ∧ w'.frozen? ⟨w.heap.size + 1 + 1, 0, none⟩ = false ∧ w'.frozen? ⟨w.heap.size + 1 + 1, 1, none⟩ = false ∧ Below w.heap.size w w')
          ((first | assumption | exact firstF (w1 := w1.drew) HTb.out HR1.out HB1.out.drew | (with_reducible exact stepF (Nat.le_refl _) ‹_› hb) | (with_reducible exact stepF (Nat.le_refl _) (firstF HTb.out HR1.out HB1.out) hb) | exact stepF (Nat.le_refl _) ‹_› (below_alloc _ _) | exact stepFs (stepFs ‹_› (by omega) (by omega)) (by omega) (by omega)))
          (first
          | (go_at_call 32; with_reducible refine (HW.out _ _ _ _).mono ?_; rintro e w3 ⟨rfl, hb⟩; have HZ3 := Lib.hid (zF (by assumption) hb); have HR3 := Lib.hid (HR2.out.below hb))
          | (go_at_call 33; with_reducible refine (HC.out w1 HB1.out _ (Or.inr rfl)).mono ?_; rintro e w2 ⟨v2, rfl, hr2, hb⟩; obtain ⟨a2, n2, c2, rfl⟩ := hr2.slice'; have HR2 := Lib.hid (hr2.base (Nat.succ_le_of_lt hz3)); clear hr2))
        rename_i hS
        have HSS := Lib.hid hS
        clear hS
        go_wp2
        obtain ⟨z0, z1⟩ := HZ3.out
        have HBB := Lib.hid (lastF HSS.out)
        have hq := Nat.lt_succ_self (w.heap.size + 1 + 1)
        refine bodyPost_ret_by (v := .agg #[.nilFunc, .slice a2 n2 c2]) ?_ rfl ⟨_, rfl, .inr (by rw [HF.out]; exact ((HR3.out.set hq _).set hq _).base (by omega)), ⟨_, _, _, rfl⟩, HBB.out⟩
        simp [results, Try.results8, go_sem, z0, z1]
end Go.Proofs.Ytpgaepilnbjhbaa
