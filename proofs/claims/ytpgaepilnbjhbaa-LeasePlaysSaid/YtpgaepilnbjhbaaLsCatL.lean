/- slices.Grow of no row; slices.Concat of some. -/
import Derived.Test.YtpgaepilnbjhbaaLsBase
set_option maxRecDepth 100000
set_option maxHeartbeats 4000000
set_option linter.unusedVariables false
namespace Go.Proofs.Ytpgaepilnbjhbaa
open Go.RowKit
open Ls (Txt Ln Ms)
theorem growL_any (n : Nat) (hn : n ≤ 200000) (w : World) : Calls Try.prog 47 #[.slice none 0 0, .int .i64 n] w (OwnG cL 3 80 [] w) := by
  obtain ⟨i0, z0, hi, hz0, hz1, hz2, hzs⟩ := appL.inf
  by_cases h0 : n = 0
  · subst h0
    go_enter Try.func47, Try.ntmps47
    go_wp2
    go_ret
    exact ⟨_, rfl, World.ownsRow_nil _ _ _ _, Below.refl _ _⟩
  · have h1 : ¬ ((n : Int) < 0) := by omega
    have h2 : wrap64 ((0 : Int) - (0 : Int)) = (0 : Int) := by unfold wrap64; omega
    have h3 : wrap64 ((n : Int) - 0) = (n : Int) := by unfold wrap64; omega
    have h4 : (n : Int) > 0 := by omega
    have hold : (Builtin.firstCells i0.size 0 (.slice none 0 0)).run Try.prog w.drew = .ok (([] : List Value).toArray) w.drew := run_firstCells_none w.drew i0.size 0 0 0
    have hs0 : 0 < i0.size := by rw [hz1]; decide
    have hrz : ∀ ty, (Builtin.append_ #[25, 3] ty #[.slice none 0 0, .int .i64 (n : Int)]).run Try.prog w =
        .ok (.slice (some ⟨w.heap.size, 0, none⟩) n (grownCap w n 0 80)) (w.drew.alloc (.cells (([] : List Value).toArray ++ Builtin.zeroCells _ n ++ Builtin.zeroCells _ (grownCap w n 0 80 - n)) 80)) := fun ty => by
      have h := Lib.run_append_grow_zeros w 25 3 ty 80 i0 _ .i64 .i64 Try.underlying25 Try.underlying3 hi hz0 none 0 0 [] hold n (by omega) hs0 (by omega) (by omega) (by rw [hz2]; omega) (by rw [Nat.zero_add, hz2]; exact growslice_fits (by omega) (by omega))
      simp only [Nat.zero_add] at h
      exact h
    have hGn : n ≤ grownCap w n 0 80 := grownCap_ge w _ _ _
    obtain ⟨G, hG⟩ : ∃ G, G = grownCap w n 0 80 := ⟨_, rfl⟩
    rw [← hG] at hrz hGn
    have hG63 : G ≤ 9223372036854775807 := by
      have := grownCap_le_maxLen w n 0 80 (by unfold maxLen; omega)
      rw [← hG] at this
      unfold maxLen at this
      omega
    have hrow := fun (cur : Array Value) (hs : cur.size = G * 3) => World.ownsRow_made (base := w.heap.size) (e := 80) w.drew cur G (Nat.le_refl _) (by unfold maxLen; omega) hs
    have HRW := Lib.hid hrow
    generalize z0.cells = Z at hrz hzs
    clear hold hG hs0 hrow hz0
    go_enter Try.func47, Try.ntmps47
    go_wp2_with (at_builtin; refine Lib.wpList_append_run _ rfl _ _ _ _ rfl _ _ rfl rfl _ _ (hrz _) ?_)
    all_goals (go_ret; refine ⟨_, rfl, HRW.out _ ?_, ((Below.refl _ w).drew.alloc (Nat.le_refl _) _)⟩)
    all_goals (simp only [Array.size_append, size_zeroCells, hzs]; rw [← Nat.add_mul, show n + (G - n) = G by omega])
abbrev totL (vs : List (Value × List Ln)) : Nat := (vs.map (fun p => p.2.length)).sum
abbrev allL (vs : List (Value × List Ln)) : List Ln := vs.flatMap (fun p => p.2)
theorem totL_snoc {vs : List (Value × List Ln)} {k : Nat} {p : Value × List Ln} (h : vs[k]? = some p) : totL (vs.take (k + 1)) = totL (vs.take k) + p.2.length := by
  unfold totL; rw [take_snoc h]; simp
theorem allL_snoc {vs : List (Value × List Ln)} {k : Nat} {p : Value × List Ln} (h : vs[k]? = some p) : allL (vs.take (k + 1)) = allL (vs.take k) ++ p.2 := by
  unfold allL; rw [take_snoc h]; simp
theorem totL_le (vs : List (Value × List Ln)) (k : Nat) : totL (vs.take k) ≤ totL vs := by
  unfold totL
  rw [List.map_take]
  have h := congrArg List.sum (List.take_append_drop k (vs.map (fun p : Value × List Ln => p.2.length)))
  rw [List.sum_append] at h
  omega
theorem allL_len (vs : List (Value × List Ln)) : (allL vs).length = totL vs := by
  unfold allL totL; rw [List.length_flatMap]
/-- What is handed to Concat. -/
def PartsL (g : Nat) (vs : List (Value × List Ln)) (w : World) : Prop := ∀ (k : Nat) p, vs[k]? = some p → w.cell? ⟨g, k, none⟩ = some p.1 ∧ SlG cL 3 w p.1 p.2
theorem PartsL.below {g : Nat} {vs : List (Value × List Ln)} {w w' : World} {B : Nat} (h : PartsL g vs w) (hB : B = w.heap.size) (hb : Below B w w') : PartsL g vs w' := by
  subst hB
  intro k p hp
  obtain ⟨h1, h2⟩ := h k p hp
  exact ⟨(hb.cell (p := ⟨g, k, none⟩) (World.block_lt_of_cell? _ _ h1)).trans h1, h2.below hb⟩
set_option maxHeartbeats 4000000 in
theorem concatL_any (g : Nat) (vs : List (Value × List Ln)) (hn : vs.length ≤ 100) (ht : totL vs ≤ 200000) (w : World) (hP : PartsL g vs w) :
    Calls Try.prog 33 #[.slice (some ⟨g, 0, none⟩) vs.length vs.length] w (OwnG cL 3 80 (allL vs) w) := by
  have HP := Lib.hid hP
  have HG := Lib.hid (fun (n : Nat) (hn : n ≤ 200000) W => growL_any n hn W)
  have HT := Lib.hid (totL_le vs)
  clear hP
  go_enter Try.func33, Try.ntmps33
  go_wp2
  go_loopg [3, 11] vs.length (fun n s i wr => ∃ k : Nat, k ≤ vs.length ∧ n = vs.length - k ∧ i = .int .i64 k ∧ s = .int .i64 ((totL (vs.take k) : Nat) : Int) ∧ w = wr)
  case atStart => exact ⟨0, Nat.zero_le _, rfl, rfl, rfl, rfl⟩
  case round =>
    obtain ⟨k, hk, rfl, rfl, rfl, rfl⟩ := hrel
    by_cases hlt : k < vs.length
    · obtain ⟨p, hp⟩ := some_atP hlt
      have hc := (HP.out k p hp).1
      obtain ⟨pa, pc, hpv⟩ := (HP.out k p hp).2.slice
      have hs := Lib.hid (totL_snoc hp)
      have h1 := HT.out (k + 1)
      have h2 := HT.out k
      rw [hs.out] at h1
      generalize totL (vs.take k) = T at hs h1 h2 ⊢
      obtain ⟨pv, pl⟩ := p
      simp only at hpv hs h1 hc
      subst hpv
      clear hp
      go_wp2
      go_roundg (vs.length - (k + 1))
      case measure => omega
      case rel => exact ⟨k + 1, hlt, rfl, by go_num, by rw [hs.out]; simp, rfl⟩
    · obtain rfl : k = vs.length := by omega
      rw [List.take_length]
      go_wp2_with (go_at_call 47; refine (HG.out _ ht _).mono ?_; rintro e w1 ⟨v1, rfl, hr1, hb1⟩; have HR1 := Lib.hid hr1; have HB1 := Lib.hid hb1; obtain ⟨a1, c1, rfl⟩ := hr1.slice; clear hr1 hb1)
      clear HG
      have HAL := Lib.hid (allL_len vs)
      have HTT := Lib.hid ht
      clear ht
      generalize totL vs = TT at HTT HT HAL ⊢
      go_loopg [6, 27] vs.length (fun n s i wr => ∃ (k : Nat) (u : Value), k ≤ vs.length ∧ n = vs.length - k ∧ i = .int .i64 k ∧ u = s ∧ Hid (RowG cL 3 80 wr w.heap.size u (allL (vs.take k))) ∧ Hid (Below w.heap.size w wr))
      case atStart => exact ⟨0, _, Nat.zero_le _, rfl, rfl, rfl, Lib.hid (by simpa using HR1.out), HB1⟩
      case round =>
        obtain ⟨k, u, hk, rfl, rfl, rfl, HR, HB⟩ := hrel
        by_cases hlt : k < vs.length
        · obtain ⟨p, hp⟩ := some_atP hlt
          obtain ⟨hc, hsl⟩ := (HP.out.below rfl HB.out) k p hp
          obtain ⟨pa, pc, hpv⟩ := hsl.slice
          have hs := Lib.hid (allL_snoc hp)
          have h1 := HT.out (k + 1)
          have h2 := HT.out k
          rw [totL_snoc hp] at h1
          have h3 := HTT.out
          have hl1 : (allL (vs.take k)).length ≤ 300000 := by rw [allL_len]; omega
          obtain ⟨v', w2, hrun, hr2, _, hb2, _⟩ := appS (ty := 25) encL appL (by decide) u p.2 HB.out.size HR.out hsl hl1 (by omega)
          have HR2 := Lib.hid hr2
          have HB2 : Hid (Below w.heap.size w w2) := HB.out.trans hb2
          obtain ⟨a2, c2, rfl⟩ := hr2.slice
          obtain ⟨pv, pl⟩ := p
          simp only at hpv hs hc hrun HR2
          subst hpv
          clear hp hr2 hb2 h1 h2 h3 hl1 hsl
          generalize allL (vs.take k) = M at hs hrun HR2 ⊢
          go_wp2_with (at_builtin; refine Lib.wpList_append_run _ rfl _ _ _ _ rfl _ _ rfl rfl _ _ hrun ?_)
          go_roundg (vs.length - (k + 1))
          case measure => omega
          case rel => exact ⟨k + 1, _, hlt, rfl, by go_num, rfl, by rw [hs.out]; rw [← List.length_append]; exact HR2, HB2⟩
        · obtain rfl : k = vs.length := by omega
          rw [List.take_length] at HR
          obtain ⟨a2, c2, hu⟩ := HR.out.slice
          subst hu
          go_wp2
          go_ret
          exact ⟨_, rfl, HR.out, HB.out⟩
/-- Two rows, in a block of their own. -/
theorem concat2L (W : World) (u v : Value) (l m : List Ln) (hl : l.length + m.length ≤ 200000) (hu : SlG cL 3 W u l) (hv : SlG cL 3 W v m) (g : Nat) (hg : W.heap.size = g) (W2 : World) (hW2 : W2 = (W.alloc (.cells #[u, v] 25)) ∨ W2 = (W.alloc (.cells #[u, v] 25)).drew) :
    Calls Try.prog 33 #[.slice (some ⟨g, 0, none⟩) 2 2] W2 (OwnG cL 3 80 (l ++ m) W) := by
  subst hg
  obtain ⟨hb, hs, hc⟩ : Below W.heap.size W W2 ∧ W2.heap.size = W.heap.size + 1 ∧ ∀ k, W2.cell? ⟨W.heap.size, k, none⟩ = #[u, v][k]? := by
    rcases hW2 with rfl | rfl
    · exact ⟨below_alloc _ _, World.size_alloc _ _, fun k => World.cell?_alloc_new W _ _ k⟩
    · exact ⟨(below_alloc _ _).drew, World.size_alloc _ _, fun k => World.cell?_alloc_new W _ _ k⟩
  refine (concatL_any W.heap.size [(u, l), (v, m)] (by simp) (by simp [totL]; omega) _ ?_).mono ?_
  · intro k p hp
    match k, hp with
    | 0, hp => simp at hp; subst hp; exact ⟨(hc 0).trans rfl, hu.below hb⟩
    | 1, hp => simp at hp; subst hp; exact ⟨(hc 1).trans rfl, hv.below hb⟩
  · rintro e w' ⟨v', rfl, hr, hb'⟩
    refine ⟨v', rfl, ?_, below_step hb hb'⟩
    have := hr.base (B' := W.heap.size) (by omega)
    simpa [allL] using this
/-- Three rows, in a block of their own. -/
theorem concat3L (W : World) (u v x : Value) (l m n : List Ln) (hl : l.length + m.length + n.length ≤ 200000) (hu : SlG cL 3 W u l) (hv : SlG cL 3 W v m) (hx : SlG cL 3 W x n) (g : Nat) (hg : W.heap.size = g) (W2 : World) (hW2 : W2 = (W.alloc (.cells #[u, v, x] 25)) ∨ W2 = (W.alloc (.cells #[u, v, x] 25)).drew) :
    Calls Try.prog 33 #[.slice (some ⟨g, 0, none⟩) 3 3] W2 (OwnG cL 3 80 (l ++ (m ++ n)) W) := by
  subst hg
  obtain ⟨hb, hs, hc⟩ : Below W.heap.size W W2 ∧ W2.heap.size = W.heap.size + 1 ∧ ∀ k, W2.cell? ⟨W.heap.size, k, none⟩ = #[u, v, x][k]? := by
    rcases hW2 with rfl | rfl
    · exact ⟨below_alloc _ _, World.size_alloc _ _, fun k => World.cell?_alloc_new W _ _ k⟩
    · exact ⟨(below_alloc _ _).drew, World.size_alloc _ _, fun k => World.cell?_alloc_new W _ _ k⟩
  refine (concatL_any W.heap.size [(u, l), (v, m), (x, n)] (by simp) (by simp [totL]; omega) _ ?_).mono ?_
  · intro k p hp
    match k, hp with
    | 0, hp => simp at hp; subst hp; exact ⟨(hc 0).trans rfl, hu.below hb⟩
    | 1, hp => simp at hp; subst hp; exact ⟨(hc 1).trans rfl, hv.below hb⟩
    | 2, hp => simp at hp; subst hp; exact ⟨(hc 2).trans rfl, hx.below hb⟩
  · rintro e w' ⟨v', rfl, hr, hb'⟩
    refine ⟨v', rfl, ?_, below_step hb hb'⟩
    have := hr.base (B' := W.heap.size) (by omega)
    simpa [allL] using this
end Go.Proofs.Ytpgaepilnbjhbaa
