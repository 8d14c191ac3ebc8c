/- A new table, how many there are; the chapter's example; LeaseCompares. -/
import Derived.Test.YtpgaepilnbjhbaaLsDueL
import Derived.Test.YtpgaepilnbjhbaaLsLendL
set_option maxRecDepth 100000
set_option maxHeartbeats 4000000
set_option linter.unusedVariables false
namespace Go.Proofs.Ytpgaepilnbjhbaa
open Go.RowKit
open Ls (Txt Ln Ms low ltL sameL kl tl)
attribute [local go_sem] store_fn store_nil
abbrev CMP : Value := .func (.func 29) #[] #[]
theorem newL_any (w : World) : Calls Try.prog 30 #[.func (.func 29) #[] #[]] w fun e w' => e = .returned (.agg #[.func (.func 29) #[] #[], .slice none 0 0]) ∧ Below w.heap.size w w' := by
  go_enter Try.func30, Try.ntmps30
  go_wp2
  refine bodyPost_ret_by (v := .agg #[.func (.func 29) #[] #[], .slice none 0 0]) ?_ rfl ⟨rfl, ?_⟩
  · simp [results, Try.results30, go_sem]
  · exact below_alloc _ _
theorem keys_any (w : World) : Calls Try.prog 7 #[] w fun e w' => e = .returned (.agg #[.func (.func 29) #[] #[], .slice none 0 0]) ∧ Below w.heap.size w w' := by
  have HB := Lib.hid (Boxed2.new w 27 .nilFunc (.slice none 0 0))
  go_enter Try.func7, Try.ntmps7
  go_wp2_with (go_at_call 30; refine (newL_any _).mono ?_; rintro e w1 ⟨rfl, hb⟩; have hx := HB.out.below hb; have HX := Lib.hid hx; have x0 := hx.c0; have x1 := hx.c1; have x2 := hx.f0; have x3 := hx.f1; have HB1 := Lib.hid (below_step (below_alloc w _) hb); clear hb hx)
  have h2 := HX.out.set (.func (.func 29) #[] #[]) (.slice none 0 0)
  have c0 := h2.c0
  have c1 := h2.c1
  refine bodyPost_ret_by (v := .agg #[.func (.func 29) #[] #[], .slice none 0 0]) ?_ rfl ⟨rfl, (HB1.out.setCell (Nat.le_refl _) _).setCell (Nat.le_refl _) _⟩
  simp [results, Try.results7, go_sem, c0, c1]
theorem lenL_any (fn : Value) (a : Option Addr) (n c : Nat) (w : World) : Calls Try.prog 20 #[.agg #[fn, .slice a n c]] w fun e w' => e = .returned (.int .i64 n) ∧ w' = w.alloc (.cells #[fn, .slice a n c] 27) := by
  go_enter Try.func20, Try.ntmps20
  go_wp2
  go_ret
  exact ⟨rfl, rfl⟩
theorem cmpK_lt (a b : Ln) : decide (cmpK a b < 0) = kl a b := by
  unfold cmpK
  cases h : kl a b with
  | true => simp
  | false => cases kl b a <;> simp
theorem cmpO_lt (e x : Ln) : decide (cmpO e.t x.t (cmpK e x) < 0) = ltL e x := by
  unfold cmpO ltL
  by_cases h1 : e.t < x.t
  · simp [h1]
  · by_cases h2 : x.t < e.t
    · have h3 : ¬ e.t = x.t := by omega
      simp [h1, h2, h3]
    · have h3 : e.t = x.t := by omega
      rw [if_neg h1, if_neg h2, cmpK_lt]; simp [h3]
theorem lendK_any (sl : Value) (l : List Ln) (hl : l.length ≤ 900) (hu : Ls.Uni sameL l) (hs : Ls.Srt ltL l) (x : Ln) (w : World) (hsl : SlG cL 3 w sl l) :
    Calls Try.prog 14 #[.agg #[.func (.func 29) #[] #[], sl], .agg #[.string (str x.q), .int .u64 x.id], .int .u64 x.t] w (LendOutL (.func (.func 29) #[] #[]) (Ls.lend ltL sameL x l) w) :=
  lendL_any ltL Ls.woL (fun e => cmpO e.t x.t (cmpK e x)) _ (.inl ⟨_, rfl⟩) sl l hl hu hs x w hsl
    (fun e sl' W hs' => orderL_any _ sl' (.inl ⟨_, rfl⟩) hs' e x (cmpK e x) W fun W' => compL_any sl' hs' e x (cmpK e x) W' fun W2 => compareL_any e x W2)
    (fun e => cmpO_lt e x)
theorem ex_lend : Ls.lend ltL sameL ⟨[120], 0, 5⟩ [] = [⟨[120], 0, 5⟩] := rfl
set_option maxHeartbeats 4000000 in
theorem awake_any (w : World) : Calls Try.prog 6 #[] w fun e w' => e = .returned (.bool true) ∧ Below w.heap.size w w' := by
  have H1 : Hid (∀ W, Calls Try.prog 14 #[.agg #[.func (.func 29) #[] #[], .slice none 0 0], .agg #[.string ⟨#[120]⟩, .int .u64 0], .int .u64 5] W (TabOutL (.func (.func 29) #[] #[]) [⟨[120], 0, 5⟩] W)) := fun W => by
    have h0 := lendK_any (.slice none 0 0) [] (by simp) List.Pairwise.nil List.Pairwise.nil ⟨[120], 0, 5⟩ W (SlG.nil _)
    rw [ex_lend] at h0; exact h0.mono fun e w' h => by obtain ⟨v, he, hr, hb⟩ := h; exact ⟨v, he, hr.sl encL, hb⟩
  have H4 : Hid (∀ sl W, SlG cL 3 W sl [⟨[120], 0, 5⟩] → Calls Try.prog 10 #[.agg #[.func (.func 29) #[] #[], sl], .int .u64 4] W fun e w' => ∃ a c a2 c2, e = .returned (.tuple #[.slice a 0 c, .agg #[.func (.func 29) #[] #[], .slice a2 1 c2]]) ∧ Below W.heap.size W w') := fun sl W h => by
    refine (dueL_any (.func (.func 29) #[] #[]) (.inl ⟨_, rfl⟩) sl 4 [⟨[120], 0, 5⟩] (by simp) W h).mono ?_
    rintro e w' ⟨v, s', rfl, hr, hs, hb⟩
    rw [show ([⟨[120], 0, 5⟩] : List Ln).take (low (fun e : Ln => decide (e.t ≤ 4)) ([⟨[120], 0, 5⟩] : List Ln)) = [] from rfl] at hr
    rw [show ([⟨[120], 0, 5⟩] : List Ln).drop (low (fun e : Ln => decide (e.t ≤ 4)) ([⟨[120], 0, 5⟩] : List Ln)) = [⟨[120], 0, 5⟩] from rfl] at hs
    obtain ⟨a, c, rfl⟩ := hr.slice
    obtain ⟨a2, c2, rfl⟩ := hs.slice
    exact ⟨a, c, a2, c2, rfl, hb⟩
  have H5 : Hid (∀ sl W, SlG cL 3 W sl [⟨[120], 0, 5⟩] → Calls Try.prog 10 #[.agg #[.func (.func 29) #[] #[], sl], .int .u64 5] W fun e w' => ∃ a c a2 c2, e = .returned (.tuple #[.slice a 1 c, .agg #[.func (.func 29) #[] #[], .slice a2 0 c2]]) ∧ Below W.heap.size W w') := fun sl W h => by
    refine (dueL_any (.func (.func 29) #[] #[]) (.inl ⟨_, rfl⟩) sl 5 [⟨[120], 0, 5⟩] (by simp) W h).mono ?_
    rintro e w' ⟨v, s', rfl, hr, hs, hb⟩
    rw [show (([⟨[120], 0, 5⟩] : List Ln).take (low (fun e : Ln => decide (e.t ≤ 5)) ([⟨[120], 0, 5⟩] : List Ln))).map keyL = [⟨[120], 0⟩] from rfl] at hr
    rw [show ([⟨[120], 0, 5⟩] : List Ln).drop (low (fun e : Ln => decide (e.t ≤ 5)) ([⟨[120], 0, 5⟩] : List Ln)) = [] from rfl] at hs
    obtain ⟨a, c, rfl⟩ := hr.slice
    obtain ⟨a2, c2, rfl⟩ := hs.slice
    exact ⟨a, c, a2, c2, rfl, hb⟩
  have HL := Lib.hid (fun a n c W => lenL_any (.func (.func 29) #[] #[]) a n c W)
  go_enter Try.func6, Try.ntmps6
  go_wp2_with (first
    | (go_at_call 20; refine (HL.out _ _ _ _).mono ?_; rintro e wl ⟨rfl, rfl⟩)
    | (go_at_call 10; refine (H5.out _ _ ((HS3.out.below (below_alloc _ _)))).mono ?_; rintro e w4 ⟨a5, c5, a6, c6, rfl, hb4⟩; have hb4' := below_step (below_alloc w3 _) hb4; have HT4 := Lib.hid (HT3.out.below hb4'); have HB4 := Lib.hid (on HB3.out (Nat.le_refl _) hb4'); have t0 := fun o => cell_alloc HT4.out.c0 o; have t1 := fun o => cell_alloc HT4.out.c1 o; have t2 := fun o o2 => cell_alloc (cell_alloc HT4.out.c0 o) o2; have t3 := fun o o2 => cell_alloc (cell_alloc HT4.out.c1 o) o2; clear hb4 hb4')
    | (go_at_call 10; refine (H4.out _ _ ((HS1.out.below (below_alloc _ _)))).mono ?_; rintro e w3 ⟨a3, c3, a4, c4, rfl, hb3⟩; have HT3 := Lib.hid ((Boxed2.new w2 _ _ _).below hb3); have HS3 := Lib.hid ((HS1.out.below (below_alloc _ _)).below hb3); have HB3 := Lib.hid (on HB2.out (Nat.le_refl _) (below_step (below_alloc w2 _) hb3)); have r0 := HT3.out.c0; have r1 := HT3.out.c1; have r2 := fun o => cell_alloc HT3.out.c0 o; have r3 := fun o => cell_alloc HT3.out.c1 o; clear hb3)
    | (go_at_call 14; refine (H1.out _).mono ?_; rintro e w2 ⟨s2, rfl, hs2, hb2⟩; obtain ⟨a2, c2, rfl⟩ := hs2.slice; have HS1 := Lib.hid hs2; have HB2 := Lib.hid (on HB1.out (Nat.le_refl _) hb2); clear hs2 hb2)
    | (go_at_call 7; refine (keys_any _).mono ?_; rintro e w1 ⟨rfl, hb1⟩; have HB1 := Lib.hid hb1; clear hb1))
  go_ret
  exact ⟨rfl, ((HB4.out.alloc HB4.out.size _).alloc (by have := HB4.out.size; simp; omega) _).alloc (by have := HB4.out.size; simp; omega) _⟩
end Go.Proofs.Ytpgaepilnbjhbaa
