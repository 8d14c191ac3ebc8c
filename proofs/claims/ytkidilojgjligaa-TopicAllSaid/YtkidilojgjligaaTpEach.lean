/- topic.Words, topic.each, Key, Pattern. -/
import Derived.Test.YtkidilojgjligaaTpIt
import Derived.Test.YtkidilojgjligaaTpName
set_option maxRecDepth 100000
set_option maxHeartbeats 4000000
set_option linter.unusedVariables false
namespace Go.Proofs.Ytkidilojgjligaa
open Go.RowKit
open Tp
attribute [local go_sem] Oper.semAt_some
theorem words_any (s : Txt) (w : World) : Calls Try.prog 15 #[.string (str s)] w fun e w' => e = .returned (.func (.func 29) #[] #[.pointer (some ⟨w.heap.size, 0, none⟩)]) ∧ w' = w.alloc (.cells #[.string (str s)] 9) := by
  go_enter Try.func15, Try.ntmps15
  go_wp2
  go_ret
  exact ⟨rfl, rfl⟩
theorem pat1_any (x : Txt) (hx : x.length ≤ 100000) (w : World) : Calls Try.prog 27 #[.string (str x)] w fun e w' => e = .returned (.bool (wordB x)) ∧ w = w' := by
  have hN := Lib.hid (name_any x hx)
  go_enter Try.func27, Try.ntmps27
  go_wp2_with (go_at_call 7; refine (hN.out _).mono ?_; rintro e w1 ⟨rfl, rfl⟩)
  · rename_i h
    rw [strL] at h
    go_ret
    exact ⟨ret_bool (by simp [wordB, h]), rfl⟩
  · rename_i h1 h2
    rw [strL] at h1 h2
    go_ret
    exact ⟨ret_bool (by simp [wordB, h2]), rfl⟩
  · rename_i h1 h2
    rw [strL] at h1 h2
    go_ret
    exact ⟨ret_bool (by rw [strL]; simp [wordB, h1, h2]), rfl⟩
theorem boxed_keep {B0 : Nat} {X Y : World} {row : Option Nat} {B : Nat} {t : TypeId} {v : Value} (h : Boxed X B t v) (hg : X.grownBy Y row) (hr : ∀ r, row = some r → B0 ≤ r ∧ ∃ o : Obj, X.heap[r]? = some o ∧ o.isCells = false) : Boxed Y B t v :=
  h.kept hg (fun e' => by obtain ⟨_, o, ho, hc⟩ := hr B e'.symm; rw [show X.heap[B]? = _ from h] at ho; cases ho; cases hc)
/-- What a text's words are held to. -/
def eachB (p : Txt → Bool) (s : Txt) : Bool := decide ((words s).length ≤ 8) && (words s).all p
theorem each_bad {p : Txt → Bool} {s : Txt} {pre : List Txt} {x : Txt} (h : pre ++ [x] <+: words s) (hb : 8 < pre.length + 1 ∨ p x = false) : eachB p s = false := by
  unfold eachB
  rcases hb with hb | hb
  · have := h.length_le
    rw [List.length_append, List.length_singleton] at this
    rw [decide_eq_false (by omega)]; rfl
  · have : (words s).all p = false := by
      rw [List.all_eq_false]
      exact ⟨x, h.subset (by simp), by simp [hb]⟩
    rw [this, Bool.and_false]
theorem each_good {p : Txt → Bool} {s : Txt} (h : (words s).length ≤ 8) (ha : (words s).all p = true) : eachB p s = true := by
  unfold eachB; simp [h, ha]
/-- The boxes of each, and what has come. -/
structure EB (w : World) (r : Nat) (p : Txt → Bool) (s : Txt) (pre : List Txt) (W : World) : Prop where
  b0 : Boxed W w.heap.size 23 (.func (.func r) #[] #[])
  b1 : Boxed W (w.heap.size + 1) 4 (.bool false)
  b2 : Boxed W (w.heap.size + 1 + 1) 3 (.int .i64 pre.length)
  b3 : Boxed W (w.heap.size + 1 + 1 + 1) 9 (.string (str s))
  bel : RowKit.Below w.heap.size w W
  le : pre.length ≤ 8
  all : pre.all p = true
structure EX (w : World) (p : Txt → Bool) (s : Txt) (W : World) : Prop where
  b1 : Boxed W (w.heap.size + 1) 4 (.bool false)
  bel : RowKit.Below w.heap.size w W
  bad : eachB p s = false
theorem eb_own (w : World) (r : Nat) (p : Txt → Bool) (s : Txt) (B : Nat) (hB : w.heap.size ≤ B) : OwnFrom B (EB w r p s) := fun _ _ _ _ h hg hr =>
  ⟨boxed_keep h.b0 hg hr, boxed_keep h.b1 hg hr, boxed_keep h.b2 hg hr, boxed_keep h.b3 hg hr, (ownFrom_below (β := Unit) (Nat.le_refl _) hB) () _ _ _ h.bel hg hr, h.le, h.all⟩
theorem ex_own (w : World) (p : Txt → Bool) (s : Txt) (B : Nat) (hB : w.heap.size ≤ B) : OwnFrom B (fun (_ : List Txt) => EX w p s) := fun _ _ _ _ h hg hr =>
  ⟨boxed_keep h.b1 hg hr, (ownFrom_below (β := Unit) (Nat.le_refl _) hB) () _ _ _ h.bel hg hr, h.bad⟩
theorem boxed_drewN {W : World} {B : Nat} {t : TypeId} {v : Value} (h : Boxed W B t v) (q : Nat) : Boxed (W.drewN q) B t v := h
theorem EB.drewN {w : World} {r : Nat} {p : Txt → Bool} {s : Txt} {pre : List Txt} {W : World} (h : EB w r p s pre W) (q : Nat) : EB w r p s pre (W.drewN q) := ⟨h.b0, h.b1, h.b2, h.b3, below_drewT h.bel q, h.le, h.all⟩
theorem EB.wg {w : World} {r : Nat} {p : Txt → Bool} {s : Txt} {pre : List Txt} {W : World} (h : EB w r p s pre W) {m : Int} (hm : w.cell? ⟨0, 0, none⟩ = some (.int .i64 m)) : WG (w.heap.size + 1 + 1 + 1) s m W :=
  ⟨h.b3.cell, (h.bel.cell (p := ⟨0, 0, none⟩) (World.block_lt_of_cell? _ _ hm)).trans hm⟩
theorem eb_go {w : World} {r : Nat} {p : Txt → Bool} {s : Txt} {pre : List Txt} {x : Txt} {W : World} {B : Nat} (h : EB w r p s pre W) (hB : w.heap.size + 1 + 1 < B) (hl : pre.length + 1 ≤ 8) (hp : p x = true) :
    KeepsFrom B W (W.setCell ⟨w.heap.size + 1 + 1, 0, none⟩ (.int .i64 ((pre.length : Int) + 1))) ∧ EB w r p s (pre ++ [x]) (W.setCell ⟨w.heap.size + 1 + 1, 0, none⟩ (.int .i64 ((pre.length : Int) + 1))) := by
  refine ⟨(KeepsOthers.setCell _ _ _).from _, h.b0.other (by omega) _, h.b1.other (by omega) _, ?_, h.b3.other (by omega) _, h.bel.setCell (by simp; omega) _, by simpa using hl, by rw [List.all_append, h.all]; simp [hp]⟩
  have := h.b2.set (.int .i64 ((pre.length : Int) + 1))
  simpa using this
theorem eb_leave {w : World} {r : Nat} {p : Txt → Bool} {s : Txt} {pre : List Txt} {W : World} {B : Nat} (h : EB w r p s pre W) (hB : w.heap.size + 1 + 1 < B) (hb : eachB p s = false) :
    KeepsFrom B W ((W.setCell ⟨w.heap.size + 1 + 1, 0, none⟩ (.int .i64 ((pre.length : Int) + 1))).setCell ⟨w.heap.size + 1, 0, none⟩ (.bool false)) ∧ EX w p s ((W.setCell ⟨w.heap.size + 1 + 1, 0, none⟩ (.int .i64 ((pre.length : Int) + 1))).setCell ⟨w.heap.size + 1, 0, none⟩ (.bool false)) := by
  refine ⟨((KeepsOthers.setCell _ _ _).trans (KeepsOthers.setCell _ _ _)).from _, ?_, (h.bel.setCell (by simp; omega) _).setCell (by simp) _, hb⟩
  exact (h.b1.other (by omega) (.int .i64 ((pre.length : Int) + 1))).set (.bool false)
theorem results_cell1 (tmps : Array Value) {W : World} {B : Nat} (ht : tmps[4]? = some (.pointer (some ⟨B, 0, none⟩))) {v : Bool} (h : Boxed W B 4 (.bool v)) : (results Try.f26 tmps).run Try.prog W = .ok (.bool v) W := by
  have hc := h.cell
  simp [results, Try.results26, go_sem, ht, hc]
set_option maxHeartbeats 4000000 in
set_option maxRecDepth 100000 in
theorem eachN_any (s : Txt) (hs : s.length ≤ 100000) (m : Int) (w : World) (hm : w.cell? ⟨0, 0, none⟩ = some (.int .i64 m)) :
    Calls Try.prog 26 #[.string (str s), .func (.func 7) #[] #[]] w fun e w' => e = .returned (.bool (eachB nameB s)) ∧ RowKit.Below w.heap.size w w' := by
  refine (callsIn_wide (n := 8)).1 (callsIn_of_wp_marks Try.func26 rfl trivial ?_ rfl)
  simp only [Try.ntmps26, List.size_toArray, List.length_cons, List.length_nil, Nat.reduceAdd, Nat.reduceSub, Array.replicate_succ, Array.replicate_zero, List.push_toArray, List.append_toArray, List.nil_append, List.cons_append]
  have HM := Lib.hid hm
  clear hm
  gi_wp2_with (refine ⟨trivial, ?_⟩; gi_at_call 15; refine (callsIn_wide.2 (words_any s _)).mono ?_; rintro e w1 ⟨rfl, rfl⟩)
  have H0 : Hid (EB w 7 nameB s [] ((((w.alloc (.cells #[.func (.func 7) #[] #[]] 23)).alloc (.cells #[.bool false] 4)).alloc (.cells #[.int .i64 0] 3)).alloc (.cells #[.string (str s)] 9))) := by
    refine ⟨(((Boxed.new w _ _).alloc _).alloc _).alloc _, ?_, ?_, ?_, ((((Below.refl _ _).alloc (Nat.le_refl _) _).alloc (by simp) _).alloc (by simp; omega) _).alloc (by simp; omega) _, Nat.zero_le _, rfl⟩
    · have := Boxed.new (w.alloc (.cells #[.func (.func 7) #[] #[]] 23)) 4 (.bool false)
      rw [World.size_alloc] at this
      exact (this.alloc _).alloc _
    · have := Boxed.new ((w.alloc (.cells #[.func (.func 7) #[] #[]] 23)).alloc (.cells #[.bool false] 4)) 3 (.int .i64 0)
      rw [World.size_alloc, World.size_alloc] at this
      exact this.alloc _
    · have := Boxed.new (((w.alloc (.cells #[.func (.func 7) #[] #[]] 23)).alloc (.cells #[.bool false] 4)).alloc (.cells #[.int .i64 0] 3)) 9 (.string (str s))
      rw [World.size_alloc, World.size_alloc, World.size_alloc] at this
      exact this
  refine rangeL (n := 8) (gf := 29) (lb := #[.pointer (some ⟨w.heap.size + 1 + 1 + 1, 0, none⟩)]) (by decide) rfl (fun args w => by kernel_rfl) (words1_in 7 (by decide) _ s hs m) rfl
    (EB w 7 nameB s) (fun _ => EX w nameB s) (eb_own _ _ _ _ _ (by simp; omega)) (ex_own _ _ _ _ (by simp; omega)) (fun pre W h => h.wg HM.out) (fun pre W q h => h.drewN q) H0.out
    (fun x => { tmps := #[.string (str s), .func (.func 7) #[] #[], undef, .pointer (some ⟨w.heap.size, 0, none⟩), .pointer (some ⟨w.heap.size + 1, 0, none⟩), .pointer (some ⟨w.heap.size + 1 + 1, 0, none⟩), .string (str x), .string (str s), .func (.func 29) #[] #[.pointer (some ⟨w.heap.size + 1 + 1 + 1, 0, none⟩)], .string (str x), undef, undef, undef, undef, undef, undef, undef, undef, undef, undef], defers := [] }) ?assign ?body ?done ?stop
  case assign =>
    intro l x W K hK
    gi_wp2
    exact hK
  case body =>
    intro l pre x W hI hpre
    have HI := Lib.hid hI
    have HP := Lib.hid hpre
    have hxl : x.length ≤ 100000 := Nat.le_trans (words_sum s x (hpre.subset (by simp))) hs
    have c0 := hI.b0.cell
    have c1 := hI.b1.cell
    have f1 := hI.b1.frozen
    have c2 := hI.b2.cell
    have f2 := hI.b2.frozen
    have hle := hI.le
    clear hI hpre
    by_cases h9 : 8 < pre.length + 1
    · have h9i : (8 : Int) < (pre.length : Int) + 1 := by omega
      gi_wp2
      refine ⟨fun f hf => (by cases hf), ?_⟩
      gi_wp2
      exact eb_leave HI.out (by simp) (each_bad HP.out (.inl h9))
    · have h9i : ¬ (8 : Int) < (pre.length : Int) + 1 := by omega
      by_cases hp : nameB x = true
      · have HPX := Lib.hid hp
        clear hp
        gi_wp2_with (refine ⟨trivial, ?_⟩; gi_at_call 7; refine (callsIn_wide.2 (name_any x hxl _)).mono ?_; rintro e w1 ⟨rfl, rfl⟩; rw [HPX.out])
        exact eb_go HI.out (by simp) (by omega) HPX.out
      · have hp' : nameB x = false := by simpa using hp
        have HPX := Lib.hid hp'
        clear hp hp'
        gi_wp2_with (refine ⟨trivial, ?_⟩; gi_at_call 7; refine (callsIn_wide.2 (name_any x hxl _)).mono ?_; rintro e w1 ⟨rfl, rfl⟩; rw [HPX.out])
        exact eb_leave HI.out (by simp) (each_bad HP.out (.inr HPX.out))
  case done =>
    intro D W hD hI hK
    have c1 := hI.b1.cell
    have f1 := hI.b1.frozen
    have HI := Lib.hid hI
    have HK := Lib.hid hK
    have HD := Lib.hid hD
    clear hI hK hD
    gi_wp2
    have hD := HD.out
    simp only [World.size_alloc] at hD
    have hK : (W.setCell ⟨w.heap.size + 1, 0, none⟩ (.bool true)).heap[D]? = some (.deferred (some [])) := (Below.heap_setCell _ _ _ _ (by simp; omega)).trans HK.out
    have hb : Boxed ((W.setCell ⟨w.heap.size + 1, 0, none⟩ (.bool true)).putObj D (.deferred none)) (w.heap.size + 1) 4 (.bool true) := (World.putObj_heap_other (by omega)).trans (HI.out.b1.set (.bool true))
    refine ⟨by simp, .inl ⟨_, _, rfl, run_takeDeferred hK, ?_⟩⟩
    refine ⟨_, results_cell1 _ rfl hb, ret_bool (each_good HI.out.le HI.out.all).symm, ?_⟩
    exact (HI.out.bel.setCell (p := ⟨w.heap.size + 1, 0, none⟩) (by simp) _).trans (belowK_b (w := w) (Nat.le_refl _) _ D _ _ (by omega) hK rfl rfl)
  case stop =>
    intro D pre W hD hX hK
    have c1 := hX.b1.cell
    have f1 := hX.b1.frozen
    have HI := Lib.hid hX
    have HK := Lib.hid hK
    have HD := Lib.hid hD
    clear hX hK hD
    gi_wp2
    have hD := HD.out
    simp only [World.size_alloc] at hD
    have hb : Boxed (W.putObj D (.deferred none)) (w.heap.size + 1) 4 (.bool false) := (World.putObj_heap_other (by omega)).trans HI.out.b1
    refine ⟨by simp, .inl ⟨_, _, rfl, run_takeDeferred HK.out, ?_⟩⟩
    refine ⟨_, results_cell1 _ rfl hb, ret_bool HI.out.bad.symm, ?_⟩
    exact HI.out.bel.trans (belowK_b (w := w) (Nat.le_refl _) _ D _ _ (by omega) HK.out rfl rfl)
set_option maxHeartbeats 4000000 in
set_option maxRecDepth 100000 in
theorem eachP_any (s : Txt) (hs : s.length ≤ 100000) (m : Int) (w : World) (hm : w.cell? ⟨0, 0, none⟩ = some (.int .i64 m)) :
    Calls Try.prog 26 #[.string (str s), .func (.func 27) #[] #[]] w fun e w' => e = .returned (.bool (eachB wordB s)) ∧ RowKit.Below w.heap.size w w' := by
  refine (callsIn_wide (n := 8)).1 (callsIn_of_wp_marks Try.func26 rfl trivial ?_ rfl)
  simp only [Try.ntmps26, List.size_toArray, List.length_cons, List.length_nil, Nat.reduceAdd, Nat.reduceSub, Array.replicate_succ, Array.replicate_zero, List.push_toArray, List.append_toArray, List.nil_append, List.cons_append]
  have HM := Lib.hid hm
  clear hm
  gi_wp2_with (refine ⟨trivial, ?_⟩; gi_at_call 15; refine (callsIn_wide.2 (words_any s _)).mono ?_; rintro e w1 ⟨rfl, rfl⟩)
  have H0 : Hid (EB w 27 wordB s [] ((((w.alloc (.cells #[.func (.func 27) #[] #[]] 23)).alloc (.cells #[.bool false] 4)).alloc (.cells #[.int .i64 0] 3)).alloc (.cells #[.string (str s)] 9))) := by
    refine ⟨(((Boxed.new w _ _).alloc _).alloc _).alloc _, ?_, ?_, ?_, ((((Below.refl _ _).alloc (Nat.le_refl _) _).alloc (by simp) _).alloc (by simp; omega) _).alloc (by simp; omega) _, Nat.zero_le _, rfl⟩
    · have := Boxed.new (w.alloc (.cells #[.func (.func 27) #[] #[]] 23)) 4 (.bool false)
      rw [World.size_alloc] at this
      exact (this.alloc _).alloc _
    · have := Boxed.new ((w.alloc (.cells #[.func (.func 27) #[] #[]] 23)).alloc (.cells #[.bool false] 4)) 3 (.int .i64 0)
      rw [World.size_alloc, World.size_alloc] at this
      exact this.alloc _
    · have := Boxed.new (((w.alloc (.cells #[.func (.func 27) #[] #[]] 23)).alloc (.cells #[.bool false] 4)).alloc (.cells #[.int .i64 0] 3)) 9 (.string (str s))
      rw [World.size_alloc, World.size_alloc, World.size_alloc] at this
      exact this
  refine rangeL (n := 8) (gf := 29) (lb := #[.pointer (some ⟨w.heap.size + 1 + 1 + 1, 0, none⟩)]) (by decide) rfl (fun args w => by kernel_rfl) (words1_in 7 (by decide) _ s hs m) rfl
    (EB w 27 wordB s) (fun _ => EX w wordB s) (eb_own _ _ _ _ _ (by simp; omega)) (ex_own _ _ _ _ (by simp; omega)) (fun pre W h => h.wg HM.out) (fun pre W q h => h.drewN q) H0.out
    (fun x => { tmps := #[.string (str s), .func (.func 27) #[] #[], undef, .pointer (some ⟨w.heap.size, 0, none⟩), .pointer (some ⟨w.heap.size + 1, 0, none⟩), .pointer (some ⟨w.heap.size + 1 + 1, 0, none⟩), .string (str x), .string (str s), .func (.func 29) #[] #[.pointer (some ⟨w.heap.size + 1 + 1 + 1, 0, none⟩)], .string (str x), undef, undef, undef, undef, undef, undef, undef, undef, undef, undef], defers := [] }) ?assign ?body ?done ?stop
  case assign =>
    intro l x W K hK
    gi_wp2
    exact hK
  case body =>
    intro l pre x W hI hpre
    have HI := Lib.hid hI
    have HP := Lib.hid hpre
    have hxl : x.length ≤ 100000 := Nat.le_trans (words_sum s x (hpre.subset (by simp))) hs
    have c0 := hI.b0.cell
    have c1 := hI.b1.cell
    have f1 := hI.b1.frozen
    have c2 := hI.b2.cell
    have f2 := hI.b2.frozen
    have hle := hI.le
    clear hI hpre
    by_cases h9 : 8 < pre.length + 1
    · have h9i : (8 : Int) < (pre.length : Int) + 1 := by omega
      gi_wp2
      refine ⟨fun f hf => (by cases hf), ?_⟩
      gi_wp2
      exact eb_leave HI.out (by simp) (each_bad HP.out (.inl h9))
    · have h9i : ¬ (8 : Int) < (pre.length : Int) + 1 := by omega
      by_cases hp : wordB x = true
      · have HPX := Lib.hid hp
        clear hp
        gi_wp2_with (refine ⟨trivial, ?_⟩; gi_at_call 27; refine (callsIn_wide.2 (pat1_any x hxl _)).mono ?_; rintro e w1 ⟨rfl, rfl⟩; rw [HPX.out])
        exact eb_go HI.out (by simp) (by omega) HPX.out
      · have hp' : wordB x = false := by simpa using hp
        have HPX := Lib.hid hp'
        clear hp hp'
        gi_wp2_with (refine ⟨trivial, ?_⟩; gi_at_call 27; refine (callsIn_wide.2 (pat1_any x hxl _)).mono ?_; rintro e w1 ⟨rfl, rfl⟩; rw [HPX.out])
        exact eb_leave HI.out (by simp) (each_bad HP.out (.inr HPX.out))
  case done =>
    intro D W hD hI hK
    have c1 := hI.b1.cell
    have f1 := hI.b1.frozen
    have HI := Lib.hid hI
    have HK := Lib.hid hK
    have HD := Lib.hid hD
    clear hI hK hD
    gi_wp2
    have hD := HD.out
    simp only [World.size_alloc] at hD
    have hK : (W.setCell ⟨w.heap.size + 1, 0, none⟩ (.bool true)).heap[D]? = some (.deferred (some [])) := (Below.heap_setCell _ _ _ _ (by simp; omega)).trans HK.out
    have hb : Boxed ((W.setCell ⟨w.heap.size + 1, 0, none⟩ (.bool true)).putObj D (.deferred none)) (w.heap.size + 1) 4 (.bool true) := (World.putObj_heap_other (by omega)).trans (HI.out.b1.set (.bool true))
    refine ⟨by simp, .inl ⟨_, _, rfl, run_takeDeferred hK, ?_⟩⟩
    refine ⟨_, results_cell1 _ rfl hb, ret_bool (each_good HI.out.le HI.out.all).symm, ?_⟩
    exact (HI.out.bel.setCell (p := ⟨w.heap.size + 1, 0, none⟩) (by simp) _).trans (belowK_b (w := w) (Nat.le_refl _) _ D _ _ (by omega) hK rfl rfl)
  case stop =>
    intro D pre W hD hX hK
    have c1 := hX.b1.cell
    have f1 := hX.b1.frozen
    have HI := Lib.hid hX
    have HK := Lib.hid hK
    have HD := Lib.hid hD
    clear hX hK hD
    gi_wp2
    have hD := HD.out
    simp only [World.size_alloc] at hD
    have hb : Boxed (W.putObj D (.deferred none)) (w.heap.size + 1) 4 (.bool false) := (World.putObj_heap_other (by omega)).trans HI.out.b1
    refine ⟨by simp, .inl ⟨_, _, rfl, run_takeDeferred HK.out, ?_⟩⟩
    refine ⟨_, results_cell1 _ rfl hb, ret_bool HI.out.bad.symm, ?_⟩
    exact HI.out.bel.trans (belowK_b (w := w) (Nat.le_refl _) _ D _ _ (by omega) HK.out rfl rfl)
theorem key_any (s : Txt) (hs : s.length ≤ 100000) (m : Int) (w : World) (hm : w.cell? ⟨0, 0, none⟩ = some (.int .i64 m)) : Calls Try.prog 9 #[.string (str s)] w fun e w' => e = .returned (.bool (keyB s)) ∧ RowKit.Below w.heap.size w w' := by
  have HE := Lib.hid (eachN_any s hs m w hm)
  clear hm
  go_enter Try.func9, Try.ntmps9
  go_wp2_with (go_at_call 26; (with_reducible refine HE.out.mono ?_); rintro e w1 ⟨rfl, hb1⟩; have HB1 := Lib.hid hb1; clear hb1)
  go_ret
  exact ⟨rfl, HB1.out⟩
theorem pat_any (s : Txt) (hs : s.length ≤ 100000) (m : Int) (w : World) (hm : w.cell? ⟨0, 0, none⟩ = some (.int .i64 m)) : Calls Try.prog 11 #[.string (str s)] w fun e w' => e = .returned (.bool (patB s)) ∧ RowKit.Below w.heap.size w w' := by
  have HE := Lib.hid (eachP_any s hs m w hm)
  clear hm
  go_enter Try.func11, Try.ntmps11
  go_wp2_with (go_at_call 26; (with_reducible refine HE.out.mono ?_); rintro e w1 ⟨rfl, hb1⟩; have HB1 := Lib.hid hb1; clear hb1)
  go_ret
  exact ⟨rfl, HB1.out⟩
end Go.Proofs.Ytkidilojgjligaa
