/- Texts of one seat, merged. -/
import Derived.Test.YtgmneapgihakgaaGreatDoorZ10
import Derived.Deep.RegionHeld3
import Derived.StillTailTactics
import Derived.Test.YtgmneapgihakgaaGreatDoorZ09
import Derived.WalkKit
import Derived.Below
import Derived.Lib.Hide
import Derived.Defers
import Derived.Recover
import Derived.Deep.DeepCutAuto
import Derived.RecoverIn
set_option maxRecDepth 100000
set_option maxHeartbeats 4000000
set_option linter.unusedVariables false
/- The pairs of a shelf within bounds, one by one. -/
namespace Go.Proofs.YtgmneapgihakgaaGreatDoor
open Go.RowKit Go.Sort Go.Maps
open Tx (Rise At Ord above)
attribute [local go_sem] Oper.semAt_some
theorem from_g {w w' : World} {p B g : Nat} {v : Value} {l : List Txt} {x : Txt} (h : SetT w p B v l) (hg : w.heap.size = g)
    (hw : w' = (((w.alloc (.cells #[.pointer (some ⟨p, 0, none⟩)] 133)).alloc (.cells #[.string (str x)] 9)).alloc (.cells #[.func (.func 201) #[] #[.pointer (some ⟨g, 0, none⟩), .pointer (some ⟨g + 1, 0, none⟩)]] 280)).alloc (.cells #[.func (.func 184) #[.pointer (some ⟨p, 0, none⟩)] #[]] 281)) :
    FromG p B (g + 1 + 1) (g + 1 + 1 + 1) g (g + 1) v l x w' ∧ Below g w w' := by
  subst hg
  have hb : Below w.heap.size w w' := by rw [hw]; exact ((((Below.refl _ _).alloc (Nat.le_refl _) _).alloc (by simp) _).alloc (by simp; omega) _).alloc (by simp; omega) _
  have b0 := Boxed.new w 133 (.pointer (some ⟨p, 0, none⟩))
  have b1 := Boxed.new (w.alloc (.cells #[.pointer (some ⟨p, 0, none⟩)] 133)) 9 (.string (str x))
  have b2 := Boxed.new ((w.alloc (.cells #[.pointer (some ⟨p, 0, none⟩)] 133)).alloc (.cells #[.string (str x)] 9)) 280 (.func (.func 201) #[] #[.pointer (some ⟨w.heap.size, 0, none⟩), .pointer (some ⟨w.heap.size + 1, 0, none⟩)])
  have b3 := Boxed.new (((w.alloc (.cells #[.pointer (some ⟨p, 0, none⟩)] 133)).alloc (.cells #[.string (str x)] 9)).alloc (.cells #[.func (.func 201) #[] #[.pointer (some ⟨w.heap.size, 0, none⟩), .pointer (some ⟨w.heap.size + 1, 0, none⟩)]] 280)) 281 (.func (.func 184) #[.pointer (some ⟨p, 0, none⟩)] #[])
  simp only [World.size_alloc] at b1 b2 b3
  refine ⟨⟨h.below hb, ?_, ?_, ?_, ?_⟩, hb⟩
  · rw [hw]; exact (b2.alloc _).cell
  · rw [hw]; exact b3.cell
  · rw [hw]; exact (((b0.alloc _).alloc _).alloc _).cell
  · rw [hw]; exact ((b1.alloc _).alloc _).cell
theorem sxFrom_any (p : Nat) (x : Txt) (w : World) :
    Calls Tryz.prog 100 #[.pointer (some ⟨p, 0, none⟩), .string (str x)] w fun e w' => e = .returned (.func (.func 251) #[] #[.pointer (some ⟨w.heap.size + 1 + 1, 0, none⟩), .pointer (some ⟨w.heap.size + 1 + 1 + 1, 0, none⟩)]) ∧ w' = (((w.alloc (.cells #[.pointer (some ⟨p, 0, none⟩)] 133)).alloc (.cells #[.string (str x)] 9)).alloc (.cells #[.func (.func 201) #[] #[.pointer (some ⟨w.heap.size, 0, none⟩), .pointer (some ⟨w.heap.size + 1, 0, none⟩)]] 280)).alloc (.cells #[.func (.func 184) #[.pointer (some ⟨p, 0, none⟩)] #[]] 281) := by
  go_enter Tryz.func100, Tryz.ntmps100
  go_wp2
  go_ret
  exact ⟨rfl, rfl⟩
theorem shRange_any (p : Nat) (fr up : Txt) (w : World) :
    Calls Tryz.prog 24 #[.pointer (some ⟨p, 0, none⟩), .string (str fr), .string (str up)] w fun e w' => e = .returned (.func (.func 99) #[] #[.pointer (some ⟨w.heap.size, 0, none⟩), .pointer (some ⟨w.heap.size + 1, 0, none⟩), .pointer (some ⟨w.heap.size + 1 + 1, 0, none⟩)]) ∧ w' = ((w.alloc (.cells #[.pointer (some ⟨p, 0, none⟩)] 25)).alloc (.cells #[.string (str fr)] 9)).alloc (.cells #[.string (str up)] 9) := by
  go_enter Tryz.func24, Tryz.ntmps24
  go_wp2
  go_ret
  exact ⟨rfl, rfl⟩
/-- A pair of a row, and that there is no error. -/
def encP (x : Txt × Txt) : Array Value := #[prV x.1 x.2, .int .i64 0]
/-- Is a text ahead of a bound, if there is one? -/
def ahead (up k : Txt) : Bool := decide (up = []) || slt k up
/-- The pairs within bounds. -/
def between (ks : List Txt) (f : Txt → Txt) (fr up : Txt) : List (Txt × Txt) := ((notB ks fr).takeWhile (ahead up)).map (fun k => (k, f k))
structure RangeG (p sp mb B nn b1 b2 b3 : Nat) (v : Value) (ks : List Txt) (f : Txt → Txt) (fr up : Txt) (A : World) : Prop where
  sh : Sh A p sp mb B nn v ks f
  c1 : A.cell? ⟨b1, 0, none⟩ = some (.pointer (some ⟨p, 0, none⟩))
  c2 : A.cell? ⟨b2, 0, none⟩ = some (.string (str fr))
  c3 : A.cell? ⟨b3, 0, none⟩ = some (.string (str up))
/-- A post that no panic meets. -/
def calmQ (Q : Exit → Act → World → Prop) : Exit → Act → World → Prop
  | .panic _, _, _ => False
  | e, a, w => Q e a w
theorem calm_leQ {Q : Exit → Act → World → Prop} : ∀ {e : Exit} {a : Act} {w : World}, calmQ Q e a w → Q e a w := fun {e} {a} {w} h => by
  cases e with
  | panic ch => exact (show False from h).elim
  | normal => exact h
  | ret => exact h
  | exit id => exact h
  | goto t => exact h
  | outgrown => exact h
/-- What the range over the keys keeps. -/
structure RangeI (W wF : World) (J : List (Txt × Txt) → (Nat → Prop) → World → Prop) (f : Txt → Txt) (up : Txt) (pre : List Txt) (M : Nat → Prop) (A : World) : Prop where
  j : J (pre.map (fun k => (k, f k))) M A
  own : ∀ k, M k → k < W.heap.size ∨ wF.heap.size ≤ k
  same : ∀ k, W.heap.size ≤ k → k < wF.heap.size → A.heap[k]? = wF.heap[k]?
  size : wF.heap.size ≤ A.heap.size
  all : ∀ x ∈ pre, ahead up x = true
theorem rangeI_stays {W wF : World} {J : List (Txt × Txt) → (Nat → Prop) → World → Prop} {f : Txt → Txt} {up : Txt} (hJ : ∀ pre M A B, J pre M A → Stays (fun k => M k ∨ k < W.heap.size) A B → J pre M B) (hs : W.heap.size ≤ wF.heap.size) :
    ∀ pre M A B, RangeI W wF J f up pre M A → Stays (fun k => M k ∨ k < wF.heap.size) A B → RangeI W wF J f up pre M B := fun pre M A B h s =>
  ⟨hJ _ _ _ _ h.j (s.sub (fun k hk _ => hk.elim .inl (fun h => .inr (by omega)))), h.own, fun k h1 h2 => (s.same k (.inr h2) (Nat.lt_of_lt_of_le h2 h.size)).trans (h.same k h1 h2), Nat.le_trans h.size s.size, h.all⟩
theorem rangeI_from {W wF : World} {J : List (Txt × Txt) → (Nat → Prop) → World → Prop} {f : Txt → Txt} {fr up : Txt} {p sp mb B nn b1 b2 b3 : Nat} {v : Value} {ks : List Txt}
    (hG : ∀ pre M A, J pre M A → RangeG p sp mb B nn b1 b2 b3 v ks f fr up A) (hF : FromG sp B (W.heap.size + 1 + 1 + 1) (W.heap.size + 1 + 1 + 1 + 1) (W.heap.size + 1) (W.heap.size + 1 + 1) v ks fr wF) (hz : W.heap.size + 5 ≤ wF.heap.size)
    {pre : List Txt} {M : Nat → Prop} {A : World} (h : RangeI W wF J f up pre M A) : FromG sp B (W.heap.size + 1 + 1 + 1) (W.heap.size + 1 + 1 + 1 + 1) (W.heap.size + 1) (W.heap.size + 1 + 1) v ks fr A :=
  ⟨(hG _ _ _ h.j).sh.set, (cell_same (h.same _ (by omega) (by omega)) 0).trans hF.c1, (cell_same (h.same _ (by omega) (by omega)) 0).trans hF.c2, (cell_same (h.same _ (by omega) (by omega)) 0).trans hF.c3, (cell_same (h.same _ (by omega) (by omega)) 0).trans hF.c4⟩
theorem between_stop {ks p t : List Txt} {f : Txt → Txt} {fr up x : Txt} (h : notB ks fr = p ++ x :: t) (ha : ∀ y ∈ p, ahead up y = true) (hx : ahead up x = false) : between ks f fr up = p.map (fun k => (k, f k)) := by
  unfold between
  rw [h, List.takeWhile_append_of_pos ha, List.takeWhile_cons, if_neg (by simp [hx]), List.append_nil]
theorem between_all {ks : List Txt} {f : Txt → Txt} {fr up : Txt} (ha : ∀ y ∈ notB ks fr, ahead up y = true) : between ks f fr up = (notB ks fr).map (fun k => (k, f k)) := by
  unfold between
  congr 1
  have := List.takeWhile_append_of_pos (l₂ := []) ha
  simpa using this
theorem between_next {ks p t : List Txt} {f : Txt → Txt} {fr up x : Txt} (h : notB ks fr = p ++ x :: t) (ha : ∀ y ∈ p, ahead up y = true) (hx : ahead up x = true) : p.map (fun k => (k, f k)) ++ [(x, f x)] <+: between ks f fr up := by
  unfold between
  rw [h, List.takeWhile_append_of_pos ha, List.takeWhile_cons, if_pos (by simp [hx])]
  exact ⟨(t.takeWhile (ahead up)).map (fun k => (k, f k)), by simp⟩
theorem rangeI_next {W wF : World} {J : List (Txt × Txt) → (Nat → Prop) → World → Prop} {f : Txt → Txt} {up : Txt} {pre : List Txt} {M M' : Nat → Prop} {A W3 : World} {q : Nat} {x : Txt} (h : RangeI W wF J f up pre M A) (hs : wF.heap.size ≤ A.heap.size)
    (hw : Went M M' (A.drewN q) W3) (hj : J (pre.map (fun k => (k, f k)) ++ [(x, f x)]) M' W3) (ha : ahead up x = true) (hz : W.heap.size ≤ wF.heap.size) : RangeI W wF J f up (pre ++ [x]) M' W3 := by
  have hsz : A.heap.size ≤ W3.heap.size := hw.stays.size
  refine ⟨by simpa using hj, fun k hk => ?_, fun k h1 h2 => ?_, by omega, fun y hy => ?_⟩
  · rcases hw.grow k hk with h1 | h1
    · exact h.own k h1
    · have h1' : A.heap.size ≤ k := h1
      exact .inr (by omega)
  · have hn : ¬ M k := fun hm => (h.own k hm).elim (fun h => by omega) (fun h => by omega)
    have hlt : k < (A.drewN q).heap.size := show k < A.heap.size by omega
    exact (hw.stays.same k hn hlt).trans (h.same k h1 h2)
  · rcases List.mem_append.1 hy with hy | hy
    · exact h.all y hy
    · obtain rfl : y = x := by simpa using hy
      exact ha
theorem went_any {M M' : Nat → Prop} {A W3 : World} {q : Nat} (h : Went M M' (A.drewN q) W3) : Went M M' A W3 := ⟨h.grow, ⟨h.stays.os, h.stays.tape, h.stays.output, h.stays.size, h.stays.same⟩⟩
theorem stays_putNew {C : Nat → Prop} {W W' : World} {D : Nat} (h : Stays C W W') (hD : W.heap.size ≤ D) (o : Obj) : Stays C W (W'.putObj D o) :=
  ⟨h.os, h.tape, h.output, by simpa using h.size, fun k hk hlt => (World.putObj_heap_other (by omega)).trans (h.same k hk hlt)⟩
theorem mixed : Tryz.prog.follows .mixedOrders = true := by kernel_rfl
theorem str_less' (x y : Txt) : Op.bytesLess (str x).toList (str y).toList = slt x y := str_less x y
set_option maxHeartbeats 8000000 in
theorem shRange1F (n : Nat) (hn : 3 ≤ n) (p sp mb B nn b1 b2 b3 : Nat) (v : Value) (ks : List Txt) (f : Txt → Txt) (fr up : Txt) (hks : ks.length ≤ 100000) (hkl : ∀ k ∈ ks, k.length ≤ maxLen) :
    SeqF encP n 99 #[.pointer (some ⟨b1, 0, none⟩), .pointer (some ⟨b2, 0, none⟩), .pointer (some ⟨b3, 0, none⟩)] (RangeG p sp mb B nn b1 b2 b3 v ks f fr up) (between ks f fr up) := by
  intro l J X W M0 hJ hX hG hY h0 hM0
  have h1n : 1 ≤ n := by omega
  have HG0 := Lib.hid (hG _ _ _ h0)
  have c1 := HG0.out.c1
  have c2 := HG0.out.c2
  have d0 := HG0.out.sh.c0
  have hnil := fun W => sh_not_nil W p
  have hmx := mixed
  have HB1 : Hid (b1 < W.heap.size ∧ b2 < W.heap.size ∧ p < W.heap.size) := ⟨World.block_lt_of_cell? _ _ c1, World.block_lt_of_cell? _ _ c2, World.block_lt_of_cell? _ _ d0⟩
  obtain ⟨l1, l2, l3⟩ := HB1.out
  refine callsIn_of_wp_marks Tryz.func99 rfl trivial ?_ rfl
  simp only [Tryz.ntmps99, List.size_toArray, List.length_cons, List.length_nil, Nat.reduceAdd, Nat.reduceSub, Array.replicate_succ, Array.replicate_zero, List.push_toArray, List.append_toArray, List.nil_append, List.cons_append]
  refine (wpIn_wide (n := n)).2 ?_
  obtain ⟨Q, hQ⟩ : ∃ Q, Q = bodyPostM WF n Tryz.prog Tryz.f99 (fun e W' => (∃ v, e = .returned v) ∧ Stays (fun k => ¬ M0 k) W W' ∧ ∃ M', (∀ k, M' k → M0 k ∨ W.heap.size ≤ k) ∧ (J (between ks f fr up) M' W' ∨ ∃ pre, X pre M' W')) := ⟨_, rfl⟩
  rw [← hQ]
  have HQ := Lib.hid hQ
  clear hQ
  go_wp2_with fail
  have HY0 : Hid (Boxed (W.alloc (.cells #[.func (.yield l) #[] #[]] 185)) W.heap.size 185 (.func (.yield l) #[] #[])) := Boxed.new W _ _
  have HA0 : Hid (Below W.heap.size W (W.alloc (.cells #[.func (.yield l) #[] #[]] 185))) := (Below.refl _ _).alloc (Nat.le_refl _) _
  refine wp_mono (Q := calmQ _) ?_ (fun _ _ _ h => calm_leQ h)
  go_region_with (go_at_call 100; (refine (sxFrom_any _ _ _).mono ?_); rintro e wF ⟨rfl, hwF⟩; have HF := Lib.hid (from_g (HG0.out.sh.set.below (by first | exact HA0.out | exact HA0.out.drew)) rfl hwF); clear hwF)
  all_goals
    have HF2 : Hid (FromG sp B (W.heap.size + 1 + 1 + 1) (W.heap.size + 1 + 1 + 1 + 1) (W.heap.size + 1) (W.heap.size + 1 + 1) v ks fr wF ∧ Below (W.heap.size + 1) (W.alloc (.cells #[.func (.yield l) #[] #[]] 185)).drew wF) := by
      have h := HF.out
      rw [show (W.alloc (.cells #[.func (.yield l) #[] #[]] 185)).drew.heap.size = W.heap.size + 1 from World.size_alloc _ _] at h
      exact h
    clear HF
    unfold calmQ
    go_wp2_with fail
    refine (wpIn_wide (n := n)).1 ?_
    have hszF : W.heap.size + 5 ≤ wF.heap.size := by
      have h4 := World.block_lt_of_cell? _ _ HF2.out.1.c2
      simp at h4; omega
    have HSZ := Lib.hid hszF
    have HBF : Hid (Below W.heap.size W wF) := HA0.out.drew.trans (HF2.out.2.mono (by omega))
    have HYF : Hid (Boxed wF W.heap.size 185 (.func (.yield l) #[] #[])) := (HF2.out.2.block W.heap.size (by omega)).trans HY0.out
    refine rangeF (n := n) h1n (gf := 251) (lb := #[.pointer (some ⟨W.heap.size + 1 + 1 + 1, 0, none⟩), .pointer (some ⟨W.heap.size + 1 + 1 + 1 + 1, 0, none⟩)]) rfl (fun args w => by kernel_rfl) (row1F (n - 1) (by omega) sp B _ _ _ _ v ks fr hks) (fun x => rfl)
      (RangeI W wF J f up) (fun pre M A => J (between ks f fr up) M A ∨ ∃ pre', X pre' M A) M0 (fun k hk => Nat.lt_of_lt_of_le (hM0 k hk) (by omega))
      (rangeI_stays hJ HBF.out.size)
      (fun pre M A B h hs => h.elim (fun h => .inl (hJ _ _ _ _ h (hs.sub (fun k hk _ => hk.elim .inl (fun h => .inr (by omega)))))) (fun ⟨q, h⟩ => .inr ⟨q, hX _ _ _ _ h (hs.sub (fun k hk _ => hk.elim .inl (fun h => .inr (by omega))))⟩))
      (fun pre M A h => rangeI_from hG HF2.out.1 (by omega) h)
      ⟨hJ _ _ _ _ h0 (Stays.below HBF.out), fun k hk => .inl (hM0 k hk), fun _ _ _ => rfl, Nat.le_refl _, fun _ h => by cases h⟩
      (fun x => { tmps := #[.func (.yield l) #[] #[], .pointer (some ⟨b1, 0, none⟩), .pointer (some ⟨b2, 0, none⟩), .pointer (some ⟨b3, 0, none⟩), .pointer (some ⟨W.heap.size, 0, none⟩), .string (str x), .pointer (some ⟨p, 0, none⟩), .bool false, .pointer (some ⟨p, 0, none⟩), .pointer (some ⟨p, 0, none⟩), .pointer (some ⟨p, 0, none⟩), .pointer (some ⟨sp, 0, none⟩), .string (str fr), .func (.func 251) #[] #[.pointer (some ⟨W.heap.size + 1 + 1 + 1, 0, none⟩), .pointer (some ⟨W.heap.size + 1 + 1 + 1 + 1, 0, none⟩)], .string (str x), undef, undef, undef, undef, undef, undef, undef, undef, undef, undef, undef, undef, undef, undef, undef, undef, undef, undef], defers := [] }) ?assign ?body ?done ?stop
    case assign =>
      intro l' x A K hK
      gi_wp2
      exact hK
    case body =>
      intro l' pre x M A hI hsz hpre
      obtain ⟨t, ht⟩ := hpre
      have ht' : notB ks fr = pre ++ x :: t := by rw [← ht]; simp
      have hxk : x ∈ ks := by
        have : x ∈ notB ks fr := by rw [ht']; simp
        exact (List.mem_filter.1 this).1
      have HI := Lib.hid hI
      have HG1 := Lib.hid (hG _ _ _ hI.j)
      have HXL := Lib.hid (hkl x hxk)
      have HT := Lib.hid ht'
      have e1 := HG1.out.c1
      have e3 := HG1.out.c3
      have m1 := HG1.out.sh.c1
      have hlook := fun q => (HG1.out.sh.map.kept (w' := A.drewN q) rfl).look HXL.out
      rw [show (lookP ks f x).getD zP = prV x (f x) by rw [show lookP ks f x = some (prV x (f x)) from if_pos hxk]; rfl] at hlook
      have e4 : A.cell? ⟨W.heap.size, 0, none⟩ = some (.func (.yield l) #[] #[]) := (cell_same (hI.same _ (Nat.le_refl _) (by omega)) 0).trans HYF.out.cell
      have hbl := str_less' x up
      clear hI ht ht' hxk
      cases hah : ahead up x with
      | false =>
        have h1 : (!(str up).toList.isEmpty) = true := by
          rw [str_list]
          cases up with
          | nil => simp [ahead] at hah
          | cons _ _ => rfl
        have h2 : Op.bytesLess (str x).toList (str up).toList = false := by
          rw [hbl]
          cases hs : slt x up with
          | false => rfl
          | true => simp [ahead, hs] at hah
        have HAH := Lib.hid hah
        clear hbl hah
        gi_wp2
        refine wpIn_region_tail_k 15 (by assumption) (by kernel_rfl) ?_
        intro l1 l2 h1l h2l
        simp only [List.take_succ_cons, List.take_zero, List.drop_succ_cons, List.drop_zero] at h1l h2l
        subst h1l
        subst h2l
        repeat (gi_big_quiet_step (fail))
        refine wpQuietIn_nil ?_
        intro _ hw'
        obtain ⟨nq, hw''⟩ := hw'
        subst hw''
        repeat (gi_wp2; refine ⟨fun f hf => (by cases hf), ?_⟩)
        gi_wp2
        exact ⟨M, ⟨fun _ h => .inl h, Stays.drewN _ _ _⟩, .inl (by rw [between_stop HT.out HI.out.all HAH.out]; exact hJ _ _ _ _ HI.out.j (Stays.drewN _ _ _))⟩
      | true =>
        have HAH := Lib.hid hah
        have HYQ : Hid (∀ q, YieldAt WF (n - 1) Tryz.prog l #[prV x (f x), .int .i64 0] (A.drewN q) fun e A' => ∃ M', Went M M' (A.drewN q) A' ∧ ((e = .returned (.bool true) ∧ J (pre.map (fun k => (k, f k)) ++ [(x, f x)]) M' A') ∨ (e = .returned (.bool false) ∧ X (pre.map (fun k => (k, f k)) ++ [(x, f x)]) M' A'))) := fun q =>
          hY _ (x, f x) M _ (hJ _ _ _ _ HI.out.j (Stays.drewN _ _ _)) (between_next HT.out HI.out.all HAH.out)
        by_cases hu : up = []
        · have h1 : (!(str up).toList.isEmpty) = false := by rw [str_list, hu]; rfl
          clear hah hbl hu
          gi_wp2
          refine wpIn_region_tail_k 15 (by assumption) (by kernel_rfl) ?_
          intro l1 l2 h1l h2l
          simp only [List.take_succ_cons, List.take_zero, List.drop_succ_cons, List.drop_zero] at h1l h2l
          subst h1l
          subst h2l
          repeat (gi_big_quiet_step (fail))
          refine wpQuietIn_nil ?_
          intro _ hw'
          obtain ⟨nq, hw''⟩ := hw'
          subst hw''
          obtain ⟨fn, tmps, assign, body, hy, hR⟩ := HYQ.out nq
          gi_wp2
          refine ⟨fun h => (by cases h), (roundIn_any hR).mono ?_⟩
          rintro e W3 ⟨M3, hw3, (⟨rfl, hJ3⟩ | ⟨rfl, hX3⟩)⟩
          · gi_wp2
            exact ⟨M3, went_any hw3, rangeI_next HI.out hsz hw3 hJ3 HAH.out (by omega)⟩
          · gi_wp2
            exact ⟨M3, went_any hw3, .inr ⟨_, hX3⟩⟩
        · have h1 : (!(str up).toList.isEmpty) = true := by
            rw [str_list]
            cases up with
            | nil => exact (hu rfl).elim
            | cons _ _ => rfl
          have h2 : Op.bytesLess (str x).toList (str up).toList = true := by
            rw [hbl]
            have := hah
            unfold ahead at this
            simpa [hu] using this
          clear hah hbl hu
          gi_wp2
          refine wpIn_region_tail_k 15 (by assumption) (by kernel_rfl) ?_
          intro l1 l2 h1l h2l
          simp only [List.take_succ_cons, List.take_zero, List.drop_succ_cons, List.drop_zero] at h1l h2l
          subst h1l
          subst h2l
          repeat (gi_big_quiet_step (fail))
          refine wpQuietIn_nil ?_
          intro _ hw'
          obtain ⟨nq, hw''⟩ := hw'
          subst hw''
          obtain ⟨fn, tmps, assign, body, hy, hR⟩ := HYQ.out nq
          gi_wp2
          refine ⟨fun h => (by cases h), (roundIn_any hR).mono ?_⟩
          rintro e W3 ⟨M3, hw3, (⟨rfl, hJ3⟩ | ⟨rfl, hX3⟩)⟩
          · gi_wp2
            exact ⟨M3, went_any hw3, rangeI_next HI.out hsz hw3 hJ3 HAH.out (by omega)⟩
          · gi_wp2
            exact ⟨M3, went_any hw3, .inr ⟨_, hX3⟩⟩
    case done =>
      intro D M W' hD hMD hI hst hgr hK
      have HI := Lib.hid hI
      have HK := Lib.hid hK
      clear hI hK
      gi_wp2
      rw [HQ.out]
      refine ⟨by simp, .inl ⟨_, _, rfl, run_takeDeferred HK.out, ?_⟩⟩
      refine ⟨_, results_none rfl _ _ _, ⟨_, rfl⟩, stays_putNew ((Stays.below HBF.out).trans hst) (by omega) _, M, fun k hk => (hgr k hk).elim .inl (fun h => .inr (by omega)), .inl ?_⟩
      rw [between_all HI.out.all]
      exact hJ _ _ _ _ HI.out.j (Stays.put _ _ _ (fun h => h.elim hMD (fun h => by omega)))
    case stop =>
      intro D pre M W' hD hMD hX' hst hgr hK
      have HI := Lib.hid hX'
      have HK := Lib.hid hK
      clear hX' hK
      gi_wp2
      rw [HQ.out]
      refine ⟨by simp, .inl ⟨_, _, rfl, run_takeDeferred HK.out, ?_⟩⟩
      refine ⟨_, results_none rfl _ _ _, ⟨_, rfl⟩, stays_putNew ((Stays.below HBF.out).trans hst) (by omega) _, M, fun k hk => (hgr k hk).elim .inl (fun h => .inr (by omega)), ?_⟩
      exact HI.out.elim (fun h => .inl (hJ _ _ _ _ h (Stays.put _ _ _ (fun h => h.elim hMD (fun h => by omega))))) (fun ⟨q, h⟩ => .inr ⟨q, hX _ _ _ _ h (Stays.put _ _ _ (fun h => h.elim hMD (fun h => by omega)))⟩)
end Go.Proofs.YtgmneapgihakgaaGreatDoor
/- ask.Put: a pair for a shelf. -/
namespace Go.Proofs.YtgmneapgihakgaaGreatDoor
open Go.RowKit Go.Maps
theorem idlePut (p : Addr) (w : World) :
    CallsD Tryz.prog 175 #[.pointer (some p)] .returning w fun e u' w' => e = .returned (.tuple #[]) ∧ u' = .returning ∧ w' = w := by
  refine callsD_of_wpS Tryz.func175 rfl fun c₀ cs hu => ?_
  apply wpS_seq
  apply wpS_region
  simp [wpOpsS, go_sem, recoverD, hu, Tryz.ntmps175, Exit.thenS]
  refine wpS_cond (t := false) (by simp [Act.eval, Array.replicate]) ?_
  simp only [Bool.false_eq_true, if_false]
  refine wpS_of_wp (wp_skip ?_)
  cases c₀
  simp_all [bodyPostS, results, Tryz.results175]
theorem idleCut (p q : Addr) (w : World) :
    CallsD Tryz.prog 172 #[.pointer (some p), .pointer (some q)] .returning w fun e u' w' => e = .returned (.tuple #[]) ∧ u' = .returning ∧ w' = w := by
  refine callsD_of_wpS Tryz.func172 rfl fun c₀ cs hu => ?_
  apply wpS_seq
  apply wpS_region
  simp [wpOpsS, go_sem, recoverD, hu, Tryz.ntmps172, Exit.thenS]
  refine wpS_cond (t := false) (by simp [Act.eval, Array.replicate]) ?_
  simp only [Bool.false_eq_true, if_false]
  refine wpS_of_wp (wp_skip ?_)
  cases c₀
  simp_all [bodyPostS, results, Tryz.results172]
theorem mixed0 : Tryz.prog.follows .mixedOrders = true := by kernel_rfl
theorem start2 (w : World) (t0 t1 : TypeId) (v0 v1 : Value) : Boxed ((w.alloc (.cells #[v0] t0)).alloc (.cells #[v1] t1)) w.heap.size t0 v0 ∧ Boxed ((w.alloc (.cells #[v0] t0)).alloc (.cells #[v1] t1)) (w.heap.size + 1) t1 v1 ∧ Below w.heap.size w ((w.alloc (.cells #[v0] t0)).alloc (.cells #[v1] t1)) := by
  refine ⟨(Boxed.new w _ _).alloc _, ?_, ((Below.refl _ _).alloc (Nat.le_refl _) _).alloc (by simp) _⟩
  have := Boxed.new (w.alloc (.cells #[v0] t0)) t1 v1
  rwa [World.size_alloc] at this
theorem mPut (p : Nat) (w : World) : (method 488 25 (.pointer (some ⟨p, 0, none⟩)) "Put").run Tryz.prog w = .ok (38, .pointer (some ⟨p, 0, none⟩)) w := by kernel_rfl
theorem mCut (p : Nat) (w : World) : (method 488 25 (.pointer (some ⟨p, 0, none⟩)) "Cut").run Tryz.prog w = .ok (343, .pointer (some ⟨p, 0, none⟩)) w := by kernel_rfl
set_option maxHeartbeats 4000000 in
theorem aPut_shelf (p : Nat) (key x : List UInt8) (e : Int) (w : World) (Q : World → Prop)
    (H : ∀ W, Below w.heap.size w W → w.heap.size + 1 ≤ W.heap.size → Calls Tryz.prog 38 #[.pointer (some ⟨p, 0, none⟩), .string (str key), .string (str x)] W fun x W' => x = .returned (.int .i64 e) ∧ Q W' ∧ Upper w.heap.size W W') :
    Calls Tryz.prog 81 #[.iface 25 (.pointer (some ⟨p, 0, none⟩)), .string (str key), .string (str x)] w fun x w' => x = .returned (.int .i64 e) ∧ ∃ W', Q W' ∧ Stays (fun k => k ≠ w.heap.size) W' w' := by
  have hmf : ∀ (fn : Fn) (first cap : Array Value) (w : World), (Instr.makeFunc fn first cap).run Tryz.prog w = .ok (.func fn first cap) w := fun _ _ _ _ => rfl
  have HH := Lib.hid H
  clear H
  have HB : Hid (Boxed (w.alloc (.cells #[.int .i64 0] 43)) w.heap.size 43 (.int .i64 0)) := Boxed.new w _ _
  have HL : Hid (Below w.heap.size w (w.alloc (.cells #[.int .i64 0] 43))) := (Below.refl _ _).alloc (Nat.le_refl _) _
  have hmeth := mPut p
  go_enter_defers Tryz.func81, Tryz.ntmps81
  go_wp2_with (go_at_call 38; (with_reducible refine (HH.out _ HL.out (by simp)).mono ?_); rintro e w1 ⟨rfl, hq, hu⟩; have b0 := hu.box HB.out (Nat.le_refl _); have HQ := Lib.hid hq; have c0 := b0.cell; have f0 := b0.frozen; have HB0 := Lib.hid b0; clear hq hu b0)
  refine leaves_cons (f := 175) (args := #[.pointer (some ⟨w.heap.size, 0, none⟩)]) (by simp) (by simp [go_sem]) ?_
  refine (idlePut _ _).mono ?_
  rintro e' u' w'' ⟨rfl, rfl, rfl⟩
  have c1 := (HB0.out.set (.int .i64 e)).cell
  exact ⟨.int .i64 e, by simp [results, Tryz.results81, go_sem, c1], rfl, w1, HQ.out, Stays.set _ _ _ _ (fun h => h rfl)⟩
theorem sets4 {B g : Nat} {w : World} {t0 t1 : TypeId} {u0 u1 : Value} (b0 : Boxed w g t0 u0) (b1 : Boxed w (g + 1) t1 u1) (hB : B ≤ g) (x0 x1 y0 y1 : Value) {w2 : World}
    (hw : w2 = ((((w.setCell ⟨g, 0, none⟩ x0).setCell ⟨g + 1, 0, none⟩ x1).setCell ⟨g, 0, none⟩ y0).setCell ⟨g + 1, 0, none⟩ y1).drew) :
    w2.cell? ⟨g, 0, none⟩ = some y0 ∧ w2.cell? ⟨g + 1, 0, none⟩ = some y1 ∧ Stays (fun k => k ≠ g ∧ k ≠ g + 1) w w2 := by
  subst hw
  have h01 : g ≠ g + 1 := by omega
  refine ⟨((((b0.set x0).other h01 x1).set y0).other h01 y1).cell, ((((b1.other h01.symm x0).set x1).other h01.symm y0).set y1).cell, ?_⟩
  exact (((((Stays.refl (fun k => k ≠ g ∧ k ≠ g + 1) w).trans (Stays.set _ _ _ _ (fun h => h.1 rfl))).trans (Stays.set _ _ _ _ (fun h => h.2 rfl))).trans (Stays.set _ _ _ _ (fun h => h.1 rfl))).trans (Stays.set _ _ _ _ (fun h => h.2 rfl))).trans (Stays.drewN _ _ 1)
set_option maxHeartbeats 4000000 in
theorem aCut_shelf (p : Nat) (key : List UInt8) (th : Bool) (w : World) (Q : World → Prop)
    (H : ∀ W, Below w.heap.size w W → w.heap.size + 2 ≤ W.heap.size → Calls Tryz.prog 343 #[.pointer (some ⟨p, 0, none⟩), .string (str key)] W fun x W' => x = .returned (.tuple #[.bool th, .int .i64 0]) ∧ Q W' ∧ Upper w.heap.size W W') :
    Calls Tryz.prog 76 #[.iface 25 (.pointer (some ⟨p, 0, none⟩)), .string (str key)] w fun x w' => x = .returned (.tuple #[.bool th, .int .i64 0]) ∧ ∃ W', Q W' ∧ Stays (fun k => k ≠ w.heap.size ∧ k ≠ w.heap.size + 1) W' w' := by
  have hmf : ∀ (fn : Fn) (first cap : Array Value) (w : World), (Instr.makeFunc fn first cap).run Tryz.prog w = .ok (.func fn first cap) w := fun _ _ _ _ => rfl
  have HH := Lib.hid H
  clear H
  have HST := Lib.hid (start2 w 4 43 (.bool false) (.int .i64 0))
  have hmeth := mCut p
  have hmx := mixed0
  cases th
  all_goals
    go_enter_defers Tryz.func76, Tryz.ntmps76
    go_wp2_with (go_at_call 343; (with_reducible refine (HH.out _ HST.out.2.2 (by simp)).mono ?_); rintro e w1 ⟨rfl, hq, hu⟩; have b0 := hu.box HST.out.1 (Nat.le_refl _); have b1 := hu.box HST.out.2.1 (by omega); have HQ := Lib.hid hq; have c0 := b0.cell; have f0 := b0.frozen; have c1 := b1.cell; have f1 := b1.frozen; have HB0 := Lib.hid b0; have HB1 := Lib.hid b1; clear hq hu b0 b1)
    go_region
    go_wp2
    refine leaves_cons (f := 172) (args := #[.pointer (some ⟨w.heap.size, 0, none⟩), .pointer (some ⟨w.heap.size + 1, 0, none⟩)]) (by simp) (by simp [go_sem]) ?_
    refine (idleCut _ _ _).mono ?_
    rintro e u' w'' ⟨rfl, rfl, hw⟩
    obtain ⟨d0, d1, hb⟩ := sets4 HB0.out HB1.out (Nat.le_refl w.heap.size) _ _ _ _ hw
    exact ⟨_, by simp [results, Tryz.results76, go_sem, d0, d1], rfl, w1, HQ.out, hb⟩
end Go.Proofs.YtgmneapgihakgaaGreatDoor
/- ask.Range over a shelf: its closure; what give asks. -/
namespace Go.Proofs.YtgmneapgihakgaaGreatDoor
open Go.RowKit Go.Sort Go.Maps
open Tx (Rise At Ord above)
theorem aRange_any (p : Nat) (fr up : Txt) (w : World) :
    Calls Tryz.prog 171 #[.iface 25 (.pointer (some ⟨p, 0, none⟩)), .string (str fr), .string (str up)] w fun e w' => e = .returned (.func (.func 243) #[] #[.pointer (some ⟨w.heap.size, 0, none⟩), .pointer (some ⟨w.heap.size + 1, 0, none⟩), .pointer (some ⟨w.heap.size + 1 + 1, 0, none⟩)]) ∧ ∃ T, w' = ((w.alloc (.cells #[.iface 25 (.pointer (some ⟨p, 0, none⟩))] T)).alloc (.cells #[.string (str fr)] 9)).alloc (.cells #[.string (str up)] 9) := by
  go_enter Tryz.func171, Tryz.ntmps171
  go_wp2
  go_ret
  exact ⟨rfl, _, rfl⟩
theorem mRange (p : Nat) (w : World) : (method 488 25 (.pointer (some ⟨p, 0, none⟩)) "Range").run Tryz.prog w = .ok (24, .pointer (some ⟨p, 0, none⟩)) w := by kernel_rfl
/-- The closure that gives: what the body says, told on; its two boxes. -/
structure GiveG (g : Nat) (a o : Bool) (l : Nat) (y : Nat) (A : World) : Prop where
  away : Boxed A g 4 (.bool a)
  over : Boxed A (g + 1) 4 (.bool o)
  yield : A.cell? ⟨y, 0, none⟩ = some (.func (.yield l) #[] #[])
end Go.Proofs.YtgmneapgihakgaaGreatDoor
/- ask.Range's give: whoever goes through the row is asked, and noted; the deferred closure that finds nothing. -/
namespace Go.Proofs.YtgmneapgihakgaaGreatDoor
open Go.RowKit Go.Sort Go.Maps
open Tx (Rise At Ord above)
theorem idleRange (n : Nat) (p q r : Addr) (w : World) (hp : w.cell? p = some (.bool false)) :
    CallsDIn WF n Tryz.prog 245 #[.pointer (some p), .pointer (some q), .pointer (some r)] .returning w fun e u' w' => e = .returned (.tuple #[]) ∧ u' = .returning ∧ w' = w := by
  refine callsDIn_of_wpSIn Tryz.func245 rfl trivial fun c₀ cs hu => ?_
  apply wpSIn_seq
  apply wpSIn_region
  simp [wpOpsSIn, go_sem, recoverD, hu, hp, Tryz.ntmps245, Exit.thenS]
  refine wpSIn_cond (t := false) (by simp [Act.eval, Array.replicate]) ?_
  simp only [Bool.false_eq_true, if_false]
  refine wpSIn_of_wpIn rfl (wpIn_skip ?_)
  cases c₀
  simp_all [bodyPostS, results, Tryz.results245]
set_option maxHeartbeats 4000000 in
theorem give_any (m : Nat) (hm : 1 ≤ m) {g y l : Nat} {a o : Bool} (pk px : Txt) (e : Int) (A : World) (hA : Boxed A g 4 (.bool a)) (hO : Boxed A (g + 1) 4 (.bool o))
    (hY : A.cell? ⟨y, 0, none⟩ = some (.func (.yield l) #[] #[])) (hy : y ≠ g ∧ y ≠ g + 1) (Post : Bool → World → Prop)
    (H : ∀ A1, Stays (fun k => k ≠ g) A A1 → YieldAt WF (m - 1) Tryz.prog l #[prV pk px, .int .i64 e] A1 fun e' A2 => ∃ b, e' = .returned (.bool b) ∧ Post b A2 ∧ A1.heap.size ≤ A2.heap.size ∧ A2.heap[g]? = A1.heap[g]? ∧ A2.heap[g + 1]? = A1.heap[g + 1]?) :
    CallsIn WF m Tryz.prog 244 #[prV pk px, .int .i64 e, .pointer (some ⟨g, 0, none⟩), .pointer (some ⟨y, 0, none⟩), .pointer (some ⟨g + 1, 0, none⟩)] A fun e' W' => ∃ b A2, e' = .returned (.bool (b && decide (e = 0))) ∧ Post b A2 ∧ Stays (fun k => k ≠ g ∧ k ≠ g + 1) A2 W' ∧ Boxed W' g 4 (.bool false) ∧ Boxed W' (g + 1) 4 (.bool (!(b && decide (e = 0)))) := by
  have c0 := hA.cell
  have f0 := hA.frozen
  have HA := Lib.hid hA
  have HO := Lib.hid hO
  have HH := Lib.hid H
  have hyl := World.block_lt_of_cell? _ _ hY
  have HYL := Lib.hid hyl
  clear hA hO H hyl
  have hgl := HA.out.lt
  have hol := HO.out.lt
  have b0 : Boxed (A.alloc (.cells #[.string (str pk), .string (str px)] 73)) g 4 (.bool a) := HA.out.alloc _
  have k0 := b0.cell
  have z0 := b0.frozen
  obtain ⟨A1, hA1⟩ : ∃ A1, A1 = (A.alloc (.cells #[.string (str pk), .string (str px)] 73)).setCell ⟨g, 0, none⟩ (.bool true) := ⟨_, rfl⟩
  have S1 : Hid (Stays (fun k => k ≠ g) A A1) := by
    show Stays _ _ _
    rw [hA1]
    exact (Stays.alloc _ _).trans (Stays.set _ _ _ _ (fun h => h rfl))
  have k1 : A1.cell? ⟨y, 0, none⟩ = some (.func (.yield l) #[] #[]) := (cell_same (S1.out.same y hy.1 HYL.out) 0).trans hY
  have k2 : A1.cell? ⟨A.heap.size, 0, none⟩ = some (.string (str pk)) := by rw [hA1]; exact (World.cell?_setCell_far _ ⟨g, 0, none⟩ ⟨A.heap.size, 0, none⟩ _ (by simp; omega)).trans (World.cell?_alloc_new A _ _ 0)
  have k3 : A1.cell? ⟨A.heap.size, 1, none⟩ = some (.string (str px)) := by rw [hA1]; exact (World.cell?_setCell_far _ ⟨g, 0, none⟩ ⟨A.heap.size, 1, none⟩ _ (by simp; omega)).trans (World.cell?_alloc_new A _ _ 1)
  have B1 : Hid (Boxed A1 (g + 1) 4 (.bool o)) := S1.out.boxed HO.out (by omega)
  have G1 : Hid (Boxed A1 g 4 (.bool true)) := by show Boxed _ _ _ _; rw [hA1]; exact b0.set _
  obtain ⟨fn, tmps, assign, body, hyy, hR⟩ := HH.out A1 S1.out
  unfold prV at hyy
  have HR := Lib.hid hR
  clear hR hgl hol b0 hY hy
  subst hA1
  refine callsIn_of_wp Tryz.func244 rfl trivial ?_ rfl
  simp only [Tryz.ntmps244, List.size_toArray, List.length_cons, List.length_nil, Nat.reduceAdd, Nat.reduceSub, Array.replicate_succ, Array.replicate_zero, List.push_toArray, List.append_toArray, List.nil_append, List.cons_append]
  unfold prV
  gi_wp2
  refine HR.out.mono ?_
  rintro e' A2 ⟨b, rfl, hp, hsz, hg2, ho2⟩
  have bg : Boxed A2 g 4 (.bool true) := hg2.trans G1.out
  have bo : Boxed A2 (g + 1) 4 (.bool o) := ho2.trans B1.out
  have HP := Lib.hid hp
  have HSZ := Lib.hid hsz
  have d0 := bo.cell
  have q0 := bo.frozen
  have fin : ∀ c : Bool, Hid (Boxed (A2.setCell ⟨g + 1, 0, none⟩ (.bool c)) g 4 (.bool true) ∧ Stays (fun k => k ≠ g ∧ k ≠ g + 1) A2 ((A2.setCell ⟨g + 1, 0, none⟩ (.bool c)).setCell ⟨g, 0, none⟩ (.bool false)) ∧ Boxed ((A2.setCell ⟨g + 1, 0, none⟩ (.bool c)).setCell ⟨g, 0, none⟩ (.bool false)) g 4 (.bool false) ∧ Boxed ((A2.setCell ⟨g + 1, 0, none⟩ (.bool c)).setCell ⟨g, 0, none⟩ (.bool false)) (g + 1) 4 (.bool c)) := fun c =>
    have h1 : g ≠ g + 1 := by omega
    ⟨bg.other h1 _, (Stays.set _ _ _ _ (fun h => h.2 rfl)).trans (Stays.set _ _ _ _ (fun h => h.1 rfl)), (bg.other h1 _).set _, (bo.set _).other h1.symm _⟩
  clear hp hsz hg2 ho2 bg bo
  cases b with
  | false =>
    have k4 := (fin true).out.1.cell
    have k5 := (fin true).out.1.frozen
    have k6 := (fin true).out.2.2.2.cell
    gi_wp2
    go_ret
    exact ⟨false, A2, rfl, HP.out, (fin true).out.2⟩
  | true =>
    by_cases he : e = 0
    · subst he
      have k4 := (fin false).out.1.cell
      have k5 := (fin false).out.1.frozen
      have k6 := (fin false).out.2.2.2.cell
      gi_wp2
      go_ret
      exact .inr ⟨rfl, A2, HP.out, (fin false).out.2⟩
    · have HE : Hid (decide (e = 0) = false ∧ (e != 0) = true) := ⟨decide_eq_false he, by simpa using he⟩
      have k4 := (fin (e != 0)).out.1.cell
      have k5 := (fin (e != 0)).out.1.frozen
      have k6 := (fin (e != 0)).out.2.2.2.cell
      gi_wp2
      go_ret
      have hf := (fin true).out.2
      rw [HE.out.1]
      rw [HE.out.2]
      exact ⟨true, A2, rfl, HP.out, hf⟩
end Go.Proofs.YtgmneapgihakgaaGreatDoor
