/- The document's answers of sets of numbers: Has, Without, With, Of, Same. -/
import Derived.Test.YtdkkcogjkeonkaaBig
import Derived.Deep.LoopGhost
import Derived.OwnWalk
import Derived.Lib.Hide
set_option maxRecDepth 100000
set_option maxHeartbeats 4000000
set_option linter.unusedVariables false
namespace Go.Proofs.Ytdkkcogjkeonkaa.Ps
def without (l : List Nat) (x : Nat) : List Nat := l.filter (fun y => y != x)
def step (x : Nat) (s : List Nat × Bool) (y : Nat) : List Nat × Bool := if !s.2 && decide (x < y) then (s.1 ++ [x] ++ [y], true) else (s.1 ++ [y], s.2)
/-- What stands when a part of the row was gone through: what there is, whether the number is in. -/
def run (x : Nat) (l : List Nat) : List Nat × Bool := l.foldl (step x) ([], false)
def withL (l : List Nat) (x : Nat) : List Nat := if (run x (without l x)).2 then (run x (without l x)).1 else (run x (without l x)).1 ++ [x]
def ofL (l : List Nat) : List Nat := l.foldl withL []
theorem run_snoc (x : Nat) (l : List Nat) (y : Nat) : run x (l ++ [y]) = step x (run x l) y := by simp [run]
theorem fold_len (x : Nat) : ∀ (l : List Nat) (s : List Nat × Bool), (l.foldl (step x) s).1.length + (cond s.2 1 0) = s.1.length + l.length + (cond (l.foldl (step x) s).2 1 0)
  | [], s => by simp
  | y :: l, s => by
    rw [List.foldl_cons]
    have ih := fold_len x l (step x s y)
    have h1 : (step x s y).1.length + (cond s.2 1 0) = s.1.length + 1 + (cond (step x s y).2 1 0) := by
      unfold step
      cases hs : s.2 <;> by_cases h : x < y <;> simp [h] <;> omega
    rw [List.length_cons]
    omega
theorem run_len (x : Nat) (l : List Nat) : (run x l).1.length = l.length + (cond (run x l).2 1 0) := by
  have := fold_len x l ([], false)
  simpa [run] using this
theorem without_len (l : List Nat) (x : Nat) : (without l x).length ≤ l.length := List.length_filter_le _ _
theorem withL_len (l : List Nat) (x : Nat) : (withL l x).length ≤ l.length + 1 := by
  have h := run_len x (without l x)
  have h2 := without_len l x
  unfold withL
  split
  · rename_i hc
    rw [hc] at h
    simp at h
    omega
  · rename_i hc
    rw [List.length_append, List.length_singleton]
    simp at hc
    rw [hc] at h
    simp at h
    omega
theorem of_len : ∀ (l s : List Nat), (l.foldl withL s).length ≤ s.length + l.length
  | [], s => by simp
  | x :: l, s => by
    rw [List.foldl_cons, List.length_cons]
    have := of_len l (withL s x)
    have := withL_len s x
    omega
theorem ofL_len (l : List Nat) : (ofL l).length ≤ l.length := by
  have := of_len l []
  simpa [ofL] using this
theorem take_snoc {α : Type} {l : List α} {k : Nat} {y : α} (h : l[k]? = some y) : l.take (k + 1) = l.take k ++ [y] := by rw [List.take_add_one, h]; rfl
theorem without_snoc {l : List Nat} {k y : Nat} (x : Nat) (h : l[k]? = some y) : without (l.take (k + 1)) x = if y = x then without (l.take k) x else without (l.take k) x ++ [y] := by
  rw [take_snoc h]
  unfold without
  rw [List.filter_append]
  by_cases hy : y = x <;> simp [hy]
theorem ofL_take {l : List Nat} {k y : Nat} (h : l[k]? = some y) : ofL (l.take (k + 1)) = withL (ofL (l.take k)) y := by
  rw [take_snoc h]; simp [ofL]
theorem run_take (x : Nat) {l : List Nat} {k y : Nat} (h : l[k]? = some y) : run x (l.take (k + 1)) = step x (run x (l.take k)) y := by
  rw [take_snoc h, run_snoc]
end Go.Proofs.Ytdkkcogjkeonkaa.Ps
namespace Go.Proofs.Ytdkkcogjkeonkaa
open Go.RowKit
def SlN (w : World) (v : Value) (l : List Nat) : Prop :=
  ∃ (a : Option Addr) (b o c : Nat), v = .slice a l.length c ∧ (l = [] ∨ a = some ⟨b, o, none⟩) ∧ ∀ (j : Nat) x, l[j]? = some x → w.cell? ⟨b, o + j, none⟩ = some (.int .u32 x)
theorem SlN.below {w w' : World} {v : Value} {l : List Nat} (h : SlN w v l) (hb : Below w.heap.size w w') : SlN w' v l := by
  obtain ⟨a, b, o, c, hv, ha, hx⟩ := h
  refine ⟨a, b, o, c, hv, ha, fun j x hj => ?_⟩
  have h0 := hx j x hj
  exact (hb.cell (p := ⟨b, o + j, none⟩) (World.block_lt_of_cell? _ _ h0)).trans h0
def num (x : Nat) : Value := .int .u32 x
def RowN (w : World) (B : Nat) (v : Value) (l : List Nat) : Prop := w.ownsRow B 24 1 v l.length (l.map num)
theorem RowN.sl {w : World} {B : Nat} {v : Value} {l : List Nat} (h : RowN w B v l) : SlN w v l := by
  have hw : w.ownsRow B 24 1 v l.length (l.map num) := h
  obtain ⟨_, h1⟩ := hw
  rcases h1 with ⟨rfl, h0⟩ | ⟨g, cap, cur, rfl, _⟩
  · obtain rfl : l = [] := List.length_eq_zero_iff.1 h0
    exact ⟨none, 0, 0, 0, rfl, .inl rfl, fun j p hj => by simp at hj⟩
  · refine ⟨_, g, 0, cap, rfl, .inr rfl, fun j p hj => ?_⟩
    have hlt := (List.getElem?_eq_some_iff.1 hj).1
    rw [Nat.zero_add]
    exact ((show w.ownsRow B 24 1 _ l.length (l.map num) from h).cellAt j (by omega)).trans (by simp [hj, num])
theorem has_of {l : List Nat} {k : Nat} (h : k < l.length) : ∃ x, l[k]? = some x := ⟨l[k], List.getElem?_eq_getElem h⟩
theorem psHas_any (v : Value) (l : List Nat) (x : Nat) (hl : l.length ≤ 100000) (w : World) (hv : SlN w v l) :
    Calls Try.prog 8 #[v, .int .u32 x] w fun e w' => e = .returned (.bool (l.any (fun y => y == x))) ∧ w = w' := by
  obtain ⟨a, b, o, c, rfl, ha, hx⟩ := hv
  have HA := Lib.hid ha
  have HX := Lib.hid hx
  clear ha hx
  go_enter Try.func8, Try.ntmps8
  go_wp2
  go_loopg [9] l.length (fun n i wr => ∃ k : Nat, k ≤ l.length ∧ n = l.length - k ∧ i = .int .i64 (k : Nat) ∧ Hid ((l.take k).any (fun y => y == x) = false) ∧ w = wr)
  case atStart => exact ⟨0, Nat.zero_le _, rfl, rfl, rfl, rfl⟩
  case round =>
    obtain ⟨k, hk, rfl, rfl, HT, rfl⟩ := hrel
    by_cases hlt : k < l.length
    · obtain ⟨y, hy⟩ := has_of hlt
      obtain rfl : a = some ⟨b, o, none⟩ := HA.out.resolve_left (by intro h; rw [h] at hlt; cases hlt)
      have d0 := HX.out k y hy
      have HY := Lib.hid hy
      clear hy
      by_cases hyx : y = x
      · subst hyx
        have hr : l.any (fun z => z == y) = true := List.any_eq_true.2 ⟨y, List.mem_of_getElem? HY.out, by simp⟩
        have HR := Lib.hid hr
        clear hr
        go_wp2
        go_ret
        exact ⟨by rw [HR.out]; rfl, rfl⟩
      · have hne : ¬ (y : Int) = (x : Int) := by omega
        go_wp2
        go_roundg (l.length - (k + 1))
        case measure => omega
        case rel =>
          refine ⟨k + 1, hlt, rfl, by go_num, ?_, rfl⟩
          show _ = _
          rw [List.take_add_one, HY.out, List.any_append, HT.out]
          simp [hyx]
    · have hkk : k = l.length := by omega
      have hr : l.any (fun y => y == x) = false := by
        have := HT.out
        rw [hkk, List.take_length] at this
        exact this
      have HR := Lib.hid hr
      clear hr
      go_wp2
      go_ret
      exact ⟨by rw [HR.out]; rfl, rfl⟩
theorem infoN : (Try.prog.info? 24).map (fun i => (i.zero, i.size, i.bytes)) = some (some (.int .u32 0), 1, 4) := by kernel_rfl
theorem add_at (b j : Nat) : (⟨b, 0, none⟩ : Addr).add j = ⟨b, j, none⟩ := by
  unfold Addr.add; split <;> simp_all
theorem RowN.below {w w' : World} {B : Nat} {v : Value} {l : List Nat} (h : RowN w B v l) (hb : Below w.heap.size w w') : RowN w' B v l := by
  obtain ⟨h0, h1⟩ := h
  refine ⟨h0, ?_⟩
  rcases h1 with h1 | ⟨g, cap, cur, hv, hB, hg, h2, h3, h4, h5⟩
  · exact .inl h1
  · refine .inr ⟨g, cap, cur, hv, hB, ?_, h2, h3, h4, h5⟩
    rw [hb.block g (Array.getElem?_eq_some_iff.1 hg).1]; exact hg
theorem RowN.slice {w : World} {B : Nat} {v : Value} {l : List Nat} (h : RowN w B v l) : ∃ a c, v = .slice a l.length c := by
  have h' : w.ownsRow B 24 1 v l.length (l.map num) := h
  rcases h'.2 with ⟨rfl, h0⟩ | ⟨g, cap, cur, rfl, _⟩
  · exact ⟨none, 0, by rw [h0]⟩
  · exact ⟨_, _, rfl⟩
theorem psWithout_any (v : Value) (l : List Nat) (x : Nat) (hl : l.length ≤ 100000) (w : World) (hv : SlN w v l) :
    Calls Try.prog 11 #[v, .int .u32 x] w fun e w' => ∃ v', e = .returned v' ∧ RowN w' w.heap.size v' (Ps.without l x) ∧ Below w.heap.size w w' := by
  obtain ⟨i0, hi, hz0, hz1, hz2⟩ := info_parts infoN
  obtain ⟨a, b, o, c, rfl, ha, hx⟩ := hv
  have HA := Lib.hid ha
  have HX := Lib.hid hx
  clear ha hx
  go_enter Try.func11, Try.ntmps11
  go_wp2
  go_loopg [5, 10] l.length (fun n sv i wr => ∃ (k : Nat) (u : Value), k ≤ l.length ∧ n = l.length - k ∧ i = .int .i64 (k : Nat) ∧ u = sv ∧ Hid (RowN wr w.heap.size u (Ps.without (l.take k) x)) ∧ Hid (Below w.heap.size w wr))
  case atStart => exact ⟨0, _, Nat.zero_le _, rfl, rfl, rfl, World.ownsRow_nil _ _ _ _, Below.refl _ _⟩
  case round =>
    obtain ⟨k, u, hk, rfl, rfl, rfl, HR, HB⟩ := hrel
    by_cases hlt : k < l.length
    · obtain ⟨y, hy⟩ := has_of hlt
      obtain rfl : a = some ⟨b, o, none⟩ := HA.out.resolve_left (by intro h; rw [h] at hlt; cases hlt)
      have e0 := HX.out k y hy
      have d0 := (HB.out.cell (p := ⟨b, o + k, none⟩) (World.block_lt_of_cell? _ _ e0)).trans e0
      have HS := Lib.hid (Ps.without_snoc x hy)
      have HLN : Hid ((Ps.without (l.take k) x).length ≤ 100000) := by
        have h1 := Ps.without_len (l.take k) x
        rw [List.length_take] at h1
        show _ ≤ _
        omega
      clear e0 hy
      by_cases hyx : y = x
      · have heq : (y : Int) = (x : Int) := by omega
        have HYX := Lib.hid hyx
        clear hyx
        go_wp2
        go_roundg (l.length - (k + 1))
        case measure => omega
        case rel => exact ⟨k + 1, _, hlt, rfl, by go_num, rfl, by show RowN _ _ _ _; rw [HS.out, if_pos HYX.out]; exact HR.out, HB⟩
      · have hne : ¬ (y : Int) = (x : Int) := by omega
        generalize hm : Ps.without (l.take k) x = M at HR HS HLN
        clear hm
        have hln := HLN.out
        have hbs := HB.out.size
        go_wp2_with (at_builtin; refine wpList_append_own _ rfl _ _ 22 rfl w.heap.size 24 i0 _ 1 4 Try.underlying22 hi hz0 hz1 hz2 rfl (by decide) _ M.length _ rfl (HR.out.alloc _) ⟨wr.heap.size, 0, none⟩ 1 1 [.int .u32 (y : Nat)] rfl rfl ?p1 ?p2 ?p3 ?p4 ?p5 ?_)
        case p2 => rfl
        case p3 => unfold maxLen; omega
        case p4 => omega
        case p5 => first | omega | (simp; omega)
        intro v' w4 hown' hgrow _
        have HR4 : Hid (RowN w4 w.heap.size v' (M ++ [y])) := by
          show w4.ownsRow _ _ _ _ _ _
          rw [List.length_append, List.map_append]
          simpa [num] using hown'
        have HB4 : Hid (Below w.heap.size w w4) := (HB.out.alloc hbs _).grown hgrow (by simp; omega) (fun g hg => (HR.out.lt g hg).1)
        have HNX := Lib.hid hyx
        clear hown' hgrow hyx
        go_wp2
        go_roundg (l.length - (k + 1))
        case measure => omega
        case rel => exact ⟨k + 1, _, hlt, rfl, by go_num, rfl, by show RowN _ _ _ _; rw [HS.out, if_neg HNX.out]; exact HR4.out, HB4⟩
    · have hkk : k = l.length := by omega
      have HR5 : Hid (RowN wr w.heap.size u (Ps.without l x)) := by
        have h := HR.out
        rw [hkk, List.take_length] at h
        exact h
      obtain ⟨a5, c5, rfl⟩ := HR5.out.slice
      go_wp2
      go_ret
      exact ⟨_, rfl, HR5.out, HB.out⟩
end Go.Proofs.Ytdkkcogjkeonkaa
