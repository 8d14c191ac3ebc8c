/- Rows of cells that the law itself makes: a leaf's cells as a branch's, and back. -/
import Derived.Test.YtilccpklbaglpaaRefSum
import Derived.Test.YtilccpklbaglpaaSteps
import Derived.OwnWalk
set_option maxRecDepth 100000
set_option maxHeartbeats 4000000
set_option linter.unusedVariables false
namespace Go.Proofs.Ytilccpklbaglpaa
open Go.RowKit
open Sl (Cl Kd)
def toK (c : Cl) : Kd := ⟨c.key, c.chain⟩
def toC (k : Kd) : Cl := ⟨k.key, [], k.page, 0⟩
def cellsC (c : Cl) : List Value := [.string (str c.key), .string (str c.val), .int .u32 c.chain, .int .u32 c.long]
def cellsK (k : Kd) : List Value := [.string (str k.key), .int .u32 k.page]
theorem info42 : (Try.prog.info? 42).map (fun i => (i.zero, i.size, i.bytes)) = some (some (.agg #[.string ByteArray.empty, .string ByteArray.empty, .int .u32 0, .int .u32 0]), 4, 40) := by kernel_rfl
theorem info47 : (Try.prog.info? 52).map (fun i => (i.zero, i.size, i.bytes)) = some (some (.agg #[.string ByteArray.empty, .int .u32 0]), 2, 24) := by kernel_rfl
theorem flat_at {α : Type} (f : α → List Value) (s : Nat) (hf : ∀ x, (f x).length = s) : ∀ (l : List α) (j i : Nat) (p : α), l[j]? = some p → i < s → (l.flatMap f)[j * s + i]? = (f p)[i]?
  | [], j, i, p, h, _ => by simp at h
  | q :: l, 0, i, p, h, hi => by
    simp at h
    subst h
    rw [List.flatMap_cons, List.getElem?_append_left (by rw [hf]; omega)]
    simp
  | q :: l, j + 1, i, p, h, hi => by
    rw [List.flatMap_cons, List.getElem?_append_right (by rw [hf, Nat.add_mul]; omega)]
    rw [show (j + 1) * s + i - (f q).length = j * s + i by rw [hf, Nat.add_mul]; omega]
    exact flat_at f s hf l j i p (by simpa using h) hi
theorem SlC.nil (w : World) : SlC w (.slice none 0 0) [] := ⟨none, 0, 0, 0, rfl, .inl rfl, fun j p h => by simp at h⟩
theorem SlK.nil (w : World) : SlK w (.slice none 0 0) [] := ⟨none, 0, 0, 0, rfl, .inl rfl, fun j p h => by simp at h⟩
theorem flat_len {α : Type} (f : α → List Value) (s : Nat) (hf : ∀ x, (f x).length = s) (l : List α) : (l.flatMap f).length = l.length * s := by
  induction l with
  | nil => simp
  | cons p l ih => rw [List.flatMap_cons, List.length_append, ih, hf, List.length_cons, Nat.add_mul]; omega
theorem cellsC_len (c : Cl) : (cellsC c).length = 4 := rfl
theorem cellsK_len (c : Kd) : (cellsK c).length = 2 := rfl
theorem SlC.own {w : World} {B : Nat} {e : TypeId} {v : Value} {l : List Cl} (h : w.ownsRow B e 4 v l.length (l.flatMap cellsC)) : SlC w v l := by
  have hw := h
  obtain ⟨_, h1⟩ := h
  rcases h1 with ⟨rfl, h0⟩ | ⟨g, cap, cur, rfl, _⟩
  · obtain rfl : l = [] := List.length_eq_zero_iff.1 h0
    exact SlC.nil w
  · refine ⟨_, g, 0, cap, rfl, .inr rfl, fun j p hj => ?_⟩
    have hlt := (List.getElem?_eq_some_iff.1 hj).1
    have c := fun i (hi : i < 4) => (hw.cellAt (j * 4 + i) (by omega)).trans (flat_at cellsC 4 cellsC_len l j i p hj hi)
    refine ⟨?_, ?_, ?_, ?_⟩
    · have := c 0 (by omega); simpa [cellsC] using this
    · have := c 1 (by omega); simpa [cellsC, Nat.add_assoc] using this
    · have := c 2 (by omega); simpa [cellsC, Nat.add_assoc] using this
    · have := c 3 (by omega); simpa [cellsC, Nat.add_assoc] using this
theorem SlK.own {w : World} {B : Nat} {e : TypeId} {v : Value} {l : List Kd} (h : w.ownsRow B e 2 v l.length (l.flatMap cellsK)) : SlK w v l := by
  have hw := h
  obtain ⟨_, h1⟩ := h
  rcases h1 with ⟨rfl, h0⟩ | ⟨g, cap, cur, rfl, _⟩
  · obtain rfl : l = [] := List.length_eq_zero_iff.1 h0
    exact SlK.nil w
  · refine ⟨_, g, 0, cap, rfl, .inr rfl, fun j p hj => ?_⟩
    have hlt := (List.getElem?_eq_some_iff.1 hj).1
    have c := fun i (hi : i < 2) => (hw.cellAt (j * 2 + i) (by omega)).trans (flat_at cellsK 2 cellsK_len l j i p hj hi)
    refine ⟨?_, ?_⟩
    · have := c 0 (by omega); simpa [cellsK] using this
    · have := c 1 (by omega); simpa [cellsK, Nat.add_assoc] using this
theorem cellsK_new (w : World) (k : Kd) (T : TypeId) : ∀ (j : Nat) u, (cellsK k)[j]? = some u →
    (w.alloc (.cells #[.string (str k.key), .int .u32 k.page] T)).cell? ((⟨w.heap.size, 0, none⟩ : Addr).add j) = some u := by
  intro j u hj
  match j, hj with
  | 0, hj => simp [cellsK] at hj; subst hj; simp [Addr.add]
  | 1, hj => simp [cellsK] at hj; subst hj; simp [Addr.add]
  | (j + 2), hj => simp [cellsK] at hj
theorem cellsC_new (w : World) (c : Cl) (T : TypeId) : ∀ (j : Nat) u, (cellsC c)[j]? = some u →
    (w.alloc (.cells #[.string (str c.key), .string (str c.val), .int .u32 c.chain, .int .u32 c.long] T)).cell? ((⟨w.heap.size, 0, none⟩ : Addr).add j) = some u := by
  intro j u hj
  match j, hj with
  | 0, hj => simp [cellsC] at hj; subst hj; simp [Addr.add]
  | 1, hj => simp [cellsC] at hj; subst hj; simp [Addr.add]
  | 2, hj => simp [cellsC] at hj; subst hj; simp [Addr.add]
  | 3, hj => simp [cellsC] at hj; subst hj; simp [Addr.add]
  | (j + 4), hj => simp [cellsC] at hj
theorem cellsK_one (k : Kd) : ∀ u ∈ cellsK k, u.oneCell' = true := by
  intro u hu
  simp [cellsK] at hu
  rcases hu with rfl | rfl <;> rfl
theorem cellsC_one (c : Cl) : ∀ u ∈ cellsC c, u.oneCell' = true := by
  intro u hu
  simp [cellsC] at hu
  rcases hu with rfl | rfl | rfl | rfl <;> rfl
/-- A row that was made. -/
def MadeK (w : World) (l : List Kd) (e : Ending) (w' : World) : Prop := ∃ v, e = .returned v ∧ SlK w' v l ∧ Below w.heap.size w w'
def MadeC (w : World) (l : List Cl) (e : Ending) (w' : World) : Prop := ∃ v, e = .returned v ∧ SlC w' v l ∧ Below w.heap.size w w'
theorem map_take_snoc {α β : Type} (f : α → β) (l : List α) (k : Nat) (x : α) (h : l[k]? = some x) : (l.take (k + 1)).map f = (l.take k).map f ++ [f x] := by
  obtain ⟨hk, he⟩ := List.getElem?_eq_some_iff.1 h
  rw [List.take_succ_eq_append_getElem hk, he, List.map_append]; rfl
set_option maxHeartbeats 2000000 in
set_option maxRecDepth 100000 in
theorem kidsOf_any (v : Value) (l : List Cl) (hll : l.length ≤ 100000) (w : World) (hv : SlC w v l) :
    Calls Try.prog 40 #[v] w (MadeK w (l.map toK)) := by
  obtain ⟨i0, hi, hz0, hz1, hz2⟩ := info_parts info47
  obtain ⟨a, b, o, c, rfl, ha, hx⟩ := hv
  have HX := Lib.hid hx
  have HA := Lib.hid ha
  clear ha hx
  go_enter Try.func40, Try.ntmps40
  go_wp2
  go_loopg [3, 8] l.length (fun n s i wr => ∃ m : List Kd, m.length ≤ l.length ∧ n = l.length - m.length ∧ i = .int .i64 m.length ∧ Hid (m = (l.take m.length).map toK) ∧ Hid (wr.ownsRow w.heap.size 52 2 s m.length (m.flatMap cellsK)) ∧ Hid (Below w.heap.size w wr))
  case atStart => exact ⟨[], Nat.zero_le _, rfl, rfl, rfl, World.ownsRow_nil _ _ _ _, Below.refl _ _⟩
  case round =>
    obtain ⟨m, hk, rfl, rfl, HM, HO, HB⟩ := hrel
    by_cases hlt : m.length < l.length
    · obtain ⟨x, hx⟩ := take_some l m.length hlt
      obtain ⟨e0, e1, e2, e3⟩ := HX.out m.length x hx
      have hblt : b < w.heap.size := World.block_lt_of_cell? _ _ e0
      have d0 := (HB.out.cell (p := ⟨b, o + m.length * 4, none⟩) hblt).trans e0
      have d1 := (HB.out.cell (p := ⟨b, o + m.length * 4 + 1, none⟩) hblt).trans e1
      have d2 := (HB.out.cell (p := ⟨b, o + m.length * 4 + 2, none⟩) hblt).trans e2
      have d3 := (HB.out.cell (p := ⟨b, o + m.length * 4 + 3, none⟩) hblt).trans e3
      obtain rfl : a = some ⟨b, o, none⟩ := by
        rcases HA.out with h | h
        · rw [h] at hlt; cases hlt
        · exact h
      have HS := Lib.hid (map_take_snoc toK l m.length x hx)
      have hBs := HB.out.size
      clear e0 e1 e2 e3 hx
      go_wp2_with (at_builtin; refine wpList_append_own _ rfl _ _ 44 rfl w.heap.size 52 i0 _ 2 24 Try.underlying44 hi hz0 hz1 hz2 rfl (by decide) _ m.length _ rfl ((HO.out.alloc _).alloc _) ⟨wr.heap.size + 1, 0, none⟩ 1 1 (cellsK (toK x)) rfl rfl ?p1 ?p2 ?p3 ?p4 ?p5 ?_)
      case p1 => exact fun _ _ h => h
      case p2 => exact cellsK_one _
      case p3 => unfold maxLen; omega
      case p4 => omega
      case p5 => omega
      intro v' w4 hown' hgrow _
      have HO4 : Hid (w4.ownsRow w.heap.size 52 2 v' (m ++ [toK x]).length ((m ++ [toK x]).flatMap cellsK)) := by
        show w4.ownsRow _ _ _ _ _ _
        rw [List.flatMap_append, List.length_append]; simpa using hown'
      have HB4 : Hid (Below w.heap.size w w4) := ((HB.out.alloc hBs _).alloc (by simp; omega) _).grown hgrow (by simp; omega) (fun g hg => (HO.out.lt g hg).1)
      clear hown' hgrow
      go_wp2
      go_roundg (l.length - (m.length + 1))
      case measure => omega
      case rel =>
        refine ⟨m ++ [toK x], by rw [List.length_append]; exact hlt, by rw [List.length_append]; rfl, by rw [List.length_append]; go_num, ?_, HO4, HB4⟩
        show _ = _
        rw [List.length_append, show m.length + [toK x].length = m.length + 1 from rfl, HS.out, ← HM.out]
    · have hkk : m.length = l.length := by omega
      have hm : m = l.map toK := by
        have := HM.out
        rw [hkk, List.take_length] at this
        exact this
      have HMM := Lib.hid hm
      have HSK := Lib.hid (SlK.own HO.out)
      clear hm hkk
      go_wp2
      go_ret
      exact ⟨_, rfl, HMM.out ▸ HSK.out, HB.out⟩
set_option maxHeartbeats 2000000 in
set_option maxRecDepth 100000 in
theorem cellsOf_any (v : Value) (l : List Kd) (hll : l.length ≤ 100000) (w : World) (hv : SlK w v l) :
    Calls Try.prog 41 #[v] w (MadeC w (l.map toC)) := by
  obtain ⟨i0, hi, hz0, hz1, hz2⟩ := info_parts info42
  obtain ⟨a, b, o, c, rfl, ha, hx⟩ := hv
  have HX := Lib.hid hx
  have HA := Lib.hid ha
  clear ha hx
  go_enter Try.func41, Try.ntmps41
  go_wp2
  go_loopg [3, 8] l.length (fun n s i wr => ∃ m : List Cl, m.length ≤ l.length ∧ n = l.length - m.length ∧ i = .int .i64 m.length ∧ Hid (m = (l.take m.length).map toC) ∧ Hid (wr.ownsRow w.heap.size 42 4 s m.length (m.flatMap cellsC)) ∧ Hid (Below w.heap.size w wr))
  case atStart => exact ⟨[], Nat.zero_le _, rfl, rfl, rfl, World.ownsRow_nil _ _ _ _, Below.refl _ _⟩
  case round =>
    obtain ⟨m, hk, rfl, rfl, HM, HO, HB⟩ := hrel
    by_cases hlt : m.length < l.length
    · obtain ⟨x, hx⟩ := take_some l m.length hlt
      obtain ⟨e0, e1⟩ := HX.out m.length x hx
      have hblt : b < w.heap.size := World.block_lt_of_cell? _ _ e0
      have d0 := (HB.out.cell (p := ⟨b, o + m.length * 2, none⟩) hblt).trans e0
      have d1 := (HB.out.cell (p := ⟨b, o + m.length * 2 + 1, none⟩) hblt).trans e1
      obtain rfl : a = some ⟨b, o, none⟩ := by
        rcases HA.out with h | h
        · rw [h] at hlt; cases hlt
        · exact h
      have HS := Lib.hid (map_take_snoc toC l m.length x hx)
      have hBs := HB.out.size
      clear e0 e1 hx
      go_wp2_with (at_builtin; refine wpList_append_own _ rfl _ _ 40 rfl w.heap.size 42 i0 _ 4 40 Try.underlying40 hi hz0 hz1 hz2 rfl (by decide) _ m.length _ rfl ((HO.out.alloc _).alloc _) ⟨wr.heap.size + 1, 0, none⟩ 1 1 (cellsC (toC x)) rfl rfl ?p1 ?p2 ?p3 ?p4 ?p5 ?_)
      case p1 => exact fun _ _ h => h
      case p2 => exact cellsC_one _
      case p3 => unfold maxLen; omega
      case p4 => omega
      case p5 => omega
      intro v' w4 hown' hgrow _
      have HO4 : Hid (w4.ownsRow w.heap.size 42 4 v' (m ++ [toC x]).length ((m ++ [toC x]).flatMap cellsC)) := by
        show w4.ownsRow _ _ _ _ _ _
        rw [List.flatMap_append, List.length_append]; simpa using hown'
      have HB4 : Hid (Below w.heap.size w w4) := ((HB.out.alloc hBs _).alloc (by simp; omega) _).grown hgrow (by simp; omega) (fun g hg => (HO.out.lt g hg).1)
      clear hown' hgrow
      go_wp2
      go_roundg (l.length - (m.length + 1))
      case measure => omega
      case rel =>
        refine ⟨m ++ [toC x], by rw [List.length_append]; exact hlt, by rw [List.length_append]; rfl, by rw [List.length_append]; go_num, ?_, HO4, HB4⟩
        show _ = _
        rw [List.length_append, show m.length + [toC x].length = m.length + 1 from rfl, HS.out, ← HM.out]
    · have hkk : m.length = l.length := by omega
      have hm : m = l.map toC := by
        have := HM.out
        rw [hkk, List.take_length] at this
        exact this
      have HMM := Lib.hid hm
      have HSK := Lib.hid (SlC.own HO.out)
      clear hm hkk
      go_wp2
      go_ret
      exact ⟨_, rfl, HMM.out ▸ HSK.out, HB.out⟩
end Go.Proofs.Ytilccpklbaglpaa
