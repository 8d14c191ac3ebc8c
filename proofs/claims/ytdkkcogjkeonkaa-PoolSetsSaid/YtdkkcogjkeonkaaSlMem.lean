/- Copying, clearing and shifting rows of structs in a block that is known whole. -/
import Derived.Laws.CopyOwn
import Derived.Laws.CopyRow
import Derived.Laws.AppendOwn
import Derived.Laws.OwnMore
import Derived.Lib.SliceRun
import Derived.Lib.AppendZerosOnto
import Derived.Lib.Overlaps
import Derived.Below
set_option maxRecDepth 100000
set_option maxHeartbeats 4000000
set_option linter.unusedVariables false
namespace Go.Proofs.Ytdkkcogjkeonkaa
open Go.RowKit
section
variable {P : Program}
theorem run_copy_rowS (w : World) (dT sT ty elem : TypeId) (S : Nat) (g o dLen dCap : Nat) (a : Addr) (sLen sCap : Nat) (cur : Array Value) (t : TypeId) (cs : List Value)
    (hu : P.underlying dT = some (.slice elem)) (hs : (P.info? elem).map (·.size) = some S)
    (hg : w.heap[g]? = some (.cells cur t (0, 0))) (hn : cs.length = Nat.min sLen dLen * S)
    (hsrc : ∀ j v, cs[j]? = some v → w.cell? (a.add j) = some v) (hfit : o + cs.length ≤ cur.size) (h1 : ∀ v ∈ cs, v.oneCell' = true) :
    (Builtin.copy_ #[dT, sT] ty #[.slice (some ⟨g, o, none⟩) dLen dCap, .slice (some a) sLen sCap]).run P w =
      .ok (goInt (Nat.min sLen dLen)) (w.setRow g (cur.toList.take o ++ cs ++ cur.toList.drop (o + cs.length)).toArray) := by
  have hl := run_loadCells_list (P := P) w a cs hsrc
  have hst := run_storeCells_at P g o t cs 0 cur w hg (by simpa using hfit) h1
  cases hq : P.info? elem with
  | none => simp [hq] at hs
  | some i =>
    have hi : i.size = S := by simpa [hq] using hs
    simp [Builtin.copy_, run_underlying hu, Builtin.lenOf, Builtin.firstCells, sizeOf, typeInfo, hq, hi, ← hn, hl, hst]
theorem setCells_row (g : Nat) (t : TypeId) : ∀ (vs : List Value) (o : Nat) (cur : Array Value) (w : World), w.heap[g]? = some (.cells cur t (0, 0)) → o + vs.length ≤ cur.size →
    w.setCells g o vs = w.setRow g (cur.toList.take o ++ vs ++ cur.toList.drop (o + vs.length)).toArray
  | [], o, cur, w, hg, _ => by
    simp only [World.setCells, List.append_nil, List.length_nil, Nat.add_zero, List.take_append_drop, Array.toArray_toList]
    rw [setRow_self w g cur t (0, 0) hg]
  | v :: rest, o, cur, w, hg, hl => by
    have ih := setCells_row g t rest (o + 1) (cur.setIfInBounds o v) (w.setRow g (cur.setIfInBounds o v)) (setRow_heap w g cur _ t _ hg) (by simp at hl ⊢; omega)
    rw [World.setCells, setCell_eq_setRow w g o cur t (0, 0) v hg, ih, setRow_setRow]
    congr 2
    have e := list_seg_step cur.toList o v rest (by simp at hl ⊢; omega)
    simpa [Array.toList_setIfInBounds] using e
/-- 'clear(s)', s of one element of several cells. -/
theorem run_clear_one (w : World) (t e ty : TypeId) (z : Value) (zs : List Value) (hz : z.cells = zs.toArray) (ht : P.underlying t = some (.slice e)) (hv : ∀ w, (zeroValue e).run P w = .ok z w) (h1 : ∀ v ∈ zs, v.oneCell' = true) (b o c : Nat)
    (hc : ∀ j, j < zs.length → (w.cell? ⟨b, o + j, none⟩).isSome = true) (hf : ∀ j, j < zs.length → w.frozen? ⟨b, o + j, none⟩ = false) :
    (Builtin.clear_ #[t] ty #[.slice (some ⟨b, o, none⟩) 1 c]).run P w = .ok (.tuple #[]) (w.setCells b o zs) := by
  have hzc : (Builtin.zeroCells z.cells 1).toList = zs := by
    rw [hz]
    simp only [Builtin.zeroCells, Nat.one_mul, Array.toList_map, Array.toList_range, List.size_toArray]
    apply List.ext_getElem
    · simp
    · intro i h1 h2
      have hi : i < zs.length := by simpa using h2
      simp [Nat.mod_eq_of_lt hi, hi]
  have hst := run_storeCells_cells (P := P) b o zs 0 w (by simpa using hc) (by simpa using hf) h1
  simp only [Nat.add_zero] at hst
  simp [Builtin.clear_, run_underlying ht, hv, hzc, hst]
end
theorem seg_ins (I N S : Nat) (cur xs vs : List Value) (hI : I ≤ N) (hx : cur.take N = xs) (hN : N + S ≤ cur.length) (hv : vs.length = S) :
    (((cur.take (I + S) ++ xs.drop I ++ cur.drop (I + S + (xs.drop I).length)).take I ++ vs ++ (cur.take (I + S) ++ xs.drop I ++ cur.drop (I + S + (xs.drop I).length)).drop (I + vs.length)).take (N + S) = xs.take I ++ vs ++ xs.drop I) := by
  have hxl : xs.length = N := by rw [← hx, List.length_take]; omega
  have h1 : (cur.take (I + S)).length = I + S := by rw [List.length_take]; omega
  have h2 : (cur.take (I + S) ++ xs.drop I ++ cur.drop (I + S + (xs.drop I).length)).take I = xs.take I := by
    rw [List.append_assoc, List.take_append_of_le_length (by omega), List.take_take, ← hx, List.take_take, Nat.min_eq_left (by omega), Nat.min_eq_left (by omega)]
  have h3 : (cur.take (I + S) ++ xs.drop I ++ cur.drop (I + S + (xs.drop I).length)).drop (I + vs.length) = xs.drop I ++ cur.drop (I + S + (xs.drop I).length) := by
    rw [hv, List.append_assoc, List.drop_append_of_le_length (by omega), List.drop_of_length_le (by omega), List.nil_append]
  rw [h2, h3, ← List.append_assoc, List.take_append_of_le_length (by simp only [List.length_append, List.length_take, List.length_drop]; omega), List.take_of_length_le (by simp only [List.length_append, List.length_take, List.length_drop]; omega)]
theorem seg_ins_len (I N S : Nat) (cur xs vs : List Value) (hI : I ≤ N) (hx : cur.take N = xs) (hN : N + S ≤ cur.length) (hv : vs.length = S) :
    ((cur.take (I + S) ++ xs.drop I ++ cur.drop (I + S + (xs.drop I).length)).take I ++ vs ++ (cur.take (I + S) ++ xs.drop I ++ cur.drop (I + S + (xs.drop I).length)).drop (I + vs.length)).length = cur.length := by
  have hxl : xs.length = N := by rw [← hx, List.length_take]; omega
  simp only [List.length_append, List.length_take, List.length_drop]; omega
/-- The other order: what is put in first, then what stood behind. -/
theorem seg_ins2 (I N S : Nat) (cur xs vs : List Value) (hI : I ≤ N) (hxl : xs.length = N) (hx : cur.take I = xs.take I) (hN : N + S ≤ cur.length) (hv : vs.length = S) :
    ((cur.take I ++ vs ++ cur.drop (I + vs.length)).take (I + S) ++ xs.drop I ++ (cur.take I ++ vs ++ cur.drop (I + vs.length)).drop (I + S + (xs.drop I).length)).take (N + S) = xs.take I ++ vs ++ xs.drop I := by
  have h1 : (cur.take I).length = I := by rw [List.length_take]; omega
  have h2 : (cur.take I ++ vs ++ cur.drop (I + vs.length)).take (I + S) = xs.take I ++ vs := by
    rw [List.take_append_of_le_length (by rw [List.length_append]; omega), List.take_of_length_le (by rw [List.length_append]; omega), hx]
  rw [h2, List.take_append_of_le_length (by simp only [List.length_append, List.length_take, List.length_drop]; omega), List.take_of_length_le (by simp only [List.length_append, List.length_take, List.length_drop]; omega)]
theorem seg_ins2_len (I N S : Nat) (cur xs vs : List Value) (hI : I ≤ N) (hxl : xs.length = N) (hN : N + S ≤ cur.length) (hv : vs.length = S) :
    ((cur.take I ++ vs ++ cur.drop (I + vs.length)).take (I + S) ++ xs.drop I ++ (cur.take I ++ vs ++ cur.drop (I + vs.length)).drop (I + S + (xs.drop I).length)).length = cur.length := by
  simp only [List.length_append, List.length_take, List.length_drop]; omega
theorem seg_del (I N S : Nat) (cur xs zs : List Value) (hI : I + S ≤ N) (hx : cur.take N = xs) (hN : N ≤ cur.length) (hz : zs.length = S) :
    (((cur.take I ++ xs.drop (I + S) ++ cur.drop (I + (xs.drop (I + S)).length)).take (N - S) ++ zs ++ (cur.take I ++ xs.drop (I + S) ++ cur.drop (I + (xs.drop (I + S)).length)).drop (N - S + zs.length)).take (N - S) = xs.take I ++ xs.drop (I + S)) := by
  have hxl : xs.length = N := by rw [← hx, List.length_take]; omega
  have h1 : (cur.take I ++ xs.drop (I + S)).length = N - S := by simp only [List.length_append, List.length_take, List.length_drop]; omega
  have h2 : (cur.take I ++ xs.drop (I + S) ++ cur.drop (I + (xs.drop (I + S)).length)).take (N - S) = xs.take I ++ xs.drop (I + S) := by
    rw [List.take_append_of_le_length (by omega), List.take_of_length_le (by omega), ← hx, List.take_take, Nat.min_eq_left (by omega)]
  rw [h2, List.append_assoc, List.take_append_of_le_length (by simp only [List.length_append, List.length_take, List.length_drop]; omega), List.take_of_length_le (by simp only [List.length_append, List.length_take, List.length_drop]; omega)]
theorem seg_del_len (I N S : Nat) (cur xs zs : List Value) (hI : I + S ≤ N) (hx : cur.take N = xs) (hN : N ≤ cur.length) (hz : zs.length = S) :
    ((cur.take I ++ xs.drop (I + S) ++ cur.drop (I + (xs.drop (I + S)).length)).take (N - S) ++ zs ++ (cur.take I ++ xs.drop (I + S) ++ cur.drop (I + (xs.drop (I + S)).length)).drop (N - S + zs.length)).length = cur.length := by
  have hxl : xs.length = N := by rw [← hx, List.length_take]; omega
  simp only [List.length_append, List.length_take, List.length_drop]; omega
theorem owns_setRow {w : World} {g B e S cap n' : Nat} {cur : Array Value} {l : List Value} {xs' : List Value} (hg : w.heap[g]? = some (.cells cur e (0, 0))) (hB : B ≤ g) (hn' : n' ≤ cap) (hcap : cap ≤ maxLen) (hsz : l.length = cap * S) (hx : xs'.length = n' * S) (ht : l.take (n' * S) = xs') :
    (w.setRow g l.toArray).ownsRow B e S (.slice (some ⟨g, 0, none⟩) n' cap) n' xs' :=
  ⟨hx, .inr ⟨g, cap, l.toArray, rfl, hB, setRow_heap w g cur _ e _ hg, hn', hcap, by simpa using hsz, by simpa using ht⟩⟩
end Go.Proofs.Ytdkkcogjkeonkaa
