/- What cut answers, and what its memory holds; the row that make lays. -/
import Derived.Test.YtppoikhonlgcnaaSorted
import Derived.Test.YtppoikhonlgcnaaRdC
import Derived.OwnWalk
import Derived.Laws.OwnMore
namespace Go.Proofs.Ytppoikhonlgcnaa
open Go.RowKit
theorem ext_drop (l : List UInt8) (n : Nat) : (str l).extract n l.length = str (l.drop n) := by
  apply ByteArray.ext
  simp [str]
  rw [List.take_of_length_le (by simp)]
theorem tk_str (l : List UInt8) (n : Nat) (h : n ≤ l.length) : tk (str l) 0 n = (str (l.take n), str (l.drop n), 0) := by
  rw [tk_ok (str l) n (by rw [str_size]; exact h), str_size, ext_drop]
  have := str_take l n
  rw [Nat.min_eq_right h] at this
  rw [this]
def slotAt (s : List UInt8) (j : Nat) : Nat := Oc.val ((s.drop (2 * j)).take 2)
theorem slotAt_lt (s : List UInt8) (j : Nat) : slotAt s j < 65536 := by
  have h := Oc.val_lt ((s.drop (2 * j)).take 2)
  have h2 : ((s.drop (2 * j)).take 2).length ≤ 2 := List.length_take_le _ _
  exact Nat.lt_of_lt_of_le h (Nat.pow_le_pow_right (by omega) h2)
def bsOf (s : List UInt8) (c : Nat) : List Nat := (List.range c).map (slotAt s) ++ [s.length]
theorem bsOf_len (s : List UInt8) (c : Nat) : (bsOf s c).length = c + 1 := by simp [bsOf]
def CutGood (s : List UInt8) (n : Int) : Prop := 0 ≤ n ∧ n ≤ (s.length / 2 : Nat) ∧ (bsOf s n.toNat).getD 0 0 = 2 * n.toNat ∧ ∀ i, i + 1 < n.toNat + 1 → (bsOf s n.toNat).getD i 0 ≤ (bsOf s n.toNat).getD (i + 1) 0
def pieceAt (s : List UInt8) (c i : Nat) : List UInt8 := (s.drop ((bsOf s c).getD i 0)).take ((bsOf s c).getD (i + 1) 0 - (bsOf s c).getD i 0)
def pieces (s : List UInt8) (c : Nat) : List (List UInt8) := (List.range c).map (pieceAt s c)
def SlT (w : World) (v : Value) (l : List (List UInt8)) : Prop :=
  ∃ (a : Option Addr) (b o c : Nat), v = .slice a l.length c ∧ (l = [] ∨ a = some ⟨b, o, none⟩) ∧ ∀ (j : Nat) x, l[j]? = some x → w.cell? ⟨b, o + j, none⟩ = some (.string (str x))
theorem SlT.below {w w' : World} {v : Value} {l : List (List UInt8)} (h : SlT w v l) (hb : Below w.heap.size w w') : SlT w' v l := by
  obtain ⟨a, b, o, c, hv, ha, hx⟩ := h
  exact ⟨a, b, o, c, hv, ha, fun j p hj => (hb.cell (p := ⟨b, o + j, none⟩) (World.block_lt_of_cell? _ _ (hx j p hj))).trans (hx j p hj)⟩
theorem SlT.own {w : World} {B : Nat} {e : TypeId} {v : Value} {l : List (List UInt8)} (h : w.ownsRow B e 1 v l.length (l.map fun p => .string (str p))) : SlT w v l := by
  have hw := h
  obtain ⟨_, h1⟩ := h
  rcases h1 with ⟨rfl, h0⟩ | ⟨g, cap, cur, rfl, _⟩
  · obtain rfl : l = [] := List.length_eq_zero_iff.1 h0
    exact ⟨none, 0, 0, 0, rfl, .inl rfl, fun j p h => by simp at h⟩
  · refine ⟨_, g, 0, cap, rfl, .inr rfl, fun j p hj => ?_⟩
    have hlt := (List.getElem?_eq_some_iff.1 hj).1
    have := hw.cellAt j (by omega)
    rw [List.getElem?_map, hj] at this
    simpa using this
inductive CutOut (s : List UInt8) (n : Int) (w : World) (e : Ending) (w' : World) : Prop
  | bad (h : ¬ CutGood s n) (he : e = .returned (.tuple #[.slice none 0 0, .bool false])) (hb : Below w.heap.size w w')
  | ok (h : CutGood s n) (v : Value) (he : e = .returned (.tuple #[v, .bool true])) (hv : SlT w' v (pieces s n.toNat)) (hb : Below w.heap.size w w')
theorem made_row (w : World) (z : Value) (c cap : Nat) (e : TypeId) (hc : c ≤ cap) (hm : cap ≤ maxLen) :
    (w.alloc (.cells (madeCells #[z] cap) e)).ownsRow w.heap.size e 1 (.slice (some ⟨w.heap.size, 0, none⟩) c cap) c (List.replicate c z) := by
  refine ⟨by simp, .inr ⟨w.heap.size, cap, madeCells #[z] cap, rfl, Nat.le_refl _, heap_alloc_new w _, hc, hm, by rw [size_madeCells, Nat.mul_one], ?_⟩⟩
  rw [toList_madeCells_one, List.take_replicate, Nat.mul_one, Nat.min_eq_left hc]
theorem info3 : (Try.prog.info? 3).map (fun i => (i.zero, i.size, i.bytes)) = some (some (.int .i64 0), 1, 8) := by kernel_rfl
theorem info9 : (Try.prog.info? 9).map (fun i => (i.zero, i.size, i.bytes)) = some (some (.string ByteArray.empty), 1, 16) := by kernel_rfl
theorem make_ints (c : Nat) (h : c ≤ 100000) (W : World) : (Instr.makeSlice 73 (.int .i64 c) (.int .i64 ((c : Int) + 1))).run Try.prog W = .ok (.slice (some ⟨W.heap.size, 0, none⟩) c (c + 1)) (W.alloc (.cells (madeCells #[.int .i64 0] (c + 1)) 3)) := by
  obtain ⟨i, hi, hz, hs, hb⟩ := info_parts info3
  have := run_makeSlice (P := Try.prog) W 73 3 i (.int .i64 0) Try.underlying73 hi hz .i64 .i64 c ((c : Int) + 1) (by omega) (by omega) (by rw [hs]; omega) (by rw [hb]; omega) (by omega)
  rw [this, hs]
  simp only [Int.toNat_natCast, show ((c : Int) + 1).toNat = c + 1 by omega, Nat.mul_one]
  rfl
theorem make_texts (c : Nat) (h : c ≤ 100000) (W : World) : (Instr.makeSlice 107 (.int .i64 c) (.int .i64 c)).run Try.prog W = .ok (.slice (some ⟨W.heap.size, 0, none⟩) c c) (W.alloc (.cells (madeCells #[.string ByteArray.empty] c) 9)) := by
  obtain ⟨i, hi, hz, hs, hb⟩ := info_parts info9
  have := run_makeSlice (P := Try.prog) W 107 9 i (.string ByteArray.empty) Try.underlying107 hi hz .i64 .i64 c c (by omega) (by omega) (by rw [hs]; omega) (by rw [hb]; omega) (by omega)
  rw [this, hs]
  simp only [Int.toNat_natCast, Nat.mul_one]
  rfl
theorem set_next {α : Type} (f : Nat → α) (z : α) (c k : Nat) (h : k < c) : ((List.range k).map f ++ List.replicate (c - k) z).set k (f k) = (List.range (k + 1)).map f ++ List.replicate (c - (k + 1)) z := by
  obtain ⟨d, hd⟩ : ∃ d, c - k = d + 1 := ⟨c - k - 1, by omega⟩
  rw [hd, List.replicate_succ, List.set_append_right _ _ (by simp), show k - ((List.range k).map f).length = 0 by simp, List.set_cons_zero, List.range_succ, List.map_append, show c - (k + 1) = d by omega]
  simp
theorem ext_mid (l : List UInt8) (a b : Nat) : (str l).extract a b = str ((l.drop a).take (b - a)) := by
  apply ByteArray.ext
  simp [str]
theorem bs_le (s : List UInt8) (c : Nat) (h : ∀ i, i + 1 < (bsOf s c).length → (bsOf s c).getD i 0 ≤ (bsOf s c).getD (i + 1) 0) : ∀ j, j ≤ c → (bsOf s c).getD j 0 ≤ s.length := by
  have hl := bsOf_len s c
  have last : (bsOf s c).getD c 0 = s.length := by unfold bsOf; simp
  have go : ∀ d j, j + d = c → (bsOf s c).getD j 0 ≤ s.length := by
    intro d
    induction d with
    | zero => intro j hj; rw [show j = c by omega, last]; exact Nat.le_refl _
    | succ d ih => intro j hj; exact Nat.le_trans (h j (by omega)) (ih (j + 1) (by omega))
  intro j hj
  exact go (c - j) j (by omega)
end Go.Proofs.Ytppoikhonlgcnaa
