/- What a reader is in memory, and the contracts of the functions that read and fail. -/
import Derived.Test.YtdkkcogjkeonkaaWrite
import Derived.Deep.DeepMust
set_option maxRecDepth 100000
set_option maxHeartbeats 4000000
set_option linter.unusedVariables false
namespace Go.Proofs.Ytdkkcogjkeonkaa
open Go.RowKit
structure Rd (w : World) (b : Nat) (s : ByteArray) (e : Int) : Prop where
  c0 : w.cell? ⟨b, 0, none⟩ = some (.string s)
  c1 : w.cell? ⟨b, 1, none⟩ = some (.int .i64 e)
  f0 : w.frozen? ⟨b, 0, none⟩ = false
  f1 : w.frozen? ⟨b, 1, none⟩ = false
structure Upd (b : Nat) (w w' : World) : Prop where
  os : w'.os = w.os
  tape : w'.tape = w.tape
  output : w'.output = w.output
  size : w'.heap.size = w.heap.size
  block : ∀ k, k ≠ b → w'.heap[k]? = w.heap[k]?
theorem Upd.refl (b : Nat) (w : World) : Upd b w w := ⟨rfl, rfl, rfl, rfl, fun _ _ => rfl⟩
theorem Upd.trans {b : Nat} {u v w : World} (h : Upd b u v) (k : Upd b v w) : Upd b u w :=
  ⟨k.os.trans h.os, k.tape.trans h.tape, k.output.trans h.output, k.size.trans h.size, fun i hi => (k.block i hi).trans (h.block i hi)⟩
theorem Upd.drew {b : Nat} {u v : World} (h : Upd b u v) : Upd b u v.drew := ⟨h.os, h.tape, h.output, h.size, h.block⟩
theorem Upd.drewN {b : Nat} {u v : World} (h : Upd b u v) (n : Nat) : Upd b u (v.drewN n) := ⟨h.os, h.tape, h.output, h.size, h.block⟩
theorem Upd.setCell {b o : Nat} {u v : World} (h : Upd b u v) (x : Value) : Upd b u (v.setCell ⟨b, o, none⟩ x) :=
  h.trans ⟨rfl, rfl, rfl, by simp [World.setCell], fun k hk => Below.heap_setCell _ _ _ _ hk⟩
theorem Upd.below {b B : Nat} {w w' : World} (h : Upd b w w') (hb : B ≤ b) : Below B w w' :=
  ⟨h.os, h.tape, h.output, Nat.le_of_eq h.size.symm, fun k hk => h.block k (by omega)⟩
theorem Rd.drew {w : World} {b : Nat} {s : ByteArray} {e : Int} (h : Rd w b s e) : Rd w.drew b s e := ⟨h.c0, h.c1, h.f0, h.f1⟩
theorem Rd.drewN {w : World} {b : Nat} {s : ByteArray} {e : Int} (h : Rd w b s e) (n : Nat) : Rd (w.drewN n) b s e := ⟨h.c0, h.c1, h.f0, h.f1⟩
theorem Rd.set1 {w : World} {b : Nat} {s : ByteArray} {e : Int} (h : Rd w b s e) (x : Int) : Rd (w.setCell ⟨b, 1, none⟩ (.int .i64 x)) b s x :=
  ⟨by rw [World.cell?_setCell_other _ _ _ _ (fun h => by cases h), h.c0], World.cell?_setCell_same' _ _ _ (by rw [h.c1]; rfl), by rw [World.frozen?_setCell, h.f0], by rw [World.frozen?_setCell, h.f1]⟩
theorem Rd.set0 {w : World} {b : Nat} {s : ByteArray} {e : Int} (h : Rd w b s e) (x : ByteArray) : Rd (w.setCell ⟨b, 0, none⟩ (.string x)) b x e :=
  ⟨World.cell?_setCell_same' _ _ _ (by rw [h.c0]; rfl), by rw [World.cell?_setCell_other _ _ _ _ (fun h => by cases h), h.c1], by rw [World.frozen?_setCell, h.f0], by rw [World.frozen?_setCell, h.f1]⟩
theorem Rd.upd {w w' : World} {b c : Nat} {s : ByteArray} {e : Int} (h : Rd w b s e) (u : Upd c w w') (hne : b ≠ c) : Rd w' b s e := by
  have hB := u.block b hne
  exact ⟨(World.cell?_of_block (w := w) hB).trans h.c0, (World.cell?_of_block (w := w) hB).trans h.c1, (World.frozen?_of_block (w := w) hB).trans h.f0, (World.frozen?_of_block (w := w) hB).trans h.f1⟩
theorem Rd.below {w w' : World} {b : Nat} {s : ByteArray} {e : Int} (h : Rd w b s e) (hb : Below w.heap.size w w') : Rd w' b s e := by
  have hB := hb.block b (block_lt_of_cell h.c0)
  exact ⟨(World.cell?_of_block (w := w) hB).trans h.c0, (World.cell?_of_block (w := w) hB).trans h.c1, (World.frozen?_of_block (w := w) hB).trans h.f0, (World.frozen?_of_block (w := w) hB).trans h.f1⟩
def tk (s : ByteArray) (e n : Int) : ByteArray × ByteArray × Int :=
  if e ≠ 0 then (ByteArray.empty, s, e) else if n < 0 ∨ (s.size : Int) < n then (ByteArray.empty, s, 3) else (s.extract 0 n.toNat, s.extract n.toNat s.size, 0)
theorem tk_bad (s : ByteArray) (e n : Int) (h : e ≠ 0) : tk s e n = (ByteArray.empty, s, e) := by unfold tk; rw [if_pos h]
theorem tk_short (s : ByteArray) (n : Int) (h : n < 0 ∨ (s.size : Int) < n) : tk s 0 n = (ByteArray.empty, s, 3) := by unfold tk; rw [if_neg (by decide), if_pos h]
theorem tk_ok (s : ByteArray) (n : Nat) (h : n ≤ s.size) : tk s 0 n = (s.extract 0 n, s.extract n s.size, 0) := by
  unfold tk; rw [if_neg (by decide), if_neg (by omega)]; rfl
theorem tk_size (s : ByteArray) (e : Int) (k : Nat) : (tk s e k).1.size ≤ k := by
  unfold tk
  split
  · exact Nat.zero_le _
  · split
    · exact Nat.zero_le _
    · rw [ByteArray.size_extract]; omega
theorem take_snoc (s : ByteArray) (k : Nat) (h : k < s.size) : s.data.toList.take (k + 1) = s.data.toList.take k ++ [s[k]] := by
  rw [List.take_succ_eq_append_getElem (by simpa using h)]; rfl
theorem u64_or_byte (v c : Nat) (hv : v < 72057594037927936) (hc : c < 256) : bits .or .u64 (IntKind.u64.wrap ((v : Int) * 256)) (IntKind.u64.wrap (c : Int)) = ((v * 256 + c : Nat) : Int) := by
  have h1 : IntKind.u64.wrap ((v : Int) * 256) = ((v * 256 : Nat) : Int) := by rw [IntKind.wrap_u64]; omega
  have h2 : IntKind.u64.wrap (c : Int) = ((c : Nat) : Int) := by rw [IntKind.wrap_u64]; omega
  rw [h1, h2, u64_or_nat _ _ (by omega) (by omega)]
  have := Nat.shiftLeft_add_eq_or_of_lt (i := 8) (b := c) (by omega) v
  rw [Nat.shiftLeft_eq] at this
  rw [show v * 256 = v * 2 ^ 8 by rfl, this]
theorem val_take (t : ByteArray) (m : Nat) (h : m < t.size) (h8 : t.size ≤ 8) : Oc.val (t.data.toList.take m) < 72057594037927936 := by
  refine Nat.lt_of_lt_of_le (Oc.val_lt _) ?_
  rw [List.length_take]
  exact Nat.le_trans (Nat.pow_le_pow_right (by omega) (show min m t.data.toList.length ≤ 7 by omega)) (by decide)
theorem ret_int {k : IntKind} {a b : Int} (h : a = b) : Ending.returned (.int k a) = .returned (.int k b) := by rw [h]
def fin (s : ByteArray) (e : Int) : Int := if e = 0 ∧ 0 < s.size then 4 else e
end Go.Proofs.Ytdkkcogjkeonkaa
