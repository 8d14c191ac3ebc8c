/- The contracts of what lays one cell: first, putKey, putCell, and a shape's own functions. -/
import Derived.Test.YtdkkcogjkeonkaaSMath
import Derived.Test.YtdkkcogjkeonkaaMod
import Derived.Laws.EntriesVeiled
import Derived.BigQuiet
import Derived.Deep.QuietTactic
import Derived.Deep.RegionHeld3
set_option maxRecDepth 100000
set_option maxHeartbeats 4000000
set_option linter.unusedVariables false
namespace Go.Proofs.Ytdkkcogjkeonkaa
open Go.RowKit
open Sl (Cl Kd)
theorem below_step {a b c : World} (h : Below a.heap.size a b) (k : Below b.heap.size b c) : Below a.heap.size a c := h.trans (k.mono h.size)
theorem below_off {w w1 : World} {o : Obj} (h : Below (w.alloc o).drew.heap.size (w.alloc o).drew w1) : Below w.heap.size w w1 :=
  (((Below.refl _ _).alloc (Nat.le_refl _) o).drew).trans (h.mono (by show w.heap.size ≤ (w.alloc o).heap.size; simp))
def aggC (c : Cl) : Value := .agg #[.string (str c.key), .string (str c.val), .int .u32 c.chain, .int .u32 c.long]
def aggK (k : Kd) : Value := .agg #[.string (str k.key), .int .u32 k.page]
theorem str_take (l : List UInt8) (n : Nat) : (str l).extract 0 (min l.length n) = str (l.take n) := by
  apply ByteArray.ext
  simp [str, ByteArray.data_extract, List.extract_toArray]
  rw [Nat.min_comm]
theorem ext_full (s : ByteArray) : s.extract 0 s.size = s := by
  apply ByteArray.ext
  simp
theorem str_whole (l : List UInt8) : (str l).extract 0 l.length = str l := by
  have := str_take l l.length
  rw [Nat.min_self, List.take_length] at this
  exact this
theorem wrap16_le (x : Nat) (h : x < 65536) : IntKind.u16.wrap (x : Int) = x := by rw [IntKind.wrap_u16]; omega
/-- The fields of a boxed branch's cell, and that nothing else of old has turned. -/
def InK (w : World) (g : Nat) (x0 x1 : Value) (w' : World) : Prop :=
  w'.cell? ⟨g, 0, none⟩ = some x0 ∧ w'.cell? ⟨g, 1, none⟩ = some x1 ∧ Below g w w'
theorem InK.step {w w1 w2 : World} {g : Nat} {x0 x1 : Value} (h : w1.cell? ⟨g, 0, none⟩ = some x0 ∧ w1.cell? ⟨g, 1, none⟩ = some x1 ∧ Below g w w1) (hb : Below w1.heap.size w1 w2) :
    w2.cell? ⟨g, 0, none⟩ = some x0 ∧ w2.cell? ⟨g, 1, none⟩ = some x1 ∧ Below g w w2 := by
  obtain ⟨h0, h1, h2⟩ := h
  have hlt := World.block_lt_of_cell? _ _ h0
  exact ⟨(hb.cell (p := ⟨g, 0, none⟩) hlt).trans h0, (hb.cell (p := ⟨g, 1, none⟩) hlt).trans h1, h2.trans (hb.mono (Nat.le_of_lt hlt))⟩
theorem InK.first (w : World) (x0 x1 : Value) (T : TypeId) :
    (w.alloc (.cells #[x0, x1] T)).drew.cell? ⟨w.heap.size, 0, none⟩ = some x0 ∧ (w.alloc (.cells #[x0, x1] T)).drew.cell? ⟨w.heap.size, 1, none⟩ = some x1 ∧ Below w.heap.size w (w.alloc (.cells #[x0, x1] T)).drew :=
  ⟨by simp, by simp, ((Below.refl _ _).alloc (Nat.le_refl _) _).drew⟩
theorem InC.step {w w1 w2 : World} {g : Nat} {x0 x1 x2 x3 : Value} (h : w1.cell? ⟨g, 0, none⟩ = some x0 ∧ w1.cell? ⟨g, 1, none⟩ = some x1 ∧ w1.cell? ⟨g, 2, none⟩ = some x2 ∧ w1.cell? ⟨g, 3, none⟩ = some x3 ∧ Below g w w1) (hb : Below w1.heap.size w1 w2) :
    w2.cell? ⟨g, 0, none⟩ = some x0 ∧ w2.cell? ⟨g, 1, none⟩ = some x1 ∧ w2.cell? ⟨g, 2, none⟩ = some x2 ∧ w2.cell? ⟨g, 3, none⟩ = some x3 ∧ Below g w w2 := by
  obtain ⟨h0, h1, h2, h3, h4⟩ := h
  have hlt := World.block_lt_of_cell? _ _ h0
  exact ⟨(hb.cell (p := ⟨g, 0, none⟩) hlt).trans h0, (hb.cell (p := ⟨g, 1, none⟩) hlt).trans h1, (hb.cell (p := ⟨g, 2, none⟩) hlt).trans h2, (hb.cell (p := ⟨g, 3, none⟩) hlt).trans h3, h4.trans (hb.mono (Nat.le_of_lt hlt))⟩
theorem InC.first (w : World) (x0 x1 x2 x3 : Value) (T : TypeId) :
    (w.alloc (.cells #[x0, x1, x2, x3] T)).drew.cell? ⟨w.heap.size, 0, none⟩ = some x0 ∧ (w.alloc (.cells #[x0, x1, x2, x3] T)).drew.cell? ⟨w.heap.size, 1, none⟩ = some x1 ∧ (w.alloc (.cells #[x0, x1, x2, x3] T)).drew.cell? ⟨w.heap.size, 2, none⟩ = some x2 ∧ (w.alloc (.cells #[x0, x1, x2, x3] T)).drew.cell? ⟨w.heap.size, 3, none⟩ = some x3 ∧ Below w.heap.size w (w.alloc (.cells #[x0, x1, x2, x3] T)).drew :=
  ⟨by simp, by simp, by simp, by simp, ((Below.refl _ _).alloc (Nat.le_refl _) _).drew⟩
end Go.Proofs.Ytdkkcogjkeonkaa
