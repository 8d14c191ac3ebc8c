/- The walk of the law OctetReads: two readers side by side. -/
import Derived.Test.YtfoijhofpjaldaaWrites
import Derived.Deep.LoopGhost
import Derived.Deep.DeepCutAuto
import Derived.Deep.CutRange
import Derived.Deep.CutBlock
import Derived.Deep.QuietTactic
set_option maxRecDepth 100000
set_option maxHeartbeats 4000000
set_option linter.unusedVariables false
namespace Go.Proofs.Ytfoijhofpjaldaa
open Go.RowKit
theorem Rd.alloc {w : World} {b : Nat} {s : ByteArray} {e : Int} (h : Rd w b s e) (o : Obj) : Rd (w.alloc o) b s e := h.below ((Below.refl _ _).alloc (Nat.le_refl _) _)
theorem Upd.cell {b : Nat} {w w' : World} (h : Upd b w w') {p : Addr} (hp : p.block ≠ b) : w'.cell? p = w.cell? p := World.cell?_of_block (w := w) (h.block p.block hp)
theorem valtk_lt (s : ByteArray) (e : Int) (k : Nat) : Oc.val (tk s e k).1.data.toList < 256 ^ k :=
  Nat.lt_of_lt_of_le (Oc.val_lt _) (Nat.pow_le_pow_right (by omega) (tk_size s e k))
theorem pair1 (b c : Nat) (s : ByteArray) (e : Int) : ∃ (n : Nat) (s1 : ByteArray) (e1 : Int), n < 256 ∧
    Hid (∀ W, Rd W b s e → Calls Try.prog 65 #[.pointer (some ⟨b, 0, none⟩)] W fun v w' => v = .returned (.int .u8 n) ∧ Rd w' b s1 e1 ∧ Upd b W w') ∧
    Hid (∀ W, Rd W c s e → Calls Try.prog 57 #[.pointer (some ⟨c, 0, none⟩), .int .i64 1] W fun v w' => v = .returned (.int .u64 n) ∧ Rd w' c s1 e1 ∧ Upd c W w') :=
  ⟨_, _, _, valtk_lt s e 1, fun W h => one_rd b s e W h, fun W h => num_any c s e 1 (by omega) W h⟩
theorem pair2 (b c : Nat) (s : ByteArray) (e : Int) : ∃ (n : Nat) (s1 : ByteArray) (e1 : Int), n < 65536 ∧
    Hid (∀ W, Rd W b s e → Calls Try.prog 25 #[.pointer (some ⟨b, 0, none⟩)] W fun v w' => v = .returned (.int .u16 n) ∧ Rd w' b s1 e1 ∧ Upd b W w') ∧
    Hid (∀ W, Rd W c s e → Calls Try.prog 57 #[.pointer (some ⟨c, 0, none⟩), .int .i64 2] W fun v w' => v = .returned (.int .u64 n) ∧ Rd w' c s1 e1 ∧ Upd c W w') :=
  ⟨_, _, _, valtk_lt s e 2, fun W h => two_rd b s e W h, fun W h => num_any c s e 2 (by omega) W h⟩
theorem pair4 (b c : Nat) (s : ByteArray) (e : Int) : ∃ (n : Nat) (s1 : ByteArray) (e1 : Int), n < 4294967296 ∧
    Hid (∀ W, Rd W b s e → Calls Try.prog 35 #[.pointer (some ⟨b, 0, none⟩)] W fun v w' => v = .returned (.int .u32 n) ∧ Rd w' b s1 e1 ∧ Upd b W w') ∧
    Hid (∀ W, Rd W c s e → Calls Try.prog 57 #[.pointer (some ⟨c, 0, none⟩), .int .i64 4] W fun v w' => v = .returned (.int .u64 n) ∧ Rd w' c s1 e1 ∧ Upd c W w') :=
  ⟨_, _, _, valtk_lt s e 4, fun W h => four_rd b s e W h, fun W h => num_any c s e 4 (by omega) W h⟩
theorem pair8 (b c : Nat) (s : ByteArray) (e : Int) : ∃ (n : Nat) (s1 : ByteArray) (e1 : Int),
    Hid (∀ W, Rd W b s e → Calls Try.prog 36 #[.pointer (some ⟨b, 0, none⟩)] W fun v w' => v = .returned (.int .u64 n) ∧ Rd w' b s1 e1 ∧ Upd b W w') ∧
    Hid (∀ W, Rd W c s e → Calls Try.prog 57 #[.pointer (some ⟨c, 0, none⟩), .int .i64 8] W fun v w' => v = .returned (.int .u64 n) ∧ Rd w' c s1 e1 ∧ Upd c W w') :=
  ⟨_, _, _, fun W h => eight_rd b s e W h, fun W h => num_any c s e 8 (by omega) W h⟩
theorem pairText (b c : Nat) (s : ByteArray) (e x : Int) (hx : x < 9223372036854775808) : ∃ (t s1 : ByteArray) (e1 : Int),
    Hid (∀ W, Rd W b s e → Calls Try.prog 37 #[.pointer (some ⟨b, 0, none⟩), .int .i64 x] W fun v w' => v = .returned (.string t) ∧ Rd w' b s1 e1 ∧ Upd b W w') ∧
    Hid (∀ W, Rd W c s e → Calls Try.prog 58 #[.pointer (some ⟨c, 0, none⟩), .int .i64 x] W fun v w' => v = .returned (.string t) ∧ Rd w' c s1 e1 ∧ Upd c W w') :=
  ⟨_, _, _, fun W h => text_rd b s e x hx W h, fun W h => refText_rd c s e x hx W h⟩
theorem pairTake (b c : Nat) (s : ByteArray) (e x : Int) : ∃ (t s1 : ByteArray) (e1 : Int),
    Hid (∀ W, Rd W b s e → Calls Try.prog 72 #[.pointer (some ⟨b, 0, none⟩), .int .i64 x] W fun v w' => v = .returned (.string t) ∧ Rd w' b s1 e1 ∧ Upd b W w') ∧
    Hid (∀ W, Rd W c s e → Calls Try.prog 87 #[.pointer (some ⟨c, 0, none⟩), .int .i64 x] W fun v w' => v = .returned (.string t) ∧ Rd w' c s1 e1 ∧ Upd c W w') :=
  ⟨_, _, _, fun W h => take_any b s e x W h, fun W h => refTake_any c s e x W h⟩
theorem pairFail (b c : Nat) (s : ByteArray) (e x : Int) : ∃ (e1 : Int),
    Hid (∀ W, Rd W b s e → Calls Try.prog 66 #[.pointer (some ⟨b, 0, none⟩), .int .i64 x] W fun v w' => v = .returned (.tuple #[]) ∧ Rd w' b s e1 ∧ Upd b W w') ∧
    Hid (∀ W, Rd W c s e → Calls Try.prog 86 #[.pointer (some ⟨c, 0, none⟩), .int .i64 x] W fun v w' => v = .returned (.tuple #[]) ∧ Rd w' c s e1 ∧ Upd c W w') :=
  ⟨_, fun W h => fail_any b s e x W h, fun W h => refFail_any c s e x W h⟩
theorem pairEnd (b c : Nat) (s : ByteArray) (e : Int) : ∃ (x : Int),
    Hid (∀ W, Rd W b s e → Calls Try.prog 55 #[.pointer (some ⟨b, 0, none⟩)] W fun v w' => v = .returned (.int .i64 x) ∧ W = w') ∧
    Hid (∀ W, Rd W c s e → Calls Try.prog 59 #[.pointer (some ⟨c, 0, none⟩)] W fun v w' => v = .returned (.int .i64 x) ∧ W = w') :=
  ⟨_, fun W h => end_rd b s e W h, fun W h => refEnd_rd c s e W h⟩
end Go.Proofs.Ytfoijhofpjaldaa
