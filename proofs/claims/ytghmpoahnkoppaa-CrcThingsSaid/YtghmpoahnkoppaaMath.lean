/- The plain arithmetic of a reflected CRC-32 in natural numbers; nothing of the program. -/
namespace Go.Proofs.Ytghmpoahnkoppaa
namespace Crc
def step (n : Nat) : Nat := if n % 2 = 1 then (n / 2) ^^^ 3988292384 else n / 2
def steps : Nat → Nat → Nat
  | 0, n => n
  | k + 1, n => step (steps k n)
def byte (n : Nat) : Nat := steps 8 n
def upd (T : Nat → Nat) (s : Nat) (b : UInt8) : Nat := T ((s % 256) ^^^ b.toNat) ^^^ (s / 256)
def run (T : Nat → Nat) (s : Nat) (l : List UInt8) : Nat := l.foldl (upd T) s
def add (T : Nat → Nat) (s : Nat) (l : List UInt8) : Nat := 4294967295 - run T (4294967295 - s) l

theorem step_lt {n : Nat} (h : n < 4294967296) : step n < 4294967296 := by
  unfold step
  split
  · exact Nat.xor_lt_two_pow (n := 32) (by omega) (by omega)
  · omega
theorem steps_lt {n : Nat} (h : n < 4294967296) : ∀ k, steps k n < 4294967296
  | 0 => h
  | k + 1 => step_lt (steps_lt h k)
theorem byte_lt {n : Nat} (h : n < 4294967296) : byte n < 4294967296 := steps_lt h 8
theorem idx_lt (s : Nat) (b : UInt8) : (s % 256) ^^^ b.toNat < 256 :=
  Nat.xor_lt_two_pow (n := 8) (by omega) b.toNat_lt
theorem upd_lt {T : Nat → Nat} (hT : ∀ i, i < 256 → T i < 4294967296) {s : Nat} (h : s < 4294967296) (b : UInt8) : upd T s b < 4294967296 :=
  Nat.xor_lt_two_pow (n := 32) (hT _ (idx_lt s b)) (by omega)
theorem run_lt {T : Nat → Nat} (hT : ∀ i, i < 256 → T i < 4294967296) : ∀ (l : List UInt8) {s : Nat}, s < 4294967296 → run T s l < 4294967296
  | [], _, h => h
  | b :: l, _, h => run_lt hT l (upd_lt hT h b)
theorem run_snoc (T : Nat → Nat) (s : Nat) (l : List UInt8) (b : UInt8) : run T s (l ++ [b]) = upd T (run T s l) b := by
  unfold run; rw [List.foldl_append]; rfl
theorem run_append (T : Nat → Nat) (s : Nat) (l m : List UInt8) : run T s (l ++ m) = run T (run T s l) m := by
  unfold run; rw [List.foldl_append]
theorem add_lt (T : Nat → Nat) (s : Nat) (l : List UInt8) : add T s l < 4294967296 := by unfold add; omega
theorem add_append {T : Nat → Nat} (hT : ∀ i, i < 256 → T i < 4294967296) {s : Nat} (h : s < 4294967296) (l m : List UInt8) : add T s (l ++ m) = add T (add T s l) m := by
  unfold add
  rw [run_append]
  have := run_lt hT l (s := 4294967295 - s) (by omega)
  rw [show 4294967295 - (4294967295 - run T (4294967295 - s) l) = run T (4294967295 - s) l by omega]
theorem run_congr {T U : Nat → Nat} (h : ∀ i, i < 256 → T i = U i) : ∀ (l : List UInt8) (s : Nat), run T s l = run U s l
  | [], _ => rfl
  | b :: l, s => by
    show run T (upd T s b) l = run U (upd U s b) l
    rw [show upd T s b = upd U s b by unfold upd; rw [h _ (idx_lt s b)]]
    exact run_congr h l _
theorem add_congr {T U : Nat → Nat} (h : ∀ i, i < 256 → T i = U i) (s : Nat) (l : List UInt8) : add T s l = add U s l := by
  unfold add; rw [run_congr h]
theorem take_snoc (s : ByteArray) (k : Nat) (h : k < s.size) : s.data.toList.take (k + 1) = s.data.toList.take k ++ [s[k]] := by
  rw [List.take_succ_eq_append_getElem (by simpa using h)]; rfl
end Crc
end Go.Proofs.Ytghmpoahnkoppaa
