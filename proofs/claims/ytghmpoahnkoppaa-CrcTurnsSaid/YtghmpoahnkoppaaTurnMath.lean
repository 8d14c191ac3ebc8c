/- Plain arithmetic: a text of which four bytes in a row are turned by a number that is not zero has another sum. -/
import Derived.Test.YtghmpoahnkoppaaMath
namespace Go.Proofs.Ytghmpoahnkoppaa
namespace Crc
def F (x : Nat) : Nat := byte (x % 256) ^^^ (x / 256)
theorem xor_div (x y : Nat) : (x ^^^ y) / 256 = x / 256 ^^^ y / 256 := by
  have := Nat.shiftRight_xor_distrib (a := x) (b := y) (i := 8)
  simpa [Nat.shiftRight_eq_div_pow] using this
theorem xor_mod (x y : Nat) : (x ^^^ y) % 256 = x % 256 ^^^ y % 256 := Nat.xor_mod_two_pow (n := 8)
theorem split_xor (x y : Nat) : x ^^^ y = 256 * (x / 256 ^^^ y / 256) + (x % 256 ^^^ y % 256) := by
  rw [← xor_div, ← xor_mod]; omega
theorem upd_F (s : Nat) (b : UInt8) : upd byte s b = F (s ^^^ b.toNat) := by
  have hb := b.toNat_lt
  unfold upd F
  rw [xor_mod, xor_div, Nat.mod_eq_of_lt (a := b.toNat) (by omega), show b.toNat / 256 = 0 by omega, Nat.xor_zero]
theorem tops : ∀ i, i < 256 → ∀ j, j < i → byte i / 16777216 ≠ byte j / 16777216 := by decide +kernel
theorem top_inj {i j : Nat} (hi : i < 256) (hj : j < 256) (h : byte i / 16777216 = byte j / 16777216) : i = j := by
  rcases Nat.lt_trichotomy i j with hlt | rfl | hgt
  · exact absurd h.symm (tops j hj i hlt)
  · rfl
  · exact absurd h (tops i hi j hgt)
theorem xor_cancel (a b : Nat) : (a ^^^ b) ^^^ b = a := by rw [Nat.xor_assoc, Nat.xor_self, Nat.xor_zero]
theorem eq_of_xor {a b : Nat} (h : a ^^^ b = 0) : a = b := by
  have := congrArg (· ^^^ b) h
  simpa [xor_cancel] using this
theorem xor4 (a b c d : Nat) : (a ^^^ b) ^^^ (c ^^^ d) = (a ^^^ c) ^^^ (b ^^^ d) := by
  rw [Nat.xor_assoc, Nat.xor_assoc, ← Nat.xor_assoc b c d, Nat.xor_comm b c, Nat.xor_assoc c b d]
theorem F_top {x y : Nat} (hx : x < 4294967296) (hy : y < 4294967296) (h : F x ^^^ F y < 16777216) : x ^^^ y = 256 * (F x ^^^ F y) := by
  have e : F x ^^^ F y = (byte (x % 256) ^^^ byte (y % 256)) ^^^ (x / 256 ^^^ y / 256) := xor4 _ _ _ _
  have hq : x / 256 ^^^ y / 256 < 2 ^ 24 := Nat.xor_lt_two_pow (by omega) (by omega)
  have hb : byte (x % 256) ^^^ byte (y % 256) < 2 ^ 24 := by
    have : byte (x % 256) ^^^ byte (y % 256) = (F x ^^^ F y) ^^^ (x / 256 ^^^ y / 256) := by rw [e, xor_cancel]
    rw [this]
    exact Nat.xor_lt_two_pow h hq
  have hz : (byte (x % 256) ^^^ byte (y % 256)) / 16777216 = 0 := by omega
  have hl : x % 256 = y % 256 := by
    apply top_inj (by omega) (by omega)
    apply eq_of_xor
    have := Nat.shiftRight_xor_distrib (a := byte (x % 256)) (b := byte (y % 256)) (i := 24)
    simp only [Nat.shiftRight_eq_div_pow] at this
    rw [show (16777216 : Nat) = 2 ^ 24 by rfl, ← this]
    exact hz
  rw [split_xor x y, e, hl, Nat.xor_self, Nat.xor_self, Nat.zero_xor]
  omega
theorem F_inj {x y : Nat} (hx : x < 4294967296) (hy : y < 4294967296) (h : F x = F y) : x = y := by
  apply eq_of_xor
  rw [F_top hx hy (by rw [h, Nat.xor_self]; decide), h, Nat.xor_self]
theorem xor_b_lt {s : Nat} (hs : s < 4294967296) (b : UInt8) : s ^^^ b.toNat < 4294967296 :=
  Nat.xor_lt_two_pow (n := 32) hs (by have := b.toNat_lt; omega)
theorem byte_small : ∀ i, i < 256 → byte i < 4294967296 := fun i h => byte_lt (by omega)
theorem run_inj : ∀ (l : List UInt8) {s u : Nat}, s < 4294967296 → u < 4294967296 → run byte s l = run byte u l → s = u
  | [], _, _, _, _, h => h
  | b :: l, s, u, hs, hu, h => by
    have h1 := run_inj l (upd_lt byte_small hs b) (upd_lt byte_small hu b) h
    rw [upd_F, upd_F] at h1
    have h2 := F_inj (xor_b_lt hs b) (xor_b_lt hu b) h1
    have := congrArg (· ^^^ b.toNat) h2
    simpa [xor_cancel] using this
theorem four {s : Nat} (hs : s < 4294967296) {b0 b1 b2 b3 c0 c1 c2 c3 : UInt8} (h : run byte s [b0, b1, b2, b3] = run byte s [c0, c1, c2, c3]) :
    b0.toNat ^^^ c0.toNat = 0 ∧ b1.toNat ^^^ c1.toNat = 0 ∧ b2.toNat ^^^ c2.toNat = 0 ∧ b3.toNat ^^^ c3.toNat = 0 := by
  have hd : ∀ b c : UInt8, b.toNat ^^^ c.toNat < 2 ^ 8 := fun b c => Nat.xor_lt_two_pow b.toNat_lt c.toNat_lt
  have h0 := hd b0 c0
  have h1 := hd b1 c1
  have h2 := hd b2 c2
  have h3 := hd b3 c3
  have hx0 := xor_b_lt hs b0
  have hy0 := xor_b_lt hs c0
  have lx0 := upd_lt byte_small hs b0
  have ly0 := upd_lt byte_small hs c0
  have lx1 := upd_lt byte_small lx0 b1
  have ly1 := upd_lt byte_small ly0 c1
  have lx2 := upd_lt byte_small lx1 b2
  have ly2 := upd_lt byte_small ly1 c2
  have hx1 := xor_b_lt lx0 b1
  have hy1 := xor_b_lt ly0 c1
  have hx2 := xor_b_lt lx1 b2
  have hy2 := xor_b_lt ly1 c2
  have hx3 := xor_b_lt lx2 b3
  have hy3 := xor_b_lt ly2 c3
  have hF : F (upd byte (upd byte (upd byte s b0) b1) b2 ^^^ b3.toNat) = F (upd byte (upd byte (upd byte s c0) c1) c2 ^^^ c3.toNat) := by
    rw [← upd_F, ← upd_F]; exact h
  have e3 := F_inj hx3 hy3 hF
  have d3 : F (upd byte (upd byte s b0) b1 ^^^ b2.toNat) ^^^ F (upd byte (upd byte s c0) c1 ^^^ c2.toNat) = b3.toNat ^^^ c3.toNat := by
    have : (upd byte (upd byte (upd byte s b0) b1) b2 ^^^ b3.toNat) ^^^ (upd byte (upd byte (upd byte s c0) c1) c2 ^^^ c3.toNat) = 0 := by rw [e3, Nat.xor_self]
    rw [xor4] at this
    have := eq_of_xor this
    rw [upd_F _ b2, upd_F _ c2] at this
    exact this
  have e2 := F_top hx2 hy2 (by rw [d3]; omega)
  rw [d3, xor4] at e2
  have d2 : upd byte (upd byte s b0) b1 ^^^ upd byte (upd byte s c0) c1 = 256 * (b3.toNat ^^^ c3.toNat) ^^^ (b2.toNat ^^^ c2.toNat) := by
    rw [← e2, xor_cancel]
  have l2 : 256 * (b3.toNat ^^^ c3.toNat) ^^^ (b2.toNat ^^^ c2.toNat) < 2 ^ 16 := Nat.xor_lt_two_pow (by omega) (by omega)
  rw [upd_F _ b1, upd_F _ c1] at d2
  have e1 := F_top hx1 hy1 (by rw [d2]; omega)
  rw [d2, xor4] at e1
  have d1 : upd byte s b0 ^^^ upd byte s c0 = 256 * (256 * (b3.toNat ^^^ c3.toNat) ^^^ (b2.toNat ^^^ c2.toNat)) ^^^ (b1.toNat ^^^ c1.toNat) := by
    rw [← e1, xor_cancel]
  have l1 : 256 * (256 * (b3.toNat ^^^ c3.toNat) ^^^ (b2.toNat ^^^ c2.toNat)) ^^^ (b1.toNat ^^^ c1.toNat) < 2 ^ 24 := Nat.xor_lt_two_pow (by omega) (by omega)
  rw [upd_F _ b0, upd_F _ c0] at d1
  have e0 := F_top hx0 hy0 (by rw [d1]; omega)
  rw [d1, xor4, Nat.xor_self, Nat.zero_xor] at e0
  have z1 : 256 * (256 * (b3.toNat ^^^ c3.toNat) ^^^ (b2.toNat ^^^ c2.toNat)) ^^^ (b1.toNat ^^^ c1.toNat) = 0 := by omega
  have q1 := eq_of_xor z1
  have z2 : 256 * (b3.toNat ^^^ c3.toNat) ^^^ (b2.toNat ^^^ c2.toNat) = 0 := by omega
  have q2 := eq_of_xor z2
  refine ⟨by omega, by omega, by omega, by omega⟩
theorem add_four_ne {a : List UInt8} {b0 b1 b2 b3 c0 c1 c2 c3 : UInt8} {z : List UInt8} {s : Nat}
    (h : ¬ (b0.toNat ^^^ c0.toNat = 0 ∧ b1.toNat ^^^ c1.toNat = 0 ∧ b2.toNat ^^^ c2.toNat = 0 ∧ b3.toNat ^^^ c3.toNat = 0)) :
    add byte s (a ++ ([b0, b1, b2, b3] ++ z)) ≠ add byte s (a ++ ([c0, c1, c2, c3] ++ z)) := by
  intro he
  apply h
  unfold add at he
  rw [run_append, run_append, run_append, run_append] at he
  have l0 := run_lt byte_small a (s := 4294967295 - s) (by omega)
  have l1 := run_lt byte_small [b0, b1, b2, b3] l0
  have l2 := run_lt byte_small [c0, c1, c2, c3] l0
  have l3 := run_lt byte_small z l1
  have l4 := run_lt byte_small z l2
  exact four l0 (run_inj z l1 l2 (by omega))
end Crc
end Go.Proofs.Ytghmpoahnkoppaa
