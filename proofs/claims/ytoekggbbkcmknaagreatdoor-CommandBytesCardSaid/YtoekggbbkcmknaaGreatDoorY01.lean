/- Texts of one seat, merged. -/
import Derived.Test.YtoekggbbkcmknaaGreatDoorRows
import Derived.WalkKit
import Derived.WalkLawsBesides
import Derived.Below
import Derived.Lib.Hide
import Derived.Laws.IdiomStrings
import Derived.RegionTactic
import Derived.Deep.RegionWith
import Derived.Deep.DeepMust
import Derived.Deep.LoopGhost
import Derived.Deep.DeepCutAuto
import Derived.Deep.CutRange
import Derived.Deep.CutBlock
import Derived.Deep.QuietTactic
set_option maxRecDepth 100000
set_option maxHeartbeats 4000000
set_option linter.unusedVariables false
/- Plain arithmetic of numbers as bytes, highest first; nothing of the program. -/
namespace Go.Proofs.YtoekggbbkcmknaaGreatDoor
namespace Oc
def big : Nat → Nat → List UInt8
  | 0, _ => []
  | k + 1, n => big k (n / 256) ++ [UInt8.ofNat (n % 256)]
def val (l : List UInt8) : Nat := l.foldl (fun a b => a * 256 + b.toNat) 0
theorem big_length : ∀ k n, (big k n).length = k
  | 0, _ => rfl
  | k + 1, n => by unfold big; rw [List.length_append, big_length]; rfl
theorem val_snoc (l : List UInt8) (b : UInt8) : val (l ++ [b]) = val l * 256 + b.toNat := by
  unfold val; rw [List.foldl_append]; rfl
theorem foldl_lt : ∀ (l : List UInt8) (a : Nat), l.foldl (fun a b => a * 256 + b.toNat) a < (a + 1) * 256 ^ l.length
  | [], a => by simp
  | b :: l, a => by
    have h := foldl_lt l (a * 256 + b.toNat)
    have hb := b.toNat_lt
    rw [List.foldl_cons, List.length_cons, Nat.pow_succ]
    refine Nat.lt_of_lt_of_le h ?_
    rw [Nat.mul_comm (256 ^ l.length) 256, ← Nat.mul_assoc]
    exact Nat.mul_le_mul_right _ (by omega)
theorem val_lt (l : List UInt8) : val l < 256 ^ l.length := by
  have := foldl_lt l 0
  simpa [val] using this
theorem val_big : ∀ k n, n < 256 ^ k → val (big k n) = n
  | 0, n, h => by
    have : n = 0 := by simpa using h
    subst this; rfl
  | k + 1, n, h => by
    unfold big
    rw [val_snoc, val_big k (n / 256) (by rw [Nat.pow_succ] at h; omega)]
    have : (UInt8.ofNat (n % 256)).toNat = n % 256 := by
      rw [UInt8.toNat_ofNat']; omega
    omega
theorem big_mod : ∀ k n, big k (n % 256 ^ k) = big k n
  | 0, _ => rfl
  | k + 1, n => by
    unfold big
    have h1 : n % 256 ^ (k + 1) / 256 = n / 256 % 256 ^ k := by
      rw [Nat.pow_succ, Nat.mul_comm, Nat.mod_mul_right_div_self]
    have h2 : n % 256 ^ (k + 1) % 256 = n % 256 := by
      rw [Nat.pow_succ, Nat.mod_mul_left_mod]
    rw [h1, h2, big_mod k]
theorem big_succ (k n : Nat) : big (k + 1) n = big k (n / 256) ++ [UInt8.ofNat (n % 256)] := rfl
theorem big_add : ∀ j k n, big (j + k) n = big j (n / 256 ^ k) ++ big k n
  | j, 0, n => by simp [big]
  | j, k + 1, n => by
    rw [← Nat.add_assoc, big_succ, big_succ, big_add j k, List.append_assoc, Nat.div_div_eq_div_mul, Nat.pow_succ, Nat.mul_comm 256]
theorem snoc_of_length {k : Nat} {l : List UInt8} (h : l.length = k + 1) : ∃ m b, l = m ++ [b] ∧ m.length = k := by
  have hne : l ≠ [] := by intro e; rw [e] at h; cases h
  exact ⟨l.dropLast, l.getLast hne, (List.dropLast_concat_getLast hne).symm, by rw [List.length_dropLast, h]; rfl⟩
theorem big_val : ∀ (k : Nat) (l : List UInt8), l.length = k → big k (val l) = l
  | 0, l, h => by cases l with | nil => rfl | cons _ _ => cases h
  | k + 1, l, h => by
    obtain ⟨m, b, rfl, hm⟩ := snoc_of_length h
    have hb := b.toNat_lt
    rw [val_snoc, big_succ, show (val m * 256 + b.toNat) / 256 = val m by omega, show (val m * 256 + b.toNat) % 256 = b.toNat by omega, big_val k m hm, UInt8.ofNat_toNat]
theorem big_at : ∀ (k n j : Nat), j < k → (big k n)[j]? = some (UInt8.ofNat (n / 256 ^ (k - 1 - j) % 256))
  | 0, _, _, h => by omega
  | k + 1, n, j, h => by
    rw [big_succ]
    by_cases hj : j < k
    · rw [List.getElem?_append_left (by rw [big_length]; exact hj), big_at k (n / 256) j hj, Nat.div_div_eq_div_mul]
      rw [show k + 1 - 1 - j = k - 1 - j + 1 by omega, Nat.pow_succ, Nat.mul_comm 256]
    · obtain rfl : j = k := by omega
      rw [List.getElem?_append_right (by rw [big_length]; exact Nat.le_refl _), big_length, Nat.sub_self]
      simp
def dig (n m j : Nat) : Nat := if 7 - j < m then n / 256 ^ (7 - j) % 256 else 0
theorem dig_zero (n j : Nat) : dig n 0 j = 0 := rfl
theorem dig_same (n m : Nat) (h : m < 8) : dig n (m + 1) (7 - m) = n / 256 ^ m % 256 := by
  unfold dig; rw [if_pos (by omega), show 7 - (7 - m) = m by omega]
theorem dig_other (n m j : Nat) (h : j ≠ 7 - m) (hj : j < 8) : dig n (m + 1) j = dig n m j := by
  unfold dig
  by_cases h2 : 7 - j < m
  · rw [if_pos (by omega), if_pos h2]
  · rw [if_neg (by omega), if_neg h2]
theorem dig_big (n k j : Nat) (hk : k ≤ 8) (hj : j < k) : ∃ b : UInt8, (big k n)[j]? = some b ∧ b.toNat = dig n 8 (8 - k + j) := by
  refine ⟨_, big_at k n j hj, ?_⟩
  rw [UInt8.toNat_ofNat']
  unfold dig
  rw [if_pos (by omega), show 7 - (8 - k + j) = k - 1 - j by omega]
  omega
end Oc
end Go.Proofs.YtoekggbbkcmknaaGreatDoor
/- The contracts of the functions that write numbers and texts as bytes. -/
namespace Go.Proofs.YtoekggbbkcmknaaGreatDoor
open Go.RowKit
def str (l : List UInt8) : ByteArray := ⟨l.toArray⟩
theorem str_data (l : List UInt8) : (str l).data.toList = l := rfl
theorem str_size (l : List UInt8) : (str l).size = l.length := rfl
theorem str_append (l m : List UInt8) : str l ++ str m = str (l ++ m) := by
  apply ByteArray.ext
  simp [str]
theorem str_eq (s : ByteArray) : str s.data.toList = s := rfl
theorem ret_string {a b : ByteArray} (h : a = b) : Ending.returned (.string a) = .returned (.string b) := by rw [h]
theorem one_back (n : Nat) (h : n < 256) (w : World) :
    (convert 70 9 (.slice (some ⟨w.heap.size, 0, none⟩) 1 1)).run Tryz.prog (w.alloc (.cells #[.int .u8 n] 5)) = .ok (.string (str (Oc.big 1 n))) (w.alloc (.cells #[.int .u8 n] 5)) := by
  have hback := run_convert_bytes_back (P := Tryz.prog) (w.alloc (.cells #[.int .u8 n] 5)) 70 9 5 ⟨w.heap.size, 0, none⟩ 1 (Oc.big 1 n) Tryz.underlying70 Tryz.underlying5 Tryz.underlying9 (by
    intro j hj
    rw [Oc.big_length] at hj
    obtain rfl : j = 0 := by omega
    have e : (Oc.big 1 n)[0].toNat = n := by
      show (UInt8.ofNat (n % 256)).toNat = n
      rw [UInt8.toNat_ofNat']; omega
    refine Eq.trans (b := some (.int .u8 (n : Int))) ?_ (congrArg (fun x : Nat => some (Value.int .u8 (x : Int))) e.symm)
    rw [show (⟨w.heap.size, 0, none⟩ : Addr).add 0 = ⟨w.heap.size, 0, none⟩ from rfl]
    simp)
  exact hback
theorem one_any (n : Nat) (h : n < 256) (w : World) :
    Calls Tryz.prog 99 #[.int .u8 n] w fun e w' => e = .returned (.string (str (Oc.big 1 n))) ∧ Below w.heap.size w w' := by
  have hb := one_back n h
  go_enter Tryz.func99, Tryz.ntmps99
  go_wp2
  go_ret
  exact ⟨rfl, (Below.refl _ _).alloc (Nat.le_refl _) _⟩
theorem one_at (x : Int) (n : Nat) (hx : x = n) (h : n < 256) (w : World) :
    Calls Tryz.prog 99 #[.int .u8 x] w fun e w' => e = .returned (.string (str (Oc.big 1 n))) ∧ Below w.heap.size w w' := by
  subst hx; exact one_any n h w
theorem big_size (k n : Nat) : (str (Oc.big k n)).size = k := by rw [str_size, Oc.big_length]
theorem two_at (x : Int) (n : Nat) (hx : x = n) (h : n < 65536) (w : World) :
    Calls Tryz.prog 100 #[.int .u16 x] w fun e w' => e = .returned (.string (str (Oc.big 2 n))) ∧ Below w.heap.size w w' := by
  subst hx
  have hs := big_size
  have H : Hid (str (Oc.big 1 (n / 256)) ++ str (Oc.big 1 (n % 256)) = str (Oc.big 2 n)) := by
    show _ = str (Oc.big (1 + 1) n)
    rw [str_append, Oc.big_add 1 1, ← Oc.big_mod 1 n]
  go_enter Tryz.func100, Tryz.ntmps100
  go_wp2_with (go_at_call 99; first
    | (refine (one_at _ (n / 256) (by omega) (by omega) _).mono ?_; rintro e w1 ⟨rfl, hb1⟩)
    | (refine (one_at _ (n % 256) (by omega) (by omega) _).mono ?_; rintro e w2 ⟨rfl, hb2⟩))
  go_ret
  exact ⟨ret_string H.out, hb1.trans (hb2.mono hb1.size)⟩
theorem four_at (x : Int) (n : Nat) (hx : x = n) (h : n < 4294967296) (w : World) :
    Calls Tryz.prog 60 #[.int .u32 x] w fun e w' => e = .returned (.string (str (Oc.big 4 n))) ∧ Below w.heap.size w w' := by
  subst hx
  have hs := big_size
  have H : Hid (str (Oc.big 2 (n / 65536)) ++ str (Oc.big 2 (n % 65536)) = str (Oc.big 4 n)) := by
    show _ = str (Oc.big (2 + 2) n)
    rw [str_append, Oc.big_add 2 2, ← Oc.big_mod 2 n]
  go_enter Tryz.func60, Tryz.ntmps60
  go_wp2_with (go_at_call 100; first
    | (refine (two_at _ (n / 65536) (by omega) (by omega) _).mono ?_; rintro e w1 ⟨rfl, hb1⟩)
    | (refine (two_at _ (n % 65536) (by rw [IntKind.wrap_u16]; omega) (by omega) _).mono ?_; rintro e w2 ⟨rfl, hb2⟩))
  go_ret
  exact ⟨ret_string H.out, hb1.trans (hb2.mono hb1.size)⟩
theorem eight_at (x : Int) (n : Nat) (hx : x = n) (h : n < 18446744073709551616) (w : World) :
    Calls Tryz.prog 111 #[.int .u64 x] w fun e w' => e = .returned (.string (str (Oc.big 8 n))) ∧ Below w.heap.size w w' := by
  subst hx
  have hs := big_size
  have H : Hid (str (Oc.big 4 (n / 4294967296)) ++ str (Oc.big 4 (n % 4294967296)) = str (Oc.big 8 n)) := by
    show _ = str (Oc.big (4 + 4) n)
    rw [str_append, Oc.big_add 4 4, ← Oc.big_mod 4 n]
  go_enter Tryz.func111, Tryz.ntmps111
  go_wp2_with (go_at_call 60; first
    | (refine (four_at _ (n / 4294967296) (by omega) (by omega) _).mono ?_; rintro e w1 ⟨rfl, hb1⟩)
    | (refine (four_at _ (n % 4294967296) (by omega) (by omega) _).mono ?_; rintro e w2 ⟨rfl, hb2⟩))
  go_ret
  exact ⟨ret_string H.out, hb1.trans (hb2.mono hb1.size)⟩
theorem text_at (s : ByteArray) (h : s.size < 4294967296) (w : World) :
    Calls Tryz.prog 105 #[.string s] w fun e w' => e = .returned (.string (str (Oc.big 4 s.size ++ s.data.toList))) ∧ Below w.heap.size w w' := by
  have hs := big_size
  have H : Hid (str (Oc.big 4 s.size) ++ s = str (Oc.big 4 s.size ++ s.data.toList)) := by
    rw [← str_append, str_eq]; rfl
  go_enter Tryz.func105, Tryz.ntmps105
  go_wp2_with (go_at_call 60; (refine (four_at _ s.size (by omega) (by omega) _).mono ?_; rintro e w1 ⟨rfl, hb1⟩))
  go_ret
  exact ⟨ret_string H.out, hb1⟩
end Go.Proofs.YtoekggbbkcmknaaGreatDoor
/- What a reader is in memory, and the contracts of the functions that read and fail. -/
namespace Go.Proofs.YtoekggbbkcmknaaGreatDoor
open Go.RowKit
structure Rd (w : World) (b : Nat) (s : ByteArray) (e : Int) : Prop where
  c0 : w.cell? ⟨b, 0, none⟩ = some (.string s)
  c1 : w.cell? ⟨b, 1, none⟩ = some (.int .i64 e)
  f0 : w.frozen? ⟨b, 0, none⟩ = false
  f1 : w.frozen? ⟨b, 1, none⟩ = false
structure Upd (b : Nat) (w w' : World) : Prop where
  os : w'.os = w.os
  tape : w'.tape = w.tape
  output : w'.output = w.output
  size : w'.heap.size = w.heap.size
  block : ∀ k, k ≠ b → w'.heap[k]? = w.heap[k]?
theorem Upd.refl (b : Nat) (w : World) : Upd b w w := ⟨rfl, rfl, rfl, rfl, fun _ _ => rfl⟩
theorem Upd.trans {b : Nat} {u v w : World} (h : Upd b u v) (k : Upd b v w) : Upd b u w :=
  ⟨k.os.trans h.os, k.tape.trans h.tape, k.output.trans h.output, k.size.trans h.size, fun i hi => (k.block i hi).trans (h.block i hi)⟩
theorem Upd.drew {b : Nat} {u v : World} (h : Upd b u v) : Upd b u v.drew := ⟨h.os, h.tape, h.output, h.size, h.block⟩
theorem Upd.drewN {b : Nat} {u v : World} (h : Upd b u v) (n : Nat) : Upd b u (v.drewN n) := ⟨h.os, h.tape, h.output, h.size, h.block⟩
theorem Upd.setCell {b o : Nat} {u v : World} (h : Upd b u v) (x : Value) : Upd b u (v.setCell ⟨b, o, none⟩ x) :=
  h.trans ⟨rfl, rfl, rfl, by simp [World.setCell], fun k hk => Below.heap_setCell _ _ _ _ hk⟩
theorem Upd.below {b B : Nat} {w w' : World} (h : Upd b w w') (hb : B ≤ b) : Below B w w' :=
  ⟨h.os, h.tape, h.output, Nat.le_of_eq h.size.symm, fun k hk => h.block k (by omega)⟩
theorem Rd.drew {w : World} {b : Nat} {s : ByteArray} {e : Int} (h : Rd w b s e) : Rd w.drew b s e := ⟨h.c0, h.c1, h.f0, h.f1⟩
theorem Rd.drewN {w : World} {b : Nat} {s : ByteArray} {e : Int} (h : Rd w b s e) (n : Nat) : Rd (w.drewN n) b s e := ⟨h.c0, h.c1, h.f0, h.f1⟩
theorem Rd.set1 {w : World} {b : Nat} {s : ByteArray} {e : Int} (h : Rd w b s e) (x : Int) : Rd (w.setCell ⟨b, 1, none⟩ (.int .i64 x)) b s x :=
  ⟨by rw [World.cell?_setCell_other _ _ _ _ (fun h => by cases h), h.c0], World.cell?_setCell_same' _ _ _ (by rw [h.c1]; rfl), by rw [World.frozen?_setCell, h.f0], by rw [World.frozen?_setCell, h.f1]⟩
theorem Rd.set0 {w : World} {b : Nat} {s : ByteArray} {e : Int} (h : Rd w b s e) (x : ByteArray) : Rd (w.setCell ⟨b, 0, none⟩ (.string x)) b x e :=
  ⟨World.cell?_setCell_same' _ _ _ (by rw [h.c0]; rfl), by rw [World.cell?_setCell_other _ _ _ _ (fun h => by cases h), h.c1], by rw [World.frozen?_setCell, h.f0], by rw [World.frozen?_setCell, h.f1]⟩
theorem Rd.upd {w w' : World} {b c : Nat} {s : ByteArray} {e : Int} (h : Rd w b s e) (u : Upd c w w') (hne : b ≠ c) : Rd w' b s e := by
  have hB := u.block b hne
  exact ⟨(World.cell?_of_block (w := w) hB).trans h.c0, (World.cell?_of_block (w := w) hB).trans h.c1, (World.frozen?_of_block (w := w) hB).trans h.f0, (World.frozen?_of_block (w := w) hB).trans h.f1⟩
theorem Rd.below {w w' : World} {b : Nat} {s : ByteArray} {e : Int} (h : Rd w b s e) (hb : Below w.heap.size w w') : Rd w' b s e := by
  have hB := hb.block b (block_lt_of_cell h.c0)
  exact ⟨(World.cell?_of_block (w := w) hB).trans h.c0, (World.cell?_of_block (w := w) hB).trans h.c1, (World.frozen?_of_block (w := w) hB).trans h.f0, (World.frozen?_of_block (w := w) hB).trans h.f1⟩
theorem over_any (s : ByteArray) (w : World) :
    Calls Tryz.prog 17 #[.string s] w fun e w' => e = .returned (.pointer (some ⟨w.heap.size, 0, none⟩)) ∧ Rd w' w.heap.size s 0 ∧ Below w.heap.size w w' := by
  go_enter Tryz.func17, Tryz.ntmps17
  go_wp2
  go_ret
  refine ⟨rfl, ?_, (Below.refl _ _).alloc (Nat.le_refl _) _⟩
  constructor <;> simp
theorem err_any (b : Nat) (s : ByteArray) (e : Int) (w : World) (h : Rd w b s e) :
    Calls Tryz.prog 22 #[.pointer (some ⟨b, 0, none⟩)] w fun x w' => x = .returned (.int .i64 e) ∧ w = w' := by
  obtain ⟨c0, c1, f0, f1⟩ := h
  go_enter Tryz.func22, Tryz.ntmps22
  go_wp2
  go_ret
  exact ⟨rfl, rfl⟩
theorem left_any (b : Nat) (s : ByteArray) (e : Int) (w : World) (h : Rd w b s e) :
    Calls Tryz.prog 23 #[.pointer (some ⟨b, 0, none⟩)] w fun x w' => x = .returned (.int .i64 s.size) ∧ w = w' := by
  obtain ⟨c0, c1, f0, f1⟩ := h
  go_enter Tryz.func23, Tryz.ntmps23
  go_wp2
  go_ret
  exact ⟨rfl, rfl⟩
theorem fail_any (b : Nat) (s : ByteArray) (e x : Int) (w : World) (h : Rd w b s e) :
    Calls Tryz.prog 45 #[.pointer (some ⟨b, 0, none⟩), .int .i64 x] w fun v w' => v = .returned (.tuple #[]) ∧ Rd w' b s (if e = 0 then x else e) ∧ Upd b w w' := by
  have hR := h
  obtain ⟨c0, c1, f0, f1⟩ := h
  by_cases he : e = 0
  · subst he
    go_enter Tryz.func45, Tryz.ntmps45
    go_wp2
    go_end0
    exact ⟨rfl, hR.set1 x, (Upd.refl _ _).setCell _⟩
  · have hd : (e == 0) = false := by rw [beq_eq_false_iff_ne]; exact he
    rw [if_neg he]
    go_enter Tryz.func45, Tryz.ntmps45
    go_wp2
    go_end0
    exact ⟨rfl, hR, Upd.refl _ _⟩
theorem take_bad (b : Nat) (s : ByteArray) (e n : Int) (w : World) (h : Rd w b s e) (he : e ≠ 0) :
    Calls Tryz.prog 103 #[.pointer (some ⟨b, 0, none⟩), .int .i64 n] w fun v w' => v = .returned (.string ByteArray.empty) ∧ w = w' := by
  have hd : (e == 0) = false := by rw [beq_eq_false_iff_ne]; exact he
  have hd' : (e != 0) = true := by rw [bne_iff_ne]; exact he
  go_enter Tryz.func103, Tryz.ntmps103
  go_wp2_with (go_at_call 22; refine (err_any b s e _ h).mono ?_; rintro x w1 ⟨rfl, rfl⟩)
  go_ret
  exact ⟨rfl, rfl⟩
theorem take_short (b : Nat) (s : ByteArray) (n : Int) (w : World) (h : Rd w b s 0) (hn : n < 0 ∨ (s.size : Int) < n) :
    Calls Tryz.prog 103 #[.pointer (some ⟨b, 0, none⟩), .int .i64 n] w fun v w' => v = .returned (.string ByteArray.empty) ∧ Rd w' b s 3 ∧ Upd b w w' := by
  have c0 := h.c0
  by_cases h1 : n < 0
  · go_enter Tryz.func103, Tryz.ntmps103
    go_wp2_with (first
      | (go_at_call 22; refine (err_any b s 0 _ h).mono ?_; rintro x w1 ⟨rfl, rfl⟩)
      | (go_at_call 45; refine (fail_any b s 0 3 _ h).mono ?_; rintro x w1 ⟨rfl, hr, hu⟩))
    go_ret
    exact ⟨rfl, hr, hu⟩
  · have h2 : (s.size : Int) < n := by omega
    go_enter Tryz.func103, Tryz.ntmps103
    go_wp2_with (first
      | (go_at_call 22; refine (err_any b s 0 _ h).mono ?_; rintro x w1 ⟨rfl, rfl⟩)
      | (go_at_call 45; refine (fail_any b s 0 3 _ h).mono ?_; rintro x w1 ⟨rfl, hr, hu⟩))
    go_ret
    exact ⟨rfl, hr, hu⟩
theorem take_ok (b : Nat) (s : ByteArray) (n : Nat) (w : World) (h : Rd w b s 0) (hn : n ≤ s.size) :
    Calls Tryz.prog 103 #[.pointer (some ⟨b, 0, none⟩), .int .i64 n] w fun v w' => v = .returned (.string (s.extract 0 n)) ∧ Rd w' b (s.extract n s.size) 0 ∧ Upd b w w' := by
  have c0 := h.c0
  have f0 := h.f0
  have h1 : ¬ (n : Int) < 0 := by omega
  have h2 : ¬ (s.size : Int) < (n : Int) := by omega
  have h3 : (n : Int) ≤ (s.size : Int) := by omega
  go_enter Tryz.func103, Tryz.ntmps103
  go_wp2_with (go_at_call 22; refine (err_any b s 0 _ h).mono ?_; rintro x w1 ⟨rfl, rfl⟩)
  go_ret
  exact ⟨rfl, h.set0 _, (Upd.refl _ _).setCell _⟩
def tk (s : ByteArray) (e n : Int) : ByteArray × ByteArray × Int :=
  if e ≠ 0 then (ByteArray.empty, s, e) else if n < 0 ∨ (s.size : Int) < n then (ByteArray.empty, s, 3) else (s.extract 0 n.toNat, s.extract n.toNat s.size, 0)
theorem tk_bad (s : ByteArray) (e n : Int) (h : e ≠ 0) : tk s e n = (ByteArray.empty, s, e) := by unfold tk; rw [if_pos h]
theorem tk_short (s : ByteArray) (n : Int) (h : n < 0 ∨ (s.size : Int) < n) : tk s 0 n = (ByteArray.empty, s, 3) := by unfold tk; rw [if_neg (by decide), if_pos h]
theorem tk_ok (s : ByteArray) (n : Nat) (h : n ≤ s.size) : tk s 0 n = (s.extract 0 n, s.extract n s.size, 0) := by
  unfold tk; rw [if_neg (by decide), if_neg (by omega)]; rfl
theorem take_any (b : Nat) (s : ByteArray) (e n : Int) (w : World) (h : Rd w b s e) :
    Calls Tryz.prog 103 #[.pointer (some ⟨b, 0, none⟩), .int .i64 n] w fun v w' => v = .returned (.string (tk s e n).1) ∧ Rd w' b (tk s e n).2.1 (tk s e n).2.2 ∧ Upd b w w' := by
  by_cases he : e = 0
  · subst he
    by_cases hn : n < 0 ∨ (s.size : Int) < n
    · rw [tk_short s n hn]; exact take_short b s n w h hn
    · obtain ⟨m, rfl⟩ : ∃ m : Nat, n = m := ⟨n.toNat, by omega⟩
      rw [tk_ok s m (by omega)]; exact take_ok b s m w h (by omega)
  · rw [tk_bad s e n he]
    exact (take_bad b s e n w h he).mono fun v w' ⟨h1, h2⟩ => ⟨h1, h2 ▸ h, h2 ▸ Upd.refl _ _⟩
theorem tk_size (s : ByteArray) (e : Int) (k : Nat) : (tk s e k).1.size ≤ k := by
  unfold tk
  split
  · exact Nat.zero_le _
  · split
    · exact Nat.zero_le _
    · rw [ByteArray.size_extract]; omega
theorem take_snoc (s : ByteArray) (k : Nat) (h : k < s.size) : s.data.toList.take (k + 1) = s.data.toList.take k ++ [s[k]] := by
  rw [List.take_succ_eq_append_getElem (by simpa using h)]; rfl
theorem u64_or_byte (v c : Nat) (hv : v < 72057594037927936) (hc : c < 256) : bits .or .u64 (IntKind.u64.wrap ((v : Int) * 256)) (IntKind.u64.wrap (c : Int)) = ((v * 256 + c : Nat) : Int) := by
  have h1 : IntKind.u64.wrap ((v : Int) * 256) = ((v * 256 : Nat) : Int) := by rw [IntKind.wrap_u64]; omega
  have h2 : IntKind.u64.wrap (c : Int) = ((c : Nat) : Int) := by rw [IntKind.wrap_u64]; omega
  rw [h1, h2, u64_or_nat _ _ (by omega) (by omega)]
  have := Nat.shiftLeft_add_eq_or_of_lt (i := 8) (b := c) (by omega) v
  rw [Nat.shiftLeft_eq] at this
  rw [show v * 256 = v * 2 ^ 8 by rfl, this]
theorem val_take (t : ByteArray) (m : Nat) (h : m < t.size) (h8 : t.size ≤ 8) : Oc.val (t.data.toList.take m) < 72057594037927936 := by
  refine Nat.lt_of_lt_of_le (Oc.val_lt _) ?_
  rw [List.length_take]
  exact Nat.le_trans (Nat.pow_le_pow_right (by omega) (show min m t.data.toList.length ≤ 7 by omega)) (by decide)
theorem ret_int {k : IntKind} {a b : Int} (h : a = b) : Ending.returned (.int k a) = .returned (.int k b) := by rw [h]
theorem ret_bool {a b : Bool} (h : a = b) : Ending.returned (.bool a) = .returned (.bool b) := by rw [h]
theorem number_any (b : Nat) (s : ByteArray) (e : Int) (k : Nat) (hk : k ≤ 8) (w : World) (h : Rd w b s e) :
    Calls Tryz.prog 65 #[.pointer (some ⟨b, 0, none⟩), .int .i64 k] w fun v w' => v = .returned (.int .u64 (Oc.val (tk s e k).1.data.toList : Nat)) ∧ Rd w' b (tk s e k).2.1 (tk s e k).2.2 ∧ Upd b w w' := by
  have hz := tk_size s e k
  have ht := take_any b s e k w h
  revert hz ht
  generalize tk s e k = T
  obtain ⟨t, r⟩ := T
  intro hz ht
  simp only at hz ht
  have HT := Lib.hid ht
  clear ht
  go_enter Tryz.func65, Tryz.ntmps65
  go_wp2_with (go_at_call 103; refine HT.out.mono ?_; rintro x w1 ⟨rfl, hr, hu⟩)
  have HR := Lib.hid hr
  have HU := Lib.hid hu
  clear hr hu
  go_loop [6, 13] (fun v i => ∃ m : Nat, m ≤ t.size ∧ i = .int .i64 m ∧ v = .int .u64 (Oc.val (t.data.toList.take m) : Nat)) (fun _ i => t.size - (intOf i).toNat)
  case atStart => exact ⟨0, by omega, rfl, rfl⟩
  case round =>
    obtain ⟨m, hm, rfl, rfl⟩ := hrel
    by_cases hlt : m < t.size
    · go_wp2
      go_round
      case rel =>
        refine ⟨m + 1, by omega, by go_num, ?_⟩
        rw [u64_or_byte _ _ (val_take t m hlt (by omega)) t[m].toNat_lt, take_snoc t m hlt, Oc.val_snoc]
      case measure => simp [intOf]; omega
    · obtain rfl : m = t.size := by omega
      go_wp2
      go_ret
      refine ⟨ret_int ?_, HR.out, HU.out⟩
      rw [List.take_of_length_le (by simp)]
theorem one_rd (b : Nat) (s : ByteArray) (e : Int) (w : World) (h : Rd w b s e) :
    Calls Tryz.prog 43 #[.pointer (some ⟨b, 0, none⟩)] w fun v w' => v = .returned (.int .u8 (Oc.val (tk s e 1).1.data.toList : Nat)) ∧ Rd w' b (tk s e 1).2.1 (tk s e 1).2.2 ∧ Upd b w w' := by
  have hv := Nat.lt_of_lt_of_le (Oc.val_lt (tk s e 1).1.data.toList) (Nat.pow_le_pow_right (by omega) (tk_size s e 1))
  have HT := Lib.hid (number_any b s e 1 (by omega) w h)
  revert hv HT
  generalize tk s e 1 = T
  intro hv HT
  go_enter Tryz.func43, Tryz.ntmps43
  go_wp2_with (go_at_call 65; refine HT.out.mono ?_; rintro x w1 ⟨rfl, hr, hu⟩)
  go_ret
  exact ⟨rfl, hr, hu⟩
theorem four_rd (b : Nat) (s : ByteArray) (e : Int) (w : World) (h : Rd w b s e) :
    Calls Tryz.prog 102 #[.pointer (some ⟨b, 0, none⟩)] w fun v w' => v = .returned (.int .u32 (Oc.val (tk s e 4).1.data.toList : Nat)) ∧ Rd w' b (tk s e 4).2.1 (tk s e 4).2.2 ∧ Upd b w w' := by
  have hv := Nat.lt_of_lt_of_le (Oc.val_lt (tk s e 4).1.data.toList) (Nat.pow_le_pow_right (by omega) (tk_size s e 4))
  have HT := Lib.hid (number_any b s e 4 (by omega) w h)
  revert hv HT
  generalize tk s e 4 = T
  intro hv HT
  go_enter Tryz.func102, Tryz.ntmps102
  go_wp2_with (go_at_call 65; refine HT.out.mono ?_; rintro x w1 ⟨rfl, hr, hu⟩)
  go_ret
  exact ⟨rfl, hr, hu⟩
theorem eight_rd (b : Nat) (s : ByteArray) (e : Int) (w : World) (h : Rd w b s e) :
    Calls Tryz.prog 112 #[.pointer (some ⟨b, 0, none⟩)] w fun v w' => v = .returned (.int .u64 (Oc.val (tk s e 8).1.data.toList : Nat)) ∧ Rd w' b (tk s e 8).2.1 (tk s e 8).2.2 ∧ Upd b w w' := by
  have HT := Lib.hid (number_any b s e 8 (by omega) w h)
  revert HT
  generalize tk s e 8 = T
  intro HT
  go_enter Tryz.func112, Tryz.ntmps112
  go_wp2_with (go_at_call 65; refine HT.out.mono ?_; rintro x w1 ⟨rfl, hr, hu⟩)
  go_ret
  exact ⟨rfl, hr, hu⟩
/-- What a number that may be too great leaves: the number, the bytes, the error. -/
def cnt (s : ByteArray) (e most x : Int) : Nat × ByteArray × Int :=
  let T := tk s e 4
  if (Oc.val T.1.data.toList : Int) > (if 0 ≤ most then most else 0) then (0, T.2.1, if T.2.2 = 0 then x else T.2.2) else (Oc.val T.1.data.toList, T.2.1, T.2.2)
theorem count_any (b : Nat) (s : ByteArray) (e most x : Int) (hm : most < 9223372036854775808) (w : World) (h : Rd w b s e) :
    Calls Tryz.prog 63 #[.pointer (some ⟨b, 0, none⟩), .int .i64 most, .int .i64 x] w fun v w' => v = .returned (.int .i64 (cnt s e most x).1) ∧ Rd w' b (cnt s e most x).2.1 (cnt s e most x).2.2 ∧ Upd b w w' := by
  have hv := Nat.lt_of_lt_of_le (Oc.val_lt (tk s e 4).1.data.toList) (Nat.pow_le_pow_right (by omega) (tk_size s e 4))
  have HT := Lib.hid (four_rd b s e w h)
  unfold cnt
  revert hv HT
  generalize tk s e 4 = T
  obtain ⟨t, r, f⟩ := T
  intro hv HT
  simp only at hv HT ⊢
  revert hv HT
  generalize Oc.val t.data.toList = n
  intro hv HT
  obtain ⟨y, hy⟩ : ∃ y : Int, (if f = 0 then x else f) = y := ⟨_, rfl⟩
  have HF := Lib.hid (fun W (H : Rd W b r f) => fail_any b r f x W H)
  rw [hy] at HF ⊢
  clear hy
  by_cases h0 : 0 ≤ most
  · rw [if_pos h0]
    by_cases hn : (n : Int) > most
    · rw [if_pos hn]
      go_enter Tryz.func63, Tryz.ntmps63
      go_wp2_with (first
        | (go_at_call 102; refine HT.out.mono ?_; rintro x w1 ⟨rfl, hr, hu⟩)
        | (go_at_call 45; refine (HF.out _ hr).mono ?_; rintro x w2 ⟨rfl, hr2, hu2⟩))
      go_ret
      exact ⟨rfl, hr2, hu.trans hu2⟩
    · rw [if_neg hn]
      go_enter Tryz.func63, Tryz.ntmps63
      go_wp2_with (go_at_call 102; refine HT.out.mono ?_; rintro x w1 ⟨rfl, hr, hu⟩)
      go_ret
      exact ⟨rfl, hr, hu⟩
  · rw [if_neg h0]
    by_cases hn : (n : Int) > 0
    · rw [if_pos hn]
      go_enter Tryz.func63, Tryz.ntmps63
      go_wp2_with (first
        | (go_at_call 102; refine HT.out.mono ?_; rintro x w1 ⟨rfl, hr, hu⟩)
        | (go_at_call 45; refine (HF.out _ hr).mono ?_; rintro x w2 ⟨rfl, hr2, hu2⟩))
      go_ret
      exact ⟨rfl, hr2, hu.trans hu2⟩
    · rw [if_neg hn]
      go_enter Tryz.func63, Tryz.ntmps63
      go_wp2_with (go_at_call 102; refine HT.out.mono ?_; rintro x w1 ⟨rfl, hr, hu⟩)
      go_ret
      exact ⟨rfl, hr, hu⟩
/-- What a text of at most so many bytes leaves. -/
def txt (s : ByteArray) (e most : Int) : ByteArray × ByteArray × Int :=
  let C := cnt s e most 5
  tk C.2.1 C.2.2 C.1
theorem text_rd (b : Nat) (s : ByteArray) (e most : Int) (hm : most < 9223372036854775808) (w : World) (h : Rd w b s e) :
    Calls Tryz.prog 107 #[.pointer (some ⟨b, 0, none⟩), .int .i64 most] w fun v w' => v = .returned (.string (txt s e most).1) ∧ Rd w' b (txt s e most).2.1 (txt s e most).2.2 ∧ Upd b w w' := by
  have HC := Lib.hid (count_any b s e most 5 hm w h)
  unfold txt
  revert HC
  generalize cnt s e most 5 = C
  intro HC
  simp only
  have HT := Lib.hid (fun W (H : Rd W b C.2.1 C.2.2) => take_any b C.2.1 C.2.2 C.1 W H)
  revert HT
  generalize tk C.2.1 C.2.2 C.1 = T
  intro HT
  go_enter Tryz.func107, Tryz.ntmps107
  go_wp2_with (first
    | (go_at_call 63; refine HC.out.mono ?_; rintro x w1 ⟨rfl, hr, hu⟩)
    | (go_at_call 103; refine (HT.out _ hr).mono ?_; rintro x w2 ⟨rfl, hr2, hu2⟩))
  go_ret
  exact ⟨rfl, hr2, hu.trans hu2⟩
/-- What End answers. -/
def fin (s : ByteArray) (e : Int) : Int := if e = 0 ∧ 0 < s.size then 4 else e
theorem end_rd (b : Nat) (s : ByteArray) (e : Int) (w : World) (h : Rd w b s e) :
    Calls Tryz.prog 62 #[.pointer (some ⟨b, 0, none⟩)] w fun v w' => v = .returned (.int .i64 (fin s e)) ∧ w = w' := by
  unfold fin
  by_cases he : e = 0
  · subst he
    by_cases hs : 0 < s.size
    · have hs' : (0 : Int) < s.size := by omega
      rw [if_pos ⟨rfl, hs⟩]
      go_enter Tryz.func62, Tryz.ntmps62
      go_wp2_with (first
        | (go_at_call 22; refine (err_any b s 0 _ h).mono ?_; rintro x w1 ⟨rfl, rfl⟩)
        | (go_at_call 23; refine (left_any b s 0 _ h).mono ?_; rintro x w1 ⟨rfl, rfl⟩))
      go_ret
      exact ⟨rfl, rfl⟩
    · have hs' : ¬ (0 : Int) < s.size := by omega
      rw [if_neg (fun hh => hs hh.2)]
      go_enter Tryz.func62, Tryz.ntmps62
      go_wp2_with (first
        | (go_at_call 22; refine (err_any b s 0 _ h).mono ?_; rintro x w1 ⟨rfl, rfl⟩)
        | (go_at_call 23; refine (left_any b s 0 _ h).mono ?_; rintro x w1 ⟨rfl, rfl⟩))
      go_ret
      exact ⟨rfl, rfl⟩
  · have hd : (e == 0) = false := by rw [beq_eq_false_iff_ne]; exact he
    rw [if_neg (fun hh => he hh.1)]
    go_enter Tryz.func62, Tryz.ntmps62
    go_wp2_with (first
      | (go_at_call 22; refine (err_any b s e _ h).mono ?_; rintro x w1 ⟨rfl, rfl⟩)
      | (go_at_call 23; refine (left_any b s e _ h).mono ?_; rintro x w1 ⟨rfl, rfl⟩))
    go_ret
    exact ⟨rfl, rfl⟩
end Go.Proofs.YtoekggbbkcmknaaGreatDoor
/- What commands are: their cells, what their kinds tell, their bytes, what is wrong with them, what is read. -/
namespace Go.Proofs.YtoekggbbkcmknaaGreatDoor
open Go.RowKit
structure Cm where
  kind : Int
  qn : ByteArray
  most : Nat
  ttl : Nat
  tries : Nat
  qd : ByteArray
  bx : ByteArray
  bk : Int
  bp : ByteArray
  bq : ByteArray
  ex : ByteArray
  key : ByteArray
  body : ByteArray
  id : Nat
  token : Nat
  n : Nat
  time : Nat
  dead : Bool
deriving DecidableEq
namespace Cm
/-- It fits its types. -/
structure ok (c : Cm) : Prop where
  kind0 : -9223372036854775808 ≤ c.kind
  kind1 : c.kind < 9223372036854775808
  most : c.most < 4294967296
  ttl : c.ttl < 18446744073709551616
  tries : c.tries < 4294967296
  bk0 : -9223372036854775808 ≤ c.bk
  bk1 : c.bk < 9223372036854775808
  id : c.id < 18446744073709551616
  token : c.token < 18446744073709551616
  n : c.n < 18446744073709551616
  time : c.time < 18446744073709551616
def vals (c : Cm) : List Value := [.int .i64 c.kind, .string c.qn, .int .u32 c.most, .int .u64 c.ttl, .int .u32 c.tries, .string c.qd, .string c.bx, .int .i64 c.bk, .string c.bp, .string c.bq, .string c.ex, .string c.key, .string c.body, .int .u64 c.id, .int .u64 c.token, .int .u64 c.n, .int .u64 c.time, .bool c.dead]
def agg (c : Cm) : Value := .agg #[.int .i64 c.kind, .string c.qn, .int .u32 c.most, .int .u64 c.ttl, .int .u32 c.tries, .string c.qd, .string c.bx, .int .i64 c.bk, .string c.bp, .string c.bq, .string c.ex, .string c.key, .string c.body, .int .u64 c.id, .int .u64 c.token, .int .u64 c.n, .int .u64 c.time, .bool c.dead]
def zero (k : Int) : Cm := ⟨k, ⟨#[]⟩, 0, 0, 0, ⟨#[]⟩, ⟨#[]⟩, 0, ⟨#[]⟩, ⟨#[]⟩, ⟨#[]⟩, ⟨#[]⟩, ⟨#[]⟩, 0, 0, 0, 0, false⟩
end Cm
/-- The parts of a command. -/
inductive Sg where
  | q | m | l | r | d | E | K | P | Q | e | k | b | i | o | n | t | x
deriving DecidableEq
namespace Sg
def code : Sg → UInt8
  | q => 113 | m => 109 | l => 108 | r => 114 | d => 100 | E => 69 | K => 75 | P => 80 | Q => 81 | e => 101 | k => 107 | b => 98 | i => 105 | o => 111 | n => 110 | t => 116 | x => 120
def off : Sg → Nat
  | q => 1 | m => 2 | l => 3 | r => 4 | d => 5 | E => 6 | K => 7 | P => 8 | Q => 9 | e => 10 | k => 11 | b => 12 | i => 13 | o => 14 | n => 15 | t => 16 | x => 17
/-- How many bytes a text may have. -/
def most : Sg → Nat
  | q => 32 | d => 32 | E => 32 | P => 512 | Q => 32 | e => 32 | k => 512 | b => 32768 | _ => 0
def val (s : Sg) (c : Cm) : Value :=
  match s with
  | q => .string c.qn | m => .int .u32 c.most | l => .int .u64 c.ttl | r => .int .u32 c.tries | d => .string c.qd
  | E => .string c.bx | K => .int .i64 c.bk | P => .string c.bp | Q => .string c.bq | e => .string c.ex | k => .string c.key | b => .string c.body
  | i => .int .u64 c.id | o => .int .u64 c.token | n => .int .u64 c.n | t => .int .u64 c.time | x => .bool c.dead
/-- What the one has of this part the other has. -/
def hand (s : Sg) (z c : Cm) : Cm :=
  match s with
  | q => { z with qn := c.qn } | m => { z with most := c.most } | l => { z with ttl := c.ttl } | r => { z with tries := c.tries } | d => { z with qd := c.qd }
  | E => { z with bx := c.bx } | K => { z with bk := c.bk } | P => { z with bp := c.bp } | Q => { z with bq := c.bq } | e => { z with ex := c.ex } | k => { z with key := c.key } | b => { z with body := c.body }
  | i => { z with id := c.id } | o => { z with token := c.token } | n => { z with n := c.n } | t => { z with time := c.time } | x => { z with dead := c.dead }
def long (s : Sg) (c : Cm) : Bool :=
  match s with
  | q => decide (32 < c.qn.size) | d => decide (32 < c.qd.size) | E => decide (32 < c.bx.size) | P => decide (512 < c.bp.size) | Q => decide (32 < c.bq.size)
  | e => decide (32 < c.ex.size) | k => decide (512 < c.key.size) | b => decide (32768 < c.body.size) | _ => false
def txb (s : ByteArray) : List UInt8 := Oc.big 4 s.size ++ s.data.toList
def enc (s : Sg) (c : Cm) : List UInt8 :=
  match s with
  | q => txb c.qn | m => Oc.big 4 c.most | l => Oc.big 8 c.ttl | r => Oc.big 4 c.tries | d => txb c.qd
  | E => txb c.bx | K => Oc.big 1 (IntKind.u8.wrap c.bk).toNat | P => txb c.bp | Q => txb c.bq | e => txb c.ex | k => txb c.key | b => txb c.body
  | i => Oc.big 8 c.id | o => Oc.big 8 c.token | n => Oc.big 8 c.n | t => Oc.big 8 c.time | x => Oc.big 1 (if c.dead then 1 else 0)
end Sg
/-- What a kind tells. -/
def form (k : Int) : List Sg :=
  if k = 1 then [.q, .m, .l, .r, .d] else if k = 3 ∨ k = 4 then [.E, .K, .P, .Q] else if k = 5 then [.e, .k, .b, .t] else if k = 6 then [.q, .n, .t]
  else if k = 7 then [.q, .i, .o] else if k = 8 then [.q, .i, .o, .x] else if k = 9 then [.q, .i, .o, .t] else if k = 11 then [.t]
  else if k = 13 then [.q, .i, .n] else if k = 2 ∨ k = 10 ∨ k = 12 then [.q] else []
def formS (k : Int) : ByteArray := str ((form k).map Sg.code)
def known (k : Int) : Bool := decide (1 ≤ k) && decide (k ≤ 13)
def told (c : Cm) : Cm := (form c.kind).foldl (fun t s => s.hand t c) (Cm.zero c.kind)
def encC (c : Cm) : List UInt8 := Oc.big 1 c.kind.toNat ++ (form c.kind).flatMap fun s => s.enc c
/-- What is wrong with a command. -/
def wrongC (c : Cm) : Int :=
  if known c.kind = false then 11 else if c ≠ told c ∨ c.bk < 0 ∨ 255 < c.bk then 4 else if (form c.kind).any (fun s => s.long c) then 5 else 0
/-- What a part's reading leaves: the command, the bytes, the error. -/
def Sg.read (s : Sg) (T : Cm × ByteArray × Int) : Cm × ByteArray × Int :=
  let N := fun k => tk T.2.1 T.2.2 k
  let X := txt T.2.1 T.2.2 s.most
  match s with
  | .q => ({ T.1 with qn := X.1 }, X.2.1, X.2.2)
  | .m => ({ T.1 with most := Oc.val (N 4).1.data.toList }, (N 4).2.1, (N 4).2.2)
  | .l => ({ T.1 with ttl := Oc.val (N 8).1.data.toList }, (N 8).2.1, (N 8).2.2)
  | .r => ({ T.1 with tries := Oc.val (N 4).1.data.toList }, (N 4).2.1, (N 4).2.2)
  | .d => ({ T.1 with qd := X.1 }, X.2.1, X.2.2)
  | .E => ({ T.1 with bx := X.1 }, X.2.1, X.2.2)
  | .K => ({ T.1 with bk := Oc.val (N 1).1.data.toList }, (N 1).2.1, (N 1).2.2)
  | .P => ({ T.1 with bp := X.1 }, X.2.1, X.2.2)
  | .Q => ({ T.1 with bq := X.1 }, X.2.1, X.2.2)
  | .e => ({ T.1 with ex := X.1 }, X.2.1, X.2.2)
  | .k => ({ T.1 with key := X.1 }, X.2.1, X.2.2)
  | .b => ({ T.1 with body := X.1 }, X.2.1, X.2.2)
  | .i => ({ T.1 with id := Oc.val (N 8).1.data.toList }, (N 8).2.1, (N 8).2.2)
  | .o => ({ T.1 with token := Oc.val (N 8).1.data.toList }, (N 8).2.1, (N 8).2.2)
  | .n => ({ T.1 with n := Oc.val (N 8).1.data.toList }, (N 8).2.1, (N 8).2.2)
  | .t => ({ T.1 with time := Oc.val (N 8).1.data.toList }, (N 8).2.1, (N 8).2.2)
  | .x => ({ T.1 with dead := decide (Oc.val (N 1).1.data.toList = 1) }, (N 1).2.1, if 1 < Oc.val (N 1).1.data.toList then (if (N 1).2.2 = 0 then 4 else (N 1).2.2) else (N 1).2.2)
def readL (l : List Sg) (T : Cm × ByteArray × Int) : Cm × ByteArray × Int := l.foldl (fun T s => s.read T) T
/-- What the document's reader takes: what is there, and what was read up to an error. -/
def readR (s : ByteArray) (e : Int) : Cm × ByteArray × Int :=
  let O := tk s e 1
  let k : Int := (Oc.val O.1.data.toList : Nat)
  if known k then readL (form k) (Cm.zero k, O.2.1, O.2.2) else (Cm.zero 0, O.2.1, if O.2.2 = 0 then 11 else O.2.2)
/-- What the program's takes: nothing beside an error. -/
def readC (s : ByteArray) (e : Int) : Cm × ByteArray × Int :=
  let G := readR s e
  if G.2.2 = 0 then G else (Cm.zero 0, G.2.1, G.2.2)
end Go.Proofs.YtoekggbbkcmknaaGreatDoor
/- The contracts of the document's own numbers and texts as bytes. -/
namespace Go.Proofs.YtoekggbbkcmknaaGreatDoor
open Go.RowKit
theorem val_i64 {a b : Int} (h : a = b) : Value.int .i64 a = .int .i64 b := by rw [h]
theorem u64_quo (v : Nat) (h : v < 18446744073709551616) : IntKind.u64.wrap ((v : Int).tdiv 256) = ((v / 256 : Nat) : Int) := by
  rw [Int.tdiv_eq_ediv_of_nonneg (by omega), IntKind.wrap_u64]; omega
theorem u8_rem (v : Nat) : Value.int .u8 ((v : Int).tmod 256 % 256) = .int .u8 ((v % 256 : Nat) : Int) := by
  rw [Int.tmod_eq_emod_of_nonneg (by omega)]; congr 1; omega
set_option maxHeartbeats 400000 in
theorem big_any (x : Int) (n k : Nat) (hx : x = n) (hn : n < 18446744073709551616) (hk : k ≤ 8) (hk1 : 1 ≤ k) (w : World) :
    Calls Tryz.prog 7 #[.int .u64 x, .int .i64 k] w fun e w' => e = .returned (.string (str (Oc.big k n))) ∧ Below w.heap.size w w' := by
  subst hx
  go_enter Tryz.func7, Tryz.ntmps7
  go_wp2
  have hW : Below w.heap.size w (w.alloc (Obj.cells #[.int .u8 0, .int .u8 0, .int .u8 0, .int .u8 0, .int .u8 0, .int .u8 0, .int .u8 0, .int .u8 0] 69)) := (Below.refl _ _).alloc (Nat.le_refl _) _
  have HC : Hid (∀ j, j < 8 → (w.alloc (Obj.cells #[.int .u8 0, .int .u8 0, .int .u8 0, .int .u8 0, .int .u8 0, .int .u8 0, .int .u8 0, .int .u8 0] 69)).cell? ⟨w.heap.size, j, none⟩ = some (.int .u8 (Oc.dig n 0 j : Nat))) := by
    intro j hj
    rw [Oc.dig_zero]
    match j, hj with
    | 0, _ | 1, _ | 2, _ | 3, _ | 4, _ | 5, _ | 6, _ | 7, _ => simp
  have HF : Hid (∀ j, j < 8 → (w.alloc (Obj.cells #[.int .u8 0, .int .u8 0, .int .u8 0, .int .u8 0, .int .u8 0, .int .u8 0, .int .u8 0, .int .u8 0] 69)).frozen? ⟨w.heap.size, j, none⟩ = false) := by
    intro j hj
    match j, hj with
    | 0, _ | 1, _ | 2, _ | 3, _ | 4, _ | 5, _ | 6, _ | 7, _ => simp
  revert hW HC HF
  generalize (w.alloc (Obj.cells #[.int .u8 0, .int .u8 0, .int .u8 0, .int .u8 0, .int .u8 0, .int .u8 0, .int .u8 0, .int .u8 0] 69)) = W
  generalize hg : w.heap.size = g
  intro hW HC HF
  have HG := Lib.hid hg
  clear hg
  go_loopw [0, 6] (fun v i wr => ∃ m : Nat, m ≤ 8 ∧ v = .int .u64 ((n / 256 ^ m : Nat) : Int) ∧ i = .int .i64 (7 - m) ∧ Hid (∀ j, j < 8 → wr.cell? ⟨g, j, none⟩ = some (.int .u8 (Oc.dig n m j : Nat))) ∧ Hid (∀ j, j < 8 → wr.frozen? ⟨g, j, none⟩ = false) ∧ Below g w wr) (fun _ i _ => (intOf i + 1).toNat)
  case atStart => exact ⟨0, by omega, by simp, rfl, HC, HF, hW⟩
  case round =>
    obtain ⟨m, hm, rfl, rfl, HC, HF, hW⟩ := hrel
    by_cases hlt : m < 8
    · obtain ⟨q, hq⟩ : ∃ q : Nat, (7 : Int) - m = q := ⟨7 - m, by omega⟩
      have hc := HC.out q (by omega)
      have hf := HF.out q (by omega)
      have HQ := Lib.hid hq
      have hq8 : (q : Int) < 8 := by omega
      have hs := Oc.dig_same n m hlt
      have ht : n / 256 ^ (m + 1) = n / 256 ^ m / 256 := by rw [Nat.div_div_eq_div_mul, Nat.pow_succ]
      have hv : n / 256 ^ m < 18446744073709551616 := Nat.lt_of_le_of_lt (Nat.div_le_self _ _) hn
      have HS := Lib.hid hs
      have HT := Lib.hid ht
      clear hs ht
      revert HS HT hv
      generalize hvv : n / 256 ^ m = v
      intro hv HS HT
      clear hvv
      rw [hq]
      clear hq
      go_wp2
      go_roundw
      case rel =>
        have hq := HQ.out
        refine ⟨m + 1, by omega, by rw [HT.out, Int.natCast_ediv]; rfl, val_i64 (by omega), ?_, ?_, hW.setCell (p := ⟨g, q, none⟩) (Nat.le_refl _) _⟩
        · intro j hj
          by_cases hjq : j = q
          · subst hjq
            rw [World.cell?_setCell_same' _ _ _ (by rw [hc]; rfl)]
            have : j = 7 - m := by omega
            rw [this, HS.out, Int.natCast_emod]; rfl
          · rw [World.cell?_setCell_other _ _ _ _ (fun h => hjq (by cases h; rfl)), HC.out j hj, Oc.dig_other n m j (by omega) hj]
        · intro j hj
          rw [World.frozen?_setCell]
          exact HF.out j hj
      case measure => simp [intOf]
    · obtain rfl : m = 8 := by omega
      obtain ⟨a, ha⟩ : ∃ a : Nat, (8 : Int) - k = a := ⟨8 - k, by omega⟩
      have hback := run_convert_bytes_back (P := Tryz.prog) wr 70 9 5 ⟨g, a, none⟩ k (Oc.big k n) Tryz.underlying70 Tryz.underlying5 Tryz.underlying9 (by
        intro j hj
        rw [Oc.big_length] at hj
        obtain ⟨b, hb1, hb2⟩ := Oc.dig_big n k j hk hj
        rw [show (⟨g, a, none⟩ : Addr).add j = ⟨g, a + j, none⟩ by unfold Addr.add; split <;> simp_all, HC.out (a + j) (by omega), show a + j = 8 - k + j by omega, ← hb2]
        rw [List.getElem?_eq_getElem (by rw [Oc.big_length]; exact hj)] at hb1
        rw [Option.some.inj hb1])
      rw [Oc.big_length] at hback
      have hal : (a : Int) ≤ Tryz.prog.arrayLen 69 := by rw [show Tryz.prog.arrayLen 69 = 8 by kernel_rfl]; omega
      have ha0 : (0 : Int) ≤ (a : Int) := by omega
      have hsl : ∀ W : World, (Instr.sliceAt 69 (.pointer (some ⟨g, 0, none⟩)) (some (.int .i64 a)) none none).run Tryz.prog W = .ok (.slice (some ⟨g, a, none⟩) k k) W := by
        intro W
        rw [run_sliceAt_array_l W 69 _ (by kernel_rfl) .i64 a ha0 hal]
        rw [show Tryz.prog.arrayLen 69 = 8 by kernel_rfl, show (sizeOf (Tryz.prog.elem 69)).run Tryz.prog W = .ok 1 W by kernel_rfl]
        simp only [Result.andThen, slicedAt]
        rw [Int.toNat_natCast, if_neg (by omega), show 8 - a = k by omega]
        congr 3
        unfold Addr.add; split <;> simp_all
      go_wp2
      go_ret
      exact ⟨rfl, by rw [HG.out]; exact hW⟩
theorem refText_at (s : ByteArray) (h : s.size < 4294967296) (w : World) :
    Calls Tryz.prog 35 #[.string s] w fun e w' => e = .returned (.string (str (Oc.big 4 s.size ++ s.data.toList))) ∧ Below w.heap.size w w' := by
  have hs := big_size
  have H : Hid (str (Oc.big 4 s.size) ++ s = str (Oc.big 4 s.size ++ s.data.toList)) := by
    rw [← str_append, str_eq]; rfl
  go_enter Tryz.func35, Tryz.ntmps35
  go_wp2_with (go_at_call 7; (refine (big_any _ s.size 4 (by omega) (by omega) (by omega) (by omega) _).mono ?_; rintro e w1 ⟨rfl, hb1⟩))
  go_ret
  exact ⟨ret_string H.out, hb1⟩
end Go.Proofs.YtoekggbbkcmknaaGreatDoor
/- The contracts of the document's own reader. -/
namespace Go.Proofs.YtoekggbbkcmknaaGreatDoor
open Go.RowKit
theorem refFail_any (b : Nat) (s : ByteArray) (e x : Int) (w : World) (h : Rd w b s e) :
    Calls Tryz.prog 42 #[.pointer (some ⟨b, 0, none⟩), .int .i64 x] w fun v w' => v = .returned (.tuple #[]) ∧ Rd w' b s (if e = 0 then x else e) ∧ Upd b w w' := by
  have hR := h
  obtain ⟨c0, c1, f0, f1⟩ := h
  by_cases he : e = 0
  · subst he
    go_enter Tryz.func42, Tryz.ntmps42
    go_wp2
    go_end0
    exact ⟨rfl, hR.set1 x, (Upd.refl _ _).setCell _⟩
  · have hd : (e == 0) = false := by rw [beq_eq_false_iff_ne]; exact he
    rw [if_neg he]
    go_enter Tryz.func42, Tryz.ntmps42
    go_wp2
    go_end0
    exact ⟨rfl, hR, Upd.refl _ _⟩
theorem refTake_bad (b : Nat) (s : ByteArray) (e n : Int) (w : World) (h : Rd w b s e) (he : e ≠ 0) :
    Calls Tryz.prog 64 #[.pointer (some ⟨b, 0, none⟩), .int .i64 n] w fun v w' => v = .returned (.string ByteArray.empty) ∧ w = w' := by
  have hd : (e == 0) = false := by rw [beq_eq_false_iff_ne]; exact he
  have hd' : (e != 0) = true := by rw [bne_iff_ne]; exact he
  have c1 := h.c1
  go_enter Tryz.func64, Tryz.ntmps64
  go_wp2
  go_ret
  exact ⟨rfl, rfl⟩
theorem refTake_short (b : Nat) (s : ByteArray) (n : Int) (w : World) (h : Rd w b s 0) (hn : n < 0 ∨ (s.size : Int) < n) :
    Calls Tryz.prog 64 #[.pointer (some ⟨b, 0, none⟩), .int .i64 n] w fun v w' => v = .returned (.string ByteArray.empty) ∧ Rd w' b s 3 ∧ Upd b w w' := by
  have c0 := h.c0
  have c1 := h.c1
  have f1 := h.f1
  by_cases h1 : n < 0
  · go_enter Tryz.func64, Tryz.ntmps64
    go_wp2
    go_ret
    exact ⟨rfl, h.set1 _, (Upd.refl _ _).setCell _⟩
  · have h2 : (s.size : Int) < n := by omega
    go_enter Tryz.func64, Tryz.ntmps64
    go_wp2
    go_ret
    exact ⟨rfl, h.set1 _, (Upd.refl _ _).setCell _⟩
theorem refTake_ok (b : Nat) (s : ByteArray) (n : Nat) (w : World) (h : Rd w b s 0) (hn : n ≤ s.size) :
    Calls Tryz.prog 64 #[.pointer (some ⟨b, 0, none⟩), .int .i64 n] w fun v w' => v = .returned (.string (s.extract 0 n)) ∧ Rd w' b (s.extract n s.size) 0 ∧ Upd b w w' := by
  have c0 := h.c0
  have c1 := h.c1
  have f0 := h.f0
  have h1 : ¬ (n : Int) < 0 := by omega
  have h2 : ¬ (s.size : Int) < (n : Int) := by omega
  have h3 : (n : Int) ≤ (s.size : Int) := by omega
  go_enter Tryz.func64, Tryz.ntmps64
  go_wp2
  go_ret
  exact ⟨rfl, h.set0 _, (Upd.refl _ _).setCell _⟩
theorem refTake_any (b : Nat) (s : ByteArray) (e n : Int) (w : World) (h : Rd w b s e) :
    Calls Tryz.prog 64 #[.pointer (some ⟨b, 0, none⟩), .int .i64 n] w fun v w' => v = .returned (.string (tk s e n).1) ∧ Rd w' b (tk s e n).2.1 (tk s e n).2.2 ∧ Upd b w w' := by
  by_cases he : e = 0
  · subst he
    by_cases hn : n < 0 ∨ (s.size : Int) < n
    · rw [tk_short s n hn]; exact refTake_short b s n w h hn
    · obtain ⟨m, rfl⟩ : ∃ m : Nat, n = m := ⟨n.toNat, by omega⟩
      rw [tk_ok s m (by omega)]; exact refTake_ok b s m w h (by omega)
  · rw [tk_bad s e n he]
    exact (refTake_bad b s e n w h he).mono fun v w' ⟨h1, h2⟩ => ⟨h1, h2 ▸ h, h2 ▸ Upd.refl _ _⟩
theorem u64_add_byte (v c : Nat) (hv : v < 72057594037927936) (hc : c < 256) : IntKind.u64.wrap (IntKind.u64.wrap ((v : Int) * 256) + IntKind.u64.wrap (c : Int)) = ((v * 256 + c : Nat) : Int) := by
  rw [IntKind.wrap_u64, IntKind.wrap_u64, IntKind.wrap_u64]; omega
theorem num_any (b : Nat) (s : ByteArray) (e : Int) (k : Nat) (hk : k ≤ 8) (w : World) (h : Rd w b s e) :
    Calls Tryz.prog 41 #[.pointer (some ⟨b, 0, none⟩), .int .i64 k] w fun v w' => v = .returned (.int .u64 (Oc.val (tk s e k).1.data.toList : Nat)) ∧ Rd w' b (tk s e k).2.1 (tk s e k).2.2 ∧ Upd b w w' := by
  have hz := tk_size s e k
  have ht := refTake_any b s e k w h
  revert hz ht
  generalize tk s e k = T
  obtain ⟨t, r⟩ := T
  intro hz ht
  simp only at hz ht
  have HT := Lib.hid ht
  clear ht
  go_enter Tryz.func41, Tryz.ntmps41
  go_wp2_with (go_at_call 64; refine HT.out.mono ?_; rintro x w1 ⟨rfl, hr, hu⟩)
  have HR := Lib.hid hr
  have HU := Lib.hid hu
  clear hr hu
  go_loop [6, 7] (fun v i => ∃ m : Nat, m ≤ t.size ∧ i = .int .i64 m ∧ v = .int .u64 (Oc.val (t.data.toList.take m) : Nat)) (fun _ i => t.size - (intOf i).toNat)
  case atStart => exact ⟨0, by omega, rfl, rfl⟩
  case round =>
    obtain ⟨m, hm, rfl, rfl⟩ := hrel
    by_cases hlt : m < t.size
    · go_wp2
      go_round
      case rel =>
        refine ⟨m + 1, by omega, by go_num, ?_⟩
        rw [u64_add_byte _ _ (val_take t m hlt (by omega)) t[m].toNat_lt, take_snoc t m hlt, Oc.val_snoc]
      case measure => simp [intOf]; omega
    · obtain rfl : m = t.size := by omega
      go_wp2
      go_ret
      refine ⟨ret_int ?_, HR.out, HU.out⟩
      rw [List.take_of_length_le (by simp)]
theorem txt_eq (s : ByteArray) (e most : Int) :
    txt s e most = if (Oc.val (tk s e 4).1.data.toList : Int) > (if 0 ≤ most then most else 0) then (ByteArray.empty, (tk s e 4).2.1, if (tk s e 4).2.2 = 0 then 5 else (tk s e 4).2.2) else tk (tk s e 4).2.1 (tk s e 4).2.2 (Oc.val (tk s e 4).1.data.toList) := by
  unfold txt cnt
  generalize tk s e 4 = T
  generalize (if 0 ≤ most then most else 0) = q
  by_cases h : (Oc.val T.1.data.toList : Int) > q
  · rw [if_pos h, if_pos h]
    refine tk_bad _ _ _ ?_
    show (if T.2.2 = 0 then (5 : Int) else T.2.2) ≠ 0
    split
    · decide
    · assumption
  · rw [if_neg h, if_neg h]
theorem refText_rd (b : Nat) (s : ByteArray) (e most : Int) (hm : most < 9223372036854775808) (w : World) (h : Rd w b s e) :
    Calls Tryz.prog 47 #[.pointer (some ⟨b, 0, none⟩), .int .i64 most] w fun v w' => v = .returned (.string (txt s e most).1) ∧ Rd w' b (txt s e most).2.1 (txt s e most).2.2 ∧ Upd b w w' := by
  have hv := Nat.lt_of_lt_of_le (Oc.val_lt (tk s e 4).1.data.toList) (Nat.pow_le_pow_right (by omega) (tk_size s e 4))
  have HC := Lib.hid (num_any b s e 4 (by omega) w h)
  rw [txt_eq]
  revert hv HC
  generalize tk s e ((4 : Nat) : Int) = C
  obtain ⟨t, r, f⟩ := C
  intro hv HC
  simp only at hv HC ⊢
  revert hv HC
  generalize Oc.val t.data.toList = n
  intro hv HC
  have HT := Lib.hid (fun W (H : Rd W b r f) => refTake_any b r f n W H)
  obtain ⟨y, hy⟩ : ∃ y : Int, (if f = 0 then 5 else f) = y := ⟨_, rfl⟩
  have HF := Lib.hid (fun W (H : Rd W b r f) => refFail_any b r f 5 W H)
  rw [hy] at HF ⊢
  clear hy
  by_cases h0 : 0 ≤ most
  · have h0' : ¬ most < 0 := by omega
    rw [if_pos h0]
    by_cases hn : (n : Int) > most
    · rw [if_pos hn]
      go_enter Tryz.func47, Tryz.ntmps47
      go_wp2_with (first
        | (go_at_call 41; refine HC.out.mono ?_; rintro x w1 ⟨rfl, hr, hu⟩)
        | (go_at_call 42; refine (HF.out _ hr).mono ?_; rintro x w2 ⟨rfl, hr2, hu2⟩))
      go_ret
      exact ⟨rfl, hr2, hu.trans hu2⟩
    · rw [if_neg hn]
      go_enter Tryz.func47, Tryz.ntmps47
      go_wp2_with (first
        | (go_at_call 41; refine HC.out.mono ?_; rintro x w1 ⟨rfl, hr, hu⟩)
        | (go_at_call 64; refine (HT.out _ hr).mono ?_; rintro x w2 ⟨rfl, hr2, hu2⟩))
      go_ret
      exact ⟨rfl, hr2, hu.trans hu2⟩
  · have h0' : most < 0 := by omega
    rw [if_neg h0]
    by_cases hn : (n : Int) > 0
    · rw [if_pos hn]
      go_enter Tryz.func47, Tryz.ntmps47
      go_wp2_with (first
        | (go_at_call 41; refine HC.out.mono ?_; rintro x w1 ⟨rfl, hr, hu⟩)
        | (go_at_call 42; refine (HF.out _ hr).mono ?_; rintro x w2 ⟨rfl, hr2, hu2⟩))
      go_ret
      exact ⟨rfl, hr2, hu.trans hu2⟩
    · rw [if_neg hn]
      go_enter Tryz.func47, Tryz.ntmps47
      go_wp2_with (first
        | (go_at_call 41; refine HC.out.mono ?_; rintro x w1 ⟨rfl, hr, hu⟩)
        | (go_at_call 64; refine (HT.out _ hr).mono ?_; rintro x w2 ⟨rfl, hr2, hu2⟩))
      go_ret
      exact ⟨rfl, hr2, hu.trans hu2⟩
theorem refEnd_rd (b : Nat) (s : ByteArray) (e : Int) (w : World) (h : Rd w b s e) :
    Calls Tryz.prog 39 #[.pointer (some ⟨b, 0, none⟩)] w fun v w' => v = .returned (.int .i64 (fin s e)) ∧ w = w' := by
  unfold fin
  have c0 := h.c0
  have c1 := h.c1
  by_cases he : e = 0
  · subst he
    by_cases hs : 0 < s.size
    · have hs' : (0 : Int) < s.size := by omega
      rw [if_pos ⟨rfl, hs⟩]
      go_enter Tryz.func39, Tryz.ntmps39
      go_wp2
      go_ret
      exact ⟨rfl, rfl⟩
    · have hs' : ¬ (0 : Int) < s.size := by omega
      rw [if_neg (fun hh => hs hh.2)]
      go_enter Tryz.func39, Tryz.ntmps39
      go_wp2
      go_ret
      exact ⟨rfl, rfl⟩
  · have hd : (e == 0) = false := by rw [beq_eq_false_iff_ne]; exact he
    rw [if_neg (fun hh => he hh.1)]
    go_enter Tryz.func39, Tryz.ntmps39
    go_wp2
    go_ret
    exact ⟨rfl, rfl⟩
end Go.Proofs.YtoekggbbkcmknaaGreatDoor
/- The contract of the laws' own example. -/
namespace Go.Proofs.YtoekggbbkcmknaaGreatDoor
open Go.RowKit
theorem tk_example : tk ⟨#[0, 0, 1, 2]⟩ 0 4 = (⟨#[0, 0, 1, 2]⟩, ⟨#[]⟩, 0) := by decide +kernel
theorem four_258 (w : World) : Calls Tryz.prog 60 #[.int .u32 258] w fun e w' => e = .returned (.string ⟨#[0, 0, 1, 2]⟩) ∧ Below w.heap.size w w' :=
  four_at 258 258 rfl (by decide) w
theorem four_example (b : Nat) (w : World) (h : Rd w b ⟨#[0, 0, 1, 2]⟩ 0) :
    Calls Tryz.prog 102 #[.pointer (some ⟨b, 0, none⟩)] w fun v w' => v = .returned (.int .u32 258) ∧ Rd w' b ⟨#[]⟩ 0 ∧ Upd b w w' := by
  have := four_rd b ⟨#[0, 0, 1, 2]⟩ 0 w h
  rw [tk_example] at this
  exact this
theorem end_example (b : Nat) (w : World) (h : Rd w b ⟨#[]⟩ 0) :
    Calls Tryz.prog 62 #[.pointer (some ⟨b, 0, none⟩)] w fun v w' => v = .returned (.int .i64 0) ∧ w = w' := end_rd b ⟨#[]⟩ 0 w h
end Go.Proofs.YtoekggbbkcmknaaGreatDoor
/- The walk of the law OctetWrites. -/
namespace Go.Proofs.YtoekggbbkcmknaaGreatDoor
open Go.RowKit
theorem below_step {a b c : World} (h : Below a.heap.size a b) (k : Below b.heap.size b c) : Below a.heap.size a c := h.trans (k.mono h.size)
theorem big1 (x : Int) (n : Nat) (hx : x = n) (hn : n < 256) (w : World) :
    Calls Tryz.prog 7 #[.int .u64 x, .int .i64 1] w fun e w' => e = .returned (.string (str (Oc.big 1 n))) ∧ Below w.heap.size w w' := big_any x n 1 hx (by omega) (by omega) (by omega) w
theorem big2 (x : Int) (n : Nat) (hx : x = n) (hn : n < 65536) (w : World) :
    Calls Tryz.prog 7 #[.int .u64 x, .int .i64 2] w fun e w' => e = .returned (.string (str (Oc.big 2 n))) ∧ Below w.heap.size w w' := big_any x n 2 hx (by omega) (by omega) (by omega) w
theorem big4 (x : Int) (n : Nat) (hx : x = n) (hn : n < 4294967296) (w : World) :
    Calls Tryz.prog 7 #[.int .u64 x, .int .i64 4] w fun e w' => e = .returned (.string (str (Oc.big 4 n))) ∧ Below w.heap.size w w' := big_any x n 4 hx (by omega) (by omega) (by omega) w
theorem big8 (x : Int) (n : Nat) (hx : x = n) (hn : n < 18446744073709551616) (w : World) :
    Calls Tryz.prog 7 #[.int .u64 x, .int .i64 8] w fun e w' => e = .returned (.string (str (Oc.big 8 n))) ∧ Below w.heap.size w w' := big_any x n 8 hx (by omega) (by omega) (by omega) w
end Go.Proofs.YtoekggbbkcmknaaGreatDoor
/- The walk of the law OctetReads: two readers side by side. -/
namespace Go.Proofs.YtoekggbbkcmknaaGreatDoor
open Go.RowKit
theorem Rd.alloc {w : World} {b : Nat} {s : ByteArray} {e : Int} (h : Rd w b s e) (o : Obj) : Rd (w.alloc o) b s e := h.below ((Below.refl _ _).alloc (Nat.le_refl _) _)
theorem Upd.cell {b : Nat} {w w' : World} (h : Upd b w w') {p : Addr} (hp : p.block ≠ b) : w'.cell? p = w.cell? p := World.cell?_of_block (w := w) (h.block p.block hp)
theorem valtk_lt (s : ByteArray) (e : Int) (k : Nat) : Oc.val (tk s e k).1.data.toList < 256 ^ k :=
  Nat.lt_of_lt_of_le (Oc.val_lt _) (Nat.pow_le_pow_right (by omega) (tk_size s e k))
theorem pair1 (b c : Nat) (s : ByteArray) (e : Int) : ∃ (n : Nat) (s1 : ByteArray) (e1 : Int), n < 256 ∧
    Hid (∀ W, Rd W b s e → Calls Tryz.prog 43 #[.pointer (some ⟨b, 0, none⟩)] W fun v w' => v = .returned (.int .u8 n) ∧ Rd w' b s1 e1 ∧ Upd b W w') ∧
    Hid (∀ W, Rd W c s e → Calls Tryz.prog 41 #[.pointer (some ⟨c, 0, none⟩), .int .i64 1] W fun v w' => v = .returned (.int .u64 n) ∧ Rd w' c s1 e1 ∧ Upd c W w') :=
  ⟨_, _, _, valtk_lt s e 1, fun W h => one_rd b s e W h, fun W h => num_any c s e 1 (by omega) W h⟩
theorem pair4 (b c : Nat) (s : ByteArray) (e : Int) : ∃ (n : Nat) (s1 : ByteArray) (e1 : Int), n < 4294967296 ∧
    Hid (∀ W, Rd W b s e → Calls Tryz.prog 102 #[.pointer (some ⟨b, 0, none⟩)] W fun v w' => v = .returned (.int .u32 n) ∧ Rd w' b s1 e1 ∧ Upd b W w') ∧
    Hid (∀ W, Rd W c s e → Calls Tryz.prog 41 #[.pointer (some ⟨c, 0, none⟩), .int .i64 4] W fun v w' => v = .returned (.int .u64 n) ∧ Rd w' c s1 e1 ∧ Upd c W w') :=
  ⟨_, _, _, valtk_lt s e 4, fun W h => four_rd b s e W h, fun W h => num_any c s e 4 (by omega) W h⟩
theorem pair8 (b c : Nat) (s : ByteArray) (e : Int) : ∃ (n : Nat) (s1 : ByteArray) (e1 : Int),
    Hid (∀ W, Rd W b s e → Calls Tryz.prog 112 #[.pointer (some ⟨b, 0, none⟩)] W fun v w' => v = .returned (.int .u64 n) ∧ Rd w' b s1 e1 ∧ Upd b W w') ∧
    Hid (∀ W, Rd W c s e → Calls Tryz.prog 41 #[.pointer (some ⟨c, 0, none⟩), .int .i64 8] W fun v w' => v = .returned (.int .u64 n) ∧ Rd w' c s1 e1 ∧ Upd c W w') :=
  ⟨_, _, _, fun W h => eight_rd b s e W h, fun W h => num_any c s e 8 (by omega) W h⟩
theorem pairText (b c : Nat) (s : ByteArray) (e x : Int) (hx : x < 9223372036854775808) : ∃ (t s1 : ByteArray) (e1 : Int),
    Hid (∀ W, Rd W b s e → Calls Tryz.prog 107 #[.pointer (some ⟨b, 0, none⟩), .int .i64 x] W fun v w' => v = .returned (.string t) ∧ Rd w' b s1 e1 ∧ Upd b W w') ∧
    Hid (∀ W, Rd W c s e → Calls Tryz.prog 47 #[.pointer (some ⟨c, 0, none⟩), .int .i64 x] W fun v w' => v = .returned (.string t) ∧ Rd w' c s1 e1 ∧ Upd c W w') :=
  ⟨_, _, _, fun W h => text_rd b s e x hx W h, fun W h => refText_rd c s e x hx W h⟩
theorem pairTake (b c : Nat) (s : ByteArray) (e x : Int) : ∃ (t s1 : ByteArray) (e1 : Int),
    Hid (∀ W, Rd W b s e → Calls Tryz.prog 103 #[.pointer (some ⟨b, 0, none⟩), .int .i64 x] W fun v w' => v = .returned (.string t) ∧ Rd w' b s1 e1 ∧ Upd b W w') ∧
    Hid (∀ W, Rd W c s e → Calls Tryz.prog 64 #[.pointer (some ⟨c, 0, none⟩), .int .i64 x] W fun v w' => v = .returned (.string t) ∧ Rd w' c s1 e1 ∧ Upd c W w') :=
  ⟨_, _, _, fun W h => take_any b s e x W h, fun W h => refTake_any c s e x W h⟩
theorem pairFail (b c : Nat) (s : ByteArray) (e x : Int) : ∃ (e1 : Int),
    Hid (∀ W, Rd W b s e → Calls Tryz.prog 45 #[.pointer (some ⟨b, 0, none⟩), .int .i64 x] W fun v w' => v = .returned (.tuple #[]) ∧ Rd w' b s e1 ∧ Upd b W w') ∧
    Hid (∀ W, Rd W c s e → Calls Tryz.prog 42 #[.pointer (some ⟨c, 0, none⟩), .int .i64 x] W fun v w' => v = .returned (.tuple #[]) ∧ Rd w' c s e1 ∧ Upd c W w') :=
  ⟨_, fun W h => fail_any b s e x W h, fun W h => refFail_any c s e x W h⟩
theorem pairEnd (b c : Nat) (s : ByteArray) (e : Int) : ∃ (x : Int),
    Hid (∀ W, Rd W b s e → Calls Tryz.prog 62 #[.pointer (some ⟨b, 0, none⟩)] W fun v w' => v = .returned (.int .i64 x) ∧ W = w') ∧
    Hid (∀ W, Rd W c s e → Calls Tryz.prog 39 #[.pointer (some ⟨c, 0, none⟩)] W fun v w' => v = .returned (.int .i64 x) ∧ W = w') :=
  ⟨_, fun W h => end_rd b s e W h, fun W h => refEnd_rd c s e W h⟩
end Go.Proofs.YtoekggbbkcmknaaGreatDoor
