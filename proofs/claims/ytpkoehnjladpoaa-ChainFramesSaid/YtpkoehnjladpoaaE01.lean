/- Texts of one seat, merged. -/
import Derived.Test.YtpkoehnjladpoaaRows
import Derived.WalkKit
import Derived.WalkLawsBesides
import Derived.Below
import Derived.Lib.Hide
import Derived.Laws.IdiomStrings
import Derived.RegionTactic
import Derived.Deep.RegionWith
import Derived.Deep.DeepMust
set_option maxRecDepth 100000
set_option maxHeartbeats 4000000
set_option linter.unusedVariables false
/- Plain arithmetic of numbers as bytes, highest first; nothing of the program. -/
namespace Go.Proofs.Ytpkoehnjladpoaa
namespace Oc
def big : Nat → Nat → List UInt8
  | 0, _ => []
  | k + 1, n => big k (n / 256) ++ [UInt8.ofNat (n % 256)]
def val (l : List UInt8) : Nat := l.foldl (fun a b => a * 256 + b.toNat) 0
theorem big_length : ∀ k n, (big k n).length = k
  | 0, _ => rfl
  | k + 1, n => by unfold big; rw [List.length_append, big_length]; rfl
theorem val_snoc (l : List UInt8) (b : UInt8) : val (l ++ [b]) = val l * 256 + b.toNat := by
  unfold val; rw [List.foldl_append]; rfl
theorem foldl_lt : ∀ (l : List UInt8) (a : Nat), l.foldl (fun a b => a * 256 + b.toNat) a < (a + 1) * 256 ^ l.length
  | [], a => by simp
  | b :: l, a => by
    have h := foldl_lt l (a * 256 + b.toNat)
    have hb := b.toNat_lt
    rw [List.foldl_cons, List.length_cons, Nat.pow_succ]
    refine Nat.lt_of_lt_of_le h ?_
    rw [Nat.mul_comm (256 ^ l.length) 256, ← Nat.mul_assoc]
    exact Nat.mul_le_mul_right _ (by omega)
theorem val_lt (l : List UInt8) : val l < 256 ^ l.length := by
  have := foldl_lt l 0
  simpa [val] using this
theorem val_big : ∀ k n, n < 256 ^ k → val (big k n) = n
  | 0, n, h => by
    have : n = 0 := by simpa using h
    subst this; rfl
  | k + 1, n, h => by
    unfold big
    rw [val_snoc, val_big k (n / 256) (by rw [Nat.pow_succ] at h; omega)]
    have : (UInt8.ofNat (n % 256)).toNat = n % 256 := by
      rw [UInt8.toNat_ofNat']; omega
    omega
theorem big_mod : ∀ k n, big k (n % 256 ^ k) = big k n
  | 0, _ => rfl
  | k + 1, n => by
    unfold big
    have h1 : n % 256 ^ (k + 1) / 256 = n / 256 % 256 ^ k := by
      rw [Nat.pow_succ, Nat.mul_comm, Nat.mod_mul_right_div_self]
    have h2 : n % 256 ^ (k + 1) % 256 = n % 256 := by
      rw [Nat.pow_succ, Nat.mod_mul_left_mod]
    rw [h1, h2, big_mod k]
theorem big_succ (k n : Nat) : big (k + 1) n = big k (n / 256) ++ [UInt8.ofNat (n % 256)] := rfl
theorem big_add : ∀ j k n, big (j + k) n = big j (n / 256 ^ k) ++ big k n
  | j, 0, n => by simp [big]
  | j, k + 1, n => by
    rw [← Nat.add_assoc, big_succ, big_succ, big_add j k, List.append_assoc, Nat.div_div_eq_div_mul, Nat.pow_succ, Nat.mul_comm 256]
theorem snoc_of_length {k : Nat} {l : List UInt8} (h : l.length = k + 1) : ∃ m b, l = m ++ [b] ∧ m.length = k := by
  have hne : l ≠ [] := by intro e; rw [e] at h; cases h
  exact ⟨l.dropLast, l.getLast hne, (List.dropLast_concat_getLast hne).symm, by rw [List.length_dropLast, h]; rfl⟩
theorem big_val : ∀ (k : Nat) (l : List UInt8), l.length = k → big k (val l) = l
  | 0, l, h => by cases l with | nil => rfl | cons _ _ => cases h
  | k + 1, l, h => by
    obtain ⟨m, b, rfl, hm⟩ := snoc_of_length h
    have hb := b.toNat_lt
    rw [val_snoc, big_succ, show (val m * 256 + b.toNat) / 256 = val m by omega, show (val m * 256 + b.toNat) % 256 = b.toNat by omega, big_val k m hm, UInt8.ofNat_toNat]
theorem big_at : ∀ (k n j : Nat), j < k → (big k n)[j]? = some (UInt8.ofNat (n / 256 ^ (k - 1 - j) % 256))
  | 0, _, _, h => by omega
  | k + 1, n, j, h => by
    rw [big_succ]
    by_cases hj : j < k
    · rw [List.getElem?_append_left (by rw [big_length]; exact hj), big_at k (n / 256) j hj, Nat.div_div_eq_div_mul]
      rw [show k + 1 - 1 - j = k - 1 - j + 1 by omega, Nat.pow_succ, Nat.mul_comm 256]
    · obtain rfl : j = k := by omega
      rw [List.getElem?_append_right (by rw [big_length]; exact Nat.le_refl _), big_length, Nat.sub_self]
      simp
def dig (n m j : Nat) : Nat := if 7 - j < m then n / 256 ^ (7 - j) % 256 else 0
theorem dig_zero (n j : Nat) : dig n 0 j = 0 := rfl
theorem dig_same (n m : Nat) (h : m < 8) : dig n (m + 1) (7 - m) = n / 256 ^ m % 256 := by
  unfold dig; rw [if_pos (by omega), show 7 - (7 - m) = m by omega]
theorem dig_other (n m j : Nat) (h : j ≠ 7 - m) (hj : j < 8) : dig n (m + 1) j = dig n m j := by
  unfold dig
  by_cases h2 : 7 - j < m
  · rw [if_pos (by omega), if_pos h2]
  · rw [if_neg (by omega), if_neg h2]
theorem dig_big (n k j : Nat) (hk : k ≤ 8) (hj : j < k) : ∃ b : UInt8, (big k n)[j]? = some b ∧ b.toNat = dig n 8 (8 - k + j) := by
  refine ⟨_, big_at k n j hj, ?_⟩
  rw [UInt8.toNat_ofNat']
  unfold dig
  rw [if_pos (by omega), show 7 - (8 - k + j) = k - 1 - j by omega]
  omega
end Oc
end Go.Proofs.Ytpkoehnjladpoaa
/- A value's chain: what its frames are. -/
namespace Go.Proofs.Ytpkoehnjladpoaa.Ch
structure Fr where
  count : Nat
  id : Nat
  tx : Nat
  body : List UInt8
def needN (n : Nat) : Nat := if n = 0 then 1 else (n - 1) / 4068 + 1
/-- How many pages a number of bytes takes. -/
def need (n : Int) : Int := if n ≤ 0 then 1 else (n - 1) / 4068 + 1
theorem need_nat (n : Nat) : need (n : Int) = (needN n : Nat) := by
  unfold need needN
  by_cases h : n = 0
  · subst h; rfl
  · rw [if_neg (by omega), if_neg h]; omega
theorem need_step (n : Int) (h : 4068 < n) : need n = need (n - 4068) + 1 := by
  unfold need
  rw [if_neg (by omega), if_neg (by omega)]; omega
theorem need_low (n : Int) (h : ¬ 4068 < n) : need n = 1 := by
  unfold need
  by_cases h0 : n ≤ 0
  · rw [if_pos h0]
  · rw [if_neg h0]; omega
def nxt (ids : List Nat) (i : Nat) : Nat := match ids[i + 1]? with | some x => x | none => 0
def frAt (ids : List Nat) (tx : Nat) (v : List UInt8) (i : Nat) (id : Nat) : Fr := ⟨i, id, tx, Oc.big 4 (nxt ids i) ++ (v.drop (i * 4068)).take 4068⟩
/-- The first frames. -/
def frs (ids : List Nat) (tx : Nat) (v : List UInt8) : Nat → List Fr
  | 0 => []
  | k + 1 => frs ids tx v k ++ (match ids[k]? with | some id => [frAt ids tx v k id] | none => [])
theorem frs_len (ids : List Nat) (tx : Nat) (v : List UInt8) : ∀ k, k ≤ ids.length → (frs ids tx v k).length = k
  | 0, _ => rfl
  | k + 1, h => by
    have h1 : ids[k]? = some ids[k] := List.getElem?_eq_getElem (by omega)
    show (frs ids tx v k ++ _).length = _
    rw [h1, List.length_append, frs_len ids tx v k (by omega)]; rfl
theorem frs_snoc (ids : List Nat) (tx : Nat) (v : List UInt8) (k id : Nat) (h : ids[k]? = some id) : frs ids tx v (k + 1) = frs ids tx v k ++ [frAt ids tx v k id] := by
  show frs ids tx v k ++ _ = _
  rw [h]
/-- What is wrong with numbers and a value. -/
def err (ids : List Nat) (v : List UInt8) : Int := if 65536 < v.length then 5 else if ids.length ≠ needN v.length then 2 else if ids.any (fun i => decide (i < 2)) then 2 else 0
theorem err_long (ids : List Nat) (v : List UInt8) (h : 65536 < v.length) : err ids v = 5 := if_pos h
theorem err_need (ids : List Nat) (v : List UInt8) (h : ¬ 65536 < v.length) (h2 : ids.length ≠ needN v.length) : err ids v = 2 := by unfold err; rw [if_neg h, if_pos h2]
theorem err_low (ids : List Nat) (v : List UInt8) (h : ¬ 65536 < v.length) (h2 : ids.length = needN v.length) (k id : Nat) (hk : ids[k]? = some id) (hid : id < 2) : err ids v = 2 := by
  unfold err
  rw [if_neg h, if_neg (fun hn => hn h2), if_pos]
  exact List.any_eq_true.2 ⟨id, List.mem_of_getElem? hk, by simp [hid]⟩
theorem err_ok (ids : List Nat) (v : List UInt8) (h : ¬ 65536 < v.length) (h2 : ids.length = needN v.length) (h3 : ∀ (j : Nat) id, j < ids.length → ids[j]? = some id → ¬ id < 2) : err ids v = 0 := by
  unfold err
  rw [if_neg h, if_neg (fun hn => hn h2), if_neg]
  intro ha
  obtain ⟨x, hx, hd⟩ := List.any_eq_true.1 ha
  obtain ⟨j, hj⟩ := List.getElem?_of_mem hx
  exact h3 j x (List.getElem?_eq_some_iff.1 hj).1 hj (by simpa using hd)
/-- A piece begins within the value. -/
theorem need_room (n k : Nat) (hk : k < needN n) : k * 4068 ≤ n := by
  unfold needN at hk
  by_cases h : n = 0
  · rw [if_pos h] at hk; omega
  · rw [if_neg h] at hk; omega
end Go.Proofs.Ytpkoehnjladpoaa.Ch
/- The contracts of the functions that write numbers and texts as bytes. -/
namespace Go.Proofs.Ytpkoehnjladpoaa
open Go.RowKit
def str (l : List UInt8) : ByteArray := ⟨l.toArray⟩
theorem str_data (l : List UInt8) : (str l).data.toList = l := rfl
theorem str_size (l : List UInt8) : (str l).size = l.length := rfl
theorem str_append (l m : List UInt8) : str l ++ str m = str (l ++ m) := by
  apply ByteArray.ext
  simp [str]
theorem str_eq (s : ByteArray) : str s.data.toList = s := rfl
theorem ret_string {a b : ByteArray} (h : a = b) : Ending.returned (.string a) = .returned (.string b) := by rw [h]
theorem one_back (n : Nat) (h : n < 256) (w : World) :
    (convert 89 9 (.slice (some ⟨w.heap.size, 0, none⟩) 1 1)).run Try.prog (w.alloc (.cells #[.int .u8 n] 5)) = .ok (.string (str (Oc.big 1 n))) (w.alloc (.cells #[.int .u8 n] 5)) := by
  have hback := run_convert_bytes_back (P := Try.prog) (w.alloc (.cells #[.int .u8 n] 5)) 89 9 5 ⟨w.heap.size, 0, none⟩ 1 (Oc.big 1 n) Try.underlying89 Try.underlying5 Try.underlying9 (by
    intro j hj
    rw [Oc.big_length] at hj
    obtain rfl : j = 0 := by omega
    have e : (Oc.big 1 n)[0].toNat = n := by
      show (UInt8.ofNat (n % 256)).toNat = n
      rw [UInt8.toNat_ofNat']; omega
    refine Eq.trans (b := some (.int .u8 (n : Int))) ?_ (congrArg (fun x : Nat => some (Value.int .u8 (x : Int))) e.symm)
    rw [show (⟨w.heap.size, 0, none⟩ : Addr).add 0 = ⟨w.heap.size, 0, none⟩ from rfl]
    simp)
  exact hback
theorem one_any (n : Nat) (h : n < 256) (w : World) :
    Calls Try.prog 127 #[.int .u8 n] w fun e w' => e = .returned (.string (str (Oc.big 1 n))) ∧ Below w.heap.size w w' := by
  have hb := one_back n h
  go_enter Try.func127, Try.ntmps127
  go_wp2
  go_ret
  exact ⟨rfl, (Below.refl _ _).alloc (Nat.le_refl _) _⟩
theorem one_at (x : Int) (n : Nat) (hx : x = n) (h : n < 256) (w : World) :
    Calls Try.prog 127 #[.int .u8 x] w fun e w' => e = .returned (.string (str (Oc.big 1 n))) ∧ Below w.heap.size w w' := by
  subst hx; exact one_any n h w
theorem big_size (k n : Nat) : (str (Oc.big k n)).size = k := by rw [str_size, Oc.big_length]
theorem two_at (x : Int) (n : Nat) (hx : x = n) (h : n < 65536) (w : World) :
    Calls Try.prog 90 #[.int .u16 x] w fun e w' => e = .returned (.string (str (Oc.big 2 n))) ∧ Below w.heap.size w w' := by
  subst hx
  have hs := big_size
  have H : Hid (str (Oc.big 1 (n / 256)) ++ str (Oc.big 1 (n % 256)) = str (Oc.big 2 n)) := by
    show _ = str (Oc.big (1 + 1) n)
    rw [str_append, Oc.big_add 1 1, ← Oc.big_mod 1 n]
  go_enter Try.func90, Try.ntmps90
  go_wp2_with (go_at_call 127; first
    | (refine (one_at _ (n / 256) (by omega) (by omega) _).mono ?_; rintro e w1 ⟨rfl, hb1⟩)
    | (refine (one_at _ (n % 256) (by omega) (by omega) _).mono ?_; rintro e w2 ⟨rfl, hb2⟩))
  go_ret
  exact ⟨ret_string H.out, hb1.trans (hb2.mono hb1.size)⟩
theorem four_at (x : Int) (n : Nat) (hx : x = n) (h : n < 4294967296) (w : World) :
    Calls Try.prog 50 #[.int .u32 x] w fun e w' => e = .returned (.string (str (Oc.big 4 n))) ∧ Below w.heap.size w w' := by
  subst hx
  have hs := big_size
  have H : Hid (str (Oc.big 2 (n / 65536)) ++ str (Oc.big 2 (n % 65536)) = str (Oc.big 4 n)) := by
    show _ = str (Oc.big (2 + 2) n)
    rw [str_append, Oc.big_add 2 2, ← Oc.big_mod 2 n]
  go_enter Try.func50, Try.ntmps50
  go_wp2_with (go_at_call 90; first
    | (refine (two_at _ (n / 65536) (by omega) (by omega) _).mono ?_; rintro e w1 ⟨rfl, hb1⟩)
    | (refine (two_at _ (n % 65536) (by rw [IntKind.wrap_u16]; omega) (by omega) _).mono ?_; rintro e w2 ⟨rfl, hb2⟩))
  go_ret
  exact ⟨ret_string H.out, hb1.trans (hb2.mono hb1.size)⟩
end Go.Proofs.Ytpkoehnjladpoaa
/- What a reader is in memory, and the contracts of the functions that read and fail. -/
namespace Go.Proofs.Ytpkoehnjladpoaa
open Go.RowKit
structure Rd (w : World) (b : Nat) (s : ByteArray) (e : Int) : Prop where
  c0 : w.cell? ⟨b, 0, none⟩ = some (.string s)
  c1 : w.cell? ⟨b, 1, none⟩ = some (.int .i64 e)
  f0 : w.frozen? ⟨b, 0, none⟩ = false
  f1 : w.frozen? ⟨b, 1, none⟩ = false
structure Upd (b : Nat) (w w' : World) : Prop where
  os : w'.os = w.os
  tape : w'.tape = w.tape
  output : w'.output = w.output
  size : w'.heap.size = w.heap.size
  block : ∀ k, k ≠ b → w'.heap[k]? = w.heap[k]?
theorem Upd.refl (b : Nat) (w : World) : Upd b w w := ⟨rfl, rfl, rfl, rfl, fun _ _ => rfl⟩
theorem Upd.trans {b : Nat} {u v w : World} (h : Upd b u v) (k : Upd b v w) : Upd b u w :=
  ⟨k.os.trans h.os, k.tape.trans h.tape, k.output.trans h.output, k.size.trans h.size, fun i hi => (k.block i hi).trans (h.block i hi)⟩
theorem Upd.drew {b : Nat} {u v : World} (h : Upd b u v) : Upd b u v.drew := ⟨h.os, h.tape, h.output, h.size, h.block⟩
theorem Upd.drewN {b : Nat} {u v : World} (h : Upd b u v) (n : Nat) : Upd b u (v.drewN n) := ⟨h.os, h.tape, h.output, h.size, h.block⟩
theorem Upd.setCell {b o : Nat} {u v : World} (h : Upd b u v) (x : Value) : Upd b u (v.setCell ⟨b, o, none⟩ x) :=
  h.trans ⟨rfl, rfl, rfl, by simp [World.setCell], fun k hk => Below.heap_setCell _ _ _ _ hk⟩
theorem Upd.below {b B : Nat} {w w' : World} (h : Upd b w w') (hb : B ≤ b) : Below B w w' :=
  ⟨h.os, h.tape, h.output, Nat.le_of_eq h.size.symm, fun k hk => h.block k (by omega)⟩
theorem Rd.drew {w : World} {b : Nat} {s : ByteArray} {e : Int} (h : Rd w b s e) : Rd w.drew b s e := ⟨h.c0, h.c1, h.f0, h.f1⟩
theorem Rd.drewN {w : World} {b : Nat} {s : ByteArray} {e : Int} (h : Rd w b s e) (n : Nat) : Rd (w.drewN n) b s e := ⟨h.c0, h.c1, h.f0, h.f1⟩
theorem Rd.set1 {w : World} {b : Nat} {s : ByteArray} {e : Int} (h : Rd w b s e) (x : Int) : Rd (w.setCell ⟨b, 1, none⟩ (.int .i64 x)) b s x :=
  ⟨by rw [World.cell?_setCell_other _ _ _ _ (fun h => by cases h), h.c0], World.cell?_setCell_same' _ _ _ (by rw [h.c1]; rfl), by rw [World.frozen?_setCell, h.f0], by rw [World.frozen?_setCell, h.f1]⟩
theorem Rd.set0 {w : World} {b : Nat} {s : ByteArray} {e : Int} (h : Rd w b s e) (x : ByteArray) : Rd (w.setCell ⟨b, 0, none⟩ (.string x)) b x e :=
  ⟨World.cell?_setCell_same' _ _ _ (by rw [h.c0]; rfl), by rw [World.cell?_setCell_other _ _ _ _ (fun h => by cases h), h.c1], by rw [World.frozen?_setCell, h.f0], by rw [World.frozen?_setCell, h.f1]⟩
theorem Rd.upd {w w' : World} {b c : Nat} {s : ByteArray} {e : Int} (h : Rd w b s e) (u : Upd c w w') (hne : b ≠ c) : Rd w' b s e := by
  have hB := u.block b hne
  exact ⟨(World.cell?_of_block (w := w) hB).trans h.c0, (World.cell?_of_block (w := w) hB).trans h.c1, (World.frozen?_of_block (w := w) hB).trans h.f0, (World.frozen?_of_block (w := w) hB).trans h.f1⟩
theorem Rd.below {w w' : World} {b : Nat} {s : ByteArray} {e : Int} (h : Rd w b s e) (hb : Below w.heap.size w w') : Rd w' b s e := by
  have hB := hb.block b (block_lt_of_cell h.c0)
  exact ⟨(World.cell?_of_block (w := w) hB).trans h.c0, (World.cell?_of_block (w := w) hB).trans h.c1, (World.frozen?_of_block (w := w) hB).trans h.f0, (World.frozen?_of_block (w := w) hB).trans h.f1⟩
theorem err_any (b : Nat) (s : ByteArray) (e : Int) (w : World) (h : Rd w b s e) :
    Calls Try.prog 139 #[.pointer (some ⟨b, 0, none⟩)] w fun x w' => x = .returned (.int .i64 e) ∧ w = w' := by
  obtain ⟨c0, c1, f0, f1⟩ := h
  go_enter Try.func139, Try.ntmps139
  go_wp2
  go_ret
  exact ⟨rfl, rfl⟩
theorem fail_any (b : Nat) (s : ByteArray) (e x : Int) (w : World) (h : Rd w b s e) :
    Calls Try.prog 138 #[.pointer (some ⟨b, 0, none⟩), .int .i64 x] w fun v w' => v = .returned (.tuple #[]) ∧ Rd w' b s (if e = 0 then x else e) ∧ Upd b w w' := by
  have hR := h
  obtain ⟨c0, c1, f0, f1⟩ := h
  by_cases he : e = 0
  · subst he
    go_enter Try.func138, Try.ntmps138
    go_wp2
    go_end0
    exact ⟨rfl, hR.set1 x, (Upd.refl _ _).setCell _⟩
  · have hd : (e == 0) = false := by rw [beq_eq_false_iff_ne]; exact he
    rw [if_neg he]
    go_enter Try.func138, Try.ntmps138
    go_wp2
    go_end0
    exact ⟨rfl, hR, Upd.refl _ _⟩
theorem take_bad (b : Nat) (s : ByteArray) (e n : Int) (w : World) (h : Rd w b s e) (he : e ≠ 0) :
    Calls Try.prog 135 #[.pointer (some ⟨b, 0, none⟩), .int .i64 n] w fun v w' => v = .returned (.string ByteArray.empty) ∧ w = w' := by
  have hd : (e == 0) = false := by rw [beq_eq_false_iff_ne]; exact he
  have hd' : (e != 0) = true := by rw [bne_iff_ne]; exact he
  go_enter Try.func135, Try.ntmps135
  go_wp2_with (go_at_call 139; refine (err_any b s e _ h).mono ?_; rintro x w1 ⟨rfl, rfl⟩)
  go_ret
  exact ⟨rfl, rfl⟩
theorem take_short (b : Nat) (s : ByteArray) (n : Int) (w : World) (h : Rd w b s 0) (hn : n < 0 ∨ (s.size : Int) < n) :
    Calls Try.prog 135 #[.pointer (some ⟨b, 0, none⟩), .int .i64 n] w fun v w' => v = .returned (.string ByteArray.empty) ∧ Rd w' b s 3 ∧ Upd b w w' := by
  have c0 := h.c0
  by_cases h1 : n < 0
  · go_enter Try.func135, Try.ntmps135
    go_wp2_with (first
      | (go_at_call 139; refine (err_any b s 0 _ h).mono ?_; rintro x w1 ⟨rfl, rfl⟩)
      | (go_at_call 138; refine (fail_any b s 0 3 _ h).mono ?_; rintro x w1 ⟨rfl, hr, hu⟩))
    go_ret
    exact ⟨rfl, hr, hu⟩
  · have h2 : (s.size : Int) < n := by omega
    go_enter Try.func135, Try.ntmps135
    go_wp2_with (first
      | (go_at_call 139; refine (err_any b s 0 _ h).mono ?_; rintro x w1 ⟨rfl, rfl⟩)
      | (go_at_call 138; refine (fail_any b s 0 3 _ h).mono ?_; rintro x w1 ⟨rfl, hr, hu⟩))
    go_ret
    exact ⟨rfl, hr, hu⟩
theorem take_ok (b : Nat) (s : ByteArray) (n : Nat) (w : World) (h : Rd w b s 0) (hn : n ≤ s.size) :
    Calls Try.prog 135 #[.pointer (some ⟨b, 0, none⟩), .int .i64 n] w fun v w' => v = .returned (.string (s.extract 0 n)) ∧ Rd w' b (s.extract n s.size) 0 ∧ Upd b w w' := by
  have c0 := h.c0
  have f0 := h.f0
  have h1 : ¬ (n : Int) < 0 := by omega
  have h2 : ¬ (s.size : Int) < (n : Int) := by omega
  have h3 : (n : Int) ≤ (s.size : Int) := by omega
  go_enter Try.func135, Try.ntmps135
  go_wp2_with (go_at_call 139; refine (err_any b s 0 _ h).mono ?_; rintro x w1 ⟨rfl, rfl⟩)
  go_ret
  exact ⟨rfl, h.set0 _, (Upd.refl _ _).setCell _⟩
def tk (s : ByteArray) (e n : Int) : ByteArray × ByteArray × Int :=
  if e ≠ 0 then (ByteArray.empty, s, e) else if n < 0 ∨ (s.size : Int) < n then (ByteArray.empty, s, 3) else (s.extract 0 n.toNat, s.extract n.toNat s.size, 0)
theorem tk_bad (s : ByteArray) (e n : Int) (h : e ≠ 0) : tk s e n = (ByteArray.empty, s, e) := by unfold tk; rw [if_pos h]
theorem tk_short (s : ByteArray) (n : Int) (h : n < 0 ∨ (s.size : Int) < n) : tk s 0 n = (ByteArray.empty, s, 3) := by unfold tk; rw [if_neg (by decide), if_pos h]
theorem tk_ok (s : ByteArray) (n : Nat) (h : n ≤ s.size) : tk s 0 n = (s.extract 0 n, s.extract n s.size, 0) := by
  unfold tk; rw [if_neg (by decide), if_neg (by omega)]; rfl
theorem take_any (b : Nat) (s : ByteArray) (e n : Int) (w : World) (h : Rd w b s e) :
    Calls Try.prog 135 #[.pointer (some ⟨b, 0, none⟩), .int .i64 n] w fun v w' => v = .returned (.string (tk s e n).1) ∧ Rd w' b (tk s e n).2.1 (tk s e n).2.2 ∧ Upd b w w' := by
  by_cases he : e = 0
  · subst he
    by_cases hn : n < 0 ∨ (s.size : Int) < n
    · rw [tk_short s n hn]; exact take_short b s n w h hn
    · obtain ⟨m, rfl⟩ : ∃ m : Nat, n = m := ⟨n.toNat, by omega⟩
      rw [tk_ok s m (by omega)]; exact take_ok b s m w h (by omega)
  · rw [tk_bad s e n he]
    exact (take_bad b s e n w h he).mono fun v w' ⟨h1, h2⟩ => ⟨h1, h2 ▸ h, h2 ▸ Upd.refl _ _⟩
theorem tk_size (s : ByteArray) (e : Int) (k : Nat) : (tk s e k).1.size ≤ k := by
  unfold tk
  split
  · exact Nat.zero_le _
  · split
    · exact Nat.zero_le _
    · rw [ByteArray.size_extract]; omega
theorem take_snoc (s : ByteArray) (k : Nat) (h : k < s.size) : s.data.toList.take (k + 1) = s.data.toList.take k ++ [s[k]] := by
  rw [List.take_succ_eq_append_getElem (by simpa using h)]; rfl
theorem u64_or_byte (v c : Nat) (hv : v < 72057594037927936) (hc : c < 256) : bits .or .u64 (IntKind.u64.wrap ((v : Int) * 256)) (IntKind.u64.wrap (c : Int)) = ((v * 256 + c : Nat) : Int) := by
  have h1 : IntKind.u64.wrap ((v : Int) * 256) = ((v * 256 : Nat) : Int) := by rw [IntKind.wrap_u64]; omega
  have h2 : IntKind.u64.wrap (c : Int) = ((c : Nat) : Int) := by rw [IntKind.wrap_u64]; omega
  rw [h1, h2, u64_or_nat _ _ (by omega) (by omega)]
  have := Nat.shiftLeft_add_eq_or_of_lt (i := 8) (b := c) (by omega) v
  rw [Nat.shiftLeft_eq] at this
  rw [show v * 256 = v * 2 ^ 8 by rfl, this]
theorem val_take (t : ByteArray) (m : Nat) (h : m < t.size) (h8 : t.size ≤ 8) : Oc.val (t.data.toList.take m) < 72057594037927936 := by
  refine Nat.lt_of_lt_of_le (Oc.val_lt _) ?_
  rw [List.length_take]
  exact Nat.le_trans (Nat.pow_le_pow_right (by omega) (show min m t.data.toList.length ≤ 7 by omega)) (by decide)
theorem ret_int {k : IntKind} {a b : Int} (h : a = b) : Ending.returned (.int k a) = .returned (.int k b) := by rw [h]
theorem number_any (b : Nat) (s : ByteArray) (e : Int) (k : Nat) (hk : k ≤ 8) (w : World) (h : Rd w b s e) :
    Calls Try.prog 168 #[.pointer (some ⟨b, 0, none⟩), .int .i64 k] w fun v w' => v = .returned (.int .u64 (Oc.val (tk s e k).1.data.toList : Nat)) ∧ Rd w' b (tk s e k).2.1 (tk s e k).2.2 ∧ Upd b w w' := by
  have hz := tk_size s e k
  have ht := take_any b s e k w h
  revert hz ht
  generalize tk s e k = T
  obtain ⟨t, r⟩ := T
  intro hz ht
  simp only at hz ht
  have HT := Lib.hid ht
  clear ht
  go_enter Try.func168, Try.ntmps168
  go_wp2_with (go_at_call 135; refine HT.out.mono ?_; rintro x w1 ⟨rfl, hr, hu⟩)
  have HR := Lib.hid hr
  have HU := Lib.hid hu
  clear hr hu
  go_loop [6, 13] (fun v i => ∃ m : Nat, m ≤ t.size ∧ i = .int .i64 m ∧ v = .int .u64 (Oc.val (t.data.toList.take m) : Nat)) (fun _ i => t.size - (intOf i).toNat)
  case atStart => exact ⟨0, by omega, rfl, rfl⟩
  case round =>
    obtain ⟨m, hm, rfl, rfl⟩ := hrel
    by_cases hlt : m < t.size
    · go_wp2
      go_round
      case rel =>
        refine ⟨m + 1, by omega, by go_num, ?_⟩
        rw [u64_or_byte _ _ (val_take t m hlt (by omega)) t[m].toNat_lt, take_snoc t m hlt, Oc.val_snoc]
      case measure => simp [intOf]; omega
    · obtain rfl : m = t.size := by omega
      go_wp2
      go_ret
      refine ⟨ret_int ?_, HR.out, HU.out⟩
      rw [List.take_of_length_le (by simp)]
theorem one_rd (b : Nat) (s : ByteArray) (e : Int) (w : World) (h : Rd w b s e) :
    Calls Try.prog 134 #[.pointer (some ⟨b, 0, none⟩)] w fun v w' => v = .returned (.int .u8 (Oc.val (tk s e 1).1.data.toList : Nat)) ∧ Rd w' b (tk s e 1).2.1 (tk s e 1).2.2 ∧ Upd b w w' := by
  have hv := Nat.lt_of_lt_of_le (Oc.val_lt (tk s e 1).1.data.toList) (Nat.pow_le_pow_right (by omega) (tk_size s e 1))
  have HT := Lib.hid (number_any b s e 1 (by omega) w h)
  revert hv HT
  generalize tk s e 1 = T
  intro hv HT
  go_enter Try.func134, Try.ntmps134
  go_wp2_with (go_at_call 168; refine HT.out.mono ?_; rintro x w1 ⟨rfl, hr, hu⟩)
  go_ret
  exact ⟨rfl, hr, hu⟩
theorem two_rd (b : Nat) (s : ByteArray) (e : Int) (w : World) (h : Rd w b s e) :
    Calls Try.prog 136 #[.pointer (some ⟨b, 0, none⟩)] w fun v w' => v = .returned (.int .u16 (Oc.val (tk s e 2).1.data.toList : Nat)) ∧ Rd w' b (tk s e 2).2.1 (tk s e 2).2.2 ∧ Upd b w w' := by
  have hv := Nat.lt_of_lt_of_le (Oc.val_lt (tk s e 2).1.data.toList) (Nat.pow_le_pow_right (by omega) (tk_size s e 2))
  have HT := Lib.hid (number_any b s e 2 (by omega) w h)
  revert hv HT
  generalize tk s e 2 = T
  intro hv HT
  go_enter Try.func136, Try.ntmps136
  go_wp2_with (go_at_call 168; refine HT.out.mono ?_; rintro x w1 ⟨rfl, hr, hu⟩)
  go_ret
  exact ⟨rfl, hr, hu⟩
theorem four_rd (b : Nat) (s : ByteArray) (e : Int) (w : World) (h : Rd w b s e) :
    Calls Try.prog 137 #[.pointer (some ⟨b, 0, none⟩)] w fun v w' => v = .returned (.int .u32 (Oc.val (tk s e 4).1.data.toList : Nat)) ∧ Rd w' b (tk s e 4).2.1 (tk s e 4).2.2 ∧ Upd b w w' := by
  have hv := Nat.lt_of_lt_of_le (Oc.val_lt (tk s e 4).1.data.toList) (Nat.pow_le_pow_right (by omega) (tk_size s e 4))
  have HT := Lib.hid (number_any b s e 4 (by omega) w h)
  revert hv HT
  generalize tk s e 4 = T
  intro hv HT
  go_enter Try.func137, Try.ntmps137
  go_wp2_with (go_at_call 168; refine HT.out.mono ?_; rintro x w1 ⟨rfl, hr, hu⟩)
  go_ret
  exact ⟨rfl, hr, hu⟩
def fin (s : ByteArray) (e : Int) : Int := if e = 0 ∧ 0 < s.size then 4 else e
end Go.Proofs.Ytpkoehnjladpoaa
