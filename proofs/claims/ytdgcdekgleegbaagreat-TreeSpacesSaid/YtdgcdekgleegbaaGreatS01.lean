/- Texts of one seat, merged. -/
import Derived.Test.YtdgcdekgleegbaaGreatRows
import Derived.WalkKit
import Derived.WalkLawsBesides
import Derived.Below
import Derived.Lib.Hide
import Derived.Laws.IdiomStrings
import Derived.RegionTactic
import Derived.Deep.RegionWith
import Derived.Deep.DeepMust
import Derived.OwnWalk
import Derived.Laws.OwnMore
set_option maxRecDepth 100000
set_option maxHeartbeats 4000000
set_option linter.unusedVariables false
/- Plain arithmetic of numbers as bytes, highest first; nothing of the program. -/
namespace Go.Proofs.YtdgcdekgleegbaaGreat
namespace Oc
def big : Nat → Nat → List UInt8
  | 0, _ => []
  | k + 1, n => big k (n / 256) ++ [UInt8.ofNat (n % 256)]
def val (l : List UInt8) : Nat := l.foldl (fun a b => a * 256 + b.toNat) 0
theorem big_length : ∀ k n, (big k n).length = k
  | 0, _ => rfl
  | k + 1, n => by unfold big; rw [List.length_append, big_length]; rfl
theorem val_snoc (l : List UInt8) (b : UInt8) : val (l ++ [b]) = val l * 256 + b.toNat := by
  unfold val; rw [List.foldl_append]; rfl
theorem foldl_lt : ∀ (l : List UInt8) (a : Nat), l.foldl (fun a b => a * 256 + b.toNat) a < (a + 1) * 256 ^ l.length
  | [], a => by simp
  | b :: l, a => by
    have h := foldl_lt l (a * 256 + b.toNat)
    have hb := b.toNat_lt
    rw [List.foldl_cons, List.length_cons, Nat.pow_succ]
    refine Nat.lt_of_lt_of_le h ?_
    rw [Nat.mul_comm (256 ^ l.length) 256, ← Nat.mul_assoc]
    exact Nat.mul_le_mul_right _ (by omega)
theorem val_lt (l : List UInt8) : val l < 256 ^ l.length := by
  have := foldl_lt l 0
  simpa [val] using this
theorem val_big : ∀ k n, n < 256 ^ k → val (big k n) = n
  | 0, n, h => by
    have : n = 0 := by simpa using h
    subst this; rfl
  | k + 1, n, h => by
    unfold big
    rw [val_snoc, val_big k (n / 256) (by rw [Nat.pow_succ] at h; omega)]
    have : (UInt8.ofNat (n % 256)).toNat = n % 256 := by
      rw [UInt8.toNat_ofNat']; omega
    omega
theorem big_mod : ∀ k n, big k (n % 256 ^ k) = big k n
  | 0, _ => rfl
  | k + 1, n => by
    unfold big
    have h1 : n % 256 ^ (k + 1) / 256 = n / 256 % 256 ^ k := by
      rw [Nat.pow_succ, Nat.mul_comm, Nat.mod_mul_right_div_self]
    have h2 : n % 256 ^ (k + 1) % 256 = n % 256 := by
      rw [Nat.pow_succ, Nat.mod_mul_left_mod]
    rw [h1, h2, big_mod k]
theorem big_succ (k n : Nat) : big (k + 1) n = big k (n / 256) ++ [UInt8.ofNat (n % 256)] := rfl
theorem big_add : ∀ j k n, big (j + k) n = big j (n / 256 ^ k) ++ big k n
  | j, 0, n => by simp [big]
  | j, k + 1, n => by
    rw [← Nat.add_assoc, big_succ, big_succ, big_add j k, List.append_assoc, Nat.div_div_eq_div_mul, Nat.pow_succ, Nat.mul_comm 256]
theorem snoc_of_length {k : Nat} {l : List UInt8} (h : l.length = k + 1) : ∃ m b, l = m ++ [b] ∧ m.length = k := by
  have hne : l ≠ [] := by intro e; rw [e] at h; cases h
  exact ⟨l.dropLast, l.getLast hne, (List.dropLast_concat_getLast hne).symm, by rw [List.length_dropLast, h]; rfl⟩
theorem big_val : ∀ (k : Nat) (l : List UInt8), l.length = k → big k (val l) = l
  | 0, l, h => by cases l with | nil => rfl | cons _ _ => cases h
  | k + 1, l, h => by
    obtain ⟨m, b, rfl, hm⟩ := snoc_of_length h
    have hb := b.toNat_lt
    rw [val_snoc, big_succ, show (val m * 256 + b.toNat) / 256 = val m by omega, show (val m * 256 + b.toNat) % 256 = b.toNat by omega, big_val k m hm, UInt8.ofNat_toNat]
theorem big_at : ∀ (k n j : Nat), j < k → (big k n)[j]? = some (UInt8.ofNat (n / 256 ^ (k - 1 - j) % 256))
  | 0, _, _, h => by omega
  | k + 1, n, j, h => by
    rw [big_succ]
    by_cases hj : j < k
    · rw [List.getElem?_append_left (by rw [big_length]; exact hj), big_at k (n / 256) j hj, Nat.div_div_eq_div_mul]
      rw [show k + 1 - 1 - j = k - 1 - j + 1 by omega, Nat.pow_succ, Nat.mul_comm 256]
    · obtain rfl : j = k := by omega
      rw [List.getElem?_append_right (by rw [big_length]; exact Nat.le_refl _), big_length, Nat.sub_self]
      simp
def dig (n m j : Nat) : Nat := if 7 - j < m then n / 256 ^ (7 - j) % 256 else 0
theorem dig_zero (n j : Nat) : dig n 0 j = 0 := rfl
theorem dig_same (n m : Nat) (h : m < 8) : dig n (m + 1) (7 - m) = n / 256 ^ m % 256 := by
  unfold dig; rw [if_pos (by omega), show 7 - (7 - m) = m by omega]
theorem dig_other (n m j : Nat) (h : j ≠ 7 - m) (hj : j < 8) : dig n (m + 1) j = dig n m j := by
  unfold dig
  by_cases h2 : 7 - j < m
  · rw [if_pos (by omega), if_pos h2]
  · rw [if_neg (by omega), if_neg h2]
theorem dig_big (n k j : Nat) (hk : k ≤ 8) (hj : j < k) : ∃ b : UInt8, (big k n)[j]? = some b ∧ b.toNat = dig n 8 (8 - k + j) := by
  refine ⟨_, big_at k n j hj, ?_⟩
  rw [UInt8.toNat_ofNat']
  unfold dig
  rw [if_pos (by omega), show 7 - (8 - k + j) = k - 1 - j by omega]
  omega
end Oc
end Go.Proofs.YtdgcdekgleegbaaGreat
/- Plain facts of cells, their bytes and the body that they make; nothing of the program. -/
namespace Go.Proofs.YtdgcdekgleegbaaGreat
namespace Sl
open Oc
def less : List UInt8 → List UInt8 → Bool
  | [], [] => false
  | [], _ :: _ => true
  | _ :: _, [] => false
  | a :: x, b :: y => a < b || (a == b && less x y)
theorem less_nil (u : List UInt8) : less u [] = false := by cases u <;> rfl
structure Cl where
  key : List UInt8
  val : List UInt8
  chain : Nat
  long : Nat
structure Kd where
  key : List UInt8
  page : Nat
def encKey (k : List UInt8) : List UInt8 := big 1 (min k.length 255) ++ k.take 255
def encC (c : Cl) : List UInt8 :=
  if c.chain ≠ 0 then encKey c.key ++ (big 1 1 ++ (big 4 c.chain ++ big 4 c.long))
  else encKey c.key ++ (big 1 0 ++ (big 2 (min c.val.length 65535) ++ c.val.take 65535))
def encK (k : Kd) : List UInt8 := encKey k.key ++ big 4 k.page
def fitsC (c : Cl) : Bool := decide (c.val.length ≤ (if c.chain ≠ 0 then 0 else 400))
/-- What is needed of a sort of cells. -/
structure Sh (α : Type) where
  enc : α → List UInt8
  key : α → List UInt8
  fits : α → Bool
def shC : Sh Cl := ⟨encC, Cl.key, fitsC⟩
def shK : Sh Kd := ⟨encK, Kd.key, fun _ => true⟩
variable {α : Type}
def long (S : Sh α) (x : α) : Bool := decide (255 < (S.key x).length) || !S.fits x
def rises (S : Sh α) : List α → Bool
  | a :: b :: l => less (S.key a) (S.key b) && rises S (b :: l)
  | _ => true
def right (S : Sh α) (l : List α) : Int := if l.any (long S) then 5 else if rises S l then 0 else 30
def sum (S : Sh α) (l : List α) : Nat := (l.map fun x => 2 + (S.enc x).length).sum
def begins (S : Sh α) : Nat → List α → List UInt8
  | _, [] => []
  | n, x :: l => big 2 n ++ begins S (n + (S.enc x).length) l
def body (S : Sh α) (l : List α) : List UInt8 := begins S (2 * l.length) l ++ l.flatMap S.enc
theorem encKey_len (k : List UInt8) : (encKey k).length = 1 + min k.length 255 := by
  unfold encKey; rw [List.length_append, big_length, List.length_take]; omega
theorem encC_len (c : Cl) : (encC c).length ≤ 65794 := by
  unfold encC; split <;> simp only [List.length_append, big_length, encKey_len, List.length_take] <;> omega
theorem encK_len (k : Kd) : (encK k).length ≤ 260 := by
  unfold encK; simp only [List.length_append, big_length, encKey_len]; omega
theorem begins_snoc (S : Sh α) (x : α) : ∀ (l : List α) (n : Nat), begins S n (l ++ [x]) = begins S n l ++ big 2 (n + (l.flatMap S.enc).length)
  | [], n => by simp [begins]
  | y :: l, n => by
    rw [List.cons_append, begins, begins, begins_snoc S x l, List.append_assoc, List.flatMap_cons, List.length_append, Nat.add_assoc]
theorem begins_len (S : Sh α) : ∀ (l : List α) (n : Nat), (begins S n l).length = 2 * l.length
  | [], _ => rfl
  | x :: l, n => by rw [begins, List.length_append, big_length, begins_len S l, List.length_cons]; omega
theorem flat_snoc (S : Sh α) (l : List α) (x : α) : (l ++ [x]).flatMap S.enc = l.flatMap S.enc ++ S.enc x := by
  rw [List.flatMap_append]; simp
theorem sum_snoc (S : Sh α) (l : List α) (x : α) : sum S (l ++ [x]) = sum S l + (2 + (S.enc x).length) := by
  unfold sum; rw [List.map_append, List.sum_append]; simp
theorem sum_eq (S : Sh α) (l : List α) : sum S l = 2 * l.length + (l.flatMap S.enc).length := by
  induction l with
  | nil => rfl
  | cons x l ih =>
    rw [List.flatMap_cons, List.length_append, List.length_cons]
    have : sum S (x :: l) = 2 + (S.enc x).length + sum S l := by unfold sum; rw [List.map_cons, List.sum_cons]
    omega
theorem body_len (S : Sh α) (l : List α) : (body S l).length = sum S l := by
  unfold body; rw [List.length_append, begins_len, sum_eq]
theorem take_snoc' (l : List α) (k : Nat) (x : α) (h : l[k]? = some x) : l.take (k + 1) = l.take k ++ [x] := by
  obtain ⟨hk, he⟩ := List.getElem?_eq_some_iff.1 h
  rw [List.take_succ_eq_append_getElem hk, he]
theorem sum_le (S : Sh α) (m : Nat) (hm : ∀ x, (S.enc x).length ≤ m) (l : List α) : sum S l ≤ (m + 2) * l.length := by
  induction l with
  | nil => exact Nat.zero_le _
  | cons x l ih =>
    have h1 : sum S (x :: l) = 2 + (S.enc x).length + sum S l := by unfold sum; rw [List.map_cons, List.sum_cons]
    have h2 := hm x
    rw [List.length_cons, Nat.mul_succ]
    omega
theorem flat_le (S : Sh α) (l : List α) : (l.flatMap S.enc).length ≤ sum S l := by rw [sum_eq]; omega
theorem sum_take (S : Sh α) (l : List α) (k : Nat) : sum S (l.take k) ≤ sum S l := by
  conv => rhs; rw [← List.take_append_drop k l]
  unfold sum; rw [List.map_append, List.sum_append]; omega
/-- No two neighbours that don't rise, as an index finds them. -/
theorem rises_iff (S : Sh α) : ∀ l : List α, rises S l = true ↔ ∀ k a b, l[k]? = some a → l[k + 1]? = some b → less (S.key a) (S.key b) = true
  | [] => by simp [rises]
  | [a] => by
    simp only [rises, true_iff]
    intro k a b _ h; simp at h
  | a :: b :: l => by
    rw [rises, Bool.and_eq_true, rises_iff S (b :: l)]
    constructor
    · rintro ⟨h1, h2⟩ k x y hx hy
      match k with
      | 0 => simp at hx hy; subst hx; subst hy; exact h1
      | k + 1 => exact h2 k x y (by simpa using hx) (by simpa using hy)
    · intro h
      refine ⟨h 0 a b (by simp) (by simp), fun k x y hx hy => h (k + 1) x y (by simpa using hx) (by simpa using hy)⟩
theorem rises_false (S : Sh α) (l : List α) (k : Nat) (a b : α) (ha : l[k]? = some a) (hb : l[k + 1]? = some b) (h : less (S.key a) (S.key b) = false) : rises S l = false := by
  cases hr : rises S l
  · rfl
  · rw [(rises_iff S l).1 hr k a b ha hb] at h; cases h
theorem right_long (S : Sh α) (l : List α) (k : Nat) (x : α) (h : l[k]? = some x) (hx : long S x = true) : right S l = 5 := by
  unfold right
  rw [if_pos (List.any_eq_true.2 ⟨x, List.mem_of_getElem? h, hx⟩)]
theorem right_drop (S : Sh α) (l : List α) (h : l.any (long S) = false) (hr : rises S l = false) : right S l = 30 := by
  unfold right; rw [h, hr]; rfl
theorem right_ok (S : Sh α) (l : List α) (h : l.any (long S) = false) (hr : rises S l = true) : right S l = 0 := by
  unfold right; rw [h, hr]; rfl
theorem any_snoc (S : Sh α) (l : List α) (k : Nat) (x : α) (h : l[k]? = some x) (h0 : (l.take k).any (long S) = false) (hx : long S x = false) : (l.take (k + 1)).any (long S) = false := by
  rw [take_snoc' l k x h, List.any_append, h0]; simp [hx]
theorem rises_upto (S : Sh α) (l : List α) (k : Nat) (x y : α) (hx : l[k]? = some x) (hy : l[k + 1]? = some y) (h : less (S.key x) (S.key y) = true)
    (h0 : ∀ j a b, j < k → l[j]? = some a → l[j + 1]? = some b → less (S.key a) (S.key b) = true) : ∀ j a b, j < k + 1 → l[j]? = some a → l[j + 1]? = some b → less (S.key a) (S.key b) = true := by
  intro j a b hj ha hb
  by_cases hk : j < k
  · exact h0 j a b hk ha hb
  · obtain rfl : j = k := by omega
    rw [hx] at ha; rw [hy] at hb; cases ha; cases hb; exact h
theorem rises_all (S : Sh α) (l : List α) (h0 : ∀ j a b, j < l.length - 1 → l[j]? = some a → l[j + 1]? = some b → less (S.key a) (S.key b) = true) : rises S l = true :=
  (rises_iff S l).2 fun k a b ha hb => h0 k a b (by have := (List.getElem?_eq_some_iff.1 hb).1; omega) ha hb
end Sl
end Go.Proofs.YtdgcdekgleegbaaGreat
/- The contracts of the functions that write numbers and texts as bytes. -/
namespace Go.Proofs.YtdgcdekgleegbaaGreat
open Go.RowKit
def str (l : List UInt8) : ByteArray := ⟨l.toArray⟩
theorem str_data (l : List UInt8) : (str l).data.toList = l := rfl
theorem str_size (l : List UInt8) : (str l).size = l.length := rfl
theorem str_append (l m : List UInt8) : str l ++ str m = str (l ++ m) := by
  apply ByteArray.ext
  simp [str]
theorem str_eq (s : ByteArray) : str s.data.toList = s := rfl
theorem ret_string {a b : ByteArray} (h : a = b) : Ending.returned (.string a) = .returned (.string b) := by rw [h]
theorem one_back (n : Nat) (h : n < 256) (w : World) :
    (convert 130 9 (.slice (some ⟨w.heap.size, 0, none⟩) 1 1)).run Tryz.prog (w.alloc (.cells #[.int .u8 n] 5)) = .ok (.string (str (Oc.big 1 n))) (w.alloc (.cells #[.int .u8 n] 5)) := by
  have hback := run_convert_bytes_back (P := Tryz.prog) (w.alloc (.cells #[.int .u8 n] 5)) 130 9 5 ⟨w.heap.size, 0, none⟩ 1 (Oc.big 1 n) Tryz.underlying130 Tryz.underlying5 Tryz.underlying9 (by
    intro j hj
    rw [Oc.big_length] at hj
    obtain rfl : j = 0 := by omega
    have e : (Oc.big 1 n)[0].toNat = n := by
      show (UInt8.ofNat (n % 256)).toNat = n
      rw [UInt8.toNat_ofNat']; omega
    refine Eq.trans (b := some (.int .u8 (n : Int))) ?_ (congrArg (fun x : Nat => some (Value.int .u8 (x : Int))) e.symm)
    rw [show (⟨w.heap.size, 0, none⟩ : Addr).add 0 = ⟨w.heap.size, 0, none⟩ from rfl]
    simp)
  exact hback
theorem one_any (n : Nat) (h : n < 256) (w : World) :
    Calls Tryz.prog 112 #[.int .u8 n] w fun e w' => e = .returned (.string (str (Oc.big 1 n))) ∧ Below w.heap.size w w' := by
  have hb := one_back n h
  go_enter Tryz.func112, Tryz.ntmps112
  go_wp2
  go_ret
  exact ⟨rfl, (Below.refl _ _).alloc (Nat.le_refl _) _⟩
theorem one_at (x : Int) (n : Nat) (hx : x = n) (h : n < 256) (w : World) :
    Calls Tryz.prog 112 #[.int .u8 x] w fun e w' => e = .returned (.string (str (Oc.big 1 n))) ∧ Below w.heap.size w w' := by
  subst hx; exact one_any n h w
theorem big_size (k n : Nat) : (str (Oc.big k n)).size = k := by rw [str_size, Oc.big_length]
theorem two_at (x : Int) (n : Nat) (hx : x = n) (h : n < 65536) (w : World) :
    Calls Tryz.prog 93 #[.int .u16 x] w fun e w' => e = .returned (.string (str (Oc.big 2 n))) ∧ Below w.heap.size w w' := by
  subst hx
  have hs := big_size
  have H : Hid (str (Oc.big 1 (n / 256)) ++ str (Oc.big 1 (n % 256)) = str (Oc.big 2 n)) := by
    show _ = str (Oc.big (1 + 1) n)
    rw [str_append, Oc.big_add 1 1, ← Oc.big_mod 1 n]
  go_enter Tryz.func93, Tryz.ntmps93
  go_wp2_with (go_at_call 112; first
    | (refine (one_at _ (n / 256) (by omega) (by omega) _).mono ?_; rintro e w1 ⟨rfl, hb1⟩)
    | (refine (one_at _ (n % 256) (by omega) (by omega) _).mono ?_; rintro e w2 ⟨rfl, hb2⟩))
  go_ret
  exact ⟨ret_string H.out, hb1.trans (hb2.mono hb1.size)⟩
theorem four_at (x : Int) (n : Nat) (hx : x = n) (h : n < 4294967296) (w : World) :
    Calls Tryz.prog 128 #[.int .u32 x] w fun e w' => e = .returned (.string (str (Oc.big 4 n))) ∧ Below w.heap.size w w' := by
  subst hx
  have hs := big_size
  have H : Hid (str (Oc.big 2 (n / 65536)) ++ str (Oc.big 2 (n % 65536)) = str (Oc.big 4 n)) := by
    show _ = str (Oc.big (2 + 2) n)
    rw [str_append, Oc.big_add 2 2, ← Oc.big_mod 2 n]
  go_enter Tryz.func128, Tryz.ntmps128
  go_wp2_with (go_at_call 93; first
    | (refine (two_at _ (n / 65536) (by omega) (by omega) _).mono ?_; rintro e w1 ⟨rfl, hb1⟩)
    | (refine (two_at _ (n % 65536) (by rw [IntKind.wrap_u16]; omega) (by omega) _).mono ?_; rintro e w2 ⟨rfl, hb2⟩))
  go_ret
  exact ⟨ret_string H.out, hb1.trans (hb2.mono hb1.size)⟩
end Go.Proofs.YtdgcdekgleegbaaGreat
/- What a reader is in memory, and the contracts of the functions that read and fail. -/
namespace Go.Proofs.YtdgcdekgleegbaaGreat
open Go.RowKit
structure Rd (w : World) (b : Nat) (s : ByteArray) (e : Int) : Prop where
  c0 : w.cell? ⟨b, 0, none⟩ = some (.string s)
  c1 : w.cell? ⟨b, 1, none⟩ = some (.int .i64 e)
  f0 : w.frozen? ⟨b, 0, none⟩ = false
  f1 : w.frozen? ⟨b, 1, none⟩ = false
structure Upd (b : Nat) (w w' : World) : Prop where
  os : w'.os = w.os
  tape : w'.tape = w.tape
  output : w'.output = w.output
  size : w'.heap.size = w.heap.size
  block : ∀ k, k ≠ b → w'.heap[k]? = w.heap[k]?
theorem Upd.refl (b : Nat) (w : World) : Upd b w w := ⟨rfl, rfl, rfl, rfl, fun _ _ => rfl⟩
theorem Upd.trans {b : Nat} {u v w : World} (h : Upd b u v) (k : Upd b v w) : Upd b u w :=
  ⟨k.os.trans h.os, k.tape.trans h.tape, k.output.trans h.output, k.size.trans h.size, fun i hi => (k.block i hi).trans (h.block i hi)⟩
theorem Upd.drew {b : Nat} {u v : World} (h : Upd b u v) : Upd b u v.drew := ⟨h.os, h.tape, h.output, h.size, h.block⟩
theorem Upd.drewN {b : Nat} {u v : World} (h : Upd b u v) (n : Nat) : Upd b u (v.drewN n) := ⟨h.os, h.tape, h.output, h.size, h.block⟩
theorem Upd.setCell {b o : Nat} {u v : World} (h : Upd b u v) (x : Value) : Upd b u (v.setCell ⟨b, o, none⟩ x) :=
  h.trans ⟨rfl, rfl, rfl, by simp [World.setCell], fun k hk => Below.heap_setCell _ _ _ _ hk⟩
theorem Upd.below {b B : Nat} {w w' : World} (h : Upd b w w') (hb : B ≤ b) : Below B w w' :=
  ⟨h.os, h.tape, h.output, Nat.le_of_eq h.size.symm, fun k hk => h.block k (by omega)⟩
theorem Rd.drew {w : World} {b : Nat} {s : ByteArray} {e : Int} (h : Rd w b s e) : Rd w.drew b s e := ⟨h.c0, h.c1, h.f0, h.f1⟩
theorem Rd.drewN {w : World} {b : Nat} {s : ByteArray} {e : Int} (h : Rd w b s e) (n : Nat) : Rd (w.drewN n) b s e := ⟨h.c0, h.c1, h.f0, h.f1⟩
theorem Rd.set1 {w : World} {b : Nat} {s : ByteArray} {e : Int} (h : Rd w b s e) (x : Int) : Rd (w.setCell ⟨b, 1, none⟩ (.int .i64 x)) b s x :=
  ⟨by rw [World.cell?_setCell_other _ _ _ _ (fun h => by cases h), h.c0], World.cell?_setCell_same' _ _ _ (by rw [h.c1]; rfl), by rw [World.frozen?_setCell, h.f0], by rw [World.frozen?_setCell, h.f1]⟩
theorem Rd.set0 {w : World} {b : Nat} {s : ByteArray} {e : Int} (h : Rd w b s e) (x : ByteArray) : Rd (w.setCell ⟨b, 0, none⟩ (.string x)) b x e :=
  ⟨World.cell?_setCell_same' _ _ _ (by rw [h.c0]; rfl), by rw [World.cell?_setCell_other _ _ _ _ (fun h => by cases h), h.c1], by rw [World.frozen?_setCell, h.f0], by rw [World.frozen?_setCell, h.f1]⟩
theorem Rd.upd {w w' : World} {b c : Nat} {s : ByteArray} {e : Int} (h : Rd w b s e) (u : Upd c w w') (hne : b ≠ c) : Rd w' b s e := by
  have hB := u.block b hne
  exact ⟨(World.cell?_of_block (w := w) hB).trans h.c0, (World.cell?_of_block (w := w) hB).trans h.c1, (World.frozen?_of_block (w := w) hB).trans h.f0, (World.frozen?_of_block (w := w) hB).trans h.f1⟩
theorem Rd.below {w w' : World} {b : Nat} {s : ByteArray} {e : Int} (h : Rd w b s e) (hb : Below w.heap.size w w') : Rd w' b s e := by
  have hB := hb.block b (block_lt_of_cell h.c0)
  exact ⟨(World.cell?_of_block (w := w) hB).trans h.c0, (World.cell?_of_block (w := w) hB).trans h.c1, (World.frozen?_of_block (w := w) hB).trans h.f0, (World.frozen?_of_block (w := w) hB).trans h.f1⟩
theorem err_any (b : Nat) (s : ByteArray) (e : Int) (w : World) (h : Rd w b s e) :
    Calls Tryz.prog 136 #[.pointer (some ⟨b, 0, none⟩)] w fun x w' => x = .returned (.int .i64 e) ∧ w = w' := by
  obtain ⟨c0, c1, f0, f1⟩ := h
  go_enter Tryz.func136, Tryz.ntmps136
  go_wp2
  go_ret
  exact ⟨rfl, rfl⟩
theorem fail_any (b : Nat) (s : ByteArray) (e x : Int) (w : World) (h : Rd w b s e) :
    Calls Tryz.prog 135 #[.pointer (some ⟨b, 0, none⟩), .int .i64 x] w fun v w' => v = .returned (.tuple #[]) ∧ Rd w' b s (if e = 0 then x else e) ∧ Upd b w w' := by
  have hR := h
  obtain ⟨c0, c1, f0, f1⟩ := h
  by_cases he : e = 0
  · subst he
    go_enter Tryz.func135, Tryz.ntmps135
    go_wp2
    go_end0
    exact ⟨rfl, hR.set1 x, (Upd.refl _ _).setCell _⟩
  · have hd : (e == 0) = false := by rw [beq_eq_false_iff_ne]; exact he
    rw [if_neg he]
    go_enter Tryz.func135, Tryz.ntmps135
    go_wp2
    go_end0
    exact ⟨rfl, hR, Upd.refl _ _⟩
theorem take_bad (b : Nat) (s : ByteArray) (e n : Int) (w : World) (h : Rd w b s e) (he : e ≠ 0) :
    Calls Tryz.prog 132 #[.pointer (some ⟨b, 0, none⟩), .int .i64 n] w fun v w' => v = .returned (.string ByteArray.empty) ∧ w = w' := by
  have hd : (e == 0) = false := by rw [beq_eq_false_iff_ne]; exact he
  have hd' : (e != 0) = true := by rw [bne_iff_ne]; exact he
  go_enter Tryz.func132, Tryz.ntmps132
  go_wp2_with (go_at_call 136; refine (err_any b s e _ h).mono ?_; rintro x w1 ⟨rfl, rfl⟩)
  go_ret
  exact ⟨rfl, rfl⟩
theorem take_short (b : Nat) (s : ByteArray) (n : Int) (w : World) (h : Rd w b s 0) (hn : n < 0 ∨ (s.size : Int) < n) :
    Calls Tryz.prog 132 #[.pointer (some ⟨b, 0, none⟩), .int .i64 n] w fun v w' => v = .returned (.string ByteArray.empty) ∧ Rd w' b s 3 ∧ Upd b w w' := by
  have c0 := h.c0
  by_cases h1 : n < 0
  · go_enter Tryz.func132, Tryz.ntmps132
    go_wp2_with (first
      | (go_at_call 136; refine (err_any b s 0 _ h).mono ?_; rintro x w1 ⟨rfl, rfl⟩)
      | (go_at_call 135; refine (fail_any b s 0 3 _ h).mono ?_; rintro x w1 ⟨rfl, hr, hu⟩))
    go_ret
    exact ⟨rfl, hr, hu⟩
  · have h2 : (s.size : Int) < n := by omega
    go_enter Tryz.func132, Tryz.ntmps132
    go_wp2_with (first
      | (go_at_call 136; refine (err_any b s 0 _ h).mono ?_; rintro x w1 ⟨rfl, rfl⟩)
      | (go_at_call 135; refine (fail_any b s 0 3 _ h).mono ?_; rintro x w1 ⟨rfl, hr, hu⟩))
    go_ret
    exact ⟨rfl, hr, hu⟩
theorem take_ok (b : Nat) (s : ByteArray) (n : Nat) (w : World) (h : Rd w b s 0) (hn : n ≤ s.size) :
    Calls Tryz.prog 132 #[.pointer (some ⟨b, 0, none⟩), .int .i64 n] w fun v w' => v = .returned (.string (s.extract 0 n)) ∧ Rd w' b (s.extract n s.size) 0 ∧ Upd b w w' := by
  have c0 := h.c0
  have f0 := h.f0
  have h1 : ¬ (n : Int) < 0 := by omega
  have h2 : ¬ (s.size : Int) < (n : Int) := by omega
  have h3 : (n : Int) ≤ (s.size : Int) := by omega
  go_enter Tryz.func132, Tryz.ntmps132
  go_wp2_with (go_at_call 136; refine (err_any b s 0 _ h).mono ?_; rintro x w1 ⟨rfl, rfl⟩)
  go_ret
  exact ⟨rfl, h.set0 _, (Upd.refl _ _).setCell _⟩
def tk (s : ByteArray) (e n : Int) : ByteArray × ByteArray × Int :=
  if e ≠ 0 then (ByteArray.empty, s, e) else if n < 0 ∨ (s.size : Int) < n then (ByteArray.empty, s, 3) else (s.extract 0 n.toNat, s.extract n.toNat s.size, 0)
theorem tk_bad (s : ByteArray) (e n : Int) (h : e ≠ 0) : tk s e n = (ByteArray.empty, s, e) := by unfold tk; rw [if_pos h]
theorem tk_short (s : ByteArray) (n : Int) (h : n < 0 ∨ (s.size : Int) < n) : tk s 0 n = (ByteArray.empty, s, 3) := by unfold tk; rw [if_neg (by decide), if_pos h]
theorem tk_ok (s : ByteArray) (n : Nat) (h : n ≤ s.size) : tk s 0 n = (s.extract 0 n, s.extract n s.size, 0) := by
  unfold tk; rw [if_neg (by decide), if_neg (by omega)]; rfl
theorem take_any (b : Nat) (s : ByteArray) (e n : Int) (w : World) (h : Rd w b s e) :
    Calls Tryz.prog 132 #[.pointer (some ⟨b, 0, none⟩), .int .i64 n] w fun v w' => v = .returned (.string (tk s e n).1) ∧ Rd w' b (tk s e n).2.1 (tk s e n).2.2 ∧ Upd b w w' := by
  by_cases he : e = 0
  · subst he
    by_cases hn : n < 0 ∨ (s.size : Int) < n
    · rw [tk_short s n hn]; exact take_short b s n w h hn
    · obtain ⟨m, rfl⟩ : ∃ m : Nat, n = m := ⟨n.toNat, by omega⟩
      rw [tk_ok s m (by omega)]; exact take_ok b s m w h (by omega)
  · rw [tk_bad s e n he]
    exact (take_bad b s e n w h he).mono fun v w' ⟨h1, h2⟩ => ⟨h1, h2 ▸ h, h2 ▸ Upd.refl _ _⟩
theorem tk_size (s : ByteArray) (e : Int) (k : Nat) : (tk s e k).1.size ≤ k := by
  unfold tk
  split
  · exact Nat.zero_le _
  · split
    · exact Nat.zero_le _
    · rw [ByteArray.size_extract]; omega
theorem take_snoc (s : ByteArray) (k : Nat) (h : k < s.size) : s.data.toList.take (k + 1) = s.data.toList.take k ++ [s[k]] := by
  rw [List.take_succ_eq_append_getElem (by simpa using h)]; rfl
theorem u64_or_byte (v c : Nat) (hv : v < 72057594037927936) (hc : c < 256) : bits .or .u64 (IntKind.u64.wrap ((v : Int) * 256)) (IntKind.u64.wrap (c : Int)) = ((v * 256 + c : Nat) : Int) := by
  have h1 : IntKind.u64.wrap ((v : Int) * 256) = ((v * 256 : Nat) : Int) := by rw [IntKind.wrap_u64]; omega
  have h2 : IntKind.u64.wrap (c : Int) = ((c : Nat) : Int) := by rw [IntKind.wrap_u64]; omega
  rw [h1, h2, u64_or_nat _ _ (by omega) (by omega)]
  have := Nat.shiftLeft_add_eq_or_of_lt (i := 8) (b := c) (by omega) v
  rw [Nat.shiftLeft_eq] at this
  rw [show v * 256 = v * 2 ^ 8 by rfl, this]
theorem val_take (t : ByteArray) (m : Nat) (h : m < t.size) (h8 : t.size ≤ 8) : Oc.val (t.data.toList.take m) < 72057594037927936 := by
  refine Nat.lt_of_lt_of_le (Oc.val_lt _) ?_
  rw [List.length_take]
  exact Nat.le_trans (Nat.pow_le_pow_right (by omega) (show min m t.data.toList.length ≤ 7 by omega)) (by decide)
theorem ret_int {k : IntKind} {a b : Int} (h : a = b) : Ending.returned (.int k a) = .returned (.int k b) := by rw [h]
theorem number_any (b : Nat) (s : ByteArray) (e : Int) (k : Nat) (hk : k ≤ 8) (w : World) (h : Rd w b s e) :
    Calls Tryz.prog 162 #[.pointer (some ⟨b, 0, none⟩), .int .i64 k] w fun v w' => v = .returned (.int .u64 (Oc.val (tk s e k).1.data.toList : Nat)) ∧ Rd w' b (tk s e k).2.1 (tk s e k).2.2 ∧ Upd b w w' := by
  have hz := tk_size s e k
  have ht := take_any b s e k w h
  revert hz ht
  generalize tk s e k = T
  obtain ⟨t, r⟩ := T
  intro hz ht
  simp only at hz ht
  have HT := Lib.hid ht
  clear ht
  go_enter Tryz.func162, Tryz.ntmps162
  go_wp2_with (go_at_call 132; refine HT.out.mono ?_; rintro x w1 ⟨rfl, hr, hu⟩)
  have HR := Lib.hid hr
  have HU := Lib.hid hu
  clear hr hu
  go_loop [6, 13] (fun v i => ∃ m : Nat, m ≤ t.size ∧ i = .int .i64 m ∧ v = .int .u64 (Oc.val (t.data.toList.take m) : Nat)) (fun _ i => t.size - (intOf i).toNat)
  case atStart => exact ⟨0, by omega, rfl, rfl⟩
  case round =>
    obtain ⟨m, hm, rfl, rfl⟩ := hrel
    by_cases hlt : m < t.size
    · go_wp2
      go_round
      case rel =>
        refine ⟨m + 1, by omega, by go_num, ?_⟩
        rw [u64_or_byte _ _ (val_take t m hlt (by omega)) t[m].toNat_lt, take_snoc t m hlt, Oc.val_snoc]
      case measure => simp [intOf]; omega
    · obtain rfl : m = t.size := by omega
      go_wp2
      go_ret
      refine ⟨ret_int ?_, HR.out, HU.out⟩
      rw [List.take_of_length_le (by simp)]
theorem one_rd (b : Nat) (s : ByteArray) (e : Int) (w : World) (h : Rd w b s e) :
    Calls Tryz.prog 131 #[.pointer (some ⟨b, 0, none⟩)] w fun v w' => v = .returned (.int .u8 (Oc.val (tk s e 1).1.data.toList : Nat)) ∧ Rd w' b (tk s e 1).2.1 (tk s e 1).2.2 ∧ Upd b w w' := by
  have hv := Nat.lt_of_lt_of_le (Oc.val_lt (tk s e 1).1.data.toList) (Nat.pow_le_pow_right (by omega) (tk_size s e 1))
  have HT := Lib.hid (number_any b s e 1 (by omega) w h)
  revert hv HT
  generalize tk s e 1 = T
  intro hv HT
  go_enter Tryz.func131, Tryz.ntmps131
  go_wp2_with (go_at_call 162; refine HT.out.mono ?_; rintro x w1 ⟨rfl, hr, hu⟩)
  go_ret
  exact ⟨rfl, hr, hu⟩
theorem two_rd (b : Nat) (s : ByteArray) (e : Int) (w : World) (h : Rd w b s e) :
    Calls Tryz.prog 133 #[.pointer (some ⟨b, 0, none⟩)] w fun v w' => v = .returned (.int .u16 (Oc.val (tk s e 2).1.data.toList : Nat)) ∧ Rd w' b (tk s e 2).2.1 (tk s e 2).2.2 ∧ Upd b w w' := by
  have hv := Nat.lt_of_lt_of_le (Oc.val_lt (tk s e 2).1.data.toList) (Nat.pow_le_pow_right (by omega) (tk_size s e 2))
  have HT := Lib.hid (number_any b s e 2 (by omega) w h)
  revert hv HT
  generalize tk s e 2 = T
  intro hv HT
  go_enter Tryz.func133, Tryz.ntmps133
  go_wp2_with (go_at_call 162; refine HT.out.mono ?_; rintro x w1 ⟨rfl, hr, hu⟩)
  go_ret
  exact ⟨rfl, hr, hu⟩
theorem four_rd (b : Nat) (s : ByteArray) (e : Int) (w : World) (h : Rd w b s e) :
    Calls Tryz.prog 134 #[.pointer (some ⟨b, 0, none⟩)] w fun v w' => v = .returned (.int .u32 (Oc.val (tk s e 4).1.data.toList : Nat)) ∧ Rd w' b (tk s e 4).2.1 (tk s e 4).2.2 ∧ Upd b w w' := by
  have hv := Nat.lt_of_lt_of_le (Oc.val_lt (tk s e 4).1.data.toList) (Nat.pow_le_pow_right (by omega) (tk_size s e 4))
  have HT := Lib.hid (number_any b s e 4 (by omega) w h)
  revert hv HT
  generalize tk s e 4 = T
  intro hv HT
  go_enter Tryz.func134, Tryz.ntmps134
  go_wp2_with (go_at_call 162; refine HT.out.mono ?_; rintro x w1 ⟨rfl, hr, hu⟩)
  go_ret
  exact ⟨rfl, hr, hu⟩
def fin (s : ByteArray) (e : Int) : Int := if e = 0 ∧ 0 < s.size then 4 else e
end Go.Proofs.YtdgcdekgleegbaaGreat
/- The contracts of the document's own numbers and texts as bytes. -/
namespace Go.Proofs.YtdgcdekgleegbaaGreat
open Go.RowKit
theorem val_i64 {a b : Int} (h : a = b) : Value.int .i64 a = .int .i64 b := by rw [h]
theorem u64_quo (v : Nat) (h : v < 18446744073709551616) : IntKind.u64.wrap ((v : Int).tdiv 256) = ((v / 256 : Nat) : Int) := by
  rw [Int.tdiv_eq_ediv_of_nonneg (by omega), IntKind.wrap_u64]; omega
theorem u8_rem (v : Nat) : Value.int .u8 ((v : Int).tmod 256 % 256) = .int .u8 ((v % 256 : Nat) : Int) := by
  rw [Int.tmod_eq_emod_of_nonneg (by omega)]; congr 1; omega
set_option maxHeartbeats 400000 in
set_option maxRecDepth 100000 in
theorem big_any (x : Int) (n k : Nat) (hx : x = n) (hn : n < 18446744073709551616) (hk : k ≤ 8) (hk1 : 1 ≤ k) (w : World) :
    Calls Tryz.prog 53 #[.int .u64 x, .int .i64 k] w fun e w' => e = .returned (.string (str (Oc.big k n))) ∧ Below w.heap.size w w' := by
  subst hx
  go_enter Tryz.func53, Tryz.ntmps53
  go_wp2
  have hW : Below w.heap.size w (w.alloc (Obj.cells #[.int .u8 0, .int .u8 0, .int .u8 0, .int .u8 0, .int .u8 0, .int .u8 0, .int .u8 0, .int .u8 0] 149)) := (Below.refl _ _).alloc (Nat.le_refl _) _
  have HC : Hid (∀ j, j < 8 → (w.alloc (Obj.cells #[.int .u8 0, .int .u8 0, .int .u8 0, .int .u8 0, .int .u8 0, .int .u8 0, .int .u8 0, .int .u8 0] 149)).cell? ⟨w.heap.size, j, none⟩ = some (.int .u8 (Oc.dig n 0 j : Nat))) := by
    intro j hj
    rw [Oc.dig_zero]
    match j, hj with
    | 0, _ | 1, _ | 2, _ | 3, _ | 4, _ | 5, _ | 6, _ | 7, _ => simp
  have HF : Hid (∀ j, j < 8 → (w.alloc (Obj.cells #[.int .u8 0, .int .u8 0, .int .u8 0, .int .u8 0, .int .u8 0, .int .u8 0, .int .u8 0, .int .u8 0] 149)).frozen? ⟨w.heap.size, j, none⟩ = false) := by
    intro j hj
    match j, hj with
    | 0, _ | 1, _ | 2, _ | 3, _ | 4, _ | 5, _ | 6, _ | 7, _ => simp
  revert hW HC HF
  generalize (w.alloc (Obj.cells #[.int .u8 0, .int .u8 0, .int .u8 0, .int .u8 0, .int .u8 0, .int .u8 0, .int .u8 0, .int .u8 0] 149)) = W
  generalize hg : w.heap.size = g
  intro hW HC HF
  have HG := Lib.hid hg
  clear hg
  go_loopw [0, 6] (fun v i wr => ∃ m : Nat, m ≤ 8 ∧ v = .int .u64 ((n / 256 ^ m : Nat) : Int) ∧ i = .int .i64 (7 - m) ∧ Hid (∀ j, j < 8 → wr.cell? ⟨g, j, none⟩ = some (.int .u8 (Oc.dig n m j : Nat))) ∧ Hid (∀ j, j < 8 → wr.frozen? ⟨g, j, none⟩ = false) ∧ Below g w wr) (fun _ i _ => (intOf i + 1).toNat)
  case atStart => exact ⟨0, by omega, by simp, rfl, HC, HF, hW⟩
  case round =>
    obtain ⟨m, hm, rfl, rfl, HC, HF, hW⟩ := hrel
    by_cases hlt : m < 8
    · obtain ⟨q, hq⟩ : ∃ q : Nat, (7 : Int) - m = q := ⟨7 - m, by omega⟩
      have hc := HC.out q (by omega)
      have hf := HF.out q (by omega)
      have HQ := Lib.hid hq
      have hq8 : (q : Int) < 8 := by omega
      have hs := Oc.dig_same n m hlt
      have ht : n / 256 ^ (m + 1) = n / 256 ^ m / 256 := by rw [Nat.div_div_eq_div_mul, Nat.pow_succ]
      have hv : n / 256 ^ m < 18446744073709551616 := Nat.lt_of_le_of_lt (Nat.div_le_self _ _) hn
      have HS := Lib.hid hs
      have HT := Lib.hid ht
      clear hs ht
      revert HS HT hv
      generalize hvv : n / 256 ^ m = v
      intro hv HS HT
      clear hvv
      rw [hq]
      clear hq
      go_wp2
      go_roundw
      case rel =>
        have hq := HQ.out
        refine ⟨m + 1, by omega, by rw [HT.out, Int.natCast_ediv]; rfl, val_i64 (by omega), ?_, ?_, hW.setCell (p := ⟨g, q, none⟩) (Nat.le_refl _) _⟩
        · intro j hj
          by_cases hjq : j = q
          · subst hjq
            rw [World.cell?_setCell_same' _ _ _ (by rw [hc]; rfl)]
            have : j = 7 - m := by omega
            rw [this, HS.out, Int.natCast_emod]; rfl
          · rw [World.cell?_setCell_other _ _ _ _ (fun h => hjq (by cases h; rfl)), HC.out j hj, Oc.dig_other n m j (by omega) hj]
        · intro j hj
          rw [World.frozen?_setCell]
          exact HF.out j hj
      case measure => simp [intOf]
    · obtain rfl : m = 8 := by omega
      obtain ⟨a, ha⟩ : ∃ a : Nat, (8 : Int) - k = a := ⟨8 - k, by omega⟩
      have hback := run_convert_bytes_back (P := Tryz.prog) wr 130 9 5 ⟨g, a, none⟩ k (Oc.big k n) Tryz.underlying130 Tryz.underlying5 Tryz.underlying9 (by
        intro j hj
        rw [Oc.big_length] at hj
        obtain ⟨b, hb1, hb2⟩ := Oc.dig_big n k j hk hj
        rw [show (⟨g, a, none⟩ : Addr).add j = ⟨g, a + j, none⟩ by unfold Addr.add; split <;> simp_all, HC.out (a + j) (by omega), show a + j = 8 - k + j by omega, ← hb2]
        rw [List.getElem?_eq_getElem (by rw [Oc.big_length]; exact hj)] at hb1
        rw [Option.some.inj hb1])
      rw [Oc.big_length] at hback
      have hal : (a : Int) ≤ Tryz.prog.arrayLen 149 := by rw [show Tryz.prog.arrayLen 149 = 8 by kernel_rfl]; omega
      have ha0 : (0 : Int) ≤ (a : Int) := by omega
      have hsl : ∀ W : World, (Instr.sliceAt 149 (.pointer (some ⟨g, 0, none⟩)) (some (.int .i64 a)) none none).run Tryz.prog W = .ok (.slice (some ⟨g, a, none⟩) k k) W := by
        intro W
        rw [run_sliceAt_array_l W 149 _ (by kernel_rfl) .i64 a ha0 hal]
        rw [show Tryz.prog.arrayLen 149 = 8 by kernel_rfl, show (sizeOf (Tryz.prog.elem 149)).run Tryz.prog W = .ok 1 W by kernel_rfl]
        simp only [Result.andThen, slicedAt]
        rw [Int.toNat_natCast, if_neg (by omega), show 8 - a = k by omega]
        congr 3
        unfold Addr.add; split <;> simp_all
      go_wp2
      go_ret
      exact ⟨rfl, by rw [HG.out]; exact hW⟩
end Go.Proofs.YtdgcdekgleegbaaGreat
/- The contracts of the document's own reader. -/
namespace Go.Proofs.YtdgcdekgleegbaaGreat
open Go.RowKit
theorem u64_add_byte (v c : Nat) (hv : v < 72057594037927936) (hc : c < 256) : IntKind.u64.wrap (IntKind.u64.wrap ((v : Int) * 256) + IntKind.u64.wrap (c : Int)) = ((v * 256 + c : Nat) : Int) := by
  rw [IntKind.wrap_u64, IntKind.wrap_u64, IntKind.wrap_u64]; omega
end Go.Proofs.YtdgcdekgleegbaaGreat
/- What stays as it was while one block is turned. -/
namespace Go.Proofs.YtdgcdekgleegbaaGreat
open Go.RowKit
structure Mod (b : Nat) (w w' : World) : Prop where
  os : w'.os = w.os
  tape : w'.tape = w.tape
  output : w'.output = w.output
  size : w.heap.size ≤ w'.heap.size
  block : ∀ k, k < w.heap.size → k ≠ b → w'.heap[k]? = w.heap[k]?
theorem Mod.refl (b : Nat) (w : World) : Mod b w w := ⟨rfl, rfl, rfl, Nat.le_refl _, fun _ _ _ => rfl⟩
theorem Mod.trans {b : Nat} {u v w : World} (h : Mod b u v) (k : Mod b v w) : Mod b u w :=
  ⟨k.os.trans h.os, k.tape.trans h.tape, k.output.trans h.output, Nat.le_trans h.size k.size, fun i hi hne => (k.block i (Nat.lt_of_lt_of_le hi h.size) hne).trans (h.block i hi hne)⟩
theorem Mod.upd {b : Nat} {u v w : World} (h : Mod b u v) (k : Upd b v w) : Mod b u w :=
  h.trans ⟨k.os, k.tape, k.output, Nat.le_of_eq k.size.symm, fun i _ hne => k.block i hne⟩
theorem Mod.step {b : Nat} {u v w : World} (h : Mod b u v) (k : Below v.heap.size v w) : Mod b u w :=
  h.trans ⟨k.os, k.tape, k.output, k.size, fun i hi _ => k.block i hi⟩
theorem Mod.alloc {b : Nat} {u v : World} (h : Mod b u v) (o : Obj) : Mod b u (v.alloc o) := h.step ((Below.refl _ _).alloc (Nat.le_refl _) _)
theorem Mod.below {b B : Nat} {w w' : World} (h : Mod b w w') (hb : B ≤ b) (hB : B ≤ w.heap.size) : Below B w w' :=
  ⟨h.os, h.tape, h.output, h.size, fun k hk => h.block k (by omega) (by omega)⟩
theorem Mod.cell {b : Nat} {w w' : World} (h : Mod b w w') {p : Addr} (hp : p.block < w.heap.size) (hne : p.block ≠ b) : w'.cell? p = w.cell? p := World.cell?_of_block (w := w) (h.block p.block hp hne)
theorem Mod.frozen {b : Nat} {w w' : World} (h : Mod b w w') {p : Addr} (hp : p.block < w.heap.size) (hne : p.block ≠ b) : w'.frozen? p = w.frozen? p := World.frozen?_of_block (w := w) (h.block p.block hp hne)
theorem Mod.step' {b : Nat} {u v w : World} (h : Mod b u v) (k : Below u.heap.size v w) : Mod b u w :=
  ⟨k.os.trans h.os, k.tape.trans h.tape, k.output.trans h.output, Nat.le_trans h.size k.size, fun i hi hne => (k.block i hi).trans (h.block i hi hne)⟩
theorem Rd.below' {w w' : World} {b B : Nat} {s : ByteArray} {e : Int} (h : Rd w b s e) (hb : Below B w w') (hlt : b < B) : Rd w' b s e := by
  have hB := hb.block b hlt
  exact ⟨(World.cell?_of_block (w := w) hB).trans h.c0, (World.cell?_of_block (w := w) hB).trans h.c1, (World.frozen?_of_block (w := w) hB).trans h.f0, (World.frozen?_of_block (w := w) hB).trans h.f1⟩
theorem own_upd {w w' : World} {b B : Nat} {e : TypeId} {s : Nat} {v : Value} {n : Nat} {xs : List Value} (h : w.ownsRow B e s v n xs) (u : Upd b w w') (hb : b < B) : w'.ownsRow B e s v n xs := by
  obtain ⟨h0, h1⟩ := h
  refine ⟨h0, ?_⟩
  rcases h1 with h1 | ⟨g, cap, cur, hv, hg, hh, rest⟩
  · exact .inl h1
  · exact .inr ⟨g, cap, cur, hv, hg, by rw [u.block g (by omega), hh], rest⟩
theorem own_mod {w w' : World} {b B : Nat} {e : TypeId} {s : Nat} {v : Value} {n : Nat} {xs : List Value} (h : w.ownsRow B e s v n xs) (m : Mod b w w') (hb : b < B) : w'.ownsRow B e s v n xs := by
  obtain ⟨h0, h1⟩ := h
  refine ⟨h0, ?_⟩
  rcases h1 with h1 | ⟨g, cap, cur, hv, hg, hh, rest⟩
  · exact .inl h1
  · have hlt : g < w.heap.size := by
      rcases Nat.lt_or_ge g w.heap.size with h' | h'
      · exact h'
      · rw [Array.getElem?_eq_none h'] at hh; cases hh
    exact .inr ⟨g, cap, cur, hv, hg, by rw [m.block g hlt (by omega), hh], rest⟩
theorem own_below {w w' : World} {B B' : Nat} {e : TypeId} {s : Nat} {v : Value} {n : Nat} {xs : List Value} (h : w.ownsRow B e s v n xs) (hb : Below B' w w') (hB : w.heap.size ≤ B') : w'.ownsRow B e s v n xs := by
  obtain ⟨h0, h1⟩ := h
  refine ⟨h0, ?_⟩
  rcases h1 with h1 | ⟨g, cap, cur, hv, hg, hh, rest⟩
  · exact .inl h1
  · have hlt : g < w.heap.size := by
      rcases Nat.lt_or_ge g w.heap.size with h' | h'
      · exact h'
      · rw [Array.getElem?_eq_none h'] at hh; cases hh
    exact .inr ⟨g, cap, cur, hv, hg, by rw [hb.block g (by omega), hh], rest⟩
theorem Mod.old {b : Nat} {w w' : World} {o : Obj} (h : Mod b (w.alloc o) w') : Mod b w w' := ((Mod.refl b w).alloc o).trans h
theorem Rd.lt {w : World} {b : Nat} {s : ByteArray} {e : Int} (h : Rd w b s e) : b < w.heap.size := World.block_lt_of_cell? _ _ h.c0
end Go.Proofs.YtdgcdekgleegbaaGreat
