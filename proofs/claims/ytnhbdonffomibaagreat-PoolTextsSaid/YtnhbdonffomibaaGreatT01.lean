/- Texts of one seat, merged. -/
import Derived.Test.YtnhbdonffomibaaGreatRows
import Derived.WalkKit
import Derived.WalkLawsBesides
import Derived.Below
import Derived.Lib.Hide
import Derived.Laws.IdiomStrings
import Derived.RegionTactic
import Derived.Deep.RegionWith
import Derived.Deep.DeepMust
import Derived.OwnWalk
import Derived.Laws.OwnMore
import Derived.Laws.EntriesVeiled
import Derived.BigQuiet
import Derived.Deep.QuietTactic
import Derived.Deep.RegionHeld3
import Derived.Defers
import Derived.Recover
import Derived.Deep.LoopGhost
set_option maxRecDepth 100000
set_option maxHeartbeats 4000000
set_option linter.unusedVariables false
/- Plain arithmetic of numbers as bytes, highest first; nothing of the program. -/
namespace Go.Proofs.YtnhbdonffomibaaGreat
namespace Oc
def big : Nat → Nat → List UInt8
  | 0, _ => []
  | k + 1, n => big k (n / 256) ++ [UInt8.ofNat (n % 256)]
def val (l : List UInt8) : Nat := l.foldl (fun a b => a * 256 + b.toNat) 0
theorem big_length : ∀ k n, (big k n).length = k
  | 0, _ => rfl
  | k + 1, n => by unfold big; rw [List.length_append, big_length]; rfl
theorem val_snoc (l : List UInt8) (b : UInt8) : val (l ++ [b]) = val l * 256 + b.toNat := by
  unfold val; rw [List.foldl_append]; rfl
theorem foldl_lt : ∀ (l : List UInt8) (a : Nat), l.foldl (fun a b => a * 256 + b.toNat) a < (a + 1) * 256 ^ l.length
  | [], a => by simp
  | b :: l, a => by
    have h := foldl_lt l (a * 256 + b.toNat)
    have hb := b.toNat_lt
    rw [List.foldl_cons, List.length_cons, Nat.pow_succ]
    refine Nat.lt_of_lt_of_le h ?_
    rw [Nat.mul_comm (256 ^ l.length) 256, ← Nat.mul_assoc]
    exact Nat.mul_le_mul_right _ (by omega)
theorem val_lt (l : List UInt8) : val l < 256 ^ l.length := by
  have := foldl_lt l 0
  simpa [val] using this
theorem val_big : ∀ k n, n < 256 ^ k → val (big k n) = n
  | 0, n, h => by
    have : n = 0 := by simpa using h
    subst this; rfl
  | k + 1, n, h => by
    unfold big
    rw [val_snoc, val_big k (n / 256) (by rw [Nat.pow_succ] at h; omega)]
    have : (UInt8.ofNat (n % 256)).toNat = n % 256 := by
      rw [UInt8.toNat_ofNat']; omega
    omega
theorem big_mod : ∀ k n, big k (n % 256 ^ k) = big k n
  | 0, _ => rfl
  | k + 1, n => by
    unfold big
    have h1 : n % 256 ^ (k + 1) / 256 = n / 256 % 256 ^ k := by
      rw [Nat.pow_succ, Nat.mul_comm, Nat.mod_mul_right_div_self]
    have h2 : n % 256 ^ (k + 1) % 256 = n % 256 := by
      rw [Nat.pow_succ, Nat.mod_mul_left_mod]
    rw [h1, h2, big_mod k]
theorem big_succ (k n : Nat) : big (k + 1) n = big k (n / 256) ++ [UInt8.ofNat (n % 256)] := rfl
theorem big_add : ∀ j k n, big (j + k) n = big j (n / 256 ^ k) ++ big k n
  | j, 0, n => by simp [big]
  | j, k + 1, n => by
    rw [← Nat.add_assoc, big_succ, big_succ, big_add j k, List.append_assoc, Nat.div_div_eq_div_mul, Nat.pow_succ, Nat.mul_comm 256]
theorem snoc_of_length {k : Nat} {l : List UInt8} (h : l.length = k + 1) : ∃ m b, l = m ++ [b] ∧ m.length = k := by
  have hne : l ≠ [] := by intro e; rw [e] at h; cases h
  exact ⟨l.dropLast, l.getLast hne, (List.dropLast_concat_getLast hne).symm, by rw [List.length_dropLast, h]; rfl⟩
theorem big_val : ∀ (k : Nat) (l : List UInt8), l.length = k → big k (val l) = l
  | 0, l, h => by cases l with | nil => rfl | cons _ _ => cases h
  | k + 1, l, h => by
    obtain ⟨m, b, rfl, hm⟩ := snoc_of_length h
    have hb := b.toNat_lt
    rw [val_snoc, big_succ, show (val m * 256 + b.toNat) / 256 = val m by omega, show (val m * 256 + b.toNat) % 256 = b.toNat by omega, big_val k m hm, UInt8.ofNat_toNat]
theorem big_at : ∀ (k n j : Nat), j < k → (big k n)[j]? = some (UInt8.ofNat (n / 256 ^ (k - 1 - j) % 256))
  | 0, _, _, h => by omega
  | k + 1, n, j, h => by
    rw [big_succ]
    by_cases hj : j < k
    · rw [List.getElem?_append_left (by rw [big_length]; exact hj), big_at k (n / 256) j hj, Nat.div_div_eq_div_mul]
      rw [show k + 1 - 1 - j = k - 1 - j + 1 by omega, Nat.pow_succ, Nat.mul_comm 256]
    · obtain rfl : j = k := by omega
      rw [List.getElem?_append_right (by rw [big_length]; exact Nat.le_refl _), big_length, Nat.sub_self]
      simp
def dig (n m j : Nat) : Nat := if 7 - j < m then n / 256 ^ (7 - j) % 256 else 0
theorem dig_zero (n j : Nat) : dig n 0 j = 0 := rfl
theorem dig_same (n m : Nat) (h : m < 8) : dig n (m + 1) (7 - m) = n / 256 ^ m % 256 := by
  unfold dig; rw [if_pos (by omega), show 7 - (7 - m) = m by omega]
theorem dig_other (n m j : Nat) (h : j ≠ 7 - m) (hj : j < 8) : dig n (m + 1) j = dig n m j := by
  unfold dig
  by_cases h2 : 7 - j < m
  · rw [if_pos (by omega), if_pos h2]
  · rw [if_neg (by omega), if_neg h2]
theorem dig_big (n k j : Nat) (hk : k ≤ 8) (hj : j < k) : ∃ b : UInt8, (big k n)[j]? = some b ∧ b.toNat = dig n 8 (8 - k + j) := by
  refine ⟨_, big_at k n j hj, ?_⟩
  rw [UInt8.toNat_ofNat']
  unfold dig
  rw [if_pos (by omega), show 7 - (8 - k + j) = k - 1 - j by omega]
  omega
end Oc
end Go.Proofs.YtnhbdonffomibaaGreat
/- Plain facts of cells, their bytes and the body that they make; nothing of the program. -/
namespace Go.Proofs.YtnhbdonffomibaaGreat
namespace Sl
open Oc
def less : List UInt8 → List UInt8 → Bool
  | [], [] => false
  | [], _ :: _ => true
  | _ :: _, [] => false
  | a :: x, b :: y => a < b || (a == b && less x y)
theorem less_nil (u : List UInt8) : less u [] = false := by cases u <;> rfl
structure Cl where
  key : List UInt8
  val : List UInt8
  chain : Nat
  long : Nat
structure Kd where
  key : List UInt8
  page : Nat
def encKey (k : List UInt8) : List UInt8 := big 1 (min k.length 255) ++ k.take 255
def encC (c : Cl) : List UInt8 :=
  if c.chain ≠ 0 then encKey c.key ++ (big 1 1 ++ (big 4 c.chain ++ big 4 c.long))
  else encKey c.key ++ (big 1 0 ++ (big 2 (min c.val.length 65535) ++ c.val.take 65535))
def encK (k : Kd) : List UInt8 := encKey k.key ++ big 4 k.page
def fitsC (c : Cl) : Bool := decide (c.val.length ≤ (if c.chain ≠ 0 then 0 else 400))
/-- What is needed of a sort of cells. -/
structure Sh (α : Type) where
  enc : α → List UInt8
  key : α → List UInt8
  fits : α → Bool
def shC : Sh Cl := ⟨encC, Cl.key, fitsC⟩
def shK : Sh Kd := ⟨encK, Kd.key, fun _ => true⟩
variable {α : Type}
def long (S : Sh α) (x : α) : Bool := decide (255 < (S.key x).length) || !S.fits x
def rises (S : Sh α) : List α → Bool
  | a :: b :: l => less (S.key a) (S.key b) && rises S (b :: l)
  | _ => true
def right (S : Sh α) (l : List α) : Int := if l.any (long S) then 5 else if rises S l then 0 else 30
def sum (S : Sh α) (l : List α) : Nat := (l.map fun x => 2 + (S.enc x).length).sum
def begins (S : Sh α) : Nat → List α → List UInt8
  | _, [] => []
  | n, x :: l => big 2 n ++ begins S (n + (S.enc x).length) l
def body (S : Sh α) (l : List α) : List UInt8 := begins S (2 * l.length) l ++ l.flatMap S.enc
theorem encKey_len (k : List UInt8) : (encKey k).length = 1 + min k.length 255 := by
  unfold encKey; rw [List.length_append, big_length, List.length_take]; omega
theorem encC_len (c : Cl) : (encC c).length ≤ 65794 := by
  unfold encC; split <;> simp only [List.length_append, big_length, encKey_len, List.length_take] <;> omega
theorem encK_len (k : Kd) : (encK k).length ≤ 260 := by
  unfold encK; simp only [List.length_append, big_length, encKey_len]; omega
theorem begins_snoc (S : Sh α) (x : α) : ∀ (l : List α) (n : Nat), begins S n (l ++ [x]) = begins S n l ++ big 2 (n + (l.flatMap S.enc).length)
  | [], n => by simp [begins]
  | y :: l, n => by
    rw [List.cons_append, begins, begins, begins_snoc S x l, List.append_assoc, List.flatMap_cons, List.length_append, Nat.add_assoc]
theorem begins_len (S : Sh α) : ∀ (l : List α) (n : Nat), (begins S n l).length = 2 * l.length
  | [], _ => rfl
  | x :: l, n => by rw [begins, List.length_append, big_length, begins_len S l, List.length_cons]; omega
theorem flat_snoc (S : Sh α) (l : List α) (x : α) : (l ++ [x]).flatMap S.enc = l.flatMap S.enc ++ S.enc x := by
  rw [List.flatMap_append]; simp
theorem sum_snoc (S : Sh α) (l : List α) (x : α) : sum S (l ++ [x]) = sum S l + (2 + (S.enc x).length) := by
  unfold sum; rw [List.map_append, List.sum_append]; simp
theorem sum_eq (S : Sh α) (l : List α) : sum S l = 2 * l.length + (l.flatMap S.enc).length := by
  induction l with
  | nil => rfl
  | cons x l ih =>
    rw [List.flatMap_cons, List.length_append, List.length_cons]
    have : sum S (x :: l) = 2 + (S.enc x).length + sum S l := by unfold sum; rw [List.map_cons, List.sum_cons]
    omega
theorem body_len (S : Sh α) (l : List α) : (body S l).length = sum S l := by
  unfold body; rw [List.length_append, begins_len, sum_eq]
theorem take_snoc' (l : List α) (k : Nat) (x : α) (h : l[k]? = some x) : l.take (k + 1) = l.take k ++ [x] := by
  obtain ⟨hk, he⟩ := List.getElem?_eq_some_iff.1 h
  rw [List.take_succ_eq_append_getElem hk, he]
theorem sum_le (S : Sh α) (m : Nat) (hm : ∀ x, (S.enc x).length ≤ m) (l : List α) : sum S l ≤ (m + 2) * l.length := by
  induction l with
  | nil => exact Nat.zero_le _
  | cons x l ih =>
    have h1 : sum S (x :: l) = 2 + (S.enc x).length + sum S l := by unfold sum; rw [List.map_cons, List.sum_cons]
    have h2 := hm x
    rw [List.length_cons, Nat.mul_succ]
    omega
theorem flat_le (S : Sh α) (l : List α) : (l.flatMap S.enc).length ≤ sum S l := by rw [sum_eq]; omega
theorem sum_take (S : Sh α) (l : List α) (k : Nat) : sum S (l.take k) ≤ sum S l := by
  conv => rhs; rw [← List.take_append_drop k l]
  unfold sum; rw [List.map_append, List.sum_append]; omega
/-- No two neighbours that don't rise, as an index finds them. -/
theorem rises_iff (S : Sh α) : ∀ l : List α, rises S l = true ↔ ∀ k a b, l[k]? = some a → l[k + 1]? = some b → less (S.key a) (S.key b) = true
  | [] => by simp [rises]
  | [a] => by
    simp only [rises, true_iff]
    intro k a b _ h; simp at h
  | a :: b :: l => by
    rw [rises, Bool.and_eq_true, rises_iff S (b :: l)]
    constructor
    · rintro ⟨h1, h2⟩ k x y hx hy
      match k with
      | 0 => simp at hx hy; subst hx; subst hy; exact h1
      | k + 1 => exact h2 k x y (by simpa using hx) (by simpa using hy)
    · intro h
      refine ⟨h 0 a b (by simp) (by simp), fun k x y hx hy => h (k + 1) x y (by simpa using hx) (by simpa using hy)⟩
theorem rises_false (S : Sh α) (l : List α) (k : Nat) (a b : α) (ha : l[k]? = some a) (hb : l[k + 1]? = some b) (h : less (S.key a) (S.key b) = false) : rises S l = false := by
  cases hr : rises S l
  · rfl
  · rw [(rises_iff S l).1 hr k a b ha hb] at h; cases h
theorem right_long (S : Sh α) (l : List α) (k : Nat) (x : α) (h : l[k]? = some x) (hx : long S x = true) : right S l = 5 := by
  unfold right
  rw [if_pos (List.any_eq_true.2 ⟨x, List.mem_of_getElem? h, hx⟩)]
theorem right_drop (S : Sh α) (l : List α) (h : l.any (long S) = false) (hr : rises S l = false) : right S l = 30 := by
  unfold right; rw [h, hr]; rfl
theorem right_ok (S : Sh α) (l : List α) (h : l.any (long S) = false) (hr : rises S l = true) : right S l = 0 := by
  unfold right; rw [h, hr]; rfl
theorem any_snoc (S : Sh α) (l : List α) (k : Nat) (x : α) (h : l[k]? = some x) (h0 : (l.take k).any (long S) = false) (hx : long S x = false) : (l.take (k + 1)).any (long S) = false := by
  rw [take_snoc' l k x h, List.any_append, h0]; simp [hx]
theorem rises_upto (S : Sh α) (l : List α) (k : Nat) (x y : α) (hx : l[k]? = some x) (hy : l[k + 1]? = some y) (h : less (S.key x) (S.key y) = true)
    (h0 : ∀ j a b, j < k → l[j]? = some a → l[j + 1]? = some b → less (S.key a) (S.key b) = true) : ∀ j a b, j < k + 1 → l[j]? = some a → l[j + 1]? = some b → less (S.key a) (S.key b) = true := by
  intro j a b hj ha hb
  by_cases hk : j < k
  · exact h0 j a b hk ha hb
  · obtain rfl : j = k := by omega
    rw [hx] at ha; rw [hy] at hb; cases ha; cases hb; exact h
theorem rises_all (S : Sh α) (l : List α) (h0 : ∀ j a b, j < l.length - 1 → l[j]? = some a → l[j + 1]? = some b → less (S.key a) (S.key b) = true) : rises S l = true :=
  (rises_iff S l).2 fun k a b ha hb => h0 k a b (by have := (List.getElem?_eq_some_iff.1 hb).1; omega) ha hb
end Sl
end Go.Proofs.YtnhbdonffomibaaGreat
/- The contracts of the functions that write numbers and texts as bytes. -/
namespace Go.Proofs.YtnhbdonffomibaaGreat
open Go.RowKit
def str (l : List UInt8) : ByteArray := ⟨l.toArray⟩
theorem str_data (l : List UInt8) : (str l).data.toList = l := rfl
theorem str_size (l : List UInt8) : (str l).size = l.length := rfl
theorem str_append (l m : List UInt8) : str l ++ str m = str (l ++ m) := by
  apply ByteArray.ext
  simp [str]
theorem str_eq (s : ByteArray) : str s.data.toList = s := rfl
theorem ret_string {a b : ByteArray} (h : a = b) : Ending.returned (.string a) = .returned (.string b) := by rw [h]
theorem big_size (k n : Nat) : (str (Oc.big k n)).size = k := by rw [str_size, Oc.big_length]
end Go.Proofs.YtnhbdonffomibaaGreat
/- What a reader is in memory, and the contracts of the functions that read and fail. -/
namespace Go.Proofs.YtnhbdonffomibaaGreat
open Go.RowKit
structure Rd (w : World) (b : Nat) (s : ByteArray) (e : Int) : Prop where
  c0 : w.cell? ⟨b, 0, none⟩ = some (.string s)
  c1 : w.cell? ⟨b, 1, none⟩ = some (.int .i64 e)
  f0 : w.frozen? ⟨b, 0, none⟩ = false
  f1 : w.frozen? ⟨b, 1, none⟩ = false
structure Upd (b : Nat) (w w' : World) : Prop where
  os : w'.os = w.os
  tape : w'.tape = w.tape
  output : w'.output = w.output
  size : w'.heap.size = w.heap.size
  block : ∀ k, k ≠ b → w'.heap[k]? = w.heap[k]?
theorem Upd.refl (b : Nat) (w : World) : Upd b w w := ⟨rfl, rfl, rfl, rfl, fun _ _ => rfl⟩
theorem Upd.trans {b : Nat} {u v w : World} (h : Upd b u v) (k : Upd b v w) : Upd b u w :=
  ⟨k.os.trans h.os, k.tape.trans h.tape, k.output.trans h.output, k.size.trans h.size, fun i hi => (k.block i hi).trans (h.block i hi)⟩
theorem Upd.drew {b : Nat} {u v : World} (h : Upd b u v) : Upd b u v.drew := ⟨h.os, h.tape, h.output, h.size, h.block⟩
theorem Upd.drewN {b : Nat} {u v : World} (h : Upd b u v) (n : Nat) : Upd b u (v.drewN n) := ⟨h.os, h.tape, h.output, h.size, h.block⟩
theorem Upd.setCell {b o : Nat} {u v : World} (h : Upd b u v) (x : Value) : Upd b u (v.setCell ⟨b, o, none⟩ x) :=
  h.trans ⟨rfl, rfl, rfl, by simp [World.setCell], fun k hk => Below.heap_setCell _ _ _ _ hk⟩
theorem Upd.below {b B : Nat} {w w' : World} (h : Upd b w w') (hb : B ≤ b) : Below B w w' :=
  ⟨h.os, h.tape, h.output, Nat.le_of_eq h.size.symm, fun k hk => h.block k (by omega)⟩
theorem Rd.drew {w : World} {b : Nat} {s : ByteArray} {e : Int} (h : Rd w b s e) : Rd w.drew b s e := ⟨h.c0, h.c1, h.f0, h.f1⟩
theorem Rd.drewN {w : World} {b : Nat} {s : ByteArray} {e : Int} (h : Rd w b s e) (n : Nat) : Rd (w.drewN n) b s e := ⟨h.c0, h.c1, h.f0, h.f1⟩
theorem Rd.set1 {w : World} {b : Nat} {s : ByteArray} {e : Int} (h : Rd w b s e) (x : Int) : Rd (w.setCell ⟨b, 1, none⟩ (.int .i64 x)) b s x :=
  ⟨by rw [World.cell?_setCell_other _ _ _ _ (fun h => by cases h), h.c0], World.cell?_setCell_same' _ _ _ (by rw [h.c1]; rfl), by rw [World.frozen?_setCell, h.f0], by rw [World.frozen?_setCell, h.f1]⟩
theorem Rd.set0 {w : World} {b : Nat} {s : ByteArray} {e : Int} (h : Rd w b s e) (x : ByteArray) : Rd (w.setCell ⟨b, 0, none⟩ (.string x)) b x e :=
  ⟨World.cell?_setCell_same' _ _ _ (by rw [h.c0]; rfl), by rw [World.cell?_setCell_other _ _ _ _ (fun h => by cases h), h.c1], by rw [World.frozen?_setCell, h.f0], by rw [World.frozen?_setCell, h.f1]⟩
theorem Rd.upd {w w' : World} {b c : Nat} {s : ByteArray} {e : Int} (h : Rd w b s e) (u : Upd c w w') (hne : b ≠ c) : Rd w' b s e := by
  have hB := u.block b hne
  exact ⟨(World.cell?_of_block (w := w) hB).trans h.c0, (World.cell?_of_block (w := w) hB).trans h.c1, (World.frozen?_of_block (w := w) hB).trans h.f0, (World.frozen?_of_block (w := w) hB).trans h.f1⟩
theorem Rd.below {w w' : World} {b : Nat} {s : ByteArray} {e : Int} (h : Rd w b s e) (hb : Below w.heap.size w w') : Rd w' b s e := by
  have hB := hb.block b (block_lt_of_cell h.c0)
  exact ⟨(World.cell?_of_block (w := w) hB).trans h.c0, (World.cell?_of_block (w := w) hB).trans h.c1, (World.frozen?_of_block (w := w) hB).trans h.f0, (World.frozen?_of_block (w := w) hB).trans h.f1⟩
def tk (s : ByteArray) (e n : Int) : ByteArray × ByteArray × Int :=
  if e ≠ 0 then (ByteArray.empty, s, e) else if n < 0 ∨ (s.size : Int) < n then (ByteArray.empty, s, 3) else (s.extract 0 n.toNat, s.extract n.toNat s.size, 0)
theorem tk_bad (s : ByteArray) (e n : Int) (h : e ≠ 0) : tk s e n = (ByteArray.empty, s, e) := by unfold tk; rw [if_pos h]
theorem tk_short (s : ByteArray) (n : Int) (h : n < 0 ∨ (s.size : Int) < n) : tk s 0 n = (ByteArray.empty, s, 3) := by unfold tk; rw [if_neg (by decide), if_pos h]
theorem tk_ok (s : ByteArray) (n : Nat) (h : n ≤ s.size) : tk s 0 n = (s.extract 0 n, s.extract n s.size, 0) := by
  unfold tk; rw [if_neg (by decide), if_neg (by omega)]; rfl
theorem tk_size (s : ByteArray) (e : Int) (k : Nat) : (tk s e k).1.size ≤ k := by
  unfold tk
  split
  · exact Nat.zero_le _
  · split
    · exact Nat.zero_le _
    · rw [ByteArray.size_extract]; omega
theorem take_snoc (s : ByteArray) (k : Nat) (h : k < s.size) : s.data.toList.take (k + 1) = s.data.toList.take k ++ [s[k]] := by
  rw [List.take_succ_eq_append_getElem (by simpa using h)]; rfl
theorem u64_or_byte (v c : Nat) (hv : v < 72057594037927936) (hc : c < 256) : bits .or .u64 (IntKind.u64.wrap ((v : Int) * 256)) (IntKind.u64.wrap (c : Int)) = ((v * 256 + c : Nat) : Int) := by
  have h1 : IntKind.u64.wrap ((v : Int) * 256) = ((v * 256 : Nat) : Int) := by rw [IntKind.wrap_u64]; omega
  have h2 : IntKind.u64.wrap (c : Int) = ((c : Nat) : Int) := by rw [IntKind.wrap_u64]; omega
  rw [h1, h2, u64_or_nat _ _ (by omega) (by omega)]
  have := Nat.shiftLeft_add_eq_or_of_lt (i := 8) (b := c) (by omega) v
  rw [Nat.shiftLeft_eq] at this
  rw [show v * 256 = v * 2 ^ 8 by rfl, this]
theorem val_take (t : ByteArray) (m : Nat) (h : m < t.size) (h8 : t.size ≤ 8) : Oc.val (t.data.toList.take m) < 72057594037927936 := by
  refine Nat.lt_of_lt_of_le (Oc.val_lt _) ?_
  rw [List.length_take]
  exact Nat.le_trans (Nat.pow_le_pow_right (by omega) (show min m t.data.toList.length ≤ 7 by omega)) (by decide)
theorem ret_int {k : IntKind} {a b : Int} (h : a = b) : Ending.returned (.int k a) = .returned (.int k b) := by rw [h]
def fin (s : ByteArray) (e : Int) : Int := if e = 0 ∧ 0 < s.size then 4 else e
end Go.Proofs.YtnhbdonffomibaaGreat
/- The contracts of the document's own numbers and texts as bytes. -/
namespace Go.Proofs.YtnhbdonffomibaaGreat
open Go.RowKit
theorem val_i64 {a b : Int} (h : a = b) : Value.int .i64 a = .int .i64 b := by rw [h]
theorem u64_quo (v : Nat) (h : v < 18446744073709551616) : IntKind.u64.wrap ((v : Int).tdiv 256) = ((v / 256 : Nat) : Int) := by
  rw [Int.tdiv_eq_ediv_of_nonneg (by omega), IntKind.wrap_u64]; omega
theorem u8_rem (v : Nat) : Value.int .u8 ((v : Int).tmod 256 % 256) = .int .u8 ((v % 256 : Nat) : Int) := by
  rw [Int.tmod_eq_emod_of_nonneg (by omega)]; congr 1; omega
end Go.Proofs.YtnhbdonffomibaaGreat
/- The contracts of the document's own reader. -/
namespace Go.Proofs.YtnhbdonffomibaaGreat
open Go.RowKit
theorem u64_add_byte (v c : Nat) (hv : v < 72057594037927936) (hc : c < 256) : IntKind.u64.wrap (IntKind.u64.wrap ((v : Int) * 256) + IntKind.u64.wrap (c : Int)) = ((v * 256 + c : Nat) : Int) := by
  rw [IntKind.wrap_u64, IntKind.wrap_u64, IntKind.wrap_u64]; omega
end Go.Proofs.YtnhbdonffomibaaGreat
/- What stays as it was while one block is turned. -/
namespace Go.Proofs.YtnhbdonffomibaaGreat
open Go.RowKit
structure Mod (b : Nat) (w w' : World) : Prop where
  os : w'.os = w.os
  tape : w'.tape = w.tape
  output : w'.output = w.output
  size : w.heap.size ≤ w'.heap.size
  block : ∀ k, k < w.heap.size → k ≠ b → w'.heap[k]? = w.heap[k]?
theorem Mod.refl (b : Nat) (w : World) : Mod b w w := ⟨rfl, rfl, rfl, Nat.le_refl _, fun _ _ _ => rfl⟩
theorem Mod.trans {b : Nat} {u v w : World} (h : Mod b u v) (k : Mod b v w) : Mod b u w :=
  ⟨k.os.trans h.os, k.tape.trans h.tape, k.output.trans h.output, Nat.le_trans h.size k.size, fun i hi hne => (k.block i (Nat.lt_of_lt_of_le hi h.size) hne).trans (h.block i hi hne)⟩
theorem Mod.upd {b : Nat} {u v w : World} (h : Mod b u v) (k : Upd b v w) : Mod b u w :=
  h.trans ⟨k.os, k.tape, k.output, Nat.le_of_eq k.size.symm, fun i _ hne => k.block i hne⟩
theorem Mod.step {b : Nat} {u v w : World} (h : Mod b u v) (k : Below v.heap.size v w) : Mod b u w :=
  h.trans ⟨k.os, k.tape, k.output, k.size, fun i hi _ => k.block i hi⟩
theorem Mod.alloc {b : Nat} {u v : World} (h : Mod b u v) (o : Obj) : Mod b u (v.alloc o) := h.step ((Below.refl _ _).alloc (Nat.le_refl _) _)
theorem Mod.below {b B : Nat} {w w' : World} (h : Mod b w w') (hb : B ≤ b) (hB : B ≤ w.heap.size) : Below B w w' :=
  ⟨h.os, h.tape, h.output, h.size, fun k hk => h.block k (by omega) (by omega)⟩
theorem Mod.cell {b : Nat} {w w' : World} (h : Mod b w w') {p : Addr} (hp : p.block < w.heap.size) (hne : p.block ≠ b) : w'.cell? p = w.cell? p := World.cell?_of_block (w := w) (h.block p.block hp hne)
theorem Mod.frozen {b : Nat} {w w' : World} (h : Mod b w w') {p : Addr} (hp : p.block < w.heap.size) (hne : p.block ≠ b) : w'.frozen? p = w.frozen? p := World.frozen?_of_block (w := w) (h.block p.block hp hne)
theorem Mod.step' {b : Nat} {u v w : World} (h : Mod b u v) (k : Below u.heap.size v w) : Mod b u w :=
  ⟨k.os.trans h.os, k.tape.trans h.tape, k.output.trans h.output, Nat.le_trans h.size k.size, fun i hi hne => (k.block i hi).trans (h.block i hi hne)⟩
theorem Rd.below' {w w' : World} {b B : Nat} {s : ByteArray} {e : Int} (h : Rd w b s e) (hb : Below B w w') (hlt : b < B) : Rd w' b s e := by
  have hB := hb.block b hlt
  exact ⟨(World.cell?_of_block (w := w) hB).trans h.c0, (World.cell?_of_block (w := w) hB).trans h.c1, (World.frozen?_of_block (w := w) hB).trans h.f0, (World.frozen?_of_block (w := w) hB).trans h.f1⟩
theorem own_upd {w w' : World} {b B : Nat} {e : TypeId} {s : Nat} {v : Value} {n : Nat} {xs : List Value} (h : w.ownsRow B e s v n xs) (u : Upd b w w') (hb : b < B) : w'.ownsRow B e s v n xs := by
  obtain ⟨h0, h1⟩ := h
  refine ⟨h0, ?_⟩
  rcases h1 with h1 | ⟨g, cap, cur, hv, hg, hh, rest⟩
  · exact .inl h1
  · exact .inr ⟨g, cap, cur, hv, hg, by rw [u.block g (by omega), hh], rest⟩
theorem own_mod {w w' : World} {b B : Nat} {e : TypeId} {s : Nat} {v : Value} {n : Nat} {xs : List Value} (h : w.ownsRow B e s v n xs) (m : Mod b w w') (hb : b < B) : w'.ownsRow B e s v n xs := by
  obtain ⟨h0, h1⟩ := h
  refine ⟨h0, ?_⟩
  rcases h1 with h1 | ⟨g, cap, cur, hv, hg, hh, rest⟩
  · exact .inl h1
  · have hlt : g < w.heap.size := by
      rcases Nat.lt_or_ge g w.heap.size with h' | h'
      · exact h'
      · rw [Array.getElem?_eq_none h'] at hh; cases hh
    exact .inr ⟨g, cap, cur, hv, hg, by rw [m.block g hlt (by omega), hh], rest⟩
theorem own_below {w w' : World} {B B' : Nat} {e : TypeId} {s : Nat} {v : Value} {n : Nat} {xs : List Value} (h : w.ownsRow B e s v n xs) (hb : Below B' w w') (hB : w.heap.size ≤ B') : w'.ownsRow B e s v n xs := by
  obtain ⟨h0, h1⟩ := h
  refine ⟨h0, ?_⟩
  rcases h1 with h1 | ⟨g, cap, cur, hv, hg, hh, rest⟩
  · exact .inl h1
  · have hlt : g < w.heap.size := by
      rcases Nat.lt_or_ge g w.heap.size with h' | h'
      · exact h'
      · rw [Array.getElem?_eq_none h'] at hh; cases hh
    exact .inr ⟨g, cap, cur, hv, hg, by rw [hb.block g (by omega), hh], rest⟩
theorem Mod.old {b : Nat} {w w' : World} {o : Obj} (h : Mod b (w.alloc o) w') : Mod b w w' := ((Mod.refl b w).alloc o).trans h
theorem Rd.lt {w : World} {b : Nat} {s : ByteArray} {e : Int} (h : Rd w b s e) : b < w.heap.size := World.block_lt_of_cell? _ _ h.c0
end Go.Proofs.YtnhbdonffomibaaGreat
/- The contracts of what lays one cell: first, putKey, putCell, and a shape's own functions. -/
namespace Go.Proofs.YtnhbdonffomibaaGreat
open Go.RowKit
open Sl (Cl Kd)
theorem below_step {a b c : World} (h : Below a.heap.size a b) (k : Below b.heap.size b c) : Below a.heap.size a c := h.trans (k.mono h.size)
theorem below_off {w w1 : World} {o : Obj} (h : Below (w.alloc o).drew.heap.size (w.alloc o).drew w1) : Below w.heap.size w w1 :=
  (((Below.refl _ _).alloc (Nat.le_refl _) o).drew).trans (h.mono (by show w.heap.size ≤ (w.alloc o).heap.size; simp))
def aggC (c : Cl) : Value := .agg #[.string (str c.key), .string (str c.val), .int .u32 c.chain, .int .u32 c.long]
def aggK (k : Kd) : Value := .agg #[.string (str k.key), .int .u32 k.page]
theorem str_take (l : List UInt8) (n : Nat) : (str l).extract 0 (min l.length n) = str (l.take n) := by
  apply ByteArray.ext
  simp [str, ByteArray.data_extract, List.extract_toArray]
  rw [Nat.min_comm]
theorem ext_full (s : ByteArray) : s.extract 0 s.size = s := by
  apply ByteArray.ext
  simp
theorem str_whole (l : List UInt8) : (str l).extract 0 l.length = str l := by
  have := str_take l l.length
  rw [Nat.min_self, List.take_length] at this
  exact this
theorem wrap16_le (x : Nat) (h : x < 65536) : IntKind.u16.wrap (x : Int) = x := by rw [IntKind.wrap_u16]; omega
/-- The fields of a boxed branch's cell, and that nothing else of old has turned. -/
def InK (w : World) (g : Nat) (x0 x1 : Value) (w' : World) : Prop :=
  w'.cell? ⟨g, 0, none⟩ = some x0 ∧ w'.cell? ⟨g, 1, none⟩ = some x1 ∧ Below g w w'
theorem InK.step {w w1 w2 : World} {g : Nat} {x0 x1 : Value} (h : w1.cell? ⟨g, 0, none⟩ = some x0 ∧ w1.cell? ⟨g, 1, none⟩ = some x1 ∧ Below g w w1) (hb : Below w1.heap.size w1 w2) :
    w2.cell? ⟨g, 0, none⟩ = some x0 ∧ w2.cell? ⟨g, 1, none⟩ = some x1 ∧ Below g w w2 := by
  obtain ⟨h0, h1, h2⟩ := h
  have hlt := World.block_lt_of_cell? _ _ h0
  exact ⟨(hb.cell (p := ⟨g, 0, none⟩) hlt).trans h0, (hb.cell (p := ⟨g, 1, none⟩) hlt).trans h1, h2.trans (hb.mono (Nat.le_of_lt hlt))⟩
theorem InK.first (w : World) (x0 x1 : Value) (T : TypeId) :
    (w.alloc (.cells #[x0, x1] T)).drew.cell? ⟨w.heap.size, 0, none⟩ = some x0 ∧ (w.alloc (.cells #[x0, x1] T)).drew.cell? ⟨w.heap.size, 1, none⟩ = some x1 ∧ Below w.heap.size w (w.alloc (.cells #[x0, x1] T)).drew :=
  ⟨by simp, by simp, ((Below.refl _ _).alloc (Nat.le_refl _) _).drew⟩
theorem InC.step {w w1 w2 : World} {g : Nat} {x0 x1 x2 x3 : Value} (h : w1.cell? ⟨g, 0, none⟩ = some x0 ∧ w1.cell? ⟨g, 1, none⟩ = some x1 ∧ w1.cell? ⟨g, 2, none⟩ = some x2 ∧ w1.cell? ⟨g, 3, none⟩ = some x3 ∧ Below g w w1) (hb : Below w1.heap.size w1 w2) :
    w2.cell? ⟨g, 0, none⟩ = some x0 ∧ w2.cell? ⟨g, 1, none⟩ = some x1 ∧ w2.cell? ⟨g, 2, none⟩ = some x2 ∧ w2.cell? ⟨g, 3, none⟩ = some x3 ∧ Below g w w2 := by
  obtain ⟨h0, h1, h2, h3, h4⟩ := h
  have hlt := World.block_lt_of_cell? _ _ h0
  exact ⟨(hb.cell (p := ⟨g, 0, none⟩) hlt).trans h0, (hb.cell (p := ⟨g, 1, none⟩) hlt).trans h1, (hb.cell (p := ⟨g, 2, none⟩) hlt).trans h2, (hb.cell (p := ⟨g, 3, none⟩) hlt).trans h3, h4.trans (hb.mono (Nat.le_of_lt hlt))⟩
theorem InC.first (w : World) (x0 x1 x2 x3 : Value) (T : TypeId) :
    (w.alloc (.cells #[x0, x1, x2, x3] T)).drew.cell? ⟨w.heap.size, 0, none⟩ = some x0 ∧ (w.alloc (.cells #[x0, x1, x2, x3] T)).drew.cell? ⟨w.heap.size, 1, none⟩ = some x1 ∧ (w.alloc (.cells #[x0, x1, x2, x3] T)).drew.cell? ⟨w.heap.size, 2, none⟩ = some x2 ∧ (w.alloc (.cells #[x0, x1, x2, x3] T)).drew.cell? ⟨w.heap.size, 3, none⟩ = some x3 ∧ Below w.heap.size w (w.alloc (.cells #[x0, x1, x2, x3] T)).drew :=
  ⟨by simp, by simp, by simp, by simp, ((Below.refl _ _).alloc (Nat.le_refl _) _).drew⟩
end Go.Proofs.YtnhbdonffomibaaGreat
/- The contracts of a leaf's cell: its bytes and its key by the codec's and the shape's calls, its size. -/
namespace Go.Proofs.YtnhbdonffomibaaGreat
open Go.RowKit
open Sl (Cl Kd)
theorem lt3 (w : World) (o1 o2 o3 : Obj) : w.heap.size + 1 + 1 < (((w.alloc o1).alloc o2).alloc o3).heap.size := by simp
theorem size2 (w : World) (o1 o2 : Obj) : ((w.alloc o1).alloc o2).heap.size = w.heap.size + 1 + 1 := by simp
theorem cell3 (w : World) (o1 o2 : Obj) (x : Value) (T : TypeId) : (((w.alloc o1).alloc o2).alloc (.cells #[x] T)).cell? ⟨w.heap.size + 1 + 1, 0, none⟩ = some x := by
  have := World.cell?_alloc_new ((w.alloc o1).alloc o2) #[x] T 0
  rw [size2] at this
  exact this
theorem below3 (w : World) (o1 o2 o3 : Obj) : Below w.heap.size w (((w.alloc o1).alloc o2).alloc o3) :=
  below_step (below_step ((Below.refl _ _).alloc (Nat.le_refl _) _) ((Below.refl _ _).alloc (Nat.le_refl _) _)) ((Below.refl _ _).alloc (Nat.le_refl _) _)
end Go.Proofs.YtnhbdonffomibaaGreat
/- Rows of a leaf's cells in memory; the contracts of Size and Sum. -/
namespace Go.Proofs.YtnhbdonffomibaaGreat
open Go.RowKit
open Sl (Cl Kd)
def okC (x : Cl) : Prop := x.chain < 4294967296 ∧ x.long < 4294967296
def SlC (w : World) (v : Value) (l : List Cl) : Prop :=
  ∃ (a : Option Addr) (b o c : Nat), v = .slice a l.length c ∧ (l = [] ∨ a = some ⟨b, o, none⟩) ∧
    ∀ (j : Nat) x, l[j]? = some x → w.cell? ⟨b, o + j * 4, none⟩ = some (.string (str x.key)) ∧ w.cell? ⟨b, o + j * 4 + 1, none⟩ = some (.string (str x.val)) ∧ w.cell? ⟨b, o + j * 4 + 2, none⟩ = some (.int .u32 x.chain) ∧ w.cell? ⟨b, o + j * 4 + 3, none⟩ = some (.int .u32 x.long)
theorem SlC.below {w w' : World} {v : Value} {l : List Cl} (h : SlC w v l) (hb : Below w.heap.size w w') : SlC w' v l := by
  obtain ⟨a, b, o, c, hv, ha, hx⟩ := h
  refine ⟨a, b, o, c, hv, ha, fun j p hj => ?_⟩
  obtain ⟨h0, h1, h2, h3⟩ := hx j p hj
  have hlt := World.block_lt_of_cell? _ _ h0
  exact ⟨(hb.cell (p := ⟨b, o + j * 4, none⟩) hlt).trans h0, (hb.cell (p := ⟨b, o + j * 4 + 1, none⟩) hlt).trans h1, (hb.cell (p := ⟨b, o + j * 4 + 2, none⟩) hlt).trans h2, (hb.cell (p := ⟨b, o + j * 4 + 3, none⟩) hlt).trans h3⟩
theorem In2C.step {w w1 w2 : World} {g h : Nat} {x0 x1 x2 x3 y0 y1 y2 y3 : Value} (H : w1.cell? ⟨g, 0, none⟩ = some x0 ∧ w1.cell? ⟨g, 1, none⟩ = some x1 ∧ w1.cell? ⟨g, 2, none⟩ = some x2 ∧ w1.cell? ⟨g, 3, none⟩ = some x3 ∧ w1.cell? ⟨h, 0, none⟩ = some y0 ∧ w1.cell? ⟨h, 1, none⟩ = some y1 ∧ w1.cell? ⟨h, 2, none⟩ = some y2 ∧ w1.cell? ⟨h, 3, none⟩ = some y3 ∧ Below g w w1) (hb : Below w1.heap.size w1 w2) : w2.cell? ⟨g, 0, none⟩ = some x0 ∧ w2.cell? ⟨g, 1, none⟩ = some x1 ∧ w2.cell? ⟨g, 2, none⟩ = some x2 ∧ w2.cell? ⟨g, 3, none⟩ = some x3 ∧ w2.cell? ⟨h, 0, none⟩ = some y0 ∧ w2.cell? ⟨h, 1, none⟩ = some y1 ∧ w2.cell? ⟨h, 2, none⟩ = some y2 ∧ w2.cell? ⟨h, 3, none⟩ = some y3 ∧ Below g w w2 := by
  obtain ⟨h0, h1, h2, h3, k0, k1, k2, k3, hB⟩ := H
  have hg := World.block_lt_of_cell? _ _ h0
  have hh := World.block_lt_of_cell? _ _ k0
  exact ⟨(hb.cell (p := ⟨g, 0, none⟩) hg).trans h0, (hb.cell (p := ⟨g, 1, none⟩) hg).trans h1, (hb.cell (p := ⟨g, 2, none⟩) hg).trans h2, (hb.cell (p := ⟨g, 3, none⟩) hg).trans h3, (hb.cell (p := ⟨h, 0, none⟩) hh).trans k0, (hb.cell (p := ⟨h, 1, none⟩) hh).trans k1, (hb.cell (p := ⟨h, 2, none⟩) hh).trans k2, (hb.cell (p := ⟨h, 3, none⟩) hh).trans k3, hB.trans (hb.mono (Nat.le_of_lt hg))⟩
theorem In2C.first {w w1 : World} {x0 x1 x2 x3 y0 y1 y2 y3 : Value} {T U : TypeId} (hb : Below ((w.alloc (.cells #[x0, x1, x2, x3] T)).alloc (.cells #[y0, y1, y2, y3] U)).heap.size ((w.alloc (.cells #[x0, x1, x2, x3] T)).alloc (.cells #[y0, y1, y2, y3] U)) w1) : w1.drew.cell? ⟨w.heap.size, 0, none⟩ = some x0 ∧ w1.drew.cell? ⟨w.heap.size, 1, none⟩ = some x1 ∧ w1.drew.cell? ⟨w.heap.size, 2, none⟩ = some x2 ∧ w1.drew.cell? ⟨w.heap.size, 3, none⟩ = some x3 ∧ w1.drew.cell? ⟨w.heap.size + 1, 0, none⟩ = some y0 ∧ w1.drew.cell? ⟨w.heap.size + 1, 1, none⟩ = some y1 ∧ w1.drew.cell? ⟨w.heap.size + 1, 2, none⟩ = some y2 ∧ w1.drew.cell? ⟨w.heap.size + 1, 3, none⟩ = some y3 ∧ Below w.heap.size w w1.drew := by
  have hz := size2 w (.cells #[x0, x1, x2, x3] T) (.cells #[y0, y1, y2, y3] U)
  rw [hz] at hb
  have hB : Below w.heap.size w w1 := ((((Below.refl _ _).alloc (Nat.le_refl _) (.cells #[x0, x1, x2, x3] T)).alloc (by simp) (.cells #[y0, y1, y2, y3] U))).trans (hb.mono (by omega))
  refine ⟨?_, ?_, ?_, ?_, ?_, ?_, ?_, ?_, hB.drew⟩
  · exact (hb.cell (p := ⟨w.heap.size, 0, none⟩) (by show w.heap.size < _; omega)).trans (by simp)
  · exact (hb.cell (p := ⟨w.heap.size, 1, none⟩) (by show w.heap.size < _; omega)).trans (by simp)
  · exact (hb.cell (p := ⟨w.heap.size, 2, none⟩) (by show w.heap.size < _; omega)).trans (by simp)
  · exact (hb.cell (p := ⟨w.heap.size, 3, none⟩) (by show w.heap.size < _; omega)).trans (by simp)
  · exact (hb.cell (p := ⟨w.heap.size + 1, 0, none⟩) (by show w.heap.size + 1 < _; omega)).trans (by have := World.cell?_alloc_new (w.alloc (.cells #[x0, x1, x2, x3] T)) #[y0, y1, y2, y3] U 0; rw [show (w.alloc (.cells #[x0, x1, x2, x3] T)).heap.size = w.heap.size + 1 by simp] at this; exact this)
  · exact (hb.cell (p := ⟨w.heap.size + 1, 1, none⟩) (by show w.heap.size + 1 < _; omega)).trans (by have := World.cell?_alloc_new (w.alloc (.cells #[x0, x1, x2, x3] T)) #[y0, y1, y2, y3] U 1; rw [show (w.alloc (.cells #[x0, x1, x2, x3] T)).heap.size = w.heap.size + 1 by simp] at this; exact this)
  · exact (hb.cell (p := ⟨w.heap.size + 1, 2, none⟩) (by show w.heap.size + 1 < _; omega)).trans (by have := World.cell?_alloc_new (w.alloc (.cells #[x0, x1, x2, x3] T)) #[y0, y1, y2, y3] U 2; rw [show (w.alloc (.cells #[x0, x1, x2, x3] T)).heap.size = w.heap.size + 1 by simp] at this; exact this)
  · exact (hb.cell (p := ⟨w.heap.size + 1, 3, none⟩) (by show w.heap.size + 1 < _; omega)).trans (by have := World.cell?_alloc_new (w.alloc (.cells #[x0, x1, x2, x3] T)) #[y0, y1, y2, y3] U 3; rw [show (w.alloc (.cells #[x0, x1, x2, x3] T)).heap.size = w.heap.size + 1 by simp] at this; exact this)
theorem box4C (w : World) (x0 x1 x2 x3 : Value) (T : TypeId) : (w.alloc (.cells #[x0, x1, x2, x3] T)).cell? ⟨w.heap.size, 0, none⟩ = some x0 ∧ (w.alloc (.cells #[x0, x1, x2, x3] T)).cell? ⟨w.heap.size, 1, none⟩ = some x1 ∧ (w.alloc (.cells #[x0, x1, x2, x3] T)).cell? ⟨w.heap.size, 2, none⟩ = some x2 ∧ (w.alloc (.cells #[x0, x1, x2, x3] T)).cell? ⟨w.heap.size, 3, none⟩ = some x3 :=
  ⟨by simp, by simp, by simp, by simp⟩
theorem take_some {α : Type} (l : List α) (k : Nat) (h : k < l.length) : ∃ x, l[k]? = some x := ⟨_, List.getElem?_eq_getElem h⟩
theorem encC_le (l : List Cl) (k : Nat) (h : l.length ≤ 100000) : Sl.sum Sl.shC (l.take k) ≤ 6579600000 := by
  have h1 := Sl.sum_take Sl.shC l k
  have h2 := Sl.sum_le Sl.shC 65794 (fun x => Sl.encC_len x) l
  omega
end Go.Proofs.YtnhbdonffomibaaGreat
/- Rows of a branch's cells in memory; the contracts of Size and Sum. -/
namespace Go.Proofs.YtnhbdonffomibaaGreat
open Go.RowKit
open Sl (Cl Kd)
def okK (x : Kd) : Prop := x.page < 4294967296
def SlK (w : World) (v : Value) (l : List Kd) : Prop :=
  ∃ (a : Option Addr) (b o c : Nat), v = .slice a l.length c ∧ (l = [] ∨ a = some ⟨b, o, none⟩) ∧
    ∀ (j : Nat) x, l[j]? = some x → w.cell? ⟨b, o + j * 2, none⟩ = some (.string (str x.key)) ∧ w.cell? ⟨b, o + j * 2 + 1, none⟩ = some (.int .u32 x.page)
theorem SlK.below {w w' : World} {v : Value} {l : List Kd} (h : SlK w v l) (hb : Below w.heap.size w w') : SlK w' v l := by
  obtain ⟨a, b, o, c, hv, ha, hx⟩ := h
  refine ⟨a, b, o, c, hv, ha, fun j p hj => ?_⟩
  obtain ⟨h0, h1⟩ := hx j p hj
  have hlt := World.block_lt_of_cell? _ _ h0
  exact ⟨(hb.cell (p := ⟨b, o + j * 2, none⟩) hlt).trans h0, (hb.cell (p := ⟨b, o + j * 2 + 1, none⟩) hlt).trans h1⟩
theorem In2K.step {w w1 w2 : World} {g h : Nat} {x0 x1 x2 x3 y0 y1 : Value} (H : w1.cell? ⟨g, 0, none⟩ = some x0 ∧ w1.cell? ⟨g, 1, none⟩ = some x1 ∧ w1.cell? ⟨g, 2, none⟩ = some x2 ∧ w1.cell? ⟨g, 3, none⟩ = some x3 ∧ w1.cell? ⟨h, 0, none⟩ = some y0 ∧ w1.cell? ⟨h, 1, none⟩ = some y1 ∧ Below g w w1) (hb : Below w1.heap.size w1 w2) : w2.cell? ⟨g, 0, none⟩ = some x0 ∧ w2.cell? ⟨g, 1, none⟩ = some x1 ∧ w2.cell? ⟨g, 2, none⟩ = some x2 ∧ w2.cell? ⟨g, 3, none⟩ = some x3 ∧ w2.cell? ⟨h, 0, none⟩ = some y0 ∧ w2.cell? ⟨h, 1, none⟩ = some y1 ∧ Below g w w2 := by
  obtain ⟨h0, h1, h2, h3, k0, k1, hB⟩ := H
  have hg := World.block_lt_of_cell? _ _ h0
  have hh := World.block_lt_of_cell? _ _ k0
  exact ⟨(hb.cell (p := ⟨g, 0, none⟩) hg).trans h0, (hb.cell (p := ⟨g, 1, none⟩) hg).trans h1, (hb.cell (p := ⟨g, 2, none⟩) hg).trans h2, (hb.cell (p := ⟨g, 3, none⟩) hg).trans h3, (hb.cell (p := ⟨h, 0, none⟩) hh).trans k0, (hb.cell (p := ⟨h, 1, none⟩) hh).trans k1, hB.trans (hb.mono (Nat.le_of_lt hg))⟩
theorem In2K.first {w w1 : World} {x0 x1 x2 x3 y0 y1 : Value} {T U : TypeId} (hb : Below ((w.alloc (.cells #[x0, x1, x2, x3] T)).alloc (.cells #[y0, y1] U)).heap.size ((w.alloc (.cells #[x0, x1, x2, x3] T)).alloc (.cells #[y0, y1] U)) w1) : w1.drew.cell? ⟨w.heap.size, 0, none⟩ = some x0 ∧ w1.drew.cell? ⟨w.heap.size, 1, none⟩ = some x1 ∧ w1.drew.cell? ⟨w.heap.size, 2, none⟩ = some x2 ∧ w1.drew.cell? ⟨w.heap.size, 3, none⟩ = some x3 ∧ w1.drew.cell? ⟨w.heap.size + 1, 0, none⟩ = some y0 ∧ w1.drew.cell? ⟨w.heap.size + 1, 1, none⟩ = some y1 ∧ Below w.heap.size w w1.drew := by
  have hz := size2 w (.cells #[x0, x1, x2, x3] T) (.cells #[y0, y1] U)
  rw [hz] at hb
  have hB : Below w.heap.size w w1 := ((((Below.refl _ _).alloc (Nat.le_refl _) (.cells #[x0, x1, x2, x3] T)).alloc (by simp) (.cells #[y0, y1] U))).trans (hb.mono (by omega))
  refine ⟨?_, ?_, ?_, ?_, ?_, ?_, hB.drew⟩
  · exact (hb.cell (p := ⟨w.heap.size, 0, none⟩) (by show w.heap.size < _; omega)).trans (by simp)
  · exact (hb.cell (p := ⟨w.heap.size, 1, none⟩) (by show w.heap.size < _; omega)).trans (by simp)
  · exact (hb.cell (p := ⟨w.heap.size, 2, none⟩) (by show w.heap.size < _; omega)).trans (by simp)
  · exact (hb.cell (p := ⟨w.heap.size, 3, none⟩) (by show w.heap.size < _; omega)).trans (by simp)
  · exact (hb.cell (p := ⟨w.heap.size + 1, 0, none⟩) (by show w.heap.size + 1 < _; omega)).trans (by have := World.cell?_alloc_new (w.alloc (.cells #[x0, x1, x2, x3] T)) #[y0, y1] U 0; rw [show (w.alloc (.cells #[x0, x1, x2, x3] T)).heap.size = w.heap.size + 1 by simp] at this; exact this)
  · exact (hb.cell (p := ⟨w.heap.size + 1, 1, none⟩) (by show w.heap.size + 1 < _; omega)).trans (by have := World.cell?_alloc_new (w.alloc (.cells #[x0, x1, x2, x3] T)) #[y0, y1] U 1; rw [show (w.alloc (.cells #[x0, x1, x2, x3] T)).heap.size = w.heap.size + 1 by simp] at this; exact this)
theorem box4K (w : World) (x0 x1 x2 x3 : Value) (T : TypeId) : (w.alloc (.cells #[x0, x1, x2, x3] T)).cell? ⟨w.heap.size, 0, none⟩ = some x0 ∧ (w.alloc (.cells #[x0, x1, x2, x3] T)).cell? ⟨w.heap.size, 1, none⟩ = some x1 ∧ (w.alloc (.cells #[x0, x1, x2, x3] T)).cell? ⟨w.heap.size, 2, none⟩ = some x2 ∧ (w.alloc (.cells #[x0, x1, x2, x3] T)).cell? ⟨w.heap.size, 3, none⟩ = some x3 :=
  ⟨by simp, by simp, by simp, by simp⟩
theorem encK_le (l : List Kd) (k : Nat) (h : l.length ≤ 100000) : Sl.sum Sl.shK (l.take k) ≤ 6579600000 := by
  have h1 := Sl.sum_take Sl.shK l k
  have h2 := Sl.sum_le Sl.shK 65794 (fun x => Nat.le_trans (Sl.encK_len x) (by decide)) l
  omega
end Go.Proofs.YtnhbdonffomibaaGreat
