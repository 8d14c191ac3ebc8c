/- Plain facts of cells, their bytes and the body that they make; nothing of the program. -/
import Derived.Test.YtdkkcogjkeonkaaMath
set_option maxRecDepth 100000
set_option maxHeartbeats 4000000
set_option linter.unusedVariables false
namespace Go.Proofs.Ytdkkcogjkeonkaa
namespace Sl
open Oc
def less : List UInt8 → List UInt8 → Bool
  | [], [] => false
  | [], _ :: _ => true
  | _ :: _, [] => false
  | a :: x, b :: y => a < b || (a == b && less x y)
theorem less_nil (u : List UInt8) : less u [] = false := by cases u <;> rfl
structure Cl where
  key : List UInt8
  val : List UInt8
  chain : Nat
  long : Nat
structure Kd where
  key : List UInt8
  page : Nat
def encKey (k : List UInt8) : List UInt8 := big 1 (min k.length 255) ++ k.take 255
def encC (c : Cl) : List UInt8 :=
  if c.chain ≠ 0 then encKey c.key ++ (big 1 1 ++ (big 4 c.chain ++ big 4 c.long))
  else encKey c.key ++ (big 1 0 ++ (big 2 (min c.val.length 65535) ++ c.val.take 65535))
def encK (k : Kd) : List UInt8 := encKey k.key ++ big 4 k.page
def fitsC (c : Cl) : Bool := decide (c.val.length ≤ (if c.chain ≠ 0 then 0 else 400))
/-- What is needed of a sort of cells. -/
structure Sh (α : Type) where
  enc : α → List UInt8
  key : α → List UInt8
  fits : α → Bool
def shC : Sh Cl := ⟨encC, Cl.key, fitsC⟩
def shK : Sh Kd := ⟨encK, Kd.key, fun _ => true⟩
variable {α : Type}
def long (S : Sh α) (x : α) : Bool := decide (255 < (S.key x).length) || !S.fits x
def rises (S : Sh α) : List α → Bool
  | a :: b :: l => less (S.key a) (S.key b) && rises S (b :: l)
  | _ => true
def right (S : Sh α) (l : List α) : Int := if l.any (long S) then 5 else if rises S l then 0 else 30
def sum (S : Sh α) (l : List α) : Nat := (l.map fun x => 2 + (S.enc x).length).sum
def begins (S : Sh α) : Nat → List α → List UInt8
  | _, [] => []
  | n, x :: l => big 2 n ++ begins S (n + (S.enc x).length) l
def body (S : Sh α) (l : List α) : List UInt8 := begins S (2 * l.length) l ++ l.flatMap S.enc
theorem encKey_len (k : List UInt8) : (encKey k).length = 1 + min k.length 255 := by
  unfold encKey; rw [List.length_append, big_length, List.length_take]; omega
theorem encC_len (c : Cl) : (encC c).length ≤ 65794 := by
  unfold encC; split <;> simp only [List.length_append, big_length, encKey_len, List.length_take] <;> omega
theorem encK_len (k : Kd) : (encK k).length ≤ 260 := by
  unfold encK; simp only [List.length_append, big_length, encKey_len]; omega
theorem begins_snoc (S : Sh α) (x : α) : ∀ (l : List α) (n : Nat), begins S n (l ++ [x]) = begins S n l ++ big 2 (n + (l.flatMap S.enc).length)
  | [], n => by simp [begins]
  | y :: l, n => by
    rw [List.cons_append, begins, begins, begins_snoc S x l, List.append_assoc, List.flatMap_cons, List.length_append, Nat.add_assoc]
theorem begins_len (S : Sh α) : ∀ (l : List α) (n : Nat), (begins S n l).length = 2 * l.length
  | [], _ => rfl
  | x :: l, n => by rw [begins, List.length_append, big_length, begins_len S l, List.length_cons]; omega
theorem flat_snoc (S : Sh α) (l : List α) (x : α) : (l ++ [x]).flatMap S.enc = l.flatMap S.enc ++ S.enc x := by
  rw [List.flatMap_append]; simp
theorem sum_snoc (S : Sh α) (l : List α) (x : α) : sum S (l ++ [x]) = sum S l + (2 + (S.enc x).length) := by
  unfold sum; rw [List.map_append, List.sum_append]; simp
theorem sum_eq (S : Sh α) (l : List α) : sum S l = 2 * l.length + (l.flatMap S.enc).length := by
  induction l with
  | nil => rfl
  | cons x l ih =>
    rw [List.flatMap_cons, List.length_append, List.length_cons]
    have : sum S (x :: l) = 2 + (S.enc x).length + sum S l := by unfold sum; rw [List.map_cons, List.sum_cons]
    omega
theorem body_len (S : Sh α) (l : List α) : (body S l).length = sum S l := by
  unfold body; rw [List.length_append, begins_len, sum_eq]
theorem take_snoc' (l : List α) (k : Nat) (x : α) (h : l[k]? = some x) : l.take (k + 1) = l.take k ++ [x] := by
  obtain ⟨hk, he⟩ := List.getElem?_eq_some_iff.1 h
  rw [List.take_succ_eq_append_getElem hk, he]
theorem sum_le (S : Sh α) (m : Nat) (hm : ∀ x, (S.enc x).length ≤ m) (l : List α) : sum S l ≤ (m + 2) * l.length := by
  induction l with
  | nil => exact Nat.zero_le _
  | cons x l ih =>
    have h1 : sum S (x :: l) = 2 + (S.enc x).length + sum S l := by unfold sum; rw [List.map_cons, List.sum_cons]
    have h2 := hm x
    rw [List.length_cons, Nat.mul_succ]
    omega
theorem flat_le (S : Sh α) (l : List α) : (l.flatMap S.enc).length ≤ sum S l := by rw [sum_eq]; omega
theorem sum_take (S : Sh α) (l : List α) (k : Nat) : sum S (l.take k) ≤ sum S l := by
  conv => rhs; rw [← List.take_append_drop k l]
  unfold sum; rw [List.map_append, List.sum_append]; omega
/-- No two neighbours that don't rise, as an index finds them. -/
theorem rises_iff (S : Sh α) : ∀ l : List α, rises S l = true ↔ ∀ k a b, l[k]? = some a → l[k + 1]? = some b → less (S.key a) (S.key b) = true
  | [] => by simp [rises]
  | [a] => by
    simp only [rises, true_iff]
    intro k a b _ h; simp at h
  | a :: b :: l => by
    rw [rises, Bool.and_eq_true, rises_iff S (b :: l)]
    constructor
    · rintro ⟨h1, h2⟩ k x y hx hy
      match k with
      | 0 => simp at hx hy; subst hx; subst hy; exact h1
      | k + 1 => exact h2 k x y (by simpa using hx) (by simpa using hy)
    · intro h
      refine ⟨h 0 a b (by simp) (by simp), fun k x y hx hy => h (k + 1) x y (by simpa using hx) (by simpa using hy)⟩
theorem rises_false (S : Sh α) (l : List α) (k : Nat) (a b : α) (ha : l[k]? = some a) (hb : l[k + 1]? = some b) (h : less (S.key a) (S.key b) = false) : rises S l = false := by
  cases hr : rises S l
  · rfl
  · rw [(rises_iff S l).1 hr k a b ha hb] at h; cases h
theorem right_long (S : Sh α) (l : List α) (k : Nat) (x : α) (h : l[k]? = some x) (hx : long S x = true) : right S l = 5 := by
  unfold right
  rw [if_pos (List.any_eq_true.2 ⟨x, List.mem_of_getElem? h, hx⟩)]
theorem right_drop (S : Sh α) (l : List α) (h : l.any (long S) = false) (hr : rises S l = false) : right S l = 30 := by
  unfold right; rw [h, hr]; rfl
theorem right_ok (S : Sh α) (l : List α) (h : l.any (long S) = false) (hr : rises S l = true) : right S l = 0 := by
  unfold right; rw [h, hr]; rfl
theorem any_snoc (S : Sh α) (l : List α) (k : Nat) (x : α) (h : l[k]? = some x) (h0 : (l.take k).any (long S) = false) (hx : long S x = false) : (l.take (k + 1)).any (long S) = false := by
  rw [take_snoc' l k x h, List.any_append, h0]; simp [hx]
theorem rises_upto (S : Sh α) (l : List α) (k : Nat) (x y : α) (hx : l[k]? = some x) (hy : l[k + 1]? = some y) (h : less (S.key x) (S.key y) = true)
    (h0 : ∀ j a b, j < k → l[j]? = some a → l[j + 1]? = some b → less (S.key a) (S.key b) = true) : ∀ j a b, j < k + 1 → l[j]? = some a → l[j + 1]? = some b → less (S.key a) (S.key b) = true := by
  intro j a b hj ha hb
  by_cases hk : j < k
  · exact h0 j a b hk ha hb
  · obtain rfl : j = k := by omega
    rw [hx] at ha; rw [hy] at hb; cases ha; cases hb; exact h
theorem rises_all (S : Sh α) (l : List α) (h0 : ∀ j a b, j < l.length - 1 → l[j]? = some a → l[j + 1]? = some b → less (S.key a) (S.key b) = true) : rises S l = true :=
  (rises_iff S l).2 fun k a b ha hb => h0 k a b (by have := (List.getElem?_eq_some_iff.1 hb).1; omega) ha hb
end Sl
end Go.Proofs.Ytdkkcogjkeonkaa
