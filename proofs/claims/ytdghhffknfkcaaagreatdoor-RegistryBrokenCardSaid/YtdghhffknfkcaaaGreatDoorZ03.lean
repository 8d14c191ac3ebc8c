/- Texts of one seat, merged. -/
import Derived.Test.YtdghhffknfkcaaaGreatDoorZ01
import Derived.Deep.DeepMust
import Derived.Deep.LoopGhost
import Derived.Deep.DeepCutAuto
import Derived.Deep.CutRange
import Derived.Deep.CutBlock
import Derived.Deep.QuietTactic
import Derived.OwnWalk
import Derived.Laws.OwnMore
import Derived.Laws.EntriesVeiled
import Derived.BigQuiet
import Derived.Deep.RegionHeld3
import Derived.Defers
import Derived.Recover
set_option maxRecDepth 100000
set_option maxHeartbeats 4000000
set_option linter.unusedVariables false
/- Plain facts of cells, their bytes and the body that they make; nothing of the program. -/
namespace Go.Proofs.YtdghhffknfkcaaaGreatDoor
namespace Sl
open Oc
def less : List UInt8 → List UInt8 → Bool
  | [], [] => false
  | [], _ :: _ => true
  | _ :: _, [] => false
  | a :: x, b :: y => a < b || (a == b && less x y)
theorem less_nil (u : List UInt8) : less u [] = false := by cases u <;> rfl
structure Cl where
  key : List UInt8
  val : List UInt8
  chain : Nat
  long : Nat
structure Kd where
  key : List UInt8
  page : Nat
def encKey (k : List UInt8) : List UInt8 := big 1 (min k.length 255) ++ k.take 255
def encC (c : Cl) : List UInt8 :=
  if c.chain ≠ 0 then encKey c.key ++ (big 1 1 ++ (big 4 c.chain ++ big 4 c.long))
  else encKey c.key ++ (big 1 0 ++ (big 2 (min c.val.length 65535) ++ c.val.take 65535))
def encK (k : Kd) : List UInt8 := encKey k.key ++ big 4 k.page
def fitsC (c : Cl) : Bool := decide (c.val.length ≤ (if c.chain ≠ 0 then 0 else 400))
/-- What is needed of a sort of cells. -/
structure Sh (α : Type) where
  enc : α → List UInt8
  key : α → List UInt8
  fits : α → Bool
def shC : Sh Cl := ⟨encC, Cl.key, fitsC⟩
def shK : Sh Kd := ⟨encK, Kd.key, fun _ => true⟩
variable {α : Type}
def long (S : Sh α) (x : α) : Bool := decide (255 < (S.key x).length) || !S.fits x
def rises (S : Sh α) : List α → Bool
  | a :: b :: l => less (S.key a) (S.key b) && rises S (b :: l)
  | _ => true
def right (S : Sh α) (l : List α) : Int := if l.any (long S) then 5 else if rises S l then 0 else 30
def sum (S : Sh α) (l : List α) : Nat := (l.map fun x => 2 + (S.enc x).length).sum
def begins (S : Sh α) : Nat → List α → List UInt8
  | _, [] => []
  | n, x :: l => big 2 n ++ begins S (n + (S.enc x).length) l
def body (S : Sh α) (l : List α) : List UInt8 := begins S (2 * l.length) l ++ l.flatMap S.enc
theorem encKey_len (k : List UInt8) : (encKey k).length = 1 + min k.length 255 := by
  unfold encKey; rw [List.length_append, big_length, List.length_take]; omega
theorem encC_len (c : Cl) : (encC c).length ≤ 65794 := by
  unfold encC; split <;> simp only [List.length_append, big_length, encKey_len, List.length_take] <;> omega
theorem encK_len (k : Kd) : (encK k).length ≤ 260 := by
  unfold encK; simp only [List.length_append, big_length, encKey_len]; omega
theorem begins_snoc (S : Sh α) (x : α) : ∀ (l : List α) (n : Nat), begins S n (l ++ [x]) = begins S n l ++ big 2 (n + (l.flatMap S.enc).length)
  | [], n => by simp [begins]
  | y :: l, n => by
    rw [List.cons_append, begins, begins, begins_snoc S x l, List.append_assoc, List.flatMap_cons, List.length_append, Nat.add_assoc]
theorem begins_len (S : Sh α) : ∀ (l : List α) (n : Nat), (begins S n l).length = 2 * l.length
  | [], _ => rfl
  | x :: l, n => by rw [begins, List.length_append, big_length, begins_len S l, List.length_cons]; omega
theorem flat_snoc (S : Sh α) (l : List α) (x : α) : (l ++ [x]).flatMap S.enc = l.flatMap S.enc ++ S.enc x := by
  rw [List.flatMap_append]; simp
theorem sum_snoc (S : Sh α) (l : List α) (x : α) : sum S (l ++ [x]) = sum S l + (2 + (S.enc x).length) := by
  unfold sum; rw [List.map_append, List.sum_append]; simp
theorem sum_eq (S : Sh α) (l : List α) : sum S l = 2 * l.length + (l.flatMap S.enc).length := by
  induction l with
  | nil => rfl
  | cons x l ih =>
    rw [List.flatMap_cons, List.length_append, List.length_cons]
    have : sum S (x :: l) = 2 + (S.enc x).length + sum S l := by unfold sum; rw [List.map_cons, List.sum_cons]
    omega
theorem body_len (S : Sh α) (l : List α) : (body S l).length = sum S l := by
  unfold body; rw [List.length_append, begins_len, sum_eq]
theorem take_snoc' (l : List α) (k : Nat) (x : α) (h : l[k]? = some x) : l.take (k + 1) = l.take k ++ [x] := by
  obtain ⟨hk, he⟩ := List.getElem?_eq_some_iff.1 h
  rw [List.take_succ_eq_append_getElem hk, he]
theorem sum_le (S : Sh α) (m : Nat) (hm : ∀ x, (S.enc x).length ≤ m) (l : List α) : sum S l ≤ (m + 2) * l.length := by
  induction l with
  | nil => exact Nat.zero_le _
  | cons x l ih =>
    have h1 : sum S (x :: l) = 2 + (S.enc x).length + sum S l := by unfold sum; rw [List.map_cons, List.sum_cons]
    have h2 := hm x
    rw [List.length_cons, Nat.mul_succ]
    omega
theorem flat_le (S : Sh α) (l : List α) : (l.flatMap S.enc).length ≤ sum S l := by rw [sum_eq]; omega
theorem sum_take (S : Sh α) (l : List α) (k : Nat) : sum S (l.take k) ≤ sum S l := by
  conv => rhs; rw [← List.take_append_drop k l]
  unfold sum; rw [List.map_append, List.sum_append]; omega
/-- No two neighbours that don't rise, as an index finds them. -/
theorem rises_iff (S : Sh α) : ∀ l : List α, rises S l = true ↔ ∀ k a b, l[k]? = some a → l[k + 1]? = some b → less (S.key a) (S.key b) = true
  | [] => by simp [rises]
  | [a] => by
    simp only [rises, true_iff]
    intro k a b _ h; simp at h
  | a :: b :: l => by
    rw [rises, Bool.and_eq_true, rises_iff S (b :: l)]
    constructor
    · rintro ⟨h1, h2⟩ k x y hx hy
      match k with
      | 0 => simp at hx hy; subst hx; subst hy; exact h1
      | k + 1 => exact h2 k x y (by simpa using hx) (by simpa using hy)
    · intro h
      refine ⟨h 0 a b (by simp) (by simp), fun k x y hx hy => h (k + 1) x y (by simpa using hx) (by simpa using hy)⟩
theorem rises_false (S : Sh α) (l : List α) (k : Nat) (a b : α) (ha : l[k]? = some a) (hb : l[k + 1]? = some b) (h : less (S.key a) (S.key b) = false) : rises S l = false := by
  cases hr : rises S l
  · rfl
  · rw [(rises_iff S l).1 hr k a b ha hb] at h; cases h
theorem right_long (S : Sh α) (l : List α) (k : Nat) (x : α) (h : l[k]? = some x) (hx : long S x = true) : right S l = 5 := by
  unfold right
  rw [if_pos (List.any_eq_true.2 ⟨x, List.mem_of_getElem? h, hx⟩)]
theorem right_drop (S : Sh α) (l : List α) (h : l.any (long S) = false) (hr : rises S l = false) : right S l = 30 := by
  unfold right; rw [h, hr]; rfl
theorem right_ok (S : Sh α) (l : List α) (h : l.any (long S) = false) (hr : rises S l = true) : right S l = 0 := by
  unfold right; rw [h, hr]; rfl
theorem any_snoc (S : Sh α) (l : List α) (k : Nat) (x : α) (h : l[k]? = some x) (h0 : (l.take k).any (long S) = false) (hx : long S x = false) : (l.take (k + 1)).any (long S) = false := by
  rw [take_snoc' l k x h, List.any_append, h0]; simp [hx]
theorem rises_upto (S : Sh α) (l : List α) (k : Nat) (x y : α) (hx : l[k]? = some x) (hy : l[k + 1]? = some y) (h : less (S.key x) (S.key y) = true)
    (h0 : ∀ j a b, j < k → l[j]? = some a → l[j + 1]? = some b → less (S.key a) (S.key b) = true) : ∀ j a b, j < k + 1 → l[j]? = some a → l[j + 1]? = some b → less (S.key a) (S.key b) = true := by
  intro j a b hj ha hb
  by_cases hk : j < k
  · exact h0 j a b hk ha hb
  · obtain rfl : j = k := by omega
    rw [hx] at ha; rw [hy] at hb; cases ha; cases hb; exact h
theorem rises_all (S : Sh α) (l : List α) (h0 : ∀ j a b, j < l.length - 1 → l[j]? = some a → l[j + 1]? = some b → less (S.key a) (S.key b) = true) : rises S l = true :=
  (rises_iff S l).2 fun k a b ha hb => h0 k a b (by have := (List.getElem?_eq_some_iff.1 hb).1; omega) ha hb
end Sl
end Go.Proofs.YtdghhffknfkcaaaGreatDoor
/- What a reader is in memory, and the contracts of the functions that read and fail. -/
namespace Go.Proofs.YtdghhffknfkcaaaGreatDoor
open Go.RowKit
structure Rd (w : World) (b : Nat) (s : ByteArray) (e : Int) : Prop where
  c0 : w.cell? ⟨b, 0, none⟩ = some (.string s)
  c1 : w.cell? ⟨b, 1, none⟩ = some (.int .i64 e)
  f0 : w.frozen? ⟨b, 0, none⟩ = false
  f1 : w.frozen? ⟨b, 1, none⟩ = false
structure Upd (b : Nat) (w w' : World) : Prop where
  os : w'.os = w.os
  tape : w'.tape = w.tape
  output : w'.output = w.output
  size : w'.heap.size = w.heap.size
  block : ∀ k, k ≠ b → w'.heap[k]? = w.heap[k]?
theorem Upd.refl (b : Nat) (w : World) : Upd b w w := ⟨rfl, rfl, rfl, rfl, fun _ _ => rfl⟩
theorem Upd.trans {b : Nat} {u v w : World} (h : Upd b u v) (k : Upd b v w) : Upd b u w :=
  ⟨k.os.trans h.os, k.tape.trans h.tape, k.output.trans h.output, k.size.trans h.size, fun i hi => (k.block i hi).trans (h.block i hi)⟩
theorem Upd.drew {b : Nat} {u v : World} (h : Upd b u v) : Upd b u v.drew := ⟨h.os, h.tape, h.output, h.size, h.block⟩
theorem Upd.drewN {b : Nat} {u v : World} (h : Upd b u v) (n : Nat) : Upd b u (v.drewN n) := ⟨h.os, h.tape, h.output, h.size, h.block⟩
theorem Upd.setCell {b o : Nat} {u v : World} (h : Upd b u v) (x : Value) : Upd b u (v.setCell ⟨b, o, none⟩ x) :=
  h.trans ⟨rfl, rfl, rfl, by simp [World.setCell], fun k hk => Below.heap_setCell _ _ _ _ hk⟩
theorem Upd.below {b B : Nat} {w w' : World} (h : Upd b w w') (hb : B ≤ b) : Below B w w' :=
  ⟨h.os, h.tape, h.output, Nat.le_of_eq h.size.symm, fun k hk => h.block k (by omega)⟩
theorem Rd.drew {w : World} {b : Nat} {s : ByteArray} {e : Int} (h : Rd w b s e) : Rd w.drew b s e := ⟨h.c0, h.c1, h.f0, h.f1⟩
theorem Rd.drewN {w : World} {b : Nat} {s : ByteArray} {e : Int} (h : Rd w b s e) (n : Nat) : Rd (w.drewN n) b s e := ⟨h.c0, h.c1, h.f0, h.f1⟩
theorem Rd.set1 {w : World} {b : Nat} {s : ByteArray} {e : Int} (h : Rd w b s e) (x : Int) : Rd (w.setCell ⟨b, 1, none⟩ (.int .i64 x)) b s x :=
  ⟨by rw [World.cell?_setCell_other _ _ _ _ (fun h => by cases h), h.c0], World.cell?_setCell_same' _ _ _ (by rw [h.c1]; rfl), by rw [World.frozen?_setCell, h.f0], by rw [World.frozen?_setCell, h.f1]⟩
theorem Rd.set0 {w : World} {b : Nat} {s : ByteArray} {e : Int} (h : Rd w b s e) (x : ByteArray) : Rd (w.setCell ⟨b, 0, none⟩ (.string x)) b x e :=
  ⟨World.cell?_setCell_same' _ _ _ (by rw [h.c0]; rfl), by rw [World.cell?_setCell_other _ _ _ _ (fun h => by cases h), h.c1], by rw [World.frozen?_setCell, h.f0], by rw [World.frozen?_setCell, h.f1]⟩
theorem Rd.upd {w w' : World} {b c : Nat} {s : ByteArray} {e : Int} (h : Rd w b s e) (u : Upd c w w') (hne : b ≠ c) : Rd w' b s e := by
  have hB := u.block b hne
  exact ⟨(World.cell?_of_block (w := w) hB).trans h.c0, (World.cell?_of_block (w := w) hB).trans h.c1, (World.frozen?_of_block (w := w) hB).trans h.f0, (World.frozen?_of_block (w := w) hB).trans h.f1⟩
theorem Rd.below {w w' : World} {b : Nat} {s : ByteArray} {e : Int} (h : Rd w b s e) (hb : Below w.heap.size w w') : Rd w' b s e := by
  have hB := hb.block b (block_lt_of_cell h.c0)
  exact ⟨(World.cell?_of_block (w := w) hB).trans h.c0, (World.cell?_of_block (w := w) hB).trans h.c1, (World.frozen?_of_block (w := w) hB).trans h.f0, (World.frozen?_of_block (w := w) hB).trans h.f1⟩
theorem over_any (s : ByteArray) (w : World) :
    Calls Tryz.prog 20 #[.string s] w fun e w' => e = .returned (.pointer (some ⟨w.heap.size, 0, none⟩)) ∧ Rd w' w.heap.size s 0 ∧ Below w.heap.size w w' := by
  go_enter Tryz.func20, Tryz.ntmps20
  go_wp2
  go_ret
  refine ⟨rfl, ?_, (Below.refl _ _).alloc (Nat.le_refl _) _⟩
  constructor <;> simp
theorem err_any (b : Nat) (s : ByteArray) (e : Int) (w : World) (h : Rd w b s e) :
    Calls Tryz.prog 60 #[.pointer (some ⟨b, 0, none⟩)] w fun x w' => x = .returned (.int .i64 e) ∧ w = w' := by
  obtain ⟨c0, c1, f0, f1⟩ := h
  go_enter Tryz.func60, Tryz.ntmps60
  go_wp2
  go_ret
  exact ⟨rfl, rfl⟩
theorem left_any (b : Nat) (s : ByteArray) (e : Int) (w : World) (h : Rd w b s e) :
    Calls Tryz.prog 140 #[.pointer (some ⟨b, 0, none⟩)] w fun x w' => x = .returned (.int .i64 s.size) ∧ w = w' := by
  obtain ⟨c0, c1, f0, f1⟩ := h
  go_enter Tryz.func140, Tryz.ntmps140
  go_wp2
  go_ret
  exact ⟨rfl, rfl⟩
theorem fail_any (b : Nat) (s : ByteArray) (e x : Int) (w : World) (h : Rd w b s e) :
    Calls Tryz.prog 61 #[.pointer (some ⟨b, 0, none⟩), .int .i64 x] w fun v w' => v = .returned (.tuple #[]) ∧ Rd w' b s (if e = 0 then x else e) ∧ Upd b w w' := by
  have hR := h
  obtain ⟨c0, c1, f0, f1⟩ := h
  by_cases he : e = 0
  · subst he
    go_enter Tryz.func61, Tryz.ntmps61
    go_wp2
    go_end0
    exact ⟨rfl, hR.set1 x, (Upd.refl _ _).setCell _⟩
  · have hd : (e == 0) = false := by rw [beq_eq_false_iff_ne]; exact he
    rw [if_neg he]
    go_enter Tryz.func61, Tryz.ntmps61
    go_wp2
    go_end0
    exact ⟨rfl, hR, Upd.refl _ _⟩
theorem take_bad (b : Nat) (s : ByteArray) (e n : Int) (w : World) (h : Rd w b s e) (he : e ≠ 0) :
    Calls Tryz.prog 21 #[.pointer (some ⟨b, 0, none⟩), .int .i64 n] w fun v w' => v = .returned (.string ByteArray.empty) ∧ w = w' := by
  have hd : (e == 0) = false := by rw [beq_eq_false_iff_ne]; exact he
  have hd' : (e != 0) = true := by rw [bne_iff_ne]; exact he
  go_enter Tryz.func21, Tryz.ntmps21
  go_wp2_with (go_at_call 60; refine (err_any b s e _ h).mono ?_; rintro x w1 ⟨rfl, rfl⟩)
  go_ret
  exact ⟨rfl, rfl⟩
theorem take_short (b : Nat) (s : ByteArray) (n : Int) (w : World) (h : Rd w b s 0) (hn : n < 0 ∨ (s.size : Int) < n) :
    Calls Tryz.prog 21 #[.pointer (some ⟨b, 0, none⟩), .int .i64 n] w fun v w' => v = .returned (.string ByteArray.empty) ∧ Rd w' b s 3 ∧ Upd b w w' := by
  have c0 := h.c0
  by_cases h1 : n < 0
  · go_enter Tryz.func21, Tryz.ntmps21
    go_wp2_with (first
      | (go_at_call 60; refine (err_any b s 0 _ h).mono ?_; rintro x w1 ⟨rfl, rfl⟩)
      | (go_at_call 61; refine (fail_any b s 0 3 _ h).mono ?_; rintro x w1 ⟨rfl, hr, hu⟩))
    go_ret
    exact ⟨rfl, hr, hu⟩
  · have h2 : (s.size : Int) < n := by omega
    go_enter Tryz.func21, Tryz.ntmps21
    go_wp2_with (first
      | (go_at_call 60; refine (err_any b s 0 _ h).mono ?_; rintro x w1 ⟨rfl, rfl⟩)
      | (go_at_call 61; refine (fail_any b s 0 3 _ h).mono ?_; rintro x w1 ⟨rfl, hr, hu⟩))
    go_ret
    exact ⟨rfl, hr, hu⟩
theorem take_ok (b : Nat) (s : ByteArray) (n : Nat) (w : World) (h : Rd w b s 0) (hn : n ≤ s.size) :
    Calls Tryz.prog 21 #[.pointer (some ⟨b, 0, none⟩), .int .i64 n] w fun v w' => v = .returned (.string (s.extract 0 n)) ∧ Rd w' b (s.extract n s.size) 0 ∧ Upd b w w' := by
  have c0 := h.c0
  have f0 := h.f0
  have h1 : ¬ (n : Int) < 0 := by omega
  have h2 : ¬ (s.size : Int) < (n : Int) := by omega
  have h3 : (n : Int) ≤ (s.size : Int) := by omega
  go_enter Tryz.func21, Tryz.ntmps21
  go_wp2_with (go_at_call 60; refine (err_any b s 0 _ h).mono ?_; rintro x w1 ⟨rfl, rfl⟩)
  go_ret
  exact ⟨rfl, h.set0 _, (Upd.refl _ _).setCell _⟩
def tk (s : ByteArray) (e n : Int) : ByteArray × ByteArray × Int :=
  if e ≠ 0 then (ByteArray.empty, s, e) else if n < 0 ∨ (s.size : Int) < n then (ByteArray.empty, s, 3) else (s.extract 0 n.toNat, s.extract n.toNat s.size, 0)
theorem tk_bad (s : ByteArray) (e n : Int) (h : e ≠ 0) : tk s e n = (ByteArray.empty, s, e) := by unfold tk; rw [if_pos h]
theorem tk_short (s : ByteArray) (n : Int) (h : n < 0 ∨ (s.size : Int) < n) : tk s 0 n = (ByteArray.empty, s, 3) := by unfold tk; rw [if_neg (by decide), if_pos h]
theorem tk_ok (s : ByteArray) (n : Nat) (h : n ≤ s.size) : tk s 0 n = (s.extract 0 n, s.extract n s.size, 0) := by
  unfold tk; rw [if_neg (by decide), if_neg (by omega)]; rfl
theorem take_any (b : Nat) (s : ByteArray) (e n : Int) (w : World) (h : Rd w b s e) :
    Calls Tryz.prog 21 #[.pointer (some ⟨b, 0, none⟩), .int .i64 n] w fun v w' => v = .returned (.string (tk s e n).1) ∧ Rd w' b (tk s e n).2.1 (tk s e n).2.2 ∧ Upd b w w' := by
  by_cases he : e = 0
  · subst he
    by_cases hn : n < 0 ∨ (s.size : Int) < n
    · rw [tk_short s n hn]; exact take_short b s n w h hn
    · obtain ⟨m, rfl⟩ : ∃ m : Nat, n = m := ⟨n.toNat, by omega⟩
      rw [tk_ok s m (by omega)]; exact take_ok b s m w h (by omega)
  · rw [tk_bad s e n he]
    exact (take_bad b s e n w h he).mono fun v w' ⟨h1, h2⟩ => ⟨h1, h2 ▸ h, h2 ▸ Upd.refl _ _⟩
theorem tk_size (s : ByteArray) (e : Int) (k : Nat) : (tk s e k).1.size ≤ k := by
  unfold tk
  split
  · exact Nat.zero_le _
  · split
    · exact Nat.zero_le _
    · rw [ByteArray.size_extract]; omega
theorem take_snoc (s : ByteArray) (k : Nat) (h : k < s.size) : s.data.toList.take (k + 1) = s.data.toList.take k ++ [s[k]] := by
  rw [List.take_succ_eq_append_getElem (by simpa using h)]; rfl
theorem u64_or_byte (v c : Nat) (hv : v < 72057594037927936) (hc : c < 256) : bits .or .u64 (IntKind.u64.wrap ((v : Int) * 256)) (IntKind.u64.wrap (c : Int)) = ((v * 256 + c : Nat) : Int) := by
  have h1 : IntKind.u64.wrap ((v : Int) * 256) = ((v * 256 : Nat) : Int) := by rw [IntKind.wrap_u64]; omega
  have h2 : IntKind.u64.wrap (c : Int) = ((c : Nat) : Int) := by rw [IntKind.wrap_u64]; omega
  rw [h1, h2, u64_or_nat _ _ (by omega) (by omega)]
  have := Nat.shiftLeft_add_eq_or_of_lt (i := 8) (b := c) (by omega) v
  rw [Nat.shiftLeft_eq] at this
  rw [show v * 256 = v * 2 ^ 8 by rfl, this]
theorem val_take (t : ByteArray) (m : Nat) (h : m < t.size) (h8 : t.size ≤ 8) : Oc.val (t.data.toList.take m) < 72057594037927936 := by
  refine Nat.lt_of_lt_of_le (Oc.val_lt _) ?_
  rw [List.length_take]
  exact Nat.le_trans (Nat.pow_le_pow_right (by omega) (show min m t.data.toList.length ≤ 7 by omega)) (by decide)
theorem ret_int {k : IntKind} {a b : Int} (h : a = b) : Ending.returned (.int k a) = .returned (.int k b) := by rw [h]
theorem ret_bool {a b : Bool} (h : a = b) : Ending.returned (.bool a) = .returned (.bool b) := by rw [h]
theorem number_any (b : Nat) (s : ByteArray) (e : Int) (k : Nat) (hk : k ≤ 8) (w : World) (h : Rd w b s e) :
    Calls Tryz.prog 62 #[.pointer (some ⟨b, 0, none⟩), .int .i64 k] w fun v w' => v = .returned (.int .u64 (Oc.val (tk s e k).1.data.toList : Nat)) ∧ Rd w' b (tk s e k).2.1 (tk s e k).2.2 ∧ Upd b w w' := by
  have hz := tk_size s e k
  have ht := take_any b s e k w h
  revert hz ht
  generalize tk s e k = T
  obtain ⟨t, r⟩ := T
  intro hz ht
  simp only at hz ht
  have HT := Lib.hid ht
  clear ht
  go_enter Tryz.func62, Tryz.ntmps62
  go_wp2_with (go_at_call 21; refine HT.out.mono ?_; rintro x w1 ⟨rfl, hr, hu⟩)
  have HR := Lib.hid hr
  have HU := Lib.hid hu
  clear hr hu
  go_loop [6, 13] (fun v i => ∃ m : Nat, m ≤ t.size ∧ i = .int .i64 m ∧ v = .int .u64 (Oc.val (t.data.toList.take m) : Nat)) (fun _ i => t.size - (intOf i).toNat)
  case atStart => exact ⟨0, by omega, rfl, rfl⟩
  case round =>
    obtain ⟨m, hm, rfl, rfl⟩ := hrel
    by_cases hlt : m < t.size
    · go_wp2
      go_round
      case rel =>
        refine ⟨m + 1, by omega, by go_num, ?_⟩
        rw [u64_or_byte _ _ (val_take t m hlt (by omega)) t[m].toNat_lt, take_snoc t m hlt, Oc.val_snoc]
      case measure => simp [intOf]; omega
    · obtain rfl : m = t.size := by omega
      go_wp2
      go_ret
      refine ⟨ret_int ?_, HR.out, HU.out⟩
      rw [List.take_of_length_le (by simp)]
theorem one_rd (b : Nat) (s : ByteArray) (e : Int) (w : World) (h : Rd w b s e) :
    Calls Tryz.prog 135 #[.pointer (some ⟨b, 0, none⟩)] w fun v w' => v = .returned (.int .u8 (Oc.val (tk s e 1).1.data.toList : Nat)) ∧ Rd w' b (tk s e 1).2.1 (tk s e 1).2.2 ∧ Upd b w w' := by
  have hv := Nat.lt_of_lt_of_le (Oc.val_lt (tk s e 1).1.data.toList) (Nat.pow_le_pow_right (by omega) (tk_size s e 1))
  have HT := Lib.hid (number_any b s e 1 (by omega) w h)
  revert hv HT
  generalize tk s e 1 = T
  intro hv HT
  go_enter Tryz.func135, Tryz.ntmps135
  go_wp2_with (go_at_call 62; refine HT.out.mono ?_; rintro x w1 ⟨rfl, hr, hu⟩)
  go_ret
  exact ⟨rfl, hr, hu⟩
theorem four_rd (b : Nat) (s : ByteArray) (e : Int) (w : World) (h : Rd w b s e) :
    Calls Tryz.prog 98 #[.pointer (some ⟨b, 0, none⟩)] w fun v w' => v = .returned (.int .u32 (Oc.val (tk s e 4).1.data.toList : Nat)) ∧ Rd w' b (tk s e 4).2.1 (tk s e 4).2.2 ∧ Upd b w w' := by
  have hv := Nat.lt_of_lt_of_le (Oc.val_lt (tk s e 4).1.data.toList) (Nat.pow_le_pow_right (by omega) (tk_size s e 4))
  have HT := Lib.hid (number_any b s e 4 (by omega) w h)
  revert hv HT
  generalize tk s e 4 = T
  intro hv HT
  go_enter Tryz.func98, Tryz.ntmps98
  go_wp2_with (go_at_call 62; refine HT.out.mono ?_; rintro x w1 ⟨rfl, hr, hu⟩)
  go_ret
  exact ⟨rfl, hr, hu⟩
theorem eight_rd (b : Nat) (s : ByteArray) (e : Int) (w : World) (h : Rd w b s e) :
    Calls Tryz.prog 22 #[.pointer (some ⟨b, 0, none⟩)] w fun v w' => v = .returned (.int .u64 (Oc.val (tk s e 8).1.data.toList : Nat)) ∧ Rd w' b (tk s e 8).2.1 (tk s e 8).2.2 ∧ Upd b w w' := by
  have HT := Lib.hid (number_any b s e 8 (by omega) w h)
  revert HT
  generalize tk s e 8 = T
  intro HT
  go_enter Tryz.func22, Tryz.ntmps22
  go_wp2_with (go_at_call 62; refine HT.out.mono ?_; rintro x w1 ⟨rfl, hr, hu⟩)
  go_ret
  exact ⟨rfl, hr, hu⟩
/-- What a number that may be too great leaves: the number, the bytes, the error. -/
def cnt (s : ByteArray) (e most x : Int) : Nat × ByteArray × Int :=
  let T := tk s e 4
  if (Oc.val T.1.data.toList : Int) > (if 0 ≤ most then most else 0) then (0, T.2.1, if T.2.2 = 0 then x else T.2.2) else (Oc.val T.1.data.toList, T.2.1, T.2.2)
theorem count_any (b : Nat) (s : ByteArray) (e most x : Int) (hm : most < 9223372036854775808) (w : World) (h : Rd w b s e) :
    Calls Tryz.prog 131 #[.pointer (some ⟨b, 0, none⟩), .int .i64 most, .int .i64 x] w fun v w' => v = .returned (.int .i64 (cnt s e most x).1) ∧ Rd w' b (cnt s e most x).2.1 (cnt s e most x).2.2 ∧ Upd b w w' := by
  have hv := Nat.lt_of_lt_of_le (Oc.val_lt (tk s e 4).1.data.toList) (Nat.pow_le_pow_right (by omega) (tk_size s e 4))
  have HT := Lib.hid (four_rd b s e w h)
  unfold cnt
  revert hv HT
  generalize tk s e 4 = T
  obtain ⟨t, r, f⟩ := T
  intro hv HT
  simp only at hv HT ⊢
  revert hv HT
  generalize Oc.val t.data.toList = n
  intro hv HT
  obtain ⟨y, hy⟩ : ∃ y : Int, (if f = 0 then x else f) = y := ⟨_, rfl⟩
  have HF := Lib.hid (fun W (H : Rd W b r f) => fail_any b r f x W H)
  rw [hy] at HF ⊢
  clear hy
  by_cases h0 : 0 ≤ most
  · rw [if_pos h0]
    by_cases hn : (n : Int) > most
    · rw [if_pos hn]
      go_enter Tryz.func131, Tryz.ntmps131
      go_wp2_with (first
        | (go_at_call 98; refine HT.out.mono ?_; rintro x w1 ⟨rfl, hr, hu⟩)
        | (go_at_call 61; refine (HF.out _ hr).mono ?_; rintro x w2 ⟨rfl, hr2, hu2⟩))
      go_ret
      exact ⟨rfl, hr2, hu.trans hu2⟩
    · rw [if_neg hn]
      go_enter Tryz.func131, Tryz.ntmps131
      go_wp2_with (go_at_call 98; refine HT.out.mono ?_; rintro x w1 ⟨rfl, hr, hu⟩)
      go_ret
      exact ⟨rfl, hr, hu⟩
  · rw [if_neg h0]
    by_cases hn : (n : Int) > 0
    · rw [if_pos hn]
      go_enter Tryz.func131, Tryz.ntmps131
      go_wp2_with (first
        | (go_at_call 98; refine HT.out.mono ?_; rintro x w1 ⟨rfl, hr, hu⟩)
        | (go_at_call 61; refine (HF.out _ hr).mono ?_; rintro x w2 ⟨rfl, hr2, hu2⟩))
      go_ret
      exact ⟨rfl, hr2, hu.trans hu2⟩
    · rw [if_neg hn]
      go_enter Tryz.func131, Tryz.ntmps131
      go_wp2_with (go_at_call 98; refine HT.out.mono ?_; rintro x w1 ⟨rfl, hr, hu⟩)
      go_ret
      exact ⟨rfl, hr, hu⟩
/-- What a text of at most so many bytes leaves. -/
def txt (s : ByteArray) (e most : Int) : ByteArray × ByteArray × Int :=
  let C := cnt s e most 5
  tk C.2.1 C.2.2 C.1
theorem text_rd (b : Nat) (s : ByteArray) (e most : Int) (hm : most < 9223372036854775808) (w : World) (h : Rd w b s e) :
    Calls Tryz.prog 99 #[.pointer (some ⟨b, 0, none⟩), .int .i64 most] w fun v w' => v = .returned (.string (txt s e most).1) ∧ Rd w' b (txt s e most).2.1 (txt s e most).2.2 ∧ Upd b w w' := by
  have HC := Lib.hid (count_any b s e most 5 hm w h)
  unfold txt
  revert HC
  generalize cnt s e most 5 = C
  intro HC
  simp only
  have HT := Lib.hid (fun W (H : Rd W b C.2.1 C.2.2) => take_any b C.2.1 C.2.2 C.1 W H)
  revert HT
  generalize tk C.2.1 C.2.2 C.1 = T
  intro HT
  go_enter Tryz.func99, Tryz.ntmps99
  go_wp2_with (first
    | (go_at_call 131; refine HC.out.mono ?_; rintro x w1 ⟨rfl, hr, hu⟩)
    | (go_at_call 21; refine (HT.out _ hr).mono ?_; rintro x w2 ⟨rfl, hr2, hu2⟩))
  go_ret
  exact ⟨rfl, hr2, hu.trans hu2⟩
/-- What End answers. -/
def fin (s : ByteArray) (e : Int) : Int := if e = 0 ∧ 0 < s.size then 4 else e
theorem end_rd (b : Nat) (s : ByteArray) (e : Int) (w : World) (h : Rd w b s e) :
    Calls Tryz.prog 105 #[.pointer (some ⟨b, 0, none⟩)] w fun v w' => v = .returned (.int .i64 (fin s e)) ∧ w = w' := by
  unfold fin
  by_cases he : e = 0
  · subst he
    by_cases hs : 0 < s.size
    · have hs' : (0 : Int) < s.size := by omega
      rw [if_pos ⟨rfl, hs⟩]
      go_enter Tryz.func105, Tryz.ntmps105
      go_wp2_with (first
        | (go_at_call 60; refine (err_any b s 0 _ h).mono ?_; rintro x w1 ⟨rfl, rfl⟩)
        | (go_at_call 140; refine (left_any b s 0 _ h).mono ?_; rintro x w1 ⟨rfl, rfl⟩))
      go_ret
      exact ⟨rfl, rfl⟩
    · have hs' : ¬ (0 : Int) < s.size := by omega
      rw [if_neg (fun hh => hs hh.2)]
      go_enter Tryz.func105, Tryz.ntmps105
      go_wp2_with (first
        | (go_at_call 60; refine (err_any b s 0 _ h).mono ?_; rintro x w1 ⟨rfl, rfl⟩)
        | (go_at_call 140; refine (left_any b s 0 _ h).mono ?_; rintro x w1 ⟨rfl, rfl⟩))
      go_ret
      exact ⟨rfl, rfl⟩
  · have hd : (e == 0) = false := by rw [beq_eq_false_iff_ne]; exact he
    rw [if_neg (fun hh => he hh.1)]
    go_enter Tryz.func105, Tryz.ntmps105
    go_wp2_with (first
      | (go_at_call 60; refine (err_any b s e _ h).mono ?_; rintro x w1 ⟨rfl, rfl⟩)
      | (go_at_call 140; refine (left_any b s e _ h).mono ?_; rintro x w1 ⟨rfl, rfl⟩))
    go_ret
    exact ⟨rfl, rfl⟩
end Go.Proofs.YtdghhffknfkcaaaGreatDoor
/- The contracts of the document's own reader. -/
namespace Go.Proofs.YtdghhffknfkcaaaGreatDoor
open Go.RowKit
theorem u64_add_byte (v c : Nat) (hv : v < 72057594037927936) (hc : c < 256) : IntKind.u64.wrap (IntKind.u64.wrap ((v : Int) * 256) + IntKind.u64.wrap (c : Int)) = ((v * 256 + c : Nat) : Int) := by
  rw [IntKind.wrap_u64, IntKind.wrap_u64, IntKind.wrap_u64]; omega
theorem txt_eq (s : ByteArray) (e most : Int) :
    txt s e most = if (Oc.val (tk s e 4).1.data.toList : Int) > (if 0 ≤ most then most else 0) then (ByteArray.empty, (tk s e 4).2.1, if (tk s e 4).2.2 = 0 then 5 else (tk s e 4).2.2) else tk (tk s e 4).2.1 (tk s e 4).2.2 (Oc.val (tk s e 4).1.data.toList) := by
  unfold txt cnt
  generalize tk s e 4 = T
  generalize (if 0 ≤ most then most else 0) = q
  by_cases h : (Oc.val T.1.data.toList : Int) > q
  · rw [if_pos h, if_pos h]
    refine tk_bad _ _ _ ?_
    show (if T.2.2 = 0 then (5 : Int) else T.2.2) ≠ 0
    split
    · decide
    · assumption
  · rw [if_neg h, if_neg h]
end Go.Proofs.YtdghhffknfkcaaaGreatDoor
/- The contract of the laws' own example. -/
namespace Go.Proofs.YtdghhffknfkcaaaGreatDoor
open Go.RowKit
theorem tk_example : tk ⟨#[0, 0, 1, 2]⟩ 0 4 = (⟨#[0, 0, 1, 2]⟩, ⟨#[]⟩, 0) := by decide +kernel
theorem four_258 (w : World) : Calls Tryz.prog 94 #[.int .u32 258] w fun e w' => e = .returned (.string ⟨#[0, 0, 1, 2]⟩) ∧ Below w.heap.size w w' :=
  four_at 258 258 rfl (by decide) w
theorem four_example (b : Nat) (w : World) (h : Rd w b ⟨#[0, 0, 1, 2]⟩ 0) :
    Calls Tryz.prog 98 #[.pointer (some ⟨b, 0, none⟩)] w fun v w' => v = .returned (.int .u32 258) ∧ Rd w' b ⟨#[]⟩ 0 ∧ Upd b w w' := by
  have := four_rd b ⟨#[0, 0, 1, 2]⟩ 0 w h
  rw [tk_example] at this
  exact this
theorem end_example (b : Nat) (w : World) (h : Rd w b ⟨#[]⟩ 0) :
    Calls Tryz.prog 105 #[.pointer (some ⟨b, 0, none⟩)] w fun v w' => v = .returned (.int .i64 0) ∧ w = w' := end_rd b ⟨#[]⟩ 0 w h
end Go.Proofs.YtdghhffknfkcaaaGreatDoor
/- The walk of the law OctetWrites. -/
namespace Go.Proofs.YtdghhffknfkcaaaGreatDoor
open Go.RowKit
theorem below_step {a b c : World} (h : Below a.heap.size a b) (k : Below b.heap.size b c) : Below a.heap.size a c := h.trans (k.mono h.size)
theorem big1 (x : Int) (n : Nat) (hx : x = n) (hn : n < 256) (w : World) :
    Calls Tryz.prog 156 #[.int .u64 x, .int .i64 1] w fun e w' => e = .returned (.string (str (Oc.big 1 n))) ∧ Below w.heap.size w w' := big_any x n 1 hx (by omega) (by omega) (by omega) w
theorem big2 (x : Int) (n : Nat) (hx : x = n) (hn : n < 65536) (w : World) :
    Calls Tryz.prog 156 #[.int .u64 x, .int .i64 2] w fun e w' => e = .returned (.string (str (Oc.big 2 n))) ∧ Below w.heap.size w w' := big_any x n 2 hx (by omega) (by omega) (by omega) w
theorem big4 (x : Int) (n : Nat) (hx : x = n) (hn : n < 4294967296) (w : World) :
    Calls Tryz.prog 156 #[.int .u64 x, .int .i64 4] w fun e w' => e = .returned (.string (str (Oc.big 4 n))) ∧ Below w.heap.size w w' := big_any x n 4 hx (by omega) (by omega) (by omega) w
theorem big8 (x : Int) (n : Nat) (hx : x = n) (hn : n < 18446744073709551616) (w : World) :
    Calls Tryz.prog 156 #[.int .u64 x, .int .i64 8] w fun e w' => e = .returned (.string (str (Oc.big 8 n))) ∧ Below w.heap.size w w' := big_any x n 8 hx (by omega) (by omega) (by omega) w
end Go.Proofs.YtdghhffknfkcaaaGreatDoor
/- The walk of the law OctetReads: two readers side by side. -/
namespace Go.Proofs.YtdghhffknfkcaaaGreatDoor
open Go.RowKit
theorem Rd.alloc {w : World} {b : Nat} {s : ByteArray} {e : Int} (h : Rd w b s e) (o : Obj) : Rd (w.alloc o) b s e := h.below ((Below.refl _ _).alloc (Nat.le_refl _) _)
theorem Upd.cell {b : Nat} {w w' : World} (h : Upd b w w') {p : Addr} (hp : p.block ≠ b) : w'.cell? p = w.cell? p := World.cell?_of_block (w := w) (h.block p.block hp)
theorem valtk_lt (s : ByteArray) (e : Int) (k : Nat) : Oc.val (tk s e k).1.data.toList < 256 ^ k :=
  Nat.lt_of_lt_of_le (Oc.val_lt _) (Nat.pow_le_pow_right (by omega) (tk_size s e k))
end Go.Proofs.YtdghhffknfkcaaaGreatDoor
/- What stays as it was while one block is turned. -/
namespace Go.Proofs.YtdghhffknfkcaaaGreatDoor
open Go.RowKit
/-- Of what was there nothing has turned but block b. -/
structure Mod (b : Nat) (w w' : World) : Prop where
  os : w'.os = w.os
  tape : w'.tape = w.tape
  output : w'.output = w.output
  size : w.heap.size ≤ w'.heap.size
  block : ∀ k, k < w.heap.size → k ≠ b → w'.heap[k]? = w.heap[k]?
theorem Mod.refl (b : Nat) (w : World) : Mod b w w := ⟨rfl, rfl, rfl, Nat.le_refl _, fun _ _ _ => rfl⟩
theorem Mod.trans {b : Nat} {u v w : World} (h : Mod b u v) (k : Mod b v w) : Mod b u w :=
  ⟨k.os.trans h.os, k.tape.trans h.tape, k.output.trans h.output, Nat.le_trans h.size k.size, fun i hi hne => (k.block i (Nat.lt_of_lt_of_le hi h.size) hne).trans (h.block i hi hne)⟩
theorem Mod.upd {b : Nat} {u v w : World} (h : Mod b u v) (k : Upd b v w) : Mod b u w :=
  h.trans ⟨k.os, k.tape, k.output, Nat.le_of_eq k.size.symm, fun i _ hne => k.block i hne⟩
theorem Mod.step {b : Nat} {u v w : World} (h : Mod b u v) (k : Below v.heap.size v w) : Mod b u w :=
  h.trans ⟨k.os, k.tape, k.output, k.size, fun i hi _ => k.block i hi⟩
theorem Mod.alloc {b : Nat} {u v : World} (h : Mod b u v) (o : Obj) : Mod b u (v.alloc o) := h.step ((Below.refl _ _).alloc (Nat.le_refl _) _)
theorem Mod.below {b B : Nat} {w w' : World} (h : Mod b w w') (hb : B ≤ b) (hB : B ≤ w.heap.size) : Below B w w' :=
  ⟨h.os, h.tape, h.output, h.size, fun k hk => h.block k (by omega) (by omega)⟩
theorem Mod.cell {b : Nat} {w w' : World} (h : Mod b w w') {p : Addr} (hp : p.block < w.heap.size) (hne : p.block ≠ b) : w'.cell? p = w.cell? p := World.cell?_of_block (w := w) (h.block p.block hp hne)
theorem Mod.frozen {b : Nat} {w w' : World} (h : Mod b w w') {p : Addr} (hp : p.block < w.heap.size) (hne : p.block ≠ b) : w'.frozen? p = w.frozen? p := World.frozen?_of_block (w := w) (h.block p.block hp hne)
theorem Mod.step' {b : Nat} {u v w : World} (h : Mod b u v) (k : Below u.heap.size v w) : Mod b u w :=
  ⟨k.os.trans h.os, k.tape.trans h.tape, k.output.trans h.output, Nat.le_trans h.size k.size, fun i hi hne => (k.block i hi).trans (h.block i hi hne)⟩
theorem Rd.below' {w w' : World} {b B : Nat} {s : ByteArray} {e : Int} (h : Rd w b s e) (hb : Below B w w') (hlt : b < B) : Rd w' b s e := by
  have hB := hb.block b hlt
  exact ⟨(World.cell?_of_block (w := w) hB).trans h.c0, (World.cell?_of_block (w := w) hB).trans h.c1, (World.frozen?_of_block (w := w) hB).trans h.f0, (World.frozen?_of_block (w := w) hB).trans h.f1⟩
theorem own_upd {w w' : World} {b B : Nat} {e : TypeId} {s : Nat} {v : Value} {n : Nat} {xs : List Value} (h : w.ownsRow B e s v n xs) (u : Upd b w w') (hb : b < B) : w'.ownsRow B e s v n xs := by
  obtain ⟨h0, h1⟩ := h
  refine ⟨h0, ?_⟩
  rcases h1 with h1 | ⟨g, cap, cur, hv, hg, hh, rest⟩
  · exact .inl h1
  · exact .inr ⟨g, cap, cur, hv, hg, by rw [u.block g (by omega), hh], rest⟩
theorem own_mod {w w' : World} {b B : Nat} {e : TypeId} {s : Nat} {v : Value} {n : Nat} {xs : List Value} (h : w.ownsRow B e s v n xs) (m : Mod b w w') (hb : b < B) : w'.ownsRow B e s v n xs := by
  obtain ⟨h0, h1⟩ := h
  refine ⟨h0, ?_⟩
  rcases h1 with h1 | ⟨g, cap, cur, hv, hg, hh, rest⟩
  · exact .inl h1
  · have hlt : g < w.heap.size := by
      rcases Nat.lt_or_ge g w.heap.size with h' | h'
      · exact h'
      · rw [Array.getElem?_eq_none h'] at hh; cases hh
    exact .inr ⟨g, cap, cur, hv, hg, by rw [m.block g hlt (by omega), hh], rest⟩
theorem own_below {w w' : World} {B B' : Nat} {e : TypeId} {s : Nat} {v : Value} {n : Nat} {xs : List Value} (h : w.ownsRow B e s v n xs) (hb : Below B' w w') (hB : w.heap.size ≤ B') : w'.ownsRow B e s v n xs := by
  obtain ⟨h0, h1⟩ := h
  refine ⟨h0, ?_⟩
  rcases h1 with h1 | ⟨g, cap, cur, hv, hg, hh, rest⟩
  · exact .inl h1
  · have hlt : g < w.heap.size := by
      rcases Nat.lt_or_ge g w.heap.size with h' | h'
      · exact h'
      · rw [Array.getElem?_eq_none h'] at hh; cases hh
    exact .inr ⟨g, cap, cur, hv, hg, by rw [hb.block g (by omega), hh], rest⟩
theorem Mod.old {b : Nat} {w w' : World} {o : Obj} (h : Mod b (w.alloc o) w') : Mod b w w' := ((Mod.refl b w).alloc o).trans h
theorem Rd.lt {w : World} {b : Nat} {s : ByteArray} {e : Int} (h : Rd w b s e) : b < w.heap.size := World.block_lt_of_cell? _ _ h.c0
end Go.Proofs.YtdghhffknfkcaaaGreatDoor
/- The contracts of what lays one cell: first, putKey, putCell, and a shape's own functions. -/
namespace Go.Proofs.YtdghhffknfkcaaaGreatDoor
open Go.RowKit
open Sl (Cl Kd)
theorem below_off {w w1 : World} {o : Obj} (h : Below (w.alloc o).drew.heap.size (w.alloc o).drew w1) : Below w.heap.size w w1 :=
  (((Below.refl _ _).alloc (Nat.le_refl _) o).drew).trans (h.mono (by show w.heap.size ≤ (w.alloc o).heap.size; simp))
def aggC (c : Cl) : Value := .agg #[.string (str c.key), .string (str c.val), .int .u32 c.chain, .int .u32 c.long]
def aggK (k : Kd) : Value := .agg #[.string (str k.key), .int .u32 k.page]
theorem str_take (l : List UInt8) (n : Nat) : (str l).extract 0 (min l.length n) = str (l.take n) := by
  apply ByteArray.ext
  simp [str, ByteArray.data_extract, List.extract_toArray]
  rw [Nat.min_comm]
theorem ext_full (s : ByteArray) : s.extract 0 s.size = s := by
  apply ByteArray.ext
  simp
theorem str_whole (l : List UInt8) : (str l).extract 0 l.length = str l := by
  have := str_take l l.length
  rw [Nat.min_self, List.take_length] at this
  exact this
theorem wrap16_le (x : Nat) (h : x < 65536) : IntKind.u16.wrap (x : Int) = x := by rw [IntKind.wrap_u16]; omega
/-- The fields of a boxed branch's cell, and that nothing else of old has turned. -/
def InK (w : World) (g : Nat) (x0 x1 : Value) (w' : World) : Prop :=
  w'.cell? ⟨g, 0, none⟩ = some x0 ∧ w'.cell? ⟨g, 1, none⟩ = some x1 ∧ Below g w w'
theorem InK.step {w w1 w2 : World} {g : Nat} {x0 x1 : Value} (h : w1.cell? ⟨g, 0, none⟩ = some x0 ∧ w1.cell? ⟨g, 1, none⟩ = some x1 ∧ Below g w w1) (hb : Below w1.heap.size w1 w2) :
    w2.cell? ⟨g, 0, none⟩ = some x0 ∧ w2.cell? ⟨g, 1, none⟩ = some x1 ∧ Below g w w2 := by
  obtain ⟨h0, h1, h2⟩ := h
  have hlt := World.block_lt_of_cell? _ _ h0
  exact ⟨(hb.cell (p := ⟨g, 0, none⟩) hlt).trans h0, (hb.cell (p := ⟨g, 1, none⟩) hlt).trans h1, h2.trans (hb.mono (Nat.le_of_lt hlt))⟩
theorem InK.first (w : World) (x0 x1 : Value) (T : TypeId) :
    (w.alloc (.cells #[x0, x1] T)).drew.cell? ⟨w.heap.size, 0, none⟩ = some x0 ∧ (w.alloc (.cells #[x0, x1] T)).drew.cell? ⟨w.heap.size, 1, none⟩ = some x1 ∧ Below w.heap.size w (w.alloc (.cells #[x0, x1] T)).drew :=
  ⟨by simp, by simp, ((Below.refl _ _).alloc (Nat.le_refl _) _).drew⟩
theorem InC.step {w w1 w2 : World} {g : Nat} {x0 x1 x2 x3 : Value} (h : w1.cell? ⟨g, 0, none⟩ = some x0 ∧ w1.cell? ⟨g, 1, none⟩ = some x1 ∧ w1.cell? ⟨g, 2, none⟩ = some x2 ∧ w1.cell? ⟨g, 3, none⟩ = some x3 ∧ Below g w w1) (hb : Below w1.heap.size w1 w2) :
    w2.cell? ⟨g, 0, none⟩ = some x0 ∧ w2.cell? ⟨g, 1, none⟩ = some x1 ∧ w2.cell? ⟨g, 2, none⟩ = some x2 ∧ w2.cell? ⟨g, 3, none⟩ = some x3 ∧ Below g w w2 := by
  obtain ⟨h0, h1, h2, h3, h4⟩ := h
  have hlt := World.block_lt_of_cell? _ _ h0
  exact ⟨(hb.cell (p := ⟨g, 0, none⟩) hlt).trans h0, (hb.cell (p := ⟨g, 1, none⟩) hlt).trans h1, (hb.cell (p := ⟨g, 2, none⟩) hlt).trans h2, (hb.cell (p := ⟨g, 3, none⟩) hlt).trans h3, h4.trans (hb.mono (Nat.le_of_lt hlt))⟩
theorem InC.first (w : World) (x0 x1 x2 x3 : Value) (T : TypeId) :
    (w.alloc (.cells #[x0, x1, x2, x3] T)).drew.cell? ⟨w.heap.size, 0, none⟩ = some x0 ∧ (w.alloc (.cells #[x0, x1, x2, x3] T)).drew.cell? ⟨w.heap.size, 1, none⟩ = some x1 ∧ (w.alloc (.cells #[x0, x1, x2, x3] T)).drew.cell? ⟨w.heap.size, 2, none⟩ = some x2 ∧ (w.alloc (.cells #[x0, x1, x2, x3] T)).drew.cell? ⟨w.heap.size, 3, none⟩ = some x3 ∧ Below w.heap.size w (w.alloc (.cells #[x0, x1, x2, x3] T)).drew :=
  ⟨by simp, by simp, by simp, by simp, ((Below.refl _ _).alloc (Nat.le_refl _) _).drew⟩
end Go.Proofs.YtdghhffknfkcaaaGreatDoor
/- The contracts of a leaf's cell: its bytes and its key by the codec's and the shape's calls, its size. -/
namespace Go.Proofs.YtdghhffknfkcaaaGreatDoor
open Go.RowKit
open Sl (Cl Kd)
theorem lt3 (w : World) (o1 o2 o3 : Obj) : w.heap.size + 1 + 1 < (((w.alloc o1).alloc o2).alloc o3).heap.size := by simp
theorem size2 (w : World) (o1 o2 : Obj) : ((w.alloc o1).alloc o2).heap.size = w.heap.size + 1 + 1 := by simp
theorem cell3 (w : World) (o1 o2 : Obj) (x : Value) (T : TypeId) : (((w.alloc o1).alloc o2).alloc (.cells #[x] T)).cell? ⟨w.heap.size + 1 + 1, 0, none⟩ = some x := by
  have := World.cell?_alloc_new ((w.alloc o1).alloc o2) #[x] T 0
  rw [size2] at this
  exact this
theorem below3 (w : World) (o1 o2 o3 : Obj) : Below w.heap.size w (((w.alloc o1).alloc o2).alloc o3) :=
  below_step (below_step ((Below.refl _ _).alloc (Nat.le_refl _) _) ((Below.refl _ _).alloc (Nat.le_refl _) _)) ((Below.refl _ _).alloc (Nat.le_refl _) _)
end Go.Proofs.YtdghhffknfkcaaaGreatDoor
