/- Texts of one seat, merged. -/
import Derived.Test.YtpkoehnjladpoaaE01
import Derived.Deep.DeepMust
import Derived.Deep.LoopGhost
import Derived.OwnWalk
import Derived.Laws.OwnMore
set_option maxRecDepth 100000
set_option maxHeartbeats 4000000
set_option linter.unusedVariables false
/- The contracts of the document's own numbers and texts as bytes. -/
namespace Go.Proofs.Ytpkoehnjladpoaa
open Go.RowKit
theorem val_i64 {a b : Int} (h : a = b) : Value.int .i64 a = .int .i64 b := by rw [h]
theorem u64_quo (v : Nat) (h : v < 18446744073709551616) : IntKind.u64.wrap ((v : Int).tdiv 256) = ((v / 256 : Nat) : Int) := by
  rw [Int.tdiv_eq_ediv_of_nonneg (by omega), IntKind.wrap_u64]; omega
theorem u8_rem (v : Nat) : Value.int .u8 ((v : Int).tmod 256 % 256) = .int .u8 ((v % 256 : Nat) : Int) := by
  rw [Int.tmod_eq_emod_of_nonneg (by omega)]; congr 1; omega
set_option maxHeartbeats 400000 in
set_option maxRecDepth 100000 in
theorem big_any (x : Int) (n k : Nat) (hx : x = n) (hn : n < 18446744073709551616) (hk : k ≤ 8) (hk1 : 1 ≤ k) (w : World) :
    Calls Try.prog 51 #[.int .u64 x, .int .i64 k] w fun e w' => e = .returned (.string (str (Oc.big k n))) ∧ Below w.heap.size w w' := by
  subst hx
  go_enter Try.func51, Try.ntmps51
  go_wp2
  have hW : Below w.heap.size w (w.alloc (Obj.cells #[.int .u8 0, .int .u8 0, .int .u8 0, .int .u8 0, .int .u8 0, .int .u8 0, .int .u8 0, .int .u8 0] 152)) := (Below.refl _ _).alloc (Nat.le_refl _) _
  have HC : Hid (∀ j, j < 8 → (w.alloc (Obj.cells #[.int .u8 0, .int .u8 0, .int .u8 0, .int .u8 0, .int .u8 0, .int .u8 0, .int .u8 0, .int .u8 0] 152)).cell? ⟨w.heap.size, j, none⟩ = some (.int .u8 (Oc.dig n 0 j : Nat))) := by
    intro j hj
    rw [Oc.dig_zero]
    match j, hj with
    | 0, _ | 1, _ | 2, _ | 3, _ | 4, _ | 5, _ | 6, _ | 7, _ => simp
  have HF : Hid (∀ j, j < 8 → (w.alloc (Obj.cells #[.int .u8 0, .int .u8 0, .int .u8 0, .int .u8 0, .int .u8 0, .int .u8 0, .int .u8 0, .int .u8 0] 152)).frozen? ⟨w.heap.size, j, none⟩ = false) := by
    intro j hj
    match j, hj with
    | 0, _ | 1, _ | 2, _ | 3, _ | 4, _ | 5, _ | 6, _ | 7, _ => simp
  revert hW HC HF
  generalize (w.alloc (Obj.cells #[.int .u8 0, .int .u8 0, .int .u8 0, .int .u8 0, .int .u8 0, .int .u8 0, .int .u8 0, .int .u8 0] 152)) = W
  generalize hg : w.heap.size = g
  intro hW HC HF
  have HG := Lib.hid hg
  clear hg
  go_loopw [0, 6] (fun v i wr => ∃ m : Nat, m ≤ 8 ∧ v = .int .u64 ((n / 256 ^ m : Nat) : Int) ∧ i = .int .i64 (7 - m) ∧ Hid (∀ j, j < 8 → wr.cell? ⟨g, j, none⟩ = some (.int .u8 (Oc.dig n m j : Nat))) ∧ Hid (∀ j, j < 8 → wr.frozen? ⟨g, j, none⟩ = false) ∧ Below g w wr) (fun _ i _ => (intOf i + 1).toNat)
  case atStart => exact ⟨0, by omega, by simp, rfl, HC, HF, hW⟩
  case round =>
    obtain ⟨m, hm, rfl, rfl, HC, HF, hW⟩ := hrel
    by_cases hlt : m < 8
    · obtain ⟨q, hq⟩ : ∃ q : Nat, (7 : Int) - m = q := ⟨7 - m, by omega⟩
      have hc := HC.out q (by omega)
      have hf := HF.out q (by omega)
      have HQ := Lib.hid hq
      have hq8 : (q : Int) < 8 := by omega
      have hs := Oc.dig_same n m hlt
      have ht : n / 256 ^ (m + 1) = n / 256 ^ m / 256 := by rw [Nat.div_div_eq_div_mul, Nat.pow_succ]
      have hv : n / 256 ^ m < 18446744073709551616 := Nat.lt_of_le_of_lt (Nat.div_le_self _ _) hn
      have HS := Lib.hid hs
      have HT := Lib.hid ht
      clear hs ht
      revert HS HT hv
      generalize hvv : n / 256 ^ m = v
      intro hv HS HT
      clear hvv
      rw [hq]
      clear hq
      go_wp2
      go_roundw
      case rel =>
        have hq := HQ.out
        refine ⟨m + 1, by omega, by rw [HT.out, Int.natCast_ediv]; rfl, val_i64 (by omega), ?_, ?_, hW.setCell (p := ⟨g, q, none⟩) (Nat.le_refl _) _⟩
        · intro j hj
          by_cases hjq : j = q
          · subst hjq
            rw [World.cell?_setCell_same' _ _ _ (by rw [hc]; rfl)]
            have : j = 7 - m := by omega
            rw [this, HS.out, Int.natCast_emod]; rfl
          · rw [World.cell?_setCell_other _ _ _ _ (fun h => hjq (by cases h; rfl)), HC.out j hj, Oc.dig_other n m j (by omega) hj]
        · intro j hj
          rw [World.frozen?_setCell]
          exact HF.out j hj
      case measure => simp [intOf]
    · obtain rfl : m = 8 := by omega
      obtain ⟨a, ha⟩ : ∃ a : Nat, (8 : Int) - k = a := ⟨8 - k, by omega⟩
      have hback := run_convert_bytes_back (P := Try.prog) wr 89 9 5 ⟨g, a, none⟩ k (Oc.big k n) Try.underlying89 Try.underlying5 Try.underlying9 (by
        intro j hj
        rw [Oc.big_length] at hj
        obtain ⟨b, hb1, hb2⟩ := Oc.dig_big n k j hk hj
        rw [show (⟨g, a, none⟩ : Addr).add j = ⟨g, a + j, none⟩ by unfold Addr.add; split <;> simp_all, HC.out (a + j) (by omega), show a + j = 8 - k + j by omega, ← hb2]
        rw [List.getElem?_eq_getElem (by rw [Oc.big_length]; exact hj)] at hb1
        rw [Option.some.inj hb1])
      rw [Oc.big_length] at hback
      have hal : (a : Int) ≤ Try.prog.arrayLen 152 := by rw [show Try.prog.arrayLen 152 = 8 by kernel_rfl]; omega
      have ha0 : (0 : Int) ≤ (a : Int) := by omega
      have hsl : ∀ W : World, (Instr.sliceAt 152 (.pointer (some ⟨g, 0, none⟩)) (some (.int .i64 a)) none none).run Try.prog W = .ok (.slice (some ⟨g, a, none⟩) k k) W := by
        intro W
        rw [run_sliceAt_array_l W 152 _ (by kernel_rfl) .i64 a ha0 hal]
        rw [show Try.prog.arrayLen 152 = 8 by kernel_rfl, show (sizeOf (Try.prog.elem 152)).run Try.prog W = .ok 1 W by kernel_rfl]
        simp only [Result.andThen, slicedAt]
        rw [Int.toNat_natCast, if_neg (by omega), show 8 - a = k by omega]
        congr 3
        unfold Addr.add; split <;> simp_all
      go_wp2
      go_ret
      exact ⟨rfl, by rw [HG.out]; exact hW⟩
end Go.Proofs.Ytpkoehnjladpoaa
/- The contracts of Need, the program's and the document's. -/
namespace Go.Proofs.Ytpkoehnjladpoaa
open Go.RowKit
theorem need_any (n : Int) (h1 : -9223372036854775808 ≤ n) (h2 : n ≤ 9223372036854775807) (w : World) :
    Calls Try.prog 10 #[.int .i64 n] w fun e w' => e = .returned (.int .i64 (Ch.need n)) ∧ w = w' := by
  unfold Ch.need
  by_cases h : n ≤ 0
  · rw [if_pos h]
    go_enter Try.func10, Try.ntmps10
    go_wp2
    go_ret
    exact ⟨rfl, rfl⟩
  · rw [if_neg h]
    have hw1 : IntKind.i64.wrap (n - 1) = n - 1 := IntWalk.i64_in _ (by omega)
    have hd : (n - 1).tdiv 4068 = (n - 1) / 4068 := Int.tdiv_eq_ediv_of_nonneg (by omega)
    have hw2 : IntKind.i64.wrap ((n - 1) / 4068) = (n - 1) / 4068 := IntWalk.i64_in _ (by omega)
    have hw3 : IntKind.i64.wrap ((n - 1) / 4068 + 1) = (n - 1) / 4068 + 1 := IntWalk.i64_in _ (by omega)
    go_enter Try.func10, Try.ntmps10
    go_wp2
    go_ret
    refine ⟨?_, rfl⟩
    first
    | rfl
    | (congr 2; omega)
theorem rneed_any (n : Int) (h1 : -9223372036854775808 ≤ n) (h2 : n ≤ 2000000) (w : World) :
    Calls Try.prog 11 #[.int .i64 n] w fun e w' => e = .returned (.int .i64 (Ch.need n)) ∧ w = w' := by
  go_enter Try.func11, Try.ntmps11
  go_wp2
  have hn1 : 1 ≤ Ch.need n ∧ Ch.need n ≤ 1000 := by unfold Ch.need; split <;> omega
  have HN := Lib.hid hn1
  clear hn1
  go_loopg [0, 3] n.toNat (fun k a b wr => ∃ (m c : Int), k = m.toNat ∧ a = .int .i64 m ∧ b = .int .i64 c ∧ m ≤ n ∧ (m = n ∨ 0 ≤ m) ∧ Hid (c + Ch.need m = Ch.need n + 1) ∧ 1 ≤ c ∧ w = wr)
  case atStart => exact ⟨n, 1, rfl, rfl, rfl, Int.le_refl _, .inl rfl, Lib.hid (by omega), by decide, rfl⟩
  case round =>
    obtain ⟨m, c, rfl, rfl, rfl, hm, hm2, HC, hc, rfl⟩ := hrel
    have hmp : 1 ≤ Ch.need m := by unfold Ch.need; split <;> omega
    have hc2 : c ≤ 1000 := by have := HC.out; have := HN.out; omega
    by_cases h : 4068 < m
    · have HS := Lib.hid (Ch.need_step m h)
      clear hmp
      go_wp2
      go_roundg (m - 4068).toNat
      case measure => omega
      case rel =>
        refine ⟨m - 4068, c + 1, rfl, ?_, ?_, by omega, .inr (by omega), Lib.hid (by have := HC.out; have := HS.out; omega), by omega, rfl⟩
        · first | rfl | go_num
        · first | rfl | go_num
    · have HL := Lib.hid (Ch.need_low m h)
      clear hmp
      go_wp2
      go_ret
      refine ⟨?_, rfl⟩
      have h1 := HC.out
      have h2 := HL.out
      exact ret_int (by omega)
end Go.Proofs.Ytpkoehnjladpoaa
/- Plain facts of cells, their bytes and the body that they make; nothing of the program. -/
namespace Go.Proofs.Ytpkoehnjladpoaa
namespace Sl
open Oc
def less : List UInt8 → List UInt8 → Bool
  | [], [] => false
  | [], _ :: _ => true
  | _ :: _, [] => false
  | a :: x, b :: y => a < b || (a == b && less x y)
theorem less_nil (u : List UInt8) : less u [] = false := by cases u <;> rfl
structure Cl where
  key : List UInt8
  val : List UInt8
  chain : Nat
  long : Nat
structure Kd where
  key : List UInt8
  page : Nat
def encKey (k : List UInt8) : List UInt8 := big 1 (min k.length 255) ++ k.take 255
def encC (c : Cl) : List UInt8 :=
  if c.chain ≠ 0 then encKey c.key ++ (big 1 1 ++ (big 4 c.chain ++ big 4 c.long))
  else encKey c.key ++ (big 1 0 ++ (big 2 (min c.val.length 65535) ++ c.val.take 65535))
def encK (k : Kd) : List UInt8 := encKey k.key ++ big 4 k.page
def fitsC (c : Cl) : Bool := decide (c.val.length ≤ (if c.chain ≠ 0 then 0 else 400))
/-- What is needed of a sort of cells. -/
structure Sh (α : Type) where
  enc : α → List UInt8
  key : α → List UInt8
  fits : α → Bool
def shC : Sh Cl := ⟨encC, Cl.key, fitsC⟩
def shK : Sh Kd := ⟨encK, Kd.key, fun _ => true⟩
variable {α : Type}
def long (S : Sh α) (x : α) : Bool := decide (255 < (S.key x).length) || !S.fits x
def rises (S : Sh α) : List α → Bool
  | a :: b :: l => less (S.key a) (S.key b) && rises S (b :: l)
  | _ => true
def right (S : Sh α) (l : List α) : Int := if l.any (long S) then 5 else if rises S l then 0 else 30
def sum (S : Sh α) (l : List α) : Nat := (l.map fun x => 2 + (S.enc x).length).sum
def begins (S : Sh α) : Nat → List α → List UInt8
  | _, [] => []
  | n, x :: l => big 2 n ++ begins S (n + (S.enc x).length) l
def body (S : Sh α) (l : List α) : List UInt8 := begins S (2 * l.length) l ++ l.flatMap S.enc
theorem encKey_len (k : List UInt8) : (encKey k).length = 1 + min k.length 255 := by
  unfold encKey; rw [List.length_append, big_length, List.length_take]; omega
theorem encC_len (c : Cl) : (encC c).length ≤ 65794 := by
  unfold encC; split <;> simp only [List.length_append, big_length, encKey_len, List.length_take] <;> omega
theorem encK_len (k : Kd) : (encK k).length ≤ 260 := by
  unfold encK; simp only [List.length_append, big_length, encKey_len]; omega
theorem begins_snoc (S : Sh α) (x : α) : ∀ (l : List α) (n : Nat), begins S n (l ++ [x]) = begins S n l ++ big 2 (n + (l.flatMap S.enc).length)
  | [], n => by simp [begins]
  | y :: l, n => by
    rw [List.cons_append, begins, begins, begins_snoc S x l, List.append_assoc, List.flatMap_cons, List.length_append, Nat.add_assoc]
theorem begins_len (S : Sh α) : ∀ (l : List α) (n : Nat), (begins S n l).length = 2 * l.length
  | [], _ => rfl
  | x :: l, n => by rw [begins, List.length_append, big_length, begins_len S l, List.length_cons]; omega
theorem flat_snoc (S : Sh α) (l : List α) (x : α) : (l ++ [x]).flatMap S.enc = l.flatMap S.enc ++ S.enc x := by
  rw [List.flatMap_append]; simp
theorem sum_snoc (S : Sh α) (l : List α) (x : α) : sum S (l ++ [x]) = sum S l + (2 + (S.enc x).length) := by
  unfold sum; rw [List.map_append, List.sum_append]; simp
theorem sum_eq (S : Sh α) (l : List α) : sum S l = 2 * l.length + (l.flatMap S.enc).length := by
  induction l with
  | nil => rfl
  | cons x l ih =>
    rw [List.flatMap_cons, List.length_append, List.length_cons]
    have : sum S (x :: l) = 2 + (S.enc x).length + sum S l := by unfold sum; rw [List.map_cons, List.sum_cons]
    omega
theorem body_len (S : Sh α) (l : List α) : (body S l).length = sum S l := by
  unfold body; rw [List.length_append, begins_len, sum_eq]
theorem take_snoc' (l : List α) (k : Nat) (x : α) (h : l[k]? = some x) : l.take (k + 1) = l.take k ++ [x] := by
  obtain ⟨hk, he⟩ := List.getElem?_eq_some_iff.1 h
  rw [List.take_succ_eq_append_getElem hk, he]
theorem sum_le (S : Sh α) (m : Nat) (hm : ∀ x, (S.enc x).length ≤ m) (l : List α) : sum S l ≤ (m + 2) * l.length := by
  induction l with
  | nil => exact Nat.zero_le _
  | cons x l ih =>
    have h1 : sum S (x :: l) = 2 + (S.enc x).length + sum S l := by unfold sum; rw [List.map_cons, List.sum_cons]
    have h2 := hm x
    rw [List.length_cons, Nat.mul_succ]
    omega
theorem flat_le (S : Sh α) (l : List α) : (l.flatMap S.enc).length ≤ sum S l := by rw [sum_eq]; omega
theorem sum_take (S : Sh α) (l : List α) (k : Nat) : sum S (l.take k) ≤ sum S l := by
  conv => rhs; rw [← List.take_append_drop k l]
  unfold sum; rw [List.map_append, List.sum_append]; omega
/-- No two neighbours that don't rise, as an index finds them. -/
theorem rises_iff (S : Sh α) : ∀ l : List α, rises S l = true ↔ ∀ k a b, l[k]? = some a → l[k + 1]? = some b → less (S.key a) (S.key b) = true
  | [] => by simp [rises]
  | [a] => by
    simp only [rises, true_iff]
    intro k a b _ h; simp at h
  | a :: b :: l => by
    rw [rises, Bool.and_eq_true, rises_iff S (b :: l)]
    constructor
    · rintro ⟨h1, h2⟩ k x y hx hy
      match k with
      | 0 => simp at hx hy; subst hx; subst hy; exact h1
      | k + 1 => exact h2 k x y (by simpa using hx) (by simpa using hy)
    · intro h
      refine ⟨h 0 a b (by simp) (by simp), fun k x y hx hy => h (k + 1) x y (by simpa using hx) (by simpa using hy)⟩
theorem rises_false (S : Sh α) (l : List α) (k : Nat) (a b : α) (ha : l[k]? = some a) (hb : l[k + 1]? = some b) (h : less (S.key a) (S.key b) = false) : rises S l = false := by
  cases hr : rises S l
  · rfl
  · rw [(rises_iff S l).1 hr k a b ha hb] at h; cases h
theorem right_long (S : Sh α) (l : List α) (k : Nat) (x : α) (h : l[k]? = some x) (hx : long S x = true) : right S l = 5 := by
  unfold right
  rw [if_pos (List.any_eq_true.2 ⟨x, List.mem_of_getElem? h, hx⟩)]
theorem right_drop (S : Sh α) (l : List α) (h : l.any (long S) = false) (hr : rises S l = false) : right S l = 30 := by
  unfold right; rw [h, hr]; rfl
theorem right_ok (S : Sh α) (l : List α) (h : l.any (long S) = false) (hr : rises S l = true) : right S l = 0 := by
  unfold right; rw [h, hr]; rfl
theorem any_snoc (S : Sh α) (l : List α) (k : Nat) (x : α) (h : l[k]? = some x) (h0 : (l.take k).any (long S) = false) (hx : long S x = false) : (l.take (k + 1)).any (long S) = false := by
  rw [take_snoc' l k x h, List.any_append, h0]; simp [hx]
theorem rises_upto (S : Sh α) (l : List α) (k : Nat) (x y : α) (hx : l[k]? = some x) (hy : l[k + 1]? = some y) (h : less (S.key x) (S.key y) = true)
    (h0 : ∀ j a b, j < k → l[j]? = some a → l[j + 1]? = some b → less (S.key a) (S.key b) = true) : ∀ j a b, j < k + 1 → l[j]? = some a → l[j + 1]? = some b → less (S.key a) (S.key b) = true := by
  intro j a b hj ha hb
  by_cases hk : j < k
  · exact h0 j a b hk ha hb
  · obtain rfl : j = k := by omega
    rw [hx] at ha; rw [hy] at hb; cases ha; cases hb; exact h
theorem rises_all (S : Sh α) (l : List α) (h0 : ∀ j a b, j < l.length - 1 → l[j]? = some a → l[j + 1]? = some b → less (S.key a) (S.key b) = true) : rises S l = true :=
  (rises_iff S l).2 fun k a b ha hb => h0 k a b (by have := (List.getElem?_eq_some_iff.1 hb).1; omega) ha hb
end Sl
end Go.Proofs.Ytpkoehnjladpoaa
/- The contracts of the document's own reader. -/
namespace Go.Proofs.Ytpkoehnjladpoaa
open Go.RowKit
theorem u64_add_byte (v c : Nat) (hv : v < 72057594037927936) (hc : c < 256) : IntKind.u64.wrap (IntKind.u64.wrap ((v : Int) * 256) + IntKind.u64.wrap (c : Int)) = ((v * 256 + c : Nat) : Int) := by
  rw [IntKind.wrap_u64, IntKind.wrap_u64, IntKind.wrap_u64]; omega
end Go.Proofs.Ytpkoehnjladpoaa
/- What stays as it was while one block is turned. -/
namespace Go.Proofs.Ytpkoehnjladpoaa
open Go.RowKit
structure Mod (b : Nat) (w w' : World) : Prop where
  os : w'.os = w.os
  tape : w'.tape = w.tape
  output : w'.output = w.output
  size : w.heap.size ≤ w'.heap.size
  block : ∀ k, k < w.heap.size → k ≠ b → w'.heap[k]? = w.heap[k]?
theorem Mod.refl (b : Nat) (w : World) : Mod b w w := ⟨rfl, rfl, rfl, Nat.le_refl _, fun _ _ _ => rfl⟩
theorem Mod.trans {b : Nat} {u v w : World} (h : Mod b u v) (k : Mod b v w) : Mod b u w :=
  ⟨k.os.trans h.os, k.tape.trans h.tape, k.output.trans h.output, Nat.le_trans h.size k.size, fun i hi hne => (k.block i (Nat.lt_of_lt_of_le hi h.size) hne).trans (h.block i hi hne)⟩
theorem Mod.upd {b : Nat} {u v w : World} (h : Mod b u v) (k : Upd b v w) : Mod b u w :=
  h.trans ⟨k.os, k.tape, k.output, Nat.le_of_eq k.size.symm, fun i _ hne => k.block i hne⟩
theorem Mod.step {b : Nat} {u v w : World} (h : Mod b u v) (k : Below v.heap.size v w) : Mod b u w :=
  h.trans ⟨k.os, k.tape, k.output, k.size, fun i hi _ => k.block i hi⟩
theorem Mod.alloc {b : Nat} {u v : World} (h : Mod b u v) (o : Obj) : Mod b u (v.alloc o) := h.step ((Below.refl _ _).alloc (Nat.le_refl _) _)
theorem Mod.below {b B : Nat} {w w' : World} (h : Mod b w w') (hb : B ≤ b) (hB : B ≤ w.heap.size) : Below B w w' :=
  ⟨h.os, h.tape, h.output, h.size, fun k hk => h.block k (by omega) (by omega)⟩
theorem Mod.cell {b : Nat} {w w' : World} (h : Mod b w w') {p : Addr} (hp : p.block < w.heap.size) (hne : p.block ≠ b) : w'.cell? p = w.cell? p := World.cell?_of_block (w := w) (h.block p.block hp hne)
theorem Mod.frozen {b : Nat} {w w' : World} (h : Mod b w w') {p : Addr} (hp : p.block < w.heap.size) (hne : p.block ≠ b) : w'.frozen? p = w.frozen? p := World.frozen?_of_block (w := w) (h.block p.block hp hne)
theorem Mod.step' {b : Nat} {u v w : World} (h : Mod b u v) (k : Below u.heap.size v w) : Mod b u w :=
  ⟨k.os.trans h.os, k.tape.trans h.tape, k.output.trans h.output, Nat.le_trans h.size k.size, fun i hi hne => (k.block i hi).trans (h.block i hi hne)⟩
theorem Rd.below' {w w' : World} {b B : Nat} {s : ByteArray} {e : Int} (h : Rd w b s e) (hb : Below B w w') (hlt : b < B) : Rd w' b s e := by
  have hB := hb.block b hlt
  exact ⟨(World.cell?_of_block (w := w) hB).trans h.c0, (World.cell?_of_block (w := w) hB).trans h.c1, (World.frozen?_of_block (w := w) hB).trans h.f0, (World.frozen?_of_block (w := w) hB).trans h.f1⟩
theorem own_upd {w w' : World} {b B : Nat} {e : TypeId} {s : Nat} {v : Value} {n : Nat} {xs : List Value} (h : w.ownsRow B e s v n xs) (u : Upd b w w') (hb : b < B) : w'.ownsRow B e s v n xs := by
  obtain ⟨h0, h1⟩ := h
  refine ⟨h0, ?_⟩
  rcases h1 with h1 | ⟨g, cap, cur, hv, hg, hh, rest⟩
  · exact .inl h1
  · exact .inr ⟨g, cap, cur, hv, hg, by rw [u.block g (by omega), hh], rest⟩
theorem own_mod {w w' : World} {b B : Nat} {e : TypeId} {s : Nat} {v : Value} {n : Nat} {xs : List Value} (h : w.ownsRow B e s v n xs) (m : Mod b w w') (hb : b < B) : w'.ownsRow B e s v n xs := by
  obtain ⟨h0, h1⟩ := h
  refine ⟨h0, ?_⟩
  rcases h1 with h1 | ⟨g, cap, cur, hv, hg, hh, rest⟩
  · exact .inl h1
  · have hlt : g < w.heap.size := by
      rcases Nat.lt_or_ge g w.heap.size with h' | h'
      · exact h'
      · rw [Array.getElem?_eq_none h'] at hh; cases hh
    exact .inr ⟨g, cap, cur, hv, hg, by rw [m.block g hlt (by omega), hh], rest⟩
theorem own_below {w w' : World} {B B' : Nat} {e : TypeId} {s : Nat} {v : Value} {n : Nat} {xs : List Value} (h : w.ownsRow B e s v n xs) (hb : Below B' w w') (hB : w.heap.size ≤ B') : w'.ownsRow B e s v n xs := by
  obtain ⟨h0, h1⟩ := h
  refine ⟨h0, ?_⟩
  rcases h1 with h1 | ⟨g, cap, cur, hv, hg, hh, rest⟩
  · exact .inl h1
  · have hlt : g < w.heap.size := by
      rcases Nat.lt_or_ge g w.heap.size with h' | h'
      · exact h'
      · rw [Array.getElem?_eq_none h'] at hh; cases hh
    exact .inr ⟨g, cap, cur, hv, hg, by rw [hb.block g (by omega), hh], rest⟩
theorem Mod.old {b : Nat} {w w' : World} {o : Obj} (h : Mod b (w.alloc o) w') : Mod b w w' := ((Mod.refl b w).alloc o).trans h
theorem Rd.lt {w : World} {b : Nat} {s : ByteArray} {e : Int} (h : Rd w b s e) : b < w.heap.size := World.block_lt_of_cell? _ _ h.c0
end Go.Proofs.Ytpkoehnjladpoaa
