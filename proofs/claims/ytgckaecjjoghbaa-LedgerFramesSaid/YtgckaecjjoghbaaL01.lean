/- Texts of one seat, merged. -/
import Derived.Test.YtgckaecjjoghbaaRows
import Derived.WalkKit
import Derived.WalkLawsBesides
import Derived.Below
import Derived.Lib.Hide
import Derived.Laws.IdiomStrings
import Derived.RegionTactic
import Derived.Deep.RegionWith
import Derived.Deep.DeepMust
import Derived.OwnWalk
import Derived.Laws.OwnMore
import Derived.Laws.EntriesVeiled
import Derived.BigQuiet
import Derived.Deep.QuietTactic
import Derived.Deep.RegionHeld3
import Derived.Defers
import Derived.Recover
set_option maxRecDepth 100000
set_option maxHeartbeats 4000000
set_option linter.unusedVariables false
/- Plain arithmetic of numbers as bytes, highest first; nothing of the program. -/
namespace Go.Proofs.Ytgckaecjjoghbaa
namespace Oc
def big : Nat → Nat → List UInt8
  | 0, _ => []
  | k + 1, n => big k (n / 256) ++ [UInt8.ofNat (n % 256)]
def val (l : List UInt8) : Nat := l.foldl (fun a b => a * 256 + b.toNat) 0
theorem big_length : ∀ k n, (big k n).length = k
  | 0, _ => rfl
  | k + 1, n => by unfold big; rw [List.length_append, big_length]; rfl
theorem val_snoc (l : List UInt8) (b : UInt8) : val (l ++ [b]) = val l * 256 + b.toNat := by
  unfold val; rw [List.foldl_append]; rfl
theorem foldl_lt : ∀ (l : List UInt8) (a : Nat), l.foldl (fun a b => a * 256 + b.toNat) a < (a + 1) * 256 ^ l.length
  | [], a => by simp
  | b :: l, a => by
    have h := foldl_lt l (a * 256 + b.toNat)
    have hb := b.toNat_lt
    rw [List.foldl_cons, List.length_cons, Nat.pow_succ]
    refine Nat.lt_of_lt_of_le h ?_
    rw [Nat.mul_comm (256 ^ l.length) 256, ← Nat.mul_assoc]
    exact Nat.mul_le_mul_right _ (by omega)
theorem val_lt (l : List UInt8) : val l < 256 ^ l.length := by
  have := foldl_lt l 0
  simpa [val] using this
theorem val_big : ∀ k n, n < 256 ^ k → val (big k n) = n
  | 0, n, h => by
    have : n = 0 := by simpa using h
    subst this; rfl
  | k + 1, n, h => by
    unfold big
    rw [val_snoc, val_big k (n / 256) (by rw [Nat.pow_succ] at h; omega)]
    have : (UInt8.ofNat (n % 256)).toNat = n % 256 := by
      rw [UInt8.toNat_ofNat']; omega
    omega
theorem big_mod : ∀ k n, big k (n % 256 ^ k) = big k n
  | 0, _ => rfl
  | k + 1, n => by
    unfold big
    have h1 : n % 256 ^ (k + 1) / 256 = n / 256 % 256 ^ k := by
      rw [Nat.pow_succ, Nat.mul_comm, Nat.mod_mul_right_div_self]
    have h2 : n % 256 ^ (k + 1) % 256 = n % 256 := by
      rw [Nat.pow_succ, Nat.mod_mul_left_mod]
    rw [h1, h2, big_mod k]
theorem big_succ (k n : Nat) : big (k + 1) n = big k (n / 256) ++ [UInt8.ofNat (n % 256)] := rfl
theorem big_add : ∀ j k n, big (j + k) n = big j (n / 256 ^ k) ++ big k n
  | j, 0, n => by simp [big]
  | j, k + 1, n => by
    rw [← Nat.add_assoc, big_succ, big_succ, big_add j k, List.append_assoc, Nat.div_div_eq_div_mul, Nat.pow_succ, Nat.mul_comm 256]
theorem snoc_of_length {k : Nat} {l : List UInt8} (h : l.length = k + 1) : ∃ m b, l = m ++ [b] ∧ m.length = k := by
  have hne : l ≠ [] := by intro e; rw [e] at h; cases h
  exact ⟨l.dropLast, l.getLast hne, (List.dropLast_concat_getLast hne).symm, by rw [List.length_dropLast, h]; rfl⟩
theorem big_val : ∀ (k : Nat) (l : List UInt8), l.length = k → big k (val l) = l
  | 0, l, h => by cases l with | nil => rfl | cons _ _ => cases h
  | k + 1, l, h => by
    obtain ⟨m, b, rfl, hm⟩ := snoc_of_length h
    have hb := b.toNat_lt
    rw [val_snoc, big_succ, show (val m * 256 + b.toNat) / 256 = val m by omega, show (val m * 256 + b.toNat) % 256 = b.toNat by omega, big_val k m hm, UInt8.ofNat_toNat]
theorem big_at : ∀ (k n j : Nat), j < k → (big k n)[j]? = some (UInt8.ofNat (n / 256 ^ (k - 1 - j) % 256))
  | 0, _, _, h => by omega
  | k + 1, n, j, h => by
    rw [big_succ]
    by_cases hj : j < k
    · rw [List.getElem?_append_left (by rw [big_length]; exact hj), big_at k (n / 256) j hj, Nat.div_div_eq_div_mul]
      rw [show k + 1 - 1 - j = k - 1 - j + 1 by omega, Nat.pow_succ, Nat.mul_comm 256]
    · obtain rfl : j = k := by omega
      rw [List.getElem?_append_right (by rw [big_length]; exact Nat.le_refl _), big_length, Nat.sub_self]
      simp
def dig (n m j : Nat) : Nat := if 7 - j < m then n / 256 ^ (7 - j) % 256 else 0
theorem dig_zero (n j : Nat) : dig n 0 j = 0 := rfl
theorem dig_same (n m : Nat) (h : m < 8) : dig n (m + 1) (7 - m) = n / 256 ^ m % 256 := by
  unfold dig; rw [if_pos (by omega), show 7 - (7 - m) = m by omega]
theorem dig_other (n m j : Nat) (h : j ≠ 7 - m) (hj : j < 8) : dig n (m + 1) j = dig n m j := by
  unfold dig
  by_cases h2 : 7 - j < m
  · rw [if_pos (by omega), if_pos h2]
  · rw [if_neg (by omega), if_neg h2]
theorem dig_big (n k j : Nat) (hk : k ≤ 8) (hj : j < k) : ∃ b : UInt8, (big k n)[j]? = some b ∧ b.toNat = dig n 8 (8 - k + j) := by
  refine ⟨_, big_at k n j hj, ?_⟩
  rw [UInt8.toNat_ofNat']
  unfold dig
  rw [if_pos (by omega), show 7 - (8 - k + j) = k - 1 - j by omega]
  omega
end Oc
end Go.Proofs.Ytgckaecjjoghbaa
/- A ledger's entries: their order, what their frames are, the sorted row; nothing of the program. -/
namespace Go.Proofs.Ytgckaecjjoghbaa.Ld
structure En where
  tx : Nat
  page : Nat
structure Fr where
  count : Nat
  id : Nat
  tx : Nat
  body : List UInt8
theorem En.ext' {a b : En} (h : a.tx = b.tx) (h2 : a.page = b.page) : a = b := by
  cases a; cases b; simp at h h2; rw [h, h2]
instance : DecidableEq En := fun a b => decidable_of_iff (a.tx = b.tx ∧ a.page = b.page) ⟨fun h => En.ext' h.1 h.2, fun h => by rw [h]; exact ⟨rfl, rfl⟩⟩
def ahead (a b : En) : Bool := decide (a.tx < b.tx) || (decide (a.tx = b.tx) && decide (a.page < b.page))
theorem ahead_iff (a b : En) : ahead a b = true ↔ (a.tx < b.tx ∨ (a.tx = b.tx ∧ a.page < b.page)) := by simp [ahead]
theorem ahead_no (a b : En) : ahead a b = false ↔ ¬ (a.tx < b.tx ∨ (a.tx = b.tx ∧ a.page < b.page)) := by
  rw [← ahead_iff]; simp
theorem ahead_irr (a : En) : ahead a a = false := by rw [ahead_no]; omega
theorem ahead_trans {a b c : En} (h : ahead a b = true) (h2 : ahead b c = true) : ahead a c = true := by
  rw [ahead_iff] at *; omega
theorem ahead_tot {a b : En} (h : ahead a b = false) (h2 : a ≠ b) : ahead b a = true := by
  rw [ahead_no] at h
  rw [ahead_iff]
  have : ¬ (a.tx = b.tx ∧ a.page = b.page) := fun e => h2 (En.ext' e.1 e.2)
  omega
theorem ahead_asym {a b : En} (h : ahead a b = true) : ahead b a = false := by
  rw [ahead_iff] at h
  rw [ahead_no]; omega
theorem ahead_ne {a b : En} (h : ahead a b = true) : a ≠ b := by
  intro e; rw [e, ahead_irr] at h; cases h
def cmp (a b : En) : Int := if a.tx = b.tx then (if a.page < b.page then -1 else if b.page < a.page then 1 else 0) else (if a.tx < b.tx then -1 else if b.tx < a.tx then 1 else 0)
theorem cmp_neg (a b : En) : decide (cmp a b < 0) = ahead a b := by
  have h : cmp a b < 0 ↔ ahead a b = true := by
    rw [ahead_iff]; unfold cmp
    repeat' split
    all_goals omega
  by_cases hc : cmp a b < 0
  · rw [decide_eq_true hc, h.1 hc]
  · rw [decide_eq_false hc]
    cases hb : ahead a b
    · rfl
    · exact absurd (h.2 hb) hc
theorem cmp_ge {a b : En} (h : ahead a b = false) : 0 ≤ cmp a b := by
  have := cmp_neg a b
  rw [h] at this
  simpa using this
theorem cmp_lt {a b : En} (h : ahead a b = true) : cmp a b < 0 := by
  have := cmp_neg a b
  rw [h] at this
  simpa using this
theorem cmp_bd (a b : En) : -1 ≤ cmp a b ∧ cmp a b ≤ 1 := by
  unfold cmp
  repeat' split
  all_goals omega
def rises : List En → Bool
  | [] => true
  | [_] => true
  | a :: b :: t => ahead a b && rises (b :: t)
theorem rises_of : ∀ (l : List En), (∀ (j : Nat) x y, l[j]? = some x → l[j + 1]? = some y → ahead x y = true) → rises l = true
  | [], _ => rfl
  | [_], _ => rfl
  | a :: b :: t, h => by
    rw [rises, h 0 a b rfl rfl, Bool.true_and]
    exact rises_of (b :: t) fun j x y h1 h2 => h (j + 1) x y (by simpa using h1) (by simpa using h2)
theorem not_rises : ∀ (l : List En) (j : Nat) (x y : En), l[j]? = some x → l[j + 1]? = some y → ahead x y = false → rises l = false
  | [], _, _, _, h, _, _ => by simp at h
  | [_], j, _, _, _, h, _ => by simp at h
  | a :: b :: t, 0, x, y, h1, h2, h => by
    simp at h1 h2; subst h1 h2; rw [rises, h, Bool.false_and]
  | a :: b :: t, j + 1, x, y, h1, h2, h => by
    rw [rises, not_rises (b :: t) j x y (by simpa using h1) (by simpa using h2) h, Bool.and_false]
def needN (n : Nat) : Nat := if n = 0 then 0 else (n - 1) / 339 + 1
/-- How many pages a number of entries takes. -/
def need (n : Int) : Int := if n ≤ 0 then 0 else (n - 1) / 339 + 1
theorem need_nat (n : Nat) : need (n : Int) = (needN n : Nat) := by
  unfold need needN
  by_cases h : n = 0
  · subst h; rfl
  · rw [if_neg (by omega), if_neg h]; omega
theorem need_step (n : Int) (h : 0 < n) : need n = need (n - 339) + 1 := by
  unfold need
  rw [if_neg (by omega)]
  split <;> omega
theorem need_low (n : Int) (h : ¬ 0 < n) : need n = 0 := by
  unfold need
  rw [if_pos (by omega)]
def nxt (ids : List Nat) (i : Nat) : Nat := match ids[i + 1]? with | some x => x | none => 0
def eb (e : En) : List UInt8 := Oc.big 8 e.tx ++ Oc.big 4 e.page
theorem eb_len (e : En) : (eb e).length = 12 := by unfold eb; rw [List.length_append, Oc.big_length, Oc.big_length]
def bytes (l : List En) : List UInt8 := l.flatMap eb
theorem bytes_len : ∀ l : List En, (bytes l).length = l.length * 12
  | [] => rfl
  | x :: t => by
    show ((x :: t).flatMap eb).length = _
    rw [List.flatMap_cons, List.length_append, eb_len, List.length_cons]
    have := bytes_len t
    unfold bytes at this
    omega
theorem bytes_snoc (l : List En) (x : En) : bytes (l ++ [x]) = bytes l ++ eb x := by unfold bytes; simp
def piece (l : List En) (i : Nat) : List En := (l.drop (i * 339)).take 339
def frAt (ids : List Nat) (tx : Nat) (l : List En) (i : Nat) (id : Nat) : Fr := ⟨(piece l i).length, id, tx, Oc.big 4 (nxt ids i) ++ bytes (piece l i)⟩
/-- The first frames. -/
def frs (ids : List Nat) (tx : Nat) (l : List En) : Nat → List Fr
  | 0 => []
  | k + 1 => frs ids tx l k ++ (match ids[k]? with | some id => [frAt ids tx l k id] | none => [])
theorem frs_len (ids : List Nat) (tx : Nat) (v : List En) : ∀ k, k ≤ ids.length → (frs ids tx v k).length = k
  | 0, _ => rfl
  | k + 1, h => by
    have h1 : ids[k]? = some ids[k] := List.getElem?_eq_getElem (by omega)
    show (frs ids tx v k ++ _).length = _
    rw [h1, List.length_append, frs_len ids tx v k (by omega)]; rfl
theorem frs_snoc (ids : List Nat) (tx : Nat) (v : List En) (k id : Nat) (h : ids[k]? = some id) : frs ids tx v (k + 1) = frs ids tx v k ++ [frAt ids tx v k id] := by
  show frs ids tx v k ++ _ = _
  rw [h]
def low (ids : List Nat) : Bool := ids.any fun i => decide ((i : Int) < 2)
/-- What is wrong with numbers and entries. -/
def err (ids : List Nat) (l : List En) : Int := if ids.length < needN l.length then 2 else if low ids then 2 else if rises l then 0 else 30
theorem err_need {ids : List Nat} {l : List En} (h : ids.length < needN l.length) : err ids l = 2 := if_pos h
theorem err_low {ids : List Nat} {l : List En} (h : low ids = true) : err ids l = 2 := by
  unfold err
  by_cases h1 : ids.length < needN l.length
  · rw [if_pos h1]
  · rw [if_neg h1, if_pos h]
theorem err_rest {ids : List Nat} {l : List En} (h : ¬ ids.length < needN l.length) (h2 : low ids = false) : err ids l = if rises l then 0 else 30 := by
  unfold err
  rw [if_neg h, if_neg (by rw [h2]; decide)]
theorem piece_len (l : List En) (i : Nat) : (piece l i).length = min 339 (l.length - i * 339) := by unfold piece; rw [List.length_take, List.length_drop]
/-! the sorted row -/
def SA (l : List En) : Prop := l.Pairwise fun a b => ahead a b = true
def wstep (x : En) (s : List En × Bool) (y : En) : List En × Bool :=
  if !s.2 && !ahead y x then (if y = x then (s.1 ++ [x], true) else (s.1 ++ [x] ++ [y], true)) else (if y = x then s else (s.1 ++ [y], s.2))
def wrun (x : En) (l : List En) : List En × Bool := l.foldl (wstep x) ([], false)
def withE (l : List En) (x : En) : List En := if (wrun x l).2 then (wrun x l).1 else (wrun x l).1 ++ [x]
def sortE (l : List En) : List En := l.foldl withE []
def ins (x : En) : List En → List En
  | [] => [x]
  | y :: t => if ahead y x then y :: ins x t else if y = x then x :: t else x :: y :: t
theorem run_done (x : En) : ∀ (l : List En) (s : List En), (∀ z ∈ l, z ≠ x) → l.foldl (wstep x) (s, true) = (s ++ l, true)
  | [], s, _ => by simp
  | y :: t, s, h => by
    have hy : y ≠ x := h y List.mem_cons_self
    rw [List.foldl_cons, show wstep x (s, true) y = (s ++ [y], true) by unfold wstep; simp [hy], run_done x t _ fun z hz => h z (List.mem_cons_of_mem _ hz)]
    simp
theorem run_ins (x : En) : ∀ (l : List En) (out : List En), SA l → (if (l.foldl (wstep x) (out, false)).2 then (l.foldl (wstep x) (out, false)).1 else (l.foldl (wstep x) (out, false)).1 ++ [x]) = out ++ ins x l
  | [], out, _ => by simp [ins]
  | y :: t, out, h => by
    obtain ⟨h1, h2⟩ := List.pairwise_cons.1 h
    rw [List.foldl_cons]
    by_cases ha : ahead y x = true
    · have hy : y ≠ x := ahead_ne ha
      rw [show wstep x (out, false) y = (out ++ [y], false) by unfold wstep; simp [ha, hy], run_ins x t _ h2, ins, if_pos ha]
      simp
    · have ha' : ahead y x = false := by simpa using ha
      by_cases hy : y = x
      · subst hy
        rw [show wstep y (out, false) y = (out ++ [y], true) by unfold wstep; simp [ha'], run_done y t _ fun z hz => (ahead_ne (h1 z hz)).symm, ins, if_neg ha, if_pos rfl]
        simp
      · have hxy := ahead_tot ha' hy
        rw [show wstep x (out, false) y = (out ++ [x] ++ [y], true) by unfold wstep; simp [ha', hy], run_done x t _ fun z hz => (ahead_ne (ahead_trans hxy (h1 z hz))).symm, ins, if_neg ha, if_neg hy]
        simp
theorem withE_eq {l : List En} (x : En) (h : SA l) : withE l x = ins x l := by
  exact (run_ins x l [] h).trans (List.nil_append _)
theorem ins_mem (x z : En) : ∀ l : List En, z ∈ ins x l ↔ z = x ∨ z ∈ l
  | [] => by simp [ins]
  | y :: t => by
    unfold ins
    split
    · rw [List.mem_cons, ins_mem x z t, List.mem_cons]
      constructor
      · rintro (h | h | h)
        · exact .inr (.inl h)
        · exact .inl h
        · exact .inr (.inr h)
      · rintro (h | h | h)
        · exact .inr (.inl h)
        · exact .inl h
        · exact .inr (.inr h)
    · split
      · rename_i h; subst h; simp
      · simp
theorem ins_sa (x : En) : ∀ l : List En, SA l → SA (ins x l)
  | [], _ => by simp [ins, SA]
  | y :: t, h => by
    obtain ⟨h1, h2⟩ := List.pairwise_cons.1 h
    unfold ins
    by_cases ha : ahead y x = true
    · rw [if_pos ha]
      refine List.pairwise_cons.2 ⟨fun z hz => ?_, ins_sa x t h2⟩
      rcases (ins_mem x z t).1 hz with rfl | hz
      · exact ha
      · exact h1 z hz
    · rw [if_neg ha]
      by_cases hy : y = x
      · rw [if_pos hy]; subst hy; exact h
      · rw [if_neg hy]
        have hxy := ahead_tot (by simpa using ha) hy
        refine List.pairwise_cons.2 ⟨fun z hz => ?_, h⟩
        rcases List.mem_cons.1 hz with rfl | hz
        · exact hxy
        · exact ahead_trans hxy (h1 z hz)
theorem fold_sa : ∀ (l s : List En), SA s → SA (l.foldl withE s) ∧ ∀ z, z ∈ l.foldl withE s ↔ z ∈ s ∨ z ∈ l
  | [], s, h => ⟨h, fun z => by simp⟩
  | x :: t, s, h => by
    rw [List.foldl_cons, withE_eq x h]
    obtain ⟨h1, h2⟩ := fold_sa t (ins x s) (ins_sa x s h)
    refine ⟨h1, fun z => ?_⟩
    rw [h2, ins_mem, List.mem_cons]
    constructor
    · rintro ((h | h) | h)
      · exact .inr (.inl h)
      · exact .inl h
      · exact .inr (.inr h)
    · rintro (h | h | h)
      · exact .inl (.inr h)
      · exact .inl (.inl h)
      · exact .inr h
theorem sortE_sa (l : List En) : SA (sortE l) := (fold_sa l [] List.Pairwise.nil).1
theorem sortE_mem (l : List En) (z : En) : z ∈ sortE l ↔ z ∈ l := by
  have := (fold_sa l [] List.Pairwise.nil).2 z
  simpa [sortE] using this
theorem wstep_len (x : En) (s : List En × Bool) (y : En) : (wstep x s y).1.length + (cond s.2 1 0) ≤ s.1.length + 1 + (cond (wstep x s y).2 1 0) := by
  obtain ⟨o, d⟩ := s
  unfold wstep
  by_cases hy : y = x
  · rw [if_pos hy, if_pos hy]
    cases d <;> cases ahead y x <;> simp
  · rw [if_neg hy, if_neg hy]
    cases d <;> cases ahead y x <;> simp
theorem fold_len (x : En) : ∀ (l : List En) (s : List En × Bool), (l.foldl (wstep x) s).1.length + (cond s.2 1 0) ≤ s.1.length + l.length + (cond (l.foldl (wstep x) s).2 1 0)
  | [], s => by simp
  | y :: t, s => by
    rw [List.foldl_cons, List.length_cons]
    have ih := fold_len x t (wstep x s y)
    have h1 := wstep_len x s y
    omega
theorem wrun_len (x : En) (l : List En) : (wrun x l).1.length ≤ l.length + 1 := by
  have h := fold_len x l ([], false)
  have h2 : (cond (l.foldl (wstep x) ([], false)).2 1 0) ≤ 1 := by cases (l.foldl (wstep x) ([], false)).2 <;> decide
  have h3 : (([] : List En), false).1.length = 0 := rfl
  unfold wrun
  omega
theorem withE_len (l : List En) (x : En) : (withE l x).length ≤ l.length + 2 := by
  have h := wrun_len x l
  unfold withE
  split
  · omega
  · rw [List.length_append, List.length_singleton]; omega
theorem sortE_len2 : ∀ (l s : List En), (l.foldl withE s).length ≤ s.length + 2 * l.length
  | [], s => by simp
  | x :: l, s => by
    rw [List.foldl_cons, List.length_cons]
    have := sortE_len2 l (withE s x)
    have := withE_len s x
    omega
theorem sortE_len (l : List En) : (sortE l).length ≤ 2 * l.length := by
  have := sortE_len2 l []
  simpa [sortE] using this
theorem take_snoc {α : Type} {l : List α} {k : Nat} {y : α} (h : l[k]? = some y) : l.take (k + 1) = l.take k ++ [y] := by rw [List.take_add_one, h]; rfl
theorem wrun_take (x : En) {l : List En} {k : Nat} {y : En} (h : l[k]? = some y) : wrun x (l.take (k + 1)) = wstep x (wrun x (l.take k)) y := by
  rw [take_snoc h]; simp [wrun]
theorem sortE_take {l : List En} {k : Nat} {y : En} (h : l[k]? = some y) : sortE (l.take (k + 1)) = withE (sortE (l.take k)) y := by
  rw [take_snoc h]; simp [sortE]
theorem uniq : ∀ (a b : List En), SA a → SA b → (∀ z, z ∈ a ↔ z ∈ b) → a = b
  | [], [], _, _, _ => rfl
  | [], y :: t, _, _, h => by have := (h y).2 List.mem_cons_self; simp at this
  | x :: s, [], _, _, h => by have := (h x).1 List.mem_cons_self; simp at this
  | x :: s, y :: t, ha, hb, h => by
    obtain ⟨a1, a2⟩ := List.pairwise_cons.1 ha
    obtain ⟨b1, b2⟩ := List.pairwise_cons.1 hb
    have hxy : x = y := by
      rcases List.mem_cons.1 ((h x).1 List.mem_cons_self) with e | e
      · exact e
      · rcases List.mem_cons.1 ((h y).2 List.mem_cons_self) with e2 | e2
        · exact e2.symm
        · have h1 := a1 y e2
          have h2 := b1 x e
          rw [ahead_asym h1] at h2; cases h2
    subst hxy
    congr 1
    refine uniq s t a2 b2 fun z => ?_
    constructor
    · intro hz
      rcases List.mem_cons.1 ((h z).1 (List.mem_cons_of_mem _ hz)) with e | e
      · exact absurd e.symm (ahead_ne (a1 z hz))
      · exact e
    · intro hz
      rcases List.mem_cons.1 ((h z).2 (List.mem_cons_of_mem _ hz)) with e | e
      · exact absurd e.symm (ahead_ne (b1 z hz))
      · exact e
/-! of a sorted row each once -/
def cmpn (l : List En) : Nat → List En
  | 0 => []
  | 1 => l.take 1
  | j + 2 => if l[j + 1]? = l[j]? then cmpn l (j + 1) else cmpn l (j + 1) ++ (l[j + 1]?).toList
theorem cmpn_len (l : List En) : ∀ j, (cmpn l j).length ≤ j
  | 0 => Nat.le_refl _
  | 1 => by unfold cmpn; rw [List.length_take]; omega
  | j + 2 => by
    unfold cmpn
    have := cmpn_len l (j + 1)
    split
    · omega
    · rw [List.length_append]
      cases l[j + 1]? <;> simp <;> omega
theorem cmpn_same {l : List En} {j : Nat} {x : En} (h : l[j + 1]? = some x) (h2 : l[j]? = some x) : cmpn l (j + 2) = cmpn l (j + 1) := by
  rw [cmpn, if_pos (by rw [h, h2])]
theorem cmpn_next {l : List En} {j : Nat} {x y : En} (h : l[j + 1]? = some x) (h2 : l[j]? = some y) (hn : x ≠ y) : cmpn l (j + 2) = cmpn l (j + 1) ++ [x] := by
  rw [cmpn, if_neg (by rw [h, h2]; simpa using hn), h]; rfl
theorem cmpn_sa (l : List En) (hs : l.Pairwise fun a b => ahead b a = false) : ∀ j, j ≤ l.length → SA (cmpn l j) ∧ ∀ z, z ∈ cmpn l j ↔ z ∈ l.take j
  | 0, _ => ⟨List.Pairwise.nil, fun z => by simp [cmpn]⟩
  | 1, h => by
    refine ⟨?_, fun z => Iff.rfl⟩
    unfold cmpn
    match l, h with
    | x :: t, _ => simp [SA]
  | j + 2, h => by
    obtain ⟨h1, h2⟩ := cmpn_sa l hs (j + 1) (by omega)
    have e1 : l[j + 1]? = some l[j + 1] := List.getElem?_eq_getElem (by omega)
    have e0 : l[j]? = some l[j] := List.getElem?_eq_getElem (by omega)
    generalize l[j + 1] = x at e1
    generalize l[j] = y at e0
    have hm : ∀ z, z ∈ l.take (j + 2) ↔ z ∈ l.take (j + 1) ∨ z = x := fun z => by rw [take_snoc e1]; simp
    by_cases hxy : x = y
    · subst hxy
      rw [cmpn_same e1 e0]
      refine ⟨h1, fun z => ?_⟩
      rw [h2, hm]
      constructor
      · exact .inl
      · rintro (h | rfl)
        · exact h
        · rw [take_snoc e0]; simp
    · rw [cmpn_next e1 e0 hxy]
      have hle : ∀ z, z ∈ l.take (j + 1) → ahead z x = true := by
        intro z hz
        have hyx : ahead y x = true := by
          refine ahead_tot ?_ hxy
          have := List.pairwise_iff_getElem.1 hs j (j + 1) (by omega) (by omega) (by omega)
          rw [List.getElem?_eq_some_iff] at e0 e1
          rw [← e0.2, ← e1.2]; exact this
        rw [take_snoc e0] at hz
        rcases List.mem_append.1 hz with hz | hz
        · obtain ⟨i, hi⟩ := List.getElem?_of_mem hz
          have hij : i < j := by
            have := (List.getElem?_eq_some_iff.1 hi).1
            rw [List.length_take] at this; omega
          rw [List.getElem?_take_of_lt hij] at hi
          have := List.pairwise_iff_getElem.1 hs i j (by omega) (by omega) hij
          rw [List.getElem?_eq_some_iff] at e0 hi
          have hzy : ahead y z = false := by rw [← e0.2, ← hi.2]; exact this
          by_cases hzz : y = z
          · rw [← hzz]; exact hyx
          · exact ahead_trans (ahead_tot hzy hzz) hyx
        · simp at hz; subst hz; exact hyx
      refine ⟨?_, fun z => ?_⟩
      · refine List.pairwise_append.2 ⟨h1, by simp, fun a ha b hb => ?_⟩
        simp at hb; subst hb
        exact hle a ((h2 a).1 ha)
      · rw [List.mem_append, h2, hm]; simp
/-- The library's sort of a row, each once, is the document's. -/
theorem cmpn_sort (l m : List En) (hp : m.Perm l) (hs : m.Pairwise fun a b => ahead b a = false) : cmpn m m.length = sortE l := by
  obtain ⟨h1, h2⟩ := cmpn_sa m hs m.length (Nat.le_refl _)
  refine uniq _ _ h1 (sortE_sa l) fun z => ?_
  rw [h2, List.take_length, sortE_mem]
  exact hp.mem_iff
end Go.Proofs.Ytgckaecjjoghbaa.Ld
/- Plain facts of cells, their bytes and the body that they make; nothing of the program. -/
namespace Go.Proofs.Ytgckaecjjoghbaa
namespace Sl
open Oc
def less : List UInt8 → List UInt8 → Bool
  | [], [] => false
  | [], _ :: _ => true
  | _ :: _, [] => false
  | a :: x, b :: y => a < b || (a == b && less x y)
theorem less_nil (u : List UInt8) : less u [] = false := by cases u <;> rfl
structure Cl where
  key : List UInt8
  val : List UInt8
  chain : Nat
  long : Nat
structure Kd where
  key : List UInt8
  page : Nat
def encKey (k : List UInt8) : List UInt8 := big 1 (min k.length 255) ++ k.take 255
def encC (c : Cl) : List UInt8 :=
  if c.chain ≠ 0 then encKey c.key ++ (big 1 1 ++ (big 4 c.chain ++ big 4 c.long))
  else encKey c.key ++ (big 1 0 ++ (big 2 (min c.val.length 65535) ++ c.val.take 65535))
def encK (k : Kd) : List UInt8 := encKey k.key ++ big 4 k.page
def fitsC (c : Cl) : Bool := decide (c.val.length ≤ (if c.chain ≠ 0 then 0 else 400))
/-- What is needed of a sort of cells. -/
structure Sh (α : Type) where
  enc : α → List UInt8
  key : α → List UInt8
  fits : α → Bool
def shC : Sh Cl := ⟨encC, Cl.key, fitsC⟩
def shK : Sh Kd := ⟨encK, Kd.key, fun _ => true⟩
variable {α : Type}
def long (S : Sh α) (x : α) : Bool := decide (255 < (S.key x).length) || !S.fits x
def rises (S : Sh α) : List α → Bool
  | a :: b :: l => less (S.key a) (S.key b) && rises S (b :: l)
  | _ => true
def right (S : Sh α) (l : List α) : Int := if l.any (long S) then 5 else if rises S l then 0 else 30
def sum (S : Sh α) (l : List α) : Nat := (l.map fun x => 2 + (S.enc x).length).sum
def begins (S : Sh α) : Nat → List α → List UInt8
  | _, [] => []
  | n, x :: l => big 2 n ++ begins S (n + (S.enc x).length) l
def body (S : Sh α) (l : List α) : List UInt8 := begins S (2 * l.length) l ++ l.flatMap S.enc
theorem encKey_len (k : List UInt8) : (encKey k).length = 1 + min k.length 255 := by
  unfold encKey; rw [List.length_append, big_length, List.length_take]; omega
theorem encC_len (c : Cl) : (encC c).length ≤ 65794 := by
  unfold encC; split <;> simp only [List.length_append, big_length, encKey_len, List.length_take] <;> omega
theorem encK_len (k : Kd) : (encK k).length ≤ 260 := by
  unfold encK; simp only [List.length_append, big_length, encKey_len]; omega
theorem begins_snoc (S : Sh α) (x : α) : ∀ (l : List α) (n : Nat), begins S n (l ++ [x]) = begins S n l ++ big 2 (n + (l.flatMap S.enc).length)
  | [], n => by simp [begins]
  | y :: l, n => by
    rw [List.cons_append, begins, begins, begins_snoc S x l, List.append_assoc, List.flatMap_cons, List.length_append, Nat.add_assoc]
theorem begins_len (S : Sh α) : ∀ (l : List α) (n : Nat), (begins S n l).length = 2 * l.length
  | [], _ => rfl
  | x :: l, n => by rw [begins, List.length_append, big_length, begins_len S l, List.length_cons]; omega
theorem flat_snoc (S : Sh α) (l : List α) (x : α) : (l ++ [x]).flatMap S.enc = l.flatMap S.enc ++ S.enc x := by
  rw [List.flatMap_append]; simp
theorem sum_snoc (S : Sh α) (l : List α) (x : α) : sum S (l ++ [x]) = sum S l + (2 + (S.enc x).length) := by
  unfold sum; rw [List.map_append, List.sum_append]; simp
theorem sum_eq (S : Sh α) (l : List α) : sum S l = 2 * l.length + (l.flatMap S.enc).length := by
  induction l with
  | nil => rfl
  | cons x l ih =>
    rw [List.flatMap_cons, List.length_append, List.length_cons]
    have : sum S (x :: l) = 2 + (S.enc x).length + sum S l := by unfold sum; rw [List.map_cons, List.sum_cons]
    omega
theorem body_len (S : Sh α) (l : List α) : (body S l).length = sum S l := by
  unfold body; rw [List.length_append, begins_len, sum_eq]
theorem take_snoc' (l : List α) (k : Nat) (x : α) (h : l[k]? = some x) : l.take (k + 1) = l.take k ++ [x] := by
  obtain ⟨hk, he⟩ := List.getElem?_eq_some_iff.1 h
  rw [List.take_succ_eq_append_getElem hk, he]
theorem sum_le (S : Sh α) (m : Nat) (hm : ∀ x, (S.enc x).length ≤ m) (l : List α) : sum S l ≤ (m + 2) * l.length := by
  induction l with
  | nil => exact Nat.zero_le _
  | cons x l ih =>
    have h1 : sum S (x :: l) = 2 + (S.enc x).length + sum S l := by unfold sum; rw [List.map_cons, List.sum_cons]
    have h2 := hm x
    rw [List.length_cons, Nat.mul_succ]
    omega
theorem flat_le (S : Sh α) (l : List α) : (l.flatMap S.enc).length ≤ sum S l := by rw [sum_eq]; omega
theorem sum_take (S : Sh α) (l : List α) (k : Nat) : sum S (l.take k) ≤ sum S l := by
  conv => rhs; rw [← List.take_append_drop k l]
  unfold sum; rw [List.map_append, List.sum_append]; omega
/-- No two neighbours that don't rise, as an index finds them. -/
theorem rises_iff (S : Sh α) : ∀ l : List α, rises S l = true ↔ ∀ k a b, l[k]? = some a → l[k + 1]? = some b → less (S.key a) (S.key b) = true
  | [] => by simp [rises]
  | [a] => by
    simp only [rises, true_iff]
    intro k a b _ h; simp at h
  | a :: b :: l => by
    rw [rises, Bool.and_eq_true, rises_iff S (b :: l)]
    constructor
    · rintro ⟨h1, h2⟩ k x y hx hy
      match k with
      | 0 => simp at hx hy; subst hx; subst hy; exact h1
      | k + 1 => exact h2 k x y (by simpa using hx) (by simpa using hy)
    · intro h
      refine ⟨h 0 a b (by simp) (by simp), fun k x y hx hy => h (k + 1) x y (by simpa using hx) (by simpa using hy)⟩
theorem rises_false (S : Sh α) (l : List α) (k : Nat) (a b : α) (ha : l[k]? = some a) (hb : l[k + 1]? = some b) (h : less (S.key a) (S.key b) = false) : rises S l = false := by
  cases hr : rises S l
  · rfl
  · rw [(rises_iff S l).1 hr k a b ha hb] at h; cases h
theorem right_long (S : Sh α) (l : List α) (k : Nat) (x : α) (h : l[k]? = some x) (hx : long S x = true) : right S l = 5 := by
  unfold right
  rw [if_pos (List.any_eq_true.2 ⟨x, List.mem_of_getElem? h, hx⟩)]
theorem right_drop (S : Sh α) (l : List α) (h : l.any (long S) = false) (hr : rises S l = false) : right S l = 30 := by
  unfold right; rw [h, hr]; rfl
theorem right_ok (S : Sh α) (l : List α) (h : l.any (long S) = false) (hr : rises S l = true) : right S l = 0 := by
  unfold right; rw [h, hr]; rfl
theorem any_snoc (S : Sh α) (l : List α) (k : Nat) (x : α) (h : l[k]? = some x) (h0 : (l.take k).any (long S) = false) (hx : long S x = false) : (l.take (k + 1)).any (long S) = false := by
  rw [take_snoc' l k x h, List.any_append, h0]; simp [hx]
theorem rises_upto (S : Sh α) (l : List α) (k : Nat) (x y : α) (hx : l[k]? = some x) (hy : l[k + 1]? = some y) (h : less (S.key x) (S.key y) = true)
    (h0 : ∀ j a b, j < k → l[j]? = some a → l[j + 1]? = some b → less (S.key a) (S.key b) = true) : ∀ j a b, j < k + 1 → l[j]? = some a → l[j + 1]? = some b → less (S.key a) (S.key b) = true := by
  intro j a b hj ha hb
  by_cases hk : j < k
  · exact h0 j a b hk ha hb
  · obtain rfl : j = k := by omega
    rw [hx] at ha; rw [hy] at hb; cases ha; cases hb; exact h
theorem rises_all (S : Sh α) (l : List α) (h0 : ∀ j a b, j < l.length - 1 → l[j]? = some a → l[j + 1]? = some b → less (S.key a) (S.key b) = true) : rises S l = true :=
  (rises_iff S l).2 fun k a b ha hb => h0 k a b (by have := (List.getElem?_eq_some_iff.1 hb).1; omega) ha hb
end Sl
end Go.Proofs.Ytgckaecjjoghbaa
/- The contracts of the functions that write numbers and texts as bytes. -/
namespace Go.Proofs.Ytgckaecjjoghbaa
open Go.RowKit
def str (l : List UInt8) : ByteArray := ⟨l.toArray⟩
theorem str_data (l : List UInt8) : (str l).data.toList = l := rfl
theorem str_size (l : List UInt8) : (str l).size = l.length := rfl
theorem str_append (l m : List UInt8) : str l ++ str m = str (l ++ m) := by
  apply ByteArray.ext
  simp [str]
theorem str_eq (s : ByteArray) : str s.data.toList = s := rfl
theorem ret_string {a b : ByteArray} (h : a = b) : Ending.returned (.string a) = .returned (.string b) := by rw [h]
theorem one_back (n : Nat) (h : n < 256) (w : World) :
    (convert 105 9 (.slice (some ⟨w.heap.size, 0, none⟩) 1 1)).run Try.prog (w.alloc (.cells #[.int .u8 n] 5)) = .ok (.string (str (Oc.big 1 n))) (w.alloc (.cells #[.int .u8 n] 5)) := by
  have hback := run_convert_bytes_back (P := Try.prog) (w.alloc (.cells #[.int .u8 n] 5)) 105 9 5 ⟨w.heap.size, 0, none⟩ 1 (Oc.big 1 n) Try.underlying105 Try.underlying5 Try.underlying9 (by
    intro j hj
    rw [Oc.big_length] at hj
    obtain rfl : j = 0 := by omega
    have e : (Oc.big 1 n)[0].toNat = n := by
      show (UInt8.ofNat (n % 256)).toNat = n
      rw [UInt8.toNat_ofNat']; omega
    refine Eq.trans (b := some (.int .u8 (n : Int))) ?_ (congrArg (fun x : Nat => some (Value.int .u8 (x : Int))) e.symm)
    rw [show (⟨w.heap.size, 0, none⟩ : Addr).add 0 = ⟨w.heap.size, 0, none⟩ from rfl]
    simp)
  exact hback
theorem one_any (n : Nat) (h : n < 256) (w : World) :
    Calls Try.prog 110 #[.int .u8 n] w fun e w' => e = .returned (.string (str (Oc.big 1 n))) ∧ Below w.heap.size w w' := by
  have hb := one_back n h
  go_enter Try.func110, Try.ntmps110
  go_wp2
  go_ret
  exact ⟨rfl, (Below.refl _ _).alloc (Nat.le_refl _) _⟩
theorem one_at (x : Int) (n : Nat) (hx : x = n) (h : n < 256) (w : World) :
    Calls Try.prog 110 #[.int .u8 x] w fun e w' => e = .returned (.string (str (Oc.big 1 n))) ∧ Below w.heap.size w w' := by
  subst hx; exact one_any n h w
theorem big_size (k n : Nat) : (str (Oc.big k n)).size = k := by rw [str_size, Oc.big_length]
theorem two_at (x : Int) (n : Nat) (hx : x = n) (h : n < 65536) (w : World) :
    Calls Try.prog 93 #[.int .u16 x] w fun e w' => e = .returned (.string (str (Oc.big 2 n))) ∧ Below w.heap.size w w' := by
  subst hx
  have hs := big_size
  have H : Hid (str (Oc.big 1 (n / 256)) ++ str (Oc.big 1 (n % 256)) = str (Oc.big 2 n)) := by
    show _ = str (Oc.big (1 + 1) n)
    rw [str_append, Oc.big_add 1 1, ← Oc.big_mod 1 n]
  go_enter Try.func93, Try.ntmps93
  go_wp2_with (go_at_call 110; first
    | (refine (one_at _ (n / 256) (by omega) (by omega) _).mono ?_; rintro e w1 ⟨rfl, hb1⟩)
    | (refine (one_at _ (n % 256) (by omega) (by omega) _).mono ?_; rintro e w2 ⟨rfl, hb2⟩))
  go_ret
  exact ⟨ret_string H.out, hb1.trans (hb2.mono hb1.size)⟩
theorem four_at (x : Int) (n : Nat) (hx : x = n) (h : n < 4294967296) (w : World) :
    Calls Try.prog 72 #[.int .u32 x] w fun e w' => e = .returned (.string (str (Oc.big 4 n))) ∧ Below w.heap.size w w' := by
  subst hx
  have hs := big_size
  have H : Hid (str (Oc.big 2 (n / 65536)) ++ str (Oc.big 2 (n % 65536)) = str (Oc.big 4 n)) := by
    show _ = str (Oc.big (2 + 2) n)
    rw [str_append, Oc.big_add 2 2, ← Oc.big_mod 2 n]
  go_enter Try.func72, Try.ntmps72
  go_wp2_with (go_at_call 93; first
    | (refine (two_at _ (n / 65536) (by omega) (by omega) _).mono ?_; rintro e w1 ⟨rfl, hb1⟩)
    | (refine (two_at _ (n % 65536) (by rw [IntKind.wrap_u16]; omega) (by omega) _).mono ?_; rintro e w2 ⟨rfl, hb2⟩))
  go_ret
  exact ⟨ret_string H.out, hb1.trans (hb2.mono hb1.size)⟩
end Go.Proofs.Ytgckaecjjoghbaa
/- What a reader is in memory, and the contracts of the functions that read and fail. -/
namespace Go.Proofs.Ytgckaecjjoghbaa
open Go.RowKit
structure Rd (w : World) (b : Nat) (s : ByteArray) (e : Int) : Prop where
  c0 : w.cell? ⟨b, 0, none⟩ = some (.string s)
  c1 : w.cell? ⟨b, 1, none⟩ = some (.int .i64 e)
  f0 : w.frozen? ⟨b, 0, none⟩ = false
  f1 : w.frozen? ⟨b, 1, none⟩ = false
structure Upd (b : Nat) (w w' : World) : Prop where
  os : w'.os = w.os
  tape : w'.tape = w.tape
  output : w'.output = w.output
  size : w'.heap.size = w.heap.size
  block : ∀ k, k ≠ b → w'.heap[k]? = w.heap[k]?
theorem Upd.refl (b : Nat) (w : World) : Upd b w w := ⟨rfl, rfl, rfl, rfl, fun _ _ => rfl⟩
theorem Upd.trans {b : Nat} {u v w : World} (h : Upd b u v) (k : Upd b v w) : Upd b u w :=
  ⟨k.os.trans h.os, k.tape.trans h.tape, k.output.trans h.output, k.size.trans h.size, fun i hi => (k.block i hi).trans (h.block i hi)⟩
theorem Upd.drew {b : Nat} {u v : World} (h : Upd b u v) : Upd b u v.drew := ⟨h.os, h.tape, h.output, h.size, h.block⟩
theorem Upd.drewN {b : Nat} {u v : World} (h : Upd b u v) (n : Nat) : Upd b u (v.drewN n) := ⟨h.os, h.tape, h.output, h.size, h.block⟩
theorem Upd.setCell {b o : Nat} {u v : World} (h : Upd b u v) (x : Value) : Upd b u (v.setCell ⟨b, o, none⟩ x) :=
  h.trans ⟨rfl, rfl, rfl, by simp [World.setCell], fun k hk => Below.heap_setCell _ _ _ _ hk⟩
theorem Upd.below {b B : Nat} {w w' : World} (h : Upd b w w') (hb : B ≤ b) : Below B w w' :=
  ⟨h.os, h.tape, h.output, Nat.le_of_eq h.size.symm, fun k hk => h.block k (by omega)⟩
theorem Rd.drew {w : World} {b : Nat} {s : ByteArray} {e : Int} (h : Rd w b s e) : Rd w.drew b s e := ⟨h.c0, h.c1, h.f0, h.f1⟩
theorem Rd.drewN {w : World} {b : Nat} {s : ByteArray} {e : Int} (h : Rd w b s e) (n : Nat) : Rd (w.drewN n) b s e := ⟨h.c0, h.c1, h.f0, h.f1⟩
theorem Rd.set1 {w : World} {b : Nat} {s : ByteArray} {e : Int} (h : Rd w b s e) (x : Int) : Rd (w.setCell ⟨b, 1, none⟩ (.int .i64 x)) b s x :=
  ⟨by rw [World.cell?_setCell_other _ _ _ _ (fun h => by cases h), h.c0], World.cell?_setCell_same' _ _ _ (by rw [h.c1]; rfl), by rw [World.frozen?_setCell, h.f0], by rw [World.frozen?_setCell, h.f1]⟩
theorem Rd.set0 {w : World} {b : Nat} {s : ByteArray} {e : Int} (h : Rd w b s e) (x : ByteArray) : Rd (w.setCell ⟨b, 0, none⟩ (.string x)) b x e :=
  ⟨World.cell?_setCell_same' _ _ _ (by rw [h.c0]; rfl), by rw [World.cell?_setCell_other _ _ _ _ (fun h => by cases h), h.c1], by rw [World.frozen?_setCell, h.f0], by rw [World.frozen?_setCell, h.f1]⟩
theorem Rd.upd {w w' : World} {b c : Nat} {s : ByteArray} {e : Int} (h : Rd w b s e) (u : Upd c w w') (hne : b ≠ c) : Rd w' b s e := by
  have hB := u.block b hne
  exact ⟨(World.cell?_of_block (w := w) hB).trans h.c0, (World.cell?_of_block (w := w) hB).trans h.c1, (World.frozen?_of_block (w := w) hB).trans h.f0, (World.frozen?_of_block (w := w) hB).trans h.f1⟩
theorem Rd.below {w w' : World} {b : Nat} {s : ByteArray} {e : Int} (h : Rd w b s e) (hb : Below w.heap.size w w') : Rd w' b s e := by
  have hB := hb.block b (block_lt_of_cell h.c0)
  exact ⟨(World.cell?_of_block (w := w) hB).trans h.c0, (World.cell?_of_block (w := w) hB).trans h.c1, (World.frozen?_of_block (w := w) hB).trans h.f0, (World.frozen?_of_block (w := w) hB).trans h.f1⟩
def tk (s : ByteArray) (e n : Int) : ByteArray × ByteArray × Int :=
  if e ≠ 0 then (ByteArray.empty, s, e) else if n < 0 ∨ (s.size : Int) < n then (ByteArray.empty, s, 3) else (s.extract 0 n.toNat, s.extract n.toNat s.size, 0)
theorem tk_bad (s : ByteArray) (e n : Int) (h : e ≠ 0) : tk s e n = (ByteArray.empty, s, e) := by unfold tk; rw [if_pos h]
theorem tk_short (s : ByteArray) (n : Int) (h : n < 0 ∨ (s.size : Int) < n) : tk s 0 n = (ByteArray.empty, s, 3) := by unfold tk; rw [if_neg (by decide), if_pos h]
theorem tk_ok (s : ByteArray) (n : Nat) (h : n ≤ s.size) : tk s 0 n = (s.extract 0 n, s.extract n s.size, 0) := by
  unfold tk; rw [if_neg (by decide), if_neg (by omega)]; rfl
theorem tk_size (s : ByteArray) (e : Int) (k : Nat) : (tk s e k).1.size ≤ k := by
  unfold tk
  split
  · exact Nat.zero_le _
  · split
    · exact Nat.zero_le _
    · rw [ByteArray.size_extract]; omega
theorem take_snoc (s : ByteArray) (k : Nat) (h : k < s.size) : s.data.toList.take (k + 1) = s.data.toList.take k ++ [s[k]] := by
  rw [List.take_succ_eq_append_getElem (by simpa using h)]; rfl
theorem u64_or_byte (v c : Nat) (hv : v < 72057594037927936) (hc : c < 256) : bits .or .u64 (IntKind.u64.wrap ((v : Int) * 256)) (IntKind.u64.wrap (c : Int)) = ((v * 256 + c : Nat) : Int) := by
  have h1 : IntKind.u64.wrap ((v : Int) * 256) = ((v * 256 : Nat) : Int) := by rw [IntKind.wrap_u64]; omega
  have h2 : IntKind.u64.wrap (c : Int) = ((c : Nat) : Int) := by rw [IntKind.wrap_u64]; omega
  rw [h1, h2, u64_or_nat _ _ (by omega) (by omega)]
  have := Nat.shiftLeft_add_eq_or_of_lt (i := 8) (b := c) (by omega) v
  rw [Nat.shiftLeft_eq] at this
  rw [show v * 256 = v * 2 ^ 8 by rfl, this]
theorem val_take (t : ByteArray) (m : Nat) (h : m < t.size) (h8 : t.size ≤ 8) : Oc.val (t.data.toList.take m) < 72057594037927936 := by
  refine Nat.lt_of_lt_of_le (Oc.val_lt _) ?_
  rw [List.length_take]
  exact Nat.le_trans (Nat.pow_le_pow_right (by omega) (show min m t.data.toList.length ≤ 7 by omega)) (by decide)
theorem ret_int {k : IntKind} {a b : Int} (h : a = b) : Ending.returned (.int k a) = .returned (.int k b) := by rw [h]
def fin (s : ByteArray) (e : Int) : Int := if e = 0 ∧ 0 < s.size then 4 else e
end Go.Proofs.Ytgckaecjjoghbaa
/- The contracts of the document's own numbers and texts as bytes. -/
namespace Go.Proofs.Ytgckaecjjoghbaa
open Go.RowKit
theorem val_i64 {a b : Int} (h : a = b) : Value.int .i64 a = .int .i64 b := by rw [h]
theorem u64_quo (v : Nat) (h : v < 18446744073709551616) : IntKind.u64.wrap ((v : Int).tdiv 256) = ((v / 256 : Nat) : Int) := by
  rw [Int.tdiv_eq_ediv_of_nonneg (by omega), IntKind.wrap_u64]; omega
theorem u8_rem (v : Nat) : Value.int .u8 ((v : Int).tmod 256 % 256) = .int .u8 ((v % 256 : Nat) : Int) := by
  rw [Int.tmod_eq_emod_of_nonneg (by omega)]; congr 1; omega
set_option maxHeartbeats 400000 in
set_option maxRecDepth 100000 in
theorem big_any (x : Int) (n k : Nat) (hx : x = n) (hn : n < 18446744073709551616) (hk : k ≤ 8) (hk1 : 1 ≤ k) (w : World) :
    Calls Try.prog 54 #[.int .u64 x, .int .i64 k] w fun e w' => e = .returned (.string (str (Oc.big k n))) ∧ Below w.heap.size w w' := by
  subst hx
  go_enter Try.func54, Try.ntmps54
  go_wp2
  have hW : Below w.heap.size w (w.alloc (Obj.cells #[.int .u8 0, .int .u8 0, .int .u8 0, .int .u8 0, .int .u8 0, .int .u8 0, .int .u8 0, .int .u8 0] 116)) := (Below.refl _ _).alloc (Nat.le_refl _) _
  have HC : Hid (∀ j, j < 8 → (w.alloc (Obj.cells #[.int .u8 0, .int .u8 0, .int .u8 0, .int .u8 0, .int .u8 0, .int .u8 0, .int .u8 0, .int .u8 0] 116)).cell? ⟨w.heap.size, j, none⟩ = some (.int .u8 (Oc.dig n 0 j : Nat))) := by
    intro j hj
    rw [Oc.dig_zero]
    match j, hj with
    | 0, _ | 1, _ | 2, _ | 3, _ | 4, _ | 5, _ | 6, _ | 7, _ => simp
  have HF : Hid (∀ j, j < 8 → (w.alloc (Obj.cells #[.int .u8 0, .int .u8 0, .int .u8 0, .int .u8 0, .int .u8 0, .int .u8 0, .int .u8 0, .int .u8 0] 116)).frozen? ⟨w.heap.size, j, none⟩ = false) := by
    intro j hj
    match j, hj with
    | 0, _ | 1, _ | 2, _ | 3, _ | 4, _ | 5, _ | 6, _ | 7, _ => simp
  revert hW HC HF
  generalize (w.alloc (Obj.cells #[.int .u8 0, .int .u8 0, .int .u8 0, .int .u8 0, .int .u8 0, .int .u8 0, .int .u8 0, .int .u8 0] 116)) = W
  generalize hg : w.heap.size = g
  intro hW HC HF
  have HG := Lib.hid hg
  clear hg
  go_loopw [0, 6] (fun v i wr => ∃ m : Nat, m ≤ 8 ∧ v = .int .u64 ((n / 256 ^ m : Nat) : Int) ∧ i = .int .i64 (7 - m) ∧ Hid (∀ j, j < 8 → wr.cell? ⟨g, j, none⟩ = some (.int .u8 (Oc.dig n m j : Nat))) ∧ Hid (∀ j, j < 8 → wr.frozen? ⟨g, j, none⟩ = false) ∧ Below g w wr) (fun _ i _ => (intOf i + 1).toNat)
  case atStart => exact ⟨0, by omega, by simp, rfl, HC, HF, hW⟩
  case round =>
    obtain ⟨m, hm, rfl, rfl, HC, HF, hW⟩ := hrel
    by_cases hlt : m < 8
    · obtain ⟨q, hq⟩ : ∃ q : Nat, (7 : Int) - m = q := ⟨7 - m, by omega⟩
      have hc := HC.out q (by omega)
      have hf := HF.out q (by omega)
      have HQ := Lib.hid hq
      have hq8 : (q : Int) < 8 := by omega
      have hs := Oc.dig_same n m hlt
      have ht : n / 256 ^ (m + 1) = n / 256 ^ m / 256 := by rw [Nat.div_div_eq_div_mul, Nat.pow_succ]
      have hv : n / 256 ^ m < 18446744073709551616 := Nat.lt_of_le_of_lt (Nat.div_le_self _ _) hn
      have HS := Lib.hid hs
      have HT := Lib.hid ht
      clear hs ht
      revert HS HT hv
      generalize hvv : n / 256 ^ m = v
      intro hv HS HT
      clear hvv
      rw [hq]
      clear hq
      go_wp2
      go_roundw
      case rel =>
        have hq := HQ.out
        refine ⟨m + 1, by omega, by rw [HT.out, Int.natCast_ediv]; rfl, val_i64 (by omega), ?_, ?_, hW.setCell (p := ⟨g, q, none⟩) (Nat.le_refl _) _⟩
        · intro j hj
          by_cases hjq : j = q
          · subst hjq
            rw [World.cell?_setCell_same' _ _ _ (by rw [hc]; rfl)]
            have : j = 7 - m := by omega
            rw [this, HS.out, Int.natCast_emod]; rfl
          · rw [World.cell?_setCell_other _ _ _ _ (fun h => hjq (by cases h; rfl)), HC.out j hj, Oc.dig_other n m j (by omega) hj]
        · intro j hj
          rw [World.frozen?_setCell]
          exact HF.out j hj
      case measure => simp [intOf]
    · obtain rfl : m = 8 := by omega
      obtain ⟨a, ha⟩ : ∃ a : Nat, (8 : Int) - k = a := ⟨8 - k, by omega⟩
      have hback := run_convert_bytes_back (P := Try.prog) wr 105 9 5 ⟨g, a, none⟩ k (Oc.big k n) Try.underlying105 Try.underlying5 Try.underlying9 (by
        intro j hj
        rw [Oc.big_length] at hj
        obtain ⟨b, hb1, hb2⟩ := Oc.dig_big n k j hk hj
        rw [show (⟨g, a, none⟩ : Addr).add j = ⟨g, a + j, none⟩ by unfold Addr.add; split <;> simp_all, HC.out (a + j) (by omega), show a + j = 8 - k + j by omega, ← hb2]
        rw [List.getElem?_eq_getElem (by rw [Oc.big_length]; exact hj)] at hb1
        rw [Option.some.inj hb1])
      rw [Oc.big_length] at hback
      have hal : (a : Int) ≤ Try.prog.arrayLen 116 := by rw [show Try.prog.arrayLen 116 = 8 by kernel_rfl]; omega
      have ha0 : (0 : Int) ≤ (a : Int) := by omega
      have hsl : ∀ W : World, (Instr.sliceAt 116 (.pointer (some ⟨g, 0, none⟩)) (some (.int .i64 a)) none none).run Try.prog W = .ok (.slice (some ⟨g, a, none⟩) k k) W := by
        intro W
        rw [run_sliceAt_array_l W 116 _ (by kernel_rfl) .i64 a ha0 hal]
        rw [show Try.prog.arrayLen 116 = 8 by kernel_rfl, show (sizeOf (Try.prog.elem 116)).run Try.prog W = .ok 1 W by kernel_rfl]
        simp only [Result.andThen, slicedAt]
        rw [Int.toNat_natCast, if_neg (by omega), show 8 - a = k by omega]
        congr 3
        unfold Addr.add; split <;> simp_all
      go_wp2
      go_ret
      exact ⟨rfl, by rw [HG.out]; exact hW⟩
end Go.Proofs.Ytgckaecjjoghbaa
/- The contracts of the document's own reader. -/
namespace Go.Proofs.Ytgckaecjjoghbaa
open Go.RowKit
theorem u64_add_byte (v c : Nat) (hv : v < 72057594037927936) (hc : c < 256) : IntKind.u64.wrap (IntKind.u64.wrap ((v : Int) * 256) + IntKind.u64.wrap (c : Int)) = ((v * 256 + c : Nat) : Int) := by
  rw [IntKind.wrap_u64, IntKind.wrap_u64, IntKind.wrap_u64]; omega
end Go.Proofs.Ytgckaecjjoghbaa
/- What stays as it was while one block is turned. -/
namespace Go.Proofs.Ytgckaecjjoghbaa
open Go.RowKit
structure Mod (b : Nat) (w w' : World) : Prop where
  os : w'.os = w.os
  tape : w'.tape = w.tape
  output : w'.output = w.output
  size : w.heap.size ≤ w'.heap.size
  block : ∀ k, k < w.heap.size → k ≠ b → w'.heap[k]? = w.heap[k]?
theorem Mod.refl (b : Nat) (w : World) : Mod b w w := ⟨rfl, rfl, rfl, Nat.le_refl _, fun _ _ _ => rfl⟩
theorem Mod.trans {b : Nat} {u v w : World} (h : Mod b u v) (k : Mod b v w) : Mod b u w :=
  ⟨k.os.trans h.os, k.tape.trans h.tape, k.output.trans h.output, Nat.le_trans h.size k.size, fun i hi hne => (k.block i (Nat.lt_of_lt_of_le hi h.size) hne).trans (h.block i hi hne)⟩
theorem Mod.upd {b : Nat} {u v w : World} (h : Mod b u v) (k : Upd b v w) : Mod b u w :=
  h.trans ⟨k.os, k.tape, k.output, Nat.le_of_eq k.size.symm, fun i _ hne => k.block i hne⟩
theorem Mod.step {b : Nat} {u v w : World} (h : Mod b u v) (k : Below v.heap.size v w) : Mod b u w :=
  h.trans ⟨k.os, k.tape, k.output, k.size, fun i hi _ => k.block i hi⟩
theorem Mod.alloc {b : Nat} {u v : World} (h : Mod b u v) (o : Obj) : Mod b u (v.alloc o) := h.step ((Below.refl _ _).alloc (Nat.le_refl _) _)
theorem Mod.below {b B : Nat} {w w' : World} (h : Mod b w w') (hb : B ≤ b) (hB : B ≤ w.heap.size) : Below B w w' :=
  ⟨h.os, h.tape, h.output, h.size, fun k hk => h.block k (by omega) (by omega)⟩
theorem Mod.cell {b : Nat} {w w' : World} (h : Mod b w w') {p : Addr} (hp : p.block < w.heap.size) (hne : p.block ≠ b) : w'.cell? p = w.cell? p := World.cell?_of_block (w := w) (h.block p.block hp hne)
theorem Mod.frozen {b : Nat} {w w' : World} (h : Mod b w w') {p : Addr} (hp : p.block < w.heap.size) (hne : p.block ≠ b) : w'.frozen? p = w.frozen? p := World.frozen?_of_block (w := w) (h.block p.block hp hne)
theorem Mod.step' {b : Nat} {u v w : World} (h : Mod b u v) (k : Below u.heap.size v w) : Mod b u w :=
  ⟨k.os.trans h.os, k.tape.trans h.tape, k.output.trans h.output, Nat.le_trans h.size k.size, fun i hi hne => (k.block i hi).trans (h.block i hi hne)⟩
theorem Rd.below' {w w' : World} {b B : Nat} {s : ByteArray} {e : Int} (h : Rd w b s e) (hb : Below B w w') (hlt : b < B) : Rd w' b s e := by
  have hB := hb.block b hlt
  exact ⟨(World.cell?_of_block (w := w) hB).trans h.c0, (World.cell?_of_block (w := w) hB).trans h.c1, (World.frozen?_of_block (w := w) hB).trans h.f0, (World.frozen?_of_block (w := w) hB).trans h.f1⟩
theorem own_upd {w w' : World} {b B : Nat} {e : TypeId} {s : Nat} {v : Value} {n : Nat} {xs : List Value} (h : w.ownsRow B e s v n xs) (u : Upd b w w') (hb : b < B) : w'.ownsRow B e s v n xs := by
  obtain ⟨h0, h1⟩ := h
  refine ⟨h0, ?_⟩
  rcases h1 with h1 | ⟨g, cap, cur, hv, hg, hh, rest⟩
  · exact .inl h1
  · exact .inr ⟨g, cap, cur, hv, hg, by rw [u.block g (by omega), hh], rest⟩
theorem own_mod {w w' : World} {b B : Nat} {e : TypeId} {s : Nat} {v : Value} {n : Nat} {xs : List Value} (h : w.ownsRow B e s v n xs) (m : Mod b w w') (hb : b < B) : w'.ownsRow B e s v n xs := by
  obtain ⟨h0, h1⟩ := h
  refine ⟨h0, ?_⟩
  rcases h1 with h1 | ⟨g, cap, cur, hv, hg, hh, rest⟩
  · exact .inl h1
  · have hlt : g < w.heap.size := by
      rcases Nat.lt_or_ge g w.heap.size with h' | h'
      · exact h'
      · rw [Array.getElem?_eq_none h'] at hh; cases hh
    exact .inr ⟨g, cap, cur, hv, hg, by rw [m.block g hlt (by omega), hh], rest⟩
theorem own_below {w w' : World} {B B' : Nat} {e : TypeId} {s : Nat} {v : Value} {n : Nat} {xs : List Value} (h : w.ownsRow B e s v n xs) (hb : Below B' w w') (hB : w.heap.size ≤ B') : w'.ownsRow B e s v n xs := by
  obtain ⟨h0, h1⟩ := h
  refine ⟨h0, ?_⟩
  rcases h1 with h1 | ⟨g, cap, cur, hv, hg, hh, rest⟩
  · exact .inl h1
  · have hlt : g < w.heap.size := by
      rcases Nat.lt_or_ge g w.heap.size with h' | h'
      · exact h'
      · rw [Array.getElem?_eq_none h'] at hh; cases hh
    exact .inr ⟨g, cap, cur, hv, hg, by rw [hb.block g (by omega), hh], rest⟩
theorem Mod.old {b : Nat} {w w' : World} {o : Obj} (h : Mod b (w.alloc o) w') : Mod b w w' := ((Mod.refl b w).alloc o).trans h
theorem Rd.lt {w : World} {b : Nat} {s : ByteArray} {e : Int} (h : Rd w b s e) : b < w.heap.size := World.block_lt_of_cell? _ _ h.c0
end Go.Proofs.Ytgckaecjjoghbaa
/- The contracts of what lays one cell: first, putKey, putCell, and a shape's own functions. -/
namespace Go.Proofs.Ytgckaecjjoghbaa
open Go.RowKit
open Sl (Cl Kd)
theorem below_step {a b c : World} (h : Below a.heap.size a b) (k : Below b.heap.size b c) : Below a.heap.size a c := h.trans (k.mono h.size)
theorem below_off {w w1 : World} {o : Obj} (h : Below (w.alloc o).drew.heap.size (w.alloc o).drew w1) : Below w.heap.size w w1 :=
  (((Below.refl _ _).alloc (Nat.le_refl _) o).drew).trans (h.mono (by show w.heap.size ≤ (w.alloc o).heap.size; simp))
def aggC (c : Cl) : Value := .agg #[.string (str c.key), .string (str c.val), .int .u32 c.chain, .int .u32 c.long]
def aggK (k : Kd) : Value := .agg #[.string (str k.key), .int .u32 k.page]
theorem str_take (l : List UInt8) (n : Nat) : (str l).extract 0 (min l.length n) = str (l.take n) := by
  apply ByteArray.ext
  simp [str, ByteArray.data_extract, List.extract_toArray]
  rw [Nat.min_comm]
theorem ext_full (s : ByteArray) : s.extract 0 s.size = s := by
  apply ByteArray.ext
  simp
theorem str_whole (l : List UInt8) : (str l).extract 0 l.length = str l := by
  have := str_take l l.length
  rw [Nat.min_self, List.take_length] at this
  exact this
theorem wrap16_le (x : Nat) (h : x < 65536) : IntKind.u16.wrap (x : Int) = x := by rw [IntKind.wrap_u16]; omega
/-- The fields of a boxed branch's cell, and that nothing else of old has turned. -/
def InK (w : World) (g : Nat) (x0 x1 : Value) (w' : World) : Prop :=
  w'.cell? ⟨g, 0, none⟩ = some x0 ∧ w'.cell? ⟨g, 1, none⟩ = some x1 ∧ Below g w w'
theorem InK.step {w w1 w2 : World} {g : Nat} {x0 x1 : Value} (h : w1.cell? ⟨g, 0, none⟩ = some x0 ∧ w1.cell? ⟨g, 1, none⟩ = some x1 ∧ Below g w w1) (hb : Below w1.heap.size w1 w2) :
    w2.cell? ⟨g, 0, none⟩ = some x0 ∧ w2.cell? ⟨g, 1, none⟩ = some x1 ∧ Below g w w2 := by
  obtain ⟨h0, h1, h2⟩ := h
  have hlt := World.block_lt_of_cell? _ _ h0
  exact ⟨(hb.cell (p := ⟨g, 0, none⟩) hlt).trans h0, (hb.cell (p := ⟨g, 1, none⟩) hlt).trans h1, h2.trans (hb.mono (Nat.le_of_lt hlt))⟩
theorem InK.first (w : World) (x0 x1 : Value) (T : TypeId) :
    (w.alloc (.cells #[x0, x1] T)).drew.cell? ⟨w.heap.size, 0, none⟩ = some x0 ∧ (w.alloc (.cells #[x0, x1] T)).drew.cell? ⟨w.heap.size, 1, none⟩ = some x1 ∧ Below w.heap.size w (w.alloc (.cells #[x0, x1] T)).drew :=
  ⟨by simp, by simp, ((Below.refl _ _).alloc (Nat.le_refl _) _).drew⟩
theorem InC.step {w w1 w2 : World} {g : Nat} {x0 x1 x2 x3 : Value} (h : w1.cell? ⟨g, 0, none⟩ = some x0 ∧ w1.cell? ⟨g, 1, none⟩ = some x1 ∧ w1.cell? ⟨g, 2, none⟩ = some x2 ∧ w1.cell? ⟨g, 3, none⟩ = some x3 ∧ Below g w w1) (hb : Below w1.heap.size w1 w2) :
    w2.cell? ⟨g, 0, none⟩ = some x0 ∧ w2.cell? ⟨g, 1, none⟩ = some x1 ∧ w2.cell? ⟨g, 2, none⟩ = some x2 ∧ w2.cell? ⟨g, 3, none⟩ = some x3 ∧ Below g w w2 := by
  obtain ⟨h0, h1, h2, h3, h4⟩ := h
  have hlt := World.block_lt_of_cell? _ _ h0
  exact ⟨(hb.cell (p := ⟨g, 0, none⟩) hlt).trans h0, (hb.cell (p := ⟨g, 1, none⟩) hlt).trans h1, (hb.cell (p := ⟨g, 2, none⟩) hlt).trans h2, (hb.cell (p := ⟨g, 3, none⟩) hlt).trans h3, h4.trans (hb.mono (Nat.le_of_lt hlt))⟩
theorem InC.first (w : World) (x0 x1 x2 x3 : Value) (T : TypeId) :
    (w.alloc (.cells #[x0, x1, x2, x3] T)).drew.cell? ⟨w.heap.size, 0, none⟩ = some x0 ∧ (w.alloc (.cells #[x0, x1, x2, x3] T)).drew.cell? ⟨w.heap.size, 1, none⟩ = some x1 ∧ (w.alloc (.cells #[x0, x1, x2, x3] T)).drew.cell? ⟨w.heap.size, 2, none⟩ = some x2 ∧ (w.alloc (.cells #[x0, x1, x2, x3] T)).drew.cell? ⟨w.heap.size, 3, none⟩ = some x3 ∧ Below w.heap.size w (w.alloc (.cells #[x0, x1, x2, x3] T)).drew :=
  ⟨by simp, by simp, by simp, by simp, ((Below.refl _ _).alloc (Nat.le_refl _) _).drew⟩
end Go.Proofs.Ytgckaecjjoghbaa
/- The contracts of a leaf's cell: its bytes and its key by the codec's and the shape's calls, its size. -/
namespace Go.Proofs.Ytgckaecjjoghbaa
open Go.RowKit
open Sl (Cl Kd)
theorem lt3 (w : World) (o1 o2 o3 : Obj) : w.heap.size + 1 + 1 < (((w.alloc o1).alloc o2).alloc o3).heap.size := by simp
theorem size2 (w : World) (o1 o2 : Obj) : ((w.alloc o1).alloc o2).heap.size = w.heap.size + 1 + 1 := by simp
theorem cell3 (w : World) (o1 o2 : Obj) (x : Value) (T : TypeId) : (((w.alloc o1).alloc o2).alloc (.cells #[x] T)).cell? ⟨w.heap.size + 1 + 1, 0, none⟩ = some x := by
  have := World.cell?_alloc_new ((w.alloc o1).alloc o2) #[x] T 0
  rw [size2] at this
  exact this
theorem below3 (w : World) (o1 o2 o3 : Obj) : Below w.heap.size w (((w.alloc o1).alloc o2).alloc o3) :=
  below_step (below_step ((Below.refl _ _).alloc (Nat.le_refl _) _) ((Below.refl _ _).alloc (Nat.le_refl _) _)) ((Below.refl _ _).alloc (Nat.le_refl _) _)
end Go.Proofs.Ytgckaecjjoghbaa
