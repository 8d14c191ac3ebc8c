/- Texts of one seat, merged. -/
import Derived.Test.YtemfbkelenaaeaaGreatB03
import Derived.Test.YtemfbkelenaaeaaGreatB04
import Derived.Lib.Bytealg
import Derived.Test.YtemfbkelenaaeaaGreatB02
import Derived.BigQuiet
import Derived.Deep.QuietTactic
import Derived.Deep.LoopGhost
import Derived.Lib.SliceRun
import Derived.Deep.RegionHeld3
set_option maxRecDepth 100000
set_option maxHeartbeats 4000000
set_option linter.unusedVariables false
/- The contract of the document's own right. -/
namespace Go.Proofs.YtemfbkelenaaeaaGreat
open Go.RowKit
open Sl (Cl Kd)
theorem long_bad (leaf : Bool) (x : Cl) (h : 255 < x.key.length) : Sl.long (Sl.shR leaf) x = true := by
  unfold Sl.long; rw [decide_eq_true (show 255 < ((Sl.shR leaf).key x).length from h)]; rfl
theorem long_kid (x : Cl) (h : ¬ 255 < x.key.length) : Sl.long (Sl.shR false) x = false := by
  unfold Sl.long; rw [decide_eq_false (show ¬ 255 < ((Sl.shR false).key x).length from h)]; rfl
theorem long_leaf (x : Cl) (h : ¬ 255 < x.key.length) : Sl.long (Sl.shR true) x = !(Sl.fitsC x) := by
  unfold Sl.long; rw [decide_eq_false (show ¬ 255 < ((Sl.shR true).key x).length from h)]; rfl
theorem str_beq {a b : List UInt8} (h : a = b) : ((str a).toList == (str b).toList) = true := by rw [h]; exact beq_self_eq_true _
theorem str_bne {a b : List UInt8} (h : a ≠ b) : ((str a).toList == (str b).toList) = false := by
  rw [Lib.toList_data, Lib.toList_data, beq_eq_false_iff_ne]; exact h
set_option maxHeartbeats 4000000 in
set_option maxRecDepth 100000 in
theorem refRight_any (leaf : Bool) (v : Value) (l : List Cl) (hll : l.length ≤ 100000) (w : World) (hv : SlC w v l) :
    Calls Tryz.prog 77 #[v, .bool leaf] w fun e w' => e = .returned (.int .i64 (Sl.right (Sl.shR leaf) l)) ∧ Below w.heap.size w w' := by
  obtain ⟨a, b, o, c, rfl, ha, hx⟩ := hv
  have HX := Lib.hid hx
  have HA := Lib.hid ha
  clear ha hx
  go_enter Tryz.func77, Tryz.ntmps77
  go_wp2
  go_loopg [10] l.length (fun n i wr => ∃ k : Nat, k ≤ l.length ∧ n = l.length - k ∧ i = .int .i64 k ∧ Hid ((l.take k).any (Sl.long (Sl.shR leaf)) = false) ∧ Hid (Below w.heap.size w wr))
  case atStart => exact ⟨0, Nat.zero_le _, rfl, rfl, rfl, Below.refl _ _⟩
  case round =>
    obtain ⟨k, hk, rfl, rfl, HM, HB⟩ := hrel
    by_cases hlt : k < l.length
    · obtain ⟨x, hx⟩ := take_some l k hlt
      have HXK := Lib.hid hx
      obtain ⟨e0, e1, e2, e3⟩ := HX.out k x hx
      have hblt : b < w.heap.size := World.block_lt_of_cell? _ _ e0
      have d0 := (HB.out.cell (p := ⟨b, o + k * 4, none⟩) hblt).trans e0
      have d1 := (HB.out.cell (p := ⟨b, o + k * 4 + 1, none⟩) hblt).trans e1
      have d2 := (HB.out.cell (p := ⟨b, o + k * 4 + 2, none⟩) hblt).trans e2
      have d3 := (HB.out.cell (p := ⟨b, o + k * 4 + 3, none⟩) hblt).trans e3
      obtain rfl : a = some ⟨b, o, none⟩ := by
        rcases HA.out with h | h
        · rw [h] at hlt; cases hlt
        · exact h
      have hs := str_size x.key
      have hs2 := str_size x.val
      have HBa : Hid (Below w.heap.size w (wr.alloc (.cells #[.string (str x.key), .string (str x.val), .int .u32 x.chain, .int .u32 x.long] 52))) := HB.out.alloc HB.out.size _
      clear e0 e1 e2 e3 hx
      by_cases hA : 255 < x.key.length
      · have HL : Hid (Sl.right (Sl.shR leaf) l = 5) := Sl.right_long (Sl.shR leaf) l k x HXK.out (long_bad leaf x hA)
        have hA' : (255 : Int) < x.key.length := by omega
        go_wp2
        go_ret
        exact ⟨ret_int HL.out.symm, HBa.out⟩
      · have hA' : ¬ (255 : Int) < x.key.length := by omega
        cases leaf
        · have HN := Lib.hid (Sl.any_snoc (Sl.shR false) l k x HXK.out HM.out (long_kid x hA))
          go_wp2
          go_roundg (l.length - (k + 1))
          case measure => omega
          case rel => exact ⟨k + 1, by omega, rfl, by go_num, HN, HBa⟩
        · by_cases h0 : x.chain = 0
          · have hf : Sl.fitsC x = decide (x.val.length ≤ 400) := by unfold Sl.fitsC; rw [if_neg (by omega)]
            rw [h0] at d2 HBa
            have hz : ((0 : Nat) : Int) = 0 := rfl
            by_cases h4 : x.val.length ≤ 400
            · have h4' : ¬ (400 : Int) < x.val.length := by omega
              have HN := Lib.hid (Sl.any_snoc (Sl.shR true) l k x HXK.out HM.out (by rw [long_leaf x hA, hf, decide_eq_true h4]; rfl))
              clear hf
              go_wp2
              go_roundg (l.length - (k + 1))
              case measure => omega
              case rel => exact ⟨k + 1, by omega, rfl, by go_num, HN, HBa⟩
            · have h4' : (400 : Int) < x.val.length := by omega
              have HL : Hid (Sl.right (Sl.shR true) l = 5) := Sl.right_long (Sl.shR true) l k x HXK.out (by rw [long_leaf x hA, hf, decide_eq_false h4]; rfl)
              clear hf
              go_wp2
              go_ret
              exact ⟨ret_int HL.out.symm, HBa.out⟩
          · have hf : Sl.fitsC x = decide (x.val.length ≤ 0) := by unfold Sl.fitsC; rw [if_pos h0]
            have hd : ((x.chain : Int) == 0) = false := by rw [beq_eq_false_iff_ne]; omega
            have hd' : ((x.chain : Int) != 0) = true := by rw [bne_iff_ne]; omega
            by_cases h4 : x.val.length ≤ 0
            · have h4' : ¬ (0 : Int) < x.val.length := by omega
              have HN := Lib.hid (Sl.any_snoc (Sl.shR true) l k x HXK.out HM.out (by rw [long_leaf x hA, hf, decide_eq_true h4]; rfl))
              clear hf
              go_wp2
              go_roundg (l.length - (k + 1))
              case measure => omega
              case rel => exact ⟨k + 1, by omega, rfl, by go_num, HN, HBa⟩
            · have h4' : (0 : Int) < x.val.length := by omega
              have h4n : 0 < x.val.length := by omega
              have HL : Hid (Sl.right (Sl.shR true) l = 5) := Sl.right_long (Sl.shR true) l k x HXK.out (by rw [long_leaf x hA, hf, decide_eq_false h4]; rfl)
              clear hf
              go_wp2
              go_ret
              exact ⟨ret_int HL.out.symm, HBa.out⟩
    · obtain rfl : k = l.length := by omega
      rw [List.take_length] at HM
      obtain ⟨wo, rfl⟩ : ∃ wo : World, wo = wr := ⟨_, rfl⟩
      have HBO := Lib.hid HB.out
      clear HB
      go_wp2
      go_loopg [7] (l.length + 1) (fun n i wr => ∃ k : Nat, k ≤ l.length ∧ n = l.length + 1 - k ∧ i = .int .i64 ((k + 1 : Nat) : Int) ∧ Hid (∀ j a b, j < k → l[j]? = some a → l[j + 1]? = some b → Sl.less a.key b.key = true) ∧ Hid (Below w.heap.size w wr))
      case atStart => exact ⟨0, Nat.zero_le _, rfl, rfl, fun j a b hj => absurd hj (Nat.not_lt_zero j), HBO.out⟩
      case round =>
        obtain ⟨k, hk', rfl, rfl, HN, HB⟩ := hrel
        by_cases hlt1 : k + 1 < l.length
        · obtain ⟨x, hx⟩ := take_some l k (by omega)
          obtain ⟨y, hy⟩ := take_some l (k + 1) hlt1
          have HXK := Lib.hid hx
          have HYK := Lib.hid hy
          obtain ⟨e0, e1, e2, e3⟩ := HX.out k x hx
          obtain ⟨f0, f1, f2, f3⟩ := HX.out (k + 1) y hy
          have hblt : b < w.heap.size := World.block_lt_of_cell? _ _ e0
          have d0 := (HB.out.cell (p := ⟨b, o + k * 4, none⟩) hblt).trans e0
          have g0 := (HB.out.cell (p := ⟨b, o + (k + 1) * 4, none⟩) hblt).trans f0
          obtain rfl : a = some ⟨b, o, none⟩ := by
            rcases HA.out with h | h
            · rw [h] at hlt1; cases hlt1
            · exact h
          clear e0 e1 e2 e3 f0 f1 f2 f3 hx hy
          have hlt' : (k : Int) + 1 < l.length := by omega
          have hk0 : (0 : Int) ≤ (k : Int) := by omega
          have hk1 : (k : Int) < l.length := by omega
          have hk2 : (0 : Int) ≤ (k : Int) + 1 := by omega
          have hk4 : ((k : Int) + 1).toNat = k + 1 := by omega
          cases hle : Sl.less x.key y.key
          · have HR30 : Hid (Sl.right (Sl.shR leaf) l = 30) := Sl.right_drop (Sl.shR leaf) l HM.out (Sl.rises_false (Sl.shR leaf) l k x y HXK.out HYK.out hle)
            cases hge : Sl.less y.key x.key
            · have hb2 := str_beq (Sl.less_tri y.key x.key hge hle)
              have hb1 : Op.bytesLess (str y.key).toList (str x.key).toList = false := (bl _ _).trans hge
              clear hle hge
              go_wp2_with fail
              go_quiet (fail)
              go_wp2
              go_ret
              exact ⟨ret_int HR30.out.symm, below_drewN HB.out _⟩
            · have hb1 : Op.bytesLess (str y.key).toList (str x.key).toList = true := (bl _ _).trans hge
              clear hle hge
              go_wp2_with fail
              go_quiet (fail)
              go_wp2
              go_ret
              exact ⟨ret_int HR30.out.symm, below_drewN HB.out _⟩
          · have hb1 : Op.bytesLess (str y.key).toList (str x.key).toList = false := (bl _ _).trans (Sl.less_asym _ _ hle)
            have hb2 := str_bne (a := y.key) (b := x.key) (fun e => by rw [e, Sl.less_self] at hle; cases hle)
            have HNN := Lib.hid (Sl.rises_upto (Sl.shR leaf) l k x y HXK.out HYK.out hle HN.out)
            clear hle
            go_wp2_with fail
            go_quiet (fail)
            clear hk4
            go_wp2
            go_roundg (l.length + 1 - (k + 1))
            case measure => omega
            case rel => exact ⟨k + 1, by omega, rfl, by go_num, HNN, below_drewN HB.out _⟩
        · have hlen : ¬ (k : Int) + 1 < l.length := by omega
          have HR0 : Hid (Sl.right (Sl.shR leaf) l = 0) := Sl.right_ok (Sl.shR leaf) l HM.out (Sl.rises_all (Sl.shR leaf) l fun j a b hj => HN.out j a b (by omega))
          go_wp2
          go_ret
          exact ⟨ret_int HR0.out.symm, HB.out⟩
end Go.Proofs.YtemfbkelenaaeaaGreat
/- Where a key is in a row of cells; nothing of the program. -/
namespace Go.Proofs.YtemfbkelenaaeaaGreat
namespace Sl
variable {α : Type}
theorem less_trans : ∀ x y z : List UInt8, less x y = true → less y z = true → less x z = true
  | [], _, [], _, h => by rw [less_nil] at h; cases h
  | [], _, _ :: _, _, _ => rfl
  | _ :: _, [], _, h, _ => by cases h
  | _ :: _, _ :: _, [], _, h => by cases h
  | a :: x, b :: y, c :: z, h, k => by
    simp only [less, Bool.or_eq_true, decide_eq_true_eq, Bool.and_eq_true, beq_iff_eq] at h k ⊢
    rcases h with h | ⟨rfl, h⟩
    · rcases k with k | ⟨rfl, k⟩
      · left; rw [UInt8.lt_iff_toNat_lt] at *; omega
      · exact .inl h
    · rcases k with k | ⟨rfl, k⟩
      · exact .inl k
      · exact .inr ⟨rfl, less_trans x y z h k⟩
theorem cmp_pos : ∀ x y : List UInt8, less x y = true → Lib.compareBytes x y = -1
  | [], [], h => by cases h
  | [], _ :: _, _ => rfl
  | _ :: _, [], h => by cases h
  | a :: x, b :: y, h => by
    simp only [less, Bool.or_eq_true, decide_eq_true_eq, Bool.and_eq_true, beq_iff_eq] at h
    rw [Lib.compareBytes]
    rcases h with h | ⟨rfl, h⟩
    · rw [if_pos h]
    · rw [if_neg (u8_irr a), if_neg (u8_irr a)]; exact cmp_pos x y h
theorem cmp_self : ∀ x : List UInt8, Lib.compareBytes x x = 0
  | [] => rfl
  | a :: x => by rw [Lib.compareBytes, if_neg (u8_irr a), if_neg (u8_irr a)]; exact cmp_self x
theorem cmp_neg : ∀ x y : List UInt8, less y x = true → Lib.compareBytes x y = 1
  | [], [], h => by cases h
  | [], _ :: _, h => by cases h
  | _ :: _, [], _ => rfl
  | a :: x, b :: y, h => by
    simp only [less, Bool.or_eq_true, decide_eq_true_eq, Bool.and_eq_true, beq_iff_eq] at h
    rw [Lib.compareBytes]
    rcases h with h | ⟨rfl, h⟩
    · rw [if_neg (fun h2 => by rw [UInt8.lt_iff_toNat_lt] at h h2; omega), if_pos h]
    · rw [if_neg (u8_irr b), if_neg (u8_irr b)]; exact cmp_neg x y h
theorem cmp_lt (x y : List UInt8) (h : less x y = true) : Lib.compareBytes x y < 0 := by rw [cmp_pos x y h]; decide
theorem cmp_ge (x y : List UInt8) (h : less x y = false) : ¬ Lib.compareBytes x y < 0 := by
  cases k : less y x
  · rw [less_tri x y h k, cmp_self]; decide
  · rw [cmp_neg x y k]; decide
theorem cmp_zero (x y : List UInt8) : (Lib.compareBytes x y == 0) = decide (x = y) := by
  by_cases h : x = y
  · subst h; rw [cmp_self]; simp
  · rw [decide_eq_false h]
    cases k : less x y
    · cases m : less y x
      · exact absurd (less_tri x y k m) h
      · rw [cmp_neg x y m]; rfl
    · rw [cmp_pos x y k]; rfl
def place (S : Sh α) (l : List α) (k : List UInt8) : Nat := (l.takeWhile fun x => less (S.key x) k).length
def there (S : Sh α) (l : List α) (k : List UInt8) : Bool := match l[place S l k]? with
  | some x => decide (S.key x = k)
  | none => false
theorem place_eq (S : Sh α) (k : List UInt8) : ∀ (l : List α) (i : Nat), i ≤ l.length → (∀ m x, m < i → l[m]? = some x → less (S.key x) k = true) → (∀ x, l[i]? = some x → less (S.key x) k = false) → place S l k = i
  | [], i, hi, _, _ => by
    have : i = 0 := by simpa using hi
    subst this; rfl
  | x :: l, 0, _, _, h2 => by
    have := h2 x rfl
    unfold place
    rw [List.takeWhile_cons, this]; rfl
  | x :: l, i + 1, hi, h1, h2 => by
    have hx := h1 0 x (Nat.succ_pos _) rfl
    have ih := place_eq S k l i (by simpa using hi) (fun m y hm hy => h1 (m + 1) y (by omega) (by simpa using hy)) (fun y hy => h2 y (by simpa using hy))
    unfold place at ih ⊢
    rw [List.takeWhile_cons, hx, if_pos rfl, List.length_cons, ih]
theorem place_le (S : Sh α) (l : List α) (k : List UInt8) : place S l k ≤ l.length := (List.takeWhile_prefix _).length_le
theorem there_some (S : Sh α) (l : List α) (k : List UInt8) (x : α) (h : l[place S l k]? = some x) : there S l k = decide (S.key x = k) := by
  unfold there; rw [h]
theorem there_none (S : Sh α) (l : List α) (k : List UInt8) (h : l.length ≤ place S l k) : there S l k = false := by
  unfold there; rw [List.getElem?_eq_none h]
theorem rises_pair (S : Sh α) (l : List α) (h : rises S l = true) : ∀ (d m : Nat) (a b : α), l[m]? = some a → l[m + d + 1]? = some b → less (S.key a) (S.key b) = true
  | 0, m, a, b, ha, hb => (rises_iff S l).1 h m a b ha hb
  | d + 1, m, a, b, ha, hb => by
    have hlt := (List.getElem?_eq_some_iff.1 hb).1
    have hc : l[m + d + 1]? = some (l[m + d + 1]'(by omega)) := List.getElem?_eq_getElem _
    exact less_trans _ _ _ (rises_pair S l h d m a _ ha hc) ((rises_iff S l).1 h (m + d + 1) _ b hc hb)
theorem rises_lt (S : Sh α) (l : List α) (h : rises S l = true) (m n : Nat) (a b : α) (hmn : m < n) (ha : l[m]? = some a) (hb : l[n]? = some b) : less (S.key a) (S.key b) = true :=
  rises_pair S l h (n - m - 1) m a b ha (by rw [show m + (n - m - 1) + 1 = n by omega]; exact hb)
theorem low_of (S : Sh α) (l : List α) (k : List UInt8) (h : rises S l = true) (i : Nat) (x : α) (hx : l[i]? = some x) (hk : less (S.key x) k = true) : ∀ m y, m < i + 1 → l[m]? = some y → less (S.key y) k = true := by
  intro m y hm hy
  by_cases hmi : m = i
  · subst hmi; rw [hx] at hy; cases hy; exact hk
  · exact less_trans _ _ _ (rises_lt S l h m i y x (by omega) hy hx) hk
theorem high_of (S : Sh α) (l : List α) (k : List UInt8) (h : rises S l = true) (i : Nat) (x : α) (hx : l[i]? = some x) (hk : less (S.key x) k = false) : ∀ m y, i ≤ m → l[m]? = some y → less (S.key y) k = false := by
  intro m y hm hy
  by_cases hmi : m = i
  · subst hmi; rw [hx] at hy; cases hy; exact hk
  · cases hyk : less (S.key y) k
    · rfl
    · rw [less_trans _ _ _ (rises_lt S l h i m x y (by omega) hx hy) hyk] at hk; cases hk
end Sl
end Go.Proofs.YtemfbkelenaaeaaGreat
/- What stands ahead of a key's place, at it and behind it; nothing of the program. -/
namespace Go.Proofs.YtemfbkelenaaeaaGreat
namespace Sl
variable {α : Type}
theorem place_low (S : Sh α) (k : List UInt8) : ∀ (l : List α) (m : Nat) (x : α), m < place S l k → l[m]? = some x → less (S.key x) k = true
  | [], m, x, h, _ => by unfold place at h; simp at h
  | y :: l, m, x, h, hx => by
    unfold place at h
    rw [List.takeWhile_cons] at h
    cases hy : less (S.key y) k
    · rw [hy] at h; simp at h
    · rw [hy, if_pos rfl, List.length_cons] at h
      cases m with
      | zero => simp at hx; subst hx; exact hy
      | succ m => exact place_low S k l m x (by unfold place; omega) (by simpa using hx)
theorem place_at (S : Sh α) (k : List UInt8) : ∀ (l : List α) (x : α), l[place S l k]? = some x → less (S.key x) k = false
  | [], x, h => by simp at h
  | y :: l, x, h => by
    unfold place at h
    rw [List.takeWhile_cons] at h
    cases hy : less (S.key y) k
    · rw [hy] at h; simp at h; subst h; exact hy
    · rw [hy, if_pos rfl, List.length_cons, List.getElem?_cons_succ] at h
      exact place_at S k l x h
theorem low_ne (x k : List UInt8) (h : less x k = true) : x ≠ k := fun e => by rw [e, less_self] at h; cases h
theorem place_high (S : Sh α) (l : List α) (k : List UInt8) (h : rises S l = true) (m : Nat) (x : α) (hm : place S l k < m) (hx : l[m]? = some x) : less (S.key x) k = false ∧ S.key x ≠ k := by
  have hlt := (List.getElem?_eq_some_iff.1 hx).1
  have hp : l[place S l k]? = some (l[place S l k]'(by omega)) := List.getElem?_eq_getElem _
  have h1 := place_at S k l _ hp
  refine ⟨high_of S l k h _ _ hp h1 m x (by omega) hx, fun e => ?_⟩
  have h2 := rises_lt S l h _ m _ x hm hp hx
  rw [e] at h2
  rw [h2] at h1; cases h1
end Sl
end Go.Proofs.YtemfbkelenaaeaaGreat
/- The contracts of the document's own Same (of a row with itself) and Find. -/
namespace Go.Proofs.YtemfbkelenaaeaaGreat
open Go.RowKit
open Sl (Cl Kd)
set_option maxHeartbeats 4000000 in
set_option maxRecDepth 100000 in
theorem same_any (v u : Value) (l : List Cl) (hll : l.length ≤ 100000) (w : World) (hv : SlC w v l) (hu : SlC w u l) :
    Calls Tryz.prog 85 #[v, u] w fun e w' => e = .returned (.bool true) ∧ Below w.heap.size w w' := by
  obtain ⟨a, b, o, c, rfl, ha, hx⟩ := hv
  obtain ⟨a', b', o', c', rfl, ha', hx'⟩ := hu
  have HX := Lib.hid hx
  have HA := Lib.hid ha
  have HX' := Lib.hid hx'
  have HA' := Lib.hid ha'
  clear ha hx ha' hx'
  have hlen : (l.length : Int) ≤ 100000 := by omega
  go_enter Tryz.func85, Tryz.ntmps85
  go_wp2
  go_loopg [13] l.length (fun n i wr => ∃ k : Nat, k ≤ l.length ∧ n = l.length - k ∧ i = .int .i64 k ∧ Hid (Below w.heap.size w wr))
  case atStart => exact ⟨0, Nat.zero_le _, rfl, rfl, Below.refl _ _⟩
  case round =>
    obtain ⟨k, hk, rfl, rfl, HB⟩ := hrel
    by_cases hlt : k < l.length
    · obtain ⟨x, hx⟩ := take_some l k hlt
      obtain ⟨e0, e1, e2, e3⟩ := HX.out k x hx
      obtain ⟨y0, y1, y2, y3⟩ := HX'.out k x hx
      have hblt : b < w.heap.size := World.block_lt_of_cell? _ _ e0
      have d0 := (HB.out.cell (p := ⟨b, o + k * 4, none⟩) hblt).trans e0
      have d1 := (HB.out.cell (p := ⟨b, o + k * 4 + 1, none⟩) hblt).trans e1
      have d2 := (HB.out.cell (p := ⟨b, o + k * 4 + 2, none⟩) hblt).trans e2
      have d3 := (HB.out.cell (p := ⟨b, o + k * 4 + 3, none⟩) hblt).trans e3
      have hblt' : b' < w.heap.size := World.block_lt_of_cell? _ _ y0
      have g0 := (HB.out.cell (p := ⟨b', o' + k * 4, none⟩) hblt').trans y0
      have g1 := (HB.out.cell (p := ⟨b', o' + k * 4 + 1, none⟩) hblt').trans y1
      have g2 := (HB.out.cell (p := ⟨b', o' + k * 4 + 2, none⟩) hblt').trans y2
      have g3 := (HB.out.cell (p := ⟨b', o' + k * 4 + 3, none⟩) hblt').trans y3
      obtain rfl : a = some ⟨b, o, none⟩ := by
        rcases HA.out with h | h
        · rw [h] at hlt; cases hlt
        · exact h
      obtain rfl : a' = some ⟨b', o', none⟩ := by
        rcases HA'.out with h | h
        · rw [h] at hlt; cases hlt
        · exact h
      have hki : (k : Int) < l.length := by omega
      have hk0 : (0 : Int) ≤ (k : Int) := by omega
      clear e0 e1 e2 e3 y0 y1 y2 y3 hx hblt hblt'
      go_wp2
      go_quiet (fail)
      go_wp2
      go_roundg (l.length - (k + 1))
      case measure => omega
      case rel => exact ⟨k + 1, by omega, rfl, by go_num, below_drewN HB.out _⟩
    · obtain rfl : k = l.length := by omega
      go_wp2
      go_ret
      exact ⟨rfl, HB.out⟩
end Go.Proofs.YtemfbkelenaaeaaGreat
/- The document's own node: what it is of the program's; whether two are the same. -/
namespace Go.Proofs.YtemfbkelenaaeaaGreat.Sl
def toR (n : Nd) : Rn := ⟨n.leaf, if n.leaf then n.cs else n.ks.map toC⟩
def fromN (leaf : Bool) (l : List Cl) : Nd := if leaf then ⟨true, l, []⟩ else ⟨false, [], l.map toK⟩
end Go.Proofs.YtemfbkelenaaeaaGreat.Sl
namespace Go.Proofs.YtemfbkelenaaeaaGreat
open Go.RowKit
open Sl (Cl Kd Nd Rn)
inductive RetR (n : Rn) (w : World) (e : Ending) (w' : World) : Prop
  | mk (v : Value) (he : e = .returned v) (hv : RnV w' v n) (hb : Below w.heap.size w w')
theorem rsame10_any (u v : Value) (a : Rn) (w : World) (hu : RnV w u a) (hv : RnV w v a) (hl : a.l.length ≤ 100000) :
    Calls Tryz.prog 38 #[u, v] w fun e w' => e = .returned (.bool true) ∧ Below w.heap.size w w' := by
  obtain ⟨vc, rfl, hc, hcc⟩ := hu
  obtain ⟨vc', rfl, hc', hcc'⟩ := hv
  have HC := Lib.hid (fun W (hW : Below w.heap.size w W) => same_any vc vc' a.l hl W (hc.below hW) (hc'.below hW))
  unfold rnV
  obtain ⟨a1, n1, c1, _, _, _⟩ := hcc
  obtain ⟨a3, n3, c3, _, _, _⟩ := hcc'
  clear hc hc' hl
  have HB : Hid (∀ o1 o2, Below w.heap.size w ((w.alloc o1).alloc o2)) := fun o1 o2 => ((Below.refl _ _).alloc (Nat.le_refl _) _).alloc (by simp) _
  generalize a.leaf = lf
  go_enter Tryz.func38, Tryz.ntmps38
  go_wp2_with (go_at_call 85; refine (HC.out _ (HB.out _ _)).mono ?_; rintro e w1 ⟨rfl, hb1⟩)
  go_ret
  exact ⟨rfl, (HB.out _ _).trans (hb1.mono (HB.out _ _).size)⟩
end Go.Proofs.YtemfbkelenaaeaaGreat
/- The contract of slices.Clone, at a row of cells. -/
namespace Go.Proofs.YtemfbkelenaaeaaGreat
open Go.RowKit
open Sl (Cl Kd)
theorem SlC.takeS {w : World} {b o c c' : Nat} {l : List Cl} (h : SlC w (.slice (some ⟨b, o, none⟩) l.length c) l) (q : Nat) (hq : q ≤ l.length) : SlC w (.slice (some ⟨b, o, none⟩) q c') (l.take q) := by
  obtain ⟨a, b1, o1, c1, hv, ha, hx⟩ := h
  simp only [Value.slice.injEq] at hv
  obtain ⟨rfl, _, rfl⟩ := hv
  refine ⟨some ⟨b, o, none⟩, b, o, c', by rw [List.length_take, Nat.min_eq_left hq], .inr rfl, fun j x hj => ?_⟩
  have hjq : j < q ∧ l[j]? = some x := by
    have h1 := (List.getElem?_eq_some_iff.1 hj).1
    rw [List.length_take] at h1
    have h2 : j < q := by omega
    rw [List.getElem?_take_of_lt h2] at hj
    exact ⟨h2, hj⟩
  rcases ha with h0 | h0
  · subst h0; simp at hjq
  · cases h0; exact hx j x hjq.2
theorem SlC.dropS {w : World} {b o c c' : Nat} {l : List Cl} (h : SlC w (.slice (some ⟨b, o, none⟩) l.length c) l) (q : Nat) : SlC w (.slice (some ⟨b, o + q * 4, none⟩) (l.length - q) c') (l.drop q) := by
  obtain ⟨a, b1, o1, c1, hv, ha, hx⟩ := h
  simp only [Value.slice.injEq] at hv
  obtain ⟨rfl, _, rfl⟩ := hv
  refine ⟨some ⟨b, o + q * 4, none⟩, b, o + q * 4, c', by rw [List.length_drop], .inr rfl, fun j x hj => ?_⟩
  rw [List.getElem?_drop] at hj
  rcases ha with h0 | h0
  · subst h0; simp at hj
  · cases h0
    have := hx (q + j) x hj
    rw [show o + q * 4 + j * 4 = o + (q + j) * 4 by rw [Nat.add_mul]; omega]
    exact this
theorem SlC.emptyS (w : World) (a : Option Addr) (c : Nat) : SlC w (.slice a 0 c) [] := ⟨a, 0, 0, c, rfl, .inl rfl, fun j x h => by simp at h⟩
theorem cloneC_any (v : Value) (l : List Cl) (hll : l.length ≤ 100000) (w : World) (hv : SlC w v l) :
    Calls Tryz.prog 88 #[v] w (OwnC l w) := by
  obtain ⟨i0, hi, hz0, hz1, hz2⟩ := info_parts info42
  have q22 : ∀ (w : World) (a : Option Addr) (n c n' c' : Nat), (binOp .eql 22 (.slice a n c) (.slice none n' c')).run Tryz.prog w = .ok (.bool a.isNone) w := fun w a n c n' c' => Lib.run_eql_slice_nil w _ _ a n c n' c' Tryz.underlying22
  obtain ⟨a, b, o, c, rfl, ha, hx⟩ := hv
  have HX := Lib.hid (SlC.flat hx)
  have HA := Lib.hid ha
  clear ha hx
  cases a with
  | none =>
    have hl : l = [] := by
      rcases HA.out with h | h
      · exact h
      · cases h
    subst hl
    go_enter Tryz.func88, Tryz.ntmps88
    go_wp2
    go_ret
    exact ⟨_, rfl, World.ownsRow_nil _ _ _ _, Below.refl _ _⟩
  | some ad =>
    go_enter Tryz.func88, Tryz.ntmps88
    go_wp2_with (at_builtin; refine wpList_append_own _ rfl _ _ 22 rfl w.heap.size 52 i0 _ 4 40 Tryz.underlying22 hi hz0 hz1 hz2 rfl (by decide) _ _ _ rfl (World.ownsRow_made w #[] 0 (Nat.le_refl _) (Nat.zero_le _) rfl) ad l.length c (l.flatMap cellsC) rfl ?p0 ?p1 ?p2 ?p3 ?p4 ?p5 ?_)
    case p0 => exact flat_len _ _ cellsC_len _
    case p1 =>
      intro j u hj
      rcases HA.out with h | h
      · subst h; simp at hj
      · cases h
        exact Lib.cell?_alloc_some _ (HX.out j u hj)
    case p2 => exact flat_oneC _
    case p3 => unfold maxLen; omega
    case p4 => omega
    case p5 => simp
    intro v' w1 hown hgrow _
    go_wp2
    go_ret
    refine ⟨v', rfl, ?_, ((Below.refl _ w).alloc (Nat.le_refl _) _).grown hgrow (by simp) (by intro k hk; simp [Value.ownBlock] at hk; omega)⟩
    show w1.ownsRow _ _ _ _ _ _
    simpa using hown
end Go.Proofs.YtemfbkelenaaeaaGreat
/- The contract of a node's halves. -/
namespace Go.Proofs.YtemfbkelenaaeaaGreat
open Go.RowKit
open Sl (Cl Kd)
/-- Two rows of the call's own. -/
inductive HalfC (l m : List Cl) (w : World) (e : Ending) (w' : World) : Prop
  | mk (u v : Value) (B : Nat) (he : e = .returned (.tuple #[u, v])) (hu : RowC w' w.heap.size u l) (hlo : ∀ k, u.ownBlock = some k → k < B) (hv : RowC w' B v m) (h1 : w.heap.size ≤ B) (h2 : B ≤ w'.heap.size) (hb : Below w.heap.size w w')
set_option maxRecDepth 100000 in
theorem halvesC_any (v : Value) (l : List Cl) (hll : l.length ≤ 100000) (hl : ∀ x ∈ l, okC x) (w : World) (hv : SlC w v l) (hc : Cap v) :
    Calls Tryz.prog 48 #[shpC, v] w (HalfC (l.take (Sl.cutAt Sl.shC l)) (l.drop (Sl.cutAt Sl.shC l)) w) := by
  have HL := Lib.hid hl
  have HS1 := Lib.hid (fun W (hW : SlC W v l) => sumC_any v l hll hl W hW)
  have HV := Lib.hid hv
  have HVB : Hid (∀ W, Below w.heap.size w W → SlC W v l) := fun W hW => hv.below hW
  obtain ⟨a, b, o, c, rfl, ha, hx⟩ := hv
  have hcap : l.length ≤ c := by cases hc; assumption
  have hcm : c ≤ maxLen := by cases hc; assumption
  unfold maxLen at hcm
  have HX := Lib.hid hx
  have HA := Lib.hid ha
  clear hl ha hx hc
  unfold shpC at HS1 ⊢
  have HB0 := Lib.hid (BxC.new w)
  have hsm : Sl.sum Sl.shC l ≤ 6579600000 := by have := encC_le l l.length hll; rwa [List.take_length] at this
  go_enter Tryz.func48, Tryz.ntmps48
  go_wp2_with (go_at_call 39; refine (HS1.out _ (HVB.out _ ((Below.refl _ _).alloc (Nat.le_refl _) _))).mono ?_; rintro e w1 ⟨rfl, hb1⟩)
  have HB1 := Lib.hid (HB0.out.below hb1 (by simp))
  have HW1 : Hid (Below w.heap.size w w1) := ((Below.refl _ _).alloc (Nat.le_refl _) _).trans (hb1.mono (by simp))
  have HG1 := Lib.hid HB1.out.lt
  clear hb1 HB0 HS1
  revert HB1 HW1 HG1
  generalize hg : w.heap.size = g
  have HG := Lib.hid hg
  clear hg
  intro HB1 HW1 HG1
  go_loopg [6, 7, 9, 10] l.length (fun n c m s i wr => ∃ k : Nat, k ≤ l.length ∧ n = l.length - k ∧ i = .int .i64 ((k : Int) + 1) ∧ c = .int .i64 (Sl.st Sl.shC l k).1 ∧ m = .int .i64 (Sl.st Sl.shC l k).2 ∧ s = .int .i64 (Sl.sum Sl.shC (l.take k) : Nat) ∧ Hid (k = 0 ∨ k < l.length) ∧ Hid (Below (g + 1) w1 wr))
  case atStart => exact ⟨0, Nat.zero_le _, rfl, rfl, rfl, rfl, rfl, .inl rfl, Below.refl _ _⟩
  case round =>
    obtain ⟨k, hk, rfl, rfl, rfl, rfl, rfl, HK, HB⟩ := hrel
    by_cases hlt : k + 1 < l.length
    · obtain ⟨x, hx⟩ := take_some l k (by omega)
      obtain ⟨e0, e1, e2, e3⟩ := HX.out k x hx
      have hblt : b < g := by have h1 := World.block_lt_of_cell? _ _ e0; rw [HG.out] at h1; exact h1
      have HWr := Lib.hid (HW1.out.trans (HB.out.mono (Nat.le_succ g)))
      have d0 := (HWr.out.cell (p := ⟨b, o + k * 4, none⟩) hblt).trans e0
      have d1 := (HWr.out.cell (p := ⟨b, o + k * 4 + 1, none⟩) hblt).trans e1
      have d2 := (HWr.out.cell (p := ⟨b, o + k * 4 + 2, none⟩) hblt).trans e2
      have d3 := (HWr.out.cell (p := ⟨b, o + k * 4 + 3, none⟩) hblt).trans e3
      have HR := Lib.hid (HB1.out.below HB.out (Nat.lt_succ_self g))
      obtain rfl : a = some ⟨b, o, none⟩ := by
        rcases HA.out with h | h
        · rw [h] at hlt; cases hlt
        · exact h
      have HSK := Lib.hid ((congrArg (Sl.sum Sl.shC) (Sl.take_snoc' l k x hx)).trans (Sl.sum_snoc Sl.shC (l.take k) x))
      have HZ := Lib.hid (fun W => sizeC_any x (HL.out x (List.mem_of_getElem? hx)) W)
      have hz : (Sl.shC.enc x).length ≤ 65794 := by first | exact Sl.encC_len x | exact Nat.le_trans (Sl.encK_len x) (by decide)
      have hsk := encC_le l k hll
      have HDF : Hid (Sl.dif Sl.shC l (k + 1) = ((2 * Sl.sum Sl.shC (l.take (k + 1)) : Nat) - (Sl.sum Sl.shC l : Nat) : Int).natAbs) := rfl
      have HL0 := fun (h : k ≠ 0) (h' : Sl.dif Sl.shC l (k + 1) < (Sl.st Sl.shC l k).2) => Lib.hid (Sl.st_less Sl.shC l k h h')
      have HL1 := fun (h : k ≠ 0) (h' : ¬ Sl.dif Sl.shC l (k + 1) < (Sl.st Sl.shC l k).2) => Lib.hid (Sl.st_keep Sl.shC l k h h')
      have HF1 := Lib.hid (Sl.st_first Sl.shC l)
      have hF : Hid (wr.drew.cell? ⟨g, 0, none⟩ = some (.func (.func 53) #[] #[]) ∧ wr.drew.cell? ⟨g, 1, none⟩ = some (.func (.func 54) #[] #[]) ∧ wr.drew.cell? ⟨g, 2, none⟩ = some (.func (.func 55) #[] #[]) ∧ wr.drew.cell? ⟨g, 3, none⟩ = some (.func (.func 56) #[] #[]) ∧ wr.drew.cell? ⟨b, o + k * 4, none⟩ = some (.string (str x.key)) ∧ wr.drew.cell? ⟨b, o + k * 4 + 1, none⟩ = some (.string (str x.val)) ∧ wr.drew.cell? ⟨b, o + k * 4 + 2, none⟩ = some (.int .u32 x.chain) ∧ wr.drew.cell? ⟨b, o + k * 4 + 3, none⟩ = some (.int .u32 x.long) ∧ Below (g + 1) w1 wr.drew) := ⟨HR.out.c0, HR.out.c1, HR.out.c2, HR.out.c3, d0, d1, d2, d3, HB.out.drew⟩
      clear hblt hx
      unfold shpC aggC at HZ
      have hwr1 : IntKind.i64.wrap ((k : Int) + 1 - 1) = (k : Int) := by rw [show (k : Int) + 1 - 1 = k by omega]; exact IntWalk.i64_in _ (by omega)
      have hwr0 : IntKind.i64.wrap (k : Int) = (k : Int) := IntWalk.i64_in _ (by omega)
      have hk0 : (0 : Int) ≤ (k : Int) := by omega
      have hk1 : (k : Int) < l.length := by omega
      have hwr2 : IntKind.i64.wrap ((Sl.sum Sl.shC (l.take k) : Int) + ((2 + (Sl.shC.enc x).length : Nat) : Int)) = (Sl.sum Sl.shC (l.take (k + 1)) : Nat) := by rw [HSK.out]; rw [IntWalk.i64_in _ (by omega)]; omega
      go_wp2_with fail
      go_region_held3 (fun w' => w'.cell? ⟨g, 0, none⟩ = some (.func (.func 53) #[] #[]) ∧ w'.cell? ⟨g, 1, none⟩ = some (.func (.func 54) #[] #[]) ∧ w'.cell? ⟨g, 2, none⟩ = some (.func (.func 55) #[] #[]) ∧ w'.cell? ⟨g, 3, none⟩ = some (.func (.func 56) #[] #[]) ∧ w'.cell? ⟨b, o + k * 4, none⟩ = some (.string (str x.key)) ∧ w'.cell? ⟨b, o + k * 4 + 1, none⟩ = some (.string (str x.val)) ∧ w'.cell? ⟨b, o + k * 4 + 2, none⟩ = some (.int .u32 x.chain) ∧ w'.cell? ⟨b, o + k * 4 + 3, none⟩ = some (.int .u32 x.long) ∧ Below (g + 1) w1 w')
        ((first | assumption | exact step8 (Nat.succ_le_of_lt HG1.out) ‹_› hb | exact hF.out))
        (first
        | (go_at_call 86; refine (HZ.out _).mono ?_; rintro e w4 ⟨rfl, hb⟩))
      rename_i hS
      have HB4 := Lib.hid (last8 hS)
      clear hS
      have HSK2 := Lib.hid HSK.out
      have hdd : ((Sl.dif Sl.shC l (k + 1) : Nat) : Int) = 2 * ((Sl.sum Sl.shC (l.take k) : Int) + (2 + ((Sl.shC.enc x).length : Int))) - (Sl.sum Sl.shC l : Int) ∨ ((Sl.dif Sl.shC l (k + 1) : Nat) : Int) = (Sl.sum Sl.shC l : Int) - 2 * ((Sl.sum Sl.shC (l.take k) : Int) + (2 + ((Sl.shC.enc x).length : Int))) := by
        rw [HDF.out, HSK.out]; omega
      have hdd0 : (0 : Int) ≤ ((Sl.dif Sl.shC l (k + 1) : Nat) : Int) := by omega
      have HDD := Lib.hid hdd
      clear hdd
      clear HSK
      by_cases hmx : 2 * ((Sl.sum Sl.shC (l.take k) : Int) + (2 + ((Sl.shC.enc x).length : Int))) - (Sl.sum Sl.shC l : Int) < (Sl.sum Sl.shC l : Int) - 2 * ((Sl.sum Sl.shC (l.take k) : Int) + (2 + ((Sl.shC.enc x).length : Int)))
      all_goals by_cases h1 : (k : Int) + 1 = 1
      all_goals by_cases h2 : Sl.dif Sl.shC l (k + 1) < (Sl.st Sl.shC l k).2
      all_goals
        have hdn := HDD.out
        try (have h3 : (Sl.sum Sl.shC l : Int) - 2 * ((Sl.sum Sl.shC (l.take k) : Int) + (2 + ((Sl.shC.enc x).length : Int))) < ((Sl.st Sl.shC l k).2 : Nat) := by omega)
        try (have h3 : ¬ (Sl.sum Sl.shC l : Int) - 2 * ((Sl.sum Sl.shC (l.take k) : Int) + (2 + ((Sl.shC.enc x).length : Int))) < ((Sl.st Sl.shC l k).2 : Nat) := by omega)
        try (have h4 : 2 * ((Sl.sum Sl.shC (l.take k) : Int) + (2 + ((Sl.shC.enc x).length : Int))) - (Sl.sum Sl.shC l : Int) < ((Sl.st Sl.shC l k).2 : Nat) := by omega)
        try (have h4 : ¬ 2 * ((Sl.sum Sl.shC (l.take k) : Int) + (2 + ((Sl.shC.enc x).length : Int))) - (Sl.sum Sl.shC l : Int) < ((Sl.st Sl.shC l k).2 : Nat) := by omega)
        clear hdn
        go_wp2
        go_roundg (l.length - (k + 1))
        case measure => omega
        case rel =>
          have hdn := HDD.out
          have hsn := HSK2.out
          refine ⟨k + 1, by omega, rfl, by go_num, ?_, ?_, ?_, .inr hlt, HB4⟩
          · first
            | (rw [show Sl.st Sl.shC l (k + 1) = (k + 1, Sl.dif Sl.shC l (k + 1)) by (obtain rfl : k = 0 := by omega); exact HF1.out]; go_num)
            | (rw [(HL0 (by omega) h2).out]; go_num)
            | (rw [(HL1 (by omega) h2).out])
          · first
            | (rw [show Sl.st Sl.shC l (k + 1) = (k + 1, Sl.dif Sl.shC l (k + 1)) by (obtain rfl : k = 0 := by omega); exact HF1.out]; show Value.int _ _ = Value.int _ _; congr 1; show _ = ((Sl.dif Sl.shC l (k + 1) : Nat) : Int); omega)
            | (rw [(HL0 (by omega) h2).out]; show Value.int _ _ = Value.int _ _; congr 1; show _ = ((Sl.dif Sl.shC l (k + 1) : Nat) : Int); omega)
            | (rw [(HL1 (by omega) h2).out])
          · rw [HSK2.out]; show Value.int _ _ = Value.int _ _; congr 1 <;> first | (rw [IntWalk.i64_in _ (by omega)]; try omega) | omega
    · have hkk : k = l.length - 1 := by rcases HK.out with h | h <;> omega
      have HCA := Lib.hid (Sl.cutAt_st Sl.shC l)
      have HCL := Lib.hid (Sl.cutAt_le Sl.shC l)
      rw [← hkk] at HCA
      have HW3 := Lib.hid (HW1.out.trans (HB.out.mono (Nat.le_succ g)))
      have HVB' : Hid (∀ W, Below g w W → SlC W (.slice a l.length c) l) := fun W hW => HVB.out W (by rw [HG.out]; exact hW)
      clear HB HK hkk HL HV HVB hsm
      obtain ⟨q, hq⟩ : ∃ q, Sl.cutAt Sl.shC l = q := ⟨_, rfl⟩
      have HQ := Lib.hid hq
      rw [hq] at HCA HCL
      clear hq
      rw [← HCA.out]
      rcases HA.out with h | h
      · subst h
        obtain rfl : q = 0 := by have := HCL.out; simp at this; exact this
        have HC1 := Lib.hid (fun W (_ : Below g w W) => cloneC_any _ [] (by decide) W (SlC.emptyS W a c))
        have HC2 := Lib.hid (fun W (_ : Below g w W) => cloneC_any _ [] (by decide) W (SlC.emptyS W a c))
        clear HX HB1 HG1 HCA
        cases a with
        | none =>
          have HD : Hid (Below g w wr.drew) := HW3.out.drew
          go_wp2_with fail
          go_region_held3 (fun w' => Below g w w')
            ((first | assumption | exact ‹Below g w _›.trans (hb.mono (by have := (‹Below g w _› : Below g w _).size; rw [HG.out] at this; exact this)) | exact HD.out))
            (first
            | (go_at_call 88; with_reducible refine (HC2.out _ (by assumption)).mono ?_; rintro e w5 ⟨v2, rfl, hr2, hb⟩; have HR2 := Lib.hid hr2; have HS5 := Lib.hid hb.size; have HR1' := Lib.hid (HR1.out.below hb); clear hr2)
            | (go_at_call 88; with_reducible refine (HC1.out _ (by assumption)).mono ?_; rintro e w4 ⟨v1, rfl, hr1, hb⟩; have HR1 := Lib.hid hr1; have HS4 := Lib.hid (Nat.le_trans HD.out.size hb.size); have HLO := Lib.hid hr1.lo; clear hr1))
          rename_i hS
          have HBE := Lib.hid hS
          clear hS
          go_wp2
          go_ret2
          refine ⟨v1, v2, w4.heap.size, rfl, ?_, HLO.out, ?_, HS4.out, HS5.out, by rw [HG.out]; exact HBE.out⟩
          · rw [List.take_nil]; exact HR1'.out.base (Nat.le_trans HW3.out.size (Nat.le_refl _))
          · rw [List.drop_nil]; exact HR2.out
        | some ad =>
          have HD : Hid (Below g w wr.drew) := HW3.out.drew
          go_wp2_with fail
          go_region_held3 (fun w' => Below g w w')
            ((first | assumption | exact ‹Below g w _›.trans (hb.mono (by have := (‹Below g w _› : Below g w _).size; rw [HG.out] at this; exact this)) | exact HD.out))
            (first
            | (go_at_call 88; with_reducible refine (HC2.out _ (by assumption)).mono ?_; rintro e w5 ⟨v2, rfl, hr2, hb⟩; have HR2 := Lib.hid hr2; have HS5 := Lib.hid hb.size; have HR1' := Lib.hid (HR1.out.below hb); clear hr2)
            | (go_at_call 88; with_reducible refine (HC1.out _ (by assumption)).mono ?_; rintro e w4 ⟨v1, rfl, hr1, hb⟩; have HR1 := Lib.hid hr1; have HS4 := Lib.hid (Nat.le_trans HD.out.size hb.size); have HLO := Lib.hid hr1.lo; clear hr1))
          rename_i hS
          have HBE := Lib.hid hS
          clear hS
          go_wp2
          go_ret2
          refine ⟨v1, v2, w4.heap.size, rfl, ?_, HLO.out, ?_, HS4.out, HS5.out, by rw [HG.out]; exact HBE.out⟩
          · rw [List.take_nil]; exact HR1'.out.base (Nat.le_trans HW3.out.size (Nat.le_refl _))
          · rw [List.drop_nil]; exact HR2.out
      · subst h
        have hq0 : (0 : Int) ≤ (q : Int) := by omega
        have hq1 : (q : Int) ≤ l.length := by have := HCL.out; omega
        have hq2 : (q : Int) ≤ c := by omega
        have hq3 : (l.length : Int) ≤ c := by omega
        have HSW := Lib.hid (fun W (hW : Below g w W) => HVB'.out W hW)
        clear HX HB1 HG1 HCA
        have HC1 := Lib.hid (fun W (hW : Below g w W) => cloneC_any _ (l.take q) (by rw [List.length_take]; omega) W ((HSW.out W hW).takeS (c' := c) q HCL.out))
        by_cases hcq : c = q
        · have hlq : l.length = q := by omega
          subst hcq
          have hnn : (l.length : Int) - (c : Int) = 0 := by omega
          have hn2 : l.length - c = 0 := by omega
          have HC2 := Lib.hid (fun W (_ : Below g w W) => cloneC_any _ [] (by decide) W (SlC.emptyS W (some ⟨b, o, none⟩) 0))
          have HD : Hid (Below g w wr.drew) := HW3.out.drew
          go_wp2_with fail
          go_region_held3 (fun w' => Below g w w')
            ((first | assumption | exact ‹Below g w _›.trans (hb.mono (by have := (‹Below g w _› : Below g w _).size; rw [HG.out] at this; exact this)) | exact HD.out))
            (first
            | (go_at_call 88; with_reducible refine (HC2.out _ (by assumption)).mono ?_; rintro e w5 ⟨v2, rfl, hr2, hb⟩; have HR2 := Lib.hid hr2; have HS5 := Lib.hid hb.size; have HR1' := Lib.hid (HR1.out.below hb); clear hr2)
            | (go_at_call 88; with_reducible refine (HC1.out _ (by assumption)).mono ?_; rintro e w4 ⟨v1, rfl, hr1, hb⟩; have HR1 := Lib.hid hr1; have HS4 := Lib.hid (Nat.le_trans HD.out.size hb.size); have HLO := Lib.hid hr1.lo; clear hr1))
          rename_i hS
          have HBE := Lib.hid hS
          clear hS
          go_wp2
          go_ret2
          refine ⟨v1, v2, w4.heap.size, rfl, ?_, HLO.out, ?_, HS4.out, HS5.out, by rw [HG.out]; exact HBE.out⟩
          · rw [HQ.out]; exact HR1'.out.base (Nat.le_trans HW3.out.size (Nat.le_refl _))
          · rw [HQ.out, List.drop_eq_nil_of_le (by omega)]; exact HR2.out
        · have HC2 := Lib.hid (fun W (hW : Below g w W) => cloneC_any _ (l.drop q) (by rw [List.length_drop]; omega) W ((HSW.out W hW).dropS (c' := c - q) q))
          have HD : Hid (Below g w wr.drew) := HW3.out.drew
          go_wp2_with fail
          go_region_held3 (fun w' => Below g w w')
            ((first | assumption | exact ‹Below g w _›.trans (hb.mono (by have := (‹Below g w _› : Below g w _).size; rw [HG.out] at this; exact this)) | exact HD.out))
            (first
            | (go_at_call 88; with_reducible refine (HC2.out _ (by assumption)).mono ?_; rintro e w5 ⟨v2, rfl, hr2, hb⟩; have HR2 := Lib.hid hr2; have HS5 := Lib.hid hb.size; have HR1' := Lib.hid (HR1.out.below hb); clear hr2)
            | (go_at_call 88; with_reducible refine (HC1.out _ (by assumption)).mono ?_; rintro e w4 ⟨v1, rfl, hr1, hb⟩; have HR1 := Lib.hid hr1; have HS4 := Lib.hid (Nat.le_trans HD.out.size hb.size); have HLO := Lib.hid hr1.lo; clear hr1))
          rename_i hS
          have HBE := Lib.hid hS
          clear hS
          go_wp2
          go_ret2
          refine ⟨v1, v2, w4.heap.size, rfl, ?_, HLO.out, ?_, HS4.out, HS5.out, by rw [HG.out]; exact HBE.out⟩
          · rw [HQ.out]; exact HR1'.out.base (Nat.le_trans HW3.out.size (Nat.le_refl _))
          · rw [HQ.out]; exact HR2.out
end Go.Proofs.YtemfbkelenaaeaaGreat
