/- Texts of one seat, merged. -/
import Derived.Test.YtpkoehnjladpoaaD08
import Derived.Test.YtpkoehnjladpoaaD13
import Derived.Test.YtpkoehnjladpoaaD12
import Derived.Test.YtpkoehnjladpoaaD06
set_option maxRecDepth 100000
set_option maxHeartbeats 4000000
set_option linter.unusedVariables false
/- What is done to a node: a kid turned, a place cut, a key's kid; the document's own; they agree. Nothing of the program. -/
namespace Go.Proofs.Ytpkoehnjladpoaa.Sl
variable {α β : Type}
/-- A row without a place. -/
def cutP (l : List α) (p : Int) : List α := if 0 ≤ p ∧ p < l.length then l.take p.toNat ++ l.drop (p.toNat + 1) else l
theorem cutP_in (l : List α) (p : Nat) (h : p < l.length) : cutP l (p : Int) = l.take p ++ l.drop (p + 1) := by
  unfold cutP; rw [if_pos ⟨by omega, by omega⟩, Int.toNat_natCast]
theorem cutP_out (l : List α) (p : Int) (h : ¬ (0 ≤ p ∧ p < l.length)) : cutP l p = l := if_neg h
theorem cutP_le (l : List α) (p : Int) : (cutP l p).length ≤ l.length := by
  unfold cutP; split
  · simp only [List.length_append, List.length_take, List.length_drop]; omega
  · exact Nat.le_refl _
theorem cutP_lt (l : List α) (p : Nat) (h : p < l.length) : (cutP l (p : Int)).length + 1 = l.length := by
  rw [cutP_in l p h]
  simp only [List.length_append, List.length_take, List.length_drop]; omega
theorem cutP_map (f : α → β) (l : List α) (p : Int) : cutP (l.map f) p = (cutP l p).map f := by
  unfold cutP
  rw [List.length_map]
  split
  · rw [List.map_append, List.map_take, List.map_drop]
  · rfl
theorem cut_last (A : List α) (x : α) : cutP (A ++ [x]) (A.length : Int) = A := by
  rw [cutP_in _ A.length (by simp), List.take_left, show A.length + 1 = (A ++ [x]).length by simp, List.drop_length, List.append_nil]
/-- The first k of a row, without a place. -/
def woP (l : List α) (p : Int) : Nat → List α
  | 0 => []
  | k + 1 => woP l p k ++ (if (k : Int) = p then [] else match l[k]? with | some x => [x] | none => [])
theorem woP_skip (l : List α) (p : Int) (k : Nat) (h : (k : Int) = p) : woP l p (k + 1) = woP l p k := by
  show woP l p k ++ _ = _; rw [if_pos h, List.append_nil]
theorem woP_snoc (l : List α) (p : Int) (k : Nat) (x : α) (h : ¬ (k : Int) = p) (hx : l[k]? = some x) : woP l p (k + 1) = woP l p k ++ [x] := by
  show woP l p k ++ _ = _; rw [if_neg h, hx]
theorem woP_upto (l : List α) (p : Int) : ∀ k, k ≤ l.length → woP l p k = cutP (l.take k) p
  | 0, _ => by
    show [] = _
    rw [List.take_zero, cutP_out [] p (by simp <;> omega)]
  | k + 1, h => by
    have hx : l[k]? = some l[k] := List.getElem?_eq_getElem (by omega)
    have ih := woP_upto l p k (by omega)
    have hlk : (l.take k).length = k := by rw [List.length_take]; omega
    have hts : l.take (k + 1) = l.take k ++ [l[k]] := by rw [List.take_add_one, hx]; rfl
    by_cases hp : (k : Int) = p
    · subst hp
      rw [woP_skip l _ k rfl, ih, cutP_out (l.take k) _ (by rw [hlk]; omega), hts]
      have hcl := cut_last (l.take k) l[k]
      rw [hlk] at hcl
      exact hcl.symm
    · rw [woP_snoc l p k _ hp hx, ih, hts]
      by_cases hin : 0 ≤ p ∧ p < (k : Int)
      · obtain ⟨q, rfl⟩ : ∃ q : Nat, p = q := ⟨p.toNat, by omega⟩
        rw [cutP_in _ q (by rw [hlk]; omega), cutP_in _ q (by rw [List.length_append, hlk]; omega)]
        rw [List.take_append_of_le_length (by rw [hlk]; omega), List.drop_append_of_le_length (by rw [hlk]; omega), List.append_assoc]
      · rw [cutP_out _ _ (by rw [hlk]; exact hin), cutP_out _ _ (by rw [List.length_append, hlk]; show ¬ (0 ≤ p ∧ p < ((k + 1 : Nat) : Int)); omega)]
theorem woP_all (l : List α) (p : Int) : woP l p l.length = cutP l p := by
  rw [woP_upto l p l.length (Nat.le_refl _), List.take_length]
/-- A node without a kid; a kid that leads elsewhere. -/
def remN (n : Nd) (p : Int) : Nd := if n.leaf then ⟨true, n.cs, []⟩ else if 0 ≤ p ∧ p < n.ks.length then ⟨false, [], setK [] (cutP n.ks p)⟩ else ⟨false, [], n.ks⟩
def setPage (l : List Kd) (p : Int) (g : Nat) : List Kd := if 0 ≤ p ∧ p < l.length then l.modify p.toNat (fun x => ⟨x.key, g⟩) else l
def setChain (l : List Cl) (p : Int) (g : Nat) : List Cl := if 0 ≤ p ∧ p < l.length then l.modify p.toNat (fun x => ⟨x.key, x.val, g, x.long⟩) else l
/-- The document's: without a place. -/
def woR (n : Rn) (p : Int) : Rn := ⟨n.leaf, if n.leaf then cutP n.l p else if 0 ≤ p ∧ p < n.l.length then setC [] (cutP n.l p) else n.l⟩
theorem toR_rem (n : Nd) (p : Int) (h : n.leaf = false) : toR (remN n p) = woR (toR n) p := by
  obtain ⟨lf, cs, ks⟩ := n
  simp only at h
  subst h
  show toR (if 0 ≤ p ∧ p < (ks.length : Int) then _ else _) = (⟨false, if 0 ≤ p ∧ p < ((ks.map toC).length : Int) then setC [] (cutP (ks.map toC) p) else ks.map toC⟩ : Rn)
  rw [List.length_map]
  by_cases hp : 0 ≤ p ∧ p < (ks.length : Int)
  · rw [if_pos hp, if_pos hp, cutP_map, setC_map]; rfl
  · rw [if_neg hp, if_neg hp]; rfl
theorem modify_map {f : α → β} {g : α → α} {h : β → β} (hc : ∀ x, h (f x) = f (g x)) : ∀ (l : List α) (p : Nat), (l.map f).modify p h = (l.modify p g).map f
  | [], p => by cases p <;> rfl
  | x :: t, 0 => by show h (f x) :: _ = f (g x) :: _; rw [hc]
  | x :: t, p + 1 => by show f x :: (t.map f).modify p h = f x :: (t.modify p g).map f; rw [modify_map hc t p]
theorem setChain_map (l : List Kd) (p : Int) (g : Nat) : setChain (l.map toC) p g = (setPage l p g).map toC := by
  unfold setChain setPage
  rw [List.length_map]
  split
  · exact modify_map (f := toC) (g := fun x : Kd => ⟨x.key, g⟩) (h := fun x : Cl => ⟨x.key, x.val, g, x.long⟩) (fun _ => rfl) l _
  · rfl
/-- The document's: a cell in its place. -/
def plS (x : Cl) (s : List Cl × Bool) (y : Cl) : List Cl × Bool := if s.2 = false ∧ less y.key x.key = false then (if x.key = y.key then (s.1 ++ [x], true) else (s.1 ++ [x] ++ [y], true)) else (s.1 ++ [y], s.2)
def plF (x : Cl) (l : List Cl) : List Cl := if (l.foldl (plS x) ([], false)).2 then (l.foldl (plS x) ([], false)).1 else (l.foldl (plS x) ([], false)).1 ++ [x]
def pl (x : Cl) : List Cl → List Cl
  | [] => [x]
  | y :: t => if less y.key x.key = false then (if x.key = y.key then x :: t else x :: y :: t) else y :: pl x t
theorem pl_cons (x y : Cl) (t : List Cl) : pl x (y :: t) = if less y.key x.key = false then (if x.key = y.key then x :: t else x :: y :: t) else y :: pl x t := rfl
theorem plS_done (x : Cl) : ∀ (l m : List Cl), l.foldl (plS x) (m, true) = (m ++ l, true)
  | [], m => by simp
  | y :: t, m => by
    rw [List.foldl_cons, show plS x (m, true) y = (m ++ [y], true) by unfold plS; rw [if_neg (by simp)], plS_done x t, List.append_assoc]; rfl
theorem plS_go (x : Cl) : ∀ (l m : List Cl), (if (l.foldl (plS x) (m, false)).2 then (l.foldl (plS x) (m, false)).1 else (l.foldl (plS x) (m, false)).1 ++ [x]) = m ++ pl x l
  | [], m => by simp [pl]
  | y :: t, m => by
    rw [List.foldl_cons]
    cases hy : less y.key x.key with
    | true =>
      rw [show plS x (m, false) y = (m ++ [y], false) by unfold plS; rw [if_neg (by simp [hy])], plS_go x t (m ++ [y])]
      rw [pl_cons, if_neg (by simp [hy]), List.append_assoc]; rfl
    | false =>
      by_cases he : x.key = y.key
      · rw [show plS x (m, false) y = (m ++ [x], true) by unfold plS; rw [if_pos (by simp [hy]), if_pos he], plS_done]
        rw [pl_cons, if_pos hy, if_pos he]; simp
      · rw [show plS x (m, false) y = (m ++ [x] ++ [y], true) by unfold plS; rw [if_pos (by simp [hy]), if_neg he], plS_done]
        rw [pl_cons, if_pos hy, if_neg he]; simp
theorem plF_pl (x : Cl) (l : List Cl) : plF x l = pl x l := by
  have := plS_go x l []
  rw [List.nil_append] at this
  exact this
theorem pl_put (x : Cl) : ∀ l : List Cl, pl x l = putL shC l x
  | [] => rfl
  | y :: t => by
    have ih := pl_put x t
    rw [pl_cons]
    cases hy : less y.key x.key with
    | true =>
      rw [if_neg (by simp)]
      have hp : place shC (y :: t) x.key = place shC t x.key + 1 := by
        unfold place; rw [List.takeWhile_cons, show less (shC.key y) x.key = true from hy]; rfl
      have ht : there shC (y :: t) x.key = there shC t x.key := by unfold there; rw [hp]; rfl
      rw [ih]
      unfold putL
      rw [show shC.key x = x.key from rfl, hp, ht]
      split <;> rfl
    | false =>
      rw [if_pos rfl]
      have hp : place shC (y :: t) x.key = 0 := by
        unfold place; rw [List.takeWhile_cons, show less (shC.key y) x.key = false from hy]; rfl
      have ht : there shC (y :: t) x.key = decide (y.key = x.key) := by unfold there; rw [hp]; rfl
      unfold putL
      rw [show shC.key x = x.key from rfl, hp, ht]
      by_cases he : x.key = y.key
      · rw [if_pos he, if_pos (by simp [he])]; rfl
      · rw [if_neg he, if_neg (by intro h; exact he (of_decide_eq_true h).symm)]; rfl
def placedR (n : Rn) (x : Cl) : Rn := ⟨n.leaf, plF x n.l⟩
theorem putL_len (S : Sh α) (l : List α) (x : α) : (putL S l x).length ≤ l.length + 1 := by
  unfold putL; split <;> simp only [List.length_append, List.length_take, List.length_cons, List.length_drop] <;> omega
theorem putL_map (l : List Kd) (x : Kd) : putL shC (l.map toC) (toC x) = (putL shK l x).map toC := by
  have hp : ∀ k, place shC (l.map toC) k = place shK l k := fun k => by
    unfold place
    rw [List.takeWhile_map, List.length_map]; rfl
  have ht : ∀ k, there shC (l.map toC) k = there shK l k := fun k => by
    unfold there
    rw [hp, List.getElem?_map]
    cases l[place shK l k]? <;> rfl
  unfold putL
  rw [show shC.key (toC x) = x.key from rfl, show shK.key x = x.key from rfl, hp, ht]
  split <;> simp [List.map_take, List.map_drop]
theorem toR_put (cs : List Cl) (x : Cl) : toR ⟨true, putL shC cs x, []⟩ = placedR (toR ⟨true, cs, []⟩) x := by
  show (⟨true, putL shC cs x⟩ : Rn) = ⟨true, plF x cs⟩
  rw [plF_pl, pl_put]
theorem toR_insert (ks : List Kd) (x : Kd) : toR ⟨false, [], putL shK ks x⟩ = placedR (toR ⟨false, [], ks⟩) (toC x) := by
  show (⟨false, (putL shK ks x).map toC⟩ : Rn) = ⟨false, plF (toC x) (ks.map toC)⟩
  rw [plF_pl, pl_put, putL_map]
/-- The last place whose key isn't above one; else the first. -/
def rt (S : Sh α) (l : List α) (k : List UInt8) : Nat → Nat
  | 0 => 0
  | j + 1 => match l[j]? with | some x => if less k (S.key x) then rt S l k j else j | none => rt S l k j
theorem rt_yes (S : Sh α) (l : List α) (k : List UInt8) (j : Nat) (x : α) (hx : l[j]? = some x) (h : less k (S.key x) = false) : rt S l k (j + 1) = j := by
  show (match l[j]? with | some x => if less k (S.key x) then rt S l k j else j | none => rt S l k j) = j
  rw [hx]; simp [h]
theorem rt_no (S : Sh α) (l : List α) (k : List UInt8) (j : Nat) (x : α) (hx : l[j]? = some x) (h : less k (S.key x) = true) : rt S l k (j + 1) = rt S l k j := by
  show (match l[j]? with | some x => if less k (S.key x) then rt S l k j else j | none => rt S l k j) = _
  rw [hx]; simp [h]
theorem rt_none (S : Sh α) (l : List α) (k : List UInt8) (j : Nat) (hx : l[j]? = none) : rt S l k (j + 1) = rt S l k j := by
  show (match l[j]? with | some x => if less k (S.key x) then rt S l k j else j | none => rt S l k j) = _
  rw [hx]
theorem rt_map (l : List Kd) (k : List UInt8) : ∀ j, rt shC (l.map toC) k j = rt shK l k j
  | 0 => rfl
  | j + 1 => by
    have ih := rt_map l k j
    cases hx : l[j]? with
    | none =>
      have hm : (l.map toC)[j]? = none := by rw [List.getElem?_map, hx]; rfl
      rw [rt_none _ _ _ _ hx, rt_none _ _ _ _ hm, ih]
    | some x =>
      have hm : (l.map toC)[j]? = some (toC x) := by rw [List.getElem?_map, hx]; rfl
      cases hk : less k x.key
      · rw [rt_yes shC _ k j (toC x) hm hk, rt_yes shK _ k j x hx hk]
      · rw [rt_no shC _ k j (toC x) hm hk, rt_no shK _ k j x hx hk, ih]
theorem rt_le (S : Sh α) (l : List α) (k : List UInt8) : ∀ j, rt S l k j ≤ j
  | 0 => Nat.le_refl _
  | j + 1 => by
    show (match l[j]? with | some x => if less k (S.key x) then rt S l k j else j | none => rt S l k j) ≤ j + 1
    have := rt_le S l k j
    split
    · split <;> omega
    · omega
/-- The law's own search: the last cell of a key, and its place. -/
def hs (l : List Cl) (k : List UInt8) : Nat → Cl × Int
  | 0 => (⟨[], [], 0, 0⟩, -1)
  | j + 1 => match l[j]? with | some x => if x.key = k then (x, j) else hs l k j | none => hs l k j
theorem hs_yes (l : List Cl) (k : List UInt8) (j : Nat) (x : Cl) (hx : l[j]? = some x) (h : x.key = k) : hs l k (j + 1) = (x, (j : Int)) := by
  show (match l[j]? with | some x => if x.key = k then (x, (j : Int)) else hs l k j | none => hs l k j) = _
  rw [hx]; simp [h]
theorem hs_no (l : List Cl) (k : List UInt8) (j : Nat) (x : Cl) (hx : l[j]? = some x) (h : ¬ x.key = k) : hs l k (j + 1) = hs l k j := by
  show (match l[j]? with | some x => if x.key = k then (x, (j : Int)) else hs l k j | none => hs l k j) = _
  rw [hx]; simp [h]
theorem hs_none (l : List Cl) (k : List UInt8) : ∀ j, (∀ i x, i < j → l[i]? = some x → ¬ x.key = k) → hs l k j = (⟨[], [], 0, 0⟩, -1)
  | 0, _ => rfl
  | j + 1, h => by
    have ih := hs_none l k j (fun i x hi hx => h i x (by omega) hx)
    cases hx : l[j]? with
    | none =>
      show (match l[j]? with | some x => if x.key = k then (x, (j : Int)) else hs l k j | none => hs l k j) = _
      rw [hx]; exact ih
    | some x => rw [hs_no l k j x hx (h j x (by omega) hx)]; exact ih
theorem hs_last (l : List Cl) (k : List UInt8) (p : Nat) (x : Cl) (hp : l[p]? = some x) (hk : x.key = k) : ∀ d, (∀ i y, p < i → l[i]? = some y → ¬ y.key = k) → hs l k (p + 1 + d) = (x, (p : Int))
  | 0, _ => hs_yes l k p x hp hk
  | d + 1, h => by
    have ih := hs_last l k p x hp hk d h
    cases hx : l[p + 1 + d]? with
    | none =>
      show (match l[p + 1 + d]? with | some x => if x.key = k then (x, ((p + 1 + d : Nat) : Int)) else hs l k (p + 1 + d) | none => hs l k (p + 1 + d)) = _
      rw [hx]; exact ih
    | some y =>
      rw [show p + 1 + (d + 1) = (p + 1 + d) + 1 by omega, hs_no l k (p + 1 + d) y hx (h _ y (by omega) hx)]; exact ih
/-- What the law's search comes to over rising keys. -/
theorem hs_there (l : List Cl) (k : List UInt8) (h : rises shC l = true) (ht : there shC l k = true) : ∃ x, l[place shC l k]? = some x ∧ hs l k l.length = (x, (place shC l k : Int)) ∧ toR ⟨true, cutL shC l k, []⟩ = woR (toR ⟨true, l, []⟩) (place shC l k : Int) := by
  obtain ⟨x, hx, hk, hlt⟩ := there_at shC l k ht
  refine ⟨x, hx, ?_, ?_⟩
  · rw [show l.length = place shC l k + 1 + (l.length - place shC l k - 1) by omega]
    exact hs_last l k _ x hx hk _ (fun i y hi hy => (place_high shC l k h i y hi hy).2)
  · show (⟨true, cutL shC l k⟩ : Rn) = ⟨true, cutP l (place shC l k : Int)⟩
    unfold cutL
    rw [if_pos ht, cutP_in l _ hlt]
theorem hs_gone (l : List Cl) (k : List UInt8) (h : rises shC l = true) (ht : there shC l k = false) : hs l k l.length = (⟨[], [], 0, 0⟩, -1) ∧ toR ⟨true, cutL shC l k, []⟩ = woR (toR ⟨true, l, []⟩) (-1) := by
  refine ⟨hs_none l k _ (fun i x _ hx he => ?_), ?_⟩
  · rcases Nat.lt_trichotomy i (place shC l k) with hi | hi | hi
    · exact low_ne _ _ (place_low shC k l i x hi hx) he
    · subst hi
      rw [there_some shC l k x hx, show shC.key x = x.key from rfl, he] at ht
      simp at ht
    · exact (place_high shC l k h i x hi hx).2 he
  · show (⟨true, cutL shC l k⟩ : Rn) = ⟨true, cutP l (-1)⟩
    unfold cutL
    rw [if_neg (by rw [ht]; simp), cutP_out _ _ (by omega)]
end Go.Proofs.Ytpkoehnjladpoaa.Sl
/- The contracts of hasKid, Turn, Remove. -/
namespace Go.Proofs.Ytpkoehnjladpoaa.Sl
def hasK (n : Nd) (p : Int) : Bool := !n.leaf && decide (0 ≤ p) && decide (p < n.ks.length)
end Go.Proofs.Ytpkoehnjladpoaa.Sl
namespace Go.Proofs.Ytpkoehnjladpoaa
open Go.RowKit
open Sl (Cl Kd Nd Rn)
theorem oneB (w : World) (o : Obj) : Below w.heap.size w (w.alloc o) := (Below.refl _ _).alloc (Nat.le_refl _) _
theorem hasKid_any (v : Value) (n : Nd) (p : Int) (w : World) (hv : NdV w v n) : Calls Try.prog 62 #[v, .int .i64 p] w fun e w' => e = .returned (.bool (Sl.hasK n p)) ∧ Below w.heap.size w w' := by
  obtain ⟨vc, vk, rfl, hc, hcc, hk, hkk⟩ := hv
  obtain ⟨a', b, o, c', rfl, _, _⟩ := hk
  obtain ⟨a, m, c, _, _, _⟩ := hcc
  unfold ndV Sl.hasK
  clear hkk hc
  generalize n.ks.length = L at *
  generalize n.leaf = lf
  cases lf
  · by_cases h0 : 0 ≤ p
    · by_cases h1 : p < (L : Int)
      · rw [decide_eq_true h0, decide_eq_true h1]
        go_enter Try.func62, Try.ntmps62
        go_wp2
        go_ret
        exact ⟨rfl, oneB _ _⟩
      · rw [decide_eq_true h0, decide_eq_false h1]
        go_enter Try.func62, Try.ntmps62
        go_wp2
        go_ret
        exact ⟨rfl, oneB _ _⟩
    · rw [decide_eq_false h0]
      go_enter Try.func62, Try.ntmps62
      go_wp2
      go_ret
      exact ⟨rfl, oneB _ _⟩
  · go_enter Try.func62, Try.ntmps62
    go_wp2
    go_ret
    exact ⟨rfl, oneB _ _⟩
theorem boxes2 (w : World) (A B : Array Value) (T U : TypeId) : Kp w.heap.size w (row1 w.heap.size A ++ row1 (w.heap.size + 1) B) ((w.alloc (.cells A T)).alloc (.cells B U)) := by
  have h := (Kp.laid (Below.refl _ w) (Nat.le_refl _) A T).more (Nat.le_refl _) B U
  rwa [show (w.alloc (.cells A T)).heap.size = w.heap.size + 1 by simp] at h
theorem kp_lt {B : Nat} {w0 w : World} {g : Nat} {x : Value} {i : Nat} (h : w.cell? ⟨g, i, none⟩ = some x) : g < w.heap.size := World.block_lt_of_cell? _ _ h
end Go.Proofs.Ytpkoehnjladpoaa
/- Turn and Remove of a kid that is there. -/
namespace Go.Proofs.Ytpkoehnjladpoaa
open Go.RowKit
open Sl (Cl Kd Nd Rn)
theorem hasK_in (n : Nd) (p : Nat) (h : n.leaf = false) (hp : p < n.ks.length) : Sl.hasK n p = true := by
  unfold Sl.hasK; rw [h, decide_eq_true (by omega), decide_eq_true (by omega)]; rfl
theorem flat_page : ∀ (l : List Kd) (p g : Nat), p < l.length → (l.flatMap cellsK).set (p * 2 + 1) (.int .u32 g) = (l.modify p (fun x => ⟨x.key, g⟩)).flatMap cellsK
  | [], p, g, h => absurd h (Nat.not_lt_zero _)
  | y :: t, 0, g, _ => by simp [cellsK]
  | y :: t, p + 1, g, h => by
    have ih := flat_page t p g (by simpa using h)
    have hy := cellsK_len y
    rw [List.modify_succ_cons, List.flatMap_cons, List.flatMap_cons, ← ih, List.set_append_right _ _ (by omega), show (p + 1) * 2 + 1 - (cellsK y).length = p * 2 + 1 by omega]
theorem turn_in (v : Value) (n : Nd) (p g : Nat) (w : World) (hv : NdV w v n) (hlf : n.leaf = false) (hl : n.ks.length ≤ 100000) (hp : p < n.ks.length) :
    Calls Try.prog 22 #[v, .int .i64 p, .int .u32 g] w (RetN ⟨false, [], Sl.setPage n.ks p g⟩ w) := by
  have HOW := Lib.hid (fun W (hW : Below w.heap.size w W) => ownK_any v n W (hv.below hW) hlf hl)
  have HHK := Lib.hid (fun W (hW : Below w.heap.size w W) => hasKid_any v n p W (hv.below hW))
  rw [hasK_in n p hlf hp] at HHK
  rw [show Sl.setPage n.ks p g = n.ks.modify p (fun x => ⟨x.key, g⟩) by unfold Sl.setPage; rw [if_pos ⟨by omega, by omega⟩, Int.toNat_natCast]]
  obtain ⟨vc, vk, rfl, hc, hcc, hk, hkk⟩ := hv
  rw [hlf] at HOW HHK ⊢
  unfold ndV at HOW HHK ⊢
  obtain ⟨a, m, c, _, _, _⟩ := hcc
  obtain ⟨a', m', c', _, _, _⟩ := hkk
  have HP := Lib.hid hp
  have HLE := Lib.hid hl
  clear hc hk hlf hl hp
  generalize n.ks = l at *
  have HST := Lib.hid (fun x1 x2 => boxes2 w #[.bool false, x1, x2] zn 46 46)
  unfold zn at HST
  go_enter Try.func22, Try.ntmps22
  go_upto_region 2 with (go_at_call 55; (refine (HOW.out _ (HST.out _ _).below).mono ?_); rintro e w5 ⟨v5, rfl, hr5, hb5⟩; have HK5 := Lib.hid ((HST.out (.slice a m c) (.slice a' m' c')).step (Nat.le_refl _) hb5); obtain ⟨a5, n5, c5, ha5, hc5, hn5⟩ := hr5.cap; have HCP := Lib.hid (Cap.mk a5 n5 c5 ha5 hc5 hn5); have HR5 := Lib.hid hr5; clear hr5 hb5; unfold ndV)
  have HLO : Hid (∀ k, (Value.slice a5 n5 c5).ownBlock = some k → k < w5.heap.size) := HR5.out.lo
  have HK6 := Lib.hid (HK5.out.more (Nat.le_refl _) #[.bool false, .slice none 0 0, .slice a5 n5 c5] 46)
  have HR6 := Lib.hid (HR5.out.below (oneB w5 (.cells #[.bool false, .slice none 0 0, .slice a5 n5 c5] 46)))
  have hsz : ((w.alloc (.cells #[.bool false, .slice a m c, .slice a' m' c'] 46)).alloc (.cells #[.bool false, .slice none 0 0, .slice none 0 0] 46)).heap.size = w.heap.size + 1 + 1 := by simp
  rw [hsz] at HR6
  clear HK5 HR5 HOW hsz
  generalize (w5.alloc (.cells #[.bool false, .slice none 0 0, .slice a5 n5 c5] 46)) = W6 at HK6 HR6 ⊢
  generalize w5.heap.size = q at HK6 HLO ⊢
  obtain ⟨⟨k0, k1, k2⟩, _⟩ := HK6.out.left.left.three
  go_upto_region 3 with (go_at_call 62; (refine (HHK.out _ HK6.out.below).mono ?_); rintro e w7 ⟨rfl, hb7⟩; have HK7 := Lib.hid (HK6.out.step (Nat.le_refl _) hb7); have HR7 := Lib.hid (HR6.out.below hb7); clear hb7)
  clear k0 k1 k2 HK6 HR6
  obtain ⟨⟨c0, c1, c2⟩, _⟩ := HK7.out.right.three
  obtain ⟨b, cap, hav, hg, hnc, hcm, hcell, hfr⟩ := row_someK HR7.out (by have := HP.out; omega)
  simp only [Value.slice.injEq] at hav
  obtain ⟨rfl, rfl, rfl⟩ := hav
  have HBQ : Hid (b < q) := HLO.out b rfl
  have hq1 : q ≠ b := by have := HBQ.out; omega
  obtain ⟨y, hy⟩ : ∃ y, l[p]? = some y := ⟨_, List.getElem?_eq_getElem HP.out⟩
  have ck1 := hcell (p * 2 + 1) _ (flat_at cellsK 2 cellsK_len l p 1 y hy (by decide))
  have fk1 := hfr (p * 2 + 1)
  have HGB := Lib.hid hg
  have HR8 : Hid (RowK (w7.setCell ⟨b, p * 2 + 1, none⟩ (.int .u32 g)) (w.heap.size + 1 + 1) (.slice (some ⟨b, 0, none⟩) l.length c5) (l.modify p (fun x => ⟨x.key, g⟩))) := by
    have h := (World.ownsRow.stored HR7.out (p * 2 + 1) (.int .u32 g)).1
    rw [flat_page l p g HP.out] at h
    show World.ownsRow _ _ _ _ _ _ _
    rw [List.length_modify]
    exact h
  have HK8 := Lib.hid (HK7.out.set (p := ⟨b, p * 2 + 1, none⟩) (fun x hx h => by
    have hb := HGB.out
    have hb2 := HBQ.out
    rcases List.mem_append.1 hx with hx | hx
    · rcases List.mem_append.1 hx with hx | hx
      · have := row1_block hx; rw [h] at this; exact absurd this (by show ¬ b = _; omega)
      · have := row1_block hx; rw [h] at this; exact absurd this (by show ¬ b = _; omega)
    · have := row1_block hx; rw [h] at this; exact absurd this (by show ¬ b = _; omega)) (by have := HGB.out; show _ ≤ b; omega) (.int .u32 g))
  obtain ⟨⟨z0, z1, z2⟩, f0, f1, f2⟩ := HK8.out.left.right.three
  obtain ⟨⟨e0, e1, e2⟩, _⟩ := HK8.out.right.three
  have hpl := HP.out
  have hpi : (p : Int) < (l.length : Int) := by omega
  clear hcell hfr hg hnc hcm hy
  go_wp2
  have hq : w.heap.size + 1 < w.heap.size + 1 + 1 := by omega
  refine bodyPost_ret_by (v := ndV false (.slice none 0 0) (.slice (some ⟨b, 0, none⟩) l.length c5)) ?_ rfl ?_
  · simp [ndV, results, Try.results22, go_sem, z0, z1, z2]
  · exact ⟨_, rfl, ⟨_, _, rfl, SlC.nil _, cap_nil, (((HR8.out.set hq _).set hq _).set hq _).sl, HCP.out⟩, below_set3 HK8.out.below (by omega)⟩
end Go.Proofs.Ytpkoehnjladpoaa
/- Remove of a kid that is there. -/
namespace Go.Proofs.Ytpkoehnjladpoaa
open Go.RowKit
open Sl (Cl Kd Nd Rn)
theorem rem_in (v : Value) (n : Nd) (p : Nat) (w : World) (hv : NdV w v n) (hlf : n.leaf = false) (hl : n.ks.length ≤ 100000) (hp : p < n.ks.length) :
    Calls Try.prog 24 #[v, .int .i64 p] w (RetN ⟨false, [], Sl.setK [] (Sl.cutP n.ks p)⟩ w) := by
  have HOW := Lib.hid (fun W (hW : Below w.heap.size w W) => ownK_any v n W (hv.below hW) hlf hl)
  have HHK := Lib.hid (fun W (hW : Below w.heap.size w W) => hasKid_any v n p W (hv.below hW))
  rw [hasK_in n p hlf hp] at HHK
  rw [Sl.cutP_in n.ks p hp]
  obtain ⟨vc, vk, rfl, hc, hcc, hk, hkk⟩ := hv
  rw [hlf] at HOW HHK ⊢
  unfold ndV at HOW HHK ⊢
  obtain ⟨a, m, c, _, _, _⟩ := hcc
  obtain ⟨a', m', c', _, _, _⟩ := hkk
  have HP := Lib.hid hp
  have HLE := Lib.hid hl
  clear hc hk hlf hl hp
  generalize n.ks = l at *
  have HST := Lib.hid (fun x1 x2 => boxes2 w #[.bool false, x1, x2] zn 46 46)
  unfold zn at HST
  go_enter Try.func24, Try.ntmps24
  go_upto_region 2 with (go_at_call 55; (refine (HOW.out _ (HST.out _ _).below).mono ?_); rintro e w5 ⟨v5, rfl, hr5, hb5⟩; have HK5 := Lib.hid ((HST.out (.slice a m c) (.slice a' m' c')).step (Nat.le_refl _) hb5); obtain ⟨a5, n5, c5, ha5, hc5, hn5⟩ := hr5.cap; have HCP := Lib.hid (Cap.mk a5 n5 c5 ha5 hc5 hn5); have HR5 := Lib.hid hr5; clear hr5 hb5; unfold ndV)
  have HLO : Hid (∀ k, (Value.slice a5 n5 c5).ownBlock = some k → k < w5.heap.size) := HR5.out.lo
  have HK6 := Lib.hid (HK5.out.more (Nat.le_refl _) #[.bool false, .slice none 0 0, .slice a5 n5 c5] 46)
  have HR6 := Lib.hid (HR5.out.below (oneB w5 (.cells #[.bool false, .slice none 0 0, .slice a5 n5 c5] 46)))
  have hsz : ((w.alloc (.cells #[.bool false, .slice a m c, .slice a' m' c'] 46)).alloc (.cells #[.bool false, .slice none 0 0, .slice none 0 0] 46)).heap.size = w.heap.size + 1 + 1 := by simp
  rw [hsz] at HR6
  clear HK5 HR5 HOW hsz
  generalize (w5.alloc (.cells #[.bool false, .slice none 0 0, .slice a5 n5 c5] 46)) = W6 at HK6 HR6 ⊢
  generalize w5.heap.size = q at HK6 HLO ⊢
  obtain ⟨⟨k0, k1, k2⟩, _⟩ := HK6.out.left.left.three
  go_upto_region 4 with (go_at_call 62; (refine (HHK.out _ HK6.out.below).mono ?_); rintro e w7 ⟨rfl, hb7⟩; have HK7 := Lib.hid (HK6.out.step (Nat.le_refl _) hb7); have HR7 := Lib.hid (HR6.out.below hb7); clear hb7)
  clear k0 k1 k2 HK6 HR6
  obtain ⟨⟨c0, c1, c2⟩, _⟩ := HK7.out.right.three
  have hpl := HP.out
  have hw1 : IntKind.i64.wrap ((p : Int) + 1) = (p : Int) + 1 := IntWalk.i64_in _ (by have := HLE.out; omega)
  have HSZ : Hid (w.heap.size + 1 + 1 ≤ w7.heap.size) := by
    have := World.block_lt_of_cell? _ _ HK7.out.left.right.three.1.1
    exact this
  have hbl : ∀ x ∈ row1 w.heap.size #[.bool false, .slice a m c, .slice a' m' c'] ++ row1 (w.heap.size + 1) #[.bool false, .slice none 0 0, .slice none 0 0], x.1.block < w.heap.size + 1 + 1 := fun x hx => by
    rcases List.mem_append.1 hx with h | h
    · rw [row1_block h]; omega
    · rw [row1_block h]; omega
  have HBL := Lib.hid hbl
  have HDL := Lib.hid (delK_any (w.heap.size + 1 + 1) p _ l w7 hpl (by have := HLE.out; omega) HR7.out)
  have HBR := Lib.hid (fun u hu W => branch_any u hu W)
  unfold ndV at HBR
  clear hbl hpl
  go_wp2_with (first
    | (go_at_call 63; (refine (HBR.out _ HC9.out _).mono ?_); rintro e w10 ⟨rfl, hb10⟩; have HR10 := Lib.hid (HR9.out.below hb10); have HK10 := Lib.hid (HK9.out.step (Nat.le_refl _) hb10); clear hb10; obtain ⟨⟨z0, z1, z2⟩, f0, f1, f2⟩ := HK10.out.right.three)
    | (go_at_call 66; (refine (keyed_any _ _ [] (w.heap.size + 1 + 1) _ HR8.out HZ8.out).mono ?_); rintro e w9 ⟨rfl, hr9, hb9⟩; have HR9 := Lib.hid hr9; have HK9 := Lib.hid (HK8.out.stepB hb9 HBL.out (by omega)); clear hr9 hb9)
    | (go_at_call 67; (refine HDL.out.mono ?_); rintro e w8 ⟨v8, rfl, hr8, hb8, hk8, hz8, ho8⟩; obtain ⟨a8, n8, c8, ha8, hc8, hn8⟩ := hr8.cap; have HC9 := Lib.hid (Cap.mk a8 n8 c8 ha8 hc8 hn8); have HR8 := Lib.hid hr8; have HZ8 : Hid (w.heap.size + 1 + 1 ≤ w8.heap.size) := Nat.le_trans HSZ.out hz8; have HK8 := Lib.hid (HK7.out.left.stepB hb8 HBL.out (by omega)); clear hr8 hb8 hk8 hz8 ho8))
  have hq : w.heap.size + 1 < w.heap.size + 1 + 1 := by omega
  refine bodyPost_ret_by (v := ndV false (.slice none 0 0) (.slice a8 n8 c8)) ?_ rfl ?_
  · simp [ndV, results, Try.results24, go_sem, z0, z1, z2]
  · exact ⟨_, rfl, ⟨_, _, rfl, SlC.nil _, cap_nil, (((HR10.out.set hq _).set hq _).set hq _).sl, HC9.out⟩, below_set3 HK10.out.below (by omega)⟩
end Go.Proofs.Ytpkoehnjladpoaa
/- The contract of a branch's Cut: nothing is cut. -/
namespace Go.Proofs.Ytpkoehnjladpoaa
open Go.RowKit
open Sl (Cl Kd Nd Rn)
theorem set7_rowK {w1 : World} {B g1 g2 : Nat} {v : Value} {l : List Kd} {x0 x1 x2 x3 x4 x5 x6 : Value} (h : RowK w1 B v l) (h1 : g1 < B) (h2 : g2 < B) : RowK (((((((w1.setCell ⟨g1, 0, none⟩ x0).setCell ⟨g1, 1, none⟩ x1).setCell ⟨g1, 2, none⟩ x2).setCell ⟨g2, 0, none⟩ x3).setCell ⟨g2, 1, none⟩ x4).setCell ⟨g2, 2, none⟩ x5).setCell ⟨g2, 3, none⟩ x6) B v l :=
  ((((((h.set h1 _).set h1 _).set h1 _).set h2 _).set h2 _).set h2 _).set h2 _
inductive CutB (l : List Kd) (w : World) (e : Ending) (w' : World) : Prop
  | mk (vk : Value) (he : e = .returned (.tuple #[ndV false (.slice none 0 0) vk, aggC ⟨[], [], 0, 0⟩, .bool false])) (hv : SlK w' vk l) (hq : Cap vk) (hb : Below w.heap.size w w')
set_option maxHeartbeats 8000000 in
theorem cutK_any (v : Value) (n : Nd) (key : List UInt8) (w : World) (hv : NdV w v n) (hlf : n.leaf = false) (hl : n.ks.length ≤ 90000) :
    Calls Try.prog 17 #[v, .string (str key)] w (CutB n.ks w) := by
  have HOW := Lib.hid (fun W (hW : Below w.heap.size w W) => ownK_any v n W (hv.below hW) hlf (by omega))
  have HLV := Lib.hid (fun W => leaves_any W)
  have HFD := Lib.hid (fun W => findC_any (.slice none 0 0) [] (by decide) key W (SlC.nil W) rfl)
  rw [show Sl.place Sl.shC [] key = 0 from rfl, show Sl.there Sl.shC [] key = false from rfl] at HFD
  obtain ⟨vc, vk, rfl, hc, hcc, hk, hkk⟩ := hv
  rw [hlf] at HOW ⊢
  unfold ndV at HOW ⊢
  unfold shpC at HLV HFD
  obtain ⟨a, m, c, _, _, _⟩ := hcc
  obtain ⟨a', m', c', _, _, _⟩ := hkk
  clear hc hk hlf hl
  have HPOST : Hid (∀ vk e w', e = .returned (.tuple #[.agg #[.bool false, .slice none 0 0, vk], .agg #[.string ⟨#[]⟩, .string ⟨#[]⟩, .int .u32 0, .int .u32 0], .bool false]) → SlK w' vk n.ks → Cap vk → Below w.heap.size w w' → CutB n.ks w e w') := fun vk e w' h1 h3 h4 h5 => ⟨vk, h1, h3, h4, h5⟩
  generalize CutB n.ks w = PO at HPOST ⊢
  generalize n.ks = l at *
  have HST : Hid (∀ x1 x2, Kp w.heap.size w (row1 (w.heap.size + 1) zn ++ row1 (w.heap.size + 1 + 1) zcl) (((w.alloc (.cells #[.bool false, x1, x2] 46)).alloc (.cells #[.bool false, .slice none 0 0, .slice none 0 0] 46)).alloc (.cells #[.string ⟨#[]⟩, .string ⟨#[]⟩, .int .u32 0, .int .u32 0] 42)) ∧ (((w.alloc (.cells #[.bool false, x1, x2] 46)).alloc (.cells #[.bool false, .slice none 0 0, .slice none 0 0] 46)).alloc (.cells #[.string ⟨#[]⟩, .string ⟨#[]⟩, .int .u32 0, .int .u32 0] 42)).heap.size = w.heap.size + 1 + 1 + 1) := fun x1 x2 => by
    have hS : ((w.alloc (.cells #[.bool false, x1, x2] 46)).alloc (.cells #[.bool false, .slice none 0 0, .slice none 0 0] 46)).heap.size = w.heap.size + 1 + 1 := by simp
    have h0 : Kp w.heap.size w (row1 (w.heap.size + 1) zn) ((w.alloc (.cells #[.bool false, x1, x2] 46)).alloc (.cells #[.bool false, .slice none 0 0, .slice none 0 0] 46)) := ⟨(startK w _ _ _ _).cell, (startK w _ _ _ _).froz, boxB w _ _⟩
    have h1 := h0.step (Nat.le_refl _) ((Below.refl _ _).alloc (Nat.le_refl _) (.cells #[.string ⟨#[]⟩, .string ⟨#[]⟩, .int .u32 0, .int .u32 0] 42))
    have h2 := Kp.laid h0.below h0.below.size #[.string ⟨#[]⟩, .string ⟨#[]⟩, .int .u32 0, .int .u32 0] 42
    rw [hS] at h2
    exact ⟨h1.both h2, by simp⟩
  go_enter Try.func17, Try.ntmps17
  go_upto_region 2 with (go_at_call 55; (refine (HOW.out _ (HST.out _ _).1.below).mono ?_); rintro e w5 ⟨v5, rfl, hr5, hb5⟩; have HK5 := Lib.hid ((HST.out _ _).1.step (Nat.le_refl _) hb5); have HS3 := Lib.hid (HST.out (.slice a m c) (.slice a' m' c')).2; obtain ⟨a5, n5, c5, ha5, hc5, hn5⟩ := hr5.cap; have HCP := Lib.hid (Cap.mk a5 n5 c5 ha5 hc5 hn5); have HR5 := Lib.hid (hr5.base (Nat.le_of_eq (HST.out (.slice a m c) (.slice a' m' c')).2.symm)); clear hr5 hb5; unfold ndV)
  have HK6 := Lib.hid (HK5.out.more (Nat.le_refl _) #[.bool false, .slice none 0 0, .slice a5 n5 c5] 46)
  have HR6 := Lib.hid (HR5.out.below ((Below.refl w5.heap.size w5).alloc (Nat.le_refl _) (.cells #[.bool false, .slice none 0 0, .slice a5 n5 c5] 46)))
  clear HK5 HR5 HOW HST
  generalize (w5.alloc (.cells #[.bool false, .slice none 0 0, .slice a5 n5 c5] 46)) = W6 at HK6 HR6 ⊢
  generalize w5.heap.size = q at HK6 ⊢
  have hF : Hid (W6.drew.cell? ⟨q, 0, none⟩ = some (.bool false) ∧ W6.drew.cell? ⟨q, 1, none⟩ = some (.slice none 0 0) ∧ W6.drew.cell? ⟨q, 2, none⟩ = some (.slice a5 n5 c5) ∧ Below W6.heap.size W6 W6.drew) := by
    obtain ⟨⟨c0, c1, c2⟩, _⟩ := HK6.out.right.three
    exact ⟨c0, c1, c2, (Below.refl _ _).drew⟩
  go_wp2_with fail
  go_region_held3 (fun w' => w'.cell? ⟨q, 0, none⟩ = some (.bool false) ∧ w'.cell? ⟨q, 1, none⟩ = some (.slice none 0 0) ∧ w'.cell? ⟨q, 2, none⟩ = some (.slice a5 n5 c5) ∧ Below W6.heap.size W6 w')
    ((first | assumption | exact step3b (Nat.le_refl _) ‹_› hb | exact hF.out))
    (first
    | (go_at_call 56; (with_reducible refine (HLV.out _).mono ?_); rintro e w7 ⟨rfl, hb⟩)
    | (go_at_call 57; (refine (HFD.out _).mono ?_); rintro e w8 ⟨rfl, hb⟩))
  rename_i hS
  have HS := Lib.hid hS
  clear hS hF
  have HK8 := Lib.hid (HK6.out.step (Nat.le_refl _) (last3b HS.out))
  have HR8 := Lib.hid (HR6.out.below (last3b HS.out))
  obtain ⟨⟨c0, c1, c2⟩, _⟩ := HK8.out.right.three
  obtain ⟨⟨z0, z1, z2⟩, f0, f1, f2⟩ := HK8.out.left.left.zn
  obtain ⟨⟨y0, y1, y2, y3⟩, g0, g1, g2, g3⟩ := HK8.out.left.right.four
  go_wp2
  refine bodyPost_ret_by (v := .tuple #[.agg #[.bool false, .slice none 0 0, .slice a5 n5 c5], .agg #[.string ⟨#[]⟩, .string ⟨#[]⟩, .int .u32 0, .int .u32 0], .bool false]) ?_ rfl ?_
  · simp [results, Try.results17, go_sem, z0, z1, z2, y0, y1, y2, y3]
  · exact HPOST.out (.slice a5 n5 c5) _ _ rfl (set7_rowK HR8.out (by omega) (by omega)).sl HCP.out (set7_below HK8.out.below (by omega) (by omega))
end Go.Proofs.Ytpkoehnjladpoaa
/- Turn and Remove where there is no such kid. -/
namespace Go.Proofs.Ytpkoehnjladpoaa
open Go.RowKit
open Sl (Cl Kd Nd Rn)
/-- Own, then hasKid that says no: the node as it was. -/
theorem turnC_no (v : Value) (n : Nd) (p g : Int) (w : World) (hv : NdV w v n) (hlf : n.leaf = true) (hl : n.cs.length ≤ 100000) (hk0 : Sl.hasK n p = false) :
    Calls Try.prog 22 #[v, .int .i64 p, .int .u32 g] w (RetN ⟨true, n.cs, []⟩ w) := by
  have HOW := Lib.hid (fun W (hW : Below w.heap.size w W) => ownC_any v n W (hv.below hW) hlf hl)
  have HHK := Lib.hid (fun W (hW : Below w.heap.size w W) => hasKid_any v n p W (hv.below hW))
  rw [hk0] at HHK
  obtain ⟨vc, vk, rfl, hc, hcc, hk, hkk⟩ := hv
  rw [hlf] at HOW HHK ⊢
  unfold ndV at HOW HHK ⊢
  obtain ⟨a, m, c, _, _, _⟩ := hcc
  obtain ⟨a', m', c', _, _, _⟩ := hkk
  clear hc hk hlf hl hk0
  generalize n.cs = l at *
  have HST := Lib.hid (fun x1 x2 => boxes2 w #[.bool true, x1, x2] zn 46 46)
  unfold zn at HST
  go_enter Try.func22, Try.ntmps22
  go_upto_region 2 with (go_at_call 55; (refine (HOW.out _ (HST.out _ _).below).mono ?_); rintro e w5 ⟨v5, rfl, hr5, hb5⟩; have HK5 := Lib.hid ((HST.out (.slice a m c) (.slice a' m' c')).step (Nat.le_refl _) hb5); obtain ⟨a5, n5, c5, ha5, hc5, hn5⟩ := hr5.cap; have HCP := Lib.hid (Cap.mk a5 n5 c5 ha5 hc5 hn5); have HR5 := Lib.hid hr5; clear hr5 hb5; unfold ndV)
  have HK6 := Lib.hid (HK5.out.more (Nat.le_refl _) #[.bool true, .slice a5 n5 c5, .slice none 0 0] 46)
  have HR6 := Lib.hid (HR5.out.below (oneB w5 (.cells #[.bool true, .slice a5 n5 c5, .slice none 0 0] 46)))
  clear HK5 HR5 HOW
  generalize (w5.alloc (.cells #[.bool true, .slice a5 n5 c5, .slice none 0 0] 46)) = W6 at HK6 HR6 ⊢
  generalize w5.heap.size = q at HK6 ⊢
  obtain ⟨⟨k0, k1, k2⟩, _⟩ := HK6.out.left.left.three
  go_wp2_with (go_at_call 62; (refine (HHK.out _ HK6.out.below).mono ?_); rintro e w7 ⟨rfl, hb7⟩; have HK7 := Lib.hid (HK6.out.step (Nat.le_refl _) hb7); have HR7 := Lib.hid (HR6.out.below hb7); clear hb7 k0 k1 k2; obtain ⟨⟨c0, c1, c2⟩, _⟩ := HK7.out.right.three; obtain ⟨⟨z0, z1, z2⟩, f0, f1, f2⟩ := HK7.out.left.right.three)
  have hq : w.heap.size + 1 < ((w.alloc (.cells #[.bool true, .slice a m c, .slice a' m' c'] 46)).alloc (.cells #[.bool false, .slice none 0 0, .slice none 0 0] 46)).heap.size := by simp
  refine bodyPost_ret_by (v := ndV true (.slice a5 n5 c5) (.slice none 0 0)) ?_ rfl ?_
  · simp [ndV, results, Try.results22, go_sem, z0, z1, z2]
  · exact ⟨_, rfl, ⟨_, _, rfl, (((HR7.out.set hq _).set hq _).set hq _).sl, HCP.out, SlK.nil _, cap_nil⟩, below_set3 HK7.out.below (by omega)⟩
theorem remC_no (v : Value) (n : Nd) (p : Int) (w : World) (hv : NdV w v n) (hlf : n.leaf = true) (hl : n.cs.length ≤ 100000) (hk0 : Sl.hasK n p = false) :
    Calls Try.prog 24 #[v, .int .i64 p] w (RetN ⟨true, n.cs, []⟩ w) := by
  have HOW := Lib.hid (fun W (hW : Below w.heap.size w W) => ownC_any v n W (hv.below hW) hlf hl)
  have HHK := Lib.hid (fun W (hW : Below w.heap.size w W) => hasKid_any v n p W (hv.below hW))
  rw [hk0] at HHK
  obtain ⟨vc, vk, rfl, hc, hcc, hk, hkk⟩ := hv
  rw [hlf] at HOW HHK ⊢
  unfold ndV at HOW HHK ⊢
  obtain ⟨a, m, c, _, _, _⟩ := hcc
  obtain ⟨a', m', c', _, _, _⟩ := hkk
  clear hc hk hlf hl hk0
  generalize n.cs = l at *
  have HST := Lib.hid (fun x1 x2 => boxes2 w #[.bool true, x1, x2] zn 46 46)
  unfold zn at HST
  go_enter Try.func24, Try.ntmps24
  go_upto_region 2 with (go_at_call 55; (refine (HOW.out _ (HST.out _ _).below).mono ?_); rintro e w5 ⟨v5, rfl, hr5, hb5⟩; have HK5 := Lib.hid ((HST.out (.slice a m c) (.slice a' m' c')).step (Nat.le_refl _) hb5); obtain ⟨a5, n5, c5, ha5, hc5, hn5⟩ := hr5.cap; have HCP := Lib.hid (Cap.mk a5 n5 c5 ha5 hc5 hn5); have HR5 := Lib.hid hr5; clear hr5 hb5; unfold ndV)
  have HK6 := Lib.hid (HK5.out.more (Nat.le_refl _) #[.bool true, .slice a5 n5 c5, .slice none 0 0] 46)
  have HR6 := Lib.hid (HR5.out.below (oneB w5 (.cells #[.bool true, .slice a5 n5 c5, .slice none 0 0] 46)))
  clear HK5 HR5 HOW
  generalize (w5.alloc (.cells #[.bool true, .slice a5 n5 c5, .slice none 0 0] 46)) = W6 at HK6 HR6 ⊢
  generalize w5.heap.size = q at HK6 ⊢
  obtain ⟨⟨k0, k1, k2⟩, _⟩ := HK6.out.left.left.three
  go_wp2_with (go_at_call 62; (refine (HHK.out _ HK6.out.below).mono ?_); rintro e w7 ⟨rfl, hb7⟩; have HK7 := Lib.hid (HK6.out.step (Nat.le_refl _) hb7); have HR7 := Lib.hid (HR6.out.below hb7); clear hb7 k0 k1 k2; obtain ⟨⟨c0, c1, c2⟩, _⟩ := HK7.out.right.three; obtain ⟨⟨z0, z1, z2⟩, f0, f1, f2⟩ := HK7.out.left.right.three)
  have hq : w.heap.size + 1 < ((w.alloc (.cells #[.bool true, .slice a m c, .slice a' m' c'] 46)).alloc (.cells #[.bool false, .slice none 0 0, .slice none 0 0] 46)).heap.size := by simp
  refine bodyPost_ret_by (v := ndV true (.slice a5 n5 c5) (.slice none 0 0)) ?_ rfl ?_
  · simp [ndV, results, Try.results24, go_sem, z0, z1, z2]
  · exact ⟨_, rfl, ⟨_, _, rfl, (((HR7.out.set hq _).set hq _).set hq _).sl, HCP.out, SlK.nil _, cap_nil⟩, below_set3 HK7.out.below (by omega)⟩
end Go.Proofs.Ytpkoehnjladpoaa
/- Turn and Remove where there is no such kid. -/
namespace Go.Proofs.Ytpkoehnjladpoaa
open Go.RowKit
open Sl (Cl Kd Nd Rn)
/-- Own, then hasKid that says no: the node as it was. -/
theorem turnK_no (v : Value) (n : Nd) (p g : Int) (w : World) (hv : NdV w v n) (hlf : n.leaf = false) (hl : n.ks.length ≤ 100000) (hk0 : Sl.hasK n p = false) :
    Calls Try.prog 22 #[v, .int .i64 p, .int .u32 g] w (RetN ⟨false, [], n.ks⟩ w) := by
  have HOW := Lib.hid (fun W (hW : Below w.heap.size w W) => ownK_any v n W (hv.below hW) hlf hl)
  have HHK := Lib.hid (fun W (hW : Below w.heap.size w W) => hasKid_any v n p W (hv.below hW))
  rw [hk0] at HHK
  obtain ⟨vc, vk, rfl, hc, hcc, hk, hkk⟩ := hv
  rw [hlf] at HOW HHK ⊢
  unfold ndV at HOW HHK ⊢
  obtain ⟨a, m, c, _, _, _⟩ := hcc
  obtain ⟨a', m', c', _, _, _⟩ := hkk
  clear hc hk hlf hl hk0
  generalize n.ks = l at *
  have HST := Lib.hid (fun x1 x2 => boxes2 w #[.bool false, x1, x2] zn 46 46)
  unfold zn at HST
  go_enter Try.func22, Try.ntmps22
  go_upto_region 2 with (go_at_call 55; (refine (HOW.out _ (HST.out _ _).below).mono ?_); rintro e w5 ⟨v5, rfl, hr5, hb5⟩; have HK5 := Lib.hid ((HST.out (.slice a m c) (.slice a' m' c')).step (Nat.le_refl _) hb5); obtain ⟨a5, n5, c5, ha5, hc5, hn5⟩ := hr5.cap; have HCP := Lib.hid (Cap.mk a5 n5 c5 ha5 hc5 hn5); have HR5 := Lib.hid hr5; clear hr5 hb5; unfold ndV)
  have HK6 := Lib.hid (HK5.out.more (Nat.le_refl _) #[.bool false, .slice none 0 0, .slice a5 n5 c5] 46)
  have HR6 := Lib.hid (HR5.out.below (oneB w5 (.cells #[.bool false, .slice none 0 0, .slice a5 n5 c5] 46)))
  clear HK5 HR5 HOW
  generalize (w5.alloc (.cells #[.bool false, .slice none 0 0, .slice a5 n5 c5] 46)) = W6 at HK6 HR6 ⊢
  generalize w5.heap.size = q at HK6 ⊢
  obtain ⟨⟨k0, k1, k2⟩, _⟩ := HK6.out.left.left.three
  go_wp2_with (go_at_call 62; (refine (HHK.out _ HK6.out.below).mono ?_); rintro e w7 ⟨rfl, hb7⟩; have HK7 := Lib.hid (HK6.out.step (Nat.le_refl _) hb7); have HR7 := Lib.hid (HR6.out.below hb7); clear hb7 k0 k1 k2; obtain ⟨⟨c0, c1, c2⟩, _⟩ := HK7.out.right.three; obtain ⟨⟨z0, z1, z2⟩, f0, f1, f2⟩ := HK7.out.left.right.three)
  have hq : w.heap.size + 1 < ((w.alloc (.cells #[.bool false, .slice a m c, .slice a' m' c'] 46)).alloc (.cells #[.bool false, .slice none 0 0, .slice none 0 0] 46)).heap.size := by simp
  refine bodyPost_ret_by (v := ndV false (.slice none 0 0) (.slice a5 n5 c5)) ?_ rfl ?_
  · simp [ndV, results, Try.results22, go_sem, z0, z1, z2]
  · exact ⟨_, rfl, ⟨_, _, rfl, SlC.nil _, cap_nil, (((HR7.out.set hq _).set hq _).set hq _).sl, HCP.out⟩, below_set3 HK7.out.below (by omega)⟩
theorem remK_no (v : Value) (n : Nd) (p : Int) (w : World) (hv : NdV w v n) (hlf : n.leaf = false) (hl : n.ks.length ≤ 100000) (hk0 : Sl.hasK n p = false) :
    Calls Try.prog 24 #[v, .int .i64 p] w (RetN ⟨false, [], n.ks⟩ w) := by
  have HOW := Lib.hid (fun W (hW : Below w.heap.size w W) => ownK_any v n W (hv.below hW) hlf hl)
  have HHK := Lib.hid (fun W (hW : Below w.heap.size w W) => hasKid_any v n p W (hv.below hW))
  rw [hk0] at HHK
  obtain ⟨vc, vk, rfl, hc, hcc, hk, hkk⟩ := hv
  rw [hlf] at HOW HHK ⊢
  unfold ndV at HOW HHK ⊢
  obtain ⟨a, m, c, _, _, _⟩ := hcc
  obtain ⟨a', m', c', _, _, _⟩ := hkk
  clear hc hk hlf hl hk0
  generalize n.ks = l at *
  have HST := Lib.hid (fun x1 x2 => boxes2 w #[.bool false, x1, x2] zn 46 46)
  unfold zn at HST
  go_enter Try.func24, Try.ntmps24
  go_upto_region 2 with (go_at_call 55; (refine (HOW.out _ (HST.out _ _).below).mono ?_); rintro e w5 ⟨v5, rfl, hr5, hb5⟩; have HK5 := Lib.hid ((HST.out (.slice a m c) (.slice a' m' c')).step (Nat.le_refl _) hb5); obtain ⟨a5, n5, c5, ha5, hc5, hn5⟩ := hr5.cap; have HCP := Lib.hid (Cap.mk a5 n5 c5 ha5 hc5 hn5); have HR5 := Lib.hid hr5; clear hr5 hb5; unfold ndV)
  have HK6 := Lib.hid (HK5.out.more (Nat.le_refl _) #[.bool false, .slice none 0 0, .slice a5 n5 c5] 46)
  have HR6 := Lib.hid (HR5.out.below (oneB w5 (.cells #[.bool false, .slice none 0 0, .slice a5 n5 c5] 46)))
  clear HK5 HR5 HOW
  generalize (w5.alloc (.cells #[.bool false, .slice none 0 0, .slice a5 n5 c5] 46)) = W6 at HK6 HR6 ⊢
  generalize w5.heap.size = q at HK6 ⊢
  obtain ⟨⟨k0, k1, k2⟩, _⟩ := HK6.out.left.left.three
  go_wp2_with (go_at_call 62; (refine (HHK.out _ HK6.out.below).mono ?_); rintro e w7 ⟨rfl, hb7⟩; have HK7 := Lib.hid (HK6.out.step (Nat.le_refl _) hb7); have HR7 := Lib.hid (HR6.out.below hb7); clear hb7 k0 k1 k2; obtain ⟨⟨c0, c1, c2⟩, _⟩ := HK7.out.right.three; obtain ⟨⟨z0, z1, z2⟩, f0, f1, f2⟩ := HK7.out.left.right.three)
  have hq : w.heap.size + 1 < ((w.alloc (.cells #[.bool false, .slice a m c, .slice a' m' c'] 46)).alloc (.cells #[.bool false, .slice none 0 0, .slice none 0 0] 46)).heap.size := by simp
  refine bodyPost_ret_by (v := ndV false (.slice none 0 0) (.slice a5 n5 c5)) ?_ rfl ?_
  · simp [ndV, results, Try.results24, go_sem, z0, z1, z2]
  · exact ⟨_, rfl, ⟨_, _, rfl, SlC.nil _, cap_nil, (((HR7.out.set hq _).set hq _).set hq _).sl, HCP.out⟩, below_set3 HK7.out.below (by omega)⟩
end Go.Proofs.Ytpkoehnjladpoaa
