/- What the law SlotsBack goes by: a cell as it is read, a row that is laid and read, and what is read laid again. -/
import Derived.Test.YtppoikhonlgcnaaReadC
namespace Go.Proofs.Ytppoikhonlgcnaa
open Go.RowKit
open Sl (Cl Kd)
/-- A cell as it is read. -/
def normC (x : Cl) : Cl := if x.chain = 0 then ⟨x.key, x.val, 0, 0⟩ else x
theorem norm_zero (x : Cl) (h : x.chain = 0) : normC x = ⟨x.key, x.val, 0, 0⟩ := by unfold normC; rw [if_pos h]
theorem norm_more (x : Cl) (h : x.chain ≠ 0) : normC x = x := by unfold normC; rw [if_neg h]
theorem norm_enc (x : Cl) : Sl.encC (normC x) = Sl.encC x := by
  by_cases h : x.chain = 0
  · rw [norm_zero x h]; unfold Sl.encC; rw [if_neg (by simp), if_neg (by simp [h])]
  · rw [norm_more x h]
theorem norm_key (x : Cl) : (normC x).key = x.key := by
  by_cases h : x.chain = 0
  · rw [norm_zero x h]
  · rw [norm_more x h]
theorem norm_flat : ∀ l : List Cl, (l.map normC).flatMap Sl.shC.enc = l.flatMap Sl.shC.enc
  | [] => rfl
  | x :: l => by rw [List.map_cons, List.flatMap_cons, List.flatMap_cons, norm_flat l]; exact congrArg (· ++ _) (norm_enc x)
theorem norm_begins : ∀ (l : List Cl) (n : Nat), Sl.begins Sl.shC n (l.map normC) = Sl.begins Sl.shC n l
  | [], _ => rfl
  | x :: l, n => by
    rw [List.map_cons, Sl.begins, Sl.begins, norm_begins l]
    rw [show (Sl.shC.enc (normC x)) = Sl.shC.enc x from norm_enc x]
theorem norm_body (l : List Cl) : Sl.body Sl.shC (l.map normC) = Sl.body Sl.shC l := by unfold Sl.body; rw [norm_flat, List.length_map, norm_begins]
theorem norm_fits (x : Cl) : Sl.fitsC (normC x) = Sl.fitsC x := by
  by_cases h : x.chain = 0
  · rw [norm_zero x h]; unfold Sl.fitsC; simp [h]
  · rw [norm_more x h]
theorem norm_long (x : Cl) : Sl.long Sl.shC (normC x) = Sl.long Sl.shC x := by
  unfold Sl.long
  rw [show Sl.shC.key (normC x) = Sl.shC.key x from norm_key x, show Sl.shC.fits (normC x) = Sl.shC.fits x from norm_fits x]
theorem norm_rises : ∀ l : List Cl, Sl.rises Sl.shC (l.map normC) = Sl.rises Sl.shC l
  | [] => rfl
  | [_] => rfl
  | x :: y :: l => by
    rw [List.map_cons, List.map_cons, Sl.rises, Sl.rises, ← List.map_cons, norm_rises (y :: l)]
    rw [show Sl.shC.key (normC x) = Sl.shC.key x from norm_key x, show Sl.shC.key (normC y) = Sl.shC.key y from norm_key y]
theorem norm_right (l : List Cl) : Sl.right Sl.shC (l.map normC) = Sl.right Sl.shC l := by
  unfold Sl.right
  rw [norm_rises, List.any_map]
  rw [show (Sl.long Sl.shC ∘ normC) = Sl.long Sl.shC from funext fun x => norm_long x]
theorem right_fits {l : List Cl} (h : Sl.right Sl.shC l = 0) : ∀ x ∈ l, x.key.length ≤ 255 ∧ Sl.fitsC x = true := by
  intro x hx
  have hl : Sl.long Sl.shC x = false := by
    cases hb : Sl.long Sl.shC x
    · rfl
    · obtain ⟨k, hk⟩ := List.getElem?_of_mem hx
      rw [Sl.right_long Sl.shC l k x hk hb] at h; cases h
  unfold Sl.long at hl
  rw [Bool.or_eq_false_iff] at hl
  obtain ⟨h1, h2⟩ := hl
  refine ⟨?_, ?_⟩
  · have := of_decide_eq_false h1
    exact Nat.le_of_not_lt this
  · have h3 : (!Sl.fitsC x) = false := h2
    cases hf : Sl.fitsC x
    · rw [hf] at h3; cases h3
    · rfl
theorem norm_can {x : Cl} (ho : okC x) (hk : x.key.length ≤ 255) (hf : Sl.fitsC x = true) : canC (normC x) := by
  unfold Sl.fitsC at hf
  have hf := of_decide_eq_true hf
  by_cases h : x.chain = 0
  · rw [if_neg (by simp [h])] at hf
    rw [norm_zero x h]
    exact ⟨hk, show 0 < 4294967296 by decide, show 0 < 4294967296 by decide, fun h => absurd rfl h, fun _ => ⟨rfl, show x.val.length < 65536 by omega⟩⟩
  · rw [if_pos h] at hf
    rw [norm_more x h]
    exact ⟨hk, ho.1, ho.2, fun _ => List.length_eq_zero_iff.1 (by omega), fun h2 => absurd h2 h⟩
/-- A row that is laid is that of the cells as they are read. -/
theorem laid_canon {l : List Cl} (ho : ∀ x ∈ l, okC x) (h : Sl.right Sl.shC l = 0) : Canon true (Sl.body Sl.shC l) l.length (l.map normC) := by
  refine ⟨List.length_map .., ?_, (norm_body l).symm⟩
  intro y hy
  obtain ⟨x, hx, rfl⟩ := List.mem_map.1 hy
  have := right_fits h x hx
  exact norm_can (ho x hx) this.1 this.2
/-- What is laid is read as it was. -/
theorem read_laid (l : List Cl) (ho : ∀ x ∈ l, okC x) (h : Sl.right Sl.shC l = 0) (hs : ¬ 4072 < Sl.sum Sl.shC l) (w : World) :
    Calls Try.prog 19 #[shpC, .string (str (Sl.body Sl.shC l)), .int .i64 l.length] w fun e w' => ∃ v, e = .returned (.tuple #[v, .int .i64 0]) ∧ SlC w' v (l.map normC) ∧ Below w.heap.size w w' := by
  have hz : (Sl.body Sl.shC l).length = Sl.sum Sl.shC l := Sl.body_len Sl.shC l
  have hc := laid_canon ho h
  have hr := norm_right l
  refine (readC_any _ (by omega) _ w).mono ?_
  rintro e w' (⟨hb, _, _⟩ | ⟨m, _, hm, hr2, _, _⟩ | ⟨m, _, hm, _, v, he, hv, hb⟩)
  · exact absurd hc (hb _ (Int.natCast_nonneg _))
  · have := Canon.unique hm hc
    rw [this, hr, h] at hr2; exact absurd rfl hr2
  · have := Canon.unique hm hc
    rw [this] at hv
    exact ⟨v, he, hv, hb⟩
inductive BackOut (s : List UInt8) (w : World) (e : Ending) (w' : World) : Prop
  | none (r : Int) (hr : r ≠ 0) (he : e = .returned (.tuple #[.slice none 0 0, .int .i64 r])) (hb : Below w.heap.size w w')
  | big (m : List Cl) (v : Value) (he : e = .returned (.tuple #[v, .int .i64 0])) (hv : SlC w' v m) (ho : ∀ x ∈ m, okC x) (hl : m.length ≤ 100000) (hm : Sl.bodyR Sl.shC m = ([], 14)) (hz : 4072 < s.length) (hb : Below w.heap.size w w')
  | some (m : List Cl) (v : Value) (he : e = .returned (.tuple #[v, .int .i64 0])) (hv : SlC w' v m) (ho : ∀ x ∈ m, okC x) (hl : m.length ≤ 100000) (hm : Sl.bodyR Sl.shC m = (s, 0)) (hb : Below w.heap.size w w')
/-- What is read would be laid so. -/
theorem read_back (s : List UInt8) (hs : s.length ≤ 5000) (n : Int) (w : World) :
    Calls Try.prog 19 #[shpC, .string (str s), .int .i64 n] w (BackOut s w) := by
  refine (readC_any s (by omega) n w).mono ?_
  rintro e w' (⟨_, he, hb⟩ | ⟨m, _, hm, hr2, he, hb⟩ | ⟨m, _, hm, hr, v, he, hv, hb⟩)
  · exact .none 4 (by decide) he hb
  · exact .none _ hr2 he hb
  · have hok : ∀ x ∈ m, okC x := fun x hx => by
      have : canC x := hm.2.1 x hx
      exact ⟨this.2.1, this.2.2.1⟩
    have hlen : m.length ≤ 100000 := by have := hm.size; have := hm.1; omega
    have hs' : s = Sl.body Sl.shC m := hm.2.2
    have hz : (Sl.body Sl.shC m).length = Sl.sum Sl.shC m := Sl.body_len Sl.shC m
    by_cases hf : 4072 < s.length
    · exact .big m v he hv hok hlen (Sl.bodyR_full Sl.shC m hr (by rw [← hz, ← hs']; exact hf)) hf hb
    · refine .some m v he hv hok hlen ?_ hb
      rw [Sl.bodyR_ok Sl.shC m hr (by rw [← hz, ← hs']; exact hf), ← hs']
theorem bodyR_zero {l : List Cl} (h : (Sl.bodyR Sl.shC l).2 = 0) : Sl.right Sl.shC l = 0 ∧ ¬ 4072 < Sl.sum Sl.shC l := by
  by_cases hr : Sl.right Sl.shC l = 0
  · by_cases hs : 4072 < Sl.sum Sl.shC l
    · rw [Sl.bodyR_full Sl.shC l hr hs] at h; cases h
    · exact ⟨hr, hs⟩
  · rw [Sl.bodyR_bad Sl.shC l hr] at h; exact absurd h hr
end Go.Proofs.Ytppoikhonlgcnaa
