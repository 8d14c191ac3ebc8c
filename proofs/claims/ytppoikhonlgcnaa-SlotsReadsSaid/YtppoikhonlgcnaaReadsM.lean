/- What the program's Read and the document's own answer at one body: the same row, and the same number. -/
import Derived.Test.YtppoikhonlgcnaaReadK
import Derived.Test.YtppoikhonlgcnaaRefReadT
import Derived.Test.YtppoikhonlgcnaaSame
import Derived.Test.YtppoikhonlgcnaaFndK
import Derived.Test.YtppoikhonlgcnaaSMath3
namespace Go.Proofs.Ytppoikhonlgcnaa
open Go.RowKit
open Sl (Cl Kd)
inductive ResC (l : List Cl) (r : Int) (w : World) (e : Ending) (w' : World) : Prop
  | mk (v : Value) (he : e = .returned (.tuple #[v, .int .i64 r])) (hv : SlC w' v l) (hb : Below w.heap.size w w')
inductive ResK (l : List Kd) (r : Int) (w : World) (e : Ending) (w' : World) : Prop
  | mk (v : Value) (he : e = .returned (.tuple #[v, .int .i64 r])) (hv : SlK w' v l) (hb : Below w.heap.size w w')
theorem right_rises {α : Type} (S : Sl.Sh α) (l : List α) (h : Sl.right S l = 0) : Sl.rises S l = true := by
  unfold Sl.right at h
  split at h
  · cases h
  · split at h
    · assumption
    · cases h
structure BothC (s : List UInt8) (n : Int) (l : List Cl) (r : Int) : Prop where
  len : l.length ≤ 5000
  up : Sl.rises Sl.shC l = true
  prog : ∀ W, Calls Try.prog 19 #[shpC, .string (str s), .int .i64 n] W (ResC l r W)
  doc : ∀ W, Calls Try.prog 20 #[.string (str s), .int .i64 n, .bool true] W (ResC l r W)
structure BothK (s : List UInt8) (n : Int) (l : List Kd) (r : Int) : Prop where
  len : l.length ≤ 5000
  up : Sl.rises Sl.shK l = true
  prog : ∀ W, Calls Try.prog 21 #[shpK, .string (str s), .int .i64 n] W (ResK l r W)
  doc : ∀ W, Calls Try.prog 20 #[.string (str s), .int .i64 n, .bool false] W (ResC (l.map toC) r W)
theorem both_leaf (s : List UInt8) (hs : s.length ≤ 5000) (n : Int) : ∃ l r, BothC s n l r := by
  by_cases h : ∃ m, 0 ≤ n ∧ Canon true s n.toNat m
  · obtain ⟨m, h0, hm⟩ := h
    have hz := hm.size
    have hl := hm.1
    by_cases hr : Sl.right Sl.shC m = 0
    · refine ⟨m, 0, ⟨by omega, right_rises _ _ hr, fun W => (readC_any s (by omega) n W).mono ?_, fun W => (refRead_true s hs n W).mono ?_⟩⟩
      · rintro e w' (⟨hb, _, _⟩ | ⟨l, _, hm2, hr2, _, _⟩ | ⟨l, _, hm2, _, v, he, hv, hb⟩)
        · exact absurd hm (hb m h0)
        · rw [Canon.unique hm2 hm] at hr2; exact absurd hr hr2
        · rw [Canon.unique hm2 hm] at hv; exact ⟨v, he, hv, hb⟩
      · rintro e w' (⟨hb, _, _⟩ | ⟨l, _, hm2, hr2, _, _⟩ | ⟨l, _, hm2, _, v, he, hv, hb⟩)
        · exact absurd hm (hb m h0)
        · rw [Canon.unique hm2 hm] at hr2; exact absurd hr hr2
        · rw [Canon.unique hm2 hm] at hv; exact ⟨v, he, hv, hb⟩
    · refine ⟨[], Sl.right Sl.shC m, ⟨Nat.zero_le _, rfl, fun W => (readC_any s (by omega) n W).mono ?_, fun W => (refRead_true s hs n W).mono ?_⟩⟩
      · rintro e w' (⟨hb, _, _⟩ | ⟨l, _, hm2, hr2, he, hb⟩ | ⟨l, _, hm2, hr2, v, he, hv, hb⟩)
        · exact absurd hm (hb m h0)
        · rw [Canon.unique hm2 hm] at he; exact ⟨_, he, SlC.nil _, hb⟩
        · rw [Canon.unique hm2 hm] at hr2; exact absurd hr2 hr
      · rintro e w' (⟨hb, _, _⟩ | ⟨l, _, hm2, hr2, he, hb⟩ | ⟨l, _, hm2, hr2, v, he, hv, hb⟩)
        · exact absurd hm (hb m h0)
        · rw [Canon.unique hm2 hm] at he; exact ⟨_, he, SlC.nil _, hb⟩
        · rw [Canon.unique hm2 hm] at hr2; exact absurd hr2 hr
  · have hn : ∀ m, 0 ≤ n → ¬ Canon true s n.toNat m := fun m h0 hm => h ⟨m, h0, hm⟩
    refine ⟨[], 4, ⟨Nat.zero_le _, rfl, fun W => (readC_any s (by omega) n W).mono ?_, fun W => (refRead_true s hs n W).mono ?_⟩⟩
    · rintro e w' (⟨_, he, hb⟩ | ⟨l, h0, hm2, _, _, _⟩ | ⟨l, h0, hm2, _, _, _, _, _⟩)
      · exact ⟨_, he, SlC.nil _, hb⟩
      all_goals exact absurd hm2 (hn _ h0)
    · rintro e w' (⟨_, he, hb⟩ | ⟨l, h0, hm2, _, _, _⟩ | ⟨l, h0, hm2, _, _, _, _, _⟩)
      · exact ⟨_, he, SlC.nil _, hb⟩
      all_goals exact absurd hm2 (hn _ h0)
theorem kid_of (m : List Cl) (h : ∀ x ∈ m, canR false x) : (m.map toK).map toC = m := by
  rw [List.map_map]
  conv => rhs; rw [← List.map_id m]
  refine List.map_congr_left fun x hx => ?_
  obtain ⟨_, _, h3, h4⟩ := h x hx
  obtain ⟨k, v, c, g⟩ := x
  simp only at h3 h4
  subst h3; subst h4; rfl
theorem toC_inj (l m : List Kd) (h : l.map toC = m.map toC) : l = m := by
  have := congrArg (List.map toK) h
  rw [List.map_map, List.map_map] at this
  have hid : (toK ∘ toC) = id := funext fun x => by cases x; rfl
  rwa [hid, List.map_id, List.map_id] at this
theorem both_kid (s : List UInt8) (hs : s.length ≤ 5000) (n : Int) : ∃ l r, BothK s n l r := by
  by_cases h : ∃ m, 0 ≤ n ∧ Canon false s n.toNat m
  · obtain ⟨m', h0, hm'⟩ := h
    obtain ⟨m, hm⟩ : ∃ m : List Kd, Canon false s n.toNat (m.map toC) := ⟨m'.map toK, by rw [kid_of m' hm'.2.1]; exact hm'⟩
    have hz := hm.size
    have hl := hm.1
    rw [List.length_map] at hl
    have hrr : Sl.right (Sl.shR false) (m.map toC) = Sl.right Sl.shK m := by rw [Sl.right_map, Sl.shR_false]
    have hu : ∀ l : List Kd, Canon false s n.toNat (l.map toC) → l = m := fun l hl => toC_inj _ _ (Canon.unique hl hm)
    by_cases hr : Sl.right Sl.shK m = 0
    · refine ⟨m, 0, ⟨by omega, right_rises _ _ hr, fun W => (readK_any s (by omega) n W).mono ?_, fun W => (refRead_false s hs n W).mono ?_⟩⟩
      · rintro e w' (⟨hb, _, _⟩ | ⟨l, _, hm2, hr2, _, _⟩ | ⟨l, _, hm2, _, v, he, hv, hb⟩)
        · exact absurd hm (hb _ h0)
        · rw [hu l hm2] at hr2; exact absurd hr hr2
        · rw [hu l hm2] at hv; exact ⟨v, he, hv, hb⟩
      · rintro e w' (⟨hb, _, _⟩ | ⟨l, _, hm2, hr2, _, _⟩ | ⟨l, _, hm2, _, v, he, hv, hb⟩)
        · exact absurd hm (hb _ h0)
        · rw [Canon.unique hm2 hm, hrr] at hr2; exact absurd hr hr2
        · rw [Canon.unique hm2 hm] at hv; exact ⟨v, he, hv, hb⟩
    · refine ⟨[], Sl.right Sl.shK m, ⟨Nat.zero_le _, rfl, fun W => (readK_any s (by omega) n W).mono ?_, fun W => (refRead_false s hs n W).mono ?_⟩⟩
      · rintro e w' (⟨hb, _, _⟩ | ⟨l, _, hm2, hr2, he, hb⟩ | ⟨l, _, hm2, hr2, v, he, hv, hb⟩)
        · exact absurd hm (hb _ h0)
        · rw [hu l hm2] at he; exact ⟨_, he, SlK.nil _, hb⟩
        · rw [hu l hm2] at hr2; exact absurd hr2 hr
      · rintro e w' (⟨hb, _, _⟩ | ⟨l, _, hm2, hr2, he, hb⟩ | ⟨l, _, hm2, hr2, v, he, hv, hb⟩)
        · exact absurd hm (hb _ h0)
        · rw [Canon.unique hm2 hm, hrr] at he; exact ⟨_, he, SlC.nil _, hb⟩
        · rw [Canon.unique hm2 hm, hrr] at hr2; exact absurd hr2 hr
  · have hn : ∀ m, 0 ≤ n → ¬ Canon false s n.toNat m := fun m h0 hm => h ⟨m, h0, hm⟩
    refine ⟨[], 4, ⟨Nat.zero_le _, rfl, fun W => (readK_any s (by omega) n W).mono ?_, fun W => (refRead_false s hs n W).mono ?_⟩⟩
    · rintro e w' (⟨_, he, hb⟩ | ⟨l, h0, hm2, _, _, _⟩ | ⟨l, h0, hm2, _, _, _, _, _⟩)
      · exact ⟨_, he, SlK.nil _, hb⟩
      all_goals exact absurd hm2 (hn _ h0)
    · rintro e w' (⟨_, he, hb⟩ | ⟨l, h0, hm2, _, _, _⟩ | ⟨l, h0, hm2, _, _, _, _, _⟩)
      · exact ⟨_, he, SlC.nil _, hb⟩
      all_goals exact absurd hm2 (hn _ h0)
theorem place_map (key : List UInt8) : ∀ l : List Kd, Sl.place Sl.shC (l.map toC) key = Sl.place Sl.shK l key
  | [] => rfl
  | x :: l => by
    have := place_map key l
    unfold Sl.place at this ⊢
    rw [List.map_cons, List.takeWhile_cons, List.takeWhile_cons]
    rw [show Sl.shC.key (toC x) = Sl.shK.key x from rfl]
    split
    · rw [List.length_cons, List.length_cons, this]
    · rfl
theorem there_map (key : List UInt8) (l : List Kd) : Sl.there Sl.shC (l.map toC) key = Sl.there Sl.shK l key := by
  unfold Sl.there
  rw [place_map, List.getElem?_map]
  cases l[Sl.place Sl.shK l key]? <;> rfl
end Go.Proofs.Ytppoikhonlgcnaa
