/- What is done with a table, act by act; the state of the law behind some of them. -/
import Derived.Test.YtpgaepilnbjhbaaLsDueT
set_option maxRecDepth 100000
set_option maxHeartbeats 4000000
set_option linter.unusedVariables false
namespace Go.Proofs.Ytpgaepilnbjhbaa
open Go.RowKit
open Ls (Txt Ln Ms sameL ltL low Mono Srt Uni free lend)
structure Ac where
  d : Int
  q : Txt
  id : Nat
  n : Nat
def Ac.ln (a : Ac) : Ln := ⟨a.q, a.id, a.n⟩
def cA (a : Ac) : List Value := [.int .i64 a.d, .string (str a.q), .int .u64 a.id, .int .u64 a.n]
theorem encA : Enc cA 4 := ⟨by decide, fun _ => rfl, fun x u hu => by simp [cA] at hu; rcases hu with rfl | rfl | rfl | rfl <;> rfl⟩
/-- What an act makes of what is lent. -/
def actD (a : Ac) (L : List Ln) : List Ln := L.filter fun e => !decide (e.t ≤ a.n)
def actK (a : Ac) (L : List Ln) : List Ln := L.filter fun e => decide (e.id ≠ a.n)
def actOk (L L' : List Ln) : Prop := Srt ltL L' ∧ Uni sameL L' ∧ L'.length ≤ L.length + 1
theorem actF_ok (x : Ln) {L : List Ln} (hs : Srt ltL L) (hu : Uni sameL L) : actOk L (free sameL x L) := ⟨Ls.free_srt _ _ hs, Ls.free_uni _ _ hu, Nat.le_succ_of_le (Ls.free_len _ _ _)⟩
theorem actL_ok (x : Ln) {L : List Ln} (hs : Srt ltL L) (hu : Uni sameL L) : actOk L (lend ltL sameL x L) := ⟨Ls.lend_srt Ls.woL hs, Ls.lend_uni Ls.keyL hu, Ls.lend_len⟩
theorem filter_ok (p : Ln → Bool) {L : List Ln} (hs : Srt ltL L) (hu : Uni sameL L) : actOk L (L.filter p) :=
  ⟨List.Pairwise.sublist List.filter_sublist hs, List.Pairwise.sublist List.filter_sublist hu, Nat.le_succ_of_le (List.length_filter_le _ _)⟩
/-- A slice, flat. -/
structure Sl where
  a : Option Addr
  n : Nat
  c : Nat
def Sl.v (x : Sl) : Value := .slice x.a x.n x.c
def cT (x : Sl) : List Value := [CMP, x.v]
def cP (x : Sl) : List Value := [x.v]
theorem encT : Enc cT 2 := ⟨by decide, fun _ => rfl, fun x u hu => by simp [cT] at hu; rcases hu with rfl | rfl <;> rfl⟩
theorem encP : Enc cP 1 := ⟨by decide, fun _ => rfl, fun x u hu => by simp [cP] at hu; subst hu; rfl⟩
/-- Each of some slices shows its row. -/
def Each (T : TypeId) (w : World) (s : List Sl) (Ms : List (List Ln)) : Prop := s.length = Ms.length ∧ ∀ (i : Nat) x m, s[i]? = some x → Ms[i]? = some m → SlT T w x.v m
theorem Each.map {T : TypeId} {w w' : World} {s : List Sl} {Ms : List (List Ln)} (h : Each T w s Ms) (hk : ∀ v m, SlT T w v m → SlT T w' v m) : Each T w' s Ms := ⟨h.1, fun i x m h1 h2 => hk _ _ (h.2 i x m h1 h2)⟩
theorem Each.snoc {T : TypeId} {w : World} {s : List Sl} {Ms : List (List Ln)} (h : Each T w s Ms) {x : Sl} {m : List Ln} (hx : SlT T w x.v m) : Each T w (s ++ [x]) (Ms ++ [m]) := by
  refine ⟨by simp [h.1], fun i y n h1 h2 => ?_⟩
  by_cases hi : i < s.length
  · rw [List.getElem?_append_left hi] at h1
    rw [List.getElem?_append_left (by rw [← h.1]; exact hi)] at h2
    exact h.2 i y n h1 h2
  · have hi1 : i = s.length := by
      have := (List.getElem?_eq_some_iff.1 h1).1
      simp at this; omega
    subst hi1
    simp at h1
    rw [h.1] at h2
    simp at h2
    subst h1 h2
    exact hx
/-- The state of the law: the table's box, the document's list, the tables and the lists of before. -/
structure St (w0 : World) (b3 : Nat) (L : List Ln) (Ms : List (List Ln)) (sl v4 v5 v6 : Value) (W : World) : Prop where
  box : Boxed2 W b3 27 CMP sl
  tab : SlT 80 W sl L
  lst : SlT 45 W v4 L
  T : ∃ s, RowG cT 2 27 W w0.heap.size v5 s ∧ Each 80 W s Ms
  P : ∃ s, RowG cP 1 29 W w0.heap.size v6 s ∧ Each 45 W s Ms
  ne : v5.ownBlock ≠ some b3
  srt : Srt ltL L
  uni : Uni sameL L
  len : L.length ≤ Ms.length
  all : ∀ m ∈ Ms, m.length ≤ 60
  few : Ms.length ≤ 51
  bel : Below w0.heap.size w0 W
  hb : w0.heap.size ≤ b3
variable {w0 W W' : World} {b3 : Nat} {L : List Ln} {Ms : List (List Ln)} {sl v4 v5 v6 : Value}
theorem St.below (h : St w0 b3 L Ms sl v4 v5 v6 W) (hb : Below W.heap.size W W') : St w0 b3 L Ms sl v4 v5 v6 W' := by
  obtain ⟨s, h1, h2⟩ := h.T
  obtain ⟨s', h3, h4⟩ := h.P
  exact ⟨h.box.below hb, h.tab.below hb, h.lst.below hb, ⟨s, h1.below hb, h2.map fun _ _ h => h.below hb⟩, ⟨s', h3.below hb, h4.map fun _ _ h => h.below hb⟩, h.ne, h.srt, h.uni, h.len, h.all, h.few, on h.bel (Nat.le_refl _) hb, h.hb⟩
theorem stay_set {b : Nat} {T T' : TypeId} {x0 x1 y0 y1 : Value} (h : Boxed2 W b T x0 x1) (hne : T ≠ T') (k : Nat) (cur : Array Value) (hk : W.heap[k]? = some (.cells cur T')) :
    ((W.setCell ⟨b, 0, none⟩ y0).setCell ⟨b, 1, none⟩ y1).heap[k]? = some (.cells cur T') := by
  have hkb : k ≠ b := fun e => by
    subst e
    have h1 : some (Obj.cells #[x0, x1] T) = some (Obj.cells cur T') := h.symm.trans hk
    simp at h1
    exact hne h1.2
  rw [Below.heap_setCell _ _ _ _ hkb, Below.heap_setCell _ _ _ _ hkb]; exact hk
/-- The table's box and the list take what an act made. -/
theorem St.put (h : St w0 b3 L Ms sl v4 v5 v6 W) {L' : List Ln} {sl' v4' : Value} (hs : SlT 80 W sl' L') (hl : SlT 45 W v4' L') (hok : Srt ltL L' ∧ Uni sameL L' ∧ L'.length ≤ Ms.length) :
    St w0 b3 L' Ms sl' v4' v5 v6 ((W.setCell ⟨b3, 0, none⟩ CMP).setCell ⟨b3, 1, none⟩ sl') := by
  obtain ⟨s, h1, h2⟩ := h.T
  obtain ⟨s', h3, h4⟩ := h.P
  have hset : ∀ k, k ≠ b3 → ((W.setCell ⟨b3, 0, none⟩ CMP).setCell ⟨b3, 1, none⟩ sl').heap[k]? = W.heap[k]? := fun k hk => by rw [Below.heap_setCell _ _ _ _ hk, Below.heap_setCell _ _ _ _ hk]
  have kL : ∀ v m, SlT 80 W v m → SlT 80 ((W.setCell ⟨b3, 0, none⟩ CMP).setCell ⟨b3, 1, none⟩ sl') v m := fun v m hv => hv.stay (stay_set h.box (by decide))
  have kE : ∀ v m, SlT 45 W v m → SlT 45 ((W.setCell ⟨b3, 0, none⟩ CMP).setCell ⟨b3, 1, none⟩ sl') v m := fun v m hv => hv.stay (stay_set h.box (by decide))
  refine ⟨h.box.set _ _, kL _ _ hs, kE _ _ hl, ⟨s, h1.keep fun g hg => hset g fun e => h.ne (by rw [hg, e]), h2.map kL⟩, ⟨s', h3.keep fun g hg => hset g fun e => h3.not_row h.box (by decide) (by rw [hg, e]), h4.map kE⟩, h.ne, hok.1, hok.2.1, hok.2.2, h.all, h.few,
    (h.bel.setCell (p := ⟨b3, 0, none⟩) h.hb _).setCell (p := ⟨b3, 1, none⟩) h.hb _, h.hb⟩
end Go.Proofs.Ytpgaepilnbjhbaa
