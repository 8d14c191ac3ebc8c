/- The contracts of slices.Insert and slices.Delete of one text, at a row of one's own. -/
import Derived.Test.YtdkkcogjkeonkaaUxSet
import Derived.Test.YtdkkcogjkeonkaaIns2U
set_option maxRecDepth 100000
set_option maxHeartbeats 4000000
set_option linter.unusedVariables false
namespace Go.Proofs.Ytdkkcogjkeonkaa
open Go.RowKit Go.Sort
theorem insertU_any (B vb vc i : Nat) (v : Value) (l : List (Nat)) (x : (Nat)) (T : TypeId) (w : World) (hi : i ≤ l.length) (hl : l.length ≤ 100000) (hv : RowU w B v l) (hB : B ≤ w.heap.size) (hvb : w.heap[vb]? = some (.cells (cellsU x).toArray T (0, 0))) (hne : v.ownBlock ≠ some vb) :
    Calls Try.prog 28 #[v, .int .i64 i, .slice (some ⟨vb, 0, none⟩) 1 vc] w (InsOutU B v (l.take i ++ x :: l.drop i) w) := by
  by_cases he : i = l.length
  · subst he
    rw [List.take_length, List.drop_length]
    exact insertU_end B vb vc v l x T w hv hB hl hvb
  · obtain ⟨_, h1⟩ := hv
    rcases h1 with ⟨rfl, h0⟩ | ⟨g, cap, cur, rfl, hg, hh, hn, hm, hs, ht⟩
    · omega
    · have hng : vb ≠ g := fun h => hne (by rw [h]; rfl)
      by_cases hr : l.length + 1 ≤ cap
      · exact insertU_shift B g cap i vb vc cur l x T w (by omega) hr hm hh hg hs ht hvb hng
      · exact insertU_grow B g cap i vb vc cur l x T w (by omega) hn hr hl hB hh ht hvb
theorem flat_eV (l : List Nat) : l.flatMap cellsU = l.map eV := by
  induction l with
  | nil => rfl
  | cons x t ih => rw [List.flatMap_cons, ih]; rfl
theorem rowU_iffV (w : World) (B : Nat) (v : Value) (l : List Nat) : RowU w B v l = RowV w B v l := by
  unfold RowU RowV RowP
  rw [flat_eV]
theorem oneV : OneCell eV := fun _ => rfl
/-- What Insert answers. -/
structure InsV (B : Nat) (u : Value) (l : List Nat) (w : World) (v : Value) (w' : World) : Prop where
  row : RowV w' B v l
  below : Below B w w'
  keep : ∀ k, u.ownBlock ≠ some k → k < w.heap.size → w'.heap[k]? = w.heap[k]?
  at' : v.ownBlock = u.ownBlock ∨ ∃ g, v.ownBlock = some g ∧ w.heap.size ≤ g
theorem uxIns_any (B vb vc i : Nat) (v : Value) (l : List Nat) (x : Nat) (T : TypeId) (w : World) (hi : i ≤ l.length) (hl : l.length ≤ 100000) (hv : RowV w B v l) (hB : B ≤ w.heap.size) (hvb : w.heap[vb]? = some (.cells #[.int .u32 x] T (0, 0))) (hne : v.ownBlock ≠ some vb) :
    Calls Try.prog 28 #[v, .int .i64 i, .slice (some ⟨vb, 0, none⟩) 1 vc] w fun e w' => ∃ v', e = .returned v' ∧ InsV B v (Tx.ins l i x) w v' w' :=
  (insertU_any B vb vc i v l x T w hi hl (by rw [rowU_iffV]; exact hv) hB hvb hne).mono fun e w' h => by
    obtain ⟨v', he, hr, hb, hk, hf⟩ := h
    rw [rowU_iffV] at hr
    exact ⟨v', he, hr, hb, hk, hf⟩
/-- What Delete of one answers. -/
theorem uxDel_any (B g cap i : Nat) (l : List Nat) (w : World) (hi : i < l.length) (hv : RowV w B (.slice (some ⟨g, 0, none⟩) l.length cap) l) :
    Calls Try.prog 29 #[.slice (some ⟨g, 0, none⟩) l.length cap, .int .i64 i, .int .i64 ((i : Int) + 1)] w fun e w' => ∃ v', e = .returned v' ∧ v'.ownBlock = some g ∧ InsV B (.slice (some ⟨g, 0, none⟩) l.length cap) (Tx.del l i) w v' w' := by
  obtain ⟨i0, hi0, hz0, hz1, hz2⟩ := info_parts infoV
  have hcap : l.length ≤ cap ∧ cap ≤ 9223372036854775807 ∧ B ≤ g ∧ g < w.heap.size := by
    rcases hv.open with ⟨h, _⟩ | ⟨g', cap', cur, h, hB, hg, h1, h2, _⟩
    · cases h
    · cases h; exact ⟨h1, h2, hB, (Array.getElem?_eq_some_iff.1 hg).1⟩
  have hF : (l.take i ++ l.drop (i + 1) ++ List.replicate (i + 1 - i) (0 : Nat)).length = l.length := by simp; omega
  have h := Try.slices_Delete_f29 eV oneV (0 : Nat) (fun w => Try.zeroValue24 w) i0 hi0 hz1 g 0 cap i (i + 1) l.toArray w (hv.holds rfl) (by simpa using hcap.1) hcap.2.1 (by omega) (by show i + 1 ≤ l.length; omega)
  refine h.mono ?_
  rintro e w' ⟨he, q, hw⟩
  obtain ⟨hr, hb⟩ := RowP.put (n := q) (os := #[]) hv (l.take i ++ l.drop (i + 1) ++ List.replicate (i + 1 - i) (0 : Nat)) (l.length - 1) hF (by omega)
  rw [grow_none] at hr hb
  have hd : (l.take i ++ l.drop (i + 1) ++ List.replicate (i + 1 - i) (0 : Nat)).take (l.length - 1) = Tx.del l i := by
    rw [List.take_append_of_le_length (by simp; omega), List.take_of_length_le (by simp; omega)]; rfl
  rw [hd] at hr
  refine ⟨_, he, rfl, ?_, ?_, ?_, .inl rfl⟩
  · rw [hw]
    have e1 : l.toArray.size - (i + 1 - i) = l.length - 1 := by simp
    rw [e1]; exact hr
  · rw [hw]; exact hb
  · intro k hk _
    rw [hw]
    have : g ≠ k := fun h => hk (by rw [h]; rfl)
    simp [putRow, mapBlock, Sort.ahead, Array.getElem?_modify, this]
end Go.Proofs.Ytdkkcogjkeonkaa
