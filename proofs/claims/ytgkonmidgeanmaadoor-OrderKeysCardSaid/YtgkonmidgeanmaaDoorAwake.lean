/- The contract of the laws' own example. -/
import Derived.Test.YtgkonmidgeanmaaDoorLess
namespace Go.Proofs.YtgkonmidgeanmaaDoor
open Go.RowKit
theorem keyOut_example : keyOut [⟨false, 1, []⟩] = .tuple #[.string ⟨#[1, 0, 0, 0, 0, 0, 0, 0, 1]⟩, .int .i64 0] := by
  rw [keyOut_ok _ (by decide)]; rfl
theorem keyExample (w1 W : World) (m : Int) (hW : W = w1.alloc (.cells #[.bool false, .int .u64 1, .string ⟨#[]⟩] 41)) (hm : w1.cell? ⟨0, 0, none⟩ = some (.int .i64 m)) :
    Calls Tryd.prog 9 #[.slice (some ⟨w1.heap.size, 0, none⟩) 1 1] W fun e w' => e = .returned (.tuple #[.string ⟨#[1, 0, 0, 0, 0, 0, 0, 0, 1]⟩, .int .i64 0]) ∧ Below W.heap.size W w' := by
  subst hW
  have := key_any _ [⟨false, 1, []⟩] (by decide) m _ (Sl.one w1 ⟨false, 1, []⟩ 41) (by intro p hp; simp at hp; subst hp; decide) (((Below.refl _ _).alloc (Nat.le_refl _) _ |>.cell (p := ⟨0, 0, none⟩) (World.block_lt_of_cell? _ _ hm)).trans hm)
  rw [keyOut_example] at this
  exact this
theorem lessExample (w1 W : World) (hW : W = w1.alloc (.cells #[.bool false, .int .u64 0, .string ⟨#[]⟩] 41)) :
    Calls Tryd.prog 18 #[.slice none 0 0, .slice (some ⟨w1.heap.size, 0, none⟩) 1 1] W fun e w' => e = .returned (.bool true) ∧ Below W.heap.size W w' := by
  subst hW
  exact lessRow_any _ _ [] [⟨false, 0, []⟩] (by decide) (by decide) _ (Sl.nil _) (Sl.one w1 ⟨false, 0, []⟩ 41)
theorem awake_any (m : Int) (w : World) (hm : w.cell? ⟨0, 0, none⟩ = some (.int .i64 m)) : Calls Tryd.prog 7 #[] w fun e w' => e = .returned (.bool true) ∧ Below w.heap.size w w' := by
  have h0 := World.block_lt_of_cell? _ _ hm
  have hn := fun W => num_any 1 W
  unfold aggP at hn
  have HN := Lib.hid hn
  clear hn
  go_enter Tryd.func7, Tryd.ntmps7
  go_wp2_with (first
    | (go_at_call 23; refine (HN.out _).mono ?_; rintro e w1 ⟨rfl, hb1⟩)
    | (go_at_call 9; refine (keyExample w1 _ m rfl ((hb1.cell (p := ⟨0, 0, none⟩) h0).trans hm)).mono ?_; rintro e w2 ⟨rfl, hb2⟩)
    | (go_at_call 18; refine (lessExample w2 _ rfl).mono ?_; rintro e w3 ⟨rfl, hb3⟩))
  go_ret
  exact ⟨rfl, below_step (below_step hb1 (below_step ((Below.refl _ _).alloc (Nat.le_refl _) _) hb2)) (below_step ((Below.refl _ _).alloc (Nat.le_refl _) _) hb3)⟩
end Go.Proofs.YtgkonmidgeanmaaDoor
