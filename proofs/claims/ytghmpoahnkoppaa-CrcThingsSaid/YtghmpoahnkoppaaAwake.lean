/- The contracts of the laws' own example, and of the document's sum by a table that is handed in. -/
import Derived.Test.YtghmpoahnkoppaaSum
namespace Go.Proofs.Ytghmpoahnkoppaa
open Go.RowKit
theorem sum_example : Crc.add Crc.byte 0 [49, 50, 51, 52, 53, 54, 55, 56, 57] = 3421780262 := by decide +kernel
theorem awake_any (w : World) : Calls Try.prog 8 #[] w fun e w' => e = .returned (.bool true) ∧ Below w.heap.size w w' := by
  have HE := Lib.hid sum_example
  go_enter Try.func8, Try.ntmps8
  go_wp2_with (first
    | (go_at_call 9; refine (make_any _).mono ?_; rintro e w1 ⟨rfl, hb⟩)
    | (refine wpList_store_row rfl 25 (.tmp 1) (.tmp 2) rfl w1.heap.size (tab Crc.byte) rfl rfl 25 zc (heap_alloc_new _ _) (by rw [tab_size]; exact info25) (by rw [tab_size, zc_size]) (tab_one _) ?_; rw [World.setRow_alloc_new])
    | (go_at_call 13; refine (of_at Crc.byte byte_all w1.heap.size 25 (0, 0) _ (by decide) _ (heap_alloc_new _ _)).mono ?_; rintro e w2 ⟨rfl, n, rfl⟩; have hq : (((Crc.add Crc.byte 0 [49, 50, 51, 52, 53, 54, 55, 56, 57] : Nat) : Int) == 3421780262) = true := by rw [HE.out]; rfl))
  go_ret
  exact ⟨rfl, below_drewN (hb.alloc hb.size _) n⟩
set_option maxHeartbeats 400000 in
theorem through_any (T : Nat → Nat) (hT : ∀ i, i < 256 → T i < 4294967296) (sum : Nat) (hs : sum < 4294967296) (s : ByteArray) (hl : s.size ≤ maxLen) (w : World) :
    Calls Try.prog 15 #[.agg (tab T), .int .u32 sum, .string s] w fun e w' => e = .returned (.int .u32 (Crc.add T sum s.data.toList : Nat)) ∧ Below w.heap.size w w' := by
  unfold maxLen at hl
  have HT := Lib.hid hT
  clear hT
  have HN : tab T ≠ #[] := fun h => by have := tab_size T; rw [h] at this; cases this
  go_enter Try.func15, Try.ntmps15
  go_wp2
  have HG : Hid ((w.alloc (Obj.cells (tab T) 24)).heap[w.heap.size]? = some (.cells (tab T) 24 (0, 0))) := heap_alloc_new _ _
  have hW : Below w.heap.size w (w.alloc (Obj.cells (tab T) 24)) := (Below.refl _ _).alloc (Nat.le_refl _) _
  revert HG hW
  generalize w.alloc (Obj.cells (tab T) 24) = W
  generalize hB0 : w.heap.size = g
  intro HG hW
  have HB := Lib.hid hB0
  clear hB0
  go_loop [1, 7] (fun v i => ∃ k : Nat, k ≤ s.size ∧ i = .int .i64 k ∧ v = .int .u32 (Crc.run T (4294967295 - sum) (s.data.toList.take k) : Nat)) (fun _ i => s.size - (intOf i).toNat)
  case atStart => exact ⟨0, by omega, rfl, val_u32 (show (4294967295 : Int) - sum = ((4294967295 - sum : Nat) : Int) by omega)⟩
  case round =>
    obtain ⟨k, hk, rfl, rfl⟩ := hrel
    have hr := Crc.run_lt HT.out (s.data.toList.take k) (s := 4294967295 - sum) (by omega)
    by_cases hlt : k < s.size
    · have hsn : Crc.run T (4294967295 - sum) (s.data.toList.take (k + 1)) = Crc.upd T (Crc.run T (4294967295 - sum) (s.data.toList.take k)) s[k] := by
        rw [Crc.take_snoc s k hlt, Crc.run_snoc]
      have HS := Lib.hid hsn
      clear hsn
      revert hr HS
      generalize Crc.run T (4294967295 - sum) (s.data.toList.take k) = r
      intro hr HS
      obtain ⟨j, Hj⟩ : ∃ j, Hid (r % 256 ^^^ s[k].toNat = j) := ⟨_, Lib.hid rfl⟩
      have hj : j < 256 := by rw [← Hj.out]; exact Crc.idx_lt r s[k]
      have e1 : bits .xor .u32 ((r : Int) % 256) ((s[k].toNat : Int) % 4294967296) = ((j : Nat) : Int) := by
        rw [← Hj.out, show (s[k].toNat : Int) % 4294967296 = (s[k].toNat : Int) by have := s[k].toNat_lt; omega]
        exact u32_xor_nat (r % 256) _ (by omega) (by have := s[k].toNat_lt; omega)
      have hc : W.cell? ⟨g, j, none⟩ = some (.int .u32 (T j : Nat)) := by
        rw [cell_of_row _ _ _ _ _ _ HG.out]; exact tab_get T hj
      have HX : Hid (bits .xor .u32 ((T j : Nat) : Int) ((r : Int) / 256) = ((Crc.upd T r s[k] : Nat) : Int)) := by
        unfold Crc.upd
        rw [Hj.out]
        exact u32_xor_nat (T j) (r / 256) (HT.out j hj) (by omega)
      have hj0 : (0 : Int) ≤ (j : Int) := by omega
      have hj1 : (j : Int) < 256 := by omega
      go_wp2
      go_round
      case rel => exact ⟨k + 1, by omega, by go_num, by rw [HS.out, HX.out]⟩
      case measure => simp [intOf]; omega
    · obtain rfl : k = s.size := by omega
      go_wp2
      go_ret
      refine ⟨ret_u32 ?_, by rw [HB.out]; exact hW⟩
      unfold Crc.add
      rw [List.take_of_length_le (by simp)] at *
      omega
end Go.Proofs.Ytghmpoahnkoppaa
