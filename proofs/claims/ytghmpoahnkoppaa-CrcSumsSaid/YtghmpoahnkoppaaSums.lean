/- The law CrcSums: the table, and the sum of any text that goes on from any sum, without a table too. -/
import Derived.Test.YtghmpoahnkoppaaAwake
import Derived.Deep.RegionWith
namespace Go.Proofs.Ytghmpoahnkoppaa
open Go.RowKit
theorem refByte_same (n : Nat) (h : n < 4294967296) (w : World) :
    Calls Try.prog 10 #[.int .u32 n] w fun e w' => e = .returned (.int .u32 (Crc.byte n : Nat)) ∧ w' = w :=
  (refByte_any n h w).mono fun _ _ h => ⟨h.1, h.2.symm⟩
set_option maxHeartbeats 400000 in
theorem sums_walk (sum : Nat) (hs : sum < 4294967296) (s : ByteArray) (hl : s.size ≤ maxLen) (w : World) :
    Calls Try.prog 3 #[.int .u32 sum, .string s] w fun e w' => e = .returned (.bool true) ∧ Below w.heap.size w w' := by
  have HL := Lib.hid hl
  unfold maxLen at hl
  by_cases hlen : (s.size : Int) > 20000
  · go_enter Try.func3, Try.ntmps3
    go_wp2_with (go_at_call 8; refine (awake_any _).mono ?_; rintro e w1 ⟨rfl, hb⟩)
    go_ret
    exact ⟨rfl, hb⟩
  · go_enter Try.func3, Try.ntmps3
    go_wp2_with (first
      | (go_at_call 8; refine (awake_any _).mono ?_; rintro e w1 ⟨rfl, hb⟩)
      | (go_at_call 9; refine (make_any _).mono ?_; rintro e w2 ⟨rfl, hb2⟩)
      | (refine wpList_store_row rfl 25 (.tmp 5) (.tmp 14) rfl w2.heap.size (tab Crc.byte) rfl rfl 25 zc (heap_alloc_new _ _) (by rw [tab_size]; exact info25) (by rw [tab_size, zc_size]) (tab_one _) ?_; rw [World.setRow_alloc_new]))
    have hB : Below w.heap.size w (w2.alloc (.cells (tab Crc.byte) 25)) := (hb.trans (hb2.mono hb.size)).alloc (Nat.le_trans hb.size hb2.size) _
    have HG := Lib.hid (heap_alloc_new w2 (.cells (tab Crc.byte) 25))
    revert hB HG
    generalize w2.alloc (.cells (tab Crc.byte) 25) = W
    generalize w2.heap.size = g
    intro hB HG
    clear hb hb2
    have hgs : g < W.heap.size := (Array.getElem?_eq_some_iff.1 HG.out).1
    go_loopw [15] (fun i wr => ∃ k : Nat, k ≤ 256 ∧ i = .int .i64 k ∧ ∃ n, wr = W.drewN n) (fun i _ => 256 - (intOf i).toNat)
    case atStart => exact ⟨0, by omega, rfl, 0, rfl⟩
    case round =>
      obtain ⟨k, hk, rfl, n, rfl⟩ := hrel
      by_cases hlt : k < 256
      · have hc : W.cell? ⟨g, k, none⟩ = some (.int .u32 (Crc.byte k : Nat)) := by
          rw [cell_of_row _ _ _ _ _ _ HG.out]; exact tab_get _ hlt
        have hk0 : (0 : Int) ≤ (k : Int) := by omega
        have hk1 : (k : Int) < 256 := by omega
        have hk3 : k < 4294967296 := by omega
        have ew : IntKind.u32.wrap (k : Int) = (k : Int) := by rw [IntKind.wrap_u32']; omega
        go_wp2
        go_quiet ((go_at_call 10; exact (refByte_same k hk3 _).mono fun _ _ h => ⟨h.1, _, h.2⟩))
        go_wp2
        go_roundw
        case rel => exact ⟨k + 1, by omega, by go_num, _, rfl⟩
        case measure => simp [intOf]; omega
      · obtain rfl : k = 256 := by omega
        go_wp2_with (first
          | (go_at_call 11; refine (refAdd_any sum hs s HL.out _).mono ?_; rintro e w3 ⟨rfl, rfl⟩)
          | (go_at_call_of 12 (Value.pointer none); refine (add_nil sum hs s HL.out _).mono ?_; rintro e w4 ⟨rfl, hb4⟩)
          | (go_at_call 12; refine (add_at Crc.byte byte_all g 25 (0, 0) sum hs s HL.out _ (by exact HG.out)).mono ?_; rintro e w5 ⟨rfl, m, rfl⟩)
          | (go_at_call 13; refine (of_at Crc.byte byte_all g 25 (0, 0) s HL.out _ (by rw [hb4.block g hgs]; exact HG.out)).mono ?_; rintro e w7 ⟨rfl, q, rfl⟩)
          | (go_at_call 14; refine (refOf_any s HL.out _).mono ?_; rintro e w6 ⟨rfl, rfl⟩))
        go_ret
        exact ⟨rfl, below_drewN ((below_drewN hB _).trans (hb4.mono hB.size)) _⟩
end Go.Proofs.Ytghmpoahnkoppaa
