/- The law CrcTurns: a text in which something is turned within four bytes in a row has another sum. -/
import Derived.Test.YtghmpoahnkoppaaParts
import Derived.Test.YtghmpoahnkoppaaTurnList
import Derived.Laws.IdiomStrings
import Derived.RegionTactic
import Derived.ChangeAlike
namespace Go.Proofs.Ytghmpoahnkoppaa
open Go.RowKit
set_option maxHeartbeats 400000 in
theorem turns_idle (s : ByteArray) (at_ : Int) (t : Nat) (h : (s.size : Int) < 4 ∨ (s.size : Int) > 5000 ∨ t = 0) (w : World) (hl : s.size ≤ maxLen) :
    Calls Try.prog 7 #[.string s, .int .i64 at_, .int .u32 t] w fun e w' => e = .returned (.bool true) ∧ Below w.heap.size w w' := by
  unfold maxLen at hl
  by_cases h4 : (s.size : Int) < 4
  · have h5 : ¬ (s.size : Int) > 5000 := by omega
    go_enter Try.func7, Try.ntmps7
    go_wp2_with (go_at_call 8; refine (awake_any _).mono ?_; rintro e w1 ⟨rfl, hb⟩)
    go_ret
    exact ⟨rfl, hb⟩
  · by_cases h5 : (s.size : Int) > 5000
    · go_enter Try.func7, Try.ntmps7
      go_wp2_with (go_at_call 8; refine (awake_any _).mono ?_; rintro e w1 ⟨rfl, hb⟩)
      go_ret
      exact ⟨rfl, hb⟩
    · obtain rfl : t = 0 := by omega
      go_enter Try.func7, Try.ntmps7
      go_wp2_with (go_at_call 8; refine (awake_any _).mono ?_; rintro e w1 ⟨rfl, hb⟩)
      go_ret
      exact ⟨rfl, hb⟩
theorem turn_bits (s : ByteArray) (k t m : Nat) : bits .xor .u8 ((tb s k t m (k + m) : Nat) : Int) ((t : Int) / 2 ^ (8 * m) % 256) = ((tb s k t (m + 1) (k + m) : Nat) : Int) := by
  rw [tb_next, show (256 : Nat) ^ m = 2 ^ (8 * m) by rw [Nat.pow_mul]]
  have h := u8_xor_nat (tb s k t m (k + m)) (t / 2 ^ (8 * m) % 256) (tb_lt _ _ _ _ _) (by omega)
  rw [← h, Int.natCast_emod, Int.natCast_ediv, Int.natCast_pow]
  rfl
theorem back_at {s : ByteArray} {k t g : Nat} {wr w2 : World} (hb2 : Below wr.heap.size wr w2) (hg : g < wr.heap.size) (hc : ∀ j, j < s.size → wr.cell? ⟨g, j, none⟩ = some (.int .u8 (tb s k t 4 j : Nat))) (c : Nat) :
    (convert 42 9 (.slice (some ⟨g, 0, none⟩) s.size c)).run Try.prog (w2.alloc (.cells (tab Crc.byte) 25)) = .ok (.string ⟨(turned s k t).toArray⟩) (w2.alloc (.cells (tab Crc.byte) 25)) := by
  have hB3 : Below wr.heap.size wr (w2.alloc (.cells (tab Crc.byte) 25)) := hb2.alloc hb2.size _
  have hback := run_convert_bytes_back (P := Try.prog) (w2.alloc (.cells (tab Crc.byte) 25)) 42 9 5 ⟨g, 0, none⟩ c (turned s k t) Try.underlying42 Try.underlying5 Try.underlying9 (by
    intro j hj
    have hj' : j < s.size := by rw [turned_length] at hj; exact hj
    rw [show (⟨g, 0, none⟩ : Addr).add j = ⟨g, j, none⟩ by unfold Addr.add; split <;> simp_all, hB3.cell (p := ⟨g, j, none⟩) hg, hc j hj', turned_at])
  rw [turned_length] at hback
  exact hback
set_option maxHeartbeats 400000 in
theorem turns_busy (s : ByteArray) (at_ : Int) (t : Nat) (h4 : ¬ (s.size : Int) < 4) (h5 : ¬ (s.size : Int) > 5000) (ht : 0 < t) (ht2 : t < 4294967296) (w : World) (hl : s.size ≤ maxLen) :
    Calls Try.prog 7 #[.string s, .int .i64 at_, .int .u32 t] w fun e w' => e = .returned (.bool true) ∧ Below w.heap.size w w' := by
  have HL := Lib.hid hl
  clear hl
  have ht0 : ((t : Int) == 0) = false := by rw [beq_eq_false_iff_ne]; omega
  obtain ⟨U, hU, _⟩ := u64_nat at_
  obtain ⟨k, hk1, hk2, hk3⟩ := tmod_nat U (s.size - 3) (by omega)
  rw [show ((s.size - 3 : Nat) : Int) = (s.size : Int) - 3 by omega] at hk1 hk2
  have hk : k + 3 < s.size := by omega
  clear hk3
  have hd4 : decide ((s.size : Int) < 4) = false := decide_eq_false h4
  have hd5 : decide (5000 < (s.size : Int)) = false := decide_eq_false h5
  have hconv := fun (W : World) => run_bytes_of_string (P := Try.prog) W 9 42 5 s Try.underlying9 Try.underlying42 Try.underlying5
  go_enter Try.func7, Try.ntmps7
  go_wp2_with (go_at_call 8; refine (awake_any _).mono ?_; rintro e w1 ⟨rfl, hb⟩)
  have hW0 : Below w.heap.size w ((w1.alloc (Obj.cells (bytesRow s (grownCap w1 s.size 0 5)) 5 ((bytesRow s (grownCap w1 s.size 0 5)).size, (bytesRow s (grownCap w1 s.size 0 5)).size + 1))).drew) := (hb.alloc hb.size _).drew
  have HC0 : Hid (∀ j, j < s.size → ((w1.alloc (Obj.cells (bytesRow s (grownCap w1 s.size 0 5)) 5 ((bytesRow s (grownCap w1 s.size 0 5)).size, (bytesRow s (grownCap w1 s.size 0 5)).size + 1))).drew).cell? ⟨w1.heap.size, j, none⟩ = some (.int .u8 (tb s k t 0 j : Nat))) := by
    intro j hj
    rw [show ∀ x : World, x.drew.cell? ⟨w1.heap.size, j, none⟩ = x.cell? ⟨w1.heap.size, j, none⟩ from fun _ => rfl, World.cell?_alloc_mark, bytesRow_at s _ j (by simpa using hj)]
    unfold tb
    rw [if_neg (by omega)]
    simp [List.getD, hj]
  have HF0 : Hid (∀ j, j < s.size → ((w1.alloc (Obj.cells (bytesRow s (grownCap w1 s.size 0 5)) 5 ((bytesRow s (grownCap w1 s.size 0 5)).size, (bytesRow s (grownCap w1 s.size 0 5)).size + 1))).drew).frozen? ⟨w1.heap.size, j, none⟩ = false) := by
    intro j hj
    rw [show ∀ x : World, x.drew.frozen? ⟨w1.heap.size, j, none⟩ = x.frozen? ⟨w1.heap.size, j, none⟩ from fun _ => rfl, World.frozen?_alloc_mark]
    have : s.size ≤ (bytesRow s (grownCap w1 s.size 0 5)).size := by simp [bytesRow]
    simp; omega
  have HS : Hid (w.heap.size ≤ w1.heap.size) := hb.size
  revert hW0 HC0 HF0 HS
  generalize (w1.alloc (Obj.cells (bytesRow s (grownCap w1 s.size 0 5)) 5 ((bytesRow s (grownCap w1 s.size 0 5)).size, (bytesRow s (grownCap w1 s.size 0 5)).size + 1))).drew = W
  generalize grownCap w1 s.size 0 5 = c
  generalize w1.heap.size = g
  intro hW0 HC0 HF0 HS
  clear hb
  go_loopw [35] (fun i wr => ∃ m : Nat, m ≤ 4 ∧ i = .int .i64 m ∧ Hid (∀ j, j < s.size → wr.cell? ⟨g, j, none⟩ = some (.int .u8 (tb s k t m j : Nat))) ∧ Hid (∀ j, j < s.size → wr.frozen? ⟨g, j, none⟩ = false) ∧ Below w.heap.size w wr) (fun i _ => 4 - (intOf i).toNat)
  case atStart => exact ⟨0, by omega, rfl, HC0, HF0, hW0⟩
  case round =>
    obtain ⟨m, hm, rfl, HC, HF, hW⟩ := hrel
    by_cases hlt : m < 4
    · have hc := HC.out (k + m) (by omega)
      have hf := HF.out (k + m) (by omega)
      have HX := Lib.hid (turn_bits s k t m)
      go_wp2
      go_region
      go_wp2
      go_roundw
      case rel =>
        rw [HX.out]
        refine ⟨m + 1, by omega, by go_num, ?_, ?_, (hW.setCell (p := ⟨g, k + m, none⟩) HS.out _).drew⟩
        · intro j hj
          rw [show ∀ x : World, x.drew.cell? ⟨g, j, none⟩ = x.cell? ⟨g, j, none⟩ from fun _ => rfl]
          by_cases he : j = k + m
          · subst he
            exact World.cell?_setCell_same' _ _ _ (by rw [hc]; rfl)
          · rw [World.cell?_setCell_other _ _ _ _ (fun h => he (by cases h; rfl)), HC.out j hj, tb_other s k t m j he]
        · intro j hj
          rw [show ∀ x : World, x.drew.frozen? ⟨g, j, none⟩ = x.frozen? ⟨g, j, none⟩ from fun _ => rfl, World.frozen?_setCell]
          exact HF.out j hj
      case measure => simp [intOf]; omega
    · obtain rfl : m = 4 := by omega
      have HK := Lib.hid (show g < wr.heap.size from block_lt_of_cell (HC.out k (by omega)))
      have HLt : Hid ((⟨(turned s k t).toArray⟩ : ByteArray).size ≤ maxLen) := Lib.hid (by show (turned s k t).toArray.size ≤ maxLen; simp only [List.size_toArray, turned_length]; exact HL.out)
      have HN := Lib.hid (turned_ne s k t hk ht ht2)
      have HB0 := Lib.hid (fun (w2 : World) (hb2 : Below wr.heap.size wr w2) => back_at (t := t) hb2 HK.out HC.out c)
      go_wp2_with (first
        | (go_at_call 9; refine (make_any _).mono ?_; rintro e w2 ⟨rfl, hb2⟩)
        | (refine wpList_store_row rfl 25 (.tmp 10) (.tmp 52) rfl w2.heap.size (tab Crc.byte) rfl rfl 25 zc (heap_alloc_new _ _) (by rw [tab_size]; exact info25) (by rw [tab_size, zc_size]) (tab_one _) ?_; rw [World.setRow_alloc_new]; have hback := HB0.out w2 hb2)
        | (go_at_call 13; refine (of_at Crc.byte byte_all w2.heap.size 25 (0, 0) _ (by first | exact HL.out | exact HLt.out) _ (by exact heap_alloc_new _ _)).mono ?_; rintro e w7 ⟨rfl, q, rfl⟩))
      go_ret
      refine ⟨ret_bool ?_, ?_⟩
      · show ((Crc.add Crc.byte 0 (turned s k t) : Int) != (Crc.add Crc.byte 0 s.data.toList : Int)) = true
        rw [bne_iff_ne]
        intro he
        exact HN.out (by omega)
      · exact below_drewN (hW.trans ((hb2.alloc hb2.size _).mono hW.size)) _
theorem turns_walk (s : ByteArray) (at_ : Int) (t : Nat) (ht2 : t < 4294967296) (hl : s.size ≤ maxLen) (w : World) :
    Calls Try.prog 7 #[.string s, .int .i64 at_, .int .u32 t] w fun e w' => e = .returned (.bool true) ∧ Below w.heap.size w w' := by
  by_cases h : (s.size : Int) < 4 ∨ (s.size : Int) > 5000 ∨ t = 0
  · exact turns_idle s at_ t h w hl
  · exact turns_busy s at_ t (by omega) (by omega) (by omega) ht2 w hl
end Go.Proofs.Ytghmpoahnkoppaa
