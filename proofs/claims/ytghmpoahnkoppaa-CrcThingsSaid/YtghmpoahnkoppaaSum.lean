/- The contracts of the functions that sum a text: by a table in memory, without one, and the document's own two. -/
import Derived.Test.YtghmpoahnkoppaaMake
import Derived.Deep.WholeRow
import Derived.Deep.QuietTactic
import Derived.BigQuiet
import Derived.WalkSmall
namespace Go.Proofs.Ytghmpoahnkoppaa
open Go.RowKit
theorem not_nat (x : Nat) (h : x < 4294967296) : 4294967295 ^^^ x = 4294967295 - x := by
  apply Nat.eq_of_testBit_eq
  intro i
  rw [Nat.testBit_xor, show 4294967295 = 2 ^ 32 - 1 by rfl, Nat.testBit_two_pow_sub_one, show 2 ^ 32 - 1 - x = 2 ^ 32 - (x + 1) by omega, Nat.testBit_two_pow_sub_succ h]
  by_cases hi : i < 32
  · simp [hi]
  · have : x.testBit i = false := Nat.testBit_lt_two_pow (Nat.lt_of_lt_of_le h (by simpa using Nat.pow_le_pow_right (n := 2) (by decide) (Nat.not_lt.1 hi)))
    simp [hi, this]
theorem not_u32 (x : Nat) (h : x < 4294967296) : bits .xor .u32 IntKind.u32.max (x : Int) = ((4294967295 - x : Nat) : Int) := by
  have := u32_xor_nat 4294967295 x (by decide) h
  rw [not_nat x h] at this
  exact this
set_option maxHeartbeats 400000 in
theorem add_at (T : Nat → Nat) (hT : ∀ i, i < 256 → T i < 4294967296) (g : Nat) (t : TypeId) (fr : Nat × Nat) (sum : Nat) (hs : sum < 4294967296) (s : ByteArray) (hl : s.size ≤ maxLen) (w : World) (hg : w.heap[g]? = some (.cells (tab T) t fr)) :
    Calls Try.prog 12 #[.pointer (some ⟨g, 0, none⟩), .int .u32 sum, .string s] w fun e w' => e = .returned (.int .u32 (Crc.add T sum s.data.toList : Nat)) ∧ ∃ n, w' = w.drewN n := by
  unfold maxLen at hl
  have HT := Lib.hid hT
  have HG := Lib.hid hg
  clear hT hg
  go_enter Try.func12, Try.ntmps12
  go_wp2
  go_loopw [1, 16] (fun v i wr => ∃ k : Nat, k ≤ s.size ∧ i = .int .i64 k ∧ v = .int .u32 (Crc.run T (4294967295 - sum) (s.data.toList.take k) : Nat) ∧ ∃ n, wr = w.drewN n) (fun _ i _ => s.size - (intOf i).toNat)
  case atStart => exact ⟨0, by omega, rfl, by rw [not_u32 sum hs]; rfl, 0, rfl⟩
  case round =>
    obtain ⟨k, hk, rfl, rfl, n, rfl⟩ := hrel
    have hr := Crc.run_lt HT.out (s.data.toList.take k) (s := 4294967295 - sum) (by omega)
    by_cases hlt : k < s.size
    · have hsn : Crc.run T (4294967295 - sum) (s.data.toList.take (k + 1)) = Crc.upd T (Crc.run T (4294967295 - sum) (s.data.toList.take k)) s[k] := by
        rw [Crc.take_snoc s k hlt, Crc.run_snoc]
      have HS := Lib.hid hsn
      clear hsn
      revert hr HS
      generalize Crc.run T (4294967295 - sum) (s.data.toList.take k) = r
      intro hr HS
      obtain ⟨j, Hj⟩ : ∃ j, Hid (r % 256 ^^^ s[k].toNat = j) := ⟨_, Lib.hid rfl⟩
      have hj : j < 256 := by rw [← Hj.out]; exact Crc.idx_lt r s[k]
      have e1 : bits .xor .u8 (IntKind.u8.wrap (r : Int)) (s[k].toNat : Int) = ((j : Nat) : Int) := by
        rw [← Hj.out, IntKind.wrap_u8', show (r : Int) % 256 = ((r % 256 : Nat) : Int) by omega]
        exact u8_xor_nat _ _ (by omega) s[k].toNat_lt
      have hc : w.cell? ⟨g, j, none⟩ = some (.int .u32 (T j : Nat)) := by
        rw [cell_of_row _ _ _ _ _ _ HG.out]; exact tab_get T hj
      have HX : Hid (bits .xor .u32 ((T j : Nat) : Int) ((r : Int) / 256) = ((Crc.upd T r s[k] : Nat) : Int)) := by
        unfold Crc.upd
        rw [Hj.out]
        exact u32_xor_nat (T j) (r / 256) (HT.out j hj) (by omega)
      have hj0 : (0 : Int) ≤ (j : Int) := by omega
      have hj1 : (j : Int) < 256 := by omega
      go_wp2
      go_quiet (fail)
      go_wp2
      go_roundw
      case rel => exact ⟨k + 1, by omega, by go_num, by rw [HS.out, HX.out], _, rfl⟩
      case measure => simp [intOf]; omega
    · obtain rfl : k = s.size := by omega
      go_wp2
      go_ret
      refine ⟨ret_u32 ?_, n, rfl⟩
      rw [not_u32 _ hr, List.take_of_length_le (by simp)]
      rfl
theorem val_u32 {a b : Int} (h : a = b) : Value.int .u32 a = .int .u32 b := by rw [h]
theorem byte_all : ∀ i, i < 256 → Crc.byte i < 4294967296 := fun i h => Crc.byte_lt (by omega)
set_option maxHeartbeats 400000 in
theorem add_nil (sum : Nat) (hs : sum < 4294967296) (s : ByteArray) (hl : s.size ≤ maxLen) (w : World) :
    Calls Try.prog 12 #[.pointer none, .int .u32 sum, .string s] w fun e w' => e = .returned (.int .u32 (Crc.add Crc.byte sum s.data.toList : Nat)) ∧ Below w.heap.size w w' := by
  unfold maxLen at hl
  go_enter Try.func12, Try.ntmps12
  go_wp2_with (first
    | (go_at_call 9; refine (make_any _).mono ?_; rintro e w1 ⟨rfl, hb⟩)
    | (refine wpList_store_row rfl 25 (.tmp 7) (.tmp 11) rfl w1.heap.size (tab Crc.byte) rfl rfl 25 zc (heap_alloc_new _ _) (by rw [tab_size]; exact info25) (by rw [tab_size, zc_size]) (tab_one _) ?_))
  have HG : Hid (((w1.alloc (Obj.cells zc 25)).setRow w1.heap.size (tab Crc.byte)).heap[w1.heap.size]? = some (.cells (tab Crc.byte) 25 (0, 0))) := setRow_heap _ _ _ _ _ _ (heap_alloc_new _ _)
  have hW : Below w.heap.size w ((w1.alloc (Obj.cells zc 25)).setRow w1.heap.size (tab Crc.byte)) := below_setRow (hb.alloc hb.size _) hb.size _
  revert HG hW
  generalize (w1.alloc (Obj.cells zc 25)).setRow w1.heap.size (tab Crc.byte) = W
  generalize w1.heap.size = g
  intro HG hW
  have HT := Lib.hid byte_all
  clear hb
  go_loopw [1, 16] (fun v i wr => ∃ k : Nat, k ≤ s.size ∧ i = .int .i64 k ∧ v = .int .u32 (Crc.run Crc.byte (4294967295 - sum) (s.data.toList.take k) : Nat) ∧ ∃ n, wr = W.drewN n) (fun _ i _ => s.size - (intOf i).toNat)
  case atStart => exact ⟨0, by omega, rfl, by rw [not_u32 sum hs]; rfl, 0, rfl⟩
  case round =>
    obtain ⟨k, hk, rfl, rfl, n, rfl⟩ := hrel
    have hr := Crc.run_lt HT.out (s.data.toList.take k) (s := 4294967295 - sum) (by omega)
    by_cases hlt : k < s.size
    · have hsn : Crc.run Crc.byte (4294967295 - sum) (s.data.toList.take (k + 1)) = Crc.upd Crc.byte (Crc.run Crc.byte (4294967295 - sum) (s.data.toList.take k)) s[k] := by
        rw [Crc.take_snoc s k hlt, Crc.run_snoc]
      have HS := Lib.hid hsn
      clear hsn
      revert hr HS
      generalize Crc.run Crc.byte (4294967295 - sum) (s.data.toList.take k) = r
      intro hr HS
      obtain ⟨j, Hj⟩ : ∃ j, Hid (r % 256 ^^^ s[k].toNat = j) := ⟨_, Lib.hid rfl⟩
      have hj : j < 256 := by rw [← Hj.out]; exact Crc.idx_lt r s[k]
      have e1 : bits .xor .u8 (IntKind.u8.wrap (r : Int)) (s[k].toNat : Int) = ((j : Nat) : Int) := by
        rw [← Hj.out, IntKind.wrap_u8', show (r : Int) % 256 = ((r % 256 : Nat) : Int) by omega]
        exact u8_xor_nat _ _ (by omega) s[k].toNat_lt
      have hc : W.cell? ⟨g, j, none⟩ = some (.int .u32 (Crc.byte j : Nat)) := by
        rw [cell_of_row _ _ _ _ _ _ HG.out]; exact tab_get Crc.byte hj
      have HX : Hid (bits .xor .u32 ((Crc.byte j : Nat) : Int) ((r : Int) / 256) = ((Crc.upd Crc.byte r s[k] : Nat) : Int)) := by
        unfold Crc.upd
        rw [Hj.out]
        exact u32_xor_nat (Crc.byte j) (r / 256) (HT.out j hj) (by omega)
      have hj0 : (0 : Int) ≤ (j : Int) := by omega
      have hj1 : (j : Int) < 256 := by omega
      go_wp2
      go_quiet (fail)
      go_wp2
      go_roundw
      case rel => exact ⟨k + 1, by omega, by go_num, by rw [HS.out, HX.out], _, rfl⟩
      case measure => simp [intOf]; omega
    · obtain rfl : k = s.size := by omega
      go_wp2
      go_ret
      refine ⟨ret_u32 ?_, below_drewN hW n⟩
      rw [not_u32 _ hr, List.take_of_length_le (by simp)]
      rfl
theorem of_at (T : Nat → Nat) (hT : ∀ i, i < 256 → T i < 4294967296) (g : Nat) (t : TypeId) (fr : Nat × Nat) (s : ByteArray) (hl : s.size ≤ maxLen) (w : World) (hg : w.heap[g]? = some (.cells (tab T) t fr)) :
    Calls Try.prog 13 #[.pointer (some ⟨g, 0, none⟩), .string s] w fun e w' => e = .returned (.int .u32 (Crc.add T 0 s.data.toList : Nat)) ∧ ∃ n, w' = w.drewN n := by
  have HT := Lib.hid hT
  have HG := Lib.hid hg
  clear hT hg
  go_enter Try.func13, Try.ntmps13
  go_wp2_with (go_at_call 12; refine (add_at T HT.out g t fr 0 (by decide) s hl _ HG.out).mono ?_; rintro e w' ⟨rfl, n, rfl⟩)
  go_ret
  exact ⟨rfl, n, rfl⟩
set_option maxHeartbeats 400000 in
theorem refAdd_any (sum : Nat) (hs : sum < 4294967296) (s : ByteArray) (hl : s.size ≤ maxLen) (w : World) :
    Calls Try.prog 11 #[.int .u32 sum, .string s] w fun e w' => e = .returned (.int .u32 (Crc.add Crc.byte sum s.data.toList : Nat)) ∧ w = w' := by
  unfold maxLen at hl
  go_enter Try.func11, Try.ntmps11
  go_wp2
  go_loop [0, 5] (fun v i => ∃ k : Nat, k ≤ s.size ∧ i = .int .i64 k ∧ v = .int .u32 (Crc.run Crc.byte (4294967295 - sum) (s.data.toList.take k) : Nat)) (fun _ i => s.size - (intOf i).toNat)
  case atStart => exact ⟨0, by omega, rfl, val_u32 (show (4294967295 : Int) - sum = ((4294967295 - sum : Nat) : Int) by omega)⟩
  case round =>
    obtain ⟨k, hk, rfl, rfl⟩ := hrel
    have hr := Crc.run_lt byte_all (s.data.toList.take k) (s := 4294967295 - sum) (by omega)
    by_cases hlt : k < s.size
    · have hsn : Crc.run Crc.byte (4294967295 - sum) (s.data.toList.take (k + 1)) = Crc.upd Crc.byte (Crc.run Crc.byte (4294967295 - sum) (s.data.toList.take k)) s[k] := by
        rw [Crc.take_snoc s k hlt, Crc.run_snoc]
      have HS := Lib.hid hsn
      clear hsn
      revert hr HS
      generalize Crc.run Crc.byte (4294967295 - sum) (s.data.toList.take k) = r
      intro hr HS
      obtain ⟨j, Hj⟩ : ∃ j, Hid (r % 256 ^^^ s[k].toNat = j) := ⟨_, Lib.hid rfl⟩
      have hj : j < 256 := by rw [← Hj.out]; exact Crc.idx_lt r s[k]
      have e1 : bits .xor .u32 ((r : Int) % 256) ((s[k].toNat : Int) % 4294967296) = ((j : Nat) : Int) := by
        rw [← Hj.out, show (s[k].toNat : Int) % 4294967296 = (s[k].toNat : Int) by have := s[k].toNat_lt; omega]
        exact u32_xor_nat (r % 256) _ (by omega) (by have := s[k].toNat_lt; omega)
      have HX : Hid (bits .xor .u32 ((Crc.byte j : Nat) : Int) ((r : Int) / 256) = ((Crc.upd Crc.byte r s[k] : Nat) : Int)) := by
        unfold Crc.upd
        rw [Hj.out]
        exact u32_xor_nat (Crc.byte j) (r / 256) (byte_all j hj) (by omega)
      go_wp2_with (go_at_call 10; refine (refByte_any j (by omega) _).mono ?_; rintro e w' ⟨rfl, rfl⟩)
      go_round
      case rel => exact ⟨k + 1, by omega, by go_num, by rw [HS.out, HX.out]⟩
      case measure => simp [intOf]; omega
    · obtain rfl : k = s.size := by omega
      go_wp2
      go_ret
      refine ⟨ret_u32 ?_, rfl⟩
      unfold Crc.add
      rw [List.take_of_length_le (by simp)] at *
      omega
theorem refOf_any (s : ByteArray) (hl : s.size ≤ maxLen) (w : World) :
    Calls Try.prog 14 #[.string s] w fun e w' => e = .returned (.int .u32 (Crc.add Crc.byte 0 s.data.toList : Nat)) ∧ w = w' := by
  go_enter Try.func14, Try.ntmps14
  go_wp2_with (go_at_call 11; refine (refAdd_any 0 (by decide) s hl _).mono ?_; rintro e w' ⟨rfl, rfl⟩)
  go_ret
  exact ⟨rfl, rfl⟩
end Go.Proofs.Ytghmpoahnkoppaa
