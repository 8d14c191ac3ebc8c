/- The law CrcParts: in which parts a text is summed makes no difference. -/
import Derived.Test.YtghmpoahnkoppaaAwake
import Derived.Deep.RegionWith
namespace Go.Proofs.Ytghmpoahnkoppaa
open Go.RowKit
theorem ret_bool {b : Bool} (h : b = true) : Ending.returned (.bool b) = .returned (.bool true) := by rw [h]
theorem parts_same (l : List UInt8) (a c n : Nat) (h6 : a ≤ c) (hn : l.length = n) :
    Crc.add Crc.byte (Crc.add Crc.byte (Crc.add Crc.byte 0 (l.take a)) ((l.drop a).take (c - a))) ((l.drop c).take (n - c)) = Crc.add Crc.byte 0 l := by
  rw [← Crc.add_append byte_all (Crc.add_lt _ _ _), ← Crc.add_append byte_all (by decide), ← List.append_assoc, ← List.take_add, show a + (c - a) = c by omega,
    List.take_of_length_le (l := l.drop c) (by rw [List.length_drop]; omega), List.take_append_drop]
theorem extract_le (s : ByteArray) (a b : Nat) (h : s.size ≤ maxLen) : (s.extract a b).size ≤ maxLen := by
  simp only [ByteArray.size_extract]; omega
theorem u64_nat (x : Int) : ∃ U : Nat, IntKind.u64.wrap x = (U : Int) ∧ U < 18446744073709551616 := by
  refine ⟨(IntKind.u64.wrap x).toNat, ?_, ?_⟩
  · rw [Int.toNat_of_nonneg (wrap_u64_nonneg x)]
  · rw [IntKind.wrap_u64]; omega
theorem tmod_nat (U m : Nat) (h : 0 < m) : ∃ a : Nat, (U : Int).tmod (m : Int) = (a : Int) ∧ (U : Int) % (m : Int) = (a : Int) ∧ a < m :=
  ⟨U % m, by rw [Int.tmod_eq_emod_of_nonneg (by omega)]; rfl, rfl, Nat.mod_lt _ h⟩
set_option maxHeartbeats 400000 in
theorem parts_walk (s : ByteArray) (at_ to_ : Int) (hl : s.size ≤ maxLen) (w : World) :
    Calls Try.prog 6 #[.string s, .int .i64 at_, .int .i64 to_] w fun e w' => e = .returned (.bool true) ∧ Below w.heap.size w w' := by
  have HL := Lib.hid hl
  unfold maxLen at hl
  by_cases hlen : (s.size : Int) > 5000
  · go_enter Try.func6, Try.ntmps6
    go_wp2_with (go_at_call 8; refine (awake_any _).mono ?_; rintro e w1 ⟨rfl, hb⟩)
    go_ret
    exact ⟨rfl, hb⟩
  · obtain ⟨U, hU, _⟩ := u64_nat at_
    obtain ⟨V, hV, _⟩ := u64_nat to_
    obtain ⟨a, ha1, ha2, ha3⟩ := tmod_nat U (s.size + 1) (by omega)
    obtain ⟨b, hb1, hb2, hb3⟩ := tmod_nat V (s.size - a + 1) (by omega)
    rw [show ((s.size + 1 : Nat) : Int) = (s.size : Int) + 1 by omega] at ha1 ha2
    rw [show ((s.size - a + 1 : Nat) : Int) = (s.size : Int) - (a : Int) + 1 by omega] at hb1 hb2
    have hab : a ≤ s.size := by omega
    have hbb : a + b ≤ s.size := by omega
    obtain ⟨c, hc⟩ : ∃ c : Nat, a + b = c := ⟨_, rfl⟩
    have hcI : (a : Int) + (b : Int) = (c : Int) := by omega
    have h1 : (0 : Int) ≤ (a : Int) := by omega
    have h2 : (a : Int) ≤ (c : Int) := by omega
    have h3 : (c : Int) ≤ (s.size : Int) := by omega
    have h4 : (a : Int) ≤ (s.size : Int) := by omega
    have h5 : (0 : Int) ≤ (c : Int) := by omega
    have h6 : a ≤ c := by omega
    have h7 : c ≤ s.size := by omega
    clear ha3 hb3 hbb hc
    go_enter Try.func6, Try.ntmps6
    go_wp2_with (first
      | (go_at_call 8; refine (awake_any _).mono ?_; rintro e w1 ⟨rfl, hb⟩)
      | (go_at_call 9; refine (make_any _).mono ?_; rintro e w2 ⟨rfl, hb2⟩)
      | (refine wpList_store_row rfl 25 (.tmp 9) (.tmp 35) rfl w2.heap.size (tab Crc.byte) rfl rfl 25 zc (heap_alloc_new _ _) (by rw [tab_size]; exact info25) (by rw [tab_size, zc_size]) (tab_one _) ?_; rw [World.setRow_alloc_new]))
    have hB : Below w.heap.size w (w2.alloc (.cells (tab Crc.byte) 25)) := (hb.trans (hb2.mono hb.size)).alloc (Nat.le_trans hb.size hb2.size) _
    have HG := Lib.hid (heap_alloc_new w2 (.cells (tab Crc.byte) 25))
    revert hB HG
    generalize w2.alloc (.cells (tab Crc.byte) 25) = W
    generalize w2.heap.size = g
    intro hB HG
    clear hb hb2
    go_quiet ((first
      | (go_at_call 13; exact Calls.quiet_of (of_at Crc.byte byte_all g 25 (0, 0) _ (by first | exact HL.out | exact extract_le _ _ _ HL.out) _ (by exact HG.out)))
      | (go_at_call 12; exact Calls.quiet_of (add_at Crc.byte byte_all g 25 (0, 0) _ (Crc.add_lt _ _ _) _ (extract_le _ _ _ HL.out) _ (by exact HG.out)))))
    have HE := Lib.hid (parts_same s.data.toList a c s.size h6 (by simp))
    go_wp2
    go_ret
    exact ⟨ret_bool (by rw [HE.out]; exact beq_self_eq_true _), below_drewN hB _⟩
end Go.Proofs.Ytghmpoahnkoppaa
