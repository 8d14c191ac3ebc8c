/- The walk of the law OctetWrites. -/
import Derived.Test.YtgkonmidgeanmaaAwake
namespace Go.Proofs.Ytgkonmidgeanmaa
open Go.RowKit
theorem below_step {a b c : World} (h : Below a.heap.size a b) (k : Below b.heap.size b c) : Below a.heap.size a c := h.trans (k.mono h.size)
theorem big1 (x : Int) (n : Nat) (hx : x = n) (hn : n < 256) (w : World) :
    Calls Try.prog 10 #[.int .u64 x, .int .i64 1] w fun e w' => e = .returned (.string (str (Oc.big 1 n))) ∧ Below w.heap.size w w' := big_any x n 1 hx (by omega) (by omega) (by omega) w
theorem big2 (x : Int) (n : Nat) (hx : x = n) (hn : n < 65536) (w : World) :
    Calls Try.prog 10 #[.int .u64 x, .int .i64 2] w fun e w' => e = .returned (.string (str (Oc.big 2 n))) ∧ Below w.heap.size w w' := big_any x n 2 hx (by omega) (by omega) (by omega) w
theorem big4 (x : Int) (n : Nat) (hx : x = n) (hn : n < 4294967296) (w : World) :
    Calls Try.prog 10 #[.int .u64 x, .int .i64 4] w fun e w' => e = .returned (.string (str (Oc.big 4 n))) ∧ Below w.heap.size w w' := big_any x n 4 hx (by omega) (by omega) (by omega) w
theorem big8 (x : Int) (n : Nat) (hx : x = n) (hn : n < 18446744073709551616) (w : World) :
    Calls Try.prog 10 #[.int .u64 x, .int .i64 8] w fun e w' => e = .returned (.string (str (Oc.big 8 n))) ∧ Below w.heap.size w w' := big_any x n 8 hx (by omega) (by omega) (by omega) w
set_option maxHeartbeats 1000000 in
theorem writes_walk (n : Nat) (hn : n < 18446744073709551616) (s : ByteArray) (w : World) :
    Calls Try.prog 3 #[.int .u64 n, .string s] w fun e w' => e = .returned (.bool true) ∧ Below w.heap.size w w' := by
  by_cases hs : (s.size : Int) > 3000
  · go_enter Try.func3, Try.ntmps3
    go_wp2_with (go_at_call 8; refine (awake_any _).mono ?_; rintro e w1 ⟨rfl, hb⟩)
    go_ret
    exact ⟨rfl, hb⟩
  · have hs4 : s.size < 4294967296 := by omega
    go_enter Try.func3, Try.ntmps3
    go_wp2_with (first
      | (go_at_call 8; refine (awake_any _).mono ?_; rintro e w1 ⟨rfl, hb1⟩)
      | (go_at_call 9; refine (one_at _ (n % 256) ?_ (by omega) _).mono ?_; (first | omega | (rw [IntKind.wrap_u8]; omega)); rintro e w2 ⟨rfl, hb2⟩)
      | (go_at_call 11; refine (two_at _ (n % 65536) ?_ (by omega) _).mono ?_; (first | omega | (rw [IntKind.wrap_u16]; omega)); rintro e w4 ⟨rfl, hb4⟩)
      | (go_at_call 12; refine (four_at _ (n % 4294967296) ?_ (by omega) _).mono ?_; (first | omega | (rw [IntKind.wrap_u32]; omega)); rintro e w6 ⟨rfl, hb6⟩)
      | (go_at_call 13; refine (eight_at _ n rfl hn _).mono ?_; rintro e w8 ⟨rfl, hb8⟩)
      | (go_at_call 14; refine (text_at _ hs4 _).mono ?_; rintro e w10 ⟨rfl, hb10⟩)
      | (go_at_call 15; refine (refText_at _ hs4 _).mono ?_; rintro e w11 ⟨rfl, hb11⟩)
      | (go_at_call_of 10 (Value.int IntKind.i64 1); refine (big1 _ (n % 256) ?_ (by omega) _).mono ?_; omega; rintro e w3 ⟨rfl, hb3⟩)
      | (go_at_call_of 10 (Value.int IntKind.i64 2); refine (big2 _ (n % 65536) ?_ (by omega) _).mono ?_; omega; rintro e w5 ⟨rfl, hb5⟩)
      | (go_at_call_of 10 (Value.int IntKind.i64 4); refine (big4 _ (n % 4294967296) ?_ (by omega) _).mono ?_; omega; rintro e w7 ⟨rfl, hb7⟩)
      | (go_at_call_of 10 (Value.int IntKind.i64 8); refine (big8 _ n rfl hn _).mono ?_; rintro e w9 ⟨rfl, hb9⟩))
    go_ret
    exact ⟨rfl, below_step (below_step (below_step (below_step (below_step (below_step (below_step (below_step (below_step (below_step hb1 hb2) hb3) hb4) hb5) hb6) hb7) hb8) hb9) hb10) hb11⟩
end Go.Proofs.Ytgkonmidgeanmaa
