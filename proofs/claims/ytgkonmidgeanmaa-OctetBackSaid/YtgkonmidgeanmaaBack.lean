/- The walk of the law OctetBack. -/
import Derived.Test.YtgkonmidgeanmaaTkStr
import Derived.Test.YtgkonmidgeanmaaWrites
namespace Go.Proofs.Ytgkonmidgeanmaa
open Go.RowKit
set_option maxHeartbeats 1000000 in
theorem back_walk (a b c d : Nat) (ha : a < 256) (hb : b < 65536) (hc : c < 4294967296) (hd : d < 18446744073709551616) (s : ByteArray) (w : World) :
    Calls Try.prog 6 #[.int .u8 a, .int .u16 b, .int .u32 c, .int .u64 d, .string s] w fun e w' => e = .returned (.bool true) ∧ Below w.heap.size w w' := by
  by_cases hs : (s.size : Int) > 2000
  · go_enter Try.func6, Try.ntmps6
    go_wp2_with (go_at_call 8; refine (awake_any _).mono ?_; rintro e w1 ⟨rfl, hb⟩)
    go_ret
    exact ⟨rfl, hb⟩
  · have hs4 : s.size < 4294967296 := by omega
    have hs2 : s.size ≤ 2000 := by omega
    have hz := big_size
    have hzt : (str (Oc.big 4 s.size ++ s.data.toList)).size = 4 + s.size := by rw [str_size, List.length_append, Oc.big_length]; simp
    have H : Hid (str (Oc.big 1 a) ++ str (Oc.big 4 s.size ++ s.data.toList) ++ str (Oc.big 2 b) ++ str (Oc.big 4 c) ++ str (Oc.big 8 d) = str (Oc.big 1 a ++ (Oc.big 4 s.data.toList.length ++ (s.data.toList ++ (Oc.big 2 b ++ (Oc.big 4 c ++ (Oc.big 8 d ++ []))))))) := by
      rw [str_append, str_append, str_append, str_append]
      show str _ = str _
      simp
    have T1 : Hid (∀ m, tk (str (Oc.big 1 a ++ m)) 0 1 = (str (Oc.big 1 a), str m, 0)) := fun m => tk_str _ _ 1 (Oc.big_length _ _)
    have T2 : Hid (∀ m, tk (str (Oc.big 2 b ++ m)) 0 2 = (str (Oc.big 2 b), str m, 0)) := fun m => tk_str _ _ 2 (Oc.big_length _ _)
    have T4 : Hid (∀ m, tk (str (Oc.big 4 c ++ m)) 0 4 = (str (Oc.big 4 c), str m, 0)) := fun m => tk_str _ _ 4 (Oc.big_length _ _)
    have T8 : Hid (∀ m, tk (str (Oc.big 8 d ++ m)) 0 8 = (str (Oc.big 8 d), str m, 0)) := fun m => tk_str _ _ 8 (Oc.big_length _ _)
    have TT : Hid (∀ m, txt (str (Oc.big 4 s.data.toList.length ++ (s.data.toList ++ m))) 0 s.size = (s, str m, 0)) := fun m => txt_str _ _ _ (by simpa using hs4) (by simp)
    have R1 : Hid (∀ (p : Nat) m W, Rd W p (str (Oc.big 1 a ++ m)) 0 → Calls Try.prog 29 #[.pointer (some ⟨p, 0, none⟩)] W fun v w' => v = .returned (.int .u8 a) ∧ Rd w' p (str m) 0 ∧ Upd p W w') := by
      intro p m W h
      have := one_rd p _ 0 W h
      rw [T1.out, str_data, Oc.val_big 1 a ha] at this
      exact this
    have R2 : Hid (∀ (p : Nat) m W, Rd W p (str (Oc.big 2 b ++ m)) 0 → Calls Try.prog 17 #[.pointer (some ⟨p, 0, none⟩)] W fun v w' => v = .returned (.int .u16 b) ∧ Rd w' p (str m) 0 ∧ Upd p W w') := by
      intro p m W h
      have := two_rd p _ 0 W h
      rw [T2.out, str_data, Oc.val_big 2 b hb] at this
      exact this
    have R4 : Hid (∀ (p : Nat) m W, Rd W p (str (Oc.big 4 c ++ m)) 0 → Calls Try.prog 19 #[.pointer (some ⟨p, 0, none⟩)] W fun v w' => v = .returned (.int .u32 c) ∧ Rd w' p (str m) 0 ∧ Upd p W w') := by
      intro p m W h
      have := four_rd p _ 0 W h
      rw [T4.out, str_data, Oc.val_big 4 c hc] at this
      exact this
    have R8 : Hid (∀ (p : Nat) m W, Rd W p (str (Oc.big 8 d ++ m)) 0 → Calls Try.prog 20 #[.pointer (some ⟨p, 0, none⟩)] W fun v w' => v = .returned (.int .u64 d) ∧ Rd w' p (str m) 0 ∧ Upd p W w') := by
      intro p m W h
      have := eight_rd p _ 0 W h
      rw [T8.out, str_data, Oc.val_big 8 d hd] at this
      exact this
    have RT : Hid (∀ (p : Nat) m W, Rd W p (str (Oc.big 4 s.data.toList.length ++ (s.data.toList ++ m))) 0 → Calls Try.prog 21 #[.pointer (some ⟨p, 0, none⟩), .int .i64 s.size] W fun v w' => v = .returned (.string s) ∧ Rd w' p (str m) 0 ∧ Upd p W w') := by
      intro p m W h
      have := text_rd p _ 0 s.size (by omega) W h
      rw [TT.out] at this
      exact this
    have hf : fin (str []) 0 = 0 := rfl
    go_enter Try.func6, Try.ntmps6
    go_wp2_with (first
      | (go_at_call 8; refine (awake_any _).mono ?_; rintro e w1 ⟨rfl, hb1⟩)
      | (go_at_call 9; refine (one_at _ a rfl ha _).mono ?_; rintro e w2 ⟨rfl, hb2⟩)
      | (go_at_call 14; refine (text_at _ hs4 _).mono ?_; rintro e w3 ⟨rfl, hb3⟩)
      | (go_at_call 11; refine (two_at _ b rfl hb _).mono ?_; rintro e w4 ⟨rfl, hb4⟩)
      | (go_at_call 12; refine (four_at _ c rfl hc _).mono ?_; rintro e w5 ⟨rfl, hb5⟩)
      | (go_at_call 13; refine (eight_at _ d rfl hd _).mono ?_; rintro e w6 ⟨rfl, hb6⟩)
      | (go_at_call 16; refine (over_any _ _).mono ?_; rintro e w7 ⟨rfl, hr, hb7⟩; rw [H.out] at hr)
      | (go_at_call 29; refine (R1.out _ _ _ hr).mono ?_; rintro e w8 ⟨rfl, hr8, hu8⟩)
      | (go_at_call 21; refine (RT.out _ _ _ hr8).mono ?_; rintro e w9 ⟨rfl, hr9, hu9⟩)
      | (go_at_call 17; refine (R2.out _ _ _ hr9).mono ?_; rintro e w10 ⟨rfl, hr10, hu10⟩)
      | (go_at_call 19; refine (R4.out _ _ _ hr10).mono ?_; rintro e w11 ⟨rfl, hr11, hu11⟩)
      | (go_at_call 20; refine (R8.out _ _ _ hr11).mono ?_; rintro e w12 ⟨rfl, hr12, hu12⟩)
      | (go_at_call 27; refine (end_rd _ _ _ _ hr12).mono ?_; rintro e w13 ⟨rfl, rfl⟩))
    go_ret
    have hB6 := below_step (below_step (below_step (below_step (below_step hb1 hb2) hb3) hb4) hb5) hb6
    exact ⟨rfl, (below_step hB6 hb7).trans (((((hu8.trans hu9).trans hu10).trans hu11).trans hu12).below hB6.size)⟩
end Go.Proofs.Ytgkonmidgeanmaa
