/- The library's partial insertion sort. -/
import Derived.Test.YtdkkcogjkeonkaaUxPartE
import Derived.Sort.WalkA6
set_option maxRecDepth 100000
set_option maxHeartbeats 4000000
set_option linter.unusedVariables false
namespace Go.Proofs.Ytdkkcogjkeonkaa
open Go.RowKit
open Go.Sort (swp PermIn SortedIn scanSorted shiftDown shiftUp fixDown fixUp partialIns partialInsertionSort)
variable {sz cap B g : Nat} {w W W' : World} {d : Array Nat}
set_option maxHeartbeats 2000000 in
theorem pins32_any (h : PR sz cap B g w d W) (hsz : sz ≤ 1000) (hcap : sz ≤ cap) (a b : Nat) (hab : a < b) (hb : b ≤ sz) :
    Calls Try.prog 51 #[.slice (some ⟨g, 0, none⟩) sz cap, .int .i64 a, .int .i64 b] W fun e W' => e = .returned (.bool (partialInsertionSort vlt d a b).2) ∧ PR sz cap B g w (partialInsertionSort vlt d a b).1 W' := by
  have H0 := Lib.hid h
  clear h
  go_enter Try.func51, Try.ntmps51
  go_wp2
  go_loopg [7, 8] (5 - 0) (fun n s7 s8 X => ∃ (i s : Nat) (d' : Array Nat), s7 = .int .i64 i ∧ s8 = .int .i64 s ∧ n = 5 - s ∧ s ≤ 5 ∧ a + 1 ≤ i ∧ i ≤ b ∧ Hid (PR sz cap B g w d' X) ∧ Hid (partialIns vlt a b (5 - s) i d' = partialInsertionSort vlt d a b))
  case atStart => exact ⟨a + 1, 0, d, by go_num, rfl, rfl, by omega, by omega, by omega, H0, rfl⟩
  case round =>
    obtain ⟨i, s, d', rfl, rfl, rfl, hs5, hai, hib, HP, HD⟩ := hrel
    by_cases hs : s < 5
    · have hsz5 : (s : Int) < 5 := by omega
      go_upto_block 2 with fail
      go_cut [7] (fun v wx => ∃ k : Nat, v = .int .i64 k ∧ i ≤ k ∧ k ≤ b ∧ Hid (scanSorted vlt d' b i = k) ∧ Hid (PR sz cap B g w d' wx))
      case first =>
        go_wp2_with fail
        go_loopg [7] (b + 1 - i) (fun n v X => ∃ i1 : Nat, v = .int .i64 i1 ∧ n = b + 1 - i1 ∧ i ≤ i1 ∧ i1 ≤ b ∧ Hid (PR sz cap B g w d' X) ∧ Hid (scanSorted vlt d' b i = scanSorted vlt d' b i1))
        case atStart => exact ⟨i, rfl, rfl, Nat.le_refl _, hib, HP, rfl⟩
        case round =>
          obtain ⟨i1, rfl, rfl, hi1, hi1b, HP1, HU⟩ := hrel
          by_cases h1 : i1 < b
          · have h1z : (i1 : Int) < (b : Int) := by omega
            obtain ⟨m, hm⟩ : ∃ m, m = i1 - 1 := ⟨_, rfl⟩
            have em : (i1 : Int) - 1 = (m : Int) := by omega
            have HM : Hid (i1 - 1 = m) := hm.symm
            have hmi : m < i1 := by omega
            clear hm
            obtain ⟨G, hG⟩ : ∃ G : Nat → Nat, ∀ t, G t = d'[t]! := ⟨fun t => d'[t]!, fun _ => rfl⟩
            have HG1 := Lib.hid hG
            have cx : wr.cell? ⟨g, i1, none⟩ = some (.int .u32 (G i1)) := by rw [hG]; exact HP1.out.c i1 (by omega)
            have cm : wr.cell? ⟨g, m, none⟩ = some (.int .u32 (G m)) := by rw [hG]; exact HP1.out.c m (by omega)
            have fx := HP1.out.f i1 (by omega)
            have fm := HP1.out.f m (by omega)
            have hx0 : (i1 : Int) < (sz : Int) := by omega
            have hm0 : (m : Int) < (sz : Int) := by omega
            clear hG
            by_cases hk : G i1 < G m
            · have hkd : decide (G i1 < G m) = true := decide_eq_true hk
              have HK := Lib.hid hkd
              clear hk
              go_wp2_with fail
              go_quiet (first | (go_at_call 52; refine Calls.quiet_of_same ((cLess_any _ _ _).mono fun _ _ h => ⟨h.1, h.2.symm⟩)))
              go_wp2_with fail
              go_meet
              exact ⟨i1, rfl, by omega, by omega, by show _ = _; rw [HU.out, Go.Proofs.scanSorted_stop vlt d' b i1 (.inr (by rw [HM.out, ← HG1.out, ← HG1.out]; exact HK.out))], HP1.out.drewN nq⟩
            · have hkd : decide (G i1 < G m) = false := decide_eq_false hk
              have HK := Lib.hid hkd
              clear hk
              go_wp2_with fail
              go_quiet (first | (go_at_call 52; refine Calls.quiet_of_same ((cLess_any _ _ _).mono fun _ _ h => ⟨h.1, h.2.symm⟩)))
              go_wp2
              go_roundg (b + 1 - (i1 + 1))
              case measure => omega
              case rel => exact ⟨i1 + 1, by go_num, rfl, by omega, by omega, HP1.out.drewN nq, by show _ = _; rw [HU.out, Go.Proofs.scanSorted_go vlt d' b i1 h1 (by rw [HM.out, ← HG1.out, ← HG1.out]; exact HK.out)]⟩
          · have h1z : decide ((i1 : Int) < (b : Int)) = false := decide_eq_false (by omega)
            go_wp2_with fail
            go_quiet (first | (go_at_call 52; refine Calls.quiet_of_same ((cLess_any _ _ _).mono fun _ _ h => ⟨h.1, h.2.symm⟩)))
            go_wp2_with fail
            go_meet
            exact ⟨i1, rfl, by omega, by omega, by show _ = _; rw [HU.out, Go.Proofs.scanSorted_stop vlt d' b i1 (.inl h1)], HP1.out.drewN nq⟩
      case rest =>
        obtain ⟨k, rfl, hik, hkb, HK1, HP2⟩ := hcut
        clear HP
        by_cases hkb2 : k = b
        · have HT := Lib.hid (Go.Proofs.pi_true vlt a b s i d' hs (HK1.out.trans hkb2))
          subst hkb2
          go_wp2
          go_ret
          have he := HD.out
          rw [HT.out] at he
          exact ⟨by rw [← he]; rfl, by rw [← he]; exact HP2.out⟩
        · have hkz : ¬ (k : Int) = (b : Int) := by omega
          by_cases h50 : b - a < 50
          · have HT := Lib.hid (Go.Proofs.pi_short vlt a b s i d' hs (by rw [HK1.out]; exact hkb2) h50)
            have h50z : (b : Int) - (a : Int) < 50 := by omega
            go_wp2
            go_ret
            have he := HD.out
            rw [HT.out] at he
            exact ⟨by rw [← he]; rfl, by rw [← he]; exact HP2.out⟩
          · have h50z : ¬ (b : Int) - (a : Int) < 50 := by omega
            have HT := Lib.hid (Go.Proofs.pi_go vlt a b s i k d' hs HK1.out hkb2 h50)
            obtain ⟨m, hm⟩ : ∃ m, m = k - 1 := ⟨_, rfl⟩
            have em : (k : Int) - 1 = (m : Int) := by omega
            have HM : Hid (k - 1 = m) := hm.symm
            have hmk : m < k := by omega
            have hkb3 : k < b := by omega
            clear hm hkb2
            rw [HM.out] at HT
            obtain ⟨G, hG⟩ : ∃ G : Nat → Nat, ∀ t, G t = d'[t]! := ⟨fun t => d'[t]!, fun _ => rfl⟩
            have cx : wc.cell? ⟨g, k, none⟩ = some (.int .u32 (G k)) := by rw [hG]; exact HP2.out.c k (by omega)
            have cm : wc.cell? ⟨g, m, none⟩ = some (.int .u32 (G m)) := by rw [hG]; exact HP2.out.c m (by omega)
            have fx := HP2.out.f k (by omega)
            have fm := HP2.out.f m (by omega)
            have hx0 : (k : Int) < (sz : Int) := by omega
            have hm0 : (m : Int) < (sz : Int) := by omega
            have HW := Lib.hid (HP2.out.swap0 k m (by omega) (by omega) hcap).drew1
            rw [← hG, ← hG] at HW
            clear hG
            go_wp2
            go_region
            go_upto_if 61 with fail
            revert HW
            generalize ((wc.setCell ⟨g, k, none⟩ (.int .u32 (G m))).setCell ⟨g, m, none⟩ (.int .u32 (G k))).drew = X2
            intro HW
            clear cx cm fx fm HP2
            obtain ⟨D, hD⟩ : ∃ D, D = swp d' k m := ⟨_, rfl⟩
            rw [← hD] at HW HT
            clear hD
            go_cut [] (fun wx => ∃ D2, Hid (D2 = fixDown vlt a k D) ∧ Hid (PR sz cap B g w D2 wx))
            case first =>
              by_cases h2 : k - a ≥ 2
              · have h2z : 2 ≤ (k : Int) - (a : Int) := by omega
                have HFD : Hid (fixDown vlt a k D = shiftDown vlt m D) := by show _ = _; unfold fixDown; rw [if_pos h2, HM.out]
                go_wp2_with fail
                go_loopg [9] (m + 1) (fun n v X => ∃ (j1 : Nat) (d1 : Array Nat), v = .int .i64 j1 ∧ n = j1 + 1 ∧ j1 ≤ m ∧ Hid (PR sz cap B g w d1 X) ∧ Hid (shiftDown vlt m D = shiftDown vlt j1 d1))
                case atStart => exact ⟨m, D, rfl, rfl, Nat.le_refl _, HW, rfl⟩
                case round =>
                  obtain ⟨j1, d1, rfl, rfl, hj1, HP1, HU⟩ := hrel
                  by_cases h1 : 1 ≤ j1
                  · have h1z : 1 ≤ (j1 : Int) := by omega
                    obtain ⟨y, hy⟩ : ∃ y, y = j1 - 1 := ⟨_, rfl⟩
                    have ey : (j1 : Int) - 1 = (y : Int) := by omega
                    have HY : Hid (j1 - 1 = y) := hy.symm
                    have hyj : y < j1 := by omega
                    clear hy
                    obtain ⟨G, hG⟩ : ∃ G : Nat → Nat, ∀ t, G t = d1[t]! := ⟨fun t => d1[t]!, fun _ => rfl⟩
                    have HG1 := Lib.hid hG
                    have cx : wr.cell? ⟨g, j1, none⟩ = some (.int .u32 (G j1)) := by rw [hG]; exact HP1.out.c j1 (by omega)
                    have cm : wr.cell? ⟨g, y, none⟩ = some (.int .u32 (G y)) := by rw [hG]; exact HP1.out.c y (by omega)
                    have fx := HP1.out.f j1 (by omega)
                    have fm := HP1.out.f y (by omega)
                    have hx0 : (j1 : Int) < (sz : Int) := by omega
                    have hm0 : (y : Int) < (sz : Int) := by omega
                    by_cases hk : G j1 < G y
                    · clear hG
                      have hkd : decide (G j1 < G y) = true := decide_eq_true hk
                      have HK := Lib.hid hkd
                      clear hk
                      have HU2 : Hid (shiftDown vlt m D = shiftDown vlt y (swp d1 j1 y)) := by show _ = _; rw [HU.out, Go.Proofs.shiftDown_go vlt j1 d1 h1 (by rw [HY.out, ← HG1.out, ← HG1.out]; exact HK.out), HY.out]
                      go_wp2_with fail
                      go_quiet (first | (go_at_call 52; refine Calls.quiet_of_same ((cLess_any _ _ _).mono fun _ _ h => ⟨h.1, h.2.symm⟩)))
                      go_wp2
                      have HP3 := Lib.hid (HP1.out.drewN nq)
                      obtain ⟨X3, hX3⟩ : ∃ X3, X3 = wr.drewN nq := ⟨_, rfl⟩
                      rw [← hX3] at HP3 ⊢
                      clear hX3 cx cm fx fm
                      have cx : X3.cell? ⟨g, j1, none⟩ = some (.int .u32 (G j1)) := by rw [HG1.out]; exact HP3.out.c j1 (by omega)
                      have cm : X3.cell? ⟨g, y, none⟩ = some (.int .u32 (G y)) := by rw [HG1.out]; exact HP3.out.c y (by omega)
                      have fx := HP3.out.f j1 (by omega)
                      have fm := HP3.out.f y (by omega)
                      have HW3 := Lib.hid (HP3.out.swap0 j1 y (by omega) (by omega) hcap).drew1
                      rw [← HG1.out, ← HG1.out] at HW3
                      go_region
                      go_wp2
                      go_roundg (y + 1)
                      case measure => omega
                      case rel => exact ⟨y, _, rfl, rfl, by omega, HW3, HU2⟩
                    · clear hG
                      have hkd : decide (G j1 < G y) = false := decide_eq_false hk
                      have HK := Lib.hid hkd
                      clear hk
                      have HU2 : Hid (d1 = fixDown vlt a k D) := by show _ = _; rw [HFD.out, HU.out, Go.Proofs.shiftDown_stop vlt j1 d1 (.inr (by rw [HY.out, ← HG1.out, ← HG1.out]; exact HK.out))]
                      go_wp2_with fail
                      go_quiet (first | (go_at_call 52; refine Calls.quiet_of_same ((cLess_any _ _ _).mono fun _ _ h => ⟨h.1, h.2.symm⟩)))
                      go_wp2_with fail
                      go_meet
                      exact ⟨d1, HU2, HP1.out.drewN nq⟩
                  · have h1z : ¬ 1 ≤ (j1 : Int) := by omega
                    have HU2 : Hid (d1 = fixDown vlt a k D) := by show _ = _; rw [HFD.out, HU.out, Go.Proofs.shiftDown_stop vlt j1 d1 (.inl (by omega))]
                    go_wp2_with fail
                    go_meet
                    exact ⟨d1, HU2, HP1⟩
              · have h2z : ¬ 2 ≤ (k : Int) - (a : Int) := by omega
                have HFD : Hid (D = fixDown vlt a k D) := by show _ = _; unfold fixDown; rw [if_neg h2]
                go_wp2_with fail
                go_meet
                exact ⟨D, HFD, HW⟩
            case rest =>
              obtain ⟨D2, HD2, HW2⟩ := hcut
              clear HW
              rw [← HD2.out] at HT
              by_cases h2 : b - k ≥ 2
              · have h2z : 2 ≤ (b : Int) - (k : Int) := by omega
                have HFD : Hid (fixUp vlt b k D2 = shiftUp vlt b (k + 1) D2) := by show _ = _; unfold fixUp; rw [if_pos h2]
                go_wp2_with fail
                go_loopg [10] (b + 1 - (k + 1)) (fun n v X => ∃ (j1 : Nat) (d1 : Array Nat), v = .int .i64 j1 ∧ n = b + 1 - j1 ∧ k + 1 ≤ j1 ∧ j1 ≤ b ∧ Hid (PR sz cap B g w d1 X) ∧ Hid (shiftUp vlt b (k + 1) D2 = shiftUp vlt b j1 d1))
                case atStart => exact ⟨k + 1, D2, by go_num, rfl, Nat.le_refl _, by omega, HW2, rfl⟩
                case round =>
                  obtain ⟨j1, d1, rfl, rfl, hj1, hj1b, HP1, HU⟩ := hrel
                  by_cases h1 : j1 < b
                  · have h1z : (j1 : Int) < (b : Int) := by omega
                    obtain ⟨y, hy⟩ : ∃ y, y = j1 - 1 := ⟨_, rfl⟩
                    have ey : (j1 : Int) - 1 = (y : Int) := by omega
                    have HY : Hid (j1 - 1 = y) := hy.symm
                    have hyj : y < j1 := by omega
                    clear hy
                    obtain ⟨G, hG⟩ : ∃ G : Nat → Nat, ∀ t, G t = d1[t]! := ⟨fun t => d1[t]!, fun _ => rfl⟩
                    have HG1 := Lib.hid hG
                    have cx : wr.cell? ⟨g, j1, none⟩ = some (.int .u32 (G j1)) := by rw [hG]; exact HP1.out.c j1 (by omega)
                    have cm : wr.cell? ⟨g, y, none⟩ = some (.int .u32 (G y)) := by rw [hG]; exact HP1.out.c y (by omega)
                    have fx := HP1.out.f j1 (by omega)
                    have fm := HP1.out.f y (by omega)
                    have hx0 : (j1 : Int) < (sz : Int) := by omega
                    have hm0 : (y : Int) < (sz : Int) := by omega
                    by_cases hk : G j1 < G y
                    · clear hG
                      have hkd : decide (G j1 < G y) = true := decide_eq_true hk
                      have HK := Lib.hid hkd
                      clear hk
                      have HU2 : Hid (shiftUp vlt b (k + 1) D2 = shiftUp vlt b (j1 + 1) (swp d1 j1 y)) := by show _ = _; rw [HU.out, Go.Proofs.shiftUp_go vlt b j1 d1 h1 (by rw [HY.out, ← HG1.out, ← HG1.out]; exact HK.out), HY.out]
                      go_wp2_with fail
                      go_quiet (first | (go_at_call 52; refine Calls.quiet_of_same ((cLess_any _ _ _).mono fun _ _ h => ⟨h.1, h.2.symm⟩)))
                      go_wp2
                      have HP3 := Lib.hid (HP1.out.drewN nq)
                      obtain ⟨X3, hX3⟩ : ∃ X3, X3 = wr.drewN nq := ⟨_, rfl⟩
                      rw [← hX3] at HP3 ⊢
                      clear hX3 cx cm fx fm
                      have cx : X3.cell? ⟨g, j1, none⟩ = some (.int .u32 (G j1)) := by rw [HG1.out]; exact HP3.out.c j1 (by omega)
                      have cm : X3.cell? ⟨g, y, none⟩ = some (.int .u32 (G y)) := by rw [HG1.out]; exact HP3.out.c y (by omega)
                      have fx := HP3.out.f j1 (by omega)
                      have fm := HP3.out.f y (by omega)
                      have HW3 := Lib.hid (HP3.out.swap0 j1 y (by omega) (by omega) hcap).drew1
                      rw [← HG1.out, ← HG1.out] at HW3
                      go_region
                      go_wp2
                      go_roundg (b + 1 - (j1 + 1))
                      case measure => omega
                      case rel => exact ⟨j1 + 1, _, by go_num, rfl, by omega, by omega, HW3, HU2⟩
                    · clear hG
                      have hkd : decide (G j1 < G y) = false := decide_eq_false hk
                      have HK := Lib.hid hkd
                      clear hk
                      have HU2 : Hid (d1 = fixUp vlt b k D2) := by show _ = _; rw [HFD.out, HU.out, Go.Proofs.shiftUp_stop vlt b j1 d1 (.inr (by rw [HY.out, ← HG1.out, ← HG1.out]; exact HK.out))]
                      go_wp2_with fail
                      go_quiet (first | (go_at_call 52; refine Calls.quiet_of_same ((cLess_any _ _ _).mono fun _ _ h => ⟨h.1, h.2.symm⟩)))
                      have HT2 := HT.out
                      rw [← HU2.out] at HT2
                      have HF : Hid (partialIns vlt a b (5 - (s + 1)) k d1 = partialInsertionSort vlt d a b) := by show _ = _; rw [← HD.out, HT2]
                      have HW4 := Lib.hid (HP1.out.drewN nq)
                      clear HT2
                      go_wp2
                      go_roundg (5 - (s + 1))
                      case measure => omega
                      case rel => exact ⟨k, s + 1, _, rfl, by go_num, rfl, by omega, by omega, by omega, HW4, HF⟩
                  · have h1z : ¬ (j1 : Int) < (b : Int) := by omega
                    have HU2 : Hid (d1 = fixUp vlt b k D2) := by show _ = _; rw [HFD.out, HU.out, Go.Proofs.shiftUp_stop vlt b j1 d1 (.inl h1)]
                    have HT2 := HT.out
                    rw [← HU2.out] at HT2
                    have HF : Hid (partialIns vlt a b (5 - (s + 1)) k d1 = partialInsertionSort vlt d a b) := by show _ = _; rw [← HD.out, HT2]
                    have HW4 := Lib.hid HP1.out
                    clear HT2
                    go_wp2
                    go_roundg (5 - (s + 1))
                    case measure => omega
                    case rel => exact ⟨k, s + 1, _, rfl, by go_num, rfl, by omega, by omega, by omega, HW4, HF⟩
              · have h2z : ¬ 2 ≤ (b : Int) - (k : Int) := by omega
                have HFD : Hid (D2 = fixUp vlt b k D2) := by show _ = _; unfold fixUp; rw [if_neg h2]
                have HT2 := HT.out
                rw [← HFD.out] at HT2
                have HF : Hid (partialIns vlt a b (5 - (s + 1)) k D2 = partialInsertionSort vlt d a b) := by show _ = _; rw [← HD.out, HT2]
                have HW4 := Lib.hid HW2.out
                clear HT2
                go_wp2
                go_roundg (5 - (s + 1))
                case measure => omega
                case rel => exact ⟨k, s + 1, _, rfl, by go_num, rfl, by omega, by omega, by omega, HW4, HF⟩
    · obtain rfl : s = 5 := by omega
      have hsz5 : ¬ (5 : Int) < 5 := by omega
      go_wp2
      go_ret
      have he := HD.out
      rw [show 5 - 5 = 5 - 5 from rfl, Go.Proofs.pi_end vlt a b i d'] at he
      exact ⟨by rw [← he]; rfl, by rw [← he]; exact HP.out⟩
end Go.Proofs.Ytdkkcogjkeonkaa
