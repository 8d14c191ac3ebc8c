/- The library's heap sort. -/
import Derived.Test.YtdkkcogjkeonkaaUxPr
import Derived.Sort.WalkB3
set_option maxRecDepth 100000
set_option maxHeartbeats 4000000
set_option linter.unusedVariables false
namespace Go.Proofs.Ytdkkcogjkeonkaa
open Go.RowKit
open Go.Sort (swp PermIn SortedIn siftDown heapBuild heapPop heapSort)
variable {sz cap B g : Nat} {w W W' : World} {d : Array Nat}
set_option maxHeartbeats 1000000 in
theorem sift32_any (h : PR sz cap B g w d W) (hsz : sz ≤ 1000) (hcap : sz ≤ cap) (lo hi F : Nat) (hlo : lo ≤ hi) (hb : F + hi ≤ sz) :
    Calls Try.prog 60 #[.slice (some ⟨g, 0, none⟩) sz cap, .int .i64 lo, .int .i64 hi, .int .i64 F] W fun e W' => e = .returned (.tuple #[]) ∧ PR sz cap B g w (siftDown vlt hi F lo d) W' := by
  have H0 := Lib.hid h
  clear h
  go_enter Try.func60, Try.ntmps60
  go_wp2
  go_loopg [8] (hi - lo) (fun k s8 X => ∃ (r : Nat) (d' : Array Nat), s8 = .int .i64 r ∧ k = hi - r ∧ lo ≤ r ∧ r ≤ hi ∧ Hid (PR sz cap B g w d' X) ∧ Hid (siftDown vlt hi F r d' = siftDown vlt hi F lo d))
  case atStart => exact ⟨lo, d, rfl, rfl, by omega, by omega, H0, rfl⟩
  case round =>
    obtain ⟨r, d', rfl, rfl, hlr, hrh, HP, HD⟩ := hrel
    obtain ⟨c, hc⟩ : ∃ c, c = 2 * r + 1 := ⟨_, rfl⟩
    have HC := Lib.hid hc
    have ec : 2 * (r : Int) + 1 = (c : Int) := by omega
    have EC := Lib.hid ec
    have HRC : Hid (r < c) := by show _ < _; omega
    clear hc ec
    by_cases hch : c < hi
    · have hcz : ¬ (hi : Int) ≤ (c : Int) := by omega
      obtain ⟨x, hx⟩ : ∃ x, x = F + c := ⟨_, rfl⟩
      obtain ⟨z, hz⟩ : ∃ z, z = F + r := ⟨_, rfl⟩
      have ex : (F : Int) + (c : Int) = (x : Int) := by omega
      have ez : (F : Int) + (r : Int) = (z : Int) := by omega
      have HXZ : Hid (x = F + (2 * r + 1) ∧ z = F + r ∧ c = 2 * r + 1) := by have := HC.out; show _ ∧ _ ∧ _; omega
      have hxs : x < sz := by omega
      have hzs : z < sz := by have := HRC.out; omega
      have hx0 : (x : Int) < (sz : Int) := by omega
      have hz0 : (z : Int) < (sz : Int) := by omega
      obtain ⟨G, hG⟩ : ∃ G : Nat → Nat, ∀ t, G t = d'[t]! := ⟨fun t => d'[t]!, fun _ => rfl⟩
      have HG := Lib.hid hG
      have cx : wr.cell? ⟨g, x, none⟩ = some (.int .u32 (G x)) := by rw [hG]; exact (HP.out.cell x (by omega)).1
      have cz : wr.cell? ⟨g, z, none⟩ = some (.int .u32 (G z)) := by rw [hG]; exact (HP.out.cell z (by omega)).1
      have fx := (HP.out.cell x (by omega)).2
      have fz := (HP.out.cell z (by omega)).2
      have wz : IntKind.i64.wrap (z : Int) = (z : Int) := by rw [IntKind.wrap_i64]; omega
      have wx : IntKind.i64.wrap (x : Int) = (x : Int) := by rw [IntKind.wrap_i64]; omega
      have hzx : z < x := by have := HRC.out; omega
      clear hx hz
      by_cases h2 : c + 1 < hi
      · have h2z : (c : Int) + 1 < (hi : Int) := by omega
        obtain ⟨y, hy⟩ : ∃ y, y = x + 1 := ⟨_, rfl⟩
        obtain ⟨c2, hc2⟩ : ∃ c2, c2 = c + 1 := ⟨_, rfl⟩
        have ey : (x : Int) + 1 = (y : Int) := by omega
        have ec2 : (c : Int) + 1 = (c2 : Int) := by omega
        have ey2 : (F : Int) + (c2 : Int) = (y : Int) := by omega
        have hys : y < sz := by omega
        have hc2h : c2 < hi := by omega
        have h2c : (c2 : Int) < (hi : Int) := by omega
        have hy0 : (y : Int) < (sz : Int) := by omega
        have cy : wr.cell? ⟨g, y, none⟩ = some (.int .u32 (G y)) := by rw [hG]; exact (HP.out.cell y (by omega)).1
        have fy := (HP.out.cell y (by omega)).2
        have wy : IntKind.i64.wrap (y : Int) = (y : Int) := by rw [IntKind.wrap_i64]; omega
        have HY : Hid (y = F + (2 * r + 2) ∧ c2 = 2 * r + 2 ∧ c2 = c + 1) := by have := HC.out; have := HXZ.out; show _ ∧ _ ∧ _; omega
        have hzy : z < y := by omega
        clear hy hc2 hG h2z
        go_upto_region 2 with fail
        rw [EC.out]
        go_wp2
        go_quiet (first | (go_at_call 52; refine Calls.quiet_of_same ((cLess_any _ _ _).mono fun _ _ h => ⟨h.1, h.2.symm⟩)))
        go_wp2
        · have hl : vlt (G x) (G y) = true := decide_eq_true (by omega)
          have HL := Lib.hid hl
          clear hl
          have HP1 := Lib.hid (HP.out.drewN nq)
          obtain ⟨X1, hX1⟩ : ∃ X1, X1 = wr.drewN nq := ⟨_, rfl⟩
          rw [← hX1] at HP1 ⊢
          clear hX1
          have dk : X1.cell? ⟨g, y, none⟩ = some (.int .u32 (G y)) := by rw [HG.out]; exact (HP1.out.cell y (by omega)).1
          have dz : X1.cell? ⟨g, z, none⟩ = some (.int .u32 (G z)) := by rw [HG.out]; exact (HP1.out.cell z (by omega)).1
          have dfk := (HP1.out.cell y (by omega)).2
          have dfz := (HP1.out.cell z (by omega)).2
          by_cases hk : G z < G y
          · have hkd : decide (G z < G y) = true := decide_eq_true hk
            have HK := Lib.hid hkd
            clear hk
            go_quiet (first | (go_at_call 52; refine Calls.quiet_of_same ((cLess_any _ _ _).mono fun _ _ h => ⟨h.1, h.2.symm⟩)))
            go_wp2
            go_region
            all_goals go_wp2
            go_roundg (hi - c2)
            case measure => have := HRC.out; omega
            case rel =>
              refine ⟨c2, swp d' z y, rfl, rfl, by have := HRC.out; omega, by omega, ?_, ?_⟩
              · rw [HG.out, HG.out]; exact HP1.out.swap _ z y (by omega) (by omega) hcap
              · show _ = _
                rw [← HD.out, Go.Sort.sd_right_go vlt d' (by have := HY.out; omega) (by have h1 := HXZ.out; have h2 := HY.out; rw [← h1.1, ← h2.1, ← HG.out, ← HG.out]; exact HL.out) (by have h1 := HXZ.out; have h2 := HY.out; rw [← h1.2.1, ← h2.1, ← HG.out, ← HG.out]; exact HK.out), ← HXZ.out.2.1, ← HY.out.1, ← HY.out.2.1]
          · have hkd : decide (G z < G y) = false := decide_eq_false hk
            have HK := Lib.hid hkd
            clear hk
            go_quiet (first | (go_at_call 52; refine Calls.quiet_of_same ((cLess_any _ _ _).mono fun _ _ h => ⟨h.1, h.2.symm⟩)))
            go_wp2
            (try simp only [Exit.inBlock, Exit.then]); refine bodyPost_ret (results_none rfl _ _ _) rfl ?_
            refine ⟨rfl, ?_⟩
            rw [← HD.out, Go.Sort.sd_right_stop vlt d' (by have := HY.out; omega) (by have h1 := HXZ.out; have h2 := HY.out; rw [← h1.1, ← h2.1, ← HG.out, ← HG.out]; exact HL.out) (by have h1 := HXZ.out; have h2 := HY.out; rw [← h1.2.1, ← h2.1, ← HG.out, ← HG.out]; exact HK.out)]
            exact (HP1.out.drewN _)
        · have hl : vlt (G x) (G y) = false := decide_eq_false (by omega)
          have HL := Lib.hid hl
          clear hl
          have HP1 := Lib.hid (HP.out.drewN nq)
          obtain ⟨X1, hX1⟩ : ∃ X1, X1 = wr.drewN nq := ⟨_, rfl⟩
          rw [← hX1] at HP1 ⊢
          clear hX1
          have dk : X1.cell? ⟨g, x, none⟩ = some (.int .u32 (G x)) := by rw [HG.out]; exact (HP1.out.cell x (by omega)).1
          have dz : X1.cell? ⟨g, z, none⟩ = some (.int .u32 (G z)) := by rw [HG.out]; exact (HP1.out.cell z (by omega)).1
          have dfk := (HP1.out.cell x (by omega)).2
          have dfz := (HP1.out.cell z (by omega)).2
          by_cases hk : G z < G x
          · have hkd : decide (G z < G x) = true := decide_eq_true hk
            have HK := Lib.hid hkd
            clear hk
            go_quiet (first | (go_at_call 52; refine Calls.quiet_of_same ((cLess_any _ _ _).mono fun _ _ h => ⟨h.1, h.2.symm⟩)))
            go_wp2
            go_region
            all_goals go_wp2
            go_roundg (hi - c)
            case measure => have := HRC.out; omega
            case rel =>
              refine ⟨c, swp d' z x, rfl, rfl, by have := HRC.out; omega, by omega, ?_, ?_⟩
              · rw [HG.out, HG.out]; exact HP1.out.swap _ z x (by omega) (by omega) hcap
              · show _ = _
                rw [← HD.out, Go.Sort.sd_left_go vlt d' (by have := HXZ.out; omega) (fun _ => by have h1 := HXZ.out; have h2 := HY.out; rw [← h1.1, ← h2.1, ← HG.out, ← HG.out]; exact HL.out) (by have h1 := HXZ.out; rw [← h1.2.1, ← h1.1, ← HG.out, ← HG.out]; exact HK.out), ← HXZ.out.2.1, ← HXZ.out.1, ← HXZ.out.2.2]
          · have hkd : decide (G z < G x) = false := decide_eq_false hk
            have HK := Lib.hid hkd
            clear hk
            go_quiet (first | (go_at_call 52; refine Calls.quiet_of_same ((cLess_any _ _ _).mono fun _ _ h => ⟨h.1, h.2.symm⟩)))
            go_wp2
            (try simp only [Exit.inBlock, Exit.then]); refine bodyPost_ret (results_none rfl _ _ _) rfl ?_
            refine ⟨rfl, ?_⟩
            rw [← HD.out, Go.Sort.sd_left_stop vlt d' (by have := HXZ.out; omega) (fun _ => by have h1 := HXZ.out; have h2 := HY.out; rw [← h1.1, ← h2.1, ← HG.out, ← HG.out]; exact HL.out) (by have h1 := HXZ.out; rw [← h1.2.1, ← h1.1, ← HG.out, ← HG.out]; exact HK.out)]
            exact (HP1.out.drewN _)
      · have h2z : decide ((c : Int) + 1 < (hi : Int)) = false := decide_eq_false (by omega)
        clear hG
        go_upto_region 2 with fail
        rw [EC.out]
        go_wp2
        go_quiet (first | (go_at_call 52; refine Calls.quiet_of_same ((cLess_any _ _ _).mono fun _ _ h => ⟨h.1, h.2.symm⟩)))
        go_wp2
        have HP1 := Lib.hid (HP.out.drewN nq)
        obtain ⟨X1, hX1⟩ : ∃ X1, X1 = wr.drewN nq := ⟨_, rfl⟩
        rw [← hX1] at HP1 ⊢
        clear hX1
        have dk : X1.cell? ⟨g, x, none⟩ = some (.int .u32 (G x)) := by rw [HG.out]; exact (HP1.out.cell x (by omega)).1
        have dz : X1.cell? ⟨g, z, none⟩ = some (.int .u32 (G z)) := by rw [HG.out]; exact (HP1.out.cell z (by omega)).1
        have dfk := (HP1.out.cell x (by omega)).2
        have dfz := (HP1.out.cell z (by omega)).2
        by_cases hk : G z < G x
        · have hkd : decide (G z < G x) = true := decide_eq_true hk
          have HK := Lib.hid hkd
          clear hk
          go_quiet (first | (go_at_call 52; refine Calls.quiet_of_same ((cLess_any _ _ _).mono fun _ _ h => ⟨h.1, h.2.symm⟩)))
          go_wp2
          go_region
          all_goals go_wp2
          go_roundg (hi - c)
          case measure => have := HRC.out; omega
          case rel =>
            refine ⟨c, swp d' z x, rfl, rfl, by have := HRC.out; omega, by omega, ?_, ?_⟩
            · rw [HG.out, HG.out]; exact HP1.out.swap _ z x (by omega) (by omega) hcap
            · show _ = _
              rw [← HD.out, Go.Sort.sd_left_go vlt d' (by have := HXZ.out; omega) (fun h => by have := HXZ.out; omega) (by have h1 := HXZ.out; rw [← h1.2.1, ← h1.1, ← HG.out, ← HG.out]; exact HK.out), ← HXZ.out.2.1, ← HXZ.out.1, ← HXZ.out.2.2]
        · have hkd : decide (G z < G x) = false := decide_eq_false hk
          have HK := Lib.hid hkd
          clear hk
          go_quiet (first | (go_at_call 52; refine Calls.quiet_of_same ((cLess_any _ _ _).mono fun _ _ h => ⟨h.1, h.2.symm⟩)))
          go_wp2
          (try simp only [Exit.inBlock, Exit.then]); refine bodyPost_ret (results_none rfl _ _ _) rfl ?_
          refine ⟨rfl, ?_⟩
          rw [← HD.out, Go.Sort.sd_left_stop vlt d' (by have := HXZ.out; omega) (fun h => by have := HXZ.out; omega) (by have h1 := HXZ.out; rw [← h1.2.1, ← h1.1, ← HG.out, ← HG.out]; exact HK.out)]
          exact (HP1.out.drewN _)
    · have hcz : (hi : Int) ≤ (c : Int) := by omega
      go_upto_region 2 with fail
      rw [EC.out]
      go_wp2
      go_end0
      refine ⟨rfl, ?_⟩
      rw [← HD.out, Go.Sort.sd_end vlt d' (by have := HC.out; omega)]
      exact HP.out
end Go.Proofs.Ytdkkcogjkeonkaa
