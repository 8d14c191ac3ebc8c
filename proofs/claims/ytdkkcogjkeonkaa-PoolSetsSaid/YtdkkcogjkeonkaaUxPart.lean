/- The library's partition. -/
import Derived.Test.YtdkkcogjkeonkaaUxPartE
import Derived.Sort.WalkC4
set_option maxRecDepth 100000
set_option maxHeartbeats 4000000
set_option linter.unusedVariables false
namespace Go.Proofs.Ytdkkcogjkeonkaa
open Go.RowKit
open Go.Sort (swp PermIn SortedIn scanUp scanDown partLoop partition)
variable {sz cap B g : Nat} {w W W' : World} {d : Array Nat}
set_option maxHeartbeats 2000000 in
theorem part32_any (h : PR sz cap B g w d W) (hsz : sz ≤ 1000) (hcap : sz ≤ cap) (a b p : Nat) (hap : a < p) (hpb : p < b) (hb : b ≤ sz) :
    Calls Try.prog 54 #[.slice (some ⟨g, 0, none⟩) sz cap, .int .i64 a, .int .i64 b, .int .i64 p] W fun e W' => e = .returned (.tuple #[.int .i64 (partition vlt d a b p).1, .bool (partition vlt d a b p).2.1]) ∧ PR sz cap B g w (partition vlt d a b p).2.2 W' := by
  obtain ⟨G, hG⟩ : ∃ G : Nat → Nat, ∀ t, G t = d[t]! := ⟨fun t => d[t]!, fun _ => rfl⟩
  have ca : W.cell? ⟨g, a, none⟩ = some (.int .u32 (G a)) := by rw [hG]; exact h.c a (by omega)
  have cp : W.cell? ⟨g, p, none⟩ = some (.int .u32 (G p)) := by rw [hG]; exact h.c p (by omega)
  have fa := h.f a (by omega)
  have fp := h.f p (by omega)
  have ha0 : (a : Int) < (sz : Int) := by omega
  have hp0 : (p : Int) < (sz : Int) := by omega
  obtain ⟨i, hi⟩ : ∃ i, i = a + 1 := ⟨_, rfl⟩
  obtain ⟨j, hj⟩ : ∃ j, j = b - 1 := ⟨_, rfl⟩
  have E1 : Hid ((a : Int) + 1 = (i : Int)) := by show _ = _; omega
  have E2 : Hid ((b : Int) - 1 = (j : Int)) := by show _ = _; omega
  have H1 : Hid (PR sz cap B g w (swp d a p) ((W.setCell ⟨g, a, none⟩ (eV d[p]!)).setCell ⟨g, p, none⟩ (eV d[a]!)).drew) := (h.swap0 a p (by omega) (by omega) hcap).drewN 1
  rw [← hG, ← hG] at H1
  obtain ⟨d', hd⟩ : ∃ d', d' = swp d a p := ⟨_, rfl⟩
  rw [← hd] at H1
  have HI := Lib.hid hi
  have HJ := Lib.hid hj
  have HDK := Lib.hid hd
  have hai : a < i := by omega
  have hij : i ≤ j + 1 := by omega
  have hjb : j < b := by omega
  clear hG h hi hj hd
  go_enter Try.func54, Try.ntmps54
  go_wp2
  go_region
  go_upto_region 2 with fail
  revert H1
  generalize ((W.setCell ⟨g, a, none⟩ (.int .u32 (G p))).setCell ⟨g, p, none⟩ (.int .u32 (G a))).drew = X1
  intro HP
  clear ca cp fa fp
  go_upto_block 0 with fail
  simp only [E1.out, E2.out]
  go_cut [10] from 30 to 45 (fun s wx => ∃ i2 : Nat, s = .int .i64 i2 ∧ i ≤ i2 ∧ i2 ≤ j + 1 ∧ Hid (i2 = scanUp (fun x => vlt x d'[a]!) d' j i) ∧ Hid (PR sz cap B g w d' wx))
  case first =>
    go_wp2_with fail
    go_loopg [10] (j + 2 - i) (fun n s X => ∃ i1 : Nat, s = .int .i64 i1 ∧ n = j + 2 - i1 ∧ i ≤ i1 ∧ i1 ≤ j + 1 ∧ Hid (PR sz cap B g w d' X) ∧ Hid (scanUp (fun x => vlt x d'[a]!) d' j i1 = scanUp (fun x => vlt x d'[a]!) d' j i))
    case atStart => exact ⟨i, rfl, rfl, Nat.le_refl _, hij, HP, rfl⟩
    case round =>
      obtain ⟨i1, rfl, rfl, hi1, hi1j, HP1, HU⟩ := hrel
      by_cases h1 : i1 ≤ j
      · have h1z : (i1 : Int) ≤ (j : Int) := by omega
        obtain ⟨G, hG⟩ : ∃ G : Nat → Nat, ∀ t, G t = d'[t]! := ⟨fun t => d'[t]!, fun _ => rfl⟩
        have HG1 := Lib.hid hG
        have ca : wr.cell? ⟨g, a, none⟩ = some (.int .u32 (G a)) := by rw [hG]; exact HP1.out.c a (by omega)
        have ci : wr.cell? ⟨g, i1, none⟩ = some (.int .u32 (G i1)) := by rw [hG]; exact HP1.out.c i1 (by omega)
        have hi0 : (i1 : Int) < (sz : Int) := by omega
        clear hG
        by_cases hk : G i1 < G a
        · have hkd : decide (G i1 < G a) = true := decide_eq_true hk
          have HK := Lib.hid hkd
          clear hk
          go_wp2_with fail
          go_quiet (first | (go_at_call 52; refine Calls.quiet_of_same ((cLess_any _ _ _).mono fun _ _ h => ⟨h.1, h.2.symm⟩)))
          go_wp2
          go_roundg (j + 2 - (i1 + 1))
          case measure => omega
          case rel => exact ⟨i1 + 1, by go_num, rfl, by omega, by omega, HP1.out.drewN nq, by show _ = _; rw [← HU.out, Go.Proofs.scanUp_go _ d' j i1 h1 (by rw [← HG1.out, ← HG1.out]; exact HK.out)]⟩
        · have hkd : decide (G i1 < G a) = false := decide_eq_false hk
          have HK := Lib.hid hkd
          clear hk
          go_wp2_with fail
          go_quiet (first | (go_at_call 52; refine Calls.quiet_of_same ((cLess_any _ _ _).mono fun _ _ h => ⟨h.1, h.2.symm⟩)))
          go_wp2_with fail
          go_meet
          exact ⟨i1, rfl, by omega, by omega, by show _ = _; rw [← HU.out, Go.Proofs.scanUp_end _ d' j i1 (.inr (by rw [← HG1.out, ← HG1.out]; exact HK.out))], HP1.out.drewN nq⟩
      · have h1z : decide ((i1 : Int) ≤ (j : Int)) = false := decide_eq_false (by omega)
        go_wp2_with fail
        go_quiet (first | (go_at_call 52; refine Calls.quiet_of_same ((cLess_any _ _ _).mono fun _ _ h => ⟨h.1, h.2.symm⟩)))
        go_wp2_with fail
        go_meet
        exact ⟨i1, rfl, by omega, by omega, by show _ = _; rw [← HU.out, Go.Proofs.scanUp_end _ d' j i1 (.inl h1)], HP1.out.drewN nq⟩
  case rest =>
    
    obtain ⟨i2, rfl, hi2, hi2j, HI2, HP2⟩ := hcut
    clear HP
    go_upto_block 2 with fail
    go_cut [11] from 46 to 62 (fun s wx => ∃ j2 : Nat, s = .int .i64 j2 ∧ j2 ≤ j ∧ i2 ≤ j2 + 1 ∧ Hid (j2 = scanDown (fun x => !vlt x d'[a]!) d' i2 j) ∧ Hid (PR sz cap B g w d' wx))
    case first =>
      go_wp2_with fail
      go_loopg [11] (j + 2 - i2) (fun n s X => ∃ j1 : Nat, s = .int .i64 j1 ∧ n = j1 + 2 - i2 ∧ j1 ≤ j ∧ i2 ≤ j1 + 1 ∧ Hid (PR sz cap B g w d' X) ∧ Hid (scanDown (fun x => !vlt x d'[a]!) d' i2 j1 = scanDown (fun x => !vlt x d'[a]!) d' i2 j))
      case atStart => exact ⟨j, rfl, rfl, Nat.le_refl _, hi2j, HP2, rfl⟩
      case round =>
        obtain ⟨j1, rfl, rfl, hj1, hj1i, HP1, HU⟩ := hrel
        by_cases h1 : i2 ≤ j1
        · have h1z : (i2 : Int) ≤ (j1 : Int) := by omega
          obtain ⟨G, hG⟩ : ∃ G : Nat → Nat, ∀ t, G t = d'[t]! := ⟨fun t => d'[t]!, fun _ => rfl⟩
          have HG1 := Lib.hid hG
          have ca : wr.cell? ⟨g, a, none⟩ = some (.int .u32 (G a)) := by rw [hG]; exact HP1.out.c a (by omega)
          have cj : wr.cell? ⟨g, j1, none⟩ = some (.int .u32 (G j1)) := by rw [hG]; exact HP1.out.c j1 (by omega)
          have hj0 : (j1 : Int) < (sz : Int) := by omega
          have hj1p : 0 < j1 := by omega
          clear hG
          by_cases hk : G j1 < G a
          · have hkd : decide (G j1 < G a) = true := decide_eq_true hk
            have HK := Lib.hid hkd
            clear hk
            go_wp2_with fail
            go_quiet (first | (go_at_call 52; refine Calls.quiet_of_same ((cLess_any _ _ _).mono fun _ _ h => ⟨h.1, h.2.symm⟩)))
            go_wp2_with fail
            go_meet
            exact ⟨j1, rfl, by omega, by omega, by show _ = _; rw [← HU.out, Go.Proofs.scanDown_end _ d' i2 j1 (.inr (by rw [← HG1.out, ← HG1.out]; show (!decide _) = false; rw [HK.out]; rfl))], HP1.out.drewN nq⟩
          · have hkd : decide (G j1 < G a) = false := decide_eq_false hk
            have HK := Lib.hid hkd
            clear hk
            go_wp2_with fail
            go_quiet (first | (go_at_call 52; refine Calls.quiet_of_same ((cLess_any _ _ _).mono fun _ _ h => ⟨h.1, h.2.symm⟩)))
            go_wp2
            go_roundg (j1 - 1 + 2 - i2)
            case measure => omega
            case rel => exact ⟨j1 - 1, by go_num, rfl, by omega, by omega, HP1.out.drewN nq, by show _ = _; rw [← HU.out, Go.Proofs.scanDown_go _ d' i2 j1 h1 (by omega) (by rw [← HG1.out, ← HG1.out]; show (!decide _) = true; rw [HK.out]; rfl)]⟩
        · have h1z : decide ((i2 : Int) ≤ (j1 : Int)) = false := decide_eq_false (by omega)
          go_wp2_with fail
          go_quiet (first | (go_at_call 52; refine Calls.quiet_of_same ((cLess_any _ _ _).mono fun _ _ h => ⟨h.1, h.2.symm⟩)))
          go_wp2_with fail
          go_meet
          exact ⟨j1, rfl, by omega, by omega, by show _ = _; rw [← HU.out, Go.Proofs.scanDown_end _ d' i2 j1 (.inl h1)], HP1.out.drewN nq⟩
    case rest =>
      
      obtain ⟨j2, rfl, hj2, hj2i, HJ2, HP3⟩ := hcut
      clear HP2
      by_cases hij2 : j2 < i2
      · have hz : (j2 : Int) < (i2 : Int) := by omega
        by_cases hja : j2 = a
        · subst hja
          obtain ⟨G, hG⟩ : ∃ G : Nat → Nat, ∀ t, G t = d'[t]! := ⟨fun t => d'[t]!, fun _ => rfl⟩
          have ca := HP3.out.c j2 (by omega)
          have fa := HP3.out.f j2 (by omega)
          rw [← hG] at ca
          have ha0 : (j2 : Int) < (sz : Int) := by omega
          have HW := Lib.hid ((HP3.out.swap0 j2 j2 (by omega) (by omega) hcap).drewN 1)
          rw [← hG] at HW
          have HEQ := Lib.hid (Go.Proofs.part_first_break vlt d _ b p HI.out HJ.out HDK.out HI2.out HJ2.out hij2)
          clear hG
          go_wp2
          go_region
          go_wp2
          go_ret2
          have he := HEQ.out
          exact ⟨by rw [he]; rfl, by rw [he]; exact HW.out⟩
        · obtain ⟨G, hG⟩ : ∃ G : Nat → Nat, ∀ t, G t = d'[t]! := ⟨fun t => d'[t]!, fun _ => rfl⟩
          have ca := HP3.out.c a (by omega)
          have cj := HP3.out.c j2 (by omega)
          rw [← hG] at ca cj
          have fa := HP3.out.f a (by omega)
          have fj := HP3.out.f j2 (by omega)
          have ha0 : (a : Int) < (sz : Int) := by omega
          have hj0 : (j2 : Int) < (sz : Int) := by omega
          have hne : a < j2 := by omega
          have HW := Lib.hid ((HP3.out.swap0 j2 a (by omega) (by omega) hcap).drewN 1)
          rw [← hG, ← hG] at HW
          have HEQ := Lib.hid (Go.Proofs.part_first_break vlt d _ b p HI.out HJ.out HDK.out HI2.out HJ2.out hij2)
          clear hG hja
          go_wp2
          go_region
          go_wp2
          go_ret2
          have he := HEQ.out
          exact ⟨by rw [he]; rfl, by rw [he]; exact HW.out⟩
      · skip
        have hz : ¬ (j2 : Int) < (i2 : Int) := by omega
        have hlt : i2 < j2 := Go.Proofs.part_scans_lt vlt a i j d' (by omega) HI2.out HJ2.out (by omega)
        obtain ⟨G, hG⟩ : ∃ G : Nat → Nat, ∀ t, G t = d'[t]! := ⟨fun t => d'[t]!, fun _ => rfl⟩
        have ci := HP3.out.c i2 (by omega)
        have cj := HP3.out.c j2 (by omega)
        rw [← hG] at ci cj
        have fi := HP3.out.f i2 (by omega)
        have fj := HP3.out.f j2 (by omega)
        have hi0 : (i2 : Int) < (sz : Int) := by omega
        have hj0 : (j2 : Int) < (sz : Int) := by omega
        have HW := Lib.hid (HP3.out.swap0 i2 j2 (by omega) (by omega) hcap).drew1
        rw [← hG, ← hG] at HW
        clear hG
        have HGO := Lib.hid (Go.Proofs.part_first_go vlt d a b p HI.out HJ.out HDK.out HI2.out HJ2.out (by omega))
        go_wp2
        go_region
        go_wp2
        revert HW
        generalize ((wc.setCell ⟨g, i2, none⟩ (.int .u32 (G j2))).setCell ⟨g, j2, none⟩ (.int .u32 (G i2))).drew = X2
        intro HW
        obtain ⟨R, hR⟩ : ∃ R, R = partLoop vlt a (i2 + 1) (j2 - 1) (swp d' i2 j2) := ⟨_, rfl⟩
        rw [← hR] at HGO
        have HR : Hid (partLoop vlt a (i2 + 1) (j2 - 1) (swp d' i2 j2) = R) := hR.symm
        clear hR ci cj fi fj HI HJ HDK HI2 HJ2 E1 E2 HP3 hz hij2
        go_loopg [10, 11] (j2 - 1 + 2 - (i2 + 1)) (fun n s10 s11 X => ∃ (i j : Nat) (d' : Array Nat), s10 = .int .i64 i ∧ s11 = .int .i64 j ∧ n = j + 2 - i ∧ a < i ∧ i ≤ j + 1 ∧ j < b ∧ Hid (PR sz cap B g w d' X) ∧ Hid (partLoop vlt a i j d' = R))
        case atStart => exact ⟨i2 + 1, j2 - 1, _, by go_num, by go_num, rfl, by omega, by omega, by omega, HW, HR⟩
        case round =>
          clear HW HR hlt hi2 hi2j hj2 hj2i hi0 hj0 hai hij hjb
          obtain ⟨i, j, d', rfl, rfl, rfl, hai, hij, hjb, HP, HD⟩ := hrel
          go_upto_block 6 with fail
          go_cut [10] from 99 to 114 (fun s wx => ∃ i2 : Nat, s = .int .i64 i2 ∧ i ≤ i2 ∧ i2 ≤ j + 1 ∧ Hid (i2 = scanUp (fun x => vlt x d'[a]!) d' j i) ∧ Hid (PR sz cap B g w d' wx))
          case first =>
            go_wp2_with fail
            go_loopg [10] (j + 2 - i) (fun n s X => ∃ i1 : Nat, s = .int .i64 i1 ∧ n = j + 2 - i1 ∧ i ≤ i1 ∧ i1 ≤ j + 1 ∧ Hid (PR sz cap B g w d' X) ∧ Hid (scanUp (fun x => vlt x d'[a]!) d' j i1 = scanUp (fun x => vlt x d'[a]!) d' j i))
            case atStart => exact ⟨i, rfl, rfl, Nat.le_refl _, hij, HP, rfl⟩
            case round =>
              obtain ⟨i1, rfl, rfl, hi1, hi1j, HP1, HU⟩ := hrel
              by_cases h1 : i1 ≤ j
              · have h1z : (i1 : Int) ≤ (j : Int) := by omega
                obtain ⟨G, hG⟩ : ∃ G : Nat → Nat, ∀ t, G t = d'[t]! := ⟨fun t => d'[t]!, fun _ => rfl⟩
                have HG1 := Lib.hid hG
                have ca : wr.cell? ⟨g, a, none⟩ = some (.int .u32 (G a)) := by rw [hG]; exact HP1.out.c a (by omega)
                have ci : wr.cell? ⟨g, i1, none⟩ = some (.int .u32 (G i1)) := by rw [hG]; exact HP1.out.c i1 (by omega)
                have hi0 : (i1 : Int) < (sz : Int) := by omega
                clear hG
                by_cases hk : G i1 < G a
                · have hkd : decide (G i1 < G a) = true := decide_eq_true hk
                  have HK := Lib.hid hkd
                  clear hk
                  go_wp2_with fail
                  go_quiet (first | (go_at_call 52; refine Calls.quiet_of_same ((cLess_any _ _ _).mono fun _ _ h => ⟨h.1, h.2.symm⟩)))
                  go_wp2
                  go_roundg (j + 2 - (i1 + 1))
                  case measure => omega
                  case rel => exact ⟨i1 + 1, by go_num, rfl, by omega, by omega, HP1.out.drewN nq, by show _ = _; rw [← HU.out, Go.Proofs.scanUp_go _ d' j i1 h1 (by rw [← HG1.out, ← HG1.out]; exact HK.out)]⟩
                · have hkd : decide (G i1 < G a) = false := decide_eq_false hk
                  have HK := Lib.hid hkd
                  clear hk
                  go_wp2_with fail
                  go_quiet (first | (go_at_call 52; refine Calls.quiet_of_same ((cLess_any _ _ _).mono fun _ _ h => ⟨h.1, h.2.symm⟩)))
                  go_wp2_with fail
                  go_meet
                  exact ⟨i1, rfl, by omega, by omega, by show _ = _; rw [← HU.out, Go.Proofs.scanUp_end _ d' j i1 (.inr (by rw [← HG1.out, ← HG1.out]; exact HK.out))], HP1.out.drewN nq⟩
              · have h1z : decide ((i1 : Int) ≤ (j : Int)) = false := decide_eq_false (by omega)
                go_wp2_with fail
                go_quiet (first | (go_at_call 52; refine Calls.quiet_of_same ((cLess_any _ _ _).mono fun _ _ h => ⟨h.1, h.2.symm⟩)))
                go_wp2_with fail
                go_meet
                exact ⟨i1, rfl, by omega, by omega, by show _ = _; rw [← HU.out, Go.Proofs.scanUp_end _ d' j i1 (.inl h1)], HP1.out.drewN nq⟩
          case rest =>
            
            obtain ⟨i2, rfl, hi2, hi2j, HI2, HP2⟩ := hcut
            clear HP
            go_upto_block 8 with fail
            go_cut [11] from 115 to 131 (fun s wx => ∃ j2 : Nat, s = .int .i64 j2 ∧ j2 ≤ j ∧ i2 ≤ j2 + 1 ∧ Hid (j2 = scanDown (fun x => !vlt x d'[a]!) d' i2 j) ∧ Hid (PR sz cap B g w d' wx))
            case first =>
              go_wp2_with fail
              go_loopg [11] (j + 2 - i2) (fun n s X => ∃ j1 : Nat, s = .int .i64 j1 ∧ n = j1 + 2 - i2 ∧ j1 ≤ j ∧ i2 ≤ j1 + 1 ∧ Hid (PR sz cap B g w d' X) ∧ Hid (scanDown (fun x => !vlt x d'[a]!) d' i2 j1 = scanDown (fun x => !vlt x d'[a]!) d' i2 j))
              case atStart => exact ⟨j, rfl, rfl, Nat.le_refl _, hi2j, HP2, rfl⟩
              case round =>
                obtain ⟨j1, rfl, rfl, hj1, hj1i, HP1, HU⟩ := hrel
                by_cases h1 : i2 ≤ j1
                · have h1z : (i2 : Int) ≤ (j1 : Int) := by omega
                  obtain ⟨G, hG⟩ : ∃ G : Nat → Nat, ∀ t, G t = d'[t]! := ⟨fun t => d'[t]!, fun _ => rfl⟩
                  have HG1 := Lib.hid hG
                  have ca : wr.cell? ⟨g, a, none⟩ = some (.int .u32 (G a)) := by rw [hG]; exact HP1.out.c a (by omega)
                  have cj : wr.cell? ⟨g, j1, none⟩ = some (.int .u32 (G j1)) := by rw [hG]; exact HP1.out.c j1 (by omega)
                  have hj0 : (j1 : Int) < (sz : Int) := by omega
                  have hj1p : 0 < j1 := by omega
                  clear hG
                  by_cases hk : G j1 < G a
                  · have hkd : decide (G j1 < G a) = true := decide_eq_true hk
                    have HK := Lib.hid hkd
                    clear hk
                    go_wp2_with fail
                    go_quiet (first | (go_at_call 52; refine Calls.quiet_of_same ((cLess_any _ _ _).mono fun _ _ h => ⟨h.1, h.2.symm⟩)))
                    go_wp2_with fail
                    go_meet
                    exact ⟨j1, rfl, by omega, by omega, by show _ = _; rw [← HU.out, Go.Proofs.scanDown_end _ d' i2 j1 (.inr (by rw [← HG1.out, ← HG1.out]; show (!decide _) = false; rw [HK.out]; rfl))], HP1.out.drewN nq⟩
                  · have hkd : decide (G j1 < G a) = false := decide_eq_false hk
                    have HK := Lib.hid hkd
                    clear hk
                    go_wp2_with fail
                    go_quiet (first | (go_at_call 52; refine Calls.quiet_of_same ((cLess_any _ _ _).mono fun _ _ h => ⟨h.1, h.2.symm⟩)))
                    go_wp2
                    go_roundg (j1 - 1 + 2 - i2)
                    case measure => omega
                    case rel => exact ⟨j1 - 1, by go_num, rfl, by omega, by omega, HP1.out.drewN nq, by show _ = _; rw [← HU.out, Go.Proofs.scanDown_go _ d' i2 j1 h1 (by omega) (by rw [← HG1.out, ← HG1.out]; show (!decide _) = true; rw [HK.out]; rfl)]⟩
                · have h1z : decide ((i2 : Int) ≤ (j1 : Int)) = false := decide_eq_false (by omega)
                  go_wp2_with fail
                  go_quiet (first | (go_at_call 52; refine Calls.quiet_of_same ((cLess_any _ _ _).mono fun _ _ h => ⟨h.1, h.2.symm⟩)))
                  go_wp2_with fail
                  go_meet
                  exact ⟨j1, rfl, by omega, by omega, by show _ = _; rw [← HU.out, Go.Proofs.scanDown_end _ d' i2 j1 (.inl h1)], HP1.out.drewN nq⟩
            case rest =>
              
              obtain ⟨j2, rfl, hj2, hj2i, HJ2, HP3⟩ := hcut
              clear HP2
              by_cases hij2 : j2 < i2
              · have hz : (j2 : Int) < (i2 : Int) := by omega
                have HRE : Hid (R = (j2, d')) := by show _ = _; rw [← HD.out, Go.Proofs.part_break vlt a i j d' HI2.out HJ2.out hij2]
                by_cases hja : j2 = a
                · subst hja
                  obtain ⟨G, hG⟩ : ∃ G : Nat → Nat, ∀ t, G t = d'[t]! := ⟨fun t => d'[t]!, fun _ => rfl⟩
                  have ca := HP3.out.c j2 (by omega)
                  have fa := HP3.out.f j2 (by omega)
                  rw [← hG] at ca
                  have ha0 : (j2 : Int) < (sz : Int) := by omega
                  have HW := Lib.hid ((HP3.out.swap0 j2 j2 (by omega) (by omega) hcap).drewN 1)
                  rw [← hG] at HW
                  have HEQ := Lib.hid (HGO.out.trans (congrArg (fun r : Nat × Array Nat => (r.1, false, swp r.2 r.1 _)) HRE.out))
                  clear hG
                  go_wp2
                  go_region
                  go_wp2
                  go_ret2
                  have he := HEQ.out
                  exact ⟨by rw [he]; rfl, by rw [he]; exact HW.out⟩
                · obtain ⟨G, hG⟩ : ∃ G : Nat → Nat, ∀ t, G t = d'[t]! := ⟨fun t => d'[t]!, fun _ => rfl⟩
                  have ca := HP3.out.c a (by omega)
                  have cj := HP3.out.c j2 (by omega)
                  rw [← hG] at ca cj
                  have fa := HP3.out.f a (by omega)
                  have fj := HP3.out.f j2 (by omega)
                  have ha0 : (a : Int) < (sz : Int) := by omega
                  have hj0 : (j2 : Int) < (sz : Int) := by omega
                  have hne : a < j2 := by omega
                  have HW := Lib.hid ((HP3.out.swap0 j2 a (by omega) (by omega) hcap).drewN 1)
                  rw [← hG, ← hG] at HW
                  have HEQ := Lib.hid (HGO.out.trans (congrArg (fun r : Nat × Array Nat => (r.1, false, swp r.2 r.1 _)) HRE.out))
                  clear hG hja
                  go_wp2
                  go_region
                  go_wp2
                  go_ret2
                  have he := HEQ.out
                  exact ⟨by rw [he]; rfl, by rw [he]; exact HW.out⟩
              · skip
                have hz : ¬ (j2 : Int) < (i2 : Int) := by omega
                have hlt : i2 < j2 := Go.Proofs.part_scans_lt vlt a i j d' (by omega) HI2.out HJ2.out (by omega)
                obtain ⟨G, hG⟩ : ∃ G : Nat → Nat, ∀ t, G t = d'[t]! := ⟨fun t => d'[t]!, fun _ => rfl⟩
                have ci := HP3.out.c i2 (by omega)
                have cj := HP3.out.c j2 (by omega)
                rw [← hG] at ci cj
                have fi := HP3.out.f i2 (by omega)
                have fj := HP3.out.f j2 (by omega)
                have hi0 : (i2 : Int) < (sz : Int) := by omega
                have hj0 : (j2 : Int) < (sz : Int) := by omega
                have HW := Lib.hid (HP3.out.swap0 i2 j2 (by omega) (by omega) hcap).drew1
                rw [← hG, ← hG] at HW
                clear hG
                have HGO2 := Lib.hid (Go.Proofs.part_go vlt a i j d' HI2.out HJ2.out (by omega))
                go_wp2
                go_region
                go_wp2
                go_roundg (j2 - 1 + 2 - (i2 + 1))
                case measure => omega
                case rel => exact ⟨i2 + 1, j2 - 1, swp d' i2 j2, by go_num, by go_num, rfl, by omega, by omega, by omega, HW, by show _ = _; rw [← HD.out, HGO2.out]⟩
end Go.Proofs.Ytdkkcogjkeonkaa
