/- The library's partition of what is equal to the pivot. -/
import Derived.Test.YtdkkcogjkeonkaaUxPr
import Derived.Sort.WalkC
import Derived.Deep.LoopGhost
import Derived.Deep.DeepCutAuto
import Derived.Deep.CutRange
import Derived.Deep.CutBlock
set_option maxRecDepth 100000
set_option maxHeartbeats 4000000
set_option linter.unusedVariables false
namespace Go.Proofs.Ytdkkcogjkeonkaa
open Go.RowKit
open Go.Sort (swp PermIn SortedIn scanUp scanDown partEqLoop partitionEqual)
variable {sz cap B g : Nat} {w W W' : World} {d : Array Nat}
theorem PR.c (h : PR sz cap B g w d W) (t : Nat) (ht : t < sz) : W.cell? ⟨g, t, none⟩ = some (.int .u32 (d[t]! : Nat)) := (h.cell t ht).1
theorem PR.drew1 (h : PR sz cap B g w d W) : PR sz cap B g w d W.drew := h.drewN 1
theorem PR.f (h : PR sz cap B g w d W) (t : Nat) (ht : t < sz) : W.frozen? ⟨g, t, none⟩ = false := (h.cell t ht).2
set_option maxHeartbeats 1000000 in
theorem parte32_any (h : PR sz cap B g w d W) (hsz : sz ≤ 1000) (hcap : sz ≤ cap) (a b p : Nat) (hap : a < p) (hpb : p < b) (hb : b ≤ sz) :
    Calls Try.prog 53 #[.slice (some ⟨g, 0, none⟩) sz cap, .int .i64 a, .int .i64 b, .int .i64 p] W fun e W' => e = .returned (.int .i64 (partitionEqual vlt d a b p).1) ∧ PR sz cap B g w (partitionEqual vlt d a b p).2 W' := by
  obtain ⟨G, hG⟩ : ∃ G : Nat → Nat, ∀ t, G t = d[t]! := ⟨fun t => d[t]!, fun _ => rfl⟩
  have ca : W.cell? ⟨g, a, none⟩ = some (.int .u32 (G a)) := by rw [hG]; exact h.c a (by omega)
  have cp : W.cell? ⟨g, p, none⟩ = some (.int .u32 (G p)) := by rw [hG]; exact h.c p (by omega)
  have fa := h.f a (by omega)
  have fp := h.f p (by omega)
  have ha0 : (a : Int) < (sz : Int) := by omega
  have hp0 : (p : Int) < (sz : Int) := by omega
  have H1 : Hid (PR sz cap B g w (swp d a p) ((W.setCell ⟨g, a, none⟩ (eV d[p]!)).setCell ⟨g, p, none⟩ (eV d[a]!)).drew) := (h.swap0 a p (by omega) (by omega) hcap).drewN 1
  rw [← hG, ← hG] at H1
  have HE : Hid (partEqLoop vlt a (a + 1) (b - 1) (swp d a p) = partitionEqual vlt d a b p) := rfl
  clear hG h
  go_enter Try.func53, Try.ntmps53
  go_wp2
  go_region
  go_wp2
  revert H1
  generalize ((W.setCell ⟨g, a, none⟩ (.int .u32 (G p))).setCell ⟨g, p, none⟩ (.int .u32 (G a))).drew = X1
  intro H1
  clear ca cp fa fp
  go_loopg [9, 10] (b - 1 + 2 - (a + 1)) (fun n s9 s10 X => ∃ (i j : Nat) (d' : Array Nat), s9 = .int .i64 i ∧ s10 = .int .i64 j ∧ n = j + 2 - i ∧ a < i ∧ i ≤ j + 1 ∧ j < b ∧ Hid (PR sz cap B g w d' X) ∧ Hid (partEqLoop vlt a i j d' = partitionEqual vlt d a b p))
  case atStart => exact ⟨a + 1, b - 1, _, by go_num, by go_num, rfl, by omega, by omega, by omega, H1, HE⟩
  case round =>
    obtain ⟨i, j, d', rfl, rfl, rfl, hai, hij, hjb, HP, HD⟩ := hrel
    go_upto_block 2 with fail
    go_cut [9] from 29 to 45 (fun s wx => ∃ i2 : Nat, s = .int .i64 i2 ∧ i ≤ i2 ∧ i2 ≤ j + 1 ∧ Hid (i2 = scanUp (fun x => !vlt d'[a]! x) d' j i) ∧ Hid (PR sz cap B g w d' wx))
    case first =>
      go_wp2_with fail
      go_loopg [9] (j + 2 - i) (fun n s X => ∃ i1 : Nat, s = .int .i64 i1 ∧ n = j + 2 - i1 ∧ i ≤ i1 ∧ i1 ≤ j + 1 ∧ Hid (PR sz cap B g w d' X) ∧ Hid (scanUp (fun x => !vlt d'[a]! x) d' j i1 = scanUp (fun x => !vlt d'[a]! x) d' j i))
      case atStart => exact ⟨i, rfl, rfl, Nat.le_refl _, hij, HP, rfl⟩
      case round =>
        obtain ⟨i1, rfl, rfl, hi1, hi1j, HP1, HU⟩ := hrel
        by_cases h1 : i1 ≤ j
        · have h1z : (i1 : Int) ≤ (j : Int) := by omega
          obtain ⟨G, hG⟩ : ∃ G : Nat → Nat, ∀ t, G t = d'[t]! := ⟨fun t => d'[t]!, fun _ => rfl⟩
          have HG1 := Lib.hid hG
          have ca : wr.cell? ⟨g, a, none⟩ = some (.int .u32 (G a)) := by rw [hG]; exact HP1.out.c a (by omega)
          have ci : wr.cell? ⟨g, i1, none⟩ = some (.int .u32 (G i1)) := by rw [hG]; exact HP1.out.c i1 (by omega)
          have hi0 : (i1 : Int) < (sz : Int) := by omega
          clear hG
          by_cases hk : G a < G i1
          · have hkd : decide (G a < G i1) = true := decide_eq_true hk
            have HK := Lib.hid hkd
            clear hk
            go_wp2_with fail
            go_quiet (first | (go_at_call 52; refine Calls.quiet_of_same ((cLess_any _ _ _).mono fun _ _ h => ⟨h.1, h.2.symm⟩)))
            go_wp2_with fail
            go_meet
            exact ⟨i1, rfl, by omega, by omega, by show _ = _; rw [← HU.out, Go.Proofs.scanUp_end _ d' j i1 (.inr (by rw [← HG1.out, ← HG1.out]; show (!decide _) = false; rw [HK.out]; rfl))], HP1.out.drewN nq⟩
          · have hkd : decide (G a < G i1) = false := decide_eq_false hk
            have HK := Lib.hid hkd
            clear hk
            go_wp2_with fail
            go_quiet (first | (go_at_call 52; refine Calls.quiet_of_same ((cLess_any _ _ _).mono fun _ _ h => ⟨h.1, h.2.symm⟩)))
            go_wp2
            go_roundg (j + 2 - (i1 + 1))
            case measure => omega
            case rel => exact ⟨i1 + 1, by go_num, rfl, by omega, by omega, HP1.out.drewN nq, by show _ = _; rw [← HU.out, Go.Proofs.scanUp_go _ d' j i1 h1 (by rw [← HG1.out, ← HG1.out]; show (!decide _) = true; rw [HK.out]; rfl)]⟩
        · have h1z : decide ((i1 : Int) ≤ (j : Int)) = false := decide_eq_false (by omega)
          go_wp2_with fail
          go_quiet (first | (go_at_call 52; refine Calls.quiet_of_same ((cLess_any _ _ _).mono fun _ _ h => ⟨h.1, h.2.symm⟩)))
          go_wp2_with fail
          go_meet
          exact ⟨i1, rfl, by omega, by omega, by show _ = _; rw [← HU.out, Go.Proofs.scanUp_end _ d' j i1 (.inl h1)], HP1.out.drewN nq⟩
    case rest =>
      
      obtain ⟨i2, rfl, hi2, hi2j, HI2, HP2⟩ := hcut
      clear HP
      go_upto_block 4 with fail
      go_cut [10] from 46 to 61 (fun s wx => ∃ j2 : Nat, s = .int .i64 j2 ∧ j2 ≤ j ∧ i2 ≤ j2 + 1 ∧ Hid (j2 = scanDown (fun x => vlt d'[a]! x) d' i2 j) ∧ Hid (PR sz cap B g w d' wx))
      case first =>
        go_wp2_with fail
        go_loopg [10] (j + 2 - i2) (fun n s X => ∃ j1 : Nat, s = .int .i64 j1 ∧ n = j1 + 2 - i2 ∧ j1 ≤ j ∧ i2 ≤ j1 + 1 ∧ Hid (PR sz cap B g w d' X) ∧ Hid (scanDown (fun x => vlt d'[a]! x) d' i2 j1 = scanDown (fun x => vlt d'[a]! x) d' i2 j))
        case atStart => exact ⟨j, rfl, rfl, Nat.le_refl _, hi2j, HP2, rfl⟩
        case round =>
          obtain ⟨j1, rfl, rfl, hj1, hj1i, HP1, HU⟩ := hrel
          by_cases h1 : i2 ≤ j1
          · have h1z : (i2 : Int) ≤ (j1 : Int) := by omega
            obtain ⟨G, hG⟩ : ∃ G : Nat → Nat, ∀ t, G t = d'[t]! := ⟨fun t => d'[t]!, fun _ => rfl⟩
            have HG1 := Lib.hid hG
            have ca : wr.cell? ⟨g, a, none⟩ = some (.int .u32 (G a)) := by rw [hG]; exact HP1.out.c a (by omega)
            have cj : wr.cell? ⟨g, j1, none⟩ = some (.int .u32 (G j1)) := by rw [hG]; exact HP1.out.c j1 (by omega)
            have hj0 : (j1 : Int) < (sz : Int) := by omega
            have hj1p : 0 < j1 := by omega
            clear hG
            by_cases hk : G a < G j1
            · have hkd : decide (G a < G j1) = true := decide_eq_true hk
              have HK := Lib.hid hkd
              clear hk
              go_wp2_with fail
              go_quiet (first | (go_at_call 52; refine Calls.quiet_of_same ((cLess_any _ _ _).mono fun _ _ h => ⟨h.1, h.2.symm⟩)))
              go_wp2
              go_roundg (j1 - 1 + 2 - i2)
              case measure => omega
              case rel => exact ⟨j1 - 1, by go_num, rfl, by omega, by omega, HP1.out.drewN nq, by show _ = _; rw [← HU.out, Go.Proofs.scanDown_go _ d' i2 j1 h1 (by omega) (by rw [← HG1.out, ← HG1.out]; exact HK.out)]⟩
            · have hkd : decide (G a < G j1) = false := decide_eq_false hk
              have HK := Lib.hid hkd
              clear hk
              go_wp2_with fail
              go_quiet (first | (go_at_call 52; refine Calls.quiet_of_same ((cLess_any _ _ _).mono fun _ _ h => ⟨h.1, h.2.symm⟩)))
              go_wp2_with fail
              go_meet
              exact ⟨j1, rfl, by omega, by omega, by show _ = _; rw [← HU.out, Go.Proofs.scanDown_end _ d' i2 j1 (.inr (by rw [← HG1.out, ← HG1.out]; exact HK.out))], HP1.out.drewN nq⟩
          · have h1z : decide ((i2 : Int) ≤ (j1 : Int)) = false := decide_eq_false (by omega)
            go_wp2_with fail
            go_quiet (first | (go_at_call 52; refine Calls.quiet_of_same ((cLess_any _ _ _).mono fun _ _ h => ⟨h.1, h.2.symm⟩)))
            go_wp2_with fail
            go_meet
            exact ⟨j1, rfl, by omega, by omega, by show _ = _; rw [← HU.out, Go.Proofs.scanDown_end _ d' i2 j1 (.inl h1)], HP1.out.drewN nq⟩
      case rest =>
        
        obtain ⟨j2, rfl, hj2, hj2i, HJ2, HP3⟩ := hcut
        clear HP2
        by_cases hij2 : j2 < i2
        · have hz : (j2 : Int) < (i2 : Int) := by omega
          go_wp2
          go_ret
          have he := HD.out
          rw [Go.Proofs.partEq_break vlt a i j d' HI2.out HJ2.out hij2] at he
          exact ⟨by rw [← he]; rfl, by rw [← he]; exact HP3.out⟩
        · have hz : ¬ (j2 : Int) < (i2 : Int) := by omega
          have hlt : i2 < j2 := Go.Proofs.scans_lt vlt a i j d' (by omega) HI2.out HJ2.out (by omega)
          obtain ⟨G, hG⟩ : ∃ G : Nat → Nat, ∀ t, G t = d'[t]! := ⟨fun t => d'[t]!, fun _ => rfl⟩
          have ci := HP3.out.c i2 (by omega)
          have cj := HP3.out.c j2 (by omega)
          rw [← hG] at ci cj
          have fi := HP3.out.f i2 (by omega)
          have fj := HP3.out.f j2 (by omega)
          have hi0 : (i2 : Int) < (sz : Int) := by omega
          have hj0 : (j2 : Int) < (sz : Int) := by omega
          have HW := Lib.hid (HP3.out.swap 1 i2 j2 (by omega) (by omega) hcap)
          rw [← hG, ← hG] at HW
          clear hG
          go_wp2
          go_region
          go_wp2
          go_roundg (j2 - 1 + 2 - (i2 + 1))
          case measure => omega
          case rel => exact ⟨i2 + 1, j2 - 1, swp d' i2 j2, by go_num, by go_num, rfl, by omega, by omega, by omega, HW, by show _ = _; rw [← HD.out, Go.Proofs.partEq_go vlt a i j d' HI2.out HJ2.out (by omega)]⟩
end Go.Proofs.Ytdkkcogjkeonkaa
