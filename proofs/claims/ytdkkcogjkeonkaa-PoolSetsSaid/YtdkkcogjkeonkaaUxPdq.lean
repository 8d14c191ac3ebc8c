/- The library's sort of a part of a row. -/
import Derived.Test.YtdkkcogjkeonkaaUxPart
import Derived.Test.YtdkkcogjkeonkaaUxPins
import Derived.Test.YtdkkcogjkeonkaaUxBrk2
import Derived.Test.YtdkkcogjkeonkaaUxPiv
import Derived.Test.YtdkkcogjkeonkaaUxRev
import Derived.Test.YtdkkcogjkeonkaaUxHeap2
import Derived.Sort.AssemblyPlain
set_option maxRecDepth 100000
set_option maxHeartbeats 4000000
set_option linter.unusedVariables false
namespace Go.Proofs.Ytdkkcogjkeonkaa
open Go.RowKit
open Go.Sort (swp PermIn SortedIn)
variable {sz cap B g : Nat} {w W W' : World} {d : Array Nat}
theorem PR.holds (h : PR sz cap B g w d W) : Go.Sort.Holds eV W g 0 d := fun j hj => by
  rw [Nat.zero_add]
  exact h.cell j (by rw [← h.size]; exact hj)
theorem PR.put (h : PR sz cap B g w d W) {d' : Array Nat} {n : Nat} (hs : d'.size = sz) (hc : sz ≤ cap) : PR sz cap B g w d' (Go.Sort.putRow eV (Go.Sort.ahead W n) g 0 d') := by
  obtain ⟨cur, h1, h2, h3⟩ := h.blk
  have e1 := heap_putP (enc := eV) (n := n) (os := #[]) d' h1
  have e2 := below_putP (enc := eV) (n := n) (os := #[]) d' h.hB h.lt
  rw [grow_none] at e1 e2
  refine ⟨hs, h.hB, h.bel.trans e2, _, e1, by rw [size_putP]; exact h2, fun j hj => ?_⟩
  simp [Go.Sort.putCells, hs, hj, show j < cur.size by omega]
theorem inso32_pr (h : PR sz cap B g w d W) (hsz : sz ≤ 1000) (hcap : sz ≤ cap) (a b : Nat) (hab : a ≤ b) (hb : b ≤ sz) :
    Calls Try.prog 46 #[.slice (some ⟨g, 0, none⟩) sz cap, .int .i64 a, .int .i64 b] W fun e W' => e = .returned (.tuple #[]) ∧ PR sz cap B g w (Go.Sort.insertionSort vlt d a b) W' := by
  have h1 := inso32_any g cap a b d W h.holds hab (by rw [h.size]; exact hb) (by rw [h.size]; omega)
  rw [h.size] at h1
  exact h1.mono fun e W' ⟨he, hs, n, hw⟩ => ⟨he, by rw [hw]; exact h.put hs hcap⟩
set_option maxHeartbeats 4000000 in
theorem pdq32_any (hsz : sz ≤ 1000) (hcap : sz ≤ cap) : ∀ (N a b lim : Nat) (d : Array Nat) (W : World), b - a < N → PR sz cap B g w d W → a ≤ b → b ≤ sz → Go.Sort.Below vlt a b d → lim ≤ 1000 →
    Calls Try.prog 39 #[.slice (some ⟨g, 0, none⟩) sz cap, .int .i64 a, .int .i64 b, .int .i64 lim] W fun e W' => e = .returned (.tuple #[]) ∧ ∃ d', PermIn a b d d' ∧ SortedIn vlt a b d' ∧ PR sz cap B g w d' W' := by
  intro N
  induction N with
  | zero => intro a b lim d W h; omega
  | succ N ih =>
    intro a b lim d W hN h hab hb hB hlim
    have IH := Lib.hid ih
    have H0 := Lib.hid h
    have HB0 := Lib.hid hB
    clear ih h hB
    go_enter Try.func39, Try.ntmps39
    go_wp2
    go_loopg [1, 2, 3, 8, 9] (b - a) (fun n s1 s2 s3 s8 s9 X => ∃ (a' b' l : Nat) (d' : Array Nat) (wb wp : Bool), s1 = .int .i64 a' ∧ s2 = .int .i64 b' ∧ s3 = .int .i64 l ∧ s8 = .bool wb ∧ s9 = .bool wp ∧ n = b' - a' ∧ a ≤ a' ∧ b' ≤ b ∧ a' ≤ b' ∧ b' ≤ sz ∧ l ≤ 1000 ∧ Hid (PR sz cap B g w d' X) ∧ Hid (Go.Sort.Below vlt a' b' d') ∧ Hid (∀ R, PermIn a' b' d' R → SortedIn vlt a' b' R → PermIn a b d R ∧ SortedIn vlt a b R))
    case atStart => exact ⟨a, b, lim, d, true, true, rfl, rfl, rfl, rfl, rfl, rfl, by omega, by omega, hab, hb, hlim, H0, HB0, fun R h1 h2 => ⟨h1, h2⟩⟩
    case round =>
      obtain ⟨a', b', l, d', wb, wp, rfl, rfl, rfl, rfl, rfl, rfl, haa, hbb, hab', hbs, hl, HP, HB, HF⟩ := hrel
      have HSZ : Hid (b' ≤ d'.size) := by show _ ≤ _; rw [HP.out.size]; exact hbs
      by_cases h12 : b' - a' ≤ 12
      · have h12z : (b' : Int) - (a' : Int) ≤ 12 := by omega
        go_wp2_with (go_at_call 46; refine (inso32_pr HP.out hsz hcap a' b' hab' hbs).mono ?_; rintro e w1 ⟨rfl, hp⟩; have HP1 := Lib.hid hp; clear hp)
        (try simp only [Exit.inBlock, Exit.then]); refine bodyPost_ret (results_none rfl _ _ _) rfl ?_
        obtain ⟨q1, q2⟩ := Go.Sort.insertionSort_holds (lt := vlt) swo_vlt d' a' b' hab' HSZ.out
        obtain ⟨z1, z2⟩ := HF.out _ q1 q2
        exact ⟨rfl, _, z1, z2, HP1.out⟩
      · have h12z : ¬ (b' : Int) - (a' : Int) ≤ 12 := by omega
        have h12n : a' + 12 < b' := by omega
        by_cases hl0 : l = 0
        · subst hl0
          go_wp2_with (go_at_call 47; refine (heap32_any HP.out hsz hcap a' b' (by omega) hbs).mono ?_; rintro e w1 ⟨rfl, hp⟩; have HP1 := Lib.hid hp; clear hp)
          (try simp only [Exit.inBlock, Exit.then]); refine bodyPost_ret (results_none rfl _ _ _) rfl ?_
          obtain ⟨q1, q2⟩ := Go.Sort.heapSort_holds (lt := vlt) swo_vlt d' a' b' hab' HSZ.out
          obtain ⟨z1, z2⟩ := HF.out _ q1 q2
          exact ⟨rfl, _, z1, z2, HP1.out⟩
        · have hl0z : ¬ (l : Int) = 0 := by omega
          go_upto_if 35 with fail
          go_cut [3] (fun v wx => ∃ (l1 : Nat) (d1 : Array Nat), v = .int .i64 l1 ∧ l1 ≤ 1000 ∧ Hid (PermIn a' b' d' d1) ∧ Hid (PR sz cap B g w d1 wx))
          case first =>
            cases wb with
            | true =>
              go_wp2_with fail
              go_meet
              exact ⟨l, d', rfl, hl, permRefl _ _ _, HP⟩
            | false =>
              obtain ⟨l1, hl1⟩ : ∃ l1, l1 = l - 1 := ⟨_, rfl⟩
              have el : (l : Int) - 1 = (l1 : Int) := by omega
              have hl1' : l1 ≤ 1000 := by omega
              clear hl1
              go_wp2_with (first | fail | (go_at_call 48; refine (brk32_any HP.out hsz hcap a' b' h12n hbs).mono ?_; rintro e w1 ⟨rfl, d1, hq, hp⟩; have HP1 := Lib.hid hp; have HQ1 := Lib.hid hq; clear hp hq))
              go_meet
              exact ⟨l1, d1, rfl, hl1', HQ1, HP1⟩
          case rest =>
            obtain ⟨l1, d1, rfl, hl1, HD1, HP1⟩ := hcut
            clear HP
            go_upto_if 50 with (go_at_call 49; refine (pivot32_any HP1.out hsz a' b' h12n hbs).mono ?_; rintro e w2 ⟨p, hn, rfl, hpa, hpb, hn2, hp⟩; have HPV := Lib.hid hp; clear hp)
            go_cut [11, 12] (fun v11 v12 wx => ∃ (p2 hn2 : Nat) (d2 : Array Nat), v11 = .int .i64 p2 ∧ v12 = .int .i64 hn2 ∧ a' < p2 ∧ p2 < b' ∧ Hid (PermIn a' b' d1 d2) ∧ Hid (PR sz cap B g w d2 wx))
            case first =>
              by_cases hnn : hn = 2
              · subst hnn
                obtain ⟨p2, hp2⟩ : ∃ p2, p2 = (b' - 1) - (p - a') := ⟨_, rfl⟩
                have ep : (b' : Int) - 1 - ((p : Int) - (a' : Int)) = (p2 : Int) := by omega
                have hp2a : a' < p2 := by omega
                have hp2b : p2 < b' := by omega
                clear hp2
                go_wp2_with (first | fail | (go_at_call 50; refine (rev32_any HPV.out hsz hcap a' b' (by omega) hbs).mono ?_; rintro e w3 ⟨rfl, d2, hq, hp⟩; have HP2 := Lib.hid hp; have HQ2 := Lib.hid hq; clear hp hq))
                go_meet
                exact ⟨p2, 1, d2, rfl, rfl, hp2a, hp2b, HQ2, HP2⟩
              · have hnz : ¬ (hn : Int) = 2 := by omega
                go_wp2_with fail
                go_meet
                exact ⟨p, hn, d1, rfl, rfl, hpa, by omega, permRefl _ _ _, HPV⟩
            case rest =>
              obtain ⟨p2, hn2, d2, rfl, rfl, hp2a, hp2b, HD2, HP2⟩ := hcut
              have HBB : Hid (Go.Sort.Below vlt a' b' d2) := (HB.out.perm HSZ.out HD1.out).perm (by rw [HP1.out.size]; exact hbs) HD2.out
              clear HP1
              go_upto_region 15 with fail
              go_cut [68] (fun v wx => ∃ q : Bool, v = .bool q ∧ Hid (PR sz cap B g w d2 wx))
              case first =>
                cases wb with
                | false =>
                  go_wp2_with fail
                  go_meet
                  exact ⟨_, rfl, HP2⟩
                | true =>
                  cases wp with
                  | false =>
                    go_wp2_with fail
                    go_meet
                    exact ⟨_, rfl, HP2⟩
                  | true =>
                    by_cases h1 : hn2 = 1
                    · subst h1
                      go_wp2_with fail
                      go_meet
                      exact ⟨_, rfl, HP2⟩
                    · have h1z : ¬ (hn2 : Int) = 1 := by omega
                      go_wp2_with fail
                      go_meet
                      exact ⟨_, rfl, HP2⟩
              case rest =>
                obtain ⟨q, rfl, HP2'⟩ := hcut
                clear HP2
                have HP2 := HP2'
                clear HP2'
                go_upto_if 68 with fail
                go_cut [] (fun wx => ∃ d3 : Array Nat, Hid (PermIn a' b' d2 d3) ∧ Hid (PR sz cap B g w d3 wx))
                case first =>
                  cases q with
                  | false =>
                    go_wp2_with fail
                    go_meet
                    exact ⟨d2, permRefl _ _ _, HP2⟩
                  | true =>
                    obtain ⟨q1, q2⟩ := Go.Sort.partialInsertionSort_holds (lt := vlt) swo_vlt d2 a' b' (by omega) (by rw [HP2.out.size]; exact hbs) HBB.out
                    have Q1 := Lib.hid q1
                    have Q2 := Lib.hid q2
                    clear q1 q2
                    cases hr : (Go.Sort.partialInsertionSort vlt d2 a' b').2 with
                    | true =>
                      have HR := Lib.hid hr
                      clear hr
                      go_wp2_with (first | fail | (go_at_call 51; refine (pins32_any HP2.out hsz hcap a' b' (by omega) hbs).mono ?_; rw [HR.out]; rintro e w3 ⟨rfl, hp⟩; have HP3 := Lib.hid hp; clear hp))
                      (try simp only [Exit.inBlock, Exit.then]); refine bodyPost_ret (results_none rfl _ _ _) rfl ?_
                      obtain ⟨z1, z2⟩ := HF.out _ (permTrans HD1.out (permTrans HD2.out Q1.out)) (Q2.out HR.out)
                      exact ⟨rfl, _, z1, z2, HP3.out⟩
                    | false =>
                      have HR := Lib.hid hr
                      clear hr
                      go_wp2_with (first | fail | (go_at_call 51; refine (pins32_any HP2.out hsz hcap a' b' (by omega) hbs).mono ?_; rw [HR.out]; rintro e w3 ⟨rfl, hp⟩; have HP3 := Lib.hid hp; clear hp))
                      go_meet
                      exact ⟨_, Q1, HP3⟩
                case rest =>
                  obtain ⟨d3, HQ3, HP3⟩ := hcut
                  have HB3 : Hid (Go.Sort.Below vlt a' b' d3) := HBB.out.perm (by rw [HP2.out.size]; exact hbs) HQ3.out
                  have HD3 : Hid (PermIn a' b' d' d3) := permTrans HD1.out (permTrans HD2.out HQ3.out)
                  clear HP2 HQ3 HD1 HD2 HBB
                  by_cases ha0 : 0 < a'
                  · have ha0z : (0 : Int) < (a' : Int) := by omega
                    obtain ⟨m, hm⟩ : ∃ m, m = a' - 1 := ⟨_, rfl⟩
                    have em : (a' : Int) - 1 = (m : Int) := by omega
                    have HM : Hid (a' - 1 = m) := hm.symm
                    have hma : m < a' := by omega
                    clear hm
                    obtain ⟨G, hG⟩ : ∃ G : Nat → Nat, ∀ t, G t = d3[t]! := ⟨fun t => d3[t]!, fun _ => rfl⟩
                    have HG1 := Lib.hid hG
                    have cm : wc.cell? ⟨g, m, none⟩ = some (.int .u32 (G m)) := by rw [hG]; exact HP3.out.c m (by omega)
                    have cp : wc.cell? ⟨g, p2, none⟩ = some (.int .u32 (G p2)) := by rw [hG]; exact HP3.out.c p2 (by omega)
                    have hm0 : (m : Int) < (sz : Int) := by omega
                    have hp0 : (p2 : Int) < (sz : Int) := by omega
                    clear hG
                    by_cases hk : G m < G p2
                    · have hkd : decide (G m < G p2) = true := decide_eq_true hk
                      clear hk
                      go_wp2_with fail
                      go_quiet (first | (go_at_call 52; refine Calls.quiet_of_same ((cLess_any _ _ _).mono fun _ _ h => ⟨h.1, h.2.symm⟩)))
                      go_upto_region 20 with fail
                      have HP4 := Lib.hid (HP3.out.drewN nq)
                      obtain ⟨X4, hX4⟩ : ∃ X4, X4 = wc.drewN nq := ⟨_, rfl⟩
                      rw [← hX4] at HP4 ⊢
                      clear hX4
                      go_upto_region 21 with (go_at_call 54; refine (part32_any HP4.out hsz hcap a' b' p2 hp2a hp2b hbs).mono ?_; rintro e w5 ⟨rfl, hp⟩; have HP5 := Lib.hid hp; clear hp)
                      obtain ⟨R, hR⟩ : ∃ R, R = Go.Sort.partition vlt d3 a' b' p2 := ⟨_, rfl⟩
                      rw [← hR] at HP5 ⊢
                      obtain ⟨mid, ap, d4⟩ := R
                      obtain ⟨r1, r2, r3, r4, r5, r6, r7⟩ := Go.Sort.round_part swo_vlt (Go.Sort.partition_holds vlt) (Nat.le_of_lt hp2a) hp2b (by rw [HP3.out.size]; exact hbs) HB3.out hR.symm
                      have R4 := Lib.hid r4
                      have R5 := Lib.hid r5
                      have R6 := Lib.hid r6
                      have R7 := Lib.hid r7
                      clear hR r4 r5 r6 r7
                      by_cases hlr : mid - a' < b' - mid
                      · have hlz : (mid : Int) - (a' : Int) < (b' : Int) - (mid : Int) := by omega
                        go_wp2_with (go_at_call 39; refine (IH.out a' mid l1 d4 _ (by omega) HP5.out r1 (by omega) R4.out hl1).mono ?_; rintro e w6 ⟨rfl, L, hL1, hL2, hL3⟩; have HL := Lib.hid (R6.out L hL1 hL2); have HP6 := Lib.hid hL3; clear hL1 hL2 hL3)
                        have HB6 := Lib.hid HL.out.1
                        have HF6 : Hid (∀ R, PermIn (mid + 1) b' L R → SortedIn vlt (mid + 1) b' R → PermIn a b d R ∧ SortedIn vlt a b R) := fun R q1 q2 => by
                          obtain ⟨z1, z2⟩ := HL.out.2 R q1 q2
                          exact HF.out R (permTrans HD3.out z1) z2
                        go_roundg (b' - (mid + 1))
                        case measure => omega
                        case rel => exact ⟨mid + 1, b', l1, L, _, _, by go_num, rfl, rfl, rfl, rfl, rfl, by omega, by omega, by omega, hbs, hl1, HP6, HB6, HF6⟩
                      · have hlz : ¬ (mid : Int) - (a' : Int) < (b' : Int) - (mid : Int) := by omega
                        obtain ⟨m1, hm1⟩ : ∃ m1, m1 = mid + 1 := ⟨_, rfl⟩
                        have em1 : (mid : Int) + 1 = (m1 : Int) := by omega
                        have HM1 : Hid (mid + 1 = m1) := hm1.symm
                        have hm1b : m1 ≤ b' := by omega
                        have hm1a : mid < m1 := by omega
                        clear hm1
                        rw [HM1.out] at R5 R7
                        go_wp2_with (go_at_call 39; refine (IH.out m1 b' l1 d4 _ (by omega) HP5.out hm1b hbs R5.out hl1).mono ?_; rintro e w6 ⟨rfl, L, hL1, hL2, hL3⟩; have HL := Lib.hid (R7.out L hL1 hL2); have HP6 := Lib.hid hL3; clear hL1 hL2 hL3)
                        have HB6 := Lib.hid HL.out.1
                        have HF6 : Hid (∀ R, PermIn a' mid L R → SortedIn vlt a' mid R → PermIn a b d R ∧ SortedIn vlt a b R) := fun R q1 q2 => by
                          obtain ⟨z1, z2⟩ := HL.out.2 R q1 q2
                          exact HF.out R (permTrans HD3.out z1) z2
                        go_roundg (mid - a')
                        case measure => omega
                        case rel => exact ⟨a', mid, l1, L, _, _, rfl, rfl, rfl, rfl, rfl, rfl, haa, by omega, r1, by omega, hl1, HP6, HB6, HF6⟩
                    · have hkd : decide (G m < G p2) = false := decide_eq_false hk
                      have HK := Lib.hid hkd
                      clear hk
                      go_wp2_with fail
                      go_quiet (first | (go_at_call 52; refine Calls.quiet_of_same ((cLess_any _ _ _).mono fun _ _ h => ⟨h.1, h.2.symm⟩)))
                      go_upto_region 18 with fail
                      have HP4 := Lib.hid (HP3.out.drewN nq)
                      obtain ⟨X4, hX4⟩ : ∃ X4, X4 = wc.drewN nq := ⟨_, rfl⟩
                      rw [← hX4] at HP4 ⊢
                      clear hX4
                      go_upto_region 19 with (go_at_call 53; refine (parte32_any HP4.out hsz hcap a' b' p2 hp2a hp2b hbs).mono ?_; rintro e w5 ⟨rfl, hp⟩; have HP5 := Lib.hid hp; clear hp)
                      obtain ⟨R, hR⟩ : ∃ R, R = Go.Sort.partitionEqual vlt d3 a' b' p2 := ⟨_, rfl⟩
                      rw [← hR] at HP5 ⊢
                      obtain ⟨mid, d4⟩ := R
                      obtain ⟨r1, r2, r3, r4, r5⟩ := Go.Sort.round_eq swo_vlt (Go.Sort.partitionEqual_holds vlt) ha0 (Nat.le_of_lt hp2a) hp2b (by rw [HP3.out.size]; exact hbs) HB3.out (by rw [HM.out, ← HG1.out, ← HG1.out]; exact HK.out) hR.symm
                      have R4 := Lib.hid r4
                      have HF6 : Hid (∀ R, PermIn mid b' d4 R → SortedIn vlt mid b' R → PermIn a b d R ∧ SortedIn vlt a b R) := fun R q1 q2 => by
                        obtain ⟨z1, z2⟩ := r5 R q1 q2
                        exact HF.out R (permTrans HD3.out z1) z2
                      clear hR r4 r5
                      go_wp2
                      go_roundg (b' - mid)
                      case measure => omega
                      case rel => exact ⟨mid, b', l1, d4, wb, wp, rfl, rfl, rfl, rfl, rfl, rfl, by omega, hbb, r2, hbs, hl1, HP5, R4, HF6⟩
                  · have ha0z : decide ((0 : Int) < (a' : Int)) = false := decide_eq_false (by omega)
                    go_wp2_with fail
                    go_quiet (first | (go_at_call 52; refine Calls.quiet_of_same ((cLess_any _ _ _).mono fun _ _ h => ⟨h.1, h.2.symm⟩)))
                    go_upto_region 20 with fail
                    have HP4 := Lib.hid (HP3.out.drewN nq)
                    obtain ⟨X4, hX4⟩ : ∃ X4, X4 = wc.drewN nq := ⟨_, rfl⟩
                    rw [← hX4] at HP4 ⊢
                    clear hX4
                    go_upto_region 21 with (go_at_call 54; refine (part32_any HP4.out hsz hcap a' b' p2 hp2a hp2b hbs).mono ?_; rintro e w5 ⟨rfl, hp⟩; have HP5 := Lib.hid hp; clear hp)
                    obtain ⟨R, hR⟩ : ∃ R, R = Go.Sort.partition vlt d3 a' b' p2 := ⟨_, rfl⟩
                    rw [← hR] at HP5 ⊢
                    obtain ⟨mid, ap, d4⟩ := R
                    obtain ⟨r1, r2, r3, r4, r5, r6, r7⟩ := Go.Sort.round_part swo_vlt (Go.Sort.partition_holds vlt) (Nat.le_of_lt hp2a) hp2b (by rw [HP3.out.size]; exact hbs) HB3.out hR.symm
                    have R4 := Lib.hid r4
                    have R5 := Lib.hid r5
                    have R6 := Lib.hid r6
                    have R7 := Lib.hid r7
                    clear hR r4 r5 r6 r7
                    by_cases hlr : mid - a' < b' - mid
                    · have hlz : (mid : Int) - (a' : Int) < (b' : Int) - (mid : Int) := by omega
                      go_wp2_with (go_at_call 39; refine (IH.out a' mid l1 d4 _ (by omega) HP5.out r1 (by omega) R4.out hl1).mono ?_; rintro e w6 ⟨rfl, L, hL1, hL2, hL3⟩; have HL := Lib.hid (R6.out L hL1 hL2); have HP6 := Lib.hid hL3; clear hL1 hL2 hL3)
                      have HB6 := Lib.hid HL.out.1
                      have HF6 : Hid (∀ R, PermIn (mid + 1) b' L R → SortedIn vlt (mid + 1) b' R → PermIn a b d R ∧ SortedIn vlt a b R) := fun R q1 q2 => by
                        obtain ⟨z1, z2⟩ := HL.out.2 R q1 q2
                        exact HF.out R (permTrans HD3.out z1) z2
                      go_roundg (b' - (mid + 1))
                      case measure => omega
                      case rel => exact ⟨mid + 1, b', l1, L, _, _, by go_num, rfl, rfl, rfl, rfl, rfl, by omega, by omega, by omega, hbs, hl1, HP6, HB6, HF6⟩
                    · have hlz : ¬ (mid : Int) - (a' : Int) < (b' : Int) - (mid : Int) := by omega
                      obtain ⟨m1, hm1⟩ : ∃ m1, m1 = mid + 1 := ⟨_, rfl⟩
                      have em1 : (mid : Int) + 1 = (m1 : Int) := by omega
                      have HM1 : Hid (mid + 1 = m1) := hm1.symm
                      have hm1b : m1 ≤ b' := by omega
                      have hm1a : mid < m1 := by omega
                      clear hm1
                      rw [HM1.out] at R5 R7
                      go_wp2_with (go_at_call 39; refine (IH.out m1 b' l1 d4 _ (by omega) HP5.out hm1b hbs R5.out hl1).mono ?_; rintro e w6 ⟨rfl, L, hL1, hL2, hL3⟩; have HL := Lib.hid (R7.out L hL1 hL2); have HP6 := Lib.hid hL3; clear hL1 hL2 hL3)
                      have HB6 := Lib.hid HL.out.1
                      have HF6 : Hid (∀ R, PermIn a' mid L R → SortedIn vlt a' mid R → PermIn a b d R ∧ SortedIn vlt a b R) := fun R q1 q2 => by
                        obtain ⟨z1, z2⟩ := HL.out.2 R q1 q2
                        exact HF.out R (permTrans HD3.out z1) z2
                      go_roundg (mid - a')
                      case measure => omega
                      case rel => exact ⟨a', mid, l1, L, _, _, rfl, rfl, rfl, rfl, rfl, rfl, haa, by omega, r1, by omega, hl1, HP6, HB6, HF6⟩
end Go.Proofs.Ytdkkcogjkeonkaa
