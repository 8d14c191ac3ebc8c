/- The document's match, Match, Fits; topic.Fits. -/
import Derived.Test.YtkidilojgjligaaTpMatch
import Derived.Test.YtkidilojgjligaaTpRW
set_option maxRecDepth 100000
set_option maxHeartbeats 4000000
set_option linter.unusedVariables false
namespace Go.Proofs.Ytkidilojgjligaa
open Go.RowKit
open Tp
attribute [local go_sem] Oper.semAt_some
theorem slice_from (a : Option Addr) (n c i : Nat) (hi : i ≤ n) (W : World) :
    (Instr.slice 25 (.slice a n c) (some (.int .i64 i)) none none).run Try.prog W = .ok (sliced a i n c 1) W := by
  rw [run_slice_l W 25 a n c (by kernel_rfl) .i64 i (by omega) (by omega)]
  simp [go_sem]
theorem slc_from {w : World} {a : Option Addr} {c : Nat} {L : List Txt} (h : SlC w (.slice a L.length c) L) {i : Nat} (hi : i ≤ L.length) : ∃ v, (∀ W, (Instr.slice 25 (.slice a L.length c) (some (.int .i64 i)) none none).run Try.prog W = .ok v W) ∧ SlC w v (L.drop i) := by
  refine ⟨_, fun W => slice_from a L.length c i hi W, ?_⟩
  obtain ⟨a', b, o, c', he, h1, h2, ha, hx⟩ := h
  cases he
  unfold sliced
  by_cases hc : c = i
  · subst hc
    have : L.drop c = [] := List.drop_eq_nil_of_le (by omega)
    rw [this, if_pos rfl]
    exact ⟨a, b, o, c - c, by simp; omega, Nat.zero_le _, by omega, .inl rfl, fun j x hj => by simp at hj⟩
  · rw [if_neg hc]
    rcases ha with rfl | rfl
    · exact ⟨a.map (·.add (i * 1)), b, o, c - i, by simp, by simp, by omega, .inl (by simp), fun j x hj => by simp at hj⟩
    · refine ⟨_, b, o + i, c - i, by rw [List.length_drop], by rw [List.length_drop]; omega, by omega, .inr (by simp [Addr.add]), fun j x hj => ?_⟩
      rw [List.getElem?_drop] at hj
      rw [Nat.add_assoc]
      exact hx _ _ hj
theorem SlC.drewN {w : World} {v : Value} {L : List Txt} (h : SlC w v L) (q : Nat) : SlC (w.drewN q) v L := h
theorem drewN_two (w : World) (a b : Nat) : (w.drewN a).drewN b = w.drewN (a + b) := by simp
theorem mt_hash_no {ps K : List Txt} (h : ∀ j, j < K.length + 1 → mt ps (K.drop j) = false) : mt (HASH :: ps) K = false := by
  cases hm : mt (HASH :: ps) K with
  | false => rfl
  | true =>
    obtain ⟨i, hi, hx⟩ := (mt_hash ps K).1 hm
    rw [h i (by omega)] at hx
    cases hx
set_option maxHeartbeats 8000000 in
set_option maxRecDepth 100000 in
theorem rmatch_any : ∀ (P K : List Txt) (vP vK : Value) (w : World), P.length ≤ 100001 → K.length ≤ 100001 → SlC w vP P → SlC w vK K →
    Calls Try.prog 34 #[vP, vK] w fun e w' => e = .returned (.bool (mt P K)) ∧ ∃ q, w' = w.drewN q
  | [], K, vP, vK, w, hp, hk, hP, hK => by
    obtain ⟨aP, cP, rfl, _⟩ := hP.slice
    obtain ⟨aK, cK, rfl, _⟩ := hK.slice
    have he : ((K.length : Int) == 0) = mt [] K := by rw [mt_nil]; cases K <;> simp <;> omega
    clear hP hK
    go_enter Try.func34, Try.ntmps34
    go_wp2
    go_ret
    exact ⟨rfl, 0, rfl⟩
  | x :: ps, K, vP, vK, w, hp, hk, hP, hK => by
    have ih : ∀ (K' : List Txt) (v1 v2 : Value) (W : World), K'.length ≤ 100001 → SlC W v1 ps → SlC W v2 K' → Calls Try.prog 34 #[v1, v2] W fun e w' => e = .returned (.bool (mt ps K')) ∧ ∃ q, w' = W.drewN q :=
      fun K' v1 v2 W hk' h1 h2 => rmatch_any ps K' v1 v2 W (by simp at hp; omega) hk' h1 h2
    have HI := Lib.hid ih
    clear ih
    obtain ⟨aP, cP, rfl, hPc, _⟩ := hP.slice
    obtain ⟨aK, cK, rfl, hKc, _⟩ := hK.slice
    obtain ⟨v1, hrun1, hs1⟩ := slc_from hP (i := 1) (by simp)
    have HS1 : Hid (SlC w v1 ps) := hs1
    have HKS := Lib.hid hK
    have hc0 : w.cell? ⟨0, 0, none⟩ = w.cell? ⟨0, 0, none⟩ := rfl
    clear hc0
    obtain ⟨a', b, o, c', he, _, _, ha, hx⟩ := hP
    cases he
    obtain rfl : aP = some ⟨b, o, none⟩ := ha.resolve_left (by simp)
    have hcP : w.cell? ⟨b, o, none⟩ = some (eS x) := hx 0 x rfl
    clear hx ha hs1 hK
    have hrun1' : ∀ W, (Instr.slice 25 (.slice (some ⟨b, o, none⟩) (ps.length + 1) cP) (some (.int .i64 1)) none none).run Try.prog W = .ok v1 W := hrun1
    clear hrun1
    have hlen : (x :: ps).length = ps.length + 1 := rfl
    rw [hlen]
    by_cases hxh : x = HASH
    · subst hxh
      have e35 : ((str HASH).toList == [35]) = true := by rw [strL]; rfl
      go_enter Try.func34, Try.ntmps34
      go_wp2_with fail
      go_loopg [5] (K.length + 1) (fun g i wr => ∃ k q : Nat, k ≤ K.length + 1 ∧ g = K.length + 1 - k ∧ i = .int .i64 k ∧ Hid (∀ j, j < k → mt ps (K.drop j) = false) ∧ wr = w.drewN q)
      case atStart => exact ⟨0, 0, Nat.zero_le _, rfl, rfl, fun j h => absurd h (Nat.not_lt_zero _), rfl⟩
      case round =>
        obtain ⟨k, q, hkk, rfl, rfl, HN, rfl⟩ := hrel
        by_cases hlt : k ≤ K.length
        · obtain ⟨v2, hrun2, hs2⟩ := slc_from HKS.out hlt
          have HS2 := Lib.hid hs2
          have HKL : Hid ((K.drop k).length ≤ 100001) := by show _ ≤ _; rw [List.length_drop]; omega
          clear hs2
          have HC : Hid (∀ n, Calls Try.prog 34 #[v1, v2] (w.drewN n) fun e w' => e = .returned (.bool (mt ps (K.drop k))) ∧ ∃ q, w' = w.drewN (n + q)) := fun n =>
            (HI.out _ _ _ (w.drewN n) HKL.out HS1.out HS2.out).mono fun _ _ h => ⟨h.1, h.2.choose, h.2.choose_spec.trans (drewN_two _ _ _)⟩
          by_cases hm : mt ps (K.drop k) = true
          · have HR : Hid (mt (HASH :: ps) K = true) := (mt_hash ps K).2 ⟨k, hlt, hm⟩
            rw [hm] at HC
            clear hm
            go_wp2_with fail
            go_quiet ((go_at_call 34; exact (HC.out _).mono fun _ _ h => ⟨h.1, _, h.2.choose_spec.trans (by rw [Nat.add_assoc])⟩))
            go_wp2
            go_ret
            exact ⟨ret_bool HR.out.symm, _, (by first | exact drewN_two _ _ _ | rfl)⟩
          · have hm' : mt ps (K.drop k) = false := by simpa using hm
            have HN2 : Hid (∀ j, j < k + 1 → mt ps (K.drop j) = false) := fun j hj => by
              by_cases h : j < k
              · exact HN.out j h
              · obtain rfl : j = k := by omega
                exact hm'
            rw [hm'] at HC
            clear hm hm'
            go_wp2_with fail
            go_quiet ((go_at_call 34; exact (HC.out _).mono fun _ _ h => ⟨h.1, _, h.2.choose_spec.trans (by rw [Nat.add_assoc])⟩))
            go_wp2
            go_roundg (K.length + 1 - (k + 1))
            case rel => exact ⟨k + 1, _, by omega, rfl, by go_num, HN2, (by first | exact drewN_two _ _ _ | rfl)⟩
            case measure => omega
        · obtain rfl : k = K.length + 1 := by omega
          have HR : Hid (mt (HASH :: ps) K = false) := mt_hash_no HN.out
          go_wp2
          go_ret
          exact ⟨ret_bool HR.out.symm, _, (by first | exact drewN_two _ _ _ | rfl)⟩
    · have e35 : ((str x).toList == [35]) = false := by rw [strL, beq_eq_false_iff_ne]; exact hxh
      cases K with
      | nil =>
        have HR : Hid (mt (x :: ps) [] = false) := mt_none hxh
        clear hxh
        go_enter Try.func34, Try.ntmps34
        go_wp2_with fail
        go_quiet (fail)
        go_wp2
        go_ret
        exact ⟨ret_bool HR.out.symm, _, (by first | exact drewN_two _ _ _ | rfl)⟩
      | cons y ys =>
        obtain ⟨v2, hrun2, hs2⟩ := slc_from HKS.out (i := 1) (by simp)
        have HS2 : Hid (SlC w v2 ys) := hs2
        obtain ⟨a'', b2, o2, c'', he, _, _, ha, hx⟩ := HKS.out
        cases he
        obtain rfl : aK = some ⟨b2, o2, none⟩ := ha.resolve_left (by simp)
        have hcK : w.cell? ⟨b2, o2, none⟩ = some (eS y) := hx 0 y rfl
        clear hx ha hs2 HKS
        have hrun2' : ∀ W, (Instr.slice 25 (.slice (some ⟨b2, o2, none⟩) (ys.length + 1) cK) (some (.int .i64 1)) none none).run Try.prog W = .ok v2 W := hrun2
        clear hrun2
        have hlen2 : (y :: ys).length = ys.length + 1 := rfl
        rw [hlen2]
        have hys0 : ((ys.length : Int) + 1 == 0) = false := by rw [beq_eq_false_iff_ne]; omega
        have hk2 : ys.length ≤ 100001 := by simp at hk; omega
        have HC : Hid (∀ n, Calls Try.prog 34 #[v1, v2] (w.drewN n) fun e w' => e = .returned (.bool (mt ps ys)) ∧ ∃ q, w' = w.drewN (n + q)) := fun n =>
          (HI.out _ _ _ (w.drewN n) hk2 HS1.out HS2.out).mono fun _ _ h => ⟨h.1, h.2.choose, h.2.choose_spec.trans (drewN_two _ _ _)⟩
        by_cases hfit : x = STAR ∨ x = y
        · have HR : Hid (mt (x :: ps) (y :: ys) = mt ps ys) := by
            show _ = _
            rw [mt_one hxh]
            have : (x == STAR || x == y) = true := by rcases hfit with h | h <;> simp [h]
            rw [this, Bool.true_and]
          clear hxh
          by_cases hst : x = STAR
          · have e42 : ((str x).toList == [42]) = true := by rw [strL, hst]; rfl
            clear hst hfit
            go_enter Try.func34, Try.ntmps34
            go_wp2_with fail
            go_quiet (fail)
            go_wp2_with fail
            go_quiet ((go_at_call 34; exact (HC.out _).mono fun _ _ h => ⟨h.1, _, h.2.choose_spec.trans (by rw [Nat.add_assoc])⟩))
            go_wp2
            go_ret
            exact ⟨ret_bool HR.out.symm, _, (by first | exact drewN_two _ _ _ | rfl)⟩
          · have e42 : ((str x).toList == [42]) = false := by rw [strL, beq_eq_false_iff_ne]; exact hst
            have exy : ((str x).toList == (str y).toList) = true := by rw [strL, strL, hfit.resolve_left hst]; exact beq_self_eq_true _
            clear hst hfit
            go_enter Try.func34, Try.ntmps34
            go_wp2_with fail
            go_quiet (fail)
            go_wp2_with fail
            go_quiet ((go_at_call 34; exact (HC.out _).mono fun _ _ h => ⟨h.1, _, h.2.choose_spec.trans (by rw [Nat.add_assoc])⟩))
            go_wp2
            go_ret
            exact ⟨ret_bool HR.out.symm, _, (by first | exact drewN_two _ _ _ | rfl)⟩
        · have hst : x ≠ STAR := fun h => hfit (.inl h)
          have hxy : x ≠ y := fun h => hfit (.inr h)
          have e42 : ((str x).toList == [42]) = false := by rw [strL, beq_eq_false_iff_ne]; exact hst
          have exy : ((str x).toList == (str y).toList) = false := by rw [strL, strL, beq_eq_false_iff_ne]; exact hxy
          have HR : Hid (mt (x :: ps) (y :: ys) = false) := by
            show _ = _
            rw [mt_one hxh]
            have : (x == STAR || x == y) = false := by simp [hst, hxy]
            rw [this, Bool.false_and]
          clear hst hxy hfit hxh
          go_enter Try.func34, Try.ntmps34
          go_wp2_with fail
          go_quiet (fail)
          go_wp2
          go_ret
          exact ⟨ret_bool HR.out.symm, _, (by first | exact drewN_two _ _ _ | rfl)⟩
end Go.Proofs.Ytkidilojgjligaa
