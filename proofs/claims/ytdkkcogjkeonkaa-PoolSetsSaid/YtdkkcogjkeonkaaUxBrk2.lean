/- The library's breaking of patterns, whole. -/
import Derived.Test.YtdkkcogjkeonkaaUxBrk
import Derived.Deep.LoopGhost
import Derived.Deep.DeepCutAuto
import Derived.Deep.CutRange
import Derived.Deep.CutBlock
import Derived.BigRegion
set_option maxRecDepth 100000
set_option maxHeartbeats 4000000
set_option linter.unusedVariables false
namespace Go.Proofs.Ytdkkcogjkeonkaa
open Go.RowKit
open Go.Sort (swp PermIn SortedIn)
variable {sz cap B g : Nat} {w W W' : World} {d : Array Nat}
set_option maxHeartbeats 1000000 in
theorem brk32_any (h : PR sz cap B g w d W) (hsz : sz ≤ 1000) (hcap : sz ≤ cap) (a b : Nat) (hab : a + 12 < b) (hb : b ≤ sz) :
    Calls Try.prog 48 #[.slice (some ⟨g, 0, none⟩) sz cap, .int .i64 a, .int .i64 b] W fun e W' => e = .returned (.tuple #[]) ∧ ∃ d', PermIn a b d d' ∧ PR sz cap B g w d' W' := by
  have HG : Hid (g < W.heap.size) := h.lt
  have H0 := Lib.hid h
  obtain ⟨L, rfl⟩ : ∃ L, b = a + L := ⟨b - a, by omega⟩
  have hL1 : L ≤ 1000 := by omega
  have hL0 : 12 < L := by omega
  have E1 : Hid ((a : Int) + (L : Int) - (a : Int) = (L : Int)) := by show _ = _; omega
  have HNP := Lib.hid (fun W => npow2_any L (by omega) (by omega) W)
  clear h hab
  go_enter Try.func48, Try.ntmps48
  go_upto_region 1 with fail
  simp only [E1.out]
  go_wp2_with (go_at_call 61; refine (HNP.out _).mono ?_; rintro e w1 ⟨Y, ⟨hY1, hY2⟩, rfl, hw⟩; subst hw)
  obtain ⟨Q, hQ⟩ : ∃ Q, Q = L / 4 := ⟨_, rfl⟩
  have eQ : (L : Int) / 4 = (Q : Int) := by omega
  have EQ := Lib.hid eQ
  obtain ⟨M, hM⟩ : ∃ M, Y = M + 1 := ⟨Y - 1, by omega⟩
  subst hM
  have hg : g < W.heap.size := HG.out
  have H1 := Lib.hid (H0.out.alloc (.cells #[.int .u64 L] 80))
  have HX : Hid (XB W.heap.size L (W.alloc (.cells #[.int .u64 L] 80))) := heap_alloc_new W _
  have hQ3 : 3 ≤ Q ∧ Q * 4 ≤ L := by omega
  clear hQ
  simp only [eQ]
  go_loopg [9] 3 (fun n s9 X => ∃ (t z : Nat) (d' : Array Nat) (r : Nat), s9 = .int .i64 z ∧ n = 3 - t ∧ t ≤ 3 ∧ z = a + Q * 2 - 1 + t ∧ r < 18446744073709551616 ∧ Hid (PermIn a (a + L) d d') ∧ Hid (PR sz cap B g w d' X) ∧ Hid (XB W.heap.size r X))
  case atStart => exact ⟨0, a + Q * 2 - 1, d, L, by (congr 1; omega), rfl, by omega, by omega, by omega, permRefl _ _ _, H1, HX⟩
  case round =>
    obtain ⟨t, z, d', r, rfl, rfl, ht3, hz, hr, HM, HP, HXB⟩ := hrel
    by_cases ht : t < 3
    · have hc : (z : Int) ≤ (a : Int) + (Q : Int) * 2 + 1 := by omega
      have HZ : Hid (a + Q * 2 - 1 + t = z) := hz.symm
      clear hz
      have HXN := Lib.hid (fun W' h => xnext_any (W := W') (rb := W.heap.size) (X := r) h hr)
      go_upto_region 8 with (go_at_call 62; refine (HXN.out _ HXB.out).mono ?_; rintro e w2 ⟨r2, hr2, rfl, hx2, hb2⟩; have HP1 := Lib.hid (HP.out.belowG hg hb2); have HX1 := Lib.hid hx2; clear hx2 hb2; obtain ⟨o, ho, hoM⟩ := and_u64 r2 M hr2 (by omega))
      by_cases hoL : L ≤ o
      · have hLz : (L : Int) ≤ (o : Int) := by omega
        obtain ⟨o2, ho2⟩ : ∃ o2, o2 = o - L := ⟨_, rfl⟩
        have e2 : (o : Int) - (L : Int) = (o2 : Int) := by omega
        have ho2L : o2 < L := by omega
        clear ho2
        go_upto_region 10 with fail
        obtain ⟨k, hk⟩ : ∃ k, k = a + o2 := ⟨_, rfl⟩
        have ek : (a : Int) + (o2 : Int) = (k : Int) := by omega
        have HK : Hid (k = a + o2) := hk
        have hks : k < a + L := by omega
        have hzs : z < a + L := by have := HZ.out; omega
        have hkz : k < sz := by omega
        have hzz : z < sz := by omega
        have hk0 : (k : Int) < (sz : Int) := by omega
        have hz0 : (z : Int) < (sz : Int) := by omega
        have wk : IntKind.i64.wrap (k : Int) = (k : Int) := by rw [IntKind.wrap_i64]; omega
        have HM2 : Hid (PermIn a (a + L) d (swp d' z k)) := permTrans HM.out (permSwp d' (by have := HZ.out; omega) hzs (by omega) hks (by rw [HP1.out.size]; exact hb))
        have hw : IntKind.i64.wrap (z : Int) = (z : Int) := by rw [IntKind.wrap_i64]; omega
        clear hk
        by_cases hzk : z = k
        · subst hzk
          have cz := HP1.out.c z hzz
          have fz := HP1.out.f z hzz
          have HW := Lib.hid (HP1.out.swap0 z z hzz hzz hcap).drew1
          have HX2 := Lib.hid (((HX1.out.setO hg).setO hg).drewN 1 : XB _ _ (((w2.setCell ⟨g, z, none⟩ (eV d'[z]!)).setCell ⟨g, z, none⟩ (eV d'[z]!)).drewN 1))
          revert cz HW HX2
          generalize d'[z]! = v1
          intro cz HW HX2
          go_wp2
          go_region
          go_wp2
          go_roundg (3 - (t + 1))
          case measure => omega
          case rel => exact ⟨t + 1, z + 1, _, _, by go_num, by omega, ht, by have := HZ.out; omega, hr2, HM2, HW, HX2⟩
        · have cz := HP1.out.c z hzz
          have fz := HP1.out.f z hzz
          have ck := HP1.out.c k hkz
          have fk := HP1.out.f k hkz
          have hne : ¬ k = z := fun e => hzk e.symm
          have HW := Lib.hid (HP1.out.swap0 z k hzz hkz hcap).drew1
          have HX2 := Lib.hid (((HX1.out.setO hg).setO hg).drewN 1 : XB _ _ (((w2.setCell ⟨g, z, none⟩ (eV d'[k]!)).setCell ⟨g, k, none⟩ (eV d'[z]!)).drewN 1))
          revert cz ck HW HX2
          generalize d'[z]! = v1
          generalize d'[k]! = v2
          intro cz ck HW HX2
          go_wp2
          go_region
          go_wp2
          go_roundg (3 - (t + 1))
          case measure => omega
          case rel => exact ⟨t + 1, z + 1, _, _, by go_num, by omega, ht, by have := HZ.out; omega, hr2, HM2, HW, HX2⟩
      · have hLz : ¬ (L : Int) ≤ (o : Int) := by omega
        have ho2L : o < L := by omega
        go_upto_region 10 with fail
        obtain ⟨k, hk⟩ : ∃ k, k = a + o := ⟨_, rfl⟩
        have ek : (a : Int) + (o : Int) = (k : Int) := by omega
        have HK : Hid (k = a + o) := hk
        have hks : k < a + L := by omega
        have hzs : z < a + L := by have := HZ.out; omega
        have hkz : k < sz := by omega
        have hzz : z < sz := by omega
        have hk0 : (k : Int) < (sz : Int) := by omega
        have hz0 : (z : Int) < (sz : Int) := by omega
        have wk : IntKind.i64.wrap (k : Int) = (k : Int) := by rw [IntKind.wrap_i64]; omega
        have HM2 : Hid (PermIn a (a + L) d (swp d' z k)) := permTrans HM.out (permSwp d' (by have := HZ.out; omega) hzs (by omega) hks (by rw [HP1.out.size]; exact hb))
        have hw : IntKind.i64.wrap (z : Int) = (z : Int) := by rw [IntKind.wrap_i64]; omega
        clear hk
        by_cases hzk : z = k
        · subst hzk
          have cz := HP1.out.c z hzz
          have fz := HP1.out.f z hzz
          have HW := Lib.hid (HP1.out.swap0 z z hzz hzz hcap).drew1
          have HX2 := Lib.hid (((HX1.out.setO hg).setO hg).drewN 1 : XB _ _ (((w2.setCell ⟨g, z, none⟩ (eV d'[z]!)).setCell ⟨g, z, none⟩ (eV d'[z]!)).drewN 1))
          revert cz HW HX2
          generalize d'[z]! = v1
          intro cz HW HX2
          go_wp2
          go_region
          go_wp2
          go_roundg (3 - (t + 1))
          case measure => omega
          case rel => exact ⟨t + 1, z + 1, _, _, by go_num, by omega, ht, by have := HZ.out; omega, hr2, HM2, HW, HX2⟩
        · have cz := HP1.out.c z hzz
          have fz := HP1.out.f z hzz
          have ck := HP1.out.c k hkz
          have fk := HP1.out.f k hkz
          have hne : ¬ k = z := fun e => hzk e.symm
          have HW := Lib.hid (HP1.out.swap0 z k hzz hkz hcap).drew1
          have HX2 := Lib.hid (((HX1.out.setO hg).setO hg).drewN 1 : XB _ _ (((w2.setCell ⟨g, z, none⟩ (eV d'[k]!)).setCell ⟨g, k, none⟩ (eV d'[z]!)).drewN 1))
          revert cz ck HW HX2
          generalize d'[z]! = v1
          generalize d'[k]! = v2
          intro cz ck HW HX2
          go_wp2
          go_region
          go_wp2
          go_roundg (3 - (t + 1))
          case measure => omega
          case rel => exact ⟨t + 1, z + 1, _, _, by go_num, by omega, ht, by have := HZ.out; omega, hr2, HM2, HW, HX2⟩
    · have hc : ¬ (z : Int) ≤ (a : Int) + (Q : Int) * 2 + 1 := by omega
      go_wp2
      go_end0
      exact ⟨rfl, d', HM.out, HP.out⟩
end Go.Proofs.Ytdkkcogjkeonkaa
