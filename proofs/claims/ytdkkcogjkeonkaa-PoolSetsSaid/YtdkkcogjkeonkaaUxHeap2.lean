/- The library's heap sort, whole. -/
import Derived.Test.YtdkkcogjkeonkaaUxHeap
set_option maxRecDepth 100000
set_option maxHeartbeats 4000000
set_option linter.unusedVariables false
namespace Go.Proofs.Ytdkkcogjkeonkaa
open Go.RowKit
open Go.Sort (swp PermIn SortedIn siftDown heapBuild heapPop heapSort)
variable {sz cap B g : Nat} {w W W' : World} {d : Array Nat}
theorem heapBuild_succ (hi F k : Nat) (d : Array Nat) : heapBuild vlt hi F (k + 1) d = heapBuild vlt hi F k (siftDown vlt hi F k d) := rfl
theorem heapPop_succ (F k : Nat) (d : Array Nat) : heapPop vlt F (k + 1) d = heapPop vlt F k (siftDown vlt k F 0 (swp d F (F + k))) := rfl
set_option maxHeartbeats 1000000 in
theorem heap32_any (h : PR sz cap B g w d W) (hsz : sz ≤ 1000) (hcap : sz ≤ cap) (a b : Nat) (hab : a < b) (hb : b ≤ sz) :
    Calls Try.prog 47 #[.slice (some ⟨g, 0, none⟩) sz cap, .int .i64 a, .int .i64 b] W fun e W' => e = .returned (.tuple #[]) ∧ PR sz cap B g w (heapSort vlt d a b) W' := by
  have H0 := Lib.hid h
  obtain ⟨L, rfl⟩ : ∃ L, b = a + L := ⟨b - a, by omega⟩
  have hL : 0 < L := by omega
  have E1 : Hid ((a : Int) + (L : Int) - (a : Int) = (L : Int)) := by show _ = _; omega
  have HE : Hid (heapSort vlt d a (a + L) = heapPop vlt a L (heapBuild vlt L a ((L - 1) / 2 + 1) d)) := by
    show _ = _
    unfold heapSort
    rw [Nat.add_sub_cancel_left]
  have HS := Lib.hid (fun (k : Nat) (d' : Array Nat) X (h : PR sz cap B g w d' X) (hk : k ≤ L) => sift32_any h hsz hcap k L a hk hb)
  have HT := Lib.hid (fun (k : Nat) (d' : Array Nat) X (h : PR sz cap B g w d' X) (hk : k ≤ L) => sift32_any h hsz hcap 0 k a (Nat.zero_le _) (by omega))
  obtain ⟨K0, hK0⟩ : ∃ K0, K0 = (L - 1) / 2 + 1 := ⟨_, rfl⟩
  have HK0 : Hid (((L : Int) - 1) / 2 = (K0 : Int) - 1) := by show _ = _; omega
  have HK1 : Hid (K0 ≤ L) := by show _ ≤ _; omega
  rw [← hK0] at HE
  clear h hK0 hab
  go_enter Try.func47, Try.ntmps47
  go_upto_region 3 with fail
  simp only [E1.out]
  go_wp2
  go_loopg [9] (K0 + 1) (fun n s9 X => ∃ (k : Nat) (z : Int) (d' : Array Nat), s9 = .int .i64 z ∧ n = k + 1 ∧ z = (k : Int) - 1 ∧ k ≤ K0 ∧ Hid (PR sz cap B g w d' X) ∧ Hid (heapBuild vlt L a k d' = heapBuild vlt L a K0 d))
  case atStart => exact ⟨K0, _, d, rfl, rfl, HK0.out, Nat.le_refl _, H0, rfl⟩
  case round =>
    obtain ⟨k, z, d', rfl, rfl, hz, hk, HP, HB⟩ := hrel
    cases k with
    | succ k =>
      obtain rfl : z = (k : Int) := by omega
      have hk1 : k ≤ 1000 := by have := HK1.out; omega
      clear hz
      go_wp2_with (go_at_call 60; refine (HS.out k d' _ HP.out (by have := HK1.out; omega)).mono ?_; rintro e w1 ⟨rfl, hp1⟩; have HP1 := Lib.hid hp1; clear hp1)
      go_roundg (k + 1)
      case measure => omega
      case rel => exact ⟨k, _, _, rfl, rfl, rfl, by omega, HP1, by show _ = _; rw [← HB.out, heapBuild_succ]⟩
    | zero =>
      obtain rfl : z = -1 := by omega
      clear hz
      obtain ⟨W1, hW1⟩ : ∃ W1, W1 = wr := ⟨_, rfl⟩
      subst hW1
      go_upto_region 8 with fail
      go_loopg [10] (L + 1) (fun n s10 X => ∃ (k : Nat) (z : Int) (d2 : Array Nat), s10 = .int .i64 z ∧ n = k + 1 ∧ z = (k : Int) - 1 ∧ k ≤ L ∧ Hid (PR sz cap B g w d2 X) ∧ Hid (heapPop vlt a k d2 = heapSort vlt d a (a + L)))
      case atStart => exact ⟨L, _, d', rfl, rfl, by first | rfl | omega, Nat.le_refl _, HP, by show _ = _; rw [HE.out, ← HB.out]; rfl⟩
      case round =>
        obtain ⟨k, z, d2, rfl, rfl, hz, hk, HQ, HB2⟩ := hrel
        cases k with
        | succ k =>
          obtain rfl : z = (k : Int) := by omega
          clear hz
          obtain ⟨G, hG⟩ : ∃ G : Nat → Nat, ∀ t, G t = d2[t]! := ⟨fun t => d2[t]!, fun _ => rfl⟩
          have HG := Lib.hid hG
          have ca : wr.cell? ⟨g, a, none⟩ = some (.int .u32 (G a)) := by rw [hG]; exact (HQ.out.cell a (by omega)).1
          have fa := (HQ.out.cell a (by omega)).2
          have ha0 : (a : Int) < (sz : Int) := by omega
          by_cases hk0 : k = 0
          · subst hk0
            have HW0 := Lib.hid ((HQ.out.swap0 a a (by omega) (by omega) hcap).drewN 1)
            rw [← hG] at HW0
            clear hG
            go_wp2
            go_region
            go_wp2_with (go_at_call 60; refine (HT.out 0 _ _ HW0.out (by omega)).mono ?_; rintro e w2 ⟨rfl, hp2⟩; have HP2 := Lib.hid hp2; clear hp2)
            go_roundg (0 + 1)
            case measure => omega
            case rel => exact ⟨0, _, _, rfl, rfl, rfl, by omega, HP2, by show _ = _; rw [← HB2.out, heapPop_succ, Nat.add_zero]⟩
          · obtain ⟨x, hx⟩ : ∃ x, x = a + k := ⟨_, rfl⟩
            have ex : (a : Int) + (k : Int) = (x : Int) := by omega
            have wx : IntKind.i64.wrap (x : Int) = (x : Int) := by rw [IntKind.wrap_i64]; omega
            have HX : Hid (x = a + k) := hx
            have cx : wr.cell? ⟨g, x, none⟩ = some (.int .u32 (G x)) := by rw [hG]; exact (HQ.out.cell x (by omega)).1
            have fx := (HQ.out.cell x (by omega)).2
            have hx0 : (x : Int) < (sz : Int) := by omega
            have HW := Lib.hid (HQ.out.swap 1 a x (by omega) (by omega) hcap)
            rw [← hG, ← hG] at HW
            have hax : a < x := by omega
            clear hx hG hk0
            go_wp2
            go_region
            go_wp2_with (go_at_call 60; refine (HT.out k _ _ HW.out (by omega)).mono ?_; rintro e w2 ⟨rfl, hp2⟩; have HP2 := Lib.hid hp2; clear hp2)
            go_roundg (k + 1)
            case measure => omega
            case rel => exact ⟨k, _, _, rfl, rfl, rfl, by omega, HP2, by show _ = _; rw [← HB2.out, heapPop_succ, HX.out]⟩
        | zero =>
          obtain rfl : z = -1 := by omega
          clear hz
          go_wp2
          go_end0
          refine ⟨rfl, ?_⟩
          rw [← HB2.out]
          exact HQ.out
end Go.Proofs.Ytdkkcogjkeonkaa
