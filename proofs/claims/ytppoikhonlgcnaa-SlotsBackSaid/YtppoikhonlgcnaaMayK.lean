/- The contract of mayStand, at a branch's cells. -/
import Derived.Test.YtppoikhonlgcnaaSizK
import Derived.Test.YtppoikhonlgcnaaSteps
import Derived.Test.YtppoikhonlgcnaaMayC
import Derived.WalkLawsBesides
import Derived.Lib.Strings
namespace Go.Proofs.Ytppoikhonlgcnaa
open Go.RowKit
open Sl (Cl Kd)

set_option maxHeartbeats 4000000 in
set_option maxRecDepth 100000 in
theorem mayK_any (v : Value) (l : List Kd) (hll : l.length ≤ 100000) (w : World) (hv : SlK w v l) :
    Calls Try.prog 55 #[shpK, v] w fun e w' => e = .returned (.int .i64 (Sl.right Sl.shK l)) ∧ Below w.heap.size w w' := by
  have HV := Lib.hid hv
  obtain ⟨a, b, o, c, rfl, ha, hx⟩ := hv
  have HX := Lib.hid hx
  have HA := Lib.hid ha
  clear ha hx
  have hn1 : ∀ w, (binOp .neq 33 .nilFunc .nilFunc).run Try.prog w = .ok (.bool false) w := fun w => by kernel_rfl
  unfold shpK
  have HB0 := Lib.hid (BxK.new w)
  go_enter Try.func55, Try.ntmps55
  go_wp2
  have HW0 : Hid (Below w.heap.size w (w.alloc (.cells #[.func (.func 38) #[] #[], .func (.func 41) #[] #[], .func (.func 42) #[] #[], .nilFunc] 35))) := (Below.refl _ _).alloc (Nat.le_refl _) _
  revert HB0 HW0
  generalize (w.alloc (.cells #[.func (.func 38) #[] #[], .func (.func 41) #[] #[], .func (.func 42) #[] #[], .nilFunc] 35)) = w2
  generalize hg : w.heap.size = g
  have HG := Lib.hid hg
  clear hg
  intro HB0 HW0
  go_loopg [10] l.length (fun n i wr => ∃ k : Nat, k ≤ l.length ∧ n = l.length - k ∧ i = .int .i64 k ∧ Hid ((l.take k).any (Sl.long Sl.shK) = false) ∧ Hid (Below (g + 1) w2 wr))
  case atStart => exact ⟨0, Nat.zero_le _, rfl, rfl, rfl, Below.refl _ _⟩
  case round =>
    obtain ⟨k, hk, rfl, rfl, HM, HB⟩ := hrel
    by_cases hlt : k < l.length
    · obtain ⟨x, hx⟩ := take_some l k hlt
      have HXK := Lib.hid hx
      obtain ⟨e0, e1⟩ := HX.out k x hx
      have hblt : b < g := by have h1 := World.block_lt_of_cell? _ _ e0; rw [HG.out] at h1; exact h1
      have HWr := Lib.hid (HW0.out.trans (HB.out.mono (Nat.le_succ g)))
      have d0 := (HWr.out.cell (p := ⟨b, o + k * 2, none⟩) hblt).trans e0
      have d1 := (HWr.out.cell (p := ⟨b, o + k * 2 + 1, none⟩) hblt).trans e1
      have HR := Lib.hid (HB0.out.below HB.out (Nat.lt_succ_self g))
      have q0 := fun o1 => (HR.out.alloc o1).c0
      have q1 := fun o1 => (HR.out.alloc o1).c1
      have q2 := fun o1 => (HR.out.alloc o1).c2
      have q3 := fun o1 => (HR.out.alloc o1).c3
      obtain rfl : a = some ⟨b, o, none⟩ := by
        rcases HA.out with h | h
        · rw [h] at hlt; cases hlt
        · exact h
      have HK := Lib.hid (fun W => keyK2_any x W)
      unfold shpK aggK at HK
      have hs := str_size (Sl.shK.key x)
      clear e0 e1 hx
      revert HK hs
      generalize hky : Sl.shK.key x = ky
      have HKY := Lib.hid hky
      clear hky
      intro HK hs
      by_cases hA : 255 < ky.length
      · have HL : Hid (Sl.right Sl.shK l = 5) := Sl.right_long Sl.shK l k x HXK.out (by unfold Sl.long; rw [HKY.out, decide_eq_true hA]; rfl)
        have hA' : (255 : Int) < ky.length := by omega
        go_wp2_with (go_at_call 70; refine (HK.out _).mono ?_; rintro e w4 ⟨rfl, hb4⟩)
        have HB4 : Hid (Below (g + 1) w2 w4) := (HB.out.alloc (by have := HR.out.lt; omega) _).trans (hb4.mono (by have := HR.out.lt; simp; omega))
        go_ret
        refine ⟨ret_int HL.out.symm, ?_⟩
        rw [HG.out]
        exact HW0.out.trans (HB4.out.mono (Nat.le_succ g))
      · have hA' : ¬ (255 : Int) < ky.length := by omega
        have HLX : Hid (Sl.long Sl.shK x = false) := by show _ = _; unfold Sl.long; rw [HKY.out, decide_eq_false hA]; rfl
        have HN := Lib.hid (Sl.any_snoc Sl.shK l k x HXK.out HM.out HLX.out)
        go_wp2_with (first
          | (go_at_call 70; refine (HK.out _).mono ?_; rintro e w4 ⟨rfl, hb4⟩; have HR4 := Lib.hid ((HR.out.alloc (.cells #[.string (str x.key), .int .u32 x.page] 47)).below hb4 (by have := HR.out.lt; simp; omega)); have r3 := HR4.out.c3))
        have HB4 : Hid (Below (g + 1) w2 w4) := (HB.out.alloc (by have := HR.out.lt; omega) _).trans (hb4.mono (by have := HR.out.lt; simp; omega))
        clear hb4
        go_roundg (l.length - (k + 1))
        case measure => omega
        case rel => exact ⟨k + 1, by omega, rfl, by go_num, HN, HB4⟩
    · obtain rfl : k = l.length := by omega
      rw [List.take_length] at HM
      obtain ⟨wo, rfl⟩ : ∃ wo : World, wo = wr := ⟨_, rfl⟩
      have HBO := Lib.hid HB.out
      clear HB
      go_wp2
      go_loopg [35] l.length (fun n i wr => ∃ k : Nat, k ≤ l.length - 1 ∧ n = l.length - k ∧ i = .int .i64 k ∧ Hid (∀ j a b, j < k → l[j]? = some a → l[j + 1]? = some b → Sl.less (Sl.shK.key a) (Sl.shK.key b) = true) ∧ Hid (Below (g + 1) w2 wr))
      case atStart => exact ⟨0, Nat.zero_le _, rfl, rfl, fun j a b hj => absurd hj (Nat.not_lt_zero j), HBO.out⟩
      case round =>
        obtain ⟨k, hk', rfl, rfl, HN, HB⟩ := hrel
        by_cases hlt1 : k + 1 < l.length
        · obtain ⟨x, hx⟩ := take_some l k (by omega)
          obtain ⟨y, hy⟩ := take_some l (k + 1) hlt1
          have HXK := Lib.hid hx
          have HYK := Lib.hid hy
          obtain ⟨e0, e1⟩ := HX.out k x hx
          obtain ⟨f0, f1⟩ := HX.out (k + 1) y hy
          have hblt : b < g := by have h1 := World.block_lt_of_cell? _ _ e0; rw [HG.out] at h1; exact h1
          have HWr := Lib.hid (HW0.out.trans (HB.out.mono (Nat.le_succ g)))
          have d0 := (HWr.out.cell (p := ⟨b, o + k * 2, none⟩) hblt).trans e0
          have d1 := (HWr.out.cell (p := ⟨b, o + k * 2 + 1, none⟩) hblt).trans e1
          have g0 := (HWr.out.cell (p := ⟨b, o + (k + 1) * 2, none⟩) hblt).trans f0
          have g1 := (HWr.out.cell (p := ⟨b, o + (k + 1) * 2 + 1, none⟩) hblt).trans f1
          have HR := Lib.hid (HB0.out.below HB.out (Nat.lt_succ_self g))
          obtain rfl : a = some ⟨b, o, none⟩ := by
            rcases HA.out with h | h
            · rw [h] at hlt1; cases hlt1
            · exact h
          have hF : Hid (wr.drew.cell? ⟨g, 0, none⟩ = some (.func (.func 38) #[] #[]) ∧ wr.drew.cell? ⟨g, 1, none⟩ = some (.func (.func 41) #[] #[]) ∧ wr.drew.cell? ⟨g, 2, none⟩ = some (.func (.func 42) #[] #[]) ∧ wr.drew.cell? ⟨g, 3, none⟩ = some (.nilFunc) ∧ wr.drew.cell? ⟨b, o + k * 2, none⟩ = some (.string (str x.key)) ∧ wr.drew.cell? ⟨b, o + k * 2 + 1, none⟩ = some (.int .u32 x.page) ∧ wr.drew.cell? ⟨b, o + (k + 1) * 2, none⟩ = some (.string (str y.key)) ∧ wr.drew.cell? ⟨b, o + (k + 1) * 2 + 1, none⟩ = some (.int .u32 y.page) ∧ Below (g + 1) w2 wr.drew) := ⟨HR.out.c0, HR.out.c1, HR.out.c2, HR.out.c3, d0, d1, g0, g1, HB.out.drew⟩
          have hg2 := HB0.out.lt
          have HX1 := Lib.hid (fun W => keyK2_any x W)
          have HX2 := Lib.hid (fun W => keyK2_any y W)
          unfold shpK aggK at HX1 HX2
          clear e0 e1 f0 f1 d0 g0 d1 g1 hx hy
          have hwr : IntKind.i64.wrap ((k : Int) + 1) = (k : Int) + 1 := IntWalk.i64_in _ (by omega)
          have hk0 : (0 : Int) ≤ (k : Int) := by omega
          have hk1 : (k : Int) < l.length := by omega
          have hk2 : (0 : Int) ≤ (k : Int) + 1 := by omega
          have hk3 : (k : Int) + 1 < l.length := by omega
          have hk4 : ((k : Int) + 1).toNat = k + 1 := by omega
          have hlen : (k : Int) < (l.length : Int) - 1 := by omega
          cases hle : Sl.less (Sl.shK.key x) (Sl.shK.key y)
          · have hb1 : Op.bytesLess (str (Sl.shK.key x)).toList (str (Sl.shK.key y)).toList = false := (bl _ _).trans hle
            have HR30 : Hid (Sl.right Sl.shK l = 30) := Sl.right_drop Sl.shK l HM.out (Sl.rises_false Sl.shK l k x y HXK.out HYK.out hle)
            clear hle
            go_wp2_with fail
            go_region_held3 (fun w' => w'.cell? ⟨g, 0, none⟩ = some (.func (.func 38) #[] #[]) ∧ w'.cell? ⟨g, 1, none⟩ = some (.func (.func 41) #[] #[]) ∧ w'.cell? ⟨g, 2, none⟩ = some (.func (.func 42) #[] #[]) ∧ w'.cell? ⟨g, 3, none⟩ = some (.nilFunc) ∧ w'.cell? ⟨b, o + k * 2, none⟩ = some (.string (str x.key)) ∧ w'.cell? ⟨b, o + k * 2 + 1, none⟩ = some (.int .u32 x.page) ∧ w'.cell? ⟨b, o + (k + 1) * 2, none⟩ = some (.string (str y.key)) ∧ w'.cell? ⟨b, o + (k + 1) * 2 + 1, none⟩ = some (.int .u32 y.page) ∧ Below (g + 1) w2 w')
              ((first | assumption | exact step8 (Nat.succ_le_of_lt hg2) ‹_› hb | exact hF.out))
              (first
              | (go_at_call 70; with_reducible refine (HX1.out _).mono ?_; rintro e w4 ⟨rfl, hb⟩)
              | (go_at_call 70; with_reducible refine (HX2.out _).mono ?_; rintro e w4 ⟨rfl, hb⟩))
            rename_i hS
            have HB4 := Lib.hid hS.2.2.2.2.2.2.2.2
            go_wp2
            go_ret
            refine ⟨ret_int HR30.out.symm, ?_⟩
            rw [HG.out]
            exact HW0.out.trans (HB4.out.mono (Nat.le_succ g))
          · have hb1 : Op.bytesLess (str (Sl.shK.key x)).toList (str (Sl.shK.key y)).toList = true := (bl _ _).trans hle
            have HNN := Lib.hid (Sl.rises_upto Sl.shK l k x y HXK.out HYK.out hle HN.out)
            clear hle
            go_wp2_with fail
            go_region_held3 (fun w' => w'.cell? ⟨g, 0, none⟩ = some (.func (.func 38) #[] #[]) ∧ w'.cell? ⟨g, 1, none⟩ = some (.func (.func 41) #[] #[]) ∧ w'.cell? ⟨g, 2, none⟩ = some (.func (.func 42) #[] #[]) ∧ w'.cell? ⟨g, 3, none⟩ = some (.nilFunc) ∧ w'.cell? ⟨b, o + k * 2, none⟩ = some (.string (str x.key)) ∧ w'.cell? ⟨b, o + k * 2 + 1, none⟩ = some (.int .u32 x.page) ∧ w'.cell? ⟨b, o + (k + 1) * 2, none⟩ = some (.string (str y.key)) ∧ w'.cell? ⟨b, o + (k + 1) * 2 + 1, none⟩ = some (.int .u32 y.page) ∧ Below (g + 1) w2 w')
              ((first | assumption | exact step8 (Nat.succ_le_of_lt hg2) ‹_› hb | exact hF.out))
              (first
              | (go_at_call 70; with_reducible refine (HX1.out _).mono ?_; rintro e w4 ⟨rfl, hb⟩)
              | (go_at_call 70; with_reducible refine (HX2.out _).mono ?_; rintro e w4 ⟨rfl, hb⟩))
            rename_i hS
            have HB4 := Lib.hid hS.2.2.2.2.2.2.2.2
            clear hS hk4 hwr
            go_wp2
            go_roundg (l.length - (k + 1))
            case measure => omega
            case rel => exact ⟨k + 1, by omega, rfl, by go_num, HNN, HB4⟩
        · have hlen : ¬ (k : Int) < (l.length : Int) - 1 := by omega
          have HR0 : Hid (Sl.right Sl.shK l = 0) := Sl.right_ok Sl.shK l HM.out (Sl.rises_all Sl.shK l fun j a b hj => HN.out j a b (by omega))
          go_wp2
          go_ret
          refine ⟨ret_int HR0.out.symm, ?_⟩
          rw [HG.out]
          exact HW0.out.trans (HB.out.mono (Nat.le_succ g))
end Go.Proofs.Ytppoikhonlgcnaa
