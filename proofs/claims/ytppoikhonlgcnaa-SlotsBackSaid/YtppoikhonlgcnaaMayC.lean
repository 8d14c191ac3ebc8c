/- The contract of mayStand, at a leaf's cells. -/
import Derived.Test.YtppoikhonlgcnaaSizC
import Derived.Test.YtppoikhonlgcnaaSteps
import Derived.WalkLawsBesides
import Derived.Lib.Strings
namespace Go.Proofs.Ytppoikhonlgcnaa
open Go.RowKit
open Sl (Cl Kd)
theorem op_less : ∀ x y : List UInt8, Op.bytesLess x y = Sl.less x y
  | [], [] => rfl
  | [], _ :: _ => rfl
  | _ :: _, [] => rfl
  | a :: x, b :: y => by rw [Op.bytesLess, Sl.less, op_less x y]
theorem bl (a b : List UInt8) : Op.bytesLess (str a).toList (str b).toList = Sl.less a b := by
  rw [Lib.toList_data, Lib.toList_data, op_less]; rfl
theorem elemC {w w1 : World} {x0 x1 x2 x3 : Value} {T : TypeId} (hb : Below (w.alloc (.cells #[x0, x1, x2, x3] T)).heap.size (w.alloc (.cells #[x0, x1, x2, x3] T)) w1) :
    w1.cell? ⟨w.heap.size, 0, none⟩ = some x0 ∧ w1.cell? ⟨w.heap.size, 1, none⟩ = some x1 ∧ w1.cell? ⟨w.heap.size, 2, none⟩ = some x2 ∧ w1.cell? ⟨w.heap.size, 3, none⟩ = some x3 :=
  ⟨(hb.cell (p := ⟨w.heap.size, 0, none⟩) (by simp)).trans (by simp), (hb.cell (p := ⟨w.heap.size, 1, none⟩) (by simp)).trans (by simp), (hb.cell (p := ⟨w.heap.size, 2, none⟩) (by simp)).trans (by simp), (hb.cell (p := ⟨w.heap.size, 3, none⟩) (by simp)).trans (by simp)⟩
set_option maxHeartbeats 4000000 in
set_option maxRecDepth 100000 in
theorem mayC_any (v : Value) (l : List Cl) (hll : l.length ≤ 100000) (w : World) (hv : SlC w v l) :
    Calls Try.prog 44 #[shpC, v] w fun e w' => e = .returned (.int .i64 (Sl.right Sl.shC l)) ∧ Below w.heap.size w w' := by
  have HV := Lib.hid hv
  obtain ⟨a, b, o, c, rfl, ha, hx⟩ := hv
  have HX := Lib.hid hx
  have HA := Lib.hid ha
  clear ha hx
  have hn1 : ∀ w, (binOp .neq 27 (.func (.func 36) #[] #[]) .nilFunc).run Try.prog w = .ok (.bool true) w := fun w => by kernel_rfl
  unfold shpC
  have HB0 := Lib.hid (BxC.new w)
  go_enter Try.func44, Try.ntmps44
  go_wp2
  have HW0 : Hid (Below w.heap.size w (w.alloc (.cells #[.func (.func 33) #[] #[], .func (.func 34) #[] #[], .func (.func 35) #[] #[], .func (.func 36) #[] #[]] 29))) := (Below.refl _ _).alloc (Nat.le_refl _) _
  revert HB0 HW0
  generalize (w.alloc (.cells #[.func (.func 33) #[] #[], .func (.func 34) #[] #[], .func (.func 35) #[] #[], .func (.func 36) #[] #[]] 29)) = w2
  generalize hg : w.heap.size = g
  have HG := Lib.hid hg
  clear hg
  intro HB0 HW0
  go_loopg [10] l.length (fun n i wr => ∃ k : Nat, k ≤ l.length ∧ n = l.length - k ∧ i = .int .i64 k ∧ Hid ((l.take k).any (Sl.long Sl.shC) = false) ∧ Hid (Below (g + 1) w2 wr))
  case atStart => exact ⟨0, Nat.zero_le _, rfl, rfl, rfl, Below.refl _ _⟩
  case round =>
    obtain ⟨k, hk, rfl, rfl, HM, HB⟩ := hrel
    by_cases hlt : k < l.length
    · obtain ⟨x, hx⟩ := take_some l k hlt
      have HXK := Lib.hid hx
      obtain ⟨e0, e1, e2, e3⟩ := HX.out k x hx
      have hblt : b < g := by have h1 := World.block_lt_of_cell? _ _ e0; rw [HG.out] at h1; exact h1
      have HWr := Lib.hid (HW0.out.trans (HB.out.mono (Nat.le_succ g)))
      have d0 := (HWr.out.cell (p := ⟨b, o + k * 4, none⟩) hblt).trans e0
      have d1 := (HWr.out.cell (p := ⟨b, o + k * 4 + 1, none⟩) hblt).trans e1
      have d2 := (HWr.out.cell (p := ⟨b, o + k * 4 + 2, none⟩) hblt).trans e2
      have d3 := (HWr.out.cell (p := ⟨b, o + k * 4 + 3, none⟩) hblt).trans e3
      have HR := Lib.hid (HB0.out.below HB.out (Nat.lt_succ_self g))
      have q0 := fun o1 => (HR.out.alloc o1).c0
      have q1 := fun o1 => (HR.out.alloc o1).c1
      have q2 := fun o1 => (HR.out.alloc o1).c2
      have q3 := fun o1 => (HR.out.alloc o1).c3
      obtain rfl : a = some ⟨b, o, none⟩ := by
        rcases HA.out with h | h
        · rw [h] at hlt; cases hlt
        · exact h
      have HK := Lib.hid (fun W => keyC2_any x W)
      unfold shpC aggC at HK
      have hs := str_size (Sl.shC.key x)
      clear e0 e1 e2 e3 hx
      revert HK hs
      generalize hky : Sl.shC.key x = ky
      have HKY := Lib.hid hky
      clear hky
      intro HK hs
      by_cases hA : 255 < ky.length
      · have HL : Hid (Sl.right Sl.shC l = 5) := Sl.right_long Sl.shC l k x HXK.out (by unfold Sl.long; rw [HKY.out, decide_eq_true hA]; rfl)
        have hA' : (255 : Int) < ky.length := by omega
        go_wp2_with (go_at_call 67; refine (HK.out _).mono ?_; rintro e w4 ⟨rfl, hb4⟩)
        have HB4 : Hid (Below (g + 1) w2 w4) := (HB.out.alloc (by have := HR.out.lt; omega) _).trans (hb4.mono (by have := HR.out.lt; simp; omega))
        go_ret
        refine ⟨ret_int HL.out.symm, ?_⟩
        rw [HG.out]
        exact HW0.out.trans (HB4.out.mono (Nat.le_succ g))
      · have hA' : ¬ (255 : Int) < ky.length := by omega
        have HF := Lib.hid (fun W => fitsC_any x W)
        unfold aggC at HF
        by_cases hf : Sl.fitsC x = true
        · have HLX : Hid (Sl.long Sl.shC x = false) := by show _ = _; unfold Sl.long; rw [HKY.out, decide_eq_false hA]; show (!(Sl.fitsC x)) = false; rw [hf]; rfl
          have HN := Lib.hid (Sl.any_snoc Sl.shC l k x HXK.out HM.out HLX.out)
          rw [hf] at HF
          clear hf
          go_wp2_with (first
            | (go_at_call 67; refine (HK.out _).mono ?_; rintro e w4 ⟨rfl, hb4⟩; have HR4 := Lib.hid ((HR.out.alloc (.cells #[.string (str x.key), .string (str x.val), .int .u32 x.chain, .int .u32 x.long] 42)).below hb4 (by have := HR.out.lt; simp; omega)); have r3 := HR4.out.c3; obtain ⟨f0, f1, f2, f3⟩ := elemC hb4)
            | (go_at_call 36; refine (HF.out _).mono ?_; rintro e w5 ⟨rfl, hb5⟩))
          have HB4 : Hid (Below (g + 1) w2 w5) := ((HB.out.alloc (by have := HR.out.lt; omega) _).trans (hb4.mono (by have := HR.out.lt; simp; omega))).trans (hb5.mono (by have h1 := HR.out.lt; have h2 := hb4.size; simp at h2; omega))
          clear hb4 hb5
          go_roundg (l.length - (k + 1))
          case measure => omega
          case rel => exact ⟨k + 1, by omega, rfl, by go_num, HN, HB4⟩
        · have hf' : Sl.fitsC x = false := by simpa using hf
          have HL : Hid (Sl.right Sl.shC l = 5) := Sl.right_long Sl.shC l k x HXK.out (by unfold Sl.long; rw [HKY.out, decide_eq_false hA]; show (!(Sl.fitsC x)) = true; rw [hf']; rfl)
          rw [hf'] at HF
          clear hf hf'
          go_wp2_with (first
            | (go_at_call 67; refine (HK.out _).mono ?_; rintro e w4 ⟨rfl, hb4⟩; have HR4 := Lib.hid ((HR.out.alloc (.cells #[.string (str x.key), .string (str x.val), .int .u32 x.chain, .int .u32 x.long] 42)).below hb4 (by have := HR.out.lt; simp; omega)); have r3 := HR4.out.c3; obtain ⟨f0, f1, f2, f3⟩ := elemC hb4)
            | (go_at_call 36; refine (HF.out _).mono ?_; rintro e w5 ⟨rfl, hb5⟩))
          have HB4 : Hid (Below (g + 1) w2 w5) := ((HB.out.alloc (by have := HR.out.lt; omega) _).trans (hb4.mono (by have := HR.out.lt; simp; omega))).trans (hb5.mono (by have h1 := HR.out.lt; have h2 := hb4.size; simp at h2; omega))
          go_ret
          refine ⟨ret_int HL.out.symm, ?_⟩
          rw [HG.out]
          exact HW0.out.trans (HB4.out.mono (Nat.le_succ g))
    · obtain rfl : k = l.length := by omega
      rw [List.take_length] at HM
      obtain ⟨wo, rfl⟩ : ∃ wo : World, wo = wr := ⟨_, rfl⟩
      have HBO := Lib.hid HB.out
      clear HB
      go_wp2
      go_loopg [35] l.length (fun n i wr => ∃ k : Nat, k ≤ l.length - 1 ∧ n = l.length - k ∧ i = .int .i64 k ∧ Hid (∀ j a b, j < k → l[j]? = some a → l[j + 1]? = some b → Sl.less (Sl.shC.key a) (Sl.shC.key b) = true) ∧ Hid (Below (g + 1) w2 wr))
      case atStart => exact ⟨0, Nat.zero_le _, rfl, rfl, fun j a b hj => absurd hj (Nat.not_lt_zero j), HBO.out⟩
      case round =>
        obtain ⟨k, hk', rfl, rfl, HN, HB⟩ := hrel
        by_cases hlt1 : k + 1 < l.length
        · obtain ⟨x, hx⟩ := take_some l k (by omega)
          obtain ⟨y, hy⟩ := take_some l (k + 1) hlt1
          have HXK := Lib.hid hx
          have HYK := Lib.hid hy
          obtain ⟨e0, e1, e2, e3⟩ := HX.out k x hx
          obtain ⟨f0, f1, f2, f3⟩ := HX.out (k + 1) y hy
          have hblt : b < g := by have h1 := World.block_lt_of_cell? _ _ e0; rw [HG.out] at h1; exact h1
          have HWr := Lib.hid (HW0.out.trans (HB.out.mono (Nat.le_succ g)))
          have d0 := (HWr.out.cell (p := ⟨b, o + k * 4, none⟩) hblt).trans e0
          have d1 := (HWr.out.cell (p := ⟨b, o + k * 4 + 1, none⟩) hblt).trans e1
          have d2 := (HWr.out.cell (p := ⟨b, o + k * 4 + 2, none⟩) hblt).trans e2
          have d3 := (HWr.out.cell (p := ⟨b, o + k * 4 + 3, none⟩) hblt).trans e3
          have g0 := (HWr.out.cell (p := ⟨b, o + (k + 1) * 4, none⟩) hblt).trans f0
          have g1 := (HWr.out.cell (p := ⟨b, o + (k + 1) * 4 + 1, none⟩) hblt).trans f1
          have g2 := (HWr.out.cell (p := ⟨b, o + (k + 1) * 4 + 2, none⟩) hblt).trans f2
          have g3 := (HWr.out.cell (p := ⟨b, o + (k + 1) * 4 + 3, none⟩) hblt).trans f3
          have HR := Lib.hid (HB0.out.below HB.out (Nat.lt_succ_self g))
          obtain rfl : a = some ⟨b, o, none⟩ := by
            rcases HA.out with h | h
            · rw [h] at hlt1; cases hlt1
            · exact h
          have hF : Hid (wr.drew.cell? ⟨g, 0, none⟩ = some (.func (.func 33) #[] #[]) ∧ wr.drew.cell? ⟨g, 1, none⟩ = some (.func (.func 34) #[] #[]) ∧ wr.drew.cell? ⟨g, 2, none⟩ = some (.func (.func 35) #[] #[]) ∧ wr.drew.cell? ⟨g, 3, none⟩ = some (.func (.func 36) #[] #[]) ∧ wr.drew.cell? ⟨b, o + k * 4, none⟩ = some (.string (str x.key)) ∧ wr.drew.cell? ⟨b, o + k * 4 + 1, none⟩ = some (.string (str x.val)) ∧ wr.drew.cell? ⟨b, o + k * 4 + 2, none⟩ = some (.int .u32 x.chain) ∧ wr.drew.cell? ⟨b, o + k * 4 + 3, none⟩ = some (.int .u32 x.long) ∧ wr.drew.cell? ⟨b, o + (k + 1) * 4, none⟩ = some (.string (str y.key)) ∧ wr.drew.cell? ⟨b, o + (k + 1) * 4 + 1, none⟩ = some (.string (str y.val)) ∧ wr.drew.cell? ⟨b, o + (k + 1) * 4 + 2, none⟩ = some (.int .u32 y.chain) ∧ wr.drew.cell? ⟨b, o + (k + 1) * 4 + 3, none⟩ = some (.int .u32 y.long) ∧ Below (g + 1) w2 wr.drew) := ⟨HR.out.c0, HR.out.c1, HR.out.c2, HR.out.c3, d0, d1, d2, d3, g0, g1, g2, g3, HB.out.drew⟩
          have hg2 := HB0.out.lt
          have HX1 := Lib.hid (fun W => keyC2_any x W)
          have HX2 := Lib.hid (fun W => keyC2_any y W)
          unfold shpC aggC at HX1 HX2
          clear e0 e1 e2 e3 f0 f1 f2 f3 d0 g0 d1 g1 d2 g2 d3 g3 hx hy
          have hwr : IntKind.i64.wrap ((k : Int) + 1) = (k : Int) + 1 := IntWalk.i64_in _ (by omega)
          have hk0 : (0 : Int) ≤ (k : Int) := by omega
          have hk1 : (k : Int) < l.length := by omega
          have hk2 : (0 : Int) ≤ (k : Int) + 1 := by omega
          have hk3 : (k : Int) + 1 < l.length := by omega
          have hk4 : ((k : Int) + 1).toNat = k + 1 := by omega
          have hlen : (k : Int) < (l.length : Int) - 1 := by omega
          cases hle : Sl.less (Sl.shC.key x) (Sl.shC.key y)
          · have hb1 : Op.bytesLess (str (Sl.shC.key x)).toList (str (Sl.shC.key y)).toList = false := (bl _ _).trans hle
            have HR30 : Hid (Sl.right Sl.shC l = 30) := Sl.right_drop Sl.shC l HM.out (Sl.rises_false Sl.shC l k x y HXK.out HYK.out hle)
            clear hle
            go_wp2_with fail
            go_region_held3 (fun w' => w'.cell? ⟨g, 0, none⟩ = some (.func (.func 33) #[] #[]) ∧ w'.cell? ⟨g, 1, none⟩ = some (.func (.func 34) #[] #[]) ∧ w'.cell? ⟨g, 2, none⟩ = some (.func (.func 35) #[] #[]) ∧ w'.cell? ⟨g, 3, none⟩ = some (.func (.func 36) #[] #[]) ∧ w'.cell? ⟨b, o + k * 4, none⟩ = some (.string (str x.key)) ∧ w'.cell? ⟨b, o + k * 4 + 1, none⟩ = some (.string (str x.val)) ∧ w'.cell? ⟨b, o + k * 4 + 2, none⟩ = some (.int .u32 x.chain) ∧ w'.cell? ⟨b, o + k * 4 + 3, none⟩ = some (.int .u32 x.long) ∧ w'.cell? ⟨b, o + (k + 1) * 4, none⟩ = some (.string (str y.key)) ∧ w'.cell? ⟨b, o + (k + 1) * 4 + 1, none⟩ = some (.string (str y.val)) ∧ w'.cell? ⟨b, o + (k + 1) * 4 + 2, none⟩ = some (.int .u32 y.chain) ∧ w'.cell? ⟨b, o + (k + 1) * 4 + 3, none⟩ = some (.int .u32 y.long) ∧ Below (g + 1) w2 w')
              ((first | assumption | exact step12 (Nat.succ_le_of_lt hg2) ‹_› hb | exact hF.out))
              (first
              | (go_at_call 67; with_reducible refine (HX1.out _).mono ?_; rintro e w4 ⟨rfl, hb⟩)
              | (go_at_call 67; with_reducible refine (HX2.out _).mono ?_; rintro e w4 ⟨rfl, hb⟩))
            rename_i hS
            have HB4 := Lib.hid hS.2.2.2.2.2.2.2.2.2.2.2.2
            go_wp2
            go_ret
            refine ⟨ret_int HR30.out.symm, ?_⟩
            rw [HG.out]
            exact HW0.out.trans (HB4.out.mono (Nat.le_succ g))
          · have hb1 : Op.bytesLess (str (Sl.shC.key x)).toList (str (Sl.shC.key y)).toList = true := (bl _ _).trans hle
            have HNN := Lib.hid (Sl.rises_upto Sl.shC l k x y HXK.out HYK.out hle HN.out)
            clear hle
            go_wp2_with fail
            go_region_held3 (fun w' => w'.cell? ⟨g, 0, none⟩ = some (.func (.func 33) #[] #[]) ∧ w'.cell? ⟨g, 1, none⟩ = some (.func (.func 34) #[] #[]) ∧ w'.cell? ⟨g, 2, none⟩ = some (.func (.func 35) #[] #[]) ∧ w'.cell? ⟨g, 3, none⟩ = some (.func (.func 36) #[] #[]) ∧ w'.cell? ⟨b, o + k * 4, none⟩ = some (.string (str x.key)) ∧ w'.cell? ⟨b, o + k * 4 + 1, none⟩ = some (.string (str x.val)) ∧ w'.cell? ⟨b, o + k * 4 + 2, none⟩ = some (.int .u32 x.chain) ∧ w'.cell? ⟨b, o + k * 4 + 3, none⟩ = some (.int .u32 x.long) ∧ w'.cell? ⟨b, o + (k + 1) * 4, none⟩ = some (.string (str y.key)) ∧ w'.cell? ⟨b, o + (k + 1) * 4 + 1, none⟩ = some (.string (str y.val)) ∧ w'.cell? ⟨b, o + (k + 1) * 4 + 2, none⟩ = some (.int .u32 y.chain) ∧ w'.cell? ⟨b, o + (k + 1) * 4 + 3, none⟩ = some (.int .u32 y.long) ∧ Below (g + 1) w2 w')
              ((first | assumption | exact step12 (Nat.succ_le_of_lt hg2) ‹_› hb | exact hF.out))
              (first
              | (go_at_call 67; with_reducible refine (HX1.out _).mono ?_; rintro e w4 ⟨rfl, hb⟩)
              | (go_at_call 67; with_reducible refine (HX2.out _).mono ?_; rintro e w4 ⟨rfl, hb⟩))
            rename_i hS
            have HB4 := Lib.hid hS.2.2.2.2.2.2.2.2.2.2.2.2
            clear hS hk4 hwr
            go_wp2
            go_roundg (l.length - (k + 1))
            case measure => omega
            case rel => exact ⟨k + 1, by omega, rfl, by go_num, HNN, HB4⟩
        · have hlen : ¬ (k : Int) < (l.length : Int) - 1 := by omega
          have HR0 : Hid (Sl.right Sl.shC l = 0) := Sl.right_ok Sl.shC l HM.out (Sl.rises_all Sl.shC l fun j a b hj => HN.out j a b (by omega))
          go_wp2
          go_ret
          refine ⟨ret_int HR0.out.symm, ?_⟩
          rw [HG.out]
          exact HW0.out.trans (HB.out.mono (Nat.le_succ g))
end Go.Proofs.Ytppoikhonlgcnaa
