/- The contract of Find, at a leaf's cells, over rising keys. -/
import Derived.Test.YtppoikhonlgcnaaMayC
import Derived.Test.YtppoikhonlgcnaaShelf
import Derived.Test.YtppoikhonlgcnaaSMath4
import Derived.Deep.DeepCutAuto
namespace Go.Proofs.Ytppoikhonlgcnaa
open Go.RowKit
open Sl (Cl Kd)
theorem box4 {w w1 : World} {x0 x1 x2 x3 : Value} {T : TypeId} (hb : Below (w.alloc (.cells #[x0, x1, x2, x3] T)).heap.size (w.alloc (.cells #[x0, x1, x2, x3] T)) w1) : Below w.heap.size w w1 :=
  below_step ((Below.refl _ _).alloc (Nat.le_refl _) _) hb
theorem compare_any (a b : List UInt8) (w : World) :
    Calls Try.prog 66 #[.string (str a), .string (str b)] w fun e w' => e = .returned (.int .i64 (Lib.compareBytes a b)) ∧ w = w' :=
  (Try.strings_Compare (str a) (str b) w).mono fun _ _ ⟨h1, h2⟩ => ⟨h1, h2.symm⟩
theorem findFnC_any (x : Cl) (key : List UInt8) (g : Nat) (w : World) (hb : BxC w g) :
    Calls Try.prog 65 #[aggC x, .string (str key), .pointer (some ⟨g, 0, none⟩)] w fun e w' => e = .returned (.int .i64 (Lib.compareBytes (Sl.shC.key x) key)) ∧ Below w.heap.size w w' := by
  have HK := Lib.hid (fun W => keyC2_any x W)
  have HA := Lib.hid (fun o1 => hb.alloc o1)
  have q0 := fun o1 => (HA.out o1).c0
  have q1 := fun o1 => (HA.out o1).c1
  have q2 := fun o1 => (HA.out o1).c2
  have q3 := fun o1 => (HA.out o1).c3
  revert HK
  generalize Sl.shC.key x = kx
  intro HK
  unfold shpC aggC at HK
  unfold aggC
  go_enter Try.func65, Try.ntmps65
  go_wp2_with (first
    | (go_at_call 67; refine (HK.out _).mono ?_; rintro e w1 ⟨rfl, hb1⟩)
    | (go_at_call 66; refine (compare_any _ _ _).mono ?_; rintro e w2 ⟨rfl, rfl⟩))
  go_ret
  exact ⟨rfl, below_step ((Below.refl _ _).alloc (Nat.le_refl _) _) hb1⟩
set_option maxHeartbeats 4000000 in
set_option maxRecDepth 100000 in
theorem bsfC_any (v : Value) (l : List Cl) (hll : l.length ≤ 100000) (key : List UInt8) (g : Nat) (w : World) (hv : SlC w v l) (hb : BxC w g) (hr : Sl.rises Sl.shC l = true) :
    Calls Try.prog 64 #[v, .string (str key), .func (.func 65) #[] #[.pointer (some ⟨g, 0, none⟩)]] w fun e w' => e = .returned (.tuple #[.int .i64 (Sl.place Sl.shC l key : Nat), .bool (Sl.there Sl.shC l key)]) ∧ Below w.heap.size w w' := by
  have HR := Lib.hid hr
  have HBX := Lib.hid hb
  obtain ⟨a, b, o, c, rfl, ha, hx⟩ := hv
  have HX := Lib.hid hx
  have HA := Lib.hid ha
  clear ha hx hr hb
  go_enter Try.func64, Try.ntmps64
  go_wp2
  go_loopg [9, 10] l.length (fun n i j wr => ∃ p q : Nat, p ≤ q ∧ q ≤ l.length ∧ n = q - p ∧ i = .int .i64 p ∧ j = .int .i64 q ∧ Hid (∀ m x, m < p → l[m]? = some x → Sl.less (Sl.shC.key x) key = true) ∧ Hid (∀ m x, q ≤ m → l[m]? = some x → Sl.less (Sl.shC.key x) key = false) ∧ Hid (Below w.heap.size w wr))
  case atStart => exact ⟨0, l.length, Nat.zero_le _, Nat.le_refl _, rfl, rfl, rfl, fun m x h => absurd h (Nat.not_lt_zero m), fun m x h hx => absurd (List.getElem?_eq_some_iff.1 hx).1 (Nat.not_lt.2 h), Below.refl _ _⟩
  case round =>
    obtain ⟨p, q, hpq, hql, rfl, rfl, rfl, HLO, HHI, HB⟩ := hrel
    by_cases hlt : p < q
    · obtain ⟨h, hh⟩ : ∃ h : Nat, h = (p + q) / 2 := ⟨_, rfl⟩
      obtain ⟨x, hx⟩ := take_some l h (by omega)
      have HXK := Lib.hid hx
      obtain ⟨e0, e1, e2, e3⟩ := HX.out h x hx
      have hblt : b < w.heap.size := World.block_lt_of_cell? _ _ e0
      have d0 := (HB.out.cell (p := ⟨b, o + h * 4, none⟩) hblt).trans e0
      have d1 := (HB.out.cell (p := ⟨b, o + h * 4 + 1, none⟩) hblt).trans e1
      have d2 := (HB.out.cell (p := ⟨b, o + h * 4 + 2, none⟩) hblt).trans e2
      have d3 := (HB.out.cell (p := ⟨b, o + h * 4 + 3, none⟩) hblt).trans e3
      have HBr := Lib.hid (HBX.out.below HB.out HBX.out.lt)
      obtain rfl : a = some ⟨b, o, none⟩ := by
        rcases HA.out with h' | h'
        · rw [h'] at hql; have : q ≤ 0 := hql; omega
        · exact h'
      have HC := Lib.hid (fun W (hW : BxC W g) => findFnC_any x key g W hW)
      unfold aggC at HC
      have hlo := Lib.hid (Sl.low_of Sl.shC l key HR.out h x hx)
      have hhi := Lib.hid (Sl.high_of Sl.shC l key HR.out h x hx)
      have hcl := Lib.hid (Sl.cmp_lt (Sl.shC.key x) key)
      have hcg := Lib.hid (Sl.cmp_ge (Sl.shC.key x) key)
      have hhE : ((p : Int) + q) / 2 = (h : Int) := by omega
      have hb1 : p ≤ h := by omega
      have hb2 : h < q := by omega
      have hb3 : h < l.length := by omega
      have hb4 : (h : Int) < l.length := by omega
      clear e0 e1 e2 e3 hx hh
      revert HC hlo hhi hcl hcg
      generalize Lib.compareBytes (Sl.shC.key x) key = cv
      generalize hls : Sl.less (Sl.shC.key x) key = ls
      have HLS := Lib.hid hls
      clear hls
      intro HC hlo hhi hcl hcg
      go_upto_region 5 with fail
      clear hhE
      cases ls
      · have hcv := hcg.out rfl
        clear hcl hcg
        go_wp2_with (go_at_call 65; refine (HC.out _ HBr.out).mono ?_; rintro e w4 ⟨rfl, hb5⟩)
        have HB4 : Hid (Below w.heap.size w w4) := HB.out.trans (hb5.mono HB.out.size)
        clear hb5
        go_roundg (h - p)
        case measure => omega
        case rel => exact ⟨p, h, by omega, by omega, rfl, rfl, rfl, HLO, hhi.out (by simp), HB4⟩
      · have hcv := hcl.out rfl
        clear hcl hcg
        go_wp2_with (go_at_call 65; refine (HC.out _ HBr.out).mono ?_; rintro e w4 ⟨rfl, hb5⟩)
        have HB4 : Hid (Below w.heap.size w w4) := HB.out.trans (hb5.mono HB.out.size)
        clear hb5
        go_roundg (q - (h + 1))
        case measure => omega
        case rel => exact ⟨h + 1, q, by omega, by omega, rfl, by go_num, rfl, hlo.out (by simp), HHI, HB4⟩
    · obtain rfl : p = q := by omega
      have HPL : Hid (Sl.place Sl.shC l key = p) := Sl.place_eq Sl.shC key l p hql HLO.out (fun x hx => HHI.out p x (Nat.le_refl _) hx)
      by_cases hn : p < l.length
      · obtain ⟨x, hx⟩ := take_some l p hn
        obtain ⟨e0, e1, e2, e3⟩ := HX.out p x hx
        have hblt : b < w.heap.size := World.block_lt_of_cell? _ _ e0
        have d0 := (HB.out.cell (p := ⟨b, o + p * 4, none⟩) hblt).trans e0
        have d1 := (HB.out.cell (p := ⟨b, o + p * 4 + 1, none⟩) hblt).trans e1
        have d2 := (HB.out.cell (p := ⟨b, o + p * 4 + 2, none⟩) hblt).trans e2
        have d3 := (HB.out.cell (p := ⟨b, o + p * 4 + 3, none⟩) hblt).trans e3
        have HBr := Lib.hid (HBX.out.below HB.out HBX.out.lt)
        obtain rfl : a = some ⟨b, o, none⟩ := by
          rcases HA.out with h' | h'
          · rw [h'] at hn; cases hn
          · exact h'
        have HC := Lib.hid (fun W (hW : BxC W g) => findFnC_any x key g W hW)
        unfold aggC at HC
        have HTH : Hid (Sl.there Sl.shC l key = (Lib.compareBytes (Sl.shC.key x) key == 0)) := (Sl.there_some Sl.shC l key x (by rw [HPL.out]; exact hx)).trans (Sl.cmp_zero _ _).symm
        have hn' : (p : Int) < l.length := by omega
        clear e0 e1 e2 e3 hx
        revert HC HTH
        generalize Lib.compareBytes (Sl.shC.key x) key = cv
        intro HC HTH
        go_wp2_with (go_at_call 65; refine (HC.out _ HBr.out).mono ?_; rintro e w4 ⟨rfl, hb5⟩)
        go_ret2
        exact ⟨by rw [HPL.out, HTH.out]; rfl, HB.out.trans (hb5.mono HB.out.size)⟩
      · have HTH : Hid (Sl.there Sl.shC l key = false) := Sl.there_none Sl.shC l key (by rw [HPL.out]; omega)
        have hn' : ¬ (p : Int) < l.length := by omega
        go_wp2
        go_ret2
        exact ⟨by rw [HPL.out, HTH.out]; rfl, HB.out⟩
set_option maxHeartbeats 1000000 in
theorem findC_any (v : Value) (l : List Cl) (hll : l.length ≤ 100000) (key : List UInt8) (w : World) (hv : SlC w v l) (hr : Sl.rises Sl.shC l = true) :
    Calls Try.prog 24 #[shpC, v, .string (str key)] w fun e w' => e = .returned (.tuple #[.int .i64 (Sl.place Sl.shC l key : Nat), .bool (Sl.there Sl.shC l key)]) ∧ Below w.heap.size w w' := by
  have hmf : ∀ (fn : Fn) (first cap : Array Value) (w : World), (Instr.makeFunc fn first cap).run Try.prog w = .ok (.func fn first cap) w := fun _ _ _ _ => rfl
  have HWh := Lib.hid (fun W => wholeC_any W)
  have HB0 := Lib.hid (BxC.new w)
  have HS := Lib.hid (fun W (hW : SlC W v l) (hb : BxC W w.heap.size) => bsfC_any v l hll key w.heap.size W hW hb hr)
  have HV := Lib.hid (fun W (hW : Below w.heap.size w W) => hv.below hW)
  have HW0 : Hid (Below w.heap.size w (w.alloc (.cells #[.func (.func 33) #[] #[], .func (.func 34) #[] #[], .func (.func 35) #[] #[], .func (.func 36) #[] #[]] 29))) := (Below.refl _ _).alloc (Nat.le_refl _) _
  clear hv hr
  revert HS
  generalize Sl.place Sl.shC l key = pl
  generalize Sl.there Sl.shC l key = th
  intro HS
  unfold shpC at HWh ⊢
  go_enter Try.func24, Try.ntmps24
  go_wp2_with (first
    | (go_at_call 43; refine (HWh.out _).mono ?_; rintro e w1 ⟨rfl, hb1⟩; have HB1 := Lib.hid (below_step HW0.out hb1); have HR1 := Lib.hid (HB0.out.below hb1 HB0.out.lt))
    | (go_at_call 64; refine (HS.out _ (HV.out _ HB1.out) HR1.out).mono ?_; rintro e w2 ⟨rfl, hb2⟩))
  go_ret2
  exact ⟨rfl, below_step HB1.out hb2⟩
end Go.Proofs.Ytppoikhonlgcnaa
