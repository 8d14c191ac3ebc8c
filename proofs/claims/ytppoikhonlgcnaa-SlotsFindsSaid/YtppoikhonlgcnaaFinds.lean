/- The walk of the law SlotsFinds. -/
import Derived.Test.YtppoikhonlgcnaaAwake
import Derived.Test.YtppoikhonlgcnaaFndC
import Derived.Test.YtppoikhonlgcnaaNils
import Derived.Test.YtppoikhonlgcnaaSMath5
namespace Go.Proofs.Ytppoikhonlgcnaa
open Go.RowKit
open Sl (Cl Kd)
set_option maxHeartbeats 8000000 in
set_option maxRecDepth 100000 in
theorem finds_walk (v : Value) (l : List Cl) (hm : l.length ≤ maxLen) (key : List UInt8) (w : World) (hv : SlC w v l) :
    Calls Try.prog 6 #[v, .string (str key)] w fun e w' => e = .returned (.bool true) ∧ Below w.heap.size w w' := by
  have HVB : Hid (∀ W, Below w.heap.size w W → SlC W v l) := fun W hW => hv.below hW
  have HF := Lib.hid (fun W hW => few_any v l hm W hW)
  have HVO := Lib.hid hv
  obtain ⟨a, b, o, c, rfl, ha, hx⟩ := hv
  have HX := Lib.hid hx
  have HA := Lib.hid ha
  clear ha hx
  go_enter Try.func6, Try.ntmps6
  go_wp2_with (first
    | (go_at_call 7; refine (awake_any _).mono ?_; rintro e w1 ⟨rfl, hb1⟩)
    | (go_at_call 8; refine (HF.out _ (HVB.out _ hb1)).mono ?_))
  rintro e w2 (⟨rfl, hfew, hb2⟩ | ⟨rfl, hb2⟩)
  · have HB2 := Lib.hid (below_step hb1 hb2)
    obtain ⟨hlen, hsm⟩ := hfew
    have hl1 : l.length ≤ 100000 := by omega
    clear hb1 hb2 HF hm hsm
    go_wp2
    go_loopg [5] (l.length + 1) (fun n i wr => ∃ k : Nat, k ≤ l.length ∧ n = l.length + 1 - k ∧ i = .int .i64 ((k + 1 : Nat) : Int) ∧ Hid (∀ j a b, j < k → l[j]? = some a → l[j + 1]? = some b → Sl.less a.key b.key = true) ∧ Hid (Below w.heap.size w wr))
    case atStart => exact ⟨0, Nat.zero_le _, rfl, rfl, fun j a b hj => absurd hj (Nat.not_lt_zero j), HB2.out⟩
    case round =>
      obtain ⟨k, hk', rfl, rfl, HN, HB⟩ := hrel
      by_cases hlt1 : k + 1 < l.length
      · obtain ⟨x, hx⟩ := take_some l k (by omega)
        obtain ⟨y, hy⟩ := take_some l (k + 1) hlt1
        have HXK := Lib.hid hx
        have HYK := Lib.hid hy
        obtain ⟨e0, e1, e2, e3⟩ := HX.out k x hx
        obtain ⟨f0, f1, f2, f3⟩ := HX.out (k + 1) y hy
        have hblt : b < w.heap.size := World.block_lt_of_cell? _ _ e0
        have d0 := (HB.out.cell (p := ⟨b, o + k * 4, none⟩) hblt).trans e0
        have g0 := (HB.out.cell (p := ⟨b, o + (k + 1) * 4, none⟩) hblt).trans f0
        obtain rfl : a = some ⟨b, o, none⟩ := by
          rcases HA.out with h | h
          · rw [h] at hlt1; cases hlt1
          · exact h
        clear e0 e1 e2 e3 f0 f1 f2 f3 hx hy
        have hlt' : (k : Int) + 1 < l.length := by omega
        have hk0 : (0 : Int) ≤ (k : Int) := by omega
        have hk1 : (k : Int) < l.length := by omega
        have hk2 : (0 : Int) ≤ (k : Int) + 1 := by omega
        have hk4 : ((k : Int) + 1).toNat = k + 1 := by omega
        cases hle : Sl.less x.key y.key
        · have hb1 : Op.bytesLess (str x.key).toList (str y.key).toList = false := (bl _ _).trans hle
          clear hle
          go_wp2_with fail
          go_quiet (fail)
          go_wp2
          go_ret
          exact ⟨rfl, below_drewN HB.out _⟩
        · have hb1 : Op.bytesLess (str x.key).toList (str y.key).toList = true := (bl _ _).trans hle
          have HNN := Lib.hid (Sl.rises_upto Sl.shC l k x y HXK.out HYK.out hle HN.out)
          clear hle
          go_wp2_with fail
          go_quiet (fail)
          clear hk4
          go_wp2
          go_roundg (l.length + 1 - (k + 1))
          case measure => omega
          case rel => exact ⟨k + 1, by omega, rfl, by go_num, HNN, below_drewN HB.out _⟩
      · have hlenk : ¬ (k : Int) + 1 < l.length := by omega
        have HRI : Hid (Sl.rises Sl.shC l = true) := Sl.rises_all Sl.shC l fun j a b hj => HN.out j a b (by omega)
        have HL := Lib.hid (fun W => leaves_any W)
        have HFI := Lib.hid (fun W (hW : SlC W (.slice a l.length c) l) => findC_any (.slice a l.length c) l hl1 key W hW HRI.out)
        have HPL := Lib.hid (Sl.place_le Sl.shC l key)
        have HLO := Lib.hid (Sl.place_low Sl.shC key l)
        have HAT := Lib.hid (Sl.place_at Sl.shC key l)
        have HTH := Lib.hid (Sl.there_some Sl.shC l key)
        have HHI := Lib.hid (fun m x => Sl.place_high Sl.shC l key HRI.out m x)
        revert HFI HPL HLO HAT HTH HHI
        generalize Sl.place Sl.shC l key = P
        generalize Sl.there Sl.shC l key = T
        intro HFI HPL HLO HAT HTH HHI
        have hpl := HPL.out
        unfold shpC at HL HFI
        obtain ⟨wo, rfl⟩ : ∃ wo : World, wo = wr := ⟨_, rfl⟩
        have HBO := Lib.hid HB.out
        clear HB HN
        go_wp2_with (first
          | (go_at_call 9; refine (HL.out _).mono ?_; rintro e w3 ⟨rfl, hb3⟩)
          | (go_at_call 24; refine (HFI.out _ (HVB.out _ (below_step (HBO.out.trans (hb3.mono HBO.out.size)) ((Below.refl _ _).alloc (Nat.le_refl _) _)))).mono ?_; rintro e w4 ⟨rfl, hb4⟩))
        have HB4 : Hid (Below w.heap.size w w4) := below_step (below_step (HBO.out.trans (hb3.mono HBO.out.size)) ((Below.refl _ _).alloc (Nat.le_refl _) _)) hb4
        clear hb3 hb4
        go_loopg [51] l.length (fun n i wr => ∃ k : Nat, k ≤ l.length ∧ n = l.length - k ∧ i = .int .i64 k ∧ Hid (Below w.heap.size w wr))
        case atStart => exact ⟨0, Nat.zero_le _, rfl, rfl, HB4.out⟩
        case round =>
          obtain ⟨i, hi, rfl, rfl, HB⟩ := hrel
          by_cases hlt : i < l.length
          · obtain ⟨x, hx⟩ := take_some l i hlt
            have HXK := Lib.hid hx
            obtain ⟨e0, e1, e2, e3⟩ := HX.out i x hx
            have hblt : b < w.heap.size := World.block_lt_of_cell? _ _ e0
            have d0 := (HB.out.cell (p := ⟨b, o + i * 4, none⟩) hblt).trans e0
            have d1 := (HB.out.cell (p := ⟨b, o + i * 4 + 1, none⟩) hblt).trans e1
            have d2 := (HB.out.cell (p := ⟨b, o + i * 4 + 2, none⟩) hblt).trans e2
            have d3 := (HB.out.cell (p := ⟨b, o + i * 4 + 3, none⟩) hblt).trans e3
            obtain rfl : a = some ⟨b, o, none⟩ := by
              rcases HA.out with h | h
              · rw [h] at hlt; cases hlt
              · exact h
            have HBa : Hid (Below w.heap.size w (wr.alloc (.cells #[.string (str x.key), .string (str x.val), .int .u32 x.chain, .int .u32 x.long] 42))) := HB.out.alloc HB.out.size _
            clear e0 e1 e2 e3 hx
            rcases Nat.lt_trichotomy i P with hip | hip | hip
            · have hls := HLO.out i x hip HXK.out
              have hb1 : Op.bytesLess (str x.key).toList (str key).toList = true := (bl _ _).trans hls
              have hb2 : ((str x.key).toList == (str key).toList) = false := str_bne (Sl.low_ne _ _ hls)
              have hi1 : (i : Int) < P := by omega
              have hi2 : ((i : Int) == P) = false := by rw [beq_eq_false_iff_ne]; omega
              clear hls
              go_wp2
              go_roundg (l.length - (i + 1))
              case measure => omega
              case rel => exact ⟨i + 1, by omega, rfl, by go_num, HBa⟩
            · subst hip
              have hb1 : Op.bytesLess (str x.key).toList (str key).toList = false := (bl _ _).trans (HAT.out x HXK.out)
              have hth := HTH.out x HXK.out
              by_cases hke : Sl.shC.key x = key
              · rw [decide_eq_true hke] at hth
                have hb2 : ((str x.key).toList == (str key).toList) = true := str_beq hke
                clear hke
                subst hth
                go_wp2
                go_roundg (l.length - (i + 1))
                case measure => omega
                case rel => exact ⟨i + 1, by omega, rfl, by go_num, HBa⟩
              · rw [decide_eq_false hke] at hth
                have hb2 : ((str x.key).toList == (str key).toList) = false := str_bne hke
                clear hke
                subst hth
                go_wp2
                go_roundg (l.length - (i + 1))
                case measure => omega
                case rel => exact ⟨i + 1, by omega, rfl, by go_num, HBa⟩
            · have hls := HHI.out i x hip HXK.out
              have hb1 : Op.bytesLess (str x.key).toList (str key).toList = false := (bl _ _).trans hls.1
              have hb2 : ((str x.key).toList == (str key).toList) = false := str_bne hls.2
              have hi1 : ¬ (i : Int) < P := by omega
              have hi2 : ((i : Int) == P) = false := by rw [beq_eq_false_iff_ne]; omega
              clear hls
              go_wp2
              go_roundg (l.length - (i + 1))
              case measure => omega
              case rel => exact ⟨i + 1, by omega, rfl, by go_num, HBa⟩
          · obtain rfl : i = l.length := by omega
            have HN1 := Lib.hid (fun u W => bodyN_any u W)
            have HN2 := Lib.hid (fun u t W => readN_any u t W)
            have HN3 := Lib.hid (fun u t W => findN_any u t W)
            have HN4 := Lib.hid (fun u W => sizeN_any u W)
            unfold nilS at HN1 HN2 HN3 HN4
            have hp0 : (0 : Int) ≤ (P : Int) := by omega
            have hp1 : (P : Int) ≤ l.length := by omega
            go_wp2_with (first
              | (go_at_call 27; refine (HN1.out _ _).mono ?_; rintro e w5 ⟨rfl, hb5⟩; have HY5 := Lib.hid (((BxN.new wr).alloc _).below hb5); have y0 := HY5.out.c0; have y1 := HY5.out.c1; have y2 := HY5.out.c2; have y3 := HY5.out.c3)
              | (go_at_call 28; refine (HN2.out _ _ _).mono ?_; rintro e w6 ⟨rfl, hb6⟩; have HY6 := Lib.hid (HY5.out.below hb6); have y0 := HY6.out.c0; have y1 := HY6.out.c1; have y2 := HY6.out.c2; have y3 := HY6.out.c3)
              | (go_at_call 29; refine (HN3.out _ _ _).mono ?_; rintro e w7 ⟨rfl, hb7⟩; have HY7 := Lib.hid ((HY6.out.alloc _).below hb7); have y0 := HY7.out.c0; have y1 := HY7.out.c1; have y2 := HY7.out.c2; have y3 := HY7.out.c3)
              | (go_at_call 30; refine (HN4.out _ _).mono ?_; rintro e w8 ⟨rfl, hb8⟩)
              | (go_at_call 31; refine (oneEx _).mono ?_; rintro e w9 ⟨rfl, hb9⟩))
            go_ret
            have al : ∀ {u : World} (o1 : Obj), Below w.heap.size w u → Below w.heap.size w (u.alloc o1) := fun o1 h => below_step h ((Below.refl _ _).alloc (Nat.le_refl _) _)
            exact ⟨rfl, below_step (below_step (below_step (al _ (below_step (below_step (al _ (al _ HB.out)) hb5) hb6)) hb7) hb8) hb9⟩
  · go_wp2
    go_ret
    exact ⟨rfl, below_step hb1 hb2⟩
end Go.Proofs.Ytppoikhonlgcnaa
