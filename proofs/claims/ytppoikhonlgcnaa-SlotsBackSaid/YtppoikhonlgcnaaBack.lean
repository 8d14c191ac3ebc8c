/- The walk of the law SlotsBack. -/
import Derived.Test.YtppoikhonlgcnaaAwake
import Derived.Test.YtppoikhonlgcnaaBackMath
namespace Go.Proofs.Ytppoikhonlgcnaa
open Go.RowKit
open Sl (Cl Kd)
set_option maxHeartbeats 8000000 in
set_option maxRecDepth 100000 in
theorem back_walk (v : Value) (l : List Cl) (hm : l.length ≤ maxLen) (hl : ∀ x ∈ l, okC x) (s : List UInt8) (n : Int) (w : World) (hv : SlC w v l) :
    Calls Try.prog 5 #[v, .string (str s), .int .i64 n] w fun e w' => e = .returned (.bool true) ∧ Below w.heap.size w w' := by
  have HVB : Hid (∀ W, Below w.heap.size w W → SlC W v l) := fun W hW => hv.below hW
  have HF := Lib.hid (fun W hW => few_any v l hm W hW)
  have hsz := str_size s
  by_cases h5 : 5000 < s.length
  · have h5' : (5000 : Int) < s.length := by omega
    go_enter Try.func5, Try.ntmps5
    go_wp2_with (first
      | (go_at_call 7; refine (awake_any _).mono ?_; rintro e w1 ⟨rfl, hb1⟩)
      | (go_at_call 8; refine (HF.out _ (HVB.out _ hb1)).mono ?_))
    rintro e w2 (⟨rfl, hfew, hb2⟩ | ⟨rfl, hb2⟩)
    · clear hfew
      go_wp2
      go_ret
      exact ⟨rfl, below_step hb1 hb2⟩
    · go_wp2
      go_ret
      exact ⟨rfl, below_step hb1 hb2⟩
  · have h5' : ¬ (5000 : Int) < s.length := by omega
    have HRd := Lib.hid (fun W => read_back s (Nat.le_of_not_lt h5) n W)
    have HL := Lib.hid (fun W => leaves_any W)
    have HNil := Lib.hid (fun W => bodyC_any (.slice none 0 0) [] (by decide) (fun x hx => by simp at hx) W (SlC.nil W))
    generalize Sl.bodyR Sl.shC [] = N0 at HNil
    obtain ⟨N1, N2⟩ := N0
    simp only at HNil
    clear h5
    unfold shpC at HRd HL HNil
    go_enter Try.func5, Try.ntmps5
    go_wp2_with (first
      | (go_at_call 7; refine (awake_any _).mono ?_; rintro e w1 ⟨rfl, hb1⟩)
      | (go_at_call 8; refine (HF.out _ (HVB.out _ hb1)).mono ?_))
    rintro e w2 (⟨rfl, hfew, hb2⟩ | ⟨rfl, hb2⟩)
    · have HB2 := Lib.hid (below_step hb1 hb2)
      obtain ⟨hlen, hsm⟩ := hfew
      have hl1 : l.length ≤ 100000 := by omega
      have HBo := Lib.hid (fun W (hW : SlC W v l) => bodyC_any v l hl1 hl W hW)
      have HSu := Lib.hid (fun W (hW : SlC W v l) => sumC_any v l hl1 hl W hW)
      obtain ⟨a, b, o, c, rfl, ha, hx⟩ := hv
      have HX := Lib.hid hx
      have HA := Lib.hid ha
      have hlen1 : (l.length : Int) ≤ 100000 := by omega
      clear hx ha hsm hlen hb1 hb2 HF hm
      unfold shpC at HBo HSu
      by_cases hok : (Sl.bodyR Sl.shC l).2 = 0
      · obtain ⟨hr, hs⟩ := bodyR_zero hok
        rw [Sl.bodyR_ok Sl.shC l hr hs] at HBo
        have HRl := Lib.hid (fun W => read_laid l hl hr hs W)
        have hbz : (Sl.body Sl.shC l).length = Sl.sum Sl.shC l := Sl.body_len Sl.shC l
        clear hok hr hs
        generalize Sl.sum Sl.shC l = sm at hbz HSu
        generalize Sl.body Sl.shC l = bd at HRl HBo hbz
        subst hbz
        simp only at HBo
        have hzb := str_size bd
        unfold shpC at HRl
        go_wp2_with (first
          | (go_at_call 9; refine (HL.out _).mono ?_; rintro e w3 ⟨rfl, hb3⟩; have HB3 := Lib.hid (below_step HB2.out hb3); have HX3 := Lib.hid (BxC.new w3); have HB4 : Hid (Below w.heap.size w (w3.alloc (.cells #[.func (.func 33) #[] #[], .func (.func 34) #[] #[], .func (.func 35) #[] #[], .func (.func 36) #[] #[]] 29))) := HB3.out.alloc HB3.out.size _)
          | (go_at_call 11; refine (HBo.out _ (HVB.out _ HB4.out)).mono ?_; rintro e w4 ⟨rfl, hb4⟩; have HB5 := Lib.hid (below_step HB4.out hb4); have HR5 := Lib.hid (HX3.out.below hb4 HX3.out.lt); have q0 := HR5.out.c0; have q1 := HR5.out.c1; have q2 := HR5.out.c2; have q3 := HR5.out.c3)
          | (go_at_call 19; refine (HRl.out _).mono ?_; rintro e w5 ⟨u, rfl, hu, hb5⟩; have HB6 := Lib.hid (below_step HB5.out hb5); have HR6 := Lib.hid (HR5.out.below hb5 HR5.out.lt); have HU := Lib.hid hu; clear hu; have q0 := HR6.out.c0; have q1 := HR6.out.c1; have q2 := HR6.out.c2; have q3 := HR6.out.c3; obtain ⟨a', b', o', c', rfl, ha', hx'⟩ := HU.out; rw [List.length_map])
          | (go_at_call 16; refine (HSu.out _ (HVB.out _ HB6.out)).mono ?_; rintro e w6 ⟨rfl, hb6⟩; have HB7 := Lib.hid (below_step HB6.out hb6); have HR7 := Lib.hid (HR6.out.below hb6 HR6.out.lt)))
        have HA' := Lib.hid ha'
        have HX' : Hid (∀ (j : Nat) x, (l.map normC)[j]? = some x → _) := fun j x h => hx' j x h
        have HB56 := Lib.hid hb6
        clear ha' hx' q0 q1 q2 q3 hb3 hb4 hb5 hb6
        obtain ⟨wo, rfl⟩ : ∃ wo : World, wo = w6 := ⟨_, rfl⟩
        go_loopg [64] l.length (fun n i wr => ∃ k : Nat, k ≤ l.length ∧ n = l.length - k ∧ i = .int .i64 k ∧ Hid (Below wo.heap.size wo wr))
        case atStart => exact ⟨0, Nat.zero_le _, rfl, rfl, Below.refl _ _⟩
        case round =>
          obtain ⟨k, hk, rfl, rfl, HB⟩ := hrel
          have HWr := Lib.hid (below_step HB7.out HB.out)
          by_cases hlt : k < l.length
          · obtain ⟨x, hx⟩ := take_some l k hlt
            obtain ⟨e0, e1, e2, e3⟩ := HX.out k x hx
            obtain ⟨y0, y1, y2, y3⟩ := HX'.out k (normC x) (by rw [List.getElem?_map, hx]; rfl)
            have hblt : b < w.heap.size := World.block_lt_of_cell? _ _ e0
            have d0 := (HWr.out.cell (p := ⟨b, o + k * 4, none⟩) hblt).trans e0
            have d1 := (HWr.out.cell (p := ⟨b, o + k * 4 + 1, none⟩) hblt).trans e1
            have d2 := (HWr.out.cell (p := ⟨b, o + k * 4 + 2, none⟩) hblt).trans e2
            have d3 := (HWr.out.cell (p := ⟨b, o + k * 4 + 3, none⟩) hblt).trans e3
            have HBv := Lib.hid (HB56.out.trans (HB.out.mono HB56.out.size))
            have hblt' : b' < w5.heap.size := World.block_lt_of_cell? _ _ y0
            have g0 := (HBv.out.cell (p := ⟨b', o' + k * 4, none⟩) hblt').trans y0
            have g1 := (HBv.out.cell (p := ⟨b', o' + k * 4 + 1, none⟩) hblt').trans y1
            have g2 := (HBv.out.cell (p := ⟨b', o' + k * 4 + 2, none⟩) hblt').trans y2
            have g3 := (HBv.out.cell (p := ⟨b', o' + k * 4 + 3, none⟩) hblt').trans y3
            obtain rfl : a = some ⟨b, o, none⟩ := by
              rcases HA.out with h | h
              · rw [h] at hlt; cases hlt
              · exact h
            obtain rfl : a' = some ⟨b', o', none⟩ := by
              rcases HA'.out with h | h
              · rw [List.map_eq_nil_iff] at h; rw [h] at hlt; cases hlt
              · exact h
            have hki : (k : Int) < l.length := by omega
            have HGr : Hid (wo.heap.size ≤ wr.heap.size) := HB.out.size
            clear e0 e1 e2 e3 y0 y1 y2 y3 hx hblt hblt'
            by_cases h0 : x.chain = 0
            · rw [norm_zero x h0] at g0 g1 g2 g3
              rw [h0] at d2
              go_wp2
              have hk0 : (0 : Int) ≤ (k : Int) := by omega
              have hk4 : ((k : Int)).toNat = k := by omega
              have HBa : Hid (Below wo.heap.size wo (wr.alloc (.cells #[.string (str x.key), .string (str x.val), .int .u32 0, .int .u32 0] 42))) := HB.out.alloc HB.out.size _
              have hbw := World.block_lt_of_cell? _ _ g0
              have m0 := (old_at (o := (.cells #[.string (str x.key), .string (str x.val), .int .u32 0, .int .u32 0] 42)) (o' + k * 4) hbw).trans g0
              have m1 := (old_at (o := (.cells #[.string (str x.key), .string (str x.val), .int .u32 0, .int .u32 0] 42)) (o' + k * 4 + 1) hbw).trans g1
              have m2 := (old_at (o := (.cells #[.string (str x.key), .string (str x.val), .int .u32 0, .int .u32 0] 42)) (o' + k * 4 + 2) hbw).trans g2
              have m3 := (old_at (o := (.cells #[.string (str x.key), .string (str x.val), .int .u32 0, .int .u32 0] 42)) (o' + k * 4 + 3) hbw).trans g3
              have n0 : (wr.alloc (.cells #[.string (str x.key), .string (str x.val), .int .u32 0, .int .u32 0] 42)).cell? ⟨wr.heap.size, 0, none⟩ = some (.string (str x.key)) := by simp
              have n1 : (wr.alloc (.cells #[.string (str x.key), .string (str x.val), .int .u32 0, .int .u32 0] 42)).cell? ⟨wr.heap.size, 1, none⟩ = some (.string (str x.val)) := by simp
              have n2 : (wr.alloc (.cells #[.string (str x.key), .string (str x.val), .int .u32 0, .int .u32 0] 42)).cell? ⟨wr.heap.size, 2, none⟩ = some (.int .u32 0) := by simp
              have n3 : (wr.alloc (.cells #[.string (str x.key), .string (str x.val), .int .u32 0, .int .u32 0] 42)).cell? ⟨wr.heap.size, 3, none⟩ = some (.int .u32 0) := by simp
              clear hbw d0 d1 d2 d3 g0 g1 g2 g3
              generalize wr.alloc (.cells #[.string (str x.key), .string (str x.val), .int .u32 0, .int .u32 0] 42) = W0 at *
              generalize wr.heap.size = q at *
              go_quiet (fail)
              go_wp2
              go_roundg (l.length - (k + 1))
              case measure => omega
              case rel => exact ⟨k + 1, by omega, rfl, by go_num, below_drewN HBa.out _⟩
            · rw [norm_more x h0] at g0 g1 g2 g3
              have hd : ((x.chain : Int) == 0) = false := by rw [beq_eq_false_iff_ne]; omega
              go_wp2
              have hk0 : (0 : Int) ≤ (k : Int) := by omega
              have hk4 : ((k : Int)).toNat = k := by omega
              have HBa : Hid (Below wo.heap.size wo (wr.alloc (.cells #[.string (str x.key), .string (str x.val), .int .u32 x.chain, .int .u32 x.long] 42))) := HB.out.alloc HB.out.size _
              have hbw := World.block_lt_of_cell? _ _ g0
              have m0 := (old_at (o := (.cells #[.string (str x.key), .string (str x.val), .int .u32 x.chain, .int .u32 x.long] 42)) (o' + k * 4) hbw).trans g0
              have m1 := (old_at (o := (.cells #[.string (str x.key), .string (str x.val), .int .u32 x.chain, .int .u32 x.long] 42)) (o' + k * 4 + 1) hbw).trans g1
              have m2 := (old_at (o := (.cells #[.string (str x.key), .string (str x.val), .int .u32 x.chain, .int .u32 x.long] 42)) (o' + k * 4 + 2) hbw).trans g2
              have m3 := (old_at (o := (.cells #[.string (str x.key), .string (str x.val), .int .u32 x.chain, .int .u32 x.long] 42)) (o' + k * 4 + 3) hbw).trans g3
              have n0 : (wr.alloc (.cells #[.string (str x.key), .string (str x.val), .int .u32 x.chain, .int .u32 x.long] 42)).cell? ⟨wr.heap.size, 0, none⟩ = some (.string (str x.key)) := by simp
              have n1 : (wr.alloc (.cells #[.string (str x.key), .string (str x.val), .int .u32 x.chain, .int .u32 x.long] 42)).cell? ⟨wr.heap.size, 1, none⟩ = some (.string (str x.val)) := by simp
              have n2 : (wr.alloc (.cells #[.string (str x.key), .string (str x.val), .int .u32 x.chain, .int .u32 x.long] 42)).cell? ⟨wr.heap.size, 2, none⟩ = some (.int .u32 x.chain) := by simp
              have n3 : (wr.alloc (.cells #[.string (str x.key), .string (str x.val), .int .u32 x.chain, .int .u32 x.long] 42)).cell? ⟨wr.heap.size, 3, none⟩ = some (.int .u32 x.long) := by simp
              clear hbw d0 d1 d2 d3 g0 g1 g2 g3
              generalize wr.alloc (.cells #[.string (str x.key), .string (str x.val), .int .u32 x.chain, .int .u32 x.long] 42) = W0 at *
              generalize wr.heap.size = q at *
              go_quiet (fail)
              go_wp2
              go_roundg (l.length - (k + 1))
              case measure => omega
              case rel => exact ⟨k + 1, by omega, rfl, by go_num, below_drewN HBa.out _⟩
          · obtain rfl : k = l.length := by omega
            have hnl : ¬ (l.length : Int) < l.length := by omega
            have HR9 := Lib.hid (HR7.out.below HB.out HR7.out.lt)
            have q0 := HR9.out.c0
            have q1 := HR9.out.c1
            have q2 := HR9.out.c2
            have q3 := HR9.out.c3
            go_wp2_with (first
              | (go_at_call 19; refine (HRd.out _).mono ?_))
            rintro e w8 (⟨r, hr, rfl, hb8⟩ | ⟨m, u, rfl, hu, hmo, hml, hmb, hmz, hb8⟩ | ⟨m, u, rfl, hu, hmo, hml, hmb, hb8⟩)
            · have HB8 := Lib.hid (below_step HWr.out hb8)
              have HR8 := Lib.hid (HR9.out.below hb8 HR9.out.lt)
              have q0 := HR8.out.c0
              have q1 := HR8.out.c1
              have q2 := HR8.out.c2
              have q3 := HR8.out.c3
              have hd : (r == 0) = false := by rw [beq_eq_false_iff_ne]; exact hr
              have hd' : (r != 0) = true := by rw [bne_iff_ne]; exact hr
              clear hr hb8
              go_wp2_with (go_at_call 11; refine (HNil.out _).mono ?_; rintro e w9 ⟨rfl, hb9⟩)
              go_ret
              exact ⟨rfl, below_step HB8.out hb9⟩
            · have HB8 := Lib.hid (below_step HWr.out hb8)
              have HR8 := Lib.hid (HR9.out.below hb8 HR9.out.lt)
              have q0 := HR8.out.c0
              have q1 := HR8.out.c1
              have q2 := HR8.out.c2
              have q3 := HR8.out.c3
              have HBm := Lib.hid (bodyC_any u m hml hmo _ hu)
              rw [hmb] at HBm
              unfold shpC at HBm
              simp only at HBm
              have hmz' : (4072 : Int) < s.length := by omega
              clear hu hmo hml hmb hb8 hmz
              go_wp2_with (go_at_call 11; refine HBm.out.mono ?_; rintro e w9 ⟨rfl, hb9⟩)
              go_ret
              exact ⟨rfl, below_step HB8.out hb9⟩
            · have HB8 := Lib.hid (below_step HWr.out hb8)
              have HR8 := Lib.hid (HR9.out.below hb8 HR9.out.lt)
              have q0 := HR8.out.c0
              have q1 := HR8.out.c1
              have q2 := HR8.out.c2
              have q3 := HR8.out.c3
              have HBm := Lib.hid (bodyC_any u m hml hmo _ hu)
              rw [hmb] at HBm
              unfold shpC at HBm
              simp only at HBm
              have hpb := str_beq (rfl : s = s)
              clear hu hmo hml hmb hb8
              go_wp2_with (go_at_call 11; refine HBm.out.mono ?_; rintro e w9 ⟨rfl, hb9⟩)
              go_ret
              exact ⟨rfl, below_step HB8.out hb9⟩
      · generalize Sl.bodyR Sl.shC l = A at HBo hok
        obtain ⟨A1, A2⟩ := A
        simp only at HBo hok
        have hda : (A2 == 0) = false := by rw [beq_eq_false_iff_ne]; exact hok
        clear hok
        go_wp2_with (first
          | (go_at_call 9; refine (HL.out _).mono ?_; rintro e w3 ⟨rfl, hb3⟩; have HB3 := Lib.hid (below_step HB2.out hb3); have HX3 := Lib.hid (BxC.new w3); have HB4 : Hid (Below w.heap.size w (w3.alloc (.cells #[.func (.func 33) #[] #[], .func (.func 34) #[] #[], .func (.func 35) #[] #[], .func (.func 36) #[] #[]] 29))) := HB3.out.alloc HB3.out.size _)
          | (go_at_call 11; refine (HBo.out _ (HVB.out _ HB4.out)).mono ?_; rintro e w4 ⟨rfl, hb4⟩; have HB5 := Lib.hid (below_step HB4.out hb4); have HR5 := Lib.hid (HX3.out.below hb4 HX3.out.lt); have q0 := HR5.out.c0; have q1 := HR5.out.c1; have q2 := HR5.out.c2; have q3 := HR5.out.c3)
          | (go_at_call 19; refine (HRd.out _).mono ?_))
        rintro e w8 (⟨r, hr, rfl, hb8⟩ | ⟨m, u, rfl, hu, hmo, hml, hmb, hmz, hb8⟩ | ⟨m, u, rfl, hu, hmo, hml, hmb, hb8⟩)
        · have HB8 := Lib.hid (below_step HB5.out hb8)
          have HR8 := Lib.hid (HR5.out.below hb8 HR5.out.lt)
          have q0 := HR8.out.c0
          have q1 := HR8.out.c1
          have q2 := HR8.out.c2
          have q3 := HR8.out.c3
          have hd : (r == 0) = false := by rw [beq_eq_false_iff_ne]; exact hr
          have hd' : (r != 0) = true := by rw [bne_iff_ne]; exact hr
          clear hr hb8
          go_wp2_with (go_at_call 11; refine (HNil.out _).mono ?_; rintro e w9 ⟨rfl, hb9⟩)
          go_ret
          exact ⟨rfl, below_step HB8.out hb9⟩
        · have HB8 := Lib.hid (below_step HB5.out hb8)
          have HR8 := Lib.hid (HR5.out.below hb8 HR5.out.lt)
          have q0 := HR8.out.c0
          have q1 := HR8.out.c1
          have q2 := HR8.out.c2
          have q3 := HR8.out.c3
          have HBm := Lib.hid (bodyC_any u m hml hmo _ hu)
          rw [hmb] at HBm
          unfold shpC at HBm
          simp only at HBm
          have hmz' : (4072 : Int) < s.length := by omega
          clear hu hmo hml hmb hb8 hmz
          go_wp2_with (go_at_call 11; refine HBm.out.mono ?_; rintro e w9 ⟨rfl, hb9⟩)
          go_ret
          exact ⟨rfl, below_step HB8.out hb9⟩
        · have HB8 := Lib.hid (below_step HB5.out hb8)
          have HR8 := Lib.hid (HR5.out.below hb8 HR5.out.lt)
          have q0 := HR8.out.c0
          have q1 := HR8.out.c1
          have q2 := HR8.out.c2
          have q3 := HR8.out.c3
          have HBm := Lib.hid (bodyC_any u m hml hmo _ hu)
          rw [hmb] at HBm
          unfold shpC at HBm
          simp only at HBm
          have hpb := str_beq (rfl : s = s)
          clear hu hmo hml hmb hb8
          go_wp2_with (go_at_call 11; refine HBm.out.mono ?_; rintro e w9 ⟨rfl, hb9⟩)
          go_ret
          exact ⟨rfl, below_step HB8.out hb9⟩
    · go_wp2
      go_ret
      exact ⟨rfl, below_step hb1 hb2⟩
end Go.Proofs.Ytppoikhonlgcnaa
