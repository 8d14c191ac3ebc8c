/- Texts of one seat, merged. -/
import Derived.Test.YtoekggbbkcmknaaGreatDoorY06
import Derived.Test.YtoekggbbkcmknaaGreatDoorY08
import Derived.Deep.LoopGhost
set_option maxRecDepth 100000
set_option maxHeartbeats 4000000
set_option linter.unusedVariables false
/- The document's Bytes. -/
namespace Go.Proofs.YtoekggbbkcmknaaGreatDoor
open Go.RowKit
attribute [local go_sem ↓] zeroC_eq newC_eq loadC_eq storeC_eq buildC_eq zeroR_eq newR_eq loadR_eq storeR_eq buildR_eq
attribute [local go_sem] run_zeroC run_newC run_buildC0 run_buildC1 run_neqC run_eqlC run_guardC run_zeroR run_newR run_buildR0 run_buildR1 run_neqR run_eqlR run_guardR
attribute [local go_sem ↓] bslC_eq bslR_eq
attribute [local go_sem] run_bslC run_bslR
set_option maxRecDepth 1000000 in
set_option maxHeartbeats 4000000 in
theorem refBytes_B (c : Cm) (hok : c.ok) (hlt : Lt4 c) (hkk : c.kind = 5 ∨ c.kind = 6) (w : World) :
    Calls Tryz.prog 11 #[c.agg] w fun e w' => e = .returned (.tuple #[.string (bytesC c).1, .int .i64 (bytesC c).2]) ∧ Below w.heap.size w w' := by
  have hk1 : 1 ≤ c.kind := by omega
  have hk2 : c.kind ≤ 13 := by omega
  have HKK := Lib.hid hkk
  have k0 := (BxC.newR w c).cell 0 _ rfl
  have hj1 : decide (c.kind < 1) = false := decide_eq_false (by omega)
  have hj2 : decide (13 < c.kind) = false := decide_eq_false (by omega)
  obtain ⟨W, hst, hC, hO, hB, hsz⟩ := rb_first c w
  have k1 := hC.cell 0 _ rfl
  have HC := Lib.hid hC
  have HO := Lib.hid hO
  have HB := Lib.hid hB
  have HSZ := Lib.hid hsz
  have HOK := Lib.hid hok
  have HLT := Lib.hid hlt
  have HBG := Lib.hid (fun W => big1 (IntKind.u64.wrap c.kind) c.kind.toNat (by rw [IntKind.wrap_u64]; omega) (by omega) W)
  generalize hby : bytesC c = BY
  have HBY := Lib.hid hby
  clear hC hO hB hsz hk1 hk2 hok hby hlt hkk
  go_enter Tryz.func11, Tryz.ntmps11
  go_upto_region 5 with (go_at_call 7; refine (HBG.out _).mono ?_; rintro e w1 ⟨rfl, hb1⟩; have HC1 := Lib.hid (HC.out.below hb1); have HO1 := Lib.hid (HO.out.below hb1); have HB1 := Lib.hid (HB.out.trans (hb1.mono HB.out.size)); have HS1 := Lib.hid (show w.heap.size + 1 + 1 ≤ w1.heap.size from by have := hb1.size; have := HSZ.out; omega); clear hb1)
  obtain ⟨e0, e1, e2, e3, e4, e5, e6, e7, e8, e9, -, -, -, -, -, -, -, -⟩ := HC1.out.all
  clear hst k1 k0
  have ea1 : ∀ o, (w1.alloc o).cell? ⟨w.heap.size, 1, none⟩ = some (.string c.qn) := fun o => (HC1.out.alloc o).cell 1 _ rfl
  have eb1 : ∀ o o2, ((w1.alloc o).alloc o2).cell? ⟨w.heap.size, 1, none⟩ = some (.string c.qn) := fun o o2 => ((HC1.out.alloc o).alloc o2).cell 1 _ rfl
  have ea2 : ∀ o, (w1.alloc o).cell? ⟨w.heap.size, 2, none⟩ = some (.int .u32 c.most) := fun o => (HC1.out.alloc o).cell 2 _ rfl
  have eb2 : ∀ o o2, ((w1.alloc o).alloc o2).cell? ⟨w.heap.size, 2, none⟩ = some (.int .u32 c.most) := fun o o2 => ((HC1.out.alloc o).alloc o2).cell 2 _ rfl
  have ea3 : ∀ o, (w1.alloc o).cell? ⟨w.heap.size, 3, none⟩ = some (.int .u64 c.ttl) := fun o => (HC1.out.alloc o).cell 3 _ rfl
  have eb3 : ∀ o o2, ((w1.alloc o).alloc o2).cell? ⟨w.heap.size, 3, none⟩ = some (.int .u64 c.ttl) := fun o o2 => ((HC1.out.alloc o).alloc o2).cell 3 _ rfl
  have ea4 : ∀ o, (w1.alloc o).cell? ⟨w.heap.size, 4, none⟩ = some (.int .u32 c.tries) := fun o => (HC1.out.alloc o).cell 4 _ rfl
  have eb4 : ∀ o o2, ((w1.alloc o).alloc o2).cell? ⟨w.heap.size, 4, none⟩ = some (.int .u32 c.tries) := fun o o2 => ((HC1.out.alloc o).alloc o2).cell 4 _ rfl
  have ea5 : ∀ o, (w1.alloc o).cell? ⟨w.heap.size, 5, none⟩ = some (.string c.qd) := fun o => (HC1.out.alloc o).cell 5 _ rfl
  have eb5 : ∀ o o2, ((w1.alloc o).alloc o2).cell? ⟨w.heap.size, 5, none⟩ = some (.string c.qd) := fun o o2 => ((HC1.out.alloc o).alloc o2).cell 5 _ rfl
  have ea6 : ∀ o, (w1.alloc o).cell? ⟨w.heap.size, 6, none⟩ = some (.string c.bx) := fun o => (HC1.out.alloc o).cell 6 _ rfl
  have eb6 : ∀ o o2, ((w1.alloc o).alloc o2).cell? ⟨w.heap.size, 6, none⟩ = some (.string c.bx) := fun o o2 => ((HC1.out.alloc o).alloc o2).cell 6 _ rfl
  have ea7 : ∀ o, (w1.alloc o).cell? ⟨w.heap.size, 7, none⟩ = some (.int .i64 c.bk) := fun o => (HC1.out.alloc o).cell 7 _ rfl
  have eb7 : ∀ o o2, ((w1.alloc o).alloc o2).cell? ⟨w.heap.size, 7, none⟩ = some (.int .i64 c.bk) := fun o o2 => ((HC1.out.alloc o).alloc o2).cell 7 _ rfl
  have ea8 : ∀ o, (w1.alloc o).cell? ⟨w.heap.size, 8, none⟩ = some (.string c.bp) := fun o => (HC1.out.alloc o).cell 8 _ rfl
  have eb8 : ∀ o o2, ((w1.alloc o).alloc o2).cell? ⟨w.heap.size, 8, none⟩ = some (.string c.bp) := fun o o2 => ((HC1.out.alloc o).alloc o2).cell 8 _ rfl
  have ea9 : ∀ o, (w1.alloc o).cell? ⟨w.heap.size, 9, none⟩ = some (.string c.bq) := fun o => (HC1.out.alloc o).cell 9 _ rfl
  have eb9 : ∀ o o2, ((w1.alloc o).alloc o2).cell? ⟨w.heap.size, 9, none⟩ = some (.string c.bq) := fun o o2 => ((HC1.out.alloc o).alloc o2).cell 9 _ rfl
  go_cut [6, 7] (fun p6 p7 wx => ∃ g6 g7 : Nat, p6 = .pointer (some ⟨g6, 0, none⟩) ∧ p7 = .pointer (some ⟨g7, 0, none⟩) ∧ Hid (RB w g6 g7 c (Cm.zero c.kind) wx))
  case first =>
    go_region
    · go_wp2_with fail
      go_meet
      exact ⟨_, _, rfl, rfl, RB.mk1 HC1.out HO1.out HB1.out HS1.out _ _⟩
    · go_wp2_with fail
      go_meet
      exact ⟨_, _, rfl, rfl, RB.mk2 HC1.out HO1.out HB1.out HS1.out _ _⟩
  case rest =>
    obtain ⟨g6, g7, rfl, rfl, HR⟩ := hcut
    clear e0 e1 e2 e3 e4 e5 e6 e7 e8 e9 ea1 eb1 ea2 eb2 ea3 eb3 ea4 eb4 ea5 eb5 ea6 eb6 ea7 eb7 ea8 eb8 ea9 eb9 HC HO HB HSZ HC1 HO1 HB1 HS1 HBG hj1 hj2
    have y0 := HR.out.C.cell 0 _ rfl
    generalize hP0 : str (Oc.big 1 c.kind.toNat) = P0
    have hz0 : P0.size ≤ 1 := by rw [← hP0, big_size]; exact Nat.le_refl _
    rcases HKK.out with hk | hk
    · clear HKK
      obtain ⟨P1, hP1⟩ : ∃ P, P = str (Sg.txb c.ex) := ⟨_, rfl⟩
      have hz1 : P1.size ≤ 40004 := by rw [hP1]; exact txb_le _ (by first | exact HLT.out.ex)
      obtain ⟨P2, hP2⟩ : ∃ P, P = str (Sg.txb c.key) := ⟨_, rfl⟩
      have hz2 : P2.size ≤ 40004 := by rw [hP2]; exact txb_le _ (by first | exact HLT.out.key)
      obtain ⟨P3, hP3⟩ : ∃ P, P = str (Sg.txb c.body) := ⟨_, rfl⟩
      have hz3 : P3.size ≤ 40004 := by rw [hP3]; exact txb_le _ (by first | exact HLT.out.body)
      obtain ⟨P4, hP4⟩ : ∃ P, P = str (Oc.big 8 c.time) := ⟨_, rfl⟩
      have hz4 : P4.size ≤ 40004 := by rw [hP4, big_size]; decide
      have HP1 : Hid (∀ W, Calls Tryz.prog 35 #[.string c.ex] W fun e w' => e = .returned (.string P1) ∧ Below W.heap.size W w') := by rw [hP1]; exact fun W => refTx c.ex (by have := HLT.out.ex; omega) W
      have HP2 : Hid (∀ W, Calls Tryz.prog 35 #[.string c.key] W fun e w' => e = .returned (.string P2) ∧ Below W.heap.size W w') := by rw [hP2]; exact fun W => refTx c.key (by have := HLT.out.key; omega) W
      have HP3 : Hid (∀ W, Calls Tryz.prog 35 #[.string c.body] W fun e w' => e = .returned (.string P3) ∧ Below W.heap.size W w') := by rw [hP3]; exact fun W => refTx c.body (by have := HLT.out.body; omega) W
      have HP4 : Hid (∀ W, Calls Tryz.prog 36 #[.int .u64 c.time] W fun e w' => e = .returned (.string P4) ∧ Below W.heap.size W w') := by rw [hP4]; exact fun W => rEight c.time HOK.out.time W
      have ha1 : P0.size + P1.size ≤ 9223372036854775807 := by omega
      have hb1 : ¬ 9223372036854775807 < P0.size + P1.size := by omega
      have ha2 : P0.size + P1.size + P2.size ≤ 9223372036854775807 := by omega
      have hb2 : ¬ 9223372036854775807 < P0.size + P1.size + P2.size := by omega
      have ha3 : P0.size + P1.size + P2.size + P3.size ≤ 9223372036854775807 := by omega
      have hb3 : ¬ 9223372036854775807 < P0.size + P1.size + P2.size + P3.size := by omega
      have ha4 : P0.size + P1.size + P2.size + P3.size + P4.size ≤ 9223372036854775807 := by omega
      have hb4 : ¬ 9223372036854775807 < P0.size + P1.size + P2.size + P3.size + P4.size := by omega
      have HPZ : Hid (P0 ++ P1 ++ P2 ++ P3 ++ P4 = str (encC c)) := by show _ = _; rw [← hP0, hP1, hP2, hP3, hP4]; unfold encC; rw [show form c.kind = [.e, .k, .b, .t] from by rw [hk]; rfl]; simp only [str_append, List.flatMap_cons, List.flatMap_nil, List.append_nil, List.append_assoc, Sg.enc]
      have HTZ : Hid ((Sg.t.hand (Sg.b.hand (Sg.k.hand (Sg.e.hand (Cm.zero c.kind) c) c) c) c) = told c) := by show _ = _; unfold told; rw [show form c.kind = [.e, .k, .b, .t] from by rw [hk]; rfl]; rfl
      clear hP1 hP2 hP3 hP4 hz1 hz2 hz3 hz4
      have yk9 := HR.out.C.cell 0 _ rfl
      go_upto_region 18 with fail
      have p0 := HR.out.C.cell 10 _ rfl
      have q0 : wc.cell? ⟨w.heap.size + 1, 10, none⟩ = some (.string ⟨#[]⟩) := HR.out.O.cell 10 _ rfl
      have r0 := HR.out.O.free 10 (by decide)
      go_upto_region 19 with fail
      have HR1 := Lib.hid (HR.out.hand .e)
      clear p0 q0 r0
      unfold Sg.off Sg.val at HR1
      simp only at HR1
      generalize (wc.setCell ⟨w.heap.size + 1, 10, none⟩ (.string c.ex)) = X1 at HR1 ⊢
      have p1 := HR1.out.C.cell 11 _ rfl
      have q1 : X1.cell? ⟨w.heap.size + 1, 11, none⟩ = some (.string ⟨#[]⟩) := HR1.out.O.cell 11 _ rfl
      have r1 := HR1.out.O.free 11 (by decide)
      go_upto_region 20 with fail
      have HR2 := Lib.hid (HR1.out.hand .k)
      clear p1 q1 r1
      unfold Sg.off Sg.val at HR2
      simp only at HR2
      generalize (X1.setCell ⟨w.heap.size + 1, 11, none⟩ (.string c.key)) = X2 at HR2 ⊢
      have p2 := HR2.out.C.cell 12 _ rfl
      have q2 : X2.cell? ⟨w.heap.size + 1, 12, none⟩ = some (.string ⟨#[]⟩) := HR2.out.O.cell 12 _ rfl
      have r2 := HR2.out.O.free 12 (by decide)
      go_upto_region 21 with fail
      have HR3 := Lib.hid (HR2.out.hand .b)
      clear p2 q2 r2
      unfold Sg.off Sg.val at HR3
      simp only at HR3
      generalize (X2.setCell ⟨w.heap.size + 1, 12, none⟩ (.string c.body)) = X3 at HR3 ⊢
      have p3 := HR3.out.C.cell 16 _ rfl
      have q3 : X3.cell? ⟨w.heap.size + 1, 16, none⟩ = some (.int .u64 0) := HR3.out.O.cell 16 _ rfl
      have r3 := HR3.out.O.free 16 (by decide)
      go_upto_region 22 with fail
      have HR4 := Lib.hid (HR3.out.hand .t)
      clear p3 q3 r3
      unfold Sg.off Sg.val at HR4
      simp only at HR4
      generalize (X3.setCell ⟨w.heap.size + 1, 16, none⟩ (.int .u64 c.time)) = X4 at HR4 ⊢
      have HS1 : Hid (∀ W', RB w g6 g7 c (Sg.t.hand (Sg.b.hand (Sg.k.hand (Sg.e.hand (Cm.zero c.kind) c) c) c) c) W' → (W'.cell? ⟨w.heap.size, 10, none⟩ = some (.string c.ex) ∧ W'.cell? ⟨w.heap.size, 11, none⟩ = some (.string c.key) ∧ W'.cell? ⟨w.heap.size, 12, none⟩ = some (.string c.body) ∧ W'.cell? ⟨w.heap.size, 16, none⟩ = some (.int .u64 c.time) ∧ Hid (RB w g6 g7 c (Sg.t.hand (Sg.b.hand (Sg.k.hand (Sg.e.hand (Cm.zero c.kind) c) c) c) c) W'))) := fun W' h => ⟨h.C.cell 10 _ rfl, h.C.cell 11 _ rfl, h.C.cell 12 _ rfl, h.C.cell 16 _ rfl, Lib.hid h⟩
      have HS2 : Hid (∀ W V, (fun W' => W'.cell? ⟨w.heap.size, 10, none⟩ = some (.string c.ex) ∧ W'.cell? ⟨w.heap.size, 11, none⟩ = some (.string c.key) ∧ W'.cell? ⟨w.heap.size, 12, none⟩ = some (.string c.body) ∧ W'.cell? ⟨w.heap.size, 16, none⟩ = some (.int .u64 c.time) ∧ Hid (RB w g6 g7 c (Sg.t.hand (Sg.b.hand (Sg.k.hand (Sg.e.hand (Cm.zero c.kind) c) c) c) c) W')) W → Below W.heap.size W V → (fun W' => W'.cell? ⟨w.heap.size, 10, none⟩ = some (.string c.ex) ∧ W'.cell? ⟨w.heap.size, 11, none⟩ = some (.string c.key) ∧ W'.cell? ⟨w.heap.size, 12, none⟩ = some (.string c.body) ∧ W'.cell? ⟨w.heap.size, 16, none⟩ = some (.int .u64 c.time) ∧ Hid (RB w g6 g7 c (Sg.t.hand (Sg.b.hand (Sg.k.hand (Sg.e.hand (Cm.zero c.kind) c) c) c) c) W')) V) := fun W V h hb => HS1.out _ (h.2.2.2.2.out.below hb)
      have HRd := Lib.hid (HR4.out.below (Below.refl X4.heap.size X4).drew)
      go_region_held3 (fun W' => W'.cell? ⟨w.heap.size, 10, none⟩ = some (.string c.ex) ∧ W'.cell? ⟨w.heap.size, 11, none⟩ = some (.string c.key) ∧ W'.cell? ⟨w.heap.size, 12, none⟩ = some (.string c.body) ∧ W'.cell? ⟨w.heap.size, 16, none⟩ = some (.int .u64 c.time) ∧ Hid (RB w g6 g7 c (Sg.t.hand (Sg.b.hand (Sg.k.hand (Sg.e.hand (Cm.zero c.kind) c) c) c) c) W'))
        ((first | with_reducible assumption | exact HS1.out _ HRd.out | exact HS2.out _ _ (by assumption) hb))
        (first | (go_at_call 35; (with_reducible refine (HP1.out _).mono ?_); rintro e V1 ⟨rfl, hb⟩) | (go_at_call 35; (with_reducible refine (HP2.out _).mono ?_); rintro e V2 ⟨rfl, hb⟩) | (go_at_call 35; (with_reducible refine (HP3.out _).mono ?_); rintro e V3 ⟨rfl, hb⟩) | (go_at_call 36; (with_reducible refine (HP4.out _).mono ?_); rintro e V4 ⟨rfl, hb⟩))
      rename_i hS
      have HR5 := Lib.hid (hS.2.2.2.2.out)
      clear hS HS1 HS2 HRd
      go_upto_region 48 with fail
      rw [HTZ.out] at HR5
      have HRZ := HR5
      clear HR5
      have s1 := run_loadR HRZ.out.O
      have s2 := run_loadR HRZ.out.C
      have s3 := (HRZ.out.b.at0 1 _ rfl).1
      have HKN : Hid (1 ≤ c.kind ∧ c.kind ≤ 13) := by show _ ∧ _; omega
      have HBW := Lib.hid HRZ.out.B
      clear y0 yk9
      generalize hcat : (P0 ++ P1 ++ P2 ++ P3 ++ P4) = PZ at HPZ ⊢
      clear hcat
      by_cases hA : told c = c
      case neg =>
        have hd : decide (told c = c) = false := decide_eq_false hA
        have HV : Hid (BY = (⟨#[]⟩, 4)) := HBY.out.symm.trans (bytes4 HKN.out (.inl (fun h => hA h.symm)))
        clear hA hk
        generalize told c = tc at s1 hd
        go_wp2
        go_ret2
        rw [HV.out]
        exact ⟨rfl, HBW.out⟩
      case pos =>
        have hd : decide (told c = c) = true := decide_eq_true hA
        have HA := Lib.hid hA.symm
        clear hA
        generalize told c = tc at s1 hd
        by_cases hn : c.bk < 0
        case pos =>
          have HV : Hid (BY = (⟨#[]⟩, 4)) := HBY.out.symm.trans (bytes4 HKN.out (.inr (.inl hn)))
          clear hk
          go_wp2
          go_ret2
          rw [HV.out]
          exact ⟨rfl, HBW.out⟩
        case neg =>
          have hn0 : decide (c.bk < 0) = false := decide_eq_false hn
          by_cases hm : 255 < c.bk
          case pos =>
            have HV : Hid (BY = (⟨#[]⟩, 4)) := HBY.out.symm.trans (bytes4 HKN.out (.inr (.inr hm)))
            clear hk
            go_wp2
            go_ret2
            rw [HV.out]
            exact ⟨rfl, HBW.out⟩
          case neg =>
            have hm0 : decide (255 < c.bk) = false := decide_eq_false hm
            have H0 := Lib.hid (show 0 ≤ c.bk ∧ c.bk ≤ 255 by omega)
            clear hk hn hm
            have f0 := (HRZ.out.q.at0 0 _ rfl).1
            have f1 := (HRZ.out.q.at0 4 _ rfl).1
            have f2 := (HRZ.out.b.at0 0 _ rfl).1
            have f3 := (HRZ.out.b.at0 3 _ rfl).1
            have f4 := HRZ.out.C.cell 10 _ rfl
            go_wp2
            have HRY := Lib.hid (HRZ.out.below (below_alloc' V4 (.cells #[.string c.qn, .string c.qd, .string c.bx, .string c.bq, .string c.ex] 9)))
            have HY := Lib.hid (five_cells V4 c 9)
            clear f0 f1 f2 f3 f4 s1 s2 s3 hd hn0 hm0 HRZ HBW
            generalize (V4.alloc (.cells #[.string c.qn, .string c.qd, .string c.bx, .string c.bq, .string c.ex] 9)) = Y at HRY HY ⊢
            generalize V4.heap.size = g8 at HY ⊢
            go_loopg [257] 5 (fun n i wr => ∃ k : Nat, k ≤ 5 ∧ n = 5 - k ∧ i = .int .i64 k ∧ wr = Y ∧ Hid (∀ j t, j < k → (five c)[j]? = some t → t.size ≤ 32))
            case atStart => exact ⟨0, by decide, rfl, rfl, rfl, fun j t h => absurd h (Nat.not_lt_zero _)⟩
            case round =>
              obtain ⟨k, hk5, rfl, rfl, rfl, HS⟩ := hrel
              by_cases hlt : k < 5
              case pos =>
                obtain ⟨t, ht⟩ : ∃ t, (five c)[k]? = some t := ⟨_, List.getElem?_eq_getElem (by simpa [five] using hlt)⟩
                have hc := HY.out k t ht
                have hi5 : (k : Int) < 5 := by omega
                have hi0 : (0 : Int) ≤ (k : Int) := by omega
                by_cases hl : 32 < t.size
                case pos =>
                  have hli : (32 : Int) < (t.size : Int) := by omega
                  have HV : Hid (BY = (⟨#[]⟩, 5)) := HBY.out.symm.trans (five_long HKN.out HA.out H0.out.1 H0.out.2 k t ht hl)
                  clear ht hl
                  go_wp2
                  go_ret2
                  rw [HV.out]
                  exact ⟨rfl, HRY.out.B⟩
                case neg =>
                  have hli : decide ((32 : Int) < (t.size : Int)) = false := decide_eq_false (by omega)
                  have HT := Lib.hid hl
                  have HTT := Lib.hid ht
                  clear ht hl
                  go_wp2
                  go_roundg (5 - (k + 1))
                  case measure => omega
                  case rel =>
                    refine ⟨k + 1, by omega, rfl, by go_num, rfl, fun j t' hj ht' => ?_⟩
                    rcases Nat.lt_or_ge j k with h | h
                    · exact HS.out j t' h ht'
                    · obtain rfl : j = k := by omega
                      rw [HTT.out] at ht'
                      cases ht'
                      have := HT.out
                      omega
              case neg =>
                obtain rfl : k = 5 := by omega
                have f0 := HRY.out.C.cell 11 _ rfl
                have f1 := (HRY.out.b.at0 2 _ rfl).1
                have f2 := HRY.out.C.cell 12 _ rfl
                by_cases hK : 512 < c.key.size
                case pos =>
                  have hKi : (512 : Int) < (c.key.size : Int) := by omega
                  have HV : Hid (BY = (⟨#[]⟩, 5)) := HBY.out.symm.trans (bytes5 HKN.out HA.out H0.out.1 H0.out.2 .k (decide_eq_true hK))
                  clear hK
                  go_wp2
                  go_ret2
                  rw [HV.out]
                  exact ⟨rfl, HRY.out.B⟩
                case neg =>
                  have hKi : decide ((512 : Int) < (c.key.size : Int)) = false := decide_eq_false (by omega)
                  by_cases hP : 512 < c.bp.size
                  case pos =>
                    have hPi : (512 : Int) < (c.bp.size : Int) := by omega
                    have HV : Hid (BY = (⟨#[]⟩, 5)) := HBY.out.symm.trans (bytes5 HKN.out HA.out H0.out.1 H0.out.2 .P (decide_eq_true hP))
                    clear hK hP
                    go_wp2
                    go_ret2
                    rw [HV.out]
                    exact ⟨rfl, HRY.out.B⟩
                  case neg =>
                    have hPi : decide ((512 : Int) < (c.bp.size : Int)) = false := decide_eq_false (by omega)
                    by_cases hB : 32768 < c.body.size
                    case pos =>
                      have hBi : (32768 : Int) < (c.body.size : Int) := by omega
                      have HV : Hid (BY = (⟨#[]⟩, 5)) := HBY.out.symm.trans (bytes5 HKN.out HA.out H0.out.1 H0.out.2 .b (decide_eq_true hB))
                      clear hK hP hB
                      go_wp2
                      go_ret2
                      rw [HV.out]
                      exact ⟨rfl, HRY.out.B⟩
                    case neg =>
                      have hBi : decide ((32768 : Int) < (c.body.size : Int)) = false := decide_eq_false (by omega)
                      have HV : Hid (BY = (PZ, 0)) := by show _ = _; rw [← HBY.out, bytes0 HKN.out HA.out H0.out.1 H0.out.2 (all_short (fun k t h => HS.out k t (by have := (List.getElem?_eq_some_iff.1 h).1; simpa [five] using this) h) (by omega) (by omega) (by omega)), HPZ.out]
                      clear hK hP hB
                      go_wp2
                      go_ret2
                      rw [HV.out]
                      exact ⟨rfl, HRY.out.B⟩
    · clear HKK
      obtain ⟨P1, hP1⟩ : ∃ P, P = str (Sg.txb c.qn) := ⟨_, rfl⟩
      have hz1 : P1.size ≤ 40004 := by rw [hP1]; exact txb_le _ (by first | exact HLT.out.qn)
      obtain ⟨P2, hP2⟩ : ∃ P, P = str (Oc.big 8 c.n) := ⟨_, rfl⟩
      have hz2 : P2.size ≤ 40004 := by rw [hP2, big_size]; decide
      obtain ⟨P3, hP3⟩ : ∃ P, P = str (Oc.big 8 c.time) := ⟨_, rfl⟩
      have hz3 : P3.size ≤ 40004 := by rw [hP3, big_size]; decide
      have HP1 : Hid (∀ W, Calls Tryz.prog 35 #[.string c.qn] W fun e w' => e = .returned (.string P1) ∧ Below W.heap.size W w') := by rw [hP1]; exact fun W => refTx c.qn (by have := HLT.out.qn; omega) W
      have HP2 : Hid (∀ W, Calls Tryz.prog 36 #[.int .u64 c.n] W fun e w' => e = .returned (.string P2) ∧ Below W.heap.size W w') := by rw [hP2]; exact fun W => rEight c.n HOK.out.n W
      have HP3 : Hid (∀ W, Calls Tryz.prog 36 #[.int .u64 c.time] W fun e w' => e = .returned (.string P3) ∧ Below W.heap.size W w') := by rw [hP3]; exact fun W => rEight c.time HOK.out.time W
      have ha1 : P0.size + P1.size ≤ 9223372036854775807 := by omega
      have hb1 : ¬ 9223372036854775807 < P0.size + P1.size := by omega
      have ha2 : P0.size + P1.size + P2.size ≤ 9223372036854775807 := by omega
      have hb2 : ¬ 9223372036854775807 < P0.size + P1.size + P2.size := by omega
      have ha3 : P0.size + P1.size + P2.size + P3.size ≤ 9223372036854775807 := by omega
      have hb3 : ¬ 9223372036854775807 < P0.size + P1.size + P2.size + P3.size := by omega
      have HPZ : Hid (P0 ++ P1 ++ P2 ++ P3 = str (encC c)) := by show _ = _; rw [← hP0, hP1, hP2, hP3]; unfold encC; rw [show form c.kind = [.q, .n, .t] from by rw [hk]; rfl]; simp only [str_append, List.flatMap_cons, List.flatMap_nil, List.append_nil, List.append_assoc, Sg.enc]
      have HTZ : Hid ((Sg.t.hand (Sg.n.hand (Sg.q.hand (Cm.zero c.kind) c) c) c) = told c) := by show _ = _; unfold told; rw [show form c.kind = [.q, .n, .t] from by rw [hk]; rfl]; rfl
      clear hP1 hP2 hP3 hz1 hz2 hz3
      have p0 := (HR.out.q.at0 0 _ rfl).1
      have q0 : wc.cell? ⟨w.heap.size + 1, 1, none⟩ = some (.string ⟨#[]⟩) := HR.out.O.cell 1 _ rfl
      have r0 := HR.out.O.free 1 (by decide)
      go_upto_region 8 with fail
      have HR1 := Lib.hid (HR.out.hand .q)
      clear p0 q0 r0
      unfold Sg.off Sg.val at HR1
      simp only at HR1
      generalize (wc.setCell ⟨w.heap.size + 1, 1, none⟩ (.string c.qn)) = X1 at HR1 ⊢
      have yk := HR1.out.C.cell 0 _ rfl
      have p1 := (HR1.out.q.at0 0 _ rfl).1
      go_upto_region 9 with (go_at_call 35; refine (HP1.out _).mono ?_; rintro e X2 ⟨rfl, hb⟩; have HR2 := Lib.hid (HR1.out.below hb); clear hb)
      have yk9 := HR2.out.C.cell 0 _ rfl
      go_upto_region 24 with fail
      have p2 := HR2.out.C.cell 15 _ rfl
      have q2 : X2.cell? ⟨w.heap.size + 1, 15, none⟩ = some (.int .u64 0) := HR2.out.O.cell 15 _ rfl
      have r2 := HR2.out.O.free 15 (by decide)
      go_upto_region 25 with fail
      have HR3 := Lib.hid (HR2.out.hand .n)
      clear p2 q2 r2
      unfold Sg.off Sg.val at HR3
      simp only at HR3
      generalize (X2.setCell ⟨w.heap.size + 1, 15, none⟩ (.int .u64 c.n)) = X3 at HR3 ⊢
      have p3 := HR3.out.C.cell 16 _ rfl
      have q3 : X3.cell? ⟨w.heap.size + 1, 16, none⟩ = some (.int .u64 0) := HR3.out.O.cell 16 _ rfl
      have r3 := HR3.out.O.free 16 (by decide)
      go_upto_region 26 with fail
      have HR4 := Lib.hid (HR3.out.hand .t)
      clear p3 q3 r3
      unfold Sg.off Sg.val at HR4
      simp only at HR4
      generalize (X3.setCell ⟨w.heap.size + 1, 16, none⟩ (.int .u64 c.time)) = X4 at HR4 ⊢
      have HS1 : Hid (∀ W', RB w g6 g7 c (Sg.t.hand (Sg.n.hand (Sg.q.hand (Cm.zero c.kind) c) c) c) W' → (W'.cell? ⟨w.heap.size, 15, none⟩ = some (.int .u64 c.n) ∧ W'.cell? ⟨w.heap.size, 16, none⟩ = some (.int .u64 c.time) ∧ Hid (RB w g6 g7 c (Sg.t.hand (Sg.n.hand (Sg.q.hand (Cm.zero c.kind) c) c) c) W'))) := fun W' h => ⟨h.C.cell 15 _ rfl, h.C.cell 16 _ rfl, Lib.hid h⟩
      have HS2 : Hid (∀ W V, (fun W' => W'.cell? ⟨w.heap.size, 15, none⟩ = some (.int .u64 c.n) ∧ W'.cell? ⟨w.heap.size, 16, none⟩ = some (.int .u64 c.time) ∧ Hid (RB w g6 g7 c (Sg.t.hand (Sg.n.hand (Sg.q.hand (Cm.zero c.kind) c) c) c) W')) W → Below W.heap.size W V → (fun W' => W'.cell? ⟨w.heap.size, 15, none⟩ = some (.int .u64 c.n) ∧ W'.cell? ⟨w.heap.size, 16, none⟩ = some (.int .u64 c.time) ∧ Hid (RB w g6 g7 c (Sg.t.hand (Sg.n.hand (Sg.q.hand (Cm.zero c.kind) c) c) c) W')) V) := fun W V h hb => HS1.out _ (h.2.2.out.below hb)
      have HRd := Lib.hid (HR4.out.below (Below.refl X4.heap.size X4).drew)
      go_region_held3 (fun W' => W'.cell? ⟨w.heap.size, 15, none⟩ = some (.int .u64 c.n) ∧ W'.cell? ⟨w.heap.size, 16, none⟩ = some (.int .u64 c.time) ∧ Hid (RB w g6 g7 c (Sg.t.hand (Sg.n.hand (Sg.q.hand (Cm.zero c.kind) c) c) c) W'))
        ((first | with_reducible assumption | exact HS1.out _ HRd.out | exact HS2.out _ _ (by assumption) hb))
        (first | (go_at_call 36; (with_reducible refine (HP2.out _).mono ?_); rintro e V2 ⟨rfl, hb⟩) | (go_at_call 36; (with_reducible refine (HP3.out _).mono ?_); rintro e V3 ⟨rfl, hb⟩))
      rename_i hS
      have HR5 := Lib.hid (hS.2.2.out)
      clear hS HS1 HS2 HRd
      go_upto_region 48 with fail
      rw [HTZ.out] at HR5
      have HRZ := HR5
      clear HR5
      have s1 := run_loadR HRZ.out.O
      have s2 := run_loadR HRZ.out.C
      have s3 := (HRZ.out.b.at0 1 _ rfl).1
      have HKN : Hid (1 ≤ c.kind ∧ c.kind ≤ 13) := by show _ ∧ _; omega
      have HBW := Lib.hid HRZ.out.B
      clear y0 yk9
      generalize hcat : (P0 ++ P1 ++ P2 ++ P3) = PZ at HPZ ⊢
      clear hcat
      by_cases hA : told c = c
      case neg =>
        have hd : decide (told c = c) = false := decide_eq_false hA
        have HV : Hid (BY = (⟨#[]⟩, 4)) := HBY.out.symm.trans (bytes4 HKN.out (.inl (fun h => hA h.symm)))
        clear hA hk
        generalize told c = tc at s1 hd
        go_wp2
        go_ret2
        rw [HV.out]
        exact ⟨rfl, HBW.out⟩
      case pos =>
        have hd : decide (told c = c) = true := decide_eq_true hA
        have HA := Lib.hid hA.symm
        clear hA
        generalize told c = tc at s1 hd
        by_cases hn : c.bk < 0
        case pos =>
          have HV : Hid (BY = (⟨#[]⟩, 4)) := HBY.out.symm.trans (bytes4 HKN.out (.inr (.inl hn)))
          clear hk
          go_wp2
          go_ret2
          rw [HV.out]
          exact ⟨rfl, HBW.out⟩
        case neg =>
          have hn0 : decide (c.bk < 0) = false := decide_eq_false hn
          by_cases hm : 255 < c.bk
          case pos =>
            have HV : Hid (BY = (⟨#[]⟩, 4)) := HBY.out.symm.trans (bytes4 HKN.out (.inr (.inr hm)))
            clear hk
            go_wp2
            go_ret2
            rw [HV.out]
            exact ⟨rfl, HBW.out⟩
          case neg =>
            have hm0 : decide (255 < c.bk) = false := decide_eq_false hm
            have H0 := Lib.hid (show 0 ≤ c.bk ∧ c.bk ≤ 255 by omega)
            clear hk hn hm
            have f0 := (HRZ.out.q.at0 0 _ rfl).1
            have f1 := (HRZ.out.q.at0 4 _ rfl).1
            have f2 := (HRZ.out.b.at0 0 _ rfl).1
            have f3 := (HRZ.out.b.at0 3 _ rfl).1
            have f4 := HRZ.out.C.cell 10 _ rfl
            go_wp2
            have HRY := Lib.hid (HRZ.out.below (below_alloc' V3 (.cells #[.string c.qn, .string c.qd, .string c.bx, .string c.bq, .string c.ex] 9)))
            have HY := Lib.hid (five_cells V3 c 9)
            clear f0 f1 f2 f3 f4 s1 s2 s3 hd hn0 hm0 HRZ HBW
            generalize (V3.alloc (.cells #[.string c.qn, .string c.qd, .string c.bx, .string c.bq, .string c.ex] 9)) = Y at HRY HY ⊢
            generalize V3.heap.size = g8 at HY ⊢
            go_loopg [257] 5 (fun n i wr => ∃ k : Nat, k ≤ 5 ∧ n = 5 - k ∧ i = .int .i64 k ∧ wr = Y ∧ Hid (∀ j t, j < k → (five c)[j]? = some t → t.size ≤ 32))
            case atStart => exact ⟨0, by decide, rfl, rfl, rfl, fun j t h => absurd h (Nat.not_lt_zero _)⟩
            case round =>
              obtain ⟨k, hk5, rfl, rfl, rfl, HS⟩ := hrel
              by_cases hlt : k < 5
              case pos =>
                obtain ⟨t, ht⟩ : ∃ t, (five c)[k]? = some t := ⟨_, List.getElem?_eq_getElem (by simpa [five] using hlt)⟩
                have hc := HY.out k t ht
                have hi5 : (k : Int) < 5 := by omega
                have hi0 : (0 : Int) ≤ (k : Int) := by omega
                by_cases hl : 32 < t.size
                case pos =>
                  have hli : (32 : Int) < (t.size : Int) := by omega
                  have HV : Hid (BY = (⟨#[]⟩, 5)) := HBY.out.symm.trans (five_long HKN.out HA.out H0.out.1 H0.out.2 k t ht hl)
                  clear ht hl
                  go_wp2
                  go_ret2
                  rw [HV.out]
                  exact ⟨rfl, HRY.out.B⟩
                case neg =>
                  have hli : decide ((32 : Int) < (t.size : Int)) = false := decide_eq_false (by omega)
                  have HT := Lib.hid hl
                  have HTT := Lib.hid ht
                  clear ht hl
                  go_wp2
                  go_roundg (5 - (k + 1))
                  case measure => omega
                  case rel =>
                    refine ⟨k + 1, by omega, rfl, by go_num, rfl, fun j t' hj ht' => ?_⟩
                    rcases Nat.lt_or_ge j k with h | h
                    · exact HS.out j t' h ht'
                    · obtain rfl : j = k := by omega
                      rw [HTT.out] at ht'
                      cases ht'
                      have := HT.out
                      omega
              case neg =>
                obtain rfl : k = 5 := by omega
                have f0 := HRY.out.C.cell 11 _ rfl
                have f1 := (HRY.out.b.at0 2 _ rfl).1
                have f2 := HRY.out.C.cell 12 _ rfl
                by_cases hK : 512 < c.key.size
                case pos =>
                  have hKi : (512 : Int) < (c.key.size : Int) := by omega
                  have HV : Hid (BY = (⟨#[]⟩, 5)) := HBY.out.symm.trans (bytes5 HKN.out HA.out H0.out.1 H0.out.2 .k (decide_eq_true hK))
                  clear hK
                  go_wp2
                  go_ret2
                  rw [HV.out]
                  exact ⟨rfl, HRY.out.B⟩
                case neg =>
                  have hKi : decide ((512 : Int) < (c.key.size : Int)) = false := decide_eq_false (by omega)
                  by_cases hP : 512 < c.bp.size
                  case pos =>
                    have hPi : (512 : Int) < (c.bp.size : Int) := by omega
                    have HV : Hid (BY = (⟨#[]⟩, 5)) := HBY.out.symm.trans (bytes5 HKN.out HA.out H0.out.1 H0.out.2 .P (decide_eq_true hP))
                    clear hK hP
                    go_wp2
                    go_ret2
                    rw [HV.out]
                    exact ⟨rfl, HRY.out.B⟩
                  case neg =>
                    have hPi : decide ((512 : Int) < (c.bp.size : Int)) = false := decide_eq_false (by omega)
                    by_cases hB : 32768 < c.body.size
                    case pos =>
                      have hBi : (32768 : Int) < (c.body.size : Int) := by omega
                      have HV : Hid (BY = (⟨#[]⟩, 5)) := HBY.out.symm.trans (bytes5 HKN.out HA.out H0.out.1 H0.out.2 .b (decide_eq_true hB))
                      clear hK hP hB
                      go_wp2
                      go_ret2
                      rw [HV.out]
                      exact ⟨rfl, HRY.out.B⟩
                    case neg =>
                      have hBi : decide ((32768 : Int) < (c.body.size : Int)) = false := decide_eq_false (by omega)
                      have HV : Hid (BY = (PZ, 0)) := by show _ = _; rw [← HBY.out, bytes0 HKN.out HA.out H0.out.1 H0.out.2 (all_short (fun k t h => HS.out k t (by have := (List.getElem?_eq_some_iff.1 h).1; simpa [five] using this) h) (by omega) (by omega) (by omega)), HPZ.out]
                      clear hK hP hB
                      go_wp2
                      go_ret2
                      rw [HV.out]
                      exact ⟨rfl, HRY.out.B⟩
end Go.Proofs.YtoekggbbkcmknaaGreatDoor
