/- The contract of Body, at a leaf's cells. -/
import Derived.Test.YtppoikhonlgcnaaMayC
import Derived.Test.YtppoikhonlgcnaaDuo
import Derived.Test.YtppoikhonlgcnaaSMath2

import Derived.Deep.RegionWith
namespace Go.Proofs.Ytppoikhonlgcnaa
open Go.RowKit
open Sl (Cl Kd)
theorem strCells_str (l : List UInt8) : Lib.strCells (str l) = Lib.byteCells l := rfl
theorem byteCells_app (l m : List UInt8) : Lib.byteCells l ++ Lib.byteCells m = Lib.byteCells (l ++ m) := by simp [Lib.byteCells]
theorem byteCells_len (l : List UInt8) : (Lib.byteCells l).length = l.length := by simp [Lib.byteCells]

theorem elemHC {w : World} {k : Nat} {y0 y1 y2 y3 : Value} {T : TypeId} (h : w.heap[k]? = some (.cells #[y0, y1, y2, y3] T (0, 0))) : w.cell? ⟨k, 0, none⟩ = some y0 ∧ w.cell? ⟨k, 1, none⟩ = some y1 ∧ w.cell? ⟨k, 2, none⟩ = some y2 ∧ w.cell? ⟨k, 3, none⟩ = some y3 :=
  ⟨(Lib.cell_of_heap h 0).trans rfl, (Lib.cell_of_heap h 1).trans rfl, (Lib.cell_of_heap h 2).trans rfl, (Lib.cell_of_heap h 3).trans rfl⟩
theorem World.block_lt_of_heap {w : World} {k : Nat} {o : Obj} (h : w.heap[k]? = some o) : k < w.heap.size := by
  rcases Nat.lt_or_ge k w.heap.size with h' | h'
  · exact h'
  · rw [Array.getElem?_eq_none h'] at h; cases h
set_option maxHeartbeats 4000000 in
set_option maxRecDepth 100000 in
theorem bodyC_any (v : Value) (l : List Cl) (hll : l.length ≤ 100000) (hl : ∀ x ∈ l, okC x) (w : World) (hv : SlC w v l) :
    Calls Try.prog 11 #[shpC, v] w fun e w' => e = .returned (.tuple #[.string (str (Sl.bodyR Sl.shC l).1), .int .i64 (Sl.bodyR Sl.shC l).2]) ∧ Below w.heap.size w w' := by
  have HL := Lib.hid hl
  have HB0 := Lib.hid (BxC.new w)
  have HW0 : Hid (Below w.heap.size w (w.alloc (.cells #[.func (.func 33) #[] #[], .func (.func 34) #[] #[], .func (.func 35) #[] #[], .func (.func 36) #[] #[]] 29))) := (Below.refl _ _).alloc (Nat.le_refl _) _
  have HWh := Lib.hid (fun W => wholeC_any W)
  have HMa := Lib.hid (fun W (hW : SlC W v l) => mayC_any v l hll W hW)
  have HSu := Lib.hid (fun W (hW : SlC W v l) => sumC_any v l hll hl W hW)
  have HV := Lib.hid hv
  have HVB : Hid (∀ W, Below w.heap.size w W → SlC W v l) := fun W hW => hv.below hW
  obtain ⟨a, b, o, c, rfl, ha, hx⟩ := hv
  have HX := Lib.hid hx
  have HA := Lib.hid ha
  clear hl ha hx
  unfold shpC at HWh HMa HSu ⊢
  have hlen : (l.length : Int) ≤ 100000 := by omega
  by_cases hr : Sl.right Sl.shC l = 0
  · by_cases hs : 4072 < Sl.sum Sl.shC l
    · rw [Sl.bodyR_full Sl.shC l hr hs]
      rw [hr] at HMa
      clear hr
      revert HMa HSu hs
      generalize Sl.sum Sl.shC l = m
      intro HMa HSu hs
      have hs' : (4072 : Int) < m := by omega
      go_enter Try.func11, Try.ntmps11
      go_wp2_with (first
        | (go_at_call 43; refine (HWh.out _).mono ?_; rintro e w1 ⟨rfl, hb1⟩; have HB1 := Lib.hid (below_step HW0.out hb1); have HR1 := Lib.hid (HB0.out.below hb1 HB0.out.lt); have q0 := HR1.out.c0; have q1 := HR1.out.c1; have q2 := HR1.out.c2; have q3 := HR1.out.c3)
        | (go_at_call 44; refine (HMa.out _ (HVB.out _ HB1.out)).mono ?_; rintro e w2 ⟨rfl, hb2⟩; have HB2 := Lib.hid (below_step HB1.out hb2); have HR2 := Lib.hid (HR1.out.below hb2 HR1.out.lt); have q0 := HR2.out.c0; have q1 := HR2.out.c1; have q2 := HR2.out.c2; have q3 := HR2.out.c3)
        | (go_at_call 16; refine (HSu.out _ (HVB.out _ HB2.out)).mono ?_; rintro e w3 ⟨rfl, hb3⟩; have HB3 := Lib.hid (below_step HB2.out hb3)))
      go_ret2
      exact ⟨rfl, HB3.out⟩
    · rw [Sl.bodyR_ok Sl.shC l hr hs]
      rw [hr] at HMa
      have HAT := Lib.hid (fun k => Sl.at_le Sl.shC l k (Nat.le_of_not_lt hs))
      have HBL : Hid (2 * l.length = (Sl.begins Sl.shC (2 * l.length) l).length) := (Sl.begins_len Sl.shC l _).symm
      have HBS : Hid (str (Sl.begins Sl.shC (2 * l.length) l) ++ str (l.flatMap Sl.shC.enc) = str (Sl.body Sl.shC l)) := by show _ = _; rw [str_append]; rfl
      clear hr
      revert HSu hs HBS
      generalize Sl.sum Sl.shC l = m
      generalize Sl.body Sl.shC l = res
      intro HSu hs HBS
      have hs' : ¬ (4072 : Int) < m := by omega
      go_enter Try.func11, Try.ntmps11
      go_wp2_with (first
        | (go_at_call 43; refine (HWh.out _).mono ?_; rintro e w1 ⟨rfl, hb1⟩; have HB1 := Lib.hid (below_step HW0.out hb1); have HR1 := Lib.hid (HB0.out.below hb1 HB0.out.lt); have q0 := HR1.out.c0; have q1 := HR1.out.c1; have q2 := HR1.out.c2; have q3 := HR1.out.c3)
        | (go_at_call 44; refine (HMa.out _ (HVB.out _ HB1.out)).mono ?_; rintro e w2 ⟨rfl, hb2⟩; have HB2 := Lib.hid (below_step HB1.out hb2); have HR2 := Lib.hid (HR1.out.below hb2 HR1.out.lt); have q0 := HR2.out.c0; have q1 := HR2.out.c1; have q2 := HR2.out.c2; have q3 := HR2.out.c3)
        | (go_at_call 16; refine (HSu.out _ (HVB.out _ HB2.out)).mono ?_; rintro e w3 ⟨rfl, hb3⟩; have HB3 := Lib.hid (below_step HB2.out hb3); have HR3 := Lib.hid (HR2.out.below hb3 HR2.out.lt)))
      clear q0 q1 q2 q3 hb1 hb2 hb3 hs hs'
      have HD4 := Lib.hid (Duo.new w3 w3.heap.size (Nat.le_refl _))
      have HB4 : Hid (Below w3.heap.size w3 ((w3.alloc (.cells #[.pointer none, .slice none 0 0] 87)).alloc (.cells #[.pointer none, .slice none 0 0] 87))) := ((Below.refl _ _).alloc (Nat.le_refl _) _).alloc (by simp) _
      have HR4 := Lib.hid ((HR3.out.alloc (.cells #[.pointer none, .slice none 0 0] 87)).alloc (.cells #[.pointer none, .slice none 0 0] 87))
      have HGP := Lib.hid HR3.out.lt
      revert HD4 HB4 HR4 HGP
      generalize ((w3.alloc (.cells #[.pointer none, .slice none 0 0] 87)).alloc (.cells #[.pointer none, .slice none 0 0] 87)) = w4
      generalize hp : w3.heap.size = p
      have HP := Lib.hid hp
      clear hp
      intro HD4 HB4 HR4 HGP
      have HW4 : Hid (Below w.heap.size w w4) := HB3.out.trans (HB4.out.mono (Nat.le_of_lt HGP.out))
      go_loopg [26] l.length (fun n i wr => ∃ k : Nat, k ≤ l.length ∧ n = l.length - k ∧ i = .int .i64 k ∧ Hid (Duo wr p p (p + 1) (Lib.byteCells (Sl.begins Sl.shC (2 * l.length) (l.take k))) (Lib.byteCells ((l.take k).flatMap Sl.shC.enc))) ∧ Hid (Below p w4 wr))
      case atStart => exact ⟨0, Nat.zero_le _, rfl, rfl, HD4.out, Below.refl _ _⟩
      case round =>
        obtain ⟨k, hk, rfl, rfl, HD, HB⟩ := hrel
        by_cases hlt : k < l.length
        · obtain ⟨x, hx⟩ := take_some l k hlt
          have HXL := Lib.hid (HL.out x (List.mem_of_getElem? hx))
          obtain ⟨e0, e1, e2, e3⟩ := HX.out k x hx
          have hblt : b < w.heap.size := World.block_lt_of_cell? _ _ e0
          have HWr := Lib.hid (HW4.out.trans (HB.out.mono (Nat.le_of_lt HGP.out)))
          have d0 := (HWr.out.cell (p := ⟨b, o + k * 4, none⟩) hblt).trans e0
          have d1 := (HWr.out.cell (p := ⟨b, o + k * 4 + 1, none⟩) hblt).trans e1
          have d2 := (HWr.out.cell (p := ⟨b, o + k * 4 + 2, none⟩) hblt).trans e2
          have d3 := (HWr.out.cell (p := ⟨b, o + k * 4 + 3, none⟩) hblt).trans e3
          have HR := Lib.hid (HR4.out.below HB.out HGP.out)
          obtain rfl : a = some ⟨b, o, none⟩ := by
            rcases HA.out with h | h
            · rw [h] at hlt; cases hlt
            · exact h
          have HDa := Lib.hid (HD.out.below ((Below.refl _ _).alloc (Nat.le_refl _) (.cells #[.string (str x.key), .string (str x.val), .int .u32 x.chain, .int .u32 x.long] 42)))
          have HSB := Lib.hid (Sl.begins_at Sl.shC l k x hx (2 * l.length))
          have HSF := Lib.hid (Sl.flat_at Sl.shC l k x hx)
          have hat := HAT.out k
          have HBY := Lib.hid (fun W => bytesC_ok x HXL.out W)
          have HCD := Lib.hid (fun W => codecC_any W)
          have hpos : 1 ≤ (Sl.shC.enc x).length := Sl.encC_pos x
          have hle : (Sl.shC.enc x).length ≤ 65794 := Sl.encC_len x
          have hbl : (Lib.byteCells (Sl.begins Sl.shC (2 * l.length) (l.take k))).length ≤ 200000 := by rw [byteCells_len, Sl.begins_len, List.length_take]; omega
          have hfl : (Lib.byteCells ((l.take k).flatMap Sl.shC.enc)).length ≤ 4072 := by rw [byteCells_len]; omega
          have HPL : Hid (p < wr.heap.size) := HD.out.lt
          clear e0 e1 e2 e3 hx
          revert HD HDa HSB HSF hat HBY hpos hle hbl hfl
          generalize Sl.begins Sl.shC (2 * l.length) (l.take k) = B0
          generalize hb1e : Sl.begins Sl.shC (2 * l.length) (l.take (k + 1)) = B1
          have HB1E := Lib.hid hb1e
          clear hb1e
          generalize (l.take k).flatMap Sl.shC.enc = F0
          generalize hf1e : (l.take (k + 1)).flatMap Sl.shC.enc = F1
          have HF1E := Lib.hid hf1e
          clear hf1e
          generalize Sl.shC.enc x = ex
          intro HD HDa HSB HSF hat HBY hpos hle hbl hfl
          unfold cdcC at HBY HCD
          unfold shpC at HCD
          unfold aggC at HBY
          have HBL2 := Lib.hid hbl
          have HFL2 := Lib.hid hfl
          have HPOS := Lib.hid hpos
          have HLE := Lib.hid hle
          clear hbl hfl hpos hle
          have hq : ∀ o1 : Obj, (wr.alloc o1).heap[wr.heap.size]? = some o1 := (fun (o1 : Obj) => by show (wr.heap.push o1)[wr.heap.size]? = _; simp)
          have HEL := Lib.hid (hq (.cells #[.string (str x.key), .string (str x.val), .int .u32 x.chain, .int .u32 x.long] 42))
          clear hq
          go_wp2_with (first
            | (go_at_call 47; refine (HDa.out.len2).mono ?_; rintro e w5 ⟨rfl, rfl⟩)
            | (go_at_call 46; refine (two_at _ (2 * l.length + F0.length) (by first | omega | (rw [IntKind.wrap_u16]; omega)) (by omega) _).mono ?_; rintro e w6 ⟨rfl, hb6⟩; have HD6 := Lib.hid (HDa.out.below hb6))
            | (go_at_call 45; refine (HD6.out.write (str (Oc.big 2 (2 * l.length + F0.length))) (by rw [big_size]; decide) (by rw [big_size]; have := HBL2.out; omega)).mono ?_; rintro e w7 ⟨rfl, hd7, hb7, hk7⟩))
          have HB7 : Hid (Below p w4 w7) := ((HB.out.alloc (Nat.le_of_lt HPL.out) _).trans (hb6.mono (by have := HPL.out; simp; omega))).trans hb7
          have HR7 := Lib.hid (HR4.out.below HB7.out HGP.out)
          have HE7 := Lib.hid (hk7 _ _ _ (by decide) (by decide) ((hb6.block wr.heap.size (by simp)).trans HEL.out))
          have HD7 := Lib.hid (hd7.below (Below.drew (Below.refl _ _)))
          have HL7 : Hid (wr.heap.size < w7.drew.heap.size) := World.block_lt_of_heap HE7.out
          obtain ⟨z0, z1, z2, z3⟩ := elemHC HE7.out
          have q0 := HR7.out.c0
          have q1 := HR7.out.c1
          have q2 := HR7.out.c2
          have q3 := HR7.out.c3
          clear hb6 hd7 hb7 hk7
          go_region_with (first
            | (go_at_call 48; refine (HCD.out _).mono ?_; rintro e w8 ⟨rfl, hb8⟩; have HE8 := Lib.hid ((hb8.block wr.heap.size HL7.out).trans HE7.out); have HD8 := Lib.hid (HD7.out.below hb8); obtain ⟨z00, z11, z22, z33⟩ := elemHC HE8.out)
            | (go_at_call 49; refine (HBY.out _).mono ?_; rintro e w9 ⟨rfl, hb9⟩; have HD9 := Lib.hid (HD8.out.below hb9))
            | (go_at_call 45; refine (HD9.out.write2 (str ex) (by rw [str_size]; have := HPOS.out; omega) (by rw [str_size]; have h1 := HLE.out; have h2 := HFL2.out; omega)).mono ?_; rintro e w10 ⟨rfl, hd10, hb10, hk10⟩))
          all_goals
            (have HB10 : Hid (Below p w4 w10) := (((HB7.out.drew).trans (hb8.mono (Nat.le_of_lt (Nat.lt_trans HPL.out HL7.out)))).trans (hb9.mono (Nat.le_trans (Nat.le_of_lt (Nat.lt_trans HPL.out HL7.out)) hb8.size))).trans hb10
             rw [strCells_str, strCells_str, byteCells_app, byteCells_app, ← HSB.out, ← HSF.out] at hd10
             have HD10 := Lib.hid hd10
             clear hd10 hb8 hb9 hb10 hk10
             go_wp2
             go_roundg (l.length - (k + 1))
             case measure => omega
             case rel => exact ⟨k + 1, by omega, rfl, by go_num, (by rw [HB1E.out, HF1E.out]; exact HD10), HB10⟩)
        · obtain rfl : k = l.length := by omega
          rw [List.take_length] at HD
          have hbl := Nat.le_of_eq HBL.out.symm
          have hfl := HAT.out l.length
          rw [List.take_length] at hfl
          revert HD hbl hfl HBS
          generalize Sl.begins Sl.shC (2 * l.length) l = B0
          generalize l.flatMap Sl.shC.enc = F0
          intro HBS HD hbl hfl
          have hz1 := str_size B0
          have hz2 := str_size F0
          have hf2 : F0.length ≤ 4072 := by omega
          go_wp2_with (first
            | (go_at_call 50; with_reducible refine (HD.out.string).mono ?_; rintro e w8 ⟨rfl, hu8, hb8⟩; have HU8 := Lib.hid hu8; clear hu8)
            | (go_at_call 50; with_reducible refine (string_last HU8.out).mono ?_; rintro e w9 ⟨rfl, hb9⟩))
          go_ret2
          exact ⟨by rw [← HBS.out]; rfl, ((HW4.out.trans (HB.out.mono (Nat.le_of_lt HGP.out))).trans (hb8.mono (Nat.le_of_lt HGP.out))).trans (hb9.mono (Nat.le_of_lt HGP.out))⟩
  · rw [Sl.bodyR_bad Sl.shC l hr]
    revert HMa hr
    generalize Sl.right Sl.shC l = m
    intro HMa hr
    have hd : (m != 0) = true := by rw [bne_iff_ne]; exact hr
    go_enter Try.func11, Try.ntmps11
    go_wp2_with (first
      | (go_at_call 43; refine (HWh.out _).mono ?_; rintro e w1 ⟨rfl, hb1⟩; have HB1 := Lib.hid (below_step HW0.out hb1); have HR1 := Lib.hid (HB0.out.below hb1 HB0.out.lt); have q0 := HR1.out.c0; have q1 := HR1.out.c1; have q2 := HR1.out.c2; have q3 := HR1.out.c3)
      | (go_at_call 44; refine (HMa.out _ (HVB.out _ HB1.out)).mono ?_; rintro e w2 ⟨rfl, hb2⟩; have HB2 := Lib.hid (below_step HB1.out hb2)))
    go_ret2
    exact ⟨rfl, HB2.out⟩
end Go.Proofs.Ytppoikhonlgcnaa
