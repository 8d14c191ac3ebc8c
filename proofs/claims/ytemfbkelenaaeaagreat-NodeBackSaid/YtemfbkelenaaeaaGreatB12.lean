/- Texts of one seat, merged. -/
import Derived.Test.YtemfbkelenaaeaaGreatB11
import Derived.Test.YtemfbkelenaaeaaGreatB10
import Derived.Test.YtemfbkelenaaeaaGreatB03
import Derived.Deep.RegionWith
import Derived.Deep.LoopGhost
import Derived.Test.YtemfbkelenaaeaaGreatB02
set_option maxRecDepth 100000
set_option maxHeartbeats 4000000
set_option linter.unusedVariables false
/- The contract of Body, at a branch's cells. -/

namespace Go.Proofs.YtemfbkelenaaeaaGreat
open Go.RowKit
open Sl (Cl Kd)

theorem elemHK {w : World} {k : Nat} {y0 y1 : Value} {T : TypeId} (h : w.heap[k]? = some (.cells #[y0, y1] T (0, 0))) : w.cell? ⟨k, 0, none⟩ = some y0 ∧ w.cell? ⟨k, 1, none⟩ = some y1 :=
  ⟨(Lib.cell_of_heap h 0).trans rfl, (Lib.cell_of_heap h 1).trans rfl⟩
set_option maxHeartbeats 4000000 in
set_option maxRecDepth 100000 in
theorem bodyK_any (v : Value) (l : List Kd) (hll : l.length ≤ 100000) (hl : ∀ x ∈ l, okK x) (w : World) (hv : SlK w v l) :
    Calls Tryz.prog 30 #[shpK, v] w fun e w' => e = .returned (.tuple #[.string (str (Sl.bodyR Sl.shK l).1), .int .i64 (Sl.bodyR Sl.shK l).2]) ∧ Below w.heap.size w w' := by
  have HL := Lib.hid hl
  have HB0 := Lib.hid (BxK.new w)
  have HW0 : Hid (Below w.heap.size w (w.alloc (.cells #[.func (.func 68) #[] #[], .func (.func 71) #[] #[], .func (.func 72) #[] #[], .nilFunc] 74))) := (Below.refl _ _).alloc (Nat.le_refl _) _
  have HWh := Lib.hid (fun W => wholeK_any W)
  have HMa := Lib.hid (fun W (hW : SlK W v l) => mayK_any v l hll W hW)
  have HSu := Lib.hid (fun W (hW : SlK W v l) => sumK_any v l hll hl W hW)
  have HV := Lib.hid hv
  have HVB : Hid (∀ W, Below w.heap.size w W → SlK W v l) := fun W hW => hv.below hW
  obtain ⟨a, b, o, c, rfl, ha, hx⟩ := hv
  have HX := Lib.hid hx
  have HA := Lib.hid ha
  clear hl ha hx
  unfold shpK at HWh HMa HSu ⊢
  have hlen : (l.length : Int) ≤ 100000 := by omega
  by_cases hr : Sl.right Sl.shK l = 0
  · by_cases hs : 4072 < Sl.sum Sl.shK l
    · rw [Sl.bodyR_full Sl.shK l hr hs]
      rw [hr] at HMa
      clear hr
      revert HMa HSu hs
      generalize Sl.sum Sl.shK l = m
      intro HMa HSu hs
      have hs' : (4072 : Int) < m := by omega
      go_enter Tryz.func30, Tryz.ntmps30
      go_wp2_with (first
        | (go_at_call 73; refine (HWh.out _).mono ?_; rintro e w1 ⟨rfl, hb1⟩; have HB1 := Lib.hid (below_step HW0.out hb1); have HR1 := Lib.hid (HB0.out.below hb1 HB0.out.lt); have q0 := HR1.out.c0; have q1 := HR1.out.c1; have q2 := HR1.out.c2; have q3 := HR1.out.c3)
        | (go_at_call 74; refine (HMa.out _ (HVB.out _ HB1.out)).mono ?_; rintro e w2 ⟨rfl, hb2⟩; have HB2 := Lib.hid (below_step HB1.out hb2); have HR2 := Lib.hid (HR1.out.below hb2 HR1.out.lt); have q0 := HR2.out.c0; have q1 := HR2.out.c1; have q2 := HR2.out.c2; have q3 := HR2.out.c3)
        | (go_at_call 40; refine (HSu.out _ (HVB.out _ HB2.out)).mono ?_; rintro e w3 ⟨rfl, hb3⟩; have HB3 := Lib.hid (below_step HB2.out hb3)))
      go_ret2
      exact ⟨rfl, HB3.out⟩
    · rw [Sl.bodyR_ok Sl.shK l hr hs]
      rw [hr] at HMa
      have HAT := Lib.hid (fun k => Sl.at_le Sl.shK l k (Nat.le_of_not_lt hs))
      have HBL : Hid (2 * l.length = (Sl.begins Sl.shK (2 * l.length) l).length) := (Sl.begins_len Sl.shK l _).symm
      have HBS : Hid (str (Sl.begins Sl.shK (2 * l.length) l) ++ str (l.flatMap Sl.shK.enc) = str (Sl.body Sl.shK l)) := by show _ = _; rw [str_append]; rfl
      clear hr
      revert HSu hs HBS
      generalize Sl.sum Sl.shK l = m
      generalize Sl.body Sl.shK l = res
      intro HSu hs HBS
      have hs' : ¬ (4072 : Int) < m := by omega
      go_enter Tryz.func30, Tryz.ntmps30
      go_wp2_with (first
        | (go_at_call 73; refine (HWh.out _).mono ?_; rintro e w1 ⟨rfl, hb1⟩; have HB1 := Lib.hid (below_step HW0.out hb1); have HR1 := Lib.hid (HB0.out.below hb1 HB0.out.lt); have q0 := HR1.out.c0; have q1 := HR1.out.c1; have q2 := HR1.out.c2; have q3 := HR1.out.c3)
        | (go_at_call 74; refine (HMa.out _ (HVB.out _ HB1.out)).mono ?_; rintro e w2 ⟨rfl, hb2⟩; have HB2 := Lib.hid (below_step HB1.out hb2); have HR2 := Lib.hid (HR1.out.below hb2 HR1.out.lt); have q0 := HR2.out.c0; have q1 := HR2.out.c1; have q2 := HR2.out.c2; have q3 := HR2.out.c3)
        | (go_at_call 40; refine (HSu.out _ (HVB.out _ HB2.out)).mono ?_; rintro e w3 ⟨rfl, hb3⟩; have HB3 := Lib.hid (below_step HB2.out hb3); have HR3 := Lib.hid (HR2.out.below hb3 HR2.out.lt)))
      clear q0 q1 q2 q3 hb1 hb2 hb3 hs hs'
      have HD4 := Lib.hid (Duo.new w3 w3.heap.size (Nat.le_refl _))
      have HB4 : Hid (Below w3.heap.size w3 ((w3.alloc (.cells #[.pointer none, .slice none 0 0] 112)).alloc (.cells #[.pointer none, .slice none 0 0] 112))) := ((Below.refl _ _).alloc (Nat.le_refl _) _).alloc (by simp) _
      have HR4 := Lib.hid ((HR3.out.alloc (.cells #[.pointer none, .slice none 0 0] 112)).alloc (.cells #[.pointer none, .slice none 0 0] 112))
      have HGP := Lib.hid HR3.out.lt
      revert HD4 HB4 HR4 HGP
      generalize ((w3.alloc (.cells #[.pointer none, .slice none 0 0] 112)).alloc (.cells #[.pointer none, .slice none 0 0] 112)) = w4
      generalize hp : w3.heap.size = p
      have HP := Lib.hid hp
      clear hp
      intro HD4 HB4 HR4 HGP
      have HW4 : Hid (Below w.heap.size w w4) := HB3.out.trans (HB4.out.mono (Nat.le_of_lt HGP.out))
      go_loopg [26] l.length (fun n i wr => ∃ k : Nat, k ≤ l.length ∧ n = l.length - k ∧ i = .int .i64 k ∧ Hid (Duo wr p p (p + 1) (Lib.byteCells (Sl.begins Sl.shK (2 * l.length) (l.take k))) (Lib.byteCells ((l.take k).flatMap Sl.shK.enc))) ∧ Hid (Below p w4 wr))
      case atStart => exact ⟨0, Nat.zero_le _, rfl, rfl, HD4.out, Below.refl _ _⟩
      case round =>
        obtain ⟨k, hk, rfl, rfl, HD, HB⟩ := hrel
        by_cases hlt : k < l.length
        · obtain ⟨x, hx⟩ := take_some l k hlt
          have HXL := Lib.hid (HL.out x (List.mem_of_getElem? hx))
          obtain ⟨e0, e1⟩ := HX.out k x hx
          have hblt : b < w.heap.size := World.block_lt_of_cell? _ _ e0
          have HWr := Lib.hid (HW4.out.trans (HB.out.mono (Nat.le_of_lt HGP.out)))
          have d0 := (HWr.out.cell (p := ⟨b, o + k * 2, none⟩) hblt).trans e0
          have d1 := (HWr.out.cell (p := ⟨b, o + k * 2 + 1, none⟩) hblt).trans e1
          have HR := Lib.hid (HR4.out.below HB.out HGP.out)
          obtain rfl : a = some ⟨b, o, none⟩ := by
            rcases HA.out with h | h
            · rw [h] at hlt; cases hlt
            · exact h
          have HDa := Lib.hid (HD.out.below ((Below.refl _ _).alloc (Nat.le_refl _) (.cells #[.string (str x.key), .int .u32 x.page] 78)))
          have HSB := Lib.hid (Sl.begins_at Sl.shK l k x hx (2 * l.length))
          have HSF := Lib.hid (Sl.flat_at Sl.shK l k x hx)
          have hat := HAT.out k
          have HBY := Lib.hid (fun W => bytesK_ok x HXL.out W)
          have HCD := Lib.hid (fun W => codecK_any W)
          have hpos : 1 ≤ (Sl.shK.enc x).length := Sl.encK_pos x
          have hle : (Sl.shK.enc x).length ≤ 65794 := Nat.le_trans (Sl.encK_len x) (by decide)
          have hbl : (Lib.byteCells (Sl.begins Sl.shK (2 * l.length) (l.take k))).length ≤ 200000 := by rw [byteCells_len, Sl.begins_len, List.length_take]; omega
          have hfl : (Lib.byteCells ((l.take k).flatMap Sl.shK.enc)).length ≤ 4072 := by rw [byteCells_len]; omega
          have HPL : Hid (p < wr.heap.size) := HD.out.lt
          clear e0 e1 hx
          revert HD HDa HSB HSF hat HBY hpos hle hbl hfl
          generalize Sl.begins Sl.shK (2 * l.length) (l.take k) = B0
          generalize hb1e : Sl.begins Sl.shK (2 * l.length) (l.take (k + 1)) = B1
          have HB1E := Lib.hid hb1e
          clear hb1e
          generalize (l.take k).flatMap Sl.shK.enc = F0
          generalize hf1e : (l.take (k + 1)).flatMap Sl.shK.enc = F1
          have HF1E := Lib.hid hf1e
          clear hf1e
          generalize Sl.shK.enc x = ex
          intro HD HDa HSB HSF hat HBY hpos hle hbl hfl
          unfold cdcK at HBY HCD
          unfold shpK at HCD
          unfold aggK at HBY
          have HBL2 := Lib.hid hbl
          have HFL2 := Lib.hid hfl
          have HPOS := Lib.hid hpos
          have HLE := Lib.hid hle
          clear hbl hfl hpos hle
          have hq : ∀ o1 : Obj, (wr.alloc o1).heap[wr.heap.size]? = some o1 := (fun (o1 : Obj) => by show (wr.heap.push o1)[wr.heap.size]? = _; simp)
          have HEL := Lib.hid (hq (.cells #[.string (str x.key), .int .u32 x.page] 78))
          clear hq
          go_wp2_with (first
            | (go_at_call 62; refine (HDa.out.len2).mono ?_; rintro e w5 ⟨rfl, rfl⟩)
            | (go_at_call 61; refine (two_at _ (2 * l.length + F0.length) (by first | omega | (rw [IntKind.wrap_u16]; omega)) (by omega) _).mono ?_; rintro e w6 ⟨rfl, hb6⟩; have HD6 := Lib.hid (HDa.out.below hb6))
            | (go_at_call 60; refine (HD6.out.write (str (Oc.big 2 (2 * l.length + F0.length))) (by rw [big_size]; decide) (by rw [big_size]; have := HBL2.out; omega)).mono ?_; rintro e w7 ⟨rfl, hd7, hb7, hk7⟩))
          have HB7 : Hid (Below p w4 w7) := ((HB.out.alloc (Nat.le_of_lt HPL.out) _).trans (hb6.mono (by have := HPL.out; simp; omega))).trans hb7
          have HR7 := Lib.hid (HR4.out.below HB7.out HGP.out)
          have HE7 := Lib.hid (hk7 _ _ _ (by decide) (by decide) ((hb6.block wr.heap.size (by simp)).trans HEL.out))
          have HD7 := Lib.hid (hd7.below (Below.drew (Below.refl _ _)))
          have HL7 : Hid (wr.heap.size < w7.drew.heap.size) := World.block_lt_of_heap HE7.out
          obtain ⟨z0, z1⟩ := elemHK HE7.out
          have q0 := HR7.out.c0
          have q1 := HR7.out.c1
          have q2 := HR7.out.c2
          have q3 := HR7.out.c3
          clear hb6 hd7 hb7 hk7
          go_region_with (first
            | (go_at_call 75; refine (HCD.out _).mono ?_; rintro e w8 ⟨rfl, hb8⟩; have HE8 := Lib.hid ((hb8.block wr.heap.size HL7.out).trans HE7.out); have HD8 := Lib.hid (HD7.out.below hb8); obtain ⟨z00, z11⟩ := elemHK HE8.out)
            | (go_at_call 76; refine (HBY.out _).mono ?_; rintro e w9 ⟨rfl, hb9⟩; have HD9 := Lib.hid (HD8.out.below hb9))
            | (go_at_call 60; refine (HD9.out.write2 (str ex) (by rw [str_size]; have := HPOS.out; omega) (by rw [str_size]; have h1 := HLE.out; have h2 := HFL2.out; omega)).mono ?_; rintro e w10 ⟨rfl, hd10, hb10, hk10⟩))
          all_goals
            (have HB10 : Hid (Below p w4 w10) := (((HB7.out.drew).trans (hb8.mono (Nat.le_of_lt (Nat.lt_trans HPL.out HL7.out)))).trans (hb9.mono (Nat.le_trans (Nat.le_of_lt (Nat.lt_trans HPL.out HL7.out)) hb8.size))).trans hb10
             rw [strCells_str, strCells_str, byteCells_app, byteCells_app, ← HSB.out, ← HSF.out] at hd10
             have HD10 := Lib.hid hd10
             clear hd10 hb8 hb9 hb10 hk10
             go_wp2
             go_roundg (l.length - (k + 1))
             case measure => omega
             case rel => exact ⟨k + 1, by omega, rfl, by go_num, (by rw [HB1E.out, HF1E.out]; exact HD10), HB10⟩)
        · obtain rfl : k = l.length := by omega
          rw [List.take_length] at HD
          have hbl := Nat.le_of_eq HBL.out.symm
          have hfl := HAT.out l.length
          rw [List.take_length] at hfl
          revert HD hbl hfl HBS
          generalize Sl.begins Sl.shK (2 * l.length) l = B0
          generalize l.flatMap Sl.shK.enc = F0
          intro HBS HD hbl hfl
          have hz1 := str_size B0
          have hz2 := str_size F0
          have hf2 : F0.length ≤ 4072 := by omega
          go_wp2_with (first
            | (go_at_call 65; with_reducible refine (HD.out.string).mono ?_; rintro e w8 ⟨rfl, hu8, hb8⟩; have HU8 := Lib.hid hu8; clear hu8)
            | (go_at_call 65; with_reducible refine (string_last HU8.out).mono ?_; rintro e w9 ⟨rfl, hb9⟩))
          go_ret2
          exact ⟨by rw [← HBS.out]; rfl, ((HW4.out.trans (HB.out.mono (Nat.le_of_lt HGP.out))).trans (hb8.mono (Nat.le_of_lt HGP.out))).trans (hb9.mono (Nat.le_of_lt HGP.out))⟩
  · rw [Sl.bodyR_bad Sl.shK l hr]
    revert HMa hr
    generalize Sl.right Sl.shK l = m
    intro HMa hr
    have hd : (m != 0) = true := by rw [bne_iff_ne]; exact hr
    go_enter Tryz.func30, Tryz.ntmps30
    go_wp2_with (first
      | (go_at_call 73; refine (HWh.out _).mono ?_; rintro e w1 ⟨rfl, hb1⟩; have HB1 := Lib.hid (below_step HW0.out hb1); have HR1 := Lib.hid (HB0.out.below hb1 HB0.out.lt); have q0 := HR1.out.c0; have q1 := HR1.out.c1; have q2 := HR1.out.c2; have q3 := HR1.out.c3)
      | (go_at_call 74; refine (HMa.out _ (HVB.out _ HB1.out)).mono ?_; rintro e w2 ⟨rfl, hb2⟩; have HB2 := Lib.hid (below_step HB1.out hb2)))
    go_ret2
    exact ⟨rfl, HB2.out⟩
end Go.Proofs.YtemfbkelenaaeaaGreat
/- The contracts of leads: has a branch kids, the first one's key empty, and may all their pages be? -/
namespace Go.Proofs.YtemfbkelenaaeaaGreat
open Go.RowKit
open Sl (Cl Kd Nd Rn)
theorem leads1_any (x : Kd) (w : World) :
    Calls Tryz.prog 67 #[aggK x] w fun e w' => e = .returned (.bool (decide ((x.page : Int) < 2))) ∧ Below w.heap.size w w' := by
  unfold aggK
  go_enter Tryz.func67, Tryz.ntmps67
  go_wp2
  go_ret
  exact ⟨rfl, (Below.refl _ _).alloc (Nat.le_refl _) _⟩
inductive IdxOut (l : List Kd) (w : World) (e : Ending) (w' : World) : Prop
  | mk (r : Int) (he : e = .returned (.int .i64 r)) (hr : (0 ≤ r) ↔ (l.any fun k => decide ((k.page : Int) < 2)) = true) (hb : Below w.heap.size w w')
theorem low_snoc (l : List Kd) (k : Nat) (x : Kd) (h : l[k]? = some x) : (l.take (k + 1)).any (fun k => decide ((k.page : Int) < 2)) = ((l.take k).any (fun k => decide ((k.page : Int) < 2)) || decide ((x.page : Int) < 2)) := by
  rw [Sl.take_snoc' l k x h, List.any_append]; simp
theorem idxF_any (v : Value) (l : List Kd) (hll : l.length ≤ 100000) (w : World) (hv : SlK w v l) :
    Calls Tryz.prog 106 #[v, .func (.func 67) #[] #[]] w (IdxOut l w) := by
  obtain ⟨a, b, o, c, rfl, ha, hx⟩ := hv
  have HX := Lib.hid hx
  have HA := Lib.hid ha
  clear ha hx
  go_enter Tryz.func106, Tryz.ntmps106
  go_wp2
  go_loopg [8] l.length (fun n i wr => ∃ k : Nat, k ≤ l.length ∧ n = l.length - k ∧ i = .int .i64 k ∧ Hid ((l.take k).any (fun k => decide ((k.page : Int) < 2)) = false) ∧ Hid (Below w.heap.size w wr))
  case atStart => exact ⟨0, Nat.zero_le _, rfl, rfl, Lib.hid rfl, Lib.hid (Below.refl _ _)⟩
  case round =>
    obtain ⟨k, hk, rfl, rfl, HN, HB⟩ := hrel
    by_cases hlt : k < l.length
    · obtain ⟨x, hx⟩ := take_some l k hlt
      obtain ⟨e0, e1⟩ := HX.out k x hx
      have hblt : b < w.heap.size := World.block_lt_of_cell? _ _ e0
      have d0 := (HB.out.cell (p := ⟨b, o + k * 2, none⟩) hblt).trans e0
      have d1 := (HB.out.cell (p := ⟨b, o + k * 2 + 1, none⟩) hblt).trans e1
      obtain rfl : a = some ⟨b, o, none⟩ := by
        rcases HA.out with h | h
        · rw [h] at hlt; cases hlt
        · exact h
      have HS := Lib.hid (low_snoc l k x hx)
      have HL := Lib.hid (fun W => leads1_any x W)
      have HMEM := Lib.hid (List.mem_of_getElem? hx)
      unfold aggK at HL
      clear e0 e1 hx
      by_cases hp : (x.page : Int) < 2
      · have HD : Hid (decide ((x.page : Int) < 2) = true) := decide_eq_true hp
        rw [HD.out] at HL
        have HANY : Hid ((l.any fun k => decide ((k.page : Int) < 2)) = true) := List.any_eq_true.2 ⟨x, HMEM.out, by simpa using hp⟩
        go_wp2_with (go_at_call 67; refine (HL.out _).mono ?_; rintro e w4 ⟨rfl, hb4⟩; have HB4 := Lib.hid (below_step HB.out hb4); clear hb4)
        go_ret
        exact ⟨_, rfl, ⟨fun _ => HANY.out, fun _ => Int.natCast_nonneg _⟩, HB4.out⟩
      · have HD : Hid (decide ((x.page : Int) < 2) = false) := decide_eq_false hp
        have HN2 : Hid ((l.take (k + 1)).any (fun k => decide ((k.page : Int) < 2)) = false) := by show _ = _; rw [HS.out, HN.out, HD.out]; rfl
        rw [HD.out] at HL
        go_wp2_with (go_at_call 67; refine (HL.out _).mono ?_; rintro e w4 ⟨rfl, hb4⟩; have HB4 := Lib.hid (below_step HB.out hb4); clear hb4)
        go_roundg (l.length - (k + 1))
        case measure => omega
        case rel => exact ⟨k + 1, hlt, rfl, by go_num, HN2, HB4⟩
    · have hkk : k = l.length := by omega
      have HN3 : Hid ((l.any fun k => decide ((k.page : Int) < 2)) = false) := by
        have := HN.out
        rw [hkk, List.take_length] at this
        exact this
      clear hkk
      go_wp2
      go_ret
      exact ⟨_, rfl, ⟨fun h => absurd h (by decide), fun h => by rw [HN3.out] at h; cases h⟩, HB.out⟩
theorem contF_any (v : Value) (l : List Kd) (hll : l.length ≤ 100000) (w : World) (hv : SlK w v l) :
    Calls Tryz.prog 66 #[v, .func (.func 67) #[] #[]] w fun e w' => e = .returned (.bool (l.any fun k => decide ((k.page : Int) < 2))) ∧ Below w.heap.size w w' := by
  have HI := Lib.hid (idxF_any v l hll w hv)
  obtain ⟨a, b, o, c, rfl, ha, hx⟩ := hv
  clear ha hx
  go_enter Tryz.func66, Tryz.ntmps66
  go_wp2_with (go_at_call 106; refine HI.out.mono ?_; rintro e w1 ⟨r, rfl, hr, hb1⟩; have HR := Lib.hid hr; have HB1 := Lib.hid hb1; clear hr hb1)
  go_ret
  refine ⟨?_, HB1.out⟩
  congr 2
  by_cases h : 0 ≤ r
  · rw [HR.out.1 h]; simpa using h
  · have h2 : (l.any fun k => decide ((k.page : Int) < 2)) = false := by
      cases h3 : (l.any fun k => decide ((k.page : Int) < 2))
      · rfl
      · exact absurd (HR.out.2 h3) h
    rw [h2]; simpa using h
theorem all_any (l : List Kd) : (l.all fun k => decide (2 ≤ k.page)) = !(l.any fun k => decide ((k.page : Int) < 2)) := by
  induction l with
  | nil => rfl
  | cons x t ih =>
    rw [List.all_cons, List.any_cons, ih, Bool.not_or]
    congr 1
    by_cases h : 2 ≤ x.page
    · rw [decide_eq_true h, decide_eq_false (by omega)]; rfl
    · rw [decide_eq_false h, decide_eq_true (by omega)]; rfl
theorem leads_any (v : Value) (n : Nd) (w : World) (hv : NdV w v n) (h2 : n.ks.length ≤ 100000) :
    Calls Tryz.prog 28 #[v] w fun e w' => e = .returned (.bool (Sl.leadsB n.ks)) ∧ Below w.heap.size w w' := by
  obtain ⟨vc, vk, rfl, hc, hcc, hk, hkk⟩ := hv
  have HC := Lib.hid (fun W (hW : Below w.heap.size w W) => contF_any vk n.ks h2 W (hk.below hW))
  unfold ndV
  obtain ⟨a, m, c, _, _, _⟩ := hcc
  clear hkk
  generalize n.leaf = lf
  revert HC
  obtain ⟨a', b', o', c', rfl, ha, hx⟩ := hk
  have HB : Hid (∀ o1, Below w.heap.size w (w.alloc o1)) := fun o1 => (Below.refl _ _).alloc (Nat.le_refl _) _
  clear hc
  generalize n.ks = ks at *
  intro HC
  cases ks with
  | nil =>
    clear HC ha hx
    go_enter Tryz.func28, Tryz.ntmps28
    go_wp2
    go_ret
    exact ⟨rfl, HB.out _⟩
  | cons x t =>
    obtain rfl : a' = some ⟨b', o', none⟩ := by
      rcases ha with h | h
      · cases h
      · exact h
    obtain ⟨e0, e1⟩ := hx 0 x rfl
    rw [Nat.zero_mul, Nat.add_zero] at e0 e1
    have hblt : b' < w.heap.size := World.block_lt_of_cell? _ _ e0
    have d0 := fun o1 => ((HB.out o1).cell (p := ⟨b', o', none⟩) hblt).trans e0
    have hlen : (0 : Int) < ((x :: t).length : Int) := by simp
    clear ha hx e0 e1
    by_cases hkey : x.key = []
    · have HV : Hid (Sl.leadsB (x :: t) = !((x :: t).any fun k => decide ((k.page : Int) < 2))) := by
        show (decide (x.key = []) && _) = _
        rw [decide_eq_true hkey, all_any]; rfl
      rw [HV.out]
      rw [hkey] at d0
      rw [show str [] = ⟨#[]⟩ from rfl] at d0
      clear hkey
      go_enter Tryz.func28, Tryz.ntmps28
      go_wp2_with (go_at_call 66; refine (HC.out _ (HB.out _)).mono ?_; rintro e w1 ⟨rfl, hb1⟩; have HB1 := Lib.hid (below_step (HB.out _) hb1); clear hb1)
      go_ret
      exact ⟨by rw [List.any_cons, Bool.not_or]; rfl, HB1.out⟩
    · have HV : Hid (Sl.leadsB (x :: t) = false) := by
        show (decide (x.key = []) && _) = _
        rw [decide_eq_false hkey]; rfl
      rw [HV.out]
      have hk1 : ¬ ((str x.key).toList = []) := by rw [Lib.toList_data]; exact hkey
      have hk2 : (str x.key).toList.isEmpty = false := by rw [Lib.toList_data]; show (x.key).isEmpty = false; cases h : x.key; exact absurd h hkey; rfl
      have hk3 : ((str x.key).toList == []) = false := by rw [beq_eq_false_iff_ne]; exact hk1
      clear hkey
      go_enter Tryz.func28, Tryz.ntmps28
      go_wp2
      go_ret
      exact ⟨rfl, HB.out _⟩
end Go.Proofs.YtemfbkelenaaeaaGreat
/- The contract of a node's Frame, at one sort. -/
namespace Go.Proofs.YtemfbkelenaaeaaGreat
open Go.RowKit
open Sl (Cl Kd Nd Rn)
set_option maxHeartbeats 4000000 in
theorem nFrameK_ok (v : Value) (n : Nd) (id tx : Int) (w : World) (hv : NdV w v n) (hlf : n.leaf = false) (hl : n.ks.length ≤ 60000) (hok : ∀ x ∈ n.ks, okK x) (hld : Sl.leadsB n.ks = true) :
    Calls Tryz.prog 9 #[v, .int .u32 id, .int .u64 tx] w (FrOut10 n id tx w) := by
  have HE : Hid (Sl.frE n = (Sl.bodyR Sl.shK n.ks).2) := by show _ = _; unfold Sl.frE; rw [hlf, hld]; rfl
  have HR : Hid (frR n id tx = if Sl.frE n = 0 then frV 3 (n.ks.length : Nat) id tx (Sl.bodyR Sl.shK n.ks).1 else frV 0 0 0 0 []) := by
    show _ = _
    unfold frR Sl.frK Sl.frL Sl.frS
    rw [hlf]; rfl
  have HLD := Lib.hid (fun W (hW : Below w.heap.size w W) => leads_any v n W (hv.below hW) (by omega))
  rw [hld] at HLD
  obtain ⟨vc, vk, rfl, hc, hcc, hk, hkk⟩ := hv
  have HLV := Lib.hid (fun W => kids_any W)
  have HS := Lib.hid (fun W (hW : Below w.heap.size w W) => bodyK_any vk n.ks (by omega) hok W (hk.below hW))
  rw [hlf] at HLD
  unfold ndV at HLD
  rw [hlf]
  unfold ndV
  unfold shpK at HLV HS
  have hlen : ∀ a m c, vk = .slice a m c → m = n.ks.length := by obtain ⟨_, _, _, _, h, _⟩ := hk; intro a m c h2; rw [h] at h2; injection h2 with _ h3; exact h3.symm
  obtain ⟨a, m, c, _, _, _⟩ := hcc
  obtain ⟨a', m', c', _, _, _⟩ := hkk
  obtain rfl : m' = n.ks.length := hlen _ _ _ rfl
  have hw16 : IntKind.u16.wrap (n.ks.length : Int) = (n.ks.length : Int) := by rw [IntKind.wrap_u16]; omega
  have HFB := Lib.hid (fun a b c d s r hr W => frame_bad a b c d s r hr W)
  have HFO := Lib.hid (fun a b c d s W => frame_ok a b c d s W)
  clear hc hk hok hlen
  revert HS HE HR
  generalize (Sl.bodyR Sl.shK n.ks).1 = s
  generalize (Sl.bodyR Sl.shK n.ks).2 = r
  intro HE HR HS
  have HST : Hid (∀ x1 x2, ((w.alloc (.cells #[.bool false, x1, x2] 32)).alloc (.cells #[.int .u8 0, .int .u16 0, .int .u32 0, .int .u64 0, .string ⟨#[]⟩] 27)).cell? ⟨w.heap.size, 0, none⟩ = some (.bool false) ∧ ((w.alloc (.cells #[.bool false, x1, x2] 32)).alloc (.cells #[.int .u8 0, .int .u16 0, .int .u32 0, .int .u64 0, .string ⟨#[]⟩] 27)).cell? ⟨w.heap.size, 1, none⟩ = some x1 ∧ ((w.alloc (.cells #[.bool false, x1, x2] 32)).alloc (.cells #[.int .u8 0, .int .u16 0, .int .u32 0, .int .u64 0, .string ⟨#[]⟩] 27)).cell? ⟨w.heap.size, 2, none⟩ = some x2 ∧ Kp w.heap.size w (row1 (w.heap.size + 1) zf) ((w.alloc (.cells #[.bool false, x1, x2] 32)).alloc (.cells #[.int .u8 0, .int .u16 0, .int .u32 0, .int .u64 0, .string ⟨#[]⟩] 27))) :=
    fun x1 x2 => ⟨box0 w _ _ _ _ 0, box0 w _ _ _ _ 1, box0 w _ _ _ _ 2, ⟨(startK w _ _ _ _).cell, (startK w _ _ _ _).froz, boxB w _ _⟩⟩
  by_cases hr0 : r = 0
  all_goals
    try subst hr0
    go_enter Tryz.func9, Tryz.ntmps9
    go_wp2_with (go_at_call 28; refine (HLD.out _ (lastK3 (HST.out _ _))).mono ?_; rintro e w0 ⟨rfl, hb0⟩; have HS0 := Lib.hid (stepK3 (Nat.le_refl _) (HST.out _ _) hb0); clear hb0; have k0 := HS0.out.1; have k1 := HS0.out.2.1; have k2 := HS0.out.2.2.1)
    have HSD : Hid (w0.drew.cell? ⟨w.heap.size, 0, none⟩ = some (.bool false) ∧ w0.drew.cell? ⟨w.heap.size, 1, none⟩ = some (.slice a m c) ∧ w0.drew.cell? ⟨w.heap.size, 2, none⟩ = some (.slice a' n.ks.length c') ∧ Kp w.heap.size w (row1 (w.heap.size + 1) zf) w0.drew) := ⟨HS0.out.1, HS0.out.2.1, HS0.out.2.2.1, HS0.out.2.2.2.drew⟩
    clear k0 k1 k2 HS0
    go_region_held3 (fun w' => w'.cell? ⟨w.heap.size, 0, none⟩ = some (.bool false) ∧ w'.cell? ⟨w.heap.size, 1, none⟩ = some (.slice a m c) ∧ w'.cell? ⟨w.heap.size, 2, none⟩ = some (.slice a' n.ks.length c') ∧ Kp w.heap.size w (row1 (w.heap.size + 1) zf) w')
      ((first | assumption | exact stepK3 (Nat.le_refl _) ‹_› hb | exact HSD.out))
      (first
      | (go_at_call 29; refine (HLV.out _).mono ?_; rintro e w1 ⟨rfl, hb⟩)
      | (go_at_call 30; refine (HS.out _ (lastK3 (by assumption))).mono ?_; rintro e w2 ⟨rfl, hb⟩))
    rename_i hS
    have HS2 := Lib.hid hS
    clear hS
    have k0 := HS2.out.1
    have k1 := HS2.out.2.1
    have k2 := HS2.out.2.2.1
    first
    | go_wp2_with (go_at_call 27; with_reducible refine (HFO.out _ _ _ _ _ _).mono ?_; rintro e w3 ⟨rfl, hb3⟩; have HS3 := Lib.hid (stepK3 (Nat.le_refl _) HS2.out hb3); clear k0 k1 k2 hb3; obtain ⟨⟨z0, z1, z2, z3, z4⟩, f0, f1, f2, f3, f4⟩ := HS3.out.2.2.2.zf)
      refine bodyPost_ret_by (v := .tuple #[frV 3 (n.ks.length : Nat) id tx s, .int .i64 0]) ?_ rfl ?_
      · simp [frV, results, Tryz.results9, go_sem, z0, z1, z2, z3, z4]
      · exact ⟨by rw [HR.out, HE.out, if_pos rfl], below_set5 HS3.out.2.2.2.below (Nat.le_succ _)⟩
    | go_wp2_with (go_at_call 27; with_reducible refine (HFB.out _ _ _ _ _ _ hr0 _).mono ?_; rintro e w3 ⟨rfl, hb3⟩; have HS3 := Lib.hid (stepK3 (Nat.le_refl _) HS2.out hb3); clear k0 k1 k2 hb3; obtain ⟨⟨z0, z1, z2, z3, z4⟩, f0, f1, f2, f3, f4⟩ := HS3.out.2.2.2.zf)
      refine bodyPost_ret_by (v := .tuple #[frV 0 0 0 0 [], .int .i64 r]) ?_ rfl ?_
      · simp [frV, str, results, Tryz.results9, go_sem, z0, z1, z2, z3, z4]
      · exact ⟨by rw [HR.out, HE.out, if_neg hr0], below_set5 HS3.out.2.2.2.below (Nat.le_succ _)⟩
end Go.Proofs.YtemfbkelenaaeaaGreat
/- The contracts of a node's Size, at one sort. -/
namespace Go.Proofs.YtemfbkelenaaeaaGreat
open Go.RowKit
open Sl (Cl Kd Nd Rn)
theorem nSizeC_any (v : Value) (n : Nd) (w : World) (hv : NdV w v n) (hlf : n.leaf = true) (hl : n.cs.length ≤ 100000) (hok : ∀ x ∈ n.cs, okC x) :
    Calls Tryz.prog 14 #[v] w fun e w' => e = .returned (.int .i64 (Sl.sum Sl.shC n.cs : Nat)) ∧ Below w.heap.size w w' := by
  obtain ⟨vc, vk, rfl, hc, hcc, hk, hkk⟩ := hv
  have HLV := Lib.hid (fun W => leaves_any W)
  have HS := Lib.hid (fun W (hW : Below w.heap.size w W) => sumC_any vc n.cs hl hok W (hc.below hW))
  rw [hlf]
  unfold ndV
  unfold shpC at HLV HS
  obtain ⟨a, m, c, _, _, _⟩ := hcc
  obtain ⟨a', m', c', _, _, _⟩ := hkk
  clear hc hk hl hok
  revert HS
  generalize n.cs = l
  generalize Sl.sum Sl.shC l = z
  intro HS
  have HST : Hid ((w.alloc (.cells #[.bool true, .slice a m c, .slice a' m' c'] 32)).drew.cell? ⟨w.heap.size, 0, none⟩ = some (.bool true) ∧ (w.alloc (.cells #[.bool true, .slice a m c, .slice a' m' c'] 32)).drew.cell? ⟨w.heap.size, 1, none⟩ = some (.slice a m c) ∧ (w.alloc (.cells #[.bool true, .slice a m c, .slice a' m' c'] 32)).drew.cell? ⟨w.heap.size, 2, none⟩ = some (.slice a' m' c') ∧ Kp w.heap.size w [] (w.alloc (.cells #[.bool true, .slice a m c, .slice a' m' c'] 32)).drew) :=
    ⟨World.cell?_alloc_new w _ _ 0, World.cell?_alloc_new w _ _ 1, World.cell?_alloc_new w _ _ 2, ⟨(fun p hp => absurd hp (List.not_mem_nil)), (fun p hp => absurd hp (List.not_mem_nil)), ((Below.refl _ _).alloc (Nat.le_refl _) _).drew⟩⟩
  go_enter Tryz.func14, Tryz.ntmps14
  go_wp2_with fail
  go_region_held3 (fun w' => w'.cell? ⟨w.heap.size, 0, none⟩ = some (.bool true) ∧ w'.cell? ⟨w.heap.size, 1, none⟩ = some (.slice a m c) ∧ w'.cell? ⟨w.heap.size, 2, none⟩ = some (.slice a' m' c') ∧ Kp w.heap.size w [] w')
    ((first | assumption | exact stepK3 (Nat.le_refl _) ‹_› hb | exact HST.out))
    (first
    | (go_at_call 25; refine (HLV.out _).mono ?_; rintro e w1 ⟨rfl, hb⟩)
    | (go_at_call 39; refine (HS.out _ (lastK3 (by assumption))).mono ?_; rintro e w2 ⟨rfl, hb⟩))
  rename_i hS
  have HB := Lib.hid (lastK3 hS)
  clear hS
  go_wp2
  go_ret
  exact ⟨rfl, HB.out⟩
end Go.Proofs.YtemfbkelenaaeaaGreat
/- The contracts of a node's Size, at one sort. -/
namespace Go.Proofs.YtemfbkelenaaeaaGreat
open Go.RowKit
open Sl (Cl Kd Nd Rn)
theorem nSizeK_any (v : Value) (n : Nd) (w : World) (hv : NdV w v n) (hlf : n.leaf = false) (hl : n.ks.length ≤ 100000) (hok : ∀ x ∈ n.ks, okK x) :
    Calls Tryz.prog 14 #[v] w fun e w' => e = .returned (.int .i64 (Sl.sum Sl.shK n.ks : Nat)) ∧ Below w.heap.size w w' := by
  obtain ⟨vc, vk, rfl, hc, hcc, hk, hkk⟩ := hv
  have HLV := Lib.hid (fun W => kids_any W)
  have HS := Lib.hid (fun W (hW : Below w.heap.size w W) => sumK_any vk n.ks hl hok W (hk.below hW))
  rw [hlf]
  unfold ndV
  unfold shpK at HLV HS
  obtain ⟨a, m, c, _, _, _⟩ := hcc
  obtain ⟨a', m', c', _, _, _⟩ := hkk
  clear hc hk hl hok
  revert HS
  generalize n.ks = l
  generalize Sl.sum Sl.shK l = z
  intro HS
  have HST : Hid ((w.alloc (.cells #[.bool false, .slice a m c, .slice a' m' c'] 32)).drew.cell? ⟨w.heap.size, 0, none⟩ = some (.bool false) ∧ (w.alloc (.cells #[.bool false, .slice a m c, .slice a' m' c'] 32)).drew.cell? ⟨w.heap.size, 1, none⟩ = some (.slice a m c) ∧ (w.alloc (.cells #[.bool false, .slice a m c, .slice a' m' c'] 32)).drew.cell? ⟨w.heap.size, 2, none⟩ = some (.slice a' m' c') ∧ Kp w.heap.size w [] (w.alloc (.cells #[.bool false, .slice a m c, .slice a' m' c'] 32)).drew) :=
    ⟨World.cell?_alloc_new w _ _ 0, World.cell?_alloc_new w _ _ 1, World.cell?_alloc_new w _ _ 2, ⟨(fun p hp => absurd hp (List.not_mem_nil)), (fun p hp => absurd hp (List.not_mem_nil)), ((Below.refl _ _).alloc (Nat.le_refl _) _).drew⟩⟩
  go_enter Tryz.func14, Tryz.ntmps14
  go_wp2_with fail
  go_region_held3 (fun w' => w'.cell? ⟨w.heap.size, 0, none⟩ = some (.bool false) ∧ w'.cell? ⟨w.heap.size, 1, none⟩ = some (.slice a m c) ∧ w'.cell? ⟨w.heap.size, 2, none⟩ = some (.slice a' m' c') ∧ Kp w.heap.size w [] w')
    ((first | assumption | exact stepK3 (Nat.le_refl _) ‹_› hb | exact HST.out))
    (first
    | (go_at_call 29; refine (HLV.out _).mono ?_; rintro e w1 ⟨rfl, hb⟩)
    | (go_at_call 40; refine (HS.out _ (lastK3 (by assumption))).mono ?_; rintro e w2 ⟨rfl, hb⟩))
  rename_i hS
  have HB := Lib.hid (lastK3 hS)
  clear hS
  go_wp2
  go_ret
  exact ⟨rfl, HB.out⟩
end Go.Proofs.YtemfbkelenaaeaaGreat
/- The contracts of a node's Size, Fits and Thin, and of the document's own Size. -/
namespace Go.Proofs.YtemfbkelenaaeaaGreat.Sl
def ndSum (n : Nd) : Nat := if n.leaf then sum shC n.cs else sum shK n.ks
end Go.Proofs.YtemfbkelenaaeaaGreat.Sl
namespace Go.Proofs.YtemfbkelenaaeaaGreat
open Go.RowKit
open Sl (Cl Kd Nd Rn)
structure NdOk (n : Nd) : Prop where
  lc : n.cs.length ≤ 100000
  lk : n.ks.length ≤ 100000
  oc : ∀ x ∈ n.cs, okC x
  ok : ∀ x ∈ n.ks, okK x
theorem nSize_any (v : Value) (n : Nd) (w : World) (hv : NdV w v n) (ho : NdOk n) :
    Calls Tryz.prog 14 #[v] w fun e w' => e = .returned (.int .i64 (Sl.ndSum n : Nat)) ∧ Below w.heap.size w w' := by
  cases h : n.leaf with
  | true => rw [show Sl.ndSum n = Sl.sum Sl.shC n.cs by unfold Sl.ndSum; rw [if_pos h]]; exact nSizeC_any v n w hv h ho.lc ho.oc
  | false => rw [show Sl.ndSum n = Sl.sum Sl.shK n.ks by unfold Sl.ndSum; rw [h]; rfl]; exact nSizeK_any v n w hv h ho.lk ho.ok
theorem nFits_any (v : Value) (n : Nd) (w : World) (hv : NdV w v n) (ho : NdOk n) :
    Calls Tryz.prog 16 #[v] w fun e w' => e = .returned (.bool (decide ((Sl.ndSum n : Int) ≤ 4072))) ∧ Below w.heap.size w w' := by
  have HS := Lib.hid (fun W (hW : Below w.heap.size w W) => nSize_any v n W (hv.below hW) ho)
  obtain ⟨vc, vk, rfl, hc, hcc, hk, hkk⟩ := hv
  unfold ndV at HS ⊢
  obtain ⟨a, m, c, _, _, _⟩ := hcc
  obtain ⟨a', m', c', _, _, _⟩ := hkk
  have HB : Hid (∀ o1, Below w.heap.size w (w.alloc o1)) := fun o1 => (Below.refl _ _).alloc (Nat.le_refl _) _
  clear hc hk ho
  revert HS
  generalize Sl.ndSum n = z
  generalize n.leaf = lf
  intro HS
  go_enter Tryz.func16, Tryz.ntmps16
  go_wp2_with (go_at_call 14; refine (HS.out _ (HB.out _)).mono ?_; rintro e w1 ⟨rfl, hb1⟩; have HB1 := Lib.hid (below_step (HB.out _) hb1); clear hb1)
  go_ret
  exact ⟨rfl, HB1.out⟩
theorem nThin_any (v : Value) (n : Nd) (w : World) (hv : NdV w v n) (ho : NdOk n) :
    Calls Tryz.prog 17 #[v] w fun e w' => e = .returned (.bool (decide ((Sl.ndSum n : Int) < 1018))) ∧ Below w.heap.size w w' := by
  have HS := Lib.hid (fun W (hW : Below w.heap.size w W) => nSize_any v n W (hv.below hW) ho)
  obtain ⟨vc, vk, rfl, hc, hcc, hk, hkk⟩ := hv
  unfold ndV at HS ⊢
  obtain ⟨a, m, c, _, _, _⟩ := hcc
  obtain ⟨a', m', c', _, _, _⟩ := hkk
  have HB : Hid (∀ o1, Below w.heap.size w (w.alloc o1)) := fun o1 => (Below.refl _ _).alloc (Nat.le_refl _) _
  clear hc hk ho
  revert HS
  generalize Sl.ndSum n = z
  generalize n.leaf = lf
  intro HS
  go_enter Tryz.func17, Tryz.ntmps17
  go_wp2_with (go_at_call 14; refine (HS.out _ (HB.out _)).mono ?_; rintro e w1 ⟨rfl, hb1⟩; have HB1 := Lib.hid (below_step (HB.out _) hb1); clear hb1)
  go_ret
  exact ⟨rfl, HB1.out⟩
/-- Of the document's node, that of one of the program's. -/
theorem rSize_any (v : Value) (n : Nd) (w : World) (hv : RnV w v (Sl.toR n)) (hl : (Sl.toR n).l.length ≤ 100000) (hok : ∀ x ∈ (Sl.toR n).l, okC x ∧ x.val.length ≤ 60000) :
    Calls Tryz.prog 15 #[v] w fun e w' => e = .returned (.int .i64 (Sl.ndSum n : Nat)) ∧ Below w.heap.size w w' := by
  obtain ⟨vc, rfl, hc, hcc⟩ := hv
  have HS := Lib.hid (fun W (hW : Below w.heap.size w W) => refSum_any n.leaf vc (Sl.toR n).l hl hok W (hc.below hW))
  have hz : Sl.sum (Sl.shR n.leaf) (Sl.toR n).l = Sl.ndSum n := by
    obtain ⟨lf, cs, ks⟩ := n
    cases lf
    · exact Sl.bare_sum ks
    · rfl
  rw [hz] at HS
  clear hz hl hok hc
  unfold rnV
  rw [show (Sl.toR n).leaf = n.leaf from rfl]
  obtain ⟨a, m, c, _, _, _⟩ := hcc
  have HB : Hid (∀ o1, Below w.heap.size w (w.alloc o1)) := fun o1 => (Below.refl _ _).alloc (Nat.le_refl _) _
  revert HS
  generalize Sl.ndSum n = z
  generalize n.leaf = lf
  intro HS
  go_enter Tryz.func15, Tryz.ntmps15
  go_wp2_with (go_at_call 41; refine (HS.out _ (HB.out _)).mono ?_; rintro e w1 ⟨rfl, hb1⟩; have HB1 := Lib.hid (below_step (HB.out _) hb1); clear hb1)
  go_ret
  exact ⟨rfl, HB1.out⟩
end Go.Proofs.YtemfbkelenaaeaaGreat
/- The contract of a node's Frame. -/
namespace Go.Proofs.YtemfbkelenaaeaaGreat
open Go.RowKit
open Sl (Cl Kd Nd Rn)
theorem nFrame_no (v : Value) (n : Nd) (id tx : Int) (w : World) (hv : NdV w v n) (hlf : n.leaf = false) (hl : n.ks.length ≤ 60000) (hld : Sl.leadsB n.ks = false) :
    Calls Tryz.prog 9 #[v, .int .u32 id, .int .u64 tx] w (FrOut10 n id tx w) := by
  have HR : Hid (Ending.returned (.tuple #[frV 0 0 0 0 [], .int .i64 4]) = .returned (.tuple #[frR n id tx, .int .i64 (Sl.frE n)])) := by
    show _ = _
    have he : Sl.frE n = 4 := by unfold Sl.frE; rw [hlf, hld]; rfl
    unfold frR
    rw [he]; rfl
  have HLD := Lib.hid (fun W (hW : Below w.heap.size w W) => leads_any v n W (hv.below hW) (by omega))
  rw [hld] at HLD
  obtain ⟨vc, vk, rfl, hc, hcc, hk, hkk⟩ := hv
  rw [hlf] at HLD ⊢
  unfold ndV at HLD ⊢
  obtain ⟨a, m, c, _, _, _⟩ := hcc
  obtain ⟨a', m', c', _, _, _⟩ := hkk
  clear hc hk
  have HST : Hid (∀ x1 x2, ((w.alloc (.cells #[.bool false, x1, x2] 32)).alloc (.cells #[.int .u8 0, .int .u16 0, .int .u32 0, .int .u64 0, .string ⟨#[]⟩] 27)).cell? ⟨w.heap.size, 0, none⟩ = some (.bool false) ∧ ((w.alloc (.cells #[.bool false, x1, x2] 32)).alloc (.cells #[.int .u8 0, .int .u16 0, .int .u32 0, .int .u64 0, .string ⟨#[]⟩] 27)).cell? ⟨w.heap.size, 1, none⟩ = some x1 ∧ ((w.alloc (.cells #[.bool false, x1, x2] 32)).alloc (.cells #[.int .u8 0, .int .u16 0, .int .u32 0, .int .u64 0, .string ⟨#[]⟩] 27)).cell? ⟨w.heap.size, 2, none⟩ = some x2 ∧ Kp w.heap.size w (row1 (w.heap.size + 1) zf) ((w.alloc (.cells #[.bool false, x1, x2] 32)).alloc (.cells #[.int .u8 0, .int .u16 0, .int .u32 0, .int .u64 0, .string ⟨#[]⟩] 27))) :=
    fun x1 x2 => ⟨box0 w _ _ _ _ 0, box0 w _ _ _ _ 1, box0 w _ _ _ _ 2, ⟨(startK w _ _ _ _).cell, (startK w _ _ _ _).froz, boxB w _ _⟩⟩
  go_enter Tryz.func9, Tryz.ntmps9
  go_wp2_with (go_at_call 28; refine (HLD.out _ (lastK3 (HST.out _ _))).mono ?_; rintro e w0 ⟨rfl, hb0⟩; have HS0 := Lib.hid (stepK3 (Nat.le_refl _) (HST.out _ _) hb0); clear hb0; obtain ⟨⟨z0, z1, z2, z3, z4⟩, f0, f1, f2, f3, f4⟩ := HS0.out.2.2.2.zf)
  refine bodyPost_ret_by (v := .tuple #[frV 0 0 0 0 [], .int .i64 4]) ?_ rfl ?_
  · simp [frV, str, results, Tryz.results9, go_sem, z0, z1, z2, z3, z4]
  · exact ⟨HR.out, below_set5 HS0.out.2.2.2.below (Nat.le_succ _)⟩
theorem nFrame_any (v : Value) (n : Nd) (id tx : Int) (w : World) (hv : NdV w v n) (h1 : n.cs.length ≤ 60000) (h2 : n.ks.length ≤ 60000) (hc : ∀ x ∈ n.cs, okC x) (hk : ∀ x ∈ n.ks, okK x) :
    Calls Tryz.prog 9 #[v, .int .u32 id, .int .u64 tx] w (FrOut10 n id tx w) := by
  cases hlf : n.leaf with
  | true => exact nFrameC_ok v n id tx w hv hlf h1 hc
  | false =>
    cases hld : Sl.leadsB n.ks with
    | true => exact nFrameK_ok v n id tx w hv hlf h2 hk hld
    | false => exact nFrame_no v n id tx w hv hlf h2 hld
end Go.Proofs.YtemfbkelenaaeaaGreat
/- A row of cells stays as it was while a box of a node's is written. -/
namespace Go.Proofs.YtemfbkelenaaeaaGreat
open Go.RowKit
open Sl (Cl Kd Nd Rn)
def plainV : Value → Bool
  | .bool _ => true
  | .slice _ _ _ => true
  | _ => false
theorem cell_box3 {w : World} {g : Nat} {u0 u1 u2 : Value} (h0 : w.cell? ⟨g, 0, none⟩ = some u0) (h1 : w.cell? ⟨g, 1, none⟩ = some u1) (h2 : w.cell? ⟨g, 2, none⟩ = some u2) (p0 : plainV u0 = true) (p1 : plainV u1 = true) (p2 : plainV u2 = true) (x0 x1 x2 : Value) {b o : Nat} {y : Value} (hy : w.cell? ⟨b, o, none⟩ = some y) (py : plainV y = false) :
    (((w.setCell ⟨g, 0, none⟩ x0).setCell ⟨g, 1, none⟩ x1).setCell ⟨g, 2, none⟩ x2).cell? ⟨b, o, none⟩ = some y := by
  have n0 : (⟨b, o, none⟩ : Addr) ≠ ⟨g, 0, none⟩ := fun h => by rw [h, h0] at hy; injection hy with hy; rw [hy, py] at p0; cases p0
  have n1 : (⟨b, o, none⟩ : Addr) ≠ ⟨g, 1, none⟩ := fun h => by rw [h, h1] at hy; injection hy with hy; rw [hy, py] at p1; cases p1
  have n2 : (⟨b, o, none⟩ : Addr) ≠ ⟨g, 2, none⟩ := fun h => by rw [h, h2] at hy; injection hy with hy; rw [hy, py] at p2; cases p2
  rw [World.cell?_setCell_other _ _ _ _ (Ne.symm n2), World.cell?_setCell_other _ _ _ _ (Ne.symm n1), World.cell?_setCell_other _ _ _ _ (Ne.symm n0), hy]
theorem cell_box2 {w : World} {g : Nat} {u0 u1 : Value} (h0 : w.cell? ⟨g, 0, none⟩ = some u0) (h1 : w.cell? ⟨g, 1, none⟩ = some u1) (p0 : plainV u0 = true) (p1 : plainV u1 = true) (x0 x1 : Value) {b o : Nat} {y : Value} (hy : w.cell? ⟨b, o, none⟩ = some y) (py : plainV y = false) :
    ((w.setCell ⟨g, 0, none⟩ x0).setCell ⟨g, 1, none⟩ x1).cell? ⟨b, o, none⟩ = some y := by
  have n0 : (⟨b, o, none⟩ : Addr) ≠ ⟨g, 0, none⟩ := fun h => by rw [h, h0] at hy; injection hy with hy; rw [hy, py] at p0; cases p0
  have n1 : (⟨b, o, none⟩ : Addr) ≠ ⟨g, 1, none⟩ := fun h => by rw [h, h1] at hy; injection hy with hy; rw [hy, py] at p1; cases p1
  rw [World.cell?_setCell_other _ _ _ _ (Ne.symm n1), World.cell?_setCell_other _ _ _ _ (Ne.symm n0), hy]
theorem cell_set1 {w : World} {p : Addr} {u : Value} (h0 : w.cell? p = some u) (p0 : plainV u = true) (x : Value) {b o : Nat} {y : Value} (hy : w.cell? ⟨b, o, none⟩ = some y) (py : plainV y = false) :
    (w.setCell p x).cell? ⟨b, o, none⟩ = some y := by
  have n0 : (⟨b, o, none⟩ : Addr) ≠ p := fun h => by rw [h, h0] at hy; injection hy with hy; rw [hy, py] at p0; cases p0
  rw [World.cell?_setCell_other _ _ _ _ (Ne.symm n0), hy]
theorem SlC.box3 {w : World} {g : Nat} {u0 u1 u2 : Value} {v : Value} {l : List Cl} (h : SlC w v l) (h0 : w.cell? ⟨g, 0, none⟩ = some u0) (h1 : w.cell? ⟨g, 1, none⟩ = some u1) (h2 : w.cell? ⟨g, 2, none⟩ = some u2) (p0 : plainV u0 = true := by rfl) (p1 : plainV u1 = true := by rfl) (p2 : plainV u2 = true := by rfl) (x0 x1 x2 : Value) :
    SlC (((w.setCell ⟨g, 0, none⟩ x0).setCell ⟨g, 1, none⟩ x1).setCell ⟨g, 2, none⟩ x2) v l := by
  obtain ⟨a, b, o, c, hv, ha, hx⟩ := h
  refine ⟨a, b, o, c, hv, ha, fun j x hj => ?_⟩
  obtain ⟨e0, e1, e2, e3⟩ := hx j x hj
  exact ⟨cell_box3 h0 h1 h2 p0 p1 p2 _ _ _ e0 rfl, cell_box3 h0 h1 h2 p0 p1 p2 _ _ _ e1 rfl, cell_box3 h0 h1 h2 p0 p1 p2 _ _ _ e2 rfl, cell_box3 h0 h1 h2 p0 p1 p2 _ _ _ e3 rfl⟩
theorem SlK.box3 {w : World} {g : Nat} {u0 u1 u2 : Value} {v : Value} {l : List Kd} (h : SlK w v l) (h0 : w.cell? ⟨g, 0, none⟩ = some u0) (h1 : w.cell? ⟨g, 1, none⟩ = some u1) (h2 : w.cell? ⟨g, 2, none⟩ = some u2) (p0 : plainV u0 = true := by rfl) (p1 : plainV u1 = true := by rfl) (p2 : plainV u2 = true := by rfl) (x0 x1 x2 : Value) :
    SlK (((w.setCell ⟨g, 0, none⟩ x0).setCell ⟨g, 1, none⟩ x1).setCell ⟨g, 2, none⟩ x2) v l := by
  obtain ⟨a, b, o, c, hv, ha, hx⟩ := h
  refine ⟨a, b, o, c, hv, ha, fun j x hj => ?_⟩
  obtain ⟨e0, e1⟩ := hx j x hj
  exact ⟨cell_box3 h0 h1 h2 p0 p1 p2 _ _ _ e0 rfl, cell_box3 h0 h1 h2 p0 p1 p2 _ _ _ e1 rfl⟩
theorem SlC.box2 {w : World} {g : Nat} {u0 u1 : Value} {v : Value} {l : List Cl} (h : SlC w v l) (h0 : w.cell? ⟨g, 0, none⟩ = some u0) (h1 : w.cell? ⟨g, 1, none⟩ = some u1) (p0 : plainV u0 = true := by rfl) (p1 : plainV u1 = true := by rfl) (x0 x1 : Value) :
    SlC ((w.setCell ⟨g, 0, none⟩ x0).setCell ⟨g, 1, none⟩ x1) v l := by
  obtain ⟨a, b, o, c, hv, ha, hx⟩ := h
  refine ⟨a, b, o, c, hv, ha, fun j x hj => ?_⟩
  obtain ⟨e0, e1, e2, e3⟩ := hx j x hj
  exact ⟨cell_box2 h0 h1 p0 p1 _ _ e0 rfl, cell_box2 h0 h1 p0 p1 _ _ e1 rfl, cell_box2 h0 h1 p0 p1 _ _ e2 rfl, cell_box2 h0 h1 p0 p1 _ _ e3 rfl⟩
theorem SlC.set1 {w : World} {p : Addr} {u : Value} {v : Value} {l : List Cl} (h : SlC w v l) (h0 : w.cell? p = some u) (p0 : plainV u = true := by rfl) (x : Value) : SlC (w.setCell p x) v l := by
  obtain ⟨a, b, o, c, hv, ha, hx⟩ := h
  refine ⟨a, b, o, c, hv, ha, fun j y hj => ?_⟩
  obtain ⟨e0, e1, e2, e3⟩ := hx j y hj
  exact ⟨cell_set1 h0 p0 _ e0 rfl, cell_set1 h0 p0 _ e1 rfl, cell_set1 h0 p0 _ e2 rfl, cell_set1 h0 p0 _ e3 rfl⟩
end Go.Proofs.YtemfbkelenaaeaaGreat
