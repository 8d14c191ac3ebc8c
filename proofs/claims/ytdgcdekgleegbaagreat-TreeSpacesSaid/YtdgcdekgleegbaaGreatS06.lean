/- Texts of one seat, merged. -/
import Derived.Test.YtdgcdekgleegbaaGreatS05
import Derived.Test.YtdgcdekgleegbaaGreatS03
import Derived.Deep.RegionHeld3
import Derived.Test.YtdgcdekgleegbaaGreatS04
set_option maxRecDepth 100000
set_option maxHeartbeats 4000000
set_option linter.unusedVariables false
/- The contract of a node's halves. -/
namespace Go.Proofs.YtdgcdekgleegbaaGreat
open Go.RowKit
open Sl (Cl Kd)
/-- Two rows of the call's own. -/
inductive HalfK (l m : List Kd) (w : World) (e : Ending) (w' : World) : Prop
  | mk (u v : Value) (B : Nat) (he : e = .returned (.tuple #[u, v])) (hu : RowK w' w.heap.size u l) (hlo : ∀ k, u.ownBlock = some k → k < B) (hv : RowK w' B v m) (h1 : w.heap.size ≤ B) (h2 : B ≤ w'.heap.size) (hb : Below w.heap.size w w')
set_option maxRecDepth 100000 in
theorem halvesK_any (v : Value) (l : List Kd) (hll : l.length ≤ 100000) (hl : ∀ x ∈ l, okK x) (w : World) (hv : SlK w v l) (hc : Cap v) :
    Calls Tryz.prog 144 #[shpK, v] w (HalfK (l.take (Sl.cutAt Sl.shK l)) (l.drop (Sl.cutAt Sl.shK l)) w) := by
  have HL := Lib.hid hl
  have HS1 := Lib.hid (fun W (hW : SlK W v l) => sumK_any v l hll hl W hW)
  have HV := Lib.hid hv
  have HVB : Hid (∀ W, Below w.heap.size w W → SlK W v l) := fun W hW => hv.below hW
  obtain ⟨a, b, o, c, rfl, ha, hx⟩ := hv
  have hcap : l.length ≤ c := by cases hc; assumption
  have hcm : c ≤ maxLen := by cases hc; assumption
  unfold maxLen at hcm
  have HX := Lib.hid hx
  have HA := Lib.hid ha
  clear hl ha hx hc
  unfold shpK at HS1 ⊢
  have HB0 := Lib.hid (BxK.new w)
  have hsm : Sl.sum Sl.shK l ≤ 6579600000 := by have := encK_le l l.length hll; rwa [List.take_length] at this
  go_enter Tryz.func144, Tryz.ntmps144
  go_wp2_with (go_at_call 166; refine (HS1.out _ (HVB.out _ ((Below.refl _ _).alloc (Nat.le_refl _) _))).mono ?_; rintro e w1 ⟨rfl, hb1⟩)
  have HB1 := Lib.hid (HB0.out.below hb1 (by simp))
  have HW1 : Hid (Below w.heap.size w w1) := ((Below.refl _ _).alloc (Nat.le_refl _) _).trans (hb1.mono (by simp))
  have HG1 := Lib.hid HB1.out.lt
  clear hb1 HB0 HS1
  revert HB1 HW1 HG1
  generalize hg : w.heap.size = g
  have HG := Lib.hid hg
  clear hg
  intro HB1 HW1 HG1
  go_loopg [6, 7, 9, 10] l.length (fun n c m s i wr => ∃ k : Nat, k ≤ l.length ∧ n = l.length - k ∧ i = .int .i64 ((k : Int) + 1) ∧ c = .int .i64 (Sl.st Sl.shK l k).1 ∧ m = .int .i64 (Sl.st Sl.shK l k).2 ∧ s = .int .i64 (Sl.sum Sl.shK (l.take k) : Nat) ∧ Hid (k = 0 ∨ k < l.length) ∧ Hid (Below (g + 1) w1 wr))
  case atStart => exact ⟨0, Nat.zero_le _, rfl, rfl, rfl, rfl, rfl, .inl rfl, Below.refl _ _⟩
  case round =>
    obtain ⟨k, hk, rfl, rfl, rfl, rfl, rfl, HK, HB⟩ := hrel
    by_cases hlt : k + 1 < l.length
    · obtain ⟨x, hx⟩ := take_some l k (by omega)
      obtain ⟨e0, e1⟩ := HX.out k x hx
      have hblt : b < g := by have h1 := World.block_lt_of_cell? _ _ e0; rw [HG.out] at h1; exact h1
      have HWr := Lib.hid (HW1.out.trans (HB.out.mono (Nat.le_succ g)))
      have d0 := (HWr.out.cell (p := ⟨b, o + k * 2, none⟩) hblt).trans e0
      have d1 := (HWr.out.cell (p := ⟨b, o + k * 2 + 1, none⟩) hblt).trans e1
      have HR := Lib.hid (HB1.out.below HB.out (Nat.lt_succ_self g))
      obtain rfl : a = some ⟨b, o, none⟩ := by
        rcases HA.out with h | h
        · rw [h] at hlt; cases hlt
        · exact h
      have HSK := Lib.hid ((congrArg (Sl.sum Sl.shK) (Sl.take_snoc' l k x hx)).trans (Sl.sum_snoc Sl.shK (l.take k) x))
      have HZ := Lib.hid (fun W => sizeK_any x (HL.out x (List.mem_of_getElem? hx)) W)
      have hz : (Sl.shK.enc x).length ≤ 65794 := by first | exact Sl.encC_len x | exact Nat.le_trans (Sl.encK_len x) (by decide)
      have hsk := encK_le l k hll
      have HDF : Hid (Sl.dif Sl.shK l (k + 1) = ((2 * Sl.sum Sl.shK (l.take (k + 1)) : Nat) - (Sl.sum Sl.shK l : Nat) : Int).natAbs) := rfl
      have HL0 := fun (h : k ≠ 0) (h' : Sl.dif Sl.shK l (k + 1) < (Sl.st Sl.shK l k).2) => Lib.hid (Sl.st_less Sl.shK l k h h')
      have HL1 := fun (h : k ≠ 0) (h' : ¬ Sl.dif Sl.shK l (k + 1) < (Sl.st Sl.shK l k).2) => Lib.hid (Sl.st_keep Sl.shK l k h h')
      have HF1 := Lib.hid (Sl.st_first Sl.shK l)
      have hF : Hid (wr.drew.cell? ⟨g, 0, none⟩ = some (.func (.func 168) #[] #[]) ∧ wr.drew.cell? ⟨g, 1, none⟩ = some (.func (.func 169) #[] #[]) ∧ wr.drew.cell? ⟨g, 2, none⟩ = some (.func (.func 170) #[] #[]) ∧ wr.drew.cell? ⟨g, 3, none⟩ = some (.nilFunc) ∧ wr.drew.cell? ⟨b, o + k * 2, none⟩ = some (.string (str x.key)) ∧ wr.drew.cell? ⟨b, o + k * 2 + 1, none⟩ = some (.int .u32 x.page) ∧ Below (g + 1) w1 wr.drew) := ⟨HR.out.c0, HR.out.c1, HR.out.c2, HR.out.c3, d0, d1, HB.out.drew⟩
      clear hblt hx
      unfold shpK aggK at HZ
      have hwr1 : IntKind.i64.wrap ((k : Int) + 1 - 1) = (k : Int) := by rw [show (k : Int) + 1 - 1 = k by omega]; exact IntWalk.i64_in _ (by omega)
      have hwr0 : IntKind.i64.wrap (k : Int) = (k : Int) := IntWalk.i64_in _ (by omega)
      have hk0 : (0 : Int) ≤ (k : Int) := by omega
      have hk1 : (k : Int) < l.length := by omega
      have hwr2 : IntKind.i64.wrap ((Sl.sum Sl.shK (l.take k) : Int) + ((2 + (Sl.shK.enc x).length : Nat) : Int)) = (Sl.sum Sl.shK (l.take (k + 1)) : Nat) := by rw [HSK.out]; rw [IntWalk.i64_in _ (by omega)]; omega
      go_wp2_with fail
      go_region_held3 (fun w' => w'.cell? ⟨g, 0, none⟩ = some (.func (.func 168) #[] #[]) ∧ w'.cell? ⟨g, 1, none⟩ = some (.func (.func 169) #[] #[]) ∧ w'.cell? ⟨g, 2, none⟩ = some (.func (.func 170) #[] #[]) ∧ w'.cell? ⟨g, 3, none⟩ = some (.nilFunc) ∧ w'.cell? ⟨b, o + k * 2, none⟩ = some (.string (str x.key)) ∧ w'.cell? ⟨b, o + k * 2 + 1, none⟩ = some (.int .u32 x.page) ∧ Below (g + 1) w1 w')
        ((first | assumption | exact step6 (Nat.succ_le_of_lt HG1.out) ‹_› hb | exact hF.out))
        (first
        | (go_at_call 167; refine (HZ.out _).mono ?_; rintro e w4 ⟨rfl, hb⟩))
      rename_i hS
      have HB4 := Lib.hid (last6 hS)
      clear hS
      have HSK2 := Lib.hid HSK.out
      have hdd : ((Sl.dif Sl.shK l (k + 1) : Nat) : Int) = 2 * ((Sl.sum Sl.shK (l.take k) : Int) + (2 + ((Sl.shK.enc x).length : Int))) - (Sl.sum Sl.shK l : Int) ∨ ((Sl.dif Sl.shK l (k + 1) : Nat) : Int) = (Sl.sum Sl.shK l : Int) - 2 * ((Sl.sum Sl.shK (l.take k) : Int) + (2 + ((Sl.shK.enc x).length : Int))) := by
        rw [HDF.out, HSK.out]; omega
      have hdd0 : (0 : Int) ≤ ((Sl.dif Sl.shK l (k + 1) : Nat) : Int) := by omega
      have HDD := Lib.hid hdd
      clear hdd
      clear HSK
      by_cases hmx : 2 * ((Sl.sum Sl.shK (l.take k) : Int) + (2 + ((Sl.shK.enc x).length : Int))) - (Sl.sum Sl.shK l : Int) < (Sl.sum Sl.shK l : Int) - 2 * ((Sl.sum Sl.shK (l.take k) : Int) + (2 + ((Sl.shK.enc x).length : Int)))
      all_goals by_cases h1 : (k : Int) + 1 = 1
      all_goals by_cases h2 : Sl.dif Sl.shK l (k + 1) < (Sl.st Sl.shK l k).2
      all_goals
        have hdn := HDD.out
        try (have h3 : (Sl.sum Sl.shK l : Int) - 2 * ((Sl.sum Sl.shK (l.take k) : Int) + (2 + ((Sl.shK.enc x).length : Int))) < ((Sl.st Sl.shK l k).2 : Nat) := by omega)
        try (have h3 : ¬ (Sl.sum Sl.shK l : Int) - 2 * ((Sl.sum Sl.shK (l.take k) : Int) + (2 + ((Sl.shK.enc x).length : Int))) < ((Sl.st Sl.shK l k).2 : Nat) := by omega)
        try (have h4 : 2 * ((Sl.sum Sl.shK (l.take k) : Int) + (2 + ((Sl.shK.enc x).length : Int))) - (Sl.sum Sl.shK l : Int) < ((Sl.st Sl.shK l k).2 : Nat) := by omega)
        try (have h4 : ¬ 2 * ((Sl.sum Sl.shK (l.take k) : Int) + (2 + ((Sl.shK.enc x).length : Int))) - (Sl.sum Sl.shK l : Int) < ((Sl.st Sl.shK l k).2 : Nat) := by omega)
        clear hdn
        go_wp2
        go_roundg (l.length - (k + 1))
        case measure => omega
        case rel =>
          have hdn := HDD.out
          have hsn := HSK2.out
          refine ⟨k + 1, by omega, rfl, by go_num, ?_, ?_, ?_, .inr hlt, HB4⟩
          · first
            | (rw [show Sl.st Sl.shK l (k + 1) = (k + 1, Sl.dif Sl.shK l (k + 1)) by (obtain rfl : k = 0 := by omega); exact HF1.out]; go_num)
            | (rw [(HL0 (by omega) h2).out]; go_num)
            | (rw [(HL1 (by omega) h2).out])
          · first
            | (rw [show Sl.st Sl.shK l (k + 1) = (k + 1, Sl.dif Sl.shK l (k + 1)) by (obtain rfl : k = 0 := by omega); exact HF1.out]; show Value.int _ _ = Value.int _ _; congr 1; show _ = ((Sl.dif Sl.shK l (k + 1) : Nat) : Int); omega)
            | (rw [(HL0 (by omega) h2).out]; show Value.int _ _ = Value.int _ _; congr 1; show _ = ((Sl.dif Sl.shK l (k + 1) : Nat) : Int); omega)
            | (rw [(HL1 (by omega) h2).out])
          · rw [HSK2.out]; show Value.int _ _ = Value.int _ _; congr 1 <;> first | (rw [IntWalk.i64_in _ (by omega)]; try omega) | omega
    · have hkk : k = l.length - 1 := by rcases HK.out with h | h <;> omega
      have HCA := Lib.hid (Sl.cutAt_st Sl.shK l)
      have HCL := Lib.hid (Sl.cutAt_le Sl.shK l)
      rw [← hkk] at HCA
      have HW3 := Lib.hid (HW1.out.trans (HB.out.mono (Nat.le_succ g)))
      have HVB' : Hid (∀ W, Below g w W → SlK W (.slice a l.length c) l) := fun W hW => HVB.out W (by rw [HG.out]; exact hW)
      clear HB HK hkk HL HV HVB hsm
      obtain ⟨q, hq⟩ : ∃ q, Sl.cutAt Sl.shK l = q := ⟨_, rfl⟩
      have HQ := Lib.hid hq
      rw [hq] at HCA HCL
      clear hq
      rw [← HCA.out]
      rcases HA.out with h | h
      · subst h
        obtain rfl : q = 0 := by have := HCL.out; simp at this; exact this
        have HC1 := Lib.hid (fun W (_ : Below g w W) => cloneK_any _ [] (by decide) W (SlK.emptyS W a c))
        have HC2 := Lib.hid (fun W (_ : Below g w W) => cloneK_any _ [] (by decide) W (SlK.emptyS W a c))
        clear HX HB1 HG1 HCA
        cases a with
        | none =>
          have HD : Hid (Below g w wr.drew) := HW3.out.drew
          go_wp2_with fail
          go_region_held3 (fun w' => Below g w w')
            ((first | assumption | exact ‹Below g w _›.trans (hb.mono (by have := (‹Below g w _› : Below g w _).size; rw [HG.out] at this; exact this)) | exact HD.out))
            (first
            | (go_at_call 107; with_reducible refine (HC2.out _ (by assumption)).mono ?_; rintro e w5 ⟨v2, rfl, hr2, hb⟩; have HR2 := Lib.hid hr2; have HS5 := Lib.hid hb.size; have HR1' := Lib.hid (HR1.out.below hb); clear hr2)
            | (go_at_call 107; with_reducible refine (HC1.out _ (by assumption)).mono ?_; rintro e w4 ⟨v1, rfl, hr1, hb⟩; have HR1 := Lib.hid hr1; have HS4 := Lib.hid (Nat.le_trans HD.out.size hb.size); have HLO := Lib.hid hr1.lo; clear hr1))
          rename_i hS
          have HBE := Lib.hid hS
          clear hS
          go_wp2
          go_ret2
          refine ⟨v1, v2, w4.heap.size, rfl, ?_, HLO.out, ?_, HS4.out, HS5.out, by rw [HG.out]; exact HBE.out⟩
          · rw [List.take_nil]; exact HR1'.out.base (Nat.le_trans HW3.out.size (Nat.le_refl _))
          · rw [List.drop_nil]; exact HR2.out
        | some ad =>
          have HD : Hid (Below g w wr.drew) := HW3.out.drew
          go_wp2_with fail
          go_region_held3 (fun w' => Below g w w')
            ((first | assumption | exact ‹Below g w _›.trans (hb.mono (by have := (‹Below g w _› : Below g w _).size; rw [HG.out] at this; exact this)) | exact HD.out))
            (first
            | (go_at_call 107; with_reducible refine (HC2.out _ (by assumption)).mono ?_; rintro e w5 ⟨v2, rfl, hr2, hb⟩; have HR2 := Lib.hid hr2; have HS5 := Lib.hid hb.size; have HR1' := Lib.hid (HR1.out.below hb); clear hr2)
            | (go_at_call 107; with_reducible refine (HC1.out _ (by assumption)).mono ?_; rintro e w4 ⟨v1, rfl, hr1, hb⟩; have HR1 := Lib.hid hr1; have HS4 := Lib.hid (Nat.le_trans HD.out.size hb.size); have HLO := Lib.hid hr1.lo; clear hr1))
          rename_i hS
          have HBE := Lib.hid hS
          clear hS
          go_wp2
          go_ret2
          refine ⟨v1, v2, w4.heap.size, rfl, ?_, HLO.out, ?_, HS4.out, HS5.out, by rw [HG.out]; exact HBE.out⟩
          · rw [List.take_nil]; exact HR1'.out.base (Nat.le_trans HW3.out.size (Nat.le_refl _))
          · rw [List.drop_nil]; exact HR2.out
      · subst h
        have hq0 : (0 : Int) ≤ (q : Int) := by omega
        have hq1 : (q : Int) ≤ l.length := by have := HCL.out; omega
        have hq2 : (q : Int) ≤ c := by omega
        have hq3 : (l.length : Int) ≤ c := by omega
        have HSW := Lib.hid (fun W (hW : Below g w W) => HVB'.out W hW)
        clear HX HB1 HG1 HCA
        have HC1 := Lib.hid (fun W (hW : Below g w W) => cloneK_any _ (l.take q) (by rw [List.length_take]; omega) W ((HSW.out W hW).takeS (c' := c) q HCL.out))
        by_cases hcq : c = q
        · have hlq : l.length = q := by omega
          subst hcq
          have hnn : (l.length : Int) - (c : Int) = 0 := by omega
          have hn2 : l.length - c = 0 := by omega
          have HC2 := Lib.hid (fun W (_ : Below g w W) => cloneK_any _ [] (by decide) W (SlK.emptyS W (some ⟨b, o, none⟩) 0))
          have HD : Hid (Below g w wr.drew) := HW3.out.drew
          go_wp2_with fail
          go_region_held3 (fun w' => Below g w w')
            ((first | assumption | exact ‹Below g w _›.trans (hb.mono (by have := (‹Below g w _› : Below g w _).size; rw [HG.out] at this; exact this)) | exact HD.out))
            (first
            | (go_at_call 107; with_reducible refine (HC2.out _ (by assumption)).mono ?_; rintro e w5 ⟨v2, rfl, hr2, hb⟩; have HR2 := Lib.hid hr2; have HS5 := Lib.hid hb.size; have HR1' := Lib.hid (HR1.out.below hb); clear hr2)
            | (go_at_call 107; with_reducible refine (HC1.out _ (by assumption)).mono ?_; rintro e w4 ⟨v1, rfl, hr1, hb⟩; have HR1 := Lib.hid hr1; have HS4 := Lib.hid (Nat.le_trans HD.out.size hb.size); have HLO := Lib.hid hr1.lo; clear hr1))
          rename_i hS
          have HBE := Lib.hid hS
          clear hS
          go_wp2
          go_ret2
          refine ⟨v1, v2, w4.heap.size, rfl, ?_, HLO.out, ?_, HS4.out, HS5.out, by rw [HG.out]; exact HBE.out⟩
          · rw [HQ.out]; exact HR1'.out.base (Nat.le_trans HW3.out.size (Nat.le_refl _))
          · rw [HQ.out, List.drop_eq_nil_of_le (by omega)]; exact HR2.out
        · have HC2 := Lib.hid (fun W (hW : Below g w W) => cloneK_any _ (l.drop q) (by rw [List.length_drop]; omega) W ((HSW.out W hW).dropS (c' := c - q) q))
          have HD : Hid (Below g w wr.drew) := HW3.out.drew
          go_wp2_with fail
          go_region_held3 (fun w' => Below g w w')
            ((first | assumption | exact ‹Below g w _›.trans (hb.mono (by have := (‹Below g w _› : Below g w _).size; rw [HG.out] at this; exact this)) | exact HD.out))
            (first
            | (go_at_call 107; with_reducible refine (HC2.out _ (by assumption)).mono ?_; rintro e w5 ⟨v2, rfl, hr2, hb⟩; have HR2 := Lib.hid hr2; have HS5 := Lib.hid hb.size; have HR1' := Lib.hid (HR1.out.below hb); clear hr2)
            | (go_at_call 107; with_reducible refine (HC1.out _ (by assumption)).mono ?_; rintro e w4 ⟨v1, rfl, hr1, hb⟩; have HR1 := Lib.hid hr1; have HS4 := Lib.hid (Nat.le_trans HD.out.size hb.size); have HLO := Lib.hid hr1.lo; clear hr1))
          rename_i hS
          have HBE := Lib.hid hS
          clear hS
          go_wp2
          go_ret2
          refine ⟨v1, v2, w4.heap.size, rfl, ?_, HLO.out, ?_, HS4.out, HS5.out, by rw [HG.out]; exact HBE.out⟩
          · rw [HQ.out]; exact HR1'.out.base (Nat.le_trans HW3.out.size (Nat.le_refl _))
          · rw [HQ.out]; exact HR2.out
end Go.Proofs.YtdgcdekgleegbaaGreat
/- The contract of a node's first key. -/
namespace Go.Proofs.YtdgcdekgleegbaaGreat
open Go.RowKit
open Sl (Cl Kd Nd Rn)
theorem firstKeyC_any (v : Value) (l : List Cl) (w : World) (hv : SlC w v l) :
    Calls Tryz.prog 143 #[shpC, v] w fun e w' => e = .returned (.string (str (Sl.fkey Sl.shC l))) ∧ Below w.heap.size w w' := by
  obtain ⟨a, b, o, c, rfl, ha, hx⟩ := hv
  unfold shpC
  cases l with
  | nil =>
    go_enter Tryz.func143, Tryz.ntmps143
    go_wp2
    go_ret
    exact ⟨rfl, (Below.refl _ _).alloc (Nat.le_refl _) _⟩
  | cons x t =>
    obtain ⟨e0, e1, e2, e3⟩ := hx 0 x rfl
    rw [Nat.zero_mul, Nat.add_zero] at e0 e1 e2 e3
    obtain rfl : a = some ⟨b, o, none⟩ := by
      rcases ha with h | h
      · cases h
      · exact h
    have HK := Lib.hid (fun W => keyC_any x W)
    have hblt : b < w.heap.size := World.block_lt_of_cell? _ _ e0
    have HA := Lib.hid (fun o1 => (Below.refl w.heap.size w).alloc (Nat.le_refl _) o1)
    have HB0 := Lib.hid (BxC.new w)
    have hF : Hid ((w.alloc (.cells #[.func (.func 84) #[] #[], .func (.func 85) #[] #[], .func (.func 86) #[] #[], .func (.func 87) #[] #[]] 117)).drew.cell? ⟨w.heap.size, 0, none⟩ = some (.func (.func 84) #[] #[]) ∧ (w.alloc (.cells #[.func (.func 84) #[] #[], .func (.func 85) #[] #[], .func (.func 86) #[] #[], .func (.func 87) #[] #[]] 117)).drew.cell? ⟨w.heap.size, 1, none⟩ = some (.func (.func 85) #[] #[]) ∧ (w.alloc (.cells #[.func (.func 84) #[] #[], .func (.func 85) #[] #[], .func (.func 86) #[] #[], .func (.func 87) #[] #[]] 117)).drew.cell? ⟨w.heap.size, 2, none⟩ = some (.func (.func 86) #[] #[]) ∧ (w.alloc (.cells #[.func (.func 84) #[] #[], .func (.func 85) #[] #[], .func (.func 86) #[] #[], .func (.func 87) #[] #[]] 117)).drew.cell? ⟨w.heap.size, 3, none⟩ = some (.func (.func 87) #[] #[]) ∧ (w.alloc (.cells #[.func (.func 84) #[] #[], .func (.func 85) #[] #[], .func (.func 86) #[] #[], .func (.func 87) #[] #[]] 117)).drew.cell? ⟨b, o, none⟩ = some (.string (str x.key)) ∧ (w.alloc (.cells #[.func (.func 84) #[] #[], .func (.func 85) #[] #[], .func (.func 86) #[] #[], .func (.func 87) #[] #[]] 117)).drew.cell? ⟨b, o + 1, none⟩ = some (.string (str x.val)) ∧ (w.alloc (.cells #[.func (.func 84) #[] #[], .func (.func 85) #[] #[], .func (.func 86) #[] #[], .func (.func 87) #[] #[]] 117)).drew.cell? ⟨b, o + 2, none⟩ = some (.int .u32 x.chain) ∧ (w.alloc (.cells #[.func (.func 84) #[] #[], .func (.func 85) #[] #[], .func (.func 86) #[] #[], .func (.func 87) #[] #[]] 117)).drew.cell? ⟨b, o + 3, none⟩ = some (.int .u32 x.long) ∧ Below w.heap.size w (w.alloc (.cells #[.func (.func 84) #[] #[], .func (.func 85) #[] #[], .func (.func 86) #[] #[], .func (.func 87) #[] #[]] 117)).drew) := ⟨HB0.out.c0, HB0.out.c1, HB0.out.c2, HB0.out.c3, ((HA.out _).cell (p := ⟨b, o + 0, none⟩) hblt).trans e0, ((HA.out _).cell (p := ⟨b, o + 1, none⟩) hblt).trans e1, ((HA.out _).cell (p := ⟨b, o + 2, none⟩) hblt).trans e2, ((HA.out _).cell (p := ⟨b, o + 3, none⟩) hblt).trans e3, (HA.out _).drew⟩
    have hlen : (0 : Int) < ((x :: t).length : Int) := by simp
    unfold aggC at HK
    clear e0 e1 e2 e3 hx HA HB0
    go_enter Tryz.func143, Tryz.ntmps143
    go_wp2_with fail
    go_region_held3 (fun w' => w'.cell? ⟨w.heap.size, 0, none⟩ = some (.func (.func 84) #[] #[]) ∧ w'.cell? ⟨w.heap.size, 1, none⟩ = some (.func (.func 85) #[] #[]) ∧ w'.cell? ⟨w.heap.size, 2, none⟩ = some (.func (.func 86) #[] #[]) ∧ w'.cell? ⟨w.heap.size, 3, none⟩ = some (.func (.func 87) #[] #[]) ∧ w'.cell? ⟨b, o, none⟩ = some (.string (str x.key)) ∧ w'.cell? ⟨b, o + 1, none⟩ = some (.string (str x.val)) ∧ w'.cell? ⟨b, o + 2, none⟩ = some (.int .u32 x.chain) ∧ w'.cell? ⟨b, o + 3, none⟩ = some (.int .u32 x.long) ∧ Below w.heap.size w w')
      ((first | assumption | exact step8 (Nat.le_refl _) ‹_› hb | exact hF.out))
      (first
      | (go_at_call 86; refine (HK.out _).mono ?_; rintro e w4 ⟨rfl, hb⟩))
    rename_i hS
    have HB4 := Lib.hid (last8 hS)
    clear hS
    go_wp2
    go_ret
    exact ⟨rfl, HB4.out⟩
end Go.Proofs.YtdgcdekgleegbaaGreat
/- The contract of a node's first key. -/
namespace Go.Proofs.YtdgcdekgleegbaaGreat
open Go.RowKit
open Sl (Cl Kd Nd Rn)
theorem firstKeyK_any (v : Value) (l : List Kd) (w : World) (hv : SlK w v l) :
    Calls Tryz.prog 146 #[shpK, v] w fun e w' => e = .returned (.string (str (Sl.fkey Sl.shK l))) ∧ Below w.heap.size w w' := by
  obtain ⟨a, b, o, c, rfl, ha, hx⟩ := hv
  unfold shpK
  cases l with
  | nil =>
    go_enter Tryz.func146, Tryz.ntmps146
    go_wp2
    go_ret
    exact ⟨rfl, (Below.refl _ _).alloc (Nat.le_refl _) _⟩
  | cons x t =>
    obtain ⟨e0, e1⟩ := hx 0 x rfl
    rw [Nat.zero_mul, Nat.add_zero] at e0 e1
    obtain rfl : a = some ⟨b, o, none⟩ := by
      rcases ha with h | h
      · cases h
      · exact h
    have HK := Lib.hid (fun W => keyK_any x W)
    have hblt : b < w.heap.size := World.block_lt_of_cell? _ _ e0
    have HA := Lib.hid (fun o1 => (Below.refl w.heap.size w).alloc (Nat.le_refl _) o1)
    have HB0 := Lib.hid (BxK.new w)
    have hF : Hid ((w.alloc (.cells #[.func (.func 168) #[] #[], .func (.func 169) #[] #[], .func (.func 170) #[] #[], .nilFunc] 213)).drew.cell? ⟨w.heap.size, 0, none⟩ = some (.func (.func 168) #[] #[]) ∧ (w.alloc (.cells #[.func (.func 168) #[] #[], .func (.func 169) #[] #[], .func (.func 170) #[] #[], .nilFunc] 213)).drew.cell? ⟨w.heap.size, 1, none⟩ = some (.func (.func 169) #[] #[]) ∧ (w.alloc (.cells #[.func (.func 168) #[] #[], .func (.func 169) #[] #[], .func (.func 170) #[] #[], .nilFunc] 213)).drew.cell? ⟨w.heap.size, 2, none⟩ = some (.func (.func 170) #[] #[]) ∧ (w.alloc (.cells #[.func (.func 168) #[] #[], .func (.func 169) #[] #[], .func (.func 170) #[] #[], .nilFunc] 213)).drew.cell? ⟨w.heap.size, 3, none⟩ = some (.nilFunc) ∧ (w.alloc (.cells #[.func (.func 168) #[] #[], .func (.func 169) #[] #[], .func (.func 170) #[] #[], .nilFunc] 213)).drew.cell? ⟨b, o, none⟩ = some (.string (str x.key)) ∧ (w.alloc (.cells #[.func (.func 168) #[] #[], .func (.func 169) #[] #[], .func (.func 170) #[] #[], .nilFunc] 213)).drew.cell? ⟨b, o + 1, none⟩ = some (.int .u32 x.page) ∧ Below w.heap.size w (w.alloc (.cells #[.func (.func 168) #[] #[], .func (.func 169) #[] #[], .func (.func 170) #[] #[], .nilFunc] 213)).drew) := ⟨HB0.out.c0, HB0.out.c1, HB0.out.c2, HB0.out.c3, ((HA.out _).cell (p := ⟨b, o + 0, none⟩) hblt).trans e0, ((HA.out _).cell (p := ⟨b, o + 1, none⟩) hblt).trans e1, (HA.out _).drew⟩
    have hlen : (0 : Int) < ((x :: t).length : Int) := by simp
    unfold aggK at HK
    clear e0 e1 hx HA HB0
    go_enter Tryz.func146, Tryz.ntmps146
    go_wp2_with fail
    go_region_held3 (fun w' => w'.cell? ⟨w.heap.size, 0, none⟩ = some (.func (.func 168) #[] #[]) ∧ w'.cell? ⟨w.heap.size, 1, none⟩ = some (.func (.func 169) #[] #[]) ∧ w'.cell? ⟨w.heap.size, 2, none⟩ = some (.func (.func 170) #[] #[]) ∧ w'.cell? ⟨w.heap.size, 3, none⟩ = some (.nilFunc) ∧ w'.cell? ⟨b, o, none⟩ = some (.string (str x.key)) ∧ w'.cell? ⟨b, o + 1, none⟩ = some (.int .u32 x.page) ∧ Below w.heap.size w w')
      ((first | assumption | exact step6 (Nat.le_refl _) ‹_› hb | exact hF.out))
      (first
      | (go_at_call 170; refine (HK.out _).mono ?_; rintro e w4 ⟨rfl, hb⟩))
    rename_i hS
    have HB4 := Lib.hid (last6 hS)
    clear hS
    go_wp2
    go_ret
    exact ⟨rfl, HB4.out⟩
end Go.Proofs.YtdgcdekgleegbaaGreat
/- The contract of keyed: the first kid's key, turned in a row of one's own. -/
namespace Go.Proofs.YtdgcdekgleegbaaGreat
open Go.RowKit
open Sl (Cl Kd Nd Rn)
inductive KeyedK (v : Value) (l : List Kd) (B : Nat) (w : World) (e : Ending) (w' : World) : Prop
  | mk (he : e = .returned v) (hr : RowK w' B v l) (hb : Below B w w')
theorem keyed_any (v : Value) (l : List Kd) (k : List UInt8) (B : Nat) (w : World) (hv : RowK w B v l) (hB : B ≤ w.heap.size) :
    Calls Tryz.prog 147 #[v, .string (str k)] w (KeyedK v (Sl.setK k l) B w) := by
  have hv0 := hv
  obtain ⟨hl0, h1⟩ := hv
  rcases h1 with ⟨rfl, h0⟩ | ⟨g, cap, cur, rfl, hg, hb, hn, hm, hs, hc⟩
  · obtain rfl : l = [] := List.length_eq_zero_iff.1 h0
    go_enter Tryz.func147, Tryz.ntmps147
    go_wp2
    go_ret
    exact ⟨rfl, hv0, Below.refl _ _⟩
  · cases l with
    | nil =>
      go_enter Tryz.func147, Tryz.ntmps147
      go_wp2
      go_ret
      exact ⟨rfl, hv0, Below.refl _ _⟩
    | cons x t =>
      have HV := Lib.hid hv0
      have c0 : w.cell? ⟨g, 0, none⟩ = some (.string (str x.key)) := by
        have := World.ownsRow.cellAt hv0 0 (by simp)
        rw [this]; rfl
      have f0 : w.frozen? ⟨g, 0, none⟩ = false := World.ownsRow.frozenAt hv0 0
      have hlen : (0 : Int) < ((x :: t).length : Int) := by simp
      have HG := Lib.hid hg
      clear hl0 hv0 hb hn hm hs hc hg
      go_enter Tryz.func147, Tryz.ntmps147
      go_wp2
      go_ret
      refine ⟨rfl, ?_, ?_⟩
      · have := World.ownsRow.stored HV.out 0 (.string (str k))
        exact this.1
      · exact (Below.refl B w).setCell HG.out _
end Go.Proofs.YtdgcdekgleegbaaGreat
/- The contract of a node's Split. -/
namespace Go.Proofs.YtdgcdekgleegbaaGreat.Sl
def spA (n : Nd) : Nd := if n.leaf then ⟨true, n.cs.take (cutAt shC n.cs), []⟩ else ⟨false, [], n.ks.take (cutAt shK n.ks)⟩
def spB (n : Nd) : Nd := if n.leaf then ⟨true, n.cs.drop (cutAt shC n.cs), []⟩ else ⟨false, [], setK [] (n.ks.drop (cutAt shK n.ks))⟩
def spK (n : Nd) : List UInt8 := if n.leaf then fkey shC (n.cs.drop (cutAt shC n.cs)) else fkey shK (n.ks.drop (cutAt shK n.ks))
def okN (n : Nd) : Prop := n.cs.length ≤ 100000 ∧ n.ks.length ≤ 100000
end Go.Proofs.YtdgcdekgleegbaaGreat.Sl
namespace Go.Proofs.YtdgcdekgleegbaaGreat
open Go.RowKit
open Sl (Cl Kd Nd Rn)
/-- An empty node's box. -/
structure Z3 (w : World) (g : Nat) : Prop where
  z0 : w.cell? ⟨g, 0, none⟩ = some (.bool false)
  z1 : w.cell? ⟨g, 1, none⟩ = some (.slice none 0 0)
  z2 : w.cell? ⟨g, 2, none⟩ = some (.slice none 0 0)
  f0 : w.frozen? ⟨g, 0, none⟩ = false
  f1 : w.frozen? ⟨g, 1, none⟩ = false
  f2 : w.frozen? ⟨g, 2, none⟩ = false
theorem Z3.lt {w : World} {g : Nat} (h : Z3 w g) : g < w.heap.size := World.block_lt_of_cell? _ _ h.z0
theorem Z3.below {w w' : World} {g : Nat} (h : Z3 w g) (hb : Below w.heap.size w w') : Z3 w' g :=
  ⟨(hb.cell (p := ⟨g, 0, none⟩) h.lt).trans h.z0, (hb.cell (p := ⟨g, 1, none⟩) h.lt).trans h.z1, (hb.cell (p := ⟨g, 2, none⟩) h.lt).trans h.z2,
   (hb.frozen (p := ⟨g, 0, none⟩) h.lt).trans h.f0, (hb.frozen (p := ⟨g, 1, none⟩) h.lt).trans h.f1, (hb.frozen (p := ⟨g, 2, none⟩) h.lt).trans h.f2⟩
theorem Z3.new (w : World) : Z3 (w.alloc (.cells #[.bool false, .slice none 0 0, .slice none 0 0] 71)) w.heap.size := by
  constructor <;> simp
theorem stepZ {w w1 w2 : World} {p0 p1 p2 : Addr} {x0 x1 x2 : Value} {g h B : Nat} (hB : B ≤ w.heap.size) (H : w1.cell? p0 = some x0 ∧ w1.cell? p1 = some x1 ∧ w1.cell? p2 = some x2 ∧ Z3 w1 g ∧ Z3 w1 h ∧ Below B w w1) (hb : Below w1.heap.size w1 w2) :
    w2.cell? p0 = some x0 ∧ w2.cell? p1 = some x1 ∧ w2.cell? p2 = some x2 ∧ Z3 w2 g ∧ Z3 w2 h ∧ Below B w w2 := by
  obtain ⟨h0, h1, h2, h3, h4, hq⟩ := H
  exact ⟨(hb.cell (p := p0) (World.block_lt_of_cell? _ _ h0)).trans h0, (hb.cell (p := p1) (World.block_lt_of_cell? _ _ h1)).trans h1, (hb.cell (p := p2) (World.block_lt_of_cell? _ _ h2)).trans h2, h3.below hb, h4.below hb, hq.trans (hb.mono (Nat.le_trans hB hq.size))⟩
theorem Z3.belowB {w w' : World} {g B : Nat} (h : Z3 w g) (hb : Below B w w') (hg : g < B) : Z3 w' g :=
  ⟨(hb.cell (p := ⟨g, 0, none⟩) hg).trans h.z0, (hb.cell (p := ⟨g, 1, none⟩) hg).trans h.z1, (hb.cell (p := ⟨g, 2, none⟩) hg).trans h.z2,
   (hb.frozen (p := ⟨g, 0, none⟩) hg).trans h.f0, (hb.frozen (p := ⟨g, 1, none⟩) hg).trans h.f1, (hb.frozen (p := ⟨g, 2, none⟩) hg).trans h.f2⟩
theorem stepZb {w w1 w2 : World} {b0 i0 i1 i2 : Nat} {x0 x1 x2 : Value} {g h B B2 : Nat} (hB : B ≤ w.heap.size) (H : w1.cell? ⟨b0, i0, none⟩ = some x0 ∧ w1.cell? ⟨b0, i1, none⟩ = some x1 ∧ w1.cell? ⟨b0, i2, none⟩ = some x2 ∧ Z3 w1 g ∧ Z3 w1 h ∧ Below B w w1) (hb : Below B2 w1 w2) (hp : b0 < B2) (hg : g < B2) (hh : h < B2) (hBB : B ≤ B2 := by omega) :
    w2.cell? ⟨b0, i0, none⟩ = some x0 ∧ w2.cell? ⟨b0, i1, none⟩ = some x1 ∧ w2.cell? ⟨b0, i2, none⟩ = some x2 ∧ Z3 w2 g ∧ Z3 w2 h ∧ Below B w w2 := by
  obtain ⟨h0, h1, h2, h3, h4, hq⟩ := H
  exact ⟨(hb.cell hp).trans h0, (hb.cell hp).trans h1, (hb.cell hp).trans h2, h3.belowB hb hg, h4.belowB hb hh, hq.trans (hb.mono hBB)⟩
theorem ltZ {w w1 : World} {p0 p1 p2 : Addr} {x0 x1 x2 : Value} {g h B : Nat} (H : w1.cell? p0 = some x0 ∧ w1.cell? p1 = some x1 ∧ w1.cell? p2 = some x2 ∧ Z3 w1 g ∧ Z3 w1 h ∧ Below B w w1) : h < w1.heap.size := H.2.2.2.2.1.lt
theorem lastZ {w w1 : World} {p0 p1 p2 : Addr} {x0 x1 x2 : Value} {g h B : Nat} (H : w1.cell? p0 = some x0 ∧ w1.cell? p1 = some x1 ∧ w1.cell? p2 = some x2 ∧ Z3 w1 g ∧ Z3 w1 h ∧ Below B w w1) : Below B w w1 := H.2.2.2.2.2
theorem startZ (w : World) (x0 x1 x2 : Value) :
    (((w.alloc (.cells #[x0, x1, x2] 71)).alloc (.cells #[.bool false, .slice none 0 0, .slice none 0 0] 71)).alloc (.cells #[.bool false, .slice none 0 0, .slice none 0 0] 71)).drew.cell? ⟨w.heap.size, 0, none⟩ = some x0 ∧
    (((w.alloc (.cells #[x0, x1, x2] 71)).alloc (.cells #[.bool false, .slice none 0 0, .slice none 0 0] 71)).alloc (.cells #[.bool false, .slice none 0 0, .slice none 0 0] 71)).drew.cell? ⟨w.heap.size, 1, none⟩ = some x1 ∧
    (((w.alloc (.cells #[x0, x1, x2] 71)).alloc (.cells #[.bool false, .slice none 0 0, .slice none 0 0] 71)).alloc (.cells #[.bool false, .slice none 0 0, .slice none 0 0] 71)).drew.cell? ⟨w.heap.size, 2, none⟩ = some x2 ∧
    Z3 (((w.alloc (.cells #[x0, x1, x2] 71)).alloc (.cells #[.bool false, .slice none 0 0, .slice none 0 0] 71)).alloc (.cells #[.bool false, .slice none 0 0, .slice none 0 0] 71)).drew (w.heap.size + 1) ∧
    Z3 (((w.alloc (.cells #[x0, x1, x2] 71)).alloc (.cells #[.bool false, .slice none 0 0, .slice none 0 0] 71)).alloc (.cells #[.bool false, .slice none 0 0, .slice none 0 0] 71)).drew (w.heap.size + 1 + 1) ∧
    Below w.heap.size w (((w.alloc (.cells #[x0, x1, x2] 71)).alloc (.cells #[.bool false, .slice none 0 0, .slice none 0 0] 71)).alloc (.cells #[.bool false, .slice none 0 0, .slice none 0 0] 71)).drew := by
  have hZ : (w.alloc (.cells #[x0, x1, x2] 71)).heap.size = w.heap.size + 1 := by simp
  have hT0 := ((Below.refl _ (w.alloc (.cells #[x0, x1, x2] 71))).alloc (Nat.le_refl _) (.cells #[.bool false, .slice none 0 0, .slice none 0 0] 71)).alloc (by simp) (.cells #[.bool false, .slice none 0 0, .slice none 0 0] 71)
  have hT := hT0.drew
  have hlt : w.heap.size < (w.alloc (.cells #[x0, x1, x2] 71)).heap.size := by omega
  refine ⟨(hT.cell (p := ⟨w.heap.size, 0, none⟩) hlt).trans (World.cell?_alloc_new w _ _ 0), (hT.cell (p := ⟨w.heap.size, 1, none⟩) hlt).trans (World.cell?_alloc_new w _ _ 1), (hT.cell (p := ⟨w.heap.size, 2, none⟩) hlt).trans (World.cell?_alloc_new w _ _ 2), ?_, ?_, ((((Below.refl _ _).alloc (Nat.le_refl _) _).alloc (by simp) _).alloc (by simp; omega) _).drew⟩
  · have := Z3.new (w.alloc (.cells #[x0, x1, x2] 71))
    rw [show (w.alloc (.cells #[x0, x1, x2] 71)).heap.size = w.heap.size + 1 by simp] at this
    exact (this.below ((Below.refl _ _).alloc (Nat.le_refl _) _)).below (Below.refl _ _).drew
  · have := Z3.new ((w.alloc (.cells #[x0, x1, x2] 71)).alloc (.cells #[.bool false, .slice none 0 0, .slice none 0 0] 71))
    rw [show ((w.alloc (.cells #[x0, x1, x2] 71)).alloc (.cells #[.bool false, .slice none 0 0, .slice none 0 0] 71)).heap.size = w.heap.size + 1 + 1 by simp] at this
    exact this.below (Below.refl _ _).drew
inductive SplitN (n : Nd) (w : World) (e : Ending) (w' : World) : Prop
  | mk (u v : Value) (he : e = .returned (.tuple #[u, .string (str (Sl.spK n)), v])) (hu : NdV w' u (Sl.spA n)) (hv : NdV w' v (Sl.spB n)) (hb : Below w.heap.size w w')
theorem splitT_any (v : Value) (n : Nd) (w : World) (hv : NdV w v n) (hlf : n.leaf = true) (hl : n.cs.length ≤ 100000) (hok : ∀ x ∈ n.cs, okC x) :
    Calls Tryz.prog 101 #[v] w (SplitN n w) := by
  obtain ⟨vc, vk, rfl, hc, hcc, hk, hkk⟩ := hv
  have HH := Lib.hid (fun W (hW : Below w.heap.size w W) => halvesC_any vc n.cs hl hok W (hc.below hW) hcc)
  have HLV := Lib.hid (fun W => leaves_any W)
  rw [hlf]
  unfold ndV
  obtain ⟨a, m, c, _, _, _⟩ := hcc
  obtain ⟨a', m', c', _, _, _⟩ := hkk
  unfold shpC at HH HLV
  clear hc hk hl hok
  have HST := Lib.hid (startZ w (.bool true) (.slice a m c) (.slice a' m' c'))
  go_enter Tryz.func101, Tryz.ntmps101
  go_wp2_with fail
  go_region_held3 (fun w' => w'.cell? ⟨w.heap.size, 0, none⟩ = some (.bool true) ∧ w'.cell? ⟨w.heap.size, 1, none⟩ = some (.slice a m c) ∧ w'.cell? ⟨w.heap.size, 2, none⟩ = some (.slice a' m' c') ∧ Z3 w' (w.heap.size + 1) ∧ Z3 w' (w.heap.size + 1 + 1) ∧ Below w.heap.size w w')
    ((first | assumption | exact stepZ (Nat.le_refl _) ‹_› hb | exact HST.out))
    (first
    | (go_at_call 55; refine (HLV.out _).mono ?_; rintro e w1 ⟨rfl, hb⟩)
    | (go_at_call 142; refine (HH.out _ (lastZ (by assumption))).mono ?_; rintro e w2 ⟨v1, v2, B2, rfl, hr1, hlo, hr2, hB1, hB2, hb⟩; have HLO := Lib.hid hlo; have HB1 := Lib.hid hB1; have HB2 := Lib.hid hB2; have HQ1 : Hid (w.heap.size + 1 + 1 < w1.heap.size) := ltZ (by assumption); have HR1 := Lib.hid hr1; have HR2 := Lib.hid hr2; clear hr1 hr2 hlo))
  rename_i hS
  have HS := Lib.hid hS
  clear hS
  obtain ⟨a1, n1, c1, ha1, hc1, hn1⟩ := HR1.out.cap
  obtain ⟨a2, n2, c2, ha2, hc2, hn2⟩ := HR2.out.cap
  have HL1 := Lib.hid (fun W => leaf_any (.slice a1 n1 c1) ⟨a1, n1, c1, ha1, hc1, hn1⟩ W)
  have HL2 := Lib.hid (fun W => leaf_any (.slice a2 n2 c2) ⟨a2, n2, c2, ha2, hc2, hn2⟩ W)
  have HFK := Lib.hid (fun W (hW : SlC W (.slice a2 n2 c2) (n.cs.drop (Sl.cutAt Sl.shC n.cs))) => firstKeyC_any _ _ W hW)
  unfold ndV at HL1 HL2
  unfold shpC at HFK
  have HSZ := Lib.hid (lastZ HS.out).size
  go_wp2_with (first
    | (go_at_call 98; with_reducible refine (HL2.out _).mono ?_; rintro e w6 ⟨rfl, hb6⟩; have HS6 := Lib.hid (stepZ (Nat.le_refl _) HS5.out hb6); have HR16 := Lib.hid (HR15.out.below hb6); have HR26 := Lib.hid (HR25.out.below hb6); have z0 := HS6.out.2.2.2.1.z0; have z1 := HS6.out.2.2.2.1.z1; have z2 := HS6.out.2.2.2.1.z2; have z3 := HS6.out.2.2.2.1.f0; have z4 := HS6.out.2.2.2.1.f1; have z5 := HS6.out.2.2.2.1.f2; have y0 := HS6.out.2.2.2.2.1.z0; have y1 := HS6.out.2.2.2.2.1.z1; have y2 := HS6.out.2.2.2.2.1.z2; have y3 := HS6.out.2.2.2.2.1.f0; have y4 := HS6.out.2.2.2.2.1.f1; have y5 := HS6.out.2.2.2.2.1.f2)
    | (go_at_call 143; with_reducible refine (HFK.out _ HR24.out.sl).mono ?_; rintro e w5 ⟨rfl, hb5⟩; have HS5 := Lib.hid (stepZ (Nat.le_refl _) HS4.out hb5); have HR15 := Lib.hid (HR14.out.below hb5); have HR25 := Lib.hid (HR24.out.below hb5))
    | (go_at_call 55; with_reducible refine (HLV.out _).mono ?_; rintro e w4 ⟨rfl, hb4⟩; have HS4 := Lib.hid (stepZ (Nat.le_refl _) HS3.out hb4); have HR14 := Lib.hid (HR13.out.below hb4); have HR24 := Lib.hid (HR23.out.below hb4))
    | (go_at_call 98; with_reducible refine (HL1.out _).mono ?_; rintro e w3 ⟨rfl, hb3⟩; have HS3 := Lib.hid (stepZ (Nat.le_refl _) HS.out hb3); have HR13 := Lib.hid (HR1.out.below hb3); have HR23 := Lib.hid (HR2.out.below hb3)))
  have HRA := HR16.out
  have HRB := HR26.out
  have HQ := HQ1.out
  have hq1 : w.heap.size + 1 < w1.heap.size := by omega
  have hq2 : w.heap.size + 1 + 1 < w1.heap.size := HQ
  have hq3 : w.heap.size + 1 < B2 := Nat.lt_of_lt_of_le hq1 HB1.out
  have hq4 : w.heap.size + 1 + 1 < B2 := Nat.lt_of_lt_of_le hq2 HB1.out
  refine bodyPost_ret_by (v := .tuple #[ndV true (.slice a1 n1 c1) (.slice none 0 0), .string (str (Sl.fkey Sl.shC (n.cs.drop (Sl.cutAt Sl.shC n.cs)))), ndV true (.slice a2 n2 c2) (.slice none 0 0)]) ?_ rfl ?_
  · simp [ndV, results, Tryz.results101, go_sem, z0, z1, z2, y0, y1, y2]
  · refine ⟨ndV true (.slice a1 n1 c1) (.slice none 0 0), ndV true (.slice a2 n2 c2) (.slice none 0 0), ?_, ?_, ?_, ?_⟩
    · unfold Sl.spK; rw [hlf]; rfl
    · have h1 : Sl.spA n = ⟨true, n.cs.take (Sl.cutAt Sl.shC n.cs), []⟩ := by unfold Sl.spA; rw [if_pos hlf]
      rw [h1]
      exact ⟨.slice a1 n1 c1, .slice none 0 0, rfl, ((((((HRA.set hq1 _).set hq1 _).set hq1 _).set hq2 _).set hq2 _).set hq2 _).sl, ⟨_, _, _, ha1, hc1, hn1⟩, SlK.nil _, cap_nil⟩
    · have h1 : Sl.spB n = ⟨true, n.cs.drop (Sl.cutAt Sl.shC n.cs), []⟩ := by unfold Sl.spB; rw [if_pos hlf]
      rw [h1]
      exact ⟨.slice a2 n2 c2, .slice none 0 0, rfl, ((((((HRB.set hq3 _).set hq3 _).set hq3 _).set hq4 _).set hq4 _).set hq4 _).sl, ⟨_, _, _, ha2, hc2, hn2⟩, SlK.nil _, cap_nil⟩
    · exact ((((((lastZ HS6.out).setCell (Nat.le_succ _) _).setCell (Nat.le_succ _) _).setCell (Nat.le_succ _) _).setCell (by show _ ≤ _; simp; omega) _).setCell (by show _ ≤ _; simp; omega) _).setCell (by show _ ≤ _; simp; omega) _
theorem splitF_any (v : Value) (n : Nd) (w : World) (hv : NdV w v n) (hlf : n.leaf = false) (hl : n.ks.length ≤ 100000) (hok : ∀ x ∈ n.ks, okK x) :
    Calls Tryz.prog 101 #[v] w (SplitN n w) := by
  obtain ⟨vc, vk, rfl, hc, hcc, hk, hkk⟩ := hv
  have HH := Lib.hid (fun W (hW : Below w.heap.size w W) => halvesK_any vk n.ks hl hok W (hk.below hW) hkk)
  have HLV := Lib.hid (fun W => kids_any W)
  rw [hlf]
  unfold ndV
  obtain ⟨a, m, c, _, _, _⟩ := hcc
  obtain ⟨a', m', c', _, _, _⟩ := hkk
  unfold shpK at HH HLV
  clear hc hk hl hok
  have HST := Lib.hid (startZ w (.bool false) (.slice a m c) (.slice a' m' c'))
  go_enter Tryz.func101, Tryz.ntmps101
  go_wp2_with fail
  go_region_held3 (fun w' => w'.cell? ⟨w.heap.size, 0, none⟩ = some (.bool false) ∧ w'.cell? ⟨w.heap.size, 1, none⟩ = some (.slice a m c) ∧ w'.cell? ⟨w.heap.size, 2, none⟩ = some (.slice a' m' c') ∧ Z3 w' (w.heap.size + 1) ∧ Z3 w' (w.heap.size + 1 + 1) ∧ Below w.heap.size w w')
    ((first | assumption | exact stepZ (Nat.le_refl _) ‹_› hb | exact HST.out))
    (first
    | (go_at_call 145; refine (HLV.out _).mono ?_; rintro e w1 ⟨rfl, hb⟩)
    | (go_at_call 144; refine (HH.out _ (lastZ (by assumption))).mono ?_; rintro e w2 ⟨v1, v2, B2, rfl, hr1, hlo, hr2, hB1, hB2, hb⟩; have HLO := Lib.hid hlo; have HB1 := Lib.hid hB1; have HB2 := Lib.hid hB2; have HQ1 : Hid (w.heap.size + 1 + 1 < w1.heap.size) := ltZ (by assumption); have HR1 := Lib.hid hr1; have HR2 := Lib.hid hr2; clear hr1 hr2 hlo))
  rename_i hS
  have HS := Lib.hid hS
  clear hS
  obtain ⟨a1, n1, c1, ha1, hc1, hn1⟩ := HR1.out.cap
  obtain ⟨a2, n2, c2, ha2, hc2, hn2⟩ := HR2.out.cap
  have HL1 := Lib.hid (fun W => branch_any (.slice a1 n1 c1) ⟨a1, n1, c1, ha1, hc1, hn1⟩ W)
  have HL2 := Lib.hid (fun W => branch_any (.slice a2 n2 c2) ⟨a2, n2, c2, ha2, hc2, hn2⟩ W)
  have HFK := Lib.hid (fun W (hW : SlK W (.slice a2 n2 c2) (n.ks.drop (Sl.cutAt Sl.shK n.ks))) => firstKeyK_any _ _ W hW)
  have HKY := Lib.hid (fun W (hW : RowK W B2 (.slice a2 n2 c2) (n.ks.drop (Sl.cutAt Sl.shK n.ks))) (hB : B2 ≤ W.heap.size) => keyed_any _ _ [] B2 W hW hB)
  unfold ndV at HL1 HL2
  unfold shpK at HFK
  rw [show str [] = ByteArray.empty from rfl] at HKY
  have HSZ := Lib.hid (lastZ HS.out).size
  have HQ := HQ1.out
  have hq1 : w.heap.size + 1 < w1.heap.size := by omega
  have hq2 : w.heap.size + 1 + 1 < w1.heap.size := HQ
  have hq3 : w.heap.size + 1 < B2 := Nat.lt_of_lt_of_le hq1 HB1.out
  have hq4 : w.heap.size + 1 + 1 < B2 := Nat.lt_of_lt_of_le hq2 HB1.out
  have hq0 : w.heap.size < B2 := by omega
  go_wp2_with (first
    | (go_at_call 115; with_reducible refine (HL2.out _).mono ?_; rintro e w7 ⟨rfl, hb7⟩; have HS7 := Lib.hid (stepZ (Nat.le_refl _) HS6.out hb7); have HR17 := Lib.hid (HR16.out.below hb7); have HR27 := Lib.hid (HR26.out.below hb7); have z0 := HS7.out.2.2.2.1.z0; have z1 := HS7.out.2.2.2.1.z1; have z2 := HS7.out.2.2.2.1.z2; have z3 := HS7.out.2.2.2.1.f0; have z4 := HS7.out.2.2.2.1.f1; have z5 := HS7.out.2.2.2.1.f2; have y0 := HS7.out.2.2.2.2.1.z0; have y1 := HS7.out.2.2.2.2.1.z1; have y2 := HS7.out.2.2.2.2.1.z2; have y3 := HS7.out.2.2.2.2.1.f0; have y4 := HS7.out.2.2.2.2.1.f1; have y5 := HS7.out.2.2.2.2.1.f2)
    | (go_at_call 147; refine (HKY.out _ HR25.out HZ5.out).mono ?_; rintro e w6 ⟨rfl, hr6, hb6⟩; have HS6 := Lib.hid (stepZb (Nat.le_refl _) HS5.out hb6 hq0 hq3 hq4); have HR16 := Lib.hid (HR15.out.keep HLO.out hb6); have HR26 := Lib.hid hr6)
    | (go_at_call 115; with_reducible refine (HL1.out _).mono ?_; rintro e w5 ⟨rfl, hb5⟩; have HS5 := Lib.hid (stepZ (Nat.le_refl _) HS4.out hb5); have HR15 := Lib.hid (HR14.out.below hb5); have HR25 := Lib.hid (HR24.out.below hb5); have HZ5 := Lib.hid (Nat.le_trans HZ4.out hb5.size))
    | (go_at_call 146; with_reducible refine (HFK.out _ HR23.out.sl).mono ?_; rintro e w4 ⟨rfl, hb4⟩; have HS4 := Lib.hid (stepZ (Nat.le_refl _) HS3.out hb4); have HR14 := Lib.hid (HR13.out.below hb4); have HR24 := Lib.hid (HR23.out.below hb4); have HZ4 := Lib.hid (Nat.le_trans HZ3.out hb4.size))
    | (go_at_call 145; with_reducible refine (HLV.out _).mono ?_; rintro e w3 ⟨rfl, hb3⟩; have HS3 := Lib.hid (stepZ (Nat.le_refl _) HS.out hb3); have HR13 := Lib.hid (HR1.out.below hb3); have HR23 := Lib.hid (HR2.out.below hb3); have HZ3 := Lib.hid (Nat.le_trans HB2.out hb3.size)))
  have HRA := HR17.out
  have HRB := HR27.out
  refine bodyPost_ret_by (v := .tuple #[ndV false (.slice none 0 0) (.slice a1 n1 c1), .string (str (Sl.fkey Sl.shK (n.ks.drop (Sl.cutAt Sl.shK n.ks)))), ndV false (.slice none 0 0) (.slice a2 n2 c2)]) ?_ rfl ?_
  · simp [ndV, results, Tryz.results101, go_sem, z0, z1, z2, y0, y1, y2]
  · refine ⟨ndV false (.slice none 0 0) (.slice a1 n1 c1), ndV false (.slice none 0 0) (.slice a2 n2 c2), ?_, ?_, ?_, ?_⟩
    · unfold Sl.spK; rw [hlf]; rfl
    · have h1 : Sl.spA n = ⟨false, [], n.ks.take (Sl.cutAt Sl.shK n.ks)⟩ := by unfold Sl.spA; rw [hlf]; rfl
      rw [h1]
      exact ⟨.slice none 0 0, .slice a1 n1 c1, rfl, SlC.nil _, cap_nil, ((((((HRA.set hq1 _).set hq1 _).set hq1 _).set hq2 _).set hq2 _).set hq2 _).sl, ⟨_, _, _, ha1, hc1, hn1⟩⟩
    · have h1 : Sl.spB n = ⟨false, [], Sl.setK [] (n.ks.drop (Sl.cutAt Sl.shK n.ks))⟩ := by unfold Sl.spB; rw [hlf]; rfl
      rw [h1]
      exact ⟨.slice none 0 0, .slice a2 n2 c2, rfl, SlC.nil _, cap_nil, ((((((HRB.set hq3 _).set hq3 _).set hq3 _).set hq4 _).set hq4 _).set hq4 _).sl, ⟨_, _, _, ha2, hc2, hn2⟩⟩
    · exact ((((((lastZ HS7.out).setCell (Nat.le_succ _) _).setCell (Nat.le_succ _) _).setCell (Nat.le_succ _) _).setCell (by show _ ≤ _; simp; omega) _).setCell (by show _ ≤ _; simp; omega) _).setCell (by show _ ≤ _; simp; omega) _
theorem split_any (v : Value) (n : Nd) (w : World) (hv : NdV w v n) (h1 : n.cs.length ≤ 100000) (h2 : n.ks.length ≤ 100000) (o1 : ∀ x ∈ n.cs, okC x) (o2 : ∀ x ∈ n.ks, okK x) :
    Calls Tryz.prog 101 #[v] w (SplitN n w) := by
  cases h : n.leaf with
  | true => exact splitT_any v n w hv h h1 o1
  | false => exact splitF_any v n w hv h h2 o2
end Go.Proofs.YtdgcdekgleegbaaGreat
