/- The contract of a node's halves. -/
import Derived.Test.YtilccpklbaglpaaClnK
import Derived.Test.YtilccpklbaglpaaSteps
import Derived.Deep.RegionHeld3
set_option maxRecDepth 100000
set_option maxHeartbeats 4000000
set_option linter.unusedVariables false
namespace Go.Proofs.Ytilccpklbaglpaa
open Go.RowKit
open Sl (Cl Kd)
/-- Two rows of the call's own. -/
inductive HalfK (l m : List Kd) (w : World) (e : Ending) (w' : World) : Prop
  | mk (u v : Value) (B : Nat) (he : e = .returned (.tuple #[u, v])) (hu : RowK w' w.heap.size u l) (hlo : ∀ k, u.ownBlock = some k → k < B) (hv : RowK w' B v m) (h1 : w.heap.size ≤ B) (h2 : B ≤ w'.heap.size) (hb : Below w.heap.size w w')
set_option maxRecDepth 100000 in
theorem halvesK_any (v : Value) (l : List Kd) (hll : l.length ≤ 100000) (hl : ∀ x ∈ l, okK x) (w : World) (hv : SlK w v l) (hc : Cap v) :
    Calls Try.prog 58 #[shpK, v] w (HalfK (l.take (Sl.cutAt Sl.shK l)) (l.drop (Sl.cutAt Sl.shK l)) w) := by
  have HL := Lib.hid hl
  have HS1 := Lib.hid (fun W (hW : SlK W v l) => sumK_any v l hll hl W hW)
  have HV := Lib.hid hv
  have HVB : Hid (∀ W, Below w.heap.size w W → SlK W v l) := fun W hW => hv.below hW
  obtain ⟨a, b, o, c, rfl, ha, hx⟩ := hv
  have hcap : l.length ≤ c := by cases hc; assumption
  have hcm : c ≤ maxLen := by cases hc; assumption
  unfold maxLen at hcm
  have HX := Lib.hid hx
  have HA := Lib.hid ha
  clear hl ha hx hc
  unfold shpK at HS1 ⊢
  have HB0 := Lib.hid (BxK.new w)
  have hsm : Sl.sum Sl.shK l ≤ 6579600000 := by have := encK_le l l.length hll; rwa [List.take_length] at this
  go_enter Try.func58, Try.ntmps58
  go_wp2_with (go_at_call 94; refine (HS1.out _ (HVB.out _ ((Below.refl _ _).alloc (Nat.le_refl _) _))).mono ?_; rintro e w1 ⟨rfl, hb1⟩)
  have HB1 := Lib.hid (HB0.out.below hb1 (by simp))
  have HW1 : Hid (Below w.heap.size w w1) := ((Below.refl _ _).alloc (Nat.le_refl _) _).trans (hb1.mono (by simp))
  have HG1 := Lib.hid HB1.out.lt
  clear hb1 HB0 HS1
  revert HB1 HW1 HG1
  generalize hg : w.heap.size = g
  have HG := Lib.hid hg
  clear hg
  intro HB1 HW1 HG1
  go_loopg [6, 7, 9, 10] l.length (fun n c m s i wr => ∃ k : Nat, k ≤ l.length ∧ n = l.length - k ∧ i = .int .i64 ((k : Int) + 1) ∧ c = .int .i64 (Sl.st Sl.shK l k).1 ∧ m = .int .i64 (Sl.st Sl.shK l k).2 ∧ s = .int .i64 (Sl.sum Sl.shK (l.take k) : Nat) ∧ Hid (k = 0 ∨ k < l.length) ∧ Hid (Below (g + 1) w1 wr))
  case atStart => exact ⟨0, Nat.zero_le _, rfl, rfl, rfl, rfl, rfl, .inl rfl, Below.refl _ _⟩
  case round =>
    obtain ⟨k, hk, rfl, rfl, rfl, rfl, rfl, HK, HB⟩ := hrel
    by_cases hlt : k + 1 < l.length
    · obtain ⟨x, hx⟩ := take_some l k (by omega)
      obtain ⟨e0, e1⟩ := HX.out k x hx
      have hblt : b < g := by have h1 := World.block_lt_of_cell? _ _ e0; rw [HG.out] at h1; exact h1
      have HWr := Lib.hid (HW1.out.trans (HB.out.mono (Nat.le_succ g)))
      have d0 := (HWr.out.cell (p := ⟨b, o + k * 2, none⟩) hblt).trans e0
      have d1 := (HWr.out.cell (p := ⟨b, o + k * 2 + 1, none⟩) hblt).trans e1
      have HR := Lib.hid (HB1.out.below HB.out (Nat.lt_succ_self g))
      obtain rfl : a = some ⟨b, o, none⟩ := by
        rcases HA.out with h | h
        · rw [h] at hlt; cases hlt
        · exact h
      have HSK := Lib.hid ((congrArg (Sl.sum Sl.shK) (Sl.take_snoc' l k x hx)).trans (Sl.sum_snoc Sl.shK (l.take k) x))
      have HZ := Lib.hid (fun W => sizeK_any x (HL.out x (List.mem_of_getElem? hx)) W)
      have hz : (Sl.shK.enc x).length ≤ 65794 := by first | exact Sl.encC_len x | exact Nat.le_trans (Sl.encK_len x) (by decide)
      have hsk := encK_le l k hll
      have HDF : Hid (Sl.dif Sl.shK l (k + 1) = ((2 * Sl.sum Sl.shK (l.take (k + 1)) : Nat) - (Sl.sum Sl.shK l : Nat) : Int).natAbs) := rfl
      have HL0 := fun (h : k ≠ 0) (h' : Sl.dif Sl.shK l (k + 1) < (Sl.st Sl.shK l k).2) => Lib.hid (Sl.st_less Sl.shK l k h h')
      have HL1 := fun (h : k ≠ 0) (h' : ¬ Sl.dif Sl.shK l (k + 1) < (Sl.st Sl.shK l k).2) => Lib.hid (Sl.st_keep Sl.shK l k h h')
      have HF1 := Lib.hid (Sl.st_first Sl.shK l)
      have hF : Hid (wr.drew.cell? ⟨g, 0, none⟩ = some (.func (.func 87) #[] #[]) ∧ wr.drew.cell? ⟨g, 1, none⟩ = some (.func (.func 89) #[] #[]) ∧ wr.drew.cell? ⟨g, 2, none⟩ = some (.func (.func 90) #[] #[]) ∧ wr.drew.cell? ⟨g, 3, none⟩ = some (.nilFunc) ∧ wr.drew.cell? ⟨b, o + k * 2, none⟩ = some (.string (str x.key)) ∧ wr.drew.cell? ⟨b, o + k * 2 + 1, none⟩ = some (.int .u32 x.page) ∧ Below (g + 1) w1 wr.drew) := ⟨HR.out.c0, HR.out.c1, HR.out.c2, HR.out.c3, d0, d1, HB.out.drew⟩
      clear hblt hx
      unfold shpK aggK at HZ
      have hwr1 : IntKind.i64.wrap ((k : Int) + 1 - 1) = (k : Int) := by rw [show (k : Int) + 1 - 1 = k by omega]; exact IntWalk.i64_in _ (by omega)
      have hwr0 : IntKind.i64.wrap (k : Int) = (k : Int) := IntWalk.i64_in _ (by omega)
      have hk0 : (0 : Int) ≤ (k : Int) := by omega
      have hk1 : (k : Int) < l.length := by omega
      have hwr2 : IntKind.i64.wrap ((Sl.sum Sl.shK (l.take k) : Int) + ((2 + (Sl.shK.enc x).length : Nat) : Int)) = (Sl.sum Sl.shK (l.take (k + 1)) : Nat) := by rw [HSK.out]; rw [IntWalk.i64_in _ (by omega)]; omega
      go_wp2_with fail
      go_region_held3 (fun w' => w'.cell? ⟨g, 0, none⟩ = some (.func (.func 87) #[] #[]) ∧ w'.cell? ⟨g, 1, none⟩ = some (.func (.func 89) #[] #[]) ∧ w'.cell? ⟨g, 2, none⟩ = some (.func (.func 90) #[] #[]) ∧ w'.cell? ⟨g, 3, none⟩ = some (.nilFunc) ∧ w'.cell? ⟨b, o + k * 2, none⟩ = some (.string (str x.key)) ∧ w'.cell? ⟨b, o + k * 2 + 1, none⟩ = some (.int .u32 x.page) ∧ Below (g + 1) w1 w')
        ((first | assumption | exact step6 (Nat.succ_le_of_lt HG1.out) ‹_› hb | exact hF.out))
        (first
        | (go_at_call 95; refine (HZ.out _).mono ?_; rintro e w4 ⟨rfl, hb⟩))
      rename_i hS
      have HB4 := Lib.hid (last6 hS)
      clear hS
      have HSK2 := Lib.hid HSK.out
      have hdd : ((Sl.dif Sl.shK l (k + 1) : Nat) : Int) = 2 * ((Sl.sum Sl.shK (l.take k) : Int) + (2 + ((Sl.shK.enc x).length : Int))) - (Sl.sum Sl.shK l : Int) ∨ ((Sl.dif Sl.shK l (k + 1) : Nat) : Int) = (Sl.sum Sl.shK l : Int) - 2 * ((Sl.sum Sl.shK (l.take k) : Int) + (2 + ((Sl.shK.enc x).length : Int))) := by
        rw [HDF.out, HSK.out]; omega
      have hdd0 : (0 : Int) ≤ ((Sl.dif Sl.shK l (k + 1) : Nat) : Int) := by omega
      have HDD := Lib.hid hdd
      clear hdd
      clear HSK
      by_cases hmx : 2 * ((Sl.sum Sl.shK (l.take k) : Int) + (2 + ((Sl.shK.enc x).length : Int))) - (Sl.sum Sl.shK l : Int) < (Sl.sum Sl.shK l : Int) - 2 * ((Sl.sum Sl.shK (l.take k) : Int) + (2 + ((Sl.shK.enc x).length : Int)))
      all_goals by_cases h1 : (k : Int) + 1 = 1
      all_goals by_cases h2 : Sl.dif Sl.shK l (k + 1) < (Sl.st Sl.shK l k).2
      all_goals
        have hdn := HDD.out
        try (have h3 : (Sl.sum Sl.shK l : Int) - 2 * ((Sl.sum Sl.shK (l.take k) : Int) + (2 + ((Sl.shK.enc x).length : Int))) < ((Sl.st Sl.shK l k).2 : Nat) := by omega)
        try (have h3 : ¬ (Sl.sum Sl.shK l : Int) - 2 * ((Sl.sum Sl.shK (l.take k) : Int) + (2 + ((Sl.shK.enc x).length : Int))) < ((Sl.st Sl.shK l k).2 : Nat) := by omega)
        try (have h4 : 2 * ((Sl.sum Sl.shK (l.take k) : Int) + (2 + ((Sl.shK.enc x).length : Int))) - (Sl.sum Sl.shK l : Int) < ((Sl.st Sl.shK l k).2 : Nat) := by omega)
        try (have h4 : ¬ 2 * ((Sl.sum Sl.shK (l.take k) : Int) + (2 + ((Sl.shK.enc x).length : Int))) - (Sl.sum Sl.shK l : Int) < ((Sl.st Sl.shK l k).2 : Nat) := by omega)
        clear hdn
        go_wp2
        go_roundg (l.length - (k + 1))
        case measure => omega
        case rel =>
          have hdn := HDD.out
          have hsn := HSK2.out
          refine ⟨k + 1, by omega, rfl, by go_num, ?_, ?_, ?_, .inr hlt, HB4⟩
          · first
            | (rw [show Sl.st Sl.shK l (k + 1) = (k + 1, Sl.dif Sl.shK l (k + 1)) by (obtain rfl : k = 0 := by omega); exact HF1.out]; go_num)
            | (rw [(HL0 (by omega) h2).out]; go_num)
            | (rw [(HL1 (by omega) h2).out])
          · first
            | (rw [show Sl.st Sl.shK l (k + 1) = (k + 1, Sl.dif Sl.shK l (k + 1)) by (obtain rfl : k = 0 := by omega); exact HF1.out]; show Value.int _ _ = Value.int _ _; congr 1; show _ = ((Sl.dif Sl.shK l (k + 1) : Nat) : Int); omega)
            | (rw [(HL0 (by omega) h2).out]; show Value.int _ _ = Value.int _ _; congr 1; show _ = ((Sl.dif Sl.shK l (k + 1) : Nat) : Int); omega)
            | (rw [(HL1 (by omega) h2).out])
          · rw [HSK2.out]; show Value.int _ _ = Value.int _ _; congr 1 <;> first | (rw [IntWalk.i64_in _ (by omega)]; try omega) | omega
    · have hkk : k = l.length - 1 := by rcases HK.out with h | h <;> omega
      have HCA := Lib.hid (Sl.cutAt_st Sl.shK l)
      have HCL := Lib.hid (Sl.cutAt_le Sl.shK l)
      rw [← hkk] at HCA
      have HW3 := Lib.hid (HW1.out.trans (HB.out.mono (Nat.le_succ g)))
      have HVB' : Hid (∀ W, Below g w W → SlK W (.slice a l.length c) l) := fun W hW => HVB.out W (by rw [HG.out]; exact hW)
      clear HB HK hkk HL HV HVB hsm
      obtain ⟨q, hq⟩ : ∃ q, Sl.cutAt Sl.shK l = q := ⟨_, rfl⟩
      have HQ := Lib.hid hq
      rw [hq] at HCA HCL
      clear hq
      rw [← HCA.out]
      rcases HA.out with h | h
      · subst h
        obtain rfl : q = 0 := by have := HCL.out; simp at this; exact this
        have HC1 := Lib.hid (fun W (_ : Below g w W) => cloneK_any _ [] (by decide) W (SlK.emptyS W a c))
        have HC2 := Lib.hid (fun W (_ : Below g w W) => cloneK_any _ [] (by decide) W (SlK.emptyS W a c))
        clear HX HB1 HG1 HCA
        cases a with
        | none =>
          have HD : Hid (Below g w wr.drew) := HW3.out.drew
          go_wp2_with fail
          go_region_held3 (fun w' => Below g w w')
            ((first | assumption | exact ‹Below g w _›.trans (hb.mono (by have := (‹Below g w _› : Below g w _).size; rw [HG.out] at this; exact this)) | exact HD.out))
            (first
            | (go_at_call 63; with_reducible refine (HC2.out _ (by assumption)).mono ?_; rintro e w5 ⟨v2, rfl, hr2, hb⟩; have HR2 := Lib.hid hr2; have HS5 := Lib.hid hb.size; have HR1' := Lib.hid (HR1.out.below hb); clear hr2)
            | (go_at_call 63; with_reducible refine (HC1.out _ (by assumption)).mono ?_; rintro e w4 ⟨v1, rfl, hr1, hb⟩; have HR1 := Lib.hid hr1; have HS4 := Lib.hid (Nat.le_trans HD.out.size hb.size); have HLO := Lib.hid hr1.lo; clear hr1))
          rename_i hS
          have HBE := Lib.hid hS
          clear hS
          go_wp2
          go_ret2
          refine ⟨v1, v2, w4.heap.size, rfl, ?_, HLO.out, ?_, HS4.out, HS5.out, by rw [HG.out]; exact HBE.out⟩
          · rw [List.take_nil]; exact HR1'.out.base (Nat.le_trans HW3.out.size (Nat.le_refl _))
          · rw [List.drop_nil]; exact HR2.out
        | some ad =>
          have HD : Hid (Below g w wr.drew) := HW3.out.drew
          go_wp2_with fail
          go_region_held3 (fun w' => Below g w w')
            ((first | assumption | exact ‹Below g w _›.trans (hb.mono (by have := (‹Below g w _› : Below g w _).size; rw [HG.out] at this; exact this)) | exact HD.out))
            (first
            | (go_at_call 63; with_reducible refine (HC2.out _ (by assumption)).mono ?_; rintro e w5 ⟨v2, rfl, hr2, hb⟩; have HR2 := Lib.hid hr2; have HS5 := Lib.hid hb.size; have HR1' := Lib.hid (HR1.out.below hb); clear hr2)
            | (go_at_call 63; with_reducible refine (HC1.out _ (by assumption)).mono ?_; rintro e w4 ⟨v1, rfl, hr1, hb⟩; have HR1 := Lib.hid hr1; have HS4 := Lib.hid (Nat.le_trans HD.out.size hb.size); have HLO := Lib.hid hr1.lo; clear hr1))
          rename_i hS
          have HBE := Lib.hid hS
          clear hS
          go_wp2
          go_ret2
          refine ⟨v1, v2, w4.heap.size, rfl, ?_, HLO.out, ?_, HS4.out, HS5.out, by rw [HG.out]; exact HBE.out⟩
          · rw [List.take_nil]; exact HR1'.out.base (Nat.le_trans HW3.out.size (Nat.le_refl _))
          · rw [List.drop_nil]; exact HR2.out
      · subst h
        have hq0 : (0 : Int) ≤ (q : Int) := by omega
        have hq1 : (q : Int) ≤ l.length := by have := HCL.out; omega
        have hq2 : (q : Int) ≤ c := by omega
        have hq3 : (l.length : Int) ≤ c := by omega
        have HSW := Lib.hid (fun W (hW : Below g w W) => HVB'.out W hW)
        clear HX HB1 HG1 HCA
        have HC1 := Lib.hid (fun W (hW : Below g w W) => cloneK_any _ (l.take q) (by rw [List.length_take]; omega) W ((HSW.out W hW).takeS (c' := c) q HCL.out))
        by_cases hcq : c = q
        · have hlq : l.length = q := by omega
          subst hcq
          have hnn : (l.length : Int) - (c : Int) = 0 := by omega
          have hn2 : l.length - c = 0 := by omega
          have HC2 := Lib.hid (fun W (_ : Below g w W) => cloneK_any _ [] (by decide) W (SlK.emptyS W (some ⟨b, o, none⟩) 0))
          have HD : Hid (Below g w wr.drew) := HW3.out.drew
          go_wp2_with fail
          go_region_held3 (fun w' => Below g w w')
            ((first | assumption | exact ‹Below g w _›.trans (hb.mono (by have := (‹Below g w _› : Below g w _).size; rw [HG.out] at this; exact this)) | exact HD.out))
            (first
            | (go_at_call 63; with_reducible refine (HC2.out _ (by assumption)).mono ?_; rintro e w5 ⟨v2, rfl, hr2, hb⟩; have HR2 := Lib.hid hr2; have HS5 := Lib.hid hb.size; have HR1' := Lib.hid (HR1.out.below hb); clear hr2)
            | (go_at_call 63; with_reducible refine (HC1.out _ (by assumption)).mono ?_; rintro e w4 ⟨v1, rfl, hr1, hb⟩; have HR1 := Lib.hid hr1; have HS4 := Lib.hid (Nat.le_trans HD.out.size hb.size); have HLO := Lib.hid hr1.lo; clear hr1))
          rename_i hS
          have HBE := Lib.hid hS
          clear hS
          go_wp2
          go_ret2
          refine ⟨v1, v2, w4.heap.size, rfl, ?_, HLO.out, ?_, HS4.out, HS5.out, by rw [HG.out]; exact HBE.out⟩
          · rw [HQ.out]; exact HR1'.out.base (Nat.le_trans HW3.out.size (Nat.le_refl _))
          · rw [HQ.out, List.drop_eq_nil_of_le (by omega)]; exact HR2.out
        · have HC2 := Lib.hid (fun W (hW : Below g w W) => cloneK_any _ (l.drop q) (by rw [List.length_drop]; omega) W ((HSW.out W hW).dropS (c' := c - q) q))
          have HD : Hid (Below g w wr.drew) := HW3.out.drew
          go_wp2_with fail
          go_region_held3 (fun w' => Below g w w')
            ((first | assumption | exact ‹Below g w _›.trans (hb.mono (by have := (‹Below g w _› : Below g w _).size; rw [HG.out] at this; exact this)) | exact HD.out))
            (first
            | (go_at_call 63; with_reducible refine (HC2.out _ (by assumption)).mono ?_; rintro e w5 ⟨v2, rfl, hr2, hb⟩; have HR2 := Lib.hid hr2; have HS5 := Lib.hid hb.size; have HR1' := Lib.hid (HR1.out.below hb); clear hr2)
            | (go_at_call 63; with_reducible refine (HC1.out _ (by assumption)).mono ?_; rintro e w4 ⟨v1, rfl, hr1, hb⟩; have HR1 := Lib.hid hr1; have HS4 := Lib.hid (Nat.le_trans HD.out.size hb.size); have HLO := Lib.hid hr1.lo; clear hr1))
          rename_i hS
          have HBE := Lib.hid hS
          clear hS
          go_wp2
          go_ret2
          refine ⟨v1, v2, w4.heap.size, rfl, ?_, HLO.out, ?_, HS4.out, HS5.out, by rw [HG.out]; exact HBE.out⟩
          · rw [HQ.out]; exact HR1'.out.base (Nat.le_trans HW3.out.size (Nat.le_refl _))
          · rw [HQ.out]; exact HR2.out
end Go.Proofs.Ytilccpklbaglpaa
