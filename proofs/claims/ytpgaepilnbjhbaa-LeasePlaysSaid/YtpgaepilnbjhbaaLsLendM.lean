/- A table with a thing. -/
import Derived.Test.YtpgaepilnbjhbaaLsLend0M
set_option maxRecDepth 100000
set_option maxHeartbeats 4000000
set_option linter.unusedVariables false
namespace Go.Proofs.Ytpgaepilnbjhbaa
open Go.RowKit
open Ls (Txt Ln Ms sameL sameM low Mono)
attribute [local go_sem] store_fn store_nil
inductive LendOutM (fn : Value) (l : List Ms) (w : World) (e : Ending) (w' : World) : Prop
  | mk (v : Value) (he : e = .returned (.agg #[fn, v])) (hr : RowG cM 2 88 w' w.heap.size v l) (hb : Below w.heap.size w w')
set_option maxHeartbeats 8000000 in
theorem lendM_any (lt : Ms → Ms → Bool) (O : Ls.WO lt) (o0 : Ms → Int) (fn : Value) (hfn : IsFn fn) (sl : Value) (l : List Ms) (hl : l.length ≤ 900) (hu : Ls.Uni sameM l) (hs : Ls.Srt lt l) (x : Ms) (w : World) (hsl : SlG cM 2 w sl l)
    (hO : ∀ e sl' W, (∃ a n c, sl' = .slice a n c) → Calls Try.prog 41 #[.agg #[fn, sl'], .agg #[.string (str e.s), .int .u64 e.t], .agg #[.string (str x.s), .int .u64 x.t]] W fun r W' => r = .returned (.int .i64 (o0 e)) ∧ Below W.heap.size W W') (ho : ∀ e, decide (o0 e < 0) = lt e x) :
    Calls Try.prog 24 #[.agg #[fn, sl], .string (str x.s), .int .u64 x.t] w (LendOutM fn (Ls.lend lt sameM x l) w) := by
  obtain ⟨hT, hR, hB, hz⟩ := fM_start w fn sl x
  have HT := Lib.hid hT
  have HR := Lib.hid hR
  have HB := Lib.hid hB
  have HF := Lib.hid (fun W (hW : Below w.heap.size w W) => freeM_any fn hfn sl l (by omega) hu x W (hsl.below hW))
  have HS0 := Lib.hid hsl
  obtain ⟨sa, sc, rfl⟩ := hsl.slice
  obtain ⟨F, hF⟩ : ∃ F, F = Ls.free sameM x l := ⟨_, rfl⟩
  have hFl : F.length ≤ 900 := by rw [hF]; exact Nat.le_trans (Ls.free_len _ _ _) hl
  have hFs : Ls.Srt lt F := by rw [hF]; exact Ls.free_srt _ _ hs
  have hmono : Mono (fun e => decide (o0 e < 0)) F := by
    have := Ls.srt_mono O hFs x
    rwa [show (fun e => decide (o0 e < 0)) = (fun e => lt e x) from funext ho]
  have hLE : Ls.lend lt sameM x l = F.take (low (fun e => decide (o0 e < 0)) F) ++ ([x] ++ F.drop (low (fun e => decide (o0 e < 0)) F)) := by
    rw [show (fun e => decide (o0 e < 0)) = (fun e => lt e x) from funext ho, hF]; rfl
  have hk := Ls.low_le (fun e => decide (o0 e < 0)) F
  have HBI := Lib.hid (fun W v (hv : SlG cM 2 W v F) => binM_any (.agg #[fn, .slice sa l.length sc]) o0 v F (by omega) x W hv (fun e W => hO e _ W ⟨_, _, _, rfl⟩) hmono)
  have HLE := Lib.hid hLE
  rw [← hF] at HF
  generalize low (fun e => decide (o0 e < 0)) F = k at HBI hk HLE
  have HMF := Lib.hid hFl
  have HW := Lib.hid (fun a2 n2 c2 W => withM_any fn hfn (.slice sa l.length sc) (.slice a2 n2 c2) ⟨_, _, _, rfl⟩ ⟨_, _, _, rfl⟩ W)
  have hz2 : w.heap.size + 1 < (fw0M w fn (.slice sa l.length sc) x).heap.size := by omega
  have HZ2 := Lib.hid hz2
  clear hsl hO ho hF hFl hFs hmono hLE hT hR hB hs hu
  have hmf : ∀ (fn : Fn) (first cap : Array Value) (w : World), (Instr.makeFunc fn first cap).run Try.prog w = .ok (.func fn first cap) w := fun _ _ _ _ => rfl
  rcases hfn with ⟨kf, rfl⟩ | rfl
  · skip
    have hfd : ∀ (a : Option Addr) (n c : Nat) (W : World), (Instr.field 62 (.agg #[(.func (.func kf) #[] #[]), .slice a n c]) 1).run Try.prog W = .ok (.slice a n c) W := fun a n c W => by kernel_rfl
    go_enter Try.func24, Try.ntmps24
    go_upto_region 1 with fail
    go_cut [7, 8] (fun p s wx => ∃ (gb : Nat) (a : Option Addr) (n c : Nat), p = .pointer (some ⟨gb, 0, none⟩) ∧ s = .slice a n c ∧ Hid (LJM w (.func (.func kf) #[] #[]) (.slice sa l.length sc) F x gb (.slice a n c) wx))
    case first =>
      clear HBI HW hmf
      go_wp2_with (go_at_call 39; refine (HF.out _ HB.out).mono ?_; rintro e w1 ⟨v1, rfl, hs1, ⟨a1, n1, c1, rfl⟩, hb⟩; have HLJ := Lib.hid (ljM (x := x) HT.out HR.out HB.out HZ2.out HS0.out hb hs1); clear hs1)
      go_meet
      exact ⟨_, _, _, _, rfl, rfl, HLJ⟩
    case rest =>
      obtain ⟨gb, a, n, c, rfl, rfl, HJ⟩ := hcut
      have ht0 := HJ.out.T.c0
      have ht1 := HJ.out.T.c1
      have hbx := HJ.out.B.cells
      obtain ⟨hx0, hx1⟩ := hbx
      clear hz2
      go_wp2_with (go_at_call 40; refine (HBI.out _ _ HJ.out.S).mono ?_; rintro e w5 ⟨bf, rfl, hb⟩; have H5 := Lib.hid (HJ.out.below hb); clear hb)
      have hgb := H5.out.G
      have hz5 : w.heap.size + 1 < (w5.alloc (.cells (cM x).toArray 88)).heap.size := by have := H5.out.B.lt; simp; omega
      obtain ⟨a', sb, so, c', hv, hlc, hcm, ha0, ha, _⟩ := H5.out.S.get
      obtain ⟨rfl, rfl, rfl⟩ : a' = a ∧ F.length = n ∧ c' = c := by cases hv; exact ⟨rfl, rfl, rfl⟩
      have hcm' : c' ≤ 9223372036854775807 := hcm
      have hk1 : (k : Int) ≤ (F.length : Int) := by omega
      have hk2 : (0 : Int) ≤ (k : Int) := by omega
      have hk3 : (k : Int) ≤ (c' : Int) := by omega
      have hk4 : (F.length : Int) ≤ (c' : Int) := by omega
      have HA := Lib.hid ha
      clear ht0 ht1 hx0 hx1 hcm ha hv HBI HF
      rcases HA.out with rfl | rfl
      · obtain rfl : c' = 0 := ha0 rfl
        obtain rfl : k = 0 := by omega
        have hf0 : F.length = 0 := by omega
        have HS5 := H5.out.S
        rw [hf0] at HS5
        have hF0 : F = [] := List.length_eq_zero_iff.1 hf0
        subst hF0
        have HT1 : Hid (SlG cM 2 w5 (.slice none 0 0) (([] : List Ms).take 0)) := SlG.nil _
        have HT2 : Hid (SlG cM 2 w5 (.slice none 0 0) (([] : List Ms).drop 0)) := SlG.nil _
        clear HS5
        have HC : Hid (Calls Try.prog 43 #[.slice (some ⟨w5.heap.size + 1, 0, none⟩) 3 3] ((w5.alloc (.cells (cM x).toArray 88)).alloc (.cells #[.slice none 0 0, .slice (some ⟨w5.heap.size, 0, none⟩) 1 1, .slice none (0) (0)] 60)).drew (OwnG cM 2 88 (([] : List Ms).take 0 ++ ([x] ++ ([] : List Ms).drop 0)) (w5.alloc (.cells (cM x).toArray 88)))) :=
          concat3M (w5.alloc (.cells (cM x).toArray 88)) _ _ _ _ _ _ (by have := HMF.out; rw [List.length_take, List.length_drop]; simp only [List.length_cons, List.length_nil] at this ⊢; omega) (HT1.out.below (below_alloc _ _)) (rowOneM w5 x _ rfl) (HT2.out.below (below_alloc _ _)) _ (by simp) _ (.inr rfl)
        simp only [cM] at HC
        go_region_held3 (fun w' => w'.cell? ⟨w.heap.size, 0, none⟩ = some (.func (.func kf) #[] #[]) ∧ w'.cell? ⟨w.heap.size, 1, none⟩ = some (.slice sa l.length sc) ∧ w'.cell? ⟨w.heap.size + 1, 0, none⟩ = some (cv w' (w.heap.size + 1) 0) ∧ w'.cell? ⟨w.heap.size + 1, 1, none⟩ = some (cv w' (w.heap.size + 1) 1) ∧ w'.frozen? ⟨w.heap.size + 1, 0, none⟩ = false ∧ w'.frozen? ⟨w.heap.size + 1, 1, none⟩ = false ∧ w'.cell? ⟨gb, 0, none⟩ = some (.string (str x.s)) ∧ w'.cell? ⟨gb, 1, none⟩ = some (.int .u64 x.t) ∧ Below w.heap.size w w')
          ((first | with_reducible assumption | exact firstGM (w1 := w5.drew) H5.out.T H5.out.R H5.out.B.cells H5.out.W.drew | (with_reducible exact stepGM (Nat.le_refl _) ‹_› hb) | (with_reducible exact stepGM (Nat.le_refl _) (stepGM (Nat.le_refl _) (firstGM H5.out.T H5.out.R H5.out.B.cells H5.out.W) (below_alloc _ _)) hb) | exact stepGM (Nat.le_refl _) ‹_› (below_alloc _ _) | exact stepGM (Nat.le_refl _) ‹_› (below_alloc _ _).drew | exact stepGsM (stepGsM ‹_› (by omega) (by omega) (by omega)) (by omega) (by omega) (by omega)))
          (first
          | (go_at_call 42; with_reducible refine (HW.out _ _ _ _).mono ?_; rintro e w7 ⟨rfl, hb⟩; have HZ7 := Lib.hid (zGM (by assumption) hb); have HR7 := Lib.hid (HR6.out.below hb))
          | (go_at_call 43; with_reducible refine HC.out.mono ?_; rintro e w6 ⟨v6, rfl, hr6, hb⟩; obtain ⟨a6, n6, c6, rfl⟩ := hr6.slice'; have HR6 := Lib.hid (hr6.base (Nat.succ_le_of_lt hz5)); clear hr6))
        rename_i hS
        have HSS := Lib.hid hS
        clear hS
        go_wp2
        obtain ⟨z0, z1⟩ := HZ7.out
        have HBB := Lib.hid (lastGM HSS.out)
        have hq := Nat.lt_succ_self (w.heap.size + 1)
        refine bodyPost_ret_by (v := .agg #[(.func (.func kf) #[] #[]), .slice a6 n6 c6]) ?_ rfl ⟨_, rfl, by rw [HLE.out]; exact (((HR7.out.set hq _).set hq _).base (by omega)), HBB.out⟩
        simp [results, Try.results24, go_sem, z0, z1]
      · by_cases hc : c' = k
        · subst hc
          have hlk : F.length - c' = 0 := by omega
          have HT1 := Lib.hid (H5.out.S.cut c' (by omega))
          have HT2 : Hid (SlG cM 2 w5 (.slice (some ⟨sb, so, none⟩) 0 0) (F.drop c')) := by
            have h := (H5.out.S.tail c' (by omega)).2 rfl
            rw [Nat.sub_self, hlk] at h
            exact h
          have HC : Hid (Calls Try.prog 43 #[.slice (some ⟨w5.heap.size + 1, 0, none⟩) 3 3] ((w5.alloc (.cells (cM x).toArray 88)).alloc (.cells #[.slice (some ⟨sb, so, none⟩) c' c', .slice (some ⟨w5.heap.size, 0, none⟩) 1 1, .slice (some ⟨sb, so, none⟩) (0) (0)] 60)).drew (OwnG cM 2 88 (F.take c' ++ ([x] ++ F.drop c')) (w5.alloc (.cells (cM x).toArray 88)))) :=
            concat3M (w5.alloc (.cells (cM x).toArray 88)) _ _ _ _ _ _ (by have := HMF.out; rw [List.length_take, List.length_drop]; simp only [List.length_cons, List.length_nil] at this ⊢; omega) (HT1.out.below (below_alloc _ _)) (rowOneM w5 x _ rfl) (HT2.out.below (below_alloc _ _)) _ (by simp) _ (.inr rfl)
          simp only [cM] at HC
          go_region_held3 (fun w' => w'.cell? ⟨w.heap.size, 0, none⟩ = some (.func (.func kf) #[] #[]) ∧ w'.cell? ⟨w.heap.size, 1, none⟩ = some (.slice sa l.length sc) ∧ w'.cell? ⟨w.heap.size + 1, 0, none⟩ = some (cv w' (w.heap.size + 1) 0) ∧ w'.cell? ⟨w.heap.size + 1, 1, none⟩ = some (cv w' (w.heap.size + 1) 1) ∧ w'.frozen? ⟨w.heap.size + 1, 0, none⟩ = false ∧ w'.frozen? ⟨w.heap.size + 1, 1, none⟩ = false ∧ w'.cell? ⟨gb, 0, none⟩ = some (.string (str x.s)) ∧ w'.cell? ⟨gb, 1, none⟩ = some (.int .u64 x.t) ∧ Below w.heap.size w w')
            ((first | with_reducible assumption | exact firstGM (w1 := w5.drew) H5.out.T H5.out.R H5.out.B.cells H5.out.W.drew | (with_reducible exact stepGM (Nat.le_refl _) ‹_› hb) | (with_reducible exact stepGM (Nat.le_refl _) (stepGM (Nat.le_refl _) (firstGM H5.out.T H5.out.R H5.out.B.cells H5.out.W) (below_alloc _ _)) hb) | exact stepGM (Nat.le_refl _) ‹_› (below_alloc _ _) | exact stepGM (Nat.le_refl _) ‹_› (below_alloc _ _).drew | exact stepGsM (stepGsM ‹_› (by omega) (by omega) (by omega)) (by omega) (by omega) (by omega)))
            (first
            | (go_at_call 42; with_reducible refine (HW.out _ _ _ _).mono ?_; rintro e w7 ⟨rfl, hb⟩; have HZ7 := Lib.hid (zGM (by assumption) hb); have HR7 := Lib.hid (HR6.out.below hb))
            | (go_at_call 43; with_reducible refine HC.out.mono ?_; rintro e w6 ⟨v6, rfl, hr6, hb⟩; obtain ⟨a6, n6, c6, rfl⟩ := hr6.slice'; have HR6 := Lib.hid (hr6.base (Nat.succ_le_of_lt hz5)); clear hr6))
          rename_i hS
          have HSS := Lib.hid hS
          clear hS
          go_wp2
          obtain ⟨z0, z1⟩ := HZ7.out
          have HBB := Lib.hid (lastGM HSS.out)
          have hq := Nat.lt_succ_self (w.heap.size + 1)
          refine bodyPost_ret_by (v := .agg #[(.func (.func kf) #[] #[]), .slice a6 n6 c6]) ?_ rfl ⟨_, rfl, by rw [HLE.out]; exact (((HR7.out.set hq _).set hq _).base (by omega)), HBB.out⟩
          simp [results, Try.results24, go_sem, z0, z1]
        · have hcI : ¬ (c' : Int) = (k : Int) := by omega
          have HT1 := Lib.hid (H5.out.S.cut k (by omega))
          have HT2 := Lib.hid ((H5.out.S.tail k (by omega)).1)
          have HC : Hid (Calls Try.prog 43 #[.slice (some ⟨w5.heap.size + 1, 0, none⟩) 3 3] ((w5.alloc (.cells (cM x).toArray 88)).alloc (.cells #[.slice (some ⟨sb, so, none⟩) k c', .slice (some ⟨w5.heap.size, 0, none⟩) 1 1, .slice (some ⟨sb, so + k * 2, none⟩) (F.length - k) (c' - k)] 60)).drew (OwnG cM 2 88 (F.take k ++ ([x] ++ F.drop k)) (w5.alloc (.cells (cM x).toArray 88)))) :=
            concat3M (w5.alloc (.cells (cM x).toArray 88)) _ _ _ _ _ _ (by have := HMF.out; rw [List.length_take, List.length_drop]; simp only [List.length_cons, List.length_nil] at this ⊢; omega) (HT1.out.below (below_alloc _ _)) (rowOneM w5 x _ rfl) (HT2.out.below (below_alloc _ _)) _ (by simp) _ (.inr rfl)
          simp only [cM] at HC
          go_region_held3 (fun w' => w'.cell? ⟨w.heap.size, 0, none⟩ = some (.func (.func kf) #[] #[]) ∧ w'.cell? ⟨w.heap.size, 1, none⟩ = some (.slice sa l.length sc) ∧ w'.cell? ⟨w.heap.size + 1, 0, none⟩ = some (cv w' (w.heap.size + 1) 0) ∧ w'.cell? ⟨w.heap.size + 1, 1, none⟩ = some (cv w' (w.heap.size + 1) 1) ∧ w'.frozen? ⟨w.heap.size + 1, 0, none⟩ = false ∧ w'.frozen? ⟨w.heap.size + 1, 1, none⟩ = false ∧ w'.cell? ⟨gb, 0, none⟩ = some (.string (str x.s)) ∧ w'.cell? ⟨gb, 1, none⟩ = some (.int .u64 x.t) ∧ Below w.heap.size w w')
            ((first | with_reducible assumption | exact firstGM (w1 := w5.drew) H5.out.T H5.out.R H5.out.B.cells H5.out.W.drew | (with_reducible exact stepGM (Nat.le_refl _) ‹_› hb) | (with_reducible exact stepGM (Nat.le_refl _) (stepGM (Nat.le_refl _) (firstGM H5.out.T H5.out.R H5.out.B.cells H5.out.W) (below_alloc _ _)) hb) | exact stepGM (Nat.le_refl _) ‹_› (below_alloc _ _) | exact stepGM (Nat.le_refl _) ‹_› (below_alloc _ _).drew | exact stepGsM (stepGsM ‹_› (by omega) (by omega) (by omega)) (by omega) (by omega) (by omega)))
            (first
            | (go_at_call 42; with_reducible refine (HW.out _ _ _ _).mono ?_; rintro e w7 ⟨rfl, hb⟩; have HZ7 := Lib.hid (zGM (by assumption) hb); have HR7 := Lib.hid (HR6.out.below hb))
            | (go_at_call 43; with_reducible refine HC.out.mono ?_; rintro e w6 ⟨v6, rfl, hr6, hb⟩; obtain ⟨a6, n6, c6, rfl⟩ := hr6.slice'; have HR6 := Lib.hid (hr6.base (Nat.succ_le_of_lt hz5)); clear hr6))
          rename_i hS
          have HSS := Lib.hid hS
          clear hS
          go_wp2
          obtain ⟨z0, z1⟩ := HZ7.out
          have HBB := Lib.hid (lastGM HSS.out)
          have hq := Nat.lt_succ_self (w.heap.size + 1)
          refine bodyPost_ret_by (v := .agg #[(.func (.func kf) #[] #[]), .slice a6 n6 c6]) ?_ rfl ⟨_, rfl, by rw [HLE.out]; exact (((HR7.out.set hq _).set hq _).base (by omega)), HBB.out⟩
          simp [results, Try.results24, go_sem, z0, z1]
  · skip
    have hfd : ∀ (a : Option Addr) (n c : Nat) (W : World), (Instr.field 62 (.agg #[.nilFunc, .slice a n c]) 1).run Try.prog W = .ok (.slice a n c) W := fun a n c W => by kernel_rfl
    go_enter Try.func24, Try.ntmps24
    go_upto_region 1 with fail
    go_cut [7, 8] (fun p s wx => ∃ (gb : Nat) (a : Option Addr) (n c : Nat), p = .pointer (some ⟨gb, 0, none⟩) ∧ s = .slice a n c ∧ Hid (LJM w .nilFunc (.slice sa l.length sc) F x gb (.slice a n c) wx))
    case first =>
      clear HBI HW hmf
      go_wp2_with (go_at_call 39; refine (HF.out _ HB.out).mono ?_; rintro e w1 ⟨v1, rfl, hs1, ⟨a1, n1, c1, rfl⟩, hb⟩; have HLJ := Lib.hid (ljM (x := x) HT.out HR.out HB.out HZ2.out HS0.out hb hs1); clear hs1)
      go_meet
      exact ⟨_, _, _, _, rfl, rfl, HLJ⟩
    case rest =>
      obtain ⟨gb, a, n, c, rfl, rfl, HJ⟩ := hcut
      have ht0 := HJ.out.T.c0
      have ht1 := HJ.out.T.c1
      have hbx := HJ.out.B.cells
      obtain ⟨hx0, hx1⟩ := hbx
      clear hz2
      go_wp2_with (go_at_call 40; refine (HBI.out _ _ HJ.out.S).mono ?_; rintro e w5 ⟨bf, rfl, hb⟩; have H5 := Lib.hid (HJ.out.below hb); clear hb)
      have hgb := H5.out.G
      have hz5 : w.heap.size + 1 < (w5.alloc (.cells (cM x).toArray 88)).heap.size := by have := H5.out.B.lt; simp; omega
      obtain ⟨a', sb, so, c', hv, hlc, hcm, ha0, ha, _⟩ := H5.out.S.get
      obtain ⟨rfl, rfl, rfl⟩ : a' = a ∧ F.length = n ∧ c' = c := by cases hv; exact ⟨rfl, rfl, rfl⟩
      have hcm' : c' ≤ 9223372036854775807 := hcm
      have hk1 : (k : Int) ≤ (F.length : Int) := by omega
      have hk2 : (0 : Int) ≤ (k : Int) := by omega
      have hk3 : (k : Int) ≤ (c' : Int) := by omega
      have hk4 : (F.length : Int) ≤ (c' : Int) := by omega
      have HA := Lib.hid ha
      clear ht0 ht1 hx0 hx1 hcm ha hv HBI HF
      rcases HA.out with rfl | rfl
      · obtain rfl : c' = 0 := ha0 rfl
        obtain rfl : k = 0 := by omega
        have hf0 : F.length = 0 := by omega
        have HS5 := H5.out.S
        rw [hf0] at HS5
        have hF0 : F = [] := List.length_eq_zero_iff.1 hf0
        subst hF0
        have HT1 : Hid (SlG cM 2 w5 (.slice none 0 0) (([] : List Ms).take 0)) := SlG.nil _
        have HT2 : Hid (SlG cM 2 w5 (.slice none 0 0) (([] : List Ms).drop 0)) := SlG.nil _
        clear HS5
        have HC : Hid (Calls Try.prog 43 #[.slice (some ⟨w5.heap.size + 1, 0, none⟩) 3 3] ((w5.alloc (.cells (cM x).toArray 88)).alloc (.cells #[.slice none 0 0, .slice (some ⟨w5.heap.size, 0, none⟩) 1 1, .slice none (0) (0)] 60)).drew (OwnG cM 2 88 (([] : List Ms).take 0 ++ ([x] ++ ([] : List Ms).drop 0)) (w5.alloc (.cells (cM x).toArray 88)))) :=
          concat3M (w5.alloc (.cells (cM x).toArray 88)) _ _ _ _ _ _ (by have := HMF.out; rw [List.length_take, List.length_drop]; simp only [List.length_cons, List.length_nil] at this ⊢; omega) (HT1.out.below (below_alloc _ _)) (rowOneM w5 x _ rfl) (HT2.out.below (below_alloc _ _)) _ (by simp) _ (.inr rfl)
        simp only [cM] at HC
        go_region_held3 (fun w' => w'.cell? ⟨w.heap.size, 0, none⟩ = some .nilFunc ∧ w'.cell? ⟨w.heap.size, 1, none⟩ = some (.slice sa l.length sc) ∧ w'.cell? ⟨w.heap.size + 1, 0, none⟩ = some (cv w' (w.heap.size + 1) 0) ∧ w'.cell? ⟨w.heap.size + 1, 1, none⟩ = some (cv w' (w.heap.size + 1) 1) ∧ w'.frozen? ⟨w.heap.size + 1, 0, none⟩ = false ∧ w'.frozen? ⟨w.heap.size + 1, 1, none⟩ = false ∧ w'.cell? ⟨gb, 0, none⟩ = some (.string (str x.s)) ∧ w'.cell? ⟨gb, 1, none⟩ = some (.int .u64 x.t) ∧ Below w.heap.size w w')
          ((first | with_reducible assumption | exact firstGM (w1 := w5.drew) H5.out.T H5.out.R H5.out.B.cells H5.out.W.drew | (with_reducible exact stepGM (Nat.le_refl _) ‹_› hb) | (with_reducible exact stepGM (Nat.le_refl _) (stepGM (Nat.le_refl _) (firstGM H5.out.T H5.out.R H5.out.B.cells H5.out.W) (below_alloc _ _)) hb) | exact stepGM (Nat.le_refl _) ‹_› (below_alloc _ _) | exact stepGM (Nat.le_refl _) ‹_› (below_alloc _ _).drew | exact stepGsM (stepGsM ‹_› (by omega) (by omega) (by omega)) (by omega) (by omega) (by omega)))
          (first
          | (go_at_call 42; with_reducible refine (HW.out _ _ _ _).mono ?_; rintro e w7 ⟨rfl, hb⟩; have HZ7 := Lib.hid (zGM (by assumption) hb); have HR7 := Lib.hid (HR6.out.below hb))
          | (go_at_call 43; with_reducible refine HC.out.mono ?_; rintro e w6 ⟨v6, rfl, hr6, hb⟩; obtain ⟨a6, n6, c6, rfl⟩ := hr6.slice'; have HR6 := Lib.hid (hr6.base (Nat.succ_le_of_lt hz5)); clear hr6))
        rename_i hS
        have HSS := Lib.hid hS
        clear hS
        go_wp2
        obtain ⟨z0, z1⟩ := HZ7.out
        have HBB := Lib.hid (lastGM HSS.out)
        have hq := Nat.lt_succ_self (w.heap.size + 1)
        refine bodyPost_ret_by (v := .agg #[.nilFunc, .slice a6 n6 c6]) ?_ rfl ⟨_, rfl, by rw [HLE.out]; exact (((HR7.out.set hq _).set hq _).base (by omega)), HBB.out⟩
        simp [results, Try.results24, go_sem, z0, z1]
      · by_cases hc : c' = k
        · subst hc
          have hlk : F.length - c' = 0 := by omega
          have HT1 := Lib.hid (H5.out.S.cut c' (by omega))
          have HT2 : Hid (SlG cM 2 w5 (.slice (some ⟨sb, so, none⟩) 0 0) (F.drop c')) := by
            have h := (H5.out.S.tail c' (by omega)).2 rfl
            rw [Nat.sub_self, hlk] at h
            exact h
          have HC : Hid (Calls Try.prog 43 #[.slice (some ⟨w5.heap.size + 1, 0, none⟩) 3 3] ((w5.alloc (.cells (cM x).toArray 88)).alloc (.cells #[.slice (some ⟨sb, so, none⟩) c' c', .slice (some ⟨w5.heap.size, 0, none⟩) 1 1, .slice (some ⟨sb, so, none⟩) (0) (0)] 60)).drew (OwnG cM 2 88 (F.take c' ++ ([x] ++ F.drop c')) (w5.alloc (.cells (cM x).toArray 88)))) :=
            concat3M (w5.alloc (.cells (cM x).toArray 88)) _ _ _ _ _ _ (by have := HMF.out; rw [List.length_take, List.length_drop]; simp only [List.length_cons, List.length_nil] at this ⊢; omega) (HT1.out.below (below_alloc _ _)) (rowOneM w5 x _ rfl) (HT2.out.below (below_alloc _ _)) _ (by simp) _ (.inr rfl)
          simp only [cM] at HC
          go_region_held3 (fun w' => w'.cell? ⟨w.heap.size, 0, none⟩ = some .nilFunc ∧ w'.cell? ⟨w.heap.size, 1, none⟩ = some (.slice sa l.length sc) ∧ w'.cell? ⟨w.heap.size + 1, 0, none⟩ = some (cv w' (w.heap.size + 1) 0) ∧ w'.cell? ⟨w.heap.size + 1, 1, none⟩ = some (cv w' (w.heap.size + 1) 1) ∧ w'.frozen? ⟨w.heap.size + 1, 0, none⟩ = false ∧ w'.frozen? ⟨w.heap.size + 1, 1, none⟩ = false ∧ w'.cell? ⟨gb, 0, none⟩ = some (.string (str x.s)) ∧ w'.cell? ⟨gb, 1, none⟩ = some (.int .u64 x.t) ∧ Below w.heap.size w w')
            ((first | with_reducible assumption | exact firstGM (w1 := w5.drew) H5.out.T H5.out.R H5.out.B.cells H5.out.W.drew | (with_reducible exact stepGM (Nat.le_refl _) ‹_› hb) | (with_reducible exact stepGM (Nat.le_refl _) (stepGM (Nat.le_refl _) (firstGM H5.out.T H5.out.R H5.out.B.cells H5.out.W) (below_alloc _ _)) hb) | exact stepGM (Nat.le_refl _) ‹_› (below_alloc _ _) | exact stepGM (Nat.le_refl _) ‹_› (below_alloc _ _).drew | exact stepGsM (stepGsM ‹_› (by omega) (by omega) (by omega)) (by omega) (by omega) (by omega)))
            (first
            | (go_at_call 42; with_reducible refine (HW.out _ _ _ _).mono ?_; rintro e w7 ⟨rfl, hb⟩; have HZ7 := Lib.hid (zGM (by assumption) hb); have HR7 := Lib.hid (HR6.out.below hb))
            | (go_at_call 43; with_reducible refine HC.out.mono ?_; rintro e w6 ⟨v6, rfl, hr6, hb⟩; obtain ⟨a6, n6, c6, rfl⟩ := hr6.slice'; have HR6 := Lib.hid (hr6.base (Nat.succ_le_of_lt hz5)); clear hr6))
          rename_i hS
          have HSS := Lib.hid hS
          clear hS
          go_wp2
          obtain ⟨z0, z1⟩ := HZ7.out
          have HBB := Lib.hid (lastGM HSS.out)
          have hq := Nat.lt_succ_self (w.heap.size + 1)
          refine bodyPost_ret_by (v := .agg #[.nilFunc, .slice a6 n6 c6]) ?_ rfl ⟨_, rfl, by rw [HLE.out]; exact (((HR7.out.set hq _).set hq _).base (by omega)), HBB.out⟩
          simp [results, Try.results24, go_sem, z0, z1]
        · have hcI : ¬ (c' : Int) = (k : Int) := by omega
          have HT1 := Lib.hid (H5.out.S.cut k (by omega))
          have HT2 := Lib.hid ((H5.out.S.tail k (by omega)).1)
          have HC : Hid (Calls Try.prog 43 #[.slice (some ⟨w5.heap.size + 1, 0, none⟩) 3 3] ((w5.alloc (.cells (cM x).toArray 88)).alloc (.cells #[.slice (some ⟨sb, so, none⟩) k c', .slice (some ⟨w5.heap.size, 0, none⟩) 1 1, .slice (some ⟨sb, so + k * 2, none⟩) (F.length - k) (c' - k)] 60)).drew (OwnG cM 2 88 (F.take k ++ ([x] ++ F.drop k)) (w5.alloc (.cells (cM x).toArray 88)))) :=
            concat3M (w5.alloc (.cells (cM x).toArray 88)) _ _ _ _ _ _ (by have := HMF.out; rw [List.length_take, List.length_drop]; simp only [List.length_cons, List.length_nil] at this ⊢; omega) (HT1.out.below (below_alloc _ _)) (rowOneM w5 x _ rfl) (HT2.out.below (below_alloc _ _)) _ (by simp) _ (.inr rfl)
          simp only [cM] at HC
          go_region_held3 (fun w' => w'.cell? ⟨w.heap.size, 0, none⟩ = some .nilFunc ∧ w'.cell? ⟨w.heap.size, 1, none⟩ = some (.slice sa l.length sc) ∧ w'.cell? ⟨w.heap.size + 1, 0, none⟩ = some (cv w' (w.heap.size + 1) 0) ∧ w'.cell? ⟨w.heap.size + 1, 1, none⟩ = some (cv w' (w.heap.size + 1) 1) ∧ w'.frozen? ⟨w.heap.size + 1, 0, none⟩ = false ∧ w'.frozen? ⟨w.heap.size + 1, 1, none⟩ = false ∧ w'.cell? ⟨gb, 0, none⟩ = some (.string (str x.s)) ∧ w'.cell? ⟨gb, 1, none⟩ = some (.int .u64 x.t) ∧ Below w.heap.size w w')
            ((first | with_reducible assumption | exact firstGM (w1 := w5.drew) H5.out.T H5.out.R H5.out.B.cells H5.out.W.drew | (with_reducible exact stepGM (Nat.le_refl _) ‹_› hb) | (with_reducible exact stepGM (Nat.le_refl _) (stepGM (Nat.le_refl _) (firstGM H5.out.T H5.out.R H5.out.B.cells H5.out.W) (below_alloc _ _)) hb) | exact stepGM (Nat.le_refl _) ‹_› (below_alloc _ _) | exact stepGM (Nat.le_refl _) ‹_› (below_alloc _ _).drew | exact stepGsM (stepGsM ‹_› (by omega) (by omega) (by omega)) (by omega) (by omega) (by omega)))
            (first
            | (go_at_call 42; with_reducible refine (HW.out _ _ _ _).mono ?_; rintro e w7 ⟨rfl, hb⟩; have HZ7 := Lib.hid (zGM (by assumption) hb); have HR7 := Lib.hid (HR6.out.below hb))
            | (go_at_call 43; with_reducible refine HC.out.mono ?_; rintro e w6 ⟨v6, rfl, hr6, hb⟩; obtain ⟨a6, n6, c6, rfl⟩ := hr6.slice'; have HR6 := Lib.hid (hr6.base (Nat.succ_le_of_lt hz5)); clear hr6))
          rename_i hS
          have HSS := Lib.hid hS
          clear hS
          go_wp2
          obtain ⟨z0, z1⟩ := HZ7.out
          have HBB := Lib.hid (lastGM HSS.out)
          have hq := Nat.lt_succ_self (w.heap.size + 1)
          refine bodyPost_ret_by (v := .agg #[.nilFunc, .slice a6 n6 c6]) ?_ rfl ⟨_, rfl, by rw [HLE.out]; exact (((HR7.out.set hq _).set hq _).base (by omega)), HBB.out⟩
          simp [results, Try.results24, go_sem, z0, z1]
end Go.Proofs.Ytpgaepilnbjhbaa
