/- Texts of one seat, merged. -/
import Derived.Test.YtgmneapgihakgaaGreatDoorZ21
import Derived.Test.YtgmneapgihakgaaGreatDoorZ22
import Derived.Test.YtgmneapgihakgaaGreatDoorZ18
import Derived.Test.YtgmneapgihakgaaGreatDoorZ19
set_option maxRecDepth 100000
set_option maxHeartbeats 4000000
set_option linter.unusedVariables false
/- The keys of messages and of terms. -/
namespace Go.Proofs.YtgmneapgihakgaaGreatDoor
open Go.RowKit Go.Sort Go.Maps
def mParts (q : Txt) (i : Nat) : List Ord.P := [pS [109], pS q, pN i]
def tParts (a : Nat) (q : Txt) (i : Nat) : List Ord.P := [pS [101], pN a, pS q, pN i]
theorem Sl.threeM (w : World) (q : Txt) (i : Nat) (T : TypeId) : Sl (w.alloc (.cells #[.bool true, .int .u64 0, .string (str [109]), .bool true, .int .u64 0, .string (str q), .bool false, .int .u64 i, .string ⟨#[]⟩] T)) (.slice (some ⟨w.heap.size, 0, none⟩) 3 3) (mParts q i) := by
  refine ⟨_, w.heap.size, 0, 3, rfl, .inr rfl, fun j r hj => ?_⟩
  match j, hj with
  | 0, hj => cases hj; refine ⟨?_, ?_, ?_⟩ <;> simp [pS]
  | 1, hj => cases hj; refine ⟨?_, ?_, ?_⟩ <;> simp [pS]
  | 2, hj => cases hj; refine ⟨?_, ?_, ?_⟩ <;> simp [pN] <;> rfl
  | (j + 3), hj => simp [mParts] at hj
theorem Sl.fourT (w : World) (a : Nat) (q : Txt) (i : Nat) (T : TypeId) : Sl (w.alloc (.cells #[.bool true, .int .u64 0, .string (str [101]), .bool false, .int .u64 a, .string ⟨#[]⟩, .bool true, .int .u64 0, .string (str q), .bool false, .int .u64 i, .string ⟨#[]⟩] T)) (.slice (some ⟨w.heap.size, 0, none⟩) 4 4) (tParts a q i) := by
  refine ⟨_, w.heap.size, 0, 4, rfl, .inr rfl, fun j r hj => ?_⟩
  match j, hj with
  | 0, hj => cases hj; refine ⟨?_, ?_, ?_⟩ <;> simp [pS]
  | 1, hj => cases hj; refine ⟨?_, ?_, ?_⟩ <;> simp [pN] <;> rfl
  | 2, hj => cases hj; refine ⟨?_, ?_, ?_⟩ <;> simp [pS]
  | 3, hj => cases hj; refine ⟨?_, ?_, ?_⟩ <;> simp [pN] <;> rfl
  | (j + 4), hj => simp [tParts] at hj
theorem keyM3 (q : Txt) (i : Nat) (hq : q.length ≤ 400) (hi : i < 18446744073709551616) (m : Int) (W : World) (hm : W.cell? ⟨0, 0, none⟩ = some (.int .i64 m)) (T : TypeId) :
    Calls Tryz.prog 125 #[.slice (some ⟨W.heap.size, 0, none⟩) 3 3] (W.alloc (.cells #[.bool true, .int .u64 0, .string ⟨#[109]⟩, .bool true, .int .u64 0, .string (str q), .bool false, .int .u64 i, .string ⟨#[]⟩] T)) fun e w' => e = .returned (.tuple #[.string (str (kS (mParts q i))), .int .i64 (kE (mParts q i))]) ∧ Below W.heap.size W w' := by
  have h0 := World.block_lt_of_cell? _ _ hm
  have h1 := key_any _ (mParts q i) (by simp [mParts]) m _ (Sl.threeM W q i T) (by
    intro p hp
    simp [mParts] at hp
    rcases hp with rfl | rfl | rfl
    · exact ⟨by simp [pS], by simp [pS]⟩
    · exact ⟨by simp [pS], hq⟩
    · exact ⟨hi, by simp [pN]⟩) (((Below.refl _ _).alloc (Nat.le_refl _) _ |>.cell (p := ⟨0, 0, none⟩) h0).trans hm)
  rw [keyOut_eq] at h1
  exact h1.mono fun e w' h => ⟨h.1, below_step ((Below.refl _ _).alloc (Nat.le_refl _) _) h.2⟩
theorem keyT4 (a : Nat) (q : Txt) (i : Nat) (ha : a < 18446744073709551616) (hq : q.length ≤ 400) (hi : i < 18446744073709551616) (m : Int) (W : World) (hm : W.cell? ⟨0, 0, none⟩ = some (.int .i64 m)) (T : TypeId) :
    Calls Tryz.prog 125 #[.slice (some ⟨W.heap.size, 0, none⟩) 4 4] (W.alloc (.cells #[.bool true, .int .u64 0, .string ⟨#[101]⟩, .bool false, .int .u64 a, .string ⟨#[]⟩, .bool true, .int .u64 0, .string (str q), .bool false, .int .u64 i, .string ⟨#[]⟩] T)) fun e w' => e = .returned (.tuple #[.string (str (kS (tParts a q i))), .int .i64 (kE (tParts a q i))]) ∧ Below W.heap.size W w' := by
  have h0 := World.block_lt_of_cell? _ _ hm
  have h1 := key_any _ (tParts a q i) (by simp [tParts]) m _ (Sl.fourT W a q i T) (by
    intro p hp
    simp [tParts] at hp
    rcases hp with rfl | rfl | rfl | rfl
    · exact ⟨by simp [pS], by simp [pS]⟩
    · exact ⟨ha, by simp [pN]⟩
    · exact ⟨by simp [pS], hq⟩
    · exact ⟨hi, by simp [pN]⟩) (((Below.refl _ _).alloc (Nat.le_refl _) _ |>.cell (p := ⟨0, 0, none⟩) h0).trans hm)
  rw [keyOut_eq] at h1
  exact h1.mono fun e w' h => ⟨h.1, below_step ((Below.refl _ _).alloc (Nat.le_refl _) _) h.2⟩
theorem skeyM_any (q : Txt) (i : Nat) (hq : q.length ≤ 400) (hi : i < 18446744073709551616) (m : Int) (w : World) (hm : w.cell? ⟨0, 0, none⟩ = some (.int .i64 m)) :
    Calls Tryz.prog 106 #[.string (str q), .int .u64 i] w fun e w' => e = .returned (.tuple #[.string (str (kS (mParts q i))), .int .i64 (kE (mParts q i))]) ∧ Below w.heap.size w w' := by
  have h0 := World.block_lt_of_cell? _ _ hm
  have HM : Hid (∀ W, Below w.heap.size w W → W.cell? ⟨0, 0, none⟩ = some (.int .i64 m)) := fun W hW => (hW.cell (p := ⟨0, 0, none⟩) h0).trans hm
  have H1 := Lib.hid (fun W => strP' ⟨#[109]⟩ W)
  have H2 := Lib.hid (fun W => strP' (str q) W)
  have H3 := Lib.hid (fun W => numP' i W)
  have HK := Lib.hid (fun W T h => keyM3 q i hq hi m W h T)
  clear hm h0 hq hi
  go_enter Tryz.func106, Tryz.ntmps106
  go_wp2_with (first
    | (go_at_call 125; refine (HK.out _ _ (HM.out _ (below_step (below_step hb1 hb2) hb3))).mono ?_; rintro e w4 ⟨rfl, hb4⟩)
    | (go_at_call 104; refine (H3.out _).mono ?_; rintro e w3 ⟨rfl, hb3⟩)
    | (go_at_call 103; have tok := hb1; refine (H2.out _).mono ?_; rintro e w2 ⟨rfl, hb2⟩)
    | (go_at_call 103; refine (H1.out _).mono ?_; rintro e w1 ⟨rfl, hb1⟩))
  go_ret2
  exact ⟨rfl, below_step (below_step (below_step hb1 hb2) hb3) hb4⟩
theorem skeyT_any (a : Nat) (q : Txt) (i : Nat) (ha : a < 18446744073709551616) (hq : q.length ≤ 400) (hi : i < 18446744073709551616) (m : Int) (w : World) (hm : w.cell? ⟨0, 0, none⟩ = some (.int .i64 m)) :
    Calls Tryz.prog 37 #[.int .u64 a, .string (str q), .int .u64 i] w fun e w' => e = .returned (.tuple #[.string (str (kS (tParts a q i))), .int .i64 (kE (tParts a q i))]) ∧ Below w.heap.size w w' := by
  have h0 := World.block_lt_of_cell? _ _ hm
  have HM : Hid (∀ W, Below w.heap.size w W → W.cell? ⟨0, 0, none⟩ = some (.int .i64 m)) := fun W hW => (hW.cell (p := ⟨0, 0, none⟩) h0).trans hm
  have H1 := Lib.hid (fun W => strP' ⟨#[101]⟩ W)
  have H2 := Lib.hid (fun W => numP' a W)
  have H3 := Lib.hid (fun W => strP' (str q) W)
  have H4 := Lib.hid (fun W => numP' i W)
  have HK := Lib.hid (fun W T h => keyT4 a q i ha hq hi m W h T)
  clear hm h0 hq hi ha
  go_enter Tryz.func37, Tryz.ntmps37
  go_wp2_with (first
    | (go_at_call 125; refine (HK.out _ _ (HM.out _ (below_step (below_step (below_step hb1 hb2) hb3) hb4))).mono ?_; rintro e w5 ⟨rfl, hb5⟩)
    | (go_at_call 104; have tok := hb3; refine (H4.out _).mono ?_; rintro e w4 ⟨rfl, hb4⟩)
    | (go_at_call 103; have tok := hb2; refine (H3.out _).mono ?_; rintro e w3 ⟨rfl, hb3⟩)
    | (go_at_call 104; have tok := hb1; refine (H2.out _).mono ?_; rintro e w2 ⟨rfl, hb2⟩)
    | (go_at_call 103; refine (H1.out _).mono ?_; rintro e w1 ⟨rfl, hb1⟩))
  go_ret2
  exact ⟨rfl, below_step (below_step (below_step (below_step hb1 hb2) hb3) hb4) hb5⟩
end Go.Proofs.YtgmneapgihakgaaGreatDoor
/- schema's Parse of a message's key, and of a term's. -/
namespace Go.Proofs.YtgmneapgihakgaaGreatDoor
open Go.RowKit Go.Sort Go.Maps
def kM (q : Txt) (i : Nat) : Txt := Ord.key (mParts q i)
def kT (a : Nat) (q : Txt) (i : Nat) : Txt := Ord.key (tParts a q i)
theorem mParts_ok (q : Txt) (i : Nat) (hi : i < 18446744073709551616) : ∀ p ∈ mParts q i, p.ok := by
  intro p hp
  simp [mParts] at hp
  rcases hp with rfl | rfl | rfl
  · exact pS_ok _
  · exact pS_ok _
  · exact ⟨rfl, hi⟩
/-- A row of parts: what Parse reads of it. -/
structure ML (w : World) (b o : Nat) (q : Txt) (i : Nat) : Prop where
  s1 : w.cell? ⟨b, o + 1 * 3 + 2, none⟩ = some (.string (str q))
  n2 : w.cell? ⟨b, o + 2 * 3 + 1, none⟩ = some (.int .u64 i)
theorem ML.lt {w : World} {b o : Nat} {q : Txt} {i : Nat} (h : ML w b o q i) : b < w.heap.size := World.block_lt_of_cell? _ _ h.s1
theorem ML.below {w w' : World} {b o : Nat} {q : Txt} {i : Nat} (h : ML w b o q i) (hb : Below w.heap.size w w') : ML w' b o q i := by
  have hl := h.lt
  exact ⟨(hb.cell (p := ⟨b, o + 1 * 3 + 2, none⟩) hl).trans h.s1, (hb.cell (p := ⟨b, o + 2 * 3 + 1, none⟩) hl).trans h.n2⟩
theorem partsM (q : Txt) (i : Nat) (hi : i < 18446744073709551616) (hk : (kM q i).length ≤ 255) (w : World) :
    Calls Tryz.prog 101 #[.string (str (kM q i))] w fun e w' => ∃ b o n c, e = .returned (.tuple #[.slice (some ⟨b, o, none⟩) n c, .int .i64 0]) ∧ n = 3 ∧ FitL w' b o 109 [true, false] ∧ ML w' b o q i ∧ Below w.heap.size w w' := by
  refine (parts_any (kM q i) (by omega) w).mono ?_
  rintro e w' (⟨l, hl, hK, _, a', n, c, hn, he, hs, hb⟩ | ⟨hno, _, _⟩)
  · have hl2 : mParts q i = l := Ord.key_inj _ _ (mParts_ok q i hi) hl hK
    subst hl2
    obtain ⟨a'', b, o, c', hv, ha', hx⟩ := hs
    cases hv
    obtain rfl := ha'.resolve_left (by simp [mParts])
    obtain ⟨a0, a1, a2⟩ := hx 0 (pS [109]) rfl
    obtain ⟨b0, b1, b2⟩ := hx 1 (pS q) rfl
    obtain ⟨c0, c1, c2⟩ := hx 2 (pN i) rfl
    refine ⟨b, o, _, c, he, rfl, ⟨by simpa [pS] using a0, by simpa [pS] using a1, a2, fun j t hj => ?_⟩, ⟨by simpa [pS] using b2, by simpa [pN] using c1⟩, hb⟩
    match j, hj with
    | 0, hj => cases hj; simpa [pS] using b0
    | 1, hj => cases hj; simpa [pN] using c0
    | (j + 2), hj => simp at hj
  · exact absurd rfl (hno hk (mParts q i) (mParts_ok q i hi))
theorem neqPM (w : World) : (binOp .neq 192 (.agg #[.bool true, .int .u64 0, .string ⟨#[109]⟩]) (.agg #[.bool true, .int .u64 0, .string ⟨#[109]⟩])).run Tryz.prog w = .ok (.bool false) w := by kernel_rfl
theorem likeM (W : World) : LikeL (W.alloc (.cells #[.bool true, .int .u64 0, .string ⟨#[]⟩, .bool false, .int .u64 0, .string ⟨#[]⟩] 192)) W.heap.size [true, false] := by
  have b := BoxL.new W #[.bool true, .int .u64 0, .string ⟨#[]⟩, .bool false, .int .u64 0, .string ⟨#[]⟩] 192
  refine ⟨b.lt, fun j t hj => ?_⟩
  match j, hj with
  | 0, hj => cases hj; exact ⟨b.cell (i := 0) rfl, b.cell (i := 1) rfl, b.cell (i := 2) rfl⟩
  | 1, hj => cases hj; exact ⟨b.cell (i := 3) rfl, b.cell (i := 4) rfl, b.cell (i := 5) rfl⟩
  | (j + 2), hj => simp at hj
set_option maxHeartbeats 8000000 in
theorem parseM (q : Txt) (i : Nat) (hi : i < 18446744073709551616) (hk : (kM q i).length ≤ 255) (w : World) :
    Calls Tryz.prog 25 #[.string (str (kM q i))] w fun e w' => e = .returned (.tuple #[.agg #[.string ⟨#[109]⟩, .string (str q), .int .u64 i, .int .u64 0, .string ⟨#[]⟩, .int .i64 0, .string ⟨#[]⟩, .string ⟨#[]⟩, .string ⟨#[]⟩], .int .i64 0]) ∧ Below w.heap.size w w' := by
  have HX := Lib.hid (BoxL.new w #[.string ⟨#[]⟩, .string ⟨#[]⟩, .int .u64 0, .int .u64 0, .string ⟨#[]⟩, .int .i64 0, .string ⟨#[]⟩, .string ⟨#[]⟩, .string ⟨#[]⟩] 75)
  have HA : Hid (Below w.heap.size w (w.alloc (.cells #[.string ⟨#[]⟩, .string ⟨#[]⟩, .int .u64 0, .int .u64 0, .string ⟨#[]⟩, .int .i64 0, .string ⟨#[]⟩, .string ⟨#[]⟩, .string ⟨#[]⟩] 75))) := (Below.refl _ _).alloc (Nat.le_refl _) _
  have HP := Lib.hid (partsM q i hi hk (w.alloc (.cells #[.string ⟨#[]⟩, .string ⟨#[]⟩, .int .u64 0, .int .u64 0, .string ⟨#[]⟩, .int .i64 0, .string ⟨#[]⟩, .string ⟨#[]⟩, .string ⟨#[]⟩] 75)))
  have HS : Hid (∀ W, Calls Tryz.prog 103 #[.string ⟨#[]⟩] W fun e w' => e = .returned (.agg #[.bool true, .int .u64 0, .string ⟨#[]⟩]) ∧ Below W.heap.size W w') := fun W => strP' ⟨#[]⟩ W
  have HN : Hid (∀ W, Calls Tryz.prog 104 #[.int .u64 0] W fun e w' => e = .returned (.agg #[.bool false, .int .u64 0, .string ⟨#[]⟩]) ∧ Below W.heap.size W w') := fun W => numP' 0 W
  have hmx := mixed0
  clear hk
  go_enter Tryz.func25, Tryz.ntmps25
  go_wp2_with (first
    | (go_at_call 101; refine HP.out.mono ?_; rintro e1 w1 ⟨b, o, n, c, rfl, hn, hf, hd, hb1⟩; have HNn := Lib.hid hn; have HF := Lib.hid hf; have HD := Lib.hid hd; have hn1 : 1 < n := (by omega); have hn2 : 2 < n := (by omega); have HY := Lib.hid (HX.out.below hb1 HX.out.lt); have HW1 := Lib.hid (below_step HA.out hb1); have HC := Lib.hid (Below.refl w1.heap.size w1); clear hn hf hd hb1)
    | (go_at_call 103; refine (HS.out _).mono ?_; rintro e2 w2 ⟨rfl, hb2⟩; have HC := Lib.hid (below_step HC.out hb2); clear hb2)
    | (go_at_call 104; refine (HN.out _).mono ?_; rintro e2 w2 ⟨rfl, hb2⟩; have HC := Lib.hid (below_step HC.out hb2); clear hb2)
    | (go_at_call 102; first
        | (refine (fitsNo (by rw [HNn.out]; decide) (by decide) (by rw [HNn.out]; decide)).mono ?_; rintro e3 w3 ⟨rfl, hb3⟩; have HC := Lib.hid (below_step (below_stepA HC.out _) hb3); clear hb3)
        | (refine (fitsT (HF.out.below (below_stepA HC.out _) HF.out.lt) HNn.out rfl (by decide) (likeM _) neqPM).mono ?_; rintro e3 w3 ⟨rfl, hb3⟩; have HC := Lib.hid (below_step (below_stepA HC.out _) hb3); clear hb3; have d1 := HD.out.below HC.out; have ds1 := d1.s1; have dn2 := d1.n2; have x1 := HY.out.below HC.out HY.out.lt; have f1 := x1.frozen; have q0 := x1.cell (i := 0) rfl; have q1 := x1.cell (i := 1) rfl; have q2 := x1.cell (i := 2) rfl; have q3 := x1.cell (i := 3) rfl; have q4 := x1.cell (i := 4) rfl; have q5 := x1.cell (i := 5) rfl; have q6 := x1.cell (i := 6) rfl; have q7 := x1.cell (i := 7) rfl; have q8 := x1.cell (i := 8) rfl; have HX1 := Lib.hid x1; clear d1 x1)))
  go_region
  all_goals
    go_wp2
    have x1 := HX1.out
    have xs := (((((((((x1.set 0 (.string ⟨#[109]⟩)).set 1 (.string (str q))).set 2 (.int .u64 i)).set 3 (.int .u64 0)).set 4 (.string ⟨#[]⟩)).set 5 (.int .i64 0)).set 6 (.string ⟨#[]⟩)).set 7 (.string ⟨#[]⟩)).set 8 (.string ⟨#[]⟩))
    have hB3 := below_step HW1.out HC.out
    exact bodyPost_ret_by (rrPa rfl rfl (BoxL.drew xs)) rfl ⟨rfl, Below.drew (((((((((hB3.setCell (p := ⟨w.heap.size, 0, none⟩) (Nat.le_refl _) (.string ⟨#[109]⟩)).setCell (p := ⟨w.heap.size, 1, none⟩) (Nat.le_refl _) (.string (str q))).setCell (p := ⟨w.heap.size, 2, none⟩) (Nat.le_refl _) (.int .u64 i)).setCell (p := ⟨w.heap.size, 3, none⟩) (Nat.le_refl _) (.int .u64 0)).setCell (p := ⟨w.heap.size, 4, none⟩) (Nat.le_refl _) (.string ⟨#[]⟩)).setCell (p := ⟨w.heap.size, 5, none⟩) (Nat.le_refl _) (.int .i64 0)).setCell (p := ⟨w.heap.size, 6, none⟩) (Nat.le_refl _) (.string ⟨#[]⟩)).setCell (p := ⟨w.heap.size, 7, none⟩) (Nat.le_refl _) (.string ⟨#[]⟩)).setCell (p := ⟨w.heap.size, 8, none⟩) (Nat.le_refl _) (.string ⟨#[]⟩))⟩
theorem tParts_ok (a : Nat) (q : Txt) (i : Nat) (ha : a < 18446744073709551616) (hi : i < 18446744073709551616) : ∀ p ∈ tParts a q i, p.ok := by
  intro p hp
  simp [tParts] at hp
  rcases hp with rfl | rfl | rfl | rfl
  · exact pS_ok _
  · exact ⟨rfl, ha⟩
  · exact pS_ok _
  · exact ⟨rfl, hi⟩
/-- A row of parts: what Parse reads of it. -/
structure TL (w : World) (b o : Nat) (a : Nat) (q : Txt) (i : Nat) : Prop where
  n1 : w.cell? ⟨b, o + 1 * 3 + 1, none⟩ = some (.int .u64 a)
  s2 : w.cell? ⟨b, o + 2 * 3 + 2, none⟩ = some (.string (str q))
  n3 : w.cell? ⟨b, o + 3 * 3 + 1, none⟩ = some (.int .u64 i)
theorem TL.lt {w : World} {b o : Nat} {a : Nat} {q : Txt} {i : Nat} (h : TL w b o a q i) : b < w.heap.size := World.block_lt_of_cell? _ _ h.n1
theorem TL.below {w w' : World} {b o : Nat} {a : Nat} {q : Txt} {i : Nat} (h : TL w b o a q i) (hb : Below w.heap.size w w') : TL w' b o a q i := by
  have hl := h.lt
  exact ⟨(hb.cell (p := ⟨b, o + 1 * 3 + 1, none⟩) hl).trans h.n1, (hb.cell (p := ⟨b, o + 2 * 3 + 2, none⟩) hl).trans h.s2, (hb.cell (p := ⟨b, o + 3 * 3 + 1, none⟩) hl).trans h.n3⟩
theorem partsT (a : Nat) (q : Txt) (i : Nat) (ha : a < 18446744073709551616) (hi : i < 18446744073709551616) (hk : (kT a q i).length ≤ 255) (w : World) :
    Calls Tryz.prog 101 #[.string (str (kT a q i))] w fun e w' => ∃ b o n c, e = .returned (.tuple #[.slice (some ⟨b, o, none⟩) n c, .int .i64 0]) ∧ n = 4 ∧ FitL w' b o 101 [false, true, false] ∧ TL w' b o a q i ∧ Below w.heap.size w w' := by
  refine (parts_any (kT a q i) (by omega) w).mono ?_
  rintro e w' (⟨l, hl, hK, _, a', n, c, hn, he, hs, hb⟩ | ⟨hno, _, _⟩)
  · have hl2 : tParts a q i = l := Ord.key_inj _ _ (tParts_ok a q i ha hi) hl hK
    subst hl2
    obtain ⟨a'', b, o, c', hv, ha', hx⟩ := hs
    cases hv
    obtain rfl := ha'.resolve_left (by simp [tParts])
    obtain ⟨a0, a1, a2⟩ := hx 0 (pS [101]) rfl
    obtain ⟨b0, b1, b2⟩ := hx 1 (pN a) rfl
    obtain ⟨c0, c1, c2⟩ := hx 2 (pS q) rfl
    obtain ⟨d0, d1, d2⟩ := hx 3 (pN i) rfl
    refine ⟨b, o, _, c, he, rfl, ⟨by simpa [pS] using a0, by simpa [pS] using a1, a2, fun j t hj => ?_⟩, ⟨by simpa [pN] using b1, by simpa [pS] using c2, by simpa [pN] using d1⟩, hb⟩
    match j, hj with
    | 0, hj => cases hj; simpa [pN] using b0
    | 1, hj => cases hj; simpa [pS] using c0
    | 2, hj => cases hj; simpa [pN] using d0
    | (j + 3), hj => simp at hj
  · exact absurd rfl (hno hk (tParts a q i) (tParts_ok a q i ha hi))
theorem neqPT (w : World) : (binOp .neq 192 (.agg #[.bool true, .int .u64 0, .string ⟨#[101]⟩]) (.agg #[.bool true, .int .u64 0, .string ⟨#[101]⟩])).run Tryz.prog w = .ok (.bool false) w := by kernel_rfl
theorem likeT (W : World) : LikeL (W.alloc (.cells #[.bool false, .int .u64 0, .string ⟨#[]⟩, .bool true, .int .u64 0, .string ⟨#[]⟩, .bool false, .int .u64 0, .string ⟨#[]⟩] 192)) W.heap.size [false, true, false] := by
  have b := BoxL.new W #[.bool false, .int .u64 0, .string ⟨#[]⟩, .bool true, .int .u64 0, .string ⟨#[]⟩, .bool false, .int .u64 0, .string ⟨#[]⟩] 192
  refine ⟨b.lt, fun j t hj => ?_⟩
  match j, hj with
  | 0, hj => cases hj; exact ⟨b.cell (i := 0) rfl, b.cell (i := 1) rfl, b.cell (i := 2) rfl⟩
  | 1, hj => cases hj; exact ⟨b.cell (i := 3) rfl, b.cell (i := 4) rfl, b.cell (i := 5) rfl⟩
  | 2, hj => cases hj; exact ⟨b.cell (i := 6) rfl, b.cell (i := 7) rfl, b.cell (i := 8) rfl⟩
  | (j + 3), hj => simp at hj
set_option maxHeartbeats 8000000 in
theorem parseT (a : Nat) (q : Txt) (i : Nat) (ha : a < 18446744073709551616) (hi : i < 18446744073709551616) (hk : (kT a q i).length ≤ 255) (w : World) :
    Calls Tryz.prog 25 #[.string (str (kT a q i))] w fun e w' => e = .returned (.tuple #[.agg #[.string ⟨#[101]⟩, .string (str q), .int .u64 i, .int .u64 a, .string ⟨#[]⟩, .int .i64 0, .string ⟨#[]⟩, .string ⟨#[]⟩, .string ⟨#[]⟩], .int .i64 0]) ∧ Below w.heap.size w w' := by
  have HX := Lib.hid (BoxL.new w #[.string ⟨#[]⟩, .string ⟨#[]⟩, .int .u64 0, .int .u64 0, .string ⟨#[]⟩, .int .i64 0, .string ⟨#[]⟩, .string ⟨#[]⟩, .string ⟨#[]⟩] 75)
  have HA : Hid (Below w.heap.size w (w.alloc (.cells #[.string ⟨#[]⟩, .string ⟨#[]⟩, .int .u64 0, .int .u64 0, .string ⟨#[]⟩, .int .i64 0, .string ⟨#[]⟩, .string ⟨#[]⟩, .string ⟨#[]⟩] 75))) := (Below.refl _ _).alloc (Nat.le_refl _) _
  have HP := Lib.hid (partsT a q i ha hi hk (w.alloc (.cells #[.string ⟨#[]⟩, .string ⟨#[]⟩, .int .u64 0, .int .u64 0, .string ⟨#[]⟩, .int .i64 0, .string ⟨#[]⟩, .string ⟨#[]⟩, .string ⟨#[]⟩] 75)))
  have HS : Hid (∀ W, Calls Tryz.prog 103 #[.string ⟨#[]⟩] W fun e w' => e = .returned (.agg #[.bool true, .int .u64 0, .string ⟨#[]⟩]) ∧ Below W.heap.size W w') := fun W => strP' ⟨#[]⟩ W
  have HN : Hid (∀ W, Calls Tryz.prog 104 #[.int .u64 0] W fun e w' => e = .returned (.agg #[.bool false, .int .u64 0, .string ⟨#[]⟩]) ∧ Below W.heap.size W w') := fun W => numP' 0 W
  have hmx := mixed0
  clear hk
  go_enter Tryz.func25, Tryz.ntmps25
  go_wp2_with (first
    | (go_at_call 101; refine HP.out.mono ?_; rintro e1 w1 ⟨b, o, n, c, rfl, hn, hf, hd, hb1⟩; have HNn := Lib.hid hn; have HF := Lib.hid hf; have HD := Lib.hid hd; have hn1 : 1 < n := (by omega); have hn2 : 2 < n := (by omega); have hn3 : 3 < n := (by omega); have HY := Lib.hid (HX.out.below hb1 HX.out.lt); have HW1 := Lib.hid (below_step HA.out hb1); have HC := Lib.hid (Below.refl w1.heap.size w1); clear hn hf hd hb1)
    | (go_at_call 103; refine (HS.out _).mono ?_; rintro e2 w2 ⟨rfl, hb2⟩; have HC := Lib.hid (below_step HC.out hb2); clear hb2)
    | (go_at_call 104; refine (HN.out _).mono ?_; rintro e2 w2 ⟨rfl, hb2⟩; have HC := Lib.hid (below_step HC.out hb2); clear hb2)
    | (go_at_call 102; first
        | (refine (fitsNo (by rw [HNn.out]; decide) (by decide) (by rw [HNn.out]; decide)).mono ?_; rintro e3 w3 ⟨rfl, hb3⟩; have HC := Lib.hid (below_step (below_stepA HC.out _) hb3); clear hb3)
        | (refine (fitsT (HF.out.below (below_stepA HC.out _) HF.out.lt) HNn.out rfl (by decide) (likeT _) neqPT).mono ?_; rintro e3 w3 ⟨rfl, hb3⟩; have HC := Lib.hid (below_step (below_stepA HC.out _) hb3); clear hb3; have d1 := HD.out.below HC.out; have dn1 := d1.n1; have ds2 := d1.s2; have dn3 := d1.n3; have x1 := HY.out.below HC.out HY.out.lt; have f1 := x1.frozen; have q0 := x1.cell (i := 0) rfl; have q1 := x1.cell (i := 1) rfl; have q2 := x1.cell (i := 2) rfl; have q3 := x1.cell (i := 3) rfl; have q4 := x1.cell (i := 4) rfl; have q5 := x1.cell (i := 5) rfl; have q6 := x1.cell (i := 6) rfl; have q7 := x1.cell (i := 7) rfl; have q8 := x1.cell (i := 8) rfl; have HX1 := Lib.hid x1; clear d1 x1)))
  go_region
  all_goals
    go_wp2
    have x1 := HX1.out
    have xs := (((((((((x1.set 0 (.string ⟨#[101]⟩)).set 1 (.string (str q))).set 2 (.int .u64 i)).set 3 (.int .u64 a)).set 4 (.string ⟨#[]⟩)).set 5 (.int .i64 0)).set 6 (.string ⟨#[]⟩)).set 7 (.string ⟨#[]⟩)).set 8 (.string ⟨#[]⟩))
    have hB3 := below_step HW1.out HC.out
    exact bodyPost_ret_by (rrPa rfl rfl (BoxL.drew xs)) rfl ⟨rfl, Below.drew (((((((((hB3.setCell (p := ⟨w.heap.size, 0, none⟩) (Nat.le_refl _) (.string ⟨#[101]⟩)).setCell (p := ⟨w.heap.size, 1, none⟩) (Nat.le_refl _) (.string (str q))).setCell (p := ⟨w.heap.size, 2, none⟩) (Nat.le_refl _) (.int .u64 i)).setCell (p := ⟨w.heap.size, 3, none⟩) (Nat.le_refl _) (.int .u64 a)).setCell (p := ⟨w.heap.size, 4, none⟩) (Nat.le_refl _) (.string ⟨#[]⟩)).setCell (p := ⟨w.heap.size, 5, none⟩) (Nat.le_refl _) (.int .i64 0)).setCell (p := ⟨w.heap.size, 6, none⟩) (Nat.le_refl _) (.string ⟨#[]⟩)).setCell (p := ⟨w.heap.size, 7, none⟩) (Nat.le_refl _) (.string ⟨#[]⟩)).setCell (p := ⟨w.heap.size, 8, none⟩) (Nat.le_refl _) (.string ⟨#[]⟩))⟩
end Go.Proofs.YtgmneapgihakgaaGreatDoor
/- find and Get of a message, over a shelf. -/
namespace Go.Proofs.YtgmneapgihakgaaGreatDoor
open Go.RowKit Go.Sort Go.Maps
def zM0 : Ms := ⟨⟨#[]⟩, 0, 0, 0, ⟨#[]⟩⟩
def fResM (th : Bool) (q : Ms) (re : Int) : Ms × Bool × Int := if th = false then (zM0, false, 0) else if re ≠ 0 then (zM0, false, re) else (q, true, 0)
theorem tgOut_resM (th : Bool) (q : Ms) (re : Int) : tgOut (.agg #[.string ⟨#[]⟩, .int .u64 0, .int .u32 0, .int .u64 0, .string ⟨#[]⟩]) (aggM q) th 0 re = .tuple #[aggM (fResM th q re).1, .bool (fResM th q re).2.1, .int .i64 (fResM th q re).2.2] := by
  unfold tgOut fResM
  cases th
  · rfl
  · by_cases h : re = 0
    · subst h; rfl
    · simp [h]; rfl
/-- What find answers. -/
def findM (ks : List Txt) (f : Txt → Txt) (nm : Txt) (i : Nat) : Ms × Bool × Int := if (kM nm i).length ≤ 255 then fResM (decide (kM nm i ∈ ks)) (readG zM (getM (str nm) i) (str (shV ks f (kM nm i)))).1 (readG zM (getM (str nm) i) (str (shV ks f (kM nm i)))).2 else (zM0, false, 0)
theorem rrFiM {w : World} {g : Nat} {x0 x1 x2 x3 x4 : Value} {b : Bool} {e : Int} {tmps : Array Value} (ht : tmps[6]? = some (.pointer (some ⟨g, 0, none⟩))) (h7 : tmps[7]? = some (.bool b)) (h8 : tmps[8]? = some (.int .i64 e)) (hx : BoxL w g 62 #[x0, x1, x2, x3, x4]) :
    (results Tryz.f98 tmps).run Tryz.prog w = .ok (.tuple #[.agg #[x0, x1, x2, x3, x4], .bool b, .int .i64 e]) w := by
  have h0 := hx.cell (i := 0) rfl
  have h1 := hx.cell (i := 1) rfl
  have h2 := hx.cell (i := 2) rfl
  have h3 := hx.cell (i := 3) rfl
  have h4 := hx.cell (i := 4) rfl
  simp [results, Tryz.results98, go_sem, ht, h7, h8, h0, h1, h2, h3, h4]
theorem rrFIM {w : World} {g : Nat} {x0 x1 x2 x3 x4 : Value} {e : Int} {tmps : Array Value} (ht : tmps[6]? = some (.pointer (some ⟨g, 0, none⟩))) (h8 : tmps[7]? = some (.int .i64 e)) (hx : BoxL w g 62 #[x0, x1, x2, x3, x4]) :
    (results Tryz.f23 tmps).run Tryz.prog w = .ok (.tuple #[.agg #[x0, x1, x2, x3, x4], .int .i64 e]) w := by
  have h0 := hx.cell (i := 0) rfl
  have h1 := hx.cell (i := 1) rfl
  have h2 := hx.cell (i := 2) rfl
  have h3 := hx.cell (i := 3) rfl
  have h4 := hx.cell (i := 4) rfl
  simp [results, Tryz.results23, go_sem, ht, h8, h0, h1, h2, h3, h4]
set_option maxHeartbeats 4000000 in
theorem findM_any {N : Nat} {M : Nat → Prop} {w : World} {p : Nat} {ks : List Txt} {f : Txt → Txt} (h : ShW N M w p ks f) (nm : Txt) (i : Nat) (hn : nm.length ≤ 400) (hi : i < 18446744073709551616) (m : Int) (hm : w.cell? ⟨0, 0, none⟩ = some (.int .i64 m)) :
    Calls Tryz.prog 98 #[.iface 25 (.pointer (some ⟨p, 0, none⟩)), .string (str nm), .int .u64 i] w fun e w' => e = .returned (.tuple #[aggM (findM ks f nm i).1, .bool (findM ks f nm i).2.1, .int .i64 (findM ks f nm i).2.2]) ∧ Below w.heap.size w w' := by
  have h00 := World.block_lt_of_cell? _ _ hm
  have hmf : ∀ (fn : Fn) (first cap : Array Value) (w : World), (Instr.makeFunc fn first cap).run Tryz.prog w = .ok (.func fn first cap) w := fun _ _ _ _ => rfl
  have bA : Below w.heap.size w (w.alloc (.cells #[.string ⟨#[]⟩, .int .u64 0, .int .u32 0, .int .u64 0, .string ⟨#[]⟩] 62)) := (Below.refl _ _).alloc (Nat.le_refl _) _
  have HX := Lib.hid (BoxL.new w #[.string ⟨#[]⟩, .int .u64 0, .int .u32 0, .int .u64 0, .string ⟨#[]⟩] 62)
  have HK := Lib.hid (skeyM_any nm i hn hi m (w.alloc (.cells #[.string ⟨#[]⟩, .int .u64 0, .int .u32 0, .int .u64 0, .string ⟨#[]⟩] 62)) ((bA.cell (p := ⟨0, 0, none⟩) h00).trans hm))
  have HA := Lib.hid bA
  have HQ := Lib.hid (fun W => messages_any (str nm) i W)
  clear bA hm h00
  unfold findM
  by_cases hk : (kM nm i).length ≤ 255
  · rw [if_pos hk]
    have e1 : kS (mParts nm i) = kM nm i := if_pos hk
    have e2 : kE (mParts nm i) = 0 := if_pos hk
    rw [e1, e2] at HK
    have HT : Hid (∀ W cd, Below w.heap.size w W → CdM W cd (str nm) i → Calls Tryz.prog 198 #[.iface 25 (.pointer (some ⟨p, 0, none⟩)), .string (str (kM nm i)), .func (.func 200) #[cd] #[]] W fun e W' => e = .returned (tgOut (.agg #[.string ⟨#[]⟩, .int .u64 0, .int .u32 0, .int .u64 0, .string ⟨#[]⟩]) (aggM (readG zM (getM (str nm) i) (str (shV ks f (kM nm i)))).1) (decide (kM nm i ∈ ks)) 0 (readG zM (getM (str nm) i) (str (shV ks f (kM nm i)))).2) ∧ Below W.heap.size W W') := fun W cd hb hc =>
      thingM_any _ (kM nm i) (shV ks f (kM nm i)) _ 0 cd _ _ W (fun W' hb' => askGet_any (h.below (below_step hb hb')) (kM nm i) (by unfold maxLen; omega)) (fun W' hb' => (hc.below hb').read _) (.inl rfl)
    clear e1 e2 h
    generalize hr : readG zM (getM (str nm) i) (str (shV ks f (kM nm i))) = rr at HT ⊢
    clear hr
    rw [tgOut_resM] at HT
    generalize fResM (decide (kM nm i ∈ ks)) rr.1 rr.2 = r at HT ⊢
    obtain ⟨q, b, e⟩ := r
    unfold aggM at HT ⊢
    simp only at HT ⊢
    go_enter Tryz.func98, Tryz.ntmps98
    go_wp2_with (first
      | (go_at_call 106; refine HK.out.mono ?_; rintro e1 w1 ⟨rfl, hb1⟩)
      | (go_at_call 199; refine (HQ.out _).mono ?_; rintro e2 w2 ⟨cd, rfl, hcd, hb2⟩)
      | (go_at_call 198; refine (HT.out _ _ (below_step HA.out (below_step hb1 hb2)) hcd).mono ?_; rintro e3 w3 ⟨rfl, hb3⟩; have x1 := ((HX.out.below hb1 HX.out.lt).below hb2 (HX.out.below hb1 HX.out.lt).lt).below hb3 ((HX.out.below hb1 HX.out.lt).below hb2 (HX.out.below hb1 HX.out.lt).lt).lt; have f1 := x1.frozen; have q0 := x1.cell (i := 0) rfl; have q1 := x1.cell (i := 1) rfl; have q2 := x1.cell (i := 2) rfl; have q3 := x1.cell (i := 3) rfl; have q4 := x1.cell (i := 4) rfl))
    have xs := (((((x1.set 0 (.string q.qu)).set 1 (.int .u64 q.id)).set 2 (.int .u32 q.tries)).set 3 (.int .u64 q.expiry)).set 4 (.string q.body))
    exact bodyPost_ret_by (rrFiM rfl rfl rfl xs) rfl ⟨rfl, below_sets (below_step HA.out (below_step (below_step hb1 hb2) hb3)) (Nat.le_refl _)⟩
  · rw [if_neg hk]
    have e1 : kS (mParts nm i) = [] := if_neg hk
    have e2 : kE (mParts nm i) = 5 := if_neg hk
    rw [e1, e2] at HK
    clear e1 e2 h hk
    go_enter Tryz.func98, Tryz.ntmps98
    go_wp2_with (go_at_call 106; refine HK.out.mono ?_; rintro e1 w1 ⟨rfl, hb1⟩; have x1 := HX.out.below hb1 HX.out.lt; have f1 := x1.frozen; have q0 := x1.cell (i := 0) rfl; have q1 := x1.cell (i := 1) rfl; have q2 := x1.cell (i := 2) rfl; have q3 := x1.cell (i := 3) rfl; have q4 := x1.cell (i := 4) rfl)
    have xs := (((((x1.set 0 (.string ⟨#[]⟩)).set 1 (.int .u64 0)).set 2 (.int .u32 0)).set 3 (.int .u64 0)).set 4 (.string ⟨#[]⟩))
    exact bodyPost_ret_by (rrFiM rfl rfl rfl xs) rfl ⟨rfl, below_sets (below_step HA.out hb1) (Nat.le_refl _)⟩
set_option maxHeartbeats 4000000 in
theorem mGet_any {N : Nat} {M : Nat → Prop} {w : World} {p : Nat} {ks : List Txt} {f : Txt → Txt} (h : ShW N M w p ks f) (nm : Txt) (i : Nat) (hn : nm.length ≤ 400) (hi : i < 18446744073709551616) (m : Int) (hm : w.cell? ⟨0, 0, none⟩ = some (.int .i64 m)) :
    Calls Tryz.prog 23 #[.iface 25 (.pointer (some ⟨p, 0, none⟩)), .string (str nm), .int .u64 i] w fun e w' => e = .returned (.tuple #[aggM (findM ks f nm i).1, .int .i64 (fiE (findM ks f nm i).2.1 (findM ks f nm i).2.2)]) ∧ Below w.heap.size w w' := by
  have h00 := World.block_lt_of_cell? _ _ hm
  have bA : Below w.heap.size w (w.alloc (.cells #[.string ⟨#[]⟩, .int .u64 0, .int .u32 0, .int .u64 0, .string ⟨#[]⟩] 62)) := (Below.refl _ _).alloc (Nat.le_refl _) _
  have HX := Lib.hid (BoxL.new w #[.string ⟨#[]⟩, .int .u64 0, .int .u32 0, .int .u64 0, .string ⟨#[]⟩] 62)
  have HF := Lib.hid (findM_any (h.below bA) nm i hn hi m ((bA.cell (p := ⟨0, 0, none⟩) h00).trans hm))
  have HA := Lib.hid bA
  clear bA hm h00 h
  revert HF
  generalize findM ks f nm i = r
  intro HF
  obtain ⟨q, b, e⟩ := r
  unfold aggM at HF ⊢
  simp only at HF ⊢
  by_cases he : e = 0
  · subst he
    cases b
    all_goals
      go_enter Tryz.func23, Tryz.ntmps23
      go_wp2_with (go_at_call 98; refine HF.out.mono ?_; rintro e1 w1 ⟨rfl, hb1⟩; have x0 := HX.out.below hb1 HX.out.lt; have x1 := x0.alloc (.cells #[.string q.qu, .int .u64 q.id, .int .u32 q.tries, .int .u64 q.expiry, .string q.body] 62); have f1 := x1.frozen; have q0 := x1.cell (i := 0) rfl; have q1 := x1.cell (i := 1) rfl; have q2 := x1.cell (i := 2) rfl; have q3 := x1.cell (i := 3) rfl; have q4 := x1.cell (i := 4) rfl)
      have xs := (((((x1.set 0 (.string q.qu)).set 1 (.int .u64 q.id)).set 2 (.int .u32 q.tries)).set 3 (.int .u64 q.expiry)).set 4 (.string q.body))
      exact bodyPost_ret_by (rrFIM rfl rfl xs) rfl ⟨rfl, below_sets ((below_step HA.out hb1).trans (((Below.refl _ _).alloc (Nat.le_refl _) _).mono (below_step HA.out hb1).size)) (Nat.le_refl _)⟩
  · have hb : (e != 0) = true := by simpa using he
    have hb' : (e == 0) = false := by simpa using he
    have e2 : fiE b e = e := by unfold fiE; rw [if_neg (fun h => he h.1)]
    rw [e2]
    clear he e2
    go_enter Tryz.func23, Tryz.ntmps23
    go_wp2_with (go_at_call 98; refine HF.out.mono ?_; rintro e1 w1 ⟨rfl, hb1⟩; have x0 := HX.out.below hb1 HX.out.lt; have x1 := x0.alloc (.cells #[.string q.qu, .int .u64 q.id, .int .u32 q.tries, .int .u64 q.expiry, .string q.body] 62); have f1 := x1.frozen; have q0 := x1.cell (i := 0) rfl; have q1 := x1.cell (i := 1) rfl; have q2 := x1.cell (i := 2) rfl; have q3 := x1.cell (i := 3) rfl; have q4 := x1.cell (i := 4) rfl)
    have xs := (((((x1.set 0 (.string q.qu)).set 1 (.int .u64 q.id)).set 2 (.int .u32 q.tries)).set 3 (.int .u64 q.expiry)).set 4 (.string q.body))
    exact bodyPost_ret_by (rrFIM rfl rfl xs) rfl ⟨rfl, below_sets ((below_step HA.out hb1).trans (((Below.refl _ _).alloc (Nat.le_refl _) _).mono (below_step HA.out hb1).size)) (Nat.le_refl _)⟩
end Go.Proofs.YtgmneapgihakgaaGreatDoor
