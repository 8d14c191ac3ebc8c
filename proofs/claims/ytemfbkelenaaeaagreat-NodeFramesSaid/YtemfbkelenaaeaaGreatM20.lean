/- Texts of one seat, merged. -/
import Derived.Test.YtemfbkelenaaeaaGreatM17
import Derived.Test.YtemfbkelenaaeaaGreatM19
import Derived.Test.YtemfbkelenaaeaaGreatM05
import Derived.Test.YtemfbkelenaaeaaGreatM11
import Derived.Test.YtemfbkelenaaeaaGreatM09
import Derived.Deep.DeepCutAuto
import Derived.Test.YtemfbkelenaaeaaGreatM13
import Derived.Test.YtemfbkelenaaeaaGreatM12
import Derived.Test.YtemfbkelenaaeaaGreatM08
set_option maxRecDepth 100000
set_option maxHeartbeats 4000000
set_option linter.unusedVariables false
/- What the program's Read and the document's own answer at one body: the same row, and the same number. -/
namespace Go.Proofs.YtemfbkelenaaeaaGreat
open Go.RowKit
open Sl (Cl Kd)
theorem capN : Cap (.slice none 0 0) := ⟨none, 0, 0, Nat.le_refl _, Nat.zero_le _, fun _ => rfl⟩
inductive ResC (l : List Cl) (r : Int) (w : World) (e : Ending) (w' : World) : Prop
  | mk (v : Value) (he : e = .returned (.tuple #[v, .int .i64 r])) (hv : SlC w' v l) (hq : Cap v) (hb : Below w.heap.size w w')
inductive ResK (l : List Kd) (r : Int) (w : World) (e : Ending) (w' : World) : Prop
  | mk (v : Value) (he : e = .returned (.tuple #[v, .int .i64 r])) (hv : SlK w' v l) (hq : Cap v) (hb : Below w.heap.size w w')
theorem right_rises {α : Type} (S : Sl.Sh α) (l : List α) (h : Sl.right S l = 0) : Sl.rises S l = true := by
  unfold Sl.right at h
  split at h
  · cases h
  · split at h
    · assumption
    · cases h
structure BothC (s : List UInt8) (n : Int) (l : List Cl) (r : Int) : Prop where
  len : l.length ≤ 5000
  up : Sl.rises Sl.shC l = true
  prog : ∀ W, Calls Tryz.prog 33 #[shpC, .string (str s), .int .i64 n] W (ResC l r W)
  doc : ∀ W, Calls Tryz.prog 37 #[.string (str s), .int .i64 n, .bool true] W (ResC l r W)
structure BothK (s : List UInt8) (n : Int) (l : List Kd) (r : Int) : Prop where
  len : l.length ≤ 5000
  up : Sl.rises Sl.shK l = true
  prog : ∀ W, Calls Tryz.prog 35 #[shpK, .string (str s), .int .i64 n] W (ResK l r W)
  doc : ∀ W, Calls Tryz.prog 37 #[.string (str s), .int .i64 n, .bool false] W (ResC (l.map toC) r W)
theorem both_leaf (s : List UInt8) (hs : s.length ≤ 5000) (n : Int) : ∃ l r, BothC s n l r := by
  by_cases h : ∃ m, 0 ≤ n ∧ Canon true s n.toNat m
  · obtain ⟨m, h0, hm⟩ := h
    have hz := hm.size
    have hl := hm.1
    by_cases hr : Sl.right Sl.shC m = 0
    · refine ⟨m, 0, ⟨by omega, right_rises _ _ hr, fun W => (readC_any s (by omega) n W).mono ?_, fun W => (refRead_true s hs n W).mono ?_⟩⟩
      · rintro e w' (⟨hb, _, _⟩ | ⟨l, _, hm2, hr2, _, _⟩ | ⟨l, _, hm2, _, v, he, hv, hq, hb⟩)
        · exact absurd hm (hb m h0)
        · rw [Canon.unique hm2 hm] at hr2; exact absurd hr hr2
        · rw [Canon.unique hm2 hm] at hv; exact ⟨v, he, hv, hq, hb⟩
      · rintro e w' (⟨hb, _, _⟩ | ⟨l, _, hm2, hr2, _, _⟩ | ⟨l, _, hm2, _, v, he, hv, hq, hb⟩)
        · exact absurd hm (hb m h0)
        · rw [Canon.unique hm2 hm] at hr2; exact absurd hr hr2
        · rw [Canon.unique hm2 hm] at hv; exact ⟨v, he, hv, hq, hb⟩
    · refine ⟨[], Sl.right Sl.shC m, ⟨Nat.zero_le _, rfl, fun W => (readC_any s (by omega) n W).mono ?_, fun W => (refRead_true s hs n W).mono ?_⟩⟩
      · rintro e w' (⟨hb, _, _⟩ | ⟨l, _, hm2, hr2, he, hb⟩ | ⟨l, _, hm2, hr2, v, he, hv, hq, hb⟩)
        · exact absurd hm (hb m h0)
        · rw [Canon.unique hm2 hm] at he; exact ⟨_, he, SlC.nil _, capN, hb⟩
        · rw [Canon.unique hm2 hm] at hr2; exact absurd hr2 hr
      · rintro e w' (⟨hb, _, _⟩ | ⟨l, _, hm2, hr2, he, hb⟩ | ⟨l, _, hm2, hr2, v, he, hv, hq, hb⟩)
        · exact absurd hm (hb m h0)
        · rw [Canon.unique hm2 hm] at he; exact ⟨_, he, SlC.nil _, capN, hb⟩
        · rw [Canon.unique hm2 hm] at hr2; exact absurd hr2 hr
  · have hn : ∀ m, 0 ≤ n → ¬ Canon true s n.toNat m := fun m h0 hm => h ⟨m, h0, hm⟩
    refine ⟨[], 4, ⟨Nat.zero_le _, rfl, fun W => (readC_any s (by omega) n W).mono ?_, fun W => (refRead_true s hs n W).mono ?_⟩⟩
    · rintro e w' (⟨_, he, hb⟩ | ⟨l, h0, hm2, _, _, _⟩ | ⟨l, h0, hm2, _, _, _, _, _, _⟩)
      · exact ⟨_, he, SlC.nil _, capN, hb⟩
      all_goals exact absurd hm2 (hn _ h0)
    · rintro e w' (⟨_, he, hb⟩ | ⟨l, h0, hm2, _, _, _⟩ | ⟨l, h0, hm2, _, _, _, _, _, _⟩)
      · exact ⟨_, he, SlC.nil _, capN, hb⟩
      all_goals exact absurd hm2 (hn _ h0)
theorem kid_of (m : List Cl) (h : ∀ x ∈ m, canR false x) : (m.map toK).map toC = m := by
  rw [List.map_map]
  conv => rhs; rw [← List.map_id m]
  refine List.map_congr_left fun x hx => ?_
  obtain ⟨_, _, h3, h4⟩ := h x hx
  obtain ⟨k, v, c, g⟩ := x
  simp only at h3 h4
  subst h3; subst h4; rfl
theorem toC_inj (l m : List Kd) (h : l.map toC = m.map toC) : l = m := by
  have := congrArg (List.map toK) h
  rw [List.map_map, List.map_map] at this
  have hid : (toK ∘ toC) = id := funext fun x => by cases x; rfl
  rwa [hid, List.map_id, List.map_id] at this
theorem both_kid (s : List UInt8) (hs : s.length ≤ 5000) (n : Int) : ∃ l r, BothK s n l r := by
  by_cases h : ∃ m, 0 ≤ n ∧ Canon false s n.toNat m
  · obtain ⟨m', h0, hm'⟩ := h
    obtain ⟨m, hm⟩ : ∃ m : List Kd, Canon false s n.toNat (m.map toC) := ⟨m'.map toK, by rw [kid_of m' hm'.2.1]; exact hm'⟩
    have hz := hm.size
    have hl := hm.1
    rw [List.length_map] at hl
    have hrr : Sl.right (Sl.shR false) (m.map toC) = Sl.right Sl.shK m := by rw [Sl.right_map, Sl.shR_false]
    have hu : ∀ l : List Kd, Canon false s n.toNat (l.map toC) → l = m := fun l hl => toC_inj _ _ (Canon.unique hl hm)
    by_cases hr : Sl.right Sl.shK m = 0
    · refine ⟨m, 0, ⟨by omega, right_rises _ _ hr, fun W => (readK_any s (by omega) n W).mono ?_, fun W => (refRead_false s hs n W).mono ?_⟩⟩
      · rintro e w' (⟨hb, _, _⟩ | ⟨l, _, hm2, hr2, _, _⟩ | ⟨l, _, hm2, _, v, he, hv, hq, hb⟩)
        · exact absurd hm (hb _ h0)
        · rw [hu l hm2] at hr2; exact absurd hr hr2
        · rw [hu l hm2] at hv; exact ⟨v, he, hv, hq, hb⟩
      · rintro e w' (⟨hb, _, _⟩ | ⟨l, _, hm2, hr2, _, _⟩ | ⟨l, _, hm2, _, v, he, hv, hq, hb⟩)
        · exact absurd hm (hb _ h0)
        · rw [Canon.unique hm2 hm, hrr] at hr2; exact absurd hr hr2
        · rw [Canon.unique hm2 hm] at hv; exact ⟨v, he, hv, hq, hb⟩
    · refine ⟨[], Sl.right Sl.shK m, ⟨Nat.zero_le _, rfl, fun W => (readK_any s (by omega) n W).mono ?_, fun W => (refRead_false s hs n W).mono ?_⟩⟩
      · rintro e w' (⟨hb, _, _⟩ | ⟨l, _, hm2, hr2, he, hb⟩ | ⟨l, _, hm2, hr2, v, he, hv, hq, hb⟩)
        · exact absurd hm (hb _ h0)
        · rw [hu l hm2] at he; exact ⟨_, he, SlK.nil _, capN, hb⟩
        · rw [hu l hm2] at hr2; exact absurd hr2 hr
      · rintro e w' (⟨hb, _, _⟩ | ⟨l, _, hm2, hr2, he, hb⟩ | ⟨l, _, hm2, hr2, v, he, hv, hq, hb⟩)
        · exact absurd hm (hb _ h0)
        · rw [Canon.unique hm2 hm, hrr] at he; exact ⟨_, he, SlC.nil _, capN, hb⟩
        · rw [Canon.unique hm2 hm, hrr] at hr2; exact absurd hr2 hr
  · have hn : ∀ m, 0 ≤ n → ¬ Canon false s n.toNat m := fun m h0 hm => h ⟨m, h0, hm⟩
    refine ⟨[], 4, ⟨Nat.zero_le _, rfl, fun W => (readK_any s (by omega) n W).mono ?_, fun W => (refRead_false s hs n W).mono ?_⟩⟩
    · rintro e w' (⟨_, he, hb⟩ | ⟨l, h0, hm2, _, _, _⟩ | ⟨l, h0, hm2, _, _, _, _, _, _⟩)
      · exact ⟨_, he, SlK.nil _, capN, hb⟩
      all_goals exact absurd hm2 (hn _ h0)
    · rintro e w' (⟨_, he, hb⟩ | ⟨l, h0, hm2, _, _, _⟩ | ⟨l, h0, hm2, _, _, _, _, _, _⟩)
      · exact ⟨_, he, SlC.nil _, capN, hb⟩
      all_goals exact absurd hm2 (hn _ h0)
theorem place_map (key : List UInt8) : ∀ l : List Kd, Sl.place Sl.shC (l.map toC) key = Sl.place Sl.shK l key
  | [] => rfl
  | x :: l => by
    have := place_map key l
    unfold Sl.place at this ⊢
    rw [List.map_cons, List.takeWhile_cons, List.takeWhile_cons]
    rw [show Sl.shC.key (toC x) = Sl.shK.key x from rfl]
    split
    · rw [List.length_cons, List.length_cons, this]
    · rfl
theorem there_map (key : List UInt8) (l : List Kd) : Sl.there Sl.shC (l.map toC) key = Sl.there Sl.shK l key := by
  unfold Sl.there
  rw [place_map, List.getElem?_map]
  cases l[Sl.place Sl.shK l key]? <;> rfl
end Go.Proofs.YtemfbkelenaaeaaGreat
/- The contracts of Of: the node that a frame is. -/
namespace Go.Proofs.YtemfbkelenaaeaaGreat
open Go.RowKit
open Sl (Cl Kd Nd Rn)
inductive NRes (n : Nd) (r : Int) (w : World) (e : Ending) (w' : World) : Prop
  | mk (v : Value) (he : e = .returned (.tuple #[v, .int .i64 r])) (hv : NdV w' v n) (hb : Below w.heap.size w w')
def zeroN : Nd := ⟨false, [], []⟩
theorem zeroN_v (w : World) : NdV w (ndV false (.slice none 0 0) (.slice none 0 0)) zeroN := ⟨_, _, rfl, SlC.nil _, cap_nil, SlK.nil _, cap_nil⟩
theorem layK3 {w w1 : World} {L : List (Addr × Value)} {p0 p1 p2 : Addr} {x0 x1 x2 : Value} (H : w1.cell? p0 = some x0 ∧ w1.cell? p1 = some x1 ∧ w1.cell? p2 = some x2 ∧ Kp w.heap.size w L w1) (A : Array Value) (T : TypeId) :
    (w1.alloc (.cells A T)).cell? p0 = some x0 ∧ (w1.alloc (.cells A T)).cell? p1 = some x1 ∧ (w1.alloc (.cells A T)).cell? p2 = some x2 ∧ Kp w.heap.size w (L ++ row1 w1.heap.size A) (w1.alloc (.cells A T)) := by
  obtain ⟨q0, q1, q2, q3⟩ := stepK3 (Nat.le_refl _) H ((Below.refl _ _).alloc (Nat.le_refl _) (.cells A T))
  exact ⟨q0, q1, q2, q3.both (Kp.laid H.2.2.2.below H.2.2.2.below.size A T)⟩
theorem startOf (w : World) (a b c d : Int) (s : ByteArray) :
    ((w.alloc (.cells #[.int .u8 a, .int .u16 b, .int .u32 c, .int .u64 d, .string s] 27)).alloc (.cells #[.bool false, .slice none 0 0, .slice none 0 0] 32)).drew.cell? ⟨w.heap.size, 0, none⟩ = some (.int .u8 a) ∧
    ((w.alloc (.cells #[.int .u8 a, .int .u16 b, .int .u32 c, .int .u64 d, .string s] 27)).alloc (.cells #[.bool false, .slice none 0 0, .slice none 0 0] 32)).drew.cell? ⟨w.heap.size, 1, none⟩ = some (.int .u16 b) ∧
    ((w.alloc (.cells #[.int .u8 a, .int .u16 b, .int .u32 c, .int .u64 d, .string s] 27)).alloc (.cells #[.bool false, .slice none 0 0, .slice none 0 0] 32)).drew.cell? ⟨w.heap.size, 4, none⟩ = some (.string s) ∧
    Kp w.heap.size w (row1 (w.heap.size + 1) zn) ((w.alloc (.cells #[.int .u8 a, .int .u16 b, .int .u32 c, .int .u64 d, .string s] 27)).alloc (.cells #[.bool false, .slice none 0 0, .slice none 0 0] 32)).drew :=
  ⟨box0 w _ _ _ _ 0, box0 w _ _ _ _ 1, box0 w _ _ _ _ 4, startK w _ _ _ _⟩
set_option maxHeartbeats 4000000 in
theorem nOfC_bad (b c d : Int) (hb0 : 0 ≤ b) (hb1 : b < 65536) (s : List UInt8) (l : List Cl) (r : Int) (hr0 : ¬ r = 0) (hp : ∀ W, Calls Tryz.prog 33 #[shpC, .string (str s), .int .i64 b] W (ResC l r W)) (w : World) :
    Calls Tryz.prog 11 #[.agg #[.int .u8 2, .int .u16 b, .int .u32 c, .int .u64 d, .string (str s)]] w (NRes zeroN r w) := by
  have HP := Lib.hid hp
  have HLV := Lib.hid (fun W => leaves_any W)
  unfold shpC at HP HLV
  have hw64 : IntKind.i64.wrap b = b := IntWalk.i64_in _ (by omega)
  have HST := Lib.hid (startOf w 2 b c d (str s))
  clear hp
  go_enter Tryz.func11, Tryz.ntmps11
  go_wp2_with fail
  go_region_held3 (fun w' => w'.cell? ⟨w.heap.size, 0, none⟩ = some (.int .u8 2) ∧ w'.cell? ⟨w.heap.size, 1, none⟩ = some (.int .u16 b) ∧ w'.cell? ⟨w.heap.size, 4, none⟩ = some (.string (str s)) ∧ Kp w.heap.size w (row1 (w.heap.size + 1) zn) w')
    ((first | assumption | exact stepK3 (Nat.le_refl _) ‹_› hb | exact HST.out))
    (first
    | (go_at_call 25; refine (HLV.out _).mono ?_; rintro e w1 ⟨rfl, hb⟩)
    | (go_at_call 33; refine (HP.out _).mono ?_; rintro e w2 ⟨v, rfl, hv, hq, hb⟩; obtain ⟨a5, n5, c5, ha5, hc5, hn5⟩ := hq; clear hv))
  rename_i hS
  have HS2 := Lib.hid hS
  clear hS
  obtain ⟨⟨z0, z1, z2⟩, f0, f1, f2⟩ := HS2.out.2.2.2.zn
  go_wp2
  refine bodyPost_ret_by (v := .tuple #[ndV false (.slice none 0 0) (.slice none 0 0), .int .i64 r]) ?_ rfl ?_
  · simp [ndV, results, Tryz.results11, go_sem, z0, z1, z2]
  · exact ⟨_, rfl, zeroN_v _, below_set3 HS2.out.2.2.2.below (Nat.le_succ _)⟩
set_option maxHeartbeats 4000000 in
theorem nOfC_ok (b c d : Int) (hb0 : 0 ≤ b) (hb1 : b < 65536) (s : List UInt8) (l : List Cl) (hp : ∀ W, Calls Tryz.prog 33 #[shpC, .string (str s), .int .i64 b] W (ResC l 0 W)) (w : World) :
    Calls Tryz.prog 11 #[.agg #[.int .u8 2, .int .u16 b, .int .u32 c, .int .u64 d, .string (str s)]] w (NRes ⟨true, l, []⟩ 0 w) := by
  have HP := Lib.hid hp
  have HLV := Lib.hid (fun W => leaves_any W)
  unfold shpC at HP HLV
  have hw64 : IntKind.i64.wrap b = b := IntWalk.i64_in _ (by omega)
  have HST := Lib.hid (startOf w 2 b c d (str s))
  clear hp
  go_enter Tryz.func11, Tryz.ntmps11
  go_wp2_with fail
  go_region_held3 (fun w' => w'.cell? ⟨w.heap.size, 0, none⟩ = some (.int .u8 2) ∧ w'.cell? ⟨w.heap.size, 1, none⟩ = some (.int .u16 b) ∧ w'.cell? ⟨w.heap.size, 4, none⟩ = some (.string (str s)) ∧ Kp w.heap.size w (row1 (w.heap.size + 1) zn) w')
    ((first | assumption | exact stepK3 (Nat.le_refl _) ‹_› hb | exact HST.out))
    (first
    | (go_at_call 25; refine (HLV.out _).mono ?_; rintro e w1 ⟨rfl, hb⟩)
    | (go_at_call 33; refine (HP.out _).mono ?_; rintro e w2 ⟨v, rfl, hv, hq, hb⟩; obtain ⟨a5, n5, c5, ha5, hc5, hn5⟩ := hq; have HV := Lib.hid hv; have HQ := Lib.hid (Cap.mk a5 n5 c5 ha5 hc5 hn5); clear hv))
  rename_i hS
  have HS2 := Lib.hid hS
  clear hS
  have HL5 := Lib.hid (fun W => leaf_any (.slice a5 n5 c5) HQ.out W)
  unfold ndV at HL5
  go_wp2_with (go_at_call 34; with_reducible refine (HL5.out _).mono ?_; rintro e w3 ⟨rfl, hb3⟩; have HS3 := Lib.hid (stepK3 (Nat.le_refl _) HS2.out hb3); have HV3 := Lib.hid (HV.out.below hb3); clear hb3; obtain ⟨⟨z0, z1, z2⟩, f0, f1, f2⟩ := HS3.out.2.2.2.zn)
  refine bodyPost_ret_by (v := .tuple #[ndV true (.slice a5 n5 c5) (.slice none 0 0), .int .i64 0]) ?_ rfl ?_
  · simp [ndV, results, Tryz.results11, go_sem, z0, z1, z2]
  · exact ⟨_, rfl, ⟨_, _, rfl, HV3.out.box3 z0 z1 z2 rfl rfl rfl _ _ _, HQ.out, SlK.nil _, cap_nil⟩, below_set3 HS3.out.2.2.2.below (Nat.le_succ _)⟩
set_option maxHeartbeats 4000000 in
theorem nOfK_bad (b c d : Int) (hb0 : 0 ≤ b) (hb1 : b < 65536) (s : List UInt8) (l : List Kd) (r : Int) (hr0 : ¬ r = 0) (hp : ∀ W, Calls Tryz.prog 35 #[shpK, .string (str s), .int .i64 b] W (ResK l r W)) (w : World) :
    Calls Tryz.prog 11 #[.agg #[.int .u8 3, .int .u16 b, .int .u32 c, .int .u64 d, .string (str s)]] w (NRes zeroN r w) := by
  have HP := Lib.hid hp
  have HLV := Lib.hid (fun W => kids_any W)
  unfold shpK at HP HLV
  have hw64 : IntKind.i64.wrap b = b := IntWalk.i64_in _ (by omega)
  have HST := Lib.hid (startOf w 3 b c d (str s))
  clear hp
  go_enter Tryz.func11, Tryz.ntmps11
  go_wp2_with fail
  go_region_held3 (fun w' => w'.cell? ⟨w.heap.size, 0, none⟩ = some (.int .u8 3) ∧ w'.cell? ⟨w.heap.size, 1, none⟩ = some (.int .u16 b) ∧ w'.cell? ⟨w.heap.size, 4, none⟩ = some (.string (str s)) ∧ Kp w.heap.size w (row1 (w.heap.size + 1) zn) w')
    ((first | assumption | exact stepK3 (Nat.le_refl _) ‹_› hb | exact HST.out))
    (first
    | (go_at_call 29; refine (HLV.out _).mono ?_; rintro e w1 ⟨rfl, hb⟩)
    | (go_at_call 35; refine (HP.out _).mono ?_; rintro e w2 ⟨v, rfl, hv, hq, hb⟩; obtain ⟨a5, n5, c5, ha5, hc5, hn5⟩ := hq; clear hv))
  rename_i hS
  have HS2 := Lib.hid hS
  clear hS
  obtain ⟨⟨z0, z1, z2⟩, f0, f1, f2⟩ := HS2.out.2.2.2.zn
  go_wp2
  refine bodyPost_ret_by (v := .tuple #[ndV false (.slice none 0 0) (.slice none 0 0), .int .i64 r]) ?_ rfl ?_
  · simp [ndV, results, Tryz.results11, go_sem, z0, z1, z2]
  · exact ⟨_, rfl, zeroN_v _, below_set3 HS2.out.2.2.2.below (Nat.le_succ _)⟩
theorem nOfK_pre (l : List Kd) (a : Option Addr) (n c : Nat) (hq : Cap (.slice a n c)) (W : World) (hv : SlK W (.slice a n c) l) (hl : l.length ≤ 100000) :
    Calls Tryz.prog 28 #[.agg #[.bool false, .slice none 0 0, .slice a n c]] W fun e w' => e = .returned (.bool (Sl.leadsB l)) ∧ Below W.heap.size W w' :=
  leads_any _ ⟨false, [], l⟩ W ⟨_, _, rfl, SlC.nil _, cap_nil, hv, hq⟩ hl
set_option maxHeartbeats 4000000 in
theorem nOfK_yes (b c d : Int) (hb0 : 0 ≤ b) (hb1 : b < 65536) (s : List UInt8) (l : List Kd) (hl : l.length ≤ 100000) (hld : Sl.leadsB l = true) (hp : ∀ W, Calls Tryz.prog 35 #[shpK, .string (str s), .int .i64 b] W (ResK l 0 W)) (w : World) :
    Calls Tryz.prog 11 #[.agg #[.int .u8 3, .int .u16 b, .int .u32 c, .int .u64 d, .string (str s)]] w (NRes ⟨false, [], l⟩ 0 w) := by
  have HP := Lib.hid hp
  have HLV := Lib.hid (fun W => kids_any W)
  unfold shpK at HP HLV
  have hw64 : IntKind.i64.wrap b = b := IntWalk.i64_in _ (by omega)
  have HST := Lib.hid (startOf w 3 b c d (str s))
  have HLD := Lib.hid (fun a n c hq W hv => nOfK_pre l a n c hq W hv hl)
  rw [hld] at HLD
  clear hp hld
  go_enter Tryz.func11, Tryz.ntmps11
  go_wp2_with fail
  go_region_held3 (fun w' => w'.cell? ⟨w.heap.size, 0, none⟩ = some (.int .u8 3) ∧ w'.cell? ⟨w.heap.size, 1, none⟩ = some (.int .u16 b) ∧ w'.cell? ⟨w.heap.size, 4, none⟩ = some (.string (str s)) ∧ Kp w.heap.size w (row1 (w.heap.size + 1) zn) w')
    ((first | assumption | exact stepK3 (Nat.le_refl _) ‹_› hb | exact HST.out))
    (first
    | (go_at_call 29; refine (HLV.out _).mono ?_; rintro e w1 ⟨rfl, hb⟩)
    | (go_at_call 35; refine (HP.out _).mono ?_; rintro e w2 ⟨v, rfl, hv, hq, hb⟩; obtain ⟨a5, n5, c5, ha5, hc5, hn5⟩ := hq; have HV := Lib.hid hv; have HQ := Lib.hid (Cap.mk a5 n5 c5 ha5 hc5 hn5); clear hv))
  rename_i hS
  have HS2 := Lib.hid hS
  clear hS
  have HL5 := Lib.hid (fun W => branch_any (.slice a5 n5 c5) HQ.out W)
  unfold ndV at HL5
  go_wp2_with (first
    | (go_at_call 28; refine (HLD.out _ _ _ HQ.out _ HV4.out).mono ?_; rintro e w5 ⟨rfl, hb5⟩; have HS5 := Lib.hid (stepK3 (Nat.le_refl _) HS4.out hb5); have HV5 := Lib.hid (HV4.out.below hb5); clear hb5; obtain ⟨⟨z0, z1, z2⟩, f0, f1, f2⟩ := HS5.out.2.2.2.left.zn; obtain ⟨⟨y0, y1, y2⟩, g0, g1, g2⟩ := HS5.out.2.2.2.right.three)
    | (go_at_call 36; with_reducible refine (HL5.out _).mono ?_; rintro e w3 ⟨rfl, hb3⟩; have HS3 := Lib.hid (stepK3 (Nat.le_refl _) HS2.out hb3); have HV3 := Lib.hid (HV.out.below hb3); clear hb3; have HV4 := Lib.hid (HV3.out.below ((Below.refl _ w3).alloc (Nat.le_refl _) (.cells #[.bool false, .slice none 0 0, .slice a5 n5 c5] 32))); have HS4 := Lib.hid (layK3 HS3.out #[.bool false, .slice none 0 0, .slice a5 n5 c5] 32)))
  refine bodyPost_ret_by (v := .tuple #[ndV false (.slice none 0 0) (.slice a5 n5 c5), .int .i64 0]) ?_ rfl ?_
  · simp [ndV, results, Tryz.results11, go_sem, z0, z1, z2]
  · exact ⟨_, rfl, ⟨_, _, rfl, SlC.nil _, cap_nil, HV5.out.box3 z0 z1 z2 rfl rfl rfl _ _ _, HQ.out⟩, below_set3 HS5.out.2.2.2.below (Nat.le_succ _)⟩
set_option maxHeartbeats 4000000 in
theorem nOfK_no (b c d : Int) (hb0 : 0 ≤ b) (hb1 : b < 65536) (s : List UInt8) (l : List Kd) (hl : l.length ≤ 100000) (hld : Sl.leadsB l = false) (hp : ∀ W, Calls Tryz.prog 35 #[shpK, .string (str s), .int .i64 b] W (ResK l 0 W)) (w : World) :
    Calls Tryz.prog 11 #[.agg #[.int .u8 3, .int .u16 b, .int .u32 c, .int .u64 d, .string (str s)]] w (NRes zeroN 4 w) := by
  have HP := Lib.hid hp
  have HLV := Lib.hid (fun W => kids_any W)
  unfold shpK at HP HLV
  have hw64 : IntKind.i64.wrap b = b := IntWalk.i64_in _ (by omega)
  have HST := Lib.hid (startOf w 3 b c d (str s))
  have HLD := Lib.hid (fun a n c hq W hv => nOfK_pre l a n c hq W hv hl)
  rw [hld] at HLD
  clear hp hld
  go_enter Tryz.func11, Tryz.ntmps11
  go_wp2_with fail
  go_region_held3 (fun w' => w'.cell? ⟨w.heap.size, 0, none⟩ = some (.int .u8 3) ∧ w'.cell? ⟨w.heap.size, 1, none⟩ = some (.int .u16 b) ∧ w'.cell? ⟨w.heap.size, 4, none⟩ = some (.string (str s)) ∧ Kp w.heap.size w (row1 (w.heap.size + 1) zn) w')
    ((first | assumption | exact stepK3 (Nat.le_refl _) ‹_› hb | exact HST.out))
    (first
    | (go_at_call 29; refine (HLV.out _).mono ?_; rintro e w1 ⟨rfl, hb⟩)
    | (go_at_call 35; refine (HP.out _).mono ?_; rintro e w2 ⟨v, rfl, hv, hq, hb⟩; obtain ⟨a5, n5, c5, ha5, hc5, hn5⟩ := hq; have HV := Lib.hid hv; have HQ := Lib.hid (Cap.mk a5 n5 c5 ha5 hc5 hn5); clear hv))
  rename_i hS
  have HS2 := Lib.hid hS
  clear hS
  have HL5 := Lib.hid (fun W => branch_any (.slice a5 n5 c5) HQ.out W)
  unfold ndV at HL5
  go_wp2_with (first
    | (go_at_call 28; refine (HLD.out _ _ _ HQ.out _ HV4.out).mono ?_; rintro e w5 ⟨rfl, hb5⟩; have HS5 := Lib.hid (stepK3 (Nat.le_refl _) HS4.out hb5); have HV5 := Lib.hid (HV4.out.below hb5); clear hb5; obtain ⟨⟨z0, z1, z2⟩, f0, f1, f2⟩ := HS5.out.2.2.2.left.zn; obtain ⟨⟨y0, y1, y2⟩, g0, g1, g2⟩ := HS5.out.2.2.2.right.three)
    | (go_at_call 36; with_reducible refine (HL5.out _).mono ?_; rintro e w3 ⟨rfl, hb3⟩; have HS3 := Lib.hid (stepK3 (Nat.le_refl _) HS2.out hb3); have HV3 := Lib.hid (HV.out.below hb3); clear hb3; have HV4 := Lib.hid (HV3.out.below ((Below.refl _ w3).alloc (Nat.le_refl _) (.cells #[.bool false, .slice none 0 0, .slice a5 n5 c5] 32))); have HS4 := Lib.hid (layK3 HS3.out #[.bool false, .slice none 0 0, .slice a5 n5 c5] 32)))
  refine bodyPost_ret_by (v := .tuple #[ndV false (.slice none 0 0) (.slice none 0 0), .int .i64 4]) ?_ rfl ?_
  · simp [ndV, results, Tryz.results11, go_sem, z0, z1, z2]
  · exact ⟨_, rfl, zeroN_v _, below_set3 HS5.out.2.2.2.below (Nat.le_succ _)⟩
theorem nOfX_any (a b c d : Int) (s : ByteArray) (h2 : ¬ a = 2) (h3 : ¬ a = 3) (w : World) :
    Calls Tryz.prog 11 #[.agg #[.int .u8 a, .int .u16 b, .int .u32 c, .int .u64 d, .string s]] w (NRes zeroN 11 w) := by
  go_enter Tryz.func11, Tryz.ntmps11
  go_wp2
  refine bodyPost_ret_by (v := .tuple #[ndV false (.slice none 0 0) (.slice none 0 0), .int .i64 11]) ?_ rfl ?_
  · simp [ndV, results, Tryz.results11, go_sem]
  · exact ⟨_, rfl, zeroN_v _, boxB w _ _⟩
end Go.Proofs.YtemfbkelenaaeaaGreat
/- What the document's own Of goes by: its boxes. -/
namespace Go.Proofs.YtemfbkelenaaeaaGreat
open Go.RowKit
open Sl (Cl Kd Nd Rn)
inductive RRes (n : Rn) (r : Int) (w : World) (e : Ending) (w' : World) : Prop
  | mk (v : Value) (he : e = .returned (.tuple #[v, .int .i64 r])) (hv : RnV w' v n) (hb : Below w.heap.size w w')
def zeroR : Rn := ⟨false, []⟩
theorem zeroR_v (w : World) : RnV w (rnV false (.slice none 0 0)) zeroR := ⟨_, rfl, SlC.nil _, cap_nil⟩
theorem startRO (w : World) (a b c d : Int) (s : ByteArray) (lf : Bool) :
    (((w.alloc (.cells #[.int .u8 a, .int .u16 b, .int .u32 c, .int .u64 d, .string s] 40)).alloc (.cells #[.bool false, .slice none 0 0] 35)).alloc (.cells #[.bool lf, .slice none 0 0] 35)).cell? ⟨w.heap.size, 0, none⟩ = some (.int .u8 a) ∧
    (((w.alloc (.cells #[.int .u8 a, .int .u16 b, .int .u32 c, .int .u64 d, .string s] 40)).alloc (.cells #[.bool false, .slice none 0 0] 35)).alloc (.cells #[.bool lf, .slice none 0 0] 35)).cell? ⟨w.heap.size, 1, none⟩ = some (.int .u16 b) ∧
    (((w.alloc (.cells #[.int .u8 a, .int .u16 b, .int .u32 c, .int .u64 d, .string s] 40)).alloc (.cells #[.bool false, .slice none 0 0] 35)).alloc (.cells #[.bool lf, .slice none 0 0] 35)).cell? ⟨w.heap.size, 4, none⟩ = some (.string s) ∧
    Kp w.heap.size w (row1 (w.heap.size + 1) zr ++ row1 (w.heap.size + 1 + 1) #[.bool lf, .slice none 0 0]) (((w.alloc (.cells #[.int .u8 a, .int .u16 b, .int .u32 c, .int .u64 d, .string s] 40)).alloc (.cells #[.bool false, .slice none 0 0] 35)).alloc (.cells #[.bool lf, .slice none 0 0] 35)) := by
  have hS : ((w.alloc (.cells #[.int .u8 a, .int .u16 b, .int .u32 c, .int .u64 d, .string s] 40)).alloc (.cells #[.bool false, .slice none 0 0] 35)).heap.size = w.heap.size + 1 + 1 := by simp
  have H : ((w.alloc (.cells #[.int .u8 a, .int .u16 b, .int .u32 c, .int .u64 d, .string s] 40)).alloc (.cells #[.bool false, .slice none 0 0] 35)).cell? ⟨w.heap.size, 0, none⟩ = some (.int .u8 a) ∧
    ((w.alloc (.cells #[.int .u8 a, .int .u16 b, .int .u32 c, .int .u64 d, .string s] 40)).alloc (.cells #[.bool false, .slice none 0 0] 35)).cell? ⟨w.heap.size, 1, none⟩ = some (.int .u16 b) ∧
    ((w.alloc (.cells #[.int .u8 a, .int .u16 b, .int .u32 c, .int .u64 d, .string s] 40)).alloc (.cells #[.bool false, .slice none 0 0] 35)).cell? ⟨w.heap.size, 4, none⟩ = some (.string s) ∧
    Kp w.heap.size w (row1 (w.heap.size + 1) zr) ((w.alloc (.cells #[.int .u8 a, .int .u16 b, .int .u32 c, .int .u64 d, .string s] 40)).alloc (.cells #[.bool false, .slice none 0 0] 35)) :=
    ⟨box0 w _ _ _ _ 0, box0 w _ _ _ _ 1, box0 w _ _ _ _ 4, ⟨(startK w _ _ _ _).cell, (startK w _ _ _ _).froz, boxB w _ _⟩⟩
  obtain ⟨q0, q1, q2, q3⟩ := stepK3 (Nat.le_refl _) H ((Below.refl _ _).alloc (Nat.le_refl _) (.cells #[.bool lf, .slice none 0 0] 35))
  refine ⟨q0, q1, q2, q3.both ?_⟩
  have := Kp.laid H.2.2.2.below H.2.2.2.below.size #[.bool lf, .slice none 0 0] 35
  rwa [hS] at this
/-- The third box's row is written. -/
theorem resetR {w w1 : World} {lf : Bool} (H : Kp w.heap.size w (row1 (w.heap.size + 1) zr ++ row1 (w.heap.size + 1 + 1) #[.bool lf, .slice none 0 0]) w1) (x : Value) :
    Kp w.heap.size w (row1 (w.heap.size + 1) zr ++ row1 (w.heap.size + 1 + 1) #[.bool lf, x]) (w1.setCell ⟨w.heap.size + 1 + 1, 1, none⟩ x) := by
  have hB : w.heap.size ≤ (⟨w.heap.size + 1 + 1, 1, none⟩ : Addr).block := show w.heap.size ≤ w.heap.size + 1 + 1 by omega
  refine (H.left.set (fun q hq => ?_) hB x).both ⟨fun p hp => ?_, fun p hp => ?_, H.below.setCell hB _⟩
  · obtain ⟨i, _, rfl⟩ := List.mem_map.1 hq
    intro h
    injection h with h1 _
    omega
  · obtain ⟨i, hi, rfl⟩ := List.mem_map.1 hp
    have hi2 : i < 2 := List.mem_range.1 hi
    obtain ⟨⟨y0, y1⟩, _⟩ := H.right.two
    match i, hi2 with
    | 0, _ => exact (World.cell?_setCell_other w1 ⟨w.heap.size + 1 + 1, 1, none⟩ ⟨w.heap.size + 1 + 1, 0, none⟩ x (by simp)).trans y0
    | 1, _ => exact World.cell?_setCell_same' _ _ _ (by rw [y1]; rfl)
  · obtain ⟨i, hi, rfl⟩ := List.mem_map.1 hp
    have hi2 : i < 2 := List.mem_range.1 hi
    obtain ⟨_, g0, g1⟩ := H.right.two
    match i, hi2 with
    | 0, _ => exact (World.frozen?_setCell _ _ _ _).trans g0
    | 1, _ => exact (World.frozen?_setCell _ _ _ _).trans g1
theorem rOfX_any (a b c d : Int) (s : ByteArray) (h2 : ¬ a = 2) (h3 : ¬ a = 3) (w : World) :
    Calls Tryz.prog 12 #[.agg #[.int .u8 a, .int .u16 b, .int .u32 c, .int .u64 d, .string s]] w (RRes zeroR 11 w) := by
  have k2 : (a != 2) = true := by rw [bne_iff_ne]; exact h2
  have k3 : (a != 3) = true := by rw [bne_iff_ne]; exact h3
  go_enter Tryz.func12, Tryz.ntmps12
  go_wp2
  refine bodyPost_ret_by (v := .tuple #[rnV false (.slice none 0 0), .int .i64 11]) ?_ rfl ?_
  · simp [rnV, results, Tryz.results12, go_sem]
  · exact ⟨_, rfl, zeroR_v _, boxB w _ _⟩
end Go.Proofs.YtemfbkelenaaeaaGreat
/- The contracts of the document's own Of, at one sort. -/
namespace Go.Proofs.YtemfbkelenaaeaaGreat
open Go.RowKit
open Sl (Cl Kd Nd Rn)
set_option maxHeartbeats 4000000 in
theorem rOfC_bad (b c d : Int) (hb0 : 0 ≤ b) (hb1 : b < 65536) (s : List UInt8) (l : List Cl) (r : Int) (hr0 : ¬ r = 0) (hp : ∀ W, Calls Tryz.prog 37 #[.string (str s), .int .i64 b, .bool true] W (ResC l r W)) (w : World) :
    Calls Tryz.prog 12 #[.agg #[.int .u8 2, .int .u16 b, .int .u32 c, .int .u64 d, .string (str s)]] w (RRes zeroR r w) := by
  have HP := Lib.hid hp
  have hw64 : IntKind.i64.wrap b = b := IntWalk.i64_in _ (by omega)
  have HST := Lib.hid (startRO w 2 b c d (str s) true)
  clear hp
  go_enter Tryz.func12, Tryz.ntmps12
  go_wp2_with (go_at_call 37; refine (HP.out _).mono ?_; rintro e w1 ⟨v, rfl, hv, hq, hb1⟩; obtain ⟨a5, n5, c5, ha5, hc5, hn5⟩ := hq; have HS1 := Lib.hid (stepK3 (Nat.le_refl _) HST.out hb1); clear hv hb1; obtain ⟨⟨z0, z1⟩, f0, f1⟩ := HS1.out.2.2.2.left.zr; obtain ⟨⟨y0, y1⟩, g0, g1⟩ := HS1.out.2.2.2.right.two)
  refine bodyPost_ret_by (v := .tuple #[rnV false (.slice none 0 0), .int .i64 r]) ?_ rfl ?_
  · simp [rnV, results, Tryz.results12, go_sem, z0, z1]
  · exact ⟨_, rfl, zeroR_v _, below_set2 HS1.out.2.2.2.below (Nat.le_succ _)⟩
set_option maxHeartbeats 4000000 in
theorem rOfC_yes (b c d : Int) (hb0 : 0 ≤ b) (hb1 : b < 65536) (s : List UInt8) (l : List Cl) (hl : l.length ≤ 100000) (hrt : Sl.rightB ⟨true, l⟩ = true) (hp : ∀ W, Calls Tryz.prog 37 #[.string (str s), .int .i64 b, .bool true] W (ResC l 0 W)) (w : World) :
    Calls Tryz.prog 12 #[.agg #[.int .u8 2, .int .u16 b, .int .u32 c, .int .u64 d, .string (str s)]] w (RRes ⟨true, l⟩ 0 w) := by
  have HP := Lib.hid hp
  have hw64 : IntKind.i64.wrap b = b := IntWalk.i64_in _ (by omega)
  have HST := Lib.hid (startRO w 2 b c d (str s) true)
  have HRT := Lib.hid (fun a n c hq W (hW : SlC W (.slice a n c) l) => right_any (rnV true (.slice a n c)) ⟨true, l⟩ W ⟨_, rfl, hW, hq⟩ hl)
  rw [hrt] at HRT
  unfold rnV at HRT
  clear hp hrt
  go_enter Tryz.func12, Tryz.ntmps12
  go_wp2_with (first
    | (go_at_call 31; refine (HRT.out _ _ _ HQ.out _ HV2.out).mono ?_; rintro e w3 ⟨rfl, hb3⟩; have HS3 := Lib.hid (HS2.out.step (Nat.le_refl _) hb3); have HV3 := Lib.hid (HV2.out.below hb3); clear z0 z1 f0 f1 y0 y1 g0 g1; obtain ⟨⟨z0, z1⟩, f0, f1⟩ := HS3.out.left.zr; obtain ⟨⟨y0, y1⟩, g0, g1⟩ := HS3.out.right.two; clear hb3)
    | (go_at_call 37; refine (HP.out _).mono ?_; rintro e w1 ⟨v, rfl, hv, hq, hb1⟩; obtain ⟨a5, n5, c5, ha5, hc5, hn5⟩ := hq; have HQ := Lib.hid (Cap.mk a5 n5 c5 ha5 hc5 hn5); have HS1 := Lib.hid (stepK3 (Nat.le_refl _) HST.out hb1); have HV1 := Lib.hid hv; clear hv hb1; obtain ⟨⟨z0, z1⟩, f0, f1⟩ := HS1.out.2.2.2.left.zr; obtain ⟨⟨y0, y1⟩, g0, g1⟩ := HS1.out.2.2.2.right.two; have HV2 := Lib.hid (HV1.out.set1 y1 rfl (.slice a5 n5 c5)); have HS2 := Lib.hid (resetR HS1.out.2.2.2 (.slice a5 n5 c5))))
  refine bodyPost_ret_by (v := .tuple #[rnV true (.slice a5 n5 c5), .int .i64 0]) ?_ rfl ?_
  · simp [rnV, results, Tryz.results12, go_sem, z0, z1]
  · exact ⟨_, rfl, ⟨_, rfl, HV3.out.box2 z0 z1 rfl rfl _ _, HQ.out⟩, below_set2 HS3.out.below (Nat.le_succ _)⟩
set_option maxHeartbeats 4000000 in
theorem rOfC_no (b c d : Int) (hb0 : 0 ≤ b) (hb1 : b < 65536) (s : List UInt8) (l : List Cl) (hl : l.length ≤ 100000) (hrt : Sl.rightB ⟨true, l⟩ = false) (hp : ∀ W, Calls Tryz.prog 37 #[.string (str s), .int .i64 b, .bool true] W (ResC l 0 W)) (w : World) :
    Calls Tryz.prog 12 #[.agg #[.int .u8 2, .int .u16 b, .int .u32 c, .int .u64 d, .string (str s)]] w (RRes zeroR 4 w) := by
  have HP := Lib.hid hp
  have hw64 : IntKind.i64.wrap b = b := IntWalk.i64_in _ (by omega)
  have HST := Lib.hid (startRO w 2 b c d (str s) true)
  have HRT := Lib.hid (fun a n c hq W (hW : SlC W (.slice a n c) l) => right_any (rnV true (.slice a n c)) ⟨true, l⟩ W ⟨_, rfl, hW, hq⟩ hl)
  rw [hrt] at HRT
  unfold rnV at HRT
  clear hp hrt
  go_enter Tryz.func12, Tryz.ntmps12
  go_wp2_with (first
    | (go_at_call 31; refine (HRT.out _ _ _ HQ.out _ HV2.out).mono ?_; rintro e w3 ⟨rfl, hb3⟩; have HS3 := Lib.hid (HS2.out.step (Nat.le_refl _) hb3); have HV3 := Lib.hid (HV2.out.below hb3); clear z0 z1 f0 f1 y0 y1 g0 g1; obtain ⟨⟨z0, z1⟩, f0, f1⟩ := HS3.out.left.zr; obtain ⟨⟨y0, y1⟩, g0, g1⟩ := HS3.out.right.two; clear hb3)
    | (go_at_call 37; refine (HP.out _).mono ?_; rintro e w1 ⟨v, rfl, hv, hq, hb1⟩; obtain ⟨a5, n5, c5, ha5, hc5, hn5⟩ := hq; have HQ := Lib.hid (Cap.mk a5 n5 c5 ha5 hc5 hn5); have HS1 := Lib.hid (stepK3 (Nat.le_refl _) HST.out hb1); have HV1 := Lib.hid hv; clear hv hb1; obtain ⟨⟨z0, z1⟩, f0, f1⟩ := HS1.out.2.2.2.left.zr; obtain ⟨⟨y0, y1⟩, g0, g1⟩ := HS1.out.2.2.2.right.two; have HV2 := Lib.hid (HV1.out.set1 y1 rfl (.slice a5 n5 c5)); have HS2 := Lib.hid (resetR HS1.out.2.2.2 (.slice a5 n5 c5))))
  refine bodyPost_ret_by (v := .tuple #[rnV false (.slice none 0 0), .int .i64 4]) ?_ rfl ?_
  · simp [rnV, results, Tryz.results12, go_sem, z0, z1]
  · exact ⟨_, rfl, zeroR_v _, below_set2 HS3.out.below (Nat.le_succ _)⟩
end Go.Proofs.YtemfbkelenaaeaaGreat
/- The contracts of the document's own Of, at one sort. -/
namespace Go.Proofs.YtemfbkelenaaeaaGreat
open Go.RowKit
open Sl (Cl Kd Nd Rn)
set_option maxHeartbeats 4000000 in
theorem rOfK_bad (b c d : Int) (hb0 : 0 ≤ b) (hb1 : b < 65536) (s : List UInt8) (l : List Cl) (r : Int) (hr0 : ¬ r = 0) (hp : ∀ W, Calls Tryz.prog 37 #[.string (str s), .int .i64 b, .bool false] W (ResC l r W)) (w : World) :
    Calls Tryz.prog 12 #[.agg #[.int .u8 3, .int .u16 b, .int .u32 c, .int .u64 d, .string (str s)]] w (RRes zeroR r w) := by
  have HP := Lib.hid hp
  have hw64 : IntKind.i64.wrap b = b := IntWalk.i64_in _ (by omega)
  have HST := Lib.hid (startRO w 3 b c d (str s) false)
  clear hp
  go_enter Tryz.func12, Tryz.ntmps12
  go_wp2_with (go_at_call 37; refine (HP.out _).mono ?_; rintro e w1 ⟨v, rfl, hv, hq, hb1⟩; obtain ⟨a5, n5, c5, ha5, hc5, hn5⟩ := hq; have HS1 := Lib.hid (stepK3 (Nat.le_refl _) HST.out hb1); clear hv hb1; obtain ⟨⟨z0, z1⟩, f0, f1⟩ := HS1.out.2.2.2.left.zr; obtain ⟨⟨y0, y1⟩, g0, g1⟩ := HS1.out.2.2.2.right.two)
  refine bodyPost_ret_by (v := .tuple #[rnV false (.slice none 0 0), .int .i64 r]) ?_ rfl ?_
  · simp [rnV, results, Tryz.results12, go_sem, z0, z1]
  · exact ⟨_, rfl, zeroR_v _, below_set2 HS1.out.2.2.2.below (Nat.le_succ _)⟩
set_option maxHeartbeats 4000000 in
theorem rOfK_yes (b c d : Int) (hb0 : 0 ≤ b) (hb1 : b < 65536) (s : List UInt8) (l : List Cl) (hl : l.length ≤ 100000) (hrt : Sl.rightB ⟨false, l⟩ = true) (hp : ∀ W, Calls Tryz.prog 37 #[.string (str s), .int .i64 b, .bool false] W (ResC l 0 W)) (w : World) :
    Calls Tryz.prog 12 #[.agg #[.int .u8 3, .int .u16 b, .int .u32 c, .int .u64 d, .string (str s)]] w (RRes ⟨false, l⟩ 0 w) := by
  have HP := Lib.hid hp
  have hw64 : IntKind.i64.wrap b = b := IntWalk.i64_in _ (by omega)
  have HST := Lib.hid (startRO w 3 b c d (str s) false)
  have HRT := Lib.hid (fun a n c hq W (hW : SlC W (.slice a n c) l) => right_any (rnV false (.slice a n c)) ⟨false, l⟩ W ⟨_, rfl, hW, hq⟩ hl)
  rw [hrt] at HRT
  unfold rnV at HRT
  clear hp hrt
  go_enter Tryz.func12, Tryz.ntmps12
  go_wp2_with (first
    | (go_at_call 31; refine (HRT.out _ _ _ HQ.out _ HV2.out).mono ?_; rintro e w3 ⟨rfl, hb3⟩; have HS3 := Lib.hid (HS2.out.step (Nat.le_refl _) hb3); have HV3 := Lib.hid (HV2.out.below hb3); clear z0 z1 f0 f1 y0 y1 g0 g1; obtain ⟨⟨z0, z1⟩, f0, f1⟩ := HS3.out.left.zr; obtain ⟨⟨y0, y1⟩, g0, g1⟩ := HS3.out.right.two; clear hb3)
    | (go_at_call 37; refine (HP.out _).mono ?_; rintro e w1 ⟨v, rfl, hv, hq, hb1⟩; obtain ⟨a5, n5, c5, ha5, hc5, hn5⟩ := hq; have HQ := Lib.hid (Cap.mk a5 n5 c5 ha5 hc5 hn5); have HS1 := Lib.hid (stepK3 (Nat.le_refl _) HST.out hb1); have HV1 := Lib.hid hv; clear hv hb1; obtain ⟨⟨z0, z1⟩, f0, f1⟩ := HS1.out.2.2.2.left.zr; obtain ⟨⟨y0, y1⟩, g0, g1⟩ := HS1.out.2.2.2.right.two; have HV2 := Lib.hid (HV1.out.set1 y1 rfl (.slice a5 n5 c5)); have HS2 := Lib.hid (resetR HS1.out.2.2.2 (.slice a5 n5 c5))))
  refine bodyPost_ret_by (v := .tuple #[rnV false (.slice a5 n5 c5), .int .i64 0]) ?_ rfl ?_
  · simp [rnV, results, Tryz.results12, go_sem, z0, z1]
  · exact ⟨_, rfl, ⟨_, rfl, HV3.out.box2 z0 z1 rfl rfl _ _, HQ.out⟩, below_set2 HS3.out.below (Nat.le_succ _)⟩
set_option maxHeartbeats 4000000 in
theorem rOfK_no (b c d : Int) (hb0 : 0 ≤ b) (hb1 : b < 65536) (s : List UInt8) (l : List Cl) (hl : l.length ≤ 100000) (hrt : Sl.rightB ⟨false, l⟩ = false) (hp : ∀ W, Calls Tryz.prog 37 #[.string (str s), .int .i64 b, .bool false] W (ResC l 0 W)) (w : World) :
    Calls Tryz.prog 12 #[.agg #[.int .u8 3, .int .u16 b, .int .u32 c, .int .u64 d, .string (str s)]] w (RRes zeroR 4 w) := by
  have HP := Lib.hid hp
  have hw64 : IntKind.i64.wrap b = b := IntWalk.i64_in _ (by omega)
  have HST := Lib.hid (startRO w 3 b c d (str s) false)
  have HRT := Lib.hid (fun a n c hq W (hW : SlC W (.slice a n c) l) => right_any (rnV false (.slice a n c)) ⟨false, l⟩ W ⟨_, rfl, hW, hq⟩ hl)
  rw [hrt] at HRT
  unfold rnV at HRT
  clear hp hrt
  go_enter Tryz.func12, Tryz.ntmps12
  go_wp2_with (first
    | (go_at_call 31; refine (HRT.out _ _ _ HQ.out _ HV2.out).mono ?_; rintro e w3 ⟨rfl, hb3⟩; have HS3 := Lib.hid (HS2.out.step (Nat.le_refl _) hb3); have HV3 := Lib.hid (HV2.out.below hb3); clear z0 z1 f0 f1 y0 y1 g0 g1; obtain ⟨⟨z0, z1⟩, f0, f1⟩ := HS3.out.left.zr; obtain ⟨⟨y0, y1⟩, g0, g1⟩ := HS3.out.right.two; clear hb3)
    | (go_at_call 37; refine (HP.out _).mono ?_; rintro e w1 ⟨v, rfl, hv, hq, hb1⟩; obtain ⟨a5, n5, c5, ha5, hc5, hn5⟩ := hq; have HQ := Lib.hid (Cap.mk a5 n5 c5 ha5 hc5 hn5); have HS1 := Lib.hid (stepK3 (Nat.le_refl _) HST.out hb1); have HV1 := Lib.hid hv; clear hv hb1; obtain ⟨⟨z0, z1⟩, f0, f1⟩ := HS1.out.2.2.2.left.zr; obtain ⟨⟨y0, y1⟩, g0, g1⟩ := HS1.out.2.2.2.right.two; have HV2 := Lib.hid (HV1.out.set1 y1 rfl (.slice a5 n5 c5)); have HS2 := Lib.hid (resetR HS1.out.2.2.2 (.slice a5 n5 c5))))
  refine bodyPost_ret_by (v := .tuple #[rnV false (.slice none 0 0), .int .i64 4]) ?_ rfl ?_
  · simp [rnV, results, Tryz.results12, go_sem, z0, z1]
  · exact ⟨_, rfl, zeroR_v _, below_set2 HS3.out.below (Nat.le_succ _)⟩
end Go.Proofs.YtemfbkelenaaeaaGreat
/- What both Of's answer at one frame: the same node, and the same number. -/
namespace Go.Proofs.YtemfbkelenaaeaaGreat
open Go.RowKit
open Sl (Cl Kd Nd Rn)
structure OfBoth (a b c d : Int) (s : List UInt8) (N : Nd) (r : Int) : Prop where
  lc : N.cs.length ≤ 5000
  lk : N.ks.length ≤ 5000
  prog : ∀ W, Calls Tryz.prog 11 #[.agg #[.int .u8 a, .int .u16 b, .int .u32 c, .int .u64 d, .string (str s)]] W (NRes N r W)
  doc : ∀ W, Calls Tryz.prog 12 #[.agg #[.int .u8 a, .int .u16 b, .int .u32 c, .int .u64 d, .string (str s)]] W (RRes (Sl.toR N) r W)
theorem of_both (a b c d : Int) (hb0 : 0 ≤ b) (hb1 : b < 65536) (s : List UInt8) (hs : s.length ≤ 5000) : ∃ N r, OfBoth a b c d s N r := by
  by_cases h2 : a = 2
  · subst h2
    obtain ⟨l, r, H⟩ := both_leaf s hs b
    by_cases hr : r = 0
    · subst hr
      exact ⟨⟨true, l, []⟩, 0, H.len, Nat.zero_le _, fun W => nOfC_ok b c d hb0 hb1 s l H.prog W, fun W => rOfC_yes b c d hb0 hb1 s l (by have := H.len; omega) (right_leaf _ rfl) H.doc W⟩
    · exact ⟨zeroN, r, Nat.zero_le _, Nat.zero_le _, fun W => nOfC_bad b c d hb0 hb1 s l r hr H.prog W, fun W => rOfC_bad b c d hb0 hb1 s l r hr H.doc W⟩
  · by_cases h3 : a = 3
    · subst h3
      obtain ⟨l, r, H⟩ := both_kid s hs b
      by_cases hr : r = 0
      · subst hr
        have hrt : Sl.rightB ⟨false, l.map toC⟩ = Sl.leadsB l := Sl.rightB_toR ⟨false, [], l⟩
        have hll : (l.map toC).length ≤ 100000 := by rw [List.length_map]; have := H.len; omega
        cases hld : Sl.leadsB l with
        | true => exact ⟨⟨false, [], l⟩, 0, Nat.zero_le _, H.len, fun W => nOfK_yes b c d hb0 hb1 s l (by have := H.len; omega) hld H.prog W, fun W => rOfK_yes b c d hb0 hb1 s _ hll (hrt.trans hld) H.doc W⟩
        | false => exact ⟨zeroN, 4, Nat.zero_le _, Nat.zero_le _, fun W => nOfK_no b c d hb0 hb1 s l (by have := H.len; omega) hld H.prog W, fun W => rOfK_no b c d hb0 hb1 s _ hll (hrt.trans hld) H.doc W⟩
      · exact ⟨zeroN, r, Nat.zero_le _, Nat.zero_le _, fun W => nOfK_bad b c d hb0 hb1 s l r hr H.prog W, fun W => rOfK_bad b c d hb0 hb1 s _ r hr H.doc W⟩
    · exact ⟨zeroN, 11, Nat.zero_le _, Nat.zero_le _, fun W => nOfX_any a b c d _ h2 h3 W, fun W => rOfX_any a b c d _ h2 h3 W⟩
end Go.Proofs.YtemfbkelenaaeaaGreat
/- Nodes of a law's rows: their cells are right, and their values' forms. -/
namespace Go.Proofs.YtemfbkelenaaeaaGreat
open Go.RowKit
open Sl (Cl Kd Nd Rn)
theorem okC_key (l : List Cl) (hl : ∀ x ∈ l, okC x) (lf : Bool) : (∀ x ∈ (Sl.fromN lf l).cs, okC x) ∧ (∀ x ∈ (Sl.fromN lf l).ks, okK x) := by
  cases lf
  · refine ⟨fun x hx => by simp [Sl.fromN] at hx, fun x hx => ?_⟩
    obtain ⟨y, hy, rfl⟩ := List.mem_map.1 (show x ∈ l.map toK from hx)
    exact (hl y hy).1
  · exact ⟨hl, fun x hx => by simp [Sl.fromN] at hx⟩
theorem ok_toR (l : List Cl) (hl : ∀ x ∈ l, okC x) (hs : ∀ x ∈ l, x.val.length ≤ 500) (lf : Bool) : ∀ x ∈ (Sl.toR (Sl.fromN lf l)).l, okC x ∧ x.val.length ≤ 60000 := by
  cases lf
  · intro x hx
    obtain ⟨y, hy, rfl⟩ := List.mem_map.1 (show x ∈ (l.map toK).map toC from hx)
    obtain ⟨z, hz, rfl⟩ := List.mem_map.1 hy
    exact ⟨⟨(hl z hz).1, show 0 < 4294967296 by decide⟩, show ([] : List UInt8).length ≤ 60000 by decide⟩
  · intro x hx
    exact ⟨hl x hx, by have := hs x hx; omega⟩
theorem NdV.form {w : World} {v : Value} {n : Nd} (h : NdV w v n) : ∃ a1 n1 c1 a2 n2 c2, v = .agg #[.bool n.leaf, .slice a1 n1 c1, .slice a2 n2 c2] := by
  obtain ⟨vc, vk, rfl, _, hc, _, hk⟩ := h
  obtain ⟨a1, n1, c1, _, _, _⟩ := hc
  obtain ⟨a2, n2, c2, _, _, _⟩ := hk
  exact ⟨a1, n1, c1, a2, n2, c2, rfl⟩
theorem RnV.form {w : World} {v : Value} {n : Rn} (h : RnV w v n) : ∃ a1 n1 c1, v = .agg #[.bool n.leaf, .slice a1 n1 c1] := by
  obtain ⟨vc, rfl, _, hc⟩ := h
  obtain ⟨a1, n1, c1, _, _, _⟩ := hc
  exact ⟨a1, n1, c1, rfl⟩
end Go.Proofs.YtemfbkelenaaeaaGreat
