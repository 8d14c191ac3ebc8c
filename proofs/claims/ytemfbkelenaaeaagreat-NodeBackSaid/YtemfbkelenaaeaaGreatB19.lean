/- Texts of one seat, merged. -/
import Derived.Test.YtemfbkelenaaeaaGreatB16
import Derived.Test.YtemfbkelenaaeaaGreatB18
import Derived.Test.YtemfbkelenaaeaaGreatB05
import Derived.Test.YtemfbkelenaaeaaGreatB11
import Derived.Test.YtemfbkelenaaeaaGreatB09
import Derived.Deep.DeepCutAuto
import Derived.Test.YtemfbkelenaaeaaGreatB12
import Derived.Laws.CopyOwn
import Derived.Laws.CopyRow
import Derived.Laws.AppendOwn
import Derived.Laws.OwnMore
import Derived.Lib.SliceRun
import Derived.Lib.AppendZerosOnto
import Derived.Lib.Overlaps
import Derived.Below
set_option maxRecDepth 100000
set_option maxHeartbeats 4000000
set_option linter.unusedVariables false
/- What the program's Read and the document's own answer at one body: the same row, and the same number. -/
namespace Go.Proofs.YtemfbkelenaaeaaGreat
open Go.RowKit
open Sl (Cl Kd)
theorem capN : Cap (.slice none 0 0) := ⟨none, 0, 0, Nat.le_refl _, Nat.zero_le _, fun _ => rfl⟩
inductive ResC (l : List Cl) (r : Int) (w : World) (e : Ending) (w' : World) : Prop
  | mk (v : Value) (he : e = .returned (.tuple #[v, .int .i64 r])) (hv : SlC w' v l) (hq : Cap v) (hb : Below w.heap.size w w')
inductive ResK (l : List Kd) (r : Int) (w : World) (e : Ending) (w' : World) : Prop
  | mk (v : Value) (he : e = .returned (.tuple #[v, .int .i64 r])) (hv : SlK w' v l) (hq : Cap v) (hb : Below w.heap.size w w')
theorem right_rises {α : Type} (S : Sl.Sh α) (l : List α) (h : Sl.right S l = 0) : Sl.rises S l = true := by
  unfold Sl.right at h
  split at h
  · cases h
  · split at h
    · assumption
    · cases h
structure BothC (s : List UInt8) (n : Int) (l : List Cl) (r : Int) : Prop where
  len : l.length ≤ 5000
  up : Sl.rises Sl.shC l = true
  prog : ∀ W, Calls Tryz.prog 33 #[shpC, .string (str s), .int .i64 n] W (ResC l r W)
  doc : ∀ W, Calls Tryz.prog 37 #[.string (str s), .int .i64 n, .bool true] W (ResC l r W)
structure BothK (s : List UInt8) (n : Int) (l : List Kd) (r : Int) : Prop where
  len : l.length ≤ 5000
  up : Sl.rises Sl.shK l = true
  prog : ∀ W, Calls Tryz.prog 35 #[shpK, .string (str s), .int .i64 n] W (ResK l r W)
  doc : ∀ W, Calls Tryz.prog 37 #[.string (str s), .int .i64 n, .bool false] W (ResC (l.map toC) r W)
theorem both_leaf (s : List UInt8) (hs : s.length ≤ 5000) (n : Int) : ∃ l r, BothC s n l r := by
  by_cases h : ∃ m, 0 ≤ n ∧ Canon true s n.toNat m
  · obtain ⟨m, h0, hm⟩ := h
    have hz := hm.size
    have hl := hm.1
    by_cases hr : Sl.right Sl.shC m = 0
    · refine ⟨m, 0, ⟨by omega, right_rises _ _ hr, fun W => (readC_any s (by omega) n W).mono ?_, fun W => (refRead_true s hs n W).mono ?_⟩⟩
      · rintro e w' (⟨hb, _, _⟩ | ⟨l, _, hm2, hr2, _, _⟩ | ⟨l, _, hm2, _, v, he, hv, hq, hb⟩)
        · exact absurd hm (hb m h0)
        · rw [Canon.unique hm2 hm] at hr2; exact absurd hr hr2
        · rw [Canon.unique hm2 hm] at hv; exact ⟨v, he, hv, hq, hb⟩
      · rintro e w' (⟨hb, _, _⟩ | ⟨l, _, hm2, hr2, _, _⟩ | ⟨l, _, hm2, _, v, he, hv, hq, hb⟩)
        · exact absurd hm (hb m h0)
        · rw [Canon.unique hm2 hm] at hr2; exact absurd hr hr2
        · rw [Canon.unique hm2 hm] at hv; exact ⟨v, he, hv, hq, hb⟩
    · refine ⟨[], Sl.right Sl.shC m, ⟨Nat.zero_le _, rfl, fun W => (readC_any s (by omega) n W).mono ?_, fun W => (refRead_true s hs n W).mono ?_⟩⟩
      · rintro e w' (⟨hb, _, _⟩ | ⟨l, _, hm2, hr2, he, hb⟩ | ⟨l, _, hm2, hr2, v, he, hv, hq, hb⟩)
        · exact absurd hm (hb m h0)
        · rw [Canon.unique hm2 hm] at he; exact ⟨_, he, SlC.nil _, capN, hb⟩
        · rw [Canon.unique hm2 hm] at hr2; exact absurd hr2 hr
      · rintro e w' (⟨hb, _, _⟩ | ⟨l, _, hm2, hr2, he, hb⟩ | ⟨l, _, hm2, hr2, v, he, hv, hq, hb⟩)
        · exact absurd hm (hb m h0)
        · rw [Canon.unique hm2 hm] at he; exact ⟨_, he, SlC.nil _, capN, hb⟩
        · rw [Canon.unique hm2 hm] at hr2; exact absurd hr2 hr
  · have hn : ∀ m, 0 ≤ n → ¬ Canon true s n.toNat m := fun m h0 hm => h ⟨m, h0, hm⟩
    refine ⟨[], 4, ⟨Nat.zero_le _, rfl, fun W => (readC_any s (by omega) n W).mono ?_, fun W => (refRead_true s hs n W).mono ?_⟩⟩
    · rintro e w' (⟨_, he, hb⟩ | ⟨l, h0, hm2, _, _, _⟩ | ⟨l, h0, hm2, _, _, _, _, _, _⟩)
      · exact ⟨_, he, SlC.nil _, capN, hb⟩
      all_goals exact absurd hm2 (hn _ h0)
    · rintro e w' (⟨_, he, hb⟩ | ⟨l, h0, hm2, _, _, _⟩ | ⟨l, h0, hm2, _, _, _, _, _, _⟩)
      · exact ⟨_, he, SlC.nil _, capN, hb⟩
      all_goals exact absurd hm2 (hn _ h0)
theorem kid_of (m : List Cl) (h : ∀ x ∈ m, canR false x) : (m.map toK).map toC = m := by
  rw [List.map_map]
  conv => rhs; rw [← List.map_id m]
  refine List.map_congr_left fun x hx => ?_
  obtain ⟨_, _, h3, h4⟩ := h x hx
  obtain ⟨k, v, c, g⟩ := x
  simp only at h3 h4
  subst h3; subst h4; rfl
theorem toC_inj (l m : List Kd) (h : l.map toC = m.map toC) : l = m := by
  have := congrArg (List.map toK) h
  rw [List.map_map, List.map_map] at this
  have hid : (toK ∘ toC) = id := funext fun x => by cases x; rfl
  rwa [hid, List.map_id, List.map_id] at this
theorem both_kid (s : List UInt8) (hs : s.length ≤ 5000) (n : Int) : ∃ l r, BothK s n l r := by
  by_cases h : ∃ m, 0 ≤ n ∧ Canon false s n.toNat m
  · obtain ⟨m', h0, hm'⟩ := h
    obtain ⟨m, hm⟩ : ∃ m : List Kd, Canon false s n.toNat (m.map toC) := ⟨m'.map toK, by rw [kid_of m' hm'.2.1]; exact hm'⟩
    have hz := hm.size
    have hl := hm.1
    rw [List.length_map] at hl
    have hrr : Sl.right (Sl.shR false) (m.map toC) = Sl.right Sl.shK m := by rw [Sl.right_map, Sl.shR_false]
    have hu : ∀ l : List Kd, Canon false s n.toNat (l.map toC) → l = m := fun l hl => toC_inj _ _ (Canon.unique hl hm)
    by_cases hr : Sl.right Sl.shK m = 0
    · refine ⟨m, 0, ⟨by omega, right_rises _ _ hr, fun W => (readK_any s (by omega) n W).mono ?_, fun W => (refRead_false s hs n W).mono ?_⟩⟩
      · rintro e w' (⟨hb, _, _⟩ | ⟨l, _, hm2, hr2, _, _⟩ | ⟨l, _, hm2, _, v, he, hv, hq, hb⟩)
        · exact absurd hm (hb _ h0)
        · rw [hu l hm2] at hr2; exact absurd hr hr2
        · rw [hu l hm2] at hv; exact ⟨v, he, hv, hq, hb⟩
      · rintro e w' (⟨hb, _, _⟩ | ⟨l, _, hm2, hr2, _, _⟩ | ⟨l, _, hm2, _, v, he, hv, hq, hb⟩)
        · exact absurd hm (hb _ h0)
        · rw [Canon.unique hm2 hm, hrr] at hr2; exact absurd hr hr2
        · rw [Canon.unique hm2 hm] at hv; exact ⟨v, he, hv, hq, hb⟩
    · refine ⟨[], Sl.right Sl.shK m, ⟨Nat.zero_le _, rfl, fun W => (readK_any s (by omega) n W).mono ?_, fun W => (refRead_false s hs n W).mono ?_⟩⟩
      · rintro e w' (⟨hb, _, _⟩ | ⟨l, _, hm2, hr2, he, hb⟩ | ⟨l, _, hm2, hr2, v, he, hv, hq, hb⟩)
        · exact absurd hm (hb _ h0)
        · rw [hu l hm2] at he; exact ⟨_, he, SlK.nil _, capN, hb⟩
        · rw [hu l hm2] at hr2; exact absurd hr2 hr
      · rintro e w' (⟨hb, _, _⟩ | ⟨l, _, hm2, hr2, he, hb⟩ | ⟨l, _, hm2, hr2, v, he, hv, hq, hb⟩)
        · exact absurd hm (hb _ h0)
        · rw [Canon.unique hm2 hm, hrr] at he; exact ⟨_, he, SlC.nil _, capN, hb⟩
        · rw [Canon.unique hm2 hm, hrr] at hr2; exact absurd hr2 hr
  · have hn : ∀ m, 0 ≤ n → ¬ Canon false s n.toNat m := fun m h0 hm => h ⟨m, h0, hm⟩
    refine ⟨[], 4, ⟨Nat.zero_le _, rfl, fun W => (readK_any s (by omega) n W).mono ?_, fun W => (refRead_false s hs n W).mono ?_⟩⟩
    · rintro e w' (⟨_, he, hb⟩ | ⟨l, h0, hm2, _, _, _⟩ | ⟨l, h0, hm2, _, _, _, _, _, _⟩)
      · exact ⟨_, he, SlK.nil _, capN, hb⟩
      all_goals exact absurd hm2 (hn _ h0)
    · rintro e w' (⟨_, he, hb⟩ | ⟨l, h0, hm2, _, _, _⟩ | ⟨l, h0, hm2, _, _, _, _, _, _⟩)
      · exact ⟨_, he, SlC.nil _, capN, hb⟩
      all_goals exact absurd hm2 (hn _ h0)
theorem place_map (key : List UInt8) : ∀ l : List Kd, Sl.place Sl.shC (l.map toC) key = Sl.place Sl.shK l key
  | [] => rfl
  | x :: l => by
    have := place_map key l
    unfold Sl.place at this ⊢
    rw [List.map_cons, List.takeWhile_cons, List.takeWhile_cons]
    rw [show Sl.shC.key (toC x) = Sl.shK.key x from rfl]
    split
    · rw [List.length_cons, List.length_cons, this]
    · rfl
theorem there_map (key : List UInt8) (l : List Kd) : Sl.there Sl.shC (l.map toC) key = Sl.there Sl.shK l key := by
  unfold Sl.there
  rw [place_map, List.getElem?_map]
  cases l[Sl.place Sl.shK l key]? <;> rfl
end Go.Proofs.YtemfbkelenaaeaaGreat
/- The contracts of Of: the node that a frame is. -/
namespace Go.Proofs.YtemfbkelenaaeaaGreat
open Go.RowKit
open Sl (Cl Kd Nd Rn)
inductive NRes (n : Nd) (r : Int) (w : World) (e : Ending) (w' : World) : Prop
  | mk (v : Value) (he : e = .returned (.tuple #[v, .int .i64 r])) (hv : NdV w' v n) (hb : Below w.heap.size w w')
def zeroN : Nd := ⟨false, [], []⟩
theorem zeroN_v (w : World) : NdV w (ndV false (.slice none 0 0) (.slice none 0 0)) zeroN := ⟨_, _, rfl, SlC.nil _, cap_nil, SlK.nil _, cap_nil⟩
theorem layK3 {w w1 : World} {L : List (Addr × Value)} {p0 p1 p2 : Addr} {x0 x1 x2 : Value} (H : w1.cell? p0 = some x0 ∧ w1.cell? p1 = some x1 ∧ w1.cell? p2 = some x2 ∧ Kp w.heap.size w L w1) (A : Array Value) (T : TypeId) :
    (w1.alloc (.cells A T)).cell? p0 = some x0 ∧ (w1.alloc (.cells A T)).cell? p1 = some x1 ∧ (w1.alloc (.cells A T)).cell? p2 = some x2 ∧ Kp w.heap.size w (L ++ row1 w1.heap.size A) (w1.alloc (.cells A T)) := by
  obtain ⟨q0, q1, q2, q3⟩ := stepK3 (Nat.le_refl _) H ((Below.refl _ _).alloc (Nat.le_refl _) (.cells A T))
  exact ⟨q0, q1, q2, q3.both (Kp.laid H.2.2.2.below H.2.2.2.below.size A T)⟩
theorem startOf (w : World) (a b c d : Int) (s : ByteArray) :
    ((w.alloc (.cells #[.int .u8 a, .int .u16 b, .int .u32 c, .int .u64 d, .string s] 27)).alloc (.cells #[.bool false, .slice none 0 0, .slice none 0 0] 32)).drew.cell? ⟨w.heap.size, 0, none⟩ = some (.int .u8 a) ∧
    ((w.alloc (.cells #[.int .u8 a, .int .u16 b, .int .u32 c, .int .u64 d, .string s] 27)).alloc (.cells #[.bool false, .slice none 0 0, .slice none 0 0] 32)).drew.cell? ⟨w.heap.size, 1, none⟩ = some (.int .u16 b) ∧
    ((w.alloc (.cells #[.int .u8 a, .int .u16 b, .int .u32 c, .int .u64 d, .string s] 27)).alloc (.cells #[.bool false, .slice none 0 0, .slice none 0 0] 32)).drew.cell? ⟨w.heap.size, 4, none⟩ = some (.string s) ∧
    Kp w.heap.size w (row1 (w.heap.size + 1) zn) ((w.alloc (.cells #[.int .u8 a, .int .u16 b, .int .u32 c, .int .u64 d, .string s] 27)).alloc (.cells #[.bool false, .slice none 0 0, .slice none 0 0] 32)).drew :=
  ⟨box0 w _ _ _ _ 0, box0 w _ _ _ _ 1, box0 w _ _ _ _ 4, startK w _ _ _ _⟩
set_option maxHeartbeats 4000000 in
theorem nOfC_bad (b c d : Int) (hb0 : 0 ≤ b) (hb1 : b < 65536) (s : List UInt8) (l : List Cl) (r : Int) (hr0 : ¬ r = 0) (hp : ∀ W, Calls Tryz.prog 33 #[shpC, .string (str s), .int .i64 b] W (ResC l r W)) (w : World) :
    Calls Tryz.prog 11 #[.agg #[.int .u8 2, .int .u16 b, .int .u32 c, .int .u64 d, .string (str s)]] w (NRes zeroN r w) := by
  have HP := Lib.hid hp
  have HLV := Lib.hid (fun W => leaves_any W)
  unfold shpC at HP HLV
  have hw64 : IntKind.i64.wrap b = b := IntWalk.i64_in _ (by omega)
  have HST := Lib.hid (startOf w 2 b c d (str s))
  clear hp
  go_enter Tryz.func11, Tryz.ntmps11
  go_wp2_with fail
  go_region_held3 (fun w' => w'.cell? ⟨w.heap.size, 0, none⟩ = some (.int .u8 2) ∧ w'.cell? ⟨w.heap.size, 1, none⟩ = some (.int .u16 b) ∧ w'.cell? ⟨w.heap.size, 4, none⟩ = some (.string (str s)) ∧ Kp w.heap.size w (row1 (w.heap.size + 1) zn) w')
    ((first | assumption | exact stepK3 (Nat.le_refl _) ‹_› hb | exact HST.out))
    (first
    | (go_at_call 25; refine (HLV.out _).mono ?_; rintro e w1 ⟨rfl, hb⟩)
    | (go_at_call 33; refine (HP.out _).mono ?_; rintro e w2 ⟨v, rfl, hv, hq, hb⟩; obtain ⟨a5, n5, c5, ha5, hc5, hn5⟩ := hq; clear hv))
  rename_i hS
  have HS2 := Lib.hid hS
  clear hS
  obtain ⟨⟨z0, z1, z2⟩, f0, f1, f2⟩ := HS2.out.2.2.2.zn
  go_wp2
  refine bodyPost_ret_by (v := .tuple #[ndV false (.slice none 0 0) (.slice none 0 0), .int .i64 r]) ?_ rfl ?_
  · simp [ndV, results, Tryz.results11, go_sem, z0, z1, z2]
  · exact ⟨_, rfl, zeroN_v _, below_set3 HS2.out.2.2.2.below (Nat.le_succ _)⟩
set_option maxHeartbeats 4000000 in
theorem nOfC_ok (b c d : Int) (hb0 : 0 ≤ b) (hb1 : b < 65536) (s : List UInt8) (l : List Cl) (hp : ∀ W, Calls Tryz.prog 33 #[shpC, .string (str s), .int .i64 b] W (ResC l 0 W)) (w : World) :
    Calls Tryz.prog 11 #[.agg #[.int .u8 2, .int .u16 b, .int .u32 c, .int .u64 d, .string (str s)]] w (NRes ⟨true, l, []⟩ 0 w) := by
  have HP := Lib.hid hp
  have HLV := Lib.hid (fun W => leaves_any W)
  unfold shpC at HP HLV
  have hw64 : IntKind.i64.wrap b = b := IntWalk.i64_in _ (by omega)
  have HST := Lib.hid (startOf w 2 b c d (str s))
  clear hp
  go_enter Tryz.func11, Tryz.ntmps11
  go_wp2_with fail
  go_region_held3 (fun w' => w'.cell? ⟨w.heap.size, 0, none⟩ = some (.int .u8 2) ∧ w'.cell? ⟨w.heap.size, 1, none⟩ = some (.int .u16 b) ∧ w'.cell? ⟨w.heap.size, 4, none⟩ = some (.string (str s)) ∧ Kp w.heap.size w (row1 (w.heap.size + 1) zn) w')
    ((first | assumption | exact stepK3 (Nat.le_refl _) ‹_› hb | exact HST.out))
    (first
    | (go_at_call 25; refine (HLV.out _).mono ?_; rintro e w1 ⟨rfl, hb⟩)
    | (go_at_call 33; refine (HP.out _).mono ?_; rintro e w2 ⟨v, rfl, hv, hq, hb⟩; obtain ⟨a5, n5, c5, ha5, hc5, hn5⟩ := hq; have HV := Lib.hid hv; have HQ := Lib.hid (Cap.mk a5 n5 c5 ha5 hc5 hn5); clear hv))
  rename_i hS
  have HS2 := Lib.hid hS
  clear hS
  have HL5 := Lib.hid (fun W => leaf_any (.slice a5 n5 c5) HQ.out W)
  unfold ndV at HL5
  go_wp2_with (go_at_call 34; with_reducible refine (HL5.out _).mono ?_; rintro e w3 ⟨rfl, hb3⟩; have HS3 := Lib.hid (stepK3 (Nat.le_refl _) HS2.out hb3); have HV3 := Lib.hid (HV.out.below hb3); clear hb3; obtain ⟨⟨z0, z1, z2⟩, f0, f1, f2⟩ := HS3.out.2.2.2.zn)
  refine bodyPost_ret_by (v := .tuple #[ndV true (.slice a5 n5 c5) (.slice none 0 0), .int .i64 0]) ?_ rfl ?_
  · simp [ndV, results, Tryz.results11, go_sem, z0, z1, z2]
  · exact ⟨_, rfl, ⟨_, _, rfl, HV3.out.box3 z0 z1 z2 rfl rfl rfl _ _ _, HQ.out, SlK.nil _, cap_nil⟩, below_set3 HS3.out.2.2.2.below (Nat.le_succ _)⟩
set_option maxHeartbeats 4000000 in
theorem nOfK_bad (b c d : Int) (hb0 : 0 ≤ b) (hb1 : b < 65536) (s : List UInt8) (l : List Kd) (r : Int) (hr0 : ¬ r = 0) (hp : ∀ W, Calls Tryz.prog 35 #[shpK, .string (str s), .int .i64 b] W (ResK l r W)) (w : World) :
    Calls Tryz.prog 11 #[.agg #[.int .u8 3, .int .u16 b, .int .u32 c, .int .u64 d, .string (str s)]] w (NRes zeroN r w) := by
  have HP := Lib.hid hp
  have HLV := Lib.hid (fun W => kids_any W)
  unfold shpK at HP HLV
  have hw64 : IntKind.i64.wrap b = b := IntWalk.i64_in _ (by omega)
  have HST := Lib.hid (startOf w 3 b c d (str s))
  clear hp
  go_enter Tryz.func11, Tryz.ntmps11
  go_wp2_with fail
  go_region_held3 (fun w' => w'.cell? ⟨w.heap.size, 0, none⟩ = some (.int .u8 3) ∧ w'.cell? ⟨w.heap.size, 1, none⟩ = some (.int .u16 b) ∧ w'.cell? ⟨w.heap.size, 4, none⟩ = some (.string (str s)) ∧ Kp w.heap.size w (row1 (w.heap.size + 1) zn) w')
    ((first | assumption | exact stepK3 (Nat.le_refl _) ‹_› hb | exact HST.out))
    (first
    | (go_at_call 29; refine (HLV.out _).mono ?_; rintro e w1 ⟨rfl, hb⟩)
    | (go_at_call 35; refine (HP.out _).mono ?_; rintro e w2 ⟨v, rfl, hv, hq, hb⟩; obtain ⟨a5, n5, c5, ha5, hc5, hn5⟩ := hq; clear hv))
  rename_i hS
  have HS2 := Lib.hid hS
  clear hS
  obtain ⟨⟨z0, z1, z2⟩, f0, f1, f2⟩ := HS2.out.2.2.2.zn
  go_wp2
  refine bodyPost_ret_by (v := .tuple #[ndV false (.slice none 0 0) (.slice none 0 0), .int .i64 r]) ?_ rfl ?_
  · simp [ndV, results, Tryz.results11, go_sem, z0, z1, z2]
  · exact ⟨_, rfl, zeroN_v _, below_set3 HS2.out.2.2.2.below (Nat.le_succ _)⟩
theorem nOfK_pre (l : List Kd) (a : Option Addr) (n c : Nat) (hq : Cap (.slice a n c)) (W : World) (hv : SlK W (.slice a n c) l) (hl : l.length ≤ 100000) :
    Calls Tryz.prog 28 #[.agg #[.bool false, .slice none 0 0, .slice a n c]] W fun e w' => e = .returned (.bool (Sl.leadsB l)) ∧ Below W.heap.size W w' :=
  leads_any _ ⟨false, [], l⟩ W ⟨_, _, rfl, SlC.nil _, cap_nil, hv, hq⟩ hl
set_option maxHeartbeats 4000000 in
theorem nOfK_yes (b c d : Int) (hb0 : 0 ≤ b) (hb1 : b < 65536) (s : List UInt8) (l : List Kd) (hl : l.length ≤ 100000) (hld : Sl.leadsB l = true) (hp : ∀ W, Calls Tryz.prog 35 #[shpK, .string (str s), .int .i64 b] W (ResK l 0 W)) (w : World) :
    Calls Tryz.prog 11 #[.agg #[.int .u8 3, .int .u16 b, .int .u32 c, .int .u64 d, .string (str s)]] w (NRes ⟨false, [], l⟩ 0 w) := by
  have HP := Lib.hid hp
  have HLV := Lib.hid (fun W => kids_any W)
  unfold shpK at HP HLV
  have hw64 : IntKind.i64.wrap b = b := IntWalk.i64_in _ (by omega)
  have HST := Lib.hid (startOf w 3 b c d (str s))
  have HLD := Lib.hid (fun a n c hq W hv => nOfK_pre l a n c hq W hv hl)
  rw [hld] at HLD
  clear hp hld
  go_enter Tryz.func11, Tryz.ntmps11
  go_wp2_with fail
  go_region_held3 (fun w' => w'.cell? ⟨w.heap.size, 0, none⟩ = some (.int .u8 3) ∧ w'.cell? ⟨w.heap.size, 1, none⟩ = some (.int .u16 b) ∧ w'.cell? ⟨w.heap.size, 4, none⟩ = some (.string (str s)) ∧ Kp w.heap.size w (row1 (w.heap.size + 1) zn) w')
    ((first | assumption | exact stepK3 (Nat.le_refl _) ‹_› hb | exact HST.out))
    (first
    | (go_at_call 29; refine (HLV.out _).mono ?_; rintro e w1 ⟨rfl, hb⟩)
    | (go_at_call 35; refine (HP.out _).mono ?_; rintro e w2 ⟨v, rfl, hv, hq, hb⟩; obtain ⟨a5, n5, c5, ha5, hc5, hn5⟩ := hq; have HV := Lib.hid hv; have HQ := Lib.hid (Cap.mk a5 n5 c5 ha5 hc5 hn5); clear hv))
  rename_i hS
  have HS2 := Lib.hid hS
  clear hS
  have HL5 := Lib.hid (fun W => branch_any (.slice a5 n5 c5) HQ.out W)
  unfold ndV at HL5
  go_wp2_with (first
    | (go_at_call 28; refine (HLD.out _ _ _ HQ.out _ HV4.out).mono ?_; rintro e w5 ⟨rfl, hb5⟩; have HS5 := Lib.hid (stepK3 (Nat.le_refl _) HS4.out hb5); have HV5 := Lib.hid (HV4.out.below hb5); clear hb5; obtain ⟨⟨z0, z1, z2⟩, f0, f1, f2⟩ := HS5.out.2.2.2.left.zn; obtain ⟨⟨y0, y1, y2⟩, g0, g1, g2⟩ := HS5.out.2.2.2.right.three)
    | (go_at_call 36; with_reducible refine (HL5.out _).mono ?_; rintro e w3 ⟨rfl, hb3⟩; have HS3 := Lib.hid (stepK3 (Nat.le_refl _) HS2.out hb3); have HV3 := Lib.hid (HV.out.below hb3); clear hb3; have HV4 := Lib.hid (HV3.out.below ((Below.refl _ w3).alloc (Nat.le_refl _) (.cells #[.bool false, .slice none 0 0, .slice a5 n5 c5] 32))); have HS4 := Lib.hid (layK3 HS3.out #[.bool false, .slice none 0 0, .slice a5 n5 c5] 32)))
  refine bodyPost_ret_by (v := .tuple #[ndV false (.slice none 0 0) (.slice a5 n5 c5), .int .i64 0]) ?_ rfl ?_
  · simp [ndV, results, Tryz.results11, go_sem, z0, z1, z2]
  · exact ⟨_, rfl, ⟨_, _, rfl, SlC.nil _, cap_nil, HV5.out.box3 z0 z1 z2 rfl rfl rfl _ _ _, HQ.out⟩, below_set3 HS5.out.2.2.2.below (Nat.le_succ _)⟩
set_option maxHeartbeats 4000000 in
theorem nOfK_no (b c d : Int) (hb0 : 0 ≤ b) (hb1 : b < 65536) (s : List UInt8) (l : List Kd) (hl : l.length ≤ 100000) (hld : Sl.leadsB l = false) (hp : ∀ W, Calls Tryz.prog 35 #[shpK, .string (str s), .int .i64 b] W (ResK l 0 W)) (w : World) :
    Calls Tryz.prog 11 #[.agg #[.int .u8 3, .int .u16 b, .int .u32 c, .int .u64 d, .string (str s)]] w (NRes zeroN 4 w) := by
  have HP := Lib.hid hp
  have HLV := Lib.hid (fun W => kids_any W)
  unfold shpK at HP HLV
  have hw64 : IntKind.i64.wrap b = b := IntWalk.i64_in _ (by omega)
  have HST := Lib.hid (startOf w 3 b c d (str s))
  have HLD := Lib.hid (fun a n c hq W hv => nOfK_pre l a n c hq W hv hl)
  rw [hld] at HLD
  clear hp hld
  go_enter Tryz.func11, Tryz.ntmps11
  go_wp2_with fail
  go_region_held3 (fun w' => w'.cell? ⟨w.heap.size, 0, none⟩ = some (.int .u8 3) ∧ w'.cell? ⟨w.heap.size, 1, none⟩ = some (.int .u16 b) ∧ w'.cell? ⟨w.heap.size, 4, none⟩ = some (.string (str s)) ∧ Kp w.heap.size w (row1 (w.heap.size + 1) zn) w')
    ((first | assumption | exact stepK3 (Nat.le_refl _) ‹_› hb | exact HST.out))
    (first
    | (go_at_call 29; refine (HLV.out _).mono ?_; rintro e w1 ⟨rfl, hb⟩)
    | (go_at_call 35; refine (HP.out _).mono ?_; rintro e w2 ⟨v, rfl, hv, hq, hb⟩; obtain ⟨a5, n5, c5, ha5, hc5, hn5⟩ := hq; have HV := Lib.hid hv; have HQ := Lib.hid (Cap.mk a5 n5 c5 ha5 hc5 hn5); clear hv))
  rename_i hS
  have HS2 := Lib.hid hS
  clear hS
  have HL5 := Lib.hid (fun W => branch_any (.slice a5 n5 c5) HQ.out W)
  unfold ndV at HL5
  go_wp2_with (first
    | (go_at_call 28; refine (HLD.out _ _ _ HQ.out _ HV4.out).mono ?_; rintro e w5 ⟨rfl, hb5⟩; have HS5 := Lib.hid (stepK3 (Nat.le_refl _) HS4.out hb5); have HV5 := Lib.hid (HV4.out.below hb5); clear hb5; obtain ⟨⟨z0, z1, z2⟩, f0, f1, f2⟩ := HS5.out.2.2.2.left.zn; obtain ⟨⟨y0, y1, y2⟩, g0, g1, g2⟩ := HS5.out.2.2.2.right.three)
    | (go_at_call 36; with_reducible refine (HL5.out _).mono ?_; rintro e w3 ⟨rfl, hb3⟩; have HS3 := Lib.hid (stepK3 (Nat.le_refl _) HS2.out hb3); have HV3 := Lib.hid (HV.out.below hb3); clear hb3; have HV4 := Lib.hid (HV3.out.below ((Below.refl _ w3).alloc (Nat.le_refl _) (.cells #[.bool false, .slice none 0 0, .slice a5 n5 c5] 32))); have HS4 := Lib.hid (layK3 HS3.out #[.bool false, .slice none 0 0, .slice a5 n5 c5] 32)))
  refine bodyPost_ret_by (v := .tuple #[ndV false (.slice none 0 0) (.slice none 0 0), .int .i64 4]) ?_ rfl ?_
  · simp [ndV, results, Tryz.results11, go_sem, z0, z1, z2]
  · exact ⟨_, rfl, zeroN_v _, below_set3 HS5.out.2.2.2.below (Nat.le_succ _)⟩
theorem nOfX_any (a b c d : Int) (s : ByteArray) (h2 : ¬ a = 2) (h3 : ¬ a = 3) (w : World) :
    Calls Tryz.prog 11 #[.agg #[.int .u8 a, .int .u16 b, .int .u32 c, .int .u64 d, .string s]] w (NRes zeroN 11 w) := by
  go_enter Tryz.func11, Tryz.ntmps11
  go_wp2
  refine bodyPost_ret_by (v := .tuple #[ndV false (.slice none 0 0) (.slice none 0 0), .int .i64 11]) ?_ rfl ?_
  · simp [ndV, results, Tryz.results11, go_sem]
  · exact ⟨_, rfl, zeroN_v _, boxB w _ _⟩
end Go.Proofs.YtemfbkelenaaeaaGreat
/- What the law SlotsBack goes by: a cell as it is read, a row that is laid and read, and what is read laid again. -/
namespace Go.Proofs.YtemfbkelenaaeaaGreat
open Go.RowKit
open Sl (Cl Kd)
/-- A cell as it is read. -/
def normC (x : Cl) : Cl := if x.chain = 0 then ⟨x.key, x.val, 0, 0⟩ else x
theorem norm_zero (x : Cl) (h : x.chain = 0) : normC x = ⟨x.key, x.val, 0, 0⟩ := by unfold normC; rw [if_pos h]
theorem norm_more (x : Cl) (h : x.chain ≠ 0) : normC x = x := by unfold normC; rw [if_neg h]
theorem norm_enc (x : Cl) : Sl.encC (normC x) = Sl.encC x := by
  by_cases h : x.chain = 0
  · rw [norm_zero x h]; unfold Sl.encC; rw [if_neg (by simp), if_neg (by simp [h])]
  · rw [norm_more x h]
theorem norm_key (x : Cl) : (normC x).key = x.key := by
  by_cases h : x.chain = 0
  · rw [norm_zero x h]
  · rw [norm_more x h]
theorem norm_flat : ∀ l : List Cl, (l.map normC).flatMap Sl.shC.enc = l.flatMap Sl.shC.enc
  | [] => rfl
  | x :: l => by rw [List.map_cons, List.flatMap_cons, List.flatMap_cons, norm_flat l]; exact congrArg (· ++ _) (norm_enc x)
theorem norm_begins : ∀ (l : List Cl) (n : Nat), Sl.begins Sl.shC n (l.map normC) = Sl.begins Sl.shC n l
  | [], _ => rfl
  | x :: l, n => by
    rw [List.map_cons, Sl.begins, Sl.begins, norm_begins l]
    rw [show (Sl.shC.enc (normC x)) = Sl.shC.enc x from norm_enc x]
theorem norm_body (l : List Cl) : Sl.body Sl.shC (l.map normC) = Sl.body Sl.shC l := by unfold Sl.body; rw [norm_flat, List.length_map, norm_begins]
theorem norm_fits (x : Cl) : Sl.fitsC (normC x) = Sl.fitsC x := by
  by_cases h : x.chain = 0
  · rw [norm_zero x h]; unfold Sl.fitsC; simp [h]
  · rw [norm_more x h]
theorem norm_long (x : Cl) : Sl.long Sl.shC (normC x) = Sl.long Sl.shC x := by
  unfold Sl.long
  rw [show Sl.shC.key (normC x) = Sl.shC.key x from norm_key x, show Sl.shC.fits (normC x) = Sl.shC.fits x from norm_fits x]
theorem norm_rises : ∀ l : List Cl, Sl.rises Sl.shC (l.map normC) = Sl.rises Sl.shC l
  | [] => rfl
  | [_] => rfl
  | x :: y :: l => by
    rw [List.map_cons, List.map_cons, Sl.rises, Sl.rises, ← List.map_cons, norm_rises (y :: l)]
    rw [show Sl.shC.key (normC x) = Sl.shC.key x from norm_key x, show Sl.shC.key (normC y) = Sl.shC.key y from norm_key y]
theorem norm_right (l : List Cl) : Sl.right Sl.shC (l.map normC) = Sl.right Sl.shC l := by
  unfold Sl.right
  rw [norm_rises, List.any_map]
  rw [show (Sl.long Sl.shC ∘ normC) = Sl.long Sl.shC from funext fun x => norm_long x]
theorem right_fits {l : List Cl} (h : Sl.right Sl.shC l = 0) : ∀ x ∈ l, x.key.length ≤ 255 ∧ Sl.fitsC x = true := by
  intro x hx
  have hl : Sl.long Sl.shC x = false := by
    cases hb : Sl.long Sl.shC x
    · rfl
    · obtain ⟨k, hk⟩ := List.getElem?_of_mem hx
      rw [Sl.right_long Sl.shC l k x hk hb] at h; cases h
  unfold Sl.long at hl
  rw [Bool.or_eq_false_iff] at hl
  obtain ⟨h1, h2⟩ := hl
  refine ⟨?_, ?_⟩
  · have := of_decide_eq_false h1
    exact Nat.le_of_not_lt this
  · have h3 : (!Sl.fitsC x) = false := h2
    cases hf : Sl.fitsC x
    · rw [hf] at h3; cases h3
    · rfl
theorem norm_can {x : Cl} (ho : okC x) (hk : x.key.length ≤ 255) (hf : Sl.fitsC x = true) : canC (normC x) := by
  unfold Sl.fitsC at hf
  have hf := of_decide_eq_true hf
  by_cases h : x.chain = 0
  · rw [if_neg (by simp [h])] at hf
    rw [norm_zero x h]
    exact ⟨hk, show 0 < 4294967296 by decide, show 0 < 4294967296 by decide, fun h => absurd rfl h, fun _ => ⟨rfl, show x.val.length < 65536 by omega⟩⟩
  · rw [if_pos h] at hf
    rw [norm_more x h]
    exact ⟨hk, ho.1, ho.2, fun _ => List.length_eq_zero_iff.1 (by omega), fun h2 => absurd h2 h⟩
/-- A row that is laid is that of the cells as they are read. -/
theorem laid_canon {l : List Cl} (ho : ∀ x ∈ l, okC x) (h : Sl.right Sl.shC l = 0) : Canon true (Sl.body Sl.shC l) l.length (l.map normC) := by
  refine ⟨List.length_map .., ?_, (norm_body l).symm⟩
  intro y hy
  obtain ⟨x, hx, rfl⟩ := List.mem_map.1 hy
  have := right_fits h x hx
  exact norm_can (ho x hx) this.1 this.2
/-- What is laid is read as it was. -/
theorem read_laid (l : List Cl) (ho : ∀ x ∈ l, okC x) (h : Sl.right Sl.shC l = 0) (hs : ¬ 4072 < Sl.sum Sl.shC l) (w : World) :
    Calls Tryz.prog 33 #[shpC, .string (str (Sl.body Sl.shC l)), .int .i64 l.length] w fun e w' => ∃ v, e = .returned (.tuple #[v, .int .i64 0]) ∧ SlC w' v (l.map normC) ∧ Below w.heap.size w w' ∧ Cap v := by
  have hz : (Sl.body Sl.shC l).length = Sl.sum Sl.shC l := Sl.body_len Sl.shC l
  have hc := laid_canon ho h
  have hr := norm_right l
  refine (readC_any _ (by omega) _ w).mono ?_
  rintro e w' (⟨hb, _, _⟩ | ⟨m, _, hm, hr2, _, _⟩ | ⟨m, _, hm, _, v, he, hv, hq, hb⟩)
  · exact absurd hc (hb _ (Int.natCast_nonneg _))
  · have := Canon.unique hm hc
    rw [this, hr, h] at hr2; exact absurd rfl hr2
  · have := Canon.unique hm hc
    rw [this] at hv
    exact ⟨v, he, hv, hb, hq⟩
inductive BackOut (s : List UInt8) (w : World) (e : Ending) (w' : World) : Prop
  | none (r : Int) (hr : r ≠ 0) (he : e = .returned (.tuple #[.slice none 0 0, .int .i64 r])) (hb : Below w.heap.size w w')
  | big (m : List Cl) (v : Value) (he : e = .returned (.tuple #[v, .int .i64 0])) (hv : SlC w' v m) (ho : ∀ x ∈ m, okC x) (hl : m.length ≤ 100000) (hm : Sl.bodyR Sl.shC m = ([], 14)) (hz : 4072 < s.length) (hb : Below w.heap.size w w')
  | some (m : List Cl) (v : Value) (he : e = .returned (.tuple #[v, .int .i64 0])) (hv : SlC w' v m) (ho : ∀ x ∈ m, okC x) (hl : m.length ≤ 100000) (hm : Sl.bodyR Sl.shC m = (s, 0)) (hb : Below w.heap.size w w')
/-- What is read would be laid so. -/
theorem read_back (s : List UInt8) (hs : s.length ≤ 5000) (n : Int) (w : World) :
    Calls Tryz.prog 33 #[shpC, .string (str s), .int .i64 n] w (BackOut s w) := by
  refine (readC_any s (by omega) n w).mono ?_
  rintro e w' (⟨_, he, hb⟩ | ⟨m, _, hm, hr2, he, hb⟩ | ⟨m, _, hm, hr, v, he, hv, hq, hb⟩)
  · exact .none 4 (by decide) he hb
  · exact .none _ hr2 he hb
  · have hok : ∀ x ∈ m, okC x := fun x hx => by
      have : canC x := hm.2.1 x hx
      exact ⟨this.2.1, this.2.2.1⟩
    have hlen : m.length ≤ 100000 := by have := hm.size; have := hm.1; omega
    have hs' : s = Sl.body Sl.shC m := hm.2.2
    have hz : (Sl.body Sl.shC m).length = Sl.sum Sl.shC m := Sl.body_len Sl.shC m
    by_cases hf : 4072 < s.length
    · exact .big m v he hv hok hlen (Sl.bodyR_full Sl.shC m hr (by rw [← hz, ← hs']; exact hf)) hf hb
    · refine .some m v he hv hok hlen ?_ hb
      rw [Sl.bodyR_ok Sl.shC m hr (by rw [← hz, ← hs']; exact hf), ← hs']
theorem bodyR_zero {l : List Cl} (h : (Sl.bodyR Sl.shC l).2 = 0) : Sl.right Sl.shC l = 0 ∧ ¬ 4072 < Sl.sum Sl.shC l := by
  by_cases hr : Sl.right Sl.shC l = 0
  · by_cases hs : 4072 < Sl.sum Sl.shC l
    · rw [Sl.bodyR_full Sl.shC l hr hs] at h; cases h
    · exact ⟨hr, hs⟩
  · rw [Sl.bodyR_bad Sl.shC l hr] at h; exact absurd h hr
end Go.Proofs.YtemfbkelenaaeaaGreat
/- What is framed is read as it was. -/
namespace Go.Proofs.YtemfbkelenaaeaaGreat
open Go.RowKit
open Sl (Cl Kd Nd Rn)
structure FrBack (n M : Nd) : Prop where
  lf : M.leaf = n.leaf
  sum : Sl.ndSum M = Sl.ndSum n
  ok : NdOk M
  of : ∀ (id tx : Int) W, Calls Tryz.prog 11 #[frR n id tx] W (NRes M 0 W)
theorem bodyR_zeroK {l : List Kd} (h : (Sl.bodyR Sl.shK l).2 = 0) : Sl.right Sl.shK l = 0 ∧ ¬ 4072 < Sl.sum Sl.shK l := by
  by_cases hr : Sl.right Sl.shK l = 0
  · by_cases hs : 4072 < Sl.sum Sl.shK l
    · rw [Sl.bodyR_full Sl.shK l hr hs] at h; cases h
    · exact ⟨hr, hs⟩
  · rw [Sl.bodyR_bad Sl.shK l hr] at h; exact absurd h hr
theorem laid_canonK {l : List Kd} (ho : ∀ x ∈ l, okK x) (h : Sl.right Sl.shK l = 0) : Canon false (Sl.body Sl.shK l) l.length (l.map toC) := by
  refine ⟨List.length_map .., ?_, ?_⟩
  · intro y hy
    obtain ⟨x, hx, rfl⟩ := List.mem_map.1 hy
    refine ⟨?_, ho x hx, rfl, rfl⟩
    have hl : Sl.long Sl.shK x = false := by
      cases hb : Sl.long Sl.shK x
      · rfl
      · obtain ⟨k, hk⟩ := List.getElem?_of_mem hx
        rw [Sl.right_long Sl.shK l k x hk hb] at h; cases h
    unfold Sl.long at hl
    rw [Bool.or_eq_false_iff] at hl
    have := of_decide_eq_false hl.1
    exact Nat.le_of_not_lt this
  · rw [Sl.body_map]; rfl
theorem read_laidK (l : List Kd) (ho : ∀ x ∈ l, okK x) (h : Sl.right Sl.shK l = 0) (hs : ¬ 4072 < Sl.sum Sl.shK l) (w : World) :
    Calls Tryz.prog 35 #[shpK, .string (str (Sl.body Sl.shK l)), .int .i64 l.length] w (ResK l 0 w) := by
  have hz : (Sl.body Sl.shK l).length = Sl.sum Sl.shK l := Sl.body_len Sl.shK l
  have hc := laid_canonK ho h
  refine (readK_any _ (by omega) _ w).mono ?_
  rintro e w' (⟨hb, _, _⟩ | ⟨m, _, hm, hr2, _, _⟩ | ⟨m, _, hm, _, v, he, hv, hq, hb⟩)
  · exact absurd hc (hb _ (Int.natCast_nonneg _))
  · have := toC_inj _ _ (Canon.unique hm hc)
    rw [this, h] at hr2; exact absurd rfl hr2
  · have := toC_inj _ _ (Canon.unique hm hc)
    rw [this] at hv
    exact ⟨v, he, hv, hq, hb⟩
theorem frBack (n : Nd) (ho : NdOk n) (h1 : n.cs.length ≤ 400) (h2 : n.ks.length ≤ 400) (he : Sl.frE n = 0) : ∃ M, FrBack n M := by
  obtain ⟨lf, cs, ks⟩ := n
  cases lf with
  | true =>
    have he' : (Sl.bodyR Sl.shC cs).2 = 0 := he
    obtain ⟨hr, hs⟩ := bodyR_zero he'
    have hb : Sl.bodyR Sl.shC cs = (Sl.body Sl.shC cs, 0) := Sl.bodyR_ok Sl.shC cs hr hs
    have hc := laid_canon ho.oc hr
    refine ⟨⟨true, cs.map normC, []⟩, rfl, ?_, ⟨?_, Nat.zero_le _, ?_, fun x hx => (by cases hx)⟩, fun id tx W => ?_⟩
    · show Sl.sum Sl.shC (cs.map normC) = Sl.sum Sl.shC cs
      rw [Sl.sum_eq, Sl.sum_eq, norm_flat, List.length_map]
    · show (cs.map normC).length ≤ 100000
      rw [List.length_map]; have : cs.length ≤ 400 := h1; omega
    · intro x hx
      have : canC x := hc.2.1 x hx
      exact ⟨this.2.1, this.2.2.1⟩
    · have hf : frR ⟨true, cs, ks⟩ id tx = frV 2 (cs.length : Nat) id tx (Sl.body Sl.shC cs) := by
        unfold frR
        rw [if_pos he]
        show frV 2 (cs.length : Nat) id tx (Sl.bodyR Sl.shC cs).1 = _
        rw [hb]
      rw [hf]
      exact nOfC_ok _ _ _ (Int.natCast_nonneg _) (by have : cs.length ≤ 400 := h1; omega) _ _ (fun W => (read_laid cs ho.oc hr hs W).mono fun e w' ⟨v, h3, h4, h5, h6⟩ => ⟨v, h3, h4, h6, h5⟩) W
  | false =>
    have he' : (if Sl.leadsB ks then (Sl.bodyR Sl.shK ks).2 else 4) = 0 := he
    cases hld : Sl.leadsB ks with
    | false => rw [hld] at he'; cases he'
    | true =>
      rw [hld, if_pos rfl] at he'
      obtain ⟨hr, hs⟩ := bodyR_zeroK he'
      have hb : Sl.bodyR Sl.shK ks = (Sl.body Sl.shK ks, 0) := Sl.bodyR_ok Sl.shK ks hr hs
      refine ⟨⟨false, [], ks⟩, rfl, rfl, ⟨Nat.zero_le _, ho.lk, fun x hx => (by cases hx), ho.ok⟩, fun id tx W => ?_⟩
      have hf : frR ⟨false, cs, ks⟩ id tx = frV 3 (ks.length : Nat) id tx (Sl.body Sl.shK ks) := by
        unfold frR
        rw [if_pos he]
        show frV 3 (ks.length : Nat) id tx (Sl.bodyR Sl.shK ks).1 = _
        rw [hb]
      rw [hf]
      exact nOfK_yes _ _ _ (Int.natCast_nonneg _) (by have : ks.length ≤ 400 := h2; omega) _ _ (by have : ks.length ≤ 400 := h2; omega) hld (fun W => read_laidK ks ho.ok hr hs W) W
end Go.Proofs.YtemfbkelenaaeaaGreat
/- Copying, clearing and shifting rows of structs in a block that is known whole. -/
namespace Go.Proofs.YtemfbkelenaaeaaGreat
open Go.RowKit
section
variable {P : Program}
theorem run_copy_rowS (w : World) (dT sT ty elem : TypeId) (S : Nat) (g o dLen dCap : Nat) (a : Addr) (sLen sCap : Nat) (cur : Array Value) (t : TypeId) (cs : List Value)
    (hu : P.underlying dT = some (.slice elem)) (hs : (P.info? elem).map (·.size) = some S)
    (hg : w.heap[g]? = some (.cells cur t (0, 0))) (hn : cs.length = Nat.min sLen dLen * S)
    (hsrc : ∀ j v, cs[j]? = some v → w.cell? (a.add j) = some v) (hfit : o + cs.length ≤ cur.size) (h1 : ∀ v ∈ cs, v.oneCell' = true) :
    (Builtin.copy_ #[dT, sT] ty #[.slice (some ⟨g, o, none⟩) dLen dCap, .slice (some a) sLen sCap]).run P w =
      .ok (goInt (Nat.min sLen dLen)) (w.setRow g (cur.toList.take o ++ cs ++ cur.toList.drop (o + cs.length)).toArray) := by
  have hl := run_loadCells_list (P := P) w a cs hsrc
  have hst := run_storeCells_at P g o t cs 0 cur w hg (by simpa using hfit) h1
  cases hq : P.info? elem with
  | none => simp [hq] at hs
  | some i =>
    have hi : i.size = S := by simpa [hq] using hs
    simp [Builtin.copy_, run_underlying hu, Builtin.lenOf, Builtin.firstCells, sizeOf, typeInfo, hq, hi, ← hn, hl, hst]
theorem setCells_row (g : Nat) (t : TypeId) : ∀ (vs : List Value) (o : Nat) (cur : Array Value) (w : World), w.heap[g]? = some (.cells cur t (0, 0)) → o + vs.length ≤ cur.size →
    w.setCells g o vs = w.setRow g (cur.toList.take o ++ vs ++ cur.toList.drop (o + vs.length)).toArray
  | [], o, cur, w, hg, _ => by
    simp only [World.setCells, List.append_nil, List.length_nil, Nat.add_zero, List.take_append_drop, Array.toArray_toList]
    rw [setRow_self w g cur t (0, 0) hg]
  | v :: rest, o, cur, w, hg, hl => by
    have ih := setCells_row g t rest (o + 1) (cur.setIfInBounds o v) (w.setRow g (cur.setIfInBounds o v)) (setRow_heap w g cur _ t _ hg) (by simp at hl ⊢; omega)
    rw [World.setCells, setCell_eq_setRow w g o cur t (0, 0) v hg, ih, setRow_setRow]
    congr 2
    have e := list_seg_step cur.toList o v rest (by simp at hl ⊢; omega)
    simpa [Array.toList_setIfInBounds] using e
/-- 'clear(s)', s of one element of several cells. -/
theorem run_clear_one (w : World) (t e ty : TypeId) (z : Value) (zs : List Value) (hz : z.cells = zs.toArray) (ht : P.underlying t = some (.slice e)) (hv : ∀ w, (zeroValue e).run P w = .ok z w) (h1 : ∀ v ∈ zs, v.oneCell' = true) (b o c : Nat)
    (hc : ∀ j, j < zs.length → (w.cell? ⟨b, o + j, none⟩).isSome = true) (hf : ∀ j, j < zs.length → w.frozen? ⟨b, o + j, none⟩ = false) :
    (Builtin.clear_ #[t] ty #[.slice (some ⟨b, o, none⟩) 1 c]).run P w = .ok (.tuple #[]) (w.setCells b o zs) := by
  have hzc : (Builtin.zeroCells z.cells 1).toList = zs := by
    rw [hz]
    simp only [Builtin.zeroCells, Nat.one_mul, Array.toList_map, Array.toList_range, List.size_toArray]
    apply List.ext_getElem
    · simp
    · intro i h1 h2
      have hi : i < zs.length := by simpa using h2
      simp [Nat.mod_eq_of_lt hi, hi]
  have hst := run_storeCells_cells (P := P) b o zs 0 w (by simpa using hc) (by simpa using hf) h1
  simp only [Nat.add_zero] at hst
  simp [Builtin.clear_, run_underlying ht, hv, hzc, hst]
end
theorem seg_ins (I N S : Nat) (cur xs vs : List Value) (hI : I ≤ N) (hx : cur.take N = xs) (hN : N + S ≤ cur.length) (hv : vs.length = S) :
    (((cur.take (I + S) ++ xs.drop I ++ cur.drop (I + S + (xs.drop I).length)).take I ++ vs ++ (cur.take (I + S) ++ xs.drop I ++ cur.drop (I + S + (xs.drop I).length)).drop (I + vs.length)).take (N + S) = xs.take I ++ vs ++ xs.drop I) := by
  have hxl : xs.length = N := by rw [← hx, List.length_take]; omega
  have h1 : (cur.take (I + S)).length = I + S := by rw [List.length_take]; omega
  have h2 : (cur.take (I + S) ++ xs.drop I ++ cur.drop (I + S + (xs.drop I).length)).take I = xs.take I := by
    rw [List.append_assoc, List.take_append_of_le_length (by omega), List.take_take, ← hx, List.take_take, Nat.min_eq_left (by omega), Nat.min_eq_left (by omega)]
  have h3 : (cur.take (I + S) ++ xs.drop I ++ cur.drop (I + S + (xs.drop I).length)).drop (I + vs.length) = xs.drop I ++ cur.drop (I + S + (xs.drop I).length) := by
    rw [hv, List.append_assoc, List.drop_append_of_le_length (by omega), List.drop_of_length_le (by omega), List.nil_append]
  rw [h2, h3, ← List.append_assoc, List.take_append_of_le_length (by simp only [List.length_append, List.length_take, List.length_drop]; omega), List.take_of_length_le (by simp only [List.length_append, List.length_take, List.length_drop]; omega)]
theorem seg_ins_len (I N S : Nat) (cur xs vs : List Value) (hI : I ≤ N) (hx : cur.take N = xs) (hN : N + S ≤ cur.length) (hv : vs.length = S) :
    ((cur.take (I + S) ++ xs.drop I ++ cur.drop (I + S + (xs.drop I).length)).take I ++ vs ++ (cur.take (I + S) ++ xs.drop I ++ cur.drop (I + S + (xs.drop I).length)).drop (I + vs.length)).length = cur.length := by
  have hxl : xs.length = N := by rw [← hx, List.length_take]; omega
  simp only [List.length_append, List.length_take, List.length_drop]; omega
/-- The other order: what is put in first, then what stood behind. -/
theorem seg_ins2 (I N S : Nat) (cur xs vs : List Value) (hI : I ≤ N) (hxl : xs.length = N) (hx : cur.take I = xs.take I) (hN : N + S ≤ cur.length) (hv : vs.length = S) :
    ((cur.take I ++ vs ++ cur.drop (I + vs.length)).take (I + S) ++ xs.drop I ++ (cur.take I ++ vs ++ cur.drop (I + vs.length)).drop (I + S + (xs.drop I).length)).take (N + S) = xs.take I ++ vs ++ xs.drop I := by
  have h1 : (cur.take I).length = I := by rw [List.length_take]; omega
  have h2 : (cur.take I ++ vs ++ cur.drop (I + vs.length)).take (I + S) = xs.take I ++ vs := by
    rw [List.take_append_of_le_length (by rw [List.length_append]; omega), List.take_of_length_le (by rw [List.length_append]; omega), hx]
  rw [h2, List.take_append_of_le_length (by simp only [List.length_append, List.length_take, List.length_drop]; omega), List.take_of_length_le (by simp only [List.length_append, List.length_take, List.length_drop]; omega)]
theorem seg_ins2_len (I N S : Nat) (cur xs vs : List Value) (hI : I ≤ N) (hxl : xs.length = N) (hN : N + S ≤ cur.length) (hv : vs.length = S) :
    ((cur.take I ++ vs ++ cur.drop (I + vs.length)).take (I + S) ++ xs.drop I ++ (cur.take I ++ vs ++ cur.drop (I + vs.length)).drop (I + S + (xs.drop I).length)).length = cur.length := by
  simp only [List.length_append, List.length_take, List.length_drop]; omega
theorem seg_del (I N S : Nat) (cur xs zs : List Value) (hI : I + S ≤ N) (hx : cur.take N = xs) (hN : N ≤ cur.length) (hz : zs.length = S) :
    (((cur.take I ++ xs.drop (I + S) ++ cur.drop (I + (xs.drop (I + S)).length)).take (N - S) ++ zs ++ (cur.take I ++ xs.drop (I + S) ++ cur.drop (I + (xs.drop (I + S)).length)).drop (N - S + zs.length)).take (N - S) = xs.take I ++ xs.drop (I + S)) := by
  have hxl : xs.length = N := by rw [← hx, List.length_take]; omega
  have h1 : (cur.take I ++ xs.drop (I + S)).length = N - S := by simp only [List.length_append, List.length_take, List.length_drop]; omega
  have h2 : (cur.take I ++ xs.drop (I + S) ++ cur.drop (I + (xs.drop (I + S)).length)).take (N - S) = xs.take I ++ xs.drop (I + S) := by
    rw [List.take_append_of_le_length (by omega), List.take_of_length_le (by omega), ← hx, List.take_take, Nat.min_eq_left (by omega)]
  rw [h2, List.append_assoc, List.take_append_of_le_length (by simp only [List.length_append, List.length_take, List.length_drop]; omega), List.take_of_length_le (by simp only [List.length_append, List.length_take, List.length_drop]; omega)]
theorem seg_del_len (I N S : Nat) (cur xs zs : List Value) (hI : I + S ≤ N) (hx : cur.take N = xs) (hN : N ≤ cur.length) (hz : zs.length = S) :
    ((cur.take I ++ xs.drop (I + S) ++ cur.drop (I + (xs.drop (I + S)).length)).take (N - S) ++ zs ++ (cur.take I ++ xs.drop (I + S) ++ cur.drop (I + (xs.drop (I + S)).length)).drop (N - S + zs.length)).length = cur.length := by
  have hxl : xs.length = N := by rw [← hx, List.length_take]; omega
  simp only [List.length_append, List.length_take, List.length_drop]; omega
theorem owns_setRow {w : World} {g B e S cap n' : Nat} {cur : Array Value} {l : List Value} {xs' : List Value} (hg : w.heap[g]? = some (.cells cur e (0, 0))) (hB : B ≤ g) (hn' : n' ≤ cap) (hcap : cap ≤ maxLen) (hsz : l.length = cap * S) (hx : xs'.length = n' * S) (ht : l.take (n' * S) = xs') :
    (w.setRow g l.toArray).ownsRow B e S (.slice (some ⟨g, 0, none⟩) n' cap) n' xs' :=
  ⟨hx, .inr ⟨g, cap, l.toArray, rfl, hB, setRow_heap w g cur _ e _ hg, hn', hcap, by simpa using hsz, by simpa using ht⟩⟩
end Go.Proofs.YtemfbkelenaaeaaGreat
