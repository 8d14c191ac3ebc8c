/- Texts of one seat, merged. -/
import Derived.Test.YtgckaecjjoghbaaL02
import Derived.Lib.SliceRun
import Derived.Test.YtgckaecjjoghbaaL01
import Derived.Deep.LoopGhost
import Derived.Lib.Hide
import Derived.Sort.Grow
import Derived.Deep.RegionWith
import Derived.BigQuiet
import Derived.Deep.DeepCutAuto
import Derived.Shelf.Strings.Builder1
import Derived.Shelf.Small.Strs
import Derived.Test.YtgckaecjjoghbaaProg
import Derived.Lib.Builder
import Derived.Lib.AppendStr
set_option maxRecDepth 100000
set_option maxHeartbeats 4000000
set_option linter.unusedVariables false
/- Rows of a ledger's frames in memory. -/
namespace Go.Proofs.Ytgckaecjjoghbaa
open Go.RowKit
open Ld (En Fr)
def cellsL (f : Fr) : List Value := [.int .u8 5, .int .u16 f.count, .int .u32 f.id, .int .u64 f.tx, .string (str f.body)]
theorem cellsL_len (f : Fr) : (cellsL f).length = 5 := rfl
theorem cellsL_one (f : Fr) : ∀ u ∈ cellsL f, u.oneCell' = true := by
  intro u hu
  simp [cellsL] at hu
  rcases hu with rfl | rfl | rfl | rfl | rfl <;> rfl
def RowL (T : TypeId) (w : World) (B : Nat) (v : Value) (l : List Fr) : Prop := w.ownsRow B T 5 v l.length (l.flatMap cellsL)
theorem RowL.below {T : TypeId} {w w' : World} {B : Nat} {v : Value} {l : List Fr} (h : RowL T w B v l) (hb : Below w.heap.size w w') : RowL T w' B v l := ownsRow_below h hb
theorem infoFL : (Try.prog.info? 60).map (fun i => (i.zero, i.size, i.bytes)) = some (some (.agg #[.int .u8 0, .int .u16 0, .int .u32 0, .int .u64 0, .string ByteArray.empty]), 5, 32) := by kernel_rfl
theorem infoRL : (Try.prog.info? 59).map (fun i => (i.zero, i.size, i.bytes)) = some (some (.agg #[.int .u8 0, .int .u16 0, .int .u32 0, .int .u64 0, .string ByteArray.empty]), 5, 32) := by kernel_rfl
def zeroL : Array Value := #[.int .u8 0, .int .u16 0, .int .u32 0, .int .u64 0, .string ⟨#[]⟩]
theorem make_framesL (c : Nat) (h : c ≤ 30000) (W : World) : (Instr.makeSlice 49 (.int .i64 c) (.int .i64 c)).run Try.prog W = .ok (.slice (some ⟨W.heap.size, 0, none⟩) c c) (W.alloc (.cells (madeCells zeroL (c * 5)) 60)) := by
  obtain ⟨i, hi, hz, hs, hb⟩ := info_parts infoFL
  have := run_makeSlice (P := Try.prog) W 49 60 i _ Try.underlying49 hi hz .i64 .i64 c c (by omega) (by omega) (by rw [hs]; omega) (by rw [hb]; omega) (by omega)
  rw [this, hs]
  simp only [Int.toNat_natCast]
  rfl
theorem made_rowL (w : World) (c : Nat) (h : c ≤ 30000) :
    (w.alloc (.cells (madeCells zeroL (c * 5)) 60)).ownsRow w.heap.size 60 5 (.slice (some ⟨w.heap.size, 0, none⟩) c c) c (madeCells zeroL (c * 5)).toList := by
  have hsz := size_madeCells zeroL (c * 5)
  generalize madeCells zeroL (c * 5) = M at hsz ⊢
  refine ⟨by simp [hsz], .inr ⟨w.heap.size, c, M, rfl, Nat.le_refl _, heap_alloc_new w _, Nat.le_refl _, by unfold maxLen; omega, hsz, ?_⟩⟩
  rw [List.take_of_length_le (by rw [Array.length_toList]; omega)]
theorem flatlL (l : List Fr) : (l.flatMap cellsL).length = l.length * 5 := flat_len _ _ cellsL_len _
theorem storedL {w : World} {g c : Nat} {l : List Fr} {zs : List Value} (h : w.ownsRow g 60 5 (.slice (some ⟨g, 0, none⟩) c c) c (l.flatMap cellsL ++ zs)) (hz : zs.length = (c - l.length) * 5) (hl : l.length < c) (x : Fr) :
    ∃ zt, zt.length = (c - (l.length + 1)) * 5 ∧ (((((w.setCell ⟨g, l.length * 5, none⟩ (.int .u8 5)).setCell ⟨g, l.length * 5 + 1, none⟩ (.int .u16 x.count)).setCell ⟨g, l.length * 5 + 2, none⟩ (.int .u32 x.id)).setCell ⟨g, l.length * 5 + 3, none⟩ (.int .u64 x.tx)).setCell ⟨g, l.length * 5 + 4, none⟩ (.string (str x.body))).ownsRow g 60 5 (.slice (some ⟨g, 0, none⟩) c c) c ((l ++ [x]).flatMap cellsL ++ zt) := by
  have hfl := flatlL l
  obtain ⟨zt, hzt, hze⟩ : ∃ zt, zt.length = (c - (l.length + 1)) * 5 ∧ ∃ a0 a1 a2 a3 a4, zs = a0 :: a1 :: a2 :: a3 :: a4 :: zt := by
    refine ⟨zs.drop 5, by rw [List.length_drop, hz]; omega, ?_⟩
    have h4 : 5 ≤ zs.length := by rw [hz]; omega
    match zs, h4 with
    | a0 :: a1 :: a2 :: a3 :: a4 :: zt, _ => exact ⟨a0, a1, a2, a3, a4, rfl⟩
  obtain ⟨a0, a1, a2, a3, a4, rfl⟩ := hze
  refine ⟨zt, hzt, ?_⟩
  have hst := (((((h.stored (l.length * 5) (.int .u8 5)).1.stored (l.length * 5 + 1) (.int .u16 x.count)).1.stored (l.length * 5 + 2) (.int .u32 x.id)).1.stored (l.length * 5 + 3) (.int .u64 x.tx)).1.stored (l.length * 5 + 4) (.string (str x.body))).1
  rw [List.flatMap_append, List.flatMap_cons, List.flatMap_nil, List.append_nil, List.append_assoc]
  have hls : ((((((l.flatMap cellsL ++ a0 :: a1 :: a2 :: a3 :: a4 :: zt).set (l.length * 5) (.int .u8 5)).set (l.length * 5 + 1) (.int .u16 x.count)).set (l.length * 5 + 2) (.int .u32 x.id)).set (l.length * 5 + 3) (.int .u64 x.tx)).set (l.length * 5 + 4) (.string (str x.body))) = l.flatMap cellsL ++ (cellsL x ++ zt) := by
    rw [List.set_append_right _ _ (by rw [hfl]; omega), show l.length * 5 - (l.flatMap cellsL).length = 0 by rw [hfl]; omega]
    rw [List.set_append_right _ _ (by rw [hfl]; omega), show l.length * 5 + 1 - (l.flatMap cellsL).length = 1 by rw [hfl]; omega]
    rw [List.set_append_right _ _ (by rw [hfl]; omega), show l.length * 5 + 2 - (l.flatMap cellsL).length = 2 by rw [hfl]; omega]
    rw [List.set_append_right _ _ (by rw [hfl]; omega), show l.length * 5 + 3 - (l.flatMap cellsL).length = 3 by rw [hfl]; omega]
    rw [List.set_append_right _ _ (by rw [hfl]; omega), show l.length * 5 + 4 - (l.flatMap cellsL).length = 4 by rw [hfl]; omega]
    rfl
  rw [← hls]
  exact hst
/-- What both functions answer. -/
inductive LdOut (T : TypeId) (ids : List Nat) (tx : Nat) (s : List En) (w : World) (e : Ending) (w' : World) : Prop
  | bad (h : Ld.err ids s ≠ 0) (he : e = .returned (.tuple #[.slice none 0 0, .int .i64 (Ld.err ids s)])) (hb : Below w.heap.size w w')
  | ok (v : Value) (h : Ld.err ids s = 0) (he : e = .returned (.tuple #[v, .int .i64 0])) (hv : RowL T w' w.heap.size v (Ld.frs ids tx s ids.length)) (hb : Below w.heap.size w w')
/-! parts of a row of entries -/
theorem sizeE : ∀ W, (sizeOf (Try.prog.elem 45)).run Try.prog W = .ok 2 W := fun W => by kernel_rfl
theorem sizeRE : ∀ W, (sizeOf (Try.prog.elem 56)).run Try.prog W = .ok 2 W := fun W => by kernel_rfl
theorem cut_to (a : Option Addr) (c : Nat) (l : List En) (q : Nat) (hq : q ≤ l.length) (hc : Cap (.slice a l.length c)) :
    (∀ W, (Instr.sliceAt 45 (.slice a l.length c) none (some (.int .i64 (q : Int))) none).run Try.prog W = .ok (.slice a (l.take q).length c) W) ∧ (∀ W, SlE W (.slice a l.length c) l → SlE W (.slice a (l.take q).length c) (l.take q)) := by
  have hcc : l.length ≤ c := by cases hc; assumption
  refine ⟨fun W => ?_, fun W h => ?_⟩
  · rw [run_sliceAt_slice (h := (by kernel_rfl : Try.prog.underlying 45 = some (.slice (Try.prog.elem 45)))), run_slice_h (ht := (by kernel_rfl : Try.prog.underlying 45 = some (.slice (Try.prog.elem 45)))) (h0 := by omega) (h2 := by omega)]
    rw [show (sizeOf (Try.prog.elem 45)).run Try.prog W = .ok 2 W from sizeE W]
    simp only [Result.andThen, sliced, List.length_take, Int.toNat_natCast, Nat.min_eq_left hq, Nat.sub_zero, Nat.zero_mul]
    congr 2
    split
    · rfl
    · cases a with
      | none => rfl
      | some ad => first | rfl | (simp only [Option.map_some]; congr 1; first | done | rfl | (unfold Addr.add; first | done | (split <;> simp_all)))
  · obtain ⟨a1, b1, o1, c1, hv, ha, hx⟩ := h
    simp only [Value.slice.injEq] at hv
    obtain ⟨rfl, _, rfl⟩ := hv
    refine ⟨a, b1, o1, c, rfl, ?_, fun j x hj => ?_⟩
    · rcases ha with h | h
      · exact .inl (by rw [h]; simp)
      · exact .inr h
    · have hjq : j < q := by
        have := (List.getElem?_eq_some_iff.1 hj).1
        rw [List.length_take] at this; omega
      rw [List.getElem?_take_of_lt hjq] at hj
      exact hx j x hj
theorem cut_from (T : TypeId) (hT : Try.prog.underlying T = some (.slice (Try.prog.elem T))) (hz : ∀ W, (sizeOf (Try.prog.elem T)).run Try.prog W = .ok 2 W) (a : Option Addr) (c : Nat) (l : List En) (q : Nat) (hq : q ≤ l.length) (hc : Cap (.slice a l.length c)) :
    ∃ a' c', (∀ W, (Instr.sliceAt T (.slice a l.length c) (some (.int .i64 (q : Int))) none none).run Try.prog W = .ok (.slice a' (l.drop q).length c') W) ∧ (∀ W, SlE W (.slice a l.length c) l → SlE W (.slice a' (l.drop q).length c') (l.drop q)) ∧ Cap (.slice a' (l.drop q).length c') := by
  have hcc : l.length ≤ c ∧ c ≤ maxLen ∧ (a = none → c = 0) := by cases hc; exact ⟨by assumption, by assumption, by assumption⟩
  obtain ⟨h1, h2, h3⟩ := hcc
  have hrun : ∀ W, (Instr.sliceAt T (.slice a l.length c) (some (.int .i64 (q : Int))) none none).run Try.prog W = .ok (sliced a q l.length c 2) W := by
    intro W
    rw [run_sliceAt_slice (h := hT), run_slice_l (ht := hT) (h0 := by omega) (h1 := by omega), hz W]
    rfl
  refine ⟨if c = q then a else a.map (·.add (q * 2)), c - q, ?_, ?_, ?_⟩
  · intro W; rw [hrun W, List.length_drop]; rfl
  · intro W h
    obtain ⟨a1, b1, o1, c1, hv, ha, hx⟩ := h
    simp only [Value.slice.injEq] at hv
    obtain ⟨rfl, _, rfl⟩ := hv
    by_cases hcq : c = q
    · have hd : l.drop q = [] := List.drop_of_length_le (by omega)
      rw [hd, if_pos hcq]
      exact ⟨a, 0, 0, c - q, rfl, .inl rfl, fun j x hj => by simp at hj⟩
    · rw [if_neg hcq]
      refine ⟨a.map (·.add (q * 2)), b1, o1 + q * 2, c - q, rfl, ?_, fun j x hj => ?_⟩
      · rcases ha with h | h
        · exact .inl (by rw [h]; simp)
        · right; rw [h]; simp only [Option.map_some, add_plain']
      · rw [List.getElem?_drop] at hj
        have := hx (q + j) x hj
        rw [show o1 + q * 2 + j * 2 = o1 + (q + j) * 2 by omega]
        exact this
  · refine ⟨_, _, _, by rw [List.length_drop]; omega, by omega, fun h => ?_⟩
    by_cases hcq : c = q
    · omega
    · rw [if_neg hcq] at h
      cases a with
      | none => have := h3 rfl; omega
      | some ad => simp at h
end Go.Proofs.Ytgckaecjjoghbaa
/- The contracts of whether a page's number is too low: slices.ContainsFunc at numbers. -/
namespace Go.Proofs.Ytgckaecjjoghbaa
open Go.RowKit
theorem ldBelow_any (x : Nat) (w : World) : Calls Try.prog 49 #[.int .u32 x] w fun e w' => e = .returned (.bool (decide ((x : Int) < 2))) ∧ w = w' := by
  go_enter Try.func49, Try.ntmps49
  go_wp2
  go_ret
  exact ⟨rfl, rfl⟩
theorem low_snocN (l : List Nat) (k : Nat) (x : Nat) (h : l[k]? = some x) : Ld.low (l.take (k + 1)) = (Ld.low (l.take k) || decide ((x : Int) < 2)) := by
  unfold Ld.low
  rw [Ld.take_snoc h, List.any_append]; simp
theorem idx32_any (v : Value) (l : List Nat) (hll : l.length ≤ 100000) (w : World) (hv : SlN w v l) :
    Calls Try.prog 70 #[v, .func (.func 49) #[] #[]] w fun e w' => ∃ r : Int, e = .returned (.int .i64 r) ∧ (0 ≤ r ↔ Ld.low l = true) ∧ w = w' := by
  obtain ⟨a, b, o, c, rfl, ha, hx⟩ := hv
  have HX := Lib.hid hx
  have HA := Lib.hid ha
  clear ha hx
  go_enter Try.func70, Try.ntmps70
  go_wp2
  go_loopg [8] l.length (fun n i wr => ∃ k : Nat, k ≤ l.length ∧ n = l.length - k ∧ i = .int .i64 k ∧ Hid (Ld.low (l.take k) = false) ∧ w = wr)
  case atStart => exact ⟨0, Nat.zero_le _, rfl, rfl, Lib.hid rfl, rfl⟩
  case round =>
    obtain ⟨k, hk, rfl, rfl, HN, rfl⟩ := hrel
    by_cases hlt : k < l.length
    · obtain ⟨x, hx⟩ := has_of hlt
      have d0 := HX.out k x hx
      obtain rfl : a = some ⟨b, o, none⟩ := HA.out.resolve_left (by intro h; rw [h] at hlt; cases hlt)
      have HS := Lib.hid (low_snocN l k x hx)
      have HL := Lib.hid (fun W => ldBelow_any x W)
      have HMEM := Lib.hid (List.mem_of_getElem? hx)
      clear hx
      by_cases hp : (x : Int) < 2
      · have HD : Hid (decide ((x : Int) < 2) = true) := decide_eq_true hp
        rw [HD.out] at HL
        have HANY : Hid (Ld.low l = true) := List.any_eq_true.2 ⟨x, HMEM.out, by simpa using hp⟩
        go_wp2_with (go_at_call 49; refine (HL.out _).mono ?_; rintro e w4 ⟨rfl, rfl⟩)
        go_ret
        exact ⟨_, rfl, ⟨fun _ => HANY.out, fun _ => Int.natCast_nonneg _⟩, rfl⟩
      · have HD : Hid (decide ((x : Int) < 2) = false) := decide_eq_false hp
        have HN2 : Hid (Ld.low (l.take (k + 1)) = false) := by show _ = _; rw [HS.out, HN.out, HD.out]; rfl
        rw [HD.out] at HL
        go_wp2_with (go_at_call 49; refine (HL.out _).mono ?_; rintro e w4 ⟨rfl, rfl⟩)
        go_roundg (l.length - (k + 1))
        case measure => omega
        case rel => exact ⟨k + 1, hlt, rfl, by go_num, HN2, rfl⟩
    · have hkk : k = l.length := by omega
      have HN3 : Hid (Ld.low l = false) := by
        have := HN.out
        rw [hkk, List.take_length] at this
        exact this
      clear hkk
      go_wp2
      go_ret
      exact ⟨_, rfl, ⟨fun h => absurd h (by decide), fun h => by rw [HN3.out] at h; cases h⟩, rfl⟩
theorem cont32_any (v : Value) (l : List Nat) (hll : l.length ≤ 100000) (w : World) (hv : SlN w v l) :
    Calls Try.prog 50 #[v, .func (.func 49) #[] #[]] w fun e w' => e = .returned (.bool (Ld.low l)) ∧ w = w' := by
  have HI := Lib.hid (idx32_any v l hll w hv)
  obtain ⟨a, b, o, c, rfl, ha, hx⟩ := hv
  clear ha hx
  cases hL : Ld.low l with
  | true =>
    go_enter Try.func50, Try.ntmps50
    go_wp2_with (go_at_call 70; refine HI.out.mono ?_; rintro e w1 ⟨r, rfl, hr, rfl⟩; have hr0 := hr.2 hL; clear hr)
    go_ret
    exact ⟨rfl, rfl⟩
  | false =>
    go_enter Try.func50, Try.ntmps50
    go_wp2_with (go_at_call 70; refine HI.out.mono ?_; rintro e w1 ⟨r, rfl, hr, rfl⟩; have hr0 : ¬ 0 ≤ r := (fun h => by rw [hr.1 h] at hL; cases hL); clear hr)
    go_ret
    refine ⟨?_, rfl⟩
    show Ending.returned (.bool (decide (0 ≤ r))) = _
    rw [decide_eq_false (by omega)]
end Go.Proofs.Ytgckaecjjoghbaa
/- The contracts of how many pages so many entries take, the program's and the document's. -/
namespace Go.Proofs.Ytgckaecjjoghbaa
open Go.RowKit
theorem ldNeed_any (n : Int) (h1 : -9223372036854775808 ≤ n) (h2 : n ≤ 9223372036854775807) (w : World) :
    Calls Try.prog 31 #[.int .i64 n] w fun e w' => e = .returned (.int .i64 (Ld.need n)) ∧ w = w' := by
  unfold Ld.need
  by_cases h : n ≤ 0
  · rw [if_pos h]
    go_enter Try.func31, Try.ntmps31
    go_wp2
    go_ret
    exact ⟨rfl, rfl⟩
  · rw [if_neg h]
    have hw1 : IntKind.i64.wrap (n - 1) = n - 1 := IntWalk.i64_in _ (by omega)
    have hd : (n - 1).tdiv 339 = (n - 1) / 339 := Int.tdiv_eq_ediv_of_nonneg (by omega)
    have hw2 : IntKind.i64.wrap ((n - 1) / 339) = (n - 1) / 339 := IntWalk.i64_in _ (by omega)
    have hw3 : IntKind.i64.wrap ((n - 1) / 339 + 1) = (n - 1) / 339 + 1 := IntWalk.i64_in _ (by omega)
    go_enter Try.func31, Try.ntmps31
    go_wp2
    go_ret
    refine ⟨?_, rfl⟩
    first
    | rfl
    | (congr 2; omega)
theorem lNeed_any (n : Int) (h1 : -9223372036854775808 ≤ n) (h2 : n ≤ 2000000) (w : World) :
    Calls Try.prog 32 #[.int .i64 n] w fun e w' => e = .returned (.int .i64 (Ld.need n)) ∧ w = w' := by
  go_enter Try.func32, Try.ntmps32
  go_wp2
  have hn1 : 0 ≤ Ld.need n ∧ Ld.need n ≤ 10000 := by unfold Ld.need; split <;> omega
  have HN := Lib.hid hn1
  clear hn1
  go_loopg [0, 3] n.toNat (fun k a b wr => ∃ (m c : Int), k = m.toNat ∧ a = .int .i64 m ∧ b = .int .i64 c ∧ m ≤ n ∧ (m = n ∨ -339 ≤ m) ∧ Hid (c + Ld.need m = Ld.need n) ∧ 0 ≤ c ∧ w = wr)
  case atStart => exact ⟨n, 0, rfl, rfl, rfl, Int.le_refl _, .inl rfl, Lib.hid (by omega), by decide, rfl⟩
  case round =>
    obtain ⟨m, c, rfl, rfl, rfl, hm, hm2, HC, hc, rfl⟩ := hrel
    have hmp : 0 ≤ Ld.need m := by unfold Ld.need; split <;> omega
    have hc2 : c ≤ 10000 := by have := HC.out; have := HN.out; omega
    by_cases h : 0 < m
    · have HS := Lib.hid (Ld.need_step m h)
      clear hmp
      go_wp2
      go_roundg (m - 339).toNat
      case measure => omega
      case rel =>
        refine ⟨m - 339, c + 1, rfl, ?_, ?_, by omega, .inr (by omega), Lib.hid (by have := HC.out; have := HS.out; omega), by omega, rfl⟩
        · first | rfl | go_num
        · first | rfl | go_num
    · have HL := Lib.hid (Ld.need_low m h)
      clear hmp
      go_wp2
      go_ret
      refine ⟨?_, rfl⟩
      have h1 := HC.out
      have h2 := HL.out
      exact ret_int (by omega)
end Go.Proofs.Ytgckaecjjoghbaa
/- The contracts of how two entries are compared, the program's and the document's. -/
namespace Go.Proofs.Ytgckaecjjoghbaa
open Go.RowKit Go.Sort
open Ld (En)
def cmp64 (x y : Nat) : Int := if x < y then -1 else if y < x then 1 else 0
theorem cNaN64_any (x : Nat) (w : World) : Calls Try.prog 102 #[.int .u64 x] w fun e w' => e = .returned (.bool false) ∧ w = w' := by
  go_enter Try.func102, Try.ntmps102
  go_wp2
  go_ret
  exact ⟨rfl, rfl⟩
theorem cNaN32_any (x : Nat) (w : World) : Calls Try.prog 89 #[.int .u32 x] w fun e w' => e = .returned (.bool false) ∧ w = w' := by
  go_enter Try.func89, Try.ntmps89
  go_wp2
  go_ret
  exact ⟨rfl, rfl⟩
theorem cCmp64_any (x y : Nat) (w : World) : Calls Try.prog 77 #[.int .u64 x, .int .u64 y] w fun e w' => e = .returned (.int .i64 (cmp64 x y)) ∧ w = w' := by
  have hq : cmp64 x y = if x < y then -1 else if y < x then 1 else 0 := rfl
  have HQ := Lib.hid hq
  clear hq
  generalize cmp64 x y = r at HQ ⊢
  by_cases h1 : x < y
  · have i1 : (x : Int) < (y : Int) := by omega
    have hr : r = -1 := by rw [HQ.out, if_pos h1]
    subst hr
    clear h1
    go_enter Try.func77, Try.ntmps77
    go_wp2_with (go_at_call 102; refine (cNaN64_any _ _).mono ?_; rintro e w1 ⟨rfl, rfl⟩)
    go_ret
    exact ⟨rfl, rfl⟩
  · have i1 : ¬ (x : Int) < (y : Int) := by omega
    by_cases h2 : y < x
    · have i2 : (y : Int) < (x : Int) := by omega
      have hr : r = 1 := by rw [HQ.out, if_neg h1, if_pos h2]
      subst hr
      clear h1 h2
      go_enter Try.func77, Try.ntmps77
      go_wp2_with (go_at_call 102; refine (cNaN64_any _ _).mono ?_; rintro e w1 ⟨rfl, rfl⟩)
      go_ret
      exact ⟨rfl, rfl⟩
    · have i2 : ¬ (y : Int) < (x : Int) := by omega
      have hr : r = 0 := by rw [HQ.out, if_neg h1, if_neg h2]
      subst hr
      clear h1 h2
      go_enter Try.func77, Try.ntmps77
      go_wp2_with (go_at_call 102; refine (cNaN64_any _ _).mono ?_; rintro e w1 ⟨rfl, rfl⟩)
      go_ret
      exact ⟨rfl, rfl⟩
theorem cCmp32_any (x y : Nat) (w : World) : Calls Try.prog 65 #[.int .u32 x, .int .u32 y] w fun e w' => e = .returned (.int .i64 (cmp64 x y)) ∧ w = w' := by
  have hq : cmp64 x y = if x < y then -1 else if y < x then 1 else 0 := rfl
  have HQ := Lib.hid hq
  clear hq
  generalize cmp64 x y = r at HQ ⊢
  by_cases h1 : x < y
  · have i1 : (x : Int) < (y : Int) := by omega
    have hr : r = -1 := by rw [HQ.out, if_pos h1]
    subst hr
    clear h1
    go_enter Try.func65, Try.ntmps65
    go_wp2_with (go_at_call 89; refine (cNaN32_any _ _).mono ?_; rintro e w1 ⟨rfl, rfl⟩)
    go_ret
    exact ⟨rfl, rfl⟩
  · have i1 : ¬ (x : Int) < (y : Int) := by omega
    by_cases h2 : y < x
    · have i2 : (y : Int) < (x : Int) := by omega
      have hr : r = 1 := by rw [HQ.out, if_neg h1, if_pos h2]
      subst hr
      clear h1 h2
      go_enter Try.func65, Try.ntmps65
      go_wp2_with (go_at_call 89; refine (cNaN32_any _ _).mono ?_; rintro e w1 ⟨rfl, rfl⟩)
      go_ret
      exact ⟨rfl, rfl⟩
    · have i2 : ¬ (y : Int) < (x : Int) := by omega
      have hr : r = 0 := by rw [HQ.out, if_neg h1, if_neg h2]
      subst hr
      clear h1 h2
      go_enter Try.func65, Try.ntmps65
      go_wp2_with (go_at_call 89; refine (cNaN32_any _ _).mono ?_; rintro e w1 ⟨rfl, rfl⟩)
      go_ret
      exact ⟨rfl, rfl⟩
/-- Two boxes are laid, and that is all. -/
theorem ldCompare_any (a b : En) (w : World) :
    Calls Try.prog 58 #[.agg #[.int .u64 a.tx, .int .u32 a.page], .agg #[.int .u64 b.tx, .int .u32 b.page]] w fun e w' => e = .returned (.int .i64 (Ld.cmp a b)) ∧ ∃ q os', w' = grow (w.drewN q) os' := by
  by_cases h : a.tx = b.tx
  · have hc : Ld.cmp a b = cmp64 a.page b.page := by unfold Ld.cmp; rw [if_pos h]; rfl
    rw [hc]
    have HC := Lib.hid (cCmp32_any a.page b.page)
    generalize cmp64 a.page b.page = r at HC ⊢
    obtain ⟨at1, ap⟩ := a
    obtain ⟨bt, bp⟩ := b
    simp only at h hc HC ⊢
    subst h
    clear hc
    go_enter Try.func58, Try.ntmps58
    go_wp2_with (go_at_call 65; refine (HC.out _).mono ?_; rintro e w1 ⟨rfl, rfl⟩)
    go_ret
    exact ⟨rfl, 0, _, by rw [alloc_eq_grow, alloc_eq_grow, grow_grow]; rfl⟩
  · have hc : Ld.cmp a b = cmp64 a.tx b.tx := by unfold Ld.cmp; rw [if_neg h]; rfl
    rw [hc]
    have HC := Lib.hid (cCmp64_any a.tx b.tx)
    generalize cmp64 a.tx b.tx = r at HC ⊢
    obtain ⟨at1, ap⟩ := a
    obtain ⟨bt, bp⟩ := b
    simp only at h hc HC ⊢
    have h' : ¬ (at1 : Int) = (bt : Int) := by omega
    clear hc h
    go_enter Try.func58, Try.ntmps58
    go_wp2_with (go_at_call 77; refine (HC.out _).mono ?_; rintro e w1 ⟨rfl, rfl⟩)
    go_ret
    exact ⟨rfl, 0, _, by rw [alloc_eq_grow, alloc_eq_grow, grow_grow]; rfl⟩
theorem grow_below {w w' : World} (h : ∃ q os', w' = grow (w.drewN q) os') : Below w.heap.size w w' := by
  obtain ⟨q, os', rfl⟩ := h
  refine ⟨rfl, rfl, rfl, ?_, fun k hk => ?_⟩
  · simp [grow, World.drewN]
  · show (w.heap ++ os')[k]? = w.heap[k]?
    rw [Array.getElem?_append_left hk]
theorem lAhead_any (a b : En) (w : World) :
    Calls Try.prog 75 #[.agg #[.int .u64 a.tx, .int .u32 a.page], .agg #[.int .u64 b.tx, .int .u32 b.page]] w fun e w' => e = .returned (.bool (Ld.ahead a b)) ∧ Below w.heap.size w w' := by
  obtain ⟨at1, ap⟩ := a
  obtain ⟨bt, bp⟩ := b
  by_cases h1 : at1 < bt
  · rw [show Ld.ahead ⟨at1, ap⟩ ⟨bt, bp⟩ = true from (Ld.ahead_iff _ _).2 (.inl h1)]
    have i1 : (at1 : Int) < (bt : Int) := by omega
    clear h1
    go_enter Try.func75, Try.ntmps75
    go_wp2
    go_ret
    exact ⟨rfl, ((Below.refl _ _).alloc (Nat.le_refl _) _).alloc (by simp) _⟩
  · have i1 : ¬ (at1 : Int) < (bt : Int) := by omega
    by_cases h2 : at1 = bt
    · subst h2
      have hd : Ld.ahead ⟨at1, ap⟩ ⟨at1, bp⟩ = decide ((ap : Int) < (bp : Int)) := by
        unfold Ld.ahead
        simp
      rw [hd]
      clear hd
      go_enter Try.func75, Try.ntmps75
      go_wp2
      go_ret
      exact ⟨rfl, ((Below.refl _ _).alloc (Nat.le_refl _) _).alloc (by simp) _⟩
    · rw [show Ld.ahead ⟨at1, ap⟩ ⟨bt, bp⟩ = false from (Ld.ahead_no _ _).2 (by simp; omega)]
      have i2 : ¬ (at1 : Int) = (bt : Int) := by omega
      clear h1 h2
      go_enter Try.func75, Try.ntmps75
      go_wp2
      go_ret
      exact ⟨rfl, ((Below.refl _ _).alloc (Nat.le_refl _) _).alloc (by simp) _⟩
end Go.Proofs.Ytgckaecjjoghbaa
/- The contracts of whether entries rise, the program's and the document's. -/
namespace Go.Proofs.Ytgckaecjjoghbaa
open Go.RowKit
open Ld (En)
theorem rise_end {l : List En} {k : Nat} (h : ∀ (j : Nat) x y, j < k → l[j]? = some x → l[j + 1]? = some y → Ld.ahead x y = true) (hk : l.length ≤ k + 1) : Ld.rises l = true :=
  Ld.rises_of l fun j x y h1 h2 => h j x y (by have := (List.getElem?_eq_some_iff.1 h2).1; omega) h1 h2
theorem rise_step {l : List En} {k : Nat} {x y : En} (h : ∀ (j : Nat) x y, j < k → l[j]? = some x → l[j + 1]? = some y → Ld.ahead x y = true) (h1 : l[k]? = some x) (h2 : l[k + 1]? = some y) (ha : Ld.ahead x y = true) :
    ∀ (j : Nat) x y, j < k + 1 → l[j]? = some x → l[j + 1]? = some y → Ld.ahead x y = true := by
  intro j u v hj hu hv
  by_cases hjk : j = k
  · subst hjk
    rw [h1] at hu; rw [h2] at hv
    cases hu; cases hv; exact ha
  · exact h j u v (by omega) hu hv
set_option maxHeartbeats 2000000 in
theorem ldRise_any (v : Value) (l : List En) (hl : l.length ≤ 100000) (w : World) (hv : SlE w v l) :
    Calls Try.prog 51 #[v] w fun e w' => e = .returned (.bool (Ld.rises l)) ∧ Below w.heap.size w w' := by
  obtain ⟨a, b, o, c, rfl, ha, hx⟩ := hv
  have HX := Lib.hid hx
  have HA := Lib.hid ha
  clear ha hx
  go_enter Try.func51, Try.ntmps51
  go_wp2
  go_loopg [3] l.length (fun n i wr => ∃ k : Nat, k ≤ l.length ∧ n = l.length - k ∧ i = .int .i64 ((k : Int) + 1) ∧ Hid (∀ (j : Nat) x y, j < k → l[j]? = some x → l[j + 1]? = some y → Ld.ahead x y = true) ∧ Hid (Below w.heap.size w wr))
  case atStart => exact ⟨0, Nat.zero_le _, rfl, rfl, fun j x y h => absurd h (Nat.not_lt_zero j), Below.refl _ _⟩
  case round =>
    obtain ⟨k, hk, rfl, rfl, HK, HB⟩ := hrel
    by_cases hlt : k + 1 < l.length
    · obtain ⟨x, hx⟩ := some_at (show k < l.length by omega)
      obtain ⟨y, hy⟩ := some_at hlt
      obtain ⟨e0, e1⟩ := HX.out k x hx
      obtain ⟨e2, e3⟩ := HX.out (k + 1) y hy
      have hblt : b < w.heap.size := World.block_lt_of_cell? _ _ e0
      have d0 := (HB.out.cell (p := ⟨b, o + k * 2, none⟩) hblt).trans e0
      have d1 := (HB.out.cell (p := ⟨b, o + k * 2 + 1, none⟩) hblt).trans e1
      have d2 := (HB.out.cell (p := ⟨b, o + (k + 1) * 2, none⟩) hblt).trans e2
      have d3 := (HB.out.cell (p := ⟨b, o + (k + 1) * 2 + 1, none⟩) hblt).trans e3
      obtain rfl : a = some ⟨b, o, none⟩ := HA.out.resolve_left (by intro h; rw [h] at hlt; cases hlt)
      have hi : (k : Int) + 1 < (l.length : Int) := by omega
      have hi0 : (k : Int) < (l.length : Int) := by omega
      have hk0 : (0 : Int) ≤ (k : Int) := by omega
      have hk1 : (0 : Int) ≤ (k : Int) + 1 := by omega
      have hw1 : IntKind.i64.wrap ((k : Int) + 1 - 1) = (k : Int) := by rw [show (k : Int) + 1 - 1 = k by omega]; exact IntWalk.i64_in _ (by omega)
      have hw0 : IntKind.i64.wrap (k : Int) = (k : Int) := IntWalk.i64_in _ (by omega)
      have ht1 : ((k : Int) + 1).toNat = k + 1 := by omega
      have HC := Lib.hid (fun W => (ldCompare_any x y W).mono fun e w' h => (⟨h.1, grow_below h.2⟩ : e = .returned (.int .i64 (Ld.cmp x y)) ∧ Below W.heap.size W w'))
      have HXX := Lib.hid hx
      have HYY := Lib.hid hy
      clear e0 e1 e2 e3 hblt hx hy
      cases hah : Ld.ahead x y with
      | false =>
        have hge := Ld.cmp_ge hah
        have HR := Lib.hid (Ld.not_rises l k x y HXX.out HYY.out hah)
        clear hah
        generalize Ld.cmp x y = r at HC hge
        go_upto_region 4 with fail
        have HBd := Lib.hid HB.out.drew
        go_region_with (go_at_call 58; refine (HC.out _).mono ?_; rintro e w4 ⟨rfl, hb4⟩; have HB4 := Lib.hid (HBd.out.trans (hb4.mono HBd.out.size)); clear hb4)
        all_goals
          go_wp2
          go_ret
          exact ⟨by rw [HR.out]; rfl, HB4.out⟩
      | true =>
        have hge : ¬ (0 ≤ Ld.cmp x y) := by have := Ld.cmp_lt hah; omega
        have HK2 := Lib.hid (rise_step HK.out HXX.out HYY.out hah)
        clear hah
        generalize Ld.cmp x y = r at HC hge
        go_upto_region 4 with fail
        have HBd := Lib.hid HB.out.drew
        go_region_with (go_at_call 58; refine (HC.out _).mono ?_; rintro e w4 ⟨rfl, hb4⟩; have HB4 := Lib.hid (HBd.out.trans (hb4.mono HBd.out.size)); clear hb4)
        all_goals
          go_wp2
          go_roundg (l.length - (k + 1))
          case measure => omega
          case rel => exact ⟨k + 1, by omega, rfl, by go_num, HK2, HB4⟩
    · have HR := Lib.hid (rise_end HK.out (by omega))
      go_wp2
      go_ret
      exact ⟨by rw [HR.out]; rfl, HB.out⟩
end Go.Proofs.Ytgckaecjjoghbaa
/- The contract of octet.Eight. -/
namespace Go.Proofs.Ytgckaecjjoghbaa
open Go.RowKit
theorem eight_at (x : Int) (n : Nat) (hx : x = n) (h : n < 18446744073709551616) (w : World) :
    Calls Try.prog 73 #[.int .u64 x] w fun e w' => e = .returned (.string (str (Oc.big 8 n))) ∧ Below w.heap.size w w' := by
  subst hx
  have hs := big_size
  have H : Hid (str (Oc.big 4 (n / 4294967296)) ++ str (Oc.big 4 (n % 4294967296)) = str (Oc.big 8 n)) := by
    show _ = str (Oc.big (4 + 4) n)
    rw [str_append, Oc.big_add 4 4, ← Oc.big_mod 4 n]
  go_enter Try.func73, Try.ntmps73
  go_wp2_with (go_at_call 72; first
    | (refine (four_at _ (n / 4294967296) (by omega) (by omega) _).mono ?_; rintro e w1 ⟨rfl, hb1⟩)
    | (refine (four_at _ (n % 4294967296) (by first | omega | (rw [IntKind.wrap_u32]; omega)) (by omega) _).mono ?_; rintro e w2 ⟨rfl, hb2⟩))
  go_ret
  exact ⟨ret_string H.out, hb1.trans (hb2.mono hb1.size)⟩
end Go.Proofs.Ytgckaecjjoghbaa
/- The library's contracts for strings.Builder, strings.Compare, laid at this program's numbers by the guide's own tool. -/
namespace Go.Proofs
open Go.Shelf
def Try.lays169_ren : Go.Shelf.Ren := ⟨fun | 169 => 74 | n => n, fun | 70 => 104 | 9 => 9 | 0 => 0 | 72 => 107 | 37 => 105 | 127 => 129 | 3 => 3 | 5 => 5 | n => n, fun | n => n⟩
theorem Try.lays169 : Go.Proofs.Lays.n169 Try.prog Try.lays169_ren := {
  mixed := by kernel_rfl
  f169 := Try.func74.trans (congrArg some (by kernel_rfl))
  t0 := Try.underlying0
  a0 := Try.isAgg0
  z0 := Try.sizeOf0
  v0 := Try.zeroValue0
  t3 := Try.underlying3
  a3 := Try.isAgg3
  z3 := Try.sizeOf3
  v3 := Try.zeroValue3
  t9 := Try.underlying9
  a9 := Try.isAgg9
  z9 := Try.sizeOf9
  v9 := Try.zeroValue9
  t37 := Try.underlying105
  a37 := Try.isAgg105
  z37 := Try.sizeOf105
  v37 := Try.zeroValue105
  t70 := Try.underlying104
  a70 := Try.isAgg104
  z70 := Try.sizeOf104
  v70 := Try.zeroValue104
  t72 := Try.underlying107
  a72 := Try.isAgg107
  z72 := Try.sizeOf107
  v72 := Try.zeroValue107
  t127 := Try.underlying129
  a127 := Try.isAgg129
  z127 := Try.sizeOf129
  v127 := Try.zeroValue129 }
theorem Try.Builder_Extra_169 : Builder.Extra Try.prog Try.lays169_ren := {
  sizeBuilder := by kernel_rfl
  liesBuilder := by kernel_rfl
  t5 := Try.underlying5
  a5 := Try.isAgg5
  z5 := Try.sizeOf5
  v5 := Try.zeroValue5
  infoByte := by kernel_rfl
  cellsByte := by kernel_rfl
  sizeByte := by kernel_rfl
  neB5 := by decide }
open Go.RowKit in
theorem Try.Builder_String (B b : Nat) (l : List UInt8) (w : World) (h : Lib.IsBuilder 107 5 B b (Lib.byteCells l) w) (h0 : l ≠ []) :
    Calls Try.prog 74 #[.pointer (some ⟨b, 0, none⟩)] w fun e w' => e = .returned (.string ⟨l.toArray⟩) ∧ Below B w w' := Any.Builder_String Try.lays169 Try.Builder_Extra_169 B b l w h h0
open Go.RowKit in
theorem Try.Builder_String_empty (B b : Nat) (w : World) (h : Lib.IsBuilder 107 5 B b [] w) (hBw : B ≤ w.heap.size) :
    Calls Try.prog 74 #[.pointer (some ⟨b, 0, none⟩)] w fun e w' => e = .returned (.string ⟨#[]⟩) ∧ Below B w w' := Any.Builder_String_empty Try.lays169 Try.Builder_Extra_169 B b w h hBw
open Go.RowKit in
theorem Try.Builder_String_any (B b : Nat) (l : List UInt8) (w : World) (h : Lib.IsBuilder 107 5 B b (Lib.byteCells l) w) (hBw : B ≤ w.heap.size) :
    Calls Try.prog 74 #[.pointer (some ⟨b, 0, none⟩)] w fun e w' => e = .returned (.string ⟨l.toArray⟩) ∧ Below B w w' := Any.Builder_String_any Try.lays169 Try.Builder_Extra_169 B b l w h hBw
end Go.Proofs
/- The contracts of strings.Builder's copyCheck and WriteString in this program. -/
namespace Go.Proofs.Ytgckaecjjoghbaa
open Go.RowKit
theorem size86 : (Try.prog.info? 107).map (fun i => i.size) = some 2 := by kernel_rfl
theorem lies86 : liesAt Try.prog Try.prog.depth 107 (2 / Try.prog.cellsOf 107) 0 107 1 = true := by kernel_rfl
theorem infoByte : (Try.prog.info? 5).map (fun i => (i.zero, i.size, i.bytes)) = some (some (.int .u8 0), 1, 1) := by kernel_rfl
set_option maxRecDepth 100000 in
theorem copyCheck_used (b : Nat) (w : World) (h0 : w.cell? ⟨b, 0, none⟩ = some (.pointer (some ⟨b, 0, none⟩))) :
    Calls Try.prog 92 #[.pointer (some ⟨b, 0, none⟩)] w fun e w' => e = .returned (.tuple #[]) ∧ w = w' := by
  obtain ⟨j, hj, _⟩ := Option.map_eq_some_iff.1 size86
  go_enter Try.func92, Try.ntmps92
  go_wp2
  rw [Lib.run_neq_ptr_same w _ Try.underlying104 hj]
  go_wp2
  go_end0
  exact ⟨rfl, rfl⟩
set_option maxRecDepth 100000 in
theorem copyCheck_fresh (b : Nat) (w : World) (h0 : w.cell? ⟨b, 0, none⟩ = some (.pointer none)) (hsh : w.shape? b = some (107, 2)) (hfz : w.frozen? ⟨b, 0, none⟩ = false) :
    Calls Try.prog 92 #[.pointer (some ⟨b, 0, none⟩)] w fun e w' => e = .returned (.tuple #[]) ∧ w.setCell ⟨b, 0, none⟩ (.pointer (some ⟨b, 0, none⟩)) = w' := by
  obtain ⟨j, hj, hjs⟩ := Option.map_eq_some_iff.1 size86
  have h1 := Lib.run_to_unsafe (P := Try.prog) w ⟨b, 0, none⟩ Try.underlying104 Try.underlying142 hj (by rw [hjs]; decide) hsh (Nat.zero_lt_succ 1)
  have h2 := Lib.run_from_unsafe (P := Try.prog) w ⟨b, 0, none⟩ Try.underlying142 Try.underlying104 hj hsh lies86
  go_enter Try.func92, Try.ntmps92
  go_wp2
  rw [run_callFunc_extern Try.func109 (by kernel_rfl) (by kernel_rfl) (by kernel_rfl) (e := Extern.AbiNoEscape.same) (by kernel_rfl), Lib.run_noEscape]
  simp only [Result.andThen]
  rw [Oper.upon_value]
  go_wp2
  go_end0
  exact ⟨rfl, rfl⟩
theorem copyCheck_any (B b : Nat) (bs : List Value) (w : World) (h : Lib.IsBuilder 107 5 B b bs w) :
    Calls Try.prog 92 #[.pointer (some ⟨b, 0, none⟩)] w fun e w' => e = .returned (.tuple #[]) ∧ Lib.BuilderAt 107 5 B b (.pointer (some ⟨b, 0, none⟩)) bs w' ∧ Below B w w' := by
  rcases h with h | h
  · refine (copyCheck_fresh b w h.cell0 h.shape h.frozen0).mono ?_
    rintro e w' ⟨rfl, rfl⟩
    exact ⟨rfl, h.used _, (Below.refl B w).setCell (p := ⟨b, 0, none⟩) h.1 _⟩
  · refine (copyCheck_used b w h.cell0).mono ?_
    rintro e w' ⟨rfl, rfl⟩
    exact ⟨rfl, h, Below.refl B _⟩
set_option maxHeartbeats 1000000 in
theorem writeString_any (B b : Nat) (bs : List Value) (s : ByteArray) (w : World) (h : Lib.IsBuilder 107 5 B b bs w) (hlen : bs.length + s.size ≤ 140737488355328) (hBw : B ≤ w.heap.size) :
    Calls Try.prog 71 #[.pointer (some ⟨b, 0, none⟩), .string s] w fun e w' => e = .returned (.tuple #[.int .i64 s.size, .nilIface]) ∧ Lib.BuilderAt 107 5 B b (.pointer (some ⟨b, 0, none⟩)) (bs ++ Lib.strCells s) w' ∧ Below B w w' := by
  obtain ⟨i0, hi, hz0, hz1, hz2⟩ := info_parts infoByte
  go_enter Try.func71, Try.ntmps71
  go_wp2_with (go_at_call 92; refine (copyCheck_any B b bs _ h).mono ?_)
  rintro e w1 ⟨rfl, ⟨hB, v, hbk, hown, hne⟩, hb1⟩
  have hsz := hb1.size
  have c0 : w1.cell? ⟨b, 0, none⟩ = some (.pointer (some ⟨b, 0, none⟩)) := by rw [Lib.cell_of_heap hbk]; rfl
  have c1 : w1.cell? ⟨b, 1, none⟩ = some v := by rw [Lib.cell_of_heap hbk]; rfl
  go_wp2_with (at_builtin; refine Lib.wpList_append_own_string _ rfl _ _ 105 9 rfl B 5 i0 Try.underlying105 Try.underlying9 hi hz0 hz1 hz2 _ _ _ rfl hown s rfl ?c3 ?c4 ?c5 ?_)
  case c3 => unfold maxLen; omega
  case c4 => omega
  case c5 => omega
  intro v' w2 hown' hgrow _
  have hlt : b < w1.heap.size := by
    rcases Nat.lt_or_ge b w1.heap.size with h' | h'
    · exact h'
    · simp [Array.getElem?_eq_none h'] at hbk
  have hb2 : w2.heap[b]? = some (.cells #[.pointer (some ⟨b, 0, none⟩), v] 107 (0, 0)) := by
    rw [hgrow.block b hlt (fun e => hne e.symm)]
    exact hbk
  have d0 : w2.cell? ⟨b, 0, none⟩ = some (.pointer (some ⟨b, 0, none⟩)) := by rw [Lib.cell_of_heap hb2]; rfl
  have d1 : w2.cell? ⟨b, 1, none⟩ = some v := by rw [Lib.cell_of_heap hb2]; rfl
  have g1 : w2.frozen? ⟨b, 1, none⟩ = false := Lib.frozen_of_heap hb2 1
  obtain ⟨ao, m, cap, rfl⟩ : ∃ ao m cap, v' = .slice ao m cap := by
    rcases hown'.2 with ⟨hv, _⟩ | ⟨g, cap, cur, hv, _⟩
    · exact ⟨_, _, _, hv⟩
    · exact ⟨_, _, _, hv⟩
  go_wp2
  go_ret2
  refine ⟨rfl, ?_, ?_⟩
  · exact Lib.BuilderAt.put (T := 107) (e := 5) hB hb2 (bs' := bs ++ Lib.strCells s) (by simpa [Lib.strCells_length] using hown') (by decide)
  · exact (hb1.grown hgrow (by omega) (fun k hk => (hown.lt k hk).1)).setCell (p := ⟨b, 1, none⟩) hB _
end Go.Proofs.Ytgckaecjjoghbaa
/- Two builders side by side: WriteString on one leaves the other as it was; String with all that it turns. -/
namespace Go.Proofs.Ytgckaecjjoghbaa
open Go.RowKit
theorem run_str_at {P : Program} (w : World) (base : Nat) (t u ty e : TypeId) (i : TypeInfo) (ht : P.underlying t = some (.slice e)) (hu : P.underlying u = some .string) (hi : P.info? e = some i) (hz : i.zero = some (.int .u8 0))
    (hsize : i.size = 1) (hby : i.bytes = 1) (v : Value) (n : Nat) (xs : List Value) (hown : w.ownsRow base e 1 v n xs) (s : ByteArray)
    (h63 : n + s.size ≤ maxLen) (hbytes : n + s.size ≤ 140737488355328) (hbase : base ≤ w.heap.size) :
    ∃ v' w', (Builtin.append_ #[t, u] ty #[v, .string s]).run P w = .ok v' w' ∧ w'.ownsRow base e 1 v' (n + s.size) (xs ++ Lib.strCells s) ∧ w.grownBy w' v.ownBlock ∧
      (v'.ownBlock = v.ownBlock ∨ ∃ g, v'.ownBlock = some g ∧ w.heap.size ≤ g) := by
  obtain ⟨v', w', hr, ho, hg, _⟩ := Lib.run_append_own_string (P := P) w base t u ty e i ht hu hi hz hsize hby v n xs hown s h63 hbytes hbase
  refine ⟨v', w', hr, ho, hg, ?_⟩
  have hlen : xs.length = n := by simpa using hown.1
  rcases hown.2 with ⟨rfl, rfl⟩ | ⟨g, cap, cur, rfl, hbg, hgd, hnc, hcm, hcs, htake⟩
  · obtain rfl : xs = [] := List.eq_nil_of_length_eq_zero hlen
    obtain ⟨v2, w2, hr2, ho2, _, _⟩ := Lib.run_append_own_string (P := P) w w.heap.size t u ty e i ht hu hi hz hsize hby _ 0 [] (World.ownsRow_nil w w.heap.size e 1) s h63 hbytes (Nat.le_refl _)
    rw [hr] at hr2
    cases hr2
    rcases ho2.2 with ⟨rfl, _⟩ | ⟨g, cap, cur, rfl, hbg, _⟩
    · exact .inl rfl
    · exact .inr ⟨g, rfl, hbg⟩
  · by_cases hroom : n + s.size ≤ cap
    · have hr2 := Lib.run_append_room_string (P := P) w t u ty e i ht hu hi hsize g n cap cur hgd s hroom (by rw [hcs]; omega)
      rw [hr] at hr2
      cases hr2
      exact .inl rfl
    · have hr2 := Lib.run_append_grow_string (P := P) w t u ty e i (.int .u8 0) ht hu hi hz ⟨g, 0, none⟩ n cap xs (by rw [hsize]; omega) (hown.cells (g := g) rfl) s (by omega) (by unfold maxLen at h63; omega) (by rw [hby]; exact growslice_fits (by omega) (by omega))
      rw [hr] at hr2
      cases hr2
      exact .inr ⟨_, rfl, Nat.le_refl _⟩
theorem wpList_str_at {P : Program} {w : World} {ops : Array Oper} {rest : List Oper} {o : Oper} {a : Act} {Q : Exit → Act → World → Prop} (hgd : o.guard = none) (sl x : Operand) (t u : TypeId)
    (ho : o.op = .call { callee := .builtin .append, args := #[sl, x], argTypes := #[t, u] })
    (base : Nat) (e : TypeId) (i : TypeInfo) (ht : P.underlying t = some (.slice e)) (hu : P.underlying u = some .string) (hi : P.info? e = some i) (hz : i.zero = some (.int .u8 0))
    (hsize : i.size = 1) (hby : i.bytes = 1) (v : Value) (n : Nat) (xs : List Value) (hs : a.eval sl = v) (hown : w.ownsRow base e 1 v n xs) (s : ByteArray) (hx : a.eval x = .string s)
    (h63 : n + s.size ≤ maxLen) (hbytes : n + s.size ≤ 140737488355328) (hbase : base ≤ w.heap.size)
    (h : ∀ v' w', w'.ownsRow base e 1 v' (n + s.size) (xs ++ Lib.strCells s) → w.grownBy w' v.ownBlock → (v'.ownBlock = v.ownBlock ∨ ∃ g, v'.ownBlock = some g ∧ w.heap.size ≤ g) → wpList P ops Q rest (a.put o.dst v') w') : wpList P ops Q (o :: rest) a w := by
  obtain ⟨v', w', hr, h2, h3, h4⟩ := run_str_at (P := P) w base t u o.type e i ht hu hi hz hsize hby v n xs hown s h63 hbytes hbase
  refine wpList_plain hgd fun K hK => ?_
  have := hK _ _ (h v' w' h2 h3 h4)
  unfold Oper.wp execOp
  simp only [ho, resolve, invoke, builtin, Sem.run_bind, Sem.run_pure, Result.andThen_ok, List.map_toArray, List.map_cons, List.map_nil, hs, hx, hr]
  exact this
/-- A builder at block b whose buffer is v and whose bytes are bs. -/
def Bld (w : World) (B b : Nat) (v : Value) (bs : List Value) : Prop :=
  B ≤ b ∧ (w.heap[b]? = some (.cells #[.pointer none, v] 107 (0, 0)) ∨ w.heap[b]? = some (.cells #[.pointer (some ⟨b, 0, none⟩), v] 107 (0, 0))) ∧ w.ownsRow B 5 1 v bs.length bs
theorem Bld.is {w : World} {B b : Nat} {v : Value} {bs : List Value} (h : Bld w B b v bs) : Lib.IsBuilder 107 5 B b bs w := by
  obtain ⟨h1, h2, h3⟩ := h
  rcases h2 with h2 | h2
  · exact .inl ⟨h1, v, h2, h3, Lib.ownBlock_ne h3 h2 (by decide)⟩
  · exact .inr ⟨h1, v, h2, h3, Lib.ownBlock_ne h3 h2 (by decide)⟩
theorem Bld.lt {w : World} {B b : Nat} {v : Value} {bs : List Value} (h : Bld w B b v bs) : b < w.heap.size := by
  rcases Nat.lt_or_ge b w.heap.size with h' | h'
  · exact h'
  · rcases h.2.1 with h2 | h2 <;> rw [Array.getElem?_eq_none h'] at h2 <;> cases h2
theorem Bld.ne {w : World} {B b c : Nat} {v u : Value} {bs cs : List Value} (h : Bld w B b v bs) (k : Bld w B c u cs) : v.ownBlock ≠ some c := by
  rcases k.2.1 with h2 | h2 <;> exact Lib.ownBlock_ne h.2.2 h2 (by decide)
theorem Bld.row_lt {w : World} {B b : Nat} {v : Value} {bs : List Value} (h : Bld w B b v bs) {g : Nat} (hg : v.ownBlock = some g) : g < w.heap.size := by
  rcases h.2.2.2 with ⟨rfl, _⟩ | ⟨g', cap, cur, rfl, _, hgd, _⟩
  · cases hg
  · simp only [Value.ownBlock, Option.some.injEq] at hg
    subst hg
    rcases Nat.lt_or_ge g' w.heap.size with h' | h'
    · exact h'
    · rw [Array.getElem?_eq_none h'] at hgd; cases hgd
/-- What WriteString on the builder at b, with the buffer in row, leaves as it was. -/
structure Fr (b : Nat) (row : Option Nat) (w w' : World) : Prop where
  os : w'.os = w.os
  tape : w'.tape = w.tape
  output : w'.output = w.output
  size : w.heap.size ≤ w'.heap.size
  block : ∀ k, k < w.heap.size → k ≠ b → some k ≠ row → w'.heap[k]? = w.heap[k]?
theorem Fr.below {b B : Nat} {v : Value} {bs : List Value} {w w' : World} (h : Fr b v.ownBlock w w') (k : Bld w B b v bs) : Below B w w' := by
  refine ⟨h.os, h.tape, h.output, h.size, fun j hj => h.block j (Nat.lt_trans (Nat.lt_of_lt_of_le hj k.1) k.lt) (by have := k.1; omega) ?_⟩
  intro he
  rcases k.2.2.2 with ⟨rfl, _⟩ | ⟨g', cap, cur, rfl, hb, _⟩
  · cases he
  · simp only [Value.ownBlock, Option.some.injEq] at he
    omega
theorem Bld.other {w w' : World} {B b c : Nat} {v u : Value} {bs cs : List Value} (h : Bld w B b v bs) (k : Bld w B c u cs) (hne : c ≠ b) (hd : u.ownBlock = none ∨ u.ownBlock ≠ v.ownBlock) (f : Fr b v.ownBlock w w') : Bld w' B c u cs := by
  have hc : w'.heap[c]? = w.heap[c]? := f.block c k.lt hne (fun e => h.ne k e.symm)
  refine ⟨k.1, by rw [hc]; exact k.2.1, k.2.2.1, ?_⟩
  rcases k.2.2.2 with h1 | ⟨g, cap, cur, rfl, hb, hgd, rest⟩
  · exact .inl h1
  · refine .inr ⟨g, cap, cur, rfl, hb, ?_, rest⟩
    rw [f.block g (k.row_lt rfl) (fun e => (k.ne h) (by rw [e]; rfl)) (fun e => by
      rcases hd with hd | hd
      · cases hd
      · exact hd e), hgd]
theorem Bld.used {w : World} {B b : Nat} {v : Value} {bs : List Value} (h : Bld w B b v bs) :
    Calls Try.prog 92 #[.pointer (some ⟨b, 0, none⟩)] w fun e w' => e = .returned (.tuple #[]) ∧ w'.heap[b]? = some (.cells #[.pointer (some ⟨b, 0, none⟩), v] 107 (0, 0)) ∧ w'.ownsRow B 5 1 v bs.length bs ∧ Fr b none w w' := by
  have hne := h.ne h
  obtain ⟨h1, h2, h3⟩ := h
  rcases h2 with h2 | h2
  · have hB : Lib.BuilderAt 107 5 B b (.pointer none) bs w := ⟨h1, v, h2, h3, hne⟩
    refine (copyCheck_fresh b w hB.cell0 hB.shape hB.frozen0).mono ?_
    rintro e w' ⟨rfl, rfl⟩
    refine ⟨rfl, by simp [World.setCell, Array.getElem?_modify, h2], ?_, ⟨rfl, rfl, rfl, by simp [World.setCell], fun k _ hk _ => Below.heap_setCell _ _ _ _ hk⟩⟩
    exact h3.kept (row := some b) ⟨rfl, rfl, rfl, by simp [World.setCell], fun k _ hk => Below.heap_setCell _ _ _ _ (fun e => hk (by simp [e]))⟩ (.inr hne)
  · have hB : Lib.BuilderAt 107 5 B b (.pointer (some ⟨b, 0, none⟩)) bs w := ⟨h1, v, h2, h3, hne⟩
    refine (copyCheck_used b w hB.cell0).mono ?_
    rintro e w' ⟨rfl, rfl⟩
    exact ⟨rfl, h2, h3, ⟨rfl, rfl, rfl, Nat.le_refl _, fun _ _ _ _ => rfl⟩⟩
/-- What WriteString leaves. -/
def Wrote (B b : Nat) (v : Value) (bs : List Value) (w : World) (w' : World) : Prop :=
  ∃ v', Bld w' B b v' bs ∧ (v'.ownBlock = v.ownBlock ∨ ∃ g, v'.ownBlock = some g ∧ w.heap.size ≤ g) ∧ Fr b v.ownBlock w w'
set_option maxHeartbeats 1000000 in
set_option maxRecDepth 100000 in
theorem write_at (B b : Nat) (v : Value) (bs : List Value) (s : ByteArray) (w : World) (h : Bld w B b v bs) (hlen : bs.length + s.size ≤ 140737488355328) :
    Calls Try.prog 71 #[.pointer (some ⟨b, 0, none⟩), .string s] w fun e w' => e = .returned (.tuple #[.int .i64 s.size, .nilIface]) ∧ Wrote B b v (bs ++ Lib.strCells s) w w' := by
  obtain ⟨i0, hi, hz0, hz1, hz2⟩ := info_parts infoByte
  have hB1 := h.1
  have hlt0 := h.lt
  have hvb := h.ne h
  go_enter Try.func71, Try.ntmps71
  go_wp2_with (go_at_call 92; refine (h.used).mono ?_)
  rintro e w1 ⟨rfl, hbk, hown, hf1⟩
  have hsz := hf1.size
  have c0 : w1.cell? ⟨b, 0, none⟩ = some (.pointer (some ⟨b, 0, none⟩)) := by rw [Lib.cell_of_heap hbk]; rfl
  have c1 : w1.cell? ⟨b, 1, none⟩ = some v := by rw [Lib.cell_of_heap hbk]; rfl
  go_wp2_with (at_builtin; refine wpList_str_at rfl _ _ 105 9 rfl B 5 i0 Try.underlying105 Try.underlying9 hi hz0 hz1 hz2 _ _ _ rfl hown s rfl ?c3 ?c4 ?c5 ?_)
  case c3 => unfold maxLen; omega
  case c4 => omega
  case c5 => omega
  intro v' w2 hown' hgrow hloc
  have hlt : b < w1.heap.size := Nat.lt_of_lt_of_le hlt0 hsz
  have hb2 : w2.heap[b]? = some (.cells #[.pointer (some ⟨b, 0, none⟩), v] 107 (0, 0)) := by
    rw [hgrow.block b hlt (fun e => hvb e.symm)]
    exact hbk
  have d0 : w2.cell? ⟨b, 0, none⟩ = some (.pointer (some ⟨b, 0, none⟩)) := by rw [Lib.cell_of_heap hb2]; rfl
  have d1 : w2.cell? ⟨b, 1, none⟩ = some v := by rw [Lib.cell_of_heap hb2]; rfl
  have g1 : w2.frozen? ⟨b, 1, none⟩ = false := Lib.frozen_of_heap hb2 1
  have hat : ∃ ao m cap, v' = .slice ao m cap := by
    rcases hown'.2 with ⟨hv, _⟩ | ⟨g, cap, cur, hv, _⟩
    · exact ⟨_, _, _, hv⟩
    · exact ⟨_, _, _, hv⟩
  have HL := Lib.hid hloc
  have HO := Lib.hid hown'
  have HG := Lib.hid hgrow
  clear hloc hown' hgrow
  obtain ⟨ao, m, cap, rfl⟩ := hat
  go_wp2
  go_ret2
  have hown2 := HO.out
  have hput := Lib.BuilderAt.put (T := 107) (e := 5) (p := .pointer (some ⟨b, 0, none⟩)) hB1 hb2 (bs' := bs ++ Lib.strCells s) (by simpa [Lib.strCells_length] using hown2) (by decide)
  obtain ⟨_, v3, e3, o3, _⟩ := hput
  have hv3 : v3 = .slice ao m cap := by
    have : (w2.setCell ⟨b, 1, none⟩ (.slice ao m cap)).heap[b]? = some (.cells #[.pointer (some ⟨b, 0, none⟩), .slice ao m cap] 107 (0, 0)) := by simp [World.setCell, Array.getElem?_modify, hb2]
    rw [this] at e3
    cases e3; rfl
  subst hv3
  refine ⟨rfl, _, ⟨hB1, .inr e3, o3⟩, ?_, ?_⟩
  · rcases HL.out with h' | ⟨g, hg, hge⟩
    · exact .inl h'
    · exact .inr ⟨g, hg, Nat.le_trans hsz hge⟩
  · refine ⟨?_, ?_, ?_, ?_, ?_⟩
    · exact HG.out.os.trans hf1.os
    · exact HG.out.tape.trans hf1.tape
    · exact HG.out.output.trans hf1.output
    · have := HG.out.size; simp [World.setCell]; omega
    · intro k hk hkb hkr
      rw [show (w2.setCell ⟨b, 1, none⟩ (.slice ao m cap)).heap[k]? = w2.heap[k]? from Below.heap_setCell _ _ _ _ hkb, HG.out.block k (by omega) hkr, hf1.block k hk hkb (by simp)]
end Go.Proofs.Ytgckaecjjoghbaa
/- String of one of two builders, with all that it turns; the two builders together. -/
namespace Go.Proofs.Ytgckaecjjoghbaa
open Go.RowKit
theorem fr_drew {b : Nat} {row : Option Nat} (w : World) : Fr b row w w.drew := ⟨rfl, rfl, rfl, Nat.le_refl _, fun _ _ _ _ => rfl⟩
theorem fr_freeze {b g n : Nat} (w : World) : Fr b (some g) w (w.drew.freeze ⟨g, 0, none⟩ n) := by
  have h := Lib.below_freeze (Below.drew (Below.refl g w)) (p := ⟨g, 0, none⟩) (Nat.le_refl g) n
  refine ⟨h.os, h.tape, h.output, h.size, fun k _ _ hk => ?_⟩
  have hne : g ≠ k := fun e => hk (by rw [e])
  show (w.drew.freeze ⟨g, 0, none⟩ n).heap[k]? = _
  unfold World.freeze
  split
  · rfl
  · show (Array.modify _ g _)[k]? = _
    rw [Array.getElem?_modify, if_neg hne]; rfl
set_option maxHeartbeats 1000000 in
set_option maxRecDepth 100000 in
theorem string_some (B b : Nat) (v : Value) (l : List UInt8) (w : World) (h : Bld w B b v (Lib.byteCells l)) (h0 : l ≠ []) :
    Calls Try.prog 74 #[.pointer (some ⟨b, 0, none⟩)] w fun e w' => e = .returned (.string (str l)) ∧ Fr b v.ownBlock w w' := by
  obtain ⟨hB, hbk0, hown⟩ := h
  obtain ⟨p, hbk⟩ : ∃ p, w.heap[b]? = some (.cells #[p, v] 107 (0, 0)) := by
    rcases hbk0 with hb | hb
    · exact ⟨_, hb⟩
    · exact ⟨_, hb⟩
  have hl0 : l.length ≠ 0 := by simpa using h0
  rw [Lib.byteCells_length] at hown
  obtain ⟨g, cap, cur, rfl, hbg, hg, hnc, hcm, hcs, htake⟩ : ∃ g cap cur, v = .slice (some ⟨g, 0, none⟩) l.length cap ∧ B ≤ g ∧ w.heap[g]? = some (.cells cur 5 (0, 0)) ∧ l.length ≤ cap ∧ cap ≤ maxLen ∧ cur.size = cap * 1 ∧ cur.toList.take (l.length * 1) = Lib.byteCells l := by
    rcases hown.2 with ⟨_, hz⟩ | ⟨g, cap, cur, hv, r⟩
    · exact absurd hz hl0
    · exact ⟨g, cap, cur, hv, r⟩
  have c1 : w.drew.cell? ⟨b, 1, none⟩ = some (.slice (some ⟨g, 0, none⟩) l.length cap) := by
    have : w.drew.heap[b]? = some (.cells #[p, .slice (some ⟨g, 0, none⟩) l.length cap] 107 (0, 0)) := hbk
    rw [Lib.cell_of_heap this]; rfl
  have hSD : (Builtin.unsafeSliceData_ #[105] 129 #[.slice (some ⟨g, 0, none⟩) l.length cap]).run Try.prog w.drew = .ok (.pointer (some ⟨g, 0, none⟩)) w.drew :=
    Lib.run_unsafeSliceData_row _ _ _ _ _ _ (by omega)
  have hUS : (Builtin.unsafeString_ #[129, 3] 9 #[.pointer (some ⟨g, 0, none⟩), .int .i64 l.length]).run Try.prog w.drew = .ok (.string (str l)) (w.drew.freeze ⟨g, 0, none⟩ l.length) := by
    refine Lib.run_unsafeString_row w.drew 129 3 9 5 Try.underlying129 (Try.Builder_Extra_169.cellsByte) g cur.size (by have hg' : w.drew.heap[g]? = some (.cells cur 5 (0, 0)) := hg; simp [World.shape?, hg']) l h0 (by omega) (by unfold maxLen at hcm; omega) ?_
    intro j x hx
    exact hown.cells (g := g) rfl j (.int .u8 x.toNat) (by simp [Lib.byteCells, hx])
  have hfr : Hid (Fr b (some g) w (w.drew.freeze ⟨g, 0, none⟩ l.length)) := fr_freeze w
  go_enter Try.func74, Try.ntmps74
  go_wp2
  go_region
  all_goals (go_wp2; go_ret; exact ⟨rfl, hfr.out⟩)
set_option maxHeartbeats 1000000 in
set_option maxRecDepth 100000 in
theorem string_none (B b : Nat) (w : World) (h : Bld w B b (.slice none 0 0) []) :
    Calls Try.prog 74 #[.pointer (some ⟨b, 0, none⟩)] w fun e w' => e = .returned (.string (str [])) ∧ Fr b none w w' := by
  obtain ⟨hB, hbk0, hown⟩ := h
  obtain ⟨p, hbk⟩ : ∃ p, w.heap[b]? = some (.cells #[p, .slice none 0 0] 107 (0, 0)) := by
    rcases hbk0 with hb | hb
    · exact ⟨_, hb⟩
    · exact ⟨_, hb⟩
  have hUS : ∀ (w : World), (Builtin.unsafeString_ #[129, 3] 9 #[.pointer none, .int .i64 0]).run Try.prog w = .ok (.string ⟨#[]⟩) w := fun w => by kernel_rfl
  have c1 : w.drew.cell? ⟨b, 1, none⟩ = some (.slice none 0 0) := by
    have : w.drew.heap[b]? = some (.cells #[p, .slice none 0 0] 107 (0, 0)) := hbk
    rw [Lib.cell_of_heap this]; rfl
  have hSD : (Builtin.unsafeSliceData_ #[105] 129 #[.slice none 0 0]).run Try.prog w.drew = .ok (.pointer none) w.drew := rfl
  go_enter Try.func74, Try.ntmps74
  go_wp2
  go_region
  all_goals (go_wp2; go_ret; exact ⟨rfl, fr_drew w⟩)
end Go.Proofs.Ytgckaecjjoghbaa
/- Two builders together: what each call on one of them leaves. -/
namespace Go.Proofs.Ytgckaecjjoghbaa
open Go.RowKit
def Apart (v u : Value) : Prop := ∀ g, v.ownBlock = some g → u.ownBlock ≠ some g
theorem Apart.symm {v u : Value} (h : Apart v u) : Apart u v := fun g hg hv => h g hv hg
theorem Apart.side {v u : Value} (h : Apart v u) : u.ownBlock = none ∨ u.ownBlock ≠ v.ownBlock := by
  rcases hu : u.ownBlock with _ | g
  · exact .inl rfl
  · exact .inr fun e => h g e.symm hu
def Duo (w : World) (B p q : Nat) (bs cs : List Value) : Prop :=
  p ≠ q ∧ ∃ v u, Bld w B p v bs ∧ Bld w B q u cs ∧ Apart v u ∧ (bs = [] → v = .slice none 0 0) ∧ (cs = [] → u = .slice none 0 0)
theorem Duo.symm {w : World} {B p q : Nat} {bs cs : List Value} (h : Duo w B p q bs cs) : Duo w B q p cs bs := by
  obtain ⟨h0, v, u, h1, h2, h3, h4, h5⟩ := h
  exact ⟨fun e => h0 e.symm, u, v, h2, h1, h3.symm, h5, h4⟩
theorem Bld.below {w w' : World} {B b : Nat} {v : Value} {bs : List Value} (h : Bld w B b v bs) (hb : Below w.heap.size w w') : Bld w' B b v bs :=
  ⟨h.1, by rw [hb.block b h.lt]; exact h.2.1, own_below h.2.2 hb (Nat.le_refl _)⟩
theorem Duo.below {w w' : World} {B p q : Nat} {bs cs : List Value} (h : Duo w B p q bs cs) (hb : Below w.heap.size w w') : Duo w' B p q bs cs := by
  obtain ⟨h0, v, u, h1, h2, rest⟩ := h
  exact ⟨h0, v, u, h1.below hb, h2.below hb, rest⟩
theorem Duo.lt {w : World} {B p q : Nat} {bs cs : List Value} (h : Duo w B p q bs cs) : B < w.heap.size := by
  obtain ⟨h0, v, u, h1, h2, rest⟩ := h
  exact Nat.lt_of_le_of_lt h1.1 h1.lt
theorem Duo.new (w : World) (B : Nat) (hB : B ≤ w.heap.size) :
    Duo ((w.alloc (.cells #[.pointer none, .slice none 0 0] 107)).alloc (.cells #[.pointer none, .slice none 0 0] 107)) B w.heap.size (w.heap.size + 1) [] [] := by
  refine ⟨by omega, .slice none 0 0, .slice none 0 0, ⟨hB, .inl ?_, World.ownsRow_nil _ _ _ _⟩, ⟨by omega, .inl ?_, World.ownsRow_nil _ _ _ _⟩, (show Apart _ _ from (fun _ h => by cases h)), fun _ => rfl, fun _ => rfl⟩
  · show ((w.heap.push _).push _)[w.heap.size]? = _
    simp [Array.getElem?_push]
  · show ((w.heap.push _).push _)[w.heap.size + 1]? = _
    rw [Array.getElem?_push, if_pos (by simp)]
/-- What is neither a builder nor a row of bytes stays. -/
def Keeps (w w' : World) : Prop := ∀ (k : Nat) (cs : Array Value) (T : TypeId), T ≠ 107 → T ≠ 5 → w.heap[k]? = some (Obj.cells cs T (0, 0)) → w'.heap[k]? = some (Obj.cells cs T (0, 0))
theorem Fr.keeps {B b : Nat} {v : Value} {bs : List Value} {w w' : World} (f : Fr b v.ownBlock w w') (h : Bld w B b v bs) : Keeps w w' := by
  intro k cs T h1 h2 hk
  have hlt : k < w.heap.size := by
    rcases Nat.lt_or_ge k w.heap.size with h' | h'
    · exact h'
    · rw [Array.getElem?_eq_none h'] at hk; cases hk
  rw [f.block k hlt ?_ ?_, hk]
  · rintro rfl
    rcases h.2.1 with h3 | h3 <;> rw [hk] at h3 <;> cases h3 <;> exact h1 rfl
  · intro he
    rcases h.2.2.2 with ⟨rfl, _⟩ | ⟨g, cap, cur, rfl, _, hg, _⟩
    · cases he
    · simp only [Value.ownBlock, Option.some.injEq] at he
      subst he
      rw [hk] at hg; cases hg; exact h2 rfl
theorem Keeps.cell {w w' : World} (h : Keeps w w') {k : Nat} {cs : Array Value} {T : TypeId} (h1 : T ≠ 107) (h2 : T ≠ 5) (hk : w.heap[k]? = some (.cells cs T (0, 0))) (j : Nat) (x : Value) (hx : cs[j]? = some x) : w'.cell? ⟨k, j, none⟩ = some x := by
  rw [Lib.cell_of_heap (h k cs T h1 h2 hk), hx]
theorem Duo.write {w : World} {B p q : Nat} {bs cs : List Value} (h : Duo w B p q bs cs) (s : ByteArray) (hs : s.size ≠ 0) (hlen : bs.length + s.size ≤ 140737488355328) :
    Calls Try.prog 71 #[.pointer (some ⟨p, 0, none⟩), .string s] w fun e w' => e = .returned (.tuple #[.int .i64 s.size, .nilIface]) ∧ Duo w' B p q (bs ++ Lib.strCells s) cs ∧ Below B w w' ∧ Keeps w w' := by
  obtain ⟨h0, v, u, h1, h2, h3, h4, h5⟩ := h
  refine (write_at B p v bs s w h1 hlen).mono ?_
  rintro e w' ⟨rfl, v', k1, k2, k3⟩
  refine ⟨rfl, ⟨h0, v', u, k1, h1.other h2 (fun e => h0 e.symm) h3.side k3, ?_, ?_, h5⟩, k3.below h1, k3.keeps h1⟩
  · intro g hg hu
    rcases k2 with k2 | ⟨g', k2, k2'⟩
    · exact h3 g (k2 ▸ hg) hu
    · have := h2.row_lt hu
      rw [k2] at hg
      cases hg
      omega
  · intro hnil
    have hx := congrArg List.length hnil
    rw [List.length_append, Lib.strCells_length] at hx
    have h9 : ([] : List Value).length = 0 := rfl
    omega
theorem Duo.write2 {w : World} {B p q : Nat} {bs cs : List Value} (h : Duo w B p q bs cs) (s : ByteArray) (hs : s.size ≠ 0) (hlen : cs.length + s.size ≤ 140737488355328) :
    Calls Try.prog 71 #[.pointer (some ⟨q, 0, none⟩), .string s] w fun e w' => e = .returned (.tuple #[.int .i64 s.size, .nilIface]) ∧ Duo w' B p q bs (cs ++ Lib.strCells s) ∧ Below B w w' ∧ Keeps w w' :=
  (h.symm.write s hs hlen).mono fun _ _ ⟨h1, h2, h3⟩ => ⟨h1, h2.symm, h3⟩
theorem Duo.string {w : World} {B p q : Nat} {cs : List Value} {l : List UInt8} (h : Duo w B p q (Lib.byteCells l) cs) :
    Calls Try.prog 74 #[.pointer (some ⟨p, 0, none⟩)] w fun e w' => e = .returned (.string (str l)) ∧ (∃ u, Bld w' B q u cs) ∧ Below B w w' := by
  obtain ⟨h0, v, u, h1, h2, h3, h4, h5⟩ := h
  cases l with
  | nil =>
    obtain rfl := h4 rfl
    refine (string_none B p w h1).mono ?_
    rintro e w' ⟨rfl, k⟩
    have k' : Fr p (Value.slice none 0 0).ownBlock w w' := k
    exact ⟨rfl, ⟨u, h1.other h2 (fun e => h0 e.symm) h3.side k'⟩, k'.below h1⟩
  | cons c l =>
    refine (string_some B p v (c :: l) w h1 (by simp)).mono ?_
    rintro e w' ⟨rfl, k⟩
    exact ⟨rfl, ⟨u, h1.other h2 (fun e => h0 e.symm) h3.side k⟩, k.below h1⟩
theorem string_last {w : World} {B q : Nat} {l : List UInt8} (h : ∃ u, Bld w B q u (Lib.byteCells l)) :
    Calls Try.prog 74 #[.pointer (some ⟨q, 0, none⟩)] w fun e w' => e = .returned (.string (str l)) ∧ Below B w w' := by
  obtain ⟨u, h⟩ := h
  exact Try.Builder_String_any B q l w h.is (Nat.le_of_lt (Nat.lt_of_le_of_lt h.1 h.lt))
end Go.Proofs.Ytgckaecjjoghbaa
