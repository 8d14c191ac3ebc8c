/- Texts of one seat, merged. -/
import Derived.Test.YtpkoehnjladpoaaD14
import Derived.Test.YtpkoehnjladpoaaD05
import Derived.Test.YtpkoehnjladpoaaD04
import Derived.Deep.LoopGhost
import Derived.RangeFuncNested
import Derived.RangeFuncLeaves
import Derived.RangeFuncBox
import Derived.Shelf.Abstract
import Derived.WalkKit
import Derived.OwnWalkIn
import Derived.TacticsInMore
import Derived.LoopNIn
import Derived.LoopIn
import Derived.RangeFuncFrom
import Derived.RangeFuncCalls
import Derived.Test.YtpkoehnjladpoaaD07
import Derived.Test.YtpkoehnjladpoaaD10
import Derived.Test.YtpkoehnjladpoaaD12
import Derived.Test.YtpkoehnjladpoaaD13
set_option maxRecDepth 100000
set_option maxHeartbeats 4000000
set_option linter.unusedVariables false
/- The contracts of the document's Route, Without, Placed. -/
namespace Go.Proofs.Ytpkoehnjladpoaa
open Go.RowKit
open Sl (Cl Kd Nd Rn)
theorem oneB' (w : World) (o : Obj) : Below w.heap.size w (w.alloc o) := (Below.refl _ _).alloc (Nat.le_refl _) _
theorem rroute_any (v : Value) (n : Rn) (k : List UInt8) (w : World) (hv : RnV w v n) (hlf : n.leaf = false) (hl : n.l.length ≤ 100000) :
    Calls Try.prog 26 #[v, .string (str k)] w fun e w' => e = .returned (.int .i64 (Sl.rt Sl.shC n.l k n.l.length : Nat)) ∧ Below w.heap.size w w' := by
  obtain ⟨vc, rfl, hc, hcc⟩ := hv
  rw [hlf]
  clear hlf hcc
  unfold rnV
  generalize n.l = l at *
  obtain ⟨a, b, o, c, rfl, ha, hx⟩ := hc
  have HX := Lib.hid hx
  have HA := Lib.hid ha
  clear ha hx
  have HK0 := Lib.hid (Kp.laid (Below.refl _ w) (Nat.le_refl _) #[.bool false, .slice a l.length c] 49)
  go_enter Try.func26, Try.ntmps26
  go_wp2
  generalize (w.alloc (.cells #[.bool false, .slice a l.length c] 49)) = W0 at HK0 ⊢
  go_loopg [5, 11] l.length (fun n u i wr => ∃ j : Nat, j ≤ l.length ∧ n = l.length - j ∧ u = .int .i64 (Sl.rt Sl.shC l k j : Nat) ∧ i = .int .i64 (j : Nat) ∧ Hid (Kp w.heap.size w (row1 w.heap.size #[.bool false, .slice a l.length c]) wr))
  case atStart => exact ⟨0, Nat.zero_le _, rfl, rfl, rfl, HK0⟩
  case round =>
    obtain ⟨j, hk', rfl, rfl, rfl, HK⟩ := hrel
    by_cases hlt : j < l.length
    · obtain ⟨x, hx⟩ := take_some l j hlt
      obtain ⟨e0, e1, e2, e3⟩ := HX.out j x hx
      have hblt : b < w.heap.size := World.block_lt_of_cell? _ _ e0
      have d0 := (HK.out.below.cell (p := ⟨b, o + j * 4, none⟩) hblt).trans e0
      have d1 := (HK.out.below.cell (p := ⟨b, o + j * 4 + 1, none⟩) hblt).trans e1
      have d2 := (HK.out.below.cell (p := ⟨b, o + j * 4 + 2, none⟩) hblt).trans e2
      have d3 := (HK.out.below.cell (p := ⟨b, o + j * 4 + 3, none⟩) hblt).trans e3
      obtain rfl : a = some ⟨b, o, none⟩ := by
        rcases HA.out with h | h
        · rw [h] at hlt; cases hlt
        · exact h
      have hji : (j : Int) < l.length := by omega
      have HK2 := Lib.hid (HK.out.step (Nat.le_refl _) (oneB' wr (.cells #[.string (str x.key), .string (str x.val), .int .u32 x.chain, .int .u32 x.long] 42)))
      have l0 := fun (T : Array Value) => (HK.out.step (Nat.le_refl _) (oneB' wr (.cells T 42))).two.1.1
      cases hle : Sl.less k x.key with
      | true =>
        have HR := Lib.hid (Sl.rt_no Sl.shC l k j x hx hle)
        have hb1 : Op.bytesLess (str k).toList (str x.key).toList = true := (bl _ _).trans hle
        have hb3 : Op.bytesLess (str x.key).toList (str k).toList = false := (bl _ _).trans (Sl.less_asym _ _ hle)
        have hb2 := str_bne (a := x.key) (b := k) (fun e => by rw [e, Sl.less_self] at hle; cases hle)
        clear e0 e1 e2 e3 hblt hx hle
        go_wp2
        go_roundg (l.length - (j + 1))
        case measure => omega
        case rel => exact ⟨j + 1, by omega, rfl, by rw [HR.out], by go_num, HK2⟩
      | false =>
        have HR := Lib.hid (Sl.rt_yes Sl.shC l k j x hx hle)
        have hb1 : Op.bytesLess (str k).toList (str x.key).toList = false := (bl _ _).trans hle
        cases hge : Sl.less x.key k with
        | true =>
          have hb3 : Op.bytesLess (str x.key).toList (str k).toList = true := (bl _ _).trans hge
          clear e0 e1 e2 e3 hblt hx hle hge
          go_wp2
          go_roundg (l.length - (j + 1))
          case measure => omega
          case rel => exact ⟨j + 1, by omega, rfl, by rw [HR.out], by go_num, HK2⟩
        | false =>
          have hxy := Sl.less_tri x.key k hge hle
          have hb2 := str_beq hxy
          have hb3 : Op.bytesLess (str x.key).toList (str k).toList = false := (bl _ _).trans hge
          clear e0 e1 e2 e3 hblt hx hle hge hxy
          go_wp2
          go_roundg (l.length - (j + 1))
          case measure => omega
          case rel => exact ⟨j + 1, by omega, rfl, by rw [HR.out], by go_num, HK2⟩
    · obtain rfl : j = l.length := by omega
      go_wp2
      go_ret
      exact ⟨rfl, HK.out.below⟩
end Go.Proofs.Ytpkoehnjladpoaa
/- The contract of Route: a range over a function. -/
namespace Go.Proofs.Ytpkoehnjladpoaa
open Go.RowKit Go.Shelf
open Sl (Cl Kd Nd Rn)
attribute [local go_sem] Oper.semAt_some
def bwF (l : List Kd) (i : Nat) : Nat × Kd := (l.length - 1 - i, (l[l.length - 1 - i]?).getD ⟨[], 0⟩)
def bwU (l : List Kd) (k : Nat) : List (Nat × Kd) := (List.range k).map (bwF l)
theorem bwU_succ (l : List Kd) (k : Nat) : bwU l (k + 1) = bwU l k ++ [bwF l k] := by simp [bwU, List.range_succ]
theorem bwU_len (l : List Kd) (k : Nat) : (bwU l k).length = k := by simp [bwU]
def bwE (x : Nat × Kd) : Array Value := #[.int .i64 (x.1 : Int), .agg #[.string (str x.2.key), .int .u32 x.2.page]]
set_option maxRecDepth 100000 in
set_option maxHeartbeats 4000000 in
theorem back1_in (F : Fence) (n : Nat) (h7 : F.fn 115) (hro : F.round = none) (hn : 1 ≤ n) (lp Bs n₀ : Nat) (a : Option Addr) (b o c : Nat) (l : List Kd) (hl : l.length ≤ 100000) (J Jx : List (Nat × Kd) → World → Prop)
    (hY : ∀ pre x W, J pre W → pre.length < l.length → YieldAt F (n - 1) Try.prog lp (bwE x) W fun e W' =>
      (e = .returned (.bool true) ∧ J (pre ++ [x]) W' ∧ Below n₀ W W') ∨ (e = .returned (.bool false) ∧ Jx (pre ++ [x]) W'))
    (W : World) (hBs : W.cell? ⟨Bs, 0, none⟩ = some (.slice a l.length c)) (hbn : Bs < n₀) (ha : l = [] ∨ a = some ⟨b, o, none⟩) (hx : ∀ (j : Nat) x, l[j]? = some x → b < n₀ ∧ W.cell? ⟨b, o + j * 2, none⟩ = some (.string (str x.key)) ∧ W.cell? ⟨b, o + j * 2 + 1, none⟩ = some (.int .u32 x.page)) (h0 : J [] W) :
    CallsIn F n Try.prog 115 #[.func (.yield lp) #[] #[], .pointer (some ⟨Bs, 0, none⟩)] W fun e W' => (∃ v, e = .returned v) ∧
      ((∃ ys, ys = bwU l l.length ∧ J ys W') ∨ (∃ pre, (∃ k, k ≤ l.length ∧ pre = bwU l k) ∧ Jx pre W')) := by
  have hw0 : IntKind.i64.wrap ((l.length : Int) - 1) = (l.length : Int) - 1 := IntWalk.i64_in _ (by omega)
  refine callsIn_of_wp Try.func115 rfl h7 ?_ hro
  simp only [Try.ntmps115, List.size_toArray, List.length_cons, List.length_nil, Nat.reduceAdd, Nat.reduceSub, Array.replicate_succ, Array.replicate_zero, List.push_toArray, List.append_toArray, List.nil_append, List.cons_append]
  gi_wp2
  gi_loopw [3] (fun i wr => ∃ (k q : Nat) (i' : Int), q + k = l.length ∧ i = .int .i64 i' ∧ i' = (q : Int) - 1 ∧ J (bwU l k) wr ∧ Below n₀ W wr)
    (fun i _ => (intOf i + 1).toNat)
  case atStart => exact ⟨0, l.length, _, by omega, rfl, rfl, h0, Below.refl _ _⟩
  case round =>
    obtain ⟨k, q, i', hk, rfl, hi, hJs, hnx⟩ := hrel
    have hBs' : wr.cell? ⟨Bs, 0, none⟩ = some (.slice a l.length c) := (hnx.cell (p := ⟨Bs, 0, none⟩) hbn).trans hBs
    cases q with
    | zero =>
      have hi0 : ¬ (0 : Int) ≤ i' := by omega
      clear hi
      obtain rfl : k = l.length := by omega
      gi_wp2
      go_end0
      exact ⟨⟨_, rfl⟩, .inl hJs⟩
    | succ p =>
      obtain rfl : i' = (p : Int) := by omega
      have hp : p < l.length := by omega
      obtain ⟨x, hxp⟩ : ∃ x, l[p]? = some x := ⟨_, List.getElem?_eq_getElem hp⟩
      obtain ⟨hb, e0, e1⟩ := hx p x hxp
      have d0 := (hnx.cell (p := ⟨b, o + p * 2, none⟩) hb).trans e0
      have d1 := (hnx.cell (p := ⟨b, o + p * 2 + 1, none⟩) hb).trans e1
      obtain rfl : a = some ⟨b, o, none⟩ := by
        rcases ha with h | h
        · rw [h] at hp; cases hp
        · exact h
      have hf : bwF l k = (p, x) := by
        unfold bwF
        rw [show l.length - 1 - k = p by omega, hxp]; rfl
      obtain ⟨fn, tmps, assign, body, hy, hR⟩ := hY _ (p, x) wr hJs (by rw [bwU_len]; omega)
      have hpi : (p : Int) < l.length := by omega
      have hw1 : IntKind.i64.wrap ((p : Int) - 1) = (p : Int) - 1 := IntWalk.i64_in _ (by omega)
      unfold bwE at hy
      dsimp only at hy
      clear e0 e1 hxp hi
      gi_wp2
      refine hR.mono ?_
      rintro e W3 (⟨rfl, hJ3, hk3⟩ | ⟨rfl, hJx3⟩)
      · gi_wp2
        go_roundw
        case rel => exact ⟨k + 1, p, _, by omega, rfl, rfl, by rw [bwU_succ, hf]; exact hJ3, hnx.trans hk3⟩
        case measure => simp [intOf] <;> omega
      · gi_wp2
        refine bodyPost_ret (results_none rfl _ _ _) rfl ?_
        exact ⟨⟨_, rfl⟩, .inr ⟨_, ⟨k + 1, by omega, by rw [bwU_succ, hf]⟩, hJx3⟩⟩
set_option maxHeartbeats 1000000 in
theorem back_in (F : Fence) (n : Nat) (h5 : F.fn 68) (hro : F.round = none) (a : Option Addr) (len cap : Nat) (w : World) :
    CallsIn F n Try.prog 68 #[.slice a len cap] w fun e w' => e = .returned (.func (.func 115) #[] #[.pointer (some ⟨w.heap.size, 0, none⟩)]) ∧ w' = w.alloc (.cells #[.slice a len cap] 44) := by
  refine callsIn_of_wp Try.func68 rfl h5 ?_ hro
  simp only [Try.ntmps68, List.size_toArray, List.length_cons, List.length_nil, Nat.reduceAdd, Nat.reduceSub, Array.replicate_succ, Array.replicate_zero, List.push_toArray, List.append_toArray, List.nil_append, List.cons_append]
  gi_wp2
  go_ret
  exact ⟨rfl, rfl⟩
theorem back_stops (F : Fence) (n : Nat) (h8 : F.fn 115) (hro : F.round = none) (hn : 1 ≤ n) (Bs n₀ : Nat) (v : Value) (l : List Kd) (hl : l.length ≤ 100000) (w : World) (hBs : Bs < n₀) (hn₀ : n₀ ≤ w.heap.size)
    (hc : w.cell? ⟨Bs, 0, none⟩ = some v) (hI : SlK w v l) (hlo : ∀ a b o c, v = .slice (some ⟨b, o, a⟩) l.length c → l ≠ [] → b < n₀) :
    SeqStopsK F n Try.prog 115 #[.pointer (some ⟨Bs, 0, none⟩)] bwE (Below n₀) (fun ys => ys = bwU l l.length) (fun pre => ∃ k, k ≤ l.length ∧ pre = bwU l k) l.length w := fun lp J Jx W hW _ _ hY h0 => by
  have hc' := (hW.cell (p := ⟨Bs, 0, none⟩) (by show Bs < _; omega)).trans hc
  obtain ⟨a, b, o, c, rfl, ha, hx⟩ := hI
  refine back1_in F n h8 hro hn lp Bs n₀ a b o c l hl J Jx hY W hc' hBs ha (fun j x hj => ?_) h0
  obtain ⟨e0, e1⟩ := hx j x hj
  have hb : b < n₀ := by
    rcases ha with h | h
    · rw [h] at hj; simp at hj
    · exact hlo none b o c (by rw [h]) (fun h => by rw [h] at hj; simp at hj)
  exact ⟨hb, (hW.cell (p := ⟨b, o + j * 2, none⟩) (World.block_lt_of_cell? _ _ e0)).trans e0, (hW.cell (p := ⟨b, o + j * 2 + 1, none⟩) (World.block_lt_of_cell? _ _ e1)).trans e1⟩
end Go.Proofs.Ytpkoehnjladpoaa
/- The contract of Route. -/
namespace Go.Proofs.Ytpkoehnjladpoaa.Sl
theorem rt_bw (l : List Kd) (key : List UInt8) : ∀ k, k ≤ l.length → (∀ y ∈ bwU l k, less key y.2.key = true) → rt shK l key l.length = rt shK l key (l.length - k)
  | 0, _, _ => by rw [Nat.sub_zero]
  | k + 1, hk, h => by
    have ih := rt_bw l key k (by omega) (fun y hy => h y (by rw [bwU_succ]; exact List.mem_append.2 (.inl hy)))
    have hx : l[l.length - 1 - k]? = some (l[l.length - 1 - k]'(by omega)) := List.getElem?_eq_getElem (by omega)
    have hf : bwF l k = (l.length - 1 - k, l[l.length - 1 - k]'(by omega)) := by unfold bwF; rw [hx]; rfl
    have h1 := h (bwF l k) (by rw [bwU_succ]; exact List.mem_append.2 (.inr (by simp)))
    rw [hf] at h1
    rw [ih, show l.length - k = (l.length - 1 - k) + 1 by omega, rt_no shK l key _ _ hx h1, show l.length - (k + 1) = l.length - 1 - k by omega]
theorem rt_end (l : List Kd) (key : List UInt8) (h : ∀ y ∈ bwU l l.length, less key y.2.key = true) : rt shK l key l.length = 0 := by
  rw [rt_bw l key l.length (Nat.le_refl _) h, Nat.sub_self]; rfl
theorem rt_stop (l : List Kd) (key : List UInt8) (k : Nat) (hk : k ≤ l.length) (pre : List (Nat × Kd)) (x : Nat × Kd) (he : pre ++ [x] = bwU l k) (h : ∀ y ∈ pre, less key y.2.key = true) (hx : less key x.2.key = false) : rt shK l key l.length = x.1 := by
  cases k with
  | zero => simp [bwU] at he
  | succ k =>
    rw [bwU_succ] at he
    obtain ⟨rfl, hx2⟩ := List.append_inj' he rfl
    simp at hx2
    subst hx2
    have hy : l[l.length - 1 - k]? = some (l[l.length - 1 - k]'(by omega)) := List.getElem?_eq_getElem (by omega)
    have hf : bwF l k = (l.length - 1 - k, l[l.length - 1 - k]'(by omega)) := by unfold bwF; rw [hy]; rfl
    rw [hf] at hx ⊢
    rw [rt_bw l key k (by omega) h, show l.length - k = (l.length - 1 - k) + 1 by omega, rt_yes shK l key _ _ hy hx]
end Go.Proofs.Ytpkoehnjladpoaa.Sl
namespace Go.Proofs.Ytpkoehnjladpoaa
open Go.RowKit Go.Shelf
open Sl (Cl Kd Nd Rn)
attribute [local go_sem] Oper.semAt_some
theorem route_leaf (v : Value) (n : Nd) (key : List UInt8) (w : World) (hv : NdV w v n) (hlf : n.leaf = true) :
    Calls Try.prog 25 #[v, .string (str key)] w fun e w' => e = .returned (.int .i64 0) ∧ Below w.heap.size w w' := by
  obtain ⟨vc, vk, rfl, hc, hcc, hk, hkk⟩ := hv
  obtain ⟨a, m, c, _, _, _⟩ := hcc
  obtain ⟨a', m', c', _, _, _⟩ := hkk
  rw [hlf]
  unfold ndV
  go_enter Try.func25, Try.ntmps25
  go_wp2
  refine bodyPost_ret_by (v := .int .i64 0) ?_ rfl ⟨rfl, ?_⟩
  · simp [results, Try.results25, go_sem]
  · exact ((((Below.refl _ w).alloc (Nat.le_refl _) _).alloc (by simp) _).alloc (by simp <;> omega) _)
theorem slk_lo {w : World} {v : Value} {l : List Kd} (h : SlK w v l) : ∀ a b o c, v = .slice (some ⟨b, o, a⟩) l.length c → l ≠ [] → b < w.heap.size := by
  intro a b o c hv hne
  obtain ⟨a', b', o', c', hv', ha, hx⟩ := h
  rcases ha with h | h
  · exact absurd h hne
  · subst h
    rw [hv] at hv'
    injection hv' with h1 _ _
    injection h1 with h1
    injection h1 with h1 _ _
    subst h1
    obtain ⟨x, hx0⟩ : ∃ x, l[0]? = some x := by
      cases l with
      | nil => exact absurd rfl hne
      | cons x t => exact ⟨x, rfl⟩
    exact World.block_lt_of_cell? _ _ (hx 0 x hx0).1
theorem cellA {W : World} {p : Addr} {x : Value} (o : Obj) (h : W.cell? p = some x) : (W.alloc o).cell? p = some x := ((oneB' W o).cell (p := p) (World.block_lt_of_cell? _ _ h)).trans h
theorem frozA {W : World} {p : Addr} {x : Value} (o : Obj) (h : W.cell? p = some x) (hf : W.frozen? p = false) : (W.alloc o).frozen? p = false := ((oneB' W o).frozen (p := p) (World.block_lt_of_cell? _ _ h)).trans hf
theorem newA (W : World) (x : Value) (t : TypeId) : (W.alloc (.cells #[x] t)).cell? ⟨W.heap.size, 0, none⟩ = some x ∧ (W.alloc (.cells #[x] t)).frozen? ⟨W.heap.size, 0, none⟩ = false := ⟨World.cell?_alloc_new W _ _ 0, World.frozen?_alloc_new W _ t 0⟩
set_option maxRecDepth 100000 in
set_option maxHeartbeats 4000000 in
theorem route_in (F : Fence) (n' : Nat) (h3 : F.fn 25) (h4 : F.fn 68) (h5 : F.fn 115) (hro : F.round = none) (hn : 6 ≤ n') (v : Value) (n : Nd) (key : List UInt8) (w : World) (hv : NdV w v n) (hlf : n.leaf = false) (hl : n.ks.length ≤ 100000) :
    CallsIn F n' Try.prog 25 #[v, .string (str key)] w fun e w' => e = .returned (.int .i64 (Sl.rt Sl.shK n.ks key n.ks.length : Nat)) ∧ Below w.heap.size w w' := by
  obtain ⟨vc, vk, rfl, hc, hcc, hk, hkk⟩ := hv
  obtain ⟨a, m, c, _, _, _⟩ := hcc
  obtain ⟨a', m', c', _, _, _⟩ := hkk
  rw [hlf]
  unfold ndV
  clear hc hlf
  generalize n.ks = l at *
  have h1 : 1 ≤ n' := by omega
  refine callsIn_of_wp_marks Try.func25 rfl h3 ?_ hro
  simp only [Try.ntmps25, List.size_toArray, List.length_cons, List.length_nil, Nat.reduceAdd, Nat.reduceSub, Array.replicate_succ, Array.replicate_zero, List.push_toArray, List.append_toArray, List.nil_append, List.cons_append]
  gi_wp2_with (gi_at_call 68; refine (back_in F (n' - 1) h4 hro _ _ _ _).mono ?_; rintro e w' ⟨rfl, rfl⟩)
  have HSK := Lib.hid hk
  have HLO := Lib.hid (slk_lo hk)
  clear hk
  have hB0 : Below w.heap.size w ((((w.alloc (.cells #[.bool false, .slice a m c, .slice a' m' c'] 46)).alloc (.cells #[.string (str key)] 9)).alloc (.cells #[.int .i64 0] 3)).alloc (.cells #[.slice a' m' c'] 44)) := ((((Below.refl _ w).alloc (Nat.le_refl _) _).alloc (by simp) _).alloc (by simp <;> omega) _).alloc (by simp <;> omega) _
  have k1 := cellA (.cells #[.slice a' m' c'] 44) (cellA (.cells #[.int .i64 0] 3) (newA (w.alloc (.cells #[.bool false, .slice a m c, .slice a' m' c'] 46)) (.string (str key)) 9).1)
  have k2a := newA ((w.alloc (.cells #[.bool false, .slice a m c, .slice a' m' c'] 46)).alloc (.cells #[.string (str key)] 9)) (.int .i64 0) 3
  have k2 := cellA (.cells #[.slice a' m' c'] 44) k2a.1
  have k3 := frozA (.cells #[.slice a' m' c'] 44) k2a.1 k2a.2
  have k4 := (newA (((w.alloc (.cells #[.bool false, .slice a m c, .slice a' m' c'] 46)).alloc (.cells #[.string (str key)] 9)).alloc (.cells #[.int .i64 0] 3)) (.slice a' m' c') 44).1
  have hsz : ((((w.alloc (.cells #[.bool false, .slice a m c, .slice a' m' c'] 46)).alloc (.cells #[.string (str key)] 9)).alloc (.cells #[.int .i64 0] 3)).alloc (.cells #[.slice a' m' c'] 44)).heap.size = w.heap.size + 1 + 1 + 1 + 1 := by simp
  simp only [World.size_alloc] at k1 k2 k3 k4
  clear k2a
  generalize ((((w.alloc (.cells #[.bool false, .slice a m c, .slice a' m' c'] 46)).alloc (.cells #[.string (str key)] 9)).alloc (.cells #[.int .i64 0] 3)).alloc (.cells #[.slice a' m' c'] 44)) = W0 at hB0 k1 k2 k3 k4 hsz ⊢
  refine wpIn_rangeFunc_ownH hro h1 (gf := 115) (lb := #[.pointer (some ⟨w.heap.size + 1 + 1 + 1, 0, none⟩)]) rfl h5 (enters_of Try.func115 (by kernel_rfl) rfl)
    (back_stops F (n' - 1) h5 hro (by omega) (w.heap.size + 1 + 1 + 1) (w.heap.size + 1 + 1 + 1 + 1) _ l hl W0 (by omega) (by omega) k4 (HSK.out.below hB0) (fun a b o c h1 h2 => by have := HLO.out a b o c h1 h2; omega)) belowK_t (belowK_b (by omega)) (Below.refl _ _) (fun _ => rfl)
    (fun pre W => ((∀ y ∈ pre, Sl.less key y.2.key = true) ∧ W.cell? ⟨w.heap.size + 1, 0, none⟩ = some (.string (str key)) ∧ W.cell? ⟨w.heap.size + 1 + 1, 0, none⟩ = some (.int .i64 0) ∧ W.frozen? ⟨w.heap.size + 1 + 1, 0, none⟩ = false ∧ W.cell? ⟨w.heap.size + 1 + 1 + 1, 0, none⟩ = some (.slice a' m' c')) ∧ Below w.heap.size w W)
    (fun c pre W => (c = .ret ∧ (∃ pre' x, pre = pre' ++ [x] ∧ (∀ y ∈ pre', Sl.less key y.2.key = true) ∧ Sl.less key x.2.key = false ∧ W.cell? ⟨w.heap.size + 1 + 1, 0, none⟩ = some (.int .i64 (x.1 : Int)))) ∧ Below w.heap.size w W)
    (OwnFrom.and (Own.from (fun s A B row hs hg hr => ⟨hs.1, cell_kept hs.2.1 hg hr, cell_kept hs.2.2.1 hg hr, (frozen_kept hs.2.2.1 hg hr).trans hs.2.2.2.1, cell_kept hs.2.2.2.2 hg hr⟩) _) (ownFrom_below (Nat.le_refl _) (by omega)))
    (fun c => OwnFrom.and (Own.from (fun s A B row hs hg hr => ⟨hs.1, by obtain ⟨p', x, e1, e2, e3, e4⟩ := hs.2; exact ⟨p', x, e1, e2, e3, cell_kept e4 hg hr⟩⟩) _) (ownFrom_below (Nat.le_refl _) (by omega)))
    ⟨⟨(fun y hy => by simp at hy), k1, k2, k3, k4⟩, hB0⟩
    (fun x a1 W => ∃ Bx, w.heap.size + 1 + 1 + 1 < Bx ∧ W.cell? ⟨Bx, 0, none⟩ = some (.string (str x.2.key)) ∧ W.cell? ⟨Bx, 1, none⟩ = some (.int .u32 x.2.page) ∧ a1 = { tmps := #[.agg #[.bool false, .slice a m c, .slice a' m' c'], .string (str key), .pointer (some ⟨w.heap.size, 0, none⟩), .pointer (some ⟨w.heap.size + 1, 0, none⟩), .pointer (some ⟨w.heap.size + 1 + 1, 0, none⟩), .int .i64 (x.1 : Int), .pointer (some ⟨Bx, 0, none⟩), .pointer (some ⟨w.heap.size, 0, none⟩), .bool false, .pointer (some ⟨w.heap.size, 2, none⟩), .slice a' m' c', .func (.func 115) #[] #[.pointer (some ⟨w.heap.size + 1 + 1 + 1, 0, none⟩)], .int .i64 (x.1 : Int), .agg #[.string (str x.2.key), .int .u32 x.2.page], undef, undef, undef, undef, undef], defers := [] })
    (fun x a1 => Own.from (fun s A B row hs hg hr => by obtain ⟨Bx, e1, e2, e3, e4⟩ := hs; exact ⟨Bx, e1, cell_kept e2 hg hr, cell_kept e3 hg hr, e4⟩) _)
    ?assign ?body ?done ?stop
  case assign =>
    rintro lp pre x W K ⟨⟨hp, q1, q2, q3, q4⟩, hB⟩ hK
    have hlt : w.heap.size + 1 + 1 + 1 < W.heap.size := World.block_lt_of_cell? _ _ q4
    unfold bwE
    gi_wp2
    exact hK _ _ ((KeepsOthers.alloc _ _).from _) ((Below.refl _ W).alloc (by omega) _) ⟨⟨hp, cellA _ q1, cellA _ q2, frozA _ q2 q3, cellA _ q4⟩, hB.alloc hB.size _⟩ ⟨W.heap.size, hlt, World.cell?_alloc_new W _ _ 0, World.cell?_alloc_new W _ _ 1, rfl⟩
  case body =>
    rintro lp pre x a1 W hl2 ⟨r, hr⟩ ⟨⟨hp, q1, q2, q3, q4⟩, hB⟩ ⟨Bx, hBx, x0, x1, rfl⟩ hlt
    cases hle : Sl.less key x.2.key with
    | true =>
      have hb1 : Op.bytesLess (str key).toList (str x.2.key).toList = true := (bl _ _).trans hle
      have hb3 : Op.bytesLess (str x.2.key).toList (str key).toList = false := (bl _ _).trans (Sl.less_asym _ _ hle)
      have hb2 := str_bne (a := x.2.key) (b := key) (fun e => by rw [e, Sl.less_self] at hle; cases hle)
      gi_wp2
      exact ⟨(KeepsOthers.refl _).from _, Below.refl _ _, ⟨fun y hy => (List.mem_append.1 hy).elim (hp y) (fun e => by simp at e; subst e; exact hle), q1, q2, q3, q4⟩, hB⟩
    | false =>
      have hb1 : Op.bytesLess (str key).toList (str x.2.key).toList = false := (bl _ _).trans hle
      cases hge : Sl.less x.2.key key with
      | true =>
        have hb3 : Op.bytesLess (str x.2.key).toList (str key).toList = true := (bl _ _).trans hge
        gi_wp2
        exact ⟨(KeepsOthers.setCell _ _ _).from _, ⟨rfl, pre, x, rfl, hp, hle, World.cell?_setCell_same' _ _ _ (by rw [q2]; rfl)⟩, hB.setCell (p := ⟨w.heap.size + 1 + 1, 0, none⟩) (show w.heap.size ≤ w.heap.size + 1 + 1 by omega) _⟩
      | false =>
        have hxy := Sl.less_tri x.2.key key hge hle
        have hb2 := str_beq hxy
        have hb3 : Op.bytesLess (str x.2.key).toList (str key).toList = false := (bl _ _).trans hge
        gi_wp2
        exact ⟨(KeepsOthers.setCell _ _ _).from _, ⟨rfl, pre, x, rfl, hp, hle, World.cell?_setCell_same' _ _ _ (by rw [q2]; rfl)⟩, hB.setCell (p := ⟨w.heap.size + 1 + 1, 0, none⟩) (show w.heap.size ≤ w.heap.size + 1 + 1 by omega) _⟩
  case done =>
    rintro D ys W hD rfl ⟨⟨hp, q1, q2, q3, q4⟩, hB⟩ hK
    gi_wp2
    have hK' := (KeepsOthers.setCell W ⟨w.heap.size + 1 + 1, 0, none⟩ (.int .i64 0)).same D _ hK rfl
    refine ⟨by simp, .inl ⟨_, _, rfl, run_takeDeferred hK', ?_⟩⟩
    have hc5 := cell_kept (World.cell?_setCell_same' W ⟨w.heap.size + 1 + 1, 0, none⟩ (.int .i64 0) (by rw [q2]; rfl)) (grownBy_putObj' _ D (.deferred none)) (fun r e => by cases e; exact ⟨_, hK', rfl⟩)
    refine ⟨.int .i64 0, ?_, by rw [Sl.rt_end l key hp]; rfl, (hB.setCell (p := ⟨w.heap.size + 1 + 1, 0, none⟩) (show w.heap.size ≤ w.heap.size + 1 + 1 by omega) _).trans (belowK_b (w := w) (Nat.le_refl _) _ D _ _ (by omega) hK' rfl rfl)⟩
    simp [results, Try.results25, go_sem, hc5]
  case stop =>
    rintro D c pre W hD ⟨k, hk, hpre⟩ ⟨⟨rfl, p', x, rfl, hp, hx, q2⟩, hB⟩ hK
    gi_wp2
    refine ⟨by simp, .inl ⟨_, _, rfl, run_takeDeferred hK, ?_⟩⟩
    have hc5 := cell_kept q2 (grownBy_putObj' _ D (.deferred none)) (fun r e => by cases e; exact ⟨_, hK, rfl⟩)
    refine ⟨.int .i64 (x.1 : Int), ?_, by rw [Sl.rt_stop l key k hk p' x hpre hp hx], hB.trans (belowK_b (w := w) (Nat.le_refl _) W D _ _ (by omega) hK rfl rfl)⟩
    simp [results, Try.results25, go_sem, hc5]
theorem route_branch (v : Value) (n : Nd) (key : List UInt8) (w : World) (hv : NdV w v n) (hlf : n.leaf = false) (hl : n.ks.length ≤ 100000) :
    Calls Try.prog 25 #[v, .string (str key)] w fun e w' => e = .returned (.int .i64 (Sl.rt Sl.shK n.ks key n.ks.length : Nat)) ∧ Below w.heap.size w w' :=
  (callsIn_wide (n := 6)).1 (route_in Fence.wide 6 trivial trivial trivial rfl (by omega) v n key w hv hlf hl)
end Go.Proofs.Ytpkoehnjladpoaa
/- A box of the document's node to whose row cells are appended. -/
namespace Go.Proofs.Ytpkoehnjladpoaa
open Go.RowKit
open Sl (Cl Kd Nd Rn)
theorem RowC.form {w : World} {B : Nat} {v : Value} {l : List Cl} (h : RowC w B v l) : ∃ a c, v = .slice a l.length c ∧ Cap v := by
  have hc := h.cap
  obtain ⟨a, b, o, c, hv, _⟩ := h.sl
  exact ⟨a, c, hv, hc⟩
structure AccI (w : World) (g : Nat) (L : List (Addr × Value)) (lf : Bool) (s : Value) (l : List Cl) (wr : World) : Prop where
  kp : Kp w.heap.size w L wr
  lo : ∀ p ∈ L, p.1.block < g
  le : w.heap.size ≤ g
  c0 : wr.cell? ⟨g, 0, none⟩ = some (.bool lf)
  c1 : wr.cell? ⟨g, 1, none⟩ = some s
  f0 : wr.frozen? ⟨g, 0, none⟩ = false
  f1 : wr.frozen? ⟨g, 1, none⟩ = false
  row : RowC wr (g + 1) s l
theorem AccI.step {w wr w' : World} {g : Nat} {L : List (Addr × Value)} {lf : Bool} {s : Value} {l : List Cl} (h : AccI w g L lf s l wr) (hb : Below wr.heap.size wr w') : AccI w g L lf s l w' := by
  have hlt := World.block_lt_of_cell? _ _ h.c0
  exact ⟨h.kp.step (Nat.le_refl _) hb, h.lo, h.le, (hb.cell (p := ⟨g, 0, none⟩) hlt).trans h.c0, (hb.cell (p := ⟨g, 1, none⟩) hlt).trans h.c1, (hb.frozen (p := ⟨g, 0, none⟩) hlt).trans h.f0, (hb.frozen (p := ⟨g, 1, none⟩) hlt).trans h.f1, h.row.below hb⟩
theorem AccI.push {w W : World} {g : Nat} {L : List (Addr × Value)} {lf : Bool} {s : Value} {l : List Cl} (h : AccI w g L lf s l W) (y : Cl) (hl : l.length ≤ 200000) (Hn : Nat) (hHn : W.heap.size = Hn) :
    ∃ a n c w', (Builtin.append_ #[40, 40] 40 #[s, .slice (some ⟨Hn, 0, none⟩) 1 1]).run Try.prog (W.alloc (.cells #[.string (str y.key), .string (str y.val), .int .u32 y.chain, .int .u32 y.long] 42)) = .ok (.slice a n c) w' ∧
      w'.cell? ⟨g, 1, none⟩ = some s ∧ w'.frozen? ⟨g, 1, none⟩ = false ∧ AccI w g L lf (.slice a n c) (l ++ [y]) (w'.setCell ⟨g, 1, none⟩ (.slice a n c)) ∧ ∀ (q i : Nat) (u : Value), s.ownBlock ≠ some q → q ≠ g → W.cell? ⟨q, i, none⟩ = some u → (w'.setCell ⟨g, 1, none⟩ (.slice a n c)).cell? ⟨q, i, none⟩ = some u := by
  subst hHn
  have H := h.step ((Below.refl _ W).alloc (Nat.le_refl _) (.cells #[.string (str y.key), .string (str y.val), .int .u32 y.chain, .int .u32 y.long] 42))
  have hlt := World.block_lt_of_cell? _ _ H.c0
  have hgle := h.le
  obtain ⟨v', w', hr, hrow, hgr, hb⟩ := appC (W.alloc (.cells #[.string (str y.key), .string (str y.val), .int .u32 y.chain, .int .u32 y.long] 42)) (g + 1) s (.slice (some ⟨W.heap.size, 0, none⟩) 1 1) l [y] 40 hlt H.row (slOne W y) ⟨_, _, _, Nat.le_refl _, by decide, fun h => by cases h⟩ hl (by simp)
  obtain ⟨a, n, c, ha, hc, hn⟩ := hrow.cap
  have k1 := (hb.cell (p := ⟨g, 1, none⟩) (Nat.lt_succ_self _)).trans H.c1
  have k2 := (hb.frozen (p := ⟨g, 1, none⟩) (Nat.lt_succ_self _)).trans H.f1
  refine ⟨a, n, c, w', hr, k1, k2, ?_, fun q i u hq hqg hu => (World.cell?_setCell_far _ _ _ _ (Ne.symm hqg)).trans (World.grownBy.cell hgr (((oneB' W _).cell (p := ⟨q, i, none⟩) (World.block_lt_of_cell? _ _ hu)).trans hu) (fun h => hq h.symm))⟩
  refine ⟨(H.kp.stepB hb (fun p hp => Nat.lt_succ_of_lt (h.lo p hp)) (by omega)).set (fun q hq he => by have := h.lo q hq; rw [he] at this; exact Nat.lt_irrefl _ this) hgle _, h.lo, h.le, (World.cell?_setCell_other _ _ _ _ (by simp)).trans ((hb.cell (p := ⟨g, 0, none⟩) (Nat.lt_succ_self _)).trans H.c0), World.cell?_setCell_same' _ _ _ (by rw [k1]; rfl), (World.frozen?_setCell _ _ _ _).trans ((hb.frozen (p := ⟨g, 0, none⟩) (Nat.lt_succ_self _)).trans H.f0), (World.frozen?_setCell _ _ _ _).trans k2, hrow.set (Nat.lt_succ_self _) _⟩
/-- Three boxes: the node, the answer, the row's own. -/
theorem AccI.start (w : World) (lf : Bool) (x : Value) : AccI w (w.heap.size + 1 + 1) (row1 w.heap.size #[.bool lf, x] ++ row1 (w.heap.size + 1) #[.bool false, .slice none 0 0]) lf (.slice none 0 0) [] (((w.alloc (.cells #[.bool lf, x] 49)).alloc (.cells #[.bool false, .slice none 0 0] 49)).alloc (.cells #[.bool lf, .slice none 0 0] 49)) := by
  have h := ((Kp.laid (Below.refl _ w) (Nat.le_refl _) #[.bool lf, x] 49).more (Nat.le_refl _) #[.bool false, .slice none 0 0] 49).more (Nat.le_refl _) #[.bool lf, .slice none 0 0] 49
  rw [show (w.alloc (.cells #[.bool lf, x] 49)).heap.size = w.heap.size + 1 by simp, show ((w.alloc (.cells #[.bool lf, x] 49)).alloc (.cells #[.bool false, .slice none 0 0] 49)).heap.size = w.heap.size + 1 + 1 by simp] at h
  obtain ⟨⟨c0, c1⟩, f0, f1⟩ := h.right.two
  refine ⟨h.left, fun p hp => ?_, by omega, c0, c1, f0, f1, World.ownsRow_nil _ _ _ _⟩
  rcases List.mem_append.1 hp with h | h
  · rw [row1_block h]; omega
  · rw [row1_block h]; omega
end Go.Proofs.Ytpkoehnjladpoaa
/- The contract of the document's Without. -/
namespace Go.Proofs.Ytpkoehnjladpoaa
open Go.RowKit
open Sl (Cl Kd Nd Rn)
theorem flat_key0 (l : List Cl) : (l.flatMap cellsC).set 0 (.string ⟨#[]⟩) = (Sl.setC [] l).flatMap cellsC := by
  cases l with
  | nil => rfl
  | cons x t => simp [cellsC, Sl.setC]; rfl
set_option maxHeartbeats 4000000 in
theorem rwithout_any (v : Value) (n : Rn) (p : Int) (w : World) (hv : RnV w v n) (hl : n.l.length ≤ 100000) :
    Calls Try.prog 19 #[v, .int .i64 p] w (RetR (Sl.woR n p) w) := by
  obtain ⟨vc, rfl, hc, hcc⟩ := hv
  obtain ⟨lf, l⟩ := n
  simp only at hc hl ⊢
  clear hcc
  unfold rnV
  obtain ⟨a, b, o, c, rfl, ha, hx⟩ := hc
  have HX := Lib.hid hx
  have HA := Lib.hid ha
  clear ha hx
  have HW : Hid (Sl.woR ⟨lf, l⟩ p = ⟨lf, if lf then Sl.cutP l p else if 0 ≤ p ∧ p < l.length then Sl.setC [] (Sl.cutP l p) else l⟩) := rfl
  generalize Sl.woR ⟨lf, l⟩ p = R at HW ⊢
  have HI0 := Lib.hid (AccI.start w lf (.slice a l.length c))
  go_enter Try.func19, Try.ntmps19
  go_wp2
  generalize (((w.alloc (.cells #[.bool lf, .slice a l.length c] 49)).alloc (.cells #[.bool false, .slice none 0 0] 49)).alloc (.cells #[.bool lf, .slice none 0 0] 49)) = W0 at HI0 ⊢
  go_loopg [14] l.length (fun n i wr => ∃ j : Nat, j ≤ l.length ∧ n = l.length - j ∧ i = .int .i64 (j : Nat) ∧ ∃ s, Hid (AccI w (w.heap.size + 1 + 1) (row1 w.heap.size #[.bool lf, .slice a l.length c] ++ row1 (w.heap.size + 1) #[.bool false, .slice none 0 0]) lf s (Sl.woP l p j) wr))
  case atStart => exact ⟨0, Nat.zero_le _, rfl, rfl, _, HI0⟩
  case round =>
    obtain ⟨j, hk', rfl, rfl, s, HJ⟩ := hrel
    by_cases hlt : j < l.length
    · obtain ⟨x, hx⟩ := take_some l j hlt
      obtain ⟨e0, e1, e2, e3⟩ := HX.out j x hx
      have hblt : b < w.heap.size := World.block_lt_of_cell? _ _ e0
      have d0 := (HJ.out.kp.below.cell (p := ⟨b, o + j * 4, none⟩) hblt).trans e0
      have d1 := (HJ.out.kp.below.cell (p := ⟨b, o + j * 4 + 1, none⟩) hblt).trans e1
      have d2 := (HJ.out.kp.below.cell (p := ⟨b, o + j * 4 + 2, none⟩) hblt).trans e2
      have d3 := (HJ.out.kp.below.cell (p := ⟨b, o + j * 4 + 3, none⟩) hblt).trans e3
      obtain rfl : a = some ⟨b, o, none⟩ := by
        rcases HA.out with h | h
        · rw [h] at hlt; cases hlt
        · exact h
      have hji : (j : Int) < l.length := by omega
      by_cases hjp : (j : Int) = p
      · have HS := Lib.hid (Sl.woP_skip l p j hjp)
        have HJ2 := Lib.hid (HJ.out.step (oneB' wr (.cells #[.string (str x.key), .string (str x.val), .int .u32 x.chain, .int .u32 x.long] 42)))
        clear e0 e1 e2 e3 hblt hx
        subst hjp
        go_wp2
        go_roundg (l.length - (j + 1))
        case measure => omega
        case rel => exact ⟨j + 1, by omega, rfl, by go_num, s, by rw [HS.out]; exact HJ2⟩
      · have HS := Lib.hid (Sl.woP_snoc l p j x hjp hx)
        obtain ⟨a6, n6, c6, w6, hrun6, m1, m2, m3, _⟩ := (HJ.out.step (oneB' wr (.cells #[.string (str x.key), .string (str x.val), .int .u32 x.chain, .int .u32 x.long] 42))).push x (by
          have h := Sl.woP_upto l p j hk'
          rw [h]
          have h1 := Sl.cutP_le (l.take j) p
          rw [List.length_take] at h1
          omega) (wr.heap.size + 1) (by simp)
        have HM := Lib.hid m3
        have j3 := fun T => (HJ.out.step (oneB' wr (.cells T 42))).c1
        clear e0 e1 e2 e3 hblt hx m3
        go_wp2_with (at_builtin; refine Lib.wpList_append_run _ rfl _ _ _ _ rfl _ _ rfl rfl _ _ hrun6 ?_)
        go_wp2
        go_roundg (l.length - (j + 1))
        case measure => omega
        case rel => exact ⟨j + 1, by omega, rfl, by go_num, _, by rw [HS.out]; exact HM⟩
    · obtain rfl : j = l.length := by omega
      rw [Sl.woP_all] at HJ
      have HLE := Lib.hid (Sl.cutP_le l p)
      have HIN : Hid ((Sl.cutP l p).length < l.length → (0 ≤ p ∧ p < l.length)) := fun h => by
        by_cases hp : 0 ≤ p ∧ p < l.length
        · exact hp
        · rw [Sl.cutP_out l p hp] at h; omega
      have HOUT : Hid (¬ (Sl.cutP l p).length < l.length → ¬ (0 ≤ p ∧ p < l.length)) := fun h hp => by
        obtain ⟨q, rfl⟩ : ∃ q : Nat, p = q := ⟨p.toNat, by omega⟩
        have := Sl.cutP_lt l q (by omega)
        omega
      have HCO : Hid (¬ (0 ≤ p ∧ p < l.length) → Sl.cutP l p = l) := fun h => Sl.cutP_out l p h
      generalize Sl.cutP l p = m at *
      obtain ⟨a6, c6, rfl, hcap⟩ := HJ.out.row.form
      have HC6 := Lib.hid hcap
      have k0 := HJ.out.c0
      have k1 := HJ.out.c1
      have f0' := HJ.out.f0
      have f1' := HJ.out.f1
      obtain ⟨⟨n0, n1⟩, _⟩ := HJ.out.kp.left.two
      obtain ⟨⟨z0, z1⟩, z2, z3⟩ := HJ.out.kp.right.two
      have hq : w.heap.size + 1 < w.heap.size + 1 + 1 + 1 := by omega
      clear hcap
      cases lf with
      | true =>
        go_wp2
        refine bodyPost_ret_by (v := rnV true (.slice a6 m.length c6)) ?_ rfl ?_
        · simp [rnV, results, Try.results19, go_sem, z0, z1]
        · refine ⟨_, rfl, ?_, below_set2 HJ.out.kp.below (by omega)⟩
          rw [HW.out]
          exact ⟨_, rfl, ((HJ.out.row.set hq _).set hq _).sl, HC6.out⟩
      | false =>
        by_cases hm0 : m.length = 0
        · obtain rfl : m = [] := List.length_eq_zero_iff.1 hm0
          have HJ0 : Hid (RowC wr (w.heap.size + 1 + 1 + 1) (.slice a6 0 c6) []) := HJ.out.row
          have HJB := Lib.hid HJ.out.kp.below
          rw [List.length_nil] at k1 HC6
          clear HJ hm0
          go_wp2
          refine bodyPost_ret_by (v := rnV false (.slice a6 0 c6)) ?_ rfl ?_
          · simp [rnV, results, Try.results19, go_sem, z0, z1]
          · refine ⟨_, rfl, ?_, below_set2 HJB.out (by omega)⟩
            rw [HW.out]
            refine ⟨_, rfl, ?_, HC6.out⟩
            have hrr := ((HJ0.out.set (a := ⟨w.heap.size + 1, 0, none⟩) hq (.bool false)).set (a := ⟨w.heap.size + 1, 1, none⟩) hq (.slice a6 0 c6)).sl
            by_cases hp : 0 ≤ p ∧ p < l.length
            · show SlC _ _ (if false = true then ([] : List Cl) else if 0 ≤ p ∧ p < (l.length : Int) then Sl.setC [] [] else l)
              rw [if_neg (by simp), if_pos hp]
              exact hrr
            · show SlC _ _ (if false = true then ([] : List Cl) else if 0 ≤ p ∧ p < (l.length : Int) then Sl.setC [] [] else l)
              rw [if_neg (by simp), if_neg hp, ← HCO.out hp]
              exact hrr
        · have hmi : (0 : Int) < (m.length : Int) := by omega
          by_cases hml : (m.length : Int) < (l.length : Int)
          · have HP := Lib.hid (HIN.out (by omega))
            obtain ⟨g, cap, hav, hg, hnc, hcm, hcell, hfr⟩ := row_someC HJ.out.row (by omega)
            simp only [Value.slice.injEq] at hav
            obtain ⟨rfl, _, rfl⟩ := hav
            obtain ⟨y, hy⟩ : ∃ y, m[0]? = some y := ⟨_, List.getElem?_eq_getElem (by omega)⟩
            have ck0 := hcell 0 (.string (str y.key)) (by
              cases m with
              | nil => simp at hy
              | cons z t => simp at hy; subst hy; rfl)
            have fk0 := hfr 0
            have hg1 : g ≠ w.heap.size + 1 + 1 := by omega
            have hg2 : g ≠ w.heap.size + 1 := by omega
            have q1 : ¬ w.heap.size + 1 + 1 = g := by omega
            have q2 : ¬ w.heap.size + 1 = g := by omega
            have HG := Lib.hid hg
            have HR8 : Hid (RowC (wr.setCell ⟨g, 0, none⟩ (.string ⟨#[]⟩)) (w.heap.size + 1 + 1 + 1) (.slice (some ⟨g, 0, none⟩) m.length c6) (Sl.setC [] m)) := by
              have h := (World.ownsRow.stored HJ.out.row 0 (.string ⟨#[]⟩)).1
              rw [flat_key0] at h
              show World.ownsRow _ _ _ _ _ _ _
              rw [Sl.setC_len]
              exact h
            clear hcell hfr hg hnc hcm hy
            go_wp2
            refine bodyPost_ret_by (v := rnV false (.slice (some ⟨g, 0, none⟩) m.length c6)) ?_ rfl ?_
            · simp [rnV, results, Try.results19, go_sem, z0, z1]
            · refine ⟨_, rfl, ?_, below_set2 (HJ.out.kp.below.setCell (p := ⟨g, 0, none⟩) (by have := HG.out; show _ ≤ g; omega) _) (by omega)⟩
              rw [HW.out]
              refine ⟨_, rfl, ?_, HC6.out⟩
              show SlC _ _ (if false = true then m else if 0 ≤ p ∧ p < (l.length : Int) then Sl.setC [] m else l)
              rw [if_neg (by simp), if_pos HP.out]
              exact ((HR8.out.set hq (.bool false)).set hq _).sl
          · have HP := Lib.hid (HOUT.out (by omega))
            go_wp2
            refine bodyPost_ret_by (v := rnV false (.slice a6 m.length c6)) ?_ rfl ?_
            · simp [rnV, results, Try.results19, go_sem, z0, z1]
            · refine ⟨_, rfl, ?_, below_set2 HJ.out.kp.below (by omega)⟩
              rw [HW.out]
              refine ⟨_, rfl, ?_, HC6.out⟩
              show SlC _ _ (if false = true then m else if 0 ≤ p ∧ p < (l.length : Int) then Sl.setC [] m else l)
              rw [if_neg (by simp), if_neg HP.out, ← HCO.out HP.out]
              exact ((HJ.out.row.set hq (.bool false)).set hq (.slice a6 m.length c6)).sl
end Go.Proofs.Ytpkoehnjladpoaa
