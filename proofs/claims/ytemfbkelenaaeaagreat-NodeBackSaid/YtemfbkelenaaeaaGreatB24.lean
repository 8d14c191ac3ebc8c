/- NodeBack: for every sort, row, cell and number the law answers true. No condition of its own. -/
import Derived.Test.YtemfbkelenaaeaaGreatB23
import Derived.WalkKit
import Derived.ProofKit
import Derived.OpenShut
import Derived.ShutString
import Derived.ChangeOld
import Derived.Below
import Derived.Carry
set_option maxRecDepth 100000
set_option maxHeartbeats 4000000
set_option linter.unusedVariables false
/- A cell that is handed in, opened. -/
namespace Go.Proofs.YtemfbkelenaaeaaGreat
open Go.ChangeShapes Go.WideShapes Go.ChangeAt Go.RowKit Go.Deep
open Sl (Cl Kd)
set_option maxRecDepth 100000 in
theorem open_cell {H : Type} {enc : TypeId × Value → H} {W : World} {r : Reach} {b0 b1 : Nat} {sp : Nat → Bool} {held : Bool} {v : Value} {d : DataW H} {p : List MemPlace}
    (hv : Value.okWide Tryz.prog W r b0 52 v) (h : DataW.Trod enc Tryz.prog W b1 sp held 52 v d p) :
    ∃ x : Cl, v = .agg #[.string (str x.key), .string (str x.val), .int .u32 x.chain, .int .u32 x.long] := by
  obtain ⟨cs, rfl, hsz⟩ := okWide_struct Tryz.underlying52 hv
  obtain ⟨fuel, hf⟩ := h
  obtain ⟨xs, k, hk, hxy, _, hxl, hf'⟩ := DataW.trod_struct Tryz.underlying52 hf
  obtain ⟨l⟩ := cs
  have hl : l.length = 4 := by
    have := hsz.trans cells42
    simpa using this
  obtain ⟨v0, v1, v2, v3, rfl⟩ := list4 l hl
  obtain ⟨y0, y1, y2, y3, rfl⟩ := list4 xs hxl
  have g0 : DataW.trod enc Tryz.prog W b1 sp held k 9 ([v0, v1, v2, v3].drop 0 |>.take (Tryz.prog.cellsOf 9)) = some y0 := hf' 0 _ rfl
  have g1 : DataW.trod enc Tryz.prog W b1 sp held k 9 ([v0, v1, v2, v3].drop 1 |>.take (Tryz.prog.cellsOf 9)) = some y1 := hf' 1 _ rfl
  have g2 : DataW.trod enc Tryz.prog W b1 sp held k 23 ([v0, v1, v2, v3].drop 2 |>.take (Tryz.prog.cellsOf 23)) = some y2 := hf' 2 _ rfl
  have g3 : DataW.trod enc Tryz.prog W b1 sp held k 23 ([v0, v1, v2, v3].drop 3 |>.take (Tryz.prog.cellsOf 23)) = some y3 := hf' 3 _ rfl
  rw [cellsS.1] at g0 g1
  rw [cellsS.2] at g2 g3
  obtain ⟨s, h0, _, _⟩ := DataW.trod_string Tryz.underlying9 g0
  obtain ⟨t, h1, _, _⟩ := DataW.trod_string Tryz.underlying9 g1
  obtain ⟨q2, h2, _, w2⟩ := DataW.trod_int Tryz.underlying23 g2
  obtain ⟨q3, h3, _, w3⟩ := DataW.trod_int Tryz.underlying23 g3
  have e0 : v0 = .string s := by simpa using h0
  have e1 : v1 = .string t := by simpa using h1
  have e2 : v2 = .int .u32 q2 := by simpa using h2
  have e3 : v3 = .int .u32 q3 := by simpa using h3
  obtain ⟨k2, _⟩ := bounds_u32 w2
  obtain ⟨k3, _⟩ := bounds_u32 w3
  obtain ⟨N, rfl⟩ := Int.eq_ofNat_of_zero_le k2
  obtain ⟨M, rfl⟩ := Int.eq_ofNat_of_zero_le k3
  exact ⟨⟨s.data.toList, t.data.toList, N, M⟩, by rw [e0, e1, e2, e3, str_eq, str_eq]⟩
end Go.Proofs.YtemfbkelenaaeaaGreat
namespace Go.Proofs.YtemfbkelenaaeaaGreat.nodeBack
open Go.ChangeShapes Go.WideShapes Go.ChangeAt Go.RowKit
open Go.ChangeMaps (open_string shut_string)
theorem own : ownKnob Tryz.prog.godebug = none := by kernel_rfl
theorem laidOut : laidOutB Tryz.prog = true := by kernel_rfl
set_option maxRecDepth 100000 in
theorem lifted (os : Os) (started : os.Started) (H : Type) (enc : TypeId × Value → H) :
    ReturnsInHanded {} Tryz.checked os 4 .any (Rows.nodeBackSpec.pre6 enc Tryz.prog Tryz.f4 Rows.nodeBackRow.domain false) (Rows.nodeBackSpec.post enc Tryz.prog Tryz.f4 false true false false) := by
  refine returnsInHanded_of_change (C := Tryz.checked) own started (by kernel_rfl) Tryz.func4
    (ChangeSpec.witness6 (enc := enc) (C := Tryz.checked) false ⟨#[], #[.bool false, .slice none 0 0, .agg #[.string ByteArray.empty, .string ByteArray.empty, .int .u32 0, .int .u32 0], .int .u32 0], []⟩ 8 (by kernel_rfl) (by kernel_rfl) (by kernel_rfl) (by kernel_rfl)) ?_
  intro W base args ds gs before hval0 hW hcnd _
  have hval : ∀ (j : Nat) t v, Tryz.f4.params[j]? = some t → args[j]? = some v → Value.okWide Tryz.prog W .any base t v := hval0
  have hW' := hW
  obtain ⟨p, q, hA0, hV, rfl, hfz, hnd⟩ := hW
  have hA : DataW.TrodAll enc Tryz.prog W 0 (fun _ => true) true Tryz.f4.params.toList args.toList ds p := hA0
  rw [Tryz.params4] at hA hval
  obtain ⟨v0, vs0, d0, ds0, p0, q0, hargs, rfl, rfl, h0, r0⟩ := trodAll_cons hA
  obtain ⟨v1, vs1, d1, ds1, p1, q1, rfl, rfl, rfl, h1, r1⟩ := trodAll_cons r0
  obtain ⟨v2, vs2, d2, ds2, p2, q2, rfl, rfl, rfl, h2, r2⟩ := trodAll_cons r1
  obtain ⟨v3, vs3, d3, ds3, p3, q3, rfl, rfl, rfl, h3, r3⟩ := trodAll_cons r2
  obtain ⟨rfl, rfl, rfl⟩ := trodAll_nil r3
  obtain rfl : args = #[v0, v1, v2, v3] := by cases args; simp_all
  obtain ⟨rfl, rfl⟩ := trodVars_none hV
  have k0 := h0
  have lt0 : ∀ x ∈ p0, x.block < W.heap.size := by obtain ⟨m, hm⟩ := k0; exact DataW.trod_lt m _ _ _ hm
  have k1 := h1
  have lt1 : ∀ x ∈ p1, x.block < W.heap.size := by obtain ⟨m, hm⟩ := k1; exact DataW.trod_lt m _ _ _ hm
  have k2 := h2
  have lt2 : ∀ x ∈ p2, x.block < W.heap.size := by obtain ⟨m, hm⟩ := k2; exact DataW.trod_lt m _ _ _ hm
  have k3 := h3
  have lt3 : ∀ x ∈ p3, x.block < W.heap.size := by obtain ⟨m, hm⟩ := k3; exact DataW.trod_lt m _ _ _ hm
  obtain ⟨a0, rfl, _, _⟩ := open_bool Tryz.underlying4 (hval 0 4 v0 rfl rfl) h0
  have hv1 := hval 1 22 v1 rfl rfl
  have hv2 := hval 2 52 v2 rfl rfl
  obtain ⟨a3, rfl, _, _, w3⟩ := open_int Tryz.underlying23 (hval 3 23 v3 rfl rfl) h3
  obtain ⟨l, hm, hl, hs⟩ := open_cells hv1 h1
  have hcp := open_cap hv1 h1
  obtain ⟨x, rfl⟩ := open_cell hv2 h2
  clear hA0 hval0
  refine ((fun _ => back_walk a0 v1 l x a3 hm hl W hs hcp) W).mono fun e W' ⟨he, bel⟩ => ?_
  subst he
  exact ⟨_, rfl, _, _, _, [], _, [], hW', trodAll_mk1 (shut_bool Tryz.underlying4 _), (trodAll_cons_mk (Below.trod laidOut (by kernel_rfl) (of_decide_eq_true (by kernel_rfl)) k0 bel lt0) (trodAll_cons_mk (Below.trod laidOut (by kernel_rfl) (of_decide_eq_true (by kernel_rfl)) k1 bel lt1) (trodAll_cons_mk (Below.trod laidOut (by kernel_rfl) (of_decide_eq_true (by kernel_rfl)) k2 bel lt2) (trodAll_cons_mk (Below.trod laidOut (by kernel_rfl) (of_decide_eq_true (by kernel_rfl)) k3 bel lt3) trodAll_mk0)))), rfl, bel.frame _, fun h => by cases h⟩
theorem over : Rows.nodeBackRow.holds Tryz.pinned (OpenSpec.ofChange Rows.nodeBackSpec) :=
  OpenClaim.holds_of_wide 4 Tryz.f4 rfl rfl rfl rfl rfl rfl rfl ⟨rfl, rfl, rfl, rfl, rfl⟩ rfl rfl rfl rfl rfl (by kernel_rfl) Tryz.func4 (by kernel_rfl)
    (of_decide_eq_true (by kernel_rfl)) (by unfold Func.isWrapper; first | (rw [if_pos (by decide +kernel)]; kernel_rfl) | (rw [if_neg (by decide +kernel)]; exact ⟨rfl, rfl⟩))
    (fun os started H enc _ => lifted os started H enc)
theorem proved : Rows.NodeBackSaid := over
#print axioms proved
end Go.Proofs.YtemfbkelenaaeaaGreat.nodeBack
