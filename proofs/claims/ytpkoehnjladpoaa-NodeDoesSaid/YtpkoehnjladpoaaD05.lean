/- Texts of one seat, merged. -/
import Derived.Test.YtpkoehnjladpoaaD04
import Derived.Test.YtpkoehnjladpoaaD02
import Derived.BigQuiet
import Derived.Deep.QuietTactic
import Derived.Deep.LoopGhost
import Derived.Lib.SliceRun
import Derived.Test.YtpkoehnjladpoaaD03
import Derived.Deep.RegionHeld3
set_option maxRecDepth 100000
set_option maxHeartbeats 4000000
set_option linter.unusedVariables false
/- The contracts of the document's own Same (of a row with itself) and Find. -/
namespace Go.Proofs.Ytpkoehnjladpoaa
open Go.RowKit
open Sl (Cl Kd)
set_option maxHeartbeats 4000000 in
set_option maxRecDepth 100000 in
theorem same_any (v u : Value) (l : List Cl) (hll : l.length ≤ 100000) (w : World) (hv : SlC w v l) (hu : SlC w u l) :
    Calls Try.prog 107 #[v, u] w fun e w' => e = .returned (.bool true) ∧ Below w.heap.size w w' := by
  obtain ⟨a, b, o, c, rfl, ha, hx⟩ := hv
  obtain ⟨a', b', o', c', rfl, ha', hx'⟩ := hu
  have HX := Lib.hid hx
  have HA := Lib.hid ha
  have HX' := Lib.hid hx'
  have HA' := Lib.hid ha'
  clear ha hx ha' hx'
  have hlen : (l.length : Int) ≤ 100000 := by omega
  go_enter Try.func107, Try.ntmps107
  go_wp2
  go_loopg [13] l.length (fun n i wr => ∃ k : Nat, k ≤ l.length ∧ n = l.length - k ∧ i = .int .i64 k ∧ Hid (Below w.heap.size w wr))
  case atStart => exact ⟨0, Nat.zero_le _, rfl, rfl, Below.refl _ _⟩
  case round =>
    obtain ⟨k, hk, rfl, rfl, HB⟩ := hrel
    by_cases hlt : k < l.length
    · obtain ⟨x, hx⟩ := take_some l k hlt
      obtain ⟨e0, e1, e2, e3⟩ := HX.out k x hx
      obtain ⟨y0, y1, y2, y3⟩ := HX'.out k x hx
      have hblt : b < w.heap.size := World.block_lt_of_cell? _ _ e0
      have d0 := (HB.out.cell (p := ⟨b, o + k * 4, none⟩) hblt).trans e0
      have d1 := (HB.out.cell (p := ⟨b, o + k * 4 + 1, none⟩) hblt).trans e1
      have d2 := (HB.out.cell (p := ⟨b, o + k * 4 + 2, none⟩) hblt).trans e2
      have d3 := (HB.out.cell (p := ⟨b, o + k * 4 + 3, none⟩) hblt).trans e3
      have hblt' : b' < w.heap.size := World.block_lt_of_cell? _ _ y0
      have g0 := (HB.out.cell (p := ⟨b', o' + k * 4, none⟩) hblt').trans y0
      have g1 := (HB.out.cell (p := ⟨b', o' + k * 4 + 1, none⟩) hblt').trans y1
      have g2 := (HB.out.cell (p := ⟨b', o' + k * 4 + 2, none⟩) hblt').trans y2
      have g3 := (HB.out.cell (p := ⟨b', o' + k * 4 + 3, none⟩) hblt').trans y3
      obtain rfl : a = some ⟨b, o, none⟩ := by
        rcases HA.out with h | h
        · rw [h] at hlt; cases hlt
        · exact h
      obtain rfl : a' = some ⟨b', o', none⟩ := by
        rcases HA'.out with h | h
        · rw [h] at hlt; cases hlt
        · exact h
      have hki : (k : Int) < l.length := by omega
      have hk0 : (0 : Int) ≤ (k : Int) := by omega
      clear e0 e1 e2 e3 y0 y1 y2 y3 hx hblt hblt'
      go_wp2
      go_quiet (fail)
      go_wp2
      go_roundg (l.length - (k + 1))
      case measure => omega
      case rel => exact ⟨k + 1, by omega, rfl, by go_num, below_drewN HB.out _⟩
    · obtain rfl : k = l.length := by omega
      go_wp2
      go_ret
      exact ⟨rfl, HB.out⟩
end Go.Proofs.Ytpkoehnjladpoaa
/- The document's own node: what it is of the program's; whether two are the same. -/
namespace Go.Proofs.Ytpkoehnjladpoaa.Sl
def toR (n : Nd) : Rn := ⟨n.leaf, if n.leaf then n.cs else n.ks.map toC⟩
def fromN (leaf : Bool) (l : List Cl) : Nd := if leaf then ⟨true, l, []⟩ else ⟨false, [], l.map toK⟩
end Go.Proofs.Ytpkoehnjladpoaa.Sl
namespace Go.Proofs.Ytpkoehnjladpoaa
open Go.RowKit
open Sl (Cl Kd Nd Rn)
inductive RetR (n : Rn) (w : World) (e : Ending) (w' : World) : Prop
  | mk (v : Value) (he : e = .returned v) (hv : RnV w' v n) (hb : Below w.heap.size w w')
theorem rsame10_any (u v : Value) (a : Rn) (w : World) (hu : RnV w u a) (hv : RnV w v a) (hl : a.l.length ≤ 100000) :
    Calls Try.prog 59 #[u, v] w fun e w' => e = .returned (.bool true) ∧ Below w.heap.size w w' := by
  obtain ⟨vc, rfl, hc, hcc⟩ := hu
  obtain ⟨vc', rfl, hc', hcc'⟩ := hv
  have HC := Lib.hid (fun W (hW : Below w.heap.size w W) => same_any vc vc' a.l hl W (hc.below hW) (hc'.below hW))
  unfold rnV
  obtain ⟨a1, n1, c1, _, _, _⟩ := hcc
  obtain ⟨a3, n3, c3, _, _, _⟩ := hcc'
  clear hc hc' hl
  have HB : Hid (∀ o1 o2, Below w.heap.size w ((w.alloc o1).alloc o2)) := fun o1 o2 => ((Below.refl _ _).alloc (Nat.le_refl _) _).alloc (by simp) _
  generalize a.leaf = lf
  go_enter Try.func59, Try.ntmps59
  go_wp2_with (go_at_call 107; refine (HC.out _ (HB.out _ _)).mono ?_; rintro e w1 ⟨rfl, hb1⟩)
  go_ret
  exact ⟨rfl, (HB.out _ _).trans (hb1.mono (HB.out _ _).size)⟩
end Go.Proofs.Ytpkoehnjladpoaa
/- The contract of slices.Clone, at a row of cells. -/
namespace Go.Proofs.Ytpkoehnjladpoaa
open Go.RowKit
open Sl (Cl Kd)
theorem SlC.takeS {w : World} {b o c c' : Nat} {l : List Cl} (h : SlC w (.slice (some ⟨b, o, none⟩) l.length c) l) (q : Nat) (hq : q ≤ l.length) : SlC w (.slice (some ⟨b, o, none⟩) q c') (l.take q) := by
  obtain ⟨a, b1, o1, c1, hv, ha, hx⟩ := h
  simp only [Value.slice.injEq] at hv
  obtain ⟨rfl, _, rfl⟩ := hv
  refine ⟨some ⟨b, o, none⟩, b, o, c', by rw [List.length_take, Nat.min_eq_left hq], .inr rfl, fun j x hj => ?_⟩
  have hjq : j < q ∧ l[j]? = some x := by
    have h1 := (List.getElem?_eq_some_iff.1 hj).1
    rw [List.length_take] at h1
    have h2 : j < q := by omega
    rw [List.getElem?_take_of_lt h2] at hj
    exact ⟨h2, hj⟩
  rcases ha with h0 | h0
  · subst h0; simp at hjq
  · cases h0; exact hx j x hjq.2
theorem SlC.dropS {w : World} {b o c c' : Nat} {l : List Cl} (h : SlC w (.slice (some ⟨b, o, none⟩) l.length c) l) (q : Nat) : SlC w (.slice (some ⟨b, o + q * 4, none⟩) (l.length - q) c') (l.drop q) := by
  obtain ⟨a, b1, o1, c1, hv, ha, hx⟩ := h
  simp only [Value.slice.injEq] at hv
  obtain ⟨rfl, _, rfl⟩ := hv
  refine ⟨some ⟨b, o + q * 4, none⟩, b, o + q * 4, c', by rw [List.length_drop], .inr rfl, fun j x hj => ?_⟩
  rw [List.getElem?_drop] at hj
  rcases ha with h0 | h0
  · subst h0; simp at hj
  · cases h0
    have := hx (q + j) x hj
    rw [show o + q * 4 + j * 4 = o + (q + j) * 4 by rw [Nat.add_mul]; omega]
    exact this
theorem SlC.emptyS (w : World) (a : Option Addr) (c : Nat) : SlC w (.slice a 0 c) [] := ⟨a, 0, 0, c, rfl, .inl rfl, fun j x h => by simp at h⟩
theorem cloneC_any (v : Value) (l : List Cl) (hll : l.length ≤ 100000) (w : World) (hv : SlC w v l) :
    Calls Try.prog 95 #[v] w (OwnC l w) := by
  obtain ⟨i0, hi, hz0, hz1, hz2⟩ := info_parts info42
  have q22 : ∀ (w : World) (a : Option Addr) (n c n' c' : Nat), (binOp .eql 40 (.slice a n c) (.slice none n' c')).run Try.prog w = .ok (.bool a.isNone) w := fun w a n c n' c' => Lib.run_eql_slice_nil w _ _ a n c n' c' Try.underlying40
  obtain ⟨a, b, o, c, rfl, ha, hx⟩ := hv
  have HX := Lib.hid (SlC.flat hx)
  have HA := Lib.hid ha
  clear ha hx
  cases a with
  | none =>
    have hl : l = [] := by
      rcases HA.out with h | h
      · exact h
      · cases h
    subst hl
    go_enter Try.func95, Try.ntmps95
    go_wp2
    go_ret
    exact ⟨_, rfl, World.ownsRow_nil _ _ _ _, Below.refl _ _⟩
  | some ad =>
    go_enter Try.func95, Try.ntmps95
    go_wp2_with (at_builtin; refine wpList_append_own _ rfl _ _ 40 rfl w.heap.size 42 i0 _ 4 40 Try.underlying40 hi hz0 hz1 hz2 rfl (by decide) _ _ _ rfl (World.ownsRow_made w #[] 0 (Nat.le_refl _) (Nat.zero_le _) rfl) ad l.length c (l.flatMap cellsC) rfl ?p0 ?p1 ?p2 ?p3 ?p4 ?p5 ?_)
    case p0 => exact flat_len _ _ cellsC_len _
    case p1 =>
      intro j u hj
      rcases HA.out with h | h
      · subst h; simp at hj
      · cases h
        exact Lib.cell?_alloc_some _ (HX.out j u hj)
    case p2 => exact flat_oneC _
    case p3 => unfold maxLen; omega
    case p4 => omega
    case p5 => simp
    intro v' w1 hown hgrow _
    go_wp2
    go_ret
    refine ⟨v', rfl, ?_, ((Below.refl _ w).alloc (Nat.le_refl _) _).grown hgrow (by simp) (by intro k hk; simp [Value.ownBlock] at hk; omega)⟩
    show w1.ownsRow _ _ _ _ _ _
    simpa using hown
end Go.Proofs.Ytpkoehnjladpoaa
/- The contract of a node's halves. -/
namespace Go.Proofs.Ytpkoehnjladpoaa
open Go.RowKit
open Sl (Cl Kd)
/-- Two rows of the call's own. -/
inductive HalfC (l m : List Cl) (w : World) (e : Ending) (w' : World) : Prop
  | mk (u v : Value) (B : Nat) (he : e = .returned (.tuple #[u, v])) (hu : RowC w' w.heap.size u l) (hlo : ∀ k, u.ownBlock = some k → k < B) (hv : RowC w' B v m) (h1 : w.heap.size ≤ B) (h2 : B ≤ w'.heap.size) (hb : Below w.heap.size w w')
set_option maxRecDepth 100000 in
theorem halvesC_any (v : Value) (l : List Cl) (hll : l.length ≤ 100000) (hl : ∀ x ∈ l, okC x) (w : World) (hv : SlC w v l) (hc : Cap v) :
    Calls Try.prog 91 #[shpC, v] w (HalfC (l.take (Sl.cutAt Sl.shC l)) (l.drop (Sl.cutAt Sl.shC l)) w) := by
  have HL := Lib.hid hl
  have HS1 := Lib.hid (fun W (hW : SlC W v l) => sumC_any v l hll hl W hW)
  have HV := Lib.hid hv
  have HVB : Hid (∀ W, Below w.heap.size w W → SlC W v l) := fun W hW => hv.below hW
  obtain ⟨a, b, o, c, rfl, ha, hx⟩ := hv
  have hcap : l.length ≤ c := by cases hc; assumption
  have hcm : c ≤ maxLen := by cases hc; assumption
  unfold maxLen at hcm
  have HX := Lib.hid hx
  have HA := Lib.hid ha
  clear hl ha hx hc
  unfold shpC at HS1 ⊢
  have HB0 := Lib.hid (BxC.new w)
  have hsm : Sl.sum Sl.shC l ≤ 6579600000 := by have := encC_le l l.length hll; rwa [List.take_length] at this
  go_enter Try.func91, Try.ntmps91
  go_wp2_with (go_at_call 128; refine (HS1.out _ (HVB.out _ ((Below.refl _ _).alloc (Nat.le_refl _) _))).mono ?_; rintro e w1 ⟨rfl, hb1⟩)
  have HB1 := Lib.hid (HB0.out.below hb1 (by simp))
  have HW1 : Hid (Below w.heap.size w w1) := ((Below.refl _ _).alloc (Nat.le_refl _) _).trans (hb1.mono (by simp))
  have HG1 := Lib.hid HB1.out.lt
  clear hb1 HB0 HS1
  revert HB1 HW1 HG1
  generalize hg : w.heap.size = g
  have HG := Lib.hid hg
  clear hg
  intro HB1 HW1 HG1
  go_loopg [6, 7, 9, 10] l.length (fun n c m s i wr => ∃ k : Nat, k ≤ l.length ∧ n = l.length - k ∧ i = .int .i64 ((k : Int) + 1) ∧ c = .int .i64 (Sl.st Sl.shC l k).1 ∧ m = .int .i64 (Sl.st Sl.shC l k).2 ∧ s = .int .i64 (Sl.sum Sl.shC (l.take k) : Nat) ∧ Hid (k = 0 ∨ k < l.length) ∧ Hid (Below (g + 1) w1 wr))
  case atStart => exact ⟨0, Nat.zero_le _, rfl, rfl, rfl, rfl, rfl, .inl rfl, Below.refl _ _⟩
  case round =>
    obtain ⟨k, hk, rfl, rfl, rfl, rfl, rfl, HK, HB⟩ := hrel
    by_cases hlt : k + 1 < l.length
    · obtain ⟨x, hx⟩ := take_some l k (by omega)
      obtain ⟨e0, e1, e2, e3⟩ := HX.out k x hx
      have hblt : b < g := by have h1 := World.block_lt_of_cell? _ _ e0; rw [HG.out] at h1; exact h1
      have HWr := Lib.hid (HW1.out.trans (HB.out.mono (Nat.le_succ g)))
      have d0 := (HWr.out.cell (p := ⟨b, o + k * 4, none⟩) hblt).trans e0
      have d1 := (HWr.out.cell (p := ⟨b, o + k * 4 + 1, none⟩) hblt).trans e1
      have d2 := (HWr.out.cell (p := ⟨b, o + k * 4 + 2, none⟩) hblt).trans e2
      have d3 := (HWr.out.cell (p := ⟨b, o + k * 4 + 3, none⟩) hblt).trans e3
      have HR := Lib.hid (HB1.out.below HB.out (Nat.lt_succ_self g))
      obtain rfl : a = some ⟨b, o, none⟩ := by
        rcases HA.out with h | h
        · rw [h] at hlt; cases hlt
        · exact h
      have HSK := Lib.hid ((congrArg (Sl.sum Sl.shC) (Sl.take_snoc' l k x hx)).trans (Sl.sum_snoc Sl.shC (l.take k) x))
      have HZ := Lib.hid (fun W => sizeC_any x (HL.out x (List.mem_of_getElem? hx)) W)
      have hz : (Sl.shC.enc x).length ≤ 65794 := by first | exact Sl.encC_len x | exact Nat.le_trans (Sl.encK_len x) (by decide)
      have hsk := encC_le l k hll
      have HDF : Hid (Sl.dif Sl.shC l (k + 1) = ((2 * Sl.sum Sl.shC (l.take (k + 1)) : Nat) - (Sl.sum Sl.shC l : Nat) : Int).natAbs) := rfl
      have HL0 := fun (h : k ≠ 0) (h' : Sl.dif Sl.shC l (k + 1) < (Sl.st Sl.shC l k).2) => Lib.hid (Sl.st_less Sl.shC l k h h')
      have HL1 := fun (h : k ≠ 0) (h' : ¬ Sl.dif Sl.shC l (k + 1) < (Sl.st Sl.shC l k).2) => Lib.hid (Sl.st_keep Sl.shC l k h h')
      have HF1 := Lib.hid (Sl.st_first Sl.shC l)
      have hF : Hid (wr.drew.cell? ⟨g, 0, none⟩ = some (.func (.func 97) #[] #[]) ∧ wr.drew.cell? ⟨g, 1, none⟩ = some (.func (.func 98) #[] #[]) ∧ wr.drew.cell? ⟨g, 2, none⟩ = some (.func (.func 99) #[] #[]) ∧ wr.drew.cell? ⟨g, 3, none⟩ = some (.func (.func 100) #[] #[]) ∧ wr.drew.cell? ⟨b, o + k * 4, none⟩ = some (.string (str x.key)) ∧ wr.drew.cell? ⟨b, o + k * 4 + 1, none⟩ = some (.string (str x.val)) ∧ wr.drew.cell? ⟨b, o + k * 4 + 2, none⟩ = some (.int .u32 x.chain) ∧ wr.drew.cell? ⟨b, o + k * 4 + 3, none⟩ = some (.int .u32 x.long) ∧ Below (g + 1) w1 wr.drew) := ⟨HR.out.c0, HR.out.c1, HR.out.c2, HR.out.c3, d0, d1, d2, d3, HB.out.drew⟩
      clear hblt hx
      unfold shpC aggC at HZ
      have hwr1 : IntKind.i64.wrap ((k : Int) + 1 - 1) = (k : Int) := by rw [show (k : Int) + 1 - 1 = k by omega]; exact IntWalk.i64_in _ (by omega)
      have hwr0 : IntKind.i64.wrap (k : Int) = (k : Int) := IntWalk.i64_in _ (by omega)
      have hk0 : (0 : Int) ≤ (k : Int) := by omega
      have hk1 : (k : Int) < l.length := by omega
      have hwr2 : IntKind.i64.wrap ((Sl.sum Sl.shC (l.take k) : Int) + ((2 + (Sl.shC.enc x).length : Nat) : Int)) = (Sl.sum Sl.shC (l.take (k + 1)) : Nat) := by rw [HSK.out]; rw [IntWalk.i64_in _ (by omega)]; omega
      go_wp2_with fail
      go_region_held3 (fun w' => w'.cell? ⟨g, 0, none⟩ = some (.func (.func 97) #[] #[]) ∧ w'.cell? ⟨g, 1, none⟩ = some (.func (.func 98) #[] #[]) ∧ w'.cell? ⟨g, 2, none⟩ = some (.func (.func 99) #[] #[]) ∧ w'.cell? ⟨g, 3, none⟩ = some (.func (.func 100) #[] #[]) ∧ w'.cell? ⟨b, o + k * 4, none⟩ = some (.string (str x.key)) ∧ w'.cell? ⟨b, o + k * 4 + 1, none⟩ = some (.string (str x.val)) ∧ w'.cell? ⟨b, o + k * 4 + 2, none⟩ = some (.int .u32 x.chain) ∧ w'.cell? ⟨b, o + k * 4 + 3, none⟩ = some (.int .u32 x.long) ∧ Below (g + 1) w1 w')
        ((first | assumption | exact step8 (Nat.succ_le_of_lt HG1.out) ‹_› hb | exact hF.out))
        (first
        | (go_at_call 129; refine (HZ.out _).mono ?_; rintro e w4 ⟨rfl, hb⟩))
      rename_i hS
      have HB4 := Lib.hid (last8 hS)
      clear hS
      have HSK2 := Lib.hid HSK.out
      have hdd : ((Sl.dif Sl.shC l (k + 1) : Nat) : Int) = 2 * ((Sl.sum Sl.shC (l.take k) : Int) + (2 + ((Sl.shC.enc x).length : Int))) - (Sl.sum Sl.shC l : Int) ∨ ((Sl.dif Sl.shC l (k + 1) : Nat) : Int) = (Sl.sum Sl.shC l : Int) - 2 * ((Sl.sum Sl.shC (l.take k) : Int) + (2 + ((Sl.shC.enc x).length : Int))) := by
        rw [HDF.out, HSK.out]; omega
      have hdd0 : (0 : Int) ≤ ((Sl.dif Sl.shC l (k + 1) : Nat) : Int) := by omega
      have HDD := Lib.hid hdd
      clear hdd
      clear HSK
      by_cases hmx : 2 * ((Sl.sum Sl.shC (l.take k) : Int) + (2 + ((Sl.shC.enc x).length : Int))) - (Sl.sum Sl.shC l : Int) < (Sl.sum Sl.shC l : Int) - 2 * ((Sl.sum Sl.shC (l.take k) : Int) + (2 + ((Sl.shC.enc x).length : Int)))
      all_goals by_cases h1 : (k : Int) + 1 = 1
      all_goals by_cases h2 : Sl.dif Sl.shC l (k + 1) < (Sl.st Sl.shC l k).2
      all_goals
        have hdn := HDD.out
        try (have h3 : (Sl.sum Sl.shC l : Int) - 2 * ((Sl.sum Sl.shC (l.take k) : Int) + (2 + ((Sl.shC.enc x).length : Int))) < ((Sl.st Sl.shC l k).2 : Nat) := by omega)
        try (have h3 : ¬ (Sl.sum Sl.shC l : Int) - 2 * ((Sl.sum Sl.shC (l.take k) : Int) + (2 + ((Sl.shC.enc x).length : Int))) < ((Sl.st Sl.shC l k).2 : Nat) := by omega)
        try (have h4 : 2 * ((Sl.sum Sl.shC (l.take k) : Int) + (2 + ((Sl.shC.enc x).length : Int))) - (Sl.sum Sl.shC l : Int) < ((Sl.st Sl.shC l k).2 : Nat) := by omega)
        try (have h4 : ¬ 2 * ((Sl.sum Sl.shC (l.take k) : Int) + (2 + ((Sl.shC.enc x).length : Int))) - (Sl.sum Sl.shC l : Int) < ((Sl.st Sl.shC l k).2 : Nat) := by omega)
        clear hdn
        go_wp2
        go_roundg (l.length - (k + 1))
        case measure => omega
        case rel =>
          have hdn := HDD.out
          have hsn := HSK2.out
          refine ⟨k + 1, by omega, rfl, by go_num, ?_, ?_, ?_, .inr hlt, HB4⟩
          · first
            | (rw [show Sl.st Sl.shC l (k + 1) = (k + 1, Sl.dif Sl.shC l (k + 1)) by (obtain rfl : k = 0 := by omega); exact HF1.out]; go_num)
            | (rw [(HL0 (by omega) h2).out]; go_num)
            | (rw [(HL1 (by omega) h2).out])
          · first
            | (rw [show Sl.st Sl.shC l (k + 1) = (k + 1, Sl.dif Sl.shC l (k + 1)) by (obtain rfl : k = 0 := by omega); exact HF1.out]; show Value.int _ _ = Value.int _ _; congr 1; show _ = ((Sl.dif Sl.shC l (k + 1) : Nat) : Int); omega)
            | (rw [(HL0 (by omega) h2).out]; show Value.int _ _ = Value.int _ _; congr 1; show _ = ((Sl.dif Sl.shC l (k + 1) : Nat) : Int); omega)
            | (rw [(HL1 (by omega) h2).out])
          · rw [HSK2.out]; show Value.int _ _ = Value.int _ _; congr 1 <;> first | (rw [IntWalk.i64_in _ (by omega)]; try omega) | omega
    · have hkk : k = l.length - 1 := by rcases HK.out with h | h <;> omega
      have HCA := Lib.hid (Sl.cutAt_st Sl.shC l)
      have HCL := Lib.hid (Sl.cutAt_le Sl.shC l)
      rw [← hkk] at HCA
      have HW3 := Lib.hid (HW1.out.trans (HB.out.mono (Nat.le_succ g)))
      have HVB' : Hid (∀ W, Below g w W → SlC W (.slice a l.length c) l) := fun W hW => HVB.out W (by rw [HG.out]; exact hW)
      clear HB HK hkk HL HV HVB hsm
      obtain ⟨q, hq⟩ : ∃ q, Sl.cutAt Sl.shC l = q := ⟨_, rfl⟩
      have HQ := Lib.hid hq
      rw [hq] at HCA HCL
      clear hq
      rw [← HCA.out]
      rcases HA.out with h | h
      · subst h
        obtain rfl : q = 0 := by have := HCL.out; simp at this; exact this
        have HC1 := Lib.hid (fun W (_ : Below g w W) => cloneC_any _ [] (by decide) W (SlC.emptyS W a c))
        have HC2 := Lib.hid (fun W (_ : Below g w W) => cloneC_any _ [] (by decide) W (SlC.emptyS W a c))
        clear HX HB1 HG1 HCA
        cases a with
        | none =>
          have HD : Hid (Below g w wr.drew) := HW3.out.drew
          go_wp2_with fail
          go_region_held3 (fun w' => Below g w w')
            ((first | assumption | exact ‹Below g w _›.trans (hb.mono (by have := (‹Below g w _› : Below g w _).size; rw [HG.out] at this; exact this)) | exact HD.out))
            (first
            | (go_at_call 95; with_reducible refine (HC2.out _ (by assumption)).mono ?_; rintro e w5 ⟨v2, rfl, hr2, hb⟩; have HR2 := Lib.hid hr2; have HS5 := Lib.hid hb.size; have HR1' := Lib.hid (HR1.out.below hb); clear hr2)
            | (go_at_call 95; with_reducible refine (HC1.out _ (by assumption)).mono ?_; rintro e w4 ⟨v1, rfl, hr1, hb⟩; have HR1 := Lib.hid hr1; have HS4 := Lib.hid (Nat.le_trans HD.out.size hb.size); have HLO := Lib.hid hr1.lo; clear hr1))
          rename_i hS
          have HBE := Lib.hid hS
          clear hS
          go_wp2
          go_ret2
          refine ⟨v1, v2, w4.heap.size, rfl, ?_, HLO.out, ?_, HS4.out, HS5.out, by rw [HG.out]; exact HBE.out⟩
          · rw [List.take_nil]; exact HR1'.out.base (Nat.le_trans HW3.out.size (Nat.le_refl _))
          · rw [List.drop_nil]; exact HR2.out
        | some ad =>
          have HD : Hid (Below g w wr.drew) := HW3.out.drew
          go_wp2_with fail
          go_region_held3 (fun w' => Below g w w')
            ((first | assumption | exact ‹Below g w _›.trans (hb.mono (by have := (‹Below g w _› : Below g w _).size; rw [HG.out] at this; exact this)) | exact HD.out))
            (first
            | (go_at_call 95; with_reducible refine (HC2.out _ (by assumption)).mono ?_; rintro e w5 ⟨v2, rfl, hr2, hb⟩; have HR2 := Lib.hid hr2; have HS5 := Lib.hid hb.size; have HR1' := Lib.hid (HR1.out.below hb); clear hr2)
            | (go_at_call 95; with_reducible refine (HC1.out _ (by assumption)).mono ?_; rintro e w4 ⟨v1, rfl, hr1, hb⟩; have HR1 := Lib.hid hr1; have HS4 := Lib.hid (Nat.le_trans HD.out.size hb.size); have HLO := Lib.hid hr1.lo; clear hr1))
          rename_i hS
          have HBE := Lib.hid hS
          clear hS
          go_wp2
          go_ret2
          refine ⟨v1, v2, w4.heap.size, rfl, ?_, HLO.out, ?_, HS4.out, HS5.out, by rw [HG.out]; exact HBE.out⟩
          · rw [List.take_nil]; exact HR1'.out.base (Nat.le_trans HW3.out.size (Nat.le_refl _))
          · rw [List.drop_nil]; exact HR2.out
      · subst h
        have hq0 : (0 : Int) ≤ (q : Int) := by omega
        have hq1 : (q : Int) ≤ l.length := by have := HCL.out; omega
        have hq2 : (q : Int) ≤ c := by omega
        have hq3 : (l.length : Int) ≤ c := by omega
        have HSW := Lib.hid (fun W (hW : Below g w W) => HVB'.out W hW)
        clear HX HB1 HG1 HCA
        have HC1 := Lib.hid (fun W (hW : Below g w W) => cloneC_any _ (l.take q) (by rw [List.length_take]; omega) W ((HSW.out W hW).takeS (c' := c) q HCL.out))
        by_cases hcq : c = q
        · have hlq : l.length = q := by omega
          subst hcq
          have hnn : (l.length : Int) - (c : Int) = 0 := by omega
          have hn2 : l.length - c = 0 := by omega
          have HC2 := Lib.hid (fun W (_ : Below g w W) => cloneC_any _ [] (by decide) W (SlC.emptyS W (some ⟨b, o, none⟩) 0))
          have HD : Hid (Below g w wr.drew) := HW3.out.drew
          go_wp2_with fail
          go_region_held3 (fun w' => Below g w w')
            ((first | assumption | exact ‹Below g w _›.trans (hb.mono (by have := (‹Below g w _› : Below g w _).size; rw [HG.out] at this; exact this)) | exact HD.out))
            (first
            | (go_at_call 95; with_reducible refine (HC2.out _ (by assumption)).mono ?_; rintro e w5 ⟨v2, rfl, hr2, hb⟩; have HR2 := Lib.hid hr2; have HS5 := Lib.hid hb.size; have HR1' := Lib.hid (HR1.out.below hb); clear hr2)
            | (go_at_call 95; with_reducible refine (HC1.out _ (by assumption)).mono ?_; rintro e w4 ⟨v1, rfl, hr1, hb⟩; have HR1 := Lib.hid hr1; have HS4 := Lib.hid (Nat.le_trans HD.out.size hb.size); have HLO := Lib.hid hr1.lo; clear hr1))
          rename_i hS
          have HBE := Lib.hid hS
          clear hS
          go_wp2
          go_ret2
          refine ⟨v1, v2, w4.heap.size, rfl, ?_, HLO.out, ?_, HS4.out, HS5.out, by rw [HG.out]; exact HBE.out⟩
          · rw [HQ.out]; exact HR1'.out.base (Nat.le_trans HW3.out.size (Nat.le_refl _))
          · rw [HQ.out, List.drop_eq_nil_of_le (by omega)]; exact HR2.out
        · have HC2 := Lib.hid (fun W (hW : Below g w W) => cloneC_any _ (l.drop q) (by rw [List.length_drop]; omega) W ((HSW.out W hW).dropS (c' := c - q) q))
          have HD : Hid (Below g w wr.drew) := HW3.out.drew
          go_wp2_with fail
          go_region_held3 (fun w' => Below g w w')
            ((first | assumption | exact ‹Below g w _›.trans (hb.mono (by have := (‹Below g w _› : Below g w _).size; rw [HG.out] at this; exact this)) | exact HD.out))
            (first
            | (go_at_call 95; with_reducible refine (HC2.out _ (by assumption)).mono ?_; rintro e w5 ⟨v2, rfl, hr2, hb⟩; have HR2 := Lib.hid hr2; have HS5 := Lib.hid hb.size; have HR1' := Lib.hid (HR1.out.below hb); clear hr2)
            | (go_at_call 95; with_reducible refine (HC1.out _ (by assumption)).mono ?_; rintro e w4 ⟨v1, rfl, hr1, hb⟩; have HR1 := Lib.hid hr1; have HS4 := Lib.hid (Nat.le_trans HD.out.size hb.size); have HLO := Lib.hid hr1.lo; clear hr1))
          rename_i hS
          have HBE := Lib.hid hS
          clear hS
          go_wp2
          go_ret2
          refine ⟨v1, v2, w4.heap.size, rfl, ?_, HLO.out, ?_, HS4.out, HS5.out, by rw [HG.out]; exact HBE.out⟩
          · rw [HQ.out]; exact HR1'.out.base (Nat.le_trans HW3.out.size (Nat.le_refl _))
          · rw [HQ.out]; exact HR2.out
end Go.Proofs.Ytpkoehnjladpoaa
/- The contract of slices.Clone, at a row of cells. -/
namespace Go.Proofs.Ytpkoehnjladpoaa
open Go.RowKit
open Sl (Cl Kd)
theorem SlK.takeS {w : World} {b o c c' : Nat} {l : List Kd} (h : SlK w (.slice (some ⟨b, o, none⟩) l.length c) l) (q : Nat) (hq : q ≤ l.length) : SlK w (.slice (some ⟨b, o, none⟩) q c') (l.take q) := by
  obtain ⟨a, b1, o1, c1, hv, ha, hx⟩ := h
  simp only [Value.slice.injEq] at hv
  obtain ⟨rfl, _, rfl⟩ := hv
  refine ⟨some ⟨b, o, none⟩, b, o, c', by rw [List.length_take, Nat.min_eq_left hq], .inr rfl, fun j x hj => ?_⟩
  have hjq : j < q ∧ l[j]? = some x := by
    have h1 := (List.getElem?_eq_some_iff.1 hj).1
    rw [List.length_take] at h1
    have h2 : j < q := by omega
    rw [List.getElem?_take_of_lt h2] at hj
    exact ⟨h2, hj⟩
  rcases ha with h0 | h0
  · subst h0; simp at hjq
  · cases h0; exact hx j x hjq.2
theorem SlK.dropS {w : World} {b o c c' : Nat} {l : List Kd} (h : SlK w (.slice (some ⟨b, o, none⟩) l.length c) l) (q : Nat) : SlK w (.slice (some ⟨b, o + q * 2, none⟩) (l.length - q) c') (l.drop q) := by
  obtain ⟨a, b1, o1, c1, hv, ha, hx⟩ := h
  simp only [Value.slice.injEq] at hv
  obtain ⟨rfl, _, rfl⟩ := hv
  refine ⟨some ⟨b, o + q * 2, none⟩, b, o + q * 2, c', by rw [List.length_drop], .inr rfl, fun j x hj => ?_⟩
  rw [List.getElem?_drop] at hj
  rcases ha with h0 | h0
  · subst h0; simp at hj
  · cases h0
    have := hx (q + j) x hj
    rw [show o + q * 2 + j * 2 = o + (q + j) * 2 by rw [Nat.add_mul]; omega]
    exact this
theorem SlK.emptyS (w : World) (a : Option Addr) (c : Nat) : SlK w (.slice a 0 c) [] := ⟨a, 0, 0, c, rfl, .inl rfl, fun j x h => by simp at h⟩
theorem cloneK_any (v : Value) (l : List Kd) (hll : l.length ≤ 100000) (w : World) (hv : SlK w v l) :
    Calls Try.prog 96 #[v] w (OwnK l w) := by
  obtain ⟨i0, hi, hz0, hz1, hz2⟩ := info_parts info47
  have q22 : ∀ (w : World) (a : Option Addr) (n c n' c' : Nat), (binOp .eql 44 (.slice a n c) (.slice none n' c')).run Try.prog w = .ok (.bool a.isNone) w := fun w a n c n' c' => Lib.run_eql_slice_nil w _ _ a n c n' c' Try.underlying44
  obtain ⟨a, b, o, c, rfl, ha, hx⟩ := hv
  have HX := Lib.hid (SlK.flat hx)
  have HA := Lib.hid ha
  clear ha hx
  cases a with
  | none =>
    have hl : l = [] := by
      rcases HA.out with h | h
      · exact h
      · cases h
    subst hl
    go_enter Try.func96, Try.ntmps96
    go_wp2
    go_ret
    exact ⟨_, rfl, World.ownsRow_nil _ _ _ _, Below.refl _ _⟩
  | some ad =>
    go_enter Try.func96, Try.ntmps96
    go_wp2_with (at_builtin; refine wpList_append_own _ rfl _ _ 44 rfl w.heap.size 52 i0 _ 2 24 Try.underlying44 hi hz0 hz1 hz2 rfl (by decide) _ _ _ rfl (World.ownsRow_made w #[] 0 (Nat.le_refl _) (Nat.zero_le _) rfl) ad l.length c (l.flatMap cellsK) rfl ?p0 ?p1 ?p2 ?p3 ?p4 ?p5 ?_)
    case p0 => exact flat_len _ _ cellsK_len _
    case p1 =>
      intro j u hj
      rcases HA.out with h | h
      · subst h; simp at hj
      · cases h
        exact Lib.cell?_alloc_some _ (HX.out j u hj)
    case p2 => exact flat_oneK _
    case p3 => unfold maxLen; omega
    case p4 => omega
    case p5 => simp
    intro v' w1 hown hgrow _
    go_wp2
    go_ret
    refine ⟨v', rfl, ?_, ((Below.refl _ w).alloc (Nat.le_refl _) _).grown hgrow (by simp) (by intro k hk; simp [Value.ownBlock] at hk; omega)⟩
    show w1.ownsRow _ _ _ _ _ _
    simpa using hown
end Go.Proofs.Ytpkoehnjladpoaa
/- The contract of a node's halves. -/
namespace Go.Proofs.Ytpkoehnjladpoaa
open Go.RowKit
open Sl (Cl Kd)
/-- Two rows of the call's own. -/
inductive HalfK (l m : List Kd) (w : World) (e : Ending) (w' : World) : Prop
  | mk (u v : Value) (B : Nat) (he : e = .returned (.tuple #[u, v])) (hu : RowK w' w.heap.size u l) (hlo : ∀ k, u.ownBlock = some k → k < B) (hv : RowK w' B v m) (h1 : w.heap.size ≤ B) (h2 : B ≤ w'.heap.size) (hb : Below w.heap.size w w')
set_option maxRecDepth 100000 in
theorem halvesK_any (v : Value) (l : List Kd) (hll : l.length ≤ 100000) (hl : ∀ x ∈ l, okK x) (w : World) (hv : SlK w v l) (hc : Cap v) :
    Calls Try.prog 93 #[shpK, v] w (HalfK (l.take (Sl.cutAt Sl.shK l)) (l.drop (Sl.cutAt Sl.shK l)) w) := by
  have HL := Lib.hid hl
  have HS1 := Lib.hid (fun W (hW : SlK W v l) => sumK_any v l hll hl W hW)
  have HV := Lib.hid hv
  have HVB : Hid (∀ W, Below w.heap.size w W → SlK W v l) := fun W hW => hv.below hW
  obtain ⟨a, b, o, c, rfl, ha, hx⟩ := hv
  have hcap : l.length ≤ c := by cases hc; assumption
  have hcm : c ≤ maxLen := by cases hc; assumption
  unfold maxLen at hcm
  have HX := Lib.hid hx
  have HA := Lib.hid ha
  clear hl ha hx hc
  unfold shpK at HS1 ⊢
  have HB0 := Lib.hid (BxK.new w)
  have hsm : Sl.sum Sl.shK l ≤ 6579600000 := by have := encK_le l l.length hll; rwa [List.take_length] at this
  go_enter Try.func93, Try.ntmps93
  go_wp2_with (go_at_call 130; refine (HS1.out _ (HVB.out _ ((Below.refl _ _).alloc (Nat.le_refl _) _))).mono ?_; rintro e w1 ⟨rfl, hb1⟩)
  have HB1 := Lib.hid (HB0.out.below hb1 (by simp))
  have HW1 : Hid (Below w.heap.size w w1) := ((Below.refl _ _).alloc (Nat.le_refl _) _).trans (hb1.mono (by simp))
  have HG1 := Lib.hid HB1.out.lt
  clear hb1 HB0 HS1
  revert HB1 HW1 HG1
  generalize hg : w.heap.size = g
  have HG := Lib.hid hg
  clear hg
  intro HB1 HW1 HG1
  go_loopg [6, 7, 9, 10] l.length (fun n c m s i wr => ∃ k : Nat, k ≤ l.length ∧ n = l.length - k ∧ i = .int .i64 ((k : Int) + 1) ∧ c = .int .i64 (Sl.st Sl.shK l k).1 ∧ m = .int .i64 (Sl.st Sl.shK l k).2 ∧ s = .int .i64 (Sl.sum Sl.shK (l.take k) : Nat) ∧ Hid (k = 0 ∨ k < l.length) ∧ Hid (Below (g + 1) w1 wr))
  case atStart => exact ⟨0, Nat.zero_le _, rfl, rfl, rfl, rfl, rfl, .inl rfl, Below.refl _ _⟩
  case round =>
    obtain ⟨k, hk, rfl, rfl, rfl, rfl, rfl, HK, HB⟩ := hrel
    by_cases hlt : k + 1 < l.length
    · obtain ⟨x, hx⟩ := take_some l k (by omega)
      obtain ⟨e0, e1⟩ := HX.out k x hx
      have hblt : b < g := by have h1 := World.block_lt_of_cell? _ _ e0; rw [HG.out] at h1; exact h1
      have HWr := Lib.hid (HW1.out.trans (HB.out.mono (Nat.le_succ g)))
      have d0 := (HWr.out.cell (p := ⟨b, o + k * 2, none⟩) hblt).trans e0
      have d1 := (HWr.out.cell (p := ⟨b, o + k * 2 + 1, none⟩) hblt).trans e1
      have HR := Lib.hid (HB1.out.below HB.out (Nat.lt_succ_self g))
      obtain rfl : a = some ⟨b, o, none⟩ := by
        rcases HA.out with h | h
        · rw [h] at hlt; cases hlt
        · exact h
      have HSK := Lib.hid ((congrArg (Sl.sum Sl.shK) (Sl.take_snoc' l k x hx)).trans (Sl.sum_snoc Sl.shK (l.take k) x))
      have HZ := Lib.hid (fun W => sizeK_any x (HL.out x (List.mem_of_getElem? hx)) W)
      have hz : (Sl.shK.enc x).length ≤ 65794 := by first | exact Sl.encC_len x | exact Nat.le_trans (Sl.encK_len x) (by decide)
      have hsk := encK_le l k hll
      have HDF : Hid (Sl.dif Sl.shK l (k + 1) = ((2 * Sl.sum Sl.shK (l.take (k + 1)) : Nat) - (Sl.sum Sl.shK l : Nat) : Int).natAbs) := rfl
      have HL0 := fun (h : k ≠ 0) (h' : Sl.dif Sl.shK l (k + 1) < (Sl.st Sl.shK l k).2) => Lib.hid (Sl.st_less Sl.shK l k h h')
      have HL1 := fun (h : k ≠ 0) (h' : ¬ Sl.dif Sl.shK l (k + 1) < (Sl.st Sl.shK l k).2) => Lib.hid (Sl.st_keep Sl.shK l k h h')
      have HF1 := Lib.hid (Sl.st_first Sl.shK l)
      have hF : Hid (wr.drew.cell? ⟨g, 0, none⟩ = some (.func (.func 111) #[] #[]) ∧ wr.drew.cell? ⟨g, 1, none⟩ = some (.func (.func 113) #[] #[]) ∧ wr.drew.cell? ⟨g, 2, none⟩ = some (.func (.func 114) #[] #[]) ∧ wr.drew.cell? ⟨g, 3, none⟩ = some (.nilFunc) ∧ wr.drew.cell? ⟨b, o + k * 2, none⟩ = some (.string (str x.key)) ∧ wr.drew.cell? ⟨b, o + k * 2 + 1, none⟩ = some (.int .u32 x.page) ∧ Below (g + 1) w1 wr.drew) := ⟨HR.out.c0, HR.out.c1, HR.out.c2, HR.out.c3, d0, d1, HB.out.drew⟩
      clear hblt hx
      unfold shpK aggK at HZ
      have hwr1 : IntKind.i64.wrap ((k : Int) + 1 - 1) = (k : Int) := by rw [show (k : Int) + 1 - 1 = k by omega]; exact IntWalk.i64_in _ (by omega)
      have hwr0 : IntKind.i64.wrap (k : Int) = (k : Int) := IntWalk.i64_in _ (by omega)
      have hk0 : (0 : Int) ≤ (k : Int) := by omega
      have hk1 : (k : Int) < l.length := by omega
      have hwr2 : IntKind.i64.wrap ((Sl.sum Sl.shK (l.take k) : Int) + ((2 + (Sl.shK.enc x).length : Nat) : Int)) = (Sl.sum Sl.shK (l.take (k + 1)) : Nat) := by rw [HSK.out]; rw [IntWalk.i64_in _ (by omega)]; omega
      go_wp2_with fail
      go_region_held3 (fun w' => w'.cell? ⟨g, 0, none⟩ = some (.func (.func 111) #[] #[]) ∧ w'.cell? ⟨g, 1, none⟩ = some (.func (.func 113) #[] #[]) ∧ w'.cell? ⟨g, 2, none⟩ = some (.func (.func 114) #[] #[]) ∧ w'.cell? ⟨g, 3, none⟩ = some (.nilFunc) ∧ w'.cell? ⟨b, o + k * 2, none⟩ = some (.string (str x.key)) ∧ w'.cell? ⟨b, o + k * 2 + 1, none⟩ = some (.int .u32 x.page) ∧ Below (g + 1) w1 w')
        ((first | assumption | exact step6 (Nat.succ_le_of_lt HG1.out) ‹_› hb | exact hF.out))
        (first
        | (go_at_call 131; refine (HZ.out _).mono ?_; rintro e w4 ⟨rfl, hb⟩))
      rename_i hS
      have HB4 := Lib.hid (last6 hS)
      clear hS
      have HSK2 := Lib.hid HSK.out
      have hdd : ((Sl.dif Sl.shK l (k + 1) : Nat) : Int) = 2 * ((Sl.sum Sl.shK (l.take k) : Int) + (2 + ((Sl.shK.enc x).length : Int))) - (Sl.sum Sl.shK l : Int) ∨ ((Sl.dif Sl.shK l (k + 1) : Nat) : Int) = (Sl.sum Sl.shK l : Int) - 2 * ((Sl.sum Sl.shK (l.take k) : Int) + (2 + ((Sl.shK.enc x).length : Int))) := by
        rw [HDF.out, HSK.out]; omega
      have hdd0 : (0 : Int) ≤ ((Sl.dif Sl.shK l (k + 1) : Nat) : Int) := by omega
      have HDD := Lib.hid hdd
      clear hdd
      clear HSK
      by_cases hmx : 2 * ((Sl.sum Sl.shK (l.take k) : Int) + (2 + ((Sl.shK.enc x).length : Int))) - (Sl.sum Sl.shK l : Int) < (Sl.sum Sl.shK l : Int) - 2 * ((Sl.sum Sl.shK (l.take k) : Int) + (2 + ((Sl.shK.enc x).length : Int)))
      all_goals by_cases h1 : (k : Int) + 1 = 1
      all_goals by_cases h2 : Sl.dif Sl.shK l (k + 1) < (Sl.st Sl.shK l k).2
      all_goals
        have hdn := HDD.out
        try (have h3 : (Sl.sum Sl.shK l : Int) - 2 * ((Sl.sum Sl.shK (l.take k) : Int) + (2 + ((Sl.shK.enc x).length : Int))) < ((Sl.st Sl.shK l k).2 : Nat) := by omega)
        try (have h3 : ¬ (Sl.sum Sl.shK l : Int) - 2 * ((Sl.sum Sl.shK (l.take k) : Int) + (2 + ((Sl.shK.enc x).length : Int))) < ((Sl.st Sl.shK l k).2 : Nat) := by omega)
        try (have h4 : 2 * ((Sl.sum Sl.shK (l.take k) : Int) + (2 + ((Sl.shK.enc x).length : Int))) - (Sl.sum Sl.shK l : Int) < ((Sl.st Sl.shK l k).2 : Nat) := by omega)
        try (have h4 : ¬ 2 * ((Sl.sum Sl.shK (l.take k) : Int) + (2 + ((Sl.shK.enc x).length : Int))) - (Sl.sum Sl.shK l : Int) < ((Sl.st Sl.shK l k).2 : Nat) := by omega)
        clear hdn
        go_wp2
        go_roundg (l.length - (k + 1))
        case measure => omega
        case rel =>
          have hdn := HDD.out
          have hsn := HSK2.out
          refine ⟨k + 1, by omega, rfl, by go_num, ?_, ?_, ?_, .inr hlt, HB4⟩
          · first
            | (rw [show Sl.st Sl.shK l (k + 1) = (k + 1, Sl.dif Sl.shK l (k + 1)) by (obtain rfl : k = 0 := by omega); exact HF1.out]; go_num)
            | (rw [(HL0 (by omega) h2).out]; go_num)
            | (rw [(HL1 (by omega) h2).out])
          · first
            | (rw [show Sl.st Sl.shK l (k + 1) = (k + 1, Sl.dif Sl.shK l (k + 1)) by (obtain rfl : k = 0 := by omega); exact HF1.out]; show Value.int _ _ = Value.int _ _; congr 1; show _ = ((Sl.dif Sl.shK l (k + 1) : Nat) : Int); omega)
            | (rw [(HL0 (by omega) h2).out]; show Value.int _ _ = Value.int _ _; congr 1; show _ = ((Sl.dif Sl.shK l (k + 1) : Nat) : Int); omega)
            | (rw [(HL1 (by omega) h2).out])
          · rw [HSK2.out]; show Value.int _ _ = Value.int _ _; congr 1 <;> first | (rw [IntWalk.i64_in _ (by omega)]; try omega) | omega
    · have hkk : k = l.length - 1 := by rcases HK.out with h | h <;> omega
      have HCA := Lib.hid (Sl.cutAt_st Sl.shK l)
      have HCL := Lib.hid (Sl.cutAt_le Sl.shK l)
      rw [← hkk] at HCA
      have HW3 := Lib.hid (HW1.out.trans (HB.out.mono (Nat.le_succ g)))
      have HVB' : Hid (∀ W, Below g w W → SlK W (.slice a l.length c) l) := fun W hW => HVB.out W (by rw [HG.out]; exact hW)
      clear HB HK hkk HL HV HVB hsm
      obtain ⟨q, hq⟩ : ∃ q, Sl.cutAt Sl.shK l = q := ⟨_, rfl⟩
      have HQ := Lib.hid hq
      rw [hq] at HCA HCL
      clear hq
      rw [← HCA.out]
      rcases HA.out with h | h
      · subst h
        obtain rfl : q = 0 := by have := HCL.out; simp at this; exact this
        have HC1 := Lib.hid (fun W (_ : Below g w W) => cloneK_any _ [] (by decide) W (SlK.emptyS W a c))
        have HC2 := Lib.hid (fun W (_ : Below g w W) => cloneK_any _ [] (by decide) W (SlK.emptyS W a c))
        clear HX HB1 HG1 HCA
        cases a with
        | none =>
          have HD : Hid (Below g w wr.drew) := HW3.out.drew
          go_wp2_with fail
          go_region_held3 (fun w' => Below g w w')
            ((first | assumption | exact ‹Below g w _›.trans (hb.mono (by have := (‹Below g w _› : Below g w _).size; rw [HG.out] at this; exact this)) | exact HD.out))
            (first
            | (go_at_call 96; with_reducible refine (HC2.out _ (by assumption)).mono ?_; rintro e w5 ⟨v2, rfl, hr2, hb⟩; have HR2 := Lib.hid hr2; have HS5 := Lib.hid hb.size; have HR1' := Lib.hid (HR1.out.below hb); clear hr2)
            | (go_at_call 96; with_reducible refine (HC1.out _ (by assumption)).mono ?_; rintro e w4 ⟨v1, rfl, hr1, hb⟩; have HR1 := Lib.hid hr1; have HS4 := Lib.hid (Nat.le_trans HD.out.size hb.size); have HLO := Lib.hid hr1.lo; clear hr1))
          rename_i hS
          have HBE := Lib.hid hS
          clear hS
          go_wp2
          go_ret2
          refine ⟨v1, v2, w4.heap.size, rfl, ?_, HLO.out, ?_, HS4.out, HS5.out, by rw [HG.out]; exact HBE.out⟩
          · rw [List.take_nil]; exact HR1'.out.base (Nat.le_trans HW3.out.size (Nat.le_refl _))
          · rw [List.drop_nil]; exact HR2.out
        | some ad =>
          have HD : Hid (Below g w wr.drew) := HW3.out.drew
          go_wp2_with fail
          go_region_held3 (fun w' => Below g w w')
            ((first | assumption | exact ‹Below g w _›.trans (hb.mono (by have := (‹Below g w _› : Below g w _).size; rw [HG.out] at this; exact this)) | exact HD.out))
            (first
            | (go_at_call 96; with_reducible refine (HC2.out _ (by assumption)).mono ?_; rintro e w5 ⟨v2, rfl, hr2, hb⟩; have HR2 := Lib.hid hr2; have HS5 := Lib.hid hb.size; have HR1' := Lib.hid (HR1.out.below hb); clear hr2)
            | (go_at_call 96; with_reducible refine (HC1.out _ (by assumption)).mono ?_; rintro e w4 ⟨v1, rfl, hr1, hb⟩; have HR1 := Lib.hid hr1; have HS4 := Lib.hid (Nat.le_trans HD.out.size hb.size); have HLO := Lib.hid hr1.lo; clear hr1))
          rename_i hS
          have HBE := Lib.hid hS
          clear hS
          go_wp2
          go_ret2
          refine ⟨v1, v2, w4.heap.size, rfl, ?_, HLO.out, ?_, HS4.out, HS5.out, by rw [HG.out]; exact HBE.out⟩
          · rw [List.take_nil]; exact HR1'.out.base (Nat.le_trans HW3.out.size (Nat.le_refl _))
          · rw [List.drop_nil]; exact HR2.out
      · subst h
        have hq0 : (0 : Int) ≤ (q : Int) := by omega
        have hq1 : (q : Int) ≤ l.length := by have := HCL.out; omega
        have hq2 : (q : Int) ≤ c := by omega
        have hq3 : (l.length : Int) ≤ c := by omega
        have HSW := Lib.hid (fun W (hW : Below g w W) => HVB'.out W hW)
        clear HX HB1 HG1 HCA
        have HC1 := Lib.hid (fun W (hW : Below g w W) => cloneK_any _ (l.take q) (by rw [List.length_take]; omega) W ((HSW.out W hW).takeS (c' := c) q HCL.out))
        by_cases hcq : c = q
        · have hlq : l.length = q := by omega
          subst hcq
          have hnn : (l.length : Int) - (c : Int) = 0 := by omega
          have hn2 : l.length - c = 0 := by omega
          have HC2 := Lib.hid (fun W (_ : Below g w W) => cloneK_any _ [] (by decide) W (SlK.emptyS W (some ⟨b, o, none⟩) 0))
          have HD : Hid (Below g w wr.drew) := HW3.out.drew
          go_wp2_with fail
          go_region_held3 (fun w' => Below g w w')
            ((first | assumption | exact ‹Below g w _›.trans (hb.mono (by have := (‹Below g w _› : Below g w _).size; rw [HG.out] at this; exact this)) | exact HD.out))
            (first
            | (go_at_call 96; with_reducible refine (HC2.out _ (by assumption)).mono ?_; rintro e w5 ⟨v2, rfl, hr2, hb⟩; have HR2 := Lib.hid hr2; have HS5 := Lib.hid hb.size; have HR1' := Lib.hid (HR1.out.below hb); clear hr2)
            | (go_at_call 96; with_reducible refine (HC1.out _ (by assumption)).mono ?_; rintro e w4 ⟨v1, rfl, hr1, hb⟩; have HR1 := Lib.hid hr1; have HS4 := Lib.hid (Nat.le_trans HD.out.size hb.size); have HLO := Lib.hid hr1.lo; clear hr1))
          rename_i hS
          have HBE := Lib.hid hS
          clear hS
          go_wp2
          go_ret2
          refine ⟨v1, v2, w4.heap.size, rfl, ?_, HLO.out, ?_, HS4.out, HS5.out, by rw [HG.out]; exact HBE.out⟩
          · rw [HQ.out]; exact HR1'.out.base (Nat.le_trans HW3.out.size (Nat.le_refl _))
          · rw [HQ.out, List.drop_eq_nil_of_le (by omega)]; exact HR2.out
        · have HC2 := Lib.hid (fun W (hW : Below g w W) => cloneK_any _ (l.drop q) (by rw [List.length_drop]; omega) W ((HSW.out W hW).dropS (c' := c - q) q))
          have HD : Hid (Below g w wr.drew) := HW3.out.drew
          go_wp2_with fail
          go_region_held3 (fun w' => Below g w w')
            ((first | assumption | exact ‹Below g w _›.trans (hb.mono (by have := (‹Below g w _› : Below g w _).size; rw [HG.out] at this; exact this)) | exact HD.out))
            (first
            | (go_at_call 96; with_reducible refine (HC2.out _ (by assumption)).mono ?_; rintro e w5 ⟨v2, rfl, hr2, hb⟩; have HR2 := Lib.hid hr2; have HS5 := Lib.hid hb.size; have HR1' := Lib.hid (HR1.out.below hb); clear hr2)
            | (go_at_call 96; with_reducible refine (HC1.out _ (by assumption)).mono ?_; rintro e w4 ⟨v1, rfl, hr1, hb⟩; have HR1 := Lib.hid hr1; have HS4 := Lib.hid (Nat.le_trans HD.out.size hb.size); have HLO := Lib.hid hr1.lo; clear hr1))
          rename_i hS
          have HBE := Lib.hid hS
          clear hS
          go_wp2
          go_ret2
          refine ⟨v1, v2, w4.heap.size, rfl, ?_, HLO.out, ?_, HS4.out, HS5.out, by rw [HG.out]; exact HBE.out⟩
          · rw [HQ.out]; exact HR1'.out.base (Nat.le_trans HW3.out.size (Nat.le_refl _))
          · rw [HQ.out]; exact HR2.out
end Go.Proofs.Ytpkoehnjladpoaa
