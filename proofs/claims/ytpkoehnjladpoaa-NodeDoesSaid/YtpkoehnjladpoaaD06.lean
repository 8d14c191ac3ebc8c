/- Texts of one seat, merged. -/
import Derived.Test.YtpkoehnjladpoaaD04
import Derived.Test.YtpkoehnjladpoaaD05
import Derived.Test.YtpkoehnjladpoaaD03
import Derived.Lib.SliceRun
import Derived.Lib.Walk
import Derived.Lib.AppendZerosOnto
import Derived.Deep.LoopGhost
import Derived.Laws.AppendOwnNone
import Derived.BigQuiet
import Derived.Deep.QuietTactic
set_option maxRecDepth 100000
set_option maxHeartbeats 4000000
set_option linter.unusedVariables false
/- The contract of a node's first key. -/
namespace Go.Proofs.Ytpkoehnjladpoaa
open Go.RowKit
open Sl (Cl Kd Nd Rn)
theorem firstKeyC_any (v : Value) (l : List Cl) (w : World) (hv : SlC w v l) :
    Calls Try.prog 92 #[shpC, v] w fun e w' => e = .returned (.string (str (Sl.fkey Sl.shC l))) ∧ Below w.heap.size w w' := by
  obtain ⟨a, b, o, c, rfl, ha, hx⟩ := hv
  unfold shpC
  cases l with
  | nil =>
    go_enter Try.func92, Try.ntmps92
    go_wp2
    go_ret
    exact ⟨rfl, (Below.refl _ _).alloc (Nat.le_refl _) _⟩
  | cons x t =>
    obtain ⟨e0, e1, e2, e3⟩ := hx 0 x rfl
    rw [Nat.zero_mul, Nat.add_zero] at e0 e1 e2 e3
    obtain rfl : a = some ⟨b, o, none⟩ := by
      rcases ha with h | h
      · cases h
      · exact h
    have HK := Lib.hid (fun W => keyC_any x W)
    have hblt : b < w.heap.size := World.block_lt_of_cell? _ _ e0
    have HA := Lib.hid (fun o1 => (Below.refl w.heap.size w).alloc (Nat.le_refl _) o1)
    have HB0 := Lib.hid (BxC.new w)
    have hF : Hid ((w.alloc (.cells #[.func (.func 97) #[] #[], .func (.func 98) #[] #[], .func (.func 99) #[] #[], .func (.func 100) #[] #[]] 110)).drew.cell? ⟨w.heap.size, 0, none⟩ = some (.func (.func 97) #[] #[]) ∧ (w.alloc (.cells #[.func (.func 97) #[] #[], .func (.func 98) #[] #[], .func (.func 99) #[] #[], .func (.func 100) #[] #[]] 110)).drew.cell? ⟨w.heap.size, 1, none⟩ = some (.func (.func 98) #[] #[]) ∧ (w.alloc (.cells #[.func (.func 97) #[] #[], .func (.func 98) #[] #[], .func (.func 99) #[] #[], .func (.func 100) #[] #[]] 110)).drew.cell? ⟨w.heap.size, 2, none⟩ = some (.func (.func 99) #[] #[]) ∧ (w.alloc (.cells #[.func (.func 97) #[] #[], .func (.func 98) #[] #[], .func (.func 99) #[] #[], .func (.func 100) #[] #[]] 110)).drew.cell? ⟨w.heap.size, 3, none⟩ = some (.func (.func 100) #[] #[]) ∧ (w.alloc (.cells #[.func (.func 97) #[] #[], .func (.func 98) #[] #[], .func (.func 99) #[] #[], .func (.func 100) #[] #[]] 110)).drew.cell? ⟨b, o, none⟩ = some (.string (str x.key)) ∧ (w.alloc (.cells #[.func (.func 97) #[] #[], .func (.func 98) #[] #[], .func (.func 99) #[] #[], .func (.func 100) #[] #[]] 110)).drew.cell? ⟨b, o + 1, none⟩ = some (.string (str x.val)) ∧ (w.alloc (.cells #[.func (.func 97) #[] #[], .func (.func 98) #[] #[], .func (.func 99) #[] #[], .func (.func 100) #[] #[]] 110)).drew.cell? ⟨b, o + 2, none⟩ = some (.int .u32 x.chain) ∧ (w.alloc (.cells #[.func (.func 97) #[] #[], .func (.func 98) #[] #[], .func (.func 99) #[] #[], .func (.func 100) #[] #[]] 110)).drew.cell? ⟨b, o + 3, none⟩ = some (.int .u32 x.long) ∧ Below w.heap.size w (w.alloc (.cells #[.func (.func 97) #[] #[], .func (.func 98) #[] #[], .func (.func 99) #[] #[], .func (.func 100) #[] #[]] 110)).drew) := ⟨HB0.out.c0, HB0.out.c1, HB0.out.c2, HB0.out.c3, ((HA.out _).cell (p := ⟨b, o + 0, none⟩) hblt).trans e0, ((HA.out _).cell (p := ⟨b, o + 1, none⟩) hblt).trans e1, ((HA.out _).cell (p := ⟨b, o + 2, none⟩) hblt).trans e2, ((HA.out _).cell (p := ⟨b, o + 3, none⟩) hblt).trans e3, (HA.out _).drew⟩
    have hlen : (0 : Int) < ((x :: t).length : Int) := by simp
    unfold aggC at HK
    clear e0 e1 e2 e3 hx HA HB0
    go_enter Try.func92, Try.ntmps92
    go_wp2_with fail
    go_region_held3 (fun w' => w'.cell? ⟨w.heap.size, 0, none⟩ = some (.func (.func 97) #[] #[]) ∧ w'.cell? ⟨w.heap.size, 1, none⟩ = some (.func (.func 98) #[] #[]) ∧ w'.cell? ⟨w.heap.size, 2, none⟩ = some (.func (.func 99) #[] #[]) ∧ w'.cell? ⟨w.heap.size, 3, none⟩ = some (.func (.func 100) #[] #[]) ∧ w'.cell? ⟨b, o, none⟩ = some (.string (str x.key)) ∧ w'.cell? ⟨b, o + 1, none⟩ = some (.string (str x.val)) ∧ w'.cell? ⟨b, o + 2, none⟩ = some (.int .u32 x.chain) ∧ w'.cell? ⟨b, o + 3, none⟩ = some (.int .u32 x.long) ∧ Below w.heap.size w w')
      ((first | assumption | exact step8 (Nat.le_refl _) ‹_› hb | exact hF.out))
      (first
      | (go_at_call 99; refine (HK.out _).mono ?_; rintro e w4 ⟨rfl, hb⟩))
    rename_i hS
    have HB4 := Lib.hid (last8 hS)
    clear hS
    go_wp2
    go_ret
    exact ⟨rfl, HB4.out⟩
end Go.Proofs.Ytpkoehnjladpoaa
/- The contract of a node's first key. -/
namespace Go.Proofs.Ytpkoehnjladpoaa
open Go.RowKit
open Sl (Cl Kd Nd Rn)
theorem firstKeyK_any (v : Value) (l : List Kd) (w : World) (hv : SlK w v l) :
    Calls Try.prog 94 #[shpK, v] w fun e w' => e = .returned (.string (str (Sl.fkey Sl.shK l))) ∧ Below w.heap.size w w' := by
  obtain ⟨a, b, o, c, rfl, ha, hx⟩ := hv
  unfold shpK
  cases l with
  | nil =>
    go_enter Try.func94, Try.ntmps94
    go_wp2
    go_ret
    exact ⟨rfl, (Below.refl _ _).alloc (Nat.le_refl _) _⟩
  | cons x t =>
    obtain ⟨e0, e1⟩ := hx 0 x rfl
    rw [Nat.zero_mul, Nat.add_zero] at e0 e1
    obtain rfl : a = some ⟨b, o, none⟩ := by
      rcases ha with h | h
      · cases h
      · exact h
    have HK := Lib.hid (fun W => keyK_any x W)
    have hblt : b < w.heap.size := World.block_lt_of_cell? _ _ e0
    have HA := Lib.hid (fun o1 => (Below.refl w.heap.size w).alloc (Nat.le_refl _) o1)
    have HB0 := Lib.hid (BxK.new w)
    have hF : Hid ((w.alloc (.cells #[.func (.func 111) #[] #[], .func (.func 113) #[] #[], .func (.func 114) #[] #[], .nilFunc] 124)).drew.cell? ⟨w.heap.size, 0, none⟩ = some (.func (.func 111) #[] #[]) ∧ (w.alloc (.cells #[.func (.func 111) #[] #[], .func (.func 113) #[] #[], .func (.func 114) #[] #[], .nilFunc] 124)).drew.cell? ⟨w.heap.size, 1, none⟩ = some (.func (.func 113) #[] #[]) ∧ (w.alloc (.cells #[.func (.func 111) #[] #[], .func (.func 113) #[] #[], .func (.func 114) #[] #[], .nilFunc] 124)).drew.cell? ⟨w.heap.size, 2, none⟩ = some (.func (.func 114) #[] #[]) ∧ (w.alloc (.cells #[.func (.func 111) #[] #[], .func (.func 113) #[] #[], .func (.func 114) #[] #[], .nilFunc] 124)).drew.cell? ⟨w.heap.size, 3, none⟩ = some (.nilFunc) ∧ (w.alloc (.cells #[.func (.func 111) #[] #[], .func (.func 113) #[] #[], .func (.func 114) #[] #[], .nilFunc] 124)).drew.cell? ⟨b, o, none⟩ = some (.string (str x.key)) ∧ (w.alloc (.cells #[.func (.func 111) #[] #[], .func (.func 113) #[] #[], .func (.func 114) #[] #[], .nilFunc] 124)).drew.cell? ⟨b, o + 1, none⟩ = some (.int .u32 x.page) ∧ Below w.heap.size w (w.alloc (.cells #[.func (.func 111) #[] #[], .func (.func 113) #[] #[], .func (.func 114) #[] #[], .nilFunc] 124)).drew) := ⟨HB0.out.c0, HB0.out.c1, HB0.out.c2, HB0.out.c3, ((HA.out _).cell (p := ⟨b, o + 0, none⟩) hblt).trans e0, ((HA.out _).cell (p := ⟨b, o + 1, none⟩) hblt).trans e1, (HA.out _).drew⟩
    have hlen : (0 : Int) < ((x :: t).length : Int) := by simp
    unfold aggK at HK
    clear e0 e1 hx HA HB0
    go_enter Try.func94, Try.ntmps94
    go_wp2_with fail
    go_region_held3 (fun w' => w'.cell? ⟨w.heap.size, 0, none⟩ = some (.func (.func 111) #[] #[]) ∧ w'.cell? ⟨w.heap.size, 1, none⟩ = some (.func (.func 113) #[] #[]) ∧ w'.cell? ⟨w.heap.size, 2, none⟩ = some (.func (.func 114) #[] #[]) ∧ w'.cell? ⟨w.heap.size, 3, none⟩ = some (.nilFunc) ∧ w'.cell? ⟨b, o, none⟩ = some (.string (str x.key)) ∧ w'.cell? ⟨b, o + 1, none⟩ = some (.int .u32 x.page) ∧ Below w.heap.size w w')
      ((first | assumption | exact step6 (Nat.le_refl _) ‹_› hb | exact hF.out))
      (first
      | (go_at_call 114; refine (HK.out _).mono ?_; rintro e w4 ⟨rfl, hb⟩))
    rename_i hS
    have HB4 := Lib.hid (last6 hS)
    clear hS
    go_wp2
    go_ret
    exact ⟨rfl, HB4.out⟩
end Go.Proofs.Ytpkoehnjladpoaa
/- The contract of keyed: the first kid's key, turned in a row of one's own. -/
namespace Go.Proofs.Ytpkoehnjladpoaa
open Go.RowKit
open Sl (Cl Kd Nd Rn)
inductive KeyedK (v : Value) (l : List Kd) (B : Nat) (w : World) (e : Ending) (w' : World) : Prop
  | mk (he : e = .returned v) (hr : RowK w' B v l) (hb : Below B w w')
theorem keyed_any (v : Value) (l : List Kd) (k : List UInt8) (B : Nat) (w : World) (hv : RowK w B v l) (hB : B ≤ w.heap.size) :
    Calls Try.prog 66 #[v, .string (str k)] w (KeyedK v (Sl.setK k l) B w) := by
  have hv0 := hv
  obtain ⟨hl0, h1⟩ := hv
  rcases h1 with ⟨rfl, h0⟩ | ⟨g, cap, cur, rfl, hg, hb, hn, hm, hs, hc⟩
  · obtain rfl : l = [] := List.length_eq_zero_iff.1 h0
    go_enter Try.func66, Try.ntmps66
    go_wp2
    go_ret
    exact ⟨rfl, hv0, Below.refl _ _⟩
  · cases l with
    | nil =>
      go_enter Try.func66, Try.ntmps66
      go_wp2
      go_ret
      exact ⟨rfl, hv0, Below.refl _ _⟩
    | cons x t =>
      have HV := Lib.hid hv0
      have c0 : w.cell? ⟨g, 0, none⟩ = some (.string (str x.key)) := by
        have := World.ownsRow.cellAt hv0 0 (by simp)
        rw [this]; rfl
      have f0 : w.frozen? ⟨g, 0, none⟩ = false := World.ownsRow.frozenAt hv0 0
      have hlen : (0 : Int) < ((x :: t).length : Int) := by simp
      have HG := Lib.hid hg
      clear hl0 hv0 hb hn hm hs hc hg
      go_enter Try.func66, Try.ntmps66
      go_wp2
      go_ret
      refine ⟨rfl, ?_, ?_⟩
      · have := World.ownsRow.stored HV.out 0 (.string (str k))
        exact this.1
      · exact (Below.refl B w).setCell HG.out _
end Go.Proofs.Ytpkoehnjladpoaa
/- The contract of a node's Split. -/
namespace Go.Proofs.Ytpkoehnjladpoaa.Sl
def spA (n : Nd) : Nd := if n.leaf then ⟨true, n.cs.take (cutAt shC n.cs), []⟩ else ⟨false, [], n.ks.take (cutAt shK n.ks)⟩
def spB (n : Nd) : Nd := if n.leaf then ⟨true, n.cs.drop (cutAt shC n.cs), []⟩ else ⟨false, [], setK [] (n.ks.drop (cutAt shK n.ks))⟩
def spK (n : Nd) : List UInt8 := if n.leaf then fkey shC (n.cs.drop (cutAt shC n.cs)) else fkey shK (n.ks.drop (cutAt shK n.ks))
def okN (n : Nd) : Prop := n.cs.length ≤ 100000 ∧ n.ks.length ≤ 100000
end Go.Proofs.Ytpkoehnjladpoaa.Sl
namespace Go.Proofs.Ytpkoehnjladpoaa
open Go.RowKit
open Sl (Cl Kd Nd Rn)
/-- An empty node's box. -/
structure Z3 (w : World) (g : Nat) : Prop where
  z0 : w.cell? ⟨g, 0, none⟩ = some (.bool false)
  z1 : w.cell? ⟨g, 1, none⟩ = some (.slice none 0 0)
  z2 : w.cell? ⟨g, 2, none⟩ = some (.slice none 0 0)
  f0 : w.frozen? ⟨g, 0, none⟩ = false
  f1 : w.frozen? ⟨g, 1, none⟩ = false
  f2 : w.frozen? ⟨g, 2, none⟩ = false
theorem Z3.lt {w : World} {g : Nat} (h : Z3 w g) : g < w.heap.size := World.block_lt_of_cell? _ _ h.z0
theorem Z3.below {w w' : World} {g : Nat} (h : Z3 w g) (hb : Below w.heap.size w w') : Z3 w' g :=
  ⟨(hb.cell (p := ⟨g, 0, none⟩) h.lt).trans h.z0, (hb.cell (p := ⟨g, 1, none⟩) h.lt).trans h.z1, (hb.cell (p := ⟨g, 2, none⟩) h.lt).trans h.z2,
   (hb.frozen (p := ⟨g, 0, none⟩) h.lt).trans h.f0, (hb.frozen (p := ⟨g, 1, none⟩) h.lt).trans h.f1, (hb.frozen (p := ⟨g, 2, none⟩) h.lt).trans h.f2⟩
theorem Z3.new (w : World) : Z3 (w.alloc (.cells #[.bool false, .slice none 0 0, .slice none 0 0] 46)) w.heap.size := by
  constructor <;> simp
theorem stepZ {w w1 w2 : World} {p0 p1 p2 : Addr} {x0 x1 x2 : Value} {g h B : Nat} (hB : B ≤ w.heap.size) (H : w1.cell? p0 = some x0 ∧ w1.cell? p1 = some x1 ∧ w1.cell? p2 = some x2 ∧ Z3 w1 g ∧ Z3 w1 h ∧ Below B w w1) (hb : Below w1.heap.size w1 w2) :
    w2.cell? p0 = some x0 ∧ w2.cell? p1 = some x1 ∧ w2.cell? p2 = some x2 ∧ Z3 w2 g ∧ Z3 w2 h ∧ Below B w w2 := by
  obtain ⟨h0, h1, h2, h3, h4, hq⟩ := H
  exact ⟨(hb.cell (p := p0) (World.block_lt_of_cell? _ _ h0)).trans h0, (hb.cell (p := p1) (World.block_lt_of_cell? _ _ h1)).trans h1, (hb.cell (p := p2) (World.block_lt_of_cell? _ _ h2)).trans h2, h3.below hb, h4.below hb, hq.trans (hb.mono (Nat.le_trans hB hq.size))⟩
theorem Z3.belowB {w w' : World} {g B : Nat} (h : Z3 w g) (hb : Below B w w') (hg : g < B) : Z3 w' g :=
  ⟨(hb.cell (p := ⟨g, 0, none⟩) hg).trans h.z0, (hb.cell (p := ⟨g, 1, none⟩) hg).trans h.z1, (hb.cell (p := ⟨g, 2, none⟩) hg).trans h.z2,
   (hb.frozen (p := ⟨g, 0, none⟩) hg).trans h.f0, (hb.frozen (p := ⟨g, 1, none⟩) hg).trans h.f1, (hb.frozen (p := ⟨g, 2, none⟩) hg).trans h.f2⟩
theorem stepZb {w w1 w2 : World} {b0 i0 i1 i2 : Nat} {x0 x1 x2 : Value} {g h B B2 : Nat} (hB : B ≤ w.heap.size) (H : w1.cell? ⟨b0, i0, none⟩ = some x0 ∧ w1.cell? ⟨b0, i1, none⟩ = some x1 ∧ w1.cell? ⟨b0, i2, none⟩ = some x2 ∧ Z3 w1 g ∧ Z3 w1 h ∧ Below B w w1) (hb : Below B2 w1 w2) (hp : b0 < B2) (hg : g < B2) (hh : h < B2) (hBB : B ≤ B2 := by omega) :
    w2.cell? ⟨b0, i0, none⟩ = some x0 ∧ w2.cell? ⟨b0, i1, none⟩ = some x1 ∧ w2.cell? ⟨b0, i2, none⟩ = some x2 ∧ Z3 w2 g ∧ Z3 w2 h ∧ Below B w w2 := by
  obtain ⟨h0, h1, h2, h3, h4, hq⟩ := H
  exact ⟨(hb.cell hp).trans h0, (hb.cell hp).trans h1, (hb.cell hp).trans h2, h3.belowB hb hg, h4.belowB hb hh, hq.trans (hb.mono hBB)⟩
theorem ltZ {w w1 : World} {p0 p1 p2 : Addr} {x0 x1 x2 : Value} {g h B : Nat} (H : w1.cell? p0 = some x0 ∧ w1.cell? p1 = some x1 ∧ w1.cell? p2 = some x2 ∧ Z3 w1 g ∧ Z3 w1 h ∧ Below B w w1) : h < w1.heap.size := H.2.2.2.2.1.lt
theorem lastZ {w w1 : World} {p0 p1 p2 : Addr} {x0 x1 x2 : Value} {g h B : Nat} (H : w1.cell? p0 = some x0 ∧ w1.cell? p1 = some x1 ∧ w1.cell? p2 = some x2 ∧ Z3 w1 g ∧ Z3 w1 h ∧ Below B w w1) : Below B w w1 := H.2.2.2.2.2
theorem startZ (w : World) (x0 x1 x2 : Value) :
    (((w.alloc (.cells #[x0, x1, x2] 46)).alloc (.cells #[.bool false, .slice none 0 0, .slice none 0 0] 46)).alloc (.cells #[.bool false, .slice none 0 0, .slice none 0 0] 46)).drew.cell? ⟨w.heap.size, 0, none⟩ = some x0 ∧
    (((w.alloc (.cells #[x0, x1, x2] 46)).alloc (.cells #[.bool false, .slice none 0 0, .slice none 0 0] 46)).alloc (.cells #[.bool false, .slice none 0 0, .slice none 0 0] 46)).drew.cell? ⟨w.heap.size, 1, none⟩ = some x1 ∧
    (((w.alloc (.cells #[x0, x1, x2] 46)).alloc (.cells #[.bool false, .slice none 0 0, .slice none 0 0] 46)).alloc (.cells #[.bool false, .slice none 0 0, .slice none 0 0] 46)).drew.cell? ⟨w.heap.size, 2, none⟩ = some x2 ∧
    Z3 (((w.alloc (.cells #[x0, x1, x2] 46)).alloc (.cells #[.bool false, .slice none 0 0, .slice none 0 0] 46)).alloc (.cells #[.bool false, .slice none 0 0, .slice none 0 0] 46)).drew (w.heap.size + 1) ∧
    Z3 (((w.alloc (.cells #[x0, x1, x2] 46)).alloc (.cells #[.bool false, .slice none 0 0, .slice none 0 0] 46)).alloc (.cells #[.bool false, .slice none 0 0, .slice none 0 0] 46)).drew (w.heap.size + 1 + 1) ∧
    Below w.heap.size w (((w.alloc (.cells #[x0, x1, x2] 46)).alloc (.cells #[.bool false, .slice none 0 0, .slice none 0 0] 46)).alloc (.cells #[.bool false, .slice none 0 0, .slice none 0 0] 46)).drew := by
  have hZ : (w.alloc (.cells #[x0, x1, x2] 46)).heap.size = w.heap.size + 1 := by simp
  have hT0 := ((Below.refl _ (w.alloc (.cells #[x0, x1, x2] 46))).alloc (Nat.le_refl _) (.cells #[.bool false, .slice none 0 0, .slice none 0 0] 46)).alloc (by simp) (.cells #[.bool false, .slice none 0 0, .slice none 0 0] 46)
  have hT := hT0.drew
  have hlt : w.heap.size < (w.alloc (.cells #[x0, x1, x2] 46)).heap.size := by omega
  refine ⟨(hT.cell (p := ⟨w.heap.size, 0, none⟩) hlt).trans (World.cell?_alloc_new w _ _ 0), (hT.cell (p := ⟨w.heap.size, 1, none⟩) hlt).trans (World.cell?_alloc_new w _ _ 1), (hT.cell (p := ⟨w.heap.size, 2, none⟩) hlt).trans (World.cell?_alloc_new w _ _ 2), ?_, ?_, ((((Below.refl _ _).alloc (Nat.le_refl _) _).alloc (by simp) _).alloc (by simp; omega) _).drew⟩
  · have := Z3.new (w.alloc (.cells #[x0, x1, x2] 46))
    rw [show (w.alloc (.cells #[x0, x1, x2] 46)).heap.size = w.heap.size + 1 by simp] at this
    exact (this.below ((Below.refl _ _).alloc (Nat.le_refl _) _)).below (Below.refl _ _).drew
  · have := Z3.new ((w.alloc (.cells #[x0, x1, x2] 46)).alloc (.cells #[.bool false, .slice none 0 0, .slice none 0 0] 46))
    rw [show ((w.alloc (.cells #[x0, x1, x2] 46)).alloc (.cells #[.bool false, .slice none 0 0, .slice none 0 0] 46)).heap.size = w.heap.size + 1 + 1 by simp] at this
    exact this.below (Below.refl _ _).drew
inductive SplitN (n : Nd) (w : World) (e : Ending) (w' : World) : Prop
  | mk (u v : Value) (he : e = .returned (.tuple #[u, .string (str (Sl.spK n)), v])) (hu : NdV w' u (Sl.spA n)) (hv : NdV w' v (Sl.spB n)) (hb : Below w.heap.size w w')
theorem splitT_any (v : Value) (n : Nd) (w : World) (hv : NdV w v n) (hlf : n.leaf = true) (hl : n.cs.length ≤ 100000) (hok : ∀ x ∈ n.cs, okC x) :
    Calls Try.prog 52 #[v] w (SplitN n w) := by
  obtain ⟨vc, vk, rfl, hc, hcc, hk, hkk⟩ := hv
  have HH := Lib.hid (fun W (hW : Below w.heap.size w W) => halvesC_any vc n.cs hl hok W (hc.below hW) hcc)
  have HLV := Lib.hid (fun W => leaves_any W)
  rw [hlf]
  unfold ndV
  obtain ⟨a, m, c, _, _, _⟩ := hcc
  obtain ⟨a', m', c', _, _, _⟩ := hkk
  unfold shpC at HH HLV
  clear hc hk hl hok
  have HST := Lib.hid (startZ w (.bool true) (.slice a m c) (.slice a' m' c'))
  go_enter Try.func52, Try.ntmps52
  go_wp2_with fail
  go_region_held3 (fun w' => w'.cell? ⟨w.heap.size, 0, none⟩ = some (.bool true) ∧ w'.cell? ⟨w.heap.size, 1, none⟩ = some (.slice a m c) ∧ w'.cell? ⟨w.heap.size, 2, none⟩ = some (.slice a' m' c') ∧ Z3 w' (w.heap.size + 1) ∧ Z3 w' (w.heap.size + 1 + 1) ∧ Below w.heap.size w w')
    ((first | assumption | exact stepZ (Nat.le_refl _) ‹_› hb | exact HST.out))
    (first
    | (go_at_call 56; refine (HLV.out _).mono ?_; rintro e w1 ⟨rfl, hb⟩)
    | (go_at_call 91; refine (HH.out _ (lastZ (by assumption))).mono ?_; rintro e w2 ⟨v1, v2, B2, rfl, hr1, hlo, hr2, hB1, hB2, hb⟩; have HLO := Lib.hid hlo; have HB1 := Lib.hid hB1; have HB2 := Lib.hid hB2; have HQ1 : Hid (w.heap.size + 1 + 1 < w1.heap.size) := ltZ (by assumption); have HR1 := Lib.hid hr1; have HR2 := Lib.hid hr2; clear hr1 hr2 hlo))
  rename_i hS
  have HS := Lib.hid hS
  clear hS
  obtain ⟨a1, n1, c1, ha1, hc1, hn1⟩ := HR1.out.cap
  obtain ⟨a2, n2, c2, ha2, hc2, hn2⟩ := HR2.out.cap
  have HL1 := Lib.hid (fun W => leaf_any (.slice a1 n1 c1) ⟨a1, n1, c1, ha1, hc1, hn1⟩ W)
  have HL2 := Lib.hid (fun W => leaf_any (.slice a2 n2 c2) ⟨a2, n2, c2, ha2, hc2, hn2⟩ W)
  have HFK := Lib.hid (fun W (hW : SlC W (.slice a2 n2 c2) (n.cs.drop (Sl.cutAt Sl.shC n.cs))) => firstKeyC_any _ _ W hW)
  unfold ndV at HL1 HL2
  unfold shpC at HFK
  have HSZ := Lib.hid (lastZ HS.out).size
  go_wp2_with (first
    | (go_at_call 60; with_reducible refine (HL2.out _).mono ?_; rintro e w6 ⟨rfl, hb6⟩; have HS6 := Lib.hid (stepZ (Nat.le_refl _) HS5.out hb6); have HR16 := Lib.hid (HR15.out.below hb6); have HR26 := Lib.hid (HR25.out.below hb6); have z0 := HS6.out.2.2.2.1.z0; have z1 := HS6.out.2.2.2.1.z1; have z2 := HS6.out.2.2.2.1.z2; have z3 := HS6.out.2.2.2.1.f0; have z4 := HS6.out.2.2.2.1.f1; have z5 := HS6.out.2.2.2.1.f2; have y0 := HS6.out.2.2.2.2.1.z0; have y1 := HS6.out.2.2.2.2.1.z1; have y2 := HS6.out.2.2.2.2.1.z2; have y3 := HS6.out.2.2.2.2.1.f0; have y4 := HS6.out.2.2.2.2.1.f1; have y5 := HS6.out.2.2.2.2.1.f2)
    | (go_at_call 92; with_reducible refine (HFK.out _ HR24.out.sl).mono ?_; rintro e w5 ⟨rfl, hb5⟩; have HS5 := Lib.hid (stepZ (Nat.le_refl _) HS4.out hb5); have HR15 := Lib.hid (HR14.out.below hb5); have HR25 := Lib.hid (HR24.out.below hb5))
    | (go_at_call 56; with_reducible refine (HLV.out _).mono ?_; rintro e w4 ⟨rfl, hb4⟩; have HS4 := Lib.hid (stepZ (Nat.le_refl _) HS3.out hb4); have HR14 := Lib.hid (HR13.out.below hb4); have HR24 := Lib.hid (HR23.out.below hb4))
    | (go_at_call 60; with_reducible refine (HL1.out _).mono ?_; rintro e w3 ⟨rfl, hb3⟩; have HS3 := Lib.hid (stepZ (Nat.le_refl _) HS.out hb3); have HR13 := Lib.hid (HR1.out.below hb3); have HR23 := Lib.hid (HR2.out.below hb3)))
  have HRA := HR16.out
  have HRB := HR26.out
  have HQ := HQ1.out
  have hq1 : w.heap.size + 1 < w1.heap.size := by omega
  have hq2 : w.heap.size + 1 + 1 < w1.heap.size := HQ
  have hq3 : w.heap.size + 1 < B2 := Nat.lt_of_lt_of_le hq1 HB1.out
  have hq4 : w.heap.size + 1 + 1 < B2 := Nat.lt_of_lt_of_le hq2 HB1.out
  refine bodyPost_ret_by (v := .tuple #[ndV true (.slice a1 n1 c1) (.slice none 0 0), .string (str (Sl.fkey Sl.shC (n.cs.drop (Sl.cutAt Sl.shC n.cs)))), ndV true (.slice a2 n2 c2) (.slice none 0 0)]) ?_ rfl ?_
  · simp [ndV, results, Try.results52, go_sem, z0, z1, z2, y0, y1, y2]
  · refine ⟨ndV true (.slice a1 n1 c1) (.slice none 0 0), ndV true (.slice a2 n2 c2) (.slice none 0 0), ?_, ?_, ?_, ?_⟩
    · unfold Sl.spK; rw [hlf]; rfl
    · have h1 : Sl.spA n = ⟨true, n.cs.take (Sl.cutAt Sl.shC n.cs), []⟩ := by unfold Sl.spA; rw [if_pos hlf]
      rw [h1]
      exact ⟨.slice a1 n1 c1, .slice none 0 0, rfl, ((((((HRA.set hq1 _).set hq1 _).set hq1 _).set hq2 _).set hq2 _).set hq2 _).sl, ⟨_, _, _, ha1, hc1, hn1⟩, SlK.nil _, cap_nil⟩
    · have h1 : Sl.spB n = ⟨true, n.cs.drop (Sl.cutAt Sl.shC n.cs), []⟩ := by unfold Sl.spB; rw [if_pos hlf]
      rw [h1]
      exact ⟨.slice a2 n2 c2, .slice none 0 0, rfl, ((((((HRB.set hq3 _).set hq3 _).set hq3 _).set hq4 _).set hq4 _).set hq4 _).sl, ⟨_, _, _, ha2, hc2, hn2⟩, SlK.nil _, cap_nil⟩
    · exact ((((((lastZ HS6.out).setCell (Nat.le_succ _) _).setCell (Nat.le_succ _) _).setCell (Nat.le_succ _) _).setCell (by show _ ≤ _; simp; omega) _).setCell (by show _ ≤ _; simp; omega) _).setCell (by show _ ≤ _; simp; omega) _
theorem splitF_any (v : Value) (n : Nd) (w : World) (hv : NdV w v n) (hlf : n.leaf = false) (hl : n.ks.length ≤ 100000) (hok : ∀ x ∈ n.ks, okK x) :
    Calls Try.prog 52 #[v] w (SplitN n w) := by
  obtain ⟨vc, vk, rfl, hc, hcc, hk, hkk⟩ := hv
  have HH := Lib.hid (fun W (hW : Below w.heap.size w W) => halvesK_any vk n.ks hl hok W (hk.below hW) hkk)
  have HLV := Lib.hid (fun W => kids_any W)
  rw [hlf]
  unfold ndV
  obtain ⟨a, m, c, _, _, _⟩ := hcc
  obtain ⟨a', m', c', _, _, _⟩ := hkk
  unfold shpK at HH HLV
  clear hc hk hl hok
  have HST := Lib.hid (startZ w (.bool false) (.slice a m c) (.slice a' m' c'))
  go_enter Try.func52, Try.ntmps52
  go_wp2_with fail
  go_region_held3 (fun w' => w'.cell? ⟨w.heap.size, 0, none⟩ = some (.bool false) ∧ w'.cell? ⟨w.heap.size, 1, none⟩ = some (.slice a m c) ∧ w'.cell? ⟨w.heap.size, 2, none⟩ = some (.slice a' m' c') ∧ Z3 w' (w.heap.size + 1) ∧ Z3 w' (w.heap.size + 1 + 1) ∧ Below w.heap.size w w')
    ((first | assumption | exact stepZ (Nat.le_refl _) ‹_› hb | exact HST.out))
    (first
    | (go_at_call 65; refine (HLV.out _).mono ?_; rintro e w1 ⟨rfl, hb⟩)
    | (go_at_call 93; refine (HH.out _ (lastZ (by assumption))).mono ?_; rintro e w2 ⟨v1, v2, B2, rfl, hr1, hlo, hr2, hB1, hB2, hb⟩; have HLO := Lib.hid hlo; have HB1 := Lib.hid hB1; have HB2 := Lib.hid hB2; have HQ1 : Hid (w.heap.size + 1 + 1 < w1.heap.size) := ltZ (by assumption); have HR1 := Lib.hid hr1; have HR2 := Lib.hid hr2; clear hr1 hr2 hlo))
  rename_i hS
  have HS := Lib.hid hS
  clear hS
  obtain ⟨a1, n1, c1, ha1, hc1, hn1⟩ := HR1.out.cap
  obtain ⟨a2, n2, c2, ha2, hc2, hn2⟩ := HR2.out.cap
  have HL1 := Lib.hid (fun W => branch_any (.slice a1 n1 c1) ⟨a1, n1, c1, ha1, hc1, hn1⟩ W)
  have HL2 := Lib.hid (fun W => branch_any (.slice a2 n2 c2) ⟨a2, n2, c2, ha2, hc2, hn2⟩ W)
  have HFK := Lib.hid (fun W (hW : SlK W (.slice a2 n2 c2) (n.ks.drop (Sl.cutAt Sl.shK n.ks))) => firstKeyK_any _ _ W hW)
  have HKY := Lib.hid (fun W (hW : RowK W B2 (.slice a2 n2 c2) (n.ks.drop (Sl.cutAt Sl.shK n.ks))) (hB : B2 ≤ W.heap.size) => keyed_any _ _ [] B2 W hW hB)
  unfold ndV at HL1 HL2
  unfold shpK at HFK
  rw [show str [] = ByteArray.empty from rfl] at HKY
  have HSZ := Lib.hid (lastZ HS.out).size
  have HQ := HQ1.out
  have hq1 : w.heap.size + 1 < w1.heap.size := by omega
  have hq2 : w.heap.size + 1 + 1 < w1.heap.size := HQ
  have hq3 : w.heap.size + 1 < B2 := Nat.lt_of_lt_of_le hq1 HB1.out
  have hq4 : w.heap.size + 1 + 1 < B2 := Nat.lt_of_lt_of_le hq2 HB1.out
  have hq0 : w.heap.size < B2 := by omega
  go_wp2_with (first
    | (go_at_call 63; with_reducible refine (HL2.out _).mono ?_; rintro e w7 ⟨rfl, hb7⟩; have HS7 := Lib.hid (stepZ (Nat.le_refl _) HS6.out hb7); have HR17 := Lib.hid (HR16.out.below hb7); have HR27 := Lib.hid (HR26.out.below hb7); have z0 := HS7.out.2.2.2.1.z0; have z1 := HS7.out.2.2.2.1.z1; have z2 := HS7.out.2.2.2.1.z2; have z3 := HS7.out.2.2.2.1.f0; have z4 := HS7.out.2.2.2.1.f1; have z5 := HS7.out.2.2.2.1.f2; have y0 := HS7.out.2.2.2.2.1.z0; have y1 := HS7.out.2.2.2.2.1.z1; have y2 := HS7.out.2.2.2.2.1.z2; have y3 := HS7.out.2.2.2.2.1.f0; have y4 := HS7.out.2.2.2.2.1.f1; have y5 := HS7.out.2.2.2.2.1.f2)
    | (go_at_call 66; refine (HKY.out _ HR25.out HZ5.out).mono ?_; rintro e w6 ⟨rfl, hr6, hb6⟩; have HS6 := Lib.hid (stepZb (Nat.le_refl _) HS5.out hb6 hq0 hq3 hq4); have HR16 := Lib.hid (HR15.out.keep HLO.out hb6); have HR26 := Lib.hid hr6)
    | (go_at_call 63; with_reducible refine (HL1.out _).mono ?_; rintro e w5 ⟨rfl, hb5⟩; have HS5 := Lib.hid (stepZ (Nat.le_refl _) HS4.out hb5); have HR15 := Lib.hid (HR14.out.below hb5); have HR25 := Lib.hid (HR24.out.below hb5); have HZ5 := Lib.hid (Nat.le_trans HZ4.out hb5.size))
    | (go_at_call 94; with_reducible refine (HFK.out _ HR23.out.sl).mono ?_; rintro e w4 ⟨rfl, hb4⟩; have HS4 := Lib.hid (stepZ (Nat.le_refl _) HS3.out hb4); have HR14 := Lib.hid (HR13.out.below hb4); have HR24 := Lib.hid (HR23.out.below hb4); have HZ4 := Lib.hid (Nat.le_trans HZ3.out hb4.size))
    | (go_at_call 65; with_reducible refine (HLV.out _).mono ?_; rintro e w3 ⟨rfl, hb3⟩; have HS3 := Lib.hid (stepZ (Nat.le_refl _) HS.out hb3); have HR13 := Lib.hid (HR1.out.below hb3); have HR23 := Lib.hid (HR2.out.below hb3); have HZ3 := Lib.hid (Nat.le_trans HB2.out hb3.size)))
  have HRA := HR17.out
  have HRB := HR27.out
  refine bodyPost_ret_by (v := .tuple #[ndV false (.slice none 0 0) (.slice a1 n1 c1), .string (str (Sl.fkey Sl.shK (n.ks.drop (Sl.cutAt Sl.shK n.ks)))), ndV false (.slice none 0 0) (.slice a2 n2 c2)]) ?_ rfl ?_
  · simp [ndV, results, Try.results52, go_sem, z0, z1, z2, y0, y1, y2]
  · refine ⟨ndV false (.slice none 0 0) (.slice a1 n1 c1), ndV false (.slice none 0 0) (.slice a2 n2 c2), ?_, ?_, ?_, ?_⟩
    · unfold Sl.spK; rw [hlf]; rfl
    · have h1 : Sl.spA n = ⟨false, [], n.ks.take (Sl.cutAt Sl.shK n.ks)⟩ := by unfold Sl.spA; rw [hlf]; rfl
      rw [h1]
      exact ⟨.slice none 0 0, .slice a1 n1 c1, rfl, SlC.nil _, cap_nil, ((((((HRA.set hq1 _).set hq1 _).set hq1 _).set hq2 _).set hq2 _).set hq2 _).sl, ⟨_, _, _, ha1, hc1, hn1⟩⟩
    · have h1 : Sl.spB n = ⟨false, [], Sl.setK [] (n.ks.drop (Sl.cutAt Sl.shK n.ks))⟩ := by unfold Sl.spB; rw [hlf]; rfl
      rw [h1]
      exact ⟨.slice none 0 0, .slice a2 n2 c2, rfl, SlC.nil _, cap_nil, ((((((HRB.set hq3 _).set hq3 _).set hq3 _).set hq4 _).set hq4 _).set hq4 _).sl, ⟨_, _, _, ha2, hc2, hn2⟩⟩
    · exact ((((((lastZ HS7.out).setCell (Nat.le_succ _) _).setCell (Nat.le_succ _) _).setCell (Nat.le_succ _) _).setCell (by show _ ≤ _; simp; omega) _).setCell (by show _ ≤ _; simp; omega) _).setCell (by show _ ≤ _; simp; omega) _
theorem split_any (v : Value) (n : Nd) (w : World) (hv : NdV w v n) (h1 : n.cs.length ≤ 100000) (h2 : n.ks.length ≤ 100000) (o1 : ∀ x ∈ n.cs, okC x) (o2 : ∀ x ∈ n.ks, okK x) :
    Calls Try.prog 52 #[v] w (SplitN n w) := by
  cases h : n.leaf with
  | true => exact splitT_any v n w hv h h1 o1
  | false => exact splitF_any v n w hv h h2 o2
end Go.Proofs.Ytpkoehnjladpoaa
/- The contract of slices.Concat, at two rows. -/
namespace Go.Proofs.Ytpkoehnjladpoaa
open Go.RowKit
open Sl (Cl Kd Nd Rn)
theorem ontoC {w1 : World} {B : Nat} {v' : Value} {l m : List Cl} (h : w1.ownsRow B 42 4 v' (l.length + m.length) (l.flatMap cellsC ++ m.flatMap cellsC)) : RowC w1 B v' (l ++ m) := by
  show w1.ownsRow _ _ _ _ _ _
  rw [List.flatMap_append, List.length_append]; exact h
end Go.Proofs.Ytpkoehnjladpoaa
/- The contract of slices.Concat, at two rows. -/
namespace Go.Proofs.Ytpkoehnjladpoaa
open Go.RowKit
open Sl (Cl Kd Nd Rn)
theorem ontoK {w1 : World} {B : Nat} {v' : Value} {l m : List Kd} (h : w1.ownsRow B 52 2 v' (l.length + m.length) (l.flatMap cellsK ++ m.flatMap cellsK)) : RowK w1 B v' (l ++ m) := by
  show w1.ownsRow _ _ _ _ _ _
  rw [List.flatMap_append, List.length_append]; exact h
end Go.Proofs.Ytpkoehnjladpoaa
/- The contracts of a node's Join and Same. -/
namespace Go.Proofs.Ytpkoehnjladpoaa.Sl
def joinN (a : Nd) (k : List UInt8) (b : Nd) : Nd := if a.leaf then ⟨true, a.cs ++ b.cs, []⟩ else ⟨false, [], a.ks ++ setK k b.ks⟩
end Go.Proofs.Ytpkoehnjladpoaa.Sl
namespace Go.Proofs.Ytpkoehnjladpoaa
open Go.RowKit
open Sl (Cl Kd Nd Rn)
/-- A box that may be written. -/
structure E3 (w : World) (g : Nat) : Prop where
  z0 : (w.cell? ⟨g, 0, none⟩).isSome = true
  z1 : (w.cell? ⟨g, 1, none⟩).isSome = true
  z2 : (w.cell? ⟨g, 2, none⟩).isSome = true
  f0 : w.frozen? ⟨g, 0, none⟩ = false
  f1 : w.frozen? ⟨g, 1, none⟩ = false
  f2 : w.frozen? ⟨g, 2, none⟩ = false
theorem isSome_set {w : World} {a b : Addr} {u : Value} (h : (w.cell? a).isSome = true) : ((w.setCell b u).cell? a).isSome = true := by
  by_cases hab : b = a
  · subst hab; rw [World.cell?_setCell_same' w b u h]; rfl
  · rw [World.cell?_setCell_other w b a u hab]; exact h
theorem Z3.e3 {w : World} {g : Nat} (h : Z3 w g) : E3 w g := ⟨by rw [h.z0]; rfl, by rw [h.z1]; rfl, by rw [h.z2]; rfl, h.f0, h.f1, h.f2⟩
theorem startJ (w : World) (x y : Array Value) (u v : Value) (T : TypeId) :
    Below w.heap.size w ((((w.alloc (.cells x 46)).alloc (.cells y 46)).alloc (.cells #[.bool false, .slice none 0 0, .slice none 0 0] 46)).alloc (.cells #[u, v] T)) ∧
    ((((w.alloc (.cells x 46)).alloc (.cells y 46)).alloc (.cells #[.bool false, .slice none 0 0, .slice none 0 0] 46)).alloc (.cells #[u, v] T)).cell? ⟨w.heap.size + 1 + 1 + 1, 0, none⟩ = some u ∧
    ((((w.alloc (.cells x 46)).alloc (.cells y 46)).alloc (.cells #[.bool false, .slice none 0 0, .slice none 0 0] 46)).alloc (.cells #[u, v] T)).cell? ⟨w.heap.size + 1 + 1 + 1, 1, none⟩ = some v ∧
    Z3 ((((w.alloc (.cells x 46)).alloc (.cells y 46)).alloc (.cells #[.bool false, .slice none 0 0, .slice none 0 0] 46)).alloc (.cells #[u, v] T)) (w.heap.size + 1 + 1) ∧
    w.heap.size + 1 + 1 < ((((w.alloc (.cells x 46)).alloc (.cells y 46)).alloc (.cells #[.bool false, .slice none 0 0, .slice none 0 0] 46)).alloc (.cells #[u, v] T)).heap.size := by
  have h2 : ((w.alloc (.cells x 46)).alloc (.cells y 46)).heap.size = w.heap.size + 1 + 1 := by simp
  have h3 : (((w.alloc (.cells x 46)).alloc (.cells y 46)).alloc (.cells #[.bool false, .slice none 0 0, .slice none 0 0] 46)).heap.size = w.heap.size + 1 + 1 + 1 := by simp
  refine ⟨((((Below.refl _ _).alloc (Nat.le_refl _) _).alloc (by simp) _).alloc (by rw [h2]; omega) _).alloc (by rw [h3]; omega) _, ?_, ?_, ?_, by simp⟩
  · rw [← h3]; exact World.cell?_alloc_new _ _ _ 0
  · rw [← h3]; exact World.cell?_alloc_new _ _ _ 1
  · have := Z3.new ((w.alloc (.cells x 46)).alloc (.cells y 46))
    rw [h2] at this
    exact this.below ((Below.refl _ _).alloc (Nat.le_refl _) _)
@[irreducible] noncomputable def cv (w : World) (g i : Nat) : Value := (w.cell? ⟨g, i, none⟩).getD .nilFunc
theorem cv_of {w : World} {g i : Nat} (h : (w.cell? ⟨g, i, none⟩).isSome = true) : w.cell? ⟨g, i, none⟩ = some (cv w g i) := by
  obtain ⟨v, hv⟩ := Option.isSome_iff_exists.1 h
  unfold cv
  rw [hv]; rfl
theorem stepJ {w w1 w2 : World} {p0 p1 : Addr} {x0 x1 : Value} {g B : Nat} (hB : B ≤ w.heap.size) (H : w1.cell? p0 = some x0 ∧ w1.cell? p1 = some x1 ∧ w1.cell? ⟨g, 0, none⟩ = some (cv w1 g 0) ∧ w1.cell? ⟨g, 1, none⟩ = some (cv w1 g 1) ∧ w1.cell? ⟨g, 2, none⟩ = some (cv w1 g 2) ∧ w1.frozen? ⟨g, 0, none⟩ = false ∧ w1.frozen? ⟨g, 1, none⟩ = false ∧ w1.frozen? ⟨g, 2, none⟩ = false ∧ Below B w w1) (hb : Below w1.heap.size w1 w2) :
    w2.cell? p0 = some x0 ∧ w2.cell? p1 = some x1 ∧ w2.cell? ⟨g, 0, none⟩ = some (cv w2 g 0) ∧ w2.cell? ⟨g, 1, none⟩ = some (cv w2 g 1) ∧ w2.cell? ⟨g, 2, none⟩ = some (cv w2 g 2) ∧ w2.frozen? ⟨g, 0, none⟩ = false ∧ w2.frozen? ⟨g, 1, none⟩ = false ∧ w2.frozen? ⟨g, 2, none⟩ = false ∧ Below B w w2 := by
  obtain ⟨h0, h1, h2, h3, h4, h5, h6, h7, hq⟩ := H
  have hlt : g < w1.heap.size := World.block_lt_of_cell? _ _ h2
  refine ⟨(hb.cell (p := p0) (World.block_lt_of_cell? _ _ h0)).trans h0, (hb.cell (p := p1) (World.block_lt_of_cell? _ _ h1)).trans h1, ?_, ?_, ?_, (hb.frozen (p := ⟨g, 0, none⟩) hlt).trans h5, (hb.frozen (p := ⟨g, 1, none⟩) hlt).trans h6, (hb.frozen (p := ⟨g, 2, none⟩) hlt).trans h7, hq.trans (hb.mono (Nat.le_trans hB hq.size))⟩
  · exact cv_of (by rw [hb.cell (p := ⟨g, 0, none⟩) hlt, h2]; rfl)
  · exact cv_of (by rw [hb.cell (p := ⟨g, 1, none⟩) hlt, h3]; rfl)
  · exact cv_of (by rw [hb.cell (p := ⟨g, 2, none⟩) hlt, h4]; rfl)
theorem ltJ {w w1 : World} {p0 p1 : Addr} {x0 x1 : Value} {g B : Nat} (H : w1.cell? p0 = some x0 ∧ w1.cell? p1 = some x1 ∧ w1.cell? ⟨g, 0, none⟩ = some (cv w1 g 0) ∧ w1.cell? ⟨g, 1, none⟩ = some (cv w1 g 1) ∧ w1.cell? ⟨g, 2, none⟩ = some (cv w1 g 2) ∧ w1.frozen? ⟨g, 0, none⟩ = false ∧ w1.frozen? ⟨g, 1, none⟩ = false ∧ w1.frozen? ⟨g, 2, none⟩ = false ∧ Below B w w1) : g < w1.heap.size := by
  exact World.block_lt_of_cell? _ _ H.2.2.1
theorem stepJb {w w1 w2 : World} {b0 b1 i0 i1 : Nat} {x0 x1 : Value} {g B B2 : Nat} (H : w1.cell? ⟨b0, i0, none⟩ = some x0 ∧ w1.cell? ⟨b1, i1, none⟩ = some x1 ∧ w1.cell? ⟨g, 0, none⟩ = some (cv w1 g 0) ∧ w1.cell? ⟨g, 1, none⟩ = some (cv w1 g 1) ∧ w1.cell? ⟨g, 2, none⟩ = some (cv w1 g 2) ∧ w1.frozen? ⟨g, 0, none⟩ = false ∧ w1.frozen? ⟨g, 1, none⟩ = false ∧ w1.frozen? ⟨g, 2, none⟩ = false ∧ Below B w w1) (hb : Below B2 w1 w2) (h0 : b0 < B2) (h1 : b1 < B2) (hg : g < B2) (hB : B ≤ B2) :
    w2.cell? ⟨b0, i0, none⟩ = some x0 ∧ w2.cell? ⟨b1, i1, none⟩ = some x1 ∧ w2.cell? ⟨g, 0, none⟩ = some (cv w2 g 0) ∧ w2.cell? ⟨g, 1, none⟩ = some (cv w2 g 1) ∧ w2.cell? ⟨g, 2, none⟩ = some (cv w2 g 2) ∧ w2.frozen? ⟨g, 0, none⟩ = false ∧ w2.frozen? ⟨g, 1, none⟩ = false ∧ w2.frozen? ⟨g, 2, none⟩ = false ∧ Below B w w2 := by
  obtain ⟨k0, k1, h2, h3, h4, h5, h6, h7, hq⟩ := H
  refine ⟨(hb.cell (p := ⟨b0, i0, none⟩) h0).trans k0, (hb.cell (p := ⟨b1, i1, none⟩) h1).trans k1, ?_, ?_, ?_, (hb.frozen (p := ⟨g, 0, none⟩) hg).trans h5, (hb.frozen (p := ⟨g, 1, none⟩) hg).trans h6, (hb.frozen (p := ⟨g, 2, none⟩) hg).trans h7, hq.trans (hb.mono hB)⟩
  · exact cv_of (by rw [hb.cell (p := ⟨g, 0, none⟩) hg, h2]; rfl)
  · exact cv_of (by rw [hb.cell (p := ⟨g, 1, none⟩) hg, h3]; rfl)
  · exact cv_of (by rw [hb.cell (p := ⟨g, 2, none⟩) hg, h4]; rfl)
theorem stepJs {w w1 : World} {b0 b1 i0 i1 : Nat} {x0 x1 : Value} {g B j : Nat} {y : Value} (H : w1.cell? ⟨b0, i0, none⟩ = some x0 ∧ w1.cell? ⟨b1, i1, none⟩ = some x1 ∧ w1.cell? ⟨g, 0, none⟩ = some (cv w1 g 0) ∧ w1.cell? ⟨g, 1, none⟩ = some (cv w1 g 1) ∧ w1.cell? ⟨g, 2, none⟩ = some (cv w1 g 2) ∧ w1.frozen? ⟨g, 0, none⟩ = false ∧ w1.frozen? ⟨g, 1, none⟩ = false ∧ w1.frozen? ⟨g, 2, none⟩ = false ∧ Below B w w1) (h0 : g ≠ b0) (h1 : g ≠ b1) (hg : B ≤ g) :
    (w1.setCell ⟨g, j, none⟩ y).cell? ⟨b0, i0, none⟩ = some x0 ∧ (w1.setCell ⟨g, j, none⟩ y).cell? ⟨b1, i1, none⟩ = some x1 ∧ (w1.setCell ⟨g, j, none⟩ y).cell? ⟨g, 0, none⟩ = some (cv (w1.setCell ⟨g, j, none⟩ y) g 0) ∧ (w1.setCell ⟨g, j, none⟩ y).cell? ⟨g, 1, none⟩ = some (cv (w1.setCell ⟨g, j, none⟩ y) g 1) ∧ (w1.setCell ⟨g, j, none⟩ y).cell? ⟨g, 2, none⟩ = some (cv (w1.setCell ⟨g, j, none⟩ y) g 2) ∧ (w1.setCell ⟨g, j, none⟩ y).frozen? ⟨g, 0, none⟩ = false ∧ (w1.setCell ⟨g, j, none⟩ y).frozen? ⟨g, 1, none⟩ = false ∧ (w1.setCell ⟨g, j, none⟩ y).frozen? ⟨g, 2, none⟩ = false ∧ Below B w (w1.setCell ⟨g, j, none⟩ y) := by
  obtain ⟨k0, k1, h2, h3, h4, h5, h6, h7, hq⟩ := H
  exact ⟨(World.cell?_setCell_far w1 ⟨g, j, none⟩ ⟨b0, i0, none⟩ y h0).trans k0, (World.cell?_setCell_far w1 ⟨g, j, none⟩ ⟨b1, i1, none⟩ y h1).trans k1, cv_of (isSome_set (by rw [h2]; rfl)), cv_of (isSome_set (by rw [h3]; rfl)), cv_of (isSome_set (by rw [h4]; rfl)), (World.frozen?_setCell _ _ _ _).trans h5, (World.frozen?_setCell _ _ _ _).trans h6, (World.frozen?_setCell _ _ _ _).trans h7, hq.setCell hg _⟩
theorem z3J {w w1 w2 : World} {p0 p1 : Addr} {x0 x1 : Value} {g B : Nat} (H : w1.cell? p0 = some x0 ∧ w1.cell? p1 = some x1 ∧ w1.cell? ⟨g, 0, none⟩ = some (cv w1 g 0) ∧ w1.cell? ⟨g, 1, none⟩ = some (cv w1 g 1) ∧ w1.cell? ⟨g, 2, none⟩ = some (cv w1 g 2) ∧ w1.frozen? ⟨g, 0, none⟩ = false ∧ w1.frozen? ⟨g, 1, none⟩ = false ∧ w1.frozen? ⟨g, 2, none⟩ = false ∧ Below B w w1) (hb : Below w1.heap.size w1 w2) :
    w2.cell? ⟨g, 0, none⟩ = some (cv w2 g 0) ∧ w2.cell? ⟨g, 1, none⟩ = some (cv w2 g 1) ∧ w2.cell? ⟨g, 2, none⟩ = some (cv w2 g 2) := by
  obtain ⟨_, _, h2, h3, h4, _⟩ := H
  have hlt : g < w1.heap.size := World.block_lt_of_cell? _ _ h2
  exact ⟨cv_of (by rw [hb.cell (p := ⟨g, 0, none⟩) hlt, h2]; rfl), cv_of (by rw [hb.cell (p := ⟨g, 1, none⟩) hlt, h3]; rfl), cv_of (by rw [hb.cell (p := ⟨g, 2, none⟩) hlt, h4]; rfl)⟩
theorem lastJ {w w1 : World} {p0 p1 : Addr} {x0 x1 : Value} {g B : Nat} (H : w1.cell? p0 = some x0 ∧ w1.cell? p1 = some x1 ∧ w1.cell? ⟨g, 0, none⟩ = some (cv w1 g 0) ∧ w1.cell? ⟨g, 1, none⟩ = some (cv w1 g 1) ∧ w1.cell? ⟨g, 2, none⟩ = some (cv w1 g 2) ∧ w1.frozen? ⟨g, 0, none⟩ = false ∧ w1.frozen? ⟨g, 1, none⟩ = false ∧ w1.frozen? ⟨g, 2, none⟩ = false ∧ Below B w w1) : Below B w w1 := H.2.2.2.2.2.2.2.2
theorem startJ2 (w : World) (x0 x1 x2 y0 y1 y2 : Value) :
    ((((w.alloc (.cells #[x0, x1, x2] 46)).alloc (.cells #[y0, y1, y2] 46)).alloc (.cells #[.bool false, .slice none 0 0, .slice none 0 0] 46)).drew.cell? ⟨w.heap.size, 2, none⟩ = some x2) ∧
    ((((w.alloc (.cells #[x0, x1, x2] 46)).alloc (.cells #[y0, y1, y2] 46)).alloc (.cells #[.bool false, .slice none 0 0, .slice none 0 0] 46)).drew.cell? ⟨w.heap.size + 1, 2, none⟩ = some y2) ∧
    Z3 (((w.alloc (.cells #[x0, x1, x2] 46)).alloc (.cells #[y0, y1, y2] 46)).alloc (.cells #[.bool false, .slice none 0 0, .slice none 0 0] 46)).drew (w.heap.size + 1 + 1) ∧
    Below w.heap.size w (((w.alloc (.cells #[x0, x1, x2] 46)).alloc (.cells #[y0, y1, y2] 46)).alloc (.cells #[.bool false, .slice none 0 0, .slice none 0 0] 46)).drew := by
  have h1 : (w.alloc (.cells #[x0, x1, x2] 46)).heap.size = w.heap.size + 1 := by simp
  have h2 : ((w.alloc (.cells #[x0, x1, x2] 46)).alloc (.cells #[y0, y1, y2] 46)).heap.size = w.heap.size + 1 + 1 := by simp
  have hT := ((Below.refl _ (w.alloc (.cells #[x0, x1, x2] 46))).alloc (Nat.le_refl _) (.cells #[y0, y1, y2] 46)).alloc (by simp) (.cells #[.bool false, .slice none 0 0, .slice none 0 0] 46)
  have hU := (Below.refl _ ((w.alloc (.cells #[x0, x1, x2] 46)).alloc (.cells #[y0, y1, y2] 46))).alloc (Nat.le_refl _) (.cells #[.bool false, .slice none 0 0, .slice none 0 0] 46)
  refine ⟨(hT.drew.cell (p := ⟨w.heap.size, 2, none⟩) (show w.heap.size < _ by omega)).trans (World.cell?_alloc_new w _ _ 2), (hU.drew.cell (p := ⟨w.heap.size + 1, 2, none⟩) (show w.heap.size + 1 < _ by omega)).trans ?_, ?_, ((((Below.refl _ _).alloc (Nat.le_refl _) _).alloc (by simp) _).alloc (by simp; omega) _).drew⟩
  · rw [← h1]; exact World.cell?_alloc_new _ _ _ 2
  · have := Z3.new ((w.alloc (.cells #[x0, x1, x2] 46)).alloc (.cells #[y0, y1, y2] 46))
    rw [h2] at this
    exact this.below (Below.refl _ _).drew
inductive RetN (n : Nd) (w : World) (e : Ending) (w' : World) : Prop
  | mk (v : Value) (he : e = .returned v) (hv : NdV w' v n) (hb : Below w.heap.size w w')
end Go.Proofs.Ytpkoehnjladpoaa
