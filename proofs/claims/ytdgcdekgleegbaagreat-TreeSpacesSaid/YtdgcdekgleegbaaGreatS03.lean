/- Texts of one seat, merged. -/
import Derived.Test.YtdgcdekgleegbaaGreatS02
import Derived.Test.YtdgcdekgleegbaaGreatS01
import Derived.Deep.LoopGhost
import Derived.BigQuiet
import Derived.Deep.QuietTactic
set_option maxRecDepth 100000
set_option maxHeartbeats 4000000
set_option linter.unusedVariables false
/- Rows of a branch's cells in memory; the contracts of Size and Sum. -/
namespace Go.Proofs.YtdgcdekgleegbaaGreat
open Go.RowKit
open Sl (Cl Kd)
def okK (x : Kd) : Prop := x.page < 4294967296
def SlK (w : World) (v : Value) (l : List Kd) : Prop :=
  ∃ (a : Option Addr) (b o c : Nat), v = .slice a l.length c ∧ (l = [] ∨ a = some ⟨b, o, none⟩) ∧
    ∀ (j : Nat) x, l[j]? = some x → w.cell? ⟨b, o + j * 2, none⟩ = some (.string (str x.key)) ∧ w.cell? ⟨b, o + j * 2 + 1, none⟩ = some (.int .u32 x.page)
theorem SlK.below {w w' : World} {v : Value} {l : List Kd} (h : SlK w v l) (hb : Below w.heap.size w w') : SlK w' v l := by
  obtain ⟨a, b, o, c, hv, ha, hx⟩ := h
  refine ⟨a, b, o, c, hv, ha, fun j p hj => ?_⟩
  obtain ⟨h0, h1⟩ := hx j p hj
  have hlt := World.block_lt_of_cell? _ _ h0
  exact ⟨(hb.cell (p := ⟨b, o + j * 2, none⟩) hlt).trans h0, (hb.cell (p := ⟨b, o + j * 2 + 1, none⟩) hlt).trans h1⟩
theorem bytesK_ok (x : Kd) (hx : okK x) (w : World) : Calls Tryz.prog 182 #[cdcK, aggK x] w fun e w' => e = .returned (.string (str (Sl.shK.enc x))) ∧ Below w.heap.size w w' := bytesK_any x hx w
theorem In2K.step {w w1 w2 : World} {g h : Nat} {x0 x1 x2 x3 y0 y1 : Value} (H : w1.cell? ⟨g, 0, none⟩ = some x0 ∧ w1.cell? ⟨g, 1, none⟩ = some x1 ∧ w1.cell? ⟨g, 2, none⟩ = some x2 ∧ w1.cell? ⟨g, 3, none⟩ = some x3 ∧ w1.cell? ⟨h, 0, none⟩ = some y0 ∧ w1.cell? ⟨h, 1, none⟩ = some y1 ∧ Below g w w1) (hb : Below w1.heap.size w1 w2) : w2.cell? ⟨g, 0, none⟩ = some x0 ∧ w2.cell? ⟨g, 1, none⟩ = some x1 ∧ w2.cell? ⟨g, 2, none⟩ = some x2 ∧ w2.cell? ⟨g, 3, none⟩ = some x3 ∧ w2.cell? ⟨h, 0, none⟩ = some y0 ∧ w2.cell? ⟨h, 1, none⟩ = some y1 ∧ Below g w w2 := by
  obtain ⟨h0, h1, h2, h3, k0, k1, hB⟩ := H
  have hg := World.block_lt_of_cell? _ _ h0
  have hh := World.block_lt_of_cell? _ _ k0
  exact ⟨(hb.cell (p := ⟨g, 0, none⟩) hg).trans h0, (hb.cell (p := ⟨g, 1, none⟩) hg).trans h1, (hb.cell (p := ⟨g, 2, none⟩) hg).trans h2, (hb.cell (p := ⟨g, 3, none⟩) hg).trans h3, (hb.cell (p := ⟨h, 0, none⟩) hh).trans k0, (hb.cell (p := ⟨h, 1, none⟩) hh).trans k1, hB.trans (hb.mono (Nat.le_of_lt hg))⟩
theorem In2K.first {w w1 : World} {x0 x1 x2 x3 y0 y1 : Value} {T U : TypeId} (hb : Below ((w.alloc (.cells #[x0, x1, x2, x3] T)).alloc (.cells #[y0, y1] U)).heap.size ((w.alloc (.cells #[x0, x1, x2, x3] T)).alloc (.cells #[y0, y1] U)) w1) : w1.drew.cell? ⟨w.heap.size, 0, none⟩ = some x0 ∧ w1.drew.cell? ⟨w.heap.size, 1, none⟩ = some x1 ∧ w1.drew.cell? ⟨w.heap.size, 2, none⟩ = some x2 ∧ w1.drew.cell? ⟨w.heap.size, 3, none⟩ = some x3 ∧ w1.drew.cell? ⟨w.heap.size + 1, 0, none⟩ = some y0 ∧ w1.drew.cell? ⟨w.heap.size + 1, 1, none⟩ = some y1 ∧ Below w.heap.size w w1.drew := by
  have hz := size2 w (.cells #[x0, x1, x2, x3] T) (.cells #[y0, y1] U)
  rw [hz] at hb
  have hB : Below w.heap.size w w1 := ((((Below.refl _ _).alloc (Nat.le_refl _) (.cells #[x0, x1, x2, x3] T)).alloc (by simp) (.cells #[y0, y1] U))).trans (hb.mono (by omega))
  refine ⟨?_, ?_, ?_, ?_, ?_, ?_, hB.drew⟩
  · exact (hb.cell (p := ⟨w.heap.size, 0, none⟩) (by show w.heap.size < _; omega)).trans (by simp)
  · exact (hb.cell (p := ⟨w.heap.size, 1, none⟩) (by show w.heap.size < _; omega)).trans (by simp)
  · exact (hb.cell (p := ⟨w.heap.size, 2, none⟩) (by show w.heap.size < _; omega)).trans (by simp)
  · exact (hb.cell (p := ⟨w.heap.size, 3, none⟩) (by show w.heap.size < _; omega)).trans (by simp)
  · exact (hb.cell (p := ⟨w.heap.size + 1, 0, none⟩) (by show w.heap.size + 1 < _; omega)).trans (by have := World.cell?_alloc_new (w.alloc (.cells #[x0, x1, x2, x3] T)) #[y0, y1] U 0; rw [show (w.alloc (.cells #[x0, x1, x2, x3] T)).heap.size = w.heap.size + 1 by simp] at this; exact this)
  · exact (hb.cell (p := ⟨w.heap.size + 1, 1, none⟩) (by show w.heap.size + 1 < _; omega)).trans (by have := World.cell?_alloc_new (w.alloc (.cells #[x0, x1, x2, x3] T)) #[y0, y1] U 1; rw [show (w.alloc (.cells #[x0, x1, x2, x3] T)).heap.size = w.heap.size + 1 by simp] at this; exact this)
theorem sizeK_any (x : Kd) (hx : okK x) (w : World) :
    Calls Tryz.prog 167 #[shpK, aggK x] w fun e w' => e = .returned (.int .i64 (2 + (Sl.shK.enc x).length : Nat)) ∧ Below w.heap.size w w' := by
  have HB := Lib.hid (fun W => bytesK_ok x hx W)
  have HC := Lib.hid (fun W => codecK_any W)
  have HW := Lib.hid (fun W => wholeK_any W)
  have hlen : (Sl.shK.enc x).length ≤ 65794 := Nat.le_trans (Sl.encK_len x) (by decide)
  have hs := str_size (Sl.shK.enc x)
  revert HB hlen hs
  generalize Sl.shK.enc x = ex
  intro HB hlen hs
  generalize hn : ex.length = n at *
  have HN := Lib.hid hn
  clear hn
  have hadd : (2 : Int) + n ≤ 9223372036854775807 := by omega
  have hwr : IntKind.i64.wrap (2 + (n : Int)) = 2 + n := IntWalk.i64_in _ (by omega)
  unfold cdcK at HB HC
  unfold shpK at HC HW ⊢
  unfold aggK at HB ⊢
  go_enter Tryz.func167, Tryz.ntmps167
  go_wp2_with (go_at_call 180; refine (HW.out _).mono ?_; rintro e w1 ⟨rfl, hb1⟩; have hF := Lib.hid (In2K.first hb1))
  go_region_held3 (fun w' => w'.cell? ⟨w.heap.size, 0, none⟩ = some (.func (.func 168) #[] #[]) ∧ w'.cell? ⟨w.heap.size, 1, none⟩ = some (.func (.func 169) #[] #[]) ∧ w'.cell? ⟨w.heap.size, 2, none⟩ = some (.func (.func 170) #[] #[]) ∧ w'.cell? ⟨w.heap.size, 3, none⟩ = some (.nilFunc) ∧ w'.cell? ⟨w.heap.size + 1, 0, none⟩ = some (.string (str x.key)) ∧ w'.cell? ⟨w.heap.size + 1, 1, none⟩ = some (.int .u32 x.page) ∧ Below w.heap.size w w')
    ((first | assumption | exact In2K.step ‹_› hb | exact hF.out))
    (first
    | (go_at_call 181; refine (HC.out _).mono ?_; rintro e w2 ⟨rfl, hb⟩)
    | (go_at_call 182; refine (HB.out _).mono ?_; rintro e w2 ⟨rfl, hb⟩))
  rename_i hS
  have hB := hS.2.2.2.2.2.2
  go_wp2
  go_ret
  exact ⟨ret_int (by omega), hB⟩
theorem box4K (w : World) (x0 x1 x2 x3 : Value) (T : TypeId) : (w.alloc (.cells #[x0, x1, x2, x3] T)).cell? ⟨w.heap.size, 0, none⟩ = some x0 ∧ (w.alloc (.cells #[x0, x1, x2, x3] T)).cell? ⟨w.heap.size, 1, none⟩ = some x1 ∧ (w.alloc (.cells #[x0, x1, x2, x3] T)).cell? ⟨w.heap.size, 2, none⟩ = some x2 ∧ (w.alloc (.cells #[x0, x1, x2, x3] T)).cell? ⟨w.heap.size, 3, none⟩ = some x3 :=
  ⟨by simp, by simp, by simp, by simp⟩
/-- The shape's box. -/
structure BxK (w : World) (g : Nat) : Prop where
  c0 : w.cell? ⟨g, 0, none⟩ = some (.func (.func 168) #[] #[])
  c1 : w.cell? ⟨g, 1, none⟩ = some (.func (.func 169) #[] #[])
  c2 : w.cell? ⟨g, 2, none⟩ = some (.func (.func 170) #[] #[])
  c3 : w.cell? ⟨g, 3, none⟩ = some .nilFunc
theorem BxK.lt {w : World} {g : Nat} (h : BxK w g) : g < w.heap.size := World.block_lt_of_cell? _ _ h.c0
theorem BxK.below {w w' : World} {g B : Nat} (h : BxK w g) (hb : Below B w w') (hg : g < B) : BxK w' g :=
  ⟨(hb.cell (p := ⟨g, 0, none⟩) hg).trans h.c0, (hb.cell (p := ⟨g, 1, none⟩) hg).trans h.c1, (hb.cell (p := ⟨g, 2, none⟩) hg).trans h.c2, (hb.cell (p := ⟨g, 3, none⟩) hg).trans h.c3⟩
theorem BxK.new (w : World) : BxK (w.alloc (.cells #[.func (.func 168) #[] #[], .func (.func 169) #[] #[], .func (.func 170) #[] #[], .nilFunc] 213)) w.heap.size := ⟨by simp, by simp, by simp, by simp⟩
theorem BxK.alloc {w : World} {g : Nat} (h : BxK w g) (o : Obj) : BxK (w.alloc o) g := h.below ((Below.refl _ _).alloc (Nat.le_refl _) _) h.lt

theorem encK_le (l : List Kd) (k : Nat) (h : l.length ≤ 100000) : Sl.sum Sl.shK (l.take k) ≤ 6579600000 := by
  have h1 := Sl.sum_take Sl.shK l k
  have h2 := Sl.sum_le Sl.shK 65794 (fun x => Nat.le_trans (Sl.encK_len x) (by decide)) l
  omega
set_option maxHeartbeats 1000000 in
set_option maxRecDepth 100000 in
theorem sumK_any (v : Value) (l : List Kd) (hll : l.length ≤ 100000) (hl : ∀ x ∈ l, okK x) (w : World) (hv : SlK w v l) :
    Calls Tryz.prog 166 #[shpK, v] w fun e w' => e = .returned (.int .i64 (Sl.sum Sl.shK l : Nat)) ∧ Below w.heap.size w w' := by
  have HL := Lib.hid hl
  have HV := Lib.hid hv
  obtain ⟨a, b, o, c, rfl, ha, hx⟩ := hv
  have HX := Lib.hid hx
  have HA := Lib.hid ha
  clear hl ha hx
  unfold shpK
  have HB0 := Lib.hid (BxK.new w)
  go_enter Tryz.func166, Tryz.ntmps166
  go_wp2
  have HW0 : Hid (Below w.heap.size w (w.alloc (.cells #[.func (.func 168) #[] #[], .func (.func 169) #[] #[], .func (.func 170) #[] #[], .nilFunc] 213))) := (Below.refl _ _).alloc (Nat.le_refl _) _
  revert HB0 HW0
  generalize (w.alloc (.cells #[.func (.func 168) #[] #[], .func (.func 169) #[] #[], .func (.func 170) #[] #[], .nilFunc] 213)) = w2
  generalize hg : w.heap.size = g
  have HG := Lib.hid hg
  clear hg
  intro HB0 HW0
  go_loopg [5, 10] l.length (fun n s i wr => ∃ k m : Nat, k ≤ l.length ∧ n = l.length - k ∧ i = .int .i64 k ∧ s = .int .i64 m ∧ Hid (m = Sl.sum Sl.shK (l.take k)) ∧ Hid (Below (g + 1) w2 wr))
  case atStart => exact ⟨0, 0, Nat.zero_le _, rfl, rfl, rfl, rfl, Below.refl _ _⟩
  case round =>
    obtain ⟨k, m, hk, rfl, rfl, rfl, HM, HB⟩ := hrel
    have hm : m ≤ 6579600000 := by rw [HM.out]; exact encK_le l k hll
    by_cases hlt : k < l.length
    · obtain ⟨x, hx⟩ := take_some l k hlt
      obtain ⟨e0, e1⟩ := HX.out k x hx
      have hblt : b < g := by have h1 := World.block_lt_of_cell? _ _ e0; rw [HG.out] at h1; exact h1
      have HWr := Lib.hid (HW0.out.trans (HB.out.mono (Nat.le_succ g)))
      have d0 := (HWr.out.cell (p := ⟨b, o + k * 2, none⟩) hblt).trans e0
      have d1 := (HWr.out.cell (p := ⟨b, o + k * 2 + 1, none⟩) hblt).trans e1
      have HR := Lib.hid (HB0.out.below HB.out (Nat.lt_succ_self g))
      have q0 := fun o1 => (HR.out.alloc o1).c0
      have q1 := fun o1 => (HR.out.alloc o1).c1
      have q2 := fun o1 => (HR.out.alloc o1).c2
      have q3 := fun o1 => (HR.out.alloc o1).c3
      obtain rfl : a = some ⟨b, o, none⟩ := by
        rcases HA.out with h | h
        · rw [h] at hlt; cases hlt
        · exact h
      have HS := Lib.hid ((congrArg (Sl.sum Sl.shK) (Sl.take_snoc' l k x hx)).trans (Sl.sum_snoc Sl.shK (l.take k) x))
      have HZ := Lib.hid (fun W => sizeK_any x (HL.out x (List.mem_of_getElem? hx)) W)
      have hz : (Sl.shK.enc x).length ≤ 65794 := Nat.le_trans (Sl.encK_len x) (by decide)
      clear e0 e1 hx
      revert HS HZ hz
      generalize (Sl.shK.enc x).length = z
      intro HS HZ hz
      unfold shpK aggK at HZ
      go_wp2_with (go_at_call 167; refine (HZ.out _).mono ?_; rintro e w4 ⟨rfl, hb4⟩)
      have HB4 : Hid (Below (g + 1) w2 w4) := (HB.out.alloc (by have := HR.out.lt; omega) _).trans (hb4.mono (by have := HR.out.lt; simp; omega))
      clear hb4
      go_roundg (l.length - (k + 1))
      case measure => omega
      case rel => exact ⟨k + 1, m + (2 + z), by omega, rfl, by go_num, val_i64 (by omega), (by show _ = _; rw [HS.out, ← HM.out]), HB4⟩
    · obtain rfl : k = l.length := by omega
      rw [List.take_length] at HM
      go_wp2
      go_ret
      refine ⟨ret_int (by rw [HM.out]), ?_⟩
      rw [HG.out]
      exact HW0.out.trans (HB.out.mono (Nat.le_succ g))
end Go.Proofs.YtdgcdekgleegbaaGreat
/- Cells that stay as they were while new memory is made. -/
namespace Go.Proofs.YtdgcdekgleegbaaGreat
open Go.RowKit
theorem step2 {w w1 w2 : World} {B : Nat} {p0 p1 : Addr} {x0 x1 : Value} (hB : B ≤ w.heap.size) (H : w1.cell? p0 = some x0 ∧ w1.cell? p1 = some x1 ∧ Below B w w1) (hb : Below w1.heap.size w1 w2) : w2.cell? p0 = some x0 ∧ w2.cell? p1 = some x1 ∧ Below B w w2 := by
  obtain ⟨h0, h1, hq⟩ := H
  exact ⟨(hb.cell (p := p0) (World.block_lt_of_cell? _ _ h0)).trans h0, (hb.cell (p := p1) (World.block_lt_of_cell? _ _ h1)).trans h1, hq.trans (hb.mono (Nat.le_trans hB hq.size))⟩
theorem step4 {w w1 w2 : World} {B : Nat} {p0 p1 p2 p3 : Addr} {x0 x1 x2 x3 : Value} (hB : B ≤ w.heap.size) (H : w1.cell? p0 = some x0 ∧ w1.cell? p1 = some x1 ∧ w1.cell? p2 = some x2 ∧ w1.cell? p3 = some x3 ∧ Below B w w1) (hb : Below w1.heap.size w1 w2) : w2.cell? p0 = some x0 ∧ w2.cell? p1 = some x1 ∧ w2.cell? p2 = some x2 ∧ w2.cell? p3 = some x3 ∧ Below B w w2 := by
  obtain ⟨h0, h1, h2, h3, hq⟩ := H
  exact ⟨(hb.cell (p := p0) (World.block_lt_of_cell? _ _ h0)).trans h0, (hb.cell (p := p1) (World.block_lt_of_cell? _ _ h1)).trans h1, (hb.cell (p := p2) (World.block_lt_of_cell? _ _ h2)).trans h2, (hb.cell (p := p3) (World.block_lt_of_cell? _ _ h3)).trans h3, hq.trans (hb.mono (Nat.le_trans hB hq.size))⟩
theorem step6 {w w1 w2 : World} {B : Nat} {p0 p1 p2 p3 p4 p5 : Addr} {x0 x1 x2 x3 x4 x5 : Value} (hB : B ≤ w.heap.size) (H : w1.cell? p0 = some x0 ∧ w1.cell? p1 = some x1 ∧ w1.cell? p2 = some x2 ∧ w1.cell? p3 = some x3 ∧ w1.cell? p4 = some x4 ∧ w1.cell? p5 = some x5 ∧ Below B w w1) (hb : Below w1.heap.size w1 w2) : w2.cell? p0 = some x0 ∧ w2.cell? p1 = some x1 ∧ w2.cell? p2 = some x2 ∧ w2.cell? p3 = some x3 ∧ w2.cell? p4 = some x4 ∧ w2.cell? p5 = some x5 ∧ Below B w w2 := by
  obtain ⟨h0, h1, h2, h3, h4, h5, hq⟩ := H
  exact ⟨(hb.cell (p := p0) (World.block_lt_of_cell? _ _ h0)).trans h0, (hb.cell (p := p1) (World.block_lt_of_cell? _ _ h1)).trans h1, (hb.cell (p := p2) (World.block_lt_of_cell? _ _ h2)).trans h2, (hb.cell (p := p3) (World.block_lt_of_cell? _ _ h3)).trans h3, (hb.cell (p := p4) (World.block_lt_of_cell? _ _ h4)).trans h4, (hb.cell (p := p5) (World.block_lt_of_cell? _ _ h5)).trans h5, hq.trans (hb.mono (Nat.le_trans hB hq.size))⟩
theorem step8 {w w1 w2 : World} {B : Nat} {p0 p1 p2 p3 p4 p5 p6 p7 : Addr} {x0 x1 x2 x3 x4 x5 x6 x7 : Value} (hB : B ≤ w.heap.size) (H : w1.cell? p0 = some x0 ∧ w1.cell? p1 = some x1 ∧ w1.cell? p2 = some x2 ∧ w1.cell? p3 = some x3 ∧ w1.cell? p4 = some x4 ∧ w1.cell? p5 = some x5 ∧ w1.cell? p6 = some x6 ∧ w1.cell? p7 = some x7 ∧ Below B w w1) (hb : Below w1.heap.size w1 w2) : w2.cell? p0 = some x0 ∧ w2.cell? p1 = some x1 ∧ w2.cell? p2 = some x2 ∧ w2.cell? p3 = some x3 ∧ w2.cell? p4 = some x4 ∧ w2.cell? p5 = some x5 ∧ w2.cell? p6 = some x6 ∧ w2.cell? p7 = some x7 ∧ Below B w w2 := by
  obtain ⟨h0, h1, h2, h3, h4, h5, h6, h7, hq⟩ := H
  exact ⟨(hb.cell (p := p0) (World.block_lt_of_cell? _ _ h0)).trans h0, (hb.cell (p := p1) (World.block_lt_of_cell? _ _ h1)).trans h1, (hb.cell (p := p2) (World.block_lt_of_cell? _ _ h2)).trans h2, (hb.cell (p := p3) (World.block_lt_of_cell? _ _ h3)).trans h3, (hb.cell (p := p4) (World.block_lt_of_cell? _ _ h4)).trans h4, (hb.cell (p := p5) (World.block_lt_of_cell? _ _ h5)).trans h5, (hb.cell (p := p6) (World.block_lt_of_cell? _ _ h6)).trans h6, (hb.cell (p := p7) (World.block_lt_of_cell? _ _ h7)).trans h7, hq.trans (hb.mono (Nat.le_trans hB hq.size))⟩
theorem step12 {w w1 w2 : World} {B : Nat} {p0 p1 p2 p3 p4 p5 p6 p7 p8 p9 p10 p11 : Addr} {x0 x1 x2 x3 x4 x5 x6 x7 x8 x9 x10 x11 : Value} (hB : B ≤ w.heap.size) (H : w1.cell? p0 = some x0 ∧ w1.cell? p1 = some x1 ∧ w1.cell? p2 = some x2 ∧ w1.cell? p3 = some x3 ∧ w1.cell? p4 = some x4 ∧ w1.cell? p5 = some x5 ∧ w1.cell? p6 = some x6 ∧ w1.cell? p7 = some x7 ∧ w1.cell? p8 = some x8 ∧ w1.cell? p9 = some x9 ∧ w1.cell? p10 = some x10 ∧ w1.cell? p11 = some x11 ∧ Below B w w1) (hb : Below w1.heap.size w1 w2) : w2.cell? p0 = some x0 ∧ w2.cell? p1 = some x1 ∧ w2.cell? p2 = some x2 ∧ w2.cell? p3 = some x3 ∧ w2.cell? p4 = some x4 ∧ w2.cell? p5 = some x5 ∧ w2.cell? p6 = some x6 ∧ w2.cell? p7 = some x7 ∧ w2.cell? p8 = some x8 ∧ w2.cell? p9 = some x9 ∧ w2.cell? p10 = some x10 ∧ w2.cell? p11 = some x11 ∧ Below B w w2 := by
  obtain ⟨h0, h1, h2, h3, h4, h5, h6, h7, h8, h9, h10, h11, hq⟩ := H
  exact ⟨(hb.cell (p := p0) (World.block_lt_of_cell? _ _ h0)).trans h0, (hb.cell (p := p1) (World.block_lt_of_cell? _ _ h1)).trans h1, (hb.cell (p := p2) (World.block_lt_of_cell? _ _ h2)).trans h2, (hb.cell (p := p3) (World.block_lt_of_cell? _ _ h3)).trans h3, (hb.cell (p := p4) (World.block_lt_of_cell? _ _ h4)).trans h4, (hb.cell (p := p5) (World.block_lt_of_cell? _ _ h5)).trans h5, (hb.cell (p := p6) (World.block_lt_of_cell? _ _ h6)).trans h6, (hb.cell (p := p7) (World.block_lt_of_cell? _ _ h7)).trans h7, (hb.cell (p := p8) (World.block_lt_of_cell? _ _ h8)).trans h8, (hb.cell (p := p9) (World.block_lt_of_cell? _ _ h9)).trans h9, (hb.cell (p := p10) (World.block_lt_of_cell? _ _ h10)).trans h10, (hb.cell (p := p11) (World.block_lt_of_cell? _ _ h11)).trans h11, hq.trans (hb.mono (Nat.le_trans hB hq.size))⟩
end Go.Proofs.YtdgcdekgleegbaaGreat
/- Plain facts of bodies of cells, for the walks of Body; nothing of the program. -/
namespace Go.Proofs.YtdgcdekgleegbaaGreat
namespace Sl
open Oc
variable {α : Type}
def bodyR (S : Sh α) (l : List α) : List UInt8 × Int :=
  if right S l ≠ 0 then ([], right S l) else if 4072 < sum S l then ([], 14) else (body S l, 0)
theorem bodyR_bad (S : Sh α) (l : List α) (h : right S l ≠ 0) : bodyR S l = ([], right S l) := by unfold bodyR; rw [if_pos h]
theorem bodyR_full (S : Sh α) (l : List α) (h : right S l = 0) (h2 : 4072 < sum S l) : bodyR S l = ([], 14) := by unfold bodyR; rw [if_neg (by rw [h]; decide), if_pos h2]
theorem bodyR_ok (S : Sh α) (l : List α) (h : right S l = 0) (h2 : ¬ 4072 < sum S l) : bodyR S l = (body S l, 0) := by unfold bodyR; rw [if_neg (by rw [h]; decide), if_neg h2]
theorem encC_pos (c : Cl) : 1 ≤ (encC c).length := by
  unfold encC; split <;> simp only [List.length_append, big_length, encKey_len] <;> omega
theorem encK_pos (k : Kd) : 1 ≤ (encK k).length := by
  unfold encK; simp only [List.length_append, big_length, encKey_len]; omega
theorem at_le (S : Sh α) (l : List α) (k : Nat) (h : sum S l ≤ 4072) : 2 * l.length + ((l.take k).flatMap S.enc).length ≤ 4072 := by
  have h1 := sum_eq S l
  have h2 : ((l.take k).flatMap S.enc).length ≤ (l.flatMap S.enc).length := by
    conv => rhs; rw [← List.take_append_drop k l, List.flatMap_append, List.length_append]
    omega
  omega
theorem begins_at (S : Sh α) (l : List α) (k : Nat) (x : α) (h : l[k]? = some x) (n : Nat) : begins S n (l.take (k + 1)) = begins S n (l.take k) ++ big 2 (n + ((l.take k).flatMap S.enc).length) := by
  rw [take_snoc' l k x h, begins_snoc]
theorem flat_at (S : Sh α) (l : List α) (k : Nat) (x : α) (h : l[k]? = some x) : (l.take (k + 1)).flatMap S.enc = (l.take k).flatMap S.enc ++ S.enc x := by
  rw [take_snoc' l k x h, flat_snoc]
theorem u8_irr (a : UInt8) : ¬ a < a := fun h => by rw [UInt8.lt_iff_toNat_lt] at h; omega
theorem less_self : ∀ u : List UInt8, less u u = false
  | [] => rfl
  | a :: u => by simp [less, u8_irr a, less_self u]
theorem less_asym : ∀ x y : List UInt8, less x y = true → less y x = false
  | [], [], _ => rfl
  | [], _ :: _, _ => rfl
  | _ :: _, [], h => by cases h
  | a :: x, b :: y, h => by
    simp only [less, Bool.or_eq_true, decide_eq_true_eq, Bool.and_eq_true, beq_iff_eq] at h
    rcases h with h | ⟨rfl, h⟩
    · have h1 : ¬ b < a := fun h2 => by rw [UInt8.lt_iff_toNat_lt] at h h2; omega
      have h2 : ¬ b = a := fun h2 => u8_irr a (h2 ▸ h)
      simp [less, h1, h2]
    · simp [less, u8_irr a, less_asym x y h]
theorem less_tri : ∀ x y : List UInt8, less x y = false → less y x = false → x = y
  | [], [], _, _ => rfl
  | [], _ :: _, h, _ => by cases h
  | _ :: _, [], _, h => by cases h
  | a :: x, b :: y, h, k => by
    simp only [less, Bool.or_eq_false_iff, decide_eq_false_iff_not, Bool.and_eq_false_imp, beq_iff_eq] at h k
    have hab : a = b := by
      have h1 := h.1
      have h2 := k.1
      rw [UInt8.lt_iff_toNat_lt] at h1 h2
      exact UInt8.toNat_inj.1 (by omega)
    rw [hab, less_tri x y (h.2 hab) (k.2 hab.symm)]
end Sl
end Go.Proofs.YtdgcdekgleegbaaGreat
/- The contract of the document's own cell. -/
namespace Go.Proofs.YtdgcdekgleegbaaGreat
open Go.RowKit
open Sl (Cl Kd)
theorem ext_take (l : List UInt8) (n : Nat) (h : n ≤ l.length) : (str l).extract 0 n = str (l.take n) := by
  have := str_take l n
  rwa [Nat.min_eq_right h] at this
theorem big1_at (x : Int) (n : Nat) (hx : x = n) (hn : n < 256) (w : World) :
    Calls Tryz.prog 53 #[.int .u64 x, .int .i64 1] w fun e w' => e = .returned (.string (str (Oc.big 1 n))) ∧ Below w.heap.size w w' := big_any x n 1 hx (by omega) (by omega) (by omega) w
theorem big2_at (x : Int) (n : Nat) (hx : x = n) (hn : n < 65536) (w : World) :
    Calls Tryz.prog 53 #[.int .u64 x, .int .i64 2] w fun e w' => e = .returned (.string (str (Oc.big 2 n))) ∧ Below w.heap.size w w' := big_any x n 2 hx (by omega) (by omega) (by omega) w
theorem big4_at (x : Int) (n : Nat) (hx : x = n) (hn : n < 4294967296) (w : World) :
    Calls Tryz.prog 53 #[.int .u64 x, .int .i64 4] w fun e w' => e = .returned (.string (str (Oc.big 4 n))) ∧ Below w.heap.size w w' := big_any x n 4 hx (by omega) (by omega) (by omega) w
theorem below_drewN {B : Nat} {u v : World} (h : Below B u v) (n : Nat) : Below B u (v.drewN n) := ⟨h.os, h.tape, h.output, h.size, h.block⟩
theorem quiet_box {w : World} {x0 x1 x2 x3 : Value} {T : TypeId} (n : Nat) :
    ((w.alloc (.cells #[x0, x1, x2, x3] T)).drewN n).cell? ⟨w.heap.size, 0, none⟩ = some x0 ∧ ((w.alloc (.cells #[x0, x1, x2, x3] T)).drewN n).cell? ⟨w.heap.size, 1, none⟩ = some x1 ∧ ((w.alloc (.cells #[x0, x1, x2, x3] T)).drewN n).cell? ⟨w.heap.size, 2, none⟩ = some x2 ∧ ((w.alloc (.cells #[x0, x1, x2, x3] T)).drewN n).cell? ⟨w.heap.size, 3, none⟩ = some x3 ∧ Below w.heap.size w ((w.alloc (.cells #[x0, x1, x2, x3] T)).drewN n) :=
  ⟨by simp, by simp, by simp, by simp, below_drewN ((Below.refl _ _).alloc (Nat.le_refl _) _) n⟩
set_option maxHeartbeats 2000000 in
set_option maxRecDepth 100000 in
theorem refCell_le_kid (c : Cl) (hk : ¬ 255 < c.key.length) (hc : c.chain < 4294967296) (w : World) :
    Calls Tryz.prog 54 #[aggC c, .bool false] w fun e w' => e = .returned (.string (str (Sl.encK ⟨c.key, c.chain⟩))) ∧ Below w.heap.size w w' := by
  have hk' : ¬ (255 : Int) < c.key.length := by omega
  have hs := str_size c.key
  have hlen : c.key.length < 256 := by omega
  have hz := big_size
  have H : Hid (str (Oc.big 1 c.key.length) ++ str c.key ++ str (Oc.big 4 c.chain) = str (Sl.encK ⟨c.key, c.chain⟩)) := by
    show _ = _
    rw [str_append, str_append]
    unfold Sl.encK Sl.encKey
    rw [Nat.min_eq_left (show c.key.length ≤ 255 by omega), List.take_of_length_le (show c.key.length ≤ 255 by omega)]
  generalize Sl.encK ⟨c.key, c.chain⟩ = res at H ⊢
  unfold aggC
  go_enter Tryz.func54, Tryz.ntmps54
  go_wp2
  go_quiet (fail)
  go_wp2_with (first
    | (go_at_call_of 53 (Value.int IntKind.i64 1); refine (big1_at _ c.key.length ?_ (by omega) _).mono ?_; omega; rintro e w1 ⟨rfl, hb1⟩; obtain ⟨k0, k1, k2, k3, kB⟩ := InC.step (quiet_box _) hb1)
    | (go_at_call_of 53 (Value.int IntKind.i64 4); refine (big4_at _ c.chain ?_ hc _).mono ?_; omega; rintro e w2 ⟨rfl, hb2⟩))
  go_ret
  exact ⟨ret_string H.out, kB.trans (hb2.mono kB.size)⟩
set_option maxHeartbeats 2000000 in
set_option maxRecDepth 100000 in
theorem refCell_le_chain (c : Cl) (hk : ¬ 255 < c.key.length) (h0 : c.chain ≠ 0) (hc : c.chain < 4294967296) (hl : c.long < 4294967296) (w : World) :
    Calls Tryz.prog 54 #[aggC c, .bool true] w fun e w' => e = .returned (.string (str (Sl.encC c))) ∧ Below w.heap.size w w' := by
  have hk' : ¬ (255 : Int) < c.key.length := by omega
  have hs := str_size c.key
  have hlen : c.key.length < 256 := by omega
  have hz := big_size
  have H : Hid (str (Oc.big 1 c.key.length) ++ str c.key ++ str (Oc.big 1 1) ++ str (Oc.big 4 c.chain) ++ str (Oc.big 4 c.long) = str (Sl.encC c)) := by
    show _ = _
    rw [str_append, str_append, str_append, str_append]
    unfold Sl.encC Sl.encKey
    rw [if_pos h0]
    rw [Nat.min_eq_left (show c.key.length ≤ 255 by omega), List.take_of_length_le (show c.key.length ≤ 255 by omega)]
    simp
  generalize Sl.encC c = res at H ⊢
  have hd : ((c.chain : Int) != 0) = true := by rw [bne_iff_ne]; omega
  have hq1 : ¬ 9223372036854775807 < 1 + c.key.length := by omega
  have hq2 : ¬ 9223372036854775807 < 1 + c.key.length + 1 := by omega
  have hq3 : ¬ 9223372036854775807 < 1 + c.key.length + 1 + 4 := by omega
  have hq4 : ¬ 9223372036854775807 < 1 + c.key.length + 1 + 4 + 4 := by omega
  unfold aggC
  go_enter Tryz.func54, Tryz.ntmps54
  go_wp2
  go_quiet (fail)
  go_wp2_with (go_at_call_of 53 (Value.int IntKind.i64 1); refine (big1_at _ c.key.length ?_ (by omega) _).mono ?_; omega; rintro e w1 ⟨rfl, hb1⟩; obtain ⟨k0, k1, k2, k3, kB⟩ := InC.step (quiet_box _) hb1)
  have HF : Hid (w1.drew.cell? ⟨w.heap.size, 0, none⟩ = some (.string (str c.key)) ∧ w1.drew.cell? ⟨w.heap.size, 1, none⟩ = some (.string (str c.val)) ∧ w1.drew.cell? ⟨w.heap.size, 2, none⟩ = some (.int .u32 c.chain) ∧ w1.drew.cell? ⟨w.heap.size, 3, none⟩ = some (.int .u32 c.long) ∧ Below w.heap.size w w1.drew) := ⟨k0, k1, k2, k3, kB.drew⟩
  have HO := Lib.hid (fun W => big1_at 1 1 rfl (by decide) W)
  have HC := Lib.hid (fun W => big4_at (IntKind.u64.wrap (c.chain : Int)) c.chain (by rw [IntKind.wrap_u64]; omega) hc W)
  have HL := Lib.hid (fun W => big4_at (IntKind.u64.wrap (c.long : Int)) c.long (by rw [IntKind.wrap_u64]; omega) hl W)
  clear k0 k1 k2 k3 kB hb1
  go_region_held3 (fun w' => w'.cell? ⟨w.heap.size, 0, none⟩ = some (.string (str c.key)) ∧ w'.cell? ⟨w.heap.size, 1, none⟩ = some (.string (str c.val)) ∧ w'.cell? ⟨w.heap.size, 2, none⟩ = some (.int .u32 c.chain) ∧ w'.cell? ⟨w.heap.size, 3, none⟩ = some (.int .u32 c.long) ∧ Below w.heap.size w w')
    ((first | assumption | exact InC.step ‹_› hb | exact HF.out))
    (first
    | (go_at_call 53; with_reducible refine (HO.out _).mono ?_; rintro e w2 ⟨rfl, hb⟩)
    | (go_at_call 53; with_reducible refine (HC.out _).mono ?_; rintro e w2 ⟨rfl, hb⟩)
    | (go_at_call 53; with_reducible refine (HL.out _).mono ?_; rintro e w2 ⟨rfl, hb⟩))
  rename_i hS
  have hB := hS.2.2.2.2
  go_wp2
  go_ret
  exact ⟨ret_string H.out, hB⟩
set_option maxHeartbeats 2000000 in
set_option maxRecDepth 100000 in
theorem refCell_le_plain (c : Cl) (hk : ¬ 255 < c.key.length) (h0 : c.chain = 0) (hv : c.val.length ≤ 60000) (w : World) :
    Calls Tryz.prog 54 #[aggC c, .bool true] w fun e w' => e = .returned (.string (str (Sl.encC c))) ∧ Below w.heap.size w w' := by
  have hk' : ¬ (255 : Int) < c.key.length := by omega
  have hs := str_size c.key
  have hlen : c.key.length < 256 := by omega
  have hz := big_size
  have H : Hid (str (Oc.big 1 c.key.length) ++ str c.key ++ str (Oc.big 1 0) ++ str (Oc.big 2 c.val.length) ++ str c.val = str (Sl.encC c)) := by
    show _ = _
    rw [str_append, str_append, str_append, str_append]
    unfold Sl.encC Sl.encKey
    rw [if_neg (by omega)]
    rw [Nat.min_eq_left (show c.key.length ≤ 255 by omega), List.take_of_length_le (show c.key.length ≤ 255 by omega)]
    rw [Nat.min_eq_left (show c.val.length ≤ 65535 by omega), List.take_of_length_le (show c.val.length ≤ 65535 by omega)]
    simp
  generalize Sl.encC c = res at H ⊢
  have hvs := str_size c.val
  have hv2 : ¬ (65535 : Int) < c.val.length := by omega
  unfold aggC
  rw [h0]
  clear h0
  go_enter Tryz.func54, Tryz.ntmps54
  go_wp2
  go_quiet (fail)
  go_wp2_with (first
    | (go_at_call_of 53 (Value.int IntKind.i64 1); refine (big1_at _ c.key.length ?_ (by omega) _).mono ?_; omega; rintro e w1 ⟨rfl, hb1⟩; obtain ⟨k0, k1, k2, k3, kB⟩ := InC.step (quiet_box _) hb1)
    | (go_at_call_of 53 (Value.int IntKind.i64 1); refine (big1_at _ 0 ?_ (by omega) _).mono ?_; rfl; rintro e w2 ⟨rfl, hb2⟩)
    | (go_at_call_of 53 (Value.int IntKind.i64 2); refine (big2_at _ c.val.length ?_ (by omega) _).mono ?_; omega; rintro e w3 ⟨rfl, hb3⟩))
  go_ret
  exact ⟨ret_string H.out, below_step (below_step kB hb2) hb3⟩
set_option maxHeartbeats 2000000 in
set_option maxRecDepth 100000 in
theorem refCell_gt_kid (c : Cl) (hk : 255 < c.key.length) (hc : c.chain < 4294967296) (w : World) :
    Calls Tryz.prog 54 #[aggC c, .bool false] w fun e w' => e = .returned (.string (str (Sl.encK ⟨c.key, c.chain⟩))) ∧ Below w.heap.size w w' := by
  have hk' : (255 : Int) < c.key.length := by omega
  have hk0 : (255 : Int) ≤ c.key.length := by omega
  have hs := str_size c.key
  have hz := big_size
  have H : Hid (str (Oc.big 1 255) ++ str (c.key.take 255) ++ str (Oc.big 4 c.chain) = str (Sl.encK ⟨c.key, c.chain⟩)) := by
    show _ = _
    rw [str_append, str_append]
    unfold Sl.encK Sl.encKey
    rw [Nat.min_eq_right (show 255 ≤ c.key.length by omega)]
  generalize Sl.encK ⟨c.key, c.chain⟩ = res at H ⊢
  have he := ext_take c.key 255 (by omega)
  have ht : (str (c.key.take 255)).size = 255 := by rw [str_size, List.length_take]; omega
  generalize c.key.take 255 = t at H he ht
  unfold aggC
  go_enter Tryz.func54, Tryz.ntmps54
  go_wp2
  go_quiet (fail)
  go_wp2_with (first
    | (go_at_call_of 53 (Value.int IntKind.i64 1); refine (big1_at _ 255 ?_ (by omega) _).mono ?_; omega; rintro e w1 ⟨rfl, hb1⟩; obtain ⟨k0, k1, k2, k3, kB⟩ := InC.step (quiet_box _) hb1)
    | (go_at_call_of 53 (Value.int IntKind.i64 4); refine (big4_at _ c.chain ?_ hc _).mono ?_; omega; rintro e w2 ⟨rfl, hb2⟩))
  go_ret
  exact ⟨ret_string H.out, kB.trans (hb2.mono kB.size)⟩
set_option maxHeartbeats 2000000 in
set_option maxRecDepth 100000 in
theorem refCell_gt_chain (c : Cl) (hk : 255 < c.key.length) (h0 : c.chain ≠ 0) (hc : c.chain < 4294967296) (hl : c.long < 4294967296) (w : World) :
    Calls Tryz.prog 54 #[aggC c, .bool true] w fun e w' => e = .returned (.string (str (Sl.encC c))) ∧ Below w.heap.size w w' := by
  have hk' : (255 : Int) < c.key.length := by omega
  have hk0 : (255 : Int) ≤ c.key.length := by omega
  have hs := str_size c.key
  have hz := big_size
  have H : Hid (str (Oc.big 1 255) ++ str (c.key.take 255) ++ str (Oc.big 1 1) ++ str (Oc.big 4 c.chain) ++ str (Oc.big 4 c.long) = str (Sl.encC c)) := by
    show _ = _
    rw [str_append, str_append, str_append, str_append]
    unfold Sl.encC Sl.encKey
    rw [if_pos h0]
    rw [Nat.min_eq_right (show 255 ≤ c.key.length by omega)]
    simp
  generalize Sl.encC c = res at H ⊢
  have he := ext_take c.key 255 (by omega)
  have ht : (str (c.key.take 255)).size = 255 := by rw [str_size, List.length_take]; omega
  generalize c.key.take 255 = t at H he ht
  have hd : ((c.chain : Int) != 0) = true := by rw [bne_iff_ne]; omega
  unfold aggC
  go_enter Tryz.func54, Tryz.ntmps54
  go_wp2
  go_quiet (fail)
  go_wp2_with (go_at_call_of 53 (Value.int IntKind.i64 1); refine (big1_at _ 255 ?_ (by omega) _).mono ?_; omega; rintro e w1 ⟨rfl, hb1⟩; obtain ⟨k0, k1, k2, k3, kB⟩ := InC.step (quiet_box _) hb1)
  have HF : Hid (w1.drew.cell? ⟨w.heap.size, 0, none⟩ = some (.string (str c.key)) ∧ w1.drew.cell? ⟨w.heap.size, 1, none⟩ = some (.string (str c.val)) ∧ w1.drew.cell? ⟨w.heap.size, 2, none⟩ = some (.int .u32 c.chain) ∧ w1.drew.cell? ⟨w.heap.size, 3, none⟩ = some (.int .u32 c.long) ∧ Below w.heap.size w w1.drew) := ⟨k0, k1, k2, k3, kB.drew⟩
  have HO := Lib.hid (fun W => big1_at 1 1 rfl (by decide) W)
  have HC := Lib.hid (fun W => big4_at (IntKind.u64.wrap (c.chain : Int)) c.chain (by rw [IntKind.wrap_u64]; omega) hc W)
  have HL := Lib.hid (fun W => big4_at (IntKind.u64.wrap (c.long : Int)) c.long (by rw [IntKind.wrap_u64]; omega) hl W)
  clear k0 k1 k2 k3 kB hb1
  go_region_held3 (fun w' => w'.cell? ⟨w.heap.size, 0, none⟩ = some (.string (str c.key)) ∧ w'.cell? ⟨w.heap.size, 1, none⟩ = some (.string (str c.val)) ∧ w'.cell? ⟨w.heap.size, 2, none⟩ = some (.int .u32 c.chain) ∧ w'.cell? ⟨w.heap.size, 3, none⟩ = some (.int .u32 c.long) ∧ Below w.heap.size w w')
    ((first | assumption | exact InC.step ‹_› hb | exact HF.out))
    (first
    | (go_at_call 53; with_reducible refine (HO.out _).mono ?_; rintro e w2 ⟨rfl, hb⟩)
    | (go_at_call 53; with_reducible refine (HC.out _).mono ?_; rintro e w2 ⟨rfl, hb⟩)
    | (go_at_call 53; with_reducible refine (HL.out _).mono ?_; rintro e w2 ⟨rfl, hb⟩))
  rename_i hS
  have hB := hS.2.2.2.2
  go_wp2
  go_ret
  exact ⟨ret_string H.out, hB⟩
set_option maxHeartbeats 2000000 in
set_option maxRecDepth 100000 in
theorem refCell_gt_plain (c : Cl) (hk : 255 < c.key.length) (h0 : c.chain = 0) (hv : c.val.length ≤ 60000) (w : World) :
    Calls Tryz.prog 54 #[aggC c, .bool true] w fun e w' => e = .returned (.string (str (Sl.encC c))) ∧ Below w.heap.size w w' := by
  have hk' : (255 : Int) < c.key.length := by omega
  have hk0 : (255 : Int) ≤ c.key.length := by omega
  have hs := str_size c.key
  have hz := big_size
  have H : Hid (str (Oc.big 1 255) ++ str (c.key.take 255) ++ str (Oc.big 1 0) ++ str (Oc.big 2 c.val.length) ++ str c.val = str (Sl.encC c)) := by
    show _ = _
    rw [str_append, str_append, str_append, str_append]
    unfold Sl.encC Sl.encKey
    rw [if_neg (by omega)]
    rw [Nat.min_eq_right (show 255 ≤ c.key.length by omega)]
    rw [Nat.min_eq_left (show c.val.length ≤ 65535 by omega), List.take_of_length_le (show c.val.length ≤ 65535 by omega)]
    simp
  generalize Sl.encC c = res at H ⊢
  have he := ext_take c.key 255 (by omega)
  have ht : (str (c.key.take 255)).size = 255 := by rw [str_size, List.length_take]; omega
  generalize c.key.take 255 = t at H he ht
  have hvs := str_size c.val
  have hv2 : ¬ (65535 : Int) < c.val.length := by omega
  unfold aggC
  rw [h0]
  clear h0
  go_enter Tryz.func54, Tryz.ntmps54
  go_wp2
  go_quiet (fail)
  go_wp2_with (first
    | (go_at_call_of 53 (Value.int IntKind.i64 1); refine (big1_at _ 255 ?_ (by omega) _).mono ?_; omega; rintro e w1 ⟨rfl, hb1⟩; obtain ⟨k0, k1, k2, k3, kB⟩ := InC.step (quiet_box _) hb1)
    | (go_at_call_of 53 (Value.int IntKind.i64 1); refine (big1_at _ 0 ?_ (by omega) _).mono ?_; rfl; rintro e w2 ⟨rfl, hb2⟩)
    | (go_at_call_of 53 (Value.int IntKind.i64 2); refine (big2_at _ c.val.length ?_ (by omega) _).mono ?_; omega; rintro e w3 ⟨rfl, hb3⟩))
  go_ret
  exact ⟨ret_string H.out, below_step (below_step kB hb2) hb3⟩
end Go.Proofs.YtdgcdekgleegbaaGreat
/- The contracts of the document's own Sum and right. -/
namespace Go.Proofs.YtdgcdekgleegbaaGreat
open Go.RowKit
open Sl (Cl Kd)
namespace Sl
/-- What the document's answer takes a cell for: a leaf's, or a branch's. -/
def shR (leaf : Bool) : Sh Cl := ⟨fun c => if leaf then encC c else encK ⟨c.key, c.chain⟩, Cl.key, fun c => if leaf then fitsC c else true⟩
theorem shR_len (leaf : Bool) (c : Cl) : ((shR leaf).enc c).length ≤ 65794 := by
  cases leaf
  · exact Nat.le_trans (encK_len ⟨c.key, c.chain⟩) (by decide)
  · exact encC_len c
end Sl
theorem refCell_any (c : Cl) (leaf : Bool) (hc : okC c) (hv : c.val.length ≤ 60000) (w : World) :
    Calls Tryz.prog 54 #[aggC c, .bool leaf] w fun e w' => e = .returned (.string (str ((Sl.shR leaf).enc c))) ∧ Below w.heap.size w w' := by
  cases leaf
  · by_cases hk : 255 < c.key.length
    · exact refCell_gt_kid c hk hc.1 w
    · exact refCell_le_kid c hk hc.1 w
  · by_cases hk : 255 < c.key.length
    · by_cases h0 : c.chain = 0
      · exact refCell_gt_plain c hk h0 hv w
      · exact refCell_gt_chain c hk h0 hc.1 hc.2 w
    · by_cases h0 : c.chain = 0
      · exact refCell_le_plain c hk h0 hv w
      · exact refCell_le_chain c hk h0 hc.1 hc.2 w
theorem shR_le (leaf : Bool) (l : List Cl) (k : Nat) (h : l.length ≤ 100000) : Sl.sum (Sl.shR leaf) (l.take k) ≤ 6579600000 := by
  have h1 := Sl.sum_take (Sl.shR leaf) l k
  have h2 := Sl.sum_le (Sl.shR leaf) 65794 (Sl.shR_len leaf) l
  omega
set_option maxHeartbeats 1000000 in
set_option maxRecDepth 100000 in
theorem refSum_any (leaf : Bool) (v : Value) (l : List Cl) (hll : l.length ≤ 100000) (hl : ∀ x ∈ l, okC x ∧ x.val.length ≤ 60000) (w : World) (hv : SlC w v l) :
    Calls Tryz.prog 52 #[v, .bool leaf] w fun e w' => e = .returned (.int .i64 (Sl.sum (Sl.shR leaf) l : Nat)) ∧ Below w.heap.size w w' := by
  have HL := Lib.hid hl
  obtain ⟨a, b, o, c, rfl, ha, hx⟩ := hv
  have HX := Lib.hid hx
  have HA := Lib.hid ha
  clear hl ha hx
  go_enter Tryz.func52, Tryz.ntmps52
  go_wp2
  go_loopg [5, 10] l.length (fun n s i wr => ∃ k m : Nat, k ≤ l.length ∧ n = l.length - k ∧ i = .int .i64 k ∧ s = .int .i64 m ∧ Hid (m = Sl.sum (Sl.shR leaf) (l.take k)) ∧ Hid (Below w.heap.size w wr))
  case atStart => exact ⟨0, 0, Nat.zero_le _, rfl, rfl, rfl, rfl, Below.refl _ _⟩
  case round =>
    obtain ⟨k, m, hk, rfl, rfl, rfl, HM, HB⟩ := hrel
    have hm : m ≤ 6579600000 := by rw [HM.out]; exact shR_le leaf l k hll
    by_cases hlt : k < l.length
    · obtain ⟨x, hx⟩ := take_some l k hlt
      obtain ⟨e0, e1, e2, e3⟩ := HX.out k x hx
      have hblt : b < w.heap.size := World.block_lt_of_cell? _ _ e0
      have d0 := (HB.out.cell (p := ⟨b, o + k * 4, none⟩) hblt).trans e0
      have d1 := (HB.out.cell (p := ⟨b, o + k * 4 + 1, none⟩) hblt).trans e1
      have d2 := (HB.out.cell (p := ⟨b, o + k * 4 + 2, none⟩) hblt).trans e2
      have d3 := (HB.out.cell (p := ⟨b, o + k * 4 + 3, none⟩) hblt).trans e3
      obtain rfl : a = some ⟨b, o, none⟩ := by
        rcases HA.out with h | h
        · rw [h] at hlt; cases hlt
        · exact h
      have HS := Lib.hid ((congrArg (Sl.sum (Sl.shR leaf)) (Sl.take_snoc' l k x hx)).trans (Sl.sum_snoc (Sl.shR leaf) (l.take k) x))
      have hxx := HL.out x (List.mem_of_getElem? hx)
      have HZ := Lib.hid (fun W => refCell_any x leaf hxx.1 hxx.2 W)
      have hz := Sl.shR_len leaf x
      have hsz := str_size ((Sl.shR leaf).enc x)
      clear e0 e1 e2 e3 hx hxx
      revert HS HZ hz hsz
      generalize (Sl.shR leaf).enc x = ex
      generalize hzl : ex.length = z
      have HZL := Lib.hid hzl
      clear hzl
      intro HS HZ hz hsz
      unfold aggC at HZ
      go_wp2_with (go_at_call 54; refine (HZ.out _).mono ?_; rintro e w4 ⟨rfl, hb4⟩)
      have HB4 : Hid (Below w.heap.size w w4) := (HB.out.alloc HB.out.size _).trans (hb4.mono (by have := HB.out.size; simp; omega))
      clear hb4
      go_roundg (l.length - (k + 1))
      case measure => omega
      case rel => exact ⟨k + 1, m + (2 + z), by omega, rfl, by go_num, val_i64 (by omega), (by show _ = _; rw [HS.out, ← HM.out]), HB4⟩
    · obtain rfl : k = l.length := by omega
      rw [List.take_length] at HM
      go_wp2
      go_ret
      exact ⟨ret_int (by rw [HM.out]), HB.out⟩
end Go.Proofs.YtdgcdekgleegbaaGreat
