/- Texts of one seat, merged. -/
import Derived.Test.YtpkoehnjladpoaaE03
import Derived.Test.YtpkoehnjladpoaaE02
import Derived.Deep.LoopGhost
set_option maxRecDepth 100000
set_option maxHeartbeats 4000000
set_option linter.unusedVariables false
/- Rows of a leaf's cells in memory; the contracts of Size and Sum. -/
namespace Go.Proofs.Ytpkoehnjladpoaa
open Go.RowKit
open Sl (Cl Kd)
def okC (x : Cl) : Prop := x.chain < 4294967296 ∧ x.long < 4294967296
def SlC (w : World) (v : Value) (l : List Cl) : Prop :=
  ∃ (a : Option Addr) (b o c : Nat), v = .slice a l.length c ∧ (l = [] ∨ a = some ⟨b, o, none⟩) ∧
    ∀ (j : Nat) x, l[j]? = some x → w.cell? ⟨b, o + j * 4, none⟩ = some (.string (str x.key)) ∧ w.cell? ⟨b, o + j * 4 + 1, none⟩ = some (.string (str x.val)) ∧ w.cell? ⟨b, o + j * 4 + 2, none⟩ = some (.int .u32 x.chain) ∧ w.cell? ⟨b, o + j * 4 + 3, none⟩ = some (.int .u32 x.long)
theorem SlC.below {w w' : World} {v : Value} {l : List Cl} (h : SlC w v l) (hb : Below w.heap.size w w') : SlC w' v l := by
  obtain ⟨a, b, o, c, hv, ha, hx⟩ := h
  refine ⟨a, b, o, c, hv, ha, fun j p hj => ?_⟩
  obtain ⟨h0, h1, h2, h3⟩ := hx j p hj
  have hlt := World.block_lt_of_cell? _ _ h0
  exact ⟨(hb.cell (p := ⟨b, o + j * 4, none⟩) hlt).trans h0, (hb.cell (p := ⟨b, o + j * 4 + 1, none⟩) hlt).trans h1, (hb.cell (p := ⟨b, o + j * 4 + 2, none⟩) hlt).trans h2, (hb.cell (p := ⟨b, o + j * 4 + 3, none⟩) hlt).trans h3⟩
theorem bytesC_ok (x : Cl) (hx : okC x) (w : World) : Calls Try.prog 165 #[cdcC, aggC x] w fun e w' => e = .returned (.string (str (Sl.shC.enc x))) ∧ Below w.heap.size w w' := bytesC_any x hx.1 hx.2 w
theorem In2C.step {w w1 w2 : World} {g h : Nat} {x0 x1 x2 x3 y0 y1 y2 y3 : Value} (H : w1.cell? ⟨g, 0, none⟩ = some x0 ∧ w1.cell? ⟨g, 1, none⟩ = some x1 ∧ w1.cell? ⟨g, 2, none⟩ = some x2 ∧ w1.cell? ⟨g, 3, none⟩ = some x3 ∧ w1.cell? ⟨h, 0, none⟩ = some y0 ∧ w1.cell? ⟨h, 1, none⟩ = some y1 ∧ w1.cell? ⟨h, 2, none⟩ = some y2 ∧ w1.cell? ⟨h, 3, none⟩ = some y3 ∧ Below g w w1) (hb : Below w1.heap.size w1 w2) : w2.cell? ⟨g, 0, none⟩ = some x0 ∧ w2.cell? ⟨g, 1, none⟩ = some x1 ∧ w2.cell? ⟨g, 2, none⟩ = some x2 ∧ w2.cell? ⟨g, 3, none⟩ = some x3 ∧ w2.cell? ⟨h, 0, none⟩ = some y0 ∧ w2.cell? ⟨h, 1, none⟩ = some y1 ∧ w2.cell? ⟨h, 2, none⟩ = some y2 ∧ w2.cell? ⟨h, 3, none⟩ = some y3 ∧ Below g w w2 := by
  obtain ⟨h0, h1, h2, h3, k0, k1, k2, k3, hB⟩ := H
  have hg := World.block_lt_of_cell? _ _ h0
  have hh := World.block_lt_of_cell? _ _ k0
  exact ⟨(hb.cell (p := ⟨g, 0, none⟩) hg).trans h0, (hb.cell (p := ⟨g, 1, none⟩) hg).trans h1, (hb.cell (p := ⟨g, 2, none⟩) hg).trans h2, (hb.cell (p := ⟨g, 3, none⟩) hg).trans h3, (hb.cell (p := ⟨h, 0, none⟩) hh).trans k0, (hb.cell (p := ⟨h, 1, none⟩) hh).trans k1, (hb.cell (p := ⟨h, 2, none⟩) hh).trans k2, (hb.cell (p := ⟨h, 3, none⟩) hh).trans k3, hB.trans (hb.mono (Nat.le_of_lt hg))⟩
theorem In2C.first {w w1 : World} {x0 x1 x2 x3 y0 y1 y2 y3 : Value} {T U : TypeId} (hb : Below ((w.alloc (.cells #[x0, x1, x2, x3] T)).alloc (.cells #[y0, y1, y2, y3] U)).heap.size ((w.alloc (.cells #[x0, x1, x2, x3] T)).alloc (.cells #[y0, y1, y2, y3] U)) w1) : w1.drew.cell? ⟨w.heap.size, 0, none⟩ = some x0 ∧ w1.drew.cell? ⟨w.heap.size, 1, none⟩ = some x1 ∧ w1.drew.cell? ⟨w.heap.size, 2, none⟩ = some x2 ∧ w1.drew.cell? ⟨w.heap.size, 3, none⟩ = some x3 ∧ w1.drew.cell? ⟨w.heap.size + 1, 0, none⟩ = some y0 ∧ w1.drew.cell? ⟨w.heap.size + 1, 1, none⟩ = some y1 ∧ w1.drew.cell? ⟨w.heap.size + 1, 2, none⟩ = some y2 ∧ w1.drew.cell? ⟨w.heap.size + 1, 3, none⟩ = some y3 ∧ Below w.heap.size w w1.drew := by
  have hz := size2 w (.cells #[x0, x1, x2, x3] T) (.cells #[y0, y1, y2, y3] U)
  rw [hz] at hb
  have hB : Below w.heap.size w w1 := ((((Below.refl _ _).alloc (Nat.le_refl _) (.cells #[x0, x1, x2, x3] T)).alloc (by simp) (.cells #[y0, y1, y2, y3] U))).trans (hb.mono (by omega))
  refine ⟨?_, ?_, ?_, ?_, ?_, ?_, ?_, ?_, hB.drew⟩
  · exact (hb.cell (p := ⟨w.heap.size, 0, none⟩) (by show w.heap.size < _; omega)).trans (by simp)
  · exact (hb.cell (p := ⟨w.heap.size, 1, none⟩) (by show w.heap.size < _; omega)).trans (by simp)
  · exact (hb.cell (p := ⟨w.heap.size, 2, none⟩) (by show w.heap.size < _; omega)).trans (by simp)
  · exact (hb.cell (p := ⟨w.heap.size, 3, none⟩) (by show w.heap.size < _; omega)).trans (by simp)
  · exact (hb.cell (p := ⟨w.heap.size + 1, 0, none⟩) (by show w.heap.size + 1 < _; omega)).trans (by have := World.cell?_alloc_new (w.alloc (.cells #[x0, x1, x2, x3] T)) #[y0, y1, y2, y3] U 0; rw [show (w.alloc (.cells #[x0, x1, x2, x3] T)).heap.size = w.heap.size + 1 by simp] at this; exact this)
  · exact (hb.cell (p := ⟨w.heap.size + 1, 1, none⟩) (by show w.heap.size + 1 < _; omega)).trans (by have := World.cell?_alloc_new (w.alloc (.cells #[x0, x1, x2, x3] T)) #[y0, y1, y2, y3] U 1; rw [show (w.alloc (.cells #[x0, x1, x2, x3] T)).heap.size = w.heap.size + 1 by simp] at this; exact this)
  · exact (hb.cell (p := ⟨w.heap.size + 1, 2, none⟩) (by show w.heap.size + 1 < _; omega)).trans (by have := World.cell?_alloc_new (w.alloc (.cells #[x0, x1, x2, x3] T)) #[y0, y1, y2, y3] U 2; rw [show (w.alloc (.cells #[x0, x1, x2, x3] T)).heap.size = w.heap.size + 1 by simp] at this; exact this)
  · exact (hb.cell (p := ⟨w.heap.size + 1, 3, none⟩) (by show w.heap.size + 1 < _; omega)).trans (by have := World.cell?_alloc_new (w.alloc (.cells #[x0, x1, x2, x3] T)) #[y0, y1, y2, y3] U 3; rw [show (w.alloc (.cells #[x0, x1, x2, x3] T)).heap.size = w.heap.size + 1 by simp] at this; exact this)
theorem sizeC_any (x : Cl) (hx : okC x) (w : World) :
    Calls Try.prog 129 #[shpC, aggC x] w fun e w' => e = .returned (.int .i64 (2 + (Sl.shC.enc x).length : Nat)) ∧ Below w.heap.size w w' := by
  have HB := Lib.hid (fun W => bytesC_ok x hx W)
  have HC := Lib.hid (fun W => codecC_any W)
  have HW := Lib.hid (fun W => wholeC_any W)
  have hlen : (Sl.shC.enc x).length ≤ 65794 := Sl.encC_len x
  have hs := str_size (Sl.shC.enc x)
  revert HB hlen hs
  generalize Sl.shC.enc x = ex
  intro HB hlen hs
  generalize hn : ex.length = n at *
  have HN := Lib.hid hn
  clear hn
  have hadd : (2 : Int) + n ≤ 9223372036854775807 := by omega
  have hwr : IntKind.i64.wrap (2 + (n : Int)) = 2 + n := IntWalk.i64_in _ (by omega)
  unfold cdcC at HB HC
  unfold shpC at HC HW ⊢
  unfold aggC at HB ⊢
  go_enter Try.func129, Try.ntmps129
  go_wp2_with (go_at_call 102; refine (HW.out _).mono ?_; rintro e w1 ⟨rfl, hb1⟩; have hF := Lib.hid (In2C.first hb1))
  go_region_held3 (fun w' => w'.cell? ⟨w.heap.size, 0, none⟩ = some (.func (.func 97) #[] #[]) ∧ w'.cell? ⟨w.heap.size, 1, none⟩ = some (.func (.func 98) #[] #[]) ∧ w'.cell? ⟨w.heap.size, 2, none⟩ = some (.func (.func 99) #[] #[]) ∧ w'.cell? ⟨w.heap.size, 3, none⟩ = some (.func (.func 100) #[] #[]) ∧ w'.cell? ⟨w.heap.size + 1, 0, none⟩ = some (.string (str x.key)) ∧ w'.cell? ⟨w.heap.size + 1, 1, none⟩ = some (.string (str x.val)) ∧ w'.cell? ⟨w.heap.size + 1, 2, none⟩ = some (.int .u32 x.chain) ∧ w'.cell? ⟨w.heap.size + 1, 3, none⟩ = some (.int .u32 x.long) ∧ Below w.heap.size w w')
    ((first | assumption | exact In2C.step ‹_› hb | exact hF.out))
    (first
    | (go_at_call 164; refine (HC.out _).mono ?_; rintro e w2 ⟨rfl, hb⟩)
    | (go_at_call 165; refine (HB.out _).mono ?_; rintro e w2 ⟨rfl, hb⟩))
  rename_i hS
  have hB := hS.2.2.2.2.2.2.2.2
  go_wp2
  go_ret
  exact ⟨ret_int (by omega), hB⟩
theorem box4C (w : World) (x0 x1 x2 x3 : Value) (T : TypeId) : (w.alloc (.cells #[x0, x1, x2, x3] T)).cell? ⟨w.heap.size, 0, none⟩ = some x0 ∧ (w.alloc (.cells #[x0, x1, x2, x3] T)).cell? ⟨w.heap.size, 1, none⟩ = some x1 ∧ (w.alloc (.cells #[x0, x1, x2, x3] T)).cell? ⟨w.heap.size, 2, none⟩ = some x2 ∧ (w.alloc (.cells #[x0, x1, x2, x3] T)).cell? ⟨w.heap.size, 3, none⟩ = some x3 :=
  ⟨by simp, by simp, by simp, by simp⟩
/-- The shape's box. -/
structure BxC (w : World) (g : Nat) : Prop where
  c0 : w.cell? ⟨g, 0, none⟩ = some (.func (.func 97) #[] #[])
  c1 : w.cell? ⟨g, 1, none⟩ = some (.func (.func 98) #[] #[])
  c2 : w.cell? ⟨g, 2, none⟩ = some (.func (.func 99) #[] #[])
  c3 : w.cell? ⟨g, 3, none⟩ = some (.func (.func 100) #[] #[])
theorem BxC.lt {w : World} {g : Nat} (h : BxC w g) : g < w.heap.size := World.block_lt_of_cell? _ _ h.c0
theorem BxC.below {w w' : World} {g B : Nat} (h : BxC w g) (hb : Below B w w') (hg : g < B) : BxC w' g :=
  ⟨(hb.cell (p := ⟨g, 0, none⟩) hg).trans h.c0, (hb.cell (p := ⟨g, 1, none⟩) hg).trans h.c1, (hb.cell (p := ⟨g, 2, none⟩) hg).trans h.c2, (hb.cell (p := ⟨g, 3, none⟩) hg).trans h.c3⟩
theorem BxC.new (w : World) : BxC (w.alloc (.cells #[.func (.func 97) #[] #[], .func (.func 98) #[] #[], .func (.func 99) #[] #[], .func (.func 100) #[] #[]] 110)) w.heap.size := ⟨by simp, by simp, by simp, by simp⟩
theorem BxC.alloc {w : World} {g : Nat} (h : BxC w g) (o : Obj) : BxC (w.alloc o) g := h.below ((Below.refl _ _).alloc (Nat.le_refl _) _) h.lt
theorem take_some {α : Type} (l : List α) (k : Nat) (h : k < l.length) : ∃ x, l[k]? = some x := ⟨_, List.getElem?_eq_getElem h⟩
theorem encC_le (l : List Cl) (k : Nat) (h : l.length ≤ 100000) : Sl.sum Sl.shC (l.take k) ≤ 6579600000 := by
  have h1 := Sl.sum_take Sl.shC l k
  have h2 := Sl.sum_le Sl.shC 65794 (fun x => Sl.encC_len x) l
  omega
set_option maxHeartbeats 1000000 in
set_option maxRecDepth 100000 in
theorem sumC_any (v : Value) (l : List Cl) (hll : l.length ≤ 100000) (hl : ∀ x ∈ l, okC x) (w : World) (hv : SlC w v l) :
    Calls Try.prog 128 #[shpC, v] w fun e w' => e = .returned (.int .i64 (Sl.sum Sl.shC l : Nat)) ∧ Below w.heap.size w w' := by
  have HL := Lib.hid hl
  have HV := Lib.hid hv
  obtain ⟨a, b, o, c, rfl, ha, hx⟩ := hv
  have HX := Lib.hid hx
  have HA := Lib.hid ha
  clear hl ha hx
  unfold shpC
  have HB0 := Lib.hid (BxC.new w)
  go_enter Try.func128, Try.ntmps128
  go_wp2
  have HW0 : Hid (Below w.heap.size w (w.alloc (.cells #[.func (.func 97) #[] #[], .func (.func 98) #[] #[], .func (.func 99) #[] #[], .func (.func 100) #[] #[]] 110))) := (Below.refl _ _).alloc (Nat.le_refl _) _
  revert HB0 HW0
  generalize (w.alloc (.cells #[.func (.func 97) #[] #[], .func (.func 98) #[] #[], .func (.func 99) #[] #[], .func (.func 100) #[] #[]] 110)) = w2
  generalize hg : w.heap.size = g
  have HG := Lib.hid hg
  clear hg
  intro HB0 HW0
  go_loopg [5, 10] l.length (fun n s i wr => ∃ k m : Nat, k ≤ l.length ∧ n = l.length - k ∧ i = .int .i64 k ∧ s = .int .i64 m ∧ Hid (m = Sl.sum Sl.shC (l.take k)) ∧ Hid (Below (g + 1) w2 wr))
  case atStart => exact ⟨0, 0, Nat.zero_le _, rfl, rfl, rfl, rfl, Below.refl _ _⟩
  case round =>
    obtain ⟨k, m, hk, rfl, rfl, rfl, HM, HB⟩ := hrel
    have hm : m ≤ 6579600000 := by rw [HM.out]; exact encC_le l k hll
    by_cases hlt : k < l.length
    · obtain ⟨x, hx⟩ := take_some l k hlt
      obtain ⟨e0, e1, e2, e3⟩ := HX.out k x hx
      have hblt : b < g := by have h1 := World.block_lt_of_cell? _ _ e0; rw [HG.out] at h1; exact h1
      have HWr := Lib.hid (HW0.out.trans (HB.out.mono (Nat.le_succ g)))
      have d0 := (HWr.out.cell (p := ⟨b, o + k * 4, none⟩) hblt).trans e0
      have d1 := (HWr.out.cell (p := ⟨b, o + k * 4 + 1, none⟩) hblt).trans e1
      have d2 := (HWr.out.cell (p := ⟨b, o + k * 4 + 2, none⟩) hblt).trans e2
      have d3 := (HWr.out.cell (p := ⟨b, o + k * 4 + 3, none⟩) hblt).trans e3
      have HR := Lib.hid (HB0.out.below HB.out (Nat.lt_succ_self g))
      have q0 := fun o1 => (HR.out.alloc o1).c0
      have q1 := fun o1 => (HR.out.alloc o1).c1
      have q2 := fun o1 => (HR.out.alloc o1).c2
      have q3 := fun o1 => (HR.out.alloc o1).c3
      obtain rfl : a = some ⟨b, o, none⟩ := by
        rcases HA.out with h | h
        · rw [h] at hlt; cases hlt
        · exact h
      have HS := Lib.hid ((congrArg (Sl.sum Sl.shC) (Sl.take_snoc' l k x hx)).trans (Sl.sum_snoc Sl.shC (l.take k) x))
      have HZ := Lib.hid (fun W => sizeC_any x (HL.out x (List.mem_of_getElem? hx)) W)
      have hz : (Sl.shC.enc x).length ≤ 65794 := Sl.encC_len x
      clear e0 e1 e2 e3 hx
      revert HS HZ hz
      generalize (Sl.shC.enc x).length = z
      intro HS HZ hz
      unfold shpC aggC at HZ
      go_wp2_with (go_at_call 129; refine (HZ.out _).mono ?_; rintro e w4 ⟨rfl, hb4⟩)
      have HB4 : Hid (Below (g + 1) w2 w4) := (HB.out.alloc (by have := HR.out.lt; omega) _).trans (hb4.mono (by have := HR.out.lt; simp; omega))
      clear hb4
      go_roundg (l.length - (k + 1))
      case measure => omega
      case rel => exact ⟨k + 1, m + (2 + z), by omega, rfl, by go_num, val_i64 (by omega), (by show _ = _; rw [HS.out, ← HM.out]), HB4⟩
    · obtain rfl : k = l.length := by omega
      rw [List.take_length] at HM
      go_wp2
      go_ret
      refine ⟨ret_int (by rw [HM.out]), ?_⟩
      rw [HG.out]
      exact HW0.out.trans (HB.out.mono (Nat.le_succ g))
end Go.Proofs.Ytpkoehnjladpoaa
/- Rows of a branch's cells in memory; the contracts of Size and Sum. -/
namespace Go.Proofs.Ytpkoehnjladpoaa
open Go.RowKit
open Sl (Cl Kd)
def okK (x : Kd) : Prop := x.page < 4294967296
def SlK (w : World) (v : Value) (l : List Kd) : Prop :=
  ∃ (a : Option Addr) (b o c : Nat), v = .slice a l.length c ∧ (l = [] ∨ a = some ⟨b, o, none⟩) ∧
    ∀ (j : Nat) x, l[j]? = some x → w.cell? ⟨b, o + j * 2, none⟩ = some (.string (str x.key)) ∧ w.cell? ⟨b, o + j * 2 + 1, none⟩ = some (.int .u32 x.page)
theorem SlK.below {w w' : World} {v : Value} {l : List Kd} (h : SlK w v l) (hb : Below w.heap.size w w') : SlK w' v l := by
  obtain ⟨a, b, o, c, hv, ha, hx⟩ := h
  refine ⟨a, b, o, c, hv, ha, fun j p hj => ?_⟩
  obtain ⟨h0, h1⟩ := hx j p hj
  have hlt := World.block_lt_of_cell? _ _ h0
  exact ⟨(hb.cell (p := ⟨b, o + j * 2, none⟩) hlt).trans h0, (hb.cell (p := ⟨b, o + j * 2 + 1, none⟩) hlt).trans h1⟩
theorem bytesK_ok (x : Kd) (hx : okK x) (w : World) : Calls Try.prog 167 #[cdcK, aggK x] w fun e w' => e = .returned (.string (str (Sl.shK.enc x))) ∧ Below w.heap.size w w' := bytesK_any x hx w
theorem In2K.step {w w1 w2 : World} {g h : Nat} {x0 x1 x2 x3 y0 y1 : Value} (H : w1.cell? ⟨g, 0, none⟩ = some x0 ∧ w1.cell? ⟨g, 1, none⟩ = some x1 ∧ w1.cell? ⟨g, 2, none⟩ = some x2 ∧ w1.cell? ⟨g, 3, none⟩ = some x3 ∧ w1.cell? ⟨h, 0, none⟩ = some y0 ∧ w1.cell? ⟨h, 1, none⟩ = some y1 ∧ Below g w w1) (hb : Below w1.heap.size w1 w2) : w2.cell? ⟨g, 0, none⟩ = some x0 ∧ w2.cell? ⟨g, 1, none⟩ = some x1 ∧ w2.cell? ⟨g, 2, none⟩ = some x2 ∧ w2.cell? ⟨g, 3, none⟩ = some x3 ∧ w2.cell? ⟨h, 0, none⟩ = some y0 ∧ w2.cell? ⟨h, 1, none⟩ = some y1 ∧ Below g w w2 := by
  obtain ⟨h0, h1, h2, h3, k0, k1, hB⟩ := H
  have hg := World.block_lt_of_cell? _ _ h0
  have hh := World.block_lt_of_cell? _ _ k0
  exact ⟨(hb.cell (p := ⟨g, 0, none⟩) hg).trans h0, (hb.cell (p := ⟨g, 1, none⟩) hg).trans h1, (hb.cell (p := ⟨g, 2, none⟩) hg).trans h2, (hb.cell (p := ⟨g, 3, none⟩) hg).trans h3, (hb.cell (p := ⟨h, 0, none⟩) hh).trans k0, (hb.cell (p := ⟨h, 1, none⟩) hh).trans k1, hB.trans (hb.mono (Nat.le_of_lt hg))⟩
theorem In2K.first {w w1 : World} {x0 x1 x2 x3 y0 y1 : Value} {T U : TypeId} (hb : Below ((w.alloc (.cells #[x0, x1, x2, x3] T)).alloc (.cells #[y0, y1] U)).heap.size ((w.alloc (.cells #[x0, x1, x2, x3] T)).alloc (.cells #[y0, y1] U)) w1) : w1.drew.cell? ⟨w.heap.size, 0, none⟩ = some x0 ∧ w1.drew.cell? ⟨w.heap.size, 1, none⟩ = some x1 ∧ w1.drew.cell? ⟨w.heap.size, 2, none⟩ = some x2 ∧ w1.drew.cell? ⟨w.heap.size, 3, none⟩ = some x3 ∧ w1.drew.cell? ⟨w.heap.size + 1, 0, none⟩ = some y0 ∧ w1.drew.cell? ⟨w.heap.size + 1, 1, none⟩ = some y1 ∧ Below w.heap.size w w1.drew := by
  have hz := size2 w (.cells #[x0, x1, x2, x3] T) (.cells #[y0, y1] U)
  rw [hz] at hb
  have hB : Below w.heap.size w w1 := ((((Below.refl _ _).alloc (Nat.le_refl _) (.cells #[x0, x1, x2, x3] T)).alloc (by simp) (.cells #[y0, y1] U))).trans (hb.mono (by omega))
  refine ⟨?_, ?_, ?_, ?_, ?_, ?_, hB.drew⟩
  · exact (hb.cell (p := ⟨w.heap.size, 0, none⟩) (by show w.heap.size < _; omega)).trans (by simp)
  · exact (hb.cell (p := ⟨w.heap.size, 1, none⟩) (by show w.heap.size < _; omega)).trans (by simp)
  · exact (hb.cell (p := ⟨w.heap.size, 2, none⟩) (by show w.heap.size < _; omega)).trans (by simp)
  · exact (hb.cell (p := ⟨w.heap.size, 3, none⟩) (by show w.heap.size < _; omega)).trans (by simp)
  · exact (hb.cell (p := ⟨w.heap.size + 1, 0, none⟩) (by show w.heap.size + 1 < _; omega)).trans (by have := World.cell?_alloc_new (w.alloc (.cells #[x0, x1, x2, x3] T)) #[y0, y1] U 0; rw [show (w.alloc (.cells #[x0, x1, x2, x3] T)).heap.size = w.heap.size + 1 by simp] at this; exact this)
  · exact (hb.cell (p := ⟨w.heap.size + 1, 1, none⟩) (by show w.heap.size + 1 < _; omega)).trans (by have := World.cell?_alloc_new (w.alloc (.cells #[x0, x1, x2, x3] T)) #[y0, y1] U 1; rw [show (w.alloc (.cells #[x0, x1, x2, x3] T)).heap.size = w.heap.size + 1 by simp] at this; exact this)
theorem sizeK_any (x : Kd) (hx : okK x) (w : World) :
    Calls Try.prog 131 #[shpK, aggK x] w fun e w' => e = .returned (.int .i64 (2 + (Sl.shK.enc x).length : Nat)) ∧ Below w.heap.size w w' := by
  have HB := Lib.hid (fun W => bytesK_ok x hx W)
  have HC := Lib.hid (fun W => codecK_any W)
  have HW := Lib.hid (fun W => wholeK_any W)
  have hlen : (Sl.shK.enc x).length ≤ 65794 := Nat.le_trans (Sl.encK_len x) (by decide)
  have hs := str_size (Sl.shK.enc x)
  revert HB hlen hs
  generalize Sl.shK.enc x = ex
  intro HB hlen hs
  generalize hn : ex.length = n at *
  have HN := Lib.hid hn
  clear hn
  have hadd : (2 : Int) + n ≤ 9223372036854775807 := by omega
  have hwr : IntKind.i64.wrap (2 + (n : Int)) = 2 + n := IntWalk.i64_in _ (by omega)
  unfold cdcK at HB HC
  unfold shpK at HC HW ⊢
  unfold aggK at HB ⊢
  go_enter Try.func131, Try.ntmps131
  go_wp2_with (go_at_call 144; refine (HW.out _).mono ?_; rintro e w1 ⟨rfl, hb1⟩; have hF := Lib.hid (In2K.first hb1))
  go_region_held3 (fun w' => w'.cell? ⟨w.heap.size, 0, none⟩ = some (.func (.func 111) #[] #[]) ∧ w'.cell? ⟨w.heap.size, 1, none⟩ = some (.func (.func 113) #[] #[]) ∧ w'.cell? ⟨w.heap.size, 2, none⟩ = some (.func (.func 114) #[] #[]) ∧ w'.cell? ⟨w.heap.size, 3, none⟩ = some (.nilFunc) ∧ w'.cell? ⟨w.heap.size + 1, 0, none⟩ = some (.string (str x.key)) ∧ w'.cell? ⟨w.heap.size + 1, 1, none⟩ = some (.int .u32 x.page) ∧ Below w.heap.size w w')
    ((first | assumption | exact In2K.step ‹_› hb | exact hF.out))
    (first
    | (go_at_call 166; refine (HC.out _).mono ?_; rintro e w2 ⟨rfl, hb⟩)
    | (go_at_call 167; refine (HB.out _).mono ?_; rintro e w2 ⟨rfl, hb⟩))
  rename_i hS
  have hB := hS.2.2.2.2.2.2
  go_wp2
  go_ret
  exact ⟨ret_int (by omega), hB⟩
theorem box4K (w : World) (x0 x1 x2 x3 : Value) (T : TypeId) : (w.alloc (.cells #[x0, x1, x2, x3] T)).cell? ⟨w.heap.size, 0, none⟩ = some x0 ∧ (w.alloc (.cells #[x0, x1, x2, x3] T)).cell? ⟨w.heap.size, 1, none⟩ = some x1 ∧ (w.alloc (.cells #[x0, x1, x2, x3] T)).cell? ⟨w.heap.size, 2, none⟩ = some x2 ∧ (w.alloc (.cells #[x0, x1, x2, x3] T)).cell? ⟨w.heap.size, 3, none⟩ = some x3 :=
  ⟨by simp, by simp, by simp, by simp⟩
/-- The shape's box. -/
structure BxK (w : World) (g : Nat) : Prop where
  c0 : w.cell? ⟨g, 0, none⟩ = some (.func (.func 111) #[] #[])
  c1 : w.cell? ⟨g, 1, none⟩ = some (.func (.func 113) #[] #[])
  c2 : w.cell? ⟨g, 2, none⟩ = some (.func (.func 114) #[] #[])
  c3 : w.cell? ⟨g, 3, none⟩ = some .nilFunc
theorem BxK.lt {w : World} {g : Nat} (h : BxK w g) : g < w.heap.size := World.block_lt_of_cell? _ _ h.c0
theorem BxK.below {w w' : World} {g B : Nat} (h : BxK w g) (hb : Below B w w') (hg : g < B) : BxK w' g :=
  ⟨(hb.cell (p := ⟨g, 0, none⟩) hg).trans h.c0, (hb.cell (p := ⟨g, 1, none⟩) hg).trans h.c1, (hb.cell (p := ⟨g, 2, none⟩) hg).trans h.c2, (hb.cell (p := ⟨g, 3, none⟩) hg).trans h.c3⟩
theorem BxK.new (w : World) : BxK (w.alloc (.cells #[.func (.func 111) #[] #[], .func (.func 113) #[] #[], .func (.func 114) #[] #[], .nilFunc] 124)) w.heap.size := ⟨by simp, by simp, by simp, by simp⟩
theorem BxK.alloc {w : World} {g : Nat} (h : BxK w g) (o : Obj) : BxK (w.alloc o) g := h.below ((Below.refl _ _).alloc (Nat.le_refl _) _) h.lt

theorem encK_le (l : List Kd) (k : Nat) (h : l.length ≤ 100000) : Sl.sum Sl.shK (l.take k) ≤ 6579600000 := by
  have h1 := Sl.sum_take Sl.shK l k
  have h2 := Sl.sum_le Sl.shK 65794 (fun x => Nat.le_trans (Sl.encK_len x) (by decide)) l
  omega
set_option maxHeartbeats 1000000 in
set_option maxRecDepth 100000 in
theorem sumK_any (v : Value) (l : List Kd) (hll : l.length ≤ 100000) (hl : ∀ x ∈ l, okK x) (w : World) (hv : SlK w v l) :
    Calls Try.prog 130 #[shpK, v] w fun e w' => e = .returned (.int .i64 (Sl.sum Sl.shK l : Nat)) ∧ Below w.heap.size w w' := by
  have HL := Lib.hid hl
  have HV := Lib.hid hv
  obtain ⟨a, b, o, c, rfl, ha, hx⟩ := hv
  have HX := Lib.hid hx
  have HA := Lib.hid ha
  clear hl ha hx
  unfold shpK
  have HB0 := Lib.hid (BxK.new w)
  go_enter Try.func130, Try.ntmps130
  go_wp2
  have HW0 : Hid (Below w.heap.size w (w.alloc (.cells #[.func (.func 111) #[] #[], .func (.func 113) #[] #[], .func (.func 114) #[] #[], .nilFunc] 124))) := (Below.refl _ _).alloc (Nat.le_refl _) _
  revert HB0 HW0
  generalize (w.alloc (.cells #[.func (.func 111) #[] #[], .func (.func 113) #[] #[], .func (.func 114) #[] #[], .nilFunc] 124)) = w2
  generalize hg : w.heap.size = g
  have HG := Lib.hid hg
  clear hg
  intro HB0 HW0
  go_loopg [5, 10] l.length (fun n s i wr => ∃ k m : Nat, k ≤ l.length ∧ n = l.length - k ∧ i = .int .i64 k ∧ s = .int .i64 m ∧ Hid (m = Sl.sum Sl.shK (l.take k)) ∧ Hid (Below (g + 1) w2 wr))
  case atStart => exact ⟨0, 0, Nat.zero_le _, rfl, rfl, rfl, rfl, Below.refl _ _⟩
  case round =>
    obtain ⟨k, m, hk, rfl, rfl, rfl, HM, HB⟩ := hrel
    have hm : m ≤ 6579600000 := by rw [HM.out]; exact encK_le l k hll
    by_cases hlt : k < l.length
    · obtain ⟨x, hx⟩ := take_some l k hlt
      obtain ⟨e0, e1⟩ := HX.out k x hx
      have hblt : b < g := by have h1 := World.block_lt_of_cell? _ _ e0; rw [HG.out] at h1; exact h1
      have HWr := Lib.hid (HW0.out.trans (HB.out.mono (Nat.le_succ g)))
      have d0 := (HWr.out.cell (p := ⟨b, o + k * 2, none⟩) hblt).trans e0
      have d1 := (HWr.out.cell (p := ⟨b, o + k * 2 + 1, none⟩) hblt).trans e1
      have HR := Lib.hid (HB0.out.below HB.out (Nat.lt_succ_self g))
      have q0 := fun o1 => (HR.out.alloc o1).c0
      have q1 := fun o1 => (HR.out.alloc o1).c1
      have q2 := fun o1 => (HR.out.alloc o1).c2
      have q3 := fun o1 => (HR.out.alloc o1).c3
      obtain rfl : a = some ⟨b, o, none⟩ := by
        rcases HA.out with h | h
        · rw [h] at hlt; cases hlt
        · exact h
      have HS := Lib.hid ((congrArg (Sl.sum Sl.shK) (Sl.take_snoc' l k x hx)).trans (Sl.sum_snoc Sl.shK (l.take k) x))
      have HZ := Lib.hid (fun W => sizeK_any x (HL.out x (List.mem_of_getElem? hx)) W)
      have hz : (Sl.shK.enc x).length ≤ 65794 := Nat.le_trans (Sl.encK_len x) (by decide)
      clear e0 e1 hx
      revert HS HZ hz
      generalize (Sl.shK.enc x).length = z
      intro HS HZ hz
      unfold shpK aggK at HZ
      go_wp2_with (go_at_call 131; refine (HZ.out _).mono ?_; rintro e w4 ⟨rfl, hb4⟩)
      have HB4 : Hid (Below (g + 1) w2 w4) := (HB.out.alloc (by have := HR.out.lt; omega) _).trans (hb4.mono (by have := HR.out.lt; simp; omega))
      clear hb4
      go_roundg (l.length - (k + 1))
      case measure => omega
      case rel => exact ⟨k + 1, m + (2 + z), by omega, rfl, by go_num, val_i64 (by omega), (by show _ = _; rw [HS.out, ← HM.out]), HB4⟩
    · obtain rfl : k = l.length := by omega
      rw [List.take_length] at HM
      go_wp2
      go_ret
      refine ⟨ret_int (by rw [HM.out]), ?_⟩
      rw [HG.out]
      exact HW0.out.trans (HB.out.mono (Nat.le_succ g))
end Go.Proofs.Ytpkoehnjladpoaa
