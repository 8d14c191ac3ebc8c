/- The walk of the law RecordBack. -/
import Derived.Test.YtfoijhofpjaldaaRecP
import Derived.Test.YtfoijhofpjaldaaRecW
import Derived.Deep.DeepCutAuto
set_option maxRecDepth 100000
set_option maxHeartbeats 4000000
set_option linter.unusedVariables false
namespace Go.Proofs.Ytfoijhofpjaldaa
open Go.RowKit
/-- What stays while the law goes on: the two boxes that it was handed. -/
structure Bk (w0 w : World) (q : Qu) (m : Ms) : Prop where
  bq : Bx5 w w0.heap.size (.string q.nm) (.int .u32 q.most) (.int .u64 q.ttl) (.int .u32 q.tries) (.string q.dead)
  bm : Bx5 w (w0.heap.size + 1) (.string m.qu) (.int .u64 m.id) (.int .u32 m.tries) (.int .u64 m.expiry) (.string m.body)
  be : Below w0.heap.size w0 w
theorem Bk.below {w0 w w' : World} {q : Qu} {m : Ms} (h : Bk w0 w q m) (hb : Below w.heap.size w w') : Bk w0 w' q m := ⟨h.bq.below hb, h.bm.below hb, below_step h.be hb⟩
theorem Bk.alloc {w0 w : World} {q : Qu} {m : Ms} (h : Bk w0 w q m) (o : Obj) : Bk w0 (w.alloc o) q m := h.below ((Below.refl _ _).alloc (Nat.le_refl _) _)
theorem Bk.drew {w0 w : World} {q : Qu} {m : Ms} (h : Bk w0 w q m) : Bk w0 w.drew q m := ⟨h.bq.keep rfl, h.bm.keep rfl, h.be.drew⟩
theorem Bx5.drew {w : World} {g : Nat} {x0 x1 x2 x3 x4 : Value} (h : Bx5 w g x0 x1 x2 x3 x4) : Bx5 w.drew g x0 x1 x2 x3 x4 := h.keep rfl
theorem CdQ.drew {w : World} {v : Value} {nm : ByteArray} (h : CdQ w v nm) : CdQ w.drew v nm := h.below (Below.refl _ _).drew
theorem Two10.alloc {w W : World} {g k B : Nat} {x0 x1 x2 x3 x4 y0 y1 y2 y3 y4 : Value} (hB : B ≤ w.heap.size) (h : W.cell? ⟨g, 0, none⟩ = some x0 ∧ W.cell? ⟨g, 1, none⟩ = some x1 ∧ W.cell? ⟨g, 2, none⟩ = some x2 ∧ W.cell? ⟨g, 3, none⟩ = some x3 ∧ W.cell? ⟨g, 4, none⟩ = some x4 ∧ W.cell? ⟨k, 0, none⟩ = some y0 ∧ W.cell? ⟨k, 1, none⟩ = some y1 ∧ W.cell? ⟨k, 2, none⟩ = some y2 ∧ W.cell? ⟨k, 3, none⟩ = some y3 ∧ W.cell? ⟨k, 4, none⟩ = some y4 ∧ Below B w W) (o : Obj) :
    (W.alloc o).cell? ⟨g, 0, none⟩ = some x0 ∧ (W.alloc o).cell? ⟨g, 1, none⟩ = some x1 ∧ (W.alloc o).cell? ⟨g, 2, none⟩ = some x2 ∧ (W.alloc o).cell? ⟨g, 3, none⟩ = some x3 ∧ (W.alloc o).cell? ⟨g, 4, none⟩ = some x4 ∧ (W.alloc o).cell? ⟨k, 0, none⟩ = some y0 ∧ (W.alloc o).cell? ⟨k, 1, none⟩ = some y1 ∧ (W.alloc o).cell? ⟨k, 2, none⟩ = some y2 ∧ (W.alloc o).cell? ⟨k, 3, none⟩ = some y3 ∧ (W.alloc o).cell? ⟨k, 4, none⟩ = some y4 ∧ Below B w (W.alloc o) :=
  Two10.step hB h ((Below.refl _ _).alloc (Nat.le_refl _) _)
theorem Two10.set5 {w W : World} {g k B t : Nat} {x0 x1 x2 x3 x4 y0 y1 y2 y3 y4 v0 v1 v2 v3 v4 : Value} (h : W.cell? ⟨g, 0, none⟩ = some x0 ∧ W.cell? ⟨g, 1, none⟩ = some x1 ∧ W.cell? ⟨g, 2, none⟩ = some x2 ∧ W.cell? ⟨g, 3, none⟩ = some x3 ∧ W.cell? ⟨g, 4, none⟩ = some x4 ∧ W.cell? ⟨k, 0, none⟩ = some y0 ∧ W.cell? ⟨k, 1, none⟩ = some y1 ∧ W.cell? ⟨k, 2, none⟩ = some y2 ∧ W.cell? ⟨k, 3, none⟩ = some y3 ∧ W.cell? ⟨k, 4, none⟩ = some y4 ∧ Below B w W) (hl : g < t ∧ k < t ∧ B ≤ t) :
    (((((W.setCell ⟨t, 0, none⟩ v0).setCell ⟨t, 1, none⟩ v1).setCell ⟨t, 2, none⟩ v2).setCell ⟨t, 3, none⟩ v3).setCell ⟨t, 4, none⟩ v4).cell? ⟨g, 0, none⟩ = some x0 ∧ (((((W.setCell ⟨t, 0, none⟩ v0).setCell ⟨t, 1, none⟩ v1).setCell ⟨t, 2, none⟩ v2).setCell ⟨t, 3, none⟩ v3).setCell ⟨t, 4, none⟩ v4).cell? ⟨g, 1, none⟩ = some x1 ∧ (((((W.setCell ⟨t, 0, none⟩ v0).setCell ⟨t, 1, none⟩ v1).setCell ⟨t, 2, none⟩ v2).setCell ⟨t, 3, none⟩ v3).setCell ⟨t, 4, none⟩ v4).cell? ⟨g, 2, none⟩ = some x2 ∧ (((((W.setCell ⟨t, 0, none⟩ v0).setCell ⟨t, 1, none⟩ v1).setCell ⟨t, 2, none⟩ v2).setCell ⟨t, 3, none⟩ v3).setCell ⟨t, 4, none⟩ v4).cell? ⟨g, 3, none⟩ = some x3 ∧ (((((W.setCell ⟨t, 0, none⟩ v0).setCell ⟨t, 1, none⟩ v1).setCell ⟨t, 2, none⟩ v2).setCell ⟨t, 3, none⟩ v3).setCell ⟨t, 4, none⟩ v4).cell? ⟨g, 4, none⟩ = some x4 ∧ (((((W.setCell ⟨t, 0, none⟩ v0).setCell ⟨t, 1, none⟩ v1).setCell ⟨t, 2, none⟩ v2).setCell ⟨t, 3, none⟩ v3).setCell ⟨t, 4, none⟩ v4).cell? ⟨k, 0, none⟩ = some y0 ∧ (((((W.setCell ⟨t, 0, none⟩ v0).setCell ⟨t, 1, none⟩ v1).setCell ⟨t, 2, none⟩ v2).setCell ⟨t, 3, none⟩ v3).setCell ⟨t, 4, none⟩ v4).cell? ⟨k, 1, none⟩ = some y1 ∧ (((((W.setCell ⟨t, 0, none⟩ v0).setCell ⟨t, 1, none⟩ v1).setCell ⟨t, 2, none⟩ v2).setCell ⟨t, 3, none⟩ v3).setCell ⟨t, 4, none⟩ v4).cell? ⟨k, 2, none⟩ = some y2 ∧ (((((W.setCell ⟨t, 0, none⟩ v0).setCell ⟨t, 1, none⟩ v1).setCell ⟨t, 2, none⟩ v2).setCell ⟨t, 3, none⟩ v3).setCell ⟨t, 4, none⟩ v4).cell? ⟨k, 3, none⟩ = some y3 ∧ (((((W.setCell ⟨t, 0, none⟩ v0).setCell ⟨t, 1, none⟩ v1).setCell ⟨t, 2, none⟩ v2).setCell ⟨t, 3, none⟩ v3).setCell ⟨t, 4, none⟩ v4).cell? ⟨k, 4, none⟩ = some y4 ∧ Below B w (((((W.setCell ⟨t, 0, none⟩ v0).setCell ⟨t, 1, none⟩ v1).setCell ⟨t, 2, none⟩ v2).setCell ⟨t, 3, none⟩ v3).setCell ⟨t, 4, none⟩ v4) := by
  obtain ⟨a0, a1, a2, a3, a4, b0, b1, b2, b3, b4, hq⟩ := h
  obtain ⟨hg, hk, hB⟩ := hl
  have s : ∀ {p : Addr} {x : Value}, p.block < t → W.cell? p = some x → (((((W.setCell ⟨t, 0, none⟩ v0).setCell ⟨t, 1, none⟩ v1).setCell ⟨t, 2, none⟩ v2).setCell ⟨t, 3, none⟩ v3).setCell ⟨t, 4, none⟩ v4).cell? p = some x := fun {p} {x} hp hh => by
    have hne : t ≠ p.block := fun e => by omega
    rw [World.cell?_setCell_far _ _ _ _ hne, World.cell?_setCell_far _ _ _ _ hne, World.cell?_setCell_far _ _ _ _ hne, World.cell?_setCell_far _ _ _ _ hne, World.cell?_setCell_far _ _ _ _ hne, hh]
  exact ⟨s hg a0, s hg a1, s hg a2, s hg a3, s hg a4, s hk b0, s hk b1, s hk b2, s hk b3, s hk b4, hq.trans (stored5_below hB)⟩
theorem Two10.ofK {w W : World} {q : Qu} {m : Ms} (h : Bk w W q m) : W.cell? ⟨w.heap.size, 0, none⟩ = some (.string q.nm) ∧ W.cell? ⟨w.heap.size, 1, none⟩ = some (.int .u32 q.most) ∧ W.cell? ⟨w.heap.size, 2, none⟩ = some (.int .u64 q.ttl) ∧ W.cell? ⟨w.heap.size, 3, none⟩ = some (.int .u32 q.tries) ∧ W.cell? ⟨w.heap.size, 4, none⟩ = some (.string q.dead) ∧ W.cell? ⟨w.heap.size + 1, 0, none⟩ = some (.string m.qu) ∧ W.cell? ⟨w.heap.size + 1, 1, none⟩ = some (.int .u64 m.id) ∧ W.cell? ⟨w.heap.size + 1, 2, none⟩ = some (.int .u32 m.tries) ∧ W.cell? ⟨w.heap.size + 1, 3, none⟩ = some (.int .u64 m.expiry) ∧ W.cell? ⟨w.heap.size + 1, 4, none⟩ = some (.string m.body) ∧ Below w.heap.size w W :=
  ⟨h.bq.c0, h.bq.c1, h.bq.c2, h.bq.c3, h.bq.c4, h.bm.c0, h.bm.c1, h.bm.c2, h.bm.c3, h.bm.c4, h.be⟩
theorem CdQ.alloc {w : World} {v : Value} {nm : ByteArray} (h : CdQ w v nm) (o : Obj) : CdQ (w.alloc o) v nm := h.below ((Below.refl _ _).alloc (Nat.le_refl _) _)
theorem CdM.alloc {w : World} {v : Value} {nm : ByteArray} {i : Nat} (h : CdM w v nm i) (o : Obj) : CdM (w.alloc o) v nm i := h.below ((Below.refl _ _).alloc (Nat.le_refl _) _)
theorem below_old {w w1 : World} {o : Obj} (h : Below (w.alloc o).heap.size (w.alloc o) w1) : Below w.heap.size w w1 := below_step ((Below.refl _ _).alloc (Nat.le_refl _) _) h
theorem below_dr {w w1 : World} (h : Below w.drew.heap.size w.drew w1) : Below w.heap.size w w1 := (Below.refl _ w).drew.trans h
theorem lt9 {w0 w : World} {q : Qu} {m : Ms} (h : Bk w0 w q m) : w0.heap.size < w.heap.size ∧ w0.heap.size + 1 < w.heap.size ∧ w0.heap.size ≤ w.heap.size := ⟨h.bq.lt, h.bm.lt, h.be.size⟩
theorem Bx5.stored {w : World} {t : Nat} {x0 x1 x2 x3 x4 v0 v1 v2 v3 v4 : Value} (h : Bx5 w t x0 x1 x2 x3 x4) : Bx5 (((((w.setCell ⟨t, 0, none⟩ v0).setCell ⟨t, 1, none⟩ v1).setCell ⟨t, 2, none⟩ v2).setCell ⟨t, 3, none⟩ v3).setCell ⟨t, 4, none⟩ v4) t v0 v1 v2 v3 v4 := by
  obtain ⟨s0, s1, s2, s3, s4⟩ := stored5 (v0 := v0) (v1 := v1) (v2 := v2) (v3 := v3) (v4 := v4) h.c0 h.c1 h.c2 h.c3 h.c4
  exact ⟨s0, s1, s2, s3, s4, setFroz (setFroz (setFroz (setFroz (setFroz h.f0)))), setFroz (setFroz (setFroz (setFroz (setFroz h.f1)))), setFroz (setFroz (setFroz (setFroz (setFroz h.f2)))), setFroz (setFroz (setFroz (setFroz (setFroz h.f3)))), setFroz (setFroz (setFroz (setFroz (setFroz h.f4))))⟩
theorem Bx5.others {w : World} {g t : Nat} {x0 x1 x2 x3 x4 v0 v1 v2 v3 v4 : Value} (h : Bx5 w g x0 x1 x2 x3 x4) (hne : g ≠ t) : Bx5 (((((w.setCell ⟨t, 0, none⟩ v0).setCell ⟨t, 1, none⟩ v1).setCell ⟨t, 2, none⟩ v2).setCell ⟨t, 3, none⟩ v3).setCell ⟨t, 4, none⟩ v4) g x0 x1 x2 x3 x4 :=
  ((((h.other hne).other hne).other hne).other hne).other hne
theorem Bk.set5 {w0 w : World} {q : Qu} {m : Ms} {t : Nat} {v0 v1 v2 v3 v4 : Value} (h : Bk w0 w q m) (hl : w0.heap.size < t ∧ w0.heap.size + 1 < t ∧ w0.heap.size ≤ t) : Bk w0 (((((w.setCell ⟨t, 0, none⟩ v0).setCell ⟨t, 1, none⟩ v1).setCell ⟨t, 2, none⟩ v2).setCell ⟨t, 3, none⟩ v3).setCell ⟨t, 4, none⟩ v4) q m :=
  ⟨h.bq.others (Nat.ne_of_lt hl.1), h.bm.others (Nat.ne_of_lt hl.2.1), h.be.trans (stored5_below hl.2.2)⟩
theorem CdW.alloc {w : World} {v : Value} (h : CdW w v) (o : Obj) : CdW (w.alloc o) v := h.below ((Below.refl _ _).alloc (Nat.le_refl _) _)
theorem CdW.drew {w : World} {v : Value} (h : CdW w v) : CdW w.drew v := h.below (Below.refl _ _).drew
theorem In2c.step {w w1 w2 : World} {g B : Nat} {x0 x1 : Value} (hB : B ≤ w.heap.size) (h : w1.cell? ⟨g, 0, none⟩ = some x0 ∧ w1.cell? ⟨g, 1, none⟩ = some x1 ∧ Below B w w1) (hb : Below w1.heap.size w1 w2) :
    w2.cell? ⟨g, 0, none⟩ = some x0 ∧ w2.cell? ⟨g, 1, none⟩ = some x1 ∧ Below B w w2 :=
  ⟨(hb.cell (World.block_lt_of_cell? _ _ h.1)).trans h.1, (hb.cell (World.block_lt_of_cell? _ _ h.2.1)).trans h.2.1, h.2.2.trans (hb.mono (Nat.le_trans hB h.2.2.size))⟩
theorem In2c.first {w : World} (w1 : World) {g B : Nat} {x0 x1 : Value} (h : Cd2 w1 g x0 x1) (hb : Below B w w1) :
    w1.drew.cell? ⟨g, 0, none⟩ = some x0 ∧ w1.drew.cell? ⟨g, 1, none⟩ = some x1 ∧ Below B w w1.drew := ⟨h.c0, h.c1, hb.drew⟩
theorem In2c.alloc {w w1 : World} {g B : Nat} {x0 x1 : Value} (hB : B ≤ w.heap.size) (h : w1.cell? ⟨g, 0, none⟩ = some x0 ∧ w1.cell? ⟨g, 1, none⟩ = some x1 ∧ Below B w w1) (o : Obj) :
    (w1.alloc o).cell? ⟨g, 0, none⟩ = some x0 ∧ (w1.alloc o).cell? ⟨g, 1, none⟩ = some x1 ∧ Below B w (w1.alloc o) := In2c.step hB h ((Below.refl _ _).alloc (Nat.le_refl _) _)
theorem In2c.allocd {w w1 : World} {g B : Nat} {x0 x1 : Value} (hB : B ≤ w.heap.size) (h : Cd2 w1 g x0 x1) (hb : Below B w w1) (o : Obj) :
    (w1.alloc o).drew.cell? ⟨g, 0, none⟩ = some x0 ∧ (w1.alloc o).drew.cell? ⟨g, 1, none⟩ = some x1 ∧ Below B w (w1.alloc o).drew := In2c.first (w1.alloc o) (h.alloc o) (hb.alloc (Nat.le_trans hB hb.size) o)
def PostL (w : World) (n : Nat) (e : Ending) (w' : World) : Prop := ∃ b o c : Nat, e = .returned (.tuple #[.slice (some ⟨b, o, none⟩) 2 c, .int .i64 0]) ∧ w'.cell? ⟨b, o, none⟩ = some (.int .u16 n) ∧ Below w.heap.size w w'
theorem readL2 (cv : Value) (n : Nat) (hn : n < 65536) (w : World) (hc : CdW w cv) :
    Calls Try.prog 28 #[cv, .string (str (encWs [n, 1])), .int .i64 2] w (PostL w n) := by
  refine (readListW_any cv (str (encWs [n, 1])) 2 (by decide) w hc).mono ?_
  intro e w' h
  cases h with
  | ok h0 v he hs hb =>
    rw [backL n hn] at hs
    obtain ⟨a, b, o, c, rfl, ha, hx⟩ := hs
    rcases ha with h | rfl
    · cases h
    · exact ⟨b, o, c, he, hx 0 n rfl, hb⟩
  | bad h0 he hb => rw [backL n hn] at h0; exact absurd rfl h0
theorem In6f.step {w w1 w2 : World} {g B : Nat} {p : Addr} {y x0 x1 x2 x3 x4 : Value} (hB : B ≤ w.heap.size) (h : w1.cell? ⟨g, 0, none⟩ = some x0 ∧ w1.cell? ⟨g, 1, none⟩ = some x1 ∧ w1.cell? ⟨g, 2, none⟩ = some x2 ∧ w1.cell? ⟨g, 3, none⟩ = some x3 ∧ w1.cell? ⟨g, 4, none⟩ = some x4 ∧ w1.cell? p = some y ∧ Below B w w1) (hb : Below w1.heap.size w1 w2) :
    w2.cell? ⟨g, 0, none⟩ = some x0 ∧ w2.cell? ⟨g, 1, none⟩ = some x1 ∧ w2.cell? ⟨g, 2, none⟩ = some x2 ∧ w2.cell? ⟨g, 3, none⟩ = some x3 ∧ w2.cell? ⟨g, 4, none⟩ = some x4 ∧ w2.cell? p = some y ∧ Below B w w2 := by
  obtain ⟨a0, a1, a2, a3, a4, hp, hq⟩ := h
  have s : ∀ {q x}, w1.cell? q = some x → w2.cell? q = some x := fun hh => (hb.cell (World.block_lt_of_cell? _ _ hh)).trans hh
  exact ⟨s a0, s a1, s a2, s a3, s a4, s hp, hq.trans (hb.mono (Nat.le_trans hB hq.size))⟩
theorem In6f.first {w : World} (w1 : World) {g B : Nat} {p : Addr} {y x0 x1 x2 x3 x4 : Value} (h : Bx5 w1 g x0 x1 x2 x3 x4) (hp : w1.cell? p = some y) (hb : Below B w w1) :
    w1.drew.cell? ⟨g, 0, none⟩ = some x0 ∧ w1.drew.cell? ⟨g, 1, none⟩ = some x1 ∧ w1.drew.cell? ⟨g, 2, none⟩ = some x2 ∧ w1.drew.cell? ⟨g, 3, none⟩ = some x3 ∧ w1.drew.cell? ⟨g, 4, none⟩ = some x4 ∧ w1.drew.cell? p = some y ∧ Below B w w1.drew :=
  ⟨h.c0, h.c1, h.c2, h.c3, h.c4, hp, hb.drew⟩
theorem below_dN {B : Nat} {w v : World} (h : Below B w v) (n : Nat) : Below B w (v.drewN n) := ⟨h.os, h.tape, h.output, h.size, h.block⟩
theorem SlW.two (w : World) (n m : Nat) (T : TypeId) : SlW (w.alloc (.cells #[.int .u16 n, .int .u16 m] T)).drew (.slice (some ⟨w.heap.size, 0, none⟩) 2 2) [n, m] := by
  refine ⟨_, w.heap.size, 0, 2, rfl, .inr rfl, fun j x hj => ?_⟩
  match j, hj with
  | 0, hj => simp at hj; subst hj; simp
  | 1, hj => simp at hj; subst hj; simp
  | (j + 2), hj => simp at hj
theorem CdM.drew {w : World} {v : Value} {nm : ByteArray} {i : Nat} (h : CdM w v nm i) : CdM w.drew v nm i := h.below (Below.refl _ _).drew
set_option maxHeartbeats 8000000 in
theorem back19_small (q : Qu) (hq : q.ok) (m : Ms) (hm : m.ok) (n : Nat) (hn : n < 65536) (s : ByteArray) (w : World) (h1 : q.dead.size ≤ 3000) (h2 : m.body.size ≤ 3000) (h3 : s.size ≤ 3000) :
    Calls Try.prog 5 #[aggQ q, aggM m, .int .u16 n, .string s] w fun e w' => e = .returned (.bool true) ∧ Below w.heap.size w w' := by
  have HQ := Lib.hid (fun nm W => queues_any nm W)
  have HM := Lib.hid (fun nm i W => messages_any nm i W)
  have HM0 : Hid (∀ nm W, Calls Try.prog 10 #[.string nm, .int .u64 0] W (PostV W fun w' v => CdM w' v nm 0)) := fun nm W => messages_any nm 0 W
  have HBQ := Lib.hid (fun W v nm (hv : CdQ W v nm) => CdQ.bytes hv q hq)
  have HBM := Lib.hid (fun W v nm i (hv : CdM W v nm i) => CdM.bytes hv m hm)
  have HRQ := Lib.hid (fun W v (hv : CdQ W v q.nm) => CdQ.read hv (str (1 :: encQ q)))
  have HRM := Lib.hid (fun W v (hv : CdM W v m.qu m.id) => CdM.read hv (str (1 :: encM m)))
  obtain ⟨X, ex, hX, hX0⟩ : ∃ X ex, readG zQ (getQ q.nm) (str (1 :: encQ q)) = (X, ex) ∧ ((ex = 0 ∧ X = q ∧ q.dead.size ≤ 32) ∨ (ex = 5 ∧ 32 < q.dead.size)) := by
    by_cases h : q.dead.size ≤ 32
    · exact ⟨_, _, backQ q.nm q hq h, .inl ⟨rfl, rfl, h⟩⟩
    · exact ⟨_, _, backQ_long q.nm q hq (by omega), .inr ⟨rfl, by omega⟩⟩
  rw [hX] at HRQ
  rw [backM m.qu m.id m hm (by omega)] at HRM
  clear hX hq hm
  have HX0 := Lib.hid hX0
  clear hX0
  revert HRQ HRM HBQ HBM
  generalize encQ q = eq
  generalize encM m = em
  intro HBQ HBM HRM HRQ
  have HK0 : Hid (∀ W, Below ((w.alloc (.cells #[.string q.nm, .int .u32 q.most, .int .u64 q.ttl, .int .u32 q.tries, .string q.dead] 25)).alloc (.cells #[.string m.qu, .int .u64 m.id, .int .u32 m.tries, .int .u64 m.expiry, .string m.body] 27)).heap.size ((w.alloc (.cells #[.string q.nm, .int .u32 q.most, .int .u64 q.ttl, .int .u32 q.tries, .string q.dead] 25)).alloc (.cells #[.string m.qu, .int .u64 m.id, .int .u32 m.tries, .int .u64 m.expiry, .string m.body] 27)) W → Bk w W q m) := fun W hW =>
    ⟨(In10.first w _ _ _ _ _ _ _ _ _ _ _ _ W hW).1, (In10.first w _ _ _ _ _ _ _ _ _ _ _ _ W hW).2.1, (In10.first w _ _ _ _ _ _ _ _ _ _ _ _ W hW).2.2⟩
  unfold aggQ aggM at *
  try simp only at HRM
  obtain ⟨mx1, e1, ml1⟩ : ∃ x : Int, (if q.dead.size < m.body.size then (m.body.size : Int) else (q.dead.size : Int)) = x ∧ x ≤ 3000 := ⟨_, rfl, by split <;> omega⟩
  obtain ⟨mx2, e2, ml2⟩ : ∃ x : Int, (if mx1 < (s.size : Int) then (s.size : Int) else mx1) = x ∧ ¬ 3000 < x := ⟨_, rfl, by split <;> omega⟩
  go_enter Try.func5, Try.ntmps5
  go_upto_region 5 with (go_at_call 6; refine (awake19 _).mono ?_; rintro e w1 ⟨rfl, hb⟩; have HK := Lib.hid (HK0.out _ hb); have c1 := HK.out.bq.c4; have c2 := HK.out.bm.c4)
  clear c1 c2 hb e1 e2 ml1 ml2
  obtain ⟨X0, X1, X2, X3, X4⟩ := X
  go_cut [9, 10] (fun p e wx => ∃ g : Nat, p = .pointer (some ⟨g, 0, none⟩) ∧ e = .int .i64 ex ∧ Hid (Bx5 wx g (.string X0) (.int .u32 X1) (.int .u64 X2) (.int .u32 X3) (.string X4)) ∧ Hid (Bk w wx q m))
  case first =>
    clear HX0
    clear HBM HRM HM
    have HS0 := Lib.hid (Two10.of ⟨HK.out.bq, HK.out.bm, HK.out.be⟩)
    go_region_held3 (fun w' => w'.cell? ⟨w.heap.size, 0, none⟩ = some (.string q.nm) ∧ w'.cell? ⟨w.heap.size, 1, none⟩ = some (.int .u32 q.most) ∧ w'.cell? ⟨w.heap.size, 2, none⟩ = some (.int .u64 q.ttl) ∧ w'.cell? ⟨w.heap.size, 3, none⟩ = some (.int .u32 q.tries) ∧ w'.cell? ⟨w.heap.size, 4, none⟩ = some (.string q.dead) ∧ w'.cell? ⟨w.heap.size + 1, 0, none⟩ = some (.string m.qu) ∧ w'.cell? ⟨w.heap.size + 1, 1, none⟩ = some (.int .u64 m.id) ∧ w'.cell? ⟨w.heap.size + 1, 2, none⟩ = some (.int .u32 m.tries) ∧ w'.cell? ⟨w.heap.size + 1, 3, none⟩ = some (.int .u64 m.expiry) ∧ w'.cell? ⟨w.heap.size + 1, 4, none⟩ = some (.string m.body) ∧ Below w.heap.size w w')
      ((first | with_reducible assumption | with_reducible exact Two10.step (Nat.le_refl _) ‹_› hb | with_reducible exact HS0.out | with_reducible exact Two10.alloc (Nat.le_refl _) ‹_› _ | with_reducible exact Two10.ofK (HK5.alloc _) | with_reducible exact Two10.ofK (HK.out.alloc _).drew | with_reducible exact Two10.set5 ‹_› hl9))
      (first
      | (go_at_call 17; (first
          | ((with_reducible refine (HRQ.out _ _ hv4).mono ?_); rintro e w5 ⟨rfl, hb⟩; have HK5 := HK4.below hb; (try (have HT5 := HT4.below hb; have HT5h := Lib.hid HT5; obtain ⟨t0, t1, t2, t3, t4, r0, r1, r2, r3, r4⟩ := HT5)))
          | (refine (HRQ.out _ _ (hv4.alloc _)).mono ?_; rintro e w5 ⟨rfl, hb⟩; have HK5 := HK4.below (below_old hb); have hl9 := lt9 HK4; have HT5 := (Bx5.new w4 (.string ⟨#[]⟩) (.int .u32 0) (.int .u64 0) (.int .u32 0) (.string ⟨#[]⟩) 25).below hb; have HT5h := Lib.hid HT5; obtain ⟨t0, t1, t2, t3, t4, r0, r1, r2, r3, r4⟩ := HT5)))
      | (go_at_call 8; (first
          | ((with_reducible refine (HBQ.out _ _ _ hv3).mono ?_); rintro e w4 ⟨rfl, hb⟩; have HK4 := HK3.below hb; (try have HT4 := HT3.below hb); have hv4 := hv2.below hb)
          | (refine (HBQ.out _ _ _ (hv3.alloc _)).mono ?_; rintro e w4 ⟨rfl, hb⟩; have HK4 := HK3.below (below_old hb); have hl9 := lt9 HK3; have HT4 := (Bx5.new w3 (.string ⟨#[]⟩) (.int .u32 0) (.int .u64 0) (.int .u32 0) (.string ⟨#[]⟩) 25).below hb; have hv4 := hv2.below (below_old hb))))
      | (go_at_call 7; have tok := hv2; (first
          | ((with_reducible refine (HQ.out _ w2).mono ?_); rintro e w3 ⟨v3, rfl, hv3, hb⟩; have HK3 := HK2.below hb; (try have HT3 := HT2.below hb); have hv2 := hv2.below hb)
          | (refine (HQ.out _ _).mono ?_; rintro e w3 ⟨v3, rfl, hv3, hb⟩; have HK3 := HK2.below (below_old hb); have hl9 := lt9 HK2; have HT3 := (Bx5.new w2 (.string ⟨#[]⟩) (.int .u32 0) (.int .u64 0) (.int .u32 0) (.string ⟨#[]⟩) 25).below hb; have hv2 := hv2.below (below_old hb))))
      | (go_at_call 7; (first
          | ((with_reducible refine (HQ.out _ w1.drew).mono ?_); rintro e w2 ⟨v2, rfl, hv2, hb⟩; have HK2 := HK.out.below (below_dr hb))
          | (refine (HQ.out _ _).mono ?_; rintro e w2 ⟨v2, rfl, hv2, hb⟩; have HK2 := HK.out.below (below_off hb); have hl9 := lt9 HK.out; have HT2 := (Bx5.new w1 (.string ⟨#[]⟩) (.int .u32 0) (.int .u64 0) (.int .u32 0) (.string ⟨#[]⟩) 25).drew.below hb))))
    all_goals
      (go_wp2
       go_meet
       first
         | exact ⟨_, rfl, rfl, HT5h.out.stored, HK5.set5 hl9⟩
         | exact ⟨_, rfl, rfl, Bx5.new w5 _ _ _ _ _ _, HK5.alloc _⟩)
  case rest =>
    obtain ⟨g9, rfl, rfl, HX9, HKa⟩ := hcut
    clear HK HBQ HRQ HK0
    go_upto_region 6 with fail
    go_cut [57] (fun t wx => t = .bool false ∧ wc = wx)
    case first =>
      clear HBM HRM HM HQ
      obtain ⟨k0, k1, k2, k3, k4, _, _, _, _, _⟩ := HX9.out
      rcases HX0.out with ⟨rfl, rfl, hle⟩ | ⟨rfl, hle⟩
      · obtain ⟨c0, c1, c2, c3, c4, _, _, _, _, _⟩ := HKa.out.bq
        have hleI : (X4.size : Int) ≤ 32 := by simp only at hle; omega
        clear HX0
        go_wp2
        go_meet
        exact ⟨rfl, rfl⟩
      · obtain ⟨c0, c1, c2, c3, c4, _, _, _, _, _⟩ := HKa.out.bq
        have hleI : ¬ (q.dead.size : Int) ≤ 32 := by omega
        clear HX0
        go_wp2
        go_meet
        exact ⟨rfl, rfl⟩
    case rest =>
      obtain ⟨rfl, rfl⟩ := hcut
      clear HX0
      go_upto_region 8 with fail
      go_cut [11, 12] (fun p e wx => ∃ g : Nat, p = .pointer (some ⟨g, 0, none⟩) ∧ e = .int .i64 0 ∧ Hid (Bx5 wx g (.string m.qu) (.int .u64 m.id) (.int .u32 m.tries) (.int .u64 m.expiry) (.string m.body)) ∧ Hid (Bk w wx q m))
      case first =>
        clear HX9
        have HS0 := Lib.hid (Two10.of ⟨HKa.out.bq, HKa.out.bm, HKa.out.be⟩)
        go_region_held3 (fun w' => w'.cell? ⟨w.heap.size, 0, none⟩ = some (.string q.nm) ∧ w'.cell? ⟨w.heap.size, 1, none⟩ = some (.int .u32 q.most) ∧ w'.cell? ⟨w.heap.size, 2, none⟩ = some (.int .u64 q.ttl) ∧ w'.cell? ⟨w.heap.size, 3, none⟩ = some (.int .u32 q.tries) ∧ w'.cell? ⟨w.heap.size, 4, none⟩ = some (.string q.dead) ∧ w'.cell? ⟨w.heap.size + 1, 0, none⟩ = some (.string m.qu) ∧ w'.cell? ⟨w.heap.size + 1, 1, none⟩ = some (.int .u64 m.id) ∧ w'.cell? ⟨w.heap.size + 1, 2, none⟩ = some (.int .u32 m.tries) ∧ w'.cell? ⟨w.heap.size + 1, 3, none⟩ = some (.int .u64 m.expiry) ∧ w'.cell? ⟨w.heap.size + 1, 4, none⟩ = some (.string m.body) ∧ Below w.heap.size w w')
          ((first | with_reducible assumption | with_reducible exact Two10.step (Nat.le_refl _) ‹_› hb | with_reducible exact HS0.out | with_reducible exact Two10.alloc (Nat.le_refl _) ‹_› _ | with_reducible exact Two10.ofK (HK5.alloc _) | with_reducible exact Two10.ofK (HKa.out.alloc _).drew | with_reducible exact Two10.set5 ‹_› hl9))
          (first
          | (go_at_call 19; (first
              | ((with_reducible refine (HRM.out _ _ hv4).mono ?_); rintro e w5 ⟨rfl, hb⟩; have HK5 := HK4.below hb; (try (have HT5 := HT4.below hb; have HT5h := Lib.hid HT5; obtain ⟨t0, t1, t2, t3, t4, r0, r1, r2, r3, r4⟩ := HT5)))
              | (refine (HRM.out _ _ (hv4.alloc _)).mono ?_; rintro e w5 ⟨rfl, hb⟩; have HK5 := HK4.below (below_old hb); have hl9 := lt9 HK4; have HT5 := (Bx5.new w4 (.string ⟨#[]⟩) (.int .u64 0) (.int .u32 0) (.int .u64 0) (.string ⟨#[]⟩) 27).below hb; have HT5h := Lib.hid HT5; obtain ⟨t0, t1, t2, t3, t4, r0, r1, r2, r3, r4⟩ := HT5)))
          | (go_at_call 11; (first
              | ((with_reducible refine (HBM.out _ _ _ _ hv3).mono ?_); rintro e w4 ⟨rfl, hb⟩; have HK4 := HK3.below hb; (try have HT4 := HT3.below hb); have hv4 := hv2.below hb)
              | (refine (HBM.out _ _ _ _ (hv3.alloc _)).mono ?_; rintro e w4 ⟨rfl, hb⟩; have HK4 := HK3.below (below_old hb); have hl9 := lt9 HK3; have HT4 := (Bx5.new w3 (.string ⟨#[]⟩) (.int .u64 0) (.int .u32 0) (.int .u64 0) (.string ⟨#[]⟩) 27).below hb; have hv4 := hv2.below (below_old hb))))
          | (go_at_call 10; have tok := hv2; (first
              | ((with_reducible refine (HM0.out _ w2).mono ?_); rintro e w3 ⟨v3, rfl, hv3, hb⟩; have HK3 := HK2.below hb; (try have HT3 := HT2.below hb); have hv2 := hv2.below hb)
              | (refine (HM0.out _ _).mono ?_; rintro e w3 ⟨v3, rfl, hv3, hb⟩; have HK3 := HK2.below (below_old hb); have hl9 := lt9 HK2; have HT3 := (Bx5.new w2 (.string ⟨#[]⟩) (.int .u64 0) (.int .u32 0) (.int .u64 0) (.string ⟨#[]⟩) 27).below hb; have hv2 := hv2.below (below_old hb))))
          | (go_at_call 10; (first
              | ((with_reducible refine (HM.out _ _ wc.drew).mono ?_); rintro e w2 ⟨v2, rfl, hv2, hb⟩; have HK2 := HKa.out.below (below_dr hb))
              | (refine (HM.out _ _ _).mono ?_; rintro e w2 ⟨v2, rfl, hv2, hb⟩; have HK2 := HKa.out.below (below_off hb); have hl9 := lt9 HKa.out; have HT2 := (Bx5.new wc (.string ⟨#[]⟩) (.int .u64 0) (.int .u32 0) (.int .u64 0) (.string ⟨#[]⟩) 27).drew.below hb))))
        all_goals
          (go_wp2
           go_meet
           first
             | exact ⟨_, rfl, rfl, HT5h.out.stored, HK5.set5 hl9⟩
             | exact ⟨_, rfl, rfl, Bx5.new w5 _ _ _ _ _ _, HK5.alloc _⟩)
      case rest =>
        obtain ⟨g11, rfl, rfl, HX11, HKb⟩ := hcut
        clear HKa HX9 HBM HRM
        go_upto_region 9 with fail
        go_cut [76] (fun t wx => t = .bool false ∧ wc = wx)
        case first =>
          obtain ⟨k0, k1, k2, k3, k4, _, _, _, _, _⟩ := HX11.out
          obtain ⟨c0, c1, c2, c3, c4, _, _, _, _, _⟩ := HKb.out.bm
          go_wp2
          go_meet
          exact ⟨rfl, rfl⟩
        case rest =>
          obtain ⟨rfl, rfl⟩ := hcut
          clear HX11
          have HB0 := Lib.hid HKb.out.be
          clear HKb HQ HM h1 h2
          have HVW := Lib.hid (fun W => verW_any (.func 24) (.func 25) #[] #[] W)
          go_upto_region 12 with (go_at_call 23; refine (HVW.out _).mono ?_; rintro e wv ⟨v, rfl, ⟨ca, cg, rfl, hca, hcg, _⟩, hbv⟩; have HCW := Lib.hid (show CdW wv (.agg #[(.func (.func 62) #[] #[.pointer (some ⟨ca, 0, none⟩)]), (.func (.func 64) #[] #[.pointer (some ⟨cg, 0, none⟩)])]) from ⟨ca, cg, rfl, hca, hcg, Nat.zero_le _, Nat.zero_le _⟩); clear hca hcg)
          have HB1 := Lib.hid ((below_step HB0.out hbv).alloc (below_step HB0.out hbv).size (.cells #[(.func (.func 62) #[] #[.pointer (some ⟨ca, 0, none⟩)]), (.func (.func 64) #[] #[.pointer (some ⟨cg, 0, none⟩)])] 65))
          have HC1 := Lib.hid (Cd2.new wv (.func (.func 62) #[] #[.pointer (some ⟨ca, 0, none⟩)]) (.func (.func 64) #[] #[.pointer (some ⟨cg, 0, none⟩)]) 65)
          have HW1 := Lib.hid (HCW.out.alloc (.cells #[(.func (.func 62) #[] #[.pointer (some ⟨ca, 0, none⟩)]), (.func (.func 64) #[] #[.pointer (some ⟨cg, 0, none⟩)])] 65))
          clear HB0 hbv HCW HVW
          revert HB1 HC1 HW1
          generalize wv.alloc (.cells #[(.func (.func 62) #[] #[.pointer (some ⟨ca, 0, none⟩)]), (.func (.func 64) #[] #[.pointer (some ⟨cg, 0, none⟩)])] 65) = wx
          generalize wv.heap.size = gc
          intro HB1 HC1 HW1
          have HBY := Lib.hid (fun W (hW : CdW W (.agg #[(.func (.func 62) #[] #[.pointer (some ⟨ca, 0, none⟩)]), (.func (.func 64) #[] #[.pointer (some ⟨cg, 0, none⟩)])])) => CdW.bytes hW n hn)
          have HRD := Lib.hid (fun W (hW : CdW W (.agg #[(.func (.func 62) #[] #[.pointer (some ⟨ca, 0, none⟩)]), (.func (.func 64) #[] #[.pointer (some ⟨cg, 0, none⟩)])])) => CdW.read hW (str (1 :: Oc.big 2 n)))
          rw [backW n hn] at HRD
          have HLI := Lib.hid (fun v W (hW : CdW W (.agg #[(.func (.func 62) #[] #[.pointer (some ⟨ca, 0, none⟩)]), (.func (.func 64) #[] #[.pointer (some ⟨cg, 0, none⟩)])])) (hv : SlW W v [n, 1]) => listW_any (.agg #[(.func (.func 62) #[] #[.pointer (some ⟨ca, 0, none⟩)]), (.func (.func 64) #[] #[.pointer (some ⟨cg, 0, none⟩)])]) v [n, 1] (by simp) (by intro p hp; simp at hp; omega) W hW hv)
          have HRL := Lib.hid (fun W (hW : CdW W (.agg #[(.func (.func 62) #[] #[.pointer (some ⟨ca, 0, none⟩)]), (.func (.func 64) #[] #[.pointer (some ⟨cg, 0, none⟩)])])) => readL2 (.agg #[(.func (.func 62) #[] #[.pointer (some ⟨ca, 0, none⟩)]), (.func (.func 64) #[] #[.pointer (some ⟨cg, 0, none⟩)])]) n hn W hW)
          revert HBY HRD HLI HRL
          generalize str (1 :: Oc.big 2 n) = eb
          generalize str (encWs [n, 1]) = el
          intro HBY HRD HLI HRL
          go_cut [14, 15] (fun p e wy => p = .int .u16 n ∧ e = .int .i64 0 ∧ Hid (Cd2 wy gc (.func (.func 62) #[] #[.pointer (some ⟨ca, 0, none⟩)]) (.func (.func 64) #[] #[.pointer (some ⟨cg, 0, none⟩)])) ∧ Hid (CdW wy (.agg #[(.func (.func 62) #[] #[.pointer (some ⟨ca, 0, none⟩)]), (.func (.func 64) #[] #[.pointer (some ⟨cg, 0, none⟩)])])) ∧ Hid (Below w.heap.size w wy))
          case first =>
            have HS0 := Lib.hid (In2c.first wx HC1.out HB1.out)
            go_region_held3 (fun w' => w'.cell? ⟨gc, 0, none⟩ = some (.func (.func 62) #[] #[.pointer (some ⟨ca, 0, none⟩)]) ∧ w'.cell? ⟨gc, 1, none⟩ = some (.func (.func 64) #[] #[.pointer (some ⟨cg, 0, none⟩)]) ∧ Below w.heap.size w w')
              ((first | with_reducible assumption | with_reducible exact In2c.step (Nat.le_refl _) ‹_› hb | with_reducible exact HS0.out))
              (first
              | (go_at_call 26; refine (HRD.out _ hw2).mono ?_; rintro e w3 ⟨rfl, hb⟩; have hw3 := hw2.below hb)
              | (go_at_call 27; refine (HBY.out _ HW1.out.drew).mono ?_; rintro e w2 ⟨rfl, hb⟩; have hw2 := HW1.out.drew.below hb))
            rename_i hS
            go_wp2
            go_meet
            exact ⟨rfl, rfl, ⟨hS.1, hS.2.1⟩, hw3, hS.2.2⟩
          case rest =>
            obtain ⟨rfl, rfl, HC2, HW2, HB2⟩ := hcut
            clear HC1 HW1 HB1 HBY HRD
            go_upto_region 13 with fail
            go_cut [16, 17] (fun p e wy => ∃ b o c : Nat, p = .slice (some ⟨b, o, none⟩) 2 c ∧ e = .int .i64 0 ∧ Hid (wy.cell? ⟨b, o, none⟩ = some (.int .u16 n)) ∧ Hid (Below w.heap.size w wy))
            case first =>
              have HS0 := Lib.hid (In2c.first wc HC2.out HB2.out)
              have HSA := Lib.hid (fun o => In2c.step (Nat.le_refl _) HS0.out ((Below.refl _ wc.drew).alloc (Nat.le_refl _) o))
              have HSL := Lib.hid (SlW.two wc n 1 61)
              go_region_held3 (fun w' => w'.cell? ⟨gc, 0, none⟩ = some (.func (.func 62) #[] #[.pointer (some ⟨ca, 0, none⟩)]) ∧ w'.cell? ⟨gc, 1, none⟩ = some (.func (.func 64) #[] #[.pointer (some ⟨cg, 0, none⟩)]) ∧ Below w.heap.size w w')
                ((first | with_reducible assumption | with_reducible exact In2c.step (Nat.le_refl _) (In2c.allocd (Nat.le_refl _) HC2.out HB2.out _) hb | with_reducible exact In2c.step (Nat.le_refl _) ‹_› hb | with_reducible exact HS0.out | with_reducible exact In2c.alloc (Nat.le_refl _) HS0.out _ | with_reducible exact In2c.allocd (Nat.le_refl _) HC2.out HB2.out _))
                (first
                | (go_at_call 28; refine (HRL.out _ hw2).mono ?_; rintro e w3 ⟨b, o, c, rfl, hc3, hb⟩)
                | (go_at_call 29; refine (HLI.out _ _ (HW2.out.alloc _).drew HSL.out).mono ?_; rintro e w2 ⟨rfl, hb⟩; have hw2 := (HW2.out.alloc _).drew.below hb))
              all_goals
                (rename_i hS
                 go_wp2
                 go_meet
                 exact ⟨b, o, c, rfl, rfl, hc3, hS.2.2⟩)
            case rest =>
              obtain ⟨b, o, c, rfl, rfl, HN2, HB3⟩ := hcut
              clear HC2 HW2 HB2 HLI HRL
              have HM1 : Hid (∀ W, Calls Try.prog 10 #[.string ⟨#[113]⟩, .int .u64 1] W (PostV W fun w' v => CdM w' v ⟨#[113]⟩ 1)) := fun W => messages_any ⟨#[113]⟩ 1 W
              have HRS := Lib.hid (fun W v (hv : CdM W v ⟨#[113]⟩ 1) => CdM.read hv s)
              have HIN := Lib.hid (readM_inv ⟨#[113]⟩ 1 s)
              revert HRS HIN
              generalize readG zM (getM ⟨#[113]⟩ 1) s = Y
              obtain ⟨⟨y0, y1, y2, y3, y4⟩, ey⟩ := Y
              intro HRS HIN
              unfold aggM at HRS
              simp only at HRS
              go_upto_region 15 with (first
                | (go_at_call 10; refine (HM1.out _).mono ?_; rintro e w5 ⟨v5, rfl, hv5, hb5⟩)
                | (go_at_call 19; refine (HRS.out _ _ hv5).mono ?_; rintro e w6 ⟨rfl, hb6⟩))
              have HY := Lib.hid (Bx5.new w6 (.string y0) (.int .u64 y1) (.int .u32 y2) (.int .u64 y3) (.string y4) 27)
              have HB4 := Lib.hid (below_step hb5 (below_step hb6 ((Below.refl _ w6).alloc (Nat.le_refl _) (.cells #[.string y0, .int .u64 y1, .int .u32 y2, .int .u64 y3, .string y4] 27))))
              have HN4 := Lib.hid ((HB4.out.cell (World.block_lt_of_cell? _ _ HN2.out)).trans HN2.out)
              have HB5 := Lib.hid (below_step HB3.out HB4.out)
              clear hb5 hb6 hv5 HB4 HN2 HB3
              revert HY HN4 HB5
              generalize w6.alloc (.cells #[.string y0, .int .u64 y1, .int .u32 y2, .int .u64 y3, .string y4] 27) = W
              generalize w6.heap.size = gy
              intro HY HN4 HB5
              by_cases hey : ey = 0
              · subst hey
                obtain ⟨hstr, hok⟩ := HIN.out _ rfl
                have HBM := Lib.hid (fun W v (hv : CdM W v ⟨#[]⟩ 0) => CdM.bytes hv ⟨y0, y1, y2, y3, y4⟩ hok)
                rw [hstr] at HBM
                unfold aggM at HBM
                simp only at HBM
                clear hstr hok HIN HRS HM1
                have HS0 := Lib.hid (In6f.first W HY.out HN4.out HB5.out)
                go_region_held3 (fun w' => w'.cell? ⟨gy, 0, none⟩ = some (.string y0) ∧ w'.cell? ⟨gy, 1, none⟩ = some (.int .u64 y1) ∧ w'.cell? ⟨gy, 2, none⟩ = some (.int .u32 y2) ∧ w'.cell? ⟨gy, 3, none⟩ = some (.int .u64 y3) ∧ w'.cell? ⟨gy, 4, none⟩ = some (.string y4) ∧ w'.cell? ⟨b, o, none⟩ = some (.int .u16 n) ∧ Below w.heap.size w w')
                  ((first | with_reducible assumption | with_reducible exact In6f.step (Nat.le_refl _) ‹_› hb | with_reducible exact HS0.out))
                  (first
                  | (go_at_call 10; refine (HM0.out _ _).mono ?_; rintro e w2 ⟨v2, rfl, hv2, hb⟩)
                  | (go_at_call 11; refine (HBM.out _ _ hv2).mono ?_; rintro e w3 ⟨rfl, hb⟩))
                rename_i hS
                have hB := hS.2.2.2.2.2.2
                go_wp2
                go_ret
                exact ⟨rfl, hB⟩
              · have hf1 : (ey != 0) = true := by rw [bne_iff_ne]; exact hey
                clear HIN HRS HM1 HM0
                have n4 := HN4.out
                go_quiet (fail)
                go_wp2
                go_ret
                exact ⟨rfl, below_dN HB5.out _⟩
set_option maxHeartbeats 4000000 in
theorem back19_big (q : Qu) (m : Ms) (n : Nat) (s : ByteArray) (w : World) (h : 3000 < q.dead.size ∨ 3000 < m.body.size ∨ 3000 < s.size) :
    Calls Try.prog 5 #[aggQ q, aggM m, .int .u16 n, .string s] w fun e w' => e = .returned (.bool true) ∧ Below w.heap.size w w' := by
  obtain ⟨q0, q1, q2, q3, q4⟩ := q
  obtain ⟨m0, m1, m2, m3, m4⟩ := m
  unfold aggQ aggM
  simp only at h ⊢
  obtain ⟨mx1, e1, ml1⟩ : ∃ x : Int, (if q4.size < m4.size then (m4.size : Int) else (q4.size : Int)) = x ∧ ((3000 : Int) < x ∨ 3000 < (s.size : Int)) := ⟨_, rfl, by split <;> omega⟩
  obtain ⟨mx2, e2, ml2⟩ : ∃ x : Int, (if mx1 < (s.size : Int) then (s.size : Int) else mx1) = x ∧ 3000 < x := ⟨_, rfl, by split <;> omega⟩
  clear h ml1
  have HB0 := Lib.hid (fun W hW => In10.first w (.string q0) (.int .u32 q1) (.int .u64 q2) (.int .u32 q3) (.string q4) (.string m0) (.int .u64 m1) (.int .u32 m2) (.int .u64 m3) (.string m4) 25 27 W hW)
  go_enter Try.func5, Try.ntmps5
  go_wp2_with (go_at_call 6; refine (awake19 _).mono ?_; rintro e w1 ⟨rfl, hb⟩; obtain ⟨hq, hm, hB⟩ := HB0.out _ hb; have c1 := hq.c4; have c2 := hm.c4)
  all_goals (go_ret; exact ⟨rfl, hB⟩)
theorem back19_walk (q : Qu) (hq1 : q.most < 4294967296) (hq2 : q.ttl < 18446744073709551616) (hq3 : q.tries < 4294967296) (m : Ms) (hm1 : m.tries < 4294967296) (hm2 : m.expiry < 18446744073709551616) (n : Nat) (hn : n < 65536) (s : ByteArray) (w : World) :
    Calls Try.prog 5 #[aggQ q, aggM m, .int .u16 n, .string s] w fun e w' => e = .returned (.bool true) ∧ Below w.heap.size w w' := by
  by_cases h : 3000 < q.dead.size ∨ 3000 < m.body.size ∨ 3000 < s.size
  · exact back19_big q m n s w h
  · exact back19_small q ⟨hq1, hq2, hq3, by omega⟩ m ⟨hm1, hm2, by omega⟩ n hn s w (by omega) (by omega) (by omega)
end Go.Proofs.Ytfoijhofpjaldaa
