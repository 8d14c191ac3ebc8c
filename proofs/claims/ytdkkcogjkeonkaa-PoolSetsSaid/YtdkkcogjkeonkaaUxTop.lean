/- A set of numbers: what it is asked, its rows, the law's state: ten texts as one. -/
import Derived.Test.YtdkkcogjkeonkaaPSet
import Derived.Lib.SliceRun
import Derived.Maps.AppendAt
import Derived.Test.YtdkkcogjkeonkaaUxOf
import Derived.BigQuiet
import Derived.Deep.QuietTactic
import Derived.Test.YtdkkcogjkeonkaaUxSrt2
import Derived.Test.YtdkkcogjkeonkaaUxAbove
import Derived.RangeFuncNested
import Derived.RangeFuncBound
import Derived.RangeFuncCalls
import Derived.RangeFuncLeaves
import Derived.RangeFuncBox
import Derived.Shelf.Abstract
import Derived.Shelf.RegionOpen
import Derived.WalkKit
import Derived.OwnWalkIn
import Derived.TacticsInMore
import Derived.LoopNIn
import Derived.LoopIn
import Derived.Sort.LoopGhostIn
import Derived.RangeFuncWrites
/- A set: how many, what stands at a place, ahead of and behind a number. -/
set_option maxRecDepth 100000
set_option maxHeartbeats 4000000
set_option linter.unusedVariables false
namespace Go.Proofs.Ytdkkcogjkeonkaa
open Go.RowKit
theorem len_any {w : World} {p B : Nat} {v : Value} {l : List Nat} (h : SetW w p B v l) :
    Calls Try.prog 14 #[.pointer (some ⟨p, 0, none⟩)] w fun e w' => e = .returned (.int .i64 (l.length : Nat)) ∧ w = w' := by
  have hn := fun W => set_not_nil W p
  have c0 := h.c0
  obtain ⟨a, c, rfl⟩ := h.row.slice
  clear h
  go_enter Try.func14, Try.ntmps14
  go_wp2
  go_ret
  exact ⟨rfl, rfl⟩
/-- What stands at a place, if it is one. -/
def atI (l : List Nat) (k : Int) : Nat × Bool := if 0 ≤ k ∧ k < l.length then ((l[k.toNat]?).getD 0, true) else (0, false)
theorem at_any {w : World} {p B : Nat} {v : Value} {l : List Nat} (h : SetW w p B v l) (k : Int) :
    Calls Try.prog 30 #[.pointer (some ⟨p, 0, none⟩), .int .i64 k] w fun e w' => e = .returned (.tuple #[.int .u32 (atI l k).1, .bool (atI l k).2]) ∧ w = w' := by
  have HL := Lib.hid (len_any h)
  have c0 := h.c0
  have HS := Lib.hid h.row.sl
  obtain ⟨a, c, rfl⟩ := h.row.slice
  clear h
  have HQ : Hid (atI l k = if 0 ≤ k ∧ k < l.length then ((l[k.toNat]?).getD 0, true) else (0, false)) := rfl
  generalize atI l k = r at HQ ⊢
  by_cases h0 : 0 ≤ k
  · have i0 : ¬ k < 0 := by omega
    by_cases h1 : k < l.length
    · obtain ⟨n, rfl⟩ := Int.eq_ofNat_of_zero_le h0
      have hn : n < l.length := by omega
      obtain ⟨y, hy⟩ := has_of hn
      have hr : r = (y, true) := by rw [HQ.out, if_pos ⟨h0, h1⟩, Int.toNat_natCast, hy]; rfl
      subst hr
      obtain ⟨a', b, o, c', he, ha, hx⟩ := HS.out
      obtain rfl : a = a' := by cases he; rfl
      obtain rfl : a = some ⟨b, o, none⟩ := ha.resolve_left (by intro h; rw [h] at hn; cases hn)
      have d0 := hx n y hy
      have i1 : ¬ (l.length : Int) ≤ (n : Int) := by omega
      clear HQ he ha hx hy
      go_enter Try.func30, Try.ntmps30
      go_wp2_with (go_at_call 14; refine HL.out.mono ?_; rintro e w1 ⟨rfl, rfl⟩)
      go_ret2
      exact ⟨rfl, rfl⟩
    · have hr : r = (0, false) := by rw [HQ.out, if_neg (fun h => h1 h.2)]
      subst hr
      have i1 : (l.length : Int) ≤ k := by omega
      clear HQ h1
      go_enter Try.func30, Try.ntmps30
      go_wp2_with (go_at_call 14; refine HL.out.mono ?_; rintro e w1 ⟨rfl, rfl⟩)
      go_ret2
      exact ⟨rfl, rfl⟩
  · have hr : r = (0, false) := by rw [HQ.out, if_neg (fun h => h0 h.1)]
    subst hr
    have i0 : k < 0 := by omega
    clear HQ h0
    go_enter Try.func30, Try.ntmps30
    go_wp2
    go_ret2
    exact ⟨rfl, rfl⟩
theorem has_any {w : World} {p B : Nat} {v : Value} {l : List Nat} (h : SetW w p B v l) (hl : l.length ≤ 100000) (x : Nat) :
    Calls Try.prog 13 #[.pointer (some ⟨p, 0, none⟩), .int .u32 x] w fun e w' => ∃ k, e = .returned (.bool (decide (l[k]? = some x))) ∧ At l x k ∧ w = w' := by
  have HP := Lib.hid (place_any h hl x)
  clear h
  go_enter Try.func13, Try.ntmps13
  go_wp2_with (go_at_call 27; refine HP.out.mono ?_; rintro e w1 ⟨k, rfl, hat, rfl⟩; have HAT := Lib.hid hat; clear hat)
  go_ret
  exact ⟨k, rfl, HAT.out, rfl⟩
theorem least_any {w : World} {p B : Nat} {v : Value} {l : List Nat} (h : SetW w p B v l) :
    Calls Try.prog 12 #[.pointer (some ⟨p, 0, none⟩)] w fun e w' => e = .returned (.tuple #[.int .u32 (atI l 0).1, .bool (atI l 0).2]) ∧ w = w' := by
  have HA := Lib.hid (at_any h 0)
  clear h
  generalize atI l 0 = r at HA ⊢
  go_enter Try.func12, Try.ntmps12
  go_wp2_with (go_at_call 30; refine HA.out.mono ?_; rintro e w1 ⟨rfl, rfl⟩)
  go_ret2
  exact ⟨rfl, rfl⟩
theorem greatest_any {w : World} {p B : Nat} {v : Value} {l : List Nat} (h : SetW w p B v l) (hl : l.length ≤ 100000) :
    Calls Try.prog 35 #[.pointer (some ⟨p, 0, none⟩)] w fun e w' => e = .returned (.tuple #[.int .u32 (atI l ((l.length : Int) - 1)).1, .bool (atI l ((l.length : Int) - 1)).2]) ∧ w = w' := by
  have HA := Lib.hid (at_any h ((l.length : Int) - 1))
  have HL := Lib.hid (len_any h)
  clear h
  generalize atI l ((l.length : Int) - 1) = r at HA ⊢
  go_enter Try.func35, Try.ntmps35
  go_wp2_with (first
    | (go_at_call 30; refine HA.out.mono ?_; rintro e w1 ⟨rfl, rfl⟩)
    | (go_at_call 14; refine HL.out.mono ?_; rintro e w1 ⟨rfl, rfl⟩))
  go_ret2
  exact ⟨rfl, rfl⟩
theorem notBelow_any {w : World} {p B : Nat} {v : Value} {l : List Nat} (h : SetW w p B v l) (hl : l.length ≤ 100000) (x : Nat) :
    Calls Try.prog 34 #[.pointer (some ⟨p, 0, none⟩), .int .u32 x] w fun e w' => ∃ k : Nat, e = .returned (.tuple #[.int .u32 (atI l k).1, .bool (atI l k).2]) ∧ At l x k ∧ w = w' := by
  have HP := Lib.hid (place_any h hl x)
  have HA := Lib.hid (fun k : Nat => at_any h k)
  clear h
  go_enter Try.func34, Try.ntmps34
  go_wp2_with (first
    | (go_at_call 30; refine (HA.out _).mono ?_; rintro e w1 ⟨rfl, rfl⟩)
    | (go_at_call 27; refine HP.out.mono ?_; rintro e w1 ⟨k, rfl, hat, rfl⟩; have HAT := Lib.hid hat; clear hat))
  go_ret2
  exact ⟨k, rfl, HAT.out, rfl⟩
theorem above_any {w : World} {p B : Nat} {v : Value} {l : List Nat} (h : SetW w p B v l) (hl : l.length ≤ 100000) (x : Nat) :
    Calls Try.prog 32 #[.pointer (some ⟨p, 0, none⟩), .int .u32 x] w fun e w' => ∃ k : Nat, e = .returned (.tuple #[.int .u32 (atI l (if l[k]? = some x then ((k : Int) + 1) else (k : Int))).1, .bool (atI l (if l[k]? = some x then ((k : Int) + 1) else (k : Int))).2]) ∧ At l x k ∧ w = w' := by
  have HP := Lib.hid (place_any h hl x)
  have HA := Lib.hid (fun k : Int => at_any h k)
  clear h
  go_enter Try.func32, Try.ntmps32
  go_upto_region 2 with (go_at_call 27; refine HP.out.mono ?_; rintro e w1 ⟨k, rfl, hat, rfl⟩; have HAT := Lib.hid hat; clear hat)
  have hk := HAT.out.le
  by_cases hx : l[k]? = some x
  · rw [decide_eq_true hx]
    have HX := Lib.hid hx
    clear hx
    go_wp2_with (go_at_call 30; refine (HA.out _).mono ?_; rintro e w1 ⟨rfl, rfl⟩)
    go_ret2
    exact ⟨k, by rw [if_pos HX.out]; rfl, HAT.out, rfl⟩
  · rw [decide_eq_false hx]
    have HX := Lib.hid hx
    clear hx
    go_wp2_with (go_at_call 30; refine (HA.out _).mono ?_; rintro e w1 ⟨rfl, rfl⟩)
    go_ret2
    exact ⟨k, by rw [if_neg HX.out]; rfl, HAT.out, rfl⟩
theorem pbelow_any {w : World} {p B : Nat} {v : Value} {l : List Nat} (h : SetW w p B v l) (hl : l.length ≤ 100000) (x : Nat) :
    Calls Try.prog 36 #[.pointer (some ⟨p, 0, none⟩), .int .u32 x] w fun e w' => ∃ k : Nat, e = .returned (.tuple #[.int .u32 (atI l ((k : Int) - 1)).1, .bool (atI l ((k : Int) - 1)).2]) ∧ At l x k ∧ w = w' := by
  have HP := Lib.hid (place_any h hl x)
  have HA := Lib.hid (fun k : Int => at_any h k)
  clear h
  go_enter Try.func36, Try.ntmps36
  go_upto_region 2 with (go_at_call 27; refine HP.out.mono ?_; rintro e w1 ⟨k, rfl, hat, rfl⟩; have HAT := Lib.hid hat; clear hat)
  have hk := HAT.out.le
  go_wp2_with (go_at_call 30; refine (HA.out _).mono ?_; rintro e w1 ⟨rfl, rfl⟩)
  go_ret2
  exact ⟨k, rfl, HAT.out, rfl⟩
end Go.Proofs.Ytdkkcogjkeonkaa
/- slices.Clone of a row of numbers; a set's Copy. -/
set_option maxRecDepth 100000
set_option maxHeartbeats 4000000
set_option linter.unusedVariables false
namespace Go.Proofs.Ytdkkcogjkeonkaa
open Go.RowKit
theorem clone32_any (v : Value) (l : List Nat) (hll : l.length ≤ 100000) (w : World) (hv : SlN w v l) :
    Calls Try.prog 23 #[v] w fun e w' => ∃ v', e = .returned v' ∧ RowN w' w.heap.size v' l ∧ Below w.heap.size w w' := by
  obtain ⟨i0, hi, hz0, hz1, hz2⟩ := info_parts infoN
  have q22 : ∀ (w : World) (a : Option Addr) (n c n' c' : Nat), (binOp .eql 22 (.slice a n c) (.slice none n' c')).run Try.prog w = .ok (.bool a.isNone) w := fun w a n c n' c' => Lib.run_eql_slice_nil w _ _ a n c n' c' Try.underlying22
  obtain ⟨a, b, o, c, rfl, ha, hx⟩ := hv
  have HX := Lib.hid hx
  have HA := Lib.hid ha
  clear ha hx
  cases a with
  | none =>
    have hl : l = [] := by
      rcases HA.out with h | h
      · exact h
      · cases h
    subst hl
    go_enter Try.func23, Try.ntmps23
    go_wp2
    go_ret
    exact ⟨_, rfl, World.ownsRow_nil _ _ _ _, Below.refl _ _⟩
  | some ad =>
    go_enter Try.func23, Try.ntmps23
    go_wp2_with (at_builtin; refine wpList_append_own _ rfl _ _ 22 rfl w.heap.size 24 i0 _ 1 4 Try.underlying22 hi hz0 hz1 hz2 rfl (by decide) _ _ _ rfl (World.ownsRow_made w #[] 0 (Nat.le_refl _) (Nat.zero_le _) rfl) ad l.length c (l.map num) rfl ?p0 ?p1 ?p2 ?p3 ?p4 ?p5 ?_)
    case p0 => simp
    case p1 =>
      intro j u hj
      rcases HA.out with h | h
      · subst h; simp at hj
      · cases h
        rw [List.getElem?_map] at hj
        cases hy : l[j]? with
        | none => rw [hy] at hj; cases hj
        | some y =>
          rw [hy] at hj
          cases hj
          rw [show (⟨b, o, none⟩ : Addr).add j = ⟨b, o + j, none⟩ by unfold Addr.add; split <;> simp_all]
          exact ((Below.refl w.heap.size w).alloc (Nat.le_refl _) _).cell (p := ⟨b, o + j, none⟩) (World.block_lt_of_cell? _ _ (HX.out j y hy)) |>.trans (HX.out j y hy)
    case p2 =>
      intro u hu
      simp [num] at hu
      obtain ⟨y, _, rfl⟩ := hu
      rfl
    case p3 => unfold maxLen; omega
    case p4 => omega
    case p5 => simp
    intro v' w1 hown hgrow _
    go_wp2
    go_ret
    refine ⟨v', rfl, ?_, ((Below.refl _ w).alloc (Nat.le_refl _) _).grown hgrow (by simp) (by intro k hk; simp [Value.ownBlock] at hk; omega)⟩
    show w1.ownsRow _ _ _ _ _ _
    simpa using hown
theorem copy_any {w : World} {p B : Nat} {v : Value} {l : List Nat} (h : SetW w p B v l) (hl : l.length ≤ 100000) :
    Calls Try.prog 15 #[.pointer (some ⟨p, 0, none⟩)] w fun e w' => ∃ p' v', e = .returned (.pointer (some ⟨p', 0, none⟩)) ∧ w.heap.size ≤ p' ∧ SetW w' p' w.heap.size v' l ∧ Below w.heap.size w w' := by
  have hn := fun W => set_not_nil W p
  have c0 := h.c0
  have HRI := Lib.hid h.rise
  have HC := Lib.hid (clone32_any v l hl w h.row.sl)
  obtain ⟨a, c, rfl⟩ := h.row.slice
  clear h
  go_enter Try.func15, Try.ntmps15
  go_wp2_with (go_at_call 23; refine HC.out.mono ?_; rintro e w1 ⟨v1, rfl, hr, hb⟩; have HR := Lib.hid hr; have HB := Lib.hid hb; obtain ⟨a1, c1, rfl⟩ := hr.slice; clear hr hb)
  go_ret
  refine ⟨w1.heap.size, .slice a1 l.length c1, rfl, HB.out.size, ⟨World.cell?_alloc_new w1 _ _ 0, World.frozen?_alloc_new w1 _ _ 0, HR.out.below ((Below.refl _ _).alloc (Nat.le_refl _) _), HRI.out, fun e => ?_⟩, HB.out.alloc HB.out.size _⟩
  have := (HR.out.lt _ e).2
  exact absurd this (Nat.lt_irrefl _)
end Go.Proofs.Ytdkkcogjkeonkaa
/- A pool of pages: two sets, the mark, the disk's pages; the law's own example. -/
set_option maxRecDepth 100000
set_option maxHeartbeats 4000000
set_option linter.unusedVariables false
namespace Go.Proofs.Ytdkkcogjkeonkaa
open Go.RowKit Go.Sort
open Tx (Rise Ord)
theorem uxHas_any {w : World} {p B : Nat} {v : Value} {l : List Nat} (h : SetV w p B v l) (hl : l.length ≤ 100000) (x : Nat) :
    Calls Try.prog 13 #[.pointer (some ⟨p, 0, none⟩), .int .u32 x] w fun e w' => e = .returned (.bool (decide (x ∈ l))) ∧ ∃ q, w' = w.drewN q := by
  have HP := Lib.hid (uxPlace_any h hl x)
  have HR := Lib.hid h.rise
  clear h
  go_enter Try.func13, Try.ntmps13
  go_wp2_with (go_at_call 27; refine HP.out.mono ?_; rintro e w1 ⟨k, rfl, hat, q, rfl⟩; have HAT := Lib.hid hat; clear hat)
  go_ret
  refine ⟨?_, q, rfl⟩
  have := (HAT.out.mem vord HR.out : x ∈ _ ↔ _)
  show Ending.returned (Value.bool (decide _)) = _
  rw [decide_eq_decide.2 this]
/-- A pool's box, and its sets. -/
structure PoolB (W : World) (q pf pt Bf : Nat) (vf vt : Value) (F T : List Nat) (hi pg : Nat) : Prop where
  c0 : W.cell? ⟨q, 0, none⟩ = some (.pointer (some ⟨pf, 0, none⟩))
  c1 : W.cell? ⟨q, 1, none⟩ = some (.pointer (some ⟨pt, 0, none⟩))
  c2 : W.cell? ⟨q, 2, none⟩ = some (.int .u32 hi)
  c3 : W.cell? ⟨q, 3, none⟩ = some (.int .u32 pg)
  fr : W.frozen? ⟨q, 2, none⟩ = false
  free : SetV W pf Bf vf F
  taken : SetV W pt Bf vt T
  n1 : q ≠ pf
  n2 : q ≠ pt
  n3 : pf ≠ pt
  n4 : vf.ownBlock ≠ some q
  n5 : vt.ownBlock ≠ some q
  n6 : vf.ownBlock ≠ some pt
  n7 : vt.ownBlock ≠ some pf
  n8 : ∀ g, vf.ownBlock = some g → vt.ownBlock ≠ some g
theorem SetV.keep {w w' : World} {p B : Nat} {v : Value} {l : List Nat} (h : SetV w p B v l) (hp : w'.heap[p]? = w.heap[p]?) (hv : ∀ g, v.ownBlock = some g → w'.heap[g]? = w.heap[g]?) : SetV w' p B v l :=
  ⟨(cell_same hp 0).trans h.c0, (frozen_same hp 0).trans h.f0, h.row.keep hv, h.rise, h.ne⟩
theorem SetV.blt {w : World} {p B : Nat} {v : Value} {l : List Nat} (h : SetV w p B v l) : p < w.heap.size := World.block_lt_of_cell? _ _ h.c0
theorem PoolB.step_free {W W' : World} {q pf pt Bf : Nat} {vf vt vf' : Value} {F F' T : List Nat} {hi pg : Nat} (h : PoolB W q pf pt Bf vf vt F T hi pg) (hs : SetV W' pf Bf vf' F') (hk : SetK pf Bf vf W W')
    (ho : vf'.ownBlock = vf.ownBlock ∨ ∃ g, vf'.ownBlock = some g ∧ W.heap.size ≤ g) : PoolB W' q pf pt Bf vf' vt F' T hi pg := by
  have hq := World.block_lt_of_cell? _ _ h.c0
  have kq := hk.keep q h.n1 h.n4 hq
  have kt := hk.keep pt (Ne.symm h.n3) h.n6 h.taken.blt
  have hv : ∀ g, vt.ownBlock = some g → g < W.heap.size := fun g hg => (h.taken.row.lt hg).1
  have hn : ∀ g, g < W.heap.size → vf.ownBlock ≠ some g → vf'.ownBlock ≠ some g := fun g hg hne e => by
    rcases ho with ho | ⟨g', h1, h2⟩
    · exact hne (ho ▸ e)
    · rw [h1] at e; cases e; omega
  refine ⟨(cell_same kq 0).trans h.c0, (cell_same kq 1).trans h.c1, (cell_same kq 2).trans h.c2, (cell_same kq 3).trans h.c3, (frozen_same kq 2).trans h.fr, hs, h.taken.keep kt (fun g hg => hk.keep g (fun e => h.n7 (by rw [hg, e])) (fun e => h.n8 g e hg) (hv g hg)), h.n1, h.n2, h.n3, hn q hq h.n4, h.n5, hn pt h.taken.blt h.n6, h.n7, fun g hg e => ?_⟩
  exact hn g (hv g e) (fun e' => h.n8 g e' e) hg
theorem PoolB.step_taken {W W' : World} {q pf pt Bf : Nat} {vf vt vt' : Value} {F T T' : List Nat} {hi pg : Nat} (h : PoolB W q pf pt Bf vf vt F T hi pg) (hs : SetV W' pt Bf vt' T') (hk : SetK pt Bf vt W W')
    (ho : vt'.ownBlock = vt.ownBlock ∨ ∃ g, vt'.ownBlock = some g ∧ W.heap.size ≤ g) : PoolB W' q pf pt Bf vf vt' F T' hi pg := by
  have hq := World.block_lt_of_cell? _ _ h.c0
  have kq := hk.keep q h.n2 h.n5 hq
  have kf := hk.keep pf h.n3 h.n7 h.free.blt
  have hv : ∀ g, vf.ownBlock = some g → g < W.heap.size := fun g hg => (h.free.row.lt hg).1
  have hn : ∀ g, g < W.heap.size → vt.ownBlock ≠ some g → vt'.ownBlock ≠ some g := fun g hg hne e => by
    rcases ho with ho | ⟨g', h1, h2⟩
    · exact hne (ho ▸ e)
    · rw [h1] at e; cases e; omega
  exact ⟨(cell_same kq 0).trans h.c0, (cell_same kq 1).trans h.c1, (cell_same kq 2).trans h.c2, (cell_same kq 3).trans h.c3, (frozen_same kq 2).trans h.fr, h.free.keep kf (fun g hg => hk.keep g (fun e => h.n6 (by rw [hg, e])) (fun e => h.n8 g hg e) (hv g hg)), hs, h.n1, h.n2, h.n3, h.n4, hn q hq h.n5, h.n6, hn pf h.free.blt h.n7, fun g hg => hn g (hv g hg) (h.n8 g hg)⟩
theorem SetK.below {p Bf B : Nat} {v : Value} {w w' : World} {l : List Nat} (h : SetK p Bf v w w') (hs : SetV w p Bf v l) (hB : B ≤ p) (hB2 : B ≤ Bf) : Below B w w' :=
  ⟨h.os, h.tape, h.output, h.size, fun k hk => h.keep k (by omega) (fun e => by have := (hs.row.lt e).2; omega) (by have := hs.blt; omega)⟩
theorem pool_not_nil (w : World) (q : Nat) : (binOp .eql 45 (.pointer (some ⟨q, 0, none⟩)) (.pointer none)).run Try.prog w = .ok (.bool false) w := by kernel_rfl
/-- A page that was free is taken. -/
theorem again_some {W : World} {q pf pt Bf : Nat} {vf vt : Value} {x : Nat} {F T : List Nat} {hi pg : Nat} (h : PoolB W q pf pt Bf vf vt (x :: F) T hi pg) (hl : F.length ≤ 1000) (B : Nat) (hB : B ≤ pf) (hB2 : B ≤ Bf) :
    Calls Try.prog 37 #[.pointer (some ⟨q, 0, none⟩)] W fun e W' => e = .returned (.tuple #[.int .u32 x, .bool true]) ∧ (∃ vf', PoolB W' q pf pt Bf vf' vt F T hi pg) ∧ Below B W W' := by
  have HL := Lib.hid (uxLeast_any h.free)
  have e0 : fstV (x :: F) = (x, true) := rfl
  rw [e0] at HL
  have HRm := Lib.hid (uxRemove_any h.free (by simp only [List.length_cons]; omega) x)
  have HH := Lib.hid h
  have c0 := h.c0
  clear h e0
  go_enter Try.func37, Try.ntmps37
  go_wp2_with (first
    | (go_at_call 12; refine HL.out.mono ?_; rintro e w1 ⟨rfl, rfl⟩)
    | (go_at_call 10; refine HRm.out.mono ?_; rintro e w2 ⟨⟨b, rfl⟩, v', l', hs, hr, hk, ho⟩; have HS := Lib.hid hs; have HR := Lib.hid hr; have HK := Lib.hid hk; have HO := Lib.hid ho; clear hs hr hk ho))
  go_ret2
  have hl' : l' = F := by
    have hr0 := List.pairwise_cons.1 HH.out.free.rise
    refine Rise.uniq vord HR.out.1 hr0.2 (fun y => ?_)
    rw [HR.out.2.1, List.mem_cons]
    constructor
    · rintro ⟨h1, h2⟩; exact h2.resolve_left h1
    · intro h; exact ⟨fun e => by have := hr0.1 y h; rw [e] at this; exact absurd this (by rw [vord.irr]; simp), .inr h⟩
  subst hl'
  refine ⟨rfl, ⟨v', HH.out.step_free HS.out HK.out HO.out⟩, HK.out.below HH.out.free hB hB2⟩
theorem again_none {W : World} {q pf pt Bf : Nat} {vf vt : Value} {T : List Nat} {hi pg : Nat} (h : PoolB W q pf pt Bf vf vt [] T hi pg) :
    Calls Try.prog 37 #[.pointer (some ⟨q, 0, none⟩)] W fun e W' => e = .returned (.tuple #[.int .u32 0, .bool false]) ∧ W = W' := by
  have HL := Lib.hid (uxLeast_any h.free)
  have e0 : fstV [] = (0, false) := rfl
  rw [e0] at HL
  have c0 := h.c0
  clear h e0
  go_enter Try.func37, Try.ntmps37
  go_wp2_with (go_at_call 12; refine HL.out.mono ?_; rintro e w1 ⟨rfl, rfl⟩)
  go_ret2
  exact ⟨rfl, rfl⟩
theorem PoolB.drewN {W : World} {q pf pt Bf : Nat} {vf vt : Value} {F T : List Nat} {hi pg : Nat} (h : PoolB W q pf pt Bf vf vt F T hi pg) (n : Nat) : PoolB (W.drewN n) q pf pt Bf vf vt F T hi pg :=
  ⟨h.c0, h.c1, h.c2, h.c3, h.fr, h.free.drewN n, h.taken.drewN n, h.n1, h.n2, h.n3, h.n4, h.n5, h.n6, h.n7, h.n8⟩
theorem PoolB.marked {W : World} {q pf pt Bf : Nat} {vf vt : Value} {F T : List Nat} {hi pg : Nat} (h : PoolB W q pf pt Bf vf vt F T hi pg) (x : Nat) : PoolB (W.setCell ⟨q, 2, none⟩ (.int .u32 x)) q pf pt Bf vf vt F T x pg := by
  have k : ∀ g, g ≠ q → (W.setCell ⟨q, 2, none⟩ (.int .u32 x)).heap[g]? = W.heap[g]? := fun g hg => Below.heap_setCell W _ _ g hg
  refine ⟨?_, ?_, ?_, ?_, ?_, h.free.keep (k pf (Ne.symm h.n1)) (fun g hg => k g (fun e => h.n4 (by rw [hg, e]))), h.taken.keep (k pt (Ne.symm h.n2)) (fun g hg => k g (fun e => h.n5 (by rw [hg, e]))), h.n1, h.n2, h.n3, h.n4, h.n5, h.n6, h.n7, h.n8⟩
  · exact (World.cell?_setCell_other _ _ _ _ (by simp)).trans h.c0
  · exact (World.cell?_setCell_other _ _ _ _ (by simp)).trans h.c1
  · exact World.cell?_setCell_same' _ _ _ (by rw [h.c2]; rfl)
  · exact (World.cell?_setCell_other _ _ _ _ (by simp)).trans h.c3
  · rw [World.frozen?_setCell]; exact h.fr
theorem fresh_none {W : World} {q pf pt Bf : Nat} {vf vt : Value} {F T : List Nat} {hi pg : Nat} (h : PoolB W q pf pt Bf vf vt F T hi pg) (hh : pg ≤ hi) :
    Calls Try.prog 38 #[.pointer (some ⟨q, 0, none⟩)] W fun e W' => e = .returned (.tuple #[.int .u32 0, .bool false]) ∧ ∃ n, W' = W.drewN n := by
  obtain ⟨c2, c3⟩ : W.cell? ⟨q, 2, none⟩ = some (.int .u32 hi) ∧ W.cell? ⟨q, 3, none⟩ = some (.int .u32 pg) := ⟨h.c2, h.c3⟩
  have h1 : ¬ (hi : Int) < (pg : Int) := by omega
  have h2 : (pg : Int) ≤ (hi : Int) := by omega
  clear h hh
  go_enter Try.func38, Try.ntmps38
  go_wp2
  go_loopg [4] 0 (fun _ s4 wr => s4 = .int .u32 hi ∧ W = wr)
  case atStart => exact ⟨rfl, rfl⟩
  case round =>
    obtain ⟨rfl, rfl⟩ := hrel
    go_wp2
    go_ret2
    exact ⟨rfl, 0, rfl⟩
theorem fresh_some {W : World} {q pf pt Bf : Nat} {vf vt : Value} {F T : List Nat} {hi pg : Nat} (h : PoolB W q pf pt Bf vf vt F T hi pg) (hT : T.length ≤ 1000) (hh : hi < pg) (hp : pg ≤ 1000000) (hn : hi ∉ T) :
    Calls Try.prog 38 #[.pointer (some ⟨q, 0, none⟩)] W fun e W' => e = .returned (.tuple #[.int .u32 hi, .bool true]) ∧ PoolB W' q pf pt Bf vf vt F T (hi + 1) pg ∧ ∀ B, B ≤ q → Below B W W' := by
  obtain ⟨c1, c2, c3, f2⟩ : W.cell? ⟨q, 1, none⟩ = some (.pointer (some ⟨pt, 0, none⟩)) ∧ W.cell? ⟨q, 2, none⟩ = some (.int .u32 hi) ∧ W.cell? ⟨q, 3, none⟩ = some (.int .u32 pg) ∧ W.frozen? ⟨q, 2, none⟩ = false := ⟨h.c1, h.c2, h.c3, h.fr⟩
  have h1 : (hi : Int) < (pg : Int) := by omega
  have h2 : ¬ (pg : Int) ≤ (hi : Int) := by omega
  have HH := Lib.hid (fun n => by have := uxHas_any (h.taken.drewN n) (by omega) hi; rw [decide_eq_false hn] at this; exact this)
  have HP := Lib.hid h
  clear h hh hn
  go_enter Try.func38, Try.ntmps38
  go_wp2
  go_loopg [4] 0 (fun _ s4 wr => s4 = .int .u32 hi ∧ W = wr)
  case atStart => exact ⟨rfl, rfl⟩
  case round =>
    obtain ⟨rfl, rfl⟩ := hrel
    go_wp2_with (go_at_call 13; refine (HH.out 0).mono ?_; rintro e w1 ⟨rfl, n, rfl⟩)
    go_ret2
    refine ⟨rfl, ?_, ?_⟩
    · exact (HP.out.drewN n).marked (hi + 1)
    · intro B hB
      exact (below_drewV (Below.refl B W) n).setCell (by exact hB) _
theorem SetV.base {w : World} {p B B' : Nat} {v : Value} {l : List Nat} (h : SetV w p B v l) (hB : B' ≤ B) : SetV w p B' v l := ⟨h.c0, h.f0, h.row.base hB, h.rise, h.ne⟩
/-- What Take makes of a pool. -/
inductive Took (W : World) (q pf pt Bf B : Nat) (x : Nat) (F T : List Nat) (hi pg : Nat) (e : Ending) (W' : World) : Prop
  | mk (vf vt : Value) (he : e = .returned (.tuple #[.int .u32 x, .int .i64 0])) (hp : PoolB W' q pf pt Bf vf vt F T hi pg) (hb : Below B W W')
theorem add_taken {W : World} {q pf pt Bf : Nat} {vf vt : Value} {x : Nat} {F T T' : List Nat} {hi pg : Nat} (h : PoolB W q pf pt Bf vf vt F T hi pg) (hs : Bf ≤ W.heap.size) (hT : T.length ≤ 1000) (B : Nat) (hB2 : B ≤ Bf) (hB3 : B ≤ pt) (hr : Rise vlt T') (hm : ∀ y, y ∈ T' ↔ y = x ∨ y ∈ T) :
    Calls Try.prog 7 #[.pointer (some ⟨pt, 0, none⟩), .int .u32 x] W fun e w' => (∃ b, e = .returned (.bool b)) ∧ (∃ vt', PoolB w' q pf pt Bf vf vt' F T' hi pg) ∧ Below B W w' := by
  refine (uxAdd_any h.taken (by omega) hs x).mono ?_
  rintro e w' ⟨he, v', l', hs, ha, hk, ho⟩
  have : l' = T' := Rise.uniq vord ha.1 hr (fun y => by rw [ha.2.1, hm])
  subst this
  exact ⟨he, ⟨v', h.step_taken hs hk ho⟩, hk.below h.taken hB3 hB2⟩
theorem take_again {W : World} {q pf pt Bf : Nat} {vf vt : Value} {x : Nat} {F T : List Nat} {hi pg : Nat} (h : PoolB W q pf pt Bf vf vt (x :: F) T hi pg) (hs : Bf ≤ W.heap.size) (hl : F.length ≤ 1000) (hT : T.length ≤ 1000) (B : Nat) (hB : B ≤ pf) (hB2 : B ≤ Bf) (hB3 : B ≤ pt) (T' : List Nat) (hr : Rise vlt T') (hm : ∀ y, y ∈ T' ↔ y = x ∨ y ∈ T) :
    Calls Try.prog 22 #[.pointer (some ⟨q, 0, none⟩)] W (Took W q pf pt Bf B x F T' hi pg) := by
  have HA := Lib.hid (again_some h hl B hB hB2)
  have hn := fun W => pool_not_nil W q
  have HR := Lib.hid hr
  have HM := Lib.hid hm
  have HS := Lib.hid hs
  clear h hr hm hs
  go_enter Try.func22, Try.ntmps22
  go_wp2_with (first
    | (go_at_call 37; refine HA.out.mono ?_; rintro e w1 ⟨rfl, ⟨vf1, hp1⟩, hb1⟩; have HP1 := Lib.hid hp1; have HB1 := Lib.hid hb1; have c1 := hp1.c1; clear hp1 hb1)
    | (go_at_call 7; refine (add_taken HP1.out (Nat.le_trans HS.out HB1.out.size) hT B hB2 hB3 HR.out HM.out).mono ?_; rintro e w2 ⟨⟨b, rfl⟩, ⟨vt2, hp2⟩, hb2⟩; have HP2 := Lib.hid hp2; have HB2 := Lib.hid hb2; clear hp2 hb2))
  go_ret2
  exact ⟨_, _, rfl, HP2.out, HB1.out.trans HB2.out⟩
theorem take_fresh {W : World} {q pf pt Bf : Nat} {vf vt : Value} {T : List Nat} {hi pg : Nat} (h : PoolB W q pf pt Bf vf vt [] T hi pg) (hs : Bf ≤ W.heap.size) (hT : T.length ≤ 1000) (hh : hi < pg) (hp : pg ≤ 1000000) (hn : hi ∉ T) (B : Nat) (hB : B ≤ q) (hB2 : B ≤ Bf) (hB3 : B ≤ pt) (T' : List Nat) (hr : Rise vlt T') (hm : ∀ y, y ∈ T' ↔ y = hi ∨ y ∈ T) :
    Calls Try.prog 22 #[.pointer (some ⟨q, 0, none⟩)] W (Took W q pf pt Bf B hi [] T' (hi + 1) pg) := by
  have HA := Lib.hid (again_none h)
  have HF := Lib.hid (fresh_some h hT hh hp hn)
  have hn := fun W => pool_not_nil W q
  have HR := Lib.hid hr
  have HM := Lib.hid hm
  have HS := Lib.hid hs
  clear h hr hm hs
  go_enter Try.func22, Try.ntmps22
  go_wp2_with (first
    | (go_at_call 37; refine HA.out.mono ?_; rintro e w1 ⟨rfl, rfl⟩)
    | (go_at_call 38; refine HF.out.mono ?_; rintro e w1 ⟨rfl, hp1, hb1⟩; have HP1 := Lib.hid hp1; have HB1 := Lib.hid (hb1 B hB); have c1 := hp1.c1; clear hp1 hb1)
    | (go_at_call 7; refine (add_taken HP1.out (Nat.le_trans HS.out HB1.out.size) hT B hB2 hB3 HR.out HM.out).mono ?_; rintro e w2 ⟨⟨b, rfl⟩, ⟨vt2, hp2⟩, hb2⟩; have HP2 := Lib.hid hp2; have HB2 := Lib.hid hb2; clear hp2 hb2))
  go_ret2
  exact ⟨_, _, rfl, HP2.out, HB1.out.trans HB2.out⟩
theorem take_full {W : World} {q pf pt Bf : Nat} {vf vt : Value} {T : List Nat} {hi pg : Nat} (h : PoolB W q pf pt Bf vf vt [] T hi pg) (hh : pg ≤ hi) (B : Nat) :
    Calls Try.prog 22 #[.pointer (some ⟨q, 0, none⟩)] W fun e W' => e = .returned (.tuple #[.int .u32 0, .int .i64 14]) ∧ Below B W W' := by
  have HA := Lib.hid (again_none h)
  have HF := Lib.hid (fresh_none h hh)
  have hn := fun W => pool_not_nil W q
  clear h
  go_enter Try.func22, Try.ntmps22
  go_wp2_with (first
    | (go_at_call 37; refine HA.out.mono ?_; rintro e w1 ⟨rfl, rfl⟩)
    | (go_at_call 38; refine HF.out.mono ?_; rintro e w1 ⟨rfl, n, rfl⟩))
  go_ret2
  exact ⟨rfl, below_drewV (Below.refl _ _) n⟩
end Go.Proofs.Ytdkkcogjkeonkaa
/- A new pool; the law's own example. -/
set_option maxRecDepth 100000
set_option maxHeartbeats 4000000
set_option linter.unusedVariables false
namespace Go.Proofs.Ytdkkcogjkeonkaa
open Go.RowKit Go.Sort
open Tx (Rise Ord)
theorem ddV_nil : ddV [] = [] := Rise.uniq vord (ddV_rise []) List.Pairwise.nil (fun y => ddV_mem [] y)
theorem slV_nil (W : World) : SlV W (.slice none 0 0) [] := ⟨none, 0, 0, 0, rfl, .inl rfl, fun j x h => by simp at h⟩
theorem new_pool (v : Value) (F F' : List Nat) (hl : F.length ≤ 12) (hr : Rise vlt F') (hm : ∀ y, y ∈ F' ↔ y ∈ F) (hi pg : Nat) (w : World) (hv : SlV w v F) :
    Calls Try.prog 21 #[v, .int .u32 hi, .int .u32 pg] w fun e w' => ∃ q pf pt vf vt, e = .returned (.pointer (some ⟨q, 0, none⟩)) ∧ PoolB w' q pf pt w.heap.size vf vt F' [] hi pg ∧ w.heap.size ≤ pf ∧ w.heap.size ≤ pt ∧ w.heap.size ≤ q ∧ Below w.heap.size w w' := by
  have hF : ddV F = F' := Rise.uniq vord (ddV_rise F) hr (fun y => by rw [ddV_mem, hm])
  have HO := Lib.hid (uxOf_any v F hl w hv)
  rw [hF] at HO
  have HN : Hid (∀ W, Calls Try.prog 5 #[.slice none 0 0] W fun e w' => ∃ p v', e = .returned (.pointer (some ⟨p, 0, none⟩)) ∧ W.heap.size ≤ p ∧ SetV w' p W.heap.size v' [] ∧ Below W.heap.size W w') := fun W => by
    have := uxOf_any (.slice none 0 0) [] (Nat.zero_le _) W (slV_nil W)
    rw [ddV_nil] at this
    exact this
  obtain ⟨a, c, rfl⟩ := hv.slice
  clear hv hm hr hF
  go_enter Try.func21, Try.ntmps21
  go_wp2_with (first
    | (go_at_call 5; (with_reducible refine (HN.out _).mono ?_); rintro e w2 ⟨pt, vt, rfl, hpt, hs2, hb2⟩; have HS2 := Lib.hid hs2; have HB2 := Lib.hid hb2; have HPT := Lib.hid hpt; clear hs2 hb2 hpt)
    | (go_at_call 5; (with_reducible refine HO.out.mono ?_); rintro e w1 ⟨pf, vf, rfl, hpf, hs1, hb1⟩; have HS1 := Lib.hid hs1; have HB1 := Lib.hid hb1; have HPF := Lib.hid hpf; clear hs1 hb1 hpf))
  go_ret
  have h1 := HB1.out.size
  have h2 := HB2.out.size
  have hpf := HPF.out
  have hpt := HPT.out
  have b1 := HS1.out.blt
  have b2 := HS2.out.blt
  have fS := (HS1.out.below HB2.out)
  have tS := HS2.out.base (B' := w.heap.size) h1
  have hba : RowKit.Below w2.heap.size w2 (w2.alloc (.cells #[.pointer (some ⟨pf, 0, none⟩), .pointer (some ⟨pt, 0, none⟩), .int .u32 hi, .int .u32 pg] 63)) := (RowKit.Below.refl _ _).alloc (Nat.le_refl _) _
  have lv : ∀ g, vf.ownBlock = some g → g < w1.heap.size := fun g hg => (HS1.out.row.lt hg).1
  have lt2 : ∀ g, vt.ownBlock = some g → w1.heap.size ≤ g ∧ g < w2.heap.size := fun g hg => ⟨(HS2.out.row.lt hg).2, (HS2.out.row.lt hg).1⟩
  refine ⟨w2.heap.size, pf, pt, vf, vt, rfl, ⟨World.cell?_alloc_new w2 _ _ 0, World.cell?_alloc_new w2 _ _ 1, World.cell?_alloc_new w2 _ _ 2, World.cell?_alloc_new w2 _ _ 3, World.frozen?_alloc_new w2 _ _ 2, fS.below hba, tS.below hba, by omega, by omega, by omega, fun e => by have := lv _ e; omega, fun e => by have := lt2 _ e; omega, fun e => by have := lv _ e; omega, fun e => by have := lt2 _ e; omega, fun g hg e => by have := lv _ hg; have := lt2 _ e; omega⟩, by omega, by omega, by omega, ((HB1.out.trans (HB2.out.mono h1)).alloc (by omega) _)⟩
theorem ex_pool : Rise vlt [5, 7] ∧ Rise vlt [5] ∧ Rise vlt [5, 7, 9] := ⟨by decide, by decide, by decide⟩
theorem plawake_any (w : World) : Calls Try.prog 4 #[] w fun e w' => e = .returned (.bool true) ∧ Below w.heap.size w w' := by
  obtain ⟨w0, hw0⟩ : ∃ w0, w0 = w.alloc (.cells #[.int .u32 7, .int .u32 5] 24) := ⟨_, rfl⟩
  have hv : SlV w0 (.slice (some ⟨w.heap.size, 0, none⟩) 2 2) [7, 5] := by
    refine ⟨_, w.heap.size, 0, 2, rfl, .inr rfl, fun j x hj => ?_⟩
    rw [hw0]
    match j, hj with
    | 0, hj => cases hj; exact World.cell?_alloc_new w _ _ 0
    | 1, hj => cases hj; exact World.cell?_alloc_new w _ _ 1
    | n + 2, hj => simp at hj
  have HN := Lib.hid (new_pool _ [7, 5] [5, 7] (by decide) ex_pool.1 (fun y => by simp only [List.mem_cons, List.not_mem_nil, or_false]; exact or_comm) 9 10 w0 hv)
  rw [hw0] at HN
  have HB0 : Hid (Below w.heap.size w w0) := by rw [hw0]; exact (RowKit.Below.refl _ _).alloc (Nat.le_refl _) _
  rw [hw0] at HB0
  have HZ : Hid (w.heap.size ≤ (w.alloc (.cells #[.int .u32 7, .int .u32 5] 24)).heap.size) := by show _ ≤ _; rw [World.size_alloc]; omega
  clear hw0 hv w0
  have T1 : Hid (∀ W q pf pt Bf vf vt, PoolB W q pf pt Bf vf vt [5, 7] [] 9 10 → Bf ≤ W.heap.size → Bf ≤ pf → Bf ≤ pt → Calls Try.prog 22 #[.pointer (some ⟨q, 0, none⟩)] W (Took W q pf pt Bf Bf 5 [7] [5] 9 10)) := fun W q pf pt Bf vf vt h h1 h2 h3 => take_again h h1 (by decide) (by decide) Bf h2 (Nat.le_refl _) h3 [5] ex_pool.2.1 (fun y => by simp)
  have T2 : Hid (∀ W q pf pt Bf vf vt, PoolB W q pf pt Bf vf vt [7] [5] 9 10 → Bf ≤ W.heap.size → Bf ≤ pf → Bf ≤ pt → Calls Try.prog 22 #[.pointer (some ⟨q, 0, none⟩)] W (Took W q pf pt Bf Bf 7 [] [5, 7] 9 10)) := fun W q pf pt Bf vf vt h h1 h2 h3 => take_again h h1 (by decide) (by decide) Bf h2 (Nat.le_refl _) h3 [5, 7] ex_pool.1 (fun y => by simp; exact or_comm)
  have T3 : Hid (∀ W q pf pt Bf vf vt, PoolB W q pf pt Bf vf vt [] [5, 7] 9 10 → Bf ≤ W.heap.size → Bf ≤ q → Bf ≤ pt → Calls Try.prog 22 #[.pointer (some ⟨q, 0, none⟩)] W (Took W q pf pt Bf Bf 9 [] [5, 7, 9] 10 10)) := fun W q pf pt Bf vf vt h h1 h2 h3 => take_fresh h h1 (by decide) (by decide) (by decide) (by decide) Bf h2 (Nat.le_refl _) h3 [5, 7, 9] ex_pool.2.2 (fun y => by simp only [List.mem_cons, List.not_mem_nil, or_false]; omega)
  have T4 : Hid (∀ W q pf pt Bf vf vt, PoolB W q pf pt Bf vf vt [] [5, 7, 9] 10 10 → Calls Try.prog 22 #[.pointer (some ⟨q, 0, none⟩)] W fun e W' => e = .returned (.tuple #[.int .u32 0, .int .i64 14]) ∧ Below Bf W W') := fun W q pf pt Bf vf vt h => take_full h (by decide) Bf
  go_enter Try.func4, Try.ntmps4
  go_wp2_with (first
    | (go_at_call 21; refine HN.out.mono ?_; rintro e w1 ⟨q, pf, pt, vf, vt, rfl, hp, h1, h2, h3, hb1⟩; have HP := Lib.hid hp; have H1 := Lib.hid h1; have H2 := Lib.hid h2; have H3 := Lib.hid h3; have HB1 := Lib.hid hb1; clear hp h1 h2 h3 hb1)
    | (go_at_call 22; with_reducible refine (T4.out _ _ _ _ _ _ _ HP4.out).mono ?_; rintro e w5 ⟨rfl, hb⟩; have HB5 := Lib.hid (HB4.out.trans hb); clear hb)
    | (go_at_call 22; (with_reducible refine (T3.out _ _ _ _ _ _ _ HP3.out (Nat.le_trans HB3.out.size (Nat.le_refl _)) H3.out H2.out).mono ?_); rintro e w4 ⟨vf4, vt4, rfl, hp, hb⟩; have HP4 := Lib.hid hp; have HB4 := Lib.hid (HB3.out.trans hb); clear hp hb)
    | (go_at_call 22; (with_reducible refine (T2.out _ _ _ _ _ _ _ HP2.out (Nat.le_trans HB2.out.size (Nat.le_refl _)) H1.out H2.out).mono ?_); rintro e w3 ⟨vf3, vt3, rfl, hp, hb⟩; have HP3 := Lib.hid hp; have HB3 := Lib.hid (HB2.out.trans hb); clear hp hb)
    | (go_at_call 22; (with_reducible refine (T1.out _ _ _ _ _ _ _ HP.out HB1.out.size H1.out H2.out).mono ?_); rintro e w2 ⟨vf2, vt2, rfl, hp, hb⟩; have HP2 := Lib.hid hp; have HB2 := Lib.hid (HB1.out.trans hb); clear hp hb))
  go_ret
  exact ⟨rfl, HB0.out.trans (HB5.out.mono HZ.out)⟩
end Go.Proofs.Ytdkkcogjkeonkaa
/- A set's numbers one by one, each sought anew; ranges over them. -/
set_option maxRecDepth 100000
set_option maxHeartbeats 4000000
set_option linter.unusedVariables false
namespace Go.Proofs.Ytdkkcogjkeonkaa
open Go.RowKit Go.Sort
open Tx (Rise At Ord above)
attribute [local go_sem] Oper.semAt_some
abbrev WF : Fence := Fence.wide
/-- What goes through a row of numbers, each of which a round takes; what the rounds keep. -/
def SeqU (n : Nat) (g : Nat) (lb : Array Value) (G : List Nat → World → Prop) (E : List Nat) : Prop :=
  ∀ (l : Nat) (J : List Nat → World → Prop) (W : World), (∀ pre W, J pre W → G pre W) → (∀ pre W q, J pre W → J pre (W.drewN q)) →
    (∀ pre (x : Nat) W, J pre W → pre.length < E.length → YieldAt WF (n - 1) Try.prog l #[.int .u32 x] W fun e W' => e = .returned (.bool true) ∧ J (pre ++ [x]) W') → J [] W →
    CallsIn WF n Try.prog g (#[.func (.yield l) #[] #[]] ++ lb) W fun e W' => (∃ v, e = .returned v) ∧ J E W'
set_option maxHeartbeats 4000000 in
theorem row1A_in (n : Nat) (hn : 1 ≤ n) (b1 b2 : Nat) (p : Nat) (E : List Nat) (Gp : World → Prop) (hc : ∀ W, Gp W → W.cell? ⟨b1, 0, none⟩ = some (.func (.func 12) #[.pointer (some ⟨p, 0, none⟩)] #[]) ∧ W.cell? ⟨b2, 0, none⟩ = some (.func (.func 32) #[.pointer (some ⟨p, 0, none⟩)] #[]))
    (hF : ∀ W, Gp W → Calls Try.prog 12 #[.pointer (some ⟨p, 0, none⟩)] W fun e w' => e = .returned (.tuple #[.int .u32 (fstV E).1, .bool (fstV E).2]) ∧ ∃ q, w' = W.drewN q)
    (hN : ∀ W (x : Nat) (t pre : List Nat), Gp W → E = pre ++ x :: t → Calls Try.prog 32 #[.pointer (some ⟨p, 0, none⟩), .int .u32 x] W fun e w' => e = .returned (.tuple #[.int .u32 (fstV t).1, .bool (fstV t).2]) ∧ ∃ q, w' = W.drewN q) :
    SeqU n 45 #[.pointer (some ⟨b1, 0, none⟩), .pointer (some ⟨b2, 0, none⟩)] (fun _ W => Gp W) E := by
  intro l J W hG hJq hY h0
  refine callsIn_of_wp Try.func45 rfl trivial ?_ rfl
  simp only [Try.ntmps45, List.size_toArray, List.length_cons, List.length_nil, Nat.reduceAdd, Nat.reduceSub, Array.replicate_succ, Array.replicate_zero, List.push_toArray, List.append_toArray, List.nil_append, List.cons_append]
  have HG0 := Lib.hid (hG _ _ h0)
  obtain ⟨c1, c2⟩ := hc _ HG0.out
  have HL := Lib.hid (hF _ HG0.out)
  have HFN := Lib.hid hN
  have HC := Lib.hid hc
  clear hF hN hc
  gi_wp2_with (refine ⟨trivial, ?_⟩; gi_at_call 12; refine (callsIn_wide.2 HL.out).mono ?_; rintro e w1 ⟨rfl, q0, rfl⟩)
  gi_loopg [4, 5] E.length (fun k s4 s5 wr => ∃ pre rest, Hid (E = pre ++ rest) ∧ k = rest.length ∧ s4 = .int .u32 (fstV rest).1 ∧ s5 = .bool (fstV rest).2 ∧ Hid (J pre wr))
  case atStart => exact ⟨[], E, rfl, rfl, rfl, rfl, hJq _ _ _ h0⟩
  case round =>
    obtain ⟨pre, rest, HPR, rfl, rfl, rfl, hJs⟩ := hrel
    cases rest with
    | nil =>
      have hfin : Hid (J E wr) := by have := HPR.out; rw [List.append_nil] at this; rw [this]; exact hJs
      have hf : (fstV []).2 = false := rfl
      gi_wp2
      go_end0
      exact ⟨⟨_, rfl⟩, hfin.out⟩
    | cons x t =>
      have hf : (fstV (x :: t)).2 = true := rfl
      have hf1 : (fstV (x :: t)).1 = x := rfl
      rw [hf, hf1]
      obtain ⟨fn, tmps, assign, body, hy, hR⟩ := hY pre x wr hJs.out (by rw [HPR.out]; simp)
      gi_wp2
      refine hR.mono ?_
      rintro e W3 ⟨rfl, hJ3⟩
      have HG3 := Lib.hid (hG _ _ hJ3)
      have HJ3 := Lib.hid hJ3
      obtain ⟨c31, c32⟩ := HC.out _ HG3.out
      have HA := Lib.hid (HFN.out _ x t pre HG3.out HPR.out)
      clear hJ3
      gi_wp2_with (refine ⟨trivial, ?_⟩; gi_at_call 32; refine (callsIn_wide.2 HA.out).mono ?_; rintro e w4 ⟨rfl, q, rfl⟩)
      go_roundg t.length
      case rel => exact ⟨pre ++ [x], t, by show _ = _; rw [HPR.out]; simp, rfl, rfl, rfl, hJq _ _ _ HJ3.out⟩
      case measure => simp
set_option maxHeartbeats 4000000 in
theorem row1F_in (n : Nat) (hn : 1 ≤ n) (b1 b2 : Nat) (p b3 b4 : Nat) (E : List Nat) (Gp : World → Prop) (hc : ∀ W, Gp W → W.cell? ⟨b1, 0, none⟩ = some (.func (.func 33) #[] #[.pointer (some ⟨b3, 0, none⟩), .pointer (some ⟨b4, 0, none⟩)]) ∧ W.cell? ⟨b2, 0, none⟩ = some (.func (.func 32) #[.pointer (some ⟨p, 0, none⟩)] #[]))
    (hF : ∀ W, Gp W → Calls Try.prog 33 #[.pointer (some ⟨b3, 0, none⟩), .pointer (some ⟨b4, 0, none⟩)] W fun e w' => e = .returned (.tuple #[.int .u32 (fstV E).1, .bool (fstV E).2]) ∧ ∃ q, w' = W.drewN q)
    (hN : ∀ W (x : Nat) (t pre : List Nat), Gp W → E = pre ++ x :: t → Calls Try.prog 32 #[.pointer (some ⟨p, 0, none⟩), .int .u32 x] W fun e w' => e = .returned (.tuple #[.int .u32 (fstV t).1, .bool (fstV t).2]) ∧ ∃ q, w' = W.drewN q) :
    SeqU n 45 #[.pointer (some ⟨b1, 0, none⟩), .pointer (some ⟨b2, 0, none⟩)] (fun _ W => Gp W) E := by
  intro l J W hG hJq hY h0
  refine callsIn_of_wp Try.func45 rfl trivial ?_ rfl
  simp only [Try.ntmps45, List.size_toArray, List.length_cons, List.length_nil, Nat.reduceAdd, Nat.reduceSub, Array.replicate_succ, Array.replicate_zero, List.push_toArray, List.append_toArray, List.nil_append, List.cons_append]
  have HG0 := Lib.hid (hG _ _ h0)
  obtain ⟨c1, c2⟩ := hc _ HG0.out
  have HL := Lib.hid (hF _ HG0.out)
  have HFN := Lib.hid hN
  have HC := Lib.hid hc
  clear hF hN hc
  gi_wp2_with (refine ⟨trivial, ?_⟩; gi_at_call 33; refine (callsIn_wide.2 HL.out).mono ?_; rintro e w1 ⟨rfl, q0, rfl⟩)
  gi_loopg [4, 5] E.length (fun k s4 s5 wr => ∃ pre rest, Hid (E = pre ++ rest) ∧ k = rest.length ∧ s4 = .int .u32 (fstV rest).1 ∧ s5 = .bool (fstV rest).2 ∧ Hid (J pre wr))
  case atStart => exact ⟨[], E, rfl, rfl, rfl, rfl, hJq _ _ _ h0⟩
  case round =>
    obtain ⟨pre, rest, HPR, rfl, rfl, rfl, hJs⟩ := hrel
    cases rest with
    | nil =>
      have hfin : Hid (J E wr) := by have := HPR.out; rw [List.append_nil] at this; rw [this]; exact hJs
      have hf : (fstV []).2 = false := rfl
      gi_wp2
      go_end0
      exact ⟨⟨_, rfl⟩, hfin.out⟩
    | cons x t =>
      have hf : (fstV (x :: t)).2 = true := rfl
      have hf1 : (fstV (x :: t)).1 = x := rfl
      rw [hf, hf1]
      obtain ⟨fn, tmps, assign, body, hy, hR⟩ := hY pre x wr hJs.out (by rw [HPR.out]; simp)
      gi_wp2
      refine hR.mono ?_
      rintro e W3 ⟨rfl, hJ3⟩
      have HG3 := Lib.hid (hG _ _ hJ3)
      have HJ3 := Lib.hid hJ3
      obtain ⟨c31, c32⟩ := HC.out _ HG3.out
      have HA := Lib.hid (HFN.out _ x t pre HG3.out HPR.out)
      clear hJ3
      gi_wp2_with (refine ⟨trivial, ?_⟩; gi_at_call 32; refine (callsIn_wide.2 HA.out).mono ?_; rintro e w4 ⟨rfl, q, rfl⟩)
      go_roundg t.length
      case rel => exact ⟨pre ++ [x], t, by show _ = _; rw [HPR.out]; simp, rfl, rfl, rfl, hJq _ _ _ HJ3.out⟩
      case measure => simp
set_option maxHeartbeats 4000000 in
theorem row1D_in (n : Nat) (hn : 1 ≤ n) (b1 b2 : Nat) (p : Nat) (E : List Nat) (Gp : World → Prop) (hc : ∀ W, Gp W → W.cell? ⟨b1, 0, none⟩ = some (.func (.func 35) #[.pointer (some ⟨p, 0, none⟩)] #[]) ∧ W.cell? ⟨b2, 0, none⟩ = some (.func (.func 36) #[.pointer (some ⟨p, 0, none⟩)] #[]))
    (hF : ∀ W, Gp W → Calls Try.prog 35 #[.pointer (some ⟨p, 0, none⟩)] W fun e w' => e = .returned (.tuple #[.int .u32 (fstV E).1, .bool (fstV E).2]) ∧ ∃ q, w' = W.drewN q)
    (hN : ∀ W (x : Nat) (t pre : List Nat), Gp W → E = pre ++ x :: t → Calls Try.prog 36 #[.pointer (some ⟨p, 0, none⟩), .int .u32 x] W fun e w' => e = .returned (.tuple #[.int .u32 (fstV t).1, .bool (fstV t).2]) ∧ ∃ q, w' = W.drewN q) :
    SeqU n 45 #[.pointer (some ⟨b1, 0, none⟩), .pointer (some ⟨b2, 0, none⟩)] (fun _ W => Gp W) E := by
  intro l J W hG hJq hY h0
  refine callsIn_of_wp Try.func45 rfl trivial ?_ rfl
  simp only [Try.ntmps45, List.size_toArray, List.length_cons, List.length_nil, Nat.reduceAdd, Nat.reduceSub, Array.replicate_succ, Array.replicate_zero, List.push_toArray, List.append_toArray, List.nil_append, List.cons_append]
  have HG0 := Lib.hid (hG _ _ h0)
  obtain ⟨c1, c2⟩ := hc _ HG0.out
  have HL := Lib.hid (hF _ HG0.out)
  have HFN := Lib.hid hN
  have HC := Lib.hid hc
  clear hF hN hc
  gi_wp2_with (refine ⟨trivial, ?_⟩; gi_at_call 35; refine (callsIn_wide.2 HL.out).mono ?_; rintro e w1 ⟨rfl, q0, rfl⟩)
  gi_loopg [4, 5] E.length (fun k s4 s5 wr => ∃ pre rest, Hid (E = pre ++ rest) ∧ k = rest.length ∧ s4 = .int .u32 (fstV rest).1 ∧ s5 = .bool (fstV rest).2 ∧ Hid (J pre wr))
  case atStart => exact ⟨[], E, rfl, rfl, rfl, rfl, hJq _ _ _ h0⟩
  case round =>
    obtain ⟨pre, rest, HPR, rfl, rfl, rfl, hJs⟩ := hrel
    cases rest with
    | nil =>
      have hfin : Hid (J E wr) := by have := HPR.out; rw [List.append_nil] at this; rw [this]; exact hJs
      have hf : (fstV []).2 = false := rfl
      gi_wp2
      go_end0
      exact ⟨⟨_, rfl⟩, hfin.out⟩
    | cons x t =>
      have hf : (fstV (x :: t)).2 = true := rfl
      have hf1 : (fstV (x :: t)).1 = x := rfl
      rw [hf, hf1]
      obtain ⟨fn, tmps, assign, body, hy, hR⟩ := hY pre x wr hJs.out (by rw [HPR.out]; simp)
      gi_wp2
      refine hR.mono ?_
      rintro e W3 ⟨rfl, hJ3⟩
      have HG3 := Lib.hid (hG _ _ hJ3)
      have HJ3 := Lib.hid hJ3
      obtain ⟨c31, c32⟩ := HC.out _ HG3.out
      have HA := Lib.hid (HFN.out _ x t pre HG3.out HPR.out)
      clear hJ3
      gi_wp2_with (refine ⟨trivial, ?_⟩; gi_at_call 36; refine (callsIn_wide.2 HA.out).mono ?_; rintro e w4 ⟨rfl, q, rfl⟩)
      go_roundg t.length
      case rel => exact ⟨pre ++ [x], t, by show _ = _; rw [HPR.out]; simp, rfl, rfl, rfl, hJq _ _ _ HJ3.out⟩
      case measure => simp
set_option maxHeartbeats 4000000 in
theorem row1AN_in (n : Nat) (hn : 1 ≤ n) (b1 b2 : Nat)  (E : List Nat) (Gp : World → Prop) (hc : ∀ W, Gp W → W.cell? ⟨b1, 0, none⟩ = some (.func (.func 12) #[.pointer none] #[]) ∧ W.cell? ⟨b2, 0, none⟩ = some (.func (.func 32) #[.pointer none] #[]))
    (hF : ∀ W, Gp W → Calls Try.prog 12 #[.pointer none] W fun e w' => e = .returned (.tuple #[.int .u32 (fstV E).1, .bool (fstV E).2]) ∧ ∃ q, w' = W.drewN q)
    (hN : ∀ W (x : Nat) (t pre : List Nat), Gp W → E = pre ++ x :: t → Calls Try.prog 32 #[.pointer none, .int .u32 x] W fun e w' => e = .returned (.tuple #[.int .u32 (fstV t).1, .bool (fstV t).2]) ∧ ∃ q, w' = W.drewN q) :
    SeqU n 45 #[.pointer (some ⟨b1, 0, none⟩), .pointer (some ⟨b2, 0, none⟩)] (fun _ W => Gp W) E := by
  intro l J W hG hJq hY h0
  refine callsIn_of_wp Try.func45 rfl trivial ?_ rfl
  simp only [Try.ntmps45, List.size_toArray, List.length_cons, List.length_nil, Nat.reduceAdd, Nat.reduceSub, Array.replicate_succ, Array.replicate_zero, List.push_toArray, List.append_toArray, List.nil_append, List.cons_append]
  have HG0 := Lib.hid (hG _ _ h0)
  obtain ⟨c1, c2⟩ := hc _ HG0.out
  have HL := Lib.hid (hF _ HG0.out)
  have HFN := Lib.hid hN
  have HC := Lib.hid hc
  clear hF hN hc
  gi_wp2_with (refine ⟨trivial, ?_⟩; gi_at_call 12; refine (callsIn_wide.2 HL.out).mono ?_; rintro e w1 ⟨rfl, q0, rfl⟩)
  gi_loopg [4, 5] E.length (fun k s4 s5 wr => ∃ pre rest, Hid (E = pre ++ rest) ∧ k = rest.length ∧ s4 = .int .u32 (fstV rest).1 ∧ s5 = .bool (fstV rest).2 ∧ Hid (J pre wr))
  case atStart => exact ⟨[], E, rfl, rfl, rfl, rfl, hJq _ _ _ h0⟩
  case round =>
    obtain ⟨pre, rest, HPR, rfl, rfl, rfl, hJs⟩ := hrel
    cases rest with
    | nil =>
      have hfin : Hid (J E wr) := by have := HPR.out; rw [List.append_nil] at this; rw [this]; exact hJs
      have hf : (fstV []).2 = false := rfl
      gi_wp2
      go_end0
      exact ⟨⟨_, rfl⟩, hfin.out⟩
    | cons x t =>
      have hf : (fstV (x :: t)).2 = true := rfl
      have hf1 : (fstV (x :: t)).1 = x := rfl
      rw [hf, hf1]
      obtain ⟨fn, tmps, assign, body, hy, hR⟩ := hY pre x wr hJs.out (by rw [HPR.out]; simp)
      gi_wp2
      refine hR.mono ?_
      rintro e W3 ⟨rfl, hJ3⟩
      have HG3 := Lib.hid (hG _ _ hJ3)
      have HJ3 := Lib.hid hJ3
      obtain ⟨c31, c32⟩ := HC.out _ HG3.out
      have HA := Lib.hid (HFN.out _ x t pre HG3.out HPR.out)
      clear hJ3
      gi_wp2_with (refine ⟨trivial, ?_⟩; gi_at_call 32; refine (callsIn_wide.2 HA.out).mono ?_; rintro e w4 ⟨rfl, q, rfl⟩)
      go_roundg t.length
      case rel => exact ⟨pre ++ [x], t, by show _ = _; rw [HPR.out]; simp, rfl, rfl, rfl, hJq _ _ _ HJ3.out⟩
      case measure => simp
set_option maxHeartbeats 4000000 in
theorem row1DN_in (n : Nat) (hn : 1 ≤ n) (b1 b2 : Nat)  (E : List Nat) (Gp : World → Prop) (hc : ∀ W, Gp W → W.cell? ⟨b1, 0, none⟩ = some (.func (.func 35) #[.pointer none] #[]) ∧ W.cell? ⟨b2, 0, none⟩ = some (.func (.func 36) #[.pointer none] #[]))
    (hF : ∀ W, Gp W → Calls Try.prog 35 #[.pointer none] W fun e w' => e = .returned (.tuple #[.int .u32 (fstV E).1, .bool (fstV E).2]) ∧ ∃ q, w' = W.drewN q)
    (hN : ∀ W (x : Nat) (t pre : List Nat), Gp W → E = pre ++ x :: t → Calls Try.prog 36 #[.pointer none, .int .u32 x] W fun e w' => e = .returned (.tuple #[.int .u32 (fstV t).1, .bool (fstV t).2]) ∧ ∃ q, w' = W.drewN q) :
    SeqU n 45 #[.pointer (some ⟨b1, 0, none⟩), .pointer (some ⟨b2, 0, none⟩)] (fun _ W => Gp W) E := by
  intro l J W hG hJq hY h0
  refine callsIn_of_wp Try.func45 rfl trivial ?_ rfl
  simp only [Try.ntmps45, List.size_toArray, List.length_cons, List.length_nil, Nat.reduceAdd, Nat.reduceSub, Array.replicate_succ, Array.replicate_zero, List.push_toArray, List.append_toArray, List.nil_append, List.cons_append]
  have HG0 := Lib.hid (hG _ _ h0)
  obtain ⟨c1, c2⟩ := hc _ HG0.out
  have HL := Lib.hid (hF _ HG0.out)
  have HFN := Lib.hid hN
  have HC := Lib.hid hc
  clear hF hN hc
  gi_wp2_with (refine ⟨trivial, ?_⟩; gi_at_call 35; refine (callsIn_wide.2 HL.out).mono ?_; rintro e w1 ⟨rfl, q0, rfl⟩)
  gi_loopg [4, 5] E.length (fun k s4 s5 wr => ∃ pre rest, Hid (E = pre ++ rest) ∧ k = rest.length ∧ s4 = .int .u32 (fstV rest).1 ∧ s5 = .bool (fstV rest).2 ∧ Hid (J pre wr))
  case atStart => exact ⟨[], E, rfl, rfl, rfl, rfl, hJq _ _ _ h0⟩
  case round =>
    obtain ⟨pre, rest, HPR, rfl, rfl, rfl, hJs⟩ := hrel
    cases rest with
    | nil =>
      have hfin : Hid (J E wr) := by have := HPR.out; rw [List.append_nil] at this; rw [this]; exact hJs
      have hf : (fstV []).2 = false := rfl
      gi_wp2
      go_end0
      exact ⟨⟨_, rfl⟩, hfin.out⟩
    | cons x t =>
      have hf : (fstV (x :: t)).2 = true := rfl
      have hf1 : (fstV (x :: t)).1 = x := rfl
      rw [hf, hf1]
      obtain ⟨fn, tmps, assign, body, hy, hR⟩ := hY pre x wr hJs.out (by rw [HPR.out]; simp)
      gi_wp2
      refine hR.mono ?_
      rintro e W3 ⟨rfl, hJ3⟩
      have HG3 := Lib.hid (hG _ _ hJ3)
      have HJ3 := Lib.hid hJ3
      obtain ⟨c31, c32⟩ := HC.out _ HG3.out
      have HA := Lib.hid (HFN.out _ x t pre HG3.out HPR.out)
      clear hJ3
      gi_wp2_with (refine ⟨trivial, ?_⟩; gi_at_call 36; refine (callsIn_wide.2 HA.out).mono ?_; rintro e w4 ⟨rfl, q, rfl⟩)
      go_roundg t.length
      case rel => exact ⟨pre ++ [x], t, by show _ = _; rw [HPR.out]; simp, rfl, rfl, rfl, hJq _ _ _ HJ3.out⟩
      case measure => simp
/-- How a round's body may be left: it goes on. -/
def goesOnU (B : Nat) (I : List Nat → World → Prop) (xs : List Nat) (W : World) : Exit → Act → World → Prop
  | .normal, _, W' => KeepsFrom B W W' ∧ I xs W'
  | _, _, _ => False
/-- A range over a row of numbers whose body never leaves, and may turn what the row is read from, so long as it keeps what the row asks. -/
theorem rangeU {n : Nat} {g : Operand} {ps : Array Tmp} {assign body : Code} {Q : Exit → Act → World → Prop} {a : Act} {w : World} (h1 : 1 ≤ n) {gf : Nat} {lb : Array Value}
    (hg : a.eval g = .func (.func gf) #[] lb) (eg : ∀ args w, (callFunc gf args).run Try.prog w = .ok (.enter gf args) w) {G : List Nat → World → Prop} {E : List Nat} (hseq : SeqU (n - 1) gf lb G E) (hps : 1 = ps.size)
    (I : List Nat → World → Prop) (hI : OwnFrom w.heap.size I) (hIG : ∀ pre W, I pre W → G pre W) (hIq : ∀ pre W q, I pre W → I pre (W.drewN q)) (h0 : I [] w) (a₁ : Nat → Act)
    (hassign : ∀ (l : Nat) (x : Nat) (W : World) (K : Act → World → Prop), K (a₁ x) W →
      assign.wpIn (WF.inRound l) (n - 1 - 1) Try.prog (Exit.then K (fun _ _ _ => False)) { tmps := (ps.zip #[.int .u32 x]).foldl (fun t (p, v) => t.setIfInBounds p v) a.tmps, defers := [] } W)
    (hbody : ∀ (l : Nat) (pre : List Nat) (x : Nat) (W : World), I pre W → pre.length < E.length → body.wpIn (WF.inRound l) (n - 1 - 1) Try.prog (goesOnU w.heap.size I (pre ++ [x]) W) (a₁ x) W)
    (hdone : ∀ (D : Nat) (W : World), w.heap.size ≤ D → I E W → W.heap[D]? = some (.deferred (some [])) → Q .normal { a with defers := { target := .collected D, args := #[] } :: a.defers } W) :
    (Code.rangeFunc g ps assign body).wpIn WF n Try.prog Q a w := by
  refine wpIn_rangeFunc (fun fn hfn => ?_)
  rw [show WF.round = none from rfl]
  obtain ⟨lp, hlp⟩ : ∃ lp : LoopState → Loop, lp = fun st => { state := st, pending := none, fn, tmps := a.tmps, params := ps, assign, body, defers := w.heap.size } := ⟨_, rfl⟩
  obtain ⟨X, hX⟩ : ∃ X, X = (w.alloc (.deferred (some []))).alloc (.loop (lp .ready)) := ⟨_, rfl⟩
  have xl : X.heap[w.heap.size + 1]? = some (.loop (lp .ready)) := by
    rw [hX]; have := heap_alloc_new (w.alloc (.deferred (some []))) (.loop (lp .ready)); rwa [World.size_alloc] at this
  have xd : X.heap[w.heap.size]? = some (.deferred (some [])) := by
    rw [hX]; exact (Below.heap_alloc _ _ _ (by simp)).trans (heap_alloc_new w _)
  have xs : w.heap.size ≤ X.heap.size := by rw [hX]; simp; omega
  have xi : I [] X := by rw [hX]; exact hI.alloc _ (hI.alloc _ h0)
  refine ⟨w.heap.size + 1, [{ target := .collected w.heap.size, args := #[] }], X, { target := .fn (.func gf) lb, args := #[.func (.yield (w.heap.size + 1)) #[] #[]] }, X, gf, #[.func (.yield (w.heap.size + 1)) #[] #[]] ++ lb, X, ?_, ?_, fun _ _ => trivial, ?_, fun _ => h1, ?_⟩
  · rw [hX, hlp]; exact run_enterLoop_outer _ _ _ _ _
  · simp only [resolve, hg]
    simp [go_sem]
  · simp [invoke, go_sem, eg]
  · refine (hseq (w.heap.size + 1) (fun pre W => I pre W ∧ W.heap[w.heap.size + 1]? = some (.loop (lp .ready)) ∧ W.heap[w.heap.size]? = some (.deferred (some []))) X (fun pre W h => hIG pre W h.1) (fun pre W q h => ⟨hIq pre W q h.1, h.2⟩) ?_ ⟨xi, xl, xd⟩).mono ?_
    · rintro pre x W ⟨hi, hl, hk⟩ hlen
      have hlt : w.heap.size + 1 < W.heap.size := (Array.getElem?_eq_some_iff.1 hl).1
      have hy := run_yield (P := Try.prog) (args := #[.int .u32 x]) hl (by rw [hlp]; exact hps)
      rw [hlp] at hy
      refine ⟨fn, _, assign, body, hy, roundIn_of_wpIn hfn (hassign _ x W _ ⟨_, run_beginRound hl (by rw [hlp]), ?_⟩)⟩
      obtain ⟨W2, hW2⟩ : ∃ W2, W2 = W.putObj (w.heap.size + 1) (.loop { lp .ready with state := .busy }) := ⟨_, rfl⟩
      have hl2 : W2.heap[w.heap.size + 1]? = some (.loop { lp .ready with state := .busy }) := by rw [hW2]; exact World.putObj_heap_same hlt
      have hk2 : W2.heap[w.heap.size]? = some (.deferred (some [])) := by rw [hW2]; exact (World.putObj_heap_other (by omega)).trans hk
      have hi2 : I pre W2 := by rw [hW2]; exact hI.putObj _ hi (by omega) hl rfl
      rw [← hW2]
      refine wpIn_mono (hbody _ pre x W2 hi2 hlen) ?_
      rintro e a3 W3 hp
      cases e with
      | normal =>
        obtain ⟨hk3, hi3⟩ := hp
        have hl3 := hk3.same _ _ (by omega) hl2 rfl
        have he := run_endRound (P := Try.prog) none hl3
        rw [hlp] at he hl3
        refine ⟨_, _, he, rfl, hI.putObj _ hi3 (by omega) hl3 rfl, ?_, (World.putObj_heap_other (by omega)).trans (hk3.same _ _ (Nat.le_refl _) hk2 rfl)⟩
        rw [hlp]; exact World.putObj_heap_same (Array.getElem?_eq_some_iff.1 hl3).1
      | _ => exact hp.elim
    · rintro e W2 ⟨⟨v, rfl⟩, hi, hl, hk⟩
      exact ⟨none, _, by have := run_endLoop (P := Try.prog) hl (by rw [hlp]; simp); rw [hlp] at this; exact this, hdone _ _ (Nat.le_refl _) (hI.putObj _ hi (by omega) hl rfl) ((World.putObj_heap_other (by omega)).trans hk)⟩
end Go.Proofs.Ytdkkcogjkeonkaa
/- What a set of numbers is asked while it is gone through; its rows. -/
set_option maxRecDepth 100000
set_option maxHeartbeats 4000000
set_option linter.unusedVariables false
namespace Go.Proofs.Ytdkkcogjkeonkaa
open Go.RowKit Go.Sort
open Tx (Rise Ord above)
attribute [local go_sem] Oper.semAt_some
theorem rise_rising {l : List Nat} : Rise vlt l ↔ rising l := by
  constructor
  · intro h i j a b hij ha hb
    have h1 := (List.getElem?_eq_some_iff.1 ha).1
    have h2 := (List.getElem?_eq_some_iff.1 hb).1
    have := List.pairwise_iff_getElem.1 h i j h1 h2 hij
    rw [(List.getElem?_eq_some_iff.1 ha).2, (List.getElem?_eq_some_iff.1 hb).2] at this
    exact of_decide_eq_true this
  · intro h
    exact List.pairwise_iff_getElem.2 fun i j h1 h2 hij => decide_eq_true (h i j _ _ hij (List.getElem?_eq_getElem h1) (List.getElem?_eq_getElem h2))
theorem SetV.w {w : World} {p B : Nat} {v : Value} {l : List Nat} (h : SetV w p B v l) : SetW w p B v l := ⟨h.c0, h.f0, h.row, rise_rising.1 h.rise, h.ne⟩
theorem SetW.v {w : World} {p B : Nat} {v : Value} {l : List Nat} (h : SetW w p B v l) : SetV w p B v l := ⟨h.c0, h.f0, h.row, rise_rising.2 h.rise, h.ne⟩
theorem above_split {pre t : List Nat} {x : Nat} (hr : Rise vlt (pre ++ x :: t)) : above vlt (pre ++ x :: t) x = t := by
  have h := List.pairwise_append.1 hr
  have h2 := List.pairwise_cons.1 h.2.1
  unfold above
  rw [List.filter_append, List.filter_cons]
  have e1 : pre.filter (fun y => vlt x y) = [] := List.filter_eq_nil_iff.2 fun y hy => by
    have := h.2.2 y hy x (by simp)
    simp only [vlt, decide_eq_true_eq] at this ⊢
    omega
  have e2 : t.filter (fun y => vlt x y) = t := List.filter_eq_self.2 fun y hy => h2.1 y hy
  rw [e1, e2]
  simp [vlt]
def fromL (l : List Nat) (x : Nat) : List Nat := l.filter fun y => decide (x ≤ y)
theorem fromL_drop {l : List Nat} {x k : Nat} (h : At l x k) : l.drop k = fromL l x := by
  unfold fromL
  have e1 : (l.take k).filter (fun y => decide (x ≤ y)) = [] := List.filter_eq_nil_iff.2 fun y hy => by
    obtain ⟨m, hm⟩ := List.getElem?_of_mem hy
    have hmk : m < k := by have := (List.getElem?_eq_some_iff.1 hm).1; rw [List.length_take] at this; omega
    rw [List.getElem?_take_of_lt hmk] at hm
    have := h.low m y hmk hm
    simp; omega
  have e2 : (l.drop k).filter (fun y => decide (x ≤ y)) = l.drop k := List.filter_eq_self.2 fun y hy => by
    obtain ⟨m, hm⟩ := List.getElem?_of_mem hy
    rw [List.getElem?_drop] at hm
    exact decide_eq_true (h.high (k + m) y (by omega) hm)
  rw [← List.take_append_drop k l, List.filter_append, e1]
  rw [List.take_append_drop, e2]
  rfl
theorem ask_least {W : World} {p B : Nat} {v : Value} {l : List Nat} (h : SetV W p B v l) :
    Calls Try.prog 12 #[.pointer (some ⟨p, 0, none⟩)] W fun e w' => e = .returned (.tuple #[.int .u32 (fstV l).1, .bool (fstV l).2]) ∧ ∃ q, w' = W.drewN q :=
  (uxLeast_any h).mono fun _ _ ⟨he, hw⟩ => ⟨he, 0, hw.symm⟩
theorem ask_above {W : World} {p B : Nat} {v : Value} {l : List Nat} (h : SetV W p B v l) (hl : l.length ≤ 100000) {pre t : List Nat} {x : Nat} (hs : l = pre ++ x :: t) :
    Calls Try.prog 32 #[.pointer (some ⟨p, 0, none⟩), .int .u32 x] W fun e w' => e = .returned (.tuple #[.int .u32 (fstV t).1, .bool (fstV t).2]) ∧ ∃ q, w' = W.drewN q := by
  have h1 := uxAbove_any h hl x
  have h2 : above vlt l x = t := by have hr := h.rise; rw [hs] at hr ⊢; exact above_split hr
  rw [h2] at h1
  exact h1
theorem ask_notBelow {W : World} {p B : Nat} {v : Value} {l : List Nat} (h : SetV W p B v l) (hl : l.length ≤ 100000) (x : Nat) :
    Calls Try.prog 34 #[.pointer (some ⟨p, 0, none⟩), .int .u32 x] W fun e w' => e = .returned (.tuple #[.int .u32 (fstV (fromL l x)).1, .bool (fstV (fromL l x)).2]) ∧ W = w' :=
  (notBelow_any h.w hl x).mono fun _ _ ⟨k, he, hat, hw⟩ => ⟨by rw [he, ← fromL_drop hat, ← fstV_drop]; rfl, hw⟩
theorem atV_rev (t r : List Nat) : atV (t.reverse ++ r) ((t.length : Int) - 1) = fstV t := by
  cases t with
  | nil => unfold atV; rw [if_neg (by simp)]; rfl
  | cons y s =>
    unfold atV
    have e : (((y :: s).length : Int) - 1) = (s.length : Nat) := by simp
    rw [e, if_pos ⟨by omega, by simp; omega⟩]
    simp [fstV]
theorem ask_greatest {W : World} {p B : Nat} {v : Value} {l : List Nat} (h : SetV W p B v l) (hl : l.length ≤ 100000) :
    Calls Try.prog 35 #[.pointer (some ⟨p, 0, none⟩)] W fun e w' => e = .returned (.tuple #[.int .u32 (fstV l.reverse).1, .bool (fstV l.reverse).2]) ∧ ∃ q, w' = W.drewN q :=
  (greatest_any h.w hl).mono fun _ _ ⟨he, hw⟩ => ⟨by
    have := atV_rev l.reverse []
    rw [List.reverse_reverse, List.append_nil, List.length_reverse] at this
    rw [he, ← this]; rfl, 0, hw.symm⟩
theorem at_uniq {l : List Nat} {x k m : Nat} (h : At l x k) (hr : rising l) (hm : l[m]? = some x) : k = m := by
  rcases Nat.lt_trichotomy k m with h1 | h1 | h1
  · obtain ⟨y, hy⟩ := has_of (l := l) (k := k) (by have := (List.getElem?_eq_some_iff.1 hm).1; omega)
    have := hr k m y x h1 hy hm
    have := h.high k y (Nat.le_refl _) hy
    omega
  · exact h1
  · have := h.low m x h1 hm
    omega
theorem ask_below {W : World} {p B : Nat} {v : Value} {l : List Nat} (h : SetV W p B v l) (hl : l.length ≤ 100000) {pre t : List Nat} {x : Nat} (hs : l.reverse = pre ++ x :: t) :
    Calls Try.prog 36 #[.pointer (some ⟨p, 0, none⟩), .int .u32 x] W fun e w' => e = .returned (.tuple #[.int .u32 (fstV t).1, .bool (fstV t).2]) ∧ ∃ q, w' = W.drewN q := by
  have hl2 : l = t.reverse ++ (x :: pre.reverse) := by
    rw [← List.reverse_reverse l, hs]
    simp
  have hx : l[t.length]? = some x := by rw [hl2, List.getElem?_append_right (by simp)]; simp
  exact (pbelow_any h.w hl x).mono fun _ _ ⟨k, he, hat, hw⟩ => ⟨by
    have hk := at_uniq hat h.w.rise hx
    have := atV_rev t (x :: pre.reverse)
    rw [← hl2] at this
    rw [he, hk, ← this]; rfl, 0, hw.symm⟩
theorem from1_any {W : World} {p B b3 b4 x : Nat} {v : Value} {l : List Nat} (h : SetV W p B v l) (hl : l.length ≤ 100000) (h3 : W.cell? ⟨b3, 0, none⟩ = some (.pointer (some ⟨p, 0, none⟩))) (h4 : W.cell? ⟨b4, 0, none⟩ = some (.int .u32 x)) :
    Calls Try.prog 33 #[.pointer (some ⟨b3, 0, none⟩), .pointer (some ⟨b4, 0, none⟩)] W fun e w' => e = .returned (.tuple #[.int .u32 (fstV (fromL l x)).1, .bool (fstV (fromL l x)).2]) ∧ ∃ q, w' = W.drewN q := by
  have HN := Lib.hid (ask_notBelow h hl x)
  clear h
  obtain ⟨r, hr⟩ : ∃ r, r = fstV (fromL l x) := ⟨_, rfl⟩
  rw [← hr] at HN ⊢
  clear hr
  go_enter Try.func33, Try.ntmps33
  go_wp2_with (go_at_call 34; refine HN.out.mono ?_; rintro e w1 ⟨rfl, rfl⟩)
  go_ret2
  exact ⟨rfl, 0, rfl⟩
theorem nLen_any (w : World) : Calls Try.prog 14 #[.pointer none] w fun e w' => e = .returned (.int .i64 0) ∧ w = w' := by
  have hn : ∀ W, (binOp .eql 26 (.pointer none) (.pointer none)).run Try.prog W = .ok (.bool true) W := fun W => by kernel_rfl
  go_enter Try.func14, Try.ntmps14
  go_wp2
  go_ret
  exact ⟨rfl, rfl⟩
theorem nAt_any (k : Int) (hk : k = 0 ∨ k = -1) (w : World) : Calls Try.prog 30 #[.pointer none, .int .i64 k] w fun e w' => e = .returned (.tuple #[.int .u32 0, .bool false]) ∧ w = w' := by
  rcases hk with rfl | rfl
  · go_enter Try.func30, Try.ntmps30
    go_wp2_with (go_at_call 14; refine (nLen_any _).mono ?_; rintro e w1 ⟨rfl, rfl⟩)
    go_ret2
    exact ⟨rfl, rfl⟩
  · go_enter Try.func30, Try.ntmps30
    go_wp2_with (go_at_call 14; refine (nLen_any _).mono ?_; rintro e w1 ⟨rfl, rfl⟩)
    go_ret2
    exact ⟨rfl, rfl⟩
theorem nLeast_any (w : World) : Calls Try.prog 12 #[.pointer none] w fun e w' => e = .returned (.tuple #[.int .u32 0, .bool false]) ∧ ∃ q, w' = w.drewN q := by
  go_enter Try.func12, Try.ntmps12
  go_wp2_with (go_at_call 30; refine (nAt_any _ (.inl rfl) _).mono ?_; rintro e w1 ⟨rfl, rfl⟩)
  go_ret2
  exact ⟨rfl, 0, rfl⟩
theorem nGreatest_any (w : World) : Calls Try.prog 35 #[.pointer none] w fun e w' => e = .returned (.tuple #[.int .u32 0, .bool false]) ∧ ∃ q, w' = w.drewN q := by
  go_enter Try.func35, Try.ntmps35
  go_wp2_with (first | (go_at_call 14; refine (nLen_any _).mono ?_; rintro e w1 ⟨rfl, rfl⟩) | (go_at_call 30; refine (nAt_any _ (.inr rfl) _).mono ?_; rintro e w1 ⟨rfl, rfl⟩))
  go_ret2
  exact ⟨rfl, 0, rfl⟩
theorem nPlace_any (x : Nat) (w : World) : Calls Try.prog 27 #[.pointer none, .int .u32 x] w fun e w' => e = .returned (.tuple #[.int .i64 0, .bool false]) ∧ w = w' := by
  have hn : ∀ W, (binOp .eql 26 (.pointer none) (.pointer none)).run Try.prog W = .ok (.bool true) W := fun W => by kernel_rfl
  go_enter Try.func27, Try.ntmps27
  go_wp2
  go_ret2
  exact ⟨rfl, rfl⟩
theorem nHas_any (x : Nat) (w : World) : Calls Try.prog 13 #[.pointer none, .int .u32 x] w fun e w' => e = .returned (.bool false) ∧ w = w' := by
  go_enter Try.func13, Try.ntmps13
  go_wp2_with (go_at_call 27; refine (nPlace_any _ _).mono ?_; rintro e w1 ⟨rfl, rfl⟩)
  go_ret
  exact ⟨rfl, rfl⟩
theorem nAdd_any (x : Nat) (w : World) : Calls Try.prog 7 #[.pointer none, .int .u32 x] w fun e w' => e = .returned (.bool false) ∧ Go.RowKit.Below w.heap.size w w' := by
  have hn : ∀ W, (binOp .eql 26 (.pointer none) (.pointer none)).run Try.prog W = .ok (.bool true) W := fun W => by kernel_rfl
  go_enter Try.func7, Try.ntmps7
  go_wp2_with (go_at_call 27; refine (nPlace_any _ _).mono ?_; rintro e w1 ⟨rfl, rfl⟩)
  go_ret
  exact ⟨rfl, Go.RowKit.Below.refl _ _⟩
theorem nCopy_any (w : World) : Calls Try.prog 15 #[.pointer none] w fun e w' => e = .returned (.pointer none) ∧ w = w' := by
  have hn : ∀ W, (binOp .eql 26 (.pointer none) (.pointer none)).run Try.prog W = .ok (.bool true) W := fun W => by kernel_rfl
  go_enter Try.func15, Try.ntmps15
  go_wp2
  go_ret
  exact ⟨rfl, rfl⟩
end Go.Proofs.Ytdkkcogjkeonkaa
/- A set's rows, rising, from anywhere, falling; the law's row of them. -/
set_option maxRecDepth 100000
set_option maxHeartbeats 4000000
set_option linter.unusedVariables false
namespace Go.Proofs.Ytdkkcogjkeonkaa
open Go.RowKit Go.Sort
open Tx (Rise Ord above)
attribute [local go_sem] Oper.semAt_some
theorem prow_any (f1 f2 : Fn) (x1 y1 x2 y2 : Array Value) (w : World) : Calls Try.prog 31 #[.func f1 x1 y1, .func f2 x2 y2] w fun e w' => ∃ b1 b2, e = .returned (.func (.func 45) #[] #[.pointer (some ⟨b1, 0, none⟩), .pointer (some ⟨b2, 0, none⟩)]) ∧ w'.cell? ⟨b1, 0, none⟩ = some (.func f1 x1 y1) ∧ w'.cell? ⟨b2, 0, none⟩ = some (.func f2 x2 y2) ∧ Go.RowKit.Below w.heap.size w w' := by
  go_enter Try.func31, Try.ntmps31
  go_wp2
  go_ret
  refine ⟨w.heap.size, w.heap.size + 1, rfl, ?_, ?_, ((Go.RowKit.Below.refl _ w).alloc (Nat.le_refl _) _).alloc (by simp) _⟩
  · exact (((Go.RowKit.Below.refl (w.heap.size + 1) _).alloc (by simp) _).cell (p := ⟨w.heap.size, 0, none⟩) (Nat.lt_succ_self _)).trans (World.cell?_alloc_new w _ _ 0)
  · have := World.cell?_alloc_new (w.alloc (.cells #[.func f1 x1 y1] 35)) #[.func f2 x2 y2] 61 0
    rw [World.size_alloc] at this
    exact this
set_option maxHeartbeats 4000000 in
set_option maxRecDepth 100000 in
/-- The law's row: all of a row that has no more than so many. -/
theorem lawrow_in (n : Nat) (hn : 3 ≤ n) (g : Nat) (lb : Array Value) (E : List Nat) (most : Nat) (hlen : E.length ≤ most) (hmost : most ≤ 1000) (w : World) (G : List Nat → World → Prop) (hseq : ∀ n, 1 ≤ n → SeqU n g lb G E) (eg : ∀ args w, (callFunc g args).run Try.prog w = .ok (.enter g args) w) (hG : ∀ pre W, RowKit.Below w.heap.size w W → G pre W) :
    CallsIn WF n Try.prog 17 #[.func (.func g) #[] lb, .int .i64 most] w fun e W' => ∃ v, e = .returned v ∧ RowV W' w.heap.size v E ∧ RowKit.Below w.heap.size w W' := by
  have h1 : 1 ≤ n := by omega
  obtain ⟨i0, hi, hz0, hz1, hz2⟩ := info_parts infoV
  refine callsIn_of_wp_marks Try.func17 rfl trivial ?_ rfl
  simp only [Try.ntmps17, List.size_toArray, List.length_cons, List.length_nil, Nat.reduceAdd, Nat.reduceSub, Array.replicate_succ, Array.replicate_zero, List.push_toArray, List.append_toArray, List.nil_append, List.cons_append]
  gi_wp2
  obtain ⟨w0, hw0⟩ : ∃ w0, w0 = w.alloc (.cells #[.int .i64 most] 3) := ⟨_, rfl⟩
  have hz0' : w0.heap.size = w.heap.size + 1 := by rw [hw0]; simp
  have HM : Hid (w0.cell? ⟨w.heap.size, 0, none⟩ = some (.int .i64 most)) := by show _ = _; rw [hw0]; exact World.cell?_alloc_new w _ _ 0
  have HW0 : Hid (RowKit.Below w.heap.size w w0) := by show RowKit.Below _ _ _; rw [hw0]; exact (Below.refl _ w).alloc (Nat.le_refl _) _
  have hs1 : w.heap.size + 1 = w0.heap.size := hz0'.symm
  rw [← hw0, hs1]
  clear hw0
  have HS1 := Lib.hid hs1
  have bO := Boxed.new w0 22 (.slice none 0 0)
  have hB0 : RowKit.Below w0.heap.size w0 (w0.alloc (.cells #[.slice none 0 0] 22)) := (Below.refl _ w0).alloc (Nat.le_refl _) _
  clear hs1 hz0'
  refine rangeU h1 (gf := g) (lb := lb) rfl eg (hseq (n - 1) (by omega)) rfl
    (fun pre W => (∃ v, Boxed W w0.heap.size 22 v ∧ W.ownsRow w0.heap.size 24 1 v pre.length (pre.map eV) ∧ True) ∧ RowKit.Below w0.heap.size w0 W)
    (OwnFrom.and (Own.from (holdsRow_own w0.heap.size w0.heap.size 22 24 1 (fun pre : List Nat => pre.length) (fun pre => pre.map eV) (fun _ _ => True)) _) (ownFrom_below (Nat.le_refl _) (by simp)))
    (fun pre W h => hG pre W (HW0.out.trans (h.2.mono (by have := HS1.out; omega))))
    (fun pre W q h => ⟨h.1, below_drewV h.2 q⟩)
    ⟨⟨_, bO, World.ownsRow_nil _ _ _ _, trivial⟩, hB0⟩
    (fun x => { tmps := #[.func (.func g) #[] lb, .int .i64 most, undef, .pointer (some ⟨w.heap.size, 0, none⟩), .slice none 0 0, .pointer (some ⟨w0.heap.size, 0, none⟩), .int .u32 x, .func (.func g) #[] lb, .int .u32 x, undef, undef, undef, undef, undef, undef, undef, undef, undef], defers := [] }) ?assign ?body ?done
  case assign =>
    intro l x W K hK
    gi_wp2
    exact hK
  case body =>
    rintro l pre x W ⟨⟨v, hv, hrow, _⟩, hB⟩ hlt
    have hc := hv.cell
    have hcm : W.cell? ⟨w.heap.size, 0, none⟩ = some (.int .i64 most) := (hB.cell (p := ⟨w.heap.size, 0, none⟩) (by have := HS1.out; show w.heap.size < _; omega)).trans HM.out
    obtain ⟨va, vc, rfl⟩ := RowP.slice (enc := eV) (t := 24) (w := W) (B := w0.heap.size) (v := v) (l := pre) hrow
    have hzm : ¬ (most : Int) ≤ (pre.length : Int) := by omega
    gi_wp2_with (gi_at_builtin; refine wpListIn_append_own _ rfl _ _ 22 rfl w0.heap.size 24 i0 (.int .u32 0) 1 4 Try.underlying22 hi hz0 hz1 hz2 rfl (by decide) _ _ _ rfl (hrow.alloc _) ⟨W.heap.size, 0, none⟩ 1 1 [.int .u32 x] rfl rfl (cell_one_new _ _ _) (by simp [Value.oneCell']) (by unfold maxLen; omega) (by omega) (by have := hB.size; simp; omega) ?_; intro v' w1 hown' hgrow _; obtain ⟨g', cap', rfl⟩ := ownsRow_succ hown'; obtain ⟨hv1, hv2, hr2, hk2, hb2⟩ := hv.appended (by decide) hrow hB.size (Nat.le_refl _) hown' hgrow; have hc1 := hv1.cell; have hf1 := hv1.frozen)
    exact ⟨hk2.from _, ⟨_, hv2, by simpa using hr2⟩, hB.trans hb2⟩
  case done =>
    rintro D W hD ⟨⟨v, hv, hrow, _⟩, hB⟩ hK
    have hc := hv.cell
    gi_wp2
    refine ⟨by simp, .inl ⟨_, _, rfl, run_takeDeferred hK, ?_⟩⟩
    have hb1 : RowKit.Below w.heap.size w W := HW0.out.trans (hB.mono (by have := HS1.out; omega))
    have hr1 : RowV W w.heap.size v E := RowP.base (enc := eV) (t := 24) (B := w0.heap.size) (l := E) hrow (by have := HS1.out; omega)
    exact ⟨_, results_tmp rfl _ _ _, v, rfl, ownsRow_putObj hr1 _ hK rfl, hb1.trans (belowK_b (w := w) (Nat.le_refl _) W D _ _ (by simp at hD; have := HS1.out; omega) hK rfl rfl)⟩
theorem lawrow_any (g : Nat) (lb : Array Value) (E : List Nat) (most : Nat) (hlen : E.length ≤ most) (hmost : most ≤ 1000) (w : World) (G : List Nat → World → Prop) (hseq : ∀ n, 1 ≤ n → SeqU n g lb G E) (eg : ∀ args w, (callFunc g args).run Try.prog w = .ok (.enter g args) w) (hG : ∀ pre W, RowKit.Below w.heap.size w W → G pre W) :
    Calls Try.prog 17 #[.func (.func g) #[] lb, .int .i64 most] w fun e W' => ∃ v, e = .returned v ∧ RowV W' w.heap.size v E ∧ RowKit.Below w.heap.size w W' := callsIn_wide.1 (lawrow_in 3 (by omega) g lb E most hlen hmost w G hseq eg hG)
theorem all_any (p : Nat) (w : World) : Calls Try.prog 18 #[.pointer (some ⟨p, 0, none⟩)] w fun e w' => ∃ b1 b2, e = .returned (.func (.func 45) #[] #[.pointer (some ⟨b1, 0, none⟩), .pointer (some ⟨b2, 0, none⟩)]) ∧ w'.cell? ⟨b1, 0, none⟩ = some (.func (.func 12) #[.pointer (some ⟨p, 0, none⟩)] #[]) ∧ w'.cell? ⟨b2, 0, none⟩ = some (.func (.func 32) #[.pointer (some ⟨p, 0, none⟩)] #[]) ∧ Go.RowKit.Below w.heap.size w w' := by
  have HP := Lib.hid (fun f1 f2 x1 y1 x2 y2 W => prow_any f1 f2 x1 y1 x2 y2 W)
  go_enter Try.func18, Try.ntmps18
  go_wp2_with (go_at_call 31; refine (HP.out _ _ _ _ _ _ _).mono ?_; rintro e w1 ⟨b1, b2, rfl, h1, h2, hb⟩; have H1 := Lib.hid h1; have H2 := Lib.hid h2; have HB := Lib.hid hb; clear h1 h2 hb)
  go_ret
  exact ⟨b1, b2, rfl, H1.out, H2.out, HB.out⟩
theorem down_any (p : Nat) (w : World) : Calls Try.prog 20 #[.pointer (some ⟨p, 0, none⟩)] w fun e w' => ∃ b1 b2, e = .returned (.func (.func 45) #[] #[.pointer (some ⟨b1, 0, none⟩), .pointer (some ⟨b2, 0, none⟩)]) ∧ w'.cell? ⟨b1, 0, none⟩ = some (.func (.func 35) #[.pointer (some ⟨p, 0, none⟩)] #[]) ∧ w'.cell? ⟨b2, 0, none⟩ = some (.func (.func 36) #[.pointer (some ⟨p, 0, none⟩)] #[]) ∧ Go.RowKit.Below w.heap.size w w' := by
  have HP := Lib.hid (fun f1 f2 x1 y1 x2 y2 W => prow_any f1 f2 x1 y1 x2 y2 W)
  go_enter Try.func20, Try.ntmps20
  go_wp2_with (go_at_call 31; refine (HP.out _ _ _ _ _ _ _).mono ?_; rintro e w1 ⟨b1, b2, rfl, h1, h2, hb⟩; have H1 := Lib.hid h1; have H2 := Lib.hid h2; have HB := Lib.hid hb; clear h1 h2 hb)
  go_ret
  exact ⟨b1, b2, rfl, H1.out, H2.out, HB.out⟩
theorem allN_any (w : World) : Calls Try.prog 18 #[.pointer none] w fun e w' => ∃ b1 b2, e = .returned (.func (.func 45) #[] #[.pointer (some ⟨b1, 0, none⟩), .pointer (some ⟨b2, 0, none⟩)]) ∧ w'.cell? ⟨b1, 0, none⟩ = some (.func (.func 12) #[.pointer none] #[]) ∧ w'.cell? ⟨b2, 0, none⟩ = some (.func (.func 32) #[.pointer none] #[]) ∧ Go.RowKit.Below w.heap.size w w' := by
  have HP := Lib.hid (fun f1 f2 x1 y1 x2 y2 W => prow_any f1 f2 x1 y1 x2 y2 W)
  go_enter Try.func18, Try.ntmps18
  go_wp2_with (go_at_call 31; refine (HP.out _ _ _ _ _ _ _).mono ?_; rintro e w1 ⟨b1, b2, rfl, h1, h2, hb⟩; have H1 := Lib.hid h1; have H2 := Lib.hid h2; have HB := Lib.hid hb; clear h1 h2 hb)
  go_ret
  exact ⟨b1, b2, rfl, H1.out, H2.out, HB.out⟩
theorem downN_any (w : World) : Calls Try.prog 20 #[.pointer none] w fun e w' => ∃ b1 b2, e = .returned (.func (.func 45) #[] #[.pointer (some ⟨b1, 0, none⟩), .pointer (some ⟨b2, 0, none⟩)]) ∧ w'.cell? ⟨b1, 0, none⟩ = some (.func (.func 35) #[.pointer none] #[]) ∧ w'.cell? ⟨b2, 0, none⟩ = some (.func (.func 36) #[.pointer none] #[]) ∧ Go.RowKit.Below w.heap.size w w' := by
  have HP := Lib.hid (fun f1 f2 x1 y1 x2 y2 W => prow_any f1 f2 x1 y1 x2 y2 W)
  go_enter Try.func20, Try.ntmps20
  go_wp2_with (go_at_call 31; refine (HP.out _ _ _ _ _ _ _).mono ?_; rintro e w1 ⟨b1, b2, rfl, h1, h2, hb⟩; have H1 := Lib.hid h1; have H2 := Lib.hid h2; have HB := Lib.hid hb; clear h1 h2 hb)
  go_ret
  exact ⟨b1, b2, rfl, H1.out, H2.out, HB.out⟩
/-- What From lays. -/
def FromL (p x b1 b2 b3 b4 : Nat) (W : World) : Prop := W.cell? ⟨b1, 0, none⟩ = some (.func (.func 33) #[] #[.pointer (some ⟨b3, 0, none⟩), .pointer (some ⟨b4, 0, none⟩)]) ∧ W.cell? ⟨b2, 0, none⟩ = some (.func (.func 32) #[.pointer (some ⟨p, 0, none⟩)] #[]) ∧ W.cell? ⟨b3, 0, none⟩ = some (.pointer (some ⟨p, 0, none⟩)) ∧ W.cell? ⟨b4, 0, none⟩ = some (.int .u32 x)
theorem plFrom_any (p x : Nat) (w : World) : Calls Try.prog 19 #[.pointer (some ⟨p, 0, none⟩), .int .u32 x] w fun e w' => ∃ b1 b2 b3 b4, e = .returned (.func (.func 45) #[] #[.pointer (some ⟨b1, 0, none⟩), .pointer (some ⟨b2, 0, none⟩)]) ∧ FromL p x b1 b2 b3 b4 w' ∧ Go.RowKit.Below w.heap.size w w' := by
  have HP := Lib.hid (fun f1 f2 x1 y1 x2 y2 W => prow_any f1 f2 x1 y1 x2 y2 W)
  have hmf : ∀ (fn : Fn) (first cap : Array Value) (w : World), (Instr.makeFunc fn first cap).run Try.prog w = .ok (.func fn first cap) w := fun _ _ _ _ => rfl
  go_enter Try.func19, Try.ntmps19
  go_wp2_with (go_at_call 31; refine (HP.out _ _ _ _ _ _ _).mono ?_; rintro e w1 ⟨b1, b2, rfl, h1, h2, hb⟩; have H1 := Lib.hid h1; have H2 := Lib.hid h2; have HB := Lib.hid hb; clear h1 h2 hb)
  go_ret
  refine ⟨b1, b2, w.heap.size, w.heap.size + 1, rfl, ⟨H1.out, H2.out, ?_, ?_⟩, ?_⟩
  · exact (HB.out.cell (p := ⟨w.heap.size, 0, none⟩) (by simp; omega)).trans ((((Go.RowKit.Below.refl (w.heap.size + 1) _).alloc (by simp) _).cell (p := ⟨w.heap.size, 0, none⟩) (Nat.lt_succ_self _)).trans (World.cell?_alloc_new w _ _ 0))
  · refine (HB.out.cell (p := ⟨w.heap.size + 1, 0, none⟩) (by simp)).trans ?_
    have := World.cell?_alloc_new (w.alloc (.cells #[.pointer (some ⟨p, 0, none⟩)] 26)) #[.int .u32 x] 24 0
    rw [World.size_alloc] at this
    exact this
  · exact (((Go.RowKit.Below.refl _ w).alloc (Nat.le_refl _) _).alloc (by simp) _).trans (HB.out.mono (by simp; omega))
theorem eg321 : ∀ args w, (callFunc 45 args).run Try.prog w = .ok (.enter 45 args) w := fun args w => by kernel_rfl
variable {W : World} {p B : Nat} {v : Value} {l : List Nat} {b1 b2 b3 b4 x : Nat}
theorem cellB {W W' : World} (hb : Go.RowKit.Below W.heap.size W W') {a : Addr} {u : Value} (h : W.cell? a = some u) : W'.cell? a = some u := (hb.cell (p := a) (World.block_lt_of_cell? _ _ h)).trans h
/-- All of a set, rising. -/
theorem rowAll_any (h : SetV W p B v l) (hl : l.length ≤ 200) (h1 : W.cell? ⟨b1, 0, none⟩ = some (.func (.func 12) #[.pointer (some ⟨p, 0, none⟩)] #[])) (h2 : W.cell? ⟨b2, 0, none⟩ = some (.func (.func 32) #[.pointer (some ⟨p, 0, none⟩)] #[])) :
    Calls Try.prog 17 #[.func (.func 45) #[] #[.pointer (some ⟨b1, 0, none⟩), .pointer (some ⟨b2, 0, none⟩)], .int .i64 200] W fun e W' => ∃ v, e = .returned v ∧ RowV W' W.heap.size v l ∧ RowKit.Below W.heap.size W W' :=
  lawrow_any 45 _ l 200 hl (by omega) W (fun _ X => Go.RowKit.Below W.heap.size W X)
    (fun n hn => row1A_in n hn b1 b2 p l (fun X => Go.RowKit.Below W.heap.size W X) (fun X hX => ⟨cellB hX h1, cellB hX h2⟩) (fun X hX => ask_least (h.below hX)) (fun X x t pre hX hs => ask_above (h.below hX) (by omega) hs)) eg321 (fun _ _ h => h)
theorem rowDown_any (h : SetV W p B v l) (hl : l.length ≤ 200) (h1 : W.cell? ⟨b1, 0, none⟩ = some (.func (.func 35) #[.pointer (some ⟨p, 0, none⟩)] #[])) (h2 : W.cell? ⟨b2, 0, none⟩ = some (.func (.func 36) #[.pointer (some ⟨p, 0, none⟩)] #[])) :
    Calls Try.prog 17 #[.func (.func 45) #[] #[.pointer (some ⟨b1, 0, none⟩), .pointer (some ⟨b2, 0, none⟩)], .int .i64 200] W fun e W' => ∃ v, e = .returned v ∧ RowV W' W.heap.size v l.reverse ∧ RowKit.Below W.heap.size W W' :=
  lawrow_any 45 _ l.reverse 200 (by rw [List.length_reverse]; exact hl) (by omega) W (fun _ X => Go.RowKit.Below W.heap.size W X)
    (fun n hn => row1D_in n hn b1 b2 p l.reverse (fun X => Go.RowKit.Below W.heap.size W X) (fun X hX => ⟨cellB hX h1, cellB hX h2⟩) (fun X hX => ask_greatest (h.below hX) (by omega)) (fun X x t pre hX hs => ask_below (h.below hX) (by omega) hs)) eg321 (fun _ _ h => h)
theorem fromL_split {pre t : List Nat} {x y : Nat} (hr : Rise vlt l) (hs : fromL l x = pre ++ y :: t) : ∃ pre', l = pre' ++ y :: t := by
  have hy : y ∈ l := (List.mem_filter.1 (show y ∈ fromL l x by rw [hs]; simp)).1
  obtain ⟨a, c, hl⟩ := List.append_of_mem hy
  refine ⟨a, ?_⟩
  have hxy : x ≤ y := by
    have := (List.mem_filter.1 (show y ∈ fromL l x by rw [hs]; simp)).2
    exact of_decide_eq_true this
  have hr2 := hr
  rw [hl] at hr2
  have h1 := above_split hr2
  have h2 : above vlt (fromL l x) y = t := by
    have hr3 : Rise vlt (fromL l x) := List.Pairwise.sublist List.filter_sublist hr
    rw [hs] at hr3 ⊢
    exact above_split hr3
  have h3 : above vlt (fromL l x) y = above vlt l y := by
    unfold above fromL
    rw [List.filter_filter]
    apply List.filter_congr
    intro z _
    simp only [vlt]
    by_cases hz : y < z
    · have : x ≤ z := by omega
      simp [hz, this]
    · simp [hz]
  rw [← hl, ← h3, h2] at h1
  rw [hl, h1]
theorem rowFrom_any (h : SetV W p B v l) (hl : l.length ≤ 200) (hf : FromL p x b1 b2 b3 b4 W) :
    Calls Try.prog 17 #[.func (.func 45) #[] #[.pointer (some ⟨b1, 0, none⟩), .pointer (some ⟨b2, 0, none⟩)], .int .i64 200] W fun e W' => ∃ v, e = .returned v ∧ RowV W' W.heap.size v (fromL l x) ∧ RowKit.Below W.heap.size W W' :=
  lawrow_any 45 _ (fromL l x) 200 (Nat.le_trans (List.length_filter_le _ _) hl) (by omega) W (fun _ X => Go.RowKit.Below W.heap.size W X)
    (fun n hn => row1F_in n hn b1 b2 p b3 b4 (fromL l x) (fun X => Go.RowKit.Below W.heap.size W X) (fun X hX => ⟨cellB hX hf.1, cellB hX hf.2.1⟩) (fun X hX => from1_any (h.below hX) (by omega) (cellB hX hf.2.2.1) (cellB hX hf.2.2.2))
      (fun X y t pre hX hs => by
        obtain ⟨pre', hp⟩ := fromL_split h.rise hs
        exact ask_above (h.below hX) (by omega) hp)) eg321 (fun _ _ h => h)
theorem rowAllN_any (h1 : W.cell? ⟨b1, 0, none⟩ = some (.func (.func 12) #[.pointer none] #[])) (h2 : W.cell? ⟨b2, 0, none⟩ = some (.func (.func 32) #[.pointer none] #[])) :
    Calls Try.prog 17 #[.func (.func 45) #[] #[.pointer (some ⟨b1, 0, none⟩), .pointer (some ⟨b2, 0, none⟩)], .int .i64 9] W fun e W' => ∃ v, e = .returned v ∧ RowV W' W.heap.size v [] ∧ RowKit.Below W.heap.size W W' :=
  lawrow_any 45 _ [] 9 (by simp) (by omega) W (fun _ X => Go.RowKit.Below W.heap.size W X)
    (fun n hn => row1AN_in n hn b1 b2 [] (fun X => Go.RowKit.Below W.heap.size W X) (fun X hX => ⟨cellB hX h1, cellB hX h2⟩) (fun X hX => nLeast_any X) (fun X x t pre hX hs => by simp at hs)) eg321 (fun _ _ h => h)
theorem rowDownN_any (h1 : W.cell? ⟨b1, 0, none⟩ = some (.func (.func 35) #[.pointer none] #[])) (h2 : W.cell? ⟨b2, 0, none⟩ = some (.func (.func 36) #[.pointer none] #[])) :
    Calls Try.prog 17 #[.func (.func 45) #[] #[.pointer (some ⟨b1, 0, none⟩), .pointer (some ⟨b2, 0, none⟩)], .int .i64 9] W fun e W' => ∃ v, e = .returned v ∧ RowV W' W.heap.size v [] ∧ RowKit.Below W.heap.size W W' :=
  lawrow_any 45 _ [] 9 (by simp) (by omega) W (fun _ X => Go.RowKit.Below W.heap.size W X)
    (fun n hn => row1DN_in n hn b1 b2 [] (fun X => Go.RowKit.Below W.heap.size W X) (fun X hX => ⟨cellB hX h1, cellB hX h2⟩) (fun X hX => nGreatest_any X) (fun X x t pre hX hs => by simp at hs)) eg321 (fun _ _ h => h)
end Go.Proofs.Ytdkkcogjkeonkaa
/- The document's set and the program's are one row. -/
set_option maxRecDepth 100000
set_option maxHeartbeats 4000000
set_option linter.unusedVariables false
namespace Go.Proofs.Ytdkkcogjkeonkaa
open Go.RowKit Go.Sort
open Tx (Rise Ord)
theorem rise_snoc {l : List Nat} {y : Nat} (h : Rise vlt l) (hy : ∀ z ∈ l, z < y) : Rise vlt (l ++ [y]) :=
  List.pairwise_append.2 ⟨h, List.pairwise_singleton _ _, fun a ha b hb => by simp at hb; subst hb; exact decide_eq_true (hy a ha)⟩
theorem rise_of_snoc {l : List Nat} {y : Nat} (h : Rise vlt (l ++ [y])) : Rise vlt l ∧ ∀ z ∈ l, z < y :=
  ⟨(List.pairwise_append.1 h).1, fun z hz => of_decide_eq_true ((List.pairwise_append.1 h).2.2 z hz y (by simp))⟩
structure RunI (x : Nat) (m : List Nat) (s : List Nat × Bool) : Prop where
  rise : Rise vlt s.1
  mem : ∀ y, y ∈ s.1 ↔ y ∈ m ∨ (s.2 = true ∧ y = x)
  no : s.2 = false → ∀ y ∈ m, y < x
  yes : s.2 = true → ∃ z ∈ m, x < z
theorem run_inv' (x : Nat) (r : List Nat) (hr : Rise vlt r.reverse) (hx : x ∉ r.reverse) : RunI x r.reverse (Ps.run x r.reverse) := by
  induction r with
  | nil => exact ⟨List.Pairwise.nil, fun y => by simp [Ps.run], fun _ y hy => by simp at hy, fun h => by simp [Ps.run] at h⟩
  | cons y r ih =>
    rw [List.reverse_cons] at hr hx ⊢
    generalize r.reverse = m at hr hx ih ⊢
    obtain ⟨h1, h2⟩ := rise_of_snoc hr
    have I := ih h1 (fun h => hx (by simp [h]))
    have hxy : x ≠ y := fun e => hx (by simp [e])
    rw [Ps.run_snoc]
    generalize Ps.run x m = s at I ⊢
    obtain ⟨s1, s2⟩ := s
    unfold Ps.step
    cases s2 with
    | true =>
      obtain ⟨z, hz, hxz⟩ := I.yes rfl
      have hzy := h2 z hz
      simp only [Bool.not_true, Bool.false_and, Bool.false_eq_true, if_false]
      refine ⟨rise_snoc I.rise fun u hu => ?_, fun u => ?_, fun h => (by cases h), fun _ => ⟨z, by simp [hz], hxz⟩⟩
      · rcases (I.mem u).1 hu with h | h
        · exact h2 u h
        · omega
      · rw [List.mem_append, List.mem_append, I.mem u]
        constructor
        · rintro ((h | h) | h)
          · exact .inl (.inl h)
          · exact .inr h
          · exact .inl (.inr h)
        · rintro ((h | h) | h)
          · exact .inl (.inl h)
          · exact .inr h
          · exact .inl (.inr h)
    | false =>
      have hno := I.no rfl
      have hm : ∀ u, u ∈ s1 ↔ u ∈ m := fun u => by have := I.mem u; simpa using this
      by_cases hlt : x < y
      · simp only [Bool.not_false, Bool.true_and, hlt, decide_true, if_true]
        refine ⟨rise_snoc (rise_snoc I.rise fun u hu => hno u ((hm u).1 hu)) fun u hu => ?_, fun u => ?_, fun h => (by cases h), fun _ => ⟨y, by simp, hlt⟩⟩
        · rcases List.mem_append.1 hu with h | h
          · exact h2 u ((hm u).1 h)
          · simp at h; omega
        · simp only [List.mem_append, List.mem_singleton, hm]
          constructor
          · rintro ((h | h) | h)
            · exact .inl (.inl h)
            · exact .inr ⟨trivial, h⟩
            · exact .inl (.inr h)
          · rintro ((h | h) | h)
            · exact .inl (.inl h)
            · exact .inr h
            · exact .inl (.inr h.2)
      · have hyx : y < x := by omega
        simp only [Bool.not_false, Bool.true_and, hlt, decide_false, Bool.false_eq_true, if_false]
        refine ⟨rise_snoc I.rise fun u hu => h2 u ((hm u).1 hu), fun u => by simp [hm], fun _ u hu => ?_, fun h => (by cases h)⟩
        rcases List.mem_append.1 hu with h | h
        · exact hno u h
        · simp at h; omega
theorem run_inv (x : Nat) (m : List Nat) (hr : Rise vlt m) (hx : x ∉ m) : RunI x m (Ps.run x m) := by
  have := run_inv' x m.reverse
  rw [List.reverse_reverse] at this
  exact this hr hx
theorem without_rise {l : List Nat} (x : Nat) (h : Rise vlt l) : Rise vlt (Ps.without l x) := List.Pairwise.sublist List.filter_sublist h
theorem without_mem (l : List Nat) (x y : Nat) : y ∈ Ps.without l x ↔ y ≠ x ∧ y ∈ l := by unfold Ps.without; rw [List.mem_filter]; simp [and_comm]
theorem withL_ok {l : List Nat} (x : Nat) (h : Rise vlt l) : Rise vlt (Ps.withL l x) ∧ ∀ y, y ∈ Ps.withL l x ↔ y = x ∨ y ∈ l := by
  have I := run_inv x (Ps.without l x) (without_rise x h) (fun hx => ((without_mem l x x).1 hx).1 rfl)
  unfold Ps.withL
  cases hs : (Ps.run x (Ps.without l x)).2 with
  | true =>
    rw [if_pos rfl]
    refine ⟨I.rise, fun y => ?_⟩
    rw [I.mem y, without_mem, hs]
    by_cases hy : y = x <;> simp [hy]
  | false =>
    rw [if_neg (by simp)]
    have hm : ∀ u, u ∈ (Ps.run x (Ps.without l x)).1 ↔ u ∈ Ps.without l x := fun u => by have := I.mem u; rw [hs] at this; simpa using this
    refine ⟨rise_snoc I.rise fun u hu => I.no hs u ((hm u).1 hu), fun y => ?_⟩
    rw [List.mem_append, hm, without_mem]
    by_cases hy : y = x <;> simp [hy]
theorem fold_ok : ∀ (l s : List Nat), Rise vlt s → Rise vlt (l.foldl Ps.withL s) ∧ ∀ y, y ∈ l.foldl Ps.withL s ↔ y ∈ s ∨ y ∈ l
  | [], s, h => ⟨h, fun y => by simp⟩
  | x :: l, s, h => by
    obtain ⟨h1, h2⟩ := withL_ok x h
    obtain ⟨h3, h4⟩ := fold_ok l (Ps.withL s x) h1
    refine ⟨h3, fun y => ?_⟩
    rw [List.foldl_cons, h4 y, h2 y, List.mem_cons]
    constructor
    · rintro ((h | h) | h)
      · exact .inr (.inl h)
      · exact .inl h
      · exact .inr (.inr h)
    · rintro (h | h | h)
      · exact .inl (.inr h)
      · exact .inl (.inl h)
      · exact .inr h
theorem of_dd (l : List Nat) : Ps.ofL l = ddV l := by
  obtain ⟨h1, h2⟩ := fold_ok l [] List.Pairwise.nil
  exact Rise.uniq vord h1 (ddV_rise l) fun y => by rw [ddV_mem]; have := h2 y; simp at this; exact this
theorem add_with {l l' : List Nat} {x : Nat} (hr : Rise vlt l) (h : addV l x l') : l' = Ps.withL l x := by
  obtain ⟨h1, h2⟩ := withL_ok x hr
  exact Rise.uniq vord h.1 h1 fun y => by rw [h2 y]; exact h.2.1 y
theorem rem_without {l l' : List Nat} {x : Nat} (hr : Rise vlt l) (h : remV l x l') : l' = Ps.without l x :=
  Rise.uniq vord h.1 (without_rise x hr) fun y => by rw [without_mem]; exact h.2.1 y
theorem any_mem (l : List Nat) (x : Nat) : l.any (fun y => y == x) = decide (x ∈ l) := by
  rw [Bool.eq_iff_iff, List.any_eq_true]
  simp
theorem rHas_any (v : Value) (l : List Nat) (x : Nat) (hl : l.length ≤ 100000) (w : World) (hv : SlV w v l) :
    Calls Try.prog 8 #[v, .int .u32 x] w fun e w' => e = .returned (.bool (decide (x ∈ l))) ∧ w = w' := by
  have h := psHas_any v l x hl w hv
  rw [any_mem] at h
  exact h
theorem sHas_any {w : World} {p B : Nat} {v : Value} {l : List Nat} (h : SetV w p B v l) (hl : l.length ≤ 100000) (x : Nat) :
    Calls Try.prog 13 #[.pointer (some ⟨p, 0, none⟩), .int .u32 x] w fun e w' => e = .returned (.bool (decide (x ∈ l))) ∧ w = w' :=
  (has_any h.w hl x).mono fun _ _ ⟨k, he, hat, hw⟩ => ⟨by
    rw [he]
    congr 2
    by_cases hx : l[k]? = some x
    · rw [decide_eq_true hx, decide_eq_true (List.mem_of_getElem? hx)]
    · rw [decide_eq_false hx, decide_eq_false]
      intro hm
      obtain ⟨m, hm⟩ := List.getElem?_of_mem hm
      exact hx (by rw [at_uniq hat h.w.rise hm]; exact hm), hw⟩
end Go.Proofs.Ytdkkcogjkeonkaa
/- Add and Remove with their answers; the law's state. -/
set_option maxRecDepth 100000
set_option maxHeartbeats 4000000
set_option linter.unusedVariables false
namespace Go.Proofs.Ytdkkcogjkeonkaa
open Go.RowKit Go.Sort
open Tx (Rise Ord above)
variable {B : Nat}
theorem uxAdd2_any {w : World} {p B : Nat} {v : Value} {l : List Nat} (h : SetV w p B v l) (hl : l.length ≤ 90000) (hB : B ≤ w.heap.size) (x : Nat) :
    Calls Try.prog 7 #[.pointer (some ⟨p, 0, none⟩), .int .u32 x] w fun e w' => e = .returned (.bool (!decide (x ∈ l))) ∧ ∃ v' l', SetV w' p B v' l' ∧ addV l x l' ∧ SetK p B v w w' ∧ (v'.ownBlock = v.ownBlock ∨ ∃ g, v'.ownBlock = some g ∧ w.heap.size ≤ g) := by
  have HP := Lib.hid (uxPlace_any h (by omega) x)
  have hn := fun W => setV_not_nil W p
  have HS := Lib.hid h
  have HLT := Lib.hid (World.block_lt_of_cell? _ _ h.c0)
  have hlt := HLT.out
  obtain ⟨a, c, rfl⟩ := h.row.slice
  clear h
  go_enter Try.func7, Try.ntmps7
  go_upto_region 2 with (go_at_call 27; refine HP.out.mono ?_; rintro e w1 ⟨k, rfl, hat, q, rfl⟩; have HAT := Lib.hid hat; clear hat)
  have hk := HAT.out.le
  by_cases hx : l[k]? = some x
  · rw [decide_eq_true hx]
    have HX := Lib.hid hx
    clear hx
    go_wp2
    go_ret
    exact ⟨by rw [decide_eq_true (List.mem_of_getElem? HX.out)]; rfl, _, l, HS.out.drewN q, ⟨HS.out.rise, fun y => ⟨.inr, fun h => h.elim (fun e => by rw [e]; exact List.mem_of_getElem? HX.out) id⟩, by omega⟩, ⟨Nat.le_refl _, rfl, rfl, rfl, fun _ _ _ _ => rfl⟩, .inl rfl⟩
  · rw [decide_eq_false hx]
    have HX := Lib.hid hx
    clear hx
    have c0 : (w.drewN q).cell? ⟨p, 0, none⟩ = some (.slice a l.length c) := (HS.out.drewN q).c0
    have f0 : (w.drewN q).frozen? ⟨p, 0, none⟩ = false := (HS.out.drewN q).f0
    have HI := Lib.hid (fun T => uxIns_any B (w.drewN q).heap.size 1 k (.slice a l.length c) l x T ((w.drewN q).alloc (.cells #[.int .u32 x] T)) hk (by omega) ((HS.out.drewN q).row.below ((Below.refl _ _).alloc (Nat.le_refl _) _)) (by simp; omega) (heap_alloc_new _ _) (fun e => by have := ((HS.out.drewN q).row.lt e).1; omega))
    go_wp2_with (go_at_call 28; refine (HI.out _).mono ?_; rintro e w2 ⟨v2, rfl, hi2⟩; have HI2 := Lib.hid hi2; obtain ⟨a2, c2, rfl⟩ := hi2.row.slice; have hw2p : w2.heap[p]? = w.heap[p]? := (hi2.keep p HS.out.ne (by simp; omega)).trans (Below.heap_alloc (w.drewN q) _ p hlt); have c2p : w2.cell? ⟨p, 0, none⟩ = some (.slice a l.length c) := (cell_same hw2p 0).trans HS.out.c0; have f2p : w2.frozen? ⟨p, 0, none⟩ = false := (frozen_same hw2p 0).trans HS.out.f0; have HWP := Lib.hid hw2p; clear hi2 hw2p)
    go_ret
    have hne2 : (Value.slice a2 (Tx.ins l k x).length c2).ownBlock ≠ some p := fun e => by
      have hlen := ins_len (x := x) hk
      rcases HI2.out.row.open with ⟨h, h0⟩ | ⟨g, cap, cur, h, _⟩
      · rw [h0] at hlen; cases hlen
      · have hx0 : (Tx.ins l k x)[0]? = some ((Tx.ins l k x)[0]'(by omega)) := List.getElem?_eq_getElem (by omega)
        have h1 := ((HI2.out.row.cells h).2 0 _ hx0).1
        rw [h] at e
        injection e with e
        have e' : g = p := e
        rw [e', c2p] at h1
        cases h1
    refine ⟨by rw [decide_eq_false (fun h => HX.out ((HAT.out.mem vord HS.out.rise).1 h))]; rfl, _, Tx.ins l k x, HS.out.stored HWP.out HI2.out.row (HAT.out.ins_rise vord HS.out.rise HX.out) hne2, ⟨HAT.out.ins_rise vord HS.out.rise HX.out, fun y => Tx.ins_mem, by rw [ins_len hk]; omega⟩, ?_, HI2.out.at'.imp id (fun ⟨g, hg, hle⟩ => ⟨g, hg, Nat.le_trans (by simp) hle⟩)⟩
    exact SetK.stored (w := w) (B := B) (p := p) (v := .slice a l.length c) (Nat.le_trans (by simp) HI2.out.below.size) HI2.out.below.os HI2.out.below.tape HI2.out.below.output (fun k hv hk' => (HI2.out.keep k hv (by simp; omega)).trans (Below.heap_alloc (w.drewN q) _ k hk')) _
theorem uxRem2_any {w : World} {p B : Nat} {v : Value} {l : List Nat} (h : SetV w p B v l) (hl : l.length ≤ 90000) (x : Nat) :
    Calls Try.prog 10 #[.pointer (some ⟨p, 0, none⟩), .int .u32 x] w fun e w' => e = .returned (.bool (decide (x ∈ l))) ∧ ∃ v' l', SetV w' p B v' l' ∧ remV l x l' ∧ SetK p B v w w' ∧ (v'.ownBlock = v.ownBlock ∨ ∃ g, v'.ownBlock = some g ∧ w.heap.size ≤ g) := by
  have HP := Lib.hid (uxPlace_any h (by omega) x)
  have HS := Lib.hid h
  obtain ⟨a, c, rfl⟩ := h.row.slice
  clear h
  go_enter Try.func10, Try.ntmps10
  go_upto_region 2 with (go_at_call 27; refine HP.out.mono ?_; rintro e w1 ⟨k, rfl, hat, q, rfl⟩; have HAT := Lib.hid hat; clear hat)
  have hk := HAT.out.le
  by_cases hx : l[k]? = some x
  · rw [decide_eq_true hx]
    have HX := Lib.hid hx
    have hkl := (List.getElem?_eq_some_iff.1 hx).1
    clear hx
    have c0 : (w.drewN q).cell? ⟨p, 0, none⟩ = some (.slice a l.length c) := (HS.out.drewN q).c0
    have f0 : (w.drewN q).frozen? ⟨p, 0, none⟩ = false := (HS.out.drewN q).f0
    obtain ⟨g, cap, hgc⟩ : ∃ g cap, (Value.slice a l.length c) = .slice (some ⟨g, 0, none⟩) l.length cap := by
      rcases HS.out.row.open with ⟨_, h⟩ | ⟨g, cap, _, h, _⟩
      · rw [h] at hkl; cases hkl
      · exact ⟨g, cap, h⟩
    cases hgc
    have HD := Lib.hid (uxDel_any B g c k l (w.drewN q) hkl (HS.out.drewN q).row)
    have HLT := Lib.hid (World.block_lt_of_cell? _ _ HS.out.c0)
    have hlt := HLT.out
    go_wp2_with (go_at_call 29; refine HD.out.mono ?_; rintro e w2 ⟨v2, rfl, hg2, hi2⟩; have HI2 := Lib.hid hi2; have HG2 := Lib.hid hg2; obtain ⟨a2, c2, rfl⟩ := hi2.row.slice; have hw2p : w2.heap[p]? = w.heap[p]? := hi2.keep p HS.out.ne hlt; have c2p : w2.cell? ⟨p, 0, none⟩ = some (.slice (some ⟨g, 0, none⟩) l.length c) := (cell_same hw2p 0).trans HS.out.c0; have f2p : w2.frozen? ⟨p, 0, none⟩ = false := (frozen_same hw2p 0).trans HS.out.f0; have HWP := Lib.hid hw2p; clear hi2 hw2p hg2)
    go_ret
    refine ⟨by rw [decide_eq_true (List.mem_of_getElem? HX.out)]; rfl, _, Tx.del l k, HS.out.stored HWP.out HI2.out.row (Tx.del_rise k HS.out.rise) (fun e => HS.out.ne (by rw [← e, HG2.out]; rfl)), ⟨Tx.del_rise k HS.out.rise, fun y => Tx.del_mem vord HS.out.rise HX.out, by rw [del_len hkl]; omega⟩, ?_, HI2.out.at'⟩
    exact SetK.stored (w := w) (B := B) (p := p) (v := .slice (some ⟨g, 0, none⟩) l.length c) HI2.out.below.size HI2.out.below.os HI2.out.below.tape HI2.out.below.output (fun k hv hk' => HI2.out.keep k hv hk') _
  · rw [decide_eq_false hx]
    have HX := Lib.hid hx
    clear hx
    go_wp2
    go_ret
    exact ⟨by rw [decide_eq_false (fun h => HX.out ((HAT.out.mem vord HS.out.rise).1 h))]; rfl, _, l, HS.out.drewN q, ⟨HS.out.rise, fun y => ⟨fun h => ⟨fun e => HX.out ((HAT.out.mem vord HS.out.rise).1 (e ▸ h)), h⟩, fun h => h.2⟩, by omega⟩, ⟨Nat.le_refl _, rfl, rfl, rfl, fun _ _ _ _ => rfl⟩, .inl rfl⟩
/-- The law's state: the set has L, the document's row M. -/
structure LS (w0 W : World) (p : Nat) (v q : Value) (L M : List Nat) : Prop where
  set : SetV W p w0.heap.size v L
  hp : w0.heap.size ≤ p
  row : RowV W w0.heap.size q M
  dp : q.ownBlock ≠ some p
  dv : ∀ k, q.ownBlock = some k → v.ownBlock ≠ some k
  bel : Go.RowKit.Below w0.heap.size w0 W
variable {w0 W W' : World} {p : Nat} {v v' q q' : Value} {L L' M M' : List Nat}
theorem SetV.lt (h : SetV W p B v L) : p < W.heap.size := World.block_lt_of_cell? _ _ h.c0
theorem LS.below (h : LS w0 W p v q L M) (hb : Go.RowKit.Below W.heap.size W W') : LS w0 W' p v q L M :=
  ⟨h.set.below hb, h.hp, h.row.below hb, h.dp, h.dv, h.bel.trans (hb.mono h.bel.size)⟩
theorem SetK.bel0 {B0 : Nat} (h : SetK p B v W W') (hB : B0 ≤ W.heap.size) (hp : B0 ≤ p) (hv : ∀ k, v.ownBlock = some k → B0 ≤ k) : Go.RowKit.Below B0 W W' :=
  ⟨h.os, h.tape, h.output, h.size, fun k hk => h.keep k (by omega) (fun e => by have := hv k e; omega) (by omega)⟩
theorem LS.put (h : LS w0 W p v q L M) (hs : SetV W' p w0.heap.size v' L') (hk : SetK p w0.heap.size v W W') (ho : v'.ownBlock = v.ownBlock ∨ ∃ g, v'.ownBlock = some g ∧ W.heap.size ≤ g) : LS w0 W' p v' q L' M :=
  ⟨hs, h.hp, h.row.keep fun g hg => hk.keep g (fun e => h.dp (by rw [hg, e])) (h.dv g hg) (h.row.lt hg).1, h.dp, fun k hq => by
    rcases ho with ho | ⟨g, ho, hg⟩
    · rw [ho]; exact h.dv k hq
    · rw [ho]; intro e; injection e with e; have := (h.row.lt hq).1; omega,
   h.bel.trans (hk.bel0 h.bel.size h.hp fun k hv => (h.set.row.lt hv).2)⟩
theorem LS.doc (h : LS w0 W p v q L M) (hr : RowV W' W.heap.size q' M') (hb : Go.RowKit.Below W.heap.size W W') : LS w0 W' p v q' L M' :=
  ⟨h.set.below hb, h.hp, hr.base h.bel.size, fun e => by have := (hr.lt e).2; have := h.set.lt; omega, fun k hq e => by have := (hr.lt hq).2; have := (h.set.row.lt e).1; omega, h.bel.trans (hb.mono h.bel.size)⟩
/-- An act's box. -/
def AX (W : World) (b : Nat) (d : Int) (x : Nat) : Prop := W.heap[b]? = some (.cells #[.int .i64 d, .int .u32 x] 30 (0, 0))
theorem AX.c {b : Nat} {d : Int} {x : Nat} (h : AX W b d x) : W.cell? ⟨b, 0, none⟩ = some (.int .i64 d) ∧ W.cell? ⟨b, 1, none⟩ = some (.int .u32 x) := by
  unfold AX at h
  exact ⟨by simp [World.cell?, h], by simp [World.cell?, h]⟩
theorem AX.lt {b : Nat} {d : Int} {x : Nat} (h : AX W b d x) : b < W.heap.size := (Array.getElem?_eq_some_iff.1 h).1
theorem AX.below {b : Nat} {d : Int} {x : Nat} (h : AX W b d x) (hb : Go.RowKit.Below W.heap.size W W') : AX W' b d x := (hb.block b h.lt).trans h
/-- The act's box is another than the set's, than its row's. -/
def AS (W : World) (b p : Nat) (v : Value) (d : Int) (x : Nat) : Prop := AX W b d x ∧ b ≠ p ∧ v.ownBlock ≠ some b
theorem AS.put {b : Nat} {d : Int} {x : Nat} (h : AS W b p v d x) (hk : SetK p B v W W') (ho : v'.ownBlock = v.ownBlock ∨ ∃ g, v'.ownBlock = some g ∧ W.heap.size ≤ g) : AS W' b p v' d x :=
  ⟨(hk.keep b h.2.1 h.2.2 h.1.lt).trans h.1, h.2.1, by
    rcases ho with ho | ⟨g, ho, hg⟩
    · rw [ho]; exact h.2.2
    · rw [ho]; intro e; injection e with e; have := h.1.lt; omega⟩
theorem AS.below {b : Nat} {d : Int} {x : Nat} (h : AS W b p v d x) (hb : Go.RowKit.Below W.heap.size W W') : AS W' b p v d x := ⟨h.1.below hb, h.2⟩
end Go.Proofs.Ytdkkcogjkeonkaa
/- The law's end: two rows that grow; what it holds then. -/
set_option maxRecDepth 100000
set_option maxHeartbeats 4000000
set_option linter.unusedVariables false
namespace Go.Proofs.Ytdkkcogjkeonkaa
open Go.RowKit Go.Sort
open Tx (Rise Ord above)
theorem grow32 {W : World} {B : Nat} {u : Value} {l : List Nat} (hu : RowV W B u l) (hB : B ≤ W.heap.size) (hl : l.length ≤ 100000) (x : Nat) (ty : TypeId) :
    ∃ v' w1, (Builtin.append_ #[22, 22] ty #[u, .slice (some ⟨W.heap.size, 0, none⟩) 1 1]).run Try.prog (W.alloc (.cells #[.int .u32 x] 24)) = .ok v' w1 ∧ RowV w1 B v' (l ++ [x]) ∧ Go.RowKit.Below B W w1 ∧ (∀ k, k < W.heap.size → u.ownBlock ≠ some k → w1.heap[k]? = W.heap[k]?) ∧ (v'.ownBlock = u.ownBlock ∨ ∃ g, v'.ownBlock = some g ∧ W.heap.size ≤ g) ∧ ∃ a n c, v' = .slice a n c := by
  obtain ⟨i0, hi, hz0, hz1, hz2⟩ := info_parts infoV
  have hx : (W.alloc (.cells #[.int .u32 x] 24)).cell? ⟨W.heap.size, 0, none⟩ = some (.int .u32 x) := World.cell?_alloc_new W _ _ 0
  have hu2 : RowV (W.alloc (.cells #[.int .u32 x] 24)) B u l := hu.below ((Go.RowKit.Below.refl _ _).alloc (Nat.le_refl _) _)
  obtain ⟨v', w', hr, h2, h3, _, h5⟩ := run_append_own_at (P := Try.prog) (W.alloc (.cells #[.int .u32 x] 24)) B 22 ty 24 i0 (.int .u32 0) 1 4 Try.underlying22 hi hz0 hz1 hz2 rfl (by decide) u l.length (l.map eV) hu2 ⟨W.heap.size, 0, none⟩ 1 1 [.int .u32 x] rfl (fun j u hj => by
    cases j with
    | zero => simp at hj; subst hj; exact hx
    | succ j => simp at hj) (fun u hu => by simp at hu; subst hu; rfl) (by unfold maxLen; omega) (by omega) (by simp; omega)
  have hrow : RowV w' B v' (l ++ [x]) := by
    show w'.ownsRow _ _ _ _ _ _
    simpa using h2
  refine ⟨v', w', hr, hrow, ((Go.RowKit.Below.refl B W).alloc hB _).trans ((Go.RowKit.Below.refl B _).grown h3 (by simp; omega) (fun k hk => (hu2.lt hk).2)), fun k hk hne => (h3.block k (by rw [World.size_alloc]; omega) (Ne.symm hne)).trans (Go.RowKit.Below.heap_alloc W _ k hk), ?_, ?_⟩
  · rcases h5 with h | h
    · exact .inl h
    · exact .inr ⟨_, h, by simp⟩
  · obtain ⟨a, c, h⟩ := hrow.slice
    exact ⟨a, _, c, h⟩
theorem fromL_snoc {L : List Nat} {i z : Nat} (f : Nat) (h : L[i]? = some z) : fromL (L.take (i + 1)) f = if f ≤ z then fromL (L.take i) f ++ [z] else fromL (L.take i) f := by
  rw [Ps.take_snoc h]
  unfold fromL
  rw [List.filter_append]
  by_cases hz : f ≤ z
  · rw [if_pos hz]; simp [hz]
  · rw [if_neg hz]; simp [hz]
theorem rev_snoc {L : List Nat} {i y : Nat} (hi : i < L.length) (h : L[L.length - 1 - i]? = some y) : L.reverse.take (i + 1) = L.reverse.take i ++ [y] := by
  have : L.reverse[i]? = some y := by rw [List.getElem?_reverse hi]; exact h
  exact Ps.take_snoc this
/-- What the law holds at its end. -/
structure EN (w0 W : World) (p : Nat) (v q up dn : Value) (L : List Nat) (f : Nat) : Prop where
  ls : LS w0 W p v q L L
  up : ∃ B, RowV W B up (fromL L f)
  dn : ∃ B, RowV W B dn L.reverse
theorem EN.below {w0 W W' : World} {p f : Nat} {v q up dn : Value} {L : List Nat} (h : EN w0 W p v q up dn L f) (hb : Go.RowKit.Below W.heap.size W W') : EN w0 W' p v q up dn L f := by
  obtain ⟨B, h1⟩ := h.up
  obtain ⟨B', h2⟩ := h.dn
  exact ⟨h.ls.below hb, ⟨B, h1.below hb⟩, ⟨B', h2.below hb⟩⟩
theorem copy2_any {w : World} {p B : Nat} {v : Value} {l : List Nat} (h : SetV w p B v l) (hl : l.length ≤ 90000) :
    Calls Try.prog 15 #[.pointer (some ⟨p, 0, none⟩)] w fun e w' => ∃ p' v', e = .returned (.pointer (some ⟨p', 0, none⟩)) ∧ w.heap.size ≤ p' ∧ SetV w' p' w.heap.size v' l ∧ Go.RowKit.Below w.heap.size w w' :=
  (copy_any h.w (by omega)).mono fun _ _ ⟨p', v', he, hp, hs, hb⟩ => ⟨p', v', he, hp, hs.v, hb⟩
/-- The copy is turned: all older things stay. -/
theorem add3_any {w wc : World} {p : Nat} {v : Value} {l : List Nat} (h : SetV w p wc.heap.size v l) (hp : wc.heap.size ≤ p) (hl : l.length ≤ 90000) (hB : wc.heap.size ≤ w.heap.size) (x : Nat) :
    Calls Try.prog 7 #[.pointer (some ⟨p, 0, none⟩), .int .u32 x] w fun e w' => (∃ b, e = .returned (.bool b)) ∧ ∃ v' l', SetV w' p wc.heap.size v' l' ∧ l'.length ≤ l.length + 1 ∧ Go.RowKit.Below wc.heap.size w w' :=
  (uxAdd2_any h hl hB x).mono fun _ _ ⟨he, v', l', hs, ha, hk, _⟩ => ⟨⟨_, he⟩, v', l', hs, ha.2.2, hk.bel0 hB hp fun k hv => (h.row.lt hv).2⟩
theorem rem3_any {w wc : World} {p : Nat} {v : Value} {l : List Nat} (h : SetV w p wc.heap.size v l) (hp : wc.heap.size ≤ p) (hl : l.length ≤ 90000) (hB : wc.heap.size ≤ w.heap.size) (x : Nat) :
    Calls Try.prog 10 #[.pointer (some ⟨p, 0, none⟩), .int .u32 x] w fun e w' => (∃ b, e = .returned (.bool b)) ∧ Go.RowKit.Below wc.heap.size w w' :=
  (uxRem2_any h hl x).mono fun _ _ ⟨he, v', l', hs, ha, hk, _⟩ => ⟨⟨_, he⟩, hk.bel0 hB hp fun k hv => (h.row.lt hv).2⟩
end Go.Proofs.Ytdkkcogjkeonkaa
