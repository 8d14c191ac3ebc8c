/- A set of texts: Add, Remove. -/
import Derived.Test.YtdkkcogjkeonkaaUxIns
import Derived.Deep.DeepMust
set_option maxRecDepth 100000
set_option maxHeartbeats 4000000
set_option linter.unusedVariables false
namespace Go.Proofs.Ytdkkcogjkeonkaa
open Go.RowKit Go.Sort
open Tx (Rise Ord above)
/-- What a set has with one more. -/
def addV (l : List Nat) (x : Nat) (l' : List Nat) : Prop := Rise vlt l' ∧ (∀ y, y ∈ l' ↔ y = x ∨ y ∈ l) ∧ l'.length ≤ l.length + 1
/-- What a set has with one less. -/
def remV (l : List Nat) (x : Nat) (l' : List Nat) : Prop := Rise vlt l' ∧ (∀ y, y ∈ l' ↔ y ≠ x ∧ y ∈ l) ∧ l'.length ≤ l.length
/-- The box is written with a row of its own that stands in another block. -/
theorem SetV.stored {w w2 : World} {p B : Nat} {v v' : Value} {l l' : List Nat} (h : SetV w p B v l) (hp : w2.heap[p]? = w.heap[p]?) (hr : RowV w2 B v' l') (hrise : Rise vlt l') (hne : v'.ownBlock ≠ some p) :
    SetV (w2.setCell ⟨p, 0, none⟩ v') p B v' l' := by
  have c2 := (cell_same hp 0).trans h.c0
  refine ⟨World.cell?_setCell_same' _ _ _ (by rw [c2]; rfl), by rw [World.frozen?_setCell]; exact (frozen_same hp 0).trans h.f0, hr.keep (fun g hg => Below.heap_setCell w2 _ v' g (fun e => hne (by rw [hg]; exact congrArg some e))), hrise, hne⟩
theorem uxAdd_any {w : World} {p B : Nat} {v : Value} {l : List Nat} (h : SetV w p B v l) (hl : l.length ≤ 90000) (hB : B ≤ w.heap.size) (x : Nat) :
    Calls Try.prog 7 #[.pointer (some ⟨p, 0, none⟩), .int .u32 x] w fun e w' => (∃ b, e = .returned (.bool b)) ∧ ∃ v' l', SetV w' p B v' l' ∧ addV l x l' ∧ SetK p B v w w' ∧ (v'.ownBlock = v.ownBlock ∨ ∃ g, v'.ownBlock = some g ∧ w.heap.size ≤ g) := by
  have HP := Lib.hid (uxPlace_any h (by omega) x)
  have hn := fun W => setV_not_nil W p
  have HS := Lib.hid h
  have HLT := Lib.hid (World.block_lt_of_cell? _ _ h.c0)
  have hlt := HLT.out
  obtain ⟨a, c, rfl⟩ := h.row.slice
  clear h
  go_enter Try.func7, Try.ntmps7
  go_upto_region 2 with (go_at_call 27; refine HP.out.mono ?_; rintro e w1 ⟨k, rfl, hat, q, rfl⟩; have HAT := Lib.hid hat; clear hat)
  have hk := HAT.out.le
  by_cases hx : l[k]? = some x
  · rw [decide_eq_true hx]
    have HX := Lib.hid hx
    clear hx
    go_wp2
    go_ret
    exact ⟨⟨_, rfl⟩, _, l, HS.out.drewN q, ⟨HS.out.rise, fun y => ⟨.inr, fun h => h.elim (fun e => by rw [e]; exact List.mem_of_getElem? HX.out) id⟩, by omega⟩, ⟨Nat.le_refl _, rfl, rfl, rfl, fun _ _ _ _ => rfl⟩, .inl rfl⟩
  · rw [decide_eq_false hx]
    have HX := Lib.hid hx
    clear hx
    have c0 : (w.drewN q).cell? ⟨p, 0, none⟩ = some (.slice a l.length c) := (HS.out.drewN q).c0
    have f0 : (w.drewN q).frozen? ⟨p, 0, none⟩ = false := (HS.out.drewN q).f0
    have HI := Lib.hid (fun T => uxIns_any B (w.drewN q).heap.size 1 k (.slice a l.length c) l x T ((w.drewN q).alloc (.cells #[.int .u32 x] T)) hk (by omega) ((HS.out.drewN q).row.below ((Below.refl _ _).alloc (Nat.le_refl _) _)) (by simp; omega) (heap_alloc_new _ _) (fun e => by have := ((HS.out.drewN q).row.lt e).1; omega))
    go_wp2_with (go_at_call 28; refine (HI.out _).mono ?_; rintro e w2 ⟨v2, rfl, hi2⟩; have HI2 := Lib.hid hi2; obtain ⟨a2, c2, rfl⟩ := hi2.row.slice; have hw2p : w2.heap[p]? = w.heap[p]? := (hi2.keep p HS.out.ne (by simp; omega)).trans (Below.heap_alloc (w.drewN q) _ p hlt); have c2p : w2.cell? ⟨p, 0, none⟩ = some (.slice a l.length c) := (cell_same hw2p 0).trans HS.out.c0; have f2p : w2.frozen? ⟨p, 0, none⟩ = false := (frozen_same hw2p 0).trans HS.out.f0; have HWP := Lib.hid hw2p; clear hi2 hw2p)
    go_ret
    have hne2 : (Value.slice a2 (Tx.ins l k x).length c2).ownBlock ≠ some p := fun e => by
      have hlen := ins_len (x := x) hk
      rcases HI2.out.row.open with ⟨h, h0⟩ | ⟨g, cap, cur, h, _⟩
      · rw [h0] at hlen; cases hlen
      · have hx0 : (Tx.ins l k x)[0]? = some ((Tx.ins l k x)[0]'(by omega)) := List.getElem?_eq_getElem (by omega)
        have h1 := ((HI2.out.row.cells h).2 0 _ hx0).1
        rw [h] at e
        injection e with e
        have e' : g = p := e
        rw [e', c2p] at h1
        cases h1
    refine ⟨⟨_, rfl⟩, _, Tx.ins l k x, HS.out.stored HWP.out HI2.out.row (HAT.out.ins_rise vord HS.out.rise HX.out) hne2, ⟨HAT.out.ins_rise vord HS.out.rise HX.out, fun y => Tx.ins_mem, by rw [ins_len hk]; omega⟩, ?_, HI2.out.at'.imp id (fun ⟨g, hg, hle⟩ => ⟨g, hg, Nat.le_trans (by simp) hle⟩)⟩
    exact SetK.stored (w := w) (B := B) (p := p) (v := .slice a l.length c) (Nat.le_trans (by simp) HI2.out.below.size) HI2.out.below.os HI2.out.below.tape HI2.out.below.output (fun k hv hk' => (HI2.out.keep k hv (by simp; omega)).trans (Below.heap_alloc (w.drewN q) _ k hk')) _
theorem uxRemove_any {w : World} {p B : Nat} {v : Value} {l : List Nat} (h : SetV w p B v l) (hl : l.length ≤ 90000) (x : Nat) :
    Calls Try.prog 10 #[.pointer (some ⟨p, 0, none⟩), .int .u32 x] w fun e w' => (∃ b, e = .returned (.bool b)) ∧ ∃ v' l', SetV w' p B v' l' ∧ remV l x l' ∧ SetK p B v w w' ∧ (v'.ownBlock = v.ownBlock ∨ ∃ g, v'.ownBlock = some g ∧ w.heap.size ≤ g) := by
  have HP := Lib.hid (uxPlace_any h (by omega) x)
  have HS := Lib.hid h
  obtain ⟨a, c, rfl⟩ := h.row.slice
  clear h
  go_enter Try.func10, Try.ntmps10
  go_upto_region 2 with (go_at_call 27; refine HP.out.mono ?_; rintro e w1 ⟨k, rfl, hat, q, rfl⟩; have HAT := Lib.hid hat; clear hat)
  have hk := HAT.out.le
  by_cases hx : l[k]? = some x
  · rw [decide_eq_true hx]
    have HX := Lib.hid hx
    have hkl := (List.getElem?_eq_some_iff.1 hx).1
    clear hx
    have c0 : (w.drewN q).cell? ⟨p, 0, none⟩ = some (.slice a l.length c) := (HS.out.drewN q).c0
    have f0 : (w.drewN q).frozen? ⟨p, 0, none⟩ = false := (HS.out.drewN q).f0
    obtain ⟨g, cap, hgc⟩ : ∃ g cap, (Value.slice a l.length c) = .slice (some ⟨g, 0, none⟩) l.length cap := by
      rcases HS.out.row.open with ⟨_, h⟩ | ⟨g, cap, _, h, _⟩
      · rw [h] at hkl; cases hkl
      · exact ⟨g, cap, h⟩
    cases hgc
    have HD := Lib.hid (uxDel_any B g c k l (w.drewN q) hkl (HS.out.drewN q).row)
    have HLT := Lib.hid (World.block_lt_of_cell? _ _ HS.out.c0)
    have hlt := HLT.out
    go_wp2_with (go_at_call 29; refine HD.out.mono ?_; rintro e w2 ⟨v2, rfl, hg2, hi2⟩; have HI2 := Lib.hid hi2; have HG2 := Lib.hid hg2; obtain ⟨a2, c2, rfl⟩ := hi2.row.slice; have hw2p : w2.heap[p]? = w.heap[p]? := hi2.keep p HS.out.ne hlt; have c2p : w2.cell? ⟨p, 0, none⟩ = some (.slice (some ⟨g, 0, none⟩) l.length c) := (cell_same hw2p 0).trans HS.out.c0; have f2p : w2.frozen? ⟨p, 0, none⟩ = false := (frozen_same hw2p 0).trans HS.out.f0; have HWP := Lib.hid hw2p; clear hi2 hw2p hg2)
    go_ret
    refine ⟨⟨_, rfl⟩, _, Tx.del l k, HS.out.stored HWP.out HI2.out.row (Tx.del_rise k HS.out.rise) (fun e => HS.out.ne (by rw [← e, HG2.out]; rfl)), ⟨Tx.del_rise k HS.out.rise, fun y => Tx.del_mem vord HS.out.rise HX.out, by rw [del_len hkl]; omega⟩, ?_, HI2.out.at'⟩
    exact SetK.stored (w := w) (B := B) (p := p) (v := .slice (some ⟨g, 0, none⟩) l.length c) HI2.out.below.size HI2.out.below.os HI2.out.below.tape HI2.out.below.output (fun k hv hk' => HI2.out.keep k hv hk') _
  · rw [decide_eq_false hx]
    have HX := Lib.hid hx
    clear hx
    go_wp2
    go_ret
    exact ⟨⟨_, rfl⟩, _, l, HS.out.drewN q, ⟨HS.out.rise, fun y => ⟨fun h => ⟨fun e => HX.out ((HAT.out.mem vord HS.out.rise).1 (e ▸ h)), h⟩, fun h => h.2⟩, by omega⟩, ⟨Nat.le_refl _, rfl, rfl, rfl, fun _ _ _ _ => rfl⟩, .inl rfl⟩
end Go.Proofs.Ytdkkcogjkeonkaa
