/- LeaseSorts: what the law keeps, step by step. -/
import Derived.Test.YtlkdfmfcjlfihaaLsAwkM
set_option maxRecDepth 100000
set_option maxHeartbeats 4000000
set_option linter.unusedVariables false
namespace Go.Proofs.Ytlkdfmfcjlfihaa
open Go.RowKit
open Ls (Txt Ln Ms low ltM sameM tl)
theorem sj_step {w W w5 : World} {b : Bool} {now g2 gm n : Nat} {L : List Ms} {f : Txt → Option Nat} {sl v : Value} (h : SJ w b now g2 gm L f n sl W) (hb : Below W.heap.size W w5) (x : Ms)
    (hr : RowG cM 2 88 w5 W.heap.size v (Ls.lend (ltM b) sameM x L)) (hx : x.s.length ≤ maxLen) (hn : n < maxLen) :
    ∃ W7, (Instr.mapUpdate 64 (.map (some (g2 + 1))) (.string (str x.s)) (.int .u64 x.t)).run Try.prog ((w5.setCell ⟨g2, 0, none⟩ (fnM b)).setCell ⟨g2, 1, none⟩ v) = .ok () W7 ∧
      SJ w b now g2 gm (Ls.lend (ltM b) sameM x L) (fun j => if j = x.s then some x.t else f j) (n + 1) v W7 ∧ ((w5.setCell ⟨g2, 0, none⟩ (fnM b)).setCell ⟨g2, 1, none⟩ v).cell? ⟨gm, 0, none⟩ = some (.map (some (g2 + 1))) := by
  obtain ⟨b0, b1, b2, T, M, S, F, hW, G, GM, u, s, r, kk⟩ := h
  subst GM
  have hg2 : g2 < W.heap.size := T.lt
  have T5 := T.below hb
  have hsame : ∀ k, k ≠ g2 → ((w5.setCell ⟨g2, 0, none⟩ (fnM b)).setCell ⟨g2, 1, none⟩ v).heap[k]? = w5.heap[k]? := fun k hk => by
    rw [Below.heap_setCell _ _ _ _ hk, Below.heap_setCell _ _ _ _ hk]
  have TX := T5.set (fnM b) v
  have BX := ((hW.trans (hb.mono hW.size)).setCell (p := ⟨g2, 0, none⟩) (by show _ ≤ g2; omega) (fnM b)).setCell (p := ⟨g2, 1, none⟩) (by show _ ≤ g2; omega) v
  have RX : RowG cM 2 88 ((w5.setCell ⟨g2, 0, none⟩ (fnM b)).setCell ⟨g2, 1, none⟩ v) W.heap.size v (Ls.lend (ltM b) sameM x L) := (hr.set (a := ⟨g2, 0, none⟩) hg2 _).set (a := ⟨g2, 1, none⟩) hg2 _
  have MX : Boxed ((w5.setCell ⟨g2, 0, none⟩ (fnM b)).setCell ⟨g2, 1, none⟩ v) (g2 + 1 + 1) 64 (.map (some (g2 + 1))) := (hsame _ (by omega)).trans (boxed_below M hb)
  have FX : MapN ((w5.setCell ⟨g2, 0, none⟩ (fnM b)).setCell ⟨g2, 1, none⟩ v) (g2 + 1) n f L.length := F.kept ((hsame _ (by omega)).trans (hb.block _ F.lt))
  have X0 : Boxed ((w5.setCell ⟨g2, 0, none⟩ (fnM b)).setCell ⟨g2, 1, none⟩ v) w.heap.size 32 (.int .u64 now) := (hsame _ (by omega)).trans (boxed_below b0 hb)
  have X1 : Boxed ((w5.setCell ⟨g2, 0, none⟩ (fnM b)).setCell ⟨g2, 1, none⟩ v) (w.heap.size + 1) 4 (.bool b) := (hsame _ (by omega)).trans (boxed_below b1 hb)
  have X2 : Boxed ((w5.setCell ⟨g2, 0, none⟩ (fnM b)).setCell ⟨g2, 1, none⟩ v) (w.heap.size + 1 + 1) 4 (.bool false) := (hsame _ (by omega)).trans (boxed_below b2 hb)
  generalize ((w5.setCell ⟨g2, 0, none⟩ (fnM b)).setCell ⟨g2, 1, none⟩ v) = W6 at *
  obtain ⟨W7, hrun, hF7, hmt⟩ := FX.store hx hn x.t
  have hg := hmt.grown
  have hrr : ∀ r, some (g2 + 1) = some r → w.heap.size ≤ r ∧ ∃ o : Obj, W6.heap[r]? = some o ∧ o.isCells = false := fun r e => by
    cases e
    obtain ⟨es, clock, es', clock', hm, _⟩ := hmt
    exact ⟨by omega, _, hm, rfl⟩
  have hlen := (r.lend (lt := ltM b) u x).card
  refine ⟨W7, hrun, ⟨boxed_kept X0 hg hrr, boxed_kept X1 hg hrr, boxed_kept X2 hg hrr, TX.kept hg hrr, boxed_kept MX hg hrr, (RX.kept hg hrr).sl encM, ?_, (ownFrom_below (β := Unit) (Nat.le_refl _) (Nat.le_refl _)) () _ _ _ BX hg hrr, G, rfl, Ls.lend_uni Ls.keyM u, Ls.lend_srt (Ls.woM b) s, ?_, fun e he => (Ls.mem_ins.1 he).elim (fun h => by rw [h]; exact hx) (fun h => kk e (List.mem_filter.1 h).1)⟩, MX.cell⟩
  · rw [← hlen]; exact hF7
  · have := r.lend (lt := ltM b) u x
    rw [hlen] at this; exact this
theorem sj_start {w w2 W : World} {b : Bool} {now : Nat} (b0 : Boxed w2 w.heap.size 32 (.int .u64 now)) (b1 : Boxed w2 (w.heap.size + 1) 4 (.bool b)) (b2 : Boxed w2 (w.heap.size + 1 + 1) 4 (.bool false)) (hB : Below w.heap.size w w2)
    (hW : W = ((w2.alloc (.cells #[fnM b, .slice none 0 0] 62)).alloc (.map #[] 0)).alloc (.cells #[.map (some (w2.heap.size + 1))] 64)) : SJ w b now w2.heap.size (w2.heap.size + 1 + 1) [] (fun _ => none) 0 (.slice none 0 0) W := by
  subst hW
  have hb2 := b2.lt
  refine ⟨((b0.alloc _).alloc _).alloc _, ((b1.alloc _).alloc _).alloc _, ((b2.alloc _).alloc _).alloc _, ((Boxed2.new w2 _ _ _).alloc _).alloc _, boxed_at (Boxed.new _ _ _) (by simp), SlG.nil _, ?_, ((hB.alloc hB.size _).alloc (by have := hB.size; simp; omega) _).alloc (by have := hB.size; simp; omega) _, by omega, rfl, List.Pairwise.nil, List.Pairwise.nil, ⟨rfl, fun e he => by simp at he, fun s n h => by cases h⟩, fun e he => by simp at he⟩
  have h := MapN.made (w2.alloc (.cells #[fnM b, .slice none 0 0] 62))
  rw [World.size_alloc] at h
  exact h.kept (Below.heap_alloc _ _ _ (by simp))
theorem SJ.kept {w W W' : World} {b : Bool} {now g2 gm n : Nat} {L : List Ms} {f : Txt → Option Nat} {sl : Value} {B : Nat} {row : Option Nat} (h : SJ w b now g2 gm L f n sl W) (hB : g2 + 1 < B) (hg : W.grownBy W' row) (hr : ∀ r, row = some r → B ≤ r ∧ ∃ o : Obj, W.heap[r]? = some o ∧ o.isCells = false) : SJ w b now g2 gm L f n sl W' := by
  have hw : w.heap.size ≤ B := by have := h.G; omega
  exact ⟨boxed_kept h.b0 hg hr, boxed_kept h.b1 hg hr, boxed_kept h.b2 hg hr, h.T.kept hg hr, boxed_kept h.M hg hr, h.S.kept' hg hr, h.F.kept (hg.block _ h.F.lt (fun e => by have := (hr _ e.symm).1; omega)), (ownFrom_below (β := Unit) (Nat.le_refl _) hw) () _ _ _ h.W hg hr, h.G, h.GM, h.u, h.s, h.r, h.kk⟩
def lastT (pre : List Ms) : Nat := (pre.getLast?.map (·.t)).getD 0
def lastS (pre : List Ms) : Txt := (pre.getLast?.map (·.s)).getD []
theorem last_snoc (pre : List Ms) (x : Ms) : lastT (pre ++ [x]) = x.t ∧ lastS (pre ++ [x]) = x.s := by simp [lastT, lastS]
/-- What a round of the first range keeps. -/
structure R1 (w : World) (b : Bool) (now g2 g : Nat) (L : List Ms) (f : Txt → Option Nat) (n : Nat) (sl : Value) (pre : List Ms) (W : World) : Prop where
  J : SJ w b now g2 (g2 + 1 + 1) L f n sl W
  N : Boxed W g 3 (.int .i64 pre.length)
  T : Boxed W (g + 1) 32 (.int .u64 (lastT pre))
  S : Boxed W (g + 1 + 1) 9 (.string (str (lastS pre)))
  A : Boxed2 W (g + 1 + 1 + 1) 62 (fnM b) sl
  G : g2 + 1 + 1 < g
theorem R1.own (w : World) (b : Bool) (now g2 g : Nat) (L : List Ms) (f : Txt → Option Nat) (n : Nat) (sl : Value) (B : Nat) (hB : g2 + 1 < B) : OwnFrom B (R1 w b now g2 g L f n sl) := fun pre _ _ _ h hg hr =>
  ⟨h.J.kept hB hg hr, boxed_kept h.N hg hr, boxed_kept h.T hg hr, boxed_kept h.S hg hr, h.A.kept hg hr, h.G⟩
theorem SJ.drewN {w W : World} {b : Bool} {now g2 gm n : Nat} {L : List Ms} {f : Txt → Option Nat} {sl : Value} (h : SJ w b now g2 gm L f n sl W) (q : Nat) : SJ w b now g2 gm L f n sl (W.drewN q) := h.below (below_drewT (Below.refl _ _) q)
theorem R1.drewN {w W : World} {b : Bool} {now g2 g n : Nat} {L pre : List Ms} {f : Txt → Option Nat} {sl : Value} (h : R1 w b now g2 g L f n sl pre W) (q : Nat) : R1 w b now g2 g L f n sl pre (W.drewN q) := ⟨h.J.drewN q, h.N, h.T, h.S, h.A, h.G⟩
theorem R1.ag {w W : World} {b : Bool} {now g2 g n : Nat} {L pre : List Ms} {f : Txt → Option Nat} {sl : Value} (h : R1 w b now g2 g L f n sl pre W) : AGM (g + 1 + 1 + 1) sl L W := ⟨h.A.c1, h.J.S⟩
theorem r1_start {w W W' : World} {b : Bool} {now g2 n : Nat} {L : List Ms} {f : Txt → Option Nat} {sl : Value} (h : SJ w b now g2 (g2 + 1 + 1) L f n sl W)
    (hW : W' = (((W.alloc (.cells #[.int .i64 0] 3)).alloc (.cells #[.int .u64 0] 32)).alloc (.cells #[.string ⟨#[]⟩] 9)).alloc (.cells #[fnM b, sl] 62)) : R1 w b now g2 W.heap.size L f n sl [] W' := by
  subst hW
  have hb : Below W.heap.size W ((((W.alloc (.cells #[.int .i64 0] 3)).alloc (.cells #[.int .u64 0] 32)).alloc (.cells #[.string ⟨#[]⟩] 9)).alloc (.cells #[fnM b, sl] 62)) := (((below_alloc _ _).alloc (by simp) _).alloc (by simp <;> omega) _).alloc (by simp <;> omega) _
  refine ⟨h.below hb, (((Boxed.new W _ _).alloc _).alloc _).alloc _, ?_, ?_, ?_, by have := h.M.lt; omega⟩
  · exact ((boxed_at (Boxed.new _ _ _) (by simp)).alloc _).alloc _
  · exact (boxed_at (Boxed.new _ _ _) (by simp)).alloc _
  · exact boxed2_at (Boxed2.new _ _ _ _) (by simp)
/-- A round's three stores. -/
theorem R1.go {w W W' : World} {b : Bool} {now g2 g n : Nat} {L pre : List Ms} {f : Txt → Option Nat} {sl : Value} {B : Nat} (h : R1 w b now g2 g L f n sl pre W) (x : Ms)
    (hW : W' = ((W.setCell ⟨g, 0, none⟩ (.int .i64 ((pre.length : Int) + 1))).setCell ⟨g + 1, 0, none⟩ (.int .u64 x.t)).setCell ⟨g + 1 + 1, 0, none⟩ (.string (str x.s))) :
    KeepsFrom B W W' ∧ R1 w b now g2 g L f n sl (pre ++ [x]) W' := by
  subst hW
  obtain ⟨hJ, hN, hT, hS, hA, hG⟩ := h
  obtain ⟨e1, e2⟩ := last_snoc pre x
  have hs : ∀ k, k ≠ g → k ≠ g + 1 → k ≠ g + 1 + 1 → (((W.setCell ⟨g, 0, none⟩ (.int .i64 ((pre.length : Int) + 1))).setCell ⟨g + 1, 0, none⟩ (.int .u64 x.t)).setCell ⟨g + 1 + 1, 0, none⟩ (.string (str x.s))).heap[k]? = W.heap[k]? := fun k h1 h2 h3 => by
    rw [Below.heap_setCell _ _ _ _ (by show k ≠ g + 1 + 1; exact h3), Below.heap_setCell _ _ _ _ (by show k ≠ g + 1; exact h2), Below.heap_setCell _ _ _ _ (by show k ≠ g; exact h1)]
  have hrow : SlG cM 2 (((W.setCell ⟨g, 0, none⟩ (.int .i64 ((pre.length : Int) + 1))).setCell ⟨g + 1, 0, none⟩ (.int .u64 x.t)).setCell ⟨g + 1 + 1, 0, none⟩ (.string (str x.s))) sl L := by
    obtain ⟨a, bb, o, c, h1, h2, h3, h4, h5, h6⟩ := hJ.S.get
    refine ⟨a, bb, o, c, h1, h2, h3, h4, h5, fun j y hj i u hu => ?_⟩
    have hc := h6 j y hj i u hu
    obtain ⟨y0, y1⟩ := y
    -- a row's second cell lies at no box of one cell
    have hc1 := h6 j ⟨y0, y1⟩ hj 1 _ rfl
    have hnb : ∀ (g' : Nat) (t : TypeId) (v : Value), Boxed W g' t v → bb ≠ g' := fun g' t v hb e => by
      subst e
      have hh : W.heap[bb]? = some (.cells #[v] t) := hb
      simp only [World.cell?, hh] at hc1
      simp at hc1
    rw [World.cell?_setCell_far _ _ _ _ (by show g + 1 + 1 ≠ bb; exact (hnb _ _ _ hS).symm), World.cell?_setCell_far _ _ _ _ (by show g + 1 ≠ bb; exact (hnb _ _ _ hT).symm), World.cell?_setCell_far _ _ _ _ (by show g ≠ bb; exact (hnb _ _ _ hN).symm)]
    exact hc
  have hGt := hJ.G
  refine ⟨(((KeepsOthers.setCell _ _ _).trans (KeepsOthers.setCell _ _ _)).trans (KeepsOthers.setCell _ _ _)).from _, ⟨(hs _ (by omega) (by omega) (by omega)).trans hJ.b0, (hs _ (by omega) (by omega) (by omega)).trans hJ.b1, (hs _ (by omega) (by omega) (by omega)).trans hJ.b2, (hs _ (by omega) (by omega) (by omega)).trans hJ.T, (hs _ (by omega) (by omega) (by omega)).trans hJ.M, hrow, hJ.F.kept (hs _ (by omega) (by omega) (by omega)), ((hJ.W.setCell (p := ⟨g, 0, none⟩) (by show _ ≤ g; omega) _).setCell (p := ⟨g + 1, 0, none⟩) (by show _ ≤ g + 1; omega) _).setCell (p := ⟨g + 1 + 1, 0, none⟩) (by show _ ≤ g + 1 + 1; omega) _, hJ.G, hJ.GM, hJ.u, hJ.s, hJ.r, hJ.kk⟩, ?_, ?_, ?_, (hs _ (by omega) (by omega) (by omega)).trans hA, hG⟩
  · have := ((hN.set (.int .i64 ((pre.length : Int) + 1))).other (by omega : g ≠ g + 1) (.int .u64 x.t)).other (by omega : g ≠ g + 1 + 1) (.string (str x.s))
    simpa using this
  · rw [e1]; exact ((hT.other (by omega : g + 1 ≠ g) _).set (.int .u64 x.t)).other (by omega : g + 1 ≠ g + 1 + 1) _
  · rw [e2]; exact ((hS.other (by omega : g + 1 + 1 ≠ g) _).other (by omega : g + 1 + 1 ≠ g + 1) _).set _
theorem R1.look {w W : World} {b : Bool} {now g2 g n : Nat} {L pre : List Ms} {f : Txt → Option Nat} {sl : Value} (h : R1 w b now g2 g L f n sl pre W) (x : Ms) (hx : x ∈ L) :
    (Instr.lookup 64 (.map (some (g2 + 1))) (.string (str x.s)) true).run Try.prog W = .ok (.tuple #[.int .u64 x.t, .bool true]) W := by
  have := h.J.F.lookOk (h.J.kk x hx)
  rw [h.J.r.of x hx] at this
  exact this
theorem next_facts {b : Bool} {L pre : List Ms} {x : Ms} (hs : Ls.Srt (ltM b) L) (hu : Ls.Uni sameM L) (h : pre ++ [x] <+: L) : lastT pre ≤ x.t ∧ (b = true → 0 < pre.length → x.t = lastT pre → Op.bytesLess (str x.s).toList (str (lastS pre)).toList = true) := by
  rcases List.eq_nil_or_concat pre with rfl | ⟨p0, p, rfl⟩
  · exact ⟨Nat.zero_le _, fun _ h => by simp at h⟩
  · rw [List.concat_eq_append] at *
    obtain ⟨e1, e2⟩ := last_snoc p0 p
    have := Ls.next_ok hs hu h
    rw [e1, e2, bl]
    exact ⟨this.1, fun hb _ ht => this.2 hb ht.symm⟩
end Go.Proofs.Ytlkdfmfcjlfihaa
