/- Texts of one seat, merged. -/
import Derived.Test.YtgmneapgihakgaaGreatDoorZ23
import Derived.Maps.AppendAt
import Derived.Laws.AppendOwnNone
import Derived.OwnWalk
import Derived.RangeFuncBox
import Derived.Test.YtgmneapgihakgaaGreatDoorZ13
import Derived.Test.YtgmneapgihakgaaGreatDoorZ05
import Derived.Test.YtgmneapgihakgaaGreatDoorZ06
import Derived.Deep.LoopGhost
set_option maxRecDepth 100000
set_option maxHeartbeats 4000000
set_option linter.unusedVariables false
/- Rows in memory of things of so many cells; of messages. -/
namespace Go.Proofs.YtgmneapgihakgaaGreatDoor
open Go.RowKit
/-- How a thing lies in cells. -/
structure Enc {α : Type} (f : α → List Value) (s : Nat) : Prop where
  pos : 0 < s
  len : ∀ x, (f x).length = s
  one : ∀ x, ∀ u ∈ f x, u.oneCell' = true
theorem Enc.flat_one {α : Type} {f : α → List Value} {s : Nat} (E : Enc f s) (l : List α) : ∀ u ∈ l.flatMap f, u.oneCell' = true := by
  intro u hu
  obtain ⟨x, _, h⟩ := List.mem_flatMap.1 hu
  exact E.one x u h
def CellsAt {α : Type} (f : α → List Value) (s : Nat) (w : World) (b o : Nat) (l : List α) : Prop :=
  ∀ (j : Nat) x, l[j]? = some x → ∀ i u, (f x)[i]? = some u → w.cell? ⟨b, o + j * s + i, none⟩ = some u
theorem CellsAt.below {α : Type} {f : α → List Value} {s : Nat} {w w' : World} {b o : Nat} {l : List α} {B : Nat} (h : CellsAt f s w b o l) (hB : B = w.heap.size) (hb : Below B w w') : CellsAt f s w' b o l := by
  subst hB
  intro j x hj i u hu
  have h0 := h j x hj i u hu
  exact (hb.cell (p := ⟨b, o + j * s + i, none⟩) (World.block_lt_of_cell? _ _ h0)).trans h0
theorem CellsAt.flat {α : Type} {f : α → List Value} {s : Nat} (E : Enc f s) {w : World} {b o : Nat} {l : List α} (h : CellsAt f s w b o l) :
    ∀ j u, (l.flatMap f)[j]? = some u → w.cell? ((⟨b, o, none⟩ : Addr).add j) = some u := by
  intro j u hj
  obtain ⟨i, r, x, hi, _, rfl, hu⟩ := flat_split f s E.pos E.len l j u hj
  rw [add_plain', ← Nat.add_assoc]
  exact h i x hi r u hu
theorem CellsAt.take {α : Type} {f : α → List Value} {s : Nat} {w : World} {b o : Nat} {l : List α} (h : CellsAt f s w b o l) (k : Nat) : CellsAt f s w b o (l.take k) := by
  intro j x hj
  rw [List.getElem?_take] at hj
  split at hj
  · exact h j x hj
  · cases hj
theorem CellsAt.drop {α : Type} {f : α → List Value} {s : Nat} {w : World} {b o : Nat} {l : List α} (h : CellsAt f s w b o l) (k : Nat) : CellsAt f s w b (o + k * s) (l.drop k) := by
  intro j x hj i u hu
  rw [List.getElem?_drop] at hj
  have := h (k + j) x hj i u hu
  rw [Nat.add_mul, ← Nat.add_assoc] at this
  exact this
/-- A slice that shows a row. -/
structure SlG {α : Type} (f : α → List Value) (s : Nat) (w : World) (v : Value) (l : List α) : Prop where
  get : ∃ (a : Option Addr) (b o c : Nat), v = .slice a l.length c ∧ l.length ≤ c ∧ c ≤ maxLen ∧ (a = none → c = 0) ∧ (a = none ∨ a = some ⟨b, o, none⟩) ∧ CellsAt f s w b o l
variable {α : Type} {f : α → List Value} {s : Nat} {w w' : World} {v : Value} {l : List α}
theorem SlG.below (h : SlG f s w v l) (hb : Below w.heap.size w w') : SlG f s w' v l := by
  obtain ⟨a, b, o, c, h1, h2, h3, h4, h5, h6⟩ := h.get
  exact ⟨a, b, o, c, h1, h2, h3, h4, h5, h6.below rfl hb⟩
theorem SlG.nil (w : World) : SlG f s w (.slice none 0 0) [] := ⟨none, 0, 0, 0, rfl, Nat.le_refl _, Nat.zero_le _, fun _ => rfl, .inl rfl, fun j x h => by simp at h⟩
theorem SlG.slice (h : SlG f s w v l) : ∃ a c, v = .slice a l.length c := by
  obtain ⟨a, _, _, c, h1, _⟩ := h.get
  exact ⟨a, c, h1⟩
def RowG (f : α → List Value) (s : Nat) (T : TypeId) (w : World) (B : Nat) (v : Value) (l : List α) : Prop := w.ownsRow B T s v l.length (l.flatMap f)
variable {T : TypeId} {B B' : Nat}
theorem RowG.nil (f : α → List Value) (s : Nat) (T : TypeId) (w : World) (B : Nat) : RowG f s T w B (.slice none 0 0) [] := World.ownsRow_nil _ _ _ _
theorem RowG.sl (E : Enc f s) (h : RowG f s T w B v l) : SlG f s w v l := by
  have hw : w.ownsRow B T s v l.length (l.flatMap f) := h
  rcases hw.2 with ⟨rfl, h0⟩ | ⟨g, cap, cur, rfl, _, _, h2, h3, _⟩
  · obtain rfl : l = [] := List.length_eq_zero_iff.1 h0
    exact SlG.nil w
  · refine ⟨_, g, 0, cap, rfl, h2, h3, (fun h => by cases h), .inr rfl, fun j p hj i u hu => ?_⟩
    have hlt := (List.getElem?_eq_some_iff.1 hj).1
    have hi : i < s := by rw [← E.len p]; exact (List.getElem?_eq_some_iff.1 hu).1
    have hm : j * s + i < l.length * s := by
      have : (j + 1) * s ≤ l.length * s := Nat.mul_le_mul_right s hlt
      rw [Nat.add_mul] at this; omega
    rw [Nat.zero_add]
    exact ((hw.cellAt (j * s + i) hm).trans (flat_at f s E.len l j i p hj hi)).trans hu
theorem RowG.below (h : RowG f s T w B v l) (hb : Below w.heap.size w w') : RowG f s T w' B v l := by
  obtain ⟨h0, h1⟩ := h
  refine ⟨h0, ?_⟩
  rcases h1 with h1 | ⟨g, cap, cur, hv, hB, hg, h2, h3, h4, h5⟩
  · exact .inl h1
  · refine .inr ⟨g, cap, cur, hv, hB, ?_, h2, h3, h4, h5⟩
    have hlt : g < w.heap.size := (Array.getElem?_eq_some_iff.1 hg).1
    rw [hb.block g hlt]; exact hg
theorem RowG.base (h : RowG f s T w B v l) (hb : B' ≤ B) : RowG f s T w B' v l := by
  obtain ⟨h0, h1⟩ := h
  refine ⟨h0, ?_⟩
  rcases h1 with h1 | ⟨g, cap, cur, hv, hB, hg, h2, h3, h4, h5⟩
  · exact .inl h1
  · exact .inr ⟨g, cap, cur, hv, Nat.le_trans hb hB, hg, h2, h3, h4, h5⟩
theorem RowG.alloc (h : RowG f s T w B v l) (o : Obj) : RowG f s T (w.alloc o) B v l := World.ownsRow.alloc h o
theorem RowG.lt (h : RowG f s T w B v l) : ∀ k, v.ownBlock = some k → B ≤ k ∧ k < w.heap.size := fun k hk => World.ownsRow.lt h k hk
/-- It stays where its block stays. -/
theorem RowG.keep (h : RowG f s T w B v l) (hk : ∀ g, v.ownBlock = some g → w'.heap[g]? = w.heap[g]?) : RowG f s T w' B v l := by
  obtain ⟨h0, h1⟩ := h
  refine ⟨h0, ?_⟩
  rcases h1 with h1 | ⟨g, cap, cur, hv, hB, hg, h2, h3, h4, h5⟩
  · exact .inl h1
  · refine .inr ⟨g, cap, cur, hv, hB, ?_, h2, h3, h4, h5⟩
    rw [hk g (by rw [hv]; rfl)]; exact hg
theorem RowG.slice (h : RowG f s T w B v l) : ∃ a c, v = .slice a l.length c := by
  obtain ⟨_, h1⟩ := h
  rcases h1 with ⟨rfl, h0⟩ | ⟨g, cap, cur, rfl, _⟩
  · exact ⟨none, 0, by rw [h0]⟩
  · exact ⟨_, _, rfl⟩
theorem RowG.slice' (h : RowG f s T w B v l) : ∃ a n c, v = .slice a n c := by obtain ⟨a, c, h⟩ := h.slice; exact ⟨a, _, c, h⟩
/-- What is told of a type ahead of an append. -/
structure App (TS T : TypeId) (s by_ : Nat) : Prop where
  und : Tryz.prog.underlying TS = some (.slice T)
  inf : ∃ (i : TypeInfo) (z : Value), Tryz.prog.info? T = some i ∧ i.zero = some z ∧ i.size = s ∧ i.bytes = by_ ∧ z.cells.size = s
theorem App.mk' {TS T : TypeId} {s by_ : Nat} (h0 : Tryz.prog.underlying TS = some (.slice T)) (h : (Tryz.prog.info? T).map (fun i => (i.zero.map (fun z => z.cells.size), i.size, i.bytes)) = some (some s, s, by_)) : App TS T s by_ := by
  cases hi : Tryz.prog.info? T with
  | none => rw [hi] at h; cases h
  | some i0 =>
    rw [hi] at h
    simp only [Option.map_some, Option.some.injEq, Prod.mk.injEq] at h
    obtain ⟨h1, h2, h3⟩ := h
    cases hz : i0.zero with
    | none => rw [hz] at h1; cases h1
    | some z =>
      rw [hz] at h1
      simp only [Option.map_some, Option.some.injEq] at h1
      exact ⟨h0, i0, z, hi, hz, h2, h3, h1⟩
/-- append of a row that a slice shows. -/
theorem appS {TS : TypeId} {by_ : Nat} (E : Enc f s) (A : App TS T s by_) (hby : by_ ≤ 100) (u : Value) (m : List α) (ty : TypeId) (hB : B ≤ w.heap.size) (hu : RowG f s T w B u l) (hv : SlG f s w v m) (hl : l.length ≤ 300000) (hm : m.length ≤ 300000) :
    ∃ v' w', (Builtin.append_ #[TS, TS] ty #[u, v]).run Tryz.prog w = .ok v' w' ∧ RowG f s T w' B v' (l ++ m) ∧ w.grownBy w' u.ownBlock ∧ Below B w w' ∧ (v'.ownBlock = u.ownBlock ∨ v'.ownBlock = some w.heap.size) := by
  obtain ⟨i0, z, hi, hz0, hz1, hz2, hzs⟩ := A.inf
  obtain ⟨a, b, o, c, rfl, _, _, ha0, ha, hx⟩ := hv.get
  rcases ha with rfl | rfl
  · obtain rfl : c = 0 := ha0 rfl
    have hm0 : m = [] := by
      have : m.length ≤ 0 := by assumption
      exact List.length_eq_zero_iff.1 (by omega)
    subst hm0
    refine ⟨u, w, run_append_owned_none (P := Tryz.prog) (w := w) B TS ty T i0 s A.und hi u l.length (l.flatMap f) hu, by rw [List.append_nil]; exact hu, ⟨rfl, rfl, rfl, Nat.le_refl _, fun _ _ _ => rfl⟩, Below.refl _ _, .inl rfl⟩
  · obtain ⟨v', w', hr, h2, h3, _, h5⟩ := run_append_own_at (P := Tryz.prog) w B TS ty T i0 z s by_ A.und hi hz0 hz1 hz2 hzs E.pos u l.length (l.flatMap f) hu ⟨b, o, none⟩ m.length c (m.flatMap f) (flat_len _ _ E.len _) (hx.flat E) (E.flat_one _) (by unfold maxLen; omega) (by have : (l.length + m.length) * by_ ≤ 600000 * 100 := Nat.mul_le_mul (by omega) hby; omega) hB
    refine ⟨v', w', hr, ?_, h3, (Below.refl _ w).grown h3 hB (fun k hk => (World.ownsRow.lt hu k hk).1), h5⟩
    show w'.ownsRow _ _ _ _ _ _
    rw [List.flatMap_append, List.length_append]; exact h2
/-- append of one thing, laid in a block of its own. -/
theorem app1 {TS : TypeId} {by_ : Nat} (E : Enc f s) (A : App TS T s by_) (hby : by_ ≤ 100) (u : Value) (x : α) (ty : TypeId) (W : World) (hB : B ≤ W.heap.size) (hu : RowG f s T W B u l) (hl : l.length ≤ 300000) (cs : Array Value) (hcs : cs = (f x).toArray) (g : Nat) (hg : W.heap.size = g) :
    ∃ v' w', (Builtin.append_ #[TS, TS] ty #[u, .slice (some ⟨g, 0, none⟩) 1 1]).run Tryz.prog (W.alloc (.cells cs T)) = .ok v' w' ∧ RowG f s T w' B v' (l ++ [x]) ∧ (W.alloc (.cells cs T)).grownBy w' u.ownBlock ∧ Below B W w' ∧ (v'.ownBlock = u.ownBlock ∨ v'.ownBlock = some (g + 1)) := by
  subst hcs
  have hsl : SlG f s (W.alloc (.cells (f x).toArray T)) (.slice (some ⟨g, 0, none⟩) 1 1) [x] := by
    refine ⟨_, g, 0, 1, rfl, Nat.le_refl _, by unfold maxLen; omega, (fun h => by cases h), .inr rfl, ?_⟩
    intro j y hj i u' hu'
    cases j with
    | succ j => simp at hj
    | zero =>
      simp at hj
      subst hj hg
      rw [Nat.zero_mul, Nat.zero_add, World.cell?_alloc_new]
      simpa using hu'
  obtain ⟨v', w', h1, h2, h3, h4, h5⟩ := appS E A hby u [x] ty (by simp; omega) (hu.alloc (.cells (f x).toArray T)) hsl hl (by simp)
  refine ⟨v', w', h1, h2, h3, ((Below.refl B W).alloc hB _).trans h4, ?_⟩
  rw [World.size_alloc, hg] at h5
  exact h5
/-- A part of what a slice shows. -/
theorem SlG.cut {a : Option Addr} {n c : Nat} (h : SlG f s w (.slice a n c) l) (k : Nat) (hk : k ≤ n) : SlG f s w (.slice a k c) (l.take k) := by
  obtain ⟨a', b, o, c', h1, h2, h3, h4, h5, h6⟩ := h.get
  cases h1
  have hl : (l.take k).length = k := by rw [List.length_take]; omega
  exact ⟨a, b, o, c, by rw [hl], by omega, h3, h4, h5, h6.take k⟩
theorem SlG.tail {b o n c : Nat} (h : SlG f s w (.slice (some ⟨b, o, none⟩) n c) l) (k : Nat) (hk : k ≤ n) : SlG f s w (.slice (some ⟨b, o + k * s, none⟩) (n - k) (c - k)) (l.drop k) ∧ (c = k → SlG f s w (.slice (some ⟨b, o, none⟩) (n - k) (c - k)) (l.drop k)) := by
  obtain ⟨a', b', o', c', h1, h2, h3, h4, h5, h6⟩ := h.get
  cases h1
  have hl : (l.drop k).length = l.length - k := List.length_drop
  rcases h5 with h5 | h5
  · cases h5
  · cases h5
    refine ⟨⟨_, b, o + k * s, c - k, by rw [hl], by omega, by omega, (fun h => by cases h), .inr rfl, h6.drop k⟩, fun hc => ?_⟩
    have he : l.drop k = [] := List.drop_eq_nil_of_le (by omega)
    rw [he]
    exact ⟨_, b, o, c - k, by simp; omega, by simp, by omega, (fun h => by cases h), .inr rfl, fun j x h => by simp at h⟩
variable {W : World}
/-- A block of another type is not the row's. -/
theorem RowG.not_row (h : RowG f s T W B v l) {b : Nat} {cur : Array Value} {t : TypeId} (hb : W.heap[b]? = some (.cells cur t)) (hne : t ≠ T) : some b ≠ v.ownBlock := by
  intro e
  obtain ⟨_, h1⟩ := h
  rcases h1 with ⟨rfl, _⟩ | ⟨g, cap, cu, rfl, _, hg, _⟩
  · simp [Value.ownBlock] at e
  · obtain rfl : b = g := by simpa [Value.ownBlock] using e
    rw [hb] at hg
    have := congrArg (fun o : Option Obj => match o with | some (.cells _ t _) => some t | _ => none) hg
    simp at this
    exact hne this
structure Grew (f : α → List Value) (s : Nat) (TS T : TypeId) (B D : Nat) (W w1 : World) (v v' : Value) (l' : List α) : Prop where
  b1 : Boxed w1 D TS v
  b2 : Boxed (w1.setCell ⟨D, 0, none⟩ v') D TS v'
  row : RowG f s T (w1.setCell ⟨D, 0, none⟩ v') B v' l'
  keep : KeepsOthers W (w1.setCell ⟨D, 0, none⟩ v')
  below : Below B W (w1.setCell ⟨D, 0, none⟩ v')
  oth : ∀ (b : Nat) (cur : Array Value) (t : TypeId), W.heap[b]? = some (.cells cur t) → t ≠ T → b ≠ D → (w1.setCell ⟨D, 0, none⟩ v').heap[b]? = some (.cells cur t)
theorem grew {TS : TypeId} {by_ : Nat} (E : Enc f s) (A : App TS T s by_) (hby : by_ ≤ 100) (hne : TS ≠ T) {D : Nat} (hv : Boxed W D TS v) (hrow : RowG f s T W B v l) (hB : B ≤ W.heap.size) (hD : B ≤ D) (hl : l.length ≤ 300000) (x : α) (ty : TypeId) (cs : Array Value) (hcs : cs = (f x).toArray) :
    ∃ v' w1, (Builtin.append_ #[TS, TS] ty #[v, .slice (some ⟨W.heap.size, 0, none⟩) 1 1]).run Tryz.prog (W.alloc (.cells cs T)) = .ok v' w1 ∧ Grew f s TS T B D W w1 v v' (l ++ [x]) := by
  obtain ⟨v', w1, h1, h2, h3, h4, h5⟩ := app1 E A hby v x ty W hB hrow hl cs hcs W.heap.size rfl
  have hv1 : Boxed w1 D TS v := (hv.alloc (.cells cs T)).kept h3 (hrow.not_row hv hne)
  have hrn : some D ≠ v'.ownBlock := h2.not_row hv1 hne
  refine ⟨v', w1, h1, hv1, hv1.set v', ?_, ?_, h4.setCell (p := ⟨D, 0, none⟩) hD _, ?_⟩
  · exact h2.keep fun g hg => Below.heap_setCell _ _ _ _ (by show g ≠ D; intro e; exact hrn (by rw [← e]; exact hg.symm))
  · refine ((KeepsOthers.alloc W (.cells cs T)).trans (KeepsOthers.of_grownBy h3 fun j o ej hj => ?_)).trans (KeepsOthers.setCell _ _ _)
    have hra : RowG f s T (W.alloc (.cells cs T)) B v l := hrow.alloc _
    obtain ⟨_, h6⟩ := hra
    rcases h6 with ⟨rfl, _⟩ | ⟨g, cap, cu, rfl, _, hg, _⟩
    · simp [Value.ownBlock] at ej
    · obtain rfl : g = j := by simpa [Value.ownBlock] using ej
      rw [hg] at hj; cases hj; rfl
  · intro b cur t hb ht hbD
    have hlt : b < W.heap.size := (Array.getElem?_eq_some_iff.1 hb).1
    have ha : (W.alloc (.cells cs T)).heap[b]? = some (.cells cur t) := (Below.heap_alloc W _ b hlt).trans hb
    have hx : w1.heap[b]? = some (.cells cur t) := (h3.block b (Array.getElem?_eq_some_iff.1 ha).1 ((hrow.alloc _).not_row ha ht)).trans ha
    exact (Below.heap_setCell _ _ _ _ (by show b ≠ D; exact hbD)).trans hx
variable {F : Fence} {nF : Nat} {P : Program}
theorem wpListIn_runA (w : World) {ops : Array Oper} {rest : List Oper} {o : Oper} {a : Act} {Q : Exit → Act → World → Prop} (hgd : o.guard = none) (s x : Operand) (t tn : TypeId)
    (ho : o.op = .call { callee := .builtin .append, args := #[s, x], argTypes := #[t, tn] }) (vs vx : Value) (hs : a.eval s = vs) (hx : a.eval x = vx)
    (v' : Value) (w' : World) (hr : (Builtin.append_ #[t, tn] o.type #[vs, vx]).run P w = .ok v' w') (h : wpListIn F nF P ops Q rest (a.put o.dst v') w') : wpListIn F nF P ops Q (o :: rest) a w := by
  refine wpListIn_plain hgd fun K hK => ?_
  unfold Oper.wpIn
  refine ⟨by simp [Oper.about, ho, resolve, Target.leads, Sem.run_pure], ?_⟩
  rw [Oper.semAt_plain F _ _ (by rw [ho]; intro c hc'; cases hc')]
  simp [execOp, ho, resolve, invoke, builtin, hs, hx, hr, Result.andThen]
  exact hK _ _ h
theorem below_drewR {B : Nat} {w w' : World} (h : Below B w w') (q : Nat) : Below B w (w'.drewN q) := ⟨h.os, h.tape, h.output, h.size, h.block⟩
theorem SlG.drewN (h : SlG f s w v l) (q : Nat) : SlG f s (w.drewN q) v l := h.below (below_drewR (Below.refl _ _) q)
def cvMs (m : Ms) : List Value := [.string m.qu, .int .u64 m.id, .int .u32 m.tries, .int .u64 m.expiry, .string m.body]
theorem encMs : Enc cvMs 5 := ⟨by decide, fun _ => rfl, fun x u hu => by simp [cvMs] at hu; rcases hu with rfl | rfl | rfl | rfl | rfl <;> rfl⟩
theorem appMs : App 59 62 5 56 := .mk' Tryz.underlying59 (by kernel_rfl)
theorem atMs {b o : Nat} {l : List Ms} (h : CellsAt cvMs 5 w b o l) {k : Nat} {x : Ms} (hx : l[k]? = some x) : w.cell? ⟨b, o + k * 5, none⟩ = some (.string x.qu) ∧ w.cell? ⟨b, o + k * 5 + 1, none⟩ = some (.int .u64 x.id) ∧ w.cell? ⟨b, o + k * 5 + 2, none⟩ = some (.int .u32 x.tries) ∧ w.cell? ⟨b, o + k * 5 + 3, none⟩ = some (.int .u64 x.expiry) ∧ w.cell? ⟨b, o + k * 5 + 4, none⟩ = some (.string x.body) :=
  ⟨h k x hx 0 _ rfl, h k x hx 1 _ rfl, h k x hx 2 _ rfl, h k x hx 3 _ rfl, h k x hx 4 _ rfl⟩
end Go.Proofs.YtgmneapgihakgaaGreatDoor
/- report.some: lists of numbers. -/
namespace Go.Proofs.YtgmneapgihakgaaGreatDoor
open Go.RowKit
def cX (s : List UInt8) : List Value := [.string (str s)]
theorem encX : Enc cX 1 := ⟨by decide, fun _ => rfl, fun x u hu => by simp [cX] at hu; subst hu; rfl⟩
theorem appX : App 52 9 1 16 := .mk' Tryz.underlying52 (by kernel_rfl)
/-- A list of numbers, with what it is ahead. -/
def someT (ah : List UInt8) (l : List Nat) : List UInt8 := if l = [] then [] else ah ++ [32, 91] ++ Lib.join (l.map dec) [32] ++ [93]
theorem join_len : ∀ l : List Nat, (∀ n ∈ l, n < 18446744073709551616) → (Lib.join (l.map dec) [32]).length ≤ 21 * l.length
  | [], _ => by simp [Lib.join]
  | [n], h => by
    have := dec_len n (h n (by simp))
    rw [List.map_cons, List.map_nil, Lib.join_one, List.length_singleton]; omega
  | n :: m :: l, h => by
    have h1 := dec_len n (h n (by simp))
    have h2 := join_len (m :: l) (fun k hk => h k (by simp at hk ⊢; exact .inr hk))
    have e : Lib.join ((n :: m :: l).map dec) [32] = dec n ++ [32] ++ Lib.join ((m :: l).map dec) [32] := by simp [Lib.join, List.intercalate]
    rw [e]
    simp only [List.length_append, List.length_cons, List.length_nil] at h2 ⊢
    omega
theorem joinB (l : List Nat) : (l.map (fun n => str (dec n))).map (·.data.toList) = l.map dec := by
  rw [List.map_map]; rfl
set_option maxHeartbeats 4000000 in
theorem some64_any (ah : List UInt8) (ha : ah.length ≤ 1000) (l : List Nat) (hl : l.length ≤ 100000) (hb : ∀ n ∈ l, n < 18446744073709551616) (v : Value) (w : World) (hv : SlP (fun n : Nat => .int .u64 n) w v l) (ht : (∀ n ∈ l, n < 100) ∨ Tb w) :
    Calls Tryz.prog 134 #[.string (str ah), v] w fun e w' => e = .returned (.string (str (someT ah l))) ∧ Below w.heap.size w w' := by
  obtain ⟨a, b, o, c, rfl, hab, hx⟩ := hv
  by_cases h0 : l = []
  · subst h0
    have e0 : someT ah [] = [] := if_pos rfl
    rw [e0]
    go_enter Tryz.func134, Tryz.ntmps134
    go_wp2
    go_ret
    exact ⟨rfl, Below.refl _ _⟩
  · have e0 : someT ah l = ah ++ [32, 91] ++ Lib.join (l.map dec) [32] ++ [93] := if_neg h0
    rw [e0]
    obtain rfl : a = some ⟨b, o, none⟩ := hab.resolve_left h0
    have hl0 : 0 < l.length := List.length_pos_iff.2 h0
    have hne : ((l.length : Int) == 0) = false := by simp; omega
    have HX := Lib.hid hx
    have HB := Lib.hid hb
    have HT := Lib.hid ht
    have HL0 := Lib.hid hl0
    have hjl : (Lib.join (l.map dec) [32]).length ≤ 21 * l.length := join_len l (fun n hn => by have := hb n hn; omega)
    have HS : Hid (str ah ++ str [32, 91] ++ str (Lib.join (l.map dec) [32]) ++ str [93] = str (ah ++ [32, 91] ++ Lib.join (l.map dec) [32] ++ [93])) := by
      show _ = _
      rw [str_append, str_append, str_append]
    have hz1 : (str ah).size = ah.length := rfl
    have hz2 : (str (Lib.join (l.map dec) [32])).size = (Lib.join (l.map dec) [32]).length := rfl
    clear hx hab hb ht h0 hl0 e0
    revert HS
    generalize ah ++ [32, 91] ++ Lib.join (l.map dec) [32] ++ [93] = ex
    intro HS
    go_enter Tryz.func134, Tryz.ntmps134
    go_wp2
    go_loopg [5, 13] l.length (fun n r i wr => ∃ k : Nat, k ≤ l.length ∧ n = l.length - k ∧ i = .int .i64 (k : Nat) ∧ Hid (RowG cX 1 9 wr w.heap.size r ((l.take k).map dec)) ∧ Hid (Below w.heap.size w wr))
    case atStart => exact ⟨0, Nat.zero_le _, rfl, rfl, RowG.nil _ _ _ _ _, Below.refl _ _⟩
    case round =>
      obtain ⟨k, hk, rfl, rfl, HR, HE⟩ := hrel
      obtain ⟨ra, rn, rc, rfl⟩ := HR.out.slice'
      by_cases hlt : k < l.length
      · obtain ⟨x, hx⟩ : ∃ x, l[k]? = some x := ⟨_, List.getElem?_eq_getElem hlt⟩
        have hc := HX.out k x hx
        have hc' : wr.cell? ⟨b, o + k, none⟩ = some (.int .u64 x) := (HE.out.cell (p := ⟨b, o + k, none⟩) (World.block_lt_of_cell? _ _ hc)).trans hc
        have hm := List.mem_of_getElem? hx
        have HN := Lib.hid (fun W hW => nm64_any x (HB.out x hm) W (HT.out.elim (fun h => .inl (h x hm)) (fun h => .inr (Tb.below h hW))))
        have HTK : Hid ((l.take (k + 1)).map dec = (l.take k).map dec ++ [dec x]) := by show _ = _; rw [List.take_add_one, hx]; simp
        have hll : l.length ≤ 100000 := hl
        clear hc hx hm
        go_wp2_with (first
          | (go_at_call 129; refine (HN.out _ (by first | exact HE.out)).mono ?_; rintro e w1 ⟨rfl, hb1⟩; obtain ⟨v', w2, hrun, hr2, _, hb2, _⟩ := app1 encX appX (by decide) (.slice ra rn rc) (dec x) 52 w1 (Nat.le_trans HE.out.size hb1.size) (HR.out.below hb1) (by rw [List.length_map, List.length_take]; omega) #[.string (str (dec x))] rfl w1.heap.size rfl; have HR2 := Lib.hid hr2; have HE2 : Hid (Below w.heap.size w w2) := (HE.out.trans (hb1.mono HE.out.size)).trans hb2; clear hr2 hb2)
          | (at_builtin; refine Lib.wpList_append_run _ rfl _ _ _ _ rfl _ _ rfl rfl _ _ hrun ?_))
        go_roundg (l.length - (k + 1))
        case measure => omega
        case rel => exact ⟨k + 1, hlt, rfl, by go_num, by show RowG _ _ _ _ _ _ _; rw [HTK.out]; exact HR2.out, HE2.out⟩
      · obtain rfl : k = l.length := by omega
        have HR' : Hid (RowG cX 1 9 wr w.heap.size (.slice ra rn rc) (l.map dec)) := by have := HR.out; rw [List.take_length] at this; exact this
        obtain ⟨a', b', o', c', h1, h2, h3, h4, h5, h6⟩ := (HR'.out.sl encX).get
        cases h1
        obtain rfl : ra = some ⟨b', o', none⟩ := h5.resolve_left (fun e => by have := h4 e; have := HL0.out; rw [List.length_map] at h2; omega)
        have hcells : ∀ (j : Nat) x, (l.map (fun n => str (dec n)))[j]? = some x → wr.cell? ⟨b', o' + j, none⟩ = some (.string x) := fun j x hj => by
          rw [List.getElem?_map] at hj
          obtain ⟨n, hn, rfl⟩ := Option.map_eq_some_iff.1 hj
          have := h6 j (dec n) (by rw [List.getElem?_map, hn]; rfl) 0 _ rfl
          rw [Nat.mul_one] at this
          exact this
        have hbk : b' < wr.heap.size := by
          obtain ⟨x, hx⟩ : ∃ x, (l.map (fun n => str (dec n)))[0]? = some x := ⟨_, List.getElem?_eq_getElem (by rw [List.length_map]; exact HL0.out)⟩
          exact World.block_lt_of_cell? _ _ (hcells 0 x hx)
        have HJ := Lib.hid (Tryz.strings_Join b' o' rc (l.map (fun n => str (dec n))) ⟨#[32]⟩ wr hcells hbk (by rw [List.length_map]; omega) (by rw [List.length_map] at h2 ⊢; exact h2) (by rw [joinB]; show (Lib.join (l.map dec) [32]).length ≤ _; omega))
        rw [joinB, List.length_map] at HJ
        have hJe : Hid ((⟨(Lib.join (l.map dec) [32]).toArray⟩ : ByteArray) = str (Lib.join (l.map dec) [32])) := rfl
        have HJ2 : Hid (Calls Tryz.prog 222 #[.slice (some ⟨b', o', none⟩) l.length rc, .string ⟨#[32]⟩] wr fun e w' => e = .returned (.string (str (Lib.join (l.map dec) [32]))) ∧ Below wr.heap.size wr w') := HJ.out
        have hlm : (l.map dec).length = l.length := List.length_map _
        clear h2 h3 h4 h5 h6 hcells hbk HJ
        rw [hlm]
        clear hlm
        revert HJ2 HS hjl hz2
        generalize (Lib.join (l.map dec) [32]) = jt
        intro hjl hz2 HS HJ2
        go_wp2_with (go_at_call 222; refine HJ2.out.mono ?_; rintro e w1 ⟨rfl, hb1⟩)
        go_ret
        exact ⟨ret_string HS.out, HE.out.trans (hb1.mono HE.out.size)⟩
set_option maxHeartbeats 4000000 in
theorem some32_any (ah : List UInt8) (ha : ah.length ≤ 1000) (l : List Nat) (hl : l.length ≤ 100000) (hb : ∀ n ∈ l, n < 4294967296) (v : Value) (w : World) (hv : SlP (fun n : Nat => .int .u32 n) w v l) (ht : (∀ n ∈ l, n < 100) ∨ Tb w) :
    Calls Tryz.prog 141 #[.string (str ah), v] w fun e w' => e = .returned (.string (str (someT ah l))) ∧ Below w.heap.size w w' := by
  obtain ⟨a, b, o, c, rfl, hab, hx⟩ := hv
  by_cases h0 : l = []
  · subst h0
    have e0 : someT ah [] = [] := if_pos rfl
    rw [e0]
    go_enter Tryz.func141, Tryz.ntmps141
    go_wp2
    go_ret
    exact ⟨rfl, Below.refl _ _⟩
  · have e0 : someT ah l = ah ++ [32, 91] ++ Lib.join (l.map dec) [32] ++ [93] := if_neg h0
    rw [e0]
    obtain rfl : a = some ⟨b, o, none⟩ := hab.resolve_left h0
    have hl0 : 0 < l.length := List.length_pos_iff.2 h0
    have hne : ((l.length : Int) == 0) = false := by simp; omega
    have HX := Lib.hid hx
    have HB := Lib.hid hb
    have HT := Lib.hid ht
    have HL0 := Lib.hid hl0
    have hjl : (Lib.join (l.map dec) [32]).length ≤ 21 * l.length := join_len l (fun n hn => by have := hb n hn; omega)
    have HS : Hid (str ah ++ str [32, 91] ++ str (Lib.join (l.map dec) [32]) ++ str [93] = str (ah ++ [32, 91] ++ Lib.join (l.map dec) [32] ++ [93])) := by
      show _ = _
      rw [str_append, str_append, str_append]
    have hz1 : (str ah).size = ah.length := rfl
    have hz2 : (str (Lib.join (l.map dec) [32])).size = (Lib.join (l.map dec) [32]).length := rfl
    clear hx hab hb ht h0 hl0 e0
    revert HS
    generalize ah ++ [32, 91] ++ Lib.join (l.map dec) [32] ++ [93] = ex
    intro HS
    go_enter Tryz.func141, Tryz.ntmps141
    go_wp2
    go_loopg [5, 13] l.length (fun n r i wr => ∃ k : Nat, k ≤ l.length ∧ n = l.length - k ∧ i = .int .i64 (k : Nat) ∧ Hid (RowG cX 1 9 wr w.heap.size r ((l.take k).map dec)) ∧ Hid (Below w.heap.size w wr))
    case atStart => exact ⟨0, Nat.zero_le _, rfl, rfl, RowG.nil _ _ _ _ _, Below.refl _ _⟩
    case round =>
      obtain ⟨k, hk, rfl, rfl, HR, HE⟩ := hrel
      obtain ⟨ra, rn, rc, rfl⟩ := HR.out.slice'
      by_cases hlt : k < l.length
      · obtain ⟨x, hx⟩ : ∃ x, l[k]? = some x := ⟨_, List.getElem?_eq_getElem hlt⟩
        have hc := HX.out k x hx
        have hc' : wr.cell? ⟨b, o + k, none⟩ = some (.int .u32 x) := (HE.out.cell (p := ⟨b, o + k, none⟩) (World.block_lt_of_cell? _ _ hc)).trans hc
        have hm := List.mem_of_getElem? hx
        have HN := Lib.hid (fun W hW => nm32_any x (HB.out x hm) W (HT.out.elim (fun h => .inl (h x hm)) (fun h => .inr (Tb.below h hW))))
        have HTK : Hid ((l.take (k + 1)).map dec = (l.take k).map dec ++ [dec x]) := by show _ = _; rw [List.take_add_one, hx]; simp
        have hll : l.length ≤ 100000 := hl
        clear hc hx hm
        go_wp2_with (first
          | (go_at_call 128; refine (HN.out _ (by first | exact HE.out)).mono ?_; rintro e w1 ⟨rfl, hb1⟩; obtain ⟨v', w2, hrun, hr2, _, hb2, _⟩ := app1 encX appX (by decide) (.slice ra rn rc) (dec x) 52 w1 (Nat.le_trans HE.out.size hb1.size) (HR.out.below hb1) (by rw [List.length_map, List.length_take]; omega) #[.string (str (dec x))] rfl w1.heap.size rfl; have HR2 := Lib.hid hr2; have HE2 : Hid (Below w.heap.size w w2) := (HE.out.trans (hb1.mono HE.out.size)).trans hb2; clear hr2 hb2)
          | (at_builtin; refine Lib.wpList_append_run _ rfl _ _ _ _ rfl _ _ rfl rfl _ _ hrun ?_))
        go_roundg (l.length - (k + 1))
        case measure => omega
        case rel => exact ⟨k + 1, hlt, rfl, by go_num, by show RowG _ _ _ _ _ _ _; rw [HTK.out]; exact HR2.out, HE2.out⟩
      · obtain rfl : k = l.length := by omega
        have HR' : Hid (RowG cX 1 9 wr w.heap.size (.slice ra rn rc) (l.map dec)) := by have := HR.out; rw [List.take_length] at this; exact this
        obtain ⟨a', b', o', c', h1, h2, h3, h4, h5, h6⟩ := (HR'.out.sl encX).get
        cases h1
        obtain rfl : ra = some ⟨b', o', none⟩ := h5.resolve_left (fun e => by have := h4 e; have := HL0.out; rw [List.length_map] at h2; omega)
        have hcells : ∀ (j : Nat) x, (l.map (fun n => str (dec n)))[j]? = some x → wr.cell? ⟨b', o' + j, none⟩ = some (.string x) := fun j x hj => by
          rw [List.getElem?_map] at hj
          obtain ⟨n, hn, rfl⟩ := Option.map_eq_some_iff.1 hj
          have := h6 j (dec n) (by rw [List.getElem?_map, hn]; rfl) 0 _ rfl
          rw [Nat.mul_one] at this
          exact this
        have hbk : b' < wr.heap.size := by
          obtain ⟨x, hx⟩ : ∃ x, (l.map (fun n => str (dec n)))[0]? = some x := ⟨_, List.getElem?_eq_getElem (by rw [List.length_map]; exact HL0.out)⟩
          exact World.block_lt_of_cell? _ _ (hcells 0 x hx)
        have HJ := Lib.hid (Tryz.strings_Join b' o' rc (l.map (fun n => str (dec n))) ⟨#[32]⟩ wr hcells hbk (by rw [List.length_map]; omega) (by rw [List.length_map] at h2 ⊢; exact h2) (by rw [joinB]; show (Lib.join (l.map dec) [32]).length ≤ _; omega))
        rw [joinB, List.length_map] at HJ
        have hJe : Hid ((⟨(Lib.join (l.map dec) [32]).toArray⟩ : ByteArray) = str (Lib.join (l.map dec) [32])) := rfl
        have HJ2 : Hid (Calls Tryz.prog 222 #[.slice (some ⟨b', o', none⟩) l.length rc, .string ⟨#[32]⟩] wr fun e w' => e = .returned (.string (str (Lib.join (l.map dec) [32]))) ∧ Below wr.heap.size wr w') := HJ.out
        have hlm : (l.map dec).length = l.length := List.length_map _
        clear h2 h3 h4 h5 h6 hcells hbk HJ
        rw [hlm]
        clear hlm
        revert HJ2 HS hjl hz2
        generalize (Lib.join (l.map dec) [32]) = jt
        intro hjl hz2 HS HJ2
        go_wp2_with (go_at_call 222; refine HJ2.out.mono ?_; rintro e w1 ⟨rfl, hb1⟩)
        go_ret
        exact ⟨ret_string HS.out, HE.out.trans (hb1.mono HE.out.size)⟩
end Go.Proofs.YtgmneapgihakgaaGreatDoor
/- A row that is handed in: of no things the address may be any. -/
namespace Go.Proofs.YtgmneapgihakgaaGreatDoor
open Go.RowKit
/-- A slice that shows a row; of no things its address may be any. -/
structure SlV {α : Type} (f : α → List Value) (s : Nat) (w : World) (v : Value) (l : List α) : Prop where
  get : ∃ (a : Option Addr) (b o c : Nat), v = .slice a l.length c ∧ l.length ≤ c ∧ c ≤ maxLen ∧ (l = [] ∨ a = some ⟨b, o, none⟩) ∧ CellsAt f s w b o l
theorem SlV.below {α : Type} {f : α → List Value} {s : Nat} {w w' : World} {v : Value} {l : List α} (h : SlV f s w v l) (hb : Below w.heap.size w w') : SlV f s w' v l := by
  obtain ⟨a, b, o, c, h1, h2, h3, h4, h6⟩ := h.get
  exact ⟨a, b, o, c, h1, h2, h3, h4, h6.below rfl hb⟩
theorem SlV.nil {α : Type} {f : α → List Value} {s : Nat} (w : World) : SlV f s w (.slice none 0 0) [] := ⟨none, 0, 0, 0, rfl, Nat.le_refl _, Nat.zero_le _, .inl rfl, fun j x h => by simp at h⟩
theorem SlG.v {α : Type} {f : α → List Value} {s : Nat} {w : World} {v : Value} {l : List α} (h : SlG f s w v l) : SlV f s w v l := by
  obtain ⟨a, b, o, c, h1, h2, h3, h4, h5, h6⟩ := h.get
  refine ⟨a, b, o, c, h1, h2, h3, ?_, h6⟩
  rcases h5 with h | h
  · exact .inl (List.length_eq_zero_iff.1 (by have := h4 h; omega))
  · exact .inr h
end Go.Proofs.YtgmneapgihakgaaGreatDoor
