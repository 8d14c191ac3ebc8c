/- Texts; rows in memory of things of so many cells, shown by a slice or a call's own. -/
import Derived.Test.YtpgaepilnbjhbaaLsMath
import Derived.Test.YtpgaepilnbjhbaaChecked
import Derived.WalkKit
import Derived.WalkLawsBesides
import Derived.Below
import Derived.Lib.Hide
import Derived.Lib.Strings
import Derived.Laws.IdiomStrings
import Derived.RegionTactic
import Derived.Deep.RegionWith
import Derived.Deep.RegionHeld3
import Derived.Deep.LoopGhost
import Derived.Deep.QuietTactic
import Derived.Sort.EncStr
import Derived.OwnWalk
import Derived.Maps.AppendAt
import Derived.Deep.DeepCutAuto
import Derived.Laws.AppendOwnNone
import Derived.Lib.AppendZerosOnto
import Derived.Lib.SliceRun
import Derived.Lib.Walk
import Derived.RangeFuncNested
import Derived.RangeFuncBox
set_option maxRecDepth 100000
set_option maxHeartbeats 4000000
set_option linter.unusedVariables false
namespace Go.Proofs.Ytpgaepilnbjhbaa
open Go.RowKit
open Ls (Txt Ln Ms)
def str (l : List UInt8) : ByteArray := ⟨l.toArray⟩
theorem str_data (l : List UInt8) : (str l).data.toList = l := rfl
theorem str_size (l : List UInt8) : (str l).size = l.length := rfl
theorem str_eq (s : ByteArray) : str s.data.toList = s := rfl
theorem strL (t : Txt) : (str t).toList = t := by simp [str, ByteArray.toList_eq]
theorem str_inj {a b : List UInt8} (h : str a = str b) : a = b := congrArg (fun s => s.data.toList) h
theorem ret_int {k : IntKind} {a b : Int} (h : a = b) : Ending.returned (.int k a) = .returned (.int k b) := by rw [h]
theorem ret_bool {a b : Bool} (h : a = b) : Ending.returned (.bool a) = .returned (.bool b) := by rw [h]
theorem below_drewT {B : Nat} {w w' : World} (h : Below B w w') (q : Nat) : Below B w (w'.drewN q) := ⟨h.os, h.tape, h.output, h.size, h.block⟩
theorem below_step {a b c : World} (h : Below a.heap.size a b) (k : Below b.heap.size b c) : Below a.heap.size a c := h.trans (k.mono h.size)
theorem on {B : Nat} {W w1 w2 : World} (h : RowKit.Below B W w1) (hB : B ≤ W.heap.size) (h2 : RowKit.Below w1.heap.size w1 w2) : RowKit.Below B W w2 := h.trans (h2.mono (Nat.le_trans hB h.size))
theorem boxed_below {w w' : World} {b : Nat} {t : TypeId} {v : Value} (h : Boxed w b t v) (hb : Below w.heap.size w w') : Boxed w' b t v := (hb.block b h.lt).trans h
theorem cell_alloc {w : World} {p : Addr} {v : Value} (h : w.cell? p = some v) (o : Obj) : (w.alloc o).cell? p = some v := (((Below.refl w.heap.size w).alloc (Nat.le_refl _) o).cell (p := p) (World.block_lt_of_cell? _ _ h)).trans h
theorem take_snoc {α : Type} {l : List α} {k : Nat} {y : α} (h : l[k]? = some y) : l.take (k + 1) = l.take k ++ [y] := by rw [List.take_add_one, h]; rfl
theorem some_atP {α : Type} {l : List α} {k : Nat} (h : k < l.length) : ∃ x, l[k]? = some x := ⟨l[k], List.getElem?_eq_getElem h⟩
theorem add_plain' (b o j : Nat) : (⟨b, o, none⟩ : Addr).add j = ⟨b, o + j, none⟩ := by
  unfold Addr.add; split <;> simp_all
theorem flat_at {α : Type} (f : α → List Value) (s : Nat) (hf : ∀ x, (f x).length = s) : ∀ (l : List α) (j i : Nat) (p : α), l[j]? = some p → i < s → (l.flatMap f)[j * s + i]? = (f p)[i]?
  | [], j, i, p, h, _ => by simp at h
  | q :: l, 0, i, p, h, hi => by
    simp at h
    subst h
    rw [List.flatMap_cons, List.getElem?_append_left (by rw [hf]; omega)]
    simp
  | q :: l, j + 1, i, p, h, hi => by
    rw [List.flatMap_cons, List.getElem?_append_right (by rw [hf, Nat.add_mul]; omega)]
    rw [show (j + 1) * s + i - (f q).length = j * s + i by rw [hf, Nat.add_mul]; omega]
    exact flat_at f s hf l j i p (by simpa using h) hi
theorem flat_len {α : Type} (f : α → List Value) (s : Nat) (hf : ∀ x, (f x).length = s) (l : List α) : (l.flatMap f).length = l.length * s := by
  induction l with
  | nil => simp
  | cons p l ih => rw [List.flatMap_cons, List.length_append, ih, hf, List.length_cons, Nat.add_mul]; omega
theorem flat_split {α : Type} (f : α → List Value) (s : Nat) (hs : 0 < s) (hf : ∀ x, (f x).length = s) (l : List α) (j : Nat) (u : Value) (h : (l.flatMap f)[j]? = some u) :
    ∃ i r x, l[i]? = some x ∧ r < s ∧ j = i * s + r ∧ (f x)[r]? = some u := by
  have hj : j < l.length * s := by rw [← flat_len f s hf]; exact (List.getElem?_eq_some_iff.1 h).1
  have hi : j / s < l.length := by rw [Nat.div_lt_iff_lt_mul hs]; exact hj
  have hd : j = j / s * s + j % s := by rw [Nat.mul_comm]; exact (Nat.div_add_mod j s).symm
  have hr : j % s < s := Nat.mod_lt _ hs
  refine ⟨j / s, j % s, l[j / s], List.getElem?_eq_getElem hi, hr, hd, ?_⟩
  have := flat_at f s hf l (j / s) (j % s) _ (List.getElem?_eq_getElem hi) hr
  rw [← hd, h] at this
  exact this.symm
/-- How a thing lies in cells. -/
structure Enc {α : Type} (f : α → List Value) (s : Nat) : Prop where
  pos : 0 < s
  len : ∀ x, (f x).length = s
  one : ∀ x, ∀ u ∈ f x, u.oneCell' = true
theorem Enc.flat_one {α : Type} {f : α → List Value} {s : Nat} (E : Enc f s) (l : List α) : ∀ u ∈ l.flatMap f, u.oneCell' = true := by
  intro u hu
  obtain ⟨x, _, h⟩ := List.mem_flatMap.1 hu
  exact E.one x u h
def CellsAt {α : Type} (f : α → List Value) (s : Nat) (w : World) (b o : Nat) (l : List α) : Prop :=
  ∀ (j : Nat) x, l[j]? = some x → ∀ i u, (f x)[i]? = some u → w.cell? ⟨b, o + j * s + i, none⟩ = some u
theorem CellsAt.below {α : Type} {f : α → List Value} {s : Nat} {w w' : World} {b o : Nat} {l : List α} {B : Nat} (h : CellsAt f s w b o l) (hB : B = w.heap.size) (hb : Below B w w') : CellsAt f s w' b o l := by
  subst hB
  intro j x hj i u hu
  have h0 := h j x hj i u hu
  exact (hb.cell (p := ⟨b, o + j * s + i, none⟩) (World.block_lt_of_cell? _ _ h0)).trans h0
theorem CellsAt.flat {α : Type} {f : α → List Value} {s : Nat} (E : Enc f s) {w : World} {b o : Nat} {l : List α} (h : CellsAt f s w b o l) :
    ∀ j u, (l.flatMap f)[j]? = some u → w.cell? ((⟨b, o, none⟩ : Addr).add j) = some u := by
  intro j u hj
  obtain ⟨i, r, x, hi, _, rfl, hu⟩ := flat_split f s E.pos E.len l j u hj
  rw [add_plain', ← Nat.add_assoc]
  exact h i x hi r u hu
theorem CellsAt.take {α : Type} {f : α → List Value} {s : Nat} {w : World} {b o : Nat} {l : List α} (h : CellsAt f s w b o l) (k : Nat) : CellsAt f s w b o (l.take k) := by
  intro j x hj
  rw [List.getElem?_take] at hj
  split at hj
  · exact h j x hj
  · cases hj
theorem CellsAt.drop {α : Type} {f : α → List Value} {s : Nat} {w : World} {b o : Nat} {l : List α} (h : CellsAt f s w b o l) (k : Nat) : CellsAt f s w b (o + k * s) (l.drop k) := by
  intro j x hj i u hu
  rw [List.getElem?_drop] at hj
  have := h (k + j) x hj i u hu
  rw [Nat.add_mul, ← Nat.add_assoc] at this
  exact this
/-- A slice that shows a row. -/
structure SlG {α : Type} (f : α → List Value) (s : Nat) (w : World) (v : Value) (l : List α) : Prop where
  get : ∃ (a : Option Addr) (b o c : Nat), v = .slice a l.length c ∧ l.length ≤ c ∧ c ≤ maxLen ∧ (a = none → c = 0) ∧ (a = none ∨ a = some ⟨b, o, none⟩) ∧ CellsAt f s w b o l
variable {α : Type} {f : α → List Value} {s : Nat} {w w' : World} {v : Value} {l : List α}
theorem SlG.below (h : SlG f s w v l) (hb : Below w.heap.size w w') : SlG f s w' v l := by
  obtain ⟨a, b, o, c, h1, h2, h3, h4, h5, h6⟩ := h.get
  exact ⟨a, b, o, c, h1, h2, h3, h4, h5, h6.below rfl hb⟩
theorem SlG.nil (w : World) : SlG f s w (.slice none 0 0) [] := ⟨none, 0, 0, 0, rfl, Nat.le_refl _, Nat.zero_le _, fun _ => rfl, .inl rfl, fun j x h => by simp at h⟩
theorem SlG.slice (h : SlG f s w v l) : ∃ a c, v = .slice a l.length c := by
  obtain ⟨a, _, _, c, h1, _⟩ := h.get
  exact ⟨a, c, h1⟩
def RowG (f : α → List Value) (s : Nat) (T : TypeId) (w : World) (B : Nat) (v : Value) (l : List α) : Prop := w.ownsRow B T s v l.length (l.flatMap f)
variable {T : TypeId} {B B' : Nat}
theorem RowG.nil (f : α → List Value) (s : Nat) (T : TypeId) (w : World) (B : Nat) : RowG f s T w B (.slice none 0 0) [] := World.ownsRow_nil _ _ _ _
theorem RowG.sl (E : Enc f s) (h : RowG f s T w B v l) : SlG f s w v l := by
  have hw : w.ownsRow B T s v l.length (l.flatMap f) := h
  rcases hw.2 with ⟨rfl, h0⟩ | ⟨g, cap, cur, rfl, _, _, h2, h3, _⟩
  · obtain rfl : l = [] := List.length_eq_zero_iff.1 h0
    exact SlG.nil w
  · refine ⟨_, g, 0, cap, rfl, h2, h3, (fun h => by cases h), .inr rfl, fun j p hj i u hu => ?_⟩
    have hlt := (List.getElem?_eq_some_iff.1 hj).1
    have hi : i < s := by rw [← E.len p]; exact (List.getElem?_eq_some_iff.1 hu).1
    have hm : j * s + i < l.length * s := by
      have : (j + 1) * s ≤ l.length * s := Nat.mul_le_mul_right s hlt
      rw [Nat.add_mul] at this; omega
    rw [Nat.zero_add]
    exact ((hw.cellAt (j * s + i) hm).trans (flat_at f s E.len l j i p hj hi)).trans hu
theorem RowG.below (h : RowG f s T w B v l) (hb : Below w.heap.size w w') : RowG f s T w' B v l := by
  obtain ⟨h0, h1⟩ := h
  refine ⟨h0, ?_⟩
  rcases h1 with h1 | ⟨g, cap, cur, hv, hB, hg, h2, h3, h4, h5⟩
  · exact .inl h1
  · refine .inr ⟨g, cap, cur, hv, hB, ?_, h2, h3, h4, h5⟩
    have hlt : g < w.heap.size := (Array.getElem?_eq_some_iff.1 hg).1
    rw [hb.block g hlt]; exact hg
theorem RowG.base (h : RowG f s T w B v l) (hb : B' ≤ B) : RowG f s T w B' v l := by
  obtain ⟨h0, h1⟩ := h
  refine ⟨h0, ?_⟩
  rcases h1 with h1 | ⟨g, cap, cur, hv, hB, hg, h2, h3, h4, h5⟩
  · exact .inl h1
  · exact .inr ⟨g, cap, cur, hv, Nat.le_trans hb hB, hg, h2, h3, h4, h5⟩
theorem RowG.alloc (h : RowG f s T w B v l) (o : Obj) : RowG f s T (w.alloc o) B v l := World.ownsRow.alloc h o
theorem RowG.lt (h : RowG f s T w B v l) : ∀ k, v.ownBlock = some k → B ≤ k ∧ k < w.heap.size := fun k hk => World.ownsRow.lt h k hk
/-- It stays where its block stays. -/
theorem RowG.keep (h : RowG f s T w B v l) (hk : ∀ g, v.ownBlock = some g → w'.heap[g]? = w.heap[g]?) : RowG f s T w' B v l := by
  obtain ⟨h0, h1⟩ := h
  refine ⟨h0, ?_⟩
  rcases h1 with h1 | ⟨g, cap, cur, hv, hB, hg, h2, h3, h4, h5⟩
  · exact .inl h1
  · refine .inr ⟨g, cap, cur, hv, hB, ?_, h2, h3, h4, h5⟩
    rw [hk g (by rw [hv]; rfl)]; exact hg
theorem RowG.slice (h : RowG f s T w B v l) : ∃ a c, v = .slice a l.length c := by
  obtain ⟨_, h1⟩ := h
  rcases h1 with ⟨rfl, h0⟩ | ⟨g, cap, cur, rfl, _⟩
  · exact ⟨none, 0, by rw [h0]⟩
  · exact ⟨_, _, rfl⟩
theorem RowG.slice' (h : RowG f s T w B v l) : ∃ a n c, v = .slice a n c := by obtain ⟨a, c, h⟩ := h.slice; exact ⟨a, _, c, h⟩
/-- What is told of a type ahead of an append. -/
structure App (TS T : TypeId) (s by_ : Nat) : Prop where
  und : Try.prog.underlying TS = some (.slice T)
  inf : ∃ (i : TypeInfo) (z : Value), Try.prog.info? T = some i ∧ i.zero = some z ∧ i.size = s ∧ i.bytes = by_ ∧ z.cells.size = s
theorem App.mk' {TS T : TypeId} {s by_ : Nat} (h0 : Try.prog.underlying TS = some (.slice T)) (h : (Try.prog.info? T).map (fun i => (i.zero.map (fun z => z.cells.size), i.size, i.bytes)) = some (some s, s, by_)) : App TS T s by_ := by
  cases hi : Try.prog.info? T with
  | none => rw [hi] at h; cases h
  | some i0 =>
    rw [hi] at h
    simp only [Option.map_some, Option.some.injEq, Prod.mk.injEq] at h
    obtain ⟨h1, h2, h3⟩ := h
    cases hz : i0.zero with
    | none => rw [hz] at h1; cases h1
    | some z =>
      rw [hz] at h1
      simp only [Option.map_some, Option.some.injEq] at h1
      exact ⟨h0, i0, z, hi, hz, h2, h3, h1⟩
/-- append of a row that a slice shows. -/
theorem appS {TS : TypeId} {by_ : Nat} (E : Enc f s) (A : App TS T s by_) (hby : by_ ≤ 100) (u : Value) (m : List α) (ty : TypeId) (hB : B ≤ w.heap.size) (hu : RowG f s T w B u l) (hv : SlG f s w v m) (hl : l.length ≤ 300000) (hm : m.length ≤ 300000) :
    ∃ v' w', (Builtin.append_ #[TS, TS] ty #[u, v]).run Try.prog w = .ok v' w' ∧ RowG f s T w' B v' (l ++ m) ∧ w.grownBy w' u.ownBlock ∧ Below B w w' ∧ (v'.ownBlock = u.ownBlock ∨ v'.ownBlock = some w.heap.size) := by
  obtain ⟨i0, z, hi, hz0, hz1, hz2, hzs⟩ := A.inf
  obtain ⟨a, b, o, c, rfl, _, _, ha0, ha, hx⟩ := hv.get
  rcases ha with rfl | rfl
  · obtain rfl : c = 0 := ha0 rfl
    have hm0 : m = [] := by
      have : m.length ≤ 0 := by assumption
      exact List.length_eq_zero_iff.1 (by omega)
    subst hm0
    refine ⟨u, w, run_append_owned_none (P := Try.prog) (w := w) B TS ty T i0 s A.und hi u l.length (l.flatMap f) hu, by rw [List.append_nil]; exact hu, ⟨rfl, rfl, rfl, Nat.le_refl _, fun _ _ _ => rfl⟩, Below.refl _ _, .inl rfl⟩
  · obtain ⟨v', w', hr, h2, h3, _, h5⟩ := run_append_own_at (P := Try.prog) w B TS ty T i0 z s by_ A.und hi hz0 hz1 hz2 hzs E.pos u l.length (l.flatMap f) hu ⟨b, o, none⟩ m.length c (m.flatMap f) (flat_len _ _ E.len _) (hx.flat E) (E.flat_one _) (by unfold maxLen; omega) (by have : (l.length + m.length) * by_ ≤ 600000 * 100 := Nat.mul_le_mul (by omega) hby; omega) hB
    refine ⟨v', w', hr, ?_, h3, (Below.refl _ w).grown h3 hB (fun k hk => (World.ownsRow.lt hu k hk).1), h5⟩
    show w'.ownsRow _ _ _ _ _ _
    rw [List.flatMap_append, List.length_append]; exact h2
/-- append of one thing, laid in a block of its own. -/
theorem app1 {TS : TypeId} {by_ : Nat} (E : Enc f s) (A : App TS T s by_) (hby : by_ ≤ 100) (u : Value) (x : α) (ty : TypeId) (W : World) (hB : B ≤ W.heap.size) (hu : RowG f s T W B u l) (hl : l.length ≤ 300000) (cs : Array Value) (hcs : cs = (f x).toArray) (g : Nat) (hg : W.heap.size = g) :
    ∃ v' w', (Builtin.append_ #[TS, TS] ty #[u, .slice (some ⟨g, 0, none⟩) 1 1]).run Try.prog (W.alloc (.cells cs T)) = .ok v' w' ∧ RowG f s T w' B v' (l ++ [x]) ∧ (W.alloc (.cells cs T)).grownBy w' u.ownBlock ∧ Below B W w' ∧ (v'.ownBlock = u.ownBlock ∨ v'.ownBlock = some (g + 1)) := by
  subst hcs
  have hsl : SlG f s (W.alloc (.cells (f x).toArray T)) (.slice (some ⟨g, 0, none⟩) 1 1) [x] := by
    refine ⟨_, g, 0, 1, rfl, Nat.le_refl _, by unfold maxLen; omega, (fun h => by cases h), .inr rfl, ?_⟩
    intro j y hj i u' hu'
    cases j with
    | succ j => simp at hj
    | zero =>
      simp at hj
      subst hj hg
      rw [Nat.zero_mul, Nat.zero_add, World.cell?_alloc_new]
      simpa using hu'
  obtain ⟨v', w', h1, h2, h3, h4, h5⟩ := appS E A hby u [x] ty (by simp; omega) (hu.alloc (.cells (f x).toArray T)) hsl hl (by simp)
  refine ⟨v', w', h1, h2, h3, ((Below.refl B W).alloc hB _).trans h4, ?_⟩
  rw [World.size_alloc, hg] at h5
  exact h5
/-- A part of what a slice shows. -/
theorem SlG.cut {a : Option Addr} {n c : Nat} (h : SlG f s w (.slice a n c) l) (k : Nat) (hk : k ≤ n) : SlG f s w (.slice a k c) (l.take k) := by
  obtain ⟨a', b, o, c', h1, h2, h3, h4, h5, h6⟩ := h.get
  cases h1
  have hl : (l.take k).length = k := by rw [List.length_take]; omega
  exact ⟨a, b, o, c, by rw [hl], by omega, h3, h4, h5, h6.take k⟩
theorem SlG.tail {b o n c : Nat} (h : SlG f s w (.slice (some ⟨b, o, none⟩) n c) l) (k : Nat) (hk : k ≤ n) : SlG f s w (.slice (some ⟨b, o + k * s, none⟩) (n - k) (c - k)) (l.drop k) ∧ (c = k → SlG f s w (.slice (some ⟨b, o, none⟩) (n - k) (c - k)) (l.drop k)) := by
  obtain ⟨a', b', o', c', h1, h2, h3, h4, h5, h6⟩ := h.get
  cases h1
  have hl : (l.drop k).length = l.length - k := List.length_drop
  rcases h5 with h5 | h5
  · cases h5
  · cases h5
    refine ⟨⟨_, b, o + k * s, c - k, by rw [hl], by omega, by omega, (fun h => by cases h), .inr rfl, h6.drop k⟩, fun hc => ?_⟩
    have he : l.drop k = [] := List.drop_eq_nil_of_le (by omega)
    rw [he]
    exact ⟨_, b, o, c - k, by simp; omega, by simp, by omega, (fun h => by cases h), .inr rfl, fun j x h => by simp at h⟩
/- The two sorts of loans, and what the document has. -/
def cL (x : Ln) : List Value := [.string (str x.q), .int .u64 x.id, .int .u64 x.t]
def cM (x : Ms) : List Value := [.string (str x.s), .int .u64 x.t]
theorem encL : Enc cL 3 := ⟨by decide, fun _ => rfl, fun x u hu => by simp [cL] at hu; rcases hu with rfl | rfl | rfl <;> rfl⟩
theorem encM : Enc cM 2 := ⟨by decide, fun _ => rfl, fun x u hu => by simp [cM] at hu; rcases hu with rfl | rfl <;> rfl⟩
theorem at3 {b o : Nat} {l : List Ln} (h : CellsAt cL 3 w b o l) {k : Nat} {x : Ln} (hx : l[k]? = some x) : w.cell? ⟨b, o + k * 3, none⟩ = some (.string (str x.q)) ∧ w.cell? ⟨b, o + k * 3 + 1, none⟩ = some (.int .u64 x.id) ∧ w.cell? ⟨b, o + k * 3 + 2, none⟩ = some (.int .u64 x.t) :=
  ⟨h k x hx 0 _ rfl, h k x hx 1 _ rfl, h k x hx 2 _ rfl⟩
theorem at2 {b o : Nat} {l : List Ms} (h : CellsAt cM 2 w b o l) {k : Nat} {x : Ms} (hx : l[k]? = some x) : w.cell? ⟨b, o + k * 2, none⟩ = some (.string (str x.s)) ∧ w.cell? ⟨b, o + k * 2 + 1, none⟩ = some (.int .u64 x.t) :=
  ⟨h k x hx 0 _ rfl, h k x hx 1 _ rfl⟩
theorem appL : App 25 80 3 32 := .mk' Try.underlying25 (by kernel_rfl)
theorem appM : App 60 88 2 24 := .mk' Try.underlying60 (by kernel_rfl)
theorem appE : App 29 45 3 32 := .mk' Try.underlying29 (by kernel_rfl)
theorem appK : App 39 34 2 24 := .mk' Try.underlying39 (by kernel_rfl)
theorem appT : App 30 27 2 32 := .mk' Try.underlying30 (by kernel_rfl)
theorem appP : App 31 29 1 24 := .mk' Try.underlying31 (by kernel_rfl)
theorem appX : App 57 9 1 16 := .mk' Try.underlying57 (by kernel_rfl)
/-- A box of two cells. -/
def Boxed2 (W : World) (B : Nat) (t : TypeId) (x0 x1 : Value) : Prop := W.heap[B]? = some (.cells #[x0, x1] t)
theorem Boxed2.lt {W : World} {B : Nat} {t : TypeId} {x0 x1 : Value} (h : Boxed2 W B t x0 x1) : B < W.heap.size := (Array.getElem?_eq_some_iff.1 h).1
theorem Boxed2.c0 {W : World} {B : Nat} {t : TypeId} {x0 x1 : Value} (h : Boxed2 W B t x0 x1) : W.cell? ⟨B, 0, none⟩ = some x0 := by simp [World.cell?, show W.heap[B]? = _ from h]
theorem Boxed2.c1 {W : World} {B : Nat} {t : TypeId} {x0 x1 : Value} (h : Boxed2 W B t x0 x1) : W.cell? ⟨B, 1, none⟩ = some x1 := by simp [World.cell?, show W.heap[B]? = _ from h]
theorem Boxed2.f0 {W : World} {B : Nat} {t : TypeId} {x0 x1 : Value} (h : Boxed2 W B t x0 x1) : W.frozen? ⟨B, 0, none⟩ = false := by simp [World.frozen?, show W.heap[B]? = _ from h]
theorem Boxed2.f1 {W : World} {B : Nat} {t : TypeId} {x0 x1 : Value} (h : Boxed2 W B t x0 x1) : W.frozen? ⟨B, 1, none⟩ = false := by simp [World.frozen?, show W.heap[B]? = _ from h]
theorem Boxed2.new (W : World) (t : TypeId) (x0 x1 : Value) : Boxed2 (W.alloc (.cells #[x0, x1] t)) W.heap.size t x0 x1 := World.alloc_heap_new W _
theorem Boxed2.below {w w' : World} {b : Nat} {t : TypeId} {x0 x1 : Value} (h : Boxed2 w b t x0 x1) (hb : Below w.heap.size w w') : Boxed2 w' b t x0 x1 := (hb.block b h.lt).trans h
theorem Boxed2.alloc {w : World} {b : Nat} {t : TypeId} {x0 x1 : Value} (h : Boxed2 w b t x0 x1) (o : Obj) : Boxed2 (w.alloc o) b t x0 x1 := h.below ((Below.refl _ _).alloc (Nat.le_refl _) o)
theorem Boxed2.other {w : World} {b : Nat} {t : TypeId} {x0 x1 : Value} (h : Boxed2 w b t x0 x1) (a : Addr) (hne : a.block ≠ b) (u : Value) : Boxed2 (w.setCell a u) b t x0 x1 := (Below.heap_setCell w a u b (Ne.symm hne)).trans h
theorem Boxed2.set {w : World} {b : Nat} {t : TypeId} {x0 x1 : Value} (h : Boxed2 w b t x0 x1) (y0 y1 : Value) : Boxed2 ((w.setCell ⟨b, 0, none⟩ y0).setCell ⟨b, 1, none⟩ y1) b t y0 y1 := by
  have hl := h.lt
  have hh : w.heap[b]? = some (.cells #[x0, x1] t) := h
  unfold Boxed2
  simp [World.setCell, Array.getElem?_modify, hh]
theorem boxed_at {w : World} {b g : Nat} {t : TypeId} {v : Value} (h : Boxed w b t v) (e : b = g) : Boxed w g t v := e ▸ h
theorem boxed2_at {w : World} {b g : Nat} {t : TypeId} {x0 x1 : Value} (h : Boxed2 w b t x0 x1) (e : b = g) : Boxed2 w g t x0 x1 := e ▸ h
theorem below_alloc (w : World) (o : Obj) : Below w.heap.size w (w.alloc o) := (Below.refl _ _).alloc (Nat.le_refl _) o
theorem SlG.drewN (h : SlG f s w v l) (q : Nat) : SlG f s (w.drewN q) v l := h.below (below_drewT (Below.refl _ _) q)
@[irreducible] noncomputable def cv (w : World) (g i : Nat) : Value := (w.cell? ⟨g, i, none⟩).getD .nilFunc
theorem cv_of {w : World} {g i : Nat} (h : (w.cell? ⟨g, i, none⟩).isSome = true) : w.cell? ⟨g, i, none⟩ = some (cv w g i) := by
  obtain ⟨v, hv⟩ := Option.isSome_iff_exists.1 h
  unfold cv
  rw [hv]; rfl
theorem isSome_set {w : World} {a p : Addr} {x : Value} (h : (w.cell? p).isSome = true) : ((w.setCell a x).cell? p).isSome = true := by
  obtain ⟨v, hv⟩ := Option.isSome_iff_exists.1 h
  obtain ⟨v', hv'⟩ := cell?_setCell_some (p := a) (x := x) hv
  rw [hv']; rfl
theorem firstF {w w1 : World} {b0 g B : Nat} {t t' : TypeId} {x0 x1 y0 y1 : Value} (hT : Boxed2 w1 b0 t x0 x1) (hR : Boxed2 w1 g t' y0 y1) (hb : Below B w w1) : w1.cell? ⟨b0, 0, none⟩ = some x0 ∧ w1.cell? ⟨b0, 1, none⟩ = some x1 ∧ w1.cell? ⟨g, 0, none⟩ = some (cv w1 g 0) ∧ w1.cell? ⟨g, 1, none⟩ = some (cv w1 g 1) ∧ w1.frozen? ⟨g, 0, none⟩ = false ∧ w1.frozen? ⟨g, 1, none⟩ = false ∧ Below B w w1 :=
  ⟨hT.c0, hT.c1, cv_of (by rw [hR.c0]; rfl), cv_of (by rw [hR.c1]; rfl), hR.f0, hR.f1, hb⟩
theorem stepF {w w1 w2 : World} {b0 g B : Nat} {x0 x1 : Value} (hB : B ≤ w.heap.size) (H : w1.cell? ⟨b0, 0, none⟩ = some x0 ∧ w1.cell? ⟨b0, 1, none⟩ = some x1 ∧ w1.cell? ⟨g, 0, none⟩ = some (cv w1 g 0) ∧ w1.cell? ⟨g, 1, none⟩ = some (cv w1 g 1) ∧ w1.frozen? ⟨g, 0, none⟩ = false ∧ w1.frozen? ⟨g, 1, none⟩ = false ∧ Below B w w1) (hb : Below w1.heap.size w1 w2) : w2.cell? ⟨b0, 0, none⟩ = some x0 ∧ w2.cell? ⟨b0, 1, none⟩ = some x1 ∧ w2.cell? ⟨g, 0, none⟩ = some (cv w2 g 0) ∧ w2.cell? ⟨g, 1, none⟩ = some (cv w2 g 1) ∧ w2.frozen? ⟨g, 0, none⟩ = false ∧ w2.frozen? ⟨g, 1, none⟩ = false ∧ Below B w w2 := by
  obtain ⟨h0, h1, h2, h3, h5, h6, hq⟩ := H
  have hlt : g < w1.heap.size := World.block_lt_of_cell? _ _ h2
  refine ⟨(hb.cell (p := ⟨b0, 0, none⟩) (World.block_lt_of_cell? _ _ h0)).trans h0, (hb.cell (p := ⟨b0, 1, none⟩) (World.block_lt_of_cell? _ _ h1)).trans h1, ?_, ?_, (hb.frozen (p := ⟨g, 0, none⟩) hlt).trans h5, (hb.frozen (p := ⟨g, 1, none⟩) hlt).trans h6, hq.trans (hb.mono (Nat.le_trans hB hq.size))⟩
  · exact cv_of (by rw [hb.cell (p := ⟨g, 0, none⟩) hlt, h2]; rfl)
  · exact cv_of (by rw [hb.cell (p := ⟨g, 1, none⟩) hlt, h3]; rfl)
theorem ltF {w w1 : World} {b0 g B : Nat} {x0 x1 : Value} (H : w1.cell? ⟨b0, 0, none⟩ = some x0 ∧ w1.cell? ⟨b0, 1, none⟩ = some x1 ∧ w1.cell? ⟨g, 0, none⟩ = some (cv w1 g 0) ∧ w1.cell? ⟨g, 1, none⟩ = some (cv w1 g 1) ∧ w1.frozen? ⟨g, 0, none⟩ = false ∧ w1.frozen? ⟨g, 1, none⟩ = false ∧ Below B w w1) : g < w1.heap.size := World.block_lt_of_cell? _ _ H.2.2.1
theorem lastF {w w1 : World} {b0 g B : Nat} {x0 x1 : Value} (H : w1.cell? ⟨b0, 0, none⟩ = some x0 ∧ w1.cell? ⟨b0, 1, none⟩ = some x1 ∧ w1.cell? ⟨g, 0, none⟩ = some (cv w1 g 0) ∧ w1.cell? ⟨g, 1, none⟩ = some (cv w1 g 1) ∧ w1.frozen? ⟨g, 0, none⟩ = false ∧ w1.frozen? ⟨g, 1, none⟩ = false ∧ Below B w w1) : Below B w w1 := H.2.2.2.2.2.2
theorem zF {w w1 w2 : World} {b0 g B : Nat} {x0 x1 : Value} (H : w1.cell? ⟨b0, 0, none⟩ = some x0 ∧ w1.cell? ⟨b0, 1, none⟩ = some x1 ∧ w1.cell? ⟨g, 0, none⟩ = some (cv w1 g 0) ∧ w1.cell? ⟨g, 1, none⟩ = some (cv w1 g 1) ∧ w1.frozen? ⟨g, 0, none⟩ = false ∧ w1.frozen? ⟨g, 1, none⟩ = false ∧ Below B w w1) (hb : Below w1.heap.size w1 w2) : w2.cell? ⟨g, 0, none⟩ = some (cv w2 g 0) ∧ w2.cell? ⟨g, 1, none⟩ = some (cv w2 g 1) := by
  obtain ⟨_, _, h2, h3, _⟩ := H
  have hlt : g < w1.heap.size := World.block_lt_of_cell? _ _ h2
  exact ⟨cv_of (by rw [hb.cell (p := ⟨g, 0, none⟩) hlt, h2]; rfl), cv_of (by rw [hb.cell (p := ⟨g, 1, none⟩) hlt, h3]; rfl)⟩
theorem stepFs {w w1 : World} {b0 g B j : Nat} {x0 x1 y : Value} (H : w1.cell? ⟨b0, 0, none⟩ = some x0 ∧ w1.cell? ⟨b0, 1, none⟩ = some x1 ∧ w1.cell? ⟨g, 0, none⟩ = some (cv w1 g 0) ∧ w1.cell? ⟨g, 1, none⟩ = some (cv w1 g 1) ∧ w1.frozen? ⟨g, 0, none⟩ = false ∧ w1.frozen? ⟨g, 1, none⟩ = false ∧ Below B w w1) (h0 : g ≠ b0) (hg : B ≤ g) : (w1.setCell ⟨g, j, none⟩ y).cell? ⟨b0, 0, none⟩ = some x0 ∧ (w1.setCell ⟨g, j, none⟩ y).cell? ⟨b0, 1, none⟩ = some x1 ∧ (w1.setCell ⟨g, j, none⟩ y).cell? ⟨g, 0, none⟩ = some (cv (w1.setCell ⟨g, j, none⟩ y) g 0) ∧ (w1.setCell ⟨g, j, none⟩ y).cell? ⟨g, 1, none⟩ = some (cv (w1.setCell ⟨g, j, none⟩ y) g 1) ∧ (w1.setCell ⟨g, j, none⟩ y).frozen? ⟨g, 0, none⟩ = false ∧ (w1.setCell ⟨g, j, none⟩ y).frozen? ⟨g, 1, none⟩ = false ∧ Below B w (w1.setCell ⟨g, j, none⟩ y) := by
  obtain ⟨k0, k1, h2, h3, h5, h6, hq⟩ := H
  have hne : (⟨g, j, none⟩ : Addr).block ≠ (⟨b0, 0, none⟩ : Addr).block := h0
  exact ⟨(World.cell?_setCell_far w1 ⟨g, j, none⟩ ⟨b0, 0, none⟩ y h0).trans k0, (World.cell?_setCell_far w1 ⟨g, j, none⟩ ⟨b0, 1, none⟩ y h0).trans k1, cv_of (isSome_set (by rw [h2]; rfl)), cv_of (isSome_set (by rw [h3]; rfl)), (World.frozen?_setCell _ _ _ _).trans h5, (World.frozen?_setCell _ _ _ _).trans h6, hq.setCell hg _⟩
theorem RowG.set (h : RowG f s T w B v l) {a : Addr} (ha : a.block < B) (u : Value) : RowG f s T (w.setCell a u) B v l :=
  h.keep fun g hg => Below.heap_setCell _ _ _ _ (by have := (h.lt g hg).1; omega)
theorem stepC6 {w w1 w2 : World} {B : Nat} {p0 p1 p2 p3 p4 p5 : Addr} {x0 x1 x2 x3 x4 x5 : Value} (hB : B ≤ w.heap.size) (H : w1.cell? p0 = some x0 ∧ w1.cell? p1 = some x1 ∧ w1.cell? p2 = some x2 ∧ w1.cell? p3 = some x3 ∧ w1.cell? p4 = some x4 ∧ w1.cell? p5 = some x5 ∧ Below B w w1) (hb : Below w1.heap.size w1 w2) : w2.cell? p0 = some x0 ∧ w2.cell? p1 = some x1 ∧ w2.cell? p2 = some x2 ∧ w2.cell? p3 = some x3 ∧ w2.cell? p4 = some x4 ∧ w2.cell? p5 = some x5 ∧ Below B w w2 := by
  obtain ⟨h0, h1, h2, h3, h4, h5, hq⟩ := H
  exact ⟨(hb.cell (p := p0) (World.block_lt_of_cell? _ _ h0)).trans h0, (hb.cell (p := p1) (World.block_lt_of_cell? _ _ h1)).trans h1, (hb.cell (p := p2) (World.block_lt_of_cell? _ _ h2)).trans h2, (hb.cell (p := p3) (World.block_lt_of_cell? _ _ h3)).trans h3, (hb.cell (p := p4) (World.block_lt_of_cell? _ _ h4)).trans h4, (hb.cell (p := p5) (World.block_lt_of_cell? _ _ h5)).trans h5, hq.trans (hb.mono (Nat.le_trans hB hq.size))⟩
theorem lastC6 {w w1 : World} {B : Nat} {p0 p1 p2 p3 p4 p5 : Addr} {x0 x1 x2 x3 x4 x5 : Value} (H : w1.cell? p0 = some x0 ∧ w1.cell? p1 = some x1 ∧ w1.cell? p2 = some x2 ∧ w1.cell? p3 = some x3 ∧ w1.cell? p4 = some x4 ∧ w1.cell? p5 = some x5 ∧ Below B w w1) : Below B w w1 := H.2.2.2.2.2.2
theorem stepC4 {w w1 w2 : World} {B : Nat} {p0 p1 p2 p3 : Addr} {x0 x1 x2 x3 : Value} (hB : B ≤ w.heap.size) (H : w1.cell? p0 = some x0 ∧ w1.cell? p1 = some x1 ∧ w1.cell? p2 = some x2 ∧ w1.cell? p3 = some x3 ∧ Below B w w1) (hb : Below w1.heap.size w1 w2) : w2.cell? p0 = some x0 ∧ w2.cell? p1 = some x1 ∧ w2.cell? p2 = some x2 ∧ w2.cell? p3 = some x3 ∧ Below B w w2 := by
  obtain ⟨h0, h1, h2, h3, hq⟩ := H
  exact ⟨(hb.cell (p := p0) (World.block_lt_of_cell? _ _ h0)).trans h0, (hb.cell (p := p1) (World.block_lt_of_cell? _ _ h1)).trans h1, (hb.cell (p := p2) (World.block_lt_of_cell? _ _ h2)).trans h2, (hb.cell (p := p3) (World.block_lt_of_cell? _ _ h3)).trans h3, hq.trans (hb.mono (Nat.le_trans hB hq.size))⟩
theorem lastC4 {w w1 : World} {B : Nat} {p0 p1 p2 p3 : Addr} {x0 x1 x2 x3 : Value} (H : w1.cell? p0 = some x0 ∧ w1.cell? p1 = some x1 ∧ w1.cell? p2 = some x2 ∧ w1.cell? p3 = some x3 ∧ Below B w w1) : Below B w w1 := H.2.2.2.2
theorem store_fn {P : Program} {w : World} {a : Addr} {m : Mode} (f : Fn) (x y : Array Value) : (store a (.func f x y) m).run P w = stored P w a (.func f x y) m := run_store P w a _ m rfl
theorem store_nil {P : Program} {w : World} {a : Addr} {m : Mode} : (store a .nilFunc m).run P w = stored P w a .nilFunc m := run_store P w a _ m rfl
def IsFn (fn : Value) : Prop := (∃ k, fn = .func (.func k) #[] #[]) ∨ fn = .nilFunc
/-- The answer is a row of the call's own. -/
inductive OwnG (f : α → List Value) (s : Nat) (T : TypeId) (l : List α) (w : World) (e : Ending) (w' : World) : Prop
  | mk (v : Value) (he : e = .returned v) (hr : RowG f s T w' w.heap.size v l) (hb : Below w.heap.size w w')
end Go.Proofs.Ytpgaepilnbjhbaa
