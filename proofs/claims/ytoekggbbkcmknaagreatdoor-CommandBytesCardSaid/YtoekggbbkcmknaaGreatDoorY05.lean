/- Texts of one seat, merged. -/
import Derived.Test.YtoekggbbkcmknaaGreatDoorY02
import Derived.Laws.EntriesVeiled
import Derived.Test.YtoekggbbkcmknaaGreatDoorY04
import Derived.Defers
import Derived.Recover
import Derived.Maps.AppendAt
import Derived.Laws.AppendOwnNone
import Derived.Lib.Walk
import Derived.OwnWalk
import Derived.Deep.LoopGhost
import Derived.Lib.SliceRun
import Derived.Lib.AppendZeros
set_option maxRecDepth 100000
set_option maxHeartbeats 4000000
set_option linter.unusedVariables false
/- The contracts of a pair's codec: pairs, Put, Get. -/
namespace Go.Proofs.YtoekggbbkcmknaaGreatDoor
open Go.RowKit
structure Pr where
  n : Nat
  s : List UInt8
def enc (p : Pr) : List UInt8 := Oc.big 2 p.n ++ (Oc.big 4 p.s.length ++ p.s)
def aggR (p : Pr) : Value := .agg #[.int .u16 p.n, .string (str p.s)]
theorem below_off {w w1 : World} {o : Obj} (h : Below (w.alloc o).drew.heap.size (w.alloc o).drew w1) : Below w.heap.size w w1 :=
  (((Below.refl _ _).alloc (Nat.le_refl _) o).drew).trans (h.mono (by show w.heap.size ≤ (w.alloc o).heap.size; simp))
def getR (s : ByteArray) (e : Int) : Pr × ByteArray × Int :=
  let T := tk s e 2
  let X := txt T.2.1 T.2.2 100
  (⟨Oc.val T.1.data.toList, X.1.data.toList⟩, X.2.1, X.2.2)
theorem stored2 {w : World} {g : Nat} {x0 x1 v0 v1 : Value} (k0 : w.cell? ⟨g, 0, none⟩ = some x0) (k1 : w.cell? ⟨g, 1, none⟩ = some x1) :
    ((w.setCell ⟨g, 0, none⟩ v0).setCell ⟨g, 1, none⟩ v1).cell? ⟨g, 0, none⟩ = some v0 ∧ ((w.setCell ⟨g, 0, none⟩ v0).setCell ⟨g, 1, none⟩ v1).cell? ⟨g, 1, none⟩ = some v1 := by
  have ne01 : (⟨g, 1, none⟩ : Addr) ≠ ⟨g, 0, none⟩ := fun h => by cases h
  have a0 : (w.setCell ⟨g, 0, none⟩ v0).cell? ⟨g, 0, none⟩ = some v0 := World.cell?_setCell_same' _ _ _ (by rw [k0]; rfl)
  have a1 : (w.setCell ⟨g, 0, none⟩ v0).cell? ⟨g, 1, none⟩ = some x1 := by rw [World.cell?_setCell_other _ _ _ _ (fun h => ne01 h.symm), k1]
  refine ⟨?_, World.cell?_setCell_same' _ _ _ (by rw [a1]; rfl)⟩
  rw [World.cell?_setCell_other _ _ _ _ ne01, a0]
theorem stored2_below {w : World} {g B : Nat} {v0 v1 : Value} (hB : B ≤ g) : Below B w ((w.setCell ⟨g, 0, none⟩ v0).setCell ⟨g, 1, none⟩ v1) :=
  ((Below.refl B w).setCell (p := ⟨g, 0, none⟩) hB _).setCell (p := ⟨g, 1, none⟩) hB _
end Go.Proofs.YtoekggbbkcmknaaGreatDoor
/- The contracts of a codec's Bytes and get, at a pair's. -/
namespace Go.Proofs.YtoekggbbkcmknaaGreatDoor
open Go.RowKit
theorem below_step' {a b c : World} (h : Below a.heap.size a b) (k : Below b.heap.size b c) : Below a.heap.size a c := below_step h k
theorem below3 (w : World) (o1 o2 o3 : Obj) : Below w.heap.size w (((w.alloc o1).alloc o2).alloc o3) :=
  below_step (below_step ((Below.refl _ _).alloc (Nat.le_refl _) _) ((Below.refl _ _).alloc (Nat.le_refl _) _)) ((Below.refl _ _).alloc (Nat.le_refl _) _)
theorem size2 (w : World) (o1 o2 : Obj) : ((w.alloc o1).alloc o2).heap.size = w.heap.size + 1 + 1 := by simp
theorem lt3 (w : World) (o1 o2 o3 : Obj) : w.heap.size + 1 + 1 < (((w.alloc o1).alloc o2).alloc o3).heap.size := by simp
theorem cell3 (w : World) (o1 o2 : Obj) (x : Value) (T : TypeId) : (((w.alloc o1).alloc o2).alloc (.cells #[x] T)).cell? ⟨w.heap.size + 1 + 1, 0, none⟩ = some x := by
  have := World.cell?_alloc_new ((w.alloc o1).alloc o2) #[x] T 0
  rw [size2] at this
  exact this
end Go.Proofs.YtoekggbbkcmknaaGreatDoor
/- The codec's get. -/
namespace Go.Proofs.YtoekggbbkcmknaaGreatDoor
open Go.RowKit
attribute [local go_sem ↓] zeroC_eq newC_eq loadC_eq storeC_eq buildC_eq zeroR_eq newR_eq loadR_eq storeR_eq buildR_eq
attribute [local go_sem] run_zeroC run_newC run_buildC0 run_buildC1 run_neqC run_eqlC run_guardC run_zeroR run_newR run_buildR0 run_buildR1 run_neqR run_eqlR run_guardR
def cdc : Value := .agg #[.func (.func 58) #[] #[], .func (.func 18) #[] #[]]
theorem idleB (p : Addr) (w : World) :
    CallsD Tryz.prog 59 #[.pointer (some p)] .returning w fun e u' w' => e = .returned (.tuple #[]) ∧ u' = .returning ∧ w' = w := by
  refine callsD_of_wpS Tryz.func59 rfl fun c₀ cs hu => ?_
  apply wpS_seq
  apply wpS_region
  simp [wpOpsS, go_sem, recoverD, hu, Tryz.ntmps59, Exit.thenS]
  refine wpS_cond (t := false) (by simp [Act.eval, Array.replicate]) ?_
  simp only [Bool.false_eq_true, if_false]
  refine wpS_of_wp (wp_skip ?_)
  cases c₀
  simp_all [bodyPostS, results, Tryz.results59]
theorem idleG (p : Addr) (w : World) :
    CallsD Tryz.prog 101 #[.pointer (some p)] .returning w fun e u' w' => e = .returned (.tuple #[]) ∧ u' = .returning ∧ w' = w := by
  refine callsD_of_wpS Tryz.func101 rfl fun c₀ cs hu => ?_
  apply wpS_seq
  apply wpS_region
  simp [wpOpsS, go_sem, recoverD, hu, Tryz.ntmps101, Exit.thenS]
  refine wpS_cond (t := false) (by simp [Act.eval, Array.replicate]) ?_
  simp only [Bool.false_eq_true, if_false]
  refine wpS_of_wp (wp_skip ?_)
  cases c₀
  simp_all [bodyPostS, results, Tryz.results101]
set_option maxHeartbeats 1500000 in
theorem get_any (b : Nat) (bs : ByteArray) (e : Int) (w : World) (h : Rd w b bs e) (hF : Forms w) (h0 : 0 < b) :
    Calls Tryz.prog 61 #[.agg #[.func (.func 58) #[] #[], .func (.func 18) #[] #[]], .pointer (some ⟨b, 0, none⟩)] w fun x w' => x = .returned (readC bs e).1.agg ∧ Rd w' b (readC bs e).2.1 (readC bs e).2.2 ∧ Mod b w w' := by
  have hmf : ∀ (fn : Fn) (first cap : Array Value) (w : World), (Instr.makeFunc fn first cap).run Tryz.prog w = .ok (.func fn first cap) w := fun _ _ _ _ => rfl
  have HR := Lib.hid h
  have HF := Lib.hid hF
  have HLT := Lib.hid h.lt
  have HNE : Hid (w.heap.size + 1 + 1 ≠ b) := fun he => by have := HLT.out; omega
  clear h hF
  have HG := Lib.hid (fun W (hW : Rd W b bs e) (hV : Forms W) => read_any b bs e W hW hV h0)
  revert HG
  generalize readC bs e = X
  obtain ⟨xc, s1, e1⟩ := X
  intro HG
  simp only at HG ⊢
  go_enter_defers Tryz.func61, Tryz.ntmps61
  go_wp2_with (go_at_call 18; refine (HG.out _ (((HR.out.alloc _).alloc _).alloc _) (((HF.out.alloc _).alloc _).alloc _)).mono ?_; rintro e w1 ⟨rfl, hr1, hm1⟩; have hz1 : BxC w1 (w.heap.size + 1 + 1) (Cm.zero 0) := by { have h9 := (BxC.newC ((w.alloc (.cells #[.func (.func 58) #[] #[], .func (.func 18) #[] #[]] 87)).alloc (.cells #[.pointer (some ⟨b, 0, none⟩)] 52)) (Cm.zero 0)); simp only [World.size_alloc] at h9; exact h9.mod hm1 HNE.out }; have hst := run_storeC hz1 xc)
  obtain ⟨hz2, hz3⟩ := hz1.stored xc
  have hres := run_loadC hz2
  refine leaves_cons (f := 101) (args := #[.pointer (some ⟨w.heap.size + 1, 0, none⟩)]) (by simp) (by simp [go_sem]) ?_
  refine (idleG ⟨w.heap.size + 1, 0, none⟩ _).mono ?_
  rintro e u' w'' ⟨rfl, rfl, rfl⟩
  simp [Leaves, settle]
  exact ⟨_, resC Tryz.results61 _ rfl hres, rfl, hr1.upd hz3 (Ne.symm HNE.out), mod_upd' (Mod.old (Mod.old (Mod.old hm1))) (by omega) hz3⟩
end Go.Proofs.YtoekggbbkcmknaaGreatDoor
/- Rows in memory of commands. -/
namespace Go.Proofs.YtoekggbbkcmknaaGreatDoor
open Go.RowKit
theorem add_plain' (b o j : Nat) : (⟨b, o, none⟩ : Addr).add j = ⟨b, o + j, none⟩ := by
  unfold Addr.add; split <;> simp_all
theorem flat_at {α : Type} (f : α → List Value) (s : Nat) (hf : ∀ x, (f x).length = s) : ∀ (l : List α) (j i : Nat) (p : α), l[j]? = some p → i < s → (l.flatMap f)[j * s + i]? = (f p)[i]?
  | [], j, i, p, h, _ => by simp at h
  | q :: l, 0, i, p, h, hi => by
    simp at h
    subst h
    rw [List.flatMap_cons, List.getElem?_append_left (by rw [hf]; omega)]
    simp
  | q :: l, j + 1, i, p, h, hi => by
    rw [List.flatMap_cons, List.getElem?_append_right (by rw [hf, Nat.add_mul]; omega)]
    rw [show (j + 1) * s + i - (f q).length = j * s + i by rw [hf, Nat.add_mul]; omega]
    exact flat_at f s hf l j i p (by simpa using h) hi
theorem flat_len {α : Type} (f : α → List Value) (s : Nat) (hf : ∀ x, (f x).length = s) (l : List α) : (l.flatMap f).length = l.length * s := by
  induction l with
  | nil => simp
  | cons p l ih => rw [List.flatMap_cons, List.length_append, ih, hf, List.length_cons, Nat.add_mul]; omega
theorem flat_split {α : Type} (f : α → List Value) (s : Nat) (hs : 0 < s) (hf : ∀ x, (f x).length = s) (l : List α) (j : Nat) (u : Value) (h : (l.flatMap f)[j]? = some u) :
    ∃ i r x, l[i]? = some x ∧ r < s ∧ j = i * s + r ∧ (f x)[r]? = some u := by
  have hj : j < l.length * s := by rw [← flat_len f s hf]; exact (List.getElem?_eq_some_iff.1 h).1
  have hi : j / s < l.length := by rw [Nat.div_lt_iff_lt_mul hs]; exact hj
  have hd : j = j / s * s + j % s := by rw [Nat.mul_comm]; exact (Nat.div_add_mod j s).symm
  have hr : j % s < s := Nat.mod_lt _ hs
  refine ⟨j / s, j % s, l[j / s], List.getElem?_eq_getElem hi, hr, hd, ?_⟩
  have := flat_at f s hf l (j / s) (j % s) _ (List.getElem?_eq_getElem hi) hr
  rw [← hd, h] at this
  exact this.symm
/-- How a thing lies in cells. -/
structure Enc {α : Type} (f : α → List Value) (s : Nat) : Prop where
  pos : 0 < s
  len : ∀ x, (f x).length = s
  one : ∀ x, ∀ u ∈ f x, u.oneCell' = true
theorem Enc.flat_one {α : Type} {f : α → List Value} {s : Nat} (E : Enc f s) (l : List α) : ∀ u ∈ l.flatMap f, u.oneCell' = true := by
  intro u hu
  obtain ⟨x, _, h⟩ := List.mem_flatMap.1 hu
  exact E.one x u h
def CellsAt {α : Type} (f : α → List Value) (s : Nat) (w : World) (b o : Nat) (l : List α) : Prop :=
  ∀ (j : Nat) x, l[j]? = some x → ∀ i u, (f x)[i]? = some u → w.cell? ⟨b, o + j * s + i, none⟩ = some u
theorem CellsAt.below {α : Type} {f : α → List Value} {s : Nat} {w w' : World} {b o : Nat} {l : List α} {B : Nat} (h : CellsAt f s w b o l) (hB : B = w.heap.size) (hb : Below B w w') : CellsAt f s w' b o l := by
  subst hB
  intro j x hj i u hu
  have h0 := h j x hj i u hu
  exact (hb.cell (p := ⟨b, o + j * s + i, none⟩) (World.block_lt_of_cell? _ _ h0)).trans h0
theorem CellsAt.flat {α : Type} {f : α → List Value} {s : Nat} (E : Enc f s) {w : World} {b o : Nat} {l : List α} (h : CellsAt f s w b o l) :
    ∀ j u, (l.flatMap f)[j]? = some u → w.cell? ((⟨b, o, none⟩ : Addr).add j) = some u := by
  intro j u hj
  obtain ⟨i, r, x, hi, _, rfl, hu⟩ := flat_split f s E.pos E.len l j u hj
  rw [add_plain', ← Nat.add_assoc]
  exact h i x hi r u hu
theorem CellsAt.take {α : Type} {f : α → List Value} {s : Nat} {w : World} {b o : Nat} {l : List α} (h : CellsAt f s w b o l) (k : Nat) : CellsAt f s w b o (l.take k) := by
  intro j x hj
  rw [List.getElem?_take] at hj
  split at hj
  · exact h j x hj
  · cases hj
theorem CellsAt.drop {α : Type} {f : α → List Value} {s : Nat} {w : World} {b o : Nat} {l : List α} (h : CellsAt f s w b o l) (k : Nat) : CellsAt f s w b (o + k * s) (l.drop k) := by
  intro j x hj i u hu
  rw [List.getElem?_drop] at hj
  have := h (k + j) x hj i u hu
  rw [Nat.add_mul, ← Nat.add_assoc] at this
  exact this
/-- A slice that shows a row. -/
structure SlG {α : Type} (f : α → List Value) (s : Nat) (w : World) (v : Value) (l : List α) : Prop where
  get : ∃ (a : Option Addr) (b o c : Nat), v = .slice a l.length c ∧ l.length ≤ c ∧ c ≤ maxLen ∧ (a = none → c = 0) ∧ (a = none ∨ a = some ⟨b, o, none⟩) ∧ CellsAt f s w b o l
variable {α : Type} {f : α → List Value} {s : Nat} {w w' : World} {v : Value} {l : List α}
theorem SlG.below (h : SlG f s w v l) (hb : Below w.heap.size w w') : SlG f s w' v l := by
  obtain ⟨a, b, o, c, h1, h2, h3, h4, h5, h6⟩ := h.get
  exact ⟨a, b, o, c, h1, h2, h3, h4, h5, h6.below rfl hb⟩
theorem SlG.nil (w : World) : SlG f s w (.slice none 0 0) [] := ⟨none, 0, 0, 0, rfl, Nat.le_refl _, Nat.zero_le _, fun _ => rfl, .inl rfl, fun j x h => by simp at h⟩
theorem SlG.slice (h : SlG f s w v l) : ∃ a c, v = .slice a l.length c := by
  obtain ⟨a, _, _, c, h1, _⟩ := h.get
  exact ⟨a, c, h1⟩
def RowG (f : α → List Value) (s : Nat) (T : TypeId) (w : World) (B : Nat) (v : Value) (l : List α) : Prop := w.ownsRow B T s v l.length (l.flatMap f)
variable {T : TypeId} {B B' : Nat}
theorem RowG.nil (f : α → List Value) (s : Nat) (T : TypeId) (w : World) (B : Nat) : RowG f s T w B (.slice none 0 0) [] := World.ownsRow_nil _ _ _ _
theorem RowG.sl (E : Enc f s) (h : RowG f s T w B v l) : SlG f s w v l := by
  have hw : w.ownsRow B T s v l.length (l.flatMap f) := h
  rcases hw.2 with ⟨rfl, h0⟩ | ⟨g, cap, cur, rfl, _, _, h2, h3, _⟩
  · obtain rfl : l = [] := List.length_eq_zero_iff.1 h0
    exact SlG.nil w
  · refine ⟨_, g, 0, cap, rfl, h2, h3, (fun h => by cases h), .inr rfl, fun j p hj i u hu => ?_⟩
    have hlt := (List.getElem?_eq_some_iff.1 hj).1
    have hi : i < s := by rw [← E.len p]; exact (List.getElem?_eq_some_iff.1 hu).1
    have hm : j * s + i < l.length * s := by
      have : (j + 1) * s ≤ l.length * s := Nat.mul_le_mul_right s hlt
      rw [Nat.add_mul] at this; omega
    rw [Nat.zero_add]
    exact ((hw.cellAt (j * s + i) hm).trans (flat_at f s E.len l j i p hj hi)).trans hu
theorem RowG.below (h : RowG f s T w B v l) (hb : Below w.heap.size w w') : RowG f s T w' B v l := by
  obtain ⟨h0, h1⟩ := h
  refine ⟨h0, ?_⟩
  rcases h1 with h1 | ⟨g, cap, cur, hv, hB, hg, h2, h3, h4, h5⟩
  · exact .inl h1
  · refine .inr ⟨g, cap, cur, hv, hB, ?_, h2, h3, h4, h5⟩
    have hlt : g < w.heap.size := (Array.getElem?_eq_some_iff.1 hg).1
    rw [hb.block g hlt]; exact hg
theorem RowG.base (h : RowG f s T w B v l) (hb : B' ≤ B) : RowG f s T w B' v l := by
  obtain ⟨h0, h1⟩ := h
  refine ⟨h0, ?_⟩
  rcases h1 with h1 | ⟨g, cap, cur, hv, hB, hg, h2, h3, h4, h5⟩
  · exact .inl h1
  · exact .inr ⟨g, cap, cur, hv, Nat.le_trans hb hB, hg, h2, h3, h4, h5⟩
theorem RowG.alloc (h : RowG f s T w B v l) (o : Obj) : RowG f s T (w.alloc o) B v l := World.ownsRow.alloc h o
theorem RowG.lt (h : RowG f s T w B v l) : ∀ k, v.ownBlock = some k → B ≤ k ∧ k < w.heap.size := fun k hk => World.ownsRow.lt h k hk
/-- It stays where its block stays. -/
theorem RowG.keep (h : RowG f s T w B v l) (hk : ∀ g, v.ownBlock = some g → w'.heap[g]? = w.heap[g]?) : RowG f s T w' B v l := by
  obtain ⟨h0, h1⟩ := h
  refine ⟨h0, ?_⟩
  rcases h1 with h1 | ⟨g, cap, cur, hv, hB, hg, h2, h3, h4, h5⟩
  · exact .inl h1
  · refine .inr ⟨g, cap, cur, hv, hB, ?_, h2, h3, h4, h5⟩
    rw [hk g (by rw [hv]; rfl)]; exact hg
theorem RowG.slice (h : RowG f s T w B v l) : ∃ a c, v = .slice a l.length c := by
  obtain ⟨_, h1⟩ := h
  rcases h1 with ⟨rfl, h0⟩ | ⟨g, cap, cur, rfl, _⟩
  · exact ⟨none, 0, by rw [h0]⟩
  · exact ⟨_, _, rfl⟩
theorem RowG.slice' (h : RowG f s T w B v l) : ∃ a n c, v = .slice a n c := by obtain ⟨a, c, h⟩ := h.slice; exact ⟨a, _, c, h⟩
/-- What is told of a type ahead of an append. -/
structure App (TS T : TypeId) (s by_ : Nat) : Prop where
  und : Tryz.prog.underlying TS = some (.slice T)
  inf : ∃ (i : TypeInfo) (z : Value), Tryz.prog.info? T = some i ∧ i.zero = some z ∧ i.size = s ∧ i.bytes = by_ ∧ z.cells.size = s
theorem App.mk' {TS T : TypeId} {s by_ : Nat} (h0 : Tryz.prog.underlying TS = some (.slice T)) (h : (Tryz.prog.info? T).map (fun i => (i.zero.map (fun z => z.cells.size), i.size, i.bytes)) = some (some s, s, by_)) : App TS T s by_ := by
  cases hi : Tryz.prog.info? T with
  | none => rw [hi] at h; cases h
  | some i0 =>
    rw [hi] at h
    simp only [Option.map_some, Option.some.injEq, Prod.mk.injEq] at h
    obtain ⟨h1, h2, h3⟩ := h
    cases hz : i0.zero with
    | none => rw [hz] at h1; cases h1
    | some z =>
      rw [hz] at h1
      simp only [Option.map_some, Option.some.injEq] at h1
      exact ⟨h0, i0, z, hi, hz, h2, h3, h1⟩
/-- append of a row that a slice shows. -/
theorem appS {TS : TypeId} {by_ : Nat} (E : Enc f s) (A : App TS T s by_) (hby : by_ ≤ 300) (u : Value) (m : List α) (ty : TypeId) (hB : B ≤ w.heap.size) (hu : RowG f s T w B u l) (hv : SlG f s w v m) (hl : l.length ≤ 300000) (hm : m.length ≤ 300000) :
    ∃ v' w', (Builtin.append_ #[TS, TS] ty #[u, v]).run Tryz.prog w = .ok v' w' ∧ RowG f s T w' B v' (l ++ m) ∧ w.grownBy w' u.ownBlock ∧ Below B w w' ∧ (v'.ownBlock = u.ownBlock ∨ v'.ownBlock = some w.heap.size) := by
  obtain ⟨i0, z, hi, hz0, hz1, hz2, hzs⟩ := A.inf
  obtain ⟨a, b, o, c, rfl, _, _, ha0, ha, hx⟩ := hv.get
  rcases ha with rfl | rfl
  · obtain rfl : c = 0 := ha0 rfl
    have hm0 : m = [] := by
      have : m.length ≤ 0 := by assumption
      exact List.length_eq_zero_iff.1 (by omega)
    subst hm0
    refine ⟨u, w, run_append_owned_none (P := Tryz.prog) (w := w) B TS ty T i0 s A.und hi u l.length (l.flatMap f) hu, by rw [List.append_nil]; exact hu, ⟨rfl, rfl, rfl, Nat.le_refl _, fun _ _ _ => rfl⟩, Below.refl _ _, .inl rfl⟩
  · obtain ⟨v', w', hr, h2, h3, _, h5⟩ := run_append_own_at (P := Tryz.prog) w B TS ty T i0 z s by_ A.und hi hz0 hz1 hz2 hzs E.pos u l.length (l.flatMap f) hu ⟨b, o, none⟩ m.length c (m.flatMap f) (flat_len _ _ E.len _) (hx.flat E) (E.flat_one _) (by unfold maxLen; omega) (by have : (l.length + m.length) * by_ ≤ 600000 * 300 := Nat.mul_le_mul (by omega) hby; omega) hB
    refine ⟨v', w', hr, ?_, h3, (Below.refl _ w).grown h3 hB (fun k hk => (World.ownsRow.lt hu k hk).1), h5⟩
    show w'.ownsRow _ _ _ _ _ _
    rw [List.flatMap_append, List.length_append]; exact h2
/-- append of one thing, laid in a block of its own. -/
theorem app1 {TS : TypeId} {by_ : Nat} (E : Enc f s) (A : App TS T s by_) (hby : by_ ≤ 300) (u : Value) (x : α) (ty : TypeId) (W : World) (hB : B ≤ W.heap.size) (hu : RowG f s T W B u l) (hl : l.length ≤ 300000) (cs : Array Value) (hcs : cs = (f x).toArray) (g : Nat) (hg : W.heap.size = g) :
    ∃ v' w', (Builtin.append_ #[TS, TS] ty #[u, .slice (some ⟨g, 0, none⟩) 1 1]).run Tryz.prog (W.alloc (.cells cs T)) = .ok v' w' ∧ RowG f s T w' B v' (l ++ [x]) ∧ (W.alloc (.cells cs T)).grownBy w' u.ownBlock ∧ Below B W w' ∧ (v'.ownBlock = u.ownBlock ∨ v'.ownBlock = some (g + 1)) := by
  subst hcs
  have hsl : SlG f s (W.alloc (.cells (f x).toArray T)) (.slice (some ⟨g, 0, none⟩) 1 1) [x] := by
    refine ⟨_, g, 0, 1, rfl, Nat.le_refl _, by unfold maxLen; omega, (fun h => by cases h), .inr rfl, ?_⟩
    intro j y hj i u' hu'
    cases j with
    | succ j => simp at hj
    | zero =>
      simp at hj
      subst hj hg
      rw [Nat.zero_mul, Nat.zero_add, World.cell?_alloc_new]
      simpa using hu'
  obtain ⟨v', w', h1, h2, h3, h4, h5⟩ := appS E A hby u [x] ty (by simp; omega) (hu.alloc (.cells (f x).toArray T)) hsl hl (by simp)
  refine ⟨v', w', h1, h2, h3, ((Below.refl B W).alloc hB _).trans h4, ?_⟩
  rw [World.size_alloc, hg] at h5
  exact h5
/-- A part of what a slice shows. -/
theorem SlG.cut {a : Option Addr} {n c : Nat} (h : SlG f s w (.slice a n c) l) (k : Nat) (hk : k ≤ n) : SlG f s w (.slice a k c) (l.take k) := by
  obtain ⟨a', b, o, c', h1, h2, h3, h4, h5, h6⟩ := h.get
  cases h1
  have hl : (l.take k).length = k := by rw [List.length_take]; omega
  exact ⟨a, b, o, c, by rw [hl], by omega, h3, h4, h5, h6.take k⟩
theorem SlG.tail {b o n c : Nat} (h : SlG f s w (.slice (some ⟨b, o, none⟩) n c) l) (k : Nat) (hk : k ≤ n) : SlG f s w (.slice (some ⟨b, o + k * s, none⟩) (n - k) (c - k)) (l.drop k) ∧ (c = k → SlG f s w (.slice (some ⟨b, o, none⟩) (n - k) (c - k)) (l.drop k)) := by
  obtain ⟨a', b', o', c', h1, h2, h3, h4, h5, h6⟩ := h.get
  cases h1
  have hl : (l.drop k).length = l.length - k := List.length_drop
  rcases h5 with h5 | h5
  · cases h5
  · cases h5
    refine ⟨⟨_, b, o + k * s, c - k, by rw [hl], by omega, by omega, (fun h => by cases h), .inr rfl, h6.drop k⟩, fun hc => ?_⟩
    have he : l.drop k = [] := List.drop_eq_nil_of_le (by omega)
    rw [he]
    exact ⟨_, b, o, c - k, by simp; omega, by simp, by omega, (fun h => by cases h), .inr rfl, fun j x h => by simp at h⟩
theorem encV : Enc Cm.vals 18 := ⟨by decide, fun _ => rfl, fun x u hu => vals_one x u hu⟩
theorem appC : App 22 32 18 208 := .mk' Tryz.underlying22 (by kernel_rfl)
theorem appR : App 49 40 18 208 := .mk' Tryz.underlying49 (by kernel_rfl)
theorem RowG.mod {b : Nat} (h : RowG f s T w B v l) (hm : Mod b w w') (hb : b < B) : RowG f s T w' B v l := own_mod h hm hb
theorem take_snocL {α : Type} {l : List α} {k : Nat} {y : α} (h : l[k]? = some y) : l.take (k + 1) = l.take k ++ [y] := by rw [List.take_add_one, h]; rfl
end Go.Proofs.YtoekggbbkcmknaaGreatDoor
/- The codec; its Read; Parse. -/
namespace Go.Proofs.YtoekggbbkcmknaaGreatDoor
open Go.RowKit
attribute [local go_sem ↓] zeroC_eq newC_eq loadC_eq storeC_eq buildC_eq zeroR_eq newR_eq loadR_eq storeR_eq buildR_eq
attribute [local go_sem] run_zeroC run_newC run_buildC0 run_buildC1 run_neqC run_eqlC run_guardC run_zeroR run_newR run_buildR0 run_buildR1 run_neqR run_eqlR run_guardR
theorem store_fn' {P : Program} {w : World} {a : Addr} {m : Mode} (f : Fn) (x y : Array Value) : (store a (.func f x y) m).run P w = stored P w a (.func f x y) m := run_store P w a _ m rfl
attribute [local go_sem] store_fn'
theorem codec_any (w : World) : Calls Tryz.prog 33 #[] w fun e w' => e = .returned (.agg #[.func (.func 58) #[] #[], .func (.func 18) #[] #[]] : Value) ∧ Below w.heap.size w w' := by
  go_enter Tryz.func33, Tryz.ntmps33
  go_wp2
  exact bodyPost_ret_by (v := (.agg #[.func (.func 58) #[] #[], .func (.func 18) #[] #[]] : Value)) (by simp [results, Tryz.results33, go_sem]) rfl ⟨rfl, (Below.refl _ _).alloc (Nat.le_refl _) _⟩
/-- What Parse answers of any bytes. -/
def readG (s : ByteArray) : Cm × Int :=
  let G := readC s 0
  if fin G.2.1 G.2.2 = 0 then (G.1, 0) else (Cm.zero 0, fin G.2.1 G.2.2)
structure R3 (w : World) (g : Nat) : Prop where
  c0 : w.cell? ⟨g, 0, none⟩ = some (.func (.func 58) #[] #[])
  c1 : w.cell? ⟨g, 1, none⟩ = some (.func (.func 18) #[] #[])
  r : BxC w (g + 1) (Cm.zero 0)
  n : BxC w (g + 1 + 1) (Cm.zero 0)
theorem R3.keep {w w' : World} {g : Nat} (h : R3 w g) (hk : ∀ k, k ≤ g + 1 + 1 → w'.heap[k]? = w.heap[k]?) : R3 w' g := by
  have c : ∀ o, w'.cell? ⟨g, o, none⟩ = w.cell? ⟨g, o, none⟩ := fun o => World.cell?_of_block (w := w) (hk g (by omega))
  exact ⟨(c _).trans h.c0, (c _).trans h.c1, h.r.keep (hk _ (by omega)), h.n.keep (hk _ (by omega))⟩
theorem R3.below {w w' : World} {g : Nat} (h : R3 w g) (hb : Below w.heap.size w w') : R3 w' g := h.keep (fun k hk => hb.block k (by have := h.n.lt; omega))
theorem R3.mod {w w' : World} {g b : Nat} (h : R3 w g) (hm : Mod b w w') (hb : g + 1 + 1 < b) : R3 w' g := h.keep (fun k hk => hm.block k (by have := h.n.lt; omega) (by omega))
theorem R3.alloc {w : World} {g : Nat} (h : R3 w g) (o : Obj) : R3 (w.alloc o) g := h.below ((Below.refl _ _).alloc (Nat.le_refl _) _)
theorem R3.new (w : World) : R3 (((w.alloc (.cells #[.func (.func 58) #[] #[], .func (.func 18) #[] #[]] 87)).alloc (objC (Cm.zero 0))).alloc (objC (Cm.zero 0))) w.heap.size := by
  have h1 := (BxC.newC (w.alloc (.cells #[.func (.func 58) #[] #[], .func (.func 18) #[] #[]] 87)) (Cm.zero 0)).alloc (objC (Cm.zero 0))
  have h2 := BxC.newC ((w.alloc (.cells #[.func (.func 58) #[] #[], .func (.func 18) #[] #[]] 87)).alloc (objC (Cm.zero 0))) (Cm.zero 0)
  simp only [World.size_alloc] at h1 h2
  have o1 : ∀ (W : World) (o : Obj) (b i : Nat), b < W.heap.size → (W.alloc o).cell? ⟨b, i, none⟩ = W.cell? ⟨b, i, none⟩ := fun W o b i h => World.cell?_alloc_old W o ⟨b, i, none⟩ (Nat.ne_of_lt h)
  refine ⟨?_, ?_, h1, h2⟩
  · rw [o1 _ _ _ _ (by simp; omega), o1 _ _ _ _ (by simp), World.cell?_alloc_new]; rfl
  · rw [o1 _ _ _ _ (by simp; omega), o1 _ _ _ _ (by simp), World.cell?_alloc_new]; rfl
theorem size1 (w : World) (o : Obj) : (w.alloc o).heap.size = w.heap.size + 1 := by simp
theorem size3 (w : World) (o1 o2 o3 : Obj) : (((w.alloc o1).alloc o2).alloc o3).heap.size = w.heap.size + 1 + 1 + 1 := by simp
theorem over_at (s : ByteArray) (b : Nat) (w : World) (hb : w.heap.size = b) :
    Calls Tryz.prog 17 #[.string s] w fun e w' => e = .returned (.pointer (some ⟨b, 0, none⟩)) ∧ Rd w' b s 0 ∧ Below w.heap.size w w' := by
  subst hb; exact over_any s w
theorem func_nilG (w : World) : (binOp .eql 57 (.func (.func 18) #[] #[]) .nilFunc).run Tryz.prog w = .ok (.bool false) w := by kernel_rfl
theorem func_nilB (w : World) : (binOp .eql 85 (.func (.func 58) #[] #[]) .nilFunc).run Tryz.prog w = .ok (.bool false) w := by kernel_rfl
theorem resRd {w : World} {g : Nat} {v : Value} {e : Int} {tmps : Array Value} (ht : tmps.getD 4 undef = .pointer (some ⟨g, 0, none⟩)) (h5 : tmps[5]? = some (.int .i64 e)) (hl : (loadC ⟨g, 0, none⟩).run Tryz.prog w = .ok v w) :
    (results Tryz.f38 tmps).run Tryz.prog w = .ok (.tuple #[v, .int .i64 e]) w := by
  have ht' : tmps[4]?.getD undef = .pointer (some ⟨g, 0, none⟩) := by simpa using ht
  have hl' : (loadVar 32 ⟨g, 0, none⟩).run Tryz.prog w = .ok v w := hl
  simp [results, Tryz.results38, ht', h5, asAddr, hl']
theorem resPs {w : World} {g : Nat} {v : Value} {e : Int} {tmps : Array Value} (ht : tmps.getD 2 undef = .pointer (some ⟨g, 0, none⟩)) (h5 : tmps[3]? = some (.int .i64 e)) (hl : (loadC ⟨g, 0, none⟩).run Tryz.prog w = .ok v w) :
    (results Tryz.f13 tmps).run Tryz.prog w = .ok (.tuple #[v, .int .i64 e]) w := by
  have ht' : tmps[2]?.getD undef = .pointer (some ⟨g, 0, none⟩) := by simpa using ht
  have hl' : (loadVar 32 ⟨g, 0, none⟩).run Tryz.prog w = .ok v w := hl
  simp [results, Tryz.results13, ht', h5, asAddr, hl']
set_option maxHeartbeats 1500000 in
theorem cRead_any (s : ByteArray) (w : World) (hF : Forms w) :
    Calls Tryz.prog 38 #[(.agg #[.func (.func 58) #[] #[], .func (.func 18) #[] #[]] : Value), .string s] w fun x w' => x = .returned (.tuple #[(readG s).1.agg, .int .i64 (readG s).2]) ∧ Below w.heap.size w w' := by
  have heq := func_nilG
  have H0 := Lib.hid (R3.new w)
  have HF := Lib.hid (((hF.alloc (.cells #[.func (.func 58) #[] #[], .func (.func 18) #[] #[]] 87)).alloc (objC (Cm.zero 0))).alloc (objC (Cm.zero 0)))
  have HG := Lib.hid (fun b W (hW : Rd W b s 0) (hV : Forms W) (h0 : 0 < b) => get_any b s 0 W hW hV h0)
  unfold readG
  revert HG
  generalize readC s 0 = X
  obtain ⟨xc, s1, e1⟩ := X
  intro HG
  simp only at HG ⊢
  have HE := Lib.hid (fun b W (hW : Rd W b s1 e1) => end_rd b s1 e1 W hW)
  revert HE
  generalize fin s1 e1 = f
  intro HE
  clear hF
  obtain ⟨b, hb⟩ : ∃ b, b = w.heap.size + 1 + 1 + 1 := ⟨_, rfl⟩
  have HBE := Lib.hid hb
  clear hb
  by_cases hf : f = 0
  · subst hf
    rw [if_pos rfl]
    go_enter Tryz.func38, Tryz.ntmps38
    go_wp2_with (first
      | (go_at_call 17; refine (over_at _ b _ (by rw [size3, HBE.out])).mono ?_; rintro e w1 ⟨rfl, hr1, hb1⟩; have HR1 := Lib.hid (H0.out.below hb1); have HF1 := Lib.hid (HF.out.below hb1 HF.out.lt); have q0 := HR1.out.c0; have q1 := HR1.out.c1)
      | (go_at_call 61; refine (HG.out _ _ hr1 HF1.out (by rw [HBE.out]; omega)).mono ?_; rintro e w2 ⟨rfl, hr2, hm2⟩; have HR2 := Lib.hid ((HR1.out.mod hm2 (by rw [HBE.out]; omega)).alloc (objC (Cm.zero 0))); have hn2 := BxC.newC w2 (Cm.zero 0); have hst1 := run_storeC hn2 xc; obtain ⟨hn3, hu3⟩ := hn2.stored xc; have hr3 := (hr2.alloc (objC (Cm.zero 0))).upd hu3 (by have := hr2.lt; omega); have HR3 := Lib.hid (HR2.out.keep (fun k hk => hu3.block k (by have := hr2.lt; rw [HBE.out] at this; omega))); have hld := run_loadC hn3)
      | (go_at_call 62; refine (HE.out _ _ hr3).mono ?_; rintro e w3 ⟨rfl, rfl⟩; have hst2 := run_storeC HR3.out.r xc; obtain ⟨hz1, hz2⟩ := HR3.out.r.stored xc; have hres := run_loadC hz1))
    have hW1 := below_step (below3 w _ _ _) hb1
    have hW2 := hW1.trans (hm2.below (by rw [HBE.out]; omega) hW1.size)
    exact bodyPost_ret_by (resRd rfl rfl hres) rfl ⟨rfl, ((hW2.alloc hW2.size _).trans (hu3.below hW2.size)).trans (hz2.below (Nat.le_succ _))⟩
  · have hf' : (f != 0) = true := by rw [bne_iff_ne]; exact hf
    rw [if_neg hf]
    go_enter Tryz.func38, Tryz.ntmps38
    go_wp2_with (first
      | (go_at_call 17; refine (over_at _ b _ (by rw [size3, HBE.out])).mono ?_; rintro e w1 ⟨rfl, hr1, hb1⟩; have HR1 := Lib.hid (H0.out.below hb1); have HF1 := Lib.hid (HF.out.below hb1 HF.out.lt); have q0 := HR1.out.c0; have q1 := HR1.out.c1)
      | (go_at_call 61; refine (HG.out _ _ hr1 HF1.out (by rw [HBE.out]; omega)).mono ?_; rintro e w2 ⟨rfl, hr2, hm2⟩; have HR2 := Lib.hid ((HR1.out.mod hm2 (by rw [HBE.out]; omega)).alloc (objC (Cm.zero 0))); have hn2 := BxC.newC w2 (Cm.zero 0); have hst1 := run_storeC hn2 xc; obtain ⟨hn3, hu3⟩ := hn2.stored xc; have hr3 := (hr2.alloc (objC (Cm.zero 0))).upd hu3 (by have := hr2.lt; omega); have HR3 := Lib.hid (HR2.out.keep (fun k hk => hu3.block k (by have := hr2.lt; rw [HBE.out] at this; omega))); have hld := run_loadC hn3)
      | (go_at_call 62; refine (HE.out _ _ hr3).mono ?_; rintro e w3 ⟨rfl, rfl⟩; have hst2 := run_storeC HR3.out.r (Cm.zero 0); have hld2 := run_loadC HR3.out.n; obtain ⟨hz1, hz2⟩ := HR3.out.r.stored (Cm.zero 0); have hres := run_loadC hz1))
    have hW1 := below_step (below3 w _ _ _) hb1
    have hW2 := hW1.trans (hm2.below (by rw [HBE.out]; omega) hW1.size)
    exact bodyPost_ret_by (resRd rfl rfl hres) rfl ⟨rfl, ((hW2.alloc hW2.size _).trans (hu3.below hW2.size)).trans (hz2.below (Nat.le_succ _))⟩
set_option maxHeartbeats 1500000 in
theorem parse_any (s : ByteArray) (w : World) (hF : Forms w) :
    Calls Tryz.prog 13 #[.string s] w fun x w' => x = .returned (.tuple #[(readG s).1.agg, .int .i64 (readG s).2]) ∧ Below w.heap.size w w' := by
  have HF := Lib.hid (hF.alloc (objC (Cm.zero 0)))
  have HZ := Lib.hid (BxC.newC w (Cm.zero 0))
  have HR := Lib.hid (fun W (hW : Forms W) => cRead_any s W hW)
  revert HR
  generalize readG s = X
  intro HR
  clear hF
  go_enter Tryz.func13, Tryz.ntmps13
  go_wp2_with (first
    | (go_at_call 33; refine (codec_any _).mono ?_; rintro e w1 ⟨rfl, hb1⟩)
    | (go_at_call 38; refine (HR.out _ (HF.out.below hb1 HF.out.lt)).mono ?_; rintro e w2 ⟨rfl, hb2⟩; have hz2 := (HZ.out.below hb1).below hb2; have hst := run_storeC hz2 X.1; obtain ⟨hz3, hu3⟩ := hz2.stored X.1; have hres := run_loadC hz3))
  exact bodyPost_ret_by (resPs rfl rfl hres) rfl ⟨rfl, (below_step (below_step ((Below.refl _ _).alloc (Nat.le_refl _) _) hb1) hb2).trans (hu3.below (Nat.le_refl _))⟩
end Go.Proofs.YtoekggbbkcmknaaGreatDoor
/- A row of one command, laid. -/
namespace Go.Proofs.YtoekggbbkcmknaaGreatDoor
open Go.RowKit
def bslC (ps : Array (Nat × Value)) : Sem Value := Instr.buildSlice 22 1 ps
theorem bslC_eq (ps : Array (Nat × Value)) : Instr.buildSlice 22 1 ps = bslC ps := rfl
theorem run_bslC (c : Cm) (w : World) : (bslC #[(0, c.agg)]).run Tryz.prog w = .ok (.slice (some ⟨w.heap.size, 0, none⟩) 1 1) (w.alloc (objC c)) := by
  unfold bslC objC Cm.agg Cm.vals
  simp [go_sem]
def bslR (ps : Array (Nat × Value)) : Sem Value := Instr.buildSlice 49 1 ps
theorem bslR_eq (ps : Array (Nat × Value)) : Instr.buildSlice 49 1 ps = bslR ps := rfl
theorem run_bslR (c : Cm) (w : World) : (bslR #[(0, c.agg)]).run Tryz.prog w = .ok (.slice (some ⟨w.heap.size, 0, none⟩) 1 1) (w.alloc (objR c)) := by
  unfold bslR objR Cm.agg Cm.vals
  simp [go_sem]
end Go.Proofs.YtoekggbbkcmknaaGreatDoor
/- The codec's ReadList; ParseBatch. -/
namespace Go.Proofs.YtoekggbbkcmknaaGreatDoor
open Go.RowKit
attribute [local go_sem ↓] zeroC_eq newC_eq loadC_eq storeC_eq buildC_eq zeroR_eq newR_eq loadR_eq storeR_eq buildR_eq
attribute [local go_sem] run_zeroC run_newC run_buildC0 run_buildC1 run_neqC run_eqlC run_guardC run_zeroR run_newR run_buildR0 run_buildR1 run_neqR run_eqlR run_guardR
attribute [local go_sem ↓] bslC_eq bslR_eq
attribute [local go_sem] run_bslC run_bslR
/-- k pairs, one behind the other, as long as no error is there. -/
def getsC : Nat → ByteArray → Int → List Cm × ByteArray × Int
  | 0, s, e => ([], s, e)
  | k + 1, s, e => if e ≠ 0 then ([], s, e) else ((readC s e).1 :: (getsC k (readC s e).2.1 (readC s e).2.2).1, (getsC k (readC s e).2.1 (readC s e).2.2).2)
theorem getsC_bad (k : Nat) (s : ByteArray) (e : Int) (h : e ≠ 0) : getsC k s e = ([], s, e) := by
  cases k with
  | zero => rfl
  | succ k => unfold getsC; rw [if_pos h]
theorem getsC_succ (k : Nat) (s : ByteArray) : getsC (k + 1) s 0 = ((readC s 0).1 :: (getsC k (readC s 0).2.1 (readC s 0).2.2).1, (getsC k (readC s 0).2.1 (readC s 0).2.2).2) := by
  rw [getsC, if_neg (by decide)]
def listC (s : ByteArray) (most : Int) : List Cm × Int :=
  ((getsC (cnt s 0 most 6).1 (cnt s 0 most 6).2.1 (cnt s 0 most 6).2.2).1, fin (getsC (cnt s 0 most 6).1 (cnt s 0 most 6).2.1 (cnt s 0 most 6).2.2).2.1 (getsC (cnt s 0 most 6).1 (cnt s 0 most 6).2.1 (cnt s 0 most 6).2.2).2.2)
theorem cnt_lt (s : ByteArray) (e most x : Int) : (cnt s e most x).1 < 4294967296 := by
  have hv := Nat.lt_of_lt_of_le (Oc.val_lt (tk s e 4).1.data.toList) (Nat.pow_le_pow_right (by omega) (tk_size s e 4))
  unfold cnt
  have hv' : Oc.val (tk s e 4).1.data.toList < 4294967296 := Nat.lt_of_lt_of_le hv (by decide)
  dsimp only
  generalize Oc.val (tk s e 4).1.data.toList = n at hv'
  by_cases h : (n : Int) > (if 0 ≤ most then most else 0)
  · rw [if_pos h]; exact Nat.succ_pos _
  · rw [if_neg h]; exact hv'
theorem cnt_le (s : ByteArray) (most : Int) (hm : most ≤ 64) : (cnt s 0 most 6).1 ≤ 64 := by
  unfold cnt
  dsimp only
  generalize Oc.val (tk s 0 4).1.data.toList = n
  by_cases h : (n : Int) > (if 0 ≤ most then most else 0)
  · rw [if_pos h]; exact Nat.zero_le _
  · rw [if_neg h]
    show n ≤ 64
    split at h <;> omega
inductive ListOut (s : ByteArray) (most : Int) (w : World) (e : Ending) (w' : World) : Prop
  | ok (h0 : (listC s most).2 = 0) (v : Value) (he : e = .returned (.tuple #[v, .int .i64 0])) (hs : SlG Cm.vals 18 w' v (listC s most).1) (hl : (listC s most).1.length ≤ 64) (hb : Below w.heap.size w w')
  | bad (h0 : (listC s most).2 ≠ 0) (he : e = .returned (.tuple #[.slice none 0 0, .int .i64 (listC s most).2])) (hb : Below w.heap.size w w')
structure R1 (w : World) (g : Nat) : Prop where
  c0 : w.cell? ⟨g, 0, none⟩ = some (.func (.func 58) #[] #[])
  c1 : w.cell? ⟨g, 1, none⟩ = some (.func (.func 18) #[] #[])
  fm : Forms w
  lt : g < w.heap.size
  ps : 0 < g
theorem R1.keep {w w' : World} {g : Nat} (h : R1 w g) (h0 : w'.heap[0]? = w.heap[0]?) (hg : w'.heap[g]? = w.heap[g]?) (hs : w.heap.size ≤ w'.heap.size) : R1 w' g := by
  have c : ∀ o, w'.cell? ⟨g, o, none⟩ = w.cell? ⟨g, o, none⟩ := fun o => World.cell?_of_block (w := w) hg
  exact ⟨(c _).trans h.c0, (c _).trans h.c1, h.fm.keep h0, Nat.lt_of_lt_of_le h.lt hs, h.ps⟩
theorem R1.below {w w' : World} {g B : Nat} (h : R1 w g) (hb : Below B w w') (hg : g < B) : R1 w' g := h.keep (hb.block 0 (by omega)) (hb.block g hg) hb.size
theorem R1.mod {w w' : World} {g b : Nat} (h : R1 w g) (hb : Mod b w w') (hg : g < b) : R1 w' g := h.keep (hb.block 0 h.fm.lt (by omega)) (hb.block g h.lt (by omega)) hb.size
theorem R1.upd {w w' : World} {g b : Nat} (h : R1 w g) (hb : Upd b w w') (hg : g < b) : R1 w' g := h.mod ((Mod.refl b w).upd hb) hg
theorem R1.new (w : World) (hF : Forms w) : R1 (w.alloc (.cells #[.func (.func 58) #[] #[], .func (.func 18) #[] #[]] 87)) w.heap.size := ⟨by simp, by simp, hF.alloc _, by simp, hF.lt⟩
set_option maxHeartbeats 4000000 in
set_option maxRecDepth 100000 in
theorem readList_any (s : ByteArray) (most : Int) (hm : most < 9223372036854775808) (hmn : most ≤ 64) (w : World) (hF : Forms w) :
    Calls Tryz.prog 40 #[.agg #[.func (.func 58) #[] #[], .func (.func 18) #[] #[]], .string s, .int .i64 most] w fun e w' => ListOut s most w e w' := by
  have heq := func_nilG
  have H0 := Lib.hid (R1.new w hF)
  obtain ⟨b, hb⟩ : ∃ b, b = w.heap.size + 1 := ⟨_, rfl⟩
  have HBE := Lib.hid hb
  clear hb
  have HC := Lib.hid (fun W (hW : Rd W b s 0) => count_any b s 0 most 6 hm W hW)
  have HN := Lib.hid (cnt_lt s 0 most 6)
  have HN64 := Lib.hid (cnt_le s most hmn)
  have HX : Hid (∀ C, C = cnt s 0 most 6 → listC s most = ((getsC C.1 C.2.1 C.2.2).1, fin (getsC C.1 C.2.1 C.2.2).2.1 (getsC C.1 C.2.1 C.2.2).2.2)) := fun C h => by subst h; rfl
  replace HX := Lib.hid (HX.out _ rfl)
  revert HC HN HN64 HX
  generalize cnt s 0 most 6 = C
  obtain ⟨N, s1, e1⟩ := C
  intro HC HN HN64 HX
  simp only at HC HX HN64
  go_enter Tryz.func40, Tryz.ntmps40
  go_wp2_with (first
      | (go_at_call 17; refine (over_at _ b _ (by rw [size1, HBE.out])).mono ?_; rintro e w1 ⟨rfl, hr1, hb1⟩; have HR1 := Lib.hid (H0.out.below hb1 (by rw [size1]; omega)); have q0 := HR1.out.c0; have q1 := HR1.out.c1)
      | (go_at_call 63; refine (HC.out _ hr1).mono ?_; rintro e w2 ⟨rfl, hr2, hu2⟩))
  have HB2 : Hid (Below w.heap.size w w2) := (below_step ((Below.refl _ _).alloc (Nat.le_refl _) _) hb1).trans (hu2.below (by rw [HBE.out]; omega))
  have HR2 := Lib.hid (HR1.out.upd hu2 (by rw [HBE.out]; omega))
  have HD2 := Lib.hid hr2
  have HLT := Lib.hid hr2.lt
  clear q0 q1 HR1 hr1 hr2 hb1 hu2
  go_loopg [10, 11] N (fun g v i wr => ∃ (k : Nat) (l : List Cm) (t : ByteArray) (f : Int), k ≤ N ∧ g = N - k ∧ i = .int .i64 k ∧ l.length = k ∧
    Hid (getsC N s1 e1 = (l ++ (getsC (N - k) t f).1, (getsC (N - k) t f).2)) ∧ Hid (Rd wr b t f) ∧ Hid (R1 wr w.heap.size) ∧
    Hid (RowG Cm.vals 18 32 wr w2.heap.size v l) ∧ Hid (Below w.heap.size w wr) ∧ Hid (w2.heap.size ≤ wr.heap.size))
  case atStart => exact ⟨0, [], s1, e1, Nat.zero_le _, rfl, rfl, rfl, rfl, HD2.out, HR2.out, RowG.nil _ _ _ _ _, HB2.out, Nat.le_refl _⟩
  case round =>
    obtain ⟨k, l, t, f, hk, rfl, rfl, rfl, HGE, HRd, HR, HO, HB, HS⟩ := hrel
    have hNN := HN.out
    by_cases hgo : l.length < N ∧ f = 0
    · obtain ⟨hlt, rfl⟩ := hgo
      rw [show N - l.length = N - (l.length + 1) + 1 by omega, getsC_succ] at HGE
      have HGT := Lib.hid (fun W (hW : Rd W b t 0) (hV : Forms W) => get_any b t 0 W hW hV (by rw [HBE.out]; omega))
      revert HGT HGE
      generalize readC t 0 = X
      obtain ⟨xc, t', f'⟩ := X
      intro HGE HGT
      simp only at HGT HGE
      have q0 := HR.out.c0
      have q1 := HR.out.c1
      go_wp2_with (first
        | (go_at_call 22; refine (err_any _ _ _ _ HRd.out).mono ?_; rintro e w4 ⟨rfl, rfl⟩)
        | (go_at_call 61; refine (HGT.out _ HRd.out HR.out.fm).mono ?_; rintro e w3 ⟨rfl, hr3, hm3⟩)
        | (at_builtin; (obtain ⟨v', w4, hrun, hO4, hgrow, hB34, _⟩ := app1 (W := w3) encV appC (by decide) _ xc 0 (Nat.le_trans HS.out hm3.size) (RowG.mod HO.out hm3 HLT.out) (by have := HN64.out; omega) (Cm.vals xc).toArray rfl _ rfl; refine Lib.wpList_append_run _ rfl _ _ _ _ rfl _ _ rfl rfl _ _ hrun ?_; have HK := Lib.hid (And.intro hO4 hB34))))
      have hB4 : Below w2.heap.size w3 w4 := HK.out.2
      have hs3 : w2.heap.size ≤ w3.heap.size := Nat.le_trans HS.out hm3.size
      have HO4 := Lib.hid HK.out.1
      have HB34 := Lib.hid hB4
      have HB3 : Hid (Below w.heap.size w w3) := HB.out.trans (hm3.below (by rw [HBE.out]; omega) HB.out.size)
      have HR4 : Hid (R1 w4 w.heap.size) := (HR.out.mod hm3 (by rw [HBE.out]; omega)).below HB34.out (by have := HLT.out; rw [HBE.out] at this; omega)
      have HD4 : Hid (Rd w4 b t' f') := hr3.below' HB34.out HLT.out
      clear hB4 hgrow hm3 hr3 hrun hO4 hB34
      go_wp2
      go_roundg (N - (l.length + 1))
      case measure => omega
      case rel =>
        refine ⟨l.length + 1, l ++ [xc], t', f', by omega, rfl, by go_num, by simp, ?_, HD4, HR4, HO4, HB3.out.trans (HB34.out.mono HB2.out.size), Nat.le_trans hs3 HB34.out.size⟩
        show _ = _
        rw [HGE.out]
        simp
    · have HEQ : Hid (getsC N s1 e1 = (l, t, f)) := by
        show _ = _
        rw [HGE.out]
        by_cases hf : f = 0
        · obtain hk0 : N - l.length = 0 := by have := fun h => hgo ⟨h, hf⟩; omega
          rw [hk0]; simp [getsC]
        · rw [getsC_bad _ _ _ hf]; simp
      have HXE : Hid (listC s most = (l, fin t f)) := by
        show _ = _
        rw [HX.out, HEQ.out]
      have HFT := Lib.hid (end_rd b t f _ HRd.out)
      clear HGE
      obtain ⟨a1, c1, rfl⟩ : ∃ a1 c1, u10 = .slice a1 l.length c1 := by
        rcases HO.out.2 with ⟨h, h0⟩ | ⟨g, cap, cur, h, _⟩
        · exact ⟨none, 0, by rw [h, h0]⟩
        · exact ⟨_, cap, h⟩
      by_cases hlt : l.length < N
      · have hf : f ≠ 0 := fun h => hgo ⟨hlt, h⟩
        have hf' : (f == 0) = false := by rw [beq_eq_false_iff_ne]; exact hf
        (by_cases hz : fin t f = 0
         · rw [hz] at HXE HFT
           go_wp2_with (first
             | (go_at_call 22; refine (err_any _ _ _ _ HRd.out).mono ?_; rintro e w4 ⟨rfl, rfl⟩)
             | (go_at_call 62; refine HFT.out.mono ?_; rintro e w4 ⟨rfl, rfl⟩))
           go_ret2
           exact .ok (by rw [HXE.out]) _ rfl (by rw [HXE.out]; exact RowG.sl encV HO.out) (by rw [HXE.out]; exact Nat.le_trans hk HN64.out) HB.out
         · have hz' : (fin t f != 0) = true := by rw [bne_iff_ne]; exact hz
           revert HFT HXE hz hz'
           generalize fin t f = z
           intro HXE HFT hz hz'
           go_wp2_with (first
             | (go_at_call 22; refine (err_any _ _ _ _ HRd.out).mono ?_; rintro e w4 ⟨rfl, rfl⟩)
             | (go_at_call 62; refine HFT.out.mono ?_; rintro e w4 ⟨rfl, rfl⟩))
           go_ret2
           exact .bad (by rw [HXE.out]; exact hz) (by rw [HXE.out]; rfl) HB.out)
      · (by_cases hz : fin t f = 0
         · rw [hz] at HXE HFT
           go_wp2_with (first
             | (go_at_call 22; refine (err_any _ _ _ _ HRd.out).mono ?_; rintro e w4 ⟨rfl, rfl⟩)
             | (go_at_call 62; refine HFT.out.mono ?_; rintro e w4 ⟨rfl, rfl⟩))
           go_ret2
           exact .ok (by rw [HXE.out]) _ rfl (by rw [HXE.out]; exact RowG.sl encV HO.out) (by rw [HXE.out]; exact Nat.le_trans hk HN64.out) HB.out
         · have hz' : (fin t f != 0) = true := by rw [bne_iff_ne]; exact hz
           revert HFT HXE hz hz'
           generalize fin t f = z
           intro HXE HFT hz hz'
           go_wp2_with (first
             | (go_at_call 22; refine (err_any _ _ _ _ HRd.out).mono ?_; rintro e w4 ⟨rfl, rfl⟩)
             | (go_at_call 62; refine HFT.out.mono ?_; rintro e w4 ⟨rfl, rfl⟩))
           go_ret2
           exact .bad (by rw [HXE.out]; exact hz) (by rw [HXE.out]; rfl) HB.out)
end Go.Proofs.YtoekggbbkcmknaaGreatDoor
/- ParseBatch; rows of the document's commands; whether two are the same. -/
namespace Go.Proofs.YtoekggbbkcmknaaGreatDoor
open Go.RowKit
attribute [local go_sem ↓] zeroC_eq newC_eq loadC_eq storeC_eq buildC_eq zeroR_eq newR_eq loadR_eq storeR_eq buildR_eq
attribute [local go_sem] run_zeroC run_newC run_buildC0 run_buildC1 run_neqC run_eqlC run_guardC run_zeroR run_newR run_buildR0 run_buildR1 run_neqR run_eqlR run_guardR
attribute [local go_sem ↓] bslC_eq bslR_eq
attribute [local go_sem] run_bslC run_bslR
theorem below_drewN' {B : Nat} {w w' : World} (h : Below B w w') (q : Nat) : Below B w (w'.drewN q) := ⟨h.os, h.tape, h.output, h.size, h.block⟩
theorem below_alloc' (w : World) (o : Obj) : Below w.heap.size w (w.alloc o) := (Below.refl _ _).alloc (Nat.le_refl _) o
theorem run_loadAtC {w : World} {b o k : Nat} {l : List Cm} {x : Cm} (h : CellsAt Cm.vals 18 w b o l) (hx : l[k]? = some x) : (loadC ⟨b, o + k * 18, none⟩).run Tryz.prog w = .ok x.agg w := by
  obtain ⟨i, hq, hs⟩ := info_size sizeC
  have hl : (loadCells ⟨b, o + k * 18, none⟩ x.vals.length).run Tryz.prog w = .ok x.vals.toArray w :=
    run_loadCells_list (P := Tryz.prog) w ⟨b, o + k * 18, none⟩ x.vals (fun j v hv => by rw [add_plain']; exact h k x hx j v hv)
  have hl' : (loadCells ⟨b, o + k * 18, none⟩ 18).run Tryz.prog w = .ok x.vals.toArray w := hl
  have hagg : (isAgg 32).run Tryz.prog w = .ok true w := by
    unfold isAgg
    rw [Sem.run_bind, run_underlying Tryz.underlying32 w]
    simp
  unfold loadC loadVar
  simp only [Sem.run_bind, hagg, Result.andThen_ok, if_true, sizeOf, typeInfo]
  simp [hs, hl', hq]
  rfl
theorem run_loadAtR {w : World} {b o k : Nat} {l : List Cm} {x : Cm} (h : CellsAt Cm.vals 18 w b o l) (hx : l[k]? = some x) : (loadR ⟨b, o + k * 18, none⟩).run Tryz.prog w = .ok x.agg w := by
  obtain ⟨i, hq, hs⟩ := info_size sizeR
  have hl : (loadCells ⟨b, o + k * 18, none⟩ x.vals.length).run Tryz.prog w = .ok x.vals.toArray w :=
    run_loadCells_list (P := Tryz.prog) w ⟨b, o + k * 18, none⟩ x.vals (fun j v hv => by rw [add_plain']; exact h k x hx j v hv)
  have hl' : (loadCells ⟨b, o + k * 18, none⟩ 18).run Tryz.prog w = .ok x.vals.toArray w := hl
  have hagg : (isAgg 40).run Tryz.prog w = .ok true w := by
    unfold isAgg
    rw [Sem.run_bind, run_underlying Tryz.underlying40 w]
    simp
  unfold loadR loadVar
  simp only [Sem.run_bind, hagg, Result.andThen_ok, if_true, sizeOf, typeInfo]
  simp [hs, hl', hq]
  rfl
set_option maxHeartbeats 800000 in
theorem parseBatch_any (s : ByteArray) (w : World) (hF : Forms w) :
    Calls Tryz.prog 15 #[.string s] w fun e w' => ListOut s 64 w e w' := by
  have HF := Lib.hid hF
  have HR := Lib.hid (fun W (hW : Forms W) => readList_any s 64 (by decide) (by decide) W hW)
  clear hF
  by_cases h0 : (listC s 64).2 = 0
  · go_enter Tryz.func15, Tryz.ntmps15
    go_wp2_with (first
      | (go_at_call 33; refine (codec_any _).mono ?_; rintro e w1 ⟨rfl, hb1⟩)
      | (go_at_call 40; refine (HR.out _ (HF.out.below hb1 HF.out.lt)).mono ?_; intro e w2 ho; rcases ho with ⟨_, v, rfl, hs, hl, hb2⟩ | ⟨h1, _, _⟩; rotate_left; exact absurd h0 h1))
    go_ret2
    exact .ok h0 _ rfl hs hl (below_step hb1 hb2)
  · go_enter Tryz.func15, Tryz.ntmps15
    go_wp2_with (first
      | (go_at_call 33; refine (codec_any _).mono ?_; rintro e w1 ⟨rfl, hb1⟩)
      | (go_at_call 40; refine (HR.out _ (HF.out.below hb1 HF.out.lt)).mono ?_; intro e w2 ho; rcases ho with ⟨h1, _, _, _, _, _⟩ | ⟨_, rfl, hb2⟩; exact absurd h1 h0))
    go_ret2
    exact .bad h0 rfl (below_step hb1 hb2)
set_option maxHeartbeats 800000 in
theorem to_any (v : Value) (l : List Cm) (hl : l.length ≤ 70) (w : World) (hv : SlG Cm.vals 18 w v l) :
    Calls Tryz.prog 21 #[v] w fun e w' => ∃ v', e = .returned v' ∧ RowG Cm.vals 18 40 w' w.heap.size v' l ∧ Below w.heap.size w w' := by
  obtain ⟨a, b, o, c, rfl, hlc, _, ha0, ha, hx⟩ := hv.get
  have HX := Lib.hid hx
  have HL := Lib.hid hl
  have HA : Hid (l ≠ [] → a = some ⟨b, o, none⟩) := by
    intro hne
    rcases ha with h | h
    · have := ha0 h
      exact absurd (List.length_eq_zero_iff.1 (by omega)) hne
    · exact h
  clear hv hx ha ha0 hlc
  go_enter Tryz.func21, Tryz.ntmps21
  go_wp2
  go_loopg [3, 8] l.length (fun n r i wr => ∃ k : Nat, k ≤ l.length ∧ n = l.length - k ∧ i = .int .i64 k ∧ Hid (RowG Cm.vals 18 40 wr w.heap.size r (l.take k)) ∧ Hid (Below w.heap.size w wr))
  case atStart => exact ⟨0, Nat.zero_le _, rfl, rfl, RowG.nil _ _ _ _ _, Below.refl _ _⟩
  case round =>
    obtain ⟨k, hk, rfl, rfl, HO, HB⟩ := hrel
    by_cases hlt : k < l.length
    · obtain ⟨x, hx⟩ : ∃ x, l[k]? = some x := ⟨_, List.getElem?_eq_getElem hlt⟩
      have hC := run_loadAtC (HX.out.below rfl HB.out) hx
      obtain rfl := HA.out (by intro h; rw [h] at hlt; cases hlt)
      have hn2 := BxC.newC wr (Cm.zero 0)
      have hst1 := run_storeC hn2 x
      obtain ⟨hn3, hu3⟩ := hn2.stored x
      have hld := run_loadC hn3
      have HX2 := Lib.hid (take_snocL hx)
      have HU := Lib.hid hu3
      have hsz3 := hu3.size
      have HSZ := Lib.hid hsz3
      have hB3 := (((below_alloc' wr (objC (Cm.zero 0))).mono HB.out.size)).trans (hu3.below HB.out.size)
      have HB3 := Lib.hid hB3
      have HO3 := Lib.hid (((HO.out.alloc (objC (Cm.zero 0)))).keep (fun g hg => hu3.block g (by have := (HO.out.lt g hg).2; omega)))
      have HTL := Lib.hid (show (l.take k).length ≤ 300000 by rw [List.length_take]; have := HL.out; omega)
      have HBS := Lib.hid (show w.heap.size ≤ (setFrom (wr.alloc (objC (Cm.zero 0))) wr.heap.size 0 x.vals).heap.size by rw [HSZ.out]; have := HB.out.size; simp; omega)
      clear hx hn2 hn3 hu3 hsz3 hB3
      go_wp2_with (at_builtin; obtain ⟨v', w4, hrun, hO4, hgrow, hB4, _⟩ := app1 (W := setFrom (wr.alloc (objC (Cm.zero 0))) wr.heap.size 0 x.vals) encV appR (by decide) _ x 0 HBS.out HO3.out HTL.out (Cm.vals x).toArray rfl _ rfl; refine Lib.wpList_append_run _ rfl _ _ _ _ rfl _ _ rfl rfl _ _ hrun ?_; have HK := Lib.hid (And.intro hO4 hB4))
      go_roundg (l.length - (k + 1))
      case measure => omega
      case rel =>
        have hO4' := HK.out.1
        have hL70 := HL.out
        rw [← HX2.out] at hO4'
        exact ⟨k + 1, by omega, rfl, by go_num, hO4', (HB.out.trans HB3.out).trans HK.out.2⟩
    · obtain rfl : k = l.length := by omega
      rw [List.take_length] at HO
      go_wp2
      go_ret
      exact ⟨_, rfl, HO.out, HB.out⟩
set_option maxHeartbeats 800000 in
theorem same_any (u v : Value) (l m : List Cm) (hl : l.length ≤ 300) (w : World) (hu : SlG Cm.vals 18 w u l) (hv : SlG Cm.vals 18 w v m) :
    Calls Tryz.prog 20 #[u, v] w fun e w' => e = .returned (.bool (decide (l = m))) ∧ Below w.heap.size w w' := by
  obtain ⟨a1, b1, o1, c1, rfl, hlc1, _, ha01, ha1, hx1⟩ := hu.get
  obtain ⟨a2, b2, o2, c2, rfl, hlc2, _, ha02, ha2, hx2⟩ := hv.get
  have HX1 := Lib.hid hx1
  have HX2 := Lib.hid hx2
  have HA1 : Hid (l ≠ [] → a1 = some ⟨b1, o1, none⟩) := by
    intro hne
    rcases ha1 with h | h
    · have := ha01 h
      exact absurd (List.length_eq_zero_iff.1 (by omega)) hne
    · exact h
  have HA2 : Hid (m ≠ [] → a2 = some ⟨b2, o2, none⟩) := by
    intro hne
    rcases ha2 with h | h
    · have := ha02 h
      exact absurd (List.length_eq_zero_iff.1 (by omega)) hne
    · exact h
  clear hu hv hx1 hx2 ha1 ha2 ha01 ha02 hlc1 hlc2
  by_cases hn : l.length = m.length
  · have hl2 : m.length ≤ 300 := by omega
    generalize hr : decide (l = m) = r
    have HR := Lib.hid hr
    have HN := Lib.hid hn
    clear hr
    have hne : ((l.length : Int) != (m.length : Int)) = false := by rw [bne_eq_false_iff_eq]; omega
    clear hn
    go_enter Tryz.func20, Tryz.ntmps20
    go_wp2
    go_loopg [13] l.length (fun n i wr => ∃ k : Nat, k ≤ l.length ∧ n = l.length - k ∧ i = .int .i64 k ∧ Hid (l.take k = m.take k) ∧ Hid (∃ q, wr = w.drewN q))
    case atStart => exact ⟨0, Nat.zero_le _, rfl, rfl, rfl, 0, rfl⟩
    case round =>
      obtain ⟨k, hk, rfl, rfl, HE, HW⟩ := hrel
      obtain ⟨q, rfl⟩ := HW.out
      by_cases hlt : k < l.length
      · obtain ⟨x, hx⟩ : ∃ x, l[k]? = some x := ⟨_, List.getElem?_eq_getElem hlt⟩
        obtain ⟨y, hy⟩ : ∃ y, m[k]? = some y := ⟨_, List.getElem?_eq_getElem (by rw [← HN.out]; exact hlt)⟩
        have hC1 := fun n => run_loadAtR (w := w.drewN n) (HX1.out.below rfl (below_drewN' (Below.refl _ _) n)) hx
        have hC2 := fun n => run_loadAtR (w := w.drewN n) (HX2.out.below rfl (below_drewN' (Below.refl _ _) n)) hy
        obtain rfl := HA1.out (by intro h; rw [h] at hlt; cases hlt)
        obtain rfl := HA2.out (by intro h; rw [h] at hy; cases hy)
        have hlt2 : k < m.length := by rw [← HN.out]; exact hlt
        have hi1 : (k : Int) < l.length := by omega
        have hi2 : (k : Int) < m.length := by omega
        have hi0 : (0 : Int) ≤ k := by omega
        rcases Classical.em (x = y) with hxy | hxy
        · have hd : decide (x = y) = true := decide_eq_true hxy
          go_wp2
          go_quiet (fail)
          go_wp2
          go_roundg (l.length - (k + 1))
          case measure => omega
          case rel =>
            refine ⟨k + 1, by omega, rfl, by go_num, ?_, ?_⟩
            · show _ = _
              rw [take_snocL hx, take_snocL hy, HE.out, hxy]
            · exact ⟨_, rfl⟩
        · have hd : decide (x = y) = false := decide_eq_false hxy
          go_wp2
          go_quiet (fail)
          go_wp2
          go_ret
          have h1 : decide (l = m) = false := decide_eq_false (fun h => by
            subst h
            rw [hx] at hy
            exact hxy (Option.some.inj hy))
          have h2 := HR.out
          rw [h1] at h2
          subst h2
          exact ⟨rfl, below_drewN' (below_drewN' (Below.refl _ _) _) _⟩
      · obtain rfl : k = l.length := by omega
        have h1 : decide (l = m) = true := by
          apply decide_eq_true
          have := HE.out
          rwa [List.take_length, HN.out, List.take_length] at this
        have h2 := HR.out
        rw [h1] at h2
        subst h2
        go_wp2
        go_ret
        exact ⟨rfl, below_drewN' (Below.refl _ _) _⟩
  · rw [decide_eq_false (fun h => hn (by rw [h]))]
    have hne : ((l.length : Int) != (m.length : Int)) = true := by rw [bne_iff_ne]; omega
    go_enter Tryz.func20, Tryz.ntmps20
    go_wp2
    go_ret
    exact ⟨rfl, Below.refl _ _⟩
end Go.Proofs.YtoekggbbkcmknaaGreatDoor
/- A row that is handed in: of no things the address may be any. -/
namespace Go.Proofs.YtoekggbbkcmknaaGreatDoor
open Go.RowKit
attribute [local go_sem ↓] zeroC_eq newC_eq loadC_eq storeC_eq buildC_eq zeroR_eq newR_eq loadR_eq storeR_eq buildR_eq
attribute [local go_sem] run_zeroC run_newC run_buildC0 run_buildC1 run_neqC run_eqlC run_guardC run_zeroR run_newR run_buildR0 run_buildR1 run_neqR run_eqlR run_guardR
attribute [local go_sem ↓] bslC_eq bslR_eq
attribute [local go_sem] run_bslC run_bslR
/-- A slice that shows a row; of no things its address may be any. -/
structure SlW (w : World) (v : Value) (l : List Cm) : Prop where
  get : ∃ (a : Option Addr) (b o c : Nat), v = .slice a l.length c ∧ (l ≠ [] → a = some ⟨b, o, none⟩) ∧ CellsAt Cm.vals 18 w b o l
theorem SlW.below {w w' : World} {v : Value} {l : List Cm} (h : SlW w v l) (hb : Below w.heap.size w w') : SlW w' v l := by
  obtain ⟨a, b, o, c, h1, h2, h3⟩ := h.get
  exact ⟨a, b, o, c, h1, h2, h3.below rfl hb⟩
theorem SlW.slice {w : World} {v : Value} {l : List Cm} (h : SlW w v l) : ∃ a c, v = .slice a l.length c := by
  obtain ⟨a, _, _, c, h1, _⟩ := h.get
  exact ⟨a, c, h1⟩
theorem SlG.w {w : World} {v : Value} {l : List Cm} (h : SlG Cm.vals 18 w v l) : SlW w v l := by
  obtain ⟨a, b, o, c, h1, h2, _, h4, h5, h6⟩ := h.get
  refine ⟨a, b, o, c, h1, fun hne => ?_, h6⟩
  rcases h5 with h | h
  · have := h4 h
    exact absurd (List.length_eq_zero_iff.1 (by omega)) hne
  · exact h
set_option maxHeartbeats 800000 in
theorem toW_any (v : Value) (l : List Cm) (hl : l.length ≤ 70) (w : World) (hv : SlW w v l) :
    Calls Tryz.prog 21 #[v] w fun e w' => ∃ v', e = .returned v' ∧ RowG Cm.vals 18 40 w' w.heap.size v' l ∧ Below w.heap.size w w' := by
  obtain ⟨a, b, o, c, rfl, hA, hx⟩ := hv.get
  have HX := Lib.hid hx
  have HL := Lib.hid hl
  have HA := Lib.hid hA
  clear hv hx hA
  go_enter Tryz.func21, Tryz.ntmps21
  go_wp2
  go_loopg [3, 8] l.length (fun n r i wr => ∃ k : Nat, k ≤ l.length ∧ n = l.length - k ∧ i = .int .i64 k ∧ Hid (RowG Cm.vals 18 40 wr w.heap.size r (l.take k)) ∧ Hid (Below w.heap.size w wr))
  case atStart => exact ⟨0, Nat.zero_le _, rfl, rfl, RowG.nil _ _ _ _ _, Below.refl _ _⟩
  case round =>
    obtain ⟨k, hk, rfl, rfl, HO, HB⟩ := hrel
    by_cases hlt : k < l.length
    · obtain ⟨x, hx⟩ : ∃ x, l[k]? = some x := ⟨_, List.getElem?_eq_getElem hlt⟩
      have hC := run_loadAtC (HX.out.below rfl HB.out) hx
      obtain rfl := HA.out (by intro h; rw [h] at hlt; cases hlt)
      have hn2 := BxC.newC wr (Cm.zero 0)
      have hst1 := run_storeC hn2 x
      obtain ⟨hn3, hu3⟩ := hn2.stored x
      have hld := run_loadC hn3
      have HX2 := Lib.hid (take_snocL hx)
      have HU := Lib.hid hu3
      have hsz3 := hu3.size
      have HSZ := Lib.hid hsz3
      have hB3 := (((below_alloc' wr (objC (Cm.zero 0))).mono HB.out.size)).trans (hu3.below HB.out.size)
      have HB3 := Lib.hid hB3
      have HO3 := Lib.hid (((HO.out.alloc (objC (Cm.zero 0)))).keep (fun g hg => hu3.block g (by have := (HO.out.lt g hg).2; omega)))
      have HTL := Lib.hid (show (l.take k).length ≤ 300000 by rw [List.length_take]; have := HL.out; omega)
      have HBS := Lib.hid (show w.heap.size ≤ (setFrom (wr.alloc (objC (Cm.zero 0))) wr.heap.size 0 x.vals).heap.size by rw [HSZ.out]; have := HB.out.size; simp; omega)
      clear hx hn2 hn3 hu3 hsz3 hB3
      go_wp2_with (at_builtin; obtain ⟨v', w4, hrun, hO4, hgrow, hB4, _⟩ := app1 (W := setFrom (wr.alloc (objC (Cm.zero 0))) wr.heap.size 0 x.vals) encV appR (by decide) _ x 0 HBS.out HO3.out HTL.out (Cm.vals x).toArray rfl _ rfl; refine Lib.wpList_append_run _ rfl _ _ _ _ rfl _ _ rfl rfl _ _ hrun ?_; have HK := Lib.hid (And.intro hO4 hB4))
      go_roundg (l.length - (k + 1))
      case measure => omega
      case rel =>
        have hO4' := HK.out.1
        have hL70 := HL.out
        rw [← HX2.out] at hO4'
        exact ⟨k + 1, by omega, rfl, by go_num, hO4', (HB.out.trans HB3.out).trans HK.out.2⟩
    · obtain rfl : k = l.length := by omega
      rw [List.take_length] at HO
      go_wp2
      go_ret
      exact ⟨_, rfl, HO.out, HB.out⟩
end Go.Proofs.YtoekggbbkcmknaaGreatDoor
