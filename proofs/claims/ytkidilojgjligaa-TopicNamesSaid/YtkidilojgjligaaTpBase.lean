/- Texts as bytes; rows of texts that a slice shows. -/
import Derived.Test.YtkidilojgjligaaTpMath
import Derived.WalkKit
import Derived.WalkLawsBesides
import Derived.Below
import Derived.Lib.Hide
import Derived.Lib.Strings
import Derived.Laws.IdiomStrings
import Derived.RegionTactic
import Derived.Deep.RegionWith
import Derived.Deep.LoopGhost
import Derived.Deep.QuietTactic
import Derived.Sort.EncStr
import Derived.OwnWalk
import Derived.Maps.AppendAt
import Derived.Deep.DeepCutAuto
set_option maxRecDepth 100000
set_option maxHeartbeats 4000000
set_option linter.unusedVariables false
namespace Go.Proofs.Ytkidilojgjligaa
open Go.RowKit
open Tp (Txt)
def str (l : List UInt8) : ByteArray := ⟨l.toArray⟩
theorem str_data (l : List UInt8) : (str l).data.toList = l := rfl
theorem str_size (l : List UInt8) : (str l).size = l.length := rfl
theorem str_append (l m : List UInt8) : str l ++ str m = str (l ++ m) := by
  apply ByteArray.ext
  simp [str]
theorem str_eq (s : ByteArray) : str s.data.toList = s := rfl
theorem strL (t : Txt) : (str t).toList = t := by simp [str, ByteArray.toList_eq]
theorem str_inj {a b : List UInt8} (h : str a = str b) : a = b := by
  have := congrArg (fun s => s.data.toList) h
  exact this
theorem ret_string {a b : ByteArray} (h : a = b) : Ending.returned (.string a) = .returned (.string b) := by rw [h]
theorem ret_int {k : IntKind} {a b : Int} (h : a = b) : Ending.returned (.int k a) = .returned (.int k b) := by rw [h]
theorem ret_bool {a b : Bool} (h : a = b) : Ending.returned (.bool a) = .returned (.bool b) := by rw [h]
theorem str_at (t : List UInt8) (j : Nat) (c : UInt8) (h : t[j]? = some c) : ∀ hh : j < (str t).size, ((str t)[j]'hh).toNat = c.toNat := by
  intro hh
  obtain ⟨hj, he⟩ := List.getElem?_eq_some_iff.1 h
  show (t.toArray[j]'(by simpa using hj)).toNat = _
  simp [he]
theorem extract_one (t : List UInt8) (j : Nat) (c : UInt8) (h : t[j]? = some c) : (str t).extract j (j + 1) = str [c] := by
  obtain ⟨hj, he⟩ := List.getElem?_eq_some_iff.1 h
  apply ByteArray.ext
  simp only [str]
  rw [ByteArray.data_extract]
  apply Array.ext
  · simp; omega
  · intro i h1 h2
    simp at h2
    subst h2
    simp [he]
theorem slice_one (t : List UInt8) (j : Nat) (c : UInt8) (h : t[j]? = some c) (W : World) :
    (Instr.slice 9 (.string (str t)) (some (.int .i64 j)) (some (.int .i64 ((j : Int) + 1))) none).run Try.prog W = .ok (.string (str [c])) W := by
  have hj := (List.getElem?_eq_some_iff.1 h).1
  rw [run_slice_string W 9 (str t) .i64 .i64 j ((j : Int) + 1) Try.underlying9 (by omega) (by omega) (by rw [str_size]; omega), ← extract_one t j c h]
  rfl
theorem below_step {a b c : World} (h : Below a.heap.size a b) (k : Below b.heap.size b c) : Below a.heap.size a c := h.trans (k.mono h.size)
theorem below_drewT {B : Nat} {w w' : World} (h : Below B w w') (q : Nat) : Below B w (w'.drewN q) := ⟨h.os, h.tape, h.output, h.size, h.block⟩
theorem take_snoc {α : Type} {l : List α} {k : Nat} {y : α} (h : l[k]? = some y) : l.take (k + 1) = l.take k ++ [y] := by rw [List.take_add_one, h]; rfl
theorem some_atP {α : Type} {l : List α} {k : Nat} (h : k < l.length) : ∃ x, l[k]? = some x := ⟨l[k], List.getElem?_eq_getElem h⟩
abbrev eS : Txt → Value := fun l => .string (str l)
theorem infoS : (Try.prog.info? 9).map (fun i => (i.zero, i.size, i.bytes)) = some (some (.string ⟨#[]⟩), 1, 16) := by kernel_rfl
/-- A slice that holds a row. -/
def SlP {α : Type} (enc : α → Value) (w : World) (v : Value) (l : List α) : Prop :=
  ∃ (a : Option Addr) (b o c : Nat), v = .slice a l.length c ∧ (l = [] ∨ a = some ⟨b, o, none⟩) ∧ ∀ (j : Nat) x, l[j]? = some x → w.cell? ⟨b, o + j, none⟩ = some (enc x)
theorem SlP.below {α : Type} {enc : α → Value} {B : Nat} {w w' : World} {v : Value} {l : List α} (h : SlP enc w v l) (hs : B = w.heap.size) (hb : Below B w w') : SlP enc w' v l := by
  subst hs
  obtain ⟨a, b, o, c, hv, ha, hx⟩ := h
  refine ⟨a, b, o, c, hv, ha, fun j x hj => ?_⟩
  have h0 := hx j x hj
  exact (hb.cell (p := ⟨b, o + j, none⟩) (World.block_lt_of_cell? _ _ h0)).trans h0
theorem SlP.slice {α : Type} {enc : α → Value} {w : World} {v : Value} {l : List α} (h : SlP enc w v l) : ∃ a c, v = .slice a l.length c := by
  obtain ⟨a, _, _, c, rfl, _⟩ := h
  exact ⟨a, c, rfl⟩
/-- A row of one's own. -/
def RowP {α : Type} (enc : α → Value) (t : TypeId) (w : World) (B : Nat) (v : Value) (l : List α) : Prop := w.ownsRow B t 1 v l.length (l.map enc)
variable {α : Type} {enc : α → Value} {t : TypeId} {w w' : World} {B B' : Nat} {v : Value} {l : List α}
theorem RowP.nil (enc : α → Value) (t : TypeId) (w : World) (B : Nat) : RowP enc t w B (.slice none 0 0) [] := World.ownsRow_nil _ _ _ _
theorem RowP.open (h : RowP enc t w B v l) : (v = .slice none 0 0 ∧ l = []) ∨ ∃ (g cap : Nat) (cur : Array Value), v = .slice (some ⟨g, 0, none⟩) l.length cap ∧ B ≤ g ∧ w.heap[g]? = some (.cells cur t (0, 0)) ∧ l.length ≤ cap ∧ cap ≤ maxLen ∧ cur.size = cap ∧ cur.toList.take l.length = l.map enc := by
  have h' : w.ownsRow B t 1 v l.length (l.map enc) := h
  rcases h'.2 with ⟨rfl, h0⟩ | ⟨g, cap, cur, rfl, hB, hg, h2, h3, h4, h5⟩
  · exact .inl ⟨rfl, List.length_eq_zero_iff.1 h0⟩
  · exact .inr ⟨g, cap, cur, rfl, hB, hg, h2, h3, by simpa using h4, by simpa using h5⟩
theorem RowP.mk {g cap : Nat} {cur : Array Value} (hB : B ≤ g) (hg : w.heap[g]? = some (.cells cur t (0, 0))) (h1 : l.length ≤ cap) (h2 : cap ≤ maxLen) (h3 : cur.size = cap) (h4 : cur.toList.take l.length = l.map enc) : RowP enc t w B (.slice (some ⟨g, 0, none⟩) l.length cap) l :=
  ⟨by simp, .inr ⟨g, cap, cur, rfl, hB, hg, h1, h2, by simpa using h3, by simpa using h4⟩⟩
theorem RowP.slice (h : RowP enc t w B v l) : ∃ a c, v = .slice a l.length c := by
  rcases h.open with ⟨rfl, rfl⟩ | ⟨g, cap, cur, rfl, _⟩
  · exact ⟨none, 0, rfl⟩
  · exact ⟨_, _, rfl⟩
theorem RowP.cells (h : RowP enc t w B v l) {g o n c : Nat} (hv : v = .slice (some ⟨g, o, none⟩) n c) : o = 0 ∧ ∀ j x, l[j]? = some x → w.cell? ⟨g, j, none⟩ = some (enc x) ∧ w.frozen? ⟨g, j, none⟩ = false := by
  rcases h.open with ⟨rfl, rfl⟩ | ⟨g', cap, cur, rfl, _, hg, h1, _, h3, h4⟩
  · cases hv
  · cases hv
    refine ⟨rfl, fun j x hj => ⟨?_, by simp [World.frozen?, hg]⟩⟩
    have hlt := (List.getElem?_eq_some_iff.1 hj).1
    have : (cur.toList.take l.length)[j]? = some (enc x) := by rw [h4, List.getElem?_map, hj]; rfl
    rw [List.getElem?_take_of_lt hlt] at this
    simp [World.cell?, hg]
    simpa using this
theorem RowP.sl (h : RowP enc t w B v l) : SlP enc w v l := by
  rcases h.open with ⟨rfl, rfl⟩ | ⟨g, cap, cur, rfl, _⟩
  · exact ⟨none, 0, 0, 0, rfl, .inl rfl, fun j p hj => by simp at hj⟩
  · exact ⟨_, g, 0, cap, rfl, .inr rfl, fun j x hj => by rw [Nat.zero_add]; exact ((h.cells rfl).2 j x hj).1⟩
theorem RowP.below (h : RowP enc t w B v l) (hb : Below w.heap.size w w') : RowP enc t w' B v l := by
  rcases h.open with ⟨rfl, rfl⟩ | ⟨g, cap, cur, rfl, hB, hg, h1, h2, h3, h4⟩
  · exact RowP.nil _ _ _ _
  · exact .mk hB ((hb.block g (Array.getElem?_eq_some_iff.1 hg).1).trans hg) h1 h2 h3 h4
theorem RowP.base (h : RowP enc t w B v l) (hb : B' ≤ B) : RowP enc t w B' v l := by
  rcases h.open with ⟨rfl, rfl⟩ | ⟨g, cap, cur, rfl, hB, hg, h1, h2, h3, h4⟩
  · exact RowP.nil _ _ _ _
  · exact .mk (Nat.le_trans hb hB) hg h1 h2 h3 h4
/-- It stays where its block stays. -/
theorem RowP.keep (h : RowP enc t w B v l) (hk : ∀ g, v.ownBlock = some g → w'.heap[g]? = w.heap[g]?) : RowP enc t w' B v l := by
  rcases h.open with ⟨rfl, rfl⟩ | ⟨g, cap, cur, rfl, hB, hg, h1, h2, h3, h4⟩
  · exact RowP.nil _ _ _ _
  · exact .mk hB ((hk g rfl).trans hg) h1 h2 h3 h4
theorem RowP.lt (h : RowP enc t w B v l) {g : Nat} (hg : v.ownBlock = some g) : g < w.heap.size ∧ B ≤ g := by
  rcases h.open with ⟨rfl, rfl⟩ | ⟨g', cap, cur, rfl, hB, hg', _⟩
  · cases hg
  · cases hg; exact ⟨(Array.getElem?_eq_some_iff.1 hg').1, hB⟩

abbrev SlS := @SlP Txt eS
abbrev RowS := @RowP Txt eS 9
/-- A slice that can be cut. -/
def SlC (w : World) (v : Value) (l : List Txt) : Prop :=
  ∃ (a : Option Addr) (b o c : Nat), v = .slice a l.length c ∧ l.length ≤ c ∧ c ≤ maxLen ∧ (l = [] ∨ a = some ⟨b, o, none⟩) ∧ ∀ (j : Nat) x, l[j]? = some x → w.cell? ⟨b, o + j, none⟩ = some (eS x)
theorem SlC.below {B : Nat} {w w' : World} {v : Value} {l : List Txt} (h : SlC w v l) (hs : B = w.heap.size) (hb : Below B w w') : SlC w' v l := by
  subst hs
  obtain ⟨a, b, o, c, hv, h1, h2, ha, hx⟩ := h
  refine ⟨a, b, o, c, hv, h1, h2, ha, fun j x hj => ?_⟩
  have h0 := hx j x hj
  exact (hb.cell (p := ⟨b, o + j, none⟩) (World.block_lt_of_cell? _ _ h0)).trans h0
theorem SlC.sl {w : World} {v : Value} {l : List Txt} (h : SlC w v l) : SlS w v l := by
  obtain ⟨a, b, o, c, hv, h1, h2, ha, hx⟩ := h
  exact ⟨a, b, o, c, hv, ha, hx⟩
theorem SlC.slice {w : World} {v : Value} {l : List Txt} (h : SlC w v l) : ∃ a c, v = .slice a l.length c ∧ l.length ≤ c ∧ c ≤ maxLen := by
  obtain ⟨a, b, o, c, hv, h1, h2, _⟩ := h
  exact ⟨a, c, hv, h1, h2⟩
theorem RowP.slc {w : World} {B : Nat} {v : Value} {l : List Txt} (h : RowS w B v l) : SlC w v l := by
  rcases h.open with ⟨rfl, rfl⟩ | ⟨g, cap, cur, rfl, _, _, h1, h2, _⟩
  · exact ⟨none, 0, 0, 0, rfl, Nat.le_refl _, Nat.zero_le _, .inl rfl, fun j p hj => by simp at hj⟩
  · exact ⟨_, g, 0, cap, rfl, h1, h2, .inr rfl, fun j x hj => by rw [Nat.zero_add]; exact ((h.cells rfl).2 j x hj).1⟩
end Go.Proofs.Ytkidilojgjligaa
