/- Texts of one seat, merged. -/
import Derived.Test.YtpkoehnjladpoaaD08
import Derived.Test.YtpkoehnjladpoaaD04
import Derived.Test.YtpkoehnjladpoaaD03
import Derived.Deep.RegionWith
import Derived.Test.YtpkoehnjladpoaaD07
import Derived.Laws.CopyOwn
import Derived.Laws.CopyRow
import Derived.Laws.AppendOwn
import Derived.Laws.OwnMore
import Derived.Lib.SliceRun
import Derived.Lib.AppendZerosOnto
import Derived.Lib.Overlaps
import Derived.Below
import Derived.Shelf.Spec.SlicesInsert
import Derived.Shelf.RegionOpenPlain
set_option maxRecDepth 100000
set_option maxHeartbeats 4000000
set_option linter.unusedVariables false
/- Two builders together: what each call on one of them leaves. -/
namespace Go.Proofs.Ytpkoehnjladpoaa
open Go.RowKit
def Apart (v u : Value) : Prop := ∀ g, v.ownBlock = some g → u.ownBlock ≠ some g
theorem Apart.symm {v u : Value} (h : Apart v u) : Apart u v := fun g hg hv => h g hv hg
theorem Apart.side {v u : Value} (h : Apart v u) : u.ownBlock = none ∨ u.ownBlock ≠ v.ownBlock := by
  rcases hu : u.ownBlock with _ | g
  · exact .inl rfl
  · exact .inr fun e => h g e.symm hu
def Duo (w : World) (B p q : Nat) (bs cs : List Value) : Prop :=
  p ≠ q ∧ ∃ v u, Bld w B p v bs ∧ Bld w B q u cs ∧ Apart v u ∧ (bs = [] → v = .slice none 0 0) ∧ (cs = [] → u = .slice none 0 0)
theorem Duo.symm {w : World} {B p q : Nat} {bs cs : List Value} (h : Duo w B p q bs cs) : Duo w B q p cs bs := by
  obtain ⟨h0, v, u, h1, h2, h3, h4, h5⟩ := h
  exact ⟨fun e => h0 e.symm, u, v, h2, h1, h3.symm, h5, h4⟩
theorem Bld.below {w w' : World} {B b : Nat} {v : Value} {bs : List Value} (h : Bld w B b v bs) (hb : Below w.heap.size w w') : Bld w' B b v bs :=
  ⟨h.1, by rw [hb.block b h.lt]; exact h.2.1, own_below h.2.2 hb (Nat.le_refl _)⟩
theorem Duo.below {w w' : World} {B p q : Nat} {bs cs : List Value} (h : Duo w B p q bs cs) (hb : Below w.heap.size w w') : Duo w' B p q bs cs := by
  obtain ⟨h0, v, u, h1, h2, rest⟩ := h
  exact ⟨h0, v, u, h1.below hb, h2.below hb, rest⟩
theorem Duo.lt {w : World} {B p q : Nat} {bs cs : List Value} (h : Duo w B p q bs cs) : B < w.heap.size := by
  obtain ⟨h0, v, u, h1, h2, rest⟩ := h
  exact Nat.lt_of_le_of_lt h1.1 h1.lt
theorem Duo.new (w : World) (B : Nat) (hB : B ≤ w.heap.size) :
    Duo ((w.alloc (.cells #[.pointer none, .slice none 0 0] 91)).alloc (.cells #[.pointer none, .slice none 0 0] 91)) B w.heap.size (w.heap.size + 1) [] [] := by
  refine ⟨by omega, .slice none 0 0, .slice none 0 0, ⟨hB, .inl ?_, World.ownsRow_nil _ _ _ _⟩, ⟨by omega, .inl ?_, World.ownsRow_nil _ _ _ _⟩, (show Apart _ _ from (fun _ h => by cases h)), fun _ => rfl, fun _ => rfl⟩
  · show ((w.heap.push _).push _)[w.heap.size]? = _
    simp [Array.getElem?_push]
  · show ((w.heap.push _).push _)[w.heap.size + 1]? = _
    rw [Array.getElem?_push, if_pos (by simp)]
/-- What is neither a builder nor a row of bytes stays. -/
def Keeps (w w' : World) : Prop := ∀ (k : Nat) (cs : Array Value) (T : TypeId), T ≠ 91 → T ≠ 5 → w.heap[k]? = some (Obj.cells cs T (0, 0)) → w'.heap[k]? = some (Obj.cells cs T (0, 0))
theorem Fr.keeps {B b : Nat} {v : Value} {bs : List Value} {w w' : World} (f : Fr b v.ownBlock w w') (h : Bld w B b v bs) : Keeps w w' := by
  intro k cs T h1 h2 hk
  have hlt : k < w.heap.size := by
    rcases Nat.lt_or_ge k w.heap.size with h' | h'
    · exact h'
    · rw [Array.getElem?_eq_none h'] at hk; cases hk
  rw [f.block k hlt ?_ ?_, hk]
  · rintro rfl
    rcases h.2.1 with h3 | h3 <;> rw [hk] at h3 <;> cases h3 <;> exact h1 rfl
  · intro he
    rcases h.2.2.2 with ⟨rfl, _⟩ | ⟨g, cap, cur, rfl, _, hg, _⟩
    · cases he
    · simp only [Value.ownBlock, Option.some.injEq] at he
      subst he
      rw [hk] at hg; cases hg; exact h2 rfl
theorem Keeps.cell {w w' : World} (h : Keeps w w') {k : Nat} {cs : Array Value} {T : TypeId} (h1 : T ≠ 91) (h2 : T ≠ 5) (hk : w.heap[k]? = some (.cells cs T (0, 0))) (j : Nat) (x : Value) (hx : cs[j]? = some x) : w'.cell? ⟨k, j, none⟩ = some x := by
  rw [Lib.cell_of_heap (h k cs T h1 h2 hk), hx]
theorem Duo.write {w : World} {B p q : Nat} {bs cs : List Value} (h : Duo w B p q bs cs) (s : ByteArray) (hs : s.size ≠ 0) (hlen : bs.length + s.size ≤ 140737488355328) :
    Calls Try.prog 47 #[.pointer (some ⟨p, 0, none⟩), .string s] w fun e w' => e = .returned (.tuple #[.int .i64 s.size, .nilIface]) ∧ Duo w' B p q (bs ++ Lib.strCells s) cs ∧ Below B w w' ∧ Keeps w w' := by
  obtain ⟨h0, v, u, h1, h2, h3, h4, h5⟩ := h
  refine (write_at B p v bs s w h1 hlen).mono ?_
  rintro e w' ⟨rfl, v', k1, k2, k3⟩
  refine ⟨rfl, ⟨h0, v', u, k1, h1.other h2 (fun e => h0 e.symm) h3.side k3, ?_, ?_, h5⟩, k3.below h1, k3.keeps h1⟩
  · intro g hg hu
    rcases k2 with k2 | ⟨g', k2, k2'⟩
    · exact h3 g (k2 ▸ hg) hu
    · have := h2.row_lt hu
      rw [k2] at hg
      cases hg
      omega
  · intro hnil
    have hx := congrArg List.length hnil
    rw [List.length_append, Lib.strCells_length] at hx
    have h9 : ([] : List Value).length = 0 := rfl
    omega
theorem Duo.write2 {w : World} {B p q : Nat} {bs cs : List Value} (h : Duo w B p q bs cs) (s : ByteArray) (hs : s.size ≠ 0) (hlen : cs.length + s.size ≤ 140737488355328) :
    Calls Try.prog 47 #[.pointer (some ⟨q, 0, none⟩), .string s] w fun e w' => e = .returned (.tuple #[.int .i64 s.size, .nilIface]) ∧ Duo w' B p q bs (cs ++ Lib.strCells s) ∧ Below B w w' ∧ Keeps w w' :=
  (h.symm.write s hs hlen).mono fun _ _ ⟨h1, h2, h3⟩ => ⟨h1, h2.symm, h3⟩
theorem Duo.len2 {w : World} {B p q : Nat} {bs : List Value} {l : List UInt8} (h : Duo w B p q bs (Lib.byteCells l)) :
    Calls Try.prog 48 #[.pointer (some ⟨q, 0, none⟩)] w fun e w' => e = .returned (.int .i64 l.length) ∧ w = w' := by
  obtain ⟨h0, v, u, h1, h2, h3, h4, h5⟩ := h
  have := Try.Builder_Len B q (Lib.byteCells l) w h2.is
  rw [Lib.byteCells_length] at this
  exact this.mono fun _ _ ⟨k1, k2⟩ => ⟨k1, k2.symm⟩
theorem Duo.string {w : World} {B p q : Nat} {cs : List Value} {l : List UInt8} (h : Duo w B p q (Lib.byteCells l) cs) :
    Calls Try.prog 49 #[.pointer (some ⟨p, 0, none⟩)] w fun e w' => e = .returned (.string (str l)) ∧ (∃ u, Bld w' B q u cs) ∧ Below B w w' := by
  obtain ⟨h0, v, u, h1, h2, h3, h4, h5⟩ := h
  cases l with
  | nil =>
    obtain rfl := h4 rfl
    refine (string_none B p w h1).mono ?_
    rintro e w' ⟨rfl, k⟩
    have k' : Fr p (Value.slice none 0 0).ownBlock w w' := k
    exact ⟨rfl, ⟨u, h1.other h2 (fun e => h0 e.symm) h3.side k'⟩, k'.below h1⟩
  | cons c l =>
    refine (string_some B p v (c :: l) w h1 (by simp)).mono ?_
    rintro e w' ⟨rfl, k⟩
    exact ⟨rfl, ⟨u, h1.other h2 (fun e => h0 e.symm) h3.side k⟩, k.below h1⟩
theorem string_last {w : World} {B q : Nat} {l : List UInt8} (h : ∃ u, Bld w B q u (Lib.byteCells l)) :
    Calls Try.prog 49 #[.pointer (some ⟨q, 0, none⟩)] w fun e w' => e = .returned (.string (str l)) ∧ Below B w w' := by
  obtain ⟨u, h⟩ := h
  exact Try.Builder_String_any B q l w h.is (Nat.le_of_lt (Nat.lt_of_le_of_lt h.1 h.lt))
end Go.Proofs.Ytpkoehnjladpoaa
/- The contract of Body, at a leaf's cells. -/

namespace Go.Proofs.Ytpkoehnjladpoaa
open Go.RowKit
open Sl (Cl Kd)
theorem strCells_str (l : List UInt8) : Lib.strCells (str l) = Lib.byteCells l := rfl
theorem byteCells_app (l m : List UInt8) : Lib.byteCells l ++ Lib.byteCells m = Lib.byteCells (l ++ m) := by simp [Lib.byteCells]
theorem byteCells_len (l : List UInt8) : (Lib.byteCells l).length = l.length := by simp [Lib.byteCells]

theorem elemHC {w : World} {k : Nat} {y0 y1 y2 y3 : Value} {T : TypeId} (h : w.heap[k]? = some (.cells #[y0, y1, y2, y3] T (0, 0))) : w.cell? ⟨k, 0, none⟩ = some y0 ∧ w.cell? ⟨k, 1, none⟩ = some y1 ∧ w.cell? ⟨k, 2, none⟩ = some y2 ∧ w.cell? ⟨k, 3, none⟩ = some y3 :=
  ⟨(Lib.cell_of_heap h 0).trans rfl, (Lib.cell_of_heap h 1).trans rfl, (Lib.cell_of_heap h 2).trans rfl, (Lib.cell_of_heap h 3).trans rfl⟩
theorem World.block_lt_of_heap {w : World} {k : Nat} {o : Obj} (h : w.heap[k]? = some o) : k < w.heap.size := by
  rcases Nat.lt_or_ge k w.heap.size with h' | h'
  · exact h'
  · rw [Array.getElem?_eq_none h'] at h; cases h
end Go.Proofs.Ytpkoehnjladpoaa
/- The contracts of the laws' own example, and of whether cells are few. -/
namespace Go.Proofs.Ytpkoehnjladpoaa
open Go.RowKit
open Sl (Cl Kd)
def exC : Cl := ⟨[97], [104, 105], 0, 0⟩
theorem exBody : Sl.bodyR Sl.shC [exC] = ([0, 2, 1, 97, 0, 0, 2, 104, 105], 0) := by decide +kernel
theorem sizeEx (w : World) :
    Calls Try.prog 129 #[shpC, .agg #[.string ⟨#[97]⟩, .string ⟨#[104, 105]⟩, .int .u32 0, .int .u32 0]] w fun e w' => e = .returned (.int .i64 9) ∧ Below w.heap.size w w' :=
  sizeC_any exC ⟨by decide, by decide⟩ w
theorem slEx (W : World) : SlC (W.alloc (.cells #[.string ⟨#[97]⟩, .string ⟨#[104, 105]⟩, .int .u32 0, .int .u32 0] 42)) (.slice (some ⟨W.heap.size, 0, none⟩) 1 1) [exC] := by
  refine ⟨_, W.heap.size, 0, 1, rfl, .inr rfl, fun j x hj => ?_⟩
  obtain rfl : j = 0 := by
    have := (List.getElem?_eq_some_iff.1 hj).1
    simp at this; exact this
  simp at hj
  subst hj
  refine ⟨?_, ?_, ?_, ?_⟩
  · exact (World.cell?_alloc_new W #[.string ⟨#[97]⟩, .string ⟨#[104, 105]⟩, .int .u32 0, .int .u32 0] 42 0)
  · exact (World.cell?_alloc_new W #[.string ⟨#[97]⟩, .string ⟨#[104, 105]⟩, .int .u32 0, .int .u32 0] 42 1)
  · exact (World.cell?_alloc_new W #[.string ⟨#[97]⟩, .string ⟨#[104, 105]⟩, .int .u32 0, .int .u32 0] 42 2)
  · exact (World.cell?_alloc_new W #[.string ⟨#[97]⟩, .string ⟨#[104, 105]⟩, .int .u32 0, .int .u32 0] 42 3)
theorem slEx2 (w : World) (o : Obj) : SlC ((w.alloc o).alloc (.cells #[.string ⟨#[97]⟩, .string ⟨#[104, 105]⟩, .int .u32 0, .int .u32 0] 42)) (.slice (some ⟨w.heap.size + 1, 0, none⟩) 1 1) [exC] := by
  have := slEx (w.alloc o)
  rwa [show (w.alloc o).heap.size = w.heap.size + 1 by simp] at this
def FewOk (l : List Cl) : Prop := l.length ≤ 400 ∧ ∀ x ∈ l, x.key.length ≤ 300 ∧ x.val.length ≤ 500
inductive FewOut (l : List Cl) (w : World) (e : Ending) (w' : World) : Prop
  | yes (he : e = .returned (.bool true)) (hx : FewOk l) (hb : Below w.heap.size w w')
  | no (he : e = .returned (.bool false)) (hb : Below w.heap.size w w')
set_option maxHeartbeats 2000000 in
set_option maxRecDepth 100000 in
theorem few_any (v : Value) (l : List Cl) (hll : l.length ≤ maxLen) (w : World) (hv : SlC w v l) :
    Calls Try.prog 13 #[v] w (FewOut l w) := by
  unfold maxLen at hll
  obtain ⟨a, b, o, c, rfl, ha, hx⟩ := hv
  have HX := Lib.hid hx
  have HA := Lib.hid ha
  clear ha hx
  go_enter Try.func13, Try.ntmps13
  go_wp2
  go_loopg [7] l.length (fun n i wr => ∃ k : Nat, k ≤ l.length ∧ n = l.length - k ∧ i = .int .i64 k ∧ Hid (∀ (j : Nat) (x : Cl), j < k → l[j]? = some x → l.length ≤ 400 ∧ x.key.length ≤ 300 ∧ x.val.length ≤ 500) ∧ Hid (Below w.heap.size w wr))
  case atStart => exact ⟨0, Nat.zero_le _, rfl, rfl, fun j x hj => absurd hj (Nat.not_lt_zero j), Below.refl _ _⟩
  case round =>
    obtain ⟨k, hk, rfl, rfl, HM, HB⟩ := hrel
    by_cases hlt : k < l.length
    · obtain ⟨x, hx⟩ := take_some l k hlt
      have HXK := Lib.hid hx
      obtain ⟨e0, e1, e2, e3⟩ := HX.out k x hx
      have hblt : b < w.heap.size := World.block_lt_of_cell? _ _ e0
      have d0 := (HB.out.cell (p := ⟨b, o + k * 4, none⟩) hblt).trans e0
      have d1 := (HB.out.cell (p := ⟨b, o + k * 4 + 1, none⟩) hblt).trans e1
      have d2 := (HB.out.cell (p := ⟨b, o + k * 4 + 2, none⟩) hblt).trans e2
      have d3 := (HB.out.cell (p := ⟨b, o + k * 4 + 3, none⟩) hblt).trans e3
      obtain rfl : a = some ⟨b, o, none⟩ := by
        rcases HA.out with h | h
        · rw [h] at hlt; cases hlt
        · exact h
      have HBa : Hid (Below w.heap.size w (wr.alloc (.cells #[.string (str x.key), .string (str x.val), .int .u32 x.chain, .int .u32 x.long] 42))) := HB.out.alloc HB.out.size _
      have hs1 := str_size x.key
      have hs2 := str_size x.val
      clear e0 e1 e2 e3 hx
      by_cases h1 : (400 : Int) < l.length
      · go_wp2
        go_ret
        exact .no rfl HBa.out
      · by_cases h2 : (300 : Int) < x.key.length
        · go_wp2
          go_ret
          exact .no rfl HBa.out
        · by_cases h3 : (500 : Int) < x.val.length
          · go_wp2
            go_ret
            exact .no rfl HBa.out
          · have HN : Hid (∀ (j : Nat) (y : Cl), j < k + 1 → l[j]? = some y → l.length ≤ 400 ∧ y.key.length ≤ 300 ∧ y.val.length ≤ 500) := by
              intro j y hj hy
              by_cases hjk : j < k
              · exact HM.out j y hjk hy
              · obtain rfl : j = k := by omega
                rw [HXK.out] at hy
                cases hy
                exact ⟨by omega, by omega, by omega⟩
            go_wp2
            go_roundg (l.length - (k + 1))
            case measure => omega
            case rel => exact ⟨k + 1, by omega, rfl, by go_num, HN, HBa⟩
    · obtain rfl : k = l.length := by omega
      have HF : Hid (FewOk l) := by
        refine ⟨?_, fun x hx => ?_⟩
        · cases hl : l with
          | nil => decide
          | cons y t => rw [← hl]; exact (HM.out 0 y (by rw [hl]; simp) (by rw [hl]; rfl)).1
        · obtain ⟨j, hj⟩ := List.getElem?_of_mem hx
          exact (HM.out j x (List.getElem?_eq_some_iff.1 hj).1 hj).2
      go_wp2
      go_ret
      exact .yes rfl HF.out HB.out
end Go.Proofs.Ytpkoehnjladpoaa
/- The law's own example of nodes. -/
namespace Go.Proofs.Ytpkoehnjladpoaa
open Go.RowKit
open Sl (Cl Kd Nd Rn)
def exN : Nd := ⟨true, [⟨[97], [], 0, 0⟩, ⟨[98], [], 0, 0⟩], []⟩
theorem exK : Sl.spK exN = [98] := by decide +kernel
theorem exA : (Sl.spA exN).cs.length = 1 ∧ (Sl.spB exN).cs.length = 1 ∧ str (Sl.spK exN) = ⟨#[98]⟩ ∧ (Sl.spA exN).leaf = true ∧ (Sl.spB exN).leaf = true := ⟨by decide +kernel, by decide +kernel, by rw [exK]; rfl, by decide +kernel, by decide +kernel⟩
theorem slTwo (W : World) (x y : Cl) : SlC (W.alloc (.cells #[.string (str x.key), .string (str x.val), .int .u32 x.chain, .int .u32 x.long, .string (str y.key), .string (str y.val), .int .u32 y.chain, .int .u32 y.long] 42)) (.slice (some ⟨W.heap.size, 0, none⟩) 2 2) [x, y] := by
  refine ⟨_, W.heap.size, 0, 2, rfl, .inr rfl, fun j z hj => ?_⟩
  have hj2 : j < 2 := (List.getElem?_eq_some_iff.1 hj).1
  match j, hj2 with
  | 0, _ =>
    simp at hj; subst hj
    exact ⟨World.cell?_alloc_new W _ _ 0, World.cell?_alloc_new W _ _ 1, World.cell?_alloc_new W _ _ 2, World.cell?_alloc_new W _ _ 3⟩
  | 1, _ =>
    simp at hj; subst hj
    exact ⟨World.cell?_alloc_new W _ _ 4, World.cell?_alloc_new W _ _ 5, World.cell?_alloc_new W _ _ 6, World.cell?_alloc_new W _ _ 7⟩
theorem nawake_any (w : World) : Calls Try.prog 12 #[] w fun e w' => e = .returned (.bool true) ∧ Below w.heap.size w w' := by
  have HS := Lib.hid (fun W v (hv : NdV W v exN) => split_any v exN W hv (by decide) (by decide) (by intro x hx; simp [exN] at hx; rcases hx with rfl | rfl <;> exact ⟨by decide, by decide⟩) (by intro x hx; simp [exN] at hx))
  have HV : Hid (NdV (w.alloc (.cells #[.string ⟨#[97]⟩, .string ⟨#[]⟩, .int .u32 0, .int .u32 0, .string ⟨#[98]⟩, .string ⟨#[]⟩, .int .u32 0, .int .u32 0] 42)) (.agg #[.bool true, .slice (some ⟨w.heap.size, 0, none⟩) 2 2, .slice none 0 0]) exN) :=
    ⟨_, _, rfl, slTwo w ⟨[97], [], 0, 0⟩ ⟨[98], [], 0, 0⟩, ⟨_, _, _, Nat.le_refl _, by decide, fun h => by cases h⟩, SlK.nil _, cap_nil⟩
  have HB : Hid (∀ o1, Below w.heap.size w (w.alloc o1)) := fun o1 => (Below.refl _ _).alloc (Nat.le_refl _) _
  go_enter Try.func12, Try.ntmps12
  go_wp2_with (go_at_call 52; refine (HS.out _ _ HV.out).mono ?_; rintro e w1 ⟨u, v, rfl, hu, hv, hb1⟩; obtain ⟨vc, vk, rfl, hc, hcc, hk, hkk⟩ := hu; obtain ⟨vc', vk', rfl, hc', hcc', hk', hkk'⟩ := hv; obtain ⟨a1, b1, o1, c1, rfl, _, _⟩ := hc; obtain ⟨a2, b2, o2, c2, rfl, _, _⟩ := hc'; obtain ⟨e1, e2, e3, e4, e5⟩ := exA; rw [e1, e2, e3, e4, e5]; unfold ndV; obtain ⟨a3, n3, c3, _, _, _⟩ := hkk; obtain ⟨a4, n4, c4, _, _, _⟩ := hkk'; have HB1 := Lib.hid ((HB.out _).trans (hb1.mono (HB.out _).size)); clear hk hk' hcc hcc' hb1)
  go_ret
  exact ⟨rfl, (HB1.out.alloc HB1.out.size _).alloc (Nat.le_trans HB1.out.size (by simp)) _⟩
end Go.Proofs.Ytpkoehnjladpoaa
/- Nodes of a law's rows: their cells are right, and their values' forms. -/
namespace Go.Proofs.Ytpkoehnjladpoaa
open Go.RowKit
open Sl (Cl Kd Nd Rn)
theorem okC_key (l : List Cl) (hl : ∀ x ∈ l, okC x) (lf : Bool) : (∀ x ∈ (Sl.fromN lf l).cs, okC x) ∧ (∀ x ∈ (Sl.fromN lf l).ks, okK x) := by
  cases lf
  · refine ⟨fun x hx => by simp [Sl.fromN] at hx, fun x hx => ?_⟩
    obtain ⟨y, hy, rfl⟩ := List.mem_map.1 (show x ∈ l.map toK from hx)
    exact (hl y hy).1
  · exact ⟨hl, fun x hx => by simp [Sl.fromN] at hx⟩
theorem ok_toR (l : List Cl) (hl : ∀ x ∈ l, okC x) (hs : ∀ x ∈ l, x.val.length ≤ 500) (lf : Bool) : ∀ x ∈ (Sl.toR (Sl.fromN lf l)).l, okC x ∧ x.val.length ≤ 60000 := by
  cases lf
  · intro x hx
    obtain ⟨y, hy, rfl⟩ := List.mem_map.1 (show x ∈ (l.map toK).map toC from hx)
    obtain ⟨z, hz, rfl⟩ := List.mem_map.1 hy
    exact ⟨⟨(hl z hz).1, show 0 < 4294967296 by decide⟩, show ([] : List UInt8).length ≤ 60000 by decide⟩
  · intro x hx
    exact ⟨hl x hx, by have := hs x hx; omega⟩
theorem NdV.form {w : World} {v : Value} {n : Nd} (h : NdV w v n) : ∃ a1 n1 c1 a2 n2 c2, v = .agg #[.bool n.leaf, .slice a1 n1 c1, .slice a2 n2 c2] := by
  obtain ⟨vc, vk, rfl, _, hc, _, hk⟩ := h
  obtain ⟨a1, n1, c1, _, _, _⟩ := hc
  obtain ⟨a2, n2, c2, _, _, _⟩ := hk
  exact ⟨a1, n1, c1, a2, n2, c2, rfl⟩
theorem RnV.form {w : World} {v : Value} {n : Rn} (h : RnV w v n) : ∃ a1 n1 c1, v = .agg #[.bool n.leaf, .slice a1 n1 c1] := by
  obtain ⟨vc, rfl, _, hc⟩ := h
  obtain ⟨a1, n1, c1, _, _, _⟩ := hc
  exact ⟨a1, n1, c1, rfl⟩
end Go.Proofs.Ytpkoehnjladpoaa
/- The contract of the law's rising: do keys rise? -/
namespace Go.Proofs.Ytpkoehnjladpoaa
open Go.RowKit
open Sl (Cl Kd)
set_option maxHeartbeats 4000000 in
theorem rising_any (v : Value) (l : List Cl) (hll : l.length ≤ 100000) (w : World) (hv : SlC w v l) :
    Calls Try.prog 14 #[v] w fun e w' => e = .returned (.bool (Sl.rises Sl.shC l)) ∧ Below w.heap.size w w' := by
  obtain ⟨a, b, o, c, rfl, ha, hx⟩ := hv
  have HX := Lib.hid hx
  have HA := Lib.hid ha
  clear ha hx
  go_enter Try.func14, Try.ntmps14
  go_wp2
  go_loopg [3] (l.length + 1) (fun n i wr => ∃ k : Nat, k ≤ l.length ∧ n = l.length + 1 - k ∧ i = .int .i64 ((k + 1 : Nat) : Int) ∧ Hid (∀ j a b, j < k → l[j]? = some a → l[j + 1]? = some b → Sl.less a.key b.key = true) ∧ Hid (Below w.heap.size w wr))
  case atStart => exact ⟨0, Nat.zero_le _, rfl, rfl, fun j a b hj => absurd hj (Nat.not_lt_zero j), Below.refl _ _⟩
  case round =>
    obtain ⟨k, hk', rfl, rfl, HN, HB⟩ := hrel
    by_cases hlt1 : k + 1 < l.length
    · obtain ⟨x, hx⟩ := take_some l k (by omega)
      obtain ⟨y, hy⟩ := take_some l (k + 1) hlt1
      have HXK := Lib.hid hx
      have HYK := Lib.hid hy
      obtain ⟨e0, e1, e2, e3⟩ := HX.out k x hx
      obtain ⟨f0, f1, f2, f3⟩ := HX.out (k + 1) y hy
      have hblt : b < w.heap.size := World.block_lt_of_cell? _ _ e0
      have d0 := (HB.out.cell (p := ⟨b, o + k * 4, none⟩) hblt).trans e0
      have g0 := (HB.out.cell (p := ⟨b, o + (k + 1) * 4, none⟩) hblt).trans f0
      obtain rfl : a = some ⟨b, o, none⟩ := by
        rcases HA.out with h | h
        · rw [h] at hlt1; cases hlt1
        · exact h
      clear e0 e1 e2 e3 f0 f1 f2 f3 hx hy
      have hlt' : (k : Int) + 1 < l.length := by omega
      have hk0 : (0 : Int) ≤ (k : Int) := by omega
      have hk1 : (k : Int) < l.length := by omega
      have hk2 : (0 : Int) ≤ (k : Int) + 1 := by omega
      have hk4 : ((k : Int) + 1).toNat = k + 1 := by omega
      cases hle : Sl.less x.key y.key
      · have HR : Hid (Sl.rises Sl.shC l = false) := Sl.rises_false Sl.shC l k x y HXK.out HYK.out hle
        cases hge : Sl.less y.key x.key
        · have hxy := Sl.less_tri y.key x.key hge hle
          have hb2 := str_beq hxy.symm
          have hb1 : Op.bytesLess (str x.key).toList (str y.key).toList = false := (bl _ _).trans hle
          have hb3 : Op.bytesLess (str y.key).toList (str x.key).toList = false := (bl _ _).trans hge
          clear hle hge hxy
          go_wp2_with fail
          go_quiet (fail)
          go_wp2
          go_ret
          exact ⟨by rw [HR.out]; rfl, below_drewN HB.out _⟩
        · have hb1 : Op.bytesLess (str x.key).toList (str y.key).toList = false := (bl _ _).trans hle
          have hb3 : Op.bytesLess (str y.key).toList (str x.key).toList = true := (bl _ _).trans hge
          clear hle hge
          go_wp2_with fail
          go_quiet (fail)
          go_wp2
          go_ret
          exact ⟨by rw [HR.out]; rfl, below_drewN HB.out _⟩
      · have hb1 : Op.bytesLess (str x.key).toList (str y.key).toList = true := (bl _ _).trans hle
        have hb3 : Op.bytesLess (str y.key).toList (str x.key).toList = false := (bl _ _).trans (Sl.less_asym _ _ hle)
        have hb2 := str_bne (a := x.key) (b := y.key) (fun e => by rw [e, Sl.less_self] at hle; cases hle)
        have HNN := Lib.hid (Sl.rises_upto Sl.shC l k x y HXK.out HYK.out hle HN.out)
        clear hle
        go_wp2_with fail
        go_quiet (fail)
        clear hk4
        go_wp2
        go_roundg (l.length + 1 - (k + 1))
        case measure => omega
        case rel => exact ⟨k + 1, by omega, rfl, by go_num, HNN, below_drewN HB.out _⟩
    · have hlen : ¬ (k : Int) + 1 < l.length := by omega
      have HR : Hid (Sl.rises Sl.shC l = true) := Sl.rises_all Sl.shC l fun j a b hj => HN.out j a b (by omega)
      go_wp2
      go_ret
      exact ⟨by rw [HR.out]; rfl, HB.out⟩
end Go.Proofs.Ytpkoehnjladpoaa
/- Copying, clearing and shifting rows of structs in a block that is known whole. -/
namespace Go.Proofs.Ytpkoehnjladpoaa
open Go.RowKit
section
variable {P : Program}
theorem run_copy_rowS (w : World) (dT sT ty elem : TypeId) (S : Nat) (g o dLen dCap : Nat) (a : Addr) (sLen sCap : Nat) (cur : Array Value) (t : TypeId) (cs : List Value)
    (hu : P.underlying dT = some (.slice elem)) (hs : (P.info? elem).map (·.size) = some S)
    (hg : w.heap[g]? = some (.cells cur t (0, 0))) (hn : cs.length = Nat.min sLen dLen * S)
    (hsrc : ∀ j v, cs[j]? = some v → w.cell? (a.add j) = some v) (hfit : o + cs.length ≤ cur.size) (h1 : ∀ v ∈ cs, v.oneCell' = true) :
    (Builtin.copy_ #[dT, sT] ty #[.slice (some ⟨g, o, none⟩) dLen dCap, .slice (some a) sLen sCap]).run P w =
      .ok (goInt (Nat.min sLen dLen)) (w.setRow g (cur.toList.take o ++ cs ++ cur.toList.drop (o + cs.length)).toArray) := by
  have hl := run_loadCells_list (P := P) w a cs hsrc
  have hst := run_storeCells_at P g o t cs 0 cur w hg (by simpa using hfit) h1
  cases hq : P.info? elem with
  | none => simp [hq] at hs
  | some i =>
    have hi : i.size = S := by simpa [hq] using hs
    simp [Builtin.copy_, run_underlying hu, Builtin.lenOf, Builtin.firstCells, sizeOf, typeInfo, hq, hi, ← hn, hl, hst]
theorem setCells_row (g : Nat) (t : TypeId) : ∀ (vs : List Value) (o : Nat) (cur : Array Value) (w : World), w.heap[g]? = some (.cells cur t (0, 0)) → o + vs.length ≤ cur.size →
    w.setCells g o vs = w.setRow g (cur.toList.take o ++ vs ++ cur.toList.drop (o + vs.length)).toArray
  | [], o, cur, w, hg, _ => by
    simp only [World.setCells, List.append_nil, List.length_nil, Nat.add_zero, List.take_append_drop, Array.toArray_toList]
    rw [setRow_self w g cur t (0, 0) hg]
  | v :: rest, o, cur, w, hg, hl => by
    have ih := setCells_row g t rest (o + 1) (cur.setIfInBounds o v) (w.setRow g (cur.setIfInBounds o v)) (setRow_heap w g cur _ t _ hg) (by simp at hl ⊢; omega)
    rw [World.setCells, setCell_eq_setRow w g o cur t (0, 0) v hg, ih, setRow_setRow]
    congr 2
    have e := list_seg_step cur.toList o v rest (by simp at hl ⊢; omega)
    simpa [Array.toList_setIfInBounds] using e
/-- 'clear(s)', s of one element of several cells. -/
theorem run_clear_one (w : World) (t e ty : TypeId) (z : Value) (zs : List Value) (hz : z.cells = zs.toArray) (ht : P.underlying t = some (.slice e)) (hv : ∀ w, (zeroValue e).run P w = .ok z w) (h1 : ∀ v ∈ zs, v.oneCell' = true) (b o c : Nat)
    (hc : ∀ j, j < zs.length → (w.cell? ⟨b, o + j, none⟩).isSome = true) (hf : ∀ j, j < zs.length → w.frozen? ⟨b, o + j, none⟩ = false) :
    (Builtin.clear_ #[t] ty #[.slice (some ⟨b, o, none⟩) 1 c]).run P w = .ok (.tuple #[]) (w.setCells b o zs) := by
  have hzc : (Builtin.zeroCells z.cells 1).toList = zs := by
    rw [hz]
    simp only [Builtin.zeroCells, Nat.one_mul, Array.toList_map, Array.toList_range, List.size_toArray]
    apply List.ext_getElem
    · simp
    · intro i h1 h2
      have hi : i < zs.length := by simpa using h2
      simp [Nat.mod_eq_of_lt hi, hi]
  have hst := run_storeCells_cells (P := P) b o zs 0 w (by simpa using hc) (by simpa using hf) h1
  simp only [Nat.add_zero] at hst
  simp [Builtin.clear_, run_underlying ht, hv, hzc, hst]
end
theorem seg_ins (I N S : Nat) (cur xs vs : List Value) (hI : I ≤ N) (hx : cur.take N = xs) (hN : N + S ≤ cur.length) (hv : vs.length = S) :
    (((cur.take (I + S) ++ xs.drop I ++ cur.drop (I + S + (xs.drop I).length)).take I ++ vs ++ (cur.take (I + S) ++ xs.drop I ++ cur.drop (I + S + (xs.drop I).length)).drop (I + vs.length)).take (N + S) = xs.take I ++ vs ++ xs.drop I) := by
  have hxl : xs.length = N := by rw [← hx, List.length_take]; omega
  have h1 : (cur.take (I + S)).length = I + S := by rw [List.length_take]; omega
  have h2 : (cur.take (I + S) ++ xs.drop I ++ cur.drop (I + S + (xs.drop I).length)).take I = xs.take I := by
    rw [List.append_assoc, List.take_append_of_le_length (by omega), List.take_take, ← hx, List.take_take, Nat.min_eq_left (by omega), Nat.min_eq_left (by omega)]
  have h3 : (cur.take (I + S) ++ xs.drop I ++ cur.drop (I + S + (xs.drop I).length)).drop (I + vs.length) = xs.drop I ++ cur.drop (I + S + (xs.drop I).length) := by
    rw [hv, List.append_assoc, List.drop_append_of_le_length (by omega), List.drop_of_length_le (by omega), List.nil_append]
  rw [h2, h3, ← List.append_assoc, List.take_append_of_le_length (by simp only [List.length_append, List.length_take, List.length_drop]; omega), List.take_of_length_le (by simp only [List.length_append, List.length_take, List.length_drop]; omega)]
theorem seg_ins_len (I N S : Nat) (cur xs vs : List Value) (hI : I ≤ N) (hx : cur.take N = xs) (hN : N + S ≤ cur.length) (hv : vs.length = S) :
    ((cur.take (I + S) ++ xs.drop I ++ cur.drop (I + S + (xs.drop I).length)).take I ++ vs ++ (cur.take (I + S) ++ xs.drop I ++ cur.drop (I + S + (xs.drop I).length)).drop (I + vs.length)).length = cur.length := by
  have hxl : xs.length = N := by rw [← hx, List.length_take]; omega
  simp only [List.length_append, List.length_take, List.length_drop]; omega
/-- The other order: what is put in first, then what stood behind. -/
theorem seg_ins2 (I N S : Nat) (cur xs vs : List Value) (hI : I ≤ N) (hxl : xs.length = N) (hx : cur.take I = xs.take I) (hN : N + S ≤ cur.length) (hv : vs.length = S) :
    ((cur.take I ++ vs ++ cur.drop (I + vs.length)).take (I + S) ++ xs.drop I ++ (cur.take I ++ vs ++ cur.drop (I + vs.length)).drop (I + S + (xs.drop I).length)).take (N + S) = xs.take I ++ vs ++ xs.drop I := by
  have h1 : (cur.take I).length = I := by rw [List.length_take]; omega
  have h2 : (cur.take I ++ vs ++ cur.drop (I + vs.length)).take (I + S) = xs.take I ++ vs := by
    rw [List.take_append_of_le_length (by rw [List.length_append]; omega), List.take_of_length_le (by rw [List.length_append]; omega), hx]
  rw [h2, List.take_append_of_le_length (by simp only [List.length_append, List.length_take, List.length_drop]; omega), List.take_of_length_le (by simp only [List.length_append, List.length_take, List.length_drop]; omega)]
theorem seg_ins2_len (I N S : Nat) (cur xs vs : List Value) (hI : I ≤ N) (hxl : xs.length = N) (hN : N + S ≤ cur.length) (hv : vs.length = S) :
    ((cur.take I ++ vs ++ cur.drop (I + vs.length)).take (I + S) ++ xs.drop I ++ (cur.take I ++ vs ++ cur.drop (I + vs.length)).drop (I + S + (xs.drop I).length)).length = cur.length := by
  simp only [List.length_append, List.length_take, List.length_drop]; omega
theorem seg_del (I N S : Nat) (cur xs zs : List Value) (hI : I + S ≤ N) (hx : cur.take N = xs) (hN : N ≤ cur.length) (hz : zs.length = S) :
    (((cur.take I ++ xs.drop (I + S) ++ cur.drop (I + (xs.drop (I + S)).length)).take (N - S) ++ zs ++ (cur.take I ++ xs.drop (I + S) ++ cur.drop (I + (xs.drop (I + S)).length)).drop (N - S + zs.length)).take (N - S) = xs.take I ++ xs.drop (I + S)) := by
  have hxl : xs.length = N := by rw [← hx, List.length_take]; omega
  have h1 : (cur.take I ++ xs.drop (I + S)).length = N - S := by simp only [List.length_append, List.length_take, List.length_drop]; omega
  have h2 : (cur.take I ++ xs.drop (I + S) ++ cur.drop (I + (xs.drop (I + S)).length)).take (N - S) = xs.take I ++ xs.drop (I + S) := by
    rw [List.take_append_of_le_length (by omega), List.take_of_length_le (by omega), ← hx, List.take_take, Nat.min_eq_left (by omega)]
  rw [h2, List.append_assoc, List.take_append_of_le_length (by simp only [List.length_append, List.length_take, List.length_drop]; omega), List.take_of_length_le (by simp only [List.length_append, List.length_take, List.length_drop]; omega)]
theorem seg_del_len (I N S : Nat) (cur xs zs : List Value) (hI : I + S ≤ N) (hx : cur.take N = xs) (hN : N ≤ cur.length) (hz : zs.length = S) :
    ((cur.take I ++ xs.drop (I + S) ++ cur.drop (I + (xs.drop (I + S)).length)).take (N - S) ++ zs ++ (cur.take I ++ xs.drop (I + S) ++ cur.drop (I + (xs.drop (I + S)).length)).drop (N - S + zs.length)).length = cur.length := by
  have hxl : xs.length = N := by rw [← hx, List.length_take]; omega
  simp only [List.length_append, List.length_take, List.length_drop]; omega
theorem owns_setRow {w : World} {g B e S cap n' : Nat} {cur : Array Value} {l : List Value} {xs' : List Value} (hg : w.heap[g]? = some (.cells cur e (0, 0))) (hB : B ≤ g) (hn' : n' ≤ cap) (hcap : cap ≤ maxLen) (hsz : l.length = cap * S) (hx : xs'.length = n' * S) (ht : l.take (n' * S) = xs') :
    (w.setRow g l.toArray).ownsRow B e S (.slice (some ⟨g, 0, none⟩) n' cap) n' xs' :=
  ⟨hx, .inr ⟨g, cap, l.toArray, rfl, hB, setRow_heap w g cur _ e _ hg, hn', hcap, by simpa using hsz, by simpa using ht⟩⟩
end Go.Proofs.Ytpkoehnjladpoaa
/- The contract of slices.Insert of one cell, at a row of one's own. -/
namespace Go.Proofs.Ytpkoehnjladpoaa
open Go.RowKit
open Sl (Cl Kd)
inductive InsOutC (B : Nat) (l : List Cl) (w : World) (e : Ending) (w' : World) : Prop
  | mk (v : Value) (he : e = .returned v) (hr : RowC w' B v l) (hb : Below B w w')
theorem flatAtC (x : Cl) (vb : Nat) (T : TypeId) (w : World) (hvb : w.heap[vb]? = some (.cells (cellsC x).toArray T (0, 0))) : ∀ j u, (cellsC x)[j]? = some u → w.cell? ((⟨vb, 0, none⟩ : Addr).add j) = some u := by
  intro j u hj
  rw [add_plain', Nat.zero_add, cell_of_row w vb j _ T (0, 0) hvb]
  simpa using hj
theorem rowAtC (w : World) (g : Nat) (cur : Array Value) (l : List Cl) (hg : w.heap[g]? = some (.cells cur 42 (0, 0))) (htk : cur.toList.take (l.length * 4) = l.flatMap cellsC) (k : Nat) : ∀ j u, ((l.flatMap cellsC).drop (k * 4))[j]? = some u → w.cell? ((⟨g, k * 4, none⟩ : Addr).add j) = some u := by
  intro j u hj
  rw [add_plain', cell_of_row w g _ _ _ (0, 0) hg]
  rw [List.getElem?_drop, ← htk] at hj
  have hlt := (List.getElem?_eq_some_iff.1 hj).1
  rw [List.length_take] at hlt
  rw [List.getElem?_take_of_lt (by omega)] at hj
  simpa using hj
theorem flat_takeC (l : List Cl) (x : Cl) (i : Nat) : (l.flatMap cellsC).take (i * 4) ++ cellsC x ++ (l.flatMap cellsC).drop (i * 4) = (l.take i ++ x :: l.drop i).flatMap cellsC := by
  have h : ∀ (l : List Cl) (i : Nat), (l.flatMap cellsC).take (i * 4) = (l.take i).flatMap cellsC ∧ (l.flatMap cellsC).drop (i * 4) = (l.drop i).flatMap cellsC := by
    intro l
    induction l with
    | nil => intro i; simp
    | cons y t ih =>
      intro i
      cases i with
      | zero => simp
      | succ i =>
        obtain ⟨h1, h2⟩ := ih i
        have hl := cellsC_len y
        rw [List.flatMap_cons, List.take_succ_cons, List.drop_succ_cons, List.flatMap_cons, show (i + 1) * 4 = (cellsC y).length + i * 4 by rw [hl]; omega, List.take_append, List.drop_append]
        rw [List.take_of_length_le (by omega), List.drop_of_length_le (by omega), Nat.add_sub_cancel_left, h1, h2]
        exact ⟨rfl, rfl⟩
  obtain ⟨h1, h2⟩ := h l i
  rw [h1, h2, List.flatMap_append, List.flatMap_cons, List.append_assoc]
set_option maxHeartbeats 4000000 in
theorem insertC_shift (B g cap i vb vc : Nat) (cur : Array Value) (l : List Cl) (x : Cl) (T : TypeId) (w : World) (hi : i < l.length) (hroom : l.length + 1 ≤ cap) (hcap : cap ≤ maxLen) (hg : w.heap[g]? = some (.cells cur 42 (0, 0))) (hB : B ≤ g) (hsz : cur.size = cap * 4) (htk : cur.toList.take (l.length * 4) = l.flatMap cellsC) (hvb : w.heap[vb]? = some (.cells (cellsC x).toArray T (0, 0))) (hne : vb ≠ g) :
    Calls Try.prog 108 #[.slice (some ⟨g, 0, none⟩) l.length cap, .int .i64 i, .slice (some ⟨vb, 0, none⟩) 1 vc] w (InsOutC B (l.take i ++ x :: l.drop i) w) := by
  obtain ⟨i0, hi0, hz0, hz1, hz2⟩ := info_parts info42
  have hs1 : (Try.prog.info? 42).map (·.size) = some 4 := by rw [hi0]; simp [hz1]
  have hflen : (l.flatMap cellsC).length = l.length * 4 := flat_len _ _ cellsC_len _
  have hfd : ((l.flatMap cellsC).drop (i * 4)).length = (l.length - i) * 4 := by rw [List.length_drop, hflen]; omega
  have hxl := cellsC_len x
  have hxs : (cellsC x).toArray.size = 4 := by simpa using hxl
  have hcl : cur.toList.length = cap * 4 := by simpa using hsz
  have hov : ∀ lb cb, (callFunc 142 #[.slice (some ⟨vb, 0, none⟩) 1 vc, .slice (some ⟨g, (i + 1) * 4, none⟩) lb cb]).run Try.prog w = .ok (.value (.bool false)) w := fun lb cb => by
    rw [run_callFunc_extern Try.func142 (by kernel_rfl) (by kernel_rfl) (by kernel_rfl) (e := Extern.SlicesOverlaps.overlaps #[40, 40] #[4]) (by kernel_rfl),
      Lib.run_overlaps_apart w 40 4 42 Try.underlying40 4 (fun w => by kernel_rfl) ⟨vb, 0, none⟩ ⟨g, (i + 1) * 4, none⟩ 1 vc lb cb hne T 42 4 (cap * 4) (by simp [World.shape?, hvb, hxs]) (by simp [World.shape?, hg, hsz]) (by omega) (by simp [World.frozen?, hvb]) (by simp [World.frozen?, hvb])]
    rfl
  obtain ⟨R1, hR1⟩ : ∃ R1, R1 = cur.toList.take ((i + 1) * 4) ++ (l.flatMap cellsC).drop (i * 4) ++ cur.toList.drop ((i + 1) * 4 + ((l.flatMap cellsC).drop (i * 4)).length) := ⟨_, rfl⟩
  obtain ⟨R2, hR2⟩ : ∃ R2, R2 = R1.take (i * 4) ++ cellsC x ++ R1.drop (i * 4 + (cellsC x).length) := ⟨_, rfl⟩
  have hR1l : R1.length = cap * 4 := by rw [hR1]; simp only [List.length_append, List.length_take, List.length_drop, hcl, hflen]; omega
  have hcp1 : ∀ ty dl dc sl sc, dl = l.length - i → sl = l.length + 1 - i → (Builtin.copy_ #[40, 40] ty #[.slice (some ⟨g, (i + 1) * 4, none⟩) dl dc, .slice (some ⟨g, i * 4, none⟩) sl sc]).run Try.prog w.drew = .ok (goInt (Nat.min sl dl)) (w.drew.setRow g R1.toArray) := fun ty dl dc sl sc h1 h2 => by
    subst h1; subst h2
    rw [hR1]
    exact run_copy_rowS w.drew _ _ ty 42 4 g ((i + 1) * 4) _ dc ⟨g, i * 4, none⟩ _ sc cur 42 ((l.flatMap cellsC).drop (i * 4)) Try.underlying40 hs1 hg (by rw [hfd]; simp only [Nat.min_def]; split <;> omega) (rowAtC w.drew g cur l hg htk i) (by rw [hfd, hsz]; omega) (fun v hv => flat_oneC l v (List.mem_of_mem_drop hv))
  have hcp2 : ∀ (W : World), W.heap = (w.drew.setRow g R1.toArray).heap → ∀ ty dl dc, 1 ≤ dl → (Builtin.copy_ #[40, 40] ty #[.slice (some ⟨g, i * 4, none⟩) dl dc, .slice (some ⟨vb, 0, none⟩) 1 vc]).run Try.prog W = .ok (goInt (Nat.min 1 dl)) (W.setRow g R2.toArray) := fun W hW ty dl dc h1 => by
    have hgW : W.heap[g]? = some (.cells R1.toArray 42 (0, 0)) := by rw [hW]; exact setRow_heap w.drew g cur _ _ _ hg
    have hvW : W.heap[vb]? = some (.cells (cellsC x).toArray T (0, 0)) := by rw [hW, setRow_other w.drew g vb _ hne]; exact hvb
    have := run_copy_rowS (P := Try.prog) W 40 40 ty 42 4 g (i * 4) dl dc ⟨vb, 0, none⟩ 1 vc R1.toArray 42 (cellsC x) Try.underlying40 hs1 hgW (by rw [hxl]; simp only [Nat.min_def]; split <;> omega) (flatAtC x vb T W hvW) (by rw [hxl, List.size_toArray, hR1l]; omega) (fun v hv => cellsC_one x v hv)
    rw [this, hR2]
  have HR : Hid (R2.length = cap * 4 ∧ R2.take ((l.length + 1) * 4) = (l.take i ++ x :: l.drop i).flatMap cellsC) := by
    have e1 : (i + 1) * 4 = i * 4 + 4 := by omega
    rw [e1] at hR1
    refine ⟨?_, ?_⟩
    · rw [hR2, hR1, seg_ins_len (i * 4) (l.length * 4) 4 cur.toList _ _ (by omega) htk (by rw [hcl]; omega) hxl, hcl]
    · rw [show (l.length + 1) * 4 = l.length * 4 + 4 by omega, hR2, hR1, seg_ins (i * 4) (l.length * 4) 4 cur.toList _ _ (by omega) htk (by rw [hcl]; omega) hxl, flat_takeC]
  have HG := Lib.hid hg
  have HB := Lib.hid hB
  have hin : ¬ ((i : Int) = (l.length : Int)) := by omega
  have hb2 : ¬ (cap = i + 1) := by omega
  have hb4 : ¬ (cap = i) := by omega
  have hb5 : i ≤ l.length := by omega
  have hw1 : IntKind.i64.wrap ((i : Int) + 1) = (i : Int) + 1 := IntWalk.i64_in _ (by unfold maxLen at hcap; omega)
  have hw2 : IntKind.i64.wrap ((l.length : Int) + 1) = (l.length : Int) + 1 := IntWalk.i64_in _ (by unfold maxLen at hcap; omega)
  have HCAP := Lib.hid hcap
  unfold maxLen at hcap
  have hb1 : (0 : Int) ≤ (i : Int) + 1 := by omega
  have htn : ((i : Int) + 1).toNat = i + 1 := by omega
  have htn2 : ((l.length : Int) + 1).toNat = l.length + 1 := by omega
  have HROOM := Lib.hid hroom
  have hb3 : (i : Int) ≤ (l.length : Int) + 1 := by omega
  have mixed : Try.prog.follows Departure.mixedOrders = true := by kernel_rfl
  clear hR1 hR2 hR1l hflen hfd hxs hcl hsz htk hvb hg hs1 hi0 hz0 hz1 hz2 hxl
  go_enter Try.func108, Try.ntmps108
  go_wp2_with (simp only [hov])
  go_region_law_o (refine Go.Proofs.step_copy_runI rfl _ _ 40 40 rfl _ _ (by simp [Act.eval, Act.put]) (by simp [Act.eval, Act.put]) (hcp1 _ _ _ _ _ (by omega) (by omega)) ?_)
  go_wp2_with (refine Go.Proofs.wpList_copy_runI (o := ⟨some 82, _, _, _, _, _⟩) _ rfl _ _ 40 40 rfl _ _ rfl rfl (hcp2 _ rfl _ _ _ (by omega)) ?_)
  go_ret
  refine ⟨_, rfl, ?_, ?_⟩
  · have hgW : (w.drew.setRow g R1.toArray).heap[g]? = some (.cells R1.toArray 42 (0, 0)) := setRow_heap w.drew g cur _ _ _ HG.out
    have hlen : (l.take i ++ x :: l.drop i).length = l.length + 1 := by simp only [List.length_append, List.length_take, List.length_cons, List.length_drop]; omega
    show World.ownsRow _ _ _ _ _ _ _
    rw [hlen]
    exact owns_setRow hgW HB.out HROOM.out HCAP.out HR.out.1 (by rw [flat_len _ _ cellsC_len _, hlen]) HR.out.2
  · exact below_setRow (below_setRow (Below.refl _ _).drew HB.out _) HB.out _
end Go.Proofs.Ytpkoehnjladpoaa
