/- Texts of one seat, merged. -/
import Derived.Test.YtemfbkelenaaeaaGreatB09
import Derived.Test.YtemfbkelenaaeaaGreatB04
import Derived.Test.YtemfbkelenaaeaaGreatB03
import Derived.Deep.RegionWith
import Derived.Test.YtemfbkelenaaeaaGreatB08
set_option maxRecDepth 100000
set_option maxHeartbeats 4000000
set_option linter.unusedVariables false
/- String of one of two builders, with all that it turns; the two builders together. -/
namespace Go.Proofs.YtemfbkelenaaeaaGreat
open Go.RowKit
theorem fr_drew {b : Nat} {row : Option Nat} (w : World) : Fr b row w w.drew := ⟨rfl, rfl, rfl, Nat.le_refl _, fun _ _ _ _ => rfl⟩
theorem fr_freeze {b g n : Nat} (w : World) : Fr b (some g) w (w.drew.freeze ⟨g, 0, none⟩ n) := by
  have h := Lib.below_freeze (Below.drew (Below.refl g w)) (p := ⟨g, 0, none⟩) (Nat.le_refl g) n
  refine ⟨h.os, h.tape, h.output, h.size, fun k _ _ hk => ?_⟩
  have hne : g ≠ k := fun e => hk (by rw [e])
  show (w.drew.freeze ⟨g, 0, none⟩ n).heap[k]? = _
  unfold World.freeze
  split
  · rfl
  · show (Array.modify _ g _)[k]? = _
    rw [Array.getElem?_modify, if_neg hne]; rfl
set_option maxHeartbeats 1000000 in
set_option maxRecDepth 100000 in
theorem string_some (B b : Nat) (v : Value) (l : List UInt8) (w : World) (h : Bld w B b v (Lib.byteCells l)) (h0 : l ≠ []) :
    Calls Tryz.prog 65 #[.pointer (some ⟨b, 0, none⟩)] w fun e w' => e = .returned (.string (str l)) ∧ Fr b v.ownBlock w w' := by
  obtain ⟨hB, hbk0, hown⟩ := h
  obtain ⟨p, hbk⟩ : ∃ p, w.heap[b]? = some (.cells #[p, v] 112 (0, 0)) := by
    rcases hbk0 with hb | hb
    · exact ⟨_, hb⟩
    · exact ⟨_, hb⟩
  have hl0 : l.length ≠ 0 := by simpa using h0
  rw [Lib.byteCells_length] at hown
  obtain ⟨g, cap, cur, rfl, hbg, hg, hnc, hcm, hcs, htake⟩ : ∃ g cap cur, v = .slice (some ⟨g, 0, none⟩) l.length cap ∧ B ≤ g ∧ w.heap[g]? = some (.cells cur 5 (0, 0)) ∧ l.length ≤ cap ∧ cap ≤ maxLen ∧ cur.size = cap * 1 ∧ cur.toList.take (l.length * 1) = Lib.byteCells l := by
    rcases hown.2 with ⟨_, hz⟩ | ⟨g, cap, cur, hv, r⟩
    · exact absurd hz hl0
    · exact ⟨g, cap, cur, hv, r⟩
  have c1 : w.drew.cell? ⟨b, 1, none⟩ = some (.slice (some ⟨g, 0, none⟩) l.length cap) := by
    have : w.drew.heap[b]? = some (.cells #[p, .slice (some ⟨g, 0, none⟩) l.length cap] 112 (0, 0)) := hbk
    rw [Lib.cell_of_heap this]; rfl
  have hSD : (Builtin.unsafeSliceData_ #[110] 160 #[.slice (some ⟨g, 0, none⟩) l.length cap]).run Tryz.prog w.drew = .ok (.pointer (some ⟨g, 0, none⟩)) w.drew :=
    Lib.run_unsafeSliceData_row _ _ _ _ _ _ (by omega)
  have hUS : (Builtin.unsafeString_ #[160, 3] 9 #[.pointer (some ⟨g, 0, none⟩), .int .i64 l.length]).run Tryz.prog w.drew = .ok (.string (str l)) (w.drew.freeze ⟨g, 0, none⟩ l.length) := by
    refine Lib.run_unsafeString_row w.drew 160 3 9 5 Tryz.underlying160 (Tryz.Builder_Extra_169.cellsByte) g cur.size (by have hg' : w.drew.heap[g]? = some (.cells cur 5 (0, 0)) := hg; simp [World.shape?, hg']) l h0 (by omega) (by unfold maxLen at hcm; omega) ?_
    intro j x hx
    exact hown.cells (g := g) rfl j (.int .u8 x.toNat) (by simp [Lib.byteCells, hx])
  have hfr : Hid (Fr b (some g) w (w.drew.freeze ⟨g, 0, none⟩ l.length)) := fr_freeze w
  go_enter Tryz.func65, Tryz.ntmps65
  go_wp2
  go_region
  all_goals (go_wp2; go_ret; exact ⟨rfl, hfr.out⟩)
set_option maxHeartbeats 1000000 in
set_option maxRecDepth 100000 in
theorem string_none (B b : Nat) (w : World) (h : Bld w B b (.slice none 0 0) []) :
    Calls Tryz.prog 65 #[.pointer (some ⟨b, 0, none⟩)] w fun e w' => e = .returned (.string (str [])) ∧ Fr b none w w' := by
  obtain ⟨hB, hbk0, hown⟩ := h
  obtain ⟨p, hbk⟩ : ∃ p, w.heap[b]? = some (.cells #[p, .slice none 0 0] 112 (0, 0)) := by
    rcases hbk0 with hb | hb
    · exact ⟨_, hb⟩
    · exact ⟨_, hb⟩
  have hUS : ∀ (w : World), (Builtin.unsafeString_ #[160, 3] 9 #[.pointer none, .int .i64 0]).run Tryz.prog w = .ok (.string ⟨#[]⟩) w := fun w => by kernel_rfl
  have c1 : w.drew.cell? ⟨b, 1, none⟩ = some (.slice none 0 0) := by
    have : w.drew.heap[b]? = some (.cells #[p, .slice none 0 0] 112 (0, 0)) := hbk
    rw [Lib.cell_of_heap this]; rfl
  have hSD : (Builtin.unsafeSliceData_ #[110] 160 #[.slice none 0 0]).run Tryz.prog w.drew = .ok (.pointer none) w.drew := rfl
  go_enter Tryz.func65, Tryz.ntmps65
  go_wp2
  go_region
  all_goals (go_wp2; go_ret; exact ⟨rfl, fr_drew w⟩)
end Go.Proofs.YtemfbkelenaaeaaGreat
/- Two builders together: what each call on one of them leaves. -/
namespace Go.Proofs.YtemfbkelenaaeaaGreat
open Go.RowKit
def Apart (v u : Value) : Prop := ∀ g, v.ownBlock = some g → u.ownBlock ≠ some g
theorem Apart.symm {v u : Value} (h : Apart v u) : Apart u v := fun g hg hv => h g hv hg
theorem Apart.side {v u : Value} (h : Apart v u) : u.ownBlock = none ∨ u.ownBlock ≠ v.ownBlock := by
  rcases hu : u.ownBlock with _ | g
  · exact .inl rfl
  · exact .inr fun e => h g e.symm hu
def Duo (w : World) (B p q : Nat) (bs cs : List Value) : Prop :=
  p ≠ q ∧ ∃ v u, Bld w B p v bs ∧ Bld w B q u cs ∧ Apart v u ∧ (bs = [] → v = .slice none 0 0) ∧ (cs = [] → u = .slice none 0 0)
theorem Duo.symm {w : World} {B p q : Nat} {bs cs : List Value} (h : Duo w B p q bs cs) : Duo w B q p cs bs := by
  obtain ⟨h0, v, u, h1, h2, h3, h4, h5⟩ := h
  exact ⟨fun e => h0 e.symm, u, v, h2, h1, h3.symm, h5, h4⟩
theorem Bld.below {w w' : World} {B b : Nat} {v : Value} {bs : List Value} (h : Bld w B b v bs) (hb : Below w.heap.size w w') : Bld w' B b v bs :=
  ⟨h.1, by rw [hb.block b h.lt]; exact h.2.1, own_below h.2.2 hb (Nat.le_refl _)⟩
theorem Duo.below {w w' : World} {B p q : Nat} {bs cs : List Value} (h : Duo w B p q bs cs) (hb : Below w.heap.size w w') : Duo w' B p q bs cs := by
  obtain ⟨h0, v, u, h1, h2, rest⟩ := h
  exact ⟨h0, v, u, h1.below hb, h2.below hb, rest⟩
theorem Duo.lt {w : World} {B p q : Nat} {bs cs : List Value} (h : Duo w B p q bs cs) : B < w.heap.size := by
  obtain ⟨h0, v, u, h1, h2, rest⟩ := h
  exact Nat.lt_of_le_of_lt h1.1 h1.lt
theorem Duo.new (w : World) (B : Nat) (hB : B ≤ w.heap.size) :
    Duo ((w.alloc (.cells #[.pointer none, .slice none 0 0] 112)).alloc (.cells #[.pointer none, .slice none 0 0] 112)) B w.heap.size (w.heap.size + 1) [] [] := by
  refine ⟨by omega, .slice none 0 0, .slice none 0 0, ⟨hB, .inl ?_, World.ownsRow_nil _ _ _ _⟩, ⟨by omega, .inl ?_, World.ownsRow_nil _ _ _ _⟩, (show Apart _ _ from (fun _ h => by cases h)), fun _ => rfl, fun _ => rfl⟩
  · show ((w.heap.push _).push _)[w.heap.size]? = _
    simp [Array.getElem?_push]
  · show ((w.heap.push _).push _)[w.heap.size + 1]? = _
    rw [Array.getElem?_push, if_pos (by simp)]
/-- What is neither a builder nor a row of bytes stays. -/
def Keeps (w w' : World) : Prop := ∀ (k : Nat) (cs : Array Value) (T : TypeId), T ≠ 112 → T ≠ 5 → w.heap[k]? = some (Obj.cells cs T (0, 0)) → w'.heap[k]? = some (Obj.cells cs T (0, 0))
theorem Fr.keeps {B b : Nat} {v : Value} {bs : List Value} {w w' : World} (f : Fr b v.ownBlock w w') (h : Bld w B b v bs) : Keeps w w' := by
  intro k cs T h1 h2 hk
  have hlt : k < w.heap.size := by
    rcases Nat.lt_or_ge k w.heap.size with h' | h'
    · exact h'
    · rw [Array.getElem?_eq_none h'] at hk; cases hk
  rw [f.block k hlt ?_ ?_, hk]
  · rintro rfl
    rcases h.2.1 with h3 | h3 <;> rw [hk] at h3 <;> cases h3 <;> exact h1 rfl
  · intro he
    rcases h.2.2.2 with ⟨rfl, _⟩ | ⟨g, cap, cur, rfl, _, hg, _⟩
    · cases he
    · simp only [Value.ownBlock, Option.some.injEq] at he
      subst he
      rw [hk] at hg; cases hg; exact h2 rfl
theorem Keeps.cell {w w' : World} (h : Keeps w w') {k : Nat} {cs : Array Value} {T : TypeId} (h1 : T ≠ 112) (h2 : T ≠ 5) (hk : w.heap[k]? = some (.cells cs T (0, 0))) (j : Nat) (x : Value) (hx : cs[j]? = some x) : w'.cell? ⟨k, j, none⟩ = some x := by
  rw [Lib.cell_of_heap (h k cs T h1 h2 hk), hx]
theorem Duo.write {w : World} {B p q : Nat} {bs cs : List Value} (h : Duo w B p q bs cs) (s : ByteArray) (hs : s.size ≠ 0) (hlen : bs.length + s.size ≤ 140737488355328) :
    Calls Tryz.prog 60 #[.pointer (some ⟨p, 0, none⟩), .string s] w fun e w' => e = .returned (.tuple #[.int .i64 s.size, .nilIface]) ∧ Duo w' B p q (bs ++ Lib.strCells s) cs ∧ Below B w w' ∧ Keeps w w' := by
  obtain ⟨h0, v, u, h1, h2, h3, h4, h5⟩ := h
  refine (write_at B p v bs s w h1 hlen).mono ?_
  rintro e w' ⟨rfl, v', k1, k2, k3⟩
  refine ⟨rfl, ⟨h0, v', u, k1, h1.other h2 (fun e => h0 e.symm) h3.side k3, ?_, ?_, h5⟩, k3.below h1, k3.keeps h1⟩
  · intro g hg hu
    rcases k2 with k2 | ⟨g', k2, k2'⟩
    · exact h3 g (k2 ▸ hg) hu
    · have := h2.row_lt hu
      rw [k2] at hg
      cases hg
      omega
  · intro hnil
    have hx := congrArg List.length hnil
    rw [List.length_append, Lib.strCells_length] at hx
    have h9 : ([] : List Value).length = 0 := rfl
    omega
theorem Duo.write2 {w : World} {B p q : Nat} {bs cs : List Value} (h : Duo w B p q bs cs) (s : ByteArray) (hs : s.size ≠ 0) (hlen : cs.length + s.size ≤ 140737488355328) :
    Calls Tryz.prog 60 #[.pointer (some ⟨q, 0, none⟩), .string s] w fun e w' => e = .returned (.tuple #[.int .i64 s.size, .nilIface]) ∧ Duo w' B p q bs (cs ++ Lib.strCells s) ∧ Below B w w' ∧ Keeps w w' :=
  (h.symm.write s hs hlen).mono fun _ _ ⟨h1, h2, h3⟩ => ⟨h1, h2.symm, h3⟩
theorem Duo.len2 {w : World} {B p q : Nat} {bs : List Value} {l : List UInt8} (h : Duo w B p q bs (Lib.byteCells l)) :
    Calls Tryz.prog 62 #[.pointer (some ⟨q, 0, none⟩)] w fun e w' => e = .returned (.int .i64 l.length) ∧ w = w' := by
  obtain ⟨h0, v, u, h1, h2, h3, h4, h5⟩ := h
  have := Tryz.Builder_Len B q (Lib.byteCells l) w h2.is
  rw [Lib.byteCells_length] at this
  exact this.mono fun _ _ ⟨k1, k2⟩ => ⟨k1, k2.symm⟩
theorem Duo.string {w : World} {B p q : Nat} {cs : List Value} {l : List UInt8} (h : Duo w B p q (Lib.byteCells l) cs) :
    Calls Tryz.prog 65 #[.pointer (some ⟨p, 0, none⟩)] w fun e w' => e = .returned (.string (str l)) ∧ (∃ u, Bld w' B q u cs) ∧ Below B w w' := by
  obtain ⟨h0, v, u, h1, h2, h3, h4, h5⟩ := h
  cases l with
  | nil =>
    obtain rfl := h4 rfl
    refine (string_none B p w h1).mono ?_
    rintro e w' ⟨rfl, k⟩
    have k' : Fr p (Value.slice none 0 0).ownBlock w w' := k
    exact ⟨rfl, ⟨u, h1.other h2 (fun e => h0 e.symm) h3.side k'⟩, k'.below h1⟩
  | cons c l =>
    refine (string_some B p v (c :: l) w h1 (by simp)).mono ?_
    rintro e w' ⟨rfl, k⟩
    exact ⟨rfl, ⟨u, h1.other h2 (fun e => h0 e.symm) h3.side k⟩, k.below h1⟩
theorem string_last {w : World} {B q : Nat} {l : List UInt8} (h : ∃ u, Bld w B q u (Lib.byteCells l)) :
    Calls Tryz.prog 65 #[.pointer (some ⟨q, 0, none⟩)] w fun e w' => e = .returned (.string (str l)) ∧ Below B w w' := by
  obtain ⟨u, h⟩ := h
  exact Tryz.Builder_String_any B q l w h.is (Nat.le_of_lt (Nat.lt_of_le_of_lt h.1 h.lt))
end Go.Proofs.YtemfbkelenaaeaaGreat
/- The contract of Body, at a leaf's cells. -/

namespace Go.Proofs.YtemfbkelenaaeaaGreat
open Go.RowKit
open Sl (Cl Kd)
theorem strCells_str (l : List UInt8) : Lib.strCells (str l) = Lib.byteCells l := rfl
theorem byteCells_app (l m : List UInt8) : Lib.byteCells l ++ Lib.byteCells m = Lib.byteCells (l ++ m) := by simp [Lib.byteCells]
theorem byteCells_len (l : List UInt8) : (Lib.byteCells l).length = l.length := by simp [Lib.byteCells]

theorem elemHC {w : World} {k : Nat} {y0 y1 y2 y3 : Value} {T : TypeId} (h : w.heap[k]? = some (.cells #[y0, y1, y2, y3] T (0, 0))) : w.cell? ⟨k, 0, none⟩ = some y0 ∧ w.cell? ⟨k, 1, none⟩ = some y1 ∧ w.cell? ⟨k, 2, none⟩ = some y2 ∧ w.cell? ⟨k, 3, none⟩ = some y3 :=
  ⟨(Lib.cell_of_heap h 0).trans rfl, (Lib.cell_of_heap h 1).trans rfl, (Lib.cell_of_heap h 2).trans rfl, (Lib.cell_of_heap h 3).trans rfl⟩
theorem World.block_lt_of_heap {w : World} {k : Nat} {o : Obj} (h : w.heap[k]? = some o) : k < w.heap.size := by
  rcases Nat.lt_or_ge k w.heap.size with h' | h'
  · exact h'
  · rw [Array.getElem?_eq_none h'] at h; cases h
set_option maxHeartbeats 4000000 in
set_option maxRecDepth 100000 in
theorem bodyC_any (v : Value) (l : List Cl) (hll : l.length ≤ 100000) (hl : ∀ x ∈ l, okC x) (w : World) (hv : SlC w v l) :
    Calls Tryz.prog 26 #[shpC, v] w fun e w' => e = .returned (.tuple #[.string (str (Sl.bodyR Sl.shC l).1), .int .i64 (Sl.bodyR Sl.shC l).2]) ∧ Below w.heap.size w w' := by
  have HL := Lib.hid hl
  have HB0 := Lib.hid (BxC.new w)
  have HW0 : Hid (Below w.heap.size w (w.alloc (.cells #[.func (.func 53) #[] #[], .func (.func 54) #[] #[], .func (.func 55) #[] #[], .func (.func 56) #[] #[]] 66))) := (Below.refl _ _).alloc (Nat.le_refl _) _
  have HWh := Lib.hid (fun W => wholeC_any W)
  have HMa := Lib.hid (fun W (hW : SlC W v l) => mayC_any v l hll W hW)
  have HSu := Lib.hid (fun W (hW : SlC W v l) => sumC_any v l hll hl W hW)
  have HV := Lib.hid hv
  have HVB : Hid (∀ W, Below w.heap.size w W → SlC W v l) := fun W hW => hv.below hW
  obtain ⟨a, b, o, c, rfl, ha, hx⟩ := hv
  have HX := Lib.hid hx
  have HA := Lib.hid ha
  clear hl ha hx
  unfold shpC at HWh HMa HSu ⊢
  have hlen : (l.length : Int) ≤ 100000 := by omega
  by_cases hr : Sl.right Sl.shC l = 0
  · by_cases hs : 4072 < Sl.sum Sl.shC l
    · rw [Sl.bodyR_full Sl.shC l hr hs]
      rw [hr] at HMa
      clear hr
      revert HMa HSu hs
      generalize Sl.sum Sl.shC l = m
      intro HMa HSu hs
      have hs' : (4072 : Int) < m := by omega
      go_enter Tryz.func26, Tryz.ntmps26
      go_wp2_with (first
        | (go_at_call 58; refine (HWh.out _).mono ?_; rintro e w1 ⟨rfl, hb1⟩; have HB1 := Lib.hid (below_step HW0.out hb1); have HR1 := Lib.hid (HB0.out.below hb1 HB0.out.lt); have q0 := HR1.out.c0; have q1 := HR1.out.c1; have q2 := HR1.out.c2; have q3 := HR1.out.c3)
        | (go_at_call 59; refine (HMa.out _ (HVB.out _ HB1.out)).mono ?_; rintro e w2 ⟨rfl, hb2⟩; have HB2 := Lib.hid (below_step HB1.out hb2); have HR2 := Lib.hid (HR1.out.below hb2 HR1.out.lt); have q0 := HR2.out.c0; have q1 := HR2.out.c1; have q2 := HR2.out.c2; have q3 := HR2.out.c3)
        | (go_at_call 39; refine (HSu.out _ (HVB.out _ HB2.out)).mono ?_; rintro e w3 ⟨rfl, hb3⟩; have HB3 := Lib.hid (below_step HB2.out hb3)))
      go_ret2
      exact ⟨rfl, HB3.out⟩
    · rw [Sl.bodyR_ok Sl.shC l hr hs]
      rw [hr] at HMa
      have HAT := Lib.hid (fun k => Sl.at_le Sl.shC l k (Nat.le_of_not_lt hs))
      have HBL : Hid (2 * l.length = (Sl.begins Sl.shC (2 * l.length) l).length) := (Sl.begins_len Sl.shC l _).symm
      have HBS : Hid (str (Sl.begins Sl.shC (2 * l.length) l) ++ str (l.flatMap Sl.shC.enc) = str (Sl.body Sl.shC l)) := by show _ = _; rw [str_append]; rfl
      clear hr
      revert HSu hs HBS
      generalize Sl.sum Sl.shC l = m
      generalize Sl.body Sl.shC l = res
      intro HSu hs HBS
      have hs' : ¬ (4072 : Int) < m := by omega
      go_enter Tryz.func26, Tryz.ntmps26
      go_wp2_with (first
        | (go_at_call 58; refine (HWh.out _).mono ?_; rintro e w1 ⟨rfl, hb1⟩; have HB1 := Lib.hid (below_step HW0.out hb1); have HR1 := Lib.hid (HB0.out.below hb1 HB0.out.lt); have q0 := HR1.out.c0; have q1 := HR1.out.c1; have q2 := HR1.out.c2; have q3 := HR1.out.c3)
        | (go_at_call 59; refine (HMa.out _ (HVB.out _ HB1.out)).mono ?_; rintro e w2 ⟨rfl, hb2⟩; have HB2 := Lib.hid (below_step HB1.out hb2); have HR2 := Lib.hid (HR1.out.below hb2 HR1.out.lt); have q0 := HR2.out.c0; have q1 := HR2.out.c1; have q2 := HR2.out.c2; have q3 := HR2.out.c3)
        | (go_at_call 39; refine (HSu.out _ (HVB.out _ HB2.out)).mono ?_; rintro e w3 ⟨rfl, hb3⟩; have HB3 := Lib.hid (below_step HB2.out hb3); have HR3 := Lib.hid (HR2.out.below hb3 HR2.out.lt)))
      clear q0 q1 q2 q3 hb1 hb2 hb3 hs hs'
      have HD4 := Lib.hid (Duo.new w3 w3.heap.size (Nat.le_refl _))
      have HB4 : Hid (Below w3.heap.size w3 ((w3.alloc (.cells #[.pointer none, .slice none 0 0] 112)).alloc (.cells #[.pointer none, .slice none 0 0] 112))) := ((Below.refl _ _).alloc (Nat.le_refl _) _).alloc (by simp) _
      have HR4 := Lib.hid ((HR3.out.alloc (.cells #[.pointer none, .slice none 0 0] 112)).alloc (.cells #[.pointer none, .slice none 0 0] 112))
      have HGP := Lib.hid HR3.out.lt
      revert HD4 HB4 HR4 HGP
      generalize ((w3.alloc (.cells #[.pointer none, .slice none 0 0] 112)).alloc (.cells #[.pointer none, .slice none 0 0] 112)) = w4
      generalize hp : w3.heap.size = p
      have HP := Lib.hid hp
      clear hp
      intro HD4 HB4 HR4 HGP
      have HW4 : Hid (Below w.heap.size w w4) := HB3.out.trans (HB4.out.mono (Nat.le_of_lt HGP.out))
      go_loopg [26] l.length (fun n i wr => ∃ k : Nat, k ≤ l.length ∧ n = l.length - k ∧ i = .int .i64 k ∧ Hid (Duo wr p p (p + 1) (Lib.byteCells (Sl.begins Sl.shC (2 * l.length) (l.take k))) (Lib.byteCells ((l.take k).flatMap Sl.shC.enc))) ∧ Hid (Below p w4 wr))
      case atStart => exact ⟨0, Nat.zero_le _, rfl, rfl, HD4.out, Below.refl _ _⟩
      case round =>
        obtain ⟨k, hk, rfl, rfl, HD, HB⟩ := hrel
        by_cases hlt : k < l.length
        · obtain ⟨x, hx⟩ := take_some l k hlt
          have HXL := Lib.hid (HL.out x (List.mem_of_getElem? hx))
          obtain ⟨e0, e1, e2, e3⟩ := HX.out k x hx
          have hblt : b < w.heap.size := World.block_lt_of_cell? _ _ e0
          have HWr := Lib.hid (HW4.out.trans (HB.out.mono (Nat.le_of_lt HGP.out)))
          have d0 := (HWr.out.cell (p := ⟨b, o + k * 4, none⟩) hblt).trans e0
          have d1 := (HWr.out.cell (p := ⟨b, o + k * 4 + 1, none⟩) hblt).trans e1
          have d2 := (HWr.out.cell (p := ⟨b, o + k * 4 + 2, none⟩) hblt).trans e2
          have d3 := (HWr.out.cell (p := ⟨b, o + k * 4 + 3, none⟩) hblt).trans e3
          have HR := Lib.hid (HR4.out.below HB.out HGP.out)
          obtain rfl : a = some ⟨b, o, none⟩ := by
            rcases HA.out with h | h
            · rw [h] at hlt; cases hlt
            · exact h
          have HDa := Lib.hid (HD.out.below ((Below.refl _ _).alloc (Nat.le_refl _) (.cells #[.string (str x.key), .string (str x.val), .int .u32 x.chain, .int .u32 x.long] 52)))
          have HSB := Lib.hid (Sl.begins_at Sl.shC l k x hx (2 * l.length))
          have HSF := Lib.hid (Sl.flat_at Sl.shC l k x hx)
          have hat := HAT.out k
          have HBY := Lib.hid (fun W => bytesC_ok x HXL.out W)
          have HCD := Lib.hid (fun W => codecC_any W)
          have hpos : 1 ≤ (Sl.shC.enc x).length := Sl.encC_pos x
          have hle : (Sl.shC.enc x).length ≤ 65794 := Sl.encC_len x
          have hbl : (Lib.byteCells (Sl.begins Sl.shC (2 * l.length) (l.take k))).length ≤ 200000 := by rw [byteCells_len, Sl.begins_len, List.length_take]; omega
          have hfl : (Lib.byteCells ((l.take k).flatMap Sl.shC.enc)).length ≤ 4072 := by rw [byteCells_len]; omega
          have HPL : Hid (p < wr.heap.size) := HD.out.lt
          clear e0 e1 e2 e3 hx
          revert HD HDa HSB HSF hat HBY hpos hle hbl hfl
          generalize Sl.begins Sl.shC (2 * l.length) (l.take k) = B0
          generalize hb1e : Sl.begins Sl.shC (2 * l.length) (l.take (k + 1)) = B1
          have HB1E := Lib.hid hb1e
          clear hb1e
          generalize (l.take k).flatMap Sl.shC.enc = F0
          generalize hf1e : (l.take (k + 1)).flatMap Sl.shC.enc = F1
          have HF1E := Lib.hid hf1e
          clear hf1e
          generalize Sl.shC.enc x = ex
          intro HD HDa HSB HSF hat HBY hpos hle hbl hfl
          unfold cdcC at HBY HCD
          unfold shpC at HCD
          unfold aggC at HBY
          have HBL2 := Lib.hid hbl
          have HFL2 := Lib.hid hfl
          have HPOS := Lib.hid hpos
          have HLE := Lib.hid hle
          clear hbl hfl hpos hle
          have hq : ∀ o1 : Obj, (wr.alloc o1).heap[wr.heap.size]? = some o1 := (fun (o1 : Obj) => by show (wr.heap.push o1)[wr.heap.size]? = _; simp)
          have HEL := Lib.hid (hq (.cells #[.string (str x.key), .string (str x.val), .int .u32 x.chain, .int .u32 x.long] 52))
          clear hq
          go_wp2_with (first
            | (go_at_call 62; refine (HDa.out.len2).mono ?_; rintro e w5 ⟨rfl, rfl⟩)
            | (go_at_call 61; refine (two_at _ (2 * l.length + F0.length) (by first | omega | (rw [IntKind.wrap_u16]; omega)) (by omega) _).mono ?_; rintro e w6 ⟨rfl, hb6⟩; have HD6 := Lib.hid (HDa.out.below hb6))
            | (go_at_call 60; refine (HD6.out.write (str (Oc.big 2 (2 * l.length + F0.length))) (by rw [big_size]; decide) (by rw [big_size]; have := HBL2.out; omega)).mono ?_; rintro e w7 ⟨rfl, hd7, hb7, hk7⟩))
          have HB7 : Hid (Below p w4 w7) := ((HB.out.alloc (Nat.le_of_lt HPL.out) _).trans (hb6.mono (by have := HPL.out; simp; omega))).trans hb7
          have HR7 := Lib.hid (HR4.out.below HB7.out HGP.out)
          have HE7 := Lib.hid (hk7 _ _ _ (by decide) (by decide) ((hb6.block wr.heap.size (by simp)).trans HEL.out))
          have HD7 := Lib.hid (hd7.below (Below.drew (Below.refl _ _)))
          have HL7 : Hid (wr.heap.size < w7.drew.heap.size) := World.block_lt_of_heap HE7.out
          obtain ⟨z0, z1, z2, z3⟩ := elemHC HE7.out
          have q0 := HR7.out.c0
          have q1 := HR7.out.c1
          have q2 := HR7.out.c2
          have q3 := HR7.out.c3
          clear hb6 hd7 hb7 hk7
          go_region_with (first
            | (go_at_call 63; refine (HCD.out _).mono ?_; rintro e w8 ⟨rfl, hb8⟩; have HE8 := Lib.hid ((hb8.block wr.heap.size HL7.out).trans HE7.out); have HD8 := Lib.hid (HD7.out.below hb8); obtain ⟨z00, z11, z22, z33⟩ := elemHC HE8.out)
            | (go_at_call 64; refine (HBY.out _).mono ?_; rintro e w9 ⟨rfl, hb9⟩; have HD9 := Lib.hid (HD8.out.below hb9))
            | (go_at_call 60; refine (HD9.out.write2 (str ex) (by rw [str_size]; have := HPOS.out; omega) (by rw [str_size]; have h1 := HLE.out; have h2 := HFL2.out; omega)).mono ?_; rintro e w10 ⟨rfl, hd10, hb10, hk10⟩))
          all_goals
            (have HB10 : Hid (Below p w4 w10) := (((HB7.out.drew).trans (hb8.mono (Nat.le_of_lt (Nat.lt_trans HPL.out HL7.out)))).trans (hb9.mono (Nat.le_trans (Nat.le_of_lt (Nat.lt_trans HPL.out HL7.out)) hb8.size))).trans hb10
             rw [strCells_str, strCells_str, byteCells_app, byteCells_app, ← HSB.out, ← HSF.out] at hd10
             have HD10 := Lib.hid hd10
             clear hd10 hb8 hb9 hb10 hk10
             go_wp2
             go_roundg (l.length - (k + 1))
             case measure => omega
             case rel => exact ⟨k + 1, by omega, rfl, by go_num, (by rw [HB1E.out, HF1E.out]; exact HD10), HB10⟩)
        · obtain rfl : k = l.length := by omega
          rw [List.take_length] at HD
          have hbl := Nat.le_of_eq HBL.out.symm
          have hfl := HAT.out l.length
          rw [List.take_length] at hfl
          revert HD hbl hfl HBS
          generalize Sl.begins Sl.shC (2 * l.length) l = B0
          generalize l.flatMap Sl.shC.enc = F0
          intro HBS HD hbl hfl
          have hz1 := str_size B0
          have hz2 := str_size F0
          have hf2 : F0.length ≤ 4072 := by omega
          go_wp2_with (first
            | (go_at_call 65; with_reducible refine (HD.out.string).mono ?_; rintro e w8 ⟨rfl, hu8, hb8⟩; have HU8 := Lib.hid hu8; clear hu8)
            | (go_at_call 65; with_reducible refine (string_last HU8.out).mono ?_; rintro e w9 ⟨rfl, hb9⟩))
          go_ret2
          exact ⟨by rw [← HBS.out]; rfl, ((HW4.out.trans (HB.out.mono (Nat.le_of_lt HGP.out))).trans (hb8.mono (Nat.le_of_lt HGP.out))).trans (hb9.mono (Nat.le_of_lt HGP.out))⟩
  · rw [Sl.bodyR_bad Sl.shC l hr]
    revert HMa hr
    generalize Sl.right Sl.shC l = m
    intro HMa hr
    have hd : (m != 0) = true := by rw [bne_iff_ne]; exact hr
    go_enter Tryz.func26, Tryz.ntmps26
    go_wp2_with (first
      | (go_at_call 58; refine (HWh.out _).mono ?_; rintro e w1 ⟨rfl, hb1⟩; have HB1 := Lib.hid (below_step HW0.out hb1); have HR1 := Lib.hid (HB0.out.below hb1 HB0.out.lt); have q0 := HR1.out.c0; have q1 := HR1.out.c1; have q2 := HR1.out.c2; have q3 := HR1.out.c3)
      | (go_at_call 59; refine (HMa.out _ (HVB.out _ HB1.out)).mono ?_; rintro e w2 ⟨rfl, hb2⟩; have HB2 := Lib.hid (below_step HB1.out hb2)))
    go_ret2
    exact ⟨rfl, HB2.out⟩
end Go.Proofs.YtemfbkelenaaeaaGreat
/- The contracts of the laws' own example, and of whether cells are few. -/
namespace Go.Proofs.YtemfbkelenaaeaaGreat
open Go.RowKit
open Sl (Cl Kd)
def exC : Cl := ⟨[97], [104, 105], 0, 0⟩
theorem exBody : Sl.bodyR Sl.shC [exC] = ([0, 2, 1, 97, 0, 0, 2, 104, 105], 0) := by decide +kernel
theorem bodyEx (v : Value) (w : World) (hv : SlC w v [exC]) :
    Calls Tryz.prog 26 #[shpC, v] w fun e w' => e = .returned (.tuple #[.string ⟨#[0, 2, 1, 97, 0, 0, 2, 104, 105]⟩, .int .i64 0]) ∧ Below w.heap.size w w' := by
  have := bodyC_any v [exC] (by decide) (by intro x hx; simp at hx; subst hx; exact ⟨by decide, by decide⟩) w hv
  rw [exBody] at this
  exact this
theorem sizeEx (w : World) :
    Calls Tryz.prog 86 #[shpC, .agg #[.string ⟨#[97]⟩, .string ⟨#[104, 105]⟩, .int .u32 0, .int .u32 0]] w fun e w' => e = .returned (.int .i64 9) ∧ Below w.heap.size w w' :=
  sizeC_any exC ⟨by decide, by decide⟩ w
theorem slEx (W : World) : SlC (W.alloc (.cells #[.string ⟨#[97]⟩, .string ⟨#[104, 105]⟩, .int .u32 0, .int .u32 0] 52)) (.slice (some ⟨W.heap.size, 0, none⟩) 1 1) [exC] := by
  refine ⟨_, W.heap.size, 0, 1, rfl, .inr rfl, fun j x hj => ?_⟩
  obtain rfl : j = 0 := by
    have := (List.getElem?_eq_some_iff.1 hj).1
    simp at this; exact this
  simp at hj
  subst hj
  refine ⟨?_, ?_, ?_, ?_⟩
  · exact (World.cell?_alloc_new W #[.string ⟨#[97]⟩, .string ⟨#[104, 105]⟩, .int .u32 0, .int .u32 0] 52 0)
  · exact (World.cell?_alloc_new W #[.string ⟨#[97]⟩, .string ⟨#[104, 105]⟩, .int .u32 0, .int .u32 0] 52 1)
  · exact (World.cell?_alloc_new W #[.string ⟨#[97]⟩, .string ⟨#[104, 105]⟩, .int .u32 0, .int .u32 0] 52 2)
  · exact (World.cell?_alloc_new W #[.string ⟨#[97]⟩, .string ⟨#[104, 105]⟩, .int .u32 0, .int .u32 0] 52 3)
theorem slEx2 (w : World) (o : Obj) : SlC ((w.alloc o).alloc (.cells #[.string ⟨#[97]⟩, .string ⟨#[104, 105]⟩, .int .u32 0, .int .u32 0] 52)) (.slice (some ⟨w.heap.size + 1, 0, none⟩) 1 1) [exC] := by
  have := slEx (w.alloc o)
  rwa [show (w.alloc o).heap.size = w.heap.size + 1 by simp] at this
def FewOk (l : List Cl) : Prop := l.length ≤ 400 ∧ ∀ x ∈ l, x.key.length ≤ 300 ∧ x.val.length ≤ 500
inductive FewOut (l : List Cl) (w : World) (e : Ending) (w' : World) : Prop
  | yes (he : e = .returned (.bool true)) (hx : FewOk l) (hb : Below w.heap.size w w')
  | no (he : e = .returned (.bool false)) (hb : Below w.heap.size w w')
set_option maxHeartbeats 2000000 in
set_option maxRecDepth 100000 in
theorem few_any (v : Value) (l : List Cl) (hll : l.length ≤ maxLen) (w : World) (hv : SlC w v l) :
    Calls Tryz.prog 6 #[v] w (FewOut l w) := by
  unfold maxLen at hll
  obtain ⟨a, b, o, c, rfl, ha, hx⟩ := hv
  have HX := Lib.hid hx
  have HA := Lib.hid ha
  clear ha hx
  go_enter Tryz.func6, Tryz.ntmps6
  go_wp2
  go_loopg [7] l.length (fun n i wr => ∃ k : Nat, k ≤ l.length ∧ n = l.length - k ∧ i = .int .i64 k ∧ Hid (∀ (j : Nat) (x : Cl), j < k → l[j]? = some x → l.length ≤ 400 ∧ x.key.length ≤ 300 ∧ x.val.length ≤ 500) ∧ Hid (Below w.heap.size w wr))
  case atStart => exact ⟨0, Nat.zero_le _, rfl, rfl, fun j x hj => absurd hj (Nat.not_lt_zero j), Below.refl _ _⟩
  case round =>
    obtain ⟨k, hk, rfl, rfl, HM, HB⟩ := hrel
    by_cases hlt : k < l.length
    · obtain ⟨x, hx⟩ := take_some l k hlt
      have HXK := Lib.hid hx
      obtain ⟨e0, e1, e2, e3⟩ := HX.out k x hx
      have hblt : b < w.heap.size := World.block_lt_of_cell? _ _ e0
      have d0 := (HB.out.cell (p := ⟨b, o + k * 4, none⟩) hblt).trans e0
      have d1 := (HB.out.cell (p := ⟨b, o + k * 4 + 1, none⟩) hblt).trans e1
      have d2 := (HB.out.cell (p := ⟨b, o + k * 4 + 2, none⟩) hblt).trans e2
      have d3 := (HB.out.cell (p := ⟨b, o + k * 4 + 3, none⟩) hblt).trans e3
      obtain rfl : a = some ⟨b, o, none⟩ := by
        rcases HA.out with h | h
        · rw [h] at hlt; cases hlt
        · exact h
      have HBa : Hid (Below w.heap.size w (wr.alloc (.cells #[.string (str x.key), .string (str x.val), .int .u32 x.chain, .int .u32 x.long] 52))) := HB.out.alloc HB.out.size _
      have hs1 := str_size x.key
      have hs2 := str_size x.val
      clear e0 e1 e2 e3 hx
      by_cases h1 : (400 : Int) < l.length
      · go_wp2
        go_ret
        exact .no rfl HBa.out
      · by_cases h2 : (300 : Int) < x.key.length
        · go_wp2
          go_ret
          exact .no rfl HBa.out
        · by_cases h3 : (500 : Int) < x.val.length
          · go_wp2
            go_ret
            exact .no rfl HBa.out
          · have HN : Hid (∀ (j : Nat) (y : Cl), j < k + 1 → l[j]? = some y → l.length ≤ 400 ∧ y.key.length ≤ 300 ∧ y.val.length ≤ 500) := by
              intro j y hj hy
              by_cases hjk : j < k
              · exact HM.out j y hjk hy
              · obtain rfl : j = k := by omega
                rw [HXK.out] at hy
                cases hy
                exact ⟨by omega, by omega, by omega⟩
            go_wp2
            go_roundg (l.length - (k + 1))
            case measure => omega
            case rel => exact ⟨k + 1, by omega, rfl, by go_num, HN, HBa⟩
    · obtain rfl : k = l.length := by omega
      have HF : Hid (FewOk l) := by
        refine ⟨?_, fun x hx => ?_⟩
        · cases hl : l with
          | nil => decide
          | cons y t => rw [← hl]; exact (HM.out 0 y (by rw [hl]; simp) (by rw [hl]; rfl)).1
        · obtain ⟨j, hj⟩ := List.getElem?_of_mem hx
          exact (HM.out j x (List.getElem?_eq_some_iff.1 hj).1 hj).2
      go_wp2
      go_ret
      exact .yes rfl HF.out HB.out
end Go.Proofs.YtemfbkelenaaeaaGreat
/- The law's own example of nodes. -/
namespace Go.Proofs.YtemfbkelenaaeaaGreat
open Go.RowKit
open Sl (Cl Kd Nd Rn)
def exN : Nd := ⟨true, [⟨[97], [], 0, 0⟩, ⟨[98], [], 0, 0⟩], []⟩
theorem exK : Sl.spK exN = [98] := by decide +kernel
theorem exA : (Sl.spA exN).cs.length = 1 ∧ (Sl.spB exN).cs.length = 1 ∧ str (Sl.spK exN) = ⟨#[98]⟩ ∧ (Sl.spA exN).leaf = true ∧ (Sl.spB exN).leaf = true := ⟨by decide +kernel, by decide +kernel, by rw [exK]; rfl, by decide +kernel, by decide +kernel⟩
theorem slTwo (W : World) (x y : Cl) : SlC (W.alloc (.cells #[.string (str x.key), .string (str x.val), .int .u32 x.chain, .int .u32 x.long, .string (str y.key), .string (str y.val), .int .u32 y.chain, .int .u32 y.long] 52)) (.slice (some ⟨W.heap.size, 0, none⟩) 2 2) [x, y] := by
  refine ⟨_, W.heap.size, 0, 2, rfl, .inr rfl, fun j z hj => ?_⟩
  have hj2 : j < 2 := (List.getElem?_eq_some_iff.1 hj).1
  match j, hj2 with
  | 0, _ =>
    simp at hj; subst hj
    exact ⟨World.cell?_alloc_new W _ _ 0, World.cell?_alloc_new W _ _ 1, World.cell?_alloc_new W _ _ 2, World.cell?_alloc_new W _ _ 3⟩
  | 1, _ =>
    simp at hj; subst hj
    exact ⟨World.cell?_alloc_new W _ _ 4, World.cell?_alloc_new W _ _ 5, World.cell?_alloc_new W _ _ 6, World.cell?_alloc_new W _ _ 7⟩
theorem nawake_any (w : World) : Calls Tryz.prog 5 #[] w fun e w' => e = .returned (.bool true) ∧ Below w.heap.size w w' := by
  have HS := Lib.hid (fun W v (hv : NdV W v exN) => split_any v exN W hv (by decide) (by decide) (by intro x hx; simp [exN] at hx; rcases hx with rfl | rfl <;> exact ⟨by decide, by decide⟩) (by intro x hx; simp [exN] at hx))
  have HV : Hid (NdV (w.alloc (.cells #[.string ⟨#[97]⟩, .string ⟨#[]⟩, .int .u32 0, .int .u32 0, .string ⟨#[98]⟩, .string ⟨#[]⟩, .int .u32 0, .int .u32 0] 52)) (.agg #[.bool true, .slice (some ⟨w.heap.size, 0, none⟩) 2 2, .slice none 0 0]) exN) :=
    ⟨_, _, rfl, slTwo w ⟨[97], [], 0, 0⟩ ⟨[98], [], 0, 0⟩, ⟨_, _, _, Nat.le_refl _, by decide, fun h => by cases h⟩, SlK.nil _, cap_nil⟩
  have HB : Hid (∀ o1, Below w.heap.size w (w.alloc o1)) := fun o1 => (Below.refl _ _).alloc (Nat.le_refl _) _
  go_enter Tryz.func5, Tryz.ntmps5
  go_wp2_with (go_at_call 22; refine (HS.out _ _ HV.out).mono ?_; rintro e w1 ⟨u, v, rfl, hu, hv, hb1⟩; obtain ⟨vc, vk, rfl, hc, hcc, hk, hkk⟩ := hu; obtain ⟨vc', vk', rfl, hc', hcc', hk', hkk'⟩ := hv; obtain ⟨a1, b1, o1, c1, rfl, _, _⟩ := hc; obtain ⟨a2, b2, o2, c2, rfl, _, _⟩ := hc'; obtain ⟨e1, e2, e3, e4, e5⟩ := exA; rw [e1, e2, e3, e4, e5]; unfold ndV; obtain ⟨a3, n3, c3, _, _, _⟩ := hkk; obtain ⟨a4, n4, c4, _, _, _⟩ := hkk'; have HB1 := Lib.hid ((HB.out _).trans (hb1.mono (HB.out _).size)); clear hk hk' hcc hcc' hb1)
  go_ret
  exact ⟨rfl, (HB1.out.alloc HB1.out.size _).alloc (Nat.le_trans HB1.out.size (by simp)) _⟩
end Go.Proofs.YtemfbkelenaaeaaGreat
/- Nodes of a law's rows: their cells are right, and their values' forms. -/
namespace Go.Proofs.YtemfbkelenaaeaaGreat
open Go.RowKit
open Sl (Cl Kd Nd Rn)
theorem okC_key (l : List Cl) (hl : ∀ x ∈ l, okC x) (lf : Bool) : (∀ x ∈ (Sl.fromN lf l).cs, okC x) ∧ (∀ x ∈ (Sl.fromN lf l).ks, okK x) := by
  cases lf
  · refine ⟨fun x hx => by simp [Sl.fromN] at hx, fun x hx => ?_⟩
    obtain ⟨y, hy, rfl⟩ := List.mem_map.1 (show x ∈ l.map toK from hx)
    exact (hl y hy).1
  · exact ⟨hl, fun x hx => by simp [Sl.fromN] at hx⟩
theorem ok_toR (l : List Cl) (hl : ∀ x ∈ l, okC x) (hs : ∀ x ∈ l, x.val.length ≤ 500) (lf : Bool) : ∀ x ∈ (Sl.toR (Sl.fromN lf l)).l, okC x ∧ x.val.length ≤ 60000 := by
  cases lf
  · intro x hx
    obtain ⟨y, hy, rfl⟩ := List.mem_map.1 (show x ∈ (l.map toK).map toC from hx)
    obtain ⟨z, hz, rfl⟩ := List.mem_map.1 hy
    exact ⟨⟨(hl z hz).1, show 0 < 4294967296 by decide⟩, show ([] : List UInt8).length ≤ 60000 by decide⟩
  · intro x hx
    exact ⟨hl x hx, by have := hs x hx; omega⟩
theorem NdV.form {w : World} {v : Value} {n : Nd} (h : NdV w v n) : ∃ a1 n1 c1 a2 n2 c2, v = .agg #[.bool n.leaf, .slice a1 n1 c1, .slice a2 n2 c2] := by
  obtain ⟨vc, vk, rfl, _, hc, _, hk⟩ := h
  obtain ⟨a1, n1, c1, _, _, _⟩ := hc
  obtain ⟨a2, n2, c2, _, _, _⟩ := hk
  exact ⟨a1, n1, c1, a2, n2, c2, rfl⟩
theorem RnV.form {w : World} {v : Value} {n : Rn} (h : RnV w v n) : ∃ a1 n1 c1, v = .agg #[.bool n.leaf, .slice a1 n1 c1] := by
  obtain ⟨vc, rfl, _, hc⟩ := h
  obtain ⟨a1, n1, c1, _, _, _⟩ := hc
  exact ⟨a1, n1, c1, rfl⟩
end Go.Proofs.YtemfbkelenaaeaaGreat
