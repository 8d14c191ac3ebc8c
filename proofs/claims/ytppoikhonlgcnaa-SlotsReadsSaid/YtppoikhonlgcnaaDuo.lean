/- Two builders together: what each call on one of them leaves. -/
import Derived.Test.YtppoikhonlgcnaaStr2
namespace Go.Proofs.Ytppoikhonlgcnaa
open Go.RowKit
def Apart (v u : Value) : Prop := ∀ g, v.ownBlock = some g → u.ownBlock ≠ some g
theorem Apart.symm {v u : Value} (h : Apart v u) : Apart u v := fun g hg hv => h g hv hg
theorem Apart.side {v u : Value} (h : Apart v u) : u.ownBlock = none ∨ u.ownBlock ≠ v.ownBlock := by
  rcases hu : u.ownBlock with _ | g
  · exact .inl rfl
  · exact .inr fun e => h g e.symm hu
def Duo (w : World) (B p q : Nat) (bs cs : List Value) : Prop :=
  p ≠ q ∧ ∃ v u, Bld w B p v bs ∧ Bld w B q u cs ∧ Apart v u ∧ (bs = [] → v = .slice none 0 0) ∧ (cs = [] → u = .slice none 0 0)
theorem Duo.symm {w : World} {B p q : Nat} {bs cs : List Value} (h : Duo w B p q bs cs) : Duo w B q p cs bs := by
  obtain ⟨h0, v, u, h1, h2, h3, h4, h5⟩ := h
  exact ⟨fun e => h0 e.symm, u, v, h2, h1, h3.symm, h5, h4⟩
theorem Bld.below {w w' : World} {B b : Nat} {v : Value} {bs : List Value} (h : Bld w B b v bs) (hb : Below w.heap.size w w') : Bld w' B b v bs :=
  ⟨h.1, by rw [hb.block b h.lt]; exact h.2.1, own_below h.2.2 hb (Nat.le_refl _)⟩
theorem Duo.below {w w' : World} {B p q : Nat} {bs cs : List Value} (h : Duo w B p q bs cs) (hb : Below w.heap.size w w') : Duo w' B p q bs cs := by
  obtain ⟨h0, v, u, h1, h2, rest⟩ := h
  exact ⟨h0, v, u, h1.below hb, h2.below hb, rest⟩
theorem Duo.lt {w : World} {B p q : Nat} {bs cs : List Value} (h : Duo w B p q bs cs) : B < w.heap.size := by
  obtain ⟨h0, v, u, h1, h2, rest⟩ := h
  exact Nat.lt_of_le_of_lt h1.1 h1.lt
theorem Duo.new (w : World) (B : Nat) (hB : B ≤ w.heap.size) :
    Duo ((w.alloc (.cells #[.pointer none, .slice none 0 0] 87)).alloc (.cells #[.pointer none, .slice none 0 0] 87)) B w.heap.size (w.heap.size + 1) [] [] := by
  refine ⟨by omega, .slice none 0 0, .slice none 0 0, ⟨hB, .inl ?_, World.ownsRow_nil _ _ _ _⟩, ⟨by omega, .inl ?_, World.ownsRow_nil _ _ _ _⟩, (show Apart _ _ from (fun _ h => by cases h)), fun _ => rfl, fun _ => rfl⟩
  · show ((w.heap.push _).push _)[w.heap.size]? = _
    simp [Array.getElem?_push]
  · show ((w.heap.push _).push _)[w.heap.size + 1]? = _
    rw [Array.getElem?_push, if_pos (by simp)]
/-- What is neither a builder nor a row of bytes stays. -/
def Keeps (w w' : World) : Prop := ∀ (k : Nat) (cs : Array Value) (T : TypeId), T ≠ 87 → T ≠ 5 → w.heap[k]? = some (Obj.cells cs T (0, 0)) → w'.heap[k]? = some (Obj.cells cs T (0, 0))
theorem Fr.keeps {B b : Nat} {v : Value} {bs : List Value} {w w' : World} (f : Fr b v.ownBlock w w') (h : Bld w B b v bs) : Keeps w w' := by
  intro k cs T h1 h2 hk
  have hlt : k < w.heap.size := by
    rcases Nat.lt_or_ge k w.heap.size with h' | h'
    · exact h'
    · rw [Array.getElem?_eq_none h'] at hk; cases hk
  rw [f.block k hlt ?_ ?_, hk]
  · rintro rfl
    rcases h.2.1 with h3 | h3 <;> rw [hk] at h3 <;> cases h3 <;> exact h1 rfl
  · intro he
    rcases h.2.2.2 with ⟨rfl, _⟩ | ⟨g, cap, cur, rfl, _, hg, _⟩
    · cases he
    · simp only [Value.ownBlock, Option.some.injEq] at he
      subst he
      rw [hk] at hg; cases hg; exact h2 rfl
theorem Keeps.cell {w w' : World} (h : Keeps w w') {k : Nat} {cs : Array Value} {T : TypeId} (h1 : T ≠ 87) (h2 : T ≠ 5) (hk : w.heap[k]? = some (.cells cs T (0, 0))) (j : Nat) (x : Value) (hx : cs[j]? = some x) : w'.cell? ⟨k, j, none⟩ = some x := by
  rw [Lib.cell_of_heap (h k cs T h1 h2 hk), hx]
theorem Duo.write {w : World} {B p q : Nat} {bs cs : List Value} (h : Duo w B p q bs cs) (s : ByteArray) (hs : s.size ≠ 0) (hlen : bs.length + s.size ≤ 140737488355328) :
    Calls Try.prog 45 #[.pointer (some ⟨p, 0, none⟩), .string s] w fun e w' => e = .returned (.tuple #[.int .i64 s.size, .nilIface]) ∧ Duo w' B p q (bs ++ Lib.strCells s) cs ∧ Below B w w' ∧ Keeps w w' := by
  obtain ⟨h0, v, u, h1, h2, h3, h4, h5⟩ := h
  refine (write_at B p v bs s w h1 hlen).mono ?_
  rintro e w' ⟨rfl, v', k1, k2, k3⟩
  refine ⟨rfl, ⟨h0, v', u, k1, h1.other h2 (fun e => h0 e.symm) h3.side k3, ?_, ?_, h5⟩, k3.below h1, k3.keeps h1⟩
  · intro g hg hu
    rcases k2 with k2 | ⟨g', k2, k2'⟩
    · exact h3 g (k2 ▸ hg) hu
    · have := h2.row_lt hu
      rw [k2] at hg
      cases hg
      omega
  · intro hnil
    have hx := congrArg List.length hnil
    rw [List.length_append, Lib.strCells_length] at hx
    have h9 : ([] : List Value).length = 0 := rfl
    omega
theorem Duo.write2 {w : World} {B p q : Nat} {bs cs : List Value} (h : Duo w B p q bs cs) (s : ByteArray) (hs : s.size ≠ 0) (hlen : cs.length + s.size ≤ 140737488355328) :
    Calls Try.prog 45 #[.pointer (some ⟨q, 0, none⟩), .string s] w fun e w' => e = .returned (.tuple #[.int .i64 s.size, .nilIface]) ∧ Duo w' B p q bs (cs ++ Lib.strCells s) ∧ Below B w w' ∧ Keeps w w' :=
  (h.symm.write s hs hlen).mono fun _ _ ⟨h1, h2, h3⟩ => ⟨h1, h2.symm, h3⟩
theorem Duo.len2 {w : World} {B p q : Nat} {bs : List Value} {l : List UInt8} (h : Duo w B p q bs (Lib.byteCells l)) :
    Calls Try.prog 47 #[.pointer (some ⟨q, 0, none⟩)] w fun e w' => e = .returned (.int .i64 l.length) ∧ w = w' := by
  obtain ⟨h0, v, u, h1, h2, h3, h4, h5⟩ := h
  have := Try.Builder_Len B q (Lib.byteCells l) w h2.is
  rw [Lib.byteCells_length] at this
  exact this.mono fun _ _ ⟨k1, k2⟩ => ⟨k1, k2.symm⟩
theorem Duo.string {w : World} {B p q : Nat} {cs : List Value} {l : List UInt8} (h : Duo w B p q (Lib.byteCells l) cs) :
    Calls Try.prog 50 #[.pointer (some ⟨p, 0, none⟩)] w fun e w' => e = .returned (.string (str l)) ∧ (∃ u, Bld w' B q u cs) ∧ Below B w w' := by
  obtain ⟨h0, v, u, h1, h2, h3, h4, h5⟩ := h
  cases l with
  | nil =>
    obtain rfl := h4 rfl
    refine (string_none B p w h1).mono ?_
    rintro e w' ⟨rfl, k⟩
    have k' : Fr p (Value.slice none 0 0).ownBlock w w' := k
    exact ⟨rfl, ⟨u, h1.other h2 (fun e => h0 e.symm) h3.side k'⟩, k'.below h1⟩
  | cons c l =>
    refine (string_some B p v (c :: l) w h1 (by simp)).mono ?_
    rintro e w' ⟨rfl, k⟩
    exact ⟨rfl, ⟨u, h1.other h2 (fun e => h0 e.symm) h3.side k⟩, k.below h1⟩
theorem string_last {w : World} {B q : Nat} {l : List UInt8} (h : ∃ u, Bld w B q u (Lib.byteCells l)) :
    Calls Try.prog 50 #[.pointer (some ⟨q, 0, none⟩)] w fun e w' => e = .returned (.string (str l)) ∧ Below B w w' := by
  obtain ⟨u, h⟩ := h
  exact Try.Builder_String_any B q l w h.is (Nat.le_of_lt (Nat.lt_of_le_of_lt h.1 h.lt))
end Go.Proofs.Ytppoikhonlgcnaa
