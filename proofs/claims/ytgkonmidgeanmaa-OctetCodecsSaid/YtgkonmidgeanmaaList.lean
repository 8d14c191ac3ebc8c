/- Rows of pairs in memory; the contract of List. -/
import Derived.Test.YtgkonmidgeanmaaCodec2
import Derived.Deep.LoopGhost
namespace Go.Proofs.Ytgkonmidgeanmaa
open Go.RowKit
def SlR (w : World) (v : Value) (l : List Pr) : Prop :=
  ∃ (a : Option Addr) (b o c : Nat), v = .slice a l.length c ∧ (l = [] ∨ a = some ⟨b, o, none⟩) ∧
    ∀ (j : Nat) p, l[j]? = some p → w.cell? ⟨b, o + j * 2, none⟩ = some (.int .u16 p.n) ∧ w.cell? ⟨b, o + j * 2 + 1, none⟩ = some (.string (str p.s))
theorem SlR.below {w w' : World} {v : Value} {l : List Pr} (h : SlR w v l) (hb : Below w.heap.size w w') : SlR w' v l := by
  obtain ⟨a, b, o, c, hv, ha, hx⟩ := h
  refine ⟨a, b, o, c, hv, ha, fun j p hj => ?_⟩
  obtain ⟨h0, h1⟩ := hx j p hj
  have hlt := World.block_lt_of_cell? _ _ h0
  exact ⟨(hb.cell (p := ⟨b, o + j * 2, none⟩) hlt).trans h0, (hb.cell (p := ⟨b, o + j * 2 + 1, none⟩) hlt).trans h1⟩
theorem builder_below {w w' : World} {B B' b : Nat} {bs : List Value} (h : Lib.IsBuilder 86 5 B b bs w) (hb : Below B' w w') (hB : w.heap.size ≤ B') : Lib.IsBuilder 86 5 B b bs w' := by
  have go : ∀ p, Lib.BuilderAt 86 5 B b p bs w → Lib.BuilderAt 86 5 B b p bs w' := by
    rintro p ⟨h1, v, h2, h3, h4⟩
    have hlt : b < w.heap.size := by
      rcases Nat.lt_or_ge b w.heap.size with h' | h'
      · exact h'
      · rw [Array.getElem?_eq_none h'] at h2; cases h2
    exact ⟨h1, v, by rw [hb.block b (by omega), h2], own_below h3 hb hB, h4⟩
  rcases h with h | h
  · exact .inl (go _ h)
  · exact .inr (go _ h)
theorem builder_new (w : World) : Lib.IsBuilder 86 5 w.heap.size w.heap.size [] (w.alloc (.cells #[.pointer none, .slice none 0 0] 86)) := by
  refine .inl ⟨Nat.le_refl _, .slice none 0 0, ?_, World.ownsRow_nil _ _ _ _, fun h => by cases h⟩
  show (w.heap.push _)[w.heap.size]? = _
  simp
theorem builder2 (w : World) (o1 : Obj) : Lib.IsBuilder 86 5 (w.heap.size + 1) (w.heap.size + 1) [] ((w.alloc o1).alloc (.cells #[.pointer none, .slice none 0 0] 86)) := by
  have := builder_new (w.alloc o1)
  rwa [show (w.alloc o1).heap.size = w.heap.size + 1 by simp] at this
theorem box2 (w : World) (a b : Value) (T U : TypeId) (o : Obj) : ((w.alloc (.cells #[a, b] T)).alloc o).cell? ⟨w.heap.size, 0, none⟩ = some a ∧ ((w.alloc (.cells #[a, b] T)).alloc o).cell? ⟨w.heap.size, 1, none⟩ = some b ∧ U = U := by
  refine ⟨?_, ?_, rfl⟩ <;> simp
theorem strCells_str (l : List UInt8) : Lib.strCells (str l) = Lib.byteCells l := rfl
def encs (l : List Pr) : List UInt8 := Oc.big 4 l.length ++ l.flatMap enc
theorem enc_len (p : Pr) : (enc p).length = 6 + p.s.length := by
  unfold enc
  rw [List.length_append, List.length_append, Oc.big_length, Oc.big_length]
  omega
theorem byteCells_app (l m : List UInt8) : Lib.byteCells l ++ Lib.byteCells m = Lib.byteCells (l ++ m) := by simp [Lib.byteCells]
theorem byteCells_len (l : List UInt8) : (Lib.byteCells l).length = l.length := by simp [Lib.byteCells]
theorem encs_len (l : List Pr) (hs : ∀ p ∈ l, p.s.length ≤ 200) : (l.flatMap enc).length ≤ 206 * l.length := by
  induction l with
  | nil => exact Nat.zero_le _
  | cons p l ih =>
    rw [List.flatMap_cons, List.length_append, enc_len, List.length_cons]
    have h1 := hs p (by simp)
    have h2 := ih (fun q hq => hs q (by simp [hq]))
    omega
theorem encs_snoc (l : List Pr) (k : Nat) (p : Pr) (h : l[k]? = some p) : (l.take (k + 1)).flatMap enc = (l.take k).flatMap enc ++ enc p := by
  obtain ⟨hk, he⟩ := List.getElem?_eq_some_iff.1 h
  rw [List.take_succ_eq_append_getElem hk, List.flatMap_append, he]
  simp
set_option maxHeartbeats 2000000 in
set_option maxRecDepth 100000 in
theorem list_any (v : Value) (l : List Pr) (hll : l.length ≤ 100) (hl : ∀ p ∈ l, p.n < 65536 ∧ p.s.length ≤ 200) (w : World) (hv : SlR w v l) :
    Calls Try.prog 33 #[.agg #[.func (.func 41) #[] #[], .func (.func 42) #[] #[]], v] w fun e w' => e = .returned (.string (str (encs l))) ∧ Below w.heap.size w w' := by
  have HL := Lib.hid hl
  have HV := Lib.hid hv
  obtain ⟨a, b, o, c, rfl, ha, hx⟩ := hv
  have HX := Lib.hid hx
  have HA := Lib.hid ha
  clear hl ha hx
  have hlu : l.length < 4294967296 := by omega
  go_enter Try.func33, Try.ntmps33
  go_wp2_with (first
    | (go_at_call 12; refine (four_at _ l.length (by omega) hlu _).mono ?_; rintro e w1 ⟨rfl, hb1⟩)
    | (go_at_call 43; refine (writeString_any (w.heap.size + 1) (w.heap.size + 1) [] _ _ (builder_below (builder2 w _) hb1 (Nat.le_refl _)) (by rw [big_size]; simp) (by have := hb1.size; simp at this; omega)).mono ?_; rintro e w2 ⟨rfl, hbld, hb2⟩))
  have hsz0 : w.heap.size + 1 < w1.heap.size := by have := hb1.size; simp at this; omega
  have hBW : Below w.heap.size w w1 := ((((Below.refl _ _).alloc (Nat.le_refl _) _).alloc (by simp) _)).trans (hb1.mono (by simp; omega))
  have HB2 := Lib.hid (hBW.trans (hb2.mono (by omega)))
  have HS2 : Hid (w.heap.size + 1 < w2.heap.size) := Nat.lt_of_lt_of_le hsz0 hb2.size
  have HC : Hid (w2.cell? ⟨w.heap.size, 0, none⟩ = some (.func (.func 41) #[] #[]) ∧ w2.cell? ⟨w.heap.size, 1, none⟩ = some (.func (.func 42) #[] #[])) := by
    have h1 := box2 w (.func (.func 41) #[] #[]) (.func (.func 42) #[] #[]) 58 0 (.cells #[.pointer none, .slice none 0 0] 86)
    have k := fun i => (hb2.cell (p := ⟨w.heap.size, i, none⟩) (by show w.heap.size < w.heap.size + 1; omega)).trans (hb1.cell (p := ⟨w.heap.size, i, none⟩) (by show w.heap.size < _; simp; omega))
    exact ⟨(k 0).trans h1.1, (k 1).trans h1.2.1⟩
  have HBL : Hid (Lib.IsBuilder 86 5 (w.heap.size + 1) (w.heap.size + 1) (Lib.byteCells (Oc.big 4 l.length)) w2) := by
    have := hbld
    rw [strCells_str, List.nil_append] at this
    exact .inr this
  clear hbld hb1 hb2 hBW
  revert HB2 HS2 HC HBL
  generalize hg : w.heap.size = g
  have HG := Lib.hid hg
  clear hg
  intro HB2 HS2 HC HBL
  go_loopg [15] l.length (fun n i wr => ∃ k : Nat, k ≤ l.length ∧ n = l.length - k ∧ i = .int .i64 k ∧ Hid (Lib.IsBuilder 86 5 (g + 1) (g + 1) (Lib.byteCells (Oc.big 4 l.length ++ (l.take k).flatMap enc)) wr) ∧ Hid (Below (g + 1) w2 wr))
  case atStart => exact ⟨0, Nat.zero_le _, rfl, rfl, by simpa using HBL, Below.refl _ _⟩
  case round =>
    obtain ⟨k, hk, rfl, rfl, HBd, HB⟩ := hrel
    have hgr : g + 1 < wr.heap.size := Nat.lt_of_lt_of_le HS2.out HB.out.size
    by_cases hlt : k < l.length
    · obtain ⟨p, hp⟩ : ∃ p, l[k]? = some p := ⟨_, List.getElem?_eq_getElem hlt⟩
      obtain ⟨hpn, hps⟩ := HL.out p (List.mem_of_getElem? hp)
      obtain ⟨e0, e1⟩ := HX.out k p hp
      have hblt : b < g := by have h1 := World.block_lt_of_cell? _ _ e0; have h2 := HG.out; simp at h1; omega
      have d0 := ((HB2.out.trans (HB.out.mono (Nat.le_succ g))).cell (p := ⟨b, o + k * 2, none⟩) hblt).trans e0
      have d1 := ((HB2.out.trans (HB.out.mono (Nat.le_succ g))).cell (p := ⟨b, o + k * 2 + 1, none⟩) hblt).trans e1
      have q0 := (HB.out.cell (p := ⟨g, 0, none⟩) (Nat.lt_succ_self g)).trans HC.out.1
      have q1 := (HB.out.cell (p := ⟨g, 1, none⟩) (Nat.lt_succ_self g)).trans HC.out.2
      obtain rfl : a = some ⟨b, o, none⟩ := by
        rcases HA.out with h | h
        · rw [h] at hlt; cases hlt
        · exact h
      have HS := Lib.hid (encs_snoc l k p hp)
      have HLEN := Lib.hid (encs_len (l.take k) (fun q hq => (HL.out q (List.mem_of_mem_take hq)).2))
      clear e0 e1 hp
      have HBY := Lib.hid (fun W => bytes_any p hpn (by omega) W)
      unfold aggR at HBY
      have hq0' : ∀ o1, (wr.alloc o1).cell? ⟨g, 0, none⟩ = some (.func (.func 41) #[] #[]) := fun o1 => (World.cell?_alloc_old _ _ _ (Nat.ne_of_lt (by show g < wr.heap.size; omega))).trans q0
      have hq1' : ∀ o1, (wr.alloc o1).cell? ⟨g, 1, none⟩ = some (.func (.func 42) #[] #[]) := fun o1 => (World.cell?_alloc_old _ _ _ (Nat.ne_of_lt (by show g < wr.heap.size; omega))).trans q1
      go_wp2_with (first
        | (go_at_call 44; refine (HBY.out _).mono ?_; rintro e w4 ⟨rfl, hb4⟩)
        | (go_at_call 43; refine (writeString_any (g + 1) (g + 1) _ _ _ (builder_below (builder_below HBd.out ((Below.refl _ _).alloc (Nat.le_refl _) _) (Nat.le_refl _)) hb4 (Nat.le_refl _)) ?_ ?_).mono ?_))
      case refine_1 =>
        rw [byteCells_len, str_size, List.length_append, Oc.big_length, enc_len]
        have := HLEN.out
        rw [List.length_take] at this
        omega
      case refine_2 => have := hb4.size; simp at this; omega
      rintro e w5 ⟨rfl, hbld, hb5⟩
      have HBd5 : Hid (Lib.IsBuilder 86 5 (g + 1) (g + 1) (Lib.byteCells (Oc.big 4 l.length ++ (l.take (k + 1)).flatMap enc)) w5) := by
        rw [strCells_str, byteCells_app, List.append_assoc, ← HS.out] at hbld
        exact .inr hbld
      have HB5 : Hid (Below (g + 1) w2 w5) := ((HB.out.alloc (by omega) _).trans (hb4.mono (by simp; omega))).trans hb5
      clear hbld hb4 hb5
      go_wp2
      go_roundg (l.length - (k + 1))
      case measure => omega
      case rel => exact ⟨k + 1, by omega, rfl, by go_num, HBd5, HB5⟩
    · obtain rfl : k = l.length := by omega
      rw [List.take_length] at HBd
      go_wp2_with (go_at_call 45; refine (Try.Builder_String_any (g + 1) (g + 1) _ _ HBd.out (by omega)).mono ?_; rintro e w6 ⟨rfl, hb6⟩)
      go_ret
      refine ⟨rfl, ?_⟩
      rw [HG.out]
      exact (HB2.out.trans (HB.out.mono (Nat.le_succ g))).trans (hb6.mono (Nat.le_succ g))
end Go.Proofs.Ytgkonmidgeanmaa
