/- Rows of numbers in memory; the contract of List, at a versioned number's codec. -/
import Derived.Test.YtfoijhofpjaldaaRecH
import Derived.Test.YtfoijhofpjaldaaBuilder
import Derived.Deep.LoopGhost
set_option maxRecDepth 100000
set_option maxHeartbeats 4000000
set_option linter.unusedVariables false
namespace Go.Proofs.Ytfoijhofpjaldaa
open Go.RowKit
def CdW (w : World) (v : Value) : Prop := VerW w v (.func (.func 24) #[] #[]) (.func (.func 25) #[] #[]) 0
theorem CdW.below {w w' : World} {v : Value} (h : CdW w v) (hb : Below w.heap.size w w') : CdW w' v := VerW.below h hb
theorem CdW.bytes {W : World} {v : Value} (h : CdW W v) (n : Nat) (hn : n < 65536) :
    Calls Try.prog 27 #[v, .int .u16 n] W fun e w' => e = .returned (.string (str (1 :: Oc.big 2 n))) ∧ Below W.heap.size W w' := by
  obtain ⟨a, g, rfl, ha, hg, _⟩ := h
  exact bytesW_any n hn a _ W ha
theorem CdW.read {W : World} {v : Value} (h : CdW W v) (s : ByteArray) :
    Calls Try.prog 26 #[v, .string s] W fun x w' => x = .returned (.tuple #[.int .u16 ((readG 0 getW s).1 : Nat), .int .i64 (readG 0 getW s).2]) ∧ Below W.heap.size W w' := by
  obtain ⟨a, g, rfl, ha, hg, _⟩ := h
  exact readW_any _ g s W hg
def SlW (w : World) (v : Value) (l : List Nat) : Prop :=
  ∃ (a : Option Addr) (b o c : Nat), v = .slice a l.length c ∧ (l = [] ∨ a = some ⟨b, o, none⟩) ∧ ∀ (j : Nat) n, l[j]? = some n → w.cell? ⟨b, o + j, none⟩ = some (.int .u16 n)
theorem SlW.below {w w' : World} {v : Value} {l : List Nat} (h : SlW w v l) (hb : Below w.heap.size w w') : SlW w' v l := by
  obtain ⟨a, b, o, c, hv, ha, hx⟩ := h
  refine ⟨a, b, o, c, hv, ha, fun j n hj => ?_⟩
  have h0 := hx j n hj
  exact (hb.cell (World.block_lt_of_cell? _ _ h0)).trans h0
theorem bld_below {w w' : World} {B B' b : Nat} {bs : List Value} (h : Lib.IsBuilder 92 5 B b bs w) (hb : Below B' w w') (hB : w.heap.size ≤ B') : Lib.IsBuilder 92 5 B b bs w' := by
  have go : ∀ p, Lib.BuilderAt 92 5 B b p bs w → Lib.BuilderAt 92 5 B b p bs w' := by
    rintro p ⟨h1, v, h2, h3, h4⟩
    have hlt : b < w.heap.size := by
      rcases Nat.lt_or_ge b w.heap.size with h' | h'
      · exact h'
      · rw [Array.getElem?_eq_none h'] at h2; cases h2
    exact ⟨h1, v, by rw [hb.block b (by omega), h2], own_below h3 hb hB, h4⟩
  rcases h with h | h
  · exact .inl (go _ h)
  · exact .inr (go _ h)
theorem bld_new (w : World) : Lib.IsBuilder 92 5 w.heap.size w.heap.size [] (w.alloc (.cells #[.pointer none, .slice none 0 0] 92)) := by
  refine .inl ⟨Nat.le_refl _, .slice none 0 0, ?_, World.ownsRow_nil _ _ _ _, fun h => by cases h⟩
  show (w.heap.push _)[w.heap.size]? = _
  simp
theorem bld2 (w : World) (o1 : Obj) : Lib.IsBuilder 92 5 (w.heap.size + 1) (w.heap.size + 1) [] ((w.alloc o1).alloc (.cells #[.pointer none, .slice none 0 0] 92)) := by
  have := bld_new (w.alloc o1)
  rwa [show (w.alloc o1).heap.size = w.heap.size + 1 by simp] at this
theorem strC_str (l : List UInt8) : Lib.strCells (str l) = Lib.byteCells l := rfl
theorem bytC_app (l m : List UInt8) : Lib.byteCells l ++ Lib.byteCells m = Lib.byteCells (l ++ m) := by simp [Lib.byteCells]
theorem bytC_len (l : List UInt8) : (Lib.byteCells l).length = l.length := by simp [Lib.byteCells]
def encW1 (n : Nat) : List UInt8 := 1 :: Oc.big 2 n
def encWs (l : List Nat) : List UInt8 := Oc.big 4 l.length ++ l.flatMap encW1
theorem encW_len (n : Nat) : (encW1 n).length = 3 := by unfold encW1; rw [List.length_cons, Oc.big_length]
theorem encWs_len (l : List Nat) : (l.flatMap encW1).length = 3 * l.length := by
  induction l with
  | nil => rfl
  | cons p l ih => rw [List.flatMap_cons, List.length_append, encW_len, List.length_cons]; omega
theorem encWs_snoc (l : List Nat) (k : Nat) (p : Nat) (h : l[k]? = some p) : (l.take (k + 1)).flatMap encW1 = (l.take k).flatMap encW1 ++ encW1 p := by
  obtain ⟨hk, he⟩ := List.getElem?_eq_some_iff.1 h
  rw [List.take_succ_eq_append_getElem hk, List.flatMap_append, he]
  simp
set_option maxHeartbeats 2000000 in
theorem listW_any (cv v : Value) (l : List Nat) (hll : l.length ≤ 100) (hl : ∀ p ∈ l, p < 65536) (w : World) (hc : CdW w cv) (hv : SlW w v l) :
    Calls Try.prog 29 #[cv, v] w fun e w' => e = .returned (.string (str (encWs l))) ∧ Below w.heap.size w w' := by
  have HL := Lib.hid hl
  have HCD : Hid (∀ W, Below w.heap.size w W → CdW W cv) := fun W hW => hc.below hW
  obtain ⟨ca, cg, rfl, _, _, _⟩ := hc
  have HV := Lib.hid hv
  obtain ⟨a, b, o, c, rfl, ha, hx⟩ := hv
  have HX := Lib.hid hx
  have HA := Lib.hid ha
  clear hl ha hx
  have hlu : l.length < 4294967296 := by omega
  have HBX := Lib.hid ((Cd2.new w (.func (.func 62) #[] #[.pointer (some ⟨ca, 0, none⟩)]) (.func (.func 64) #[] #[.pointer (some ⟨cg, 0, none⟩)]) 65).alloc (.cells #[.pointer none, .slice none 0 0] 92))
  go_enter Try.func29, Try.ntmps29
  go_wp2_with (first
    | (go_at_call 31; refine (four_at _ l.length (by omega) hlu _).mono ?_; rintro e w1 ⟨rfl, hb1⟩)
    | (go_at_call 50; refine (writeString_any (w.heap.size + 1) (w.heap.size + 1) [] _ _ (bld_below (bld2 w _) hb1 (Nat.le_refl _)) (by rw [big_size]; simp) (by have := hb1.size; simp at this; omega)).mono ?_; rintro e w2 ⟨rfl, hbld, hb2⟩))
  have hsz0 : w.heap.size + 1 < w1.heap.size := by have := hb1.size; simp at this; omega
  have hBW : Below w.heap.size w w1 := ((((Below.refl _ _).alloc (Nat.le_refl _) _).alloc (by simp) _)).trans (hb1.mono (by simp; omega))
  have HB2 := Lib.hid (hBW.trans (hb2.mono (by omega)))
  have HS2 : Hid (w.heap.size + 1 < w2.heap.size) := Nat.lt_of_lt_of_le hsz0 hb2.size
  have HC : Hid (Cd2 w2 w.heap.size (.func (.func 62) #[] #[.pointer (some ⟨ca, 0, none⟩)]) (.func (.func 64) #[] #[.pointer (some ⟨cg, 0, none⟩)])) := (HBX.out.below hb1).keep (hb2.block _ (Nat.lt_succ_self _))
  have HBL : Hid (Lib.IsBuilder 92 5 (w.heap.size + 1) (w.heap.size + 1) (Lib.byteCells (Oc.big 4 l.length)) w2) := by
    have := hbld
    rw [strC_str, List.nil_append] at this
    exact .inr this
  clear hbld hb1 hb2 hBW
  have HCD2 := Lib.hid (HCD.out w2 HB2.out)
  revert HB2 HS2 HC HBL
  generalize hg : w.heap.size = g
  have HG := Lib.hid hg
  clear hg
  intro HB2 HS2 HC HBL
  go_loopg [15] l.length (fun n i wr => ∃ k : Nat, k ≤ l.length ∧ n = l.length - k ∧ i = .int .i64 k ∧ Hid (Lib.IsBuilder 92 5 (g + 1) (g + 1) (Lib.byteCells (Oc.big 4 l.length ++ (l.take k).flatMap encW1)) wr) ∧ Hid (Below (g + 1) w2 wr))
  case atStart => exact ⟨0, Nat.zero_le _, rfl, rfl, by simpa using HBL, Below.refl _ _⟩
  case round =>
    obtain ⟨k, hk, rfl, rfl, HBd, HB⟩ := hrel
    have hgr : g + 1 < wr.heap.size := Nat.lt_of_lt_of_le HS2.out HB.out.size
    by_cases hlt : k < l.length
    · obtain ⟨p, hp⟩ : ∃ p, l[k]? = some p := ⟨_, List.getElem?_eq_getElem hlt⟩
      have hpn := HL.out p (List.mem_of_getElem? hp)
      have e0 := HX.out k p hp
      have hblt : b < g := by have h1 := World.block_lt_of_cell? _ _ e0; have h2 := HG.out; simp at h1; omega
      have d0 := ((HB2.out.trans (HB.out.mono (Nat.le_succ g))).cell (p := ⟨b, o + k, none⟩) hblt).trans e0
      have q0 := (HB.out.cell (p := ⟨g, 0, none⟩) (Nat.lt_succ_self g)).trans HC.out.c0
      have q1 := (HB.out.cell (p := ⟨g, 1, none⟩) (Nat.lt_succ_self g)).trans HC.out.c1
      obtain rfl : a = some ⟨b, o, none⟩ := by
        rcases HA.out with h | h
        · rw [h] at hlt; cases hlt
        · exact h
      have HS := Lib.hid (encWs_snoc l k p hp)
      have HLEN := Lib.hid (encWs_len (l.take k))
      have HCR : Hid (∀ W, Below g w W → CdW W (.agg #[(.func (.func 62) #[] #[.pointer (some ⟨ca, 0, none⟩)]), (.func (.func 64) #[] #[.pointer (some ⟨cg, 0, none⟩)])])) := HG.out ▸ HCD.out
      have HCW := Lib.hid (HCR.out wr (HB2.out.trans (HB.out.mono (Nat.le_succ g))))
      clear e0 hp
      have HBY := Lib.hid (fun W (hW : CdW W (.agg #[(.func (.func 62) #[] #[.pointer (some ⟨ca, 0, none⟩)]), (.func (.func 64) #[] #[.pointer (some ⟨cg, 0, none⟩)])])) => CdW.bytes hW p hpn)
      go_wp2_with (first
        | (go_at_call 27; refine (HBY.out _ HCW.out).mono ?_; rintro e w4 ⟨rfl, hb4⟩)
        | (go_at_call 50; refine (writeString_any (g + 1) (g + 1) _ _ _ (bld_below HBd.out hb4 (Nat.le_refl _)) ?_ ?_).mono ?_))
      case refine_1 =>
        rw [bytC_len, str_size, List.length_append, Oc.big_length, List.length_cons, Oc.big_length]
        have := HLEN.out
        rw [List.length_take] at this
        omega
      case refine_2 => have := hb4.size; omega
      rintro e w5 ⟨rfl, hbld, hb5⟩
      have HBd5 : Hid (Lib.IsBuilder 92 5 (g + 1) (g + 1) (Lib.byteCells (Oc.big 4 l.length ++ (l.take (k + 1)).flatMap encW1)) w5) := by
        rw [strC_str, bytC_app, List.append_assoc, show (1 :: Oc.big 2 p) = encW1 p from rfl, ← HS.out] at hbld
        exact .inr hbld
      have HB5 : Hid (Below (g + 1) w2 w5) := (HB.out.trans (hb4.mono (by omega))).trans hb5
      clear hbld hb4 hb5
      go_wp2
      go_roundg (l.length - (k + 1))
      case measure => omega
      case rel => exact ⟨k + 1, by omega, rfl, by go_num, HBd5, HB5⟩
    · obtain rfl : k = l.length := by omega
      rw [List.take_length] at HBd
      go_wp2_with (go_at_call 52; refine (Try.Builder_String_any (g + 1) (g + 1) _ _ HBd.out (by omega)).mono ?_; rintro e w6 ⟨rfl, hb6⟩)
      go_ret
      refine ⟨rfl, ?_⟩
      rw [HG.out]
      exact (HB2.out.trans (HB.out.mono (Nat.le_succ g))).trans (hb6.mono (Nat.le_succ g))
end Go.Proofs.Ytfoijhofpjaldaa
