/- Texts of one seat, merged. -/
import Derived.Test.YtgmneapgihakgaaGreatDoorZ29
import Derived.Test.YtgmneapgihakgaaGreatDoorZ06
import Derived.SliceStrings
import Derived.ChangeSlices
import Derived.WalkKit
import Derived.ProofKit
import Derived.OpenShut
import Derived.Lib.SmallJoins
import Derived.ChangeArms
import Derived.ChangeOld
import Derived.Carry
import Derived.Deep.Slices
import Derived.Test.YtgmneapgihakgaaGreatDoorZ24
import Derived.Test.YtgmneapgihakgaaGreatDoorZ21
import Derived.Deep.RegionHeld3
set_option maxRecDepth 100000
set_option maxHeartbeats 4000000
set_option linter.unusedVariables false
/- ReportRows. -/
namespace Go.Proofs.YtgmneapgihakgaaGreatDoor
open Go.RowKit
def lineF (s : List UInt8) : List UInt8 := 60 :: (s ++ [62])
theorem rows1_any (s : List UInt8) (hs : s.length ≤ 1000) (w : World) : Calls Tryz.prog 57 #[.string (str s)] w fun e w' => e = .returned (.string (str (lineF s))) ∧ Below w.heap.size w w' := by
  have y : (str s).size = s.length := rfl
  have q1 : ¬ 9223372036854775807 < 1 + s.length := by omega
  have q2 : ¬ 9223372036854775807 < 1 + s.length + 1 := by omega
  have e : (⟨#[60]⟩ ++ str s ++ ⟨#[62]⟩ : ByteArray) = str (lineF s) := by
    have : (⟨#[60]⟩ ++ str s ++ ⟨#[62]⟩ : ByteArray) = str [60] ++ str s ++ str [62] := rfl
    rw [this, str_append, str_append]; rfl
  have E := Lib.hid e
  clear e
  go_enter Tryz.func57, Tryz.ntmps57
  go_wp2
  go_ret
  exact ⟨ret_string E.out, Below.refl _ _⟩
theorem rows2_any (c : UInt8) (w : World) : Calls Tryz.prog 59 #[.int .u8 (c.toNat : Int)] w fun e w' => e = .returned (.string (str [])) ∧ Below w.heap.size w w' := by
  go_enter Tryz.func59, Tryz.ntmps59
  go_wp2
  go_ret
  exact ⟨rfl, Below.refl _ _⟩
theorem lineF_sum (l : List (List UInt8)) (h : ∀ s ∈ l, s.length ≤ 300) : (linesF lineF l).length ≤ 303 * l.length := by
  induction l with
  | nil => simp [linesF]
  | cons s t ih =>
    have h1 := h s (by simp)
    have h2 := ih (fun x hx => h x (by simp [hx]))
    have e : linesF lineF (s :: t) = lineF s ++ [10] ++ linesF lineF t := by simp [linesF]
    rw [e]
    simp only [List.length_append, lineF, List.length_cons, List.length_nil] at h2 ⊢
    omega
theorem linesE (l : List UInt8) : linesF (fun _ => []) l = Lib.repeatL [10] l.length := by
  induction l with
  | nil => rfl
  | cons s t ih =>
    have e : linesF (fun _ : UInt8 => []) (s :: t) = [10] ++ linesF (fun _ => []) t := by simp [linesF]
    rw [e, ih, List.length_cons]
    simp [Lib.repeatL]
theorem linesE_len (l : List UInt8) : (linesF (fun _ : UInt8 => []) l).length = l.length := by
  induction l with
  | nil => rfl
  | cons s t ih =>
    have e : linesF (fun _ : UInt8 => []) (s :: t) = [10] ++ linesF (fun _ => []) t := by simp [linesF]
    rw [e, List.length_append, ih, List.length_cons]
    simp; omega
set_option maxHeartbeats 8000000 in
theorem rows_walk (l : List (List UInt8)) (n : List UInt8) (v u : Value) (m : Int) (w : World) (hm : w.cell? ⟨0, 0, none⟩ = some (.int .i64 m)) (hv : SlS w v l) (hu : SlP (fun x : UInt8 => .int .u8 (x.toNat : Int)) w u n) :
    Calls Tryz.prog 9 #[v, u] w fun e w' => e = .returned (.bool true) ∧ Below w.heap.size w w' := by
  have HA := Lib.hid (rpAwake_any m w hm)
  obtain ⟨a, b, o, c, rfl, ha, hx⟩ := hv
  obtain ⟨a2, b2, o2, c2, rfl, ha2, hx2⟩ := hu
  have HX := Lib.hid hx
  have HV := Lib.hid ha
  have HX2 := Lib.hid hx2
  have HV2 := Lib.hid ha2
  clear hm hx ha hx2 ha2
  go_enter Tryz.func9, Tryz.ntmps9
  by_cases h1 : (l.length : Int) > 100
  · go_wp2_with (go_at_call 39; refine HA.out.mono ?_; rintro e1 w1 ⟨rfl, hb1⟩)
    go_ret
    exact ⟨rfl, hb1⟩
  · by_cases h2 : (n.length : Int) > 100
    · go_wp2_with (go_at_call 39; refine HA.out.mono ?_; rintro e1 w1 ⟨rfl, hb1⟩)
      go_ret
      exact ⟨rfl, hb1⟩
    · go_upto_region 6 with (go_at_call 39; refine HA.out.mono ?_; rintro e1 w1 ⟨rfl, hb1⟩)
      have HB1 := Lib.hid hb1
      have hl : l.length ≤ 100 := by omega
      have hn : n.length ≤ 100 := by omega
      clear hb1
      go_wp2
      go_loopg [5, 20] l.length (fun k0 t i wr => ∃ k : Nat, k ≤ l.length ∧ k0 = l.length - k ∧ i = .int .i64 (k : Nat) ∧ t = .string (str (linesF lineF (l.take k))) ∧ (∀ s ∈ l.take k, s.length ≤ 300) ∧ wr = w1)
      case atStart => exact ⟨0, Nat.zero_le _, rfl, rfl, rfl, by simp, rfl⟩
      case round =>
        obtain ⟨k, hk, rfl, rfl, rfl, hs, rfl⟩ := hrel
        rename World => W1
        by_cases hlt : k < l.length
        · obtain ⟨x, hx⟩ : ∃ x, l[k]? = some x := ⟨_, List.getElem?_eq_getElem hlt⟩
          obtain rfl : a = some ⟨b, o, none⟩ := HV.out.resolve_left (by intro h; rw [h] at hlt; cases hlt)
          have hc := HX.out k x hx
          have hc' : W1.cell? ⟨b, o + k, none⟩ = some (.string (str x)) := (HB1.out.cell (p := ⟨b, o + k, none⟩) (World.block_lt_of_cell? _ _ hc)).trans hc
          have hz : (str x).size = x.length := rfl
          by_cases h3 : (x.length : Int) > 300
          · clear hx hc hs
            go_wp2
            go_ret
            exact ⟨rfl, HB1.out⟩
          · have hT := linesF_take lineF hx
            have hb0 := lineF_sum (l.take k) hs
            have hb1 : (l.take k).length = k := by rw [List.length_take]; omega
            have hz0 : (str (linesF lineF (l.take k))).size = (linesF lineF (l.take k)).length := rfl
            have hs' : ∀ s ∈ l.take (k + 1), s.length ≤ 300 := fun s hm => by
              rw [List.take_add_one, hx] at hm
              rcases List.mem_append.1 hm with hm | hm
              · exact hs s hm
              · simp at hm; subst hm; omega
            have HS' := Lib.hid hs'
            have q1 : ¬ 9223372036854775807 < 1 + x.length := by omega
            have q2 : ¬ 9223372036854775807 < 1 + x.length + 2 := by omega
            have q3 : ¬ 9223372036854775807 < (linesF lineF (l.take k)).length + (1 + x.length + 2) := by rw [hb1] at hb0; omega
            have e : (str (linesF lineF (l.take k)) ++ (⟨#[60]⟩ ++ str x ++ ⟨#[62, 10]⟩) : ByteArray) = str (linesF lineF (l.take (k + 1))) := by
              have : (⟨#[60]⟩ ++ str x ++ ⟨#[62, 10]⟩ : ByteArray) = str [60] ++ str x ++ str [62, 10] := rfl
              rw [this, str_append, str_append, str_append, hT]
              unfold lineF
              simp
            have E := Lib.hid e
            clear hx hc hs hs' hT hb0 hb1 e
            go_wp2
            go_roundg (l.length - (k + 1))
            case measure => omega
            case rel => exact ⟨k + 1, hlt, rfl, by go_num, by rw [E.out], HS'.out, rfl⟩
        · obtain rfl : k = l.length := by omega
          rw [List.take_length] at hs ⊢
          have HL1 := Lib.hid (linesS_any l (.slice a l.length c) lineF W1 ⟨a, b, o, c, rfl, HV.out, fun j x hj => (HB1.out.cell (p := ⟨b, o + j, none⟩) (World.block_lt_of_cell? _ _ (HX.out j x hj))).trans (HX.out j x hj)⟩ (by have := lineF_sum l hs; omega) (fun x hx W => rows1_any x (by have := hs x hx; omega) W))
          have HL2 := Lib.hid (fun W => linesNil (.slice a2 n.length c2) W)
          have HL3 : Hid (∀ W, Below w.heap.size w W → Calls Tryz.prog 58 #[.slice a2 n.length c2, .func (.func 59) #[] #[]] W fun e w' => e = .returned (.string (str (Lib.repeatL [10] n.length))) ∧ Below W.heap.size W w') := fun W hW => by
            have h := linesB_any n (.slice a2 n.length c2) (fun _ => []) W ⟨a2, b2, o2, c2, rfl, HV2.out, fun j x hj => (hW.cell (p := ⟨b2, o2 + j, none⟩) (World.block_lt_of_cell? _ _ (HX2.out j x hj))).trans (HX2.out j x hj)⟩ (by rw [linesE_len]; omega) (fun x _ W => rows2_any x W)
            rw [linesE] at h
            exact h
          have HL4 : Hid (∀ W, Calls Tryz.prog 30 #[.string ⟨#[10]⟩, .int .i64 n.length] W fun e w' => e = .returned (.string (str (Lib.repeatL [10] n.length))) ∧ Below W.heap.size W w') := fun W => Tryz.strings_Repeat ⟨#[10]⟩ n.length W (by omega) (by show 1 * n.length ≤ _; omega)
          clear hs
          generalize linesF lineF l = t1 at HL1 ⊢
          revert HL3 HL4
          generalize Lib.repeatL [10] n.length = t2
          intro HL3 HL4
          go_wp2_with (first
            | (go_at_call 56; refine HL1.out.mono ?_; rintro e2 w2 ⟨rfl, hb2⟩; have HB2 := Lib.hid (below_step HB1.out hb2); clear hb2)
            | (go_at_call 58; have tok := HB3; (with_reducible refine (HL3.out _ HB3.out).mono ?_); rintro e4 w4 ⟨rfl, hb4⟩; have HB4 := Lib.hid (below_step HB3.out hb4); clear hb4)
            | (go_at_call 58; (with_reducible refine (HL2.out _).mono ?_); rintro e3 w3 ⟨rfl, hb3⟩; have HB3 := Lib.hid (below_step HB2.out hb3); clear hb3)
            | (go_at_call 30; (with_reducible refine (HL4.out _).mono ?_); rintro e5 w5 ⟨rfl, hb5⟩; have HB5 := Lib.hid (below_step HB4.out hb5); clear hb5))
          go_ret
          exact ⟨rfl, HB5.out⟩
end Go.Proofs.YtgmneapgihakgaaGreatDoor
/- A row of texts that is handed in, opened. -/
namespace Go.Proofs.YtgmneapgihakgaaGreatDoor
open Go.ChangeShapes Go.WideShapes Go.ChangeAt Go.RowKit
theorem cells_str : Tryz.prog.cellsOf 9 = 1 := by kernel_rfl
theorem str_of (b : ByteArray) : ∃ l, b = str l := ⟨b.toList, by simp [str, ByteArray.toList_eq]⟩
theorem bounds_tx8 {q : Int} (h : (Lit.int .u8 q).wf = true) : 0 ≤ q ∧ q < 256 := by
  simp [Lit.wf, IntKind.min, IntKind.max, IntKind.signed, IntKind.bits] at h
  omega
theorem open_txts {H : Type} {enc : TypeId × Value → H} {W : World} {r : Reach} {b0 b1 : Nat} {sp : Nat → Bool} {held : Bool} {v : Value} {d : DataW H} {p : List MemPlace}
    (hv : Value.okWide Tryz.prog W r b0 52 v) (h : DataW.Trod enc Tryz.prog W b1 sp held 52 v d p) :
    ∃ l : List Txt, SlS W v l := by
  obtain ⟨a0, len, cap, rfl⟩ := okWide_slice Tryz.underlying52 hv
  obtain ⟨fuel, hf⟩ := h
  rcases open_strings Tryz.underlying52 Tryz.underlying9 cells_str hf with ⟨hcs, _⟩ | ⟨a, len', cap', ss, hcs, _, hl, hm, hz, _, hcell, hws⟩
  · simp [Value.cells] at hcs
    obtain ⟨rfl, rfl, rfl⟩ := hcs
    exact ⟨[], none, 0, 0, 0, rfl, .inl rfl, fun j x hj => by simp at hj⟩
  · simp [Value.cells] at hcs
    obtain ⟨rfl, rfl, rfl⟩ := hcs
    have hlen : len ≤ ss.length := by rw [hz]; split <;> omega
    have hx : ((ss.take len).map ByteArray.toList).length = len := by rw [List.length_map, List.length_take]; omega
    by_cases h0 : len = 0
    · subst h0
      exact ⟨[], some a, 0, 0, cap, rfl, .inl rfl, fun j x hj => by simp at hj⟩
    · obtain ⟨b, off, spot⟩ := a
      have hspot : spot = none := by simpa [Addr.add] using World.cell?_spot (hcell 0 (by omega))
      subst hspot
      refine ⟨(ss.take len).map ByteArray.toList, some ⟨b, off, none⟩, b, off, cap, by rw [hx], .inr rfl, fun j x hj => ?_⟩
      have hjl : j < len := by
        have := (List.getElem?_eq_some_iff.1 hj).1
        omega
      rw [List.getElem?_map, List.getElem?_take_of_lt hjl, List.getElem?_eq_getElem (by omega)] at hj
      simp only [Option.map_some, Option.some.injEq] at hj
      have hc := hcell j (by omega)
      rw [add_plain, List.getD_eq_getElem?_getD, List.getElem?_eq_getElem (by omega)] at hc
      rw [hc, ← hj]
      simp [str, ByteArray.toList_eq]
end Go.Proofs.YtgmneapgihakgaaGreatDoor
/- Texts and bytes that are handed in, opened. -/
namespace Go.Proofs.YtgmneapgihakgaaGreatDoor
open Go.Joins Go.ChangeShapes Go.WideShapes Go.ChangeAt Go.RowKit Go.Deep
theorem bnd_u8r {q : Int} (h : (Lit.int .u8 q).wf = true) : 0 ≤ q ∧ q < 256 := by
  simp [Lit.wf, IntKind.min, IntKind.max, IntKind.signed, IntKind.bits] at h
  omega
theorem cells_u8r : Tryz.prog.cellsOf 5 = 1 := by kernel_rfl
theorem open_u8s {H : Type} {enc : TypeId × Value → H} {W : World} {r : Reach} {b0 b1 : Nat} {sp : Nat → Bool} {held : Bool} {v : Value} {d : DataW H} {p : List MemPlace}
    (hv : Value.okWide Tryz.prog W r b0 125 v) (h : DataW.Trod enc Tryz.prog W b1 sp held 125 v d p) :
    ∃ l : List UInt8, SlP (fun x : UInt8 => .int .u8 (x.toNat : Int)) W v l := by
  obtain ⟨a0, len, cap, rfl⟩ := okWide_slice Tryz.underlying125 hv
  obtain ⟨fuel, hf⟩ := h
  rcases open_ints Tryz.underlying125 Tryz.underlying5 cells_u8r hf with ⟨hcs, _⟩ | ⟨a, len', cap', zs, hcs, _, hl, hm, hz, _, hcell, hw⟩
  · simp [Value.cells] at hcs
    obtain ⟨rfl, rfl, rfl⟩ := hcs
    exact ⟨[], none, 0, 0, 0, rfl, .inl rfl, fun j p hj => by simp at hj⟩
  · simp [Value.cells] at hcs
    obtain ⟨rfl, rfl, rfl⟩ := hcs
    have hlen : len ≤ zs.length := by rw [hz]; split <;> omega
    by_cases h0 : len = 0
    · subst h0
      exact ⟨[], some a, 0, 0, cap, rfl, .inl rfl, fun j p hj => by simp at hj⟩
    · obtain ⟨b, off, spot⟩ := a
      have hspot : spot = none := by simpa [Addr.add] using World.cell?_spot (hcell 0 (by omega))
      subst hspot
      have hbd : ∀ i, i < len → 0 ≤ zs.getD i 0 ∧ zs.getD i 0 < 256 := by
        intro i hi
        have hmem : zs.getD i 0 ∈ zs := by
          have hiz : i < zs.length := by omega
          rw [List.getD_eq_getElem?_getD, List.getElem?_eq_getElem hiz]
          exact List.getElem_mem _
        have hbb := bnd_u8r (hw _ hmem)
        exact ⟨hbb.1, by omega⟩
      refine ⟨(List.range len).map fun i => UInt8.ofNat (zs.getD i 0).toNat, some ⟨b, off, none⟩, b, off, cap, by simp, .inr rfl, fun j x hj => ?_⟩
      have hjl : j < len := by
        have := (List.getElem?_eq_some_iff.1 hj).1
        simpa using this
      simp only [List.getElem?_map, List.getElem?_range hjl, Option.map_some, Option.some.injEq] at hj
      subst hj
      have e := hcell j (by omega)
      rw [add_plain] at e
      rw [e]
      have := hbd j hjl
      show some (Value.int .u8 _) = some (Value.int .u8 _)
      have e2 : (UInt8.ofNat (zs.getD j 0).toNat).toNat = (zs.getD j 0).toNat := by rw [UInt8.toNat_ofNat']; omega
      rw [e2]
      congr 2
      omega
end Go.Proofs.YtgmneapgihakgaaGreatDoor
/- Steps of cells that stay. -/
namespace Go.Proofs.YtgmneapgihakgaaGreatDoor
open Go.RowKit
theorem stepK4 {w w1 w2 : World} {B : Nat} {p0 p1 p2 p3 : Addr} {x0 x1 x2 x3 : Value} (hB : B ≤ w.heap.size) (H : w1.cell? p0 = some x0 ∧ w1.cell? p1 = some x1 ∧ w1.cell? p2 = some x2 ∧ w1.cell? p3 = some x3 ∧ Below B w w1) (hb : Below w1.heap.size w1 w2) : w2.cell? p0 = some x0 ∧ w2.cell? p1 = some x1 ∧ w2.cell? p2 = some x2 ∧ w2.cell? p3 = some x3 ∧ Below B w w2 := by
  obtain ⟨h0, h1, h2, h3, hq⟩ := H
  exact ⟨(hb.cell (p := p0) (World.block_lt_of_cell? _ _ h0)).trans h0, (hb.cell (p := p1) (World.block_lt_of_cell? _ _ h1)).trans h1, (hb.cell (p := p2) (World.block_lt_of_cell? _ _ h2)).trans h2, (hb.cell (p := p3) (World.block_lt_of_cell? _ _ h3)).trans h3, hq.trans (hb.mono (Nat.le_trans hB hq.size))⟩
theorem stepK5 {w w1 w2 : World} {B : Nat} {p0 p1 p2 p3 p4 : Addr} {x0 x1 x2 x3 x4 : Value} (hB : B ≤ w.heap.size) (H : w1.cell? p0 = some x0 ∧ w1.cell? p1 = some x1 ∧ w1.cell? p2 = some x2 ∧ w1.cell? p3 = some x3 ∧ w1.cell? p4 = some x4 ∧ Below B w w1) (hb : Below w1.heap.size w1 w2) : w2.cell? p0 = some x0 ∧ w2.cell? p1 = some x1 ∧ w2.cell? p2 = some x2 ∧ w2.cell? p3 = some x3 ∧ w2.cell? p4 = some x4 ∧ Below B w w2 := by
  obtain ⟨h0, h1, h2, h3, h4, hq⟩ := H
  exact ⟨(hb.cell (p := p0) (World.block_lt_of_cell? _ _ h0)).trans h0, (hb.cell (p := p1) (World.block_lt_of_cell? _ _ h1)).trans h1, (hb.cell (p := p2) (World.block_lt_of_cell? _ _ h2)).trans h2, (hb.cell (p := p3) (World.block_lt_of_cell? _ _ h3)).trans h3, (hb.cell (p := p4) (World.block_lt_of_cell? _ _ h4)).trans h4, hq.trans (hb.mono (Nat.le_trans hB hq.size))⟩
theorem stepK9 {w w1 w2 : World} {B : Nat} {p0 p1 p2 p3 p4 p5 p6 p7 p8 : Addr} {x0 x1 x2 x3 x4 x5 x6 x7 x8 : Value} (hB : B ≤ w.heap.size) (H : w1.cell? p0 = some x0 ∧ w1.cell? p1 = some x1 ∧ w1.cell? p2 = some x2 ∧ w1.cell? p3 = some x3 ∧ w1.cell? p4 = some x4 ∧ w1.cell? p5 = some x5 ∧ w1.cell? p6 = some x6 ∧ w1.cell? p7 = some x7 ∧ w1.cell? p8 = some x8 ∧ Below B w w1) (hb : Below w1.heap.size w1 w2) : w2.cell? p0 = some x0 ∧ w2.cell? p1 = some x1 ∧ w2.cell? p2 = some x2 ∧ w2.cell? p3 = some x3 ∧ w2.cell? p4 = some x4 ∧ w2.cell? p5 = some x5 ∧ w2.cell? p6 = some x6 ∧ w2.cell? p7 = some x7 ∧ w2.cell? p8 = some x8 ∧ Below B w w2 := by
  obtain ⟨h0, h1, h2, h3, h4, h5, h6, h7, h8, hq⟩ := H
  exact ⟨(hb.cell (p := p0) (World.block_lt_of_cell? _ _ h0)).trans h0, (hb.cell (p := p1) (World.block_lt_of_cell? _ _ h1)).trans h1, (hb.cell (p := p2) (World.block_lt_of_cell? _ _ h2)).trans h2, (hb.cell (p := p3) (World.block_lt_of_cell? _ _ h3)).trans h3, (hb.cell (p := p4) (World.block_lt_of_cell? _ _ h4)).trans h4, (hb.cell (p := p5) (World.block_lt_of_cell? _ _ h5)).trans h5, (hb.cell (p := p6) (World.block_lt_of_cell? _ _ h6)).trans h6, (hb.cell (p := p7) (World.block_lt_of_cell? _ _ h7)).trans h7, (hb.cell (p := p8) (World.block_lt_of_cell? _ _ h8)).trans h8, hq.trans (hb.mono (Nat.le_trans hB hq.size))⟩
end Go.Proofs.YtgmneapgihakgaaGreatDoor
/- Texts that are put together: report's queue, message, binding, dump and pages, over letters. -/
namespace Go.Proofs.YtgmneapgihakgaaGreatDoor
open Go.RowKit
set_option maxHeartbeats 8000000 in
theorem cat_queue (nm dead : ByteArray) (most ttl tries : Nat) (d0 d1 d2 d3 d4 : List UInt8) (l_d0 : d0.length ≤ 100000000) (l_d1 : d1.length ≤ 100000000) (l_d2 : d2.length ≤ 100000000) (l_d3 : d3.length ≤ 100000000) (l_d4 : d4.length ≤ 100000000) (w : World)
    (H0 : ∀ W, Below w.heap.size w W → Calls Tryz.prog 127 #[.string nm] W fun e w' => e = .returned (.string (str d0)) ∧ Below W.heap.size W w')
    (H1 : ∀ W, Below w.heap.size w W → Calls Tryz.prog 128 #[.int .u32 most] W fun e w' => e = .returned (.string (str d1)) ∧ Below W.heap.size W w')
    (H2 : ∀ W, Below w.heap.size w W → Calls Tryz.prog 129 #[.int .u64 ttl] W fun e w' => e = .returned (.string (str d2)) ∧ Below W.heap.size W w')
    (H3 : ∀ W, Below w.heap.size w W → Calls Tryz.prog 128 #[.int .u32 tries] W fun e w' => e = .returned (.string (str d3)) ∧ Below W.heap.size W w')
    (H4 : ∀ W, Below w.heap.size w W → Calls Tryz.prog 127 #[.string dead] W fun e w' => e = .returned (.string (str d4)) ∧ Below W.heap.size W w') :
    Calls Tryz.prog 43 #[.agg #[.string nm, .int .u32 most, .int .u64 ttl, .int .u32 tries, .string dead]] w fun e w' => e = .returned (.string (str ([113, 117, 101, 117, 101, 32] ++ d0 ++ [32, 109, 111, 115, 116, 32] ++ d1 ++ [32, 116, 116, 108, 32] ++ d2 ++ [32, 116, 114, 105, 101, 115, 32] ++ d3 ++ [32, 100, 101, 97, 100, 32] ++ d4))) ∧ Below w.heap.size w w' := by
  have HH0 := Lib.hid H0
  have HH1 := Lib.hid H1
  have HH2 := Lib.hid H2
  have HH3 := Lib.hid H3
  have HH4 := Lib.hid H4
  have HS : Hid ((⟨#[113, 117, 101, 117, 101, 32]⟩ ++ str d0 ++ ⟨#[32, 109, 111, 115, 116, 32]⟩ ++ str d1 ++ ⟨#[32, 116, 116, 108, 32]⟩ ++ str d2 ++ ⟨#[32, 116, 114, 105, 101, 115, 32]⟩ ++ str d3 ++ ⟨#[32, 100, 101, 97, 100, 32]⟩ ++ str d4 : ByteArray) = str ([113, 117, 101, 117, 101, 32] ++ d0 ++ [32, 109, 111, 115, 116, 32] ++ d1 ++ [32, 116, 116, 108, 32] ++ d2 ++ [32, 116, 114, 105, 101, 115, 32] ++ d3 ++ [32, 100, 101, 97, 100, 32] ++ d4)) := by
    show _ = _
    have e : (⟨#[113, 117, 101, 117, 101, 32]⟩ ++ str d0 ++ ⟨#[32, 109, 111, 115, 116, 32]⟩ ++ str d1 ++ ⟨#[32, 116, 116, 108, 32]⟩ ++ str d2 ++ ⟨#[32, 116, 114, 105, 101, 115, 32]⟩ ++ str d3 ++ ⟨#[32, 100, 101, 97, 100, 32]⟩ ++ str d4 : ByteArray) = str [113, 117, 101, 117, 101, 32] ++ str d0 ++ str [32, 109, 111, 115, 116, 32] ++ str d1 ++ str [32, 116, 116, 108, 32] ++ str d2 ++ str [32, 116, 114, 105, 101, 115, 32] ++ str d3 ++ str [32, 100, 101, 97, 100, 32] ++ str d4 := rfl
    rw [e]
    simp only [str_append]
  have y_d0 : (str d0).size = d0.length := rfl
  have y_d1 : (str d1).size = d1.length := rfl
  have y_d2 : (str d2).size = d2.length := rfl
  have y_d3 : (str d3).size = d3.length := rfl
  have y_d4 : (str d4).size = d4.length := rfl
  have q1 : ¬ 9223372036854775807 < 6 + d0.length := by omega
  have q2 : ¬ 9223372036854775807 < 6 + d0.length + 6 := by omega
  have q3 : ¬ 9223372036854775807 < 6 + d0.length + 6 + d1.length := by omega
  have q4 : ¬ 9223372036854775807 < 6 + d0.length + 6 + d1.length + 5 := by omega
  have q5 : ¬ 9223372036854775807 < 6 + d0.length + 6 + d1.length + 5 + d2.length := by omega
  have q6 : ¬ 9223372036854775807 < 6 + d0.length + 6 + d1.length + 5 + d2.length + 7 := by omega
  have q7 : ¬ 9223372036854775807 < 6 + d0.length + 6 + d1.length + 5 + d2.length + 7 + d3.length := by omega
  have q8 : ¬ 9223372036854775807 < 6 + d0.length + 6 + d1.length + 5 + d2.length + 7 + d3.length + 6 := by omega
  have q9 : ¬ 9223372036854775807 < 6 + d0.length + 6 + d1.length + 5 + d2.length + 7 + d3.length + 6 + d4.length := by omega
  clear H0 H1 H2 H3 H4 l_d0 l_d1 l_d2 l_d3 l_d4
  revert HS
  generalize str ([113, 117, 101, 117, 101, 32] ++ d0 ++ [32, 109, 111, 115, 116, 32] ++ d1 ++ [32, 116, 116, 108, 32] ++ d2 ++ [32, 116, 114, 105, 101, 115, 32] ++ d3 ++ [32, 100, 101, 97, 100, 32] ++ d4) = ex
  intro HS
  obtain ⟨w0, hw0⟩ : ∃ w0, w0 = w.alloc (.cells #[.string nm, .int .u32 most, .int .u64 ttl, .int .u32 tries, .string dead] 36) := ⟨_, rfl⟩
  have x0 : BoxL w0 w.heap.size 36 #[.string nm, .int .u32 most, .int .u64 ttl, .int .u32 tries, .string dead] := by rw [hw0]; exact BoxL.new w _ _
  have bA : Below w.heap.size w w0.drew := by rw [hw0]; exact ((Below.refl _ _).alloc (Nat.le_refl _) _).drew
  have H0 : Hid (w0.drew.cell? ⟨w.heap.size, 0, none⟩ = some (.string nm) ∧ w0.drew.cell? ⟨w.heap.size, 1, none⟩ = some (.int .u32 most) ∧ w0.drew.cell? ⟨w.heap.size, 2, none⟩ = some (.int .u64 ttl) ∧ w0.drew.cell? ⟨w.heap.size, 3, none⟩ = some (.int .u32 tries) ∧ w0.drew.cell? ⟨w.heap.size, 4, none⟩ = some (.string dead) ∧ Below w.heap.size w w0.drew) := ⟨x0.cell (i := 0) rfl, x0.cell (i := 1) rfl, x0.cell (i := 2) rfl, x0.cell (i := 3) rfl, x0.cell (i := 4) rfl, bA⟩
  have HB0 := Lib.hid bA
  have hmx := mixed0
  rw [hw0] at H0 HB0 x0
  clear bA
  clear x0
  go_enter Tryz.func43, Tryz.ntmps43
  go_wp2
  go_region_held3 (fun W => W.cell? ⟨w.heap.size, 0, none⟩ = some (.string nm) ∧ W.cell? ⟨w.heap.size, 1, none⟩ = some (.int .u32 most) ∧ W.cell? ⟨w.heap.size, 2, none⟩ = some (.int .u64 ttl) ∧ W.cell? ⟨w.heap.size, 3, none⟩ = some (.int .u32 tries) ∧ W.cell? ⟨w.heap.size, 4, none⟩ = some (.string dead) ∧ Below w.heap.size w W)
    ((first | with_reducible assumption | exact H0.out | exact stepK5 (Nat.le_refl _) ‹_› hb1))
    (first
      | (go_at_call 127; have tok := HB4; (with_reducible refine (HH4.out _ HB4.out).mono ?_); rintro e w5 ⟨rfl, hb1⟩; have HB5 := Lib.hid (below_step HB4.out hb1))
      | (go_at_call 128; have tok := HB3; (with_reducible refine (HH3.out _ HB3.out).mono ?_); rintro e w4 ⟨rfl, hb1⟩; have HB4 := Lib.hid (below_step HB3.out hb1))
      | (go_at_call 129; have tok := HB2; (with_reducible refine (HH2.out _ HB2.out).mono ?_); rintro e w3 ⟨rfl, hb1⟩; have HB3 := Lib.hid (below_step HB2.out hb1))
      | (go_at_call 128; have tok := HB1; (with_reducible refine (HH1.out _ HB1.out).mono ?_); rintro e w2 ⟨rfl, hb1⟩; have HB2 := Lib.hid (below_step HB1.out hb1))
      | (go_at_call 127; (with_reducible refine (HH0.out _ HB0.out).mono ?_); rintro e w1 ⟨rfl, hb1⟩; have HB1 := Lib.hid (below_step HB0.out hb1)))
  all_goals
    go_wp2
    go_ret
    exact ⟨ret_string HS.out, HB5.out⟩
set_option maxHeartbeats 8000000 in
theorem cat_binding (xg key qu : ByteArray) (kind : Int) (d0 d1 d2 d3 : List UInt8) (l_d0 : d0.length ≤ 100000000) (l_d1 : d1.length ≤ 100000000) (l_d2 : d2.length ≤ 100000000) (l_d3 : d3.length ≤ 100000000) (w : World)
    (H0 : ∀ W, Below w.heap.size w W → Calls Tryz.prog 127 #[.string xg] W fun e w' => e = .returned (.string (str d0)) ∧ Below W.heap.size W w')
    (H1 : ∀ W, Below w.heap.size w W → Calls Tryz.prog 225 #[.int .i64 kind] W fun e w' => e = .returned (.string (str d1)) ∧ Below W.heap.size W w')
    (H2 : ∀ W, Below w.heap.size w W → Calls Tryz.prog 127 #[.string key] W fun e w' => e = .returned (.string (str d2)) ∧ Below W.heap.size W w')
    (H3 : ∀ W, Below w.heap.size w W → Calls Tryz.prog 127 #[.string qu] W fun e w' => e = .returned (.string (str d3)) ∧ Below W.heap.size W w') :
    Calls Tryz.prog 139 #[.agg #[.string xg, .int .i64 kind, .string key, .string qu]] w fun e w' => e = .returned (.string (str ([98, 105, 110, 100, 32] ++ d0 ++ [32] ++ d1 ++ [32] ++ d2 ++ [32, 116, 111, 32] ++ d3))) ∧ Below w.heap.size w w' := by
  have HH0 := Lib.hid H0
  have HH1 := Lib.hid H1
  have HH2 := Lib.hid H2
  have HH3 := Lib.hid H3
  have HS : Hid ((⟨#[98, 105, 110, 100, 32]⟩ ++ str d0 ++ ⟨#[32]⟩ ++ str d1 ++ ⟨#[32]⟩ ++ str d2 ++ ⟨#[32, 116, 111, 32]⟩ ++ str d3 : ByteArray) = str ([98, 105, 110, 100, 32] ++ d0 ++ [32] ++ d1 ++ [32] ++ d2 ++ [32, 116, 111, 32] ++ d3)) := by
    show _ = _
    have e : (⟨#[98, 105, 110, 100, 32]⟩ ++ str d0 ++ ⟨#[32]⟩ ++ str d1 ++ ⟨#[32]⟩ ++ str d2 ++ ⟨#[32, 116, 111, 32]⟩ ++ str d3 : ByteArray) = str [98, 105, 110, 100, 32] ++ str d0 ++ str [32] ++ str d1 ++ str [32] ++ str d2 ++ str [32, 116, 111, 32] ++ str d3 := rfl
    rw [e]
    simp only [str_append]
  have y_d0 : (str d0).size = d0.length := rfl
  have y_d1 : (str d1).size = d1.length := rfl
  have y_d2 : (str d2).size = d2.length := rfl
  have y_d3 : (str d3).size = d3.length := rfl
  have q1 : ¬ 9223372036854775807 < 5 + d0.length := by omega
  have q2 : ¬ 9223372036854775807 < 5 + d0.length + 1 := by omega
  have q3 : ¬ 9223372036854775807 < 5 + d0.length + 1 + d1.length := by omega
  have q4 : ¬ 9223372036854775807 < 5 + d0.length + 1 + d1.length + 1 := by omega
  have q5 : ¬ 9223372036854775807 < 5 + d0.length + 1 + d1.length + 1 + d2.length := by omega
  have q6 : ¬ 9223372036854775807 < 5 + d0.length + 1 + d1.length + 1 + d2.length + 4 := by omega
  have q7 : ¬ 9223372036854775807 < 5 + d0.length + 1 + d1.length + 1 + d2.length + 4 + d3.length := by omega
  clear H0 H1 H2 H3 l_d0 l_d1 l_d2 l_d3
  revert HS
  generalize str ([98, 105, 110, 100, 32] ++ d0 ++ [32] ++ d1 ++ [32] ++ d2 ++ [32, 116, 111, 32] ++ d3) = ex
  intro HS
  obtain ⟨w0, hw0⟩ : ∃ w0, w0 = w.alloc (.cells #[.string xg, .int .i64 kind, .string key, .string qu] 38) := ⟨_, rfl⟩
  have x0 : BoxL w0 w.heap.size 38 #[.string xg, .int .i64 kind, .string key, .string qu] := by rw [hw0]; exact BoxL.new w _ _
  have bA : Below w.heap.size w w0.drew := by rw [hw0]; exact ((Below.refl _ _).alloc (Nat.le_refl _) _).drew
  have H0 : Hid (w0.drew.cell? ⟨w.heap.size, 0, none⟩ = some (.string xg) ∧ w0.drew.cell? ⟨w.heap.size, 1, none⟩ = some (.int .i64 kind) ∧ w0.drew.cell? ⟨w.heap.size, 2, none⟩ = some (.string key) ∧ w0.drew.cell? ⟨w.heap.size, 3, none⟩ = some (.string qu) ∧ Below w.heap.size w w0.drew) := ⟨x0.cell (i := 0) rfl, x0.cell (i := 1) rfl, x0.cell (i := 2) rfl, x0.cell (i := 3) rfl, bA⟩
  have HB0 := Lib.hid bA
  have hmx := mixed0
  rw [hw0] at H0 HB0 x0
  clear bA
  clear x0
  go_enter Tryz.func139, Tryz.ntmps139
  go_wp2
  go_region_held3 (fun W => W.cell? ⟨w.heap.size, 0, none⟩ = some (.string xg) ∧ W.cell? ⟨w.heap.size, 1, none⟩ = some (.int .i64 kind) ∧ W.cell? ⟨w.heap.size, 2, none⟩ = some (.string key) ∧ W.cell? ⟨w.heap.size, 3, none⟩ = some (.string qu) ∧ Below w.heap.size w W)
    ((first | with_reducible assumption | exact H0.out | exact stepK4 (Nat.le_refl _) ‹_› hb1))
    (first
      | (go_at_call 127; have tok := HB3; (with_reducible refine (HH3.out _ HB3.out).mono ?_); rintro e w4 ⟨rfl, hb1⟩; have HB4 := Lib.hid (below_step HB3.out hb1))
      | (go_at_call 127; have tok := HB2; (with_reducible refine (HH2.out _ HB2.out).mono ?_); rintro e w3 ⟨rfl, hb1⟩; have HB3 := Lib.hid (below_step HB2.out hb1))
      | (go_at_call 225; have tok := HB1; (with_reducible refine (HH1.out _ HB1.out).mono ?_); rintro e w2 ⟨rfl, hb1⟩; have HB2 := Lib.hid (below_step HB1.out hb1))
      | (go_at_call 127; (with_reducible refine (HH0.out _ HB0.out).mono ?_); rintro e w1 ⟨rfl, hb1⟩; have HB1 := Lib.hid (below_step HB0.out hb1)))
  all_goals
    go_wp2
    go_ret
    exact ⟨ret_string HS.out, HB4.out⟩
end Go.Proofs.YtgmneapgihakgaaGreatDoor
/- Texts that are put together: report's queue, message, binding, dump and pages, over letters. -/
namespace Go.Proofs.YtgmneapgihakgaaGreatDoor
open Go.RowKit
set_option maxHeartbeats 8000000 in
theorem cat_never (qu body : ByteArray) (id tries : Nat) (d0 d1 d2 d3 : List UInt8) (l_d0 : d0.length ≤ 100000000) (l_d1 : d1.length ≤ 100000000) (l_d2 : d2.length ≤ 100000000) (l_d3 : d3.length ≤ 100000000) (w : World)
    (H0 : ∀ W, Below w.heap.size w W → Calls Tryz.prog 127 #[.string qu] W fun e w' => e = .returned (.string (str d0)) ∧ Below W.heap.size W w')
    (H1 : ∀ W, Below w.heap.size w W → Calls Tryz.prog 129 #[.int .u64 id] W fun e w' => e = .returned (.string (str d1)) ∧ Below W.heap.size W w')
    (H2 : ∀ W, Below w.heap.size w W → Calls Tryz.prog 128 #[.int .u32 tries] W fun e w' => e = .returned (.string (str d2)) ∧ Below W.heap.size W w')
    (H3 : ∀ W, Below w.heap.size w W → Calls Tryz.prog 132 #[.int .i64 body.size] W fun e w' => e = .returned (.string (str d3)) ∧ Below W.heap.size W w') :
    Calls Tryz.prog 45 #[.agg #[.string qu, .int .u64 id, .int .u32 tries, .int .u64 0, .string body]] w fun e w' => e = .returned (.string (str ([109, 101, 115, 115, 97, 103, 101, 32] ++ d0 ++ [32, 35] ++ d1 ++ [32, 116, 114, 105, 101, 115, 32] ++ d2 ++ [32, 117, 110, 116, 105, 108, 32] ++ [110, 101, 118, 101, 114] ++ [32] ++ d3 ++ [32, 98, 121, 116, 101, 115]))) ∧ Below w.heap.size w w' := by
  have HH0 := Lib.hid H0
  have HH1 := Lib.hid H1
  have HH2 := Lib.hid H2
  have HH3 := Lib.hid H3
  have HS : Hid ((⟨#[109, 101, 115, 115, 97, 103, 101, 32]⟩ ++ str d0 ++ ⟨#[32, 35]⟩ ++ str d1 ++ ⟨#[32, 116, 114, 105, 101, 115, 32]⟩ ++ str d2 ++ ⟨#[32, 117, 110, 116, 105, 108, 32]⟩ ++ ⟨#[110, 101, 118, 101, 114]⟩ ++ ⟨#[32]⟩ ++ str d3 ++ ⟨#[32, 98, 121, 116, 101, 115]⟩ : ByteArray) = str ([109, 101, 115, 115, 97, 103, 101, 32] ++ d0 ++ [32, 35] ++ d1 ++ [32, 116, 114, 105, 101, 115, 32] ++ d2 ++ [32, 117, 110, 116, 105, 108, 32] ++ [110, 101, 118, 101, 114] ++ [32] ++ d3 ++ [32, 98, 121, 116, 101, 115])) := by
    show _ = _
    have e : (⟨#[109, 101, 115, 115, 97, 103, 101, 32]⟩ ++ str d0 ++ ⟨#[32, 35]⟩ ++ str d1 ++ ⟨#[32, 116, 114, 105, 101, 115, 32]⟩ ++ str d2 ++ ⟨#[32, 117, 110, 116, 105, 108, 32]⟩ ++ ⟨#[110, 101, 118, 101, 114]⟩ ++ ⟨#[32]⟩ ++ str d3 ++ ⟨#[32, 98, 121, 116, 101, 115]⟩ : ByteArray) = str [109, 101, 115, 115, 97, 103, 101, 32] ++ str d0 ++ str [32, 35] ++ str d1 ++ str [32, 116, 114, 105, 101, 115, 32] ++ str d2 ++ str [32, 117, 110, 116, 105, 108, 32] ++ str [110, 101, 118, 101, 114] ++ str [32] ++ str d3 ++ str [32, 98, 121, 116, 101, 115] := rfl
    rw [e]
    simp only [str_append]
  have y_d0 : (str d0).size = d0.length := rfl
  have y_d1 : (str d1).size = d1.length := rfl
  have y_d2 : (str d2).size = d2.length := rfl
  have y_d3 : (str d3).size = d3.length := rfl
  have q1 : ¬ 9223372036854775807 < 8 + d0.length := by omega
  have q2 : ¬ 9223372036854775807 < 8 + d0.length + 2 := by omega
  have q3 : ¬ 9223372036854775807 < 8 + d0.length + 2 + d1.length := by omega
  have q4 : ¬ 9223372036854775807 < 8 + d0.length + 2 + d1.length + 7 := by omega
  have q5 : ¬ 9223372036854775807 < 8 + d0.length + 2 + d1.length + 7 + d2.length := by omega
  have q6 : ¬ 9223372036854775807 < 8 + d0.length + 2 + d1.length + 7 + d2.length + 7 := by omega
  have q7 : ¬ 9223372036854775807 < 8 + d0.length + 2 + d1.length + 7 + d2.length + 7 + 5 := by omega
  have q8 : ¬ 9223372036854775807 < 8 + d0.length + 2 + d1.length + 7 + d2.length + 7 + 5 + 1 := by omega
  have q9 : ¬ 9223372036854775807 < 8 + d0.length + 2 + d1.length + 7 + d2.length + 7 + 5 + 1 + d3.length := by omega
  have q10 : ¬ 9223372036854775807 < 8 + d0.length + 2 + d1.length + 7 + d2.length + 7 + 5 + 1 + d3.length + 6 := by omega
  clear H0 H1 H2 H3 l_d0 l_d1 l_d2 l_d3
  revert HS
  generalize str ([109, 101, 115, 115, 97, 103, 101, 32] ++ d0 ++ [32, 35] ++ d1 ++ [32, 116, 114, 105, 101, 115, 32] ++ d2 ++ [32, 117, 110, 116, 105, 108, 32] ++ [110, 101, 118, 101, 114] ++ [32] ++ d3 ++ [32, 98, 121, 116, 101, 115]) = ex
  intro HS
  obtain ⟨w0, hw0⟩ : ∃ w0, w0 = w.alloc (.cells #[.string qu, .int .u64 id, .int .u32 tries, .int .u64 0, .string body] 62) := ⟨_, rfl⟩
  have x0 : BoxL w0 w.heap.size 62 #[.string qu, .int .u64 id, .int .u32 tries, .int .u64 0, .string body] := by rw [hw0]; exact BoxL.new w _ _
  have bA : Below w.heap.size w w0.drew := by rw [hw0]; exact ((Below.refl _ _).alloc (Nat.le_refl _) _).drew
  have H0 : Hid (w0.drew.cell? ⟨w.heap.size, 0, none⟩ = some (.string qu) ∧ w0.drew.cell? ⟨w.heap.size, 1, none⟩ = some (.int .u64 id) ∧ w0.drew.cell? ⟨w.heap.size, 2, none⟩ = some (.int .u32 tries) ∧ w0.drew.cell? ⟨w.heap.size, 4, none⟩ = some (.string body) ∧ Below w.heap.size w w0.drew) := ⟨x0.cell (i := 0) rfl, x0.cell (i := 1) rfl, x0.cell (i := 2) rfl, x0.cell (i := 4) rfl, bA⟩
  have HB0 := Lib.hid bA
  have hmx := mixed0
  rw [hw0] at H0 HB0 x0
  clear bA
  have c_3 := x0.cell (i := 3) rfl
  clear x0
  go_enter Tryz.func45, Tryz.ntmps45
  go_wp2
  go_region_held3 (fun W => W.cell? ⟨w.heap.size, 0, none⟩ = some (.string qu) ∧ W.cell? ⟨w.heap.size, 1, none⟩ = some (.int .u64 id) ∧ W.cell? ⟨w.heap.size, 2, none⟩ = some (.int .u32 tries) ∧ W.cell? ⟨w.heap.size, 4, none⟩ = some (.string body) ∧ Below w.heap.size w W)
    ((first | with_reducible assumption | exact H0.out | exact stepK4 (Nat.le_refl _) ‹_› hb1))
    (first
      | (go_at_call 132; have tok := HB3; (with_reducible refine (HH3.out _ HB3.out).mono ?_); rintro e w4 ⟨rfl, hb1⟩; have HB4 := Lib.hid (below_step HB3.out hb1))
      | (go_at_call 128; have tok := HB2; (with_reducible refine (HH2.out _ HB2.out).mono ?_); rintro e w3 ⟨rfl, hb1⟩; have HB3 := Lib.hid (below_step HB2.out hb1))
      | (go_at_call 129; have tok := HB1; (with_reducible refine (HH1.out _ HB1.out).mono ?_); rintro e w2 ⟨rfl, hb1⟩; have HB2 := Lib.hid (below_step HB1.out hb1))
      | (go_at_call 127; (with_reducible refine (HH0.out _ HB0.out).mono ?_); rintro e w1 ⟨rfl, hb1⟩; have HB1 := Lib.hid (below_step HB0.out hb1)))
  all_goals
    go_wp2
    go_ret
    exact ⟨ret_string HS.out, HB4.out⟩
end Go.Proofs.YtgmneapgihakgaaGreatDoor
/- Texts that are put together: report's queue, message, binding, dump and pages, over letters. -/
namespace Go.Proofs.YtgmneapgihakgaaGreatDoor
open Go.RowKit
set_option maxHeartbeats 8000000 in
theorem cat_until (qu body : ByteArray) (id tries expiry : Nat) (he : 0 < expiry) (d0 d1 d2 u d3 : List UInt8) (l_d0 : d0.length ≤ 100000000) (l_d1 : d1.length ≤ 100000000) (l_d2 : d2.length ≤ 100000000) (l_u : u.length ≤ 100000000) (l_d3 : d3.length ≤ 100000000) (w : World)
    (hU : ∀ W, Below w.heap.size w W → Calls Tryz.prog 129 #[.int .u64 expiry] W fun e w' => e = .returned (.string (str u)) ∧ Below W.heap.size W w')
    (H0 : ∀ W, Below w.heap.size w W → Calls Tryz.prog 127 #[.string qu] W fun e w' => e = .returned (.string (str d0)) ∧ Below W.heap.size W w')
    (H1 : ∀ W, Below w.heap.size w W → Calls Tryz.prog 129 #[.int .u64 id] W fun e w' => e = .returned (.string (str d1)) ∧ Below W.heap.size W w')
    (H2 : ∀ W, Below w.heap.size w W → Calls Tryz.prog 128 #[.int .u32 tries] W fun e w' => e = .returned (.string (str d2)) ∧ Below W.heap.size W w')
    (H3 : ∀ W, Below w.heap.size w W → Calls Tryz.prog 132 #[.int .i64 body.size] W fun e w' => e = .returned (.string (str d3)) ∧ Below W.heap.size W w') :
    Calls Tryz.prog 45 #[.agg #[.string qu, .int .u64 id, .int .u32 tries, .int .u64 expiry, .string body]] w fun e w' => e = .returned (.string (str ([109, 101, 115, 115, 97, 103, 101, 32] ++ d0 ++ [32, 35] ++ d1 ++ [32, 116, 114, 105, 101, 115, 32] ++ d2 ++ [32, 117, 110, 116, 105, 108, 32] ++ u ++ [32] ++ d3 ++ [32, 98, 121, 116, 101, 115]))) ∧ Below w.heap.size w w' := by
  have HH0 := Lib.hid H0
  have HH1 := Lib.hid H1
  have HH2 := Lib.hid H2
  have HH3 := Lib.hid H3
  have HS : Hid ((⟨#[109, 101, 115, 115, 97, 103, 101, 32]⟩ ++ str d0 ++ ⟨#[32, 35]⟩ ++ str d1 ++ ⟨#[32, 116, 114, 105, 101, 115, 32]⟩ ++ str d2 ++ ⟨#[32, 117, 110, 116, 105, 108, 32]⟩ ++ str u ++ ⟨#[32]⟩ ++ str d3 ++ ⟨#[32, 98, 121, 116, 101, 115]⟩ : ByteArray) = str ([109, 101, 115, 115, 97, 103, 101, 32] ++ d0 ++ [32, 35] ++ d1 ++ [32, 116, 114, 105, 101, 115, 32] ++ d2 ++ [32, 117, 110, 116, 105, 108, 32] ++ u ++ [32] ++ d3 ++ [32, 98, 121, 116, 101, 115])) := by
    show _ = _
    have e : (⟨#[109, 101, 115, 115, 97, 103, 101, 32]⟩ ++ str d0 ++ ⟨#[32, 35]⟩ ++ str d1 ++ ⟨#[32, 116, 114, 105, 101, 115, 32]⟩ ++ str d2 ++ ⟨#[32, 117, 110, 116, 105, 108, 32]⟩ ++ str u ++ ⟨#[32]⟩ ++ str d3 ++ ⟨#[32, 98, 121, 116, 101, 115]⟩ : ByteArray) = str [109, 101, 115, 115, 97, 103, 101, 32] ++ str d0 ++ str [32, 35] ++ str d1 ++ str [32, 116, 114, 105, 101, 115, 32] ++ str d2 ++ str [32, 117, 110, 116, 105, 108, 32] ++ str u ++ str [32] ++ str d3 ++ str [32, 98, 121, 116, 101, 115] := rfl
    rw [e]
    simp only [str_append]
  have y_d0 : (str d0).size = d0.length := rfl
  have y_d1 : (str d1).size = d1.length := rfl
  have y_d2 : (str d2).size = d2.length := rfl
  have y_u : (str u).size = u.length := rfl
  have y_d3 : (str d3).size = d3.length := rfl
  have q1 : ¬ 9223372036854775807 < 8 + d0.length := by omega
  have q2 : ¬ 9223372036854775807 < 8 + d0.length + 2 := by omega
  have q3 : ¬ 9223372036854775807 < 8 + d0.length + 2 + d1.length := by omega
  have q4 : ¬ 9223372036854775807 < 8 + d0.length + 2 + d1.length + 7 := by omega
  have q5 : ¬ 9223372036854775807 < 8 + d0.length + 2 + d1.length + 7 + d2.length := by omega
  have q6 : ¬ 9223372036854775807 < 8 + d0.length + 2 + d1.length + 7 + d2.length + 7 := by omega
  have q7 : ¬ 9223372036854775807 < 8 + d0.length + 2 + d1.length + 7 + d2.length + 7 + u.length := by omega
  have q8 : ¬ 9223372036854775807 < 8 + d0.length + 2 + d1.length + 7 + d2.length + 7 + u.length + 1 := by omega
  have q9 : ¬ 9223372036854775807 < 8 + d0.length + 2 + d1.length + 7 + d2.length + 7 + u.length + 1 + d3.length := by omega
  have q10 : ¬ 9223372036854775807 < 8 + d0.length + 2 + d1.length + 7 + d2.length + 7 + u.length + 1 + d3.length + 6 := by omega
  clear H0 H1 H2 H3 l_d0 l_d1 l_d2 l_u l_d3
  revert HS
  generalize str ([109, 101, 115, 115, 97, 103, 101, 32] ++ d0 ++ [32, 35] ++ d1 ++ [32, 116, 114, 105, 101, 115, 32] ++ d2 ++ [32, 117, 110, 116, 105, 108, 32] ++ u ++ [32] ++ d3 ++ [32, 98, 121, 116, 101, 115]) = ex
  intro HS
  obtain ⟨w0, hw0⟩ : ∃ w0, w0 = w.alloc (.cells #[.string qu, .int .u64 id, .int .u32 tries, .int .u64 expiry, .string body] 62) := ⟨_, rfl⟩
  have x0 : BoxL w0 w.heap.size 62 #[.string qu, .int .u64 id, .int .u32 tries, .int .u64 expiry, .string body] := by rw [hw0]; exact BoxL.new w _ _
  have bA : Below w.heap.size w w0.drew := by rw [hw0]; exact ((Below.refl _ _).alloc (Nat.le_refl _) _).drew
  have H0 : Hid (w0.drew.cell? ⟨w.heap.size, 0, none⟩ = some (.string qu) ∧ w0.drew.cell? ⟨w.heap.size, 1, none⟩ = some (.int .u64 id) ∧ w0.drew.cell? ⟨w.heap.size, 2, none⟩ = some (.int .u32 tries) ∧ w0.drew.cell? ⟨w.heap.size, 4, none⟩ = some (.string body) ∧ Below w.heap.size w w0.drew) := ⟨x0.cell (i := 0) rfl, x0.cell (i := 1) rfl, x0.cell (i := 2) rfl, x0.cell (i := 4) rfl, bA⟩
  have HB0 := Lib.hid bA
  have hmx := mixed0
  have hne : ((expiry : Int) != 0) = true := by simp; omega
  clear he
  have HU := Lib.hid hU
  clear hU
  rw [hw0] at H0 HB0 x0
  clear bA
  have c_3 := x0.cell (i := 3) rfl
  have X0 := Lib.hid x0
  clear x0
  go_enter Tryz.func45, Tryz.ntmps45
  clear HB0 H0
  go_wp2_with (go_at_call 129; (with_reducible refine (HU.out _ (Below.alloc (Below.refl _ _) (Nat.le_refl _) _)).mono ?_); rintro e wu ⟨rfl, hbu⟩; have HBU := Lib.hid hbu; clear hbu)
  have HBW : Hid (Below w.heap.size w (w.alloc (.cells #[.string qu, .int .u64 id, .int .u32 tries, .int .u64 expiry, .string body] 62))) := (Below.refl _ _).alloc (Nat.le_refl _) _
  have XU : Hid (BoxL wu.drew w.heap.size 62 #[.string qu, .int .u64 id, .int .u32 tries, .int .u64 expiry, .string body]) := (X0.out.below HBU.out X0.out.lt).below ((Below.refl _ _).drew) (X0.out.below HBU.out X0.out.lt).lt
  have HB0 : Hid (Below w.heap.size w wu.drew) := (HBW.out.trans (HBU.out.mono HBW.out.size)).drew
  have H0 : Hid (wu.drew.cell? ⟨w.heap.size, 0, none⟩ = some (.string qu) ∧ wu.drew.cell? ⟨w.heap.size, 1, none⟩ = some (.int .u64 id) ∧ wu.drew.cell? ⟨w.heap.size, 2, none⟩ = some (.int .u32 tries) ∧ wu.drew.cell? ⟨w.heap.size, 4, none⟩ = some (.string body) ∧ Below w.heap.size w wu.drew) := ⟨XU.out.cell (i := 0) rfl, XU.out.cell (i := 1) rfl, XU.out.cell (i := 2) rfl, XU.out.cell (i := 4) rfl, HB0.out⟩
  clear XU HBU HBW X0
  go_region_held3 (fun W => W.cell? ⟨w.heap.size, 0, none⟩ = some (.string qu) ∧ W.cell? ⟨w.heap.size, 1, none⟩ = some (.int .u64 id) ∧ W.cell? ⟨w.heap.size, 2, none⟩ = some (.int .u32 tries) ∧ W.cell? ⟨w.heap.size, 4, none⟩ = some (.string body) ∧ Below w.heap.size w W)
    ((first | with_reducible assumption | exact H0.out | exact stepK4 (Nat.le_refl _) ‹_› hb1))
    (first
      | (go_at_call 132; have tok := HB3; (with_reducible refine (HH3.out _ HB3.out).mono ?_); rintro e w4 ⟨rfl, hb1⟩; have HB4 := Lib.hid (below_step HB3.out hb1))
      | (go_at_call 128; have tok := HB2; (with_reducible refine (HH2.out _ HB2.out).mono ?_); rintro e w3 ⟨rfl, hb1⟩; have HB3 := Lib.hid (below_step HB2.out hb1))
      | (go_at_call 129; have tok := HB1; (with_reducible refine (HH1.out _ HB1.out).mono ?_); rintro e w2 ⟨rfl, hb1⟩; have HB2 := Lib.hid (below_step HB1.out hb1))
      | (go_at_call 127; (with_reducible refine (HH0.out _ HB0.out).mono ?_); rintro e w1 ⟨rfl, hb1⟩; have HB1 := Lib.hid (below_step HB0.out hb1)))
  all_goals
    go_wp2
    go_ret
    exact ⟨ret_string HS.out, HB4.out⟩
end Go.Proofs.YtgmneapgihakgaaGreatDoor
