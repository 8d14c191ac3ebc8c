/- slices.BinarySearchFunc at a table's row. -/
import Derived.Test.YtpgaepilnbjhbaaLsOrdM
set_option maxRecDepth 100000
set_option maxHeartbeats 4000000
set_option linter.unusedVariables false
namespace Go.Proofs.Ytpgaepilnbjhbaa
open Go.RowKit
open Ls (Txt Ln Ms low Mono)
attribute [local go_sem] store_fn store_nil
abbrev xboxM (x : Ms) : Obj := .cells #[.string (str x.s), .int .u64 x.t] 88
theorem xcM (w : World) (x : Ms) : (w.alloc (xboxM x)).cell? ⟨w.heap.size, 0, none⟩ = some (.string (str x.s)) ∧ (w.alloc (xboxM x)).cell? ⟨w.heap.size, 1, none⟩ = some (.int .u64 x.t) :=
  ⟨World.cell?_alloc_new w _ _ 0, World.cell?_alloc_new w _ _ 1⟩
inductive BinOutM (k : Nat) (w : World) (e : Ending) (w' : World) : Prop
  | mk (b : Bool) (he : e = .returned (.tuple #[.int .i64 k, .bool b])) (hb : Below w.heap.size w w')
set_option maxHeartbeats 8000000 in
theorem binM_any (tv : Value) (o0 : Ms → Int) (v : Value) (l : List Ms) (hl : l.length ≤ 1000) (x : Ms) (w : World) (hv : SlG cM 2 w v l)
    (hO : ∀ e W, Calls Try.prog 41 #[tv, .agg #[.string (str e.s), .int .u64 e.t], .agg #[.string (str x.s), .int .u64 x.t]] W fun r W' => r = .returned (.int .i64 (o0 e)) ∧ Below W.heap.size W W') (hm : Mono (fun e => decide (o0 e < 0)) l) :
    Calls Try.prog 40 #[v, .agg #[.string (str x.s), .int .u64 x.t], .func (.func 41) #[tv] #[]] w (BinOutM (low (fun e => decide (o0 e < 0)) l) w) := by
  have HO := Lib.hid hO
  have HM := Lib.hid hm
  have hB0 := below_alloc w (xboxM x)
  have hv0 := hv.below hB0
  obtain ⟨a, b, o, c, rfl, hlc, hcm, ha0, ha, hx⟩ := hv0.get
  have HX := Lib.hid hx
  have HA := Lib.hid ha
  have HB0 := Lib.hid hB0
  have HXC := Lib.hid (xcM w x)
  clear hx ha hv hv0 hO hm hB0
  go_enter Try.func40, Try.ntmps40
  go_wp2
  go_loopg [9, 10] l.length (fun n i j wr => ∃ p q : Nat, p ≤ q ∧ q ≤ l.length ∧ n = q - p ∧ i = .int .i64 p ∧ j = .int .i64 q ∧ Hid (∀ m y, m < p → l[m]? = some y → decide (o0 y < 0) = true) ∧ Hid (∀ m y, q ≤ m → l[m]? = some y → decide (o0 y < 0) = false) ∧ Hid (Below (w.alloc (xboxM x)).heap.size (w.alloc (xboxM x)) wr))
  case atStart => exact ⟨0, l.length, Nat.zero_le _, Nat.le_refl _, rfl, rfl, rfl, fun m y h => absurd h (Nat.not_lt_zero m), fun m y h hx => absurd (List.getElem?_eq_some_iff.1 hx).1 (Nat.not_lt.2 h), Below.refl _ _⟩
  case round =>
    obtain ⟨p, q, hpq, hql, rfl, rfl, rfl, HLO, HHI, HB⟩ := hrel
    have HXr := Lib.hid (HX.out.below rfl HB.out)
    obtain ⟨xr0, xr1⟩ := HXC.out
    have xc := fun (p : Addr) (v : Value) (h : (w.alloc (xboxM x)).cell? p = some v) => (HB.out.cell (p := p) (World.block_lt_of_cell? _ _ h)).trans h
    have x0 := xc _ _ xr0
    have x1 := xc _ _ xr1
    have HBw : Hid (Below w.heap.size w wr) := HB0.out.trans (HB.out.mono HB0.out.size)
    clear xr0 xr1 xc
    by_cases hlt : p < q
    · obtain ⟨h, hh⟩ : ∃ h : Nat, h = (p + q) / 2 := ⟨_, rfl⟩
      obtain ⟨e, hy⟩ := some_atP (l := l) (k := h) (by omega)
      obtain rfl : a = some ⟨b, o, none⟩ := HA.out.resolve_left (fun h' => by have := ha0 h'; omega)
      obtain ⟨e0, e1⟩ := at2 HXr.out hy
      have HY := Lib.hid hy
      have hhE : ((p : Int) + q) / 2 = (h : Int) := by omega
      have hb1 : p ≤ h := by omega
      have hb2 : h < q := by omega
      have hb3 : h < l.length := by omega
      have hb4 : (h : Int) < l.length := by omega
      have hb5 : (0 : Int) ≤ (h : Int) := by omega
      have HL := Lib.hid (HO.out e)
      clear hy hh
      go_upto_region 5 with fail
      clear hhE
      have HS0 : Hid (wr.drew.cell? ⟨b, o + h * 2, none⟩ = some (.string (str e.s)) ∧ wr.drew.cell? ⟨b, o + h * 2 + 1, none⟩ = some (.int .u64 e.t) ∧ wr.drew.cell? ⟨w.heap.size, 0, none⟩ = some (.string (str x.s)) ∧ wr.drew.cell? ⟨w.heap.size, 1, none⟩ = some (.int .u64 x.t) ∧ Below w.heap.size w wr.drew) := ⟨e0, e1, x0, x1, HBw.out.drew⟩
      by_cases hyx : o0 e < 0
      · have HYX := Lib.hid (decide_eq_true hyx)
        generalize o0 e = r at hyx HL
        go_region_held3 (fun w' => w'.cell? ⟨b, o + h * 2, none⟩ = some (.string (str e.s)) ∧ w'.cell? ⟨b, o + h * 2 + 1, none⟩ = some (.int .u64 e.t) ∧ w'.cell? ⟨w.heap.size, 0, none⟩ = some (.string (str x.s)) ∧ w'.cell? ⟨w.heap.size, 1, none⟩ = some (.int .u64 x.t) ∧ Below w.heap.size w w')
          ((first | assumption | exact HS0.out | (with_reducible exact stepC4 (Nat.le_refl _) HS0.out hb)))
          (first
          | (go_at_call 41; with_reducible refine (HL.out _).mono ?_; rintro e w2 ⟨rfl, hb⟩; have HB2 := Lib.hid (HB.out.drew.trans (hb.mono HB.out.drew.size))))
        clear HS0 HL
        go_wp2
        go_roundg (q - (h + 1))
        case measure => omega
        case rel =>
          refine ⟨h + 1, q, by omega, by omega, rfl, by go_num, rfl, fun m z hm hz => ?_, HHI, HB2⟩
          exact HM.out m h z e (by omega) hz HY.out HYX.out
      · have HYX := Lib.hid (decide_eq_false hyx)
        generalize o0 e = r at hyx HL
        go_region_held3 (fun w' => w'.cell? ⟨b, o + h * 2, none⟩ = some (.string (str e.s)) ∧ w'.cell? ⟨b, o + h * 2 + 1, none⟩ = some (.int .u64 e.t) ∧ w'.cell? ⟨w.heap.size, 0, none⟩ = some (.string (str x.s)) ∧ w'.cell? ⟨w.heap.size, 1, none⟩ = some (.int .u64 x.t) ∧ Below w.heap.size w w')
          ((first | assumption | exact HS0.out | (with_reducible exact stepC4 (Nat.le_refl _) HS0.out hb)))
          (first
          | (go_at_call 41; with_reducible refine (HL.out _).mono ?_; rintro e w2 ⟨rfl, hb⟩; have HB2 := Lib.hid (HB.out.drew.trans (hb.mono HB.out.drew.size))))
        clear HS0 HL
        go_wp2
        go_roundg (h - p)
        case measure => omega
        case rel =>
          refine ⟨p, h, by omega, by omega, rfl, rfl, rfl, HLO, fun m z hm hz => ?_, HB2⟩
          have hn := HYX.out
          cases hz0 : decide (o0 z < 0) with
          | false => rfl
          | true => exact absurd (Eq.trans (HM.out h m e z hm HY.out hz hz0).symm hn) (by decide)
    · obtain rfl : p = q := by omega
      have HAT : Hid (low (fun e => decide (o0 e < 0)) l = p) := Ls.low_eq hql HLO.out (fun a ha => HHI.out p a (Nat.le_refl _) ha)
      by_cases hn : p < l.length
      · obtain ⟨e, hy⟩ := some_atP hn
        obtain rfl : a = some ⟨b, o, none⟩ := HA.out.resolve_left (fun h' => by have := ha0 h'; omega)
        obtain ⟨e0, e1⟩ := at2 HXr.out hy
        have hn' : (p : Int) < l.length := by omega
        have hn5 : (0 : Int) ≤ (p : Int) := by omega
        have HL := Lib.hid (HO.out e)
        clear hy
        have HS0 : Hid (wr.drew.cell? ⟨b, o + p * 2, none⟩ = some (.string (str e.s)) ∧ wr.drew.cell? ⟨b, o + p * 2 + 1, none⟩ = some (.int .u64 e.t) ∧ wr.drew.cell? ⟨w.heap.size, 0, none⟩ = some (.string (str x.s)) ∧ wr.drew.cell? ⟨w.heap.size, 1, none⟩ = some (.int .u64 x.t) ∧ Below w.heap.size w wr.drew) := ⟨e0, e1, x0, x1, HBw.out.drew⟩
        generalize o0 e = r at HL
        go_wp2_with fail
        go_region_held3 (fun w' => w'.cell? ⟨b, o + p * 2, none⟩ = some (.string (str e.s)) ∧ w'.cell? ⟨b, o + p * 2 + 1, none⟩ = some (.int .u64 e.t) ∧ w'.cell? ⟨w.heap.size, 0, none⟩ = some (.string (str x.s)) ∧ w'.cell? ⟨w.heap.size, 1, none⟩ = some (.int .u64 x.t) ∧ Below w.heap.size w w')
          ((first | assumption | exact HS0.out | (with_reducible exact stepC4 (Nat.le_refl _) HS0.out hb)))
          (first
          | (go_at_call 41; with_reducible refine (HL.out _).mono ?_; rintro e w2 ⟨rfl, hb⟩; have HB2 := Lib.hid (HB.out.drew.trans (hb.mono HB.out.drew.size))))
        clear HS0 HL
        go_wp2
        go_ret2
        exact ⟨_, by first | (rw [HAT.out]; done) | (rw [HAT.out]; rfl), HB0.out.trans (HB2.out.mono HB0.out.size)⟩
      · obtain rfl : p = l.length := by omega
        go_wp2_with fail
        go_region
        go_wp2
        go_ret2
        exact ⟨_, by first | (rw [HAT.out]; done) | (rw [HAT.out]; rfl), (HB0.out.trans (HB.out.mono HB0.out.size)).drew⟩
end Go.Proofs.Ytpgaepilnbjhbaa
