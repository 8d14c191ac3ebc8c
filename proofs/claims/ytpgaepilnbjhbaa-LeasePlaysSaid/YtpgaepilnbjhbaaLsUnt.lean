/- Until. -/
import Derived.Test.YtpgaepilnbjhbaaLsLendL
import Derived.Test.YtpgaepilnbjhbaaLsRefU
set_option maxRecDepth 100000
set_option maxHeartbeats 4000000
set_option linter.unusedVariables false
namespace Go.Proofs.Ytpgaepilnbjhbaa
open Go.RowKit
open Ls (Txt Ln Ms)
attribute [local go_sem] Oper.semAt_some store_fn store_nil
abbrev uw (w : World) (fn sl : Value) (x : Ln) : World := (w.alloc (.cells #[fn, sl] 27)).alloc (.cells #[.string (str x.q), .int .u64 x.id] 34)
theorem until_none {x : Ln} {l : List Ln} (h : ∀ e ∈ l, Ls.sameL e x = false) : untilR x.q x.id l = none := by
  unfold untilR; rw [find_none' (fun e he => by have := h e he; simpa [Ls.sameL] using this)]; rfl
theorem until_some {x e : Ln} {l : List Ln} {k : Nat} (hu : Ls.Uni Ls.sameL l) (he : l[k]? = some e) (hs : Ls.sameL e x = true) : untilR x.q x.id l = some e.t := by
  unfold untilR
  rw [find_at he (fun y hy => ?_) (by simpa [Ls.sameL] using hs)]; rfl
  obtain ⟨i, hi, hy'⟩ := Ls.mem_take hy
  have h1 := Ls.pair_at hu hi hy' he
  have h2 : Ls.sameL y x = false := by
    cases h : Ls.sameL y x with
    | false => rfl
    | true =>
      simp [Ls.sameL] at h hs h1
      exact absurd (h.2.trans hs.2.symm) (h1 (h.1.trans hs.1.symm))
  simpa [Ls.sameL] using h2
theorem plc_there {x : Ln} {l : List Ln} {k : Nat} (h : Ls.Plc Ls.sameL x l k true) : ∃ e, l[k]? = some e ∧ Ls.sameL e x = true := by cases h with | there k e he hs => exact ⟨e, he, hs⟩
theorem until_any (fn : Value) (hfn : IsFn fn) (sl : Value) (x : Ln) (l : List Ln) (hl : l.length ≤ 1000) (hu : Ls.Uni Ls.sameL l) (w : World) (hsl : SlG cL 3 w sl l) :
    Calls Try.prog 16 #[.agg #[fn, sl], .agg #[.string (str x.q), .int .u64 x.id]] w fun e w' => e = .returned (.tuple #[.int .u64 (((untilR x.q x.id l).getD 0 : Nat) : Int), .bool (untilR x.q x.id l).isSome]) ∧ Below w.heap.size w w' := by
  have HP := Lib.hid (fun W h => placeL_any fn sl l x W h)
  have hB0 : Below w.heap.size w (uw w fn sl x) := (below_alloc w _).alloc (by simp) _
  have HB := Lib.hid hB0
  have HS := Lib.hid (hsl.below hB0)
  have HT : Hid (Boxed2 (uw w fn sl x) w.heap.size 27 fn sl) := (Boxed2.new w _ _ _).alloc _
  obtain ⟨sa, sc, hse⟩ := hsl.slice
  subst hse
  clear hsl hB0
  rcases hfn with ⟨kf, rfl⟩ | rfl
  · go_enter Try.func16, Try.ntmps16
    go_wp2_with (go_at_call 31; (with_reducible refine (HP.out _ HS.out).mono ?_); rintro e w1 ⟨k, bb, rfl, hp, hb⟩; have HPL := Lib.hid hp; have HB1 := Lib.hid (HB.out.trans (hb.mono HB.out.size)); have hT1 := HT.out.below hb; have HS1 := Lib.hid (HS.out.below hb); have c0 := hT1.c0; have c1 := hT1.c1; clear hp hb hT1; cases bb; rotate_left; obtain ⟨e, he, hs⟩ := plc_there HPL.out; have HN := Lib.hid (until_some hu he hs); have hk := (List.getElem?_eq_some_iff.1 he).1; obtain ⟨a, b, o, c, hv, hlc, _, ha0, ha, hcx⟩ := HS1.out.get; cases hv; obtain rfl := ha.resolve_left (fun h' => by have := ha0 h'; omega); obtain ⟨e0, e1, e2⟩ := at3 hcx he; clear hcx ha0 ha he hs; rotate_right)
    · have HN : Hid (untilR x.q x.id l = none) := until_none (by cases HPL.out; assumption)
      go_wp2
      go_ret2
      exact ⟨by rw [HN.out]; rfl, HB1.out⟩
    · go_wp2
      go_ret2
      exact ⟨by rw [HN.out]; rfl, HB1.out⟩
  · go_enter Try.func16, Try.ntmps16
    go_wp2_with (go_at_call 31; (with_reducible refine (HP.out _ HS.out).mono ?_); rintro e w1 ⟨k, bb, rfl, hp, hb⟩; have HPL := Lib.hid hp; have HB1 := Lib.hid (HB.out.trans (hb.mono HB.out.size)); have hT1 := HT.out.below hb; have HS1 := Lib.hid (HS.out.below hb); have c0 := hT1.c0; have c1 := hT1.c1; clear hp hb hT1; cases bb; rotate_left; obtain ⟨e, he, hs⟩ := plc_there HPL.out; have HN := Lib.hid (until_some hu he hs); have hk := (List.getElem?_eq_some_iff.1 he).1; obtain ⟨a, b, o, c, hv, hlc, _, ha0, ha, hcx⟩ := HS1.out.get; cases hv; obtain rfl := ha.resolve_left (fun h' => by have := ha0 h'; omega); obtain ⟨e0, e1, e2⟩ := at3 hcx he; clear hcx ha0 ha he hs; rotate_right)
    · have HN : Hid (untilR x.q x.id l = none) := until_none (by cases HPL.out; assumption)
      go_wp2
      go_ret2
      exact ⟨by rw [HN.out]; rfl, HB1.out⟩
    · go_wp2
      go_ret2
      exact ⟨by rw [HN.out]; rfl, HB1.out⟩
end Go.Proofs.Ytpgaepilnbjhbaa
