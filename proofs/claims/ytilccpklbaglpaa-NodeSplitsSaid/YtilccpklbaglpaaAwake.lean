/- The contracts of the laws' own example, and of whether cells are few. -/
import Derived.Test.YtilccpklbaglpaaRows2
set_option maxRecDepth 100000
set_option maxHeartbeats 4000000
set_option linter.unusedVariables false
namespace Go.Proofs.Ytilccpklbaglpaa
open Go.RowKit
open Sl (Cl Kd)
def exC : Cl := ⟨[97], [104, 105], 0, 0⟩
theorem exBody : Sl.bodyR Sl.shC [exC] = ([0, 2, 1, 97, 0, 0, 2, 104, 105], 0) := by decide +kernel
theorem sizeEx (w : World) :
    Calls Try.prog 93 #[shpC, .agg #[.string ⟨#[97]⟩, .string ⟨#[104, 105]⟩, .int .u32 0, .int .u32 0]] w fun e w' => e = .returned (.int .i64 9) ∧ Below w.heap.size w w' :=
  sizeC_any exC ⟨by decide, by decide⟩ w
theorem slEx (W : World) : SlC (W.alloc (.cells #[.string ⟨#[97]⟩, .string ⟨#[104, 105]⟩, .int .u32 0, .int .u32 0] 42)) (.slice (some ⟨W.heap.size, 0, none⟩) 1 1) [exC] := by
  refine ⟨_, W.heap.size, 0, 1, rfl, .inr rfl, fun j x hj => ?_⟩
  obtain rfl : j = 0 := by
    have := (List.getElem?_eq_some_iff.1 hj).1
    simp at this; exact this
  simp at hj
  subst hj
  refine ⟨?_, ?_, ?_, ?_⟩
  · exact (World.cell?_alloc_new W #[.string ⟨#[97]⟩, .string ⟨#[104, 105]⟩, .int .u32 0, .int .u32 0] 42 0)
  · exact (World.cell?_alloc_new W #[.string ⟨#[97]⟩, .string ⟨#[104, 105]⟩, .int .u32 0, .int .u32 0] 42 1)
  · exact (World.cell?_alloc_new W #[.string ⟨#[97]⟩, .string ⟨#[104, 105]⟩, .int .u32 0, .int .u32 0] 42 2)
  · exact (World.cell?_alloc_new W #[.string ⟨#[97]⟩, .string ⟨#[104, 105]⟩, .int .u32 0, .int .u32 0] 42 3)
theorem slEx2 (w : World) (o : Obj) : SlC ((w.alloc o).alloc (.cells #[.string ⟨#[97]⟩, .string ⟨#[104, 105]⟩, .int .u32 0, .int .u32 0] 42)) (.slice (some ⟨w.heap.size + 1, 0, none⟩) 1 1) [exC] := by
  have := slEx (w.alloc o)
  rwa [show (w.alloc o).heap.size = w.heap.size + 1 by simp] at this
def FewOk (l : List Cl) : Prop := l.length ≤ 400 ∧ ∀ x ∈ l, x.key.length ≤ 300 ∧ x.val.length ≤ 500
inductive FewOut (l : List Cl) (w : World) (e : Ending) (w' : World) : Prop
  | yes (he : e = .returned (.bool true)) (hx : FewOk l) (hb : Below w.heap.size w w')
  | no (he : e = .returned (.bool false)) (hb : Below w.heap.size w w')
set_option maxHeartbeats 2000000 in
set_option maxRecDepth 100000 in
theorem few_any (v : Value) (l : List Cl) (hll : l.length ≤ maxLen) (w : World) (hv : SlC w v l) :
    Calls Try.prog 13 #[v] w (FewOut l w) := by
  unfold maxLen at hll
  obtain ⟨a, b, o, c, rfl, ha, hx⟩ := hv
  have HX := Lib.hid hx
  have HA := Lib.hid ha
  clear ha hx
  go_enter Try.func13, Try.ntmps13
  go_wp2
  go_loopg [7] l.length (fun n i wr => ∃ k : Nat, k ≤ l.length ∧ n = l.length - k ∧ i = .int .i64 k ∧ Hid (∀ (j : Nat) (x : Cl), j < k → l[j]? = some x → l.length ≤ 400 ∧ x.key.length ≤ 300 ∧ x.val.length ≤ 500) ∧ Hid (Below w.heap.size w wr))
  case atStart => exact ⟨0, Nat.zero_le _, rfl, rfl, fun j x hj => absurd hj (Nat.not_lt_zero j), Below.refl _ _⟩
  case round =>
    obtain ⟨k, hk, rfl, rfl, HM, HB⟩ := hrel
    by_cases hlt : k < l.length
    · obtain ⟨x, hx⟩ := take_some l k hlt
      have HXK := Lib.hid hx
      obtain ⟨e0, e1, e2, e3⟩ := HX.out k x hx
      have hblt : b < w.heap.size := World.block_lt_of_cell? _ _ e0
      have d0 := (HB.out.cell (p := ⟨b, o + k * 4, none⟩) hblt).trans e0
      have d1 := (HB.out.cell (p := ⟨b, o + k * 4 + 1, none⟩) hblt).trans e1
      have d2 := (HB.out.cell (p := ⟨b, o + k * 4 + 2, none⟩) hblt).trans e2
      have d3 := (HB.out.cell (p := ⟨b, o + k * 4 + 3, none⟩) hblt).trans e3
      obtain rfl : a = some ⟨b, o, none⟩ := by
        rcases HA.out with h | h
        · rw [h] at hlt; cases hlt
        · exact h
      have HBa : Hid (Below w.heap.size w (wr.alloc (.cells #[.string (str x.key), .string (str x.val), .int .u32 x.chain, .int .u32 x.long] 42))) := HB.out.alloc HB.out.size _
      have hs1 := str_size x.key
      have hs2 := str_size x.val
      clear e0 e1 e2 e3 hx
      by_cases h1 : (400 : Int) < l.length
      · go_wp2
        go_ret
        exact .no rfl HBa.out
      · by_cases h2 : (300 : Int) < x.key.length
        · go_wp2
          go_ret
          exact .no rfl HBa.out
        · by_cases h3 : (500 : Int) < x.val.length
          · go_wp2
            go_ret
            exact .no rfl HBa.out
          · have HN : Hid (∀ (j : Nat) (y : Cl), j < k + 1 → l[j]? = some y → l.length ≤ 400 ∧ y.key.length ≤ 300 ∧ y.val.length ≤ 500) := by
              intro j y hj hy
              by_cases hjk : j < k
              · exact HM.out j y hjk hy
              · obtain rfl : j = k := by omega
                rw [HXK.out] at hy
                cases hy
                exact ⟨by omega, by omega, by omega⟩
            go_wp2
            go_roundg (l.length - (k + 1))
            case measure => omega
            case rel => exact ⟨k + 1, by omega, rfl, by go_num, HN, HBa⟩
    · obtain rfl : k = l.length := by omega
      have HF : Hid (FewOk l) := by
        refine ⟨?_, fun x hx => ?_⟩
        · cases hl : l with
          | nil => decide
          | cons y t => rw [← hl]; exact (HM.out 0 y (by rw [hl]; simp) (by rw [hl]; rfl)).1
        · obtain ⟨j, hj⟩ := List.getElem?_of_mem hx
          exact (HM.out j x (List.getElem?_eq_some_iff.1 hj).1 hj).2
      go_wp2
      go_ret
      exact .yes rfl HF.out HB.out
end Go.Proofs.Ytilccpklbaglpaa
