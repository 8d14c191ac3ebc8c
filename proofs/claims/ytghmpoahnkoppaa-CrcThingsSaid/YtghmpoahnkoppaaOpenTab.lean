/- A table that is handed in by value is 256 numbers of 32 bits. -/
import Derived.Test.YtghmpoahnkoppaaMake
import Derived.ProofKit
import Derived.OpenShut
namespace Go.Proofs.Ytghmpoahnkoppaa
open Go.ChangeShapes Go.WideShapes Go.ChangeAt Go.RowKit
theorem cells25 : Try.prog.cellsOf 25 = 256 := by kernel_rfl
theorem cells22 : Try.prog.cellsOf 22 = 1 := by kernel_rfl
def numOf (cs : Array Value) (i : Nat) : Nat := match cs[i]? with
  | some (.int _ n) => n.toNat
  | _ => 0
theorem open_tab {H : Type} {enc : TypeId × Value → H} {W W' : World} {r : Reach} {b0 b1 : Nat} {sp : Nat → Bool} {held : Bool} {v : Value} {d : DataW H} {p : List MemPlace}
    (hv : Value.okWide Try.prog W r b0 25 v) (h : DataW.Trod enc Try.prog W' b1 sp held 25 v d p) :
    ∃ T : Nat → Nat, (∀ i, i < 256 → T i < 4294967296) ∧ v = .agg (tab T) := by
  unfold Value.okWide at hv
  rw [Try.underlying25] at hv
  obtain ⟨cs, rfl, hsz, _⟩ := hv
  rw [cells25] at hsz
  obtain ⟨fuel, hf⟩ := h
  obtain ⟨xs, m, rfl, _, _, hxs, hget⟩ := DataW.trod_array Try.underlying25 hf
  have hall : ∀ i, i < 256 → ∃ n : Nat, n < 4294967296 ∧ cs[i]? = some (.int .u32 n) := by
    intro i hi
    have hg := hget i hi
    rw [cells22, Nat.mul_one] at hg
    have hx : i < xs.length := by omega
    rw [List.getElem?_eq_getElem hx] at hg
    obtain ⟨a, e0, _, wa⟩ := DataW.trod_int Try.underlying22 hg
    have hc : (Value.agg cs).cells = cs := rfl
    have hi' : i < cs.size := by omega
    rw [hc] at e0
    have e1 : ((cs.toList.drop i).take 1)[0]? = some (.int .u32 a) := by rw [e0]; rfl
    have e2 : cs[i]? = some (.int .u32 a) := by
      simpa [List.getElem?_take, List.getElem?_drop] using e1
    have hb := bounds_u32 wa
    refine ⟨a.toNat, by omega, ?_⟩
    rw [e2, Int.toNat_of_nonneg hb.1]
  refine ⟨numOf cs, fun i hi => ?_, ?_⟩
  · obtain ⟨n, hn, he⟩ := hall i hi
    unfold numOf
    rw [he]
    simpa using hn
  · congr 1
    apply Array.ext_getElem?
    intro i
    by_cases hi : i < 256
    · obtain ⟨n, hn, he⟩ := hall i hi
      rw [tab_get _ hi, he]
      unfold numOf
      rw [he]
      simp
    · rw [Array.getElem?_eq_none (by omega), Array.getElem?_eq_none (by rw [tab_size]; omega)]
end Go.Proofs.Ytghmpoahnkoppaa
