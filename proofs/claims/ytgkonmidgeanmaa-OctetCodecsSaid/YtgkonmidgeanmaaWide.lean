/- The walk of OctetCodecs over texts as they are handed in. -/
import Derived.Test.YtgkonmidgeanmaaLaw
namespace Go.Proofs.Ytgkonmidgeanmaa
open Go.RowKit
theorem codecs_texts (A1 : Option Addr) (b1 o1 c1 : Nat) (ys : List Nat) (hA1 : ys = [] ∨ A1 = some ⟨b1, o1, none⟩) (A2 : Option Addr) (b2 o2 c2 : Nat) (xs : List ByteArray) (hA2 : xs = [] ∨ A2 = some ⟨b2, o2, none⟩)
    (s : ByteArray) (most : Int) (hm : most < 9223372036854775808) (hyl : ys.length ≤ maxLen) (w : World)
    (hy : ∀ (j : Nat) y, ys[j]? = some y → w.cell? ⟨b1, o1 + j, none⟩ = some (.int .u16 (y : Nat)) ∧ y < 65536)
    (hx : ∀ (j : Nat) x, xs[j]? = some x → w.cell? ⟨b2, o2 + j, none⟩ = some (.string x) ∧ x.size ≤ maxLen) :
    Calls Try.prog 5 #[.slice A1 ys.length c1, .slice A2 xs.length c2, .string s, .int .i64 most] w fun e w' => e = .returned (.bool true) ∧ Below w.heap.size w w' := by
  have := codecs_walk A1 b1 o1 c1 ys hA1 A2 b2 o2 c2 (xs.map fun x => x.data.toList) (hA2.imp (fun h => by rw [h]; rfl) id) s most hm hyl w hy ?_
  · rwa [List.length_map] at this
  · intro j x hj
    rw [List.getElem?_map] at hj
    obtain ⟨y, hy', rfl⟩ := Option.map_eq_some_iff.1 hj
    obtain ⟨h1, h2⟩ := hx j y hy'
    refine ⟨?_, by simpa using h2⟩
    rw [h1, str_eq]
end Go.Proofs.Ytgkonmidgeanmaa
