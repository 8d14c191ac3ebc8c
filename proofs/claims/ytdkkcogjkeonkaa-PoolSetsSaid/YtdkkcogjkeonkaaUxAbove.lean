/- A set of numbers: what stands above a number. -/
import Derived.Test.YtdkkcogjkeonkaaUxSet
set_option maxRecDepth 100000
set_option maxHeartbeats 4000000
set_option linter.unusedVariables false
namespace Go.Proofs.Ytdkkcogjkeonkaa
open Go.RowKit Go.Sort
open Tx (Rise Ord above)
theorem uxAbove_any {w : World} {p B : Nat} {v : Value} {l : List Nat} (h : SetV w p B v l) (hl : l.length ≤ 100000) (x : Nat) :
    Calls Try.prog 32 #[.pointer (some ⟨p, 0, none⟩), .int .u32 x] w fun e w' => e = .returned (.tuple #[.int .u32 (fstV (above vlt l x)).1, .bool (fstV (above vlt l x)).2]) ∧ ∃ q, w' = w.drewN q := by
  have HP := Lib.hid (uxPlace_any h hl x)
  have HA := Lib.hid (fun (q k : Nat) => uxAt_any (h.drewN q) k)
  have HRI := Lib.hid h.rise
  clear h
  obtain ⟨r, hr⟩ : ∃ r, r = fstV (above vlt l x) := ⟨_, rfl⟩
  rw [← hr]
  have HR := Lib.hid hr
  clear hr
  go_enter Try.func32, Try.ntmps32
  go_upto_region 2 with (go_at_call 27; refine HP.out.mono ?_; rintro e w1 ⟨k, rfl, hat, q, rfl⟩; have HAT := Lib.hid hat; clear hat)
  have hk := HAT.out.le
  by_cases hx : l[k]? = some x
  · rw [decide_eq_true hx]
    have HE : Hid (atV l ((k + 1 : Nat) : Int) = fstV (above vlt l x)) := by
      show _ = _
      rw [fstV_drop, HAT.out.drop_above1 vord HRI.out hx]
    have HA2 := Lib.hid (HA.out q (k + 1))
    rw [HE.out, ← HR.out] at HA2
    clear hx HE
    go_wp2_with (go_at_call 30; refine HA2.out.mono ?_; rintro e w1 ⟨rfl, rfl⟩)
    go_ret2
    exact ⟨rfl, q, rfl⟩
  · rw [decide_eq_false hx]
    have HE : Hid (atV l (k : Int) = fstV (above vlt l x)) := by
      show _ = _
      rw [fstV_drop, HAT.out.drop_above vord HRI.out hx]
    have HA2 := Lib.hid (HA.out q k)
    rw [HE.out, ← HR.out] at HA2
    clear hx HE
    go_wp2_with (go_at_call 30; refine HA2.out.mono ?_; rintro e w1 ⟨rfl, rfl⟩)
    go_ret2
    exact ⟨rfl, q, rfl⟩
end Go.Proofs.Ytdkkcogjkeonkaa
