/- The contract of a node's first key. -/
import Derived.Test.YtilccpklbaglpaaNd
import Derived.Test.YtilccpklbaglpaaClnK
import Derived.Test.YtilccpklbaglpaaSteps
set_option maxRecDepth 100000
set_option maxHeartbeats 4000000
set_option linter.unusedVariables false
namespace Go.Proofs.Ytilccpklbaglpaa
open Go.RowKit
open Sl (Cl Kd Nd Rn)
theorem firstKeyK_any (v : Value) (l : List Kd) (w : World) (hv : SlK w v l) :
    Calls Try.prog 59 #[shpK, v] w fun e w' => e = .returned (.string (str (Sl.fkey Sl.shK l))) ∧ Below w.heap.size w w' := by
  obtain ⟨a, b, o, c, rfl, ha, hx⟩ := hv
  unfold shpK
  cases l with
  | nil =>
    go_enter Try.func59, Try.ntmps59
    go_wp2
    go_ret
    exact ⟨rfl, (Below.refl _ _).alloc (Nat.le_refl _) _⟩
  | cons x t =>
    obtain ⟨e0, e1⟩ := hx 0 x rfl
    rw [Nat.zero_mul, Nat.add_zero] at e0 e1
    obtain rfl : a = some ⟨b, o, none⟩ := by
      rcases ha with h | h
      · cases h
      · exact h
    have HK := Lib.hid (fun W => keyK_any x W)
    have hblt : b < w.heap.size := World.block_lt_of_cell? _ _ e0
    have HA := Lib.hid (fun o1 => (Below.refl w.heap.size w).alloc (Nat.le_refl _) o1)
    have HB0 := Lib.hid (BxK.new w)
    have hF : Hid ((w.alloc (.cells #[.func (.func 87) #[] #[], .func (.func 89) #[] #[], .func (.func 90) #[] #[], .nilFunc] 111)).drew.cell? ⟨w.heap.size, 0, none⟩ = some (.func (.func 87) #[] #[]) ∧ (w.alloc (.cells #[.func (.func 87) #[] #[], .func (.func 89) #[] #[], .func (.func 90) #[] #[], .nilFunc] 111)).drew.cell? ⟨w.heap.size, 1, none⟩ = some (.func (.func 89) #[] #[]) ∧ (w.alloc (.cells #[.func (.func 87) #[] #[], .func (.func 89) #[] #[], .func (.func 90) #[] #[], .nilFunc] 111)).drew.cell? ⟨w.heap.size, 2, none⟩ = some (.func (.func 90) #[] #[]) ∧ (w.alloc (.cells #[.func (.func 87) #[] #[], .func (.func 89) #[] #[], .func (.func 90) #[] #[], .nilFunc] 111)).drew.cell? ⟨w.heap.size, 3, none⟩ = some (.nilFunc) ∧ (w.alloc (.cells #[.func (.func 87) #[] #[], .func (.func 89) #[] #[], .func (.func 90) #[] #[], .nilFunc] 111)).drew.cell? ⟨b, o, none⟩ = some (.string (str x.key)) ∧ (w.alloc (.cells #[.func (.func 87) #[] #[], .func (.func 89) #[] #[], .func (.func 90) #[] #[], .nilFunc] 111)).drew.cell? ⟨b, o + 1, none⟩ = some (.int .u32 x.page) ∧ Below w.heap.size w (w.alloc (.cells #[.func (.func 87) #[] #[], .func (.func 89) #[] #[], .func (.func 90) #[] #[], .nilFunc] 111)).drew) := ⟨HB0.out.c0, HB0.out.c1, HB0.out.c2, HB0.out.c3, ((HA.out _).cell (p := ⟨b, o + 0, none⟩) hblt).trans e0, ((HA.out _).cell (p := ⟨b, o + 1, none⟩) hblt).trans e1, (HA.out _).drew⟩
    have hlen : (0 : Int) < ((x :: t).length : Int) := by simp
    unfold aggK at HK
    clear e0 e1 hx HA HB0
    go_enter Try.func59, Try.ntmps59
    go_wp2_with fail
    go_region_held3 (fun w' => w'.cell? ⟨w.heap.size, 0, none⟩ = some (.func (.func 87) #[] #[]) ∧ w'.cell? ⟨w.heap.size, 1, none⟩ = some (.func (.func 89) #[] #[]) ∧ w'.cell? ⟨w.heap.size, 2, none⟩ = some (.func (.func 90) #[] #[]) ∧ w'.cell? ⟨w.heap.size, 3, none⟩ = some (.nilFunc) ∧ w'.cell? ⟨b, o, none⟩ = some (.string (str x.key)) ∧ w'.cell? ⟨b, o + 1, none⟩ = some (.int .u32 x.page) ∧ Below w.heap.size w w')
      ((first | assumption | exact step6 (Nat.le_refl _) ‹_› hb | exact hF.out))
      (first
      | (go_at_call 90; refine (HK.out _).mono ?_; rintro e w4 ⟨rfl, hb⟩))
    rename_i hS
    have HB4 := Lib.hid (last6 hS)
    clear hS
    go_wp2
    go_ret
    exact ⟨rfl, HB4.out⟩
end Go.Proofs.Ytilccpklbaglpaa
