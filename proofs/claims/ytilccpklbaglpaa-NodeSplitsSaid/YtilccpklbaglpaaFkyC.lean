/- The contract of a node's first key. -/
import Derived.Test.YtilccpklbaglpaaNd
import Derived.Test.YtilccpklbaglpaaClnC
import Derived.Test.YtilccpklbaglpaaSteps
set_option maxRecDepth 100000
set_option maxHeartbeats 4000000
set_option linter.unusedVariables false
namespace Go.Proofs.Ytilccpklbaglpaa
open Go.RowKit
open Sl (Cl Kd Nd Rn)
theorem firstKeyC_any (v : Value) (l : List Cl) (w : World) (hv : SlC w v l) :
    Calls Try.prog 57 #[shpC, v] w fun e w' => e = .returned (.string (str (Sl.fkey Sl.shC l))) ∧ Below w.heap.size w w' := by
  obtain ⟨a, b, o, c, rfl, ha, hx⟩ := hv
  unfold shpC
  cases l with
  | nil =>
    go_enter Try.func57, Try.ntmps57
    go_wp2
    go_ret
    exact ⟨rfl, (Below.refl _ _).alloc (Nat.le_refl _) _⟩
  | cons x t =>
    obtain ⟨e0, e1, e2, e3⟩ := hx 0 x rfl
    rw [Nat.zero_mul, Nat.add_zero] at e0 e1 e2 e3
    obtain rfl : a = some ⟨b, o, none⟩ := by
      rcases ha with h | h
      · cases h
      · exact h
    have HK := Lib.hid (fun W => keyC_any x W)
    have hblt : b < w.heap.size := World.block_lt_of_cell? _ _ e0
    have HA := Lib.hid (fun o1 => (Below.refl w.heap.size w).alloc (Nat.le_refl _) o1)
    have HB0 := Lib.hid (BxC.new w)
    have hF : Hid ((w.alloc (.cells #[.func (.func 73) #[] #[], .func (.func 74) #[] #[], .func (.func 75) #[] #[], .func (.func 76) #[] #[]] 97)).drew.cell? ⟨w.heap.size, 0, none⟩ = some (.func (.func 73) #[] #[]) ∧ (w.alloc (.cells #[.func (.func 73) #[] #[], .func (.func 74) #[] #[], .func (.func 75) #[] #[], .func (.func 76) #[] #[]] 97)).drew.cell? ⟨w.heap.size, 1, none⟩ = some (.func (.func 74) #[] #[]) ∧ (w.alloc (.cells #[.func (.func 73) #[] #[], .func (.func 74) #[] #[], .func (.func 75) #[] #[], .func (.func 76) #[] #[]] 97)).drew.cell? ⟨w.heap.size, 2, none⟩ = some (.func (.func 75) #[] #[]) ∧ (w.alloc (.cells #[.func (.func 73) #[] #[], .func (.func 74) #[] #[], .func (.func 75) #[] #[], .func (.func 76) #[] #[]] 97)).drew.cell? ⟨w.heap.size, 3, none⟩ = some (.func (.func 76) #[] #[]) ∧ (w.alloc (.cells #[.func (.func 73) #[] #[], .func (.func 74) #[] #[], .func (.func 75) #[] #[], .func (.func 76) #[] #[]] 97)).drew.cell? ⟨b, o, none⟩ = some (.string (str x.key)) ∧ (w.alloc (.cells #[.func (.func 73) #[] #[], .func (.func 74) #[] #[], .func (.func 75) #[] #[], .func (.func 76) #[] #[]] 97)).drew.cell? ⟨b, o + 1, none⟩ = some (.string (str x.val)) ∧ (w.alloc (.cells #[.func (.func 73) #[] #[], .func (.func 74) #[] #[], .func (.func 75) #[] #[], .func (.func 76) #[] #[]] 97)).drew.cell? ⟨b, o + 2, none⟩ = some (.int .u32 x.chain) ∧ (w.alloc (.cells #[.func (.func 73) #[] #[], .func (.func 74) #[] #[], .func (.func 75) #[] #[], .func (.func 76) #[] #[]] 97)).drew.cell? ⟨b, o + 3, none⟩ = some (.int .u32 x.long) ∧ Below w.heap.size w (w.alloc (.cells #[.func (.func 73) #[] #[], .func (.func 74) #[] #[], .func (.func 75) #[] #[], .func (.func 76) #[] #[]] 97)).drew) := ⟨HB0.out.c0, HB0.out.c1, HB0.out.c2, HB0.out.c3, ((HA.out _).cell (p := ⟨b, o + 0, none⟩) hblt).trans e0, ((HA.out _).cell (p := ⟨b, o + 1, none⟩) hblt).trans e1, ((HA.out _).cell (p := ⟨b, o + 2, none⟩) hblt).trans e2, ((HA.out _).cell (p := ⟨b, o + 3, none⟩) hblt).trans e3, (HA.out _).drew⟩
    have hlen : (0 : Int) < ((x :: t).length : Int) := by simp
    unfold aggC at HK
    clear e0 e1 e2 e3 hx HA HB0
    go_enter Try.func57, Try.ntmps57
    go_wp2_with fail
    go_region_held3 (fun w' => w'.cell? ⟨w.heap.size, 0, none⟩ = some (.func (.func 73) #[] #[]) ∧ w'.cell? ⟨w.heap.size, 1, none⟩ = some (.func (.func 74) #[] #[]) ∧ w'.cell? ⟨w.heap.size, 2, none⟩ = some (.func (.func 75) #[] #[]) ∧ w'.cell? ⟨w.heap.size, 3, none⟩ = some (.func (.func 76) #[] #[]) ∧ w'.cell? ⟨b, o, none⟩ = some (.string (str x.key)) ∧ w'.cell? ⟨b, o + 1, none⟩ = some (.string (str x.val)) ∧ w'.cell? ⟨b, o + 2, none⟩ = some (.int .u32 x.chain) ∧ w'.cell? ⟨b, o + 3, none⟩ = some (.int .u32 x.long) ∧ Below w.heap.size w w')
      ((first | assumption | exact step8 (Nat.le_refl _) ‹_› hb | exact hF.out))
      (first
      | (go_at_call 75; refine (HK.out _).mono ?_; rintro e w4 ⟨rfl, hb⟩))
    rename_i hS
    have HB4 := Lib.hid (last8 hS)
    clear hS
    go_wp2
    go_ret
    exact ⟨rfl, HB4.out⟩
end Go.Proofs.Ytilccpklbaglpaa
