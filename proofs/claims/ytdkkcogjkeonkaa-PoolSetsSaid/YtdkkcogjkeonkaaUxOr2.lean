/- The library's choice of a pivot: any place of the part, some hint. -/
import Derived.Test.YtdkkcogjkeonkaaUxPr
set_option maxRecDepth 100000
set_option maxHeartbeats 4000000
set_option linter.unusedVariables false
namespace Go.Proofs.Ytdkkcogjkeonkaa
open Go.RowKit
open Go.Sort (swp PermIn SortedIn)
variable {sz cap B g : Nat} {w W W' : World} {d : Array Nat} {sb s : Nat}
/-- A counter's block. -/
def CB (sb s : Nat) (W : World) : Prop := W.heap[sb]? = some (.cells #[.int .i64 s] 3 (0, 0))
theorem CB.cell (h : CB sb s W) : W.cell? ⟨sb, 0, none⟩ = some (.int .i64 s) ∧ W.frozen? ⟨sb, 0, none⟩ = false := by
  unfold CB at h
  exact ⟨by simp [World.cell?, h], by simp [World.frozen?, h]⟩
theorem CB.drewN (h : CB sb s W) (q : Nat) : CB sb s (W.drewN q) := h
theorem CB.set (h : CB sb s W) (t : Nat) : CB sb t (W.setCell ⟨sb, 0, none⟩ (.int .i64 t)) := by
  unfold CB at h ⊢
  rw [heap_set h]
  rfl
theorem ord2_any (h : PR sz cap B g w d W) (hc : CB sb s W) (hg : g < sb) (hs : s ≤ 1000) (hsz : sz ≤ 1000) (a b : Nat) (ha : a < sz) (hb : b < sz) :
    Calls Try.prog 66 #[.slice (some ⟨g, 0, none⟩) sz cap, .int .i64 a, .int .i64 b, .pointer (some ⟨sb, 0, none⟩)] W fun e W' => ∃ p q s' : Nat, e = .returned (.tuple #[.int .i64 p, .int .i64 q]) ∧ ((p = a ∧ q = b) ∨ (p = b ∧ q = a)) ∧ s' ≤ s + 1 ∧ CB sb s' W' ∧ Below sb W W' := by
  have HC := Lib.hid hc
  obtain ⟨G, hG⟩ : ∃ G : Nat → Nat, ∀ t, G t = d[t]! := ⟨fun t => d[t]!, fun _ => rfl⟩
  have ca : W.cell? ⟨g, a, none⟩ = some (.int .u32 (G a)) := by rw [hG]; exact (h.cell a ha).1
  have cb : W.cell? ⟨g, b, none⟩ = some (.int .u32 (G b)) := by rw [hG]; exact (h.cell b hb).1
  have cs := hc.cell.1
  have fs := hc.cell.2
  have ha0 : (a : Int) < (sz : Int) := by omega
  have hb0 : (b : Int) < (sz : Int) := by omega
  clear hG h hc
  go_enter Try.func66, Try.ntmps66
  go_wp2_with fail
  go_quiet (first | (go_at_call 52; refine Calls.quiet_of_same ((cLess_any _ _ _).mono fun _ _ h => ⟨h.1, h.2.symm⟩)))
  go_wp2
  · go_ret2
    refine ⟨b, a, s + 1, rfl, .inr ⟨rfl, rfl⟩, Nat.le_refl _, ?_, ?_⟩
    · exact (HC.out.drewN nq).set (s + 1)
    · exact (below_drewV (Below.refl _ W) nq).setCell (p := ⟨sb, 0, none⟩) (Nat.le_refl _) _
  · go_ret2
    exact ⟨a, b, s, rfl, .inl ⟨rfl, rfl⟩, by omega, HC.out, below_drewV (Below.refl _ W) nq⟩
end Go.Proofs.Ytdkkcogjkeonkaa
