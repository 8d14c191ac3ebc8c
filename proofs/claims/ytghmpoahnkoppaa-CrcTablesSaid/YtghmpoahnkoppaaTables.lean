/- The law CrcTables: another table is gone by as it is. -/
import Derived.Test.YtghmpoahnkoppaaAwake
import Derived.Deep.RegionWith
namespace Go.Proofs.Ytghmpoahnkoppaa
open Go.RowKit
theorem loadAt_row (T : Nat → Nat) (g : Nat) (w : World) (hg : w.heap[g]? = some (.cells (tab T) 25 (0, 0))) :
    (Instr.loadAt 25 (.pointer (some ⟨g, 0, none⟩))).run Try.prog w = .ok (.agg (tab T)) w := by
  simp only [Instr.loadAt, Instr.sureAddr, Sem.run_bind, Sem.run_pure, Result.andThen_ok, run_loadVar_row w g 25 25 (tab T) (0, 0) _ hg Try.underlying25 rfl (by rw [tab_size]; exact info25)]
/-- The load of a whole table, under a name that the walk does not open. -/
def loadTab (x : Value) : Sem Value := Instr.loadAt 25 x
theorem loadTab_eq (x : Value) : Instr.loadAt 25 x = loadTab x := rfl
attribute [local go_sem ↓] loadTab_eq
set_option maxHeartbeats 400000 in
theorem tables_walk (T : Nat → Nat) (hT : ∀ i, i < 256 → T i < 4294967296) (sum : Nat) (hs : sum < 4294967296) (s : ByteArray) (hl : s.size ≤ maxLen) (w : World) :
    Calls Try.prog 4 #[.agg (tab T), .int .u32 sum, .string s] w fun e w' => e = .returned (.bool true) ∧ Below w.heap.size w w' := by
  have HT := Lib.hid hT
  have HL := Lib.hid hl
  clear hT
  unfold maxLen at hl
  have HN : tab T ≠ #[] := fun h => by have := tab_size T; rw [h] at this; cases this
  by_cases hlen : (s.size : Int) > 5000
  · go_enter Try.func4, Try.ntmps4
    go_wp2_with (go_at_call 8; refine (awake_any _).mono ?_; rintro e w1 ⟨rfl, hb⟩)
    go_ret
    exact ⟨rfl, ((Below.refl _ _).alloc (Nat.le_refl _) _).trans (hb.mono (by simp))⟩
  · go_enter Try.func4, Try.ntmps4
    go_wp2_with (go_at_call 8; refine (awake_any _).mono ?_; rintro e w1 ⟨rfl, hb⟩)
    have hg : w1.heap[w.heap.size]? = some (.cells (tab T) 25 (0, 0)) := by
      rw [hb.block _ (by simp)]; exact heap_alloc_new _ _
    have HG := Lib.hid hg
    have hB : Below w.heap.size w w1 := ((Below.refl _ _).alloc (Nat.le_refl _) _).trans (hb.mono (by simp))
    clear hg hb
    revert HG hB
    generalize hb0 : w.heap.size = g
    have HB := Lib.hid hb0
    clear hb0
    intro HG hB
    have HL0 : (loadTab (.pointer (some ⟨g, 0, none⟩))).run Try.prog w1.drew = .ok (.agg (tab T)) w1.drew := loadAt_row T g w1.drew HG.out
    have HLn : ∀ n, (loadTab (.pointer (some ⟨g, 0, none⟩))).run Try.prog (w1.drewN n) = .ok (.agg (tab T)) (w1.drewN n) := fun n => loadAt_row T g (w1.drewN n) HG.out
    go_region_with (first
      | (go_at_call 12; refine (add_at T HT.out g 25 (0, 0) sum hs s HL.out _ (by exact HG.out)).mono ?_; rintro e w2 ⟨rfl, n, rfl⟩)
      | (go_at_call 15; refine (through_any T HT.out sum hs s HL.out _).mono ?_; rintro e w3 ⟨rfl, hb3⟩))
    all_goals
      go_wp2
      go_ret
      exact ⟨rfl, by rw [HB.out]; exact (below_drewN hB _).trans (hb3.mono (by rw [← HB.out]; exact hB.size))⟩
end Go.Proofs.Ytghmpoahnkoppaa
