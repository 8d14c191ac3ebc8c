/- The library's breaking of patterns: some permutation. -/
import Derived.Test.YtdkkcogjkeonkaaUxPartE
import Derived.OpenShut
import Derived.Laws.Bits64
import Derived.Laws.BitsAllLaws
import Derived.Sort.WalkA14
set_option maxRecDepth 100000
set_option maxHeartbeats 4000000
set_option linter.unusedVariables false
namespace Go.Proofs.Ytdkkcogjkeonkaa
open Go.RowKit
open Go.Sort (swp PermIn SortedIn)
variable {sz cap B g : Nat} {w W W' : World} {d : Array Nat}
theorem bitsN (op : BinOp) (x y : Int) : ∃ Y : Nat, bits op .u64 x y = (Y : Int) ∧ Y < 18446744073709551616 := by
  have h := wf_bits op .u64 x y
  simp [Lit.wf, IntKind.min, IntKind.max, IntKind.signed, IntKind.bits] at h
  exact ⟨(bits op .u64 x y).toNat, by omega, by omega⟩
/-- A generator's block. -/
def XB (rb X : Nat) (W : World) : Prop := W.heap[rb]? = some (.cells #[.int .u64 X] 80 (0, 0))
theorem XB.cell {rb X : Nat} (h : XB rb X W) : W.cell? ⟨rb, 0, none⟩ = some (.int .u64 X) ∧ W.frozen? ⟨rb, 0, none⟩ = false := by
  unfold XB at h
  exact ⟨by simp [World.cell?, h], by simp [World.frozen?, h]⟩
theorem XB.drewN {rb X : Nat} (h : XB rb X W) (q : Nat) : XB rb X (W.drewN q) := h
theorem XB.set {rb X : Nat} (h : XB rb X W) (t : Nat) : XB rb t (W.setCell ⟨rb, 0, none⟩ (.int .u64 t)) := by
  unfold XB at h ⊢
  rw [heap_set h]
  rfl
theorem XB.setO {rb X g t : Nat} {v : Value} (h : XB rb X W) (hg : g < rb) : XB rb X (W.setCell ⟨g, t, none⟩ v) := by
  unfold XB at h ⊢
  have hk : rb ≠ g := by omega
  rw [Below.heap_setCell _ _ _ _ hk]; exact h
theorem xnext_any {rb X : Nat} (h : XB rb X W) (hX : X < 18446744073709551616) :
    Calls Try.prog 62 #[.pointer (some ⟨rb, 0, none⟩)] W fun e W' => ∃ Y : Nat, Y < 18446744073709551616 ∧ e = .returned (.int .u64 Y) ∧ XB rb Y W' ∧ Below rb W W' := by
  have HX := Lib.hid h
  have c := h.cell.1
  have f := h.cell.2
  clear h
  go_enter Try.func62, Try.ntmps62
  go_wp2
  go_region
  go_wp2
  obtain ⟨Y1, e1, l1⟩ := bitsN .xor (X : Int) (IntKind.u64.wrap ((X : Int) * 8192))
  rw [e1]
  have H1 : Hid (XB rb Y1 (W.setCell ⟨rb, 0, none⟩ (.int .u64 Y1)).drew) := (HX.out.set Y1).drewN 1
  have B1 : Hid (Below rb W (W.setCell ⟨rb, 0, none⟩ (.int .u64 Y1)).drew) := below_drewV ((Below.refl _ W).setCell (p := ⟨rb, 0, none⟩) (Nat.le_refl _) _) 1
  revert H1 B1
  generalize (W.setCell ⟨rb, 0, none⟩ (.int .u64 Y1)).drew = W1
  intro H1 B1
  clear e1 c f
  have c := H1.out.cell.1
  have f := H1.out.cell.2
  go_region
  go_wp2
  obtain ⟨Y2, e2, l2⟩ := bitsN .xor (Y1 : Int) ((Y1 : Int) / 128)
  rw [e2]
  have H2 : Hid (XB rb Y2 (W1.setCell ⟨rb, 0, none⟩ (.int .u64 Y2)).drew) := (H1.out.set Y2).drewN 1
  have B2 : Hid (Below rb W (W1.setCell ⟨rb, 0, none⟩ (.int .u64 Y2)).drew) := below_drewV (B1.out.setCell (p := ⟨rb, 0, none⟩) (Nat.le_refl _) _) 1
  revert H2 B2
  generalize (W1.setCell ⟨rb, 0, none⟩ (.int .u64 Y2)).drew = W2
  intro H2 B2
  clear e2 c f
  have c := H2.out.cell.1
  have f := H2.out.cell.2
  go_region
  go_wp2
  obtain ⟨Y3, e3, l3⟩ := bitsN .xor (Y2 : Int) (IntKind.u64.wrap ((Y2 : Int) * 131072))
  rw [e3]
  have H3 : Hid (XB rb Y3 (W2.setCell ⟨rb, 0, none⟩ (.int .u64 Y3)).drew) := (H2.out.set Y3).drewN 1
  have B3 : Hid (Below rb W (W2.setCell ⟨rb, 0, none⟩ (.int .u64 Y3)).drew) := below_drewV (B2.out.setCell (p := ⟨rb, 0, none⟩) (Nat.le_refl _) _) 1
  revert H3 B3
  generalize (W2.setCell ⟨rb, 0, none⟩ (.int .u64 Y3)).drew = W3
  intro H3 B3
  clear e3 c f
  have c := H3.out.cell.1
  have f := H3.out.cell.2
  go_ret
  exact ⟨Y3, l3, rfl, H3.out, B3.out⟩
theorem pow_two_u64 (n : Nat) (hn : n ≤ 1000) (h0 : 0 < n) : ∃ Y : Nat, IntKind.u64.wrap (2 ^ min (Lib.bitLen n) 64) = (Y : Int) ∧ 1 ≤ Y ∧ Y ≤ 2 * n := by
  rw [Go.Proofs.bitLen_eq n (by omega)]
  have h1 := Go.Sort.two_pow_bitsLen_le h0
  have h2 : Go.Sort.bitsLen n ≤ 10 := (Go.Sort.bitsLen_le_iff n 10).2 (by omega)
  rw [Nat.min_eq_left (by omega)]
  obtain ⟨P, hP⟩ : ∃ P, P = 2 ^ Go.Sort.bitsLen n := ⟨_, rfl⟩
  have h3 : (2 : Int) ^ Go.Sort.bitsLen n = (P : Int) := by rw [hP]; push_cast; rfl
  have h4 : 1 ≤ P := by rw [hP]; exact Nat.one_le_two_pow
  rw [← hP] at h1
  rw [h3]
  exact ⟨P, by rw [IntKind.wrap_u64]; omega, h4, h1⟩
theorem npow2_any (n : Nat) (hn : n ≤ 1000) (h0 : 0 < n) (W : World) : Calls Try.prog 61 #[.int .i64 n] W fun e W' => ∃ Y : Nat, (1 ≤ Y ∧ Y ≤ 2 * n) ∧ e = .returned (.int .u64 Y) ∧ W = W' := by
  have hlb := fun W => Try.bits_Len (n : Nat) W (by omega) (by omega)
  obtain ⟨Y, hy, h1, h2⟩ := pow_two_u64 n hn h0
  have HY := Lib.hid hy
  clear hy h0
  go_enter Try.func61, Try.ntmps61
  go_wp2_with (go_at_call 40; refine (hlb _).mono ?_; rintro e w1 ⟨rfl, rfl⟩)
  go_ret
  exact ⟨Y, ⟨h1, h2⟩, by rw [← HY.out]; rfl, rfl⟩
theorem and_u64 (r y : Nat) (hr : r < 18446744073709551616) (hy : y < 18446744073709551616) : ∃ o : Nat, bits .and .u64 (r : Int) (y : Int) = (o : Int) ∧ o ≤ y :=
  ⟨r &&& y, u64_and_nat r y hr hy, Nat.and_le_right⟩
end Go.Proofs.Ytdkkcogjkeonkaa
