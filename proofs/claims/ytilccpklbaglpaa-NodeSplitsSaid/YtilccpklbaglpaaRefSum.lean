/- The contracts of the document's own Sum and right. -/
import Derived.Test.YtilccpklbaglpaaRefCell
set_option maxRecDepth 100000
set_option maxHeartbeats 4000000
set_option linter.unusedVariables false
namespace Go.Proofs.Ytilccpklbaglpaa
open Go.RowKit
open Sl (Cl Kd)
namespace Sl
/-- What the document's answer takes a cell for: a leaf's, or a branch's. -/
def shR (leaf : Bool) : Sh Cl := ⟨fun c => if leaf then encC c else encK ⟨c.key, c.chain⟩, Cl.key, fun c => if leaf then fitsC c else true⟩
theorem shR_len (leaf : Bool) (c : Cl) : ((shR leaf).enc c).length ≤ 65794 := by
  cases leaf
  · exact Nat.le_trans (encK_len ⟨c.key, c.chain⟩) (by decide)
  · exact encC_len c
end Sl
theorem refCell_any (c : Cl) (leaf : Bool) (hc : okC c) (hv : c.val.length ≤ 60000) (w : World) :
    Calls Try.prog 96 #[aggC c, .bool leaf] w fun e w' => e = .returned (.string (str ((Sl.shR leaf).enc c))) ∧ Below w.heap.size w w' := by
  cases leaf
  · by_cases hk : 255 < c.key.length
    · exact refCell_gt_kid c hk hc.1 w
    · exact refCell_le_kid c hk hc.1 w
  · by_cases hk : 255 < c.key.length
    · by_cases h0 : c.chain = 0
      · exact refCell_gt_plain c hk h0 hv w
      · exact refCell_gt_chain c hk h0 hc.1 hc.2 w
    · by_cases h0 : c.chain = 0
      · exact refCell_le_plain c hk h0 hv w
      · exact refCell_le_chain c hk h0 hc.1 hc.2 w
theorem shR_le (leaf : Bool) (l : List Cl) (k : Nat) (h : l.length ≤ 100000) : Sl.sum (Sl.shR leaf) (l.take k) ≤ 6579600000 := by
  have h1 := Sl.sum_take (Sl.shR leaf) l k
  have h2 := Sl.sum_le (Sl.shR leaf) 65794 (Sl.shR_len leaf) l
  omega
set_option maxHeartbeats 1000000 in
set_option maxRecDepth 100000 in
theorem refSum_any (leaf : Bool) (v : Value) (l : List Cl) (hll : l.length ≤ 100000) (hl : ∀ x ∈ l, okC x ∧ x.val.length ≤ 60000) (w : World) (hv : SlC w v l) :
    Calls Try.prog 60 #[v, .bool leaf] w fun e w' => e = .returned (.int .i64 (Sl.sum (Sl.shR leaf) l : Nat)) ∧ Below w.heap.size w w' := by
  have HL := Lib.hid hl
  obtain ⟨a, b, o, c, rfl, ha, hx⟩ := hv
  have HX := Lib.hid hx
  have HA := Lib.hid ha
  clear hl ha hx
  go_enter Try.func60, Try.ntmps60
  go_wp2
  go_loopg [5, 10] l.length (fun n s i wr => ∃ k m : Nat, k ≤ l.length ∧ n = l.length - k ∧ i = .int .i64 k ∧ s = .int .i64 m ∧ Hid (m = Sl.sum (Sl.shR leaf) (l.take k)) ∧ Hid (Below w.heap.size w wr))
  case atStart => exact ⟨0, 0, Nat.zero_le _, rfl, rfl, rfl, rfl, Below.refl _ _⟩
  case round =>
    obtain ⟨k, m, hk, rfl, rfl, rfl, HM, HB⟩ := hrel
    have hm : m ≤ 6579600000 := by rw [HM.out]; exact shR_le leaf l k hll
    by_cases hlt : k < l.length
    · obtain ⟨x, hx⟩ := take_some l k hlt
      obtain ⟨e0, e1, e2, e3⟩ := HX.out k x hx
      have hblt : b < w.heap.size := World.block_lt_of_cell? _ _ e0
      have d0 := (HB.out.cell (p := ⟨b, o + k * 4, none⟩) hblt).trans e0
      have d1 := (HB.out.cell (p := ⟨b, o + k * 4 + 1, none⟩) hblt).trans e1
      have d2 := (HB.out.cell (p := ⟨b, o + k * 4 + 2, none⟩) hblt).trans e2
      have d3 := (HB.out.cell (p := ⟨b, o + k * 4 + 3, none⟩) hblt).trans e3
      obtain rfl : a = some ⟨b, o, none⟩ := by
        rcases HA.out with h | h
        · rw [h] at hlt; cases hlt
        · exact h
      have HS := Lib.hid ((congrArg (Sl.sum (Sl.shR leaf)) (Sl.take_snoc' l k x hx)).trans (Sl.sum_snoc (Sl.shR leaf) (l.take k) x))
      have hxx := HL.out x (List.mem_of_getElem? hx)
      have HZ := Lib.hid (fun W => refCell_any x leaf hxx.1 hxx.2 W)
      have hz := Sl.shR_len leaf x
      have hsz := str_size ((Sl.shR leaf).enc x)
      clear e0 e1 e2 e3 hx hxx
      revert HS HZ hz hsz
      generalize (Sl.shR leaf).enc x = ex
      generalize hzl : ex.length = z
      have HZL := Lib.hid hzl
      clear hzl
      intro HS HZ hz hsz
      unfold aggC at HZ
      go_wp2_with (go_at_call 96; refine (HZ.out _).mono ?_; rintro e w4 ⟨rfl, hb4⟩)
      have HB4 : Hid (Below w.heap.size w w4) := (HB.out.alloc HB.out.size _).trans (hb4.mono (by have := HB.out.size; simp; omega))
      clear hb4
      go_roundg (l.length - (k + 1))
      case measure => omega
      case rel => exact ⟨k + 1, m + (2 + z), by omega, rfl, by go_num, val_i64 (by omega), (by show _ = _; rw [HS.out, ← HM.out]), HB4⟩
    · obtain rfl : k = l.length := by omega
      rw [List.take_length] at HM
      go_wp2
      go_ret
      exact ⟨ret_int (by rw [HM.out]), HB.out⟩
end Go.Proofs.Ytilccpklbaglpaa
