/- The document's Due. -/
import Derived.Test.YtpgaepilnbjhbaaLsRefF
set_option maxRecDepth 100000
set_option maxHeartbeats 4000000
set_option linter.unusedVariables false
namespace Go.Proofs.Ytpgaepilnbjhbaa
open Go.RowKit
open Ls (Txt Ln Ms)
attribute [local go_sem] Oper.semAt_some
theorem snoc_due (p : Ln → Bool) (e : Ln) (m : List Ln) (h : p e = true) : (m ++ [e]).filter p = m.filter p ++ [e] ∧ (m ++ [e]).filter (fun e => !p e) = m.filter (fun e => !p e) := by
  rw [List.filter_append, List.filter_append]; simp [h]
theorem snoc_not (p : Ln → Bool) (e : Ln) (m : List Ln) (h : p e = false) : (m ++ [e]).filter p = m.filter p ∧ (m ++ [e]).filter (fun e => !p e) = m.filter (fun e => !p e) ++ [e] := by
  rw [List.filter_append, List.filter_append]; simp [h]
def Dis (u v : Value) : Prop := ∀ g, u.ownBlock = some g → v.ownBlock ≠ some g
theorem Dis.symm {u v : Value} (h : Dis u v) : Dis v u := fun g h1 h2 => h g h2 h1
/-- A row grows, another stays. -/
theorem grow2 {W : World} {B : Nat} {u v : Value} {m m2 : List Ln} (hB : B ≤ W.heap.size) (hu : RowG cL 3 45 W B u m) (hv : RowG cL 3 45 W B v m2) (hd : Dis u v) (hl : m.length ≤ 300000) (e : Ln) :
    ∃ u' w2, (Builtin.append_ #[29, 29] 29 #[u, .slice (some ⟨W.heap.size + 1, 0, none⟩) 1 1]).run Try.prog ((W.alloc (.cells #[.string (str e.q), .int .u64 e.id, .int .u64 e.t] 45)).alloc (.cells #[.string (str e.q), .int .u64 e.id, .int .u64 e.t] 45)) = .ok u' w2 ∧
      RowG cL 3 45 w2 B u' (m ++ [e]) ∧ RowG cL 3 45 w2 B v m2 ∧ Dis u' v ∧ Below B W w2 := by
  obtain ⟨u', w2, hrun, hr2, hg, hb2, ho⟩ := app1 encL appE (by decide) u e 29 (W.alloc (.cells #[.string (str e.q), .int .u64 e.id, .int .u64 e.t] 45)) (Nat.le_trans hB (by simp)) (hu.alloc _) hl #[.string (str e.q), .int .u64 e.id, .int .u64 e.t] rfl (W.heap.size + 1) (by simp)
  have hva : RowG cL 3 45 ((W.alloc (.cells #[.string (str e.q), .int .u64 e.id, .int .u64 e.t] 45)).alloc (.cells #[.string (str e.q), .int .u64 e.id, .int .u64 e.t] 45)) B v m2 := (hv.alloc _).alloc _
  refine ⟨u', w2, hrun, hr2, hva.keep fun g hgo => ?_, fun g h1 h2 => ?_, ?_⟩
  · refine hg.block g (hva.lt g hgo).2 (fun he => ?_)
    exact hd g he.symm hgo
  · rcases ho with h | h
    · exact hd g (h ▸ h1) h2
    · rw [h1] at h
      have := (hv.lt g h2).2
      injection h with h
      omega
  · exact Below.trans ((below_alloc W _).mono hB) hb2
theorem rDue_any (now : Nat) (sl : Value) (l : List Ln) (hl : l.length ≤ 1000) (w : World) (h : SlG cL 3 w sl l) :
    Calls Try.prog 11 #[sl, .int .u64 now] w fun e w' => ∃ va vb, e = .returned (.tuple #[va, vb]) ∧ RowG cL 3 45 w' w.heap.size va (l.filter (fun e => decide (e.t ≤ now))) ∧ RowG cL 3 45 w' w.heap.size vb (l.filter (fun e => !decide (e.t ≤ now))) ∧ Below w.heap.size w w' := by
  have HS := Lib.hid h
  obtain ⟨sa, sc, rfl⟩ := h.slice
  clear h
  go_enter Try.func11, Try.ntmps11
  go_wp2
  go_loopg [6, 7, 12] l.length (fun n u u2 v wr => ∃ k : Nat, k ≤ l.length ∧ n = l.length - k ∧ v = .int .i64 k ∧ Hid (RowG cL 3 45 wr w.heap.size u ((l.take k).filter (fun e => decide (e.t ≤ now)))) ∧ Hid (RowG cL 3 45 wr w.heap.size u2 ((l.take k).filter (fun e => !decide (e.t ≤ now)))) ∧ Hid (Dis u u2) ∧ Hid (Below w.heap.size w wr))
  case atStart => exact ⟨0, Nat.zero_le _, rfl, rfl, RowG.nil _ _ _ _ _, RowG.nil _ _ _ _ _, (fun g h => by simp [Value.ownBlock] at h), Below.refl _ _⟩
  case round =>
    obtain ⟨k, hk, rfl, rfl, HR, HR2, HD, HB⟩ := hrel
    by_cases hlt : k < l.length
    · obtain ⟨e, hx⟩ := some_atP hlt
      obtain ⟨a, b, o, c, hv, hlc, _, ha0, ha, hcx⟩ := (HS.out.below HB.out).get
      cases hv
      obtain rfl : sa = some ⟨b, o, none⟩ := ha.resolve_left (fun h' => by have := ha0 h'; omega)
      obtain ⟨e0, e1, e2⟩ := at3 hcx hx
      have HT := Lib.hid (take_snoc hx)
      have hlk : (l.take k).length ≤ 1000 := by rw [List.length_take]; omega
      have hlf : ((l.take k).filter (fun e => decide (e.t ≤ now))).length ≤ 300000 := Nat.le_trans (List.length_filter_le _ _) (by omega)
      have hlg : ((l.take k).filter (fun e => !decide (e.t ≤ now))).length ≤ 300000 := Nat.le_trans (List.length_filter_le _ _) (by omega)
      clear hcx ha0 ha hx
      by_cases ht : e.t ≤ now
      · obtain ⟨v', w2, hrun, h1, h2, h3, h4⟩ := grow2 HB.out.size HR.out HR2.out HD.out hlf e
        obtain ⟨s1, s2⟩ := snoc_due (fun e => decide (e.t ≤ now)) e (l.take k) (by simpa using ht)
        rw [← HT.out] at s1 s2
        rw [← s1] at h1
        rw [← s2] at h2
        have H1 := Lib.hid h1
        have H2 := Lib.hid h2
        have H3 := Lib.hid h3
        have HB2 : Hid (Below w.heap.size w w2) := HB.out.trans h4
        have hti : (e.t : Int) ≤ (now : Int) := by omega
        obtain ⟨a2, n2, c2, rfl⟩ := h1.slice'
        obtain ⟨ua, un, uc, hu⟩ := HR.out.slice'
        subst hu
        clear h1 h2 h3 h4 s1 s2 hlk hlf hlg ht
        go_wp2_with (at_builtin; refine Lib.wpList_append_run _ rfl _ _ _ _ rfl _ _ rfl rfl _ _ hrun ?_)
        go_roundg (l.length - (k + 1))
        case measure => omega
        case rel => exact ⟨k + 1, hlt, rfl, by go_num, H1, H2, H3, HB2⟩
      · obtain ⟨v', w2, hrun, h1, h2, h3, h4⟩ := grow2 HB.out.size HR2.out HR.out HD.out.symm hlg e
        obtain ⟨s1, s2⟩ := snoc_not (fun e => decide (e.t ≤ now)) e (l.take k) (by simpa using ht)
        rw [← HT.out] at s1 s2
        rw [← s2] at h1
        rw [← s1] at h2
        have H1 := Lib.hid h1
        have H2 := Lib.hid h2
        have H3 := Lib.hid h3.symm
        have HB2 : Hid (Below w.heap.size w w2) := HB.out.trans h4
        have hti : ¬ (e.t : Int) ≤ (now : Int) := by omega
        obtain ⟨a2, n2, c2, rfl⟩ := h1.slice'
        obtain ⟨ua, un, uc, hu⟩ := HR2.out.slice'
        subst hu
        clear h1 h2 h3 h4 s1 s2 hlk hlf hlg ht
        go_wp2_with (at_builtin; refine Lib.wpList_append_run _ rfl _ _ _ _ rfl _ _ rfl rfl _ _ hrun ?_)
        go_roundg (l.length - (k + 1))
        case measure => omega
        case rel => exact ⟨k + 1, hlt, rfl, by go_num, H2, H1, H3, HB2⟩
    · obtain rfl : k = l.length := by omega
      rw [List.take_length] at HR HR2
      go_wp2
      go_ret2
      exact ⟨_, _, rfl, HR.out, HR2.out, HB.out⟩
end Go.Proofs.Ytpgaepilnbjhbaa
