/- The walk of the law OrderAfter. -/
import Derived.Test.YtgkonmidgeanmaaDoorAwake
namespace Go.Proofs.YtgkonmidgeanmaaDoor
open Go.RowKit
theorem bl (a b : ByteArray) : Op.bytesLess a.toList b.toList = Ord.less a.data.toList b.data.toList := by
  rw [Lib.toList_data, Lib.toList_data, op_less]
set_option maxHeartbeats 2000000 in
set_option maxRecDepth 100000 in
theorem afterLaw_walk (p s t : ByteArray) (m : Int) (w : World) (hm : w.cell? ⟨0, 0, none⟩ = some (.int .i64 m)) :
    Calls Tryd.prog 6 #[.string p, .string s, .string t] w fun e w' => e = .returned (.bool true) ∧ Below w.heap.size w w' := by
  by_cases h : (p.size : Int) > 400 ∨ (s.size : Int) > 400 ∨ (t.size : Int) > 400
  · by_cases h1 : (p.size : Int) > 400
    · go_enter Tryd.func6, Tryd.ntmps6
      go_wp2_with (go_at_call 7; refine (awake_any m _ hm).mono ?_; rintro e w1 ⟨rfl, hb⟩)
      go_ret
      exact ⟨rfl, hb⟩
    · by_cases h2 : (s.size : Int) > 400
      · go_enter Tryd.func6, Tryd.ntmps6
        go_wp2_with (go_at_call 7; refine (awake_any m _ hm).mono ?_; rintro e w1 ⟨rfl, hb⟩)
        go_ret
        exact ⟨rfl, hb⟩
      · have h3 : (t.size : Int) > 400 := by omega
        go_enter Tryd.func6, Tryd.ntmps6
        go_wp2_with (go_at_call 7; refine (awake_any m _ hm).mono ?_; rintro e w1 ⟨rfl, hb⟩)
        go_ret
        exact ⟨rfl, hb⟩
  · have h1 : ¬ (p.size : Int) > 400 := by omega
    have h2 : ¬ (s.size : Int) > 400 := by omega
    have h3 : ¬ (t.size : Int) > 400 := by omega
    have hp : p.size ≤ 1000 := by omega
    have hs : s.size ≤ 1000 := by omega
    clear h
    have hspec := aft_spec p.data.toList t.data.toList
    have hspec2 := ((aft_spec p.data.toList (p.data.toList ++ s.data.toList)).2 (List.prefix_append _ _)).2
    have hA := fun W => after_any p hp W
    have hP := fun W => hasPrefix_any t p W
    have hpre : (pre p.data.toList t.data.toList = true) ↔ p.data.toList <+: t.data.toList := List.isPrefixOf_iff_prefix
    rw [← hpre] at hspec
    have b1 : Op.bytesLess (p ++ s).toList p.toList = false := by rw [bl]; simpa using front_less p.data.toList s.data.toList
    have b2 : Op.bytesLess s.toList (str (s.data.toList ++ [0])).toList = true := by rw [bl]; exact next_less _
    have b3 : Op.bytesLess s.toList t.toList = true → Op.bytesLess t.toList (str (s.data.toList ++ [0])).toList = false := by
      rw [bl, bl, str_data]
      intro h4
      cases h5 : Ord.less t.data.toList (s.data.toList ++ [0])
      · rfl
      · rw [next_none _ _ h5] at h4; cases h4
    have b4 : Op.bytesLess t.toList p.toList = Ord.less t.data.toList p.data.toList := bl _ _
    have b5 : Op.bytesLess t.toList (str (aft p.data.toList).1).toList = Ord.less t.data.toList (aft p.data.toList).1 := bl _ _
    have b6 : Op.bytesLess (p ++ s).toList (str (aft p.data.toList).1).toList = Ord.less (p.data.toList ++ s.data.toList) (aft p.data.toList).1 := by rw [bl, str_data]; simp
    rw [← b4, ← b5] at hspec
    rw [← b6] at hspec2
    clear b4 b5 b6 hpre
    revert hspec hspec2 hA hP
    generalize aft p.data.toList = A
    generalize pre p.data.toList t.data.toList = P
    obtain ⟨x, ok⟩ := A
    intro hspec hspec2 hA hP
    simp only at hspec hspec2 hA
    have HA := Lib.hid hA
    have HP := Lib.hid hP
    have HSP := Lib.hid hspec
    have HS2 := Lib.hid hspec2
    have HB3 := Lib.hid b3
    clear hA hP hspec hspec2 b3
    rcases hu : Op.bytesLess t.toList p.toList <;> rcases hv : Op.bytesLess t.toList (str x).toList <;> rcases hw : Op.bytesLess s.toList t.toList <;> rcases hq : Op.bytesLess t.toList (str (s.data.toList ++ [0])).toList <;> cases ok <;> cases P
    all_goals (first | (exfalso; have a1 := HSP.out; have a3 := HB3.out; rw [hu, hv] at a1; rw [hw, hq] at a3; simp at a1 a3; done) | skip)
    all_goals
      (have a2 := HS2.out
       try simp only [Bool.true_eq_false, false_or] at a2
       go_enter Tryd.func6, Tryd.ntmps6
       go_wp2_with (first
         | (go_at_call 7; refine (awake_any m _ hm).mono ?_; rintro e w1 ⟨rfl, hb1⟩)
         | (go_at_call 14; refine (HA.out _).mono ?_; rintro e w2 ⟨rfl, hb2⟩)
         | (go_at_call 16; refine (next_any s hs _).mono ?_; rintro e w3 ⟨rfl, hb3⟩)
         | (go_at_call 22; refine (HP.out _).mono ?_; rintro e w4 ⟨rfl, rfl⟩))
       go_ret
       exact ⟨rfl, below_step (below_step hb1 hb2) hb3⟩)
end Go.Proofs.YtgkonmidgeanmaaDoor
