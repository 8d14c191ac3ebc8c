/- The document's answers of sets of numbers: With, Of, Same. -/
import Derived.Test.YtdkkcogjkeonkaaPRef
import Derived.BigQuiet
import Derived.Deep.DeepCutAuto
set_option maxRecDepth 100000
set_option maxHeartbeats 4000000
set_option linter.unusedVariables false
namespace Go.Proofs.Ytdkkcogjkeonkaa
open Go.RowKit
theorem RowN.base {w : World} {B B' : Nat} {v : Value} {l : List Nat} (h : RowN w B v l) (hb : B' ≤ B) : RowN w B' v l := by
  obtain ⟨h0, h1⟩ := h
  refine ⟨h0, ?_⟩
  rcases h1 with h1 | ⟨g, cap, cur, hv, hB, hg, h2, h3, h4, h5⟩
  · exact .inl h1
  · exact .inr ⟨g, cap, cur, hv, Nat.le_trans hb hB, hg, h2, h3, h4, h5⟩
theorem psWith_any (v : Value) (l : List Nat) (x : Nat) (hl : l.length ≤ 100000) (w : World) (hv : SlN w v l) :
    Calls Try.prog 9 #[v, .int .u32 x] w fun e w' => ∃ v', e = .returned v' ∧ RowN w' w.heap.size v' (Ps.withL l x) ∧ Below w.heap.size w w' := by
  obtain ⟨i0, hi, hz0, hz1, hz2⟩ := info_parts infoN
  have HWO := Lib.hid (psWithout_any v l x hl w hv)
  have HWL : Hid (Ps.withL l x = if (Ps.run x (Ps.without l x)).2 then (Ps.run x (Ps.without l x)).1 else (Ps.run x (Ps.without l x)).1 ++ [x]) := rfl
  have HLM : Hid ((Ps.without l x).length ≤ 100000) := Nat.le_trans (Ps.without_len l x) hl
  generalize Ps.withL l x = RR at HWL ⊢
  generalize Ps.without l x = m at HWO HWL HLM
  obtain ⟨a, c, rfl⟩ : ∃ a c, v = .slice a l.length c := by
    obtain ⟨a, _, _, c, rfl, _⟩ := hv
    exact ⟨a, c, rfl⟩
  clear hv
  go_enter Try.func9, Try.ntmps9
  go_wp2_with (go_at_call 11; refine HWO.out.mono ?_; rintro e w1 ⟨v1, rfl, hr1, hb1⟩; have HR1 := Lib.hid hr1; have HB1 := Lib.hid hb1; obtain ⟨a1, c1, rfl⟩ := hr1.slice; clear hr1 hb1)
  obtain ⟨a2, b2, o2, c2, he, ha2, hx2⟩ := HR1.out.sl
  obtain rfl : a1 = a2 := by cases he; rfl
  have HA := Lib.hid ha2
  have HX := Lib.hid hx2
  have hlm := HLM.out
  clear he ha2 hx2
  go_loopg [5, 6, 13] m.length (fun n sv dv i wr => ∃ (k : Nat) (u : Value) (d : Bool), k ≤ m.length ∧ n = m.length - k ∧ i = .int .i64 (k : Nat) ∧ u = sv ∧ dv = .bool d ∧ Hid ((Ps.run x (m.take k)).2 = d) ∧ Hid (RowN wr w1.heap.size u (Ps.run x (m.take k)).1) ∧ Hid (Below w1.heap.size w1 wr))
  case atStart => exact ⟨0, _, false, Nat.zero_le _, rfl, rfl, rfl, rfl, rfl, World.ownsRow_nil _ _ _ _, Below.refl _ _⟩
  case round =>
    obtain ⟨k, u, d, hk, rfl, rfl, rfl, rfl, HD, HR, HB⟩ := hrel
    have HLN : Hid ((Ps.run x (m.take k)).1.length ≤ 100001) := by
      have h1 := Ps.run_len x (m.take k)
      rw [List.length_take] at h1
      show _ ≤ _
      cases hd : (Ps.run x (m.take k)).2 <;> simp [hd] at h1 <;> omega
    by_cases hlt : k < m.length
    · obtain ⟨y, hy⟩ := has_of hlt
      obtain rfl : a1 = some ⟨b2, o2, none⟩ := HA.out.resolve_left (by intro h; rw [h] at hlt; cases hlt)
      have e0 := HX.out k y hy
      have d0 := (HB.out.cell (p := ⟨b2, o2 + k, none⟩) (World.block_lt_of_cell? _ _ e0)).trans e0
      have HS := Lib.hid (Ps.run_take x hy)
      clear e0 hy
      have HST : Hid (Ps.step x (Ps.run x (m.take k)) y = if !d && decide (x < y) then ((Ps.run x (m.take k)).1 ++ [x] ++ [y], true) else ((Ps.run x (m.take k)).1 ++ [y], d)) := by
        show _ = _
        unfold Ps.step
        rw [HD.out]
      generalize Ps.step x (Ps.run x (m.take k)) y = NS at HS HST
      generalize (Ps.run x (m.take k)).1 = M at HR HLN HST
      have hln := HLN.out
      have hbs := HB.out.size
      cases d with
      | true =>
        have hns : NS = (M ++ [y], true) := HST.out
        have HNS := Lib.hid hns
        clear hns
        go_wp2_with (at_builtin; refine wpList_append_own _ rfl _ _ 22 rfl w1.heap.size 24 i0 _ 1 4 Try.underlying22 hi hz0 hz1 hz2 rfl (by decide) _ M.length _ rfl (HR.out.alloc _) ⟨wr.heap.size, 0, none⟩ 1 1 [.int .u32 (y : Nat)] rfl rfl (fun j z hj => by rw [add_at]; exact (World.cell?_alloc_new _ _ _ j).trans (by simpa using hj)) (by intro z hz; simp at hz; subst hz; rfl) (by first | omega | (simp; omega) | (unfold maxLen; simp; omega) | (unfold maxLen; omega)) (by first | omega | (simp; omega)) (by first | omega | (simp; omega)) ?_; intro v4 w4 hown' hgrow _; have HR4 : Hid (RowN w4 w1.heap.size v4 (M ++ [y])) := (by show w4.ownsRow _ _ _ _ _ _; rw [List.length_append, List.map_append]; simpa [num] using hown'); have HB4 : Hid (Below w1.heap.size w1 w4) := (HB.out.alloc HB.out.size _).grown hgrow (by simp; omega) (fun g hg => (HR.out.lt g hg).1); have sHB4 := HB4.out.size; obtain ⟨a_HR4, c_HR4, hv_HR4⟩ : ∃ a c, v4 = .slice a (M.length + 1) c := (by obtain ⟨a, c, h⟩ := HR4.out.slice; exact ⟨a, c, by rw [h]; simp⟩); subst hv_HR4; clear hown' hgrow)
        go_roundg (m.length - (k + 1))
        case measure => omega
        case rel => exact ⟨k + 1, _, true, hlt, rfl, by go_num, rfl, rfl, by show _ = _; rw [HS.out, HNS.out], by show RowN _ _ _ _; rw [HS.out, HNS.out]; exact HR4.out, HB4⟩
      | false =>
        by_cases hxy : x < y
        · have hlt2 : (x : Int) < (y : Int) := by omega
          have hns : NS = (M ++ [x] ++ [y], true) := by rw [HST.out, decide_eq_true hxy]; rfl
          have HNS := Lib.hid hns
          clear hns hxy
          go_upto_region 9 with (at_builtin; refine wpList_append_own _ rfl _ _ 22 rfl w1.heap.size 24 i0 _ 1 4 Try.underlying22 hi hz0 hz1 hz2 rfl (by decide) _ M.length _ rfl (HR.out.alloc _) ⟨wr.heap.size, 0, none⟩ 1 1 [.int .u32 (x : Nat)] rfl rfl (fun j z hj => by rw [add_at]; exact (World.cell?_alloc_new _ _ _ j).trans (by simpa using hj)) (by intro z hz; simp at hz; subst hz; rfl) (by first | omega | (simp; omega) | (unfold maxLen; simp; omega) | (unfold maxLen; omega)) (by first | omega | (simp; omega)) (by first | omega | (simp; omega)) ?_; intro v4 w4 hown' hgrow _; have HR4 : Hid (RowN w4 w1.heap.size v4 (M ++ [x])) := (by show w4.ownsRow _ _ _ _ _ _; rw [List.length_append, List.map_append]; simpa [num] using hown'); have HO4 : Hid (w4.ownsRow w1.heap.size 24 1 v4 (M.length + 1) ((M ++ [x]).map num)) := (by show w4.ownsRow _ _ _ _ _ _; rw [List.map_append]; simpa [num] using hown'); have HB4 : Hid (Below w1.heap.size w1 w4) := (HB.out.alloc HB.out.size _).grown hgrow (by simp; omega) (fun g hg => (HR.out.lt g hg).1); have sHB4 := HB4.out.size; clear hown' hgrow)
          go_wp2_with (at_builtin; refine wpList_append_own _ rfl _ _ 22 rfl w1.heap.size 24 i0 _ 1 4 Try.underlying22 hi hz0 hz1 hz2 rfl (by decide) _ (M.length + 1) _ rfl (HO4.out.alloc _) ⟨w4.heap.size, 0, none⟩ 1 1 [.int .u32 (y : Nat)] rfl rfl (fun j z hj => by rw [add_at]; exact (World.cell?_alloc_new _ _ _ j).trans (by simpa using hj)) (by intro z hz; simp at hz; subst hz; rfl) (by first | omega | (simp; omega) | (unfold maxLen; simp; omega) | (unfold maxLen; omega)) (by first | omega | (simp; omega)) (by first | omega | (simp; omega)) ?_; intro v5 w5 hown' hgrow _; have HR5 : Hid (RowN w5 w1.heap.size v5 (M ++ [x] ++ [y])) := (by show w5.ownsRow _ _ _ _ _ _; rw [List.length_append, List.length_append, List.map_append]; simpa [num] using hown'); have HB5 : Hid (Below w1.heap.size w1 w5) := (HB4.out.alloc HB4.out.size _).grown hgrow (by simp; omega) (fun g hg => (HR4.out.lt g hg).1); have sHB5 := HB5.out.size; clear hown' hgrow)
          go_roundg (m.length - (k + 1))
          case measure => omega
          case rel => exact ⟨k + 1, _, true, hlt, rfl, by go_num, rfl, rfl, by show _ = _; rw [HS.out, HNS.out], by show RowN _ _ _ _; rw [HS.out, HNS.out]; exact HR5.out, HB5⟩
        · have hlt2 : ¬ (x : Int) < (y : Int) := by omega
          have hns : NS = (M ++ [y], false) := by rw [HST.out, decide_eq_false hxy]; rfl
          have HNS := Lib.hid hns
          clear hns hxy
          go_wp2_with (at_builtin; refine wpList_append_own _ rfl _ _ 22 rfl w1.heap.size 24 i0 _ 1 4 Try.underlying22 hi hz0 hz1 hz2 rfl (by decide) _ M.length _ rfl (HR.out.alloc _) ⟨wr.heap.size, 0, none⟩ 1 1 [.int .u32 (y : Nat)] rfl rfl (fun j z hj => by rw [add_at]; exact (World.cell?_alloc_new _ _ _ j).trans (by simpa using hj)) (by intro z hz; simp at hz; subst hz; rfl) (by first | omega | (simp; omega) | (unfold maxLen; simp; omega) | (unfold maxLen; omega)) (by first | omega | (simp; omega)) (by first | omega | (simp; omega)) ?_; intro v4 w4 hown' hgrow _; have HR4 : Hid (RowN w4 w1.heap.size v4 (M ++ [y])) := (by show w4.ownsRow _ _ _ _ _ _; rw [List.length_append, List.map_append]; simpa [num] using hown'); have HB4 : Hid (Below w1.heap.size w1 w4) := (HB.out.alloc HB.out.size _).grown hgrow (by simp; omega) (fun g hg => (HR.out.lt g hg).1); have sHB4 := HB4.out.size; obtain ⟨a_HR4, c_HR4, hv_HR4⟩ : ∃ a c, v4 = .slice a (M.length + 1) c := (by obtain ⟨a, c, h⟩ := HR4.out.slice; exact ⟨a, c, by rw [h]; simp⟩); subst hv_HR4; clear hown' hgrow)
          go_roundg (m.length - (k + 1))
          case measure => omega
          case rel => exact ⟨k + 1, _, false, hlt, rfl, by go_num, rfl, rfl, by show _ = _; rw [HS.out, HNS.out], by show RowN _ _ _ _; rw [HS.out, HNS.out]; exact HR4.out, HB4⟩
    · have hkk : k = m.length := by omega
      have HD5 : Hid ((Ps.run x m).2 = d) := by
        have h := HD.out
        rw [hkk, List.take_length] at h
        exact h
      have HR5 : Hid (RowN wr w1.heap.size u (Ps.run x m).1) := by
        have h := HR.out
        rw [hkk, List.take_length] at h
        exact h
      rw [hkk, List.take_length] at HLN
      have hln := HLN.out
      have hbs := HB.out.size
      cases d with
      | true =>
        have hw : RR = (Ps.run x m).1 := by rw [HWL.out, HD5.out]; rfl
        have HW := Lib.hid hw
        obtain ⟨a5, c5, rfl⟩ := HR5.out.slice
        clear hw
        go_wp2
        go_ret
        exact ⟨_, rfl, by rw [HW.out]; exact HR5.out.base HB1.out.size, HB1.out.trans (HB.out.mono HB1.out.size)⟩
      | false =>
        have hw : RR = (Ps.run x m).1 ++ [x] := by rw [HWL.out, HD5.out]; rfl
        have HW := Lib.hid hw
        generalize (Ps.run x m).1 = M at HR5 hln HW
        clear hw
        go_wp2_with (at_builtin; refine wpList_append_own _ rfl _ _ 22 rfl w1.heap.size 24 i0 _ 1 4 Try.underlying22 hi hz0 hz1 hz2 rfl (by decide) _ M.length _ rfl (HR5.out.alloc _) ⟨wr.heap.size, 0, none⟩ 1 1 [.int .u32 (x : Nat)] rfl rfl (fun j z hj => by rw [add_at]; exact (World.cell?_alloc_new _ _ _ j).trans (by simpa using hj)) (by intro z hz; simp at hz; subst hz; rfl) (by first | omega | (simp; omega) | (unfold maxLen; simp; omega) | (unfold maxLen; omega)) (by first | omega | (simp; omega)) (by first | omega | (simp; omega)) ?_; intro v6 w6 hown' hgrow _; have HR6 : Hid (RowN w6 w1.heap.size v6 (M ++ [x])) := (by show w6.ownsRow _ _ _ _ _ _; rw [List.length_append, List.map_append]; simpa [num] using hown'); have HB6 : Hid (Below w1.heap.size w1 w6) := (HB.out.alloc HB.out.size _).grown hgrow (by simp; omega) (fun g hg => (HR5.out.lt g hg).1); have sHB6 := HB6.out.size; obtain ⟨a_HR6, c_HR6, hv_HR6⟩ : ∃ a c, v6 = .slice a (M.length + 1) c := (by obtain ⟨a, c, h⟩ := HR6.out.slice; exact ⟨a, c, by rw [h]; simp⟩); subst hv_HR6; clear hown' hgrow)
        go_ret
        exact ⟨_, rfl, by rw [HW.out]; exact HR6.out.base HB1.out.size, HB1.out.trans (HB6.out.mono HB1.out.size)⟩
theorem psOf_any (v : Value) (l : List Nat) (hl : l.length ≤ 90000) (w : World) (hv : SlN w v l) :
    Calls Try.prog 6 #[v] w fun e w' => ∃ v', e = .returned v' ∧ RowN w' w.heap.size v' (Ps.ofL l) ∧ Below w.heap.size w w' := by
  obtain ⟨a, b, o, c, rfl, ha, hx⟩ := hv
  have HA := Lib.hid ha
  have HX := Lib.hid hx
  clear ha hx
  go_enter Try.func6, Try.ntmps6
  go_wp2
  go_loopg [3, 8] l.length (fun n sv i wr => ∃ (k : Nat) (u : Value), k ≤ l.length ∧ n = l.length - k ∧ i = .int .i64 (k : Nat) ∧ u = sv ∧ Hid (RowN wr w.heap.size u (Ps.ofL (l.take k))) ∧ Hid (Below w.heap.size w wr))
  case atStart => exact ⟨0, _, Nat.zero_le _, rfl, rfl, rfl, World.ownsRow_nil _ _ _ _, Below.refl _ _⟩
  case round =>
    obtain ⟨k, u, hk, rfl, rfl, rfl, HR, HB⟩ := hrel
    by_cases hlt : k < l.length
    · obtain ⟨y, hy⟩ := has_of hlt
      obtain rfl : a = some ⟨b, o, none⟩ := HA.out.resolve_left (by intro h; rw [h] at hlt; cases hlt)
      have e0 := HX.out k y hy
      have d0 := (HB.out.cell (p := ⟨b, o + k, none⟩) (World.block_lt_of_cell? _ _ e0)).trans e0
      have HS := Lib.hid (Ps.ofL_take hy)
      have HLN : Hid ((Ps.ofL (l.take k)).length ≤ 100000) := by
        have h1 := Ps.ofL_len (l.take k)
        rw [List.length_take] at h1
        show _ ≤ _
        omega
      clear e0 hy
      go_wp2_with (go_at_call 9; refine (psWith_any _ _ y HLN.out _ HR.out.sl).mono ?_; rintro e w2 ⟨v2, rfl, hr2, hb2⟩; have HR2 := Lib.hid (hr2.base HB.out.size); have HB2 := Lib.hid (HB.out.trans (hb2.mono HB.out.size)); clear hr2 hb2)
      go_roundg (l.length - (k + 1))
      case measure => omega
      case rel => exact ⟨k + 1, _, hlt, rfl, by go_num, rfl, by show RowN _ _ _ _; rw [HS.out]; exact HR2.out, HB2⟩
    · have hkk : k = l.length := by omega
      have HR5 : Hid (RowN wr w.heap.size u (Ps.ofL l)) := by
        have h := HR.out
        rw [hkk, List.take_length] at h
        exact h
      obtain ⟨a5, c5, rfl⟩ := HR5.out.slice
      go_wp2
      go_ret
      exact ⟨_, rfl, HR5.out, HB.out⟩
/-- Two rows of the same numbers are the same. -/
theorem psSame_any (u v : Value) (l : List Nat) (hl : l.length ≤ 100000) (w : World) (hu : SlN w u l) (hv : SlN w v l) :
    Calls Try.prog 16 #[u, v] w fun e w' => e = .returned (.bool true) ∧ Below w.heap.size w w' := by
  obtain ⟨a, b, o, c, rfl, ha, hx⟩ := hu
  obtain ⟨a', b', o', c', rfl, ha', hx'⟩ := hv
  have HA := Lib.hid ha
  have HX := Lib.hid hx
  have HA' := Lib.hid ha'
  have HX' := Lib.hid hx'
  clear ha hx ha' hx'
  go_enter Try.func16, Try.ntmps16
  go_wp2
  go_loopg [13] l.length (fun n i wr => ∃ k : Nat, k ≤ l.length ∧ n = l.length - k ∧ i = .int .i64 (k : Nat) ∧ Hid (Below w.heap.size w wr))
  case atStart => exact ⟨0, Nat.zero_le _, rfl, rfl, Below.refl _ _⟩
  case round =>
    obtain ⟨k, hk, rfl, rfl, HB⟩ := hrel
    by_cases hlt : k < l.length
    · obtain ⟨y, hy⟩ := has_of hlt
      obtain rfl : a = some ⟨b, o, none⟩ := HA.out.resolve_left (by intro h; rw [h] at hlt; cases hlt)
      obtain rfl : a' = some ⟨b', o', none⟩ := HA'.out.resolve_left (by intro h; rw [h] at hlt; cases hlt)
      have e0 := HX.out k y hy
      have e1 := HX'.out k y hy
      have d0 := (HB.out.cell (p := ⟨b, o + k, none⟩) (World.block_lt_of_cell? _ _ e0)).trans e0
      have d1 := (HB.out.cell (p := ⟨b', o' + k, none⟩) (World.block_lt_of_cell? _ _ e1)).trans e1
      have hk0 : (0 : Int) ≤ (k : Int) := by omega
      have hk1 : (k : Int) < (l.length : Int) := by omega
      clear e0 e1 hy
      go_wp2_with fail
      go_quiet (fail)
      all_goals go_wp2
      go_roundg (l.length - (k + 1))
      case measure => omega
      case rel => exact ⟨k + 1, hlt, rfl, by go_num, by first | exact HB | exact Lib.hid (HB.out.drewN _) | exact Lib.hid ⟨HB.out.os, HB.out.tape, HB.out.output, HB.out.size, HB.out.block⟩⟩
    · have hkk : k = l.length := by omega
      go_wp2
      go_ret
      exact ⟨rfl, HB.out⟩
end Go.Proofs.Ytdkkcogjkeonkaa
