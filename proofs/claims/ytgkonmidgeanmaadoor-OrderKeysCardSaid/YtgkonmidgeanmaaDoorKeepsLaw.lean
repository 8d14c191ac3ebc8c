/- The walk of the law OrderKeeps. -/
import Derived.Test.YtgkonmidgeanmaaDoorRowed
namespace Go.Proofs.YtgkonmidgeanmaaDoor
open Go.RowKit
theorem plain_plain (p : Ord.P) : p.plain.plain = p.plain := by
  obtain ⟨t, n, s⟩ := p
  cases t <;> rfl
theorem plain_ok (l : List Ord.P) (hn : ∀ p ∈ l, p.n < 18446744073709551616) : ∀ p ∈ l.map Ord.P.plain, p.ok := by
  intro p hp
  obtain ⟨q, hq, rfl⟩ := List.mem_map.1 hp
  refine ⟨plain_plain q, ?_⟩
  have := hn q hq
  obtain ⟨t, n, s⟩ := q
  cases t <;> simp [Ord.P.plain] at this ⊢
  exact this
theorem plain_small (l : List Ord.P) (hn : ∀ p ∈ l, p.n < 18446744073709551616) (hs : ∀ p ∈ l, p.s.length ≤ 400) : ∀ p ∈ l.map Ord.P.plain, p.n < 18446744073709551616 ∧ p.s.length ≤ 400 := by
  intro p hp
  refine ⟨(plain_ok l hn p hp).2, ?_⟩
  obtain ⟨q, hq, rfl⟩ := List.mem_map.1 hp
  have := hs q hq
  obtain ⟨t, n, s⟩ := q
  cases t <;> simp [Ord.P.plain] at this ⊢
  exact this
theorem str_eq_iff (x y : List UInt8) : ((str x).toList == (str y).toList) = decide (x = y) := by
  rw [Lib.toList_data, Lib.toList_data, str_data, str_data, Bool.eq_iff_iff, beq_iff_eq, decide_eq_true_iff]
theorem bool_eq {x y : Bool} (h : y = true ↔ x = true) : x = y := by
  cases x <;> cases y <;> simp at h ⊢
theorem below_of {w w1 w2 : World} (h : Below w.heap.size w w1) (k : Below w1.heap.size w1 w2) : Below w.heap.size w w2 := below_step h k
set_option maxHeartbeats 4000000 in
set_option maxRecDepth 100000 in
theorem keeps_walk (v u : Value) (l r : List Ord.P) (hll : l.length ≤ maxLen) (hlr : r.length ≤ maxLen) (hnl : ∀ p ∈ l, p.n < 18446744073709551616) (hnr : ∀ p ∈ r, p.n < 18446744073709551616)
    (m : Int) (w : World) (hm : w.cell? ⟨0, 0, none⟩ = some (.int .i64 m)) (hv : Sl w v l) (hu : Sl w u r) :
    Calls Tryd.prog 4 #[v, u] w fun e w' => e = .returned (.bool true) ∧ Below w.heap.size w w' := by
  have h0 := World.block_lt_of_cell? _ _ hm
  have HM : Hid (∀ W, Below w.heap.size w W → W.cell? ⟨0, 0, none⟩ = some (.int .i64 m)) := fun W hW => (hW.cell (p := ⟨0, 0, none⟩) h0).trans hm
  go_enter Tryd.func4, Tryd.ntmps4
  go_wp2_with (first
    | (go_at_call 7; refine (awake_any m _ hm).mono ?_; rintro e w1 ⟨rfl, hb1⟩)
    | (go_at_call 8; refine (light_any v l hll _ (hv.below hb1)).mono ?_))
  rintro e w2 ⟨x, rfl, hxl, hb2⟩
  have hB2 := below_step hb1 hb2
  cases x
  · go_wp2
    go_ret
    exact ⟨rfl, hB2⟩
  obtain ⟨hl40, hls⟩ := hxl rfl
  go_wp2_with (go_at_call 8; refine (light_any u r hlr _ (hu.below hB2)).mono ?_)
  rintro e w3 ⟨x, rfl, hxr, hb3⟩
  have hB3 := below_step hB2 hb3
  cases x
  · go_wp2
    go_ret
    exact ⟨rfl, hB3⟩
  obtain ⟨hr40, hrs⟩ := hxr rfl
  have HOL := Lib.hid (plain_ok l hnl)
  have HOR := Lib.hid (plain_ok r hnr)
  have HSL := Lib.hid (plain_small l hnl hls)
  have HSR := Lib.hid (plain_small r hnr hrs)
  have hll1 : (l.map Ord.P.plain).length ≤ 1000 := by rw [List.length_map]; omega
  have hlr1 : (r.map Ord.P.plain).length ≤ 1000 := by rw [List.length_map]; omega
  clear hxl hxr hls hrs hnl hnr
  have HP1 := Lib.hid (fun W (h : Sl W v l) => plain_any v l (by omega) W h)
  have HP2 := Lib.hid (fun W (h : Sl W u r) => plain_any u r (by omega) W h)
  have HV := Lib.hid hv
  have HU := Lib.hid hu
  clear hv hu hll hlr hl40 hr40
  revert HP1 HP2 HOL HOR HSL HSR hll1 hlr1
  generalize l.map Ord.P.plain = L
  generalize r.map Ord.P.plain = R
  intro HOL HOR HSL HSR hll1 hlr1 HP1 HP2
  go_wp2_with (go_at_call_of 19 v; refine (HP1.out _ (HV.out.below hB3)).mono ?_)
  rintro e w4 ⟨a1, n1, c1, rfl, hc1, rfl, hs1, hb4⟩
  have hB4 := below_step hB3 hb4
  go_wp2_with (go_at_call_of 19 u; refine (HP2.out _ (HU.out.below hB4)).mono ?_)
  rintro e w5 ⟨a2, n2, c2, rfl, hc2, rfl, hs2, hb5⟩
  have HB5 := Lib.hid (below_step hB4 hb5)
  have HS1 := Lib.hid (hs1.below hb5)
  have HS2 := Lib.hid hs2
  have HK1 : Hid (∀ W, Below w5.heap.size w5 W → Calls Tryd.prog 9 #[.slice a1 L.length c1] W fun e w' => e = .returned (keyOut L) ∧ Below W.heap.size W w') :=
    fun W hW => key_any _ L hll1 m W (HS1.out.below hW) HSL.out (HM.out W (below_step HB5.out hW))
  have HK2 : Hid (∀ W, Below w5.heap.size w5 W → Calls Tryd.prog 9 #[.slice a2 R.length c2] W fun e w' => e = .returned (keyOut R) ∧ Below W.heap.size W w') :=
    fun W hW => key_any _ R hlr1 m W (HS2.out.below hW) HSR.out (HM.out W (below_step HB5.out hW))
  clear hs1 hs2 hB4 hb4 hb5 hB3 hb3 hB2 hb2 hb1 HP1 HP2 HV HU
  have HKE := Lib.hid (Ord.keeps L R HOL.out HOR.out)
  by_cases hkL : (Ord.key L).length ≤ 255
  · rw [keyOut_ok L hkL] at HK1
    by_cases hkR : (Ord.key R).length ≤ 255
    · rw [keyOut_ok R hkR] at HK2
      obtain ⟨E, hE, hEq⟩ : ∃ E : Bool, Hid (E = true ↔ L = R) ∧ ((str (Ord.key L)).toList == (str (Ord.key R)).toList) = E := by
        refine ⟨_, ?_, rfl⟩
        show _ ↔ _
        rw [str_eq_iff, decide_eq_true_iff]
        exact HKE.out.2.1
      obtain ⟨Q, hQ, HP⟩ : ∃ Q : Bool, Hid (Q = true ↔ L <+: R) ∧ Hid (∀ W, Calls Tryd.prog 22 #[.string (str (Ord.key R)), .string (str (Ord.key L))] W fun e w' => e = .returned (.bool Q) ∧ W = w') := by
        refine ⟨_, ?_, fun W => hasPrefix_any _ _ W⟩
        show _ ↔ _
        rw [str_data, str_data]
        exact List.isPrefixOf_iff_prefix.trans HKE.out.2.2
      have hLt : Op.bytesLess (str (Ord.key L)).toList (str (Ord.key R)).toList = Ord.lessR L R := by rw [str_less]; exact HKE.out.1.symm
      have HLS := Lib.hid (fun W hL hR => lessRow_any (.slice a1 L.length c1) (.slice a2 R.length c2) L R hll1 hlr1 W hL hR)
      revert hLt hEq HK1 HK2 HLS HP
      generalize str (Ord.key L) = X
      generalize str (Ord.key R) = Y
      generalize Ord.lessR L R = Z
      intro HK1 HK2 hEq HP hLt HLS
      have HSM := Lib.hid (fun W (hW : Below w5.heap.size w5 W) => same_any (.slice a1 L.length c1) (.slice a2 R.length c2) L R hll1 (by unfold maxLen; omega) W (HS1.out.below hW) (HS2.out.below hW))
      clear hkL hkR
      by_cases hle : L.length ≤ R.length
      · have hleI : (L.length : Int) ≤ (R.length : Int) := by omega
        have hmin : min (L.length : Int) (R.length : Int) = (L.length : Int) := by omega
        have hcI : (L.length : Int) ≤ (c2 : Int) := by omega
        have HSB := Lib.hid (fun W (hW : Below w5.heap.size w5 W) => same_any (.slice a1 L.length c1) (.slice a2 L.length c2) L (R.take L.length) hll1 (by unfold maxLen; rw [List.length_take]; omega) W (HS1.out.below hW) ((HS2.out.take L.length hle).below hW))
        go_wp2_with (first
          | (go_at_call_of 9 (Value.slice a1 L.length c1); refine (HK1.out _ (Below.refl _ _)).mono ?_; rintro e w6 ⟨rfl, hb6⟩)
          | (go_at_call_of 9 (Value.slice a2 R.length c2); refine (HK2.out _ hb6).mono ?_; rintro e w7 ⟨rfl, hb7⟩)
          | (go_at_call 21; refine (HSB.out _ (below_step hb6 hb7)).mono ?_))
        rintro e w8 ⟨x, rfl, hx, hb8⟩
        obtain rfl : x = Q := by
          have h1 := hQ.out
          have h2 : L <+: R ↔ L = R.take L.length := List.prefix_iff_eq_take
          rw [h2, ← hx] at h1
          exact bool_eq h1
        clear hx
        have hB8 := below_step (below_step hb6 hb7) hb8
        go_wp2_with (first
          | (go_at_call 18; refine (HLS.out _ (HS1.out.below hB8) (HS2.out.below hB8)).mono ?_; rintro e w9 ⟨rfl, hb9⟩)
          | (go_at_call 21; refine (HSM.out _ (below_step hB8 hb9)).mono ?_))
        rintro e w10 ⟨y, rfl, hy, hb10⟩
        obtain rfl : y = E := by
          have h1 := hE.out
          rw [← hy] at h1
          exact bool_eq h1
        clear hy
        go_wp2_with (go_at_call 22; refine (HP.out _).mono ?_; rintro e w11 ⟨rfl, rfl⟩)
        go_ret
        exact ⟨rfl, below_step (below_step (below_step HB5.out hB8) hb9) hb10⟩
      · have hleI : ¬ (L.length : Int) ≤ (R.length : Int) := by omega
        obtain rfl : Q = false := by
          have h1 := hQ.out
          cases Q
          · rfl
          · exact absurd (h1.1 rfl).length_le hle
        go_wp2_with (first
          | (go_at_call_of 9 (Value.slice a1 L.length c1); refine (HK1.out _ (Below.refl _ _)).mono ?_; rintro e w6 ⟨rfl, hb6⟩)
          | (go_at_call_of 9 (Value.slice a2 R.length c2); refine (HK2.out _ hb6).mono ?_; rintro e w7 ⟨rfl, hb7⟩)
          | (go_at_call 18; refine (HLS.out _ (HS1.out.below (below_step hb6 hb7)) (HS2.out.below (below_step hb6 hb7))).mono ?_; rintro e w9 ⟨rfl, hb9⟩)
          | (go_at_call 21; refine (HSM.out _ (below_step (below_step hb6 hb7) hb9)).mono ?_))
        rintro e w10 ⟨y, rfl, hy, hb10⟩
        obtain rfl : y = E := by
          have h1 := hE.out
          rw [← hy] at h1
          exact bool_eq h1
        clear hy
        go_wp2_with (go_at_call 22; refine (HP.out _).mono ?_; rintro e w11 ⟨rfl, rfl⟩)
        go_ret
        exact ⟨rfl, below_step (below_step (below_step (below_step HB5.out hb6) hb7) hb9) hb10⟩
    · rw [keyOut_long R hkR] at HK2
      go_wp2_with (first
        | (go_at_call_of 9 (Value.slice a1 L.length c1); refine (HK1.out _ (Below.refl _ _)).mono ?_; rintro e w6 ⟨rfl, hb6⟩)
        | (go_at_call_of 9 (Value.slice a2 R.length c2); refine (HK2.out _ hb6).mono ?_; rintro e w7 ⟨rfl, hb7⟩))
      go_ret
      exact ⟨rfl, below_step (below_step HB5.out hb6) hb7⟩
  · rw [keyOut_long L hkL] at HK1
    have HR : Hid (∃ x f, keyOut R = .tuple #[.string x, .int .i64 f]) := by
      by_cases hkR : (Ord.key R).length ≤ 255
      · exact ⟨_, _, keyOut_ok R hkR⟩
      · exact ⟨_, _, keyOut_long R hkR⟩
    obtain ⟨x, f, hxf⟩ := HR.out
    rw [hxf] at HK2
    clear hxf HR
    go_wp2_with (first
      | (go_at_call_of 9 (Value.slice a1 L.length c1); refine (HK1.out _ (Below.refl _ _)).mono ?_; rintro e w6 ⟨rfl, hb6⟩)
      | (go_at_call_of 9 (Value.slice a2 R.length c2); refine (HK2.out _ hb6).mono ?_; rintro e w7 ⟨rfl, hb7⟩))
    go_ret
    exact ⟨rfl, below_step (below_step HB5.out hb6) hb7⟩
end Go.Proofs.YtgkonmidgeanmaaDoor
