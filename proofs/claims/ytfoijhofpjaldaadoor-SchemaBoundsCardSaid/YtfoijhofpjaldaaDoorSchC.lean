/- The walk of the law SchemaBounds. -/
import Derived.Test.YtfoijhofpjaldaaDoorSchB
set_option maxRecDepth 100000
set_option maxHeartbeats 4000000
set_option linter.unusedVariables false
namespace Go.Proofs.YtfoijhofpjaldaaDoor
open Go.RowKit
theorem aft_two : ∀ x : List UInt8, ∀ b : UInt8, b ≠ 255 → (aft (b :: x)).2 = true ∧ (aft (b :: x)).1 ≠ [] := by
  intro x b hb
  cases hx : aft x with
  | mk y ok =>
    cases ok <;> simp [aft, hx, hb]
theorem less_asymm : ∀ u v : List UInt8, Ord.less u v = true → Ord.less v u = false
  | [], [], h => by cases h
  | [], _ :: _, _ => rfl
  | _ :: _, [], h => by cases h
  | a :: u, b :: v, h => by
    have ih := less_asymm u v
    simp only [Ord.less, Bool.or_eq_true, decide_eq_true_iff, Bool.and_eq_true, beq_iff_eq] at h
    rcases h with h1 | ⟨rfl, h2⟩
    · have h2 : ¬ b < a := fun h3 => by rw [UInt8.lt_iff_toNat_lt] at h1 h3; omega
      have h4 : ¬ b = a := fun h3 => by rw [h3, UInt8.lt_iff_toNat_lt] at h1; omega
      simp [Ord.less, h2, h4]
    · have h3 : ¬ a < a := fun h3 => by rw [UInt8.lt_iff_toNat_lt] at h3; omega
      simp [Ord.less, h3, ih h2]
theorem bl (a b : ByteArray) : Op.bytesLess a.toList b.toList = Ord.less a.data.toList b.data.toList := by
  rw [Lib.toList_data, Lib.toList_data, op_less]
/-- What the law asks of a key's bytes, of what is behind them, and of a text. -/
structure FinK (K : List UInt8) (T : List UInt8) (key : ByteArray) (P : Bool) : Prop where
  ne : T ≠ []
  up : Op.bytesLess (str K).toList (str T).toList = true
  dn : Op.bytesLess (str T).toList (str K).toList = false
  nq : ((str T).toList == (str K).toList) = false
  sp : (Op.bytesLess key.toList (str K).toList = false ∧ Op.bytesLess key.toList (str T).toList = true) ↔ P = true
theorem fin_of (K : List UInt8) (hK : ∃ x, K = 2 :: x) (key : ByteArray) : FinK K (aft K).1 key (pre K key.data.toList) := by
  obtain ⟨x, rfl⟩ := hK
  obtain ⟨h1, h2⟩ := aft_two x 2 (by decide)
  have hs := aft_spec (2 :: x) (2 :: x)
  have hk := aft_spec (2 :: x) key.data.toList
  have hpre : (pre (2 :: x) key.data.toList = true) ↔ (2 :: x) <+: key.data.toList := List.isPrefixOf_iff_prefix
  rw [← hpre] at hk
  rw [h1] at hs hk
  simp only [Bool.true_eq_false, false_or] at hs hk
  have hup := (hs.2 (List.prefix_refl _)).2
  have hnl : Ord.less (aft (2 :: x)).1 (2 :: x) = false := by
    cases h : Ord.less (aft (2 :: x)).1 (2 :: x)
    · rfl
    · exact absurd hup (by rw [less_asymm _ _ h]; decide)
  refine ⟨h2, ?_, ?_, ?_, ?_⟩
  · rw [bl]; exact hup
  · rw [bl]; exact hnl
  · rw [Lib.toList_data, Lib.toList_data, str_data, str_data]
    rw [beq_eq_false_iff_ne]
    intro e
    have := hup
    rw [e, Ord.less_self] at this
    cases this
  · rw [bl, bl, str_data, str_data]; exact hk
theorem info27 : (Tryd.prog.info? 27).map (fun i => (i.zero, i.size, i.bytes)) = some (some (.agg #[.bool false, .int .u64 0, .string ByteArray.empty]), 3, 32) := by kernel_rfl
theorem Sls.two (w : World) (s t : ByteArray) (T : TypeId) : Sls (w.alloc (.cells #[.string s, .string t] T)) (.slice (some ⟨w.heap.size, 0, none⟩) 2 2) [s, t] := by
  refine ⟨w.heap.size, 0, 2, rfl, fun j r hj => ?_⟩
  match j, hj with
  | 0, hj => simp at hj; subst hj; simp
  | 1, hj => simp at hj; subst hj; simp
  | (j + 2), hj => simp at hj
theorem Sls.one (w : World) (s : ByteArray) (T : TypeId) : Sls (w.alloc (.cells #[.string s] T)) (.slice (some ⟨w.heap.size, 0, none⟩) 1 1) [s] := by
  refine ⟨w.heap.size, 0, 1, rfl, fun j r hj => ?_⟩
  match j, hj with
  | 0, hj => simp at hj; subst hj; simp
  | (j + 1), hj => simp at hj
theorem light2 (s t : ByteArray) (x : Bool) (hx : x = (decide (s.size ≤ 400) && decide (t.size ≤ 400))) (w : World) (T : TypeId) :
    Calls Tryd.prog 5 #[.slice (some ⟨w.heap.size, 0, none⟩) 2 2] (w.alloc (.cells #[.string s, .string t] T)) fun e w' => e = .returned (.bool x) ∧ w.alloc (.cells #[.string s, .string t] T) = w' := by
  have := light18 _ [s, t] (by simp) _ (Sls.two w s t T)
  subst hx
  simpa using this
theorem light1 (s : ByteArray) (x : Bool) (hx : x = decide (s.size ≤ 400)) (w : World) (T : TypeId) :
    Calls Tryd.prog 5 #[.slice (some ⟨w.heap.size, 0, none⟩) 1 1] (w.alloc (.cells #[.string s] T)) fun e w' => e = .returned (.bool x) ∧ w.alloc (.cells #[.string s] T) = w' := by
  have := light18 _ [s] (by simp) _ (Sls.one w s T)
  subst hx
  simpa using this
theorem light1_at (s : ByteArray) (x : Bool) (hx : x = decide (s.size ≤ 400)) (w : World) (g : Nat) (T : TypeId) (hg : w.heap.size = g) :
    Calls Tryd.prog 5 #[.slice (some ⟨g, 0, none⟩) 1 1] (w.alloc (.cells #[.string s] T)) fun e w' => e = .returned (.bool x) ∧ w.alloc (.cells #[.string s] T) = w' := by
  subst hg; exact light1 s x hx w T
theorem cellsP_gat (w : World) (p : Ord.P) (T : TypeId) (g : Nat) (hg : w.heap.size = g) : ∀ (j : Nat) u, (cellsP p)[j]? = some u →
    (w.alloc (.cells #[.bool p.t, .int .u64 p.n, .string (str p.s)] T)).cell? ((⟨g, 0, none⟩ : Addr).add j) = some u := by
  subst hg
  intro j u hj
  match j, hj with
  | 0, hj => simp [cellsP] at hj; subst hj; simp [Addr.add]
  | 1, hj => simp [cellsP] at hj; subst hj; simp [Addr.add]
  | 2, hj => simp [cellsP] at hj; subst hj; simp [Addr.add]
  | (j + 3), hj => simp [cellsP] at hj
theorem sizeAA (w : World) (o1 o2 : Obj) : ((w.alloc o1).alloc o2).heap.size = w.heap.size + 1 + 1 := by simp
theorem sizeA (w : World) (o : Obj) : (w.alloc o).heap.size = w.heap.size + 1 := by simp
set_option maxHeartbeats 4000000 in
theorem bounds18 (sort key : ByteArray) (v : Value) (l : List Ord.P) (hll : l.length ≤ maxLen) (hn : ∀ p ∈ l, p.n < 18446744073709551616) (m : Int) (w : World) (hm : w.cell? ⟨0, 0, none⟩ = some (.int .i64 m)) (hv : Slin w v l) (hs : Sl w v l) :
    Calls Tryd.prog 3 #[.string sort, v, .string key] w fun e w' => e = .returned (.bool true) ∧ Below w.heap.size w w' := by
  have h0 := World.block_lt_of_cell? _ _ hm
  have HM : Hid (∀ W, Below w.heap.size w W → W.cell? ⟨0, 0, none⟩ = some (.int .i64 m)) := fun W hW => (hW.cell (p := ⟨0, 0, none⟩) h0).trans hm
  have HV : Hid (∀ W, Below w.heap.size w W → Slin W v l) := fun W hW => hv.below hW
  have HAW := Lib.hid (awake18 m w hm)
  have HN := Lib.hid hn
  obtain ⟨i0, hi, hz0, hz1, hz2⟩ := info_parts info27
  clear hv hn hm h0
  obtain ⟨a, b, o, c, rfl, ha, hx⟩ := hs
  have HX := Lib.hid hx
  have HA := Lib.hid ha
  clear ha hx
  unfold maxLen at hll
  by_cases h5 : (5 : Int) < l.length
  · go_enter Tryd.func3, Tryd.ntmps3
    go_wp2_with (go_at_call 4; refine HAW.out.mono ?_; rintro e w1 ⟨rfl, hb1⟩)
    go_ret
    exact ⟨rfl, hb1⟩
  · obtain ⟨x, hx⟩ : ∃ x, x = (decide (sort.size ≤ 400) && decide (key.size ≤ 400)) := ⟨_, rfl⟩
    have HL2 := Lib.hid (fun W T => light2 sort key x hx W T)
    cases x
    · clear hx
      go_enter Tryd.func3, Tryd.ntmps3
      go_wp2_with (first
        | (go_at_call 4; refine HAW.out.mono ?_; rintro e w1 ⟨rfl, hb1⟩)
        | (go_at_call 5; refine (HL2.out _ _).mono ?_; rintro e w2 ⟨rfl, rfl⟩))
      go_ret
      exact ⟨rfl, below_step hb1 ((Below.refl _ _).alloc (Nat.le_refl _) _)⟩
    · have hso : sort.size ≤ 400 := by
        have h := hx.symm
        rw [Bool.and_eq_true] at h
        simpa using h.1
      clear hx
      have hst := refStr_any sort.data.toList
      rw [str_eq] at hst
      have HST := Lib.hid hst
      clear hst
      go_enter Tryd.func3, Tryd.ntmps3
      go_wp2_with (first
        | (go_at_call 4; refine HAW.out.mono ?_; rintro e w1 ⟨rfl, hb1⟩)
        | (go_at_call 5; refine (HL2.out _ _).mono ?_; rintro e w2 ⟨rfl, rfl⟩)
        | (go_at_call 6; refine (HST.out _).mono ?_; rintro e w3 ⟨rfl, hb3⟩))
      have HB3 : Hid (Below w.heap.size w w3) := below_step (below_step hb1 ((Below.refl _ _).alloc (Nat.le_refl _) _)) hb3
      have HO3 := Lib.hid (World.ownsRow_lit (base := w.heap.size) (e := 27) (size := 3) w3 #[.bool true, .int .u64 0, .string sort] 1 HB3.out.size (by decide) rfl)
      have HB4 := Lib.hid (HB3.out.alloc HB3.out.size (.cells #[.bool true, .int .u64 0, .string sort] 27))
      clear HB3 hb1 hb3 HL2 HST HAW
      revert HO3 HB4
      generalize w3.alloc (.cells #[.bool true, .int .u64 0, .string sort] 27) = w4
      generalize w3.heap.size = g3
      intro HO3 HB4
      go_loopg [7, 32] l.length (fun g r i wr => ∃ k : Nat, k ≤ l.length ∧ g = l.length - k ∧ i = .int .i64 k ∧ Hid (∀ p ∈ l.take k, p.s.length ≤ 400) ∧ Hid (wr.ownsRow w.heap.size 27 3 r (1 + k) (cellsP ⟨true, 0, sort.data.toList⟩ ++ (l.take k).flatMap cellsP)) ∧ Hid (Below w.heap.size w wr))
      case atStart => exact ⟨0, Nat.zero_le _, rfl, rfl, (fun p hp => by simp at hp), HO3.out, HB4.out⟩
      case round =>
        obtain ⟨k, hk, rfl, rfl, HP, HO, HB⟩ := hrel
        by_cases hlt : k < l.length
        · obtain ⟨p, hp⟩ : ∃ p, l[k]? = some p := ⟨_, List.getElem?_eq_getElem hlt⟩
          obtain ⟨e0, e1, e2⟩ := HX.out k p hp
          have hblt : b < w.heap.size := World.block_lt_of_cell? _ _ e0
          have d0 := (HB.out.cell (p := ⟨b, o + k * 3, none⟩) hblt).trans e0
          have d1 := (HB.out.cell (p := ⟨b, o + k * 3 + 1, none⟩) hblt).trans e1
          have d2 := (HB.out.cell (p := ⟨b, o + k * 3 + 2, none⟩) hblt).trans e2
          obtain rfl : a = some ⟨b, o, none⟩ := by
            rcases HA.out with h | h
            · rw [h] at hlt; cases hlt
            · exact h
          clear e0 e1 e2
          have HT : Hid (p.s.length ≤ 400 → ∀ q ∈ l.take (k + 1), q.s.length ≤ 400) := by
            intro h q hq
            obtain ⟨hk', he⟩ := List.getElem?_eq_some_iff.1 hp
            rw [List.take_succ_eq_append_getElem hk', List.mem_append] at hq
            rcases hq with hq | hq
            · exact HP.out q hq
            · simp at hq; subst hq; rw [he]; exact h
          have HSN : Hid ((l.take (k + 1)).flatMap cellsP = (l.take k).flatMap cellsP ++ cellsP p) := by
            obtain ⟨hk', he⟩ := List.getElem?_eq_some_iff.1 hp
            show _ = _
            rw [List.take_succ_eq_append_getElem hk', List.flatMap_append, he]
            simp
          clear hp
          obtain ⟨t, n, s⟩ := p
          simp only at d0 d1 d2 HT
          obtain ⟨y, hy⟩ : ∃ y, y = decide ((str s).size ≤ 400) := ⟨_, rfl⟩
          have HL1 := Lib.hid (fun W g T hg => light1_at (str s) y hy W g T hg)
          have hsz := HB.out.size
          cases y
          · clear hy HT HSN
            go_wp2_with (go_at_call 5; refine (HL1.out _ _ _ (sizeA _ _)).mono ?_; rintro e w5 ⟨rfl, rfl⟩)
            go_ret
            exact ⟨rfl, (HB.out.alloc hsz _).alloc (by simp; omega) _⟩
          · have hs4 : s.length ≤ 400 := by
              have h := hy.symm
              rw [decide_eq_true_iff, str_size] at h
              exact h
            clear hy
            have HTT := Lib.hid (HT.out hs4)
            clear HT hs4
            go_wp2_with (first
              | (go_at_call 5; refine (HL1.out _ _ _ (sizeA _ _)).mono ?_; rintro e w5 ⟨rfl, rfl⟩)
              | (at_builtin; refine wpList_append_own _ rfl _ _ 29 rfl w.heap.size 27 i0 _ 3 32 Tryd.underlying29 hi hz0 hz1 hz2 rfl (by decide) _ (1 + k) _ rfl (((HO.out.alloc _).alloc _).alloc _) ⟨wr.heap.size + 1 + 1, 0, none⟩ 1 1 (cellsP ⟨t, n, s⟩) rfl rfl ?c1 ?c2 ?c3 ?c4 ?c5 ?_))
            case c1 => exact cellsP_gat _ ⟨t, n, s⟩ _ _ (sizeAA _ _ _)
            case c2 => exact cellsP_one _
            case c3 => unfold maxLen; omega
            case c4 => omega
            case c5 => simp; omega
            intro v' w6 hown' hgrow _
            have HO' : Hid (w6.ownsRow w.heap.size 27 3 v' (1 + (k + 1)) (cellsP ⟨true, 0, sort.data.toList⟩ ++ (l.take (k + 1)).flatMap cellsP)) := by
              show w6.ownsRow w.heap.size 27 3 v' (1 + (k + 1)) _
              rw [HSN.out, ← List.append_assoc]
              exact hown'
            have HB' : Hid (Below w.heap.size w w6) := (((HB.out.alloc hsz _).alloc (by simp; omega) _).alloc (by simp; omega) _).grown hgrow (by simp; omega) (fun g hg => (HO.out.lt g hg).1)
            clear hown' hgrow
            go_wp2
            go_roundg (l.length - (k + 1))
            case measure => omega
            case rel => exact ⟨k + 1, by omega, rfl, by go_num, HTT.out, HO', HB'⟩
        · obtain rfl : k = l.length := by omega
          rw [List.take_length] at HP HO
          have HSL : Hid (Sl wr u7 (⟨true, 0, sort.data.toList⟩ :: l)) := by
            have h := HO.out
            rw [show cellsP ⟨true, 0, sort.data.toList⟩ ++ l.flatMap cellsP = ((⟨true, 0, sort.data.toList⟩ : Ord.P) :: l).flatMap cellsP by rw [List.flatMap_cons], Nat.add_comm] at h
            exact Sl.own h
          have hso' : sort.data.toList.length ≤ 400 := by simpa using hso
          have hall : ∀ p ∈ l, p.n < 18446744073709551616 ∧ p.s.length ≤ 400 := fun p hp => ⟨HN.out p hp, HP.out p hp⟩
          have HU := Lib.hid (fun W hW hv => under_any sort.data.toList (.slice a l.length c) l (by omega) hso' hall m W (HM.out W hW) hv)
          rw [str_eq] at HU
          have HK := Lib.hid (fun W (hW : Sl W u7 (⟨true, 0, sort.data.toList⟩ :: l)) => refKey_any u7 (⟨true, 0, sort.data.toList⟩ :: l) (by simp; omega) W hW (by intro p hp; rcases List.mem_cons.1 hp with rfl | hp; exact ⟨by show 0 < _; decide, hso'⟩; exact hall p hp))
          have HVV := Lib.hid (HV.out wr HB.out)
          have HFN := Lib.hid (fin_of (Ord.key (⟨true, 0, sort.data.toList⟩ :: l)) ⟨_, key_head _ _⟩ key)
          have HHP := Lib.hid (fun W => hasPrefix_any key (str (Ord.key (⟨true, 0, sort.data.toList⟩ :: l))) W)
          rw [str_data] at HHP
          have hko : keyOut (⟨true, 0, sort.data.toList⟩ :: l) = if (Ord.key (⟨true, 0, sort.data.toList⟩ :: l)).length ≤ 255 then .tuple #[.string (str (Ord.key (⟨true, 0, sort.data.toList⟩ :: l))), .int .i64 0] else .tuple #[.string ⟨#[]⟩, .int .i64 5] := rfl
          rw [hko] at HK
          clear hko hall hso' HP HO HX HA HN HV
          unfold underOut at HU
          revert HU HK HFN HHP
          generalize Ord.key (⟨true, 0, sort.data.toList⟩ :: l) = K
          intro HU HK HFN HHP
          by_cases hk : K.length ≤ 255
          · rw [if_pos hk] at HU HK
            clear hk
            generalize pre K key.data.toList = P at HFN HHP
            generalize (aft K).1 = T at HU HFN
            obtain ⟨f1, f2, f3, f4, f5⟩ := HFN.out
            clear HFN
            have ht : (str T).toList.isEmpty = false := by
              rw [Lib.toList_data, str_data]
              cases T with
              | nil => exact absurd rfl f1
              | cons a l => rfl
            clear f1
            generalize str K = X at HU HK HHP f2 f3 f4 f5
            generalize str T = Y at HU f2 f3 f4 f5 ht
            rcases hu : Op.bytesLess key.toList X.toList <;> rcases hv : Op.bytesLess key.toList Y.toList <;> cases P
            all_goals (first | (exfalso; rw [hu, hv] at f5; simp at f5; done) | skip)
            all_goals
              (clear f5
               go_wp2_with (first
                 | (go_at_call 7; refine (HU.out _ HB.out HVV.out).mono ?_; rintro e w5 ⟨rfl, hb5⟩)
                 | (go_at_call 8; refine (HK.out _ (HSL.out.below hb5)).mono ?_; rintro e w6 ⟨rfl, hb6⟩)
                 | (go_at_call 9; refine (HHP.out _).mono ?_; rintro e w7 ⟨rfl, rfl⟩))
               go_ret
               exact ⟨rfl, below_step (below_step HB.out hb5) hb6⟩)
          · rw [if_neg hk] at HU HK
            clear hk
            go_wp2_with (first
              | (go_at_call 7; refine (HU.out _ HB.out HVV.out).mono ?_; rintro e w5 ⟨rfl, hb5⟩)
              | (go_at_call 8; refine (HK.out _ (HSL.out.below hb5)).mono ?_; rintro e w6 ⟨rfl, hb6⟩))
            go_ret
            exact ⟨rfl, below_step (below_step HB.out hb5) hb6⟩
end Go.Proofs.YtfoijhofpjaldaaDoor
