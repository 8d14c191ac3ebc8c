/- The contract of the document's own Key. -/
import Derived.Test.YtfoijhofpjaldaaDoorRefs2
set_option maxRecDepth 100000
set_option maxHeartbeats 4000000
set_option linter.unusedVariables false
namespace Go.Proofs.YtfoijhofpjaldaaDoor
open Go.RowKit
theorem big2 (x : Int) (n : Nat) (hx : x = n) (hn : n < 65536) (w : World) :
    Calls Tryd.prog 14 #[.int .u64 x, .int .i64 2] w fun e w' => e = .returned (.string (str (Oc.big 2 n))) ∧ Below w.heap.size w w' := big_any x n 2 hx (by omega) (by omega) (by omega) w
theorem big8 (x : Int) (n : Nat) (hx : x = n) (hn : n < 18446744073709551616) (w : World) :
    Calls Tryd.prog 14 #[.int .u64 x, .int .i64 8] w fun e w' => e = .returned (.string (str (Oc.big 8 n))) ∧ Below w.heap.size w w' := big_any x n 8 hx (by omega) (by omega) (by omega) w
theorem esc_take (t : List UInt8) (j : Nat) (c : UInt8) (h : t[j]? = some c) : Ord.esc (t.take (j + 1)) = Ord.esc (t.take j) ++ (if c = 0 then [0, 255] else [c]) := by
  obtain ⟨hj, he⟩ := List.getElem?_eq_some_iff.1 h
  rw [List.take_succ_eq_append_getElem hj, Ord.esc_append, he]
  congr 1
theorem esc_take_len (t : List UInt8) (j : Nat) : (Ord.esc (t.take j)).length ≤ 2 * t.length := by
  have h1 := Ord.esc_length_ge (t.take j)
  have h2 : (t.take j).length ≤ t.length := by rw [List.length_take]; omega
  omega
theorem extract_one (t : List UInt8) (j : Nat) (c : UInt8) (h : t[j]? = some c) : (str t).extract j (j + 1) = str [c] := by
  obtain ⟨hj, he⟩ := List.getElem?_eq_some_iff.1 h
  apply ByteArray.ext
  simp only [str]
  rw [ByteArray.data_extract]
  apply Array.ext
  · simp; omega
  · intro i h1 h2
    simp at h2
    subst h2
    simp [he]
theorem slice_one (t : List UInt8) (j : Nat) (c : UInt8) (h : t[j]? = some c) (W : World) :
    (Instr.slice 9 (.string (str t)) (some (.int .i64 j)) (some (.int .i64 ((j : Int) + 1))) none).run Tryd.prog W = .ok (.string (str [c])) W := by
  have hj := (List.getElem?_eq_some_iff.1 h).1
  rw [run_slice_string W 9 (str t) .i64 .i64 j ((j : Int) + 1) Tryd.underlying9 (by omega) (by omega) (by rw [str_size]; omega), ← extract_one t j c h]
  rfl
theorem str_at (t : List UInt8) (j : Nat) (c : UInt8) (h : t[j]? = some c) : ∀ hh : j < (str t).size, ((str t)[j]'hh).toNat = c.toNat := by
  intro hh
  obtain ⟨hj, he⟩ := List.getElem?_eq_some_iff.1 h
  show (t.toArray[j]'(by simpa using hj)).toNat = _
  simp [he]
theorem below_step' {B : Nat} {a b c : World} (h : Below B a b) (k : Below b.heap.size b c) (hB : B ≤ a.heap.size := by exact Nat.le_refl _) : Below B a c := h.trans (k.mono (Nat.le_trans hB h.size))
set_option maxHeartbeats 4000000 in
set_option maxRecDepth 100000 in
theorem refKey_any (v : Value) (l : List Ord.P) (hll : l.length ≤ 1000) (w : World) (hv : Sl w v l) (hl : ∀ p ∈ l, p.n < 18446744073709551616 ∧ p.s.length ≤ 400) :
    Calls Tryd.prog 8 #[v] w fun e w' => e = .returned (keyOut l) ∧ Below w.heap.size w w' := by
  have HL := Lib.hid hl
  clear hl
  obtain ⟨a, b, o, c, rfl, ha, hx⟩ := hv
  have HX := Lib.hid hx
  have HA := Lib.hid ha
  clear ha hx
  have hz := big_size
  go_enter Tryd.func8, Tryd.ntmps8
  go_wp2
  go_loopg [4, 10] l.length (fun g s i wr => ∃ k : Nat, k ≤ l.length ∧ g = l.length - k ∧ i = .int .i64 k ∧ s = .string (str (Ord.key (l.take k))) ∧ Hid ((Ord.key (l.take k)).length ≤ 255) ∧ Hid (Below w.heap.size w wr))
  case atStart => exact ⟨0, Nat.zero_le _, rfl, rfl, rfl, Nat.zero_le _, Below.refl _ _⟩
  case round =>
    obtain ⟨k, hk, rfl, rfl, rfl, HK, HB⟩ := hrel
    have hsz : (str (Ord.key (l.take k))).size = (Ord.key (l.take k)).length := rfl
    by_cases hlt : k < l.length
    · obtain ⟨p, hp⟩ : ∃ p, l[k]? = some p := ⟨_, List.getElem?_eq_getElem hlt⟩
      have HS := Lib.hid (key_snoc l k p hp)
      have HT2 := Lib.hid (key_take_le l (k + 1))
      obtain ⟨hpn, hps⟩ := HL.out p (List.mem_of_getElem? hp)
      obtain ⟨e0, e1, e2⟩ := HX.out k p hp
      have hblt : b < w.heap.size := World.block_lt_of_cell? _ _ e0
      have d0 := (HB.out.cell (p := ⟨b, o + k * 3, none⟩) hblt).trans e0
      have d1 := (HB.out.cell (p := ⟨b, o + k * 3 + 1, none⟩) hblt).trans e1
      have d2 := (HB.out.cell (p := ⟨b, o + k * 3 + 2, none⟩) hblt).trans e2
      obtain rfl : a = some ⟨b, o, none⟩ := by
        rcases HA.out with h | h
        · rw [h] at hlt; cases hlt
        · exact h
      clear e0 e1 e2 hp
      revert HS HT2 hsz HK
      generalize Ord.key (l.take k) = K
      generalize hK1 : Ord.key (l.take (k + 1)) = K1
      intro HK hsz HS HT2
      have HK1 := Lib.hid hK1
      clear hK1
      have hkl := HK.out
      have HB0 := Lib.hid (HB.out.alloc HB.out.size (.cells #[.bool p.t, .int .u64 p.n, .string (str p.s)] 27))
      obtain ⟨t, n, s⟩ := p
      simp only at d0 d1 d2 hpn hps HB0
      cases t
      · have HJ : Hid (str K ++ str (Oc.big 1 1) ++ str (Oc.big 8 n) = str K1) := by
          show _ = _
          rw [str_append, str_append, HS.out, List.append_assoc]; rfl
        have HKL : Hid ((str K1).size = K1.length) := rfl
        have HLAST : Hid (255 < K1.length → keyOut l = .tuple #[.string ⟨#[]⟩, .int .i64 5]) := fun h => keyOut_long l (by have := HT2.out; omega)
        go_upto_region 6 with fail
        go_cut [4] (fun s wx => s = .string (str K1) ∧ Hid (Below w.heap.size w wx))
        case first =>
          go_region_with (first
            | (go_at_call_of 14 (Value.int IntKind.i64 1); refine (big1 1 1 rfl (by decide) _).mono ?_; rintro e w1 ⟨rfl, hb1⟩; have hk := (hb1.cell (p := ⟨wr.heap.size, 1, none⟩) (by simp)).trans (show _ = some (Value.int .u64 n) by simp))
            | (go_at_call_of 14 (Value.int IntKind.i64 8); refine (big8 _ n rfl hpn _).mono ?_; rintro e w2 ⟨rfl, hb2⟩))
          all_goals
            (go_wp2_with fail
             go_meet
             exact ⟨congrArg Value.string HJ.out, below_step HB.out (below_step (below_off hb1) hb2)⟩)
        case rest =>
          obtain ⟨rfl, HB1⟩ := hcut
          have hk1 := HKL.out
          by_cases h255 : (K1.length : Int) > 255
          · have HO := Lib.hid (HLAST.out (by omega))
            go_wp2
            go_ret2
            rw [HO.out]
            exact ⟨rfl, HB1.out⟩
          · go_wp2
            go_roundg (l.length - (k + 1))
            case measure => omega
            case rel => exact ⟨k + 1, by omega, rfl, by go_num, by rw [HK1.out], by show _ ≤ _; rw [HK1.out]; omega, HB1⟩
      · have HLAST : Hid (255 < K1.length → keyOut l = .tuple #[.string ⟨#[]⟩, .int .i64 5]) := fun h => keyOut_long l (by have := HT2.out; omega)
        have HKL : Hid ((str K1).size = K1.length) := rfl
        have HK1E : Hid (K1 = K ++ 2 :: (Ord.esc s ++ [0, 0])) := HS.out
        have HJ0 : Hid (str K ++ str (Oc.big 1 2) = str (K ++ 2 :: Ord.esc (s.take 0))) := by
          show _ = _
          rw [str_append]; rfl
        go_wp2_with (go_at_call_of 14 (Value.int IntKind.i64 1); refine (big1 2 2 rfl (by decide) _).mono ?_; rintro e w1 ⟨rfl, hb1⟩)
        rw [HJ0.out]
        have hck := (hb1.cell (p := ⟨wr.heap.size, 2, none⟩) (by simp)).trans (show _ = some (Value.string (str s)) by simp)
        have HB1 := Lib.hid (below_step HB0.out hb1)
        have HG := Lib.hid (World.block_lt_of_cell? _ _ hck)
        have HCK := Lib.hid hck
        clear hb1 hck d0 d1 d2
        generalize wr.heap.size = g at *
        obtain ⟨wo, rfl⟩ : ∃ wo : World, wo = wr := ⟨_, rfl⟩
        have hss : (str s).size = s.length := rfl
        go_loopg [4, 7] s.length (fun g4 x i wi => ∃ j : Nat, j ≤ s.length ∧ g4 = s.length - j ∧ i = .int .i64 j ∧ x = .string (str (K ++ 2 :: Ord.esc (s.take j))) ∧ Hid (Below w1.heap.size w1 wi))
        case atStart => exact ⟨0, Nat.zero_le _, rfl, rfl, rfl, Below.refl _ _⟩
        case round =>
          obtain ⟨j, hj, rfl, rfl, rfl, HBI⟩ := hrel
          obtain ⟨wi, rfl⟩ : ∃ wi : World, wi = wr := ⟨_, rfl⟩
          have hcs := (HBI.out.cell (p := ⟨g, 2, none⟩) HG.out).trans HCK.out
          have HEL := Lib.hid (esc_take_len s j)
          have hzk : (str (K ++ 2 :: Ord.esc (s.take j))).size ≤ 1100 := by
            rw [str_size, List.length_append, List.length_cons]
            have := HEL.out
            omega
          by_cases hjl : j < s.length
          · obtain ⟨c, hc⟩ : ∃ c, s[j]? = some c := ⟨_, List.getElem?_eq_getElem hjl⟩
            have hx1 := fun W => slice_one s j c hc W
            have hx2 := str_at s j c hc
            have hs1 : (str [c]).size = 1 := rfl
            have HES := Lib.hid (esc_take s j c hc)
            clear hc
            by_cases hc0 : c = 0
            · subst hc0
              have hx3 : ∀ hh : j < (str s).size, ((str s)[j]'hh).toNat = 0 := hx2
              clear hx2
              have HJ1 : Hid (str (K ++ 2 :: Ord.esc (s.take j)) ++ str [0] ++ str (Oc.big 1 255) = str (K ++ 2 :: Ord.esc (s.take (j + 1)))) := by
                show _ = _
                rw [str_append, str_append, HES.out, if_pos rfl]
                show str _ = str _
                simp [Oc.big]
              go_wp2_with (go_at_call_of 14 (Value.int IntKind.i64 1); refine (big1 255 255 rfl (by decide) _).mono ?_; rintro e w2 ⟨rfl, hb2⟩)
              go_roundg (s.length - (j + 1))
              case measure => omega
              case rel => exact ⟨j + 1, by omega, rfl, by go_num, congrArg Value.string HJ1.out, below_step' HBI.out hb2⟩
            · have hc1 : ((c.toNat : Int) == 0) = false := by
                rw [beq_eq_false_iff_ne]; intro h; exact hc0 (UInt8.toNat_inj.1 (by show c.toNat = 0; omega))
              have HJ1 : Hid (str (K ++ 2 :: Ord.esc (s.take j)) ++ str [c] = str (K ++ 2 :: Ord.esc (s.take (j + 1)))) := by
                show _ = _
                rw [str_append, HES.out, if_neg hc0]
                show str _ = str _
                simp
              go_wp2
              go_roundg (s.length - (j + 1))
              case measure => omega
              case rel => exact ⟨j + 1, by omega, rfl, by go_num, congrArg Value.string HJ1.out, HBI⟩
          · obtain rfl : j = s.length := by omega
            rw [List.take_length] at *
            have HJ2 : Hid (str (K ++ 2 :: Ord.esc s) ++ str (Oc.big 2 0) = str K1) := by
              show _ = _
              rw [str_append, HK1E.out]
              show str _ = str _
              simp [Oc.big]
            obtain ⟨q, hq, hq2⟩ : ∃ q : Nat, (str (K ++ 2 :: Ord.esc s)).size = q ∧ Hid (q + 2 = K1.length) := by
              refine ⟨_, rfl, ?_⟩
              show _ = _
              rw [HK1E.out, str_size]
              simp only [List.length_append, List.length_cons, List.length_nil]
              omega
            have HB3 := fun w2 (hb2 : Below wi.heap.size wi w2) => below_step HB1.out (below_step' HBI.out hb2)
            by_cases h255 : (q : Int) + 2 > 255
            · have HO := Lib.hid (HLAST.out (by have := hq2.out; omega))
              go_wp2_with (go_at_call_of 14 (Value.int IntKind.i64 2); refine (big2 0 0 rfl (by decide) _).mono ?_; rintro e w2 ⟨rfl, hb2⟩)
              go_ret2
              rw [HO.out]
              exact ⟨rfl, HB3 _ hb2⟩
            · go_wp2_with (go_at_call_of 14 (Value.int IntKind.i64 2); refine (big2 0 0 rfl (by decide) _).mono ?_; rintro e w2 ⟨rfl, hb2⟩)
              go_roundg (l.length - (k + 1))
              case measure => omega
              case rel => exact ⟨k + 1, by omega, rfl, by go_num, by rw [HK1.out]; exact congrArg Value.string HJ2.out, by show _ ≤ _; rw [HK1.out]; have := hq2.out; omega, HB3 _ hb2⟩
    · obtain rfl : k = l.length := by omega
      have HO := Lib.hid (keyOut_ok l (by have := HK.out; rwa [List.take_length] at this))
      rw [List.take_length]
      go_wp2
      go_ret2
      rw [HO.out]
      exact ⟨rfl, HB.out⟩
end Go.Proofs.YtfoijhofpjaldaaDoor
