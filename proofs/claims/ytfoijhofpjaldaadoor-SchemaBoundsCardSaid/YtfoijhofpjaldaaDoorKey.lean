/- The contract of Key. -/
import Derived.Test.YtfoijhofpjaldaaDoorParts
set_option maxRecDepth 100000
set_option maxHeartbeats 4000000
set_option linter.unusedVariables false
namespace Go.Proofs.YtfoijhofpjaldaaDoor
open Go.RowKit
/-- What Key answers: the bytes, or that they are too many. -/
def keyOut (l : List Ord.P) : Value := if (Ord.key l).length ≤ 255 then .tuple #[.string (str (Ord.key l)), .int .i64 0] else .tuple #[.string ⟨#[]⟩, .int .i64 5]
theorem keyOut_ok (l : List Ord.P) (h : (Ord.key l).length ≤ 255) : keyOut l = .tuple #[.string (str (Ord.key l)), .int .i64 0] := by unfold keyOut; rw [if_pos h]
theorem keyOut_long (l : List Ord.P) (h : ¬ (Ord.key l).length ≤ 255) : keyOut l = .tuple #[.string ⟨#[]⟩, .int .i64 5] := by unfold keyOut; rw [if_neg h]
theorem key_take_le (l : List Ord.P) (k : Nat) : (Ord.key (l.take k)).length ≤ (Ord.key l).length := by
  have := Ord.key_append (l.take k) (l.drop k)
  rw [List.take_append_drop] at this
  rw [this, List.length_append]; omega
theorem key_snoc (l : List Ord.P) (k : Nat) (p : Ord.P) (h : l[k]? = some p) : Ord.key (l.take (k + 1)) = Ord.key (l.take k) ++ Ord.pb p := by
  obtain ⟨hk, he⟩ := List.getElem?_eq_some_iff.1 h
  rw [List.take_succ_eq_append_getElem hk, Ord.key_append, he, Ord.key_cons]
  simp [Ord.key]
theorem pb_length_text (p : Ord.P) (h : p.t = true) : p.s.length ≤ (Ord.pb p).length := by
  have := Ord.esc_length_le p.s
  unfold Ord.pb
  rw [if_pos h]
  simp; omega
theorem pb_length_le (p : Ord.P) (h : p.s.length ≤ 400) : (Ord.pb p).length ≤ 803 := by
  have := Ord.esc_length_ge p.s
  unfold Ord.pb
  split
  · simp; omega
  · simp [Oc.big_length]
set_option maxHeartbeats 2000000 in
set_option maxRecDepth 100000 in
theorem key_any (v : Value) (l : List Ord.P) (hll : l.length ≤ 1000) (m : Int) (w : World) (hv : Sl w v l) (hl : ∀ p ∈ l, p.n < 18446744073709551616 ∧ p.s.length ≤ 400) (hm : w.cell? ⟨0, 0, none⟩ = some (.int .i64 m)) :
    Calls Tryd.prog 12 #[v] w fun e w' => e = .returned (keyOut l) ∧ Below w.heap.size w w' := by
  have h0 := World.block_lt_of_cell? _ _ hm
  have HV := Lib.hid hv
  have HL := Lib.hid hl
  have HM := Lib.hid hm
  have H0 := Lib.hid h0
  clear hl hm h0
  obtain ⟨a, b, o, c, rfl, ha, hx⟩ := hv
  have HX := Lib.hid hx
  have HA := Lib.hid ha
  clear ha hx
  go_enter Tryd.func12, Tryd.ntmps12
  go_wp2
  go_loopg [4, 9] l.length (fun g s i wr => ∃ k : Nat, k ≤ l.length ∧ g = l.length - k ∧ i = .int .i64 k ∧ s = .string (str (Ord.key (l.take k))) ∧ Hid ((Ord.key (l.take k)).length ≤ 1100) ∧ Hid (Below w.heap.size w wr))
  case atStart => exact ⟨0, Nat.zero_le _, rfl, rfl, rfl, Nat.zero_le _, Below.refl _ _⟩
  case round =>
    obtain ⟨k, hk, rfl, rfl, rfl, HK, HB⟩ := hrel
    have hsz : (str (Ord.key (l.take k))).size = (Ord.key (l.take k)).length := rfl
    have HT := Lib.hid (key_take_le l k)
    by_cases hlt : k < l.length
    · obtain ⟨p, hp⟩ : ∃ p, l[k]? = some p := ⟨_, List.getElem?_eq_getElem hlt⟩
      have HS := Lib.hid (key_snoc l k p hp)
      have HT2 := Lib.hid (key_take_le l (k + 1))
      obtain ⟨hpn, hps⟩ := HL.out p (List.mem_of_getElem? hp)
      obtain ⟨e0, e1, e2⟩ := HX.out k p hp
      have hblt : b < w.heap.size := World.block_lt_of_cell? _ _ e0
      have d0 := (HB.out.cell (p := ⟨b, o + k * 3, none⟩) hblt).trans e0
      have d1 := (HB.out.cell (p := ⟨b, o + k * 3 + 1, none⟩) hblt).trans e1
      have d2 := (HB.out.cell (p := ⟨b, o + k * 3 + 2, none⟩) hblt).trans e2
      obtain rfl : a = some ⟨b, o, none⟩ := by
        rcases HA.out with h | h
        · rw [h] at hlt; cases hlt
        · exact h
      have HPT := Lib.hid (pb_length_text p)
      have HPL := Lib.hid (pb_length_le p hps)
      have HBY := Lib.hid (fun W (hW : Below w.heap.size w W) => bytes_any p hpn hps m W ((hW.cell (p := ⟨0, 0, none⟩) H0.out).trans HM.out))
      clear e0 e1 e2 hp
      revert HS HT2 hsz HK HT
      generalize Ord.key (l.take k) = K
      generalize hK1 : Ord.key (l.take (k + 1)) = K1
      intro HK hsz HT HS HT2
      have HK1 := Lib.hid hK1
      clear hK1
      have hkl := HK.out
      by_cases h255 : (K.length : Int) > 255
      · have hlong : ¬ (Ord.key l).length ≤ 255 := by have := HT.out; omega
        have HO := Lib.hid (keyOut_long l hlong)
        go_wp2
        go_ret2
        rw [HO.out]
        exact ⟨rfl, HB.out.alloc HB.out.size _⟩
      · have hpl : (str (Ord.pb p)).size ≤ 803 := by rw [str_size]; exact HPL.out
        have HJ : Hid (str K ++ str (Ord.pb p) = str K1) := by
          show str K ++ str (Ord.pb p) = str K1
          rw [str_append, ← HS.out]
        have HK1L : Hid (K1.length ≤ 1100) := by
          show K1.length ≤ 1100
          rw [HS.out, List.length_append]
          have := HPL.out
          omega
        obtain ⟨t, n, s⟩ := p
        simp only at d0 d1 d2 hpn hps HPT
        cases t
        · go_wp2_with (go_at_call 16; refine (HBY.out _ (HB.out.alloc HB.out.size _)).mono ?_; rintro e w1 ⟨rfl, hb1⟩)
          go_roundg (l.length - (k + 1))
          case measure => omega
          case rel => exact ⟨k + 1, by omega, rfl, by go_num, by rw [HJ.out, HK1.out], by rw [HK1.out]; exact HK1L, below_step (HB.out.alloc HB.out.size _) hb1⟩
        · have hss : (str s).size = s.length := rfl
          by_cases hs255 : (s.length : Int) > 255
          · have hlong : ¬ (Ord.key l).length ≤ 255 := by
              have h1 := HT2.out
              have h2 := HPT.out rfl
              have h3 := HS.out
              rw [h3, List.length_append] at h1
              omega
            have HO := Lib.hid (keyOut_long l hlong)
            go_wp2
            go_ret2
            rw [HO.out]
            exact ⟨rfl, HB.out.alloc HB.out.size _⟩
          · go_wp2_with (go_at_call 16; refine (HBY.out _ (HB.out.alloc HB.out.size _)).mono ?_; rintro e w1 ⟨rfl, hb1⟩)
            go_roundg (l.length - (k + 1))
            case measure => omega
            case rel => exact ⟨k + 1, by omega, rfl, by go_num, by rw [HJ.out, HK1.out], by rw [HK1.out]; exact HK1L, below_step (HB.out.alloc HB.out.size _) hb1⟩
    · obtain rfl : k = l.length := by omega
      rw [List.take_length] at *
      by_cases h255 : ((Ord.key l).length : Int) > 255
      · have HO := Lib.hid (keyOut_long l (by omega))
        go_wp2
        go_ret2
        rw [HO.out]
        exact ⟨rfl, HB.out⟩
      · have HO := Lib.hid (keyOut_ok l (by omega))
        go_wp2
        go_ret2
        rw [HO.out]
        exact ⟨rfl, HB.out⟩
end Go.Proofs.YtfoijhofpjaldaaDoor
