/- The walk of the law OrderKeys. -/
import Derived.Test.YtgkonmidgeanmaaDoorRefParts
import Derived.Test.YtgkonmidgeanmaaDoorRefLess
import Derived.Test.YtgkonmidgeanmaaDoorBackLaw
namespace Go.Proofs.YtgkonmidgeanmaaDoor
open Go.RowKit
/-- What both Parts answer of any bytes: the same. -/
inductive Both (K : List UInt8) (l : List Ord.P) (x : Int) (w : World) (e : Ending) (w' : World) : Prop
  | mk (a : Option Addr) (n c : Nat) (hn : n = l.length) (he : e = .returned (.tuple #[.slice a n c, .int .i64 x])) (hs : Sl w' (.slice a n c) l) (hb : Below w.heap.size w w')
theorem both_of (K : List UInt8) (hK : K.length ≤ 1000) : ∃ (l : List Ord.P) (x : Int), l.length ≤ 255 ∧ Hid (∀ W, Calls Tryd.prog 12 #[.string (str K)] W fun e w' => Both K l x W e w') ∧ Hid (∀ W, Calls Tryd.prog 13 #[.string (str K)] W fun e w' => Both K l x W e w') := by
  by_cases h : ∃ l : List Ord.P, (∀ p ∈ l, p.ok) ∧ K = Ord.key l ∧ K.length ≤ 255
  · obtain ⟨l, hl, hk, h255⟩ := h
    refine ⟨l, 0, by have := key_len l; rw [← hk] at this; omega, fun W => (parts_any K hK W).mono fun e w' h => ?_, fun W => (refParts_any K hK W).mono fun e w' h => ?_⟩
    · rcases h with ⟨r, hr, hrk, _, a, n, c, hn, he, hs, hb⟩ | ⟨hno, he, hb⟩
      · obtain rfl : r = l := Ord.key_inj r l hr hl (by rw [← hrk, hk])
        exact .mk a n c hn he hs hb
      · exact absurd hk (hno h255 l hl)
    · rcases h with ⟨r, hr, hrk, _, a, n, c, hn, he, hs, hb⟩ | ⟨hno, he, hb⟩
      · obtain rfl : r = l := Ord.key_inj r l hr hl (by rw [← hrk, hk])
        exact .mk a n c hn he hs hb
      · exact absurd hk (hno h255 l hl)
  · refine ⟨[], 20, by decide, fun W => (parts_any K hK W).mono fun e w' h' => ?_, fun W => (refParts_any K hK W).mono fun e w' h' => ?_⟩
    · rcases h' with ⟨r, hr, hrk, h255, _⟩ | ⟨hno, he, hb⟩
      · exact absurd ⟨r, hr, hrk, h255⟩ h
      · exact .mk none 0 0 rfl he (Sl.nil _) hb
    · rcases h' with ⟨r, hr, hrk, h255, _⟩ | ⟨hno, he, hb⟩
      · exact absurd ⟨r, hr, hrk, h255⟩ h
      · exact .mk none 0 0 rfl he (Sl.nil _) hb
theorem out_shape (l : List Ord.P) : ∃ (x : ByteArray) (f : Int), keyOut l = .tuple #[.string x, .int .i64 f] := by
  by_cases h : (Ord.key l).length ≤ 255
  · exact ⟨_, _, keyOut_ok l h⟩
  · exact ⟨_, _, keyOut_long l h⟩
theorem next_str (s : ByteArray) : s ++ ⟨#[0]⟩ = str (s.data.toList ++ [0]) := by
  rw [← str_append, str_eq]; rfl
set_option maxHeartbeats 8000000 in
set_option maxRecDepth 100000 in
theorem keys_walk (v u : Value) (l r : List Ord.P) (hll : l.length ≤ maxLen) (hlr : r.length ≤ maxLen) (hnl : ∀ p ∈ l, p.n < 18446744073709551616) (hnr : ∀ p ∈ r, p.n < 18446744073709551616) (s : ByteArray)
    (m : Int) (w : World) (hm : w.cell? ⟨0, 0, none⟩ = some (.int .i64 m)) (hv : Sl w v l) (hu : Sl w u r) :
    Calls Tryd.prog 3 #[v, u, .string s] w fun e w' => e = .returned (.bool true) ∧ Below w.heap.size w w' := by
  have h0 := World.block_lt_of_cell? _ _ hm
  have HM : Hid (∀ W, Below w.heap.size w W → W.cell? ⟨0, 0, none⟩ = some (.int .i64 m)) := fun W hW => (hW.cell (p := ⟨0, 0, none⟩) h0).trans hm
  go_enter Tryd.func3, Tryd.ntmps3
  go_wp2_with (first
    | (go_at_call 7; refine (awake_any m _ hm).mono ?_; rintro e w1 ⟨rfl, hb1⟩)
    | (go_at_call 8; refine (light_any v l hll _ (hv.below hb1)).mono ?_))
  rintro e w2 ⟨x, rfl, hxl, hb2⟩
  have hB2 := below_step hb1 hb2
  cases x
  · go_wp2
    go_ret
    exact ⟨rfl, hB2⟩
  obtain ⟨hl40, hls⟩ := hxl rfl
  go_wp2_with (go_at_call 8; refine (light_any u r hlr _ (hu.below hB2)).mono ?_)
  rintro e w3 ⟨x, rfl, hxr, hb3⟩
  have hB3 := below_step hB2 hb3
  cases x
  · go_wp2
    go_ret
    exact ⟨rfl, hB3⟩
  obtain ⟨hr40, hrs⟩ := hxr rfl
  by_cases hs4 : (s.size : Int) > 400
  · go_wp2
    go_ret
    exact ⟨rfl, hB3⟩
  have hs400 : s.size ≤ 1000 := by omega
  have HV := Lib.hid hv
  have HU := Lib.hid hu
  have HOL := Lib.hid (plain_ok l hnl)
  have HOR := Lib.hid (plain_ok r hnr)
  have HP1 : Hid (∀ W, Below w.heap.size w W → Calls Tryd.prog 19 #[v] W fun e w' => RowOut (l.map Ord.P.plain) W e w') := fun W hW => plain_any v l (by omega) W (HV.out.below hW)
  have HP2 : Hid (∀ W, Below w.heap.size w W → Calls Tryd.prog 19 #[u] W fun e w' => RowOut (r.map Ord.P.plain) W e w') := fun W hW => plain_any u r (by omega) W (HU.out.below hW)
  have hLn : (l.map Ord.P.plain).length ≤ 40 := by rw [List.length_map]; omega
  have hRn : (r.map Ord.P.plain).length ≤ 40 := by rw [List.length_map]; omega
  have HK1 : Hid (∀ W, Below w.heap.size w W → Calls Tryd.prog 9 #[v] W fun e w' => e = .returned (keyOut l) ∧ Below W.heap.size W w') := fun W hW =>
    key_any v l (by omega) m W (HV.out.below hW) (fun p hp => ⟨hnl p hp, hls p hp⟩) (HM.out W hW)
  have HT : Hid (∀ W, Below w.heap.size w W → Calls Tryd.prog 11 #[v] W fun e w' => RowOut l W e w') := fun W hW => to_any v l (by omega) W (HV.out.below hW)
  have HK2 : Hid (∀ a n c W, Sl W (.slice a n c) l → Calls Tryd.prog 10 #[.slice a n c] W fun e w' => e = .returned (keyOut l) ∧ Below W.heap.size W w') := fun a n c W hW =>
    refKey_any _ l (by omega) W hW (fun p hp => ⟨hnl p hp, hls p hp⟩)
  obtain ⟨x, f, hxf⟩ := out_shape l
  rw [hxf] at HK1 HK2
  clear hxf hxl hxr hls hrs hnl hnr hv hu hll hlr hl40 hr40
  revert HP1 HP2 HOL HOR hLn hRn
  generalize l.map Ord.P.plain = L
  generalize r.map Ord.P.plain = R
  intro HOL HOR HP1 HP2 hLn hRn
  obtain ⟨q, y, hq255, HQ1, HQ2⟩ := both_of s.data.toList (by simpa using hs400)
  rw [str_eq] at HQ1 HQ2
  have HA1 := Lib.hid (fun W => after_any s hs400 W)
  have HA2 := Lib.hid (fun W => refAfter_any s hs400 W)
  revert HA1 HA2
  generalize aft s.data.toList = A
  obtain ⟨ax, ao⟩ := A
  intro HA1 HA2
  have HNX := Lib.hid (fun W => next_any s hs400 W)
  have hnx := next_str s
  have HST : Hid (∀ W, Calls Tryd.prog 17 #[.string s] W fun e w' => e = .returned (.agg #[.bool true, .int .u64 0, .string s]) ∧ Below W.heap.size W w') := fun W => strP_any s.data.toList W
  go_wp2_with (first
    | (go_at_call 9; refine (HK1.out _ hB3).mono ?_; rintro e w4 ⟨rfl, hb4⟩; have hB4 := below_step hB3 hb4)
    | (go_at_call 11; refine (HT.out _ hB4).mono ?_; rintro e w5 ⟨a5, n5, c5, rfl, hc5, rfl, hs5, hb5⟩; have hB5 := below_step hB4 hb5)
    | (go_at_call 10; refine (HK2.out _ _ _ _ hs5).mono ?_; rintro e w6 ⟨rfl, hb6⟩; have hB6 := below_step hB5 hb6)
    | (go_at_call 12; refine (HQ1.out _).mono ?_; rintro e w7 ⟨a7, n7, c7, rfl, rfl, hs7, hb7⟩)
    | (go_at_call 13; refine (HQ2.out _).mono ?_; rintro e w8 ⟨a8, n8, c8, rfl, rfl, hs8, hb8⟩)
    | (go_at_call 14; refine (HA1.out _).mono ?_; rintro e w9 ⟨rfl, hb9⟩)
    | (go_at_call 15; refine (HA2.out _).mono ?_; rintro e w10 ⟨rfl, hb10⟩)
    | (go_at_call 16; refine (HNX.out _).mono ?_; rintro e w11 ⟨rfl, hb11⟩)
    | (go_at_call 17; refine (HST.out _).mono ?_; rintro e w12 ⟨rfl, hb12⟩))
  have HS7 := Lib.hid (hs7.below (below_step (below_step (below_step (below_step hb8 hb9) hb10) hb11) hb12))
  have HS8 := Lib.hid (hs8.below (below_step (below_step (below_step hb9 hb10) hb11) hb12))
  have HB12 := Lib.hid (below_step (below_step (below_step (below_step (below_step (below_step hB6 hb7) hb8) hb9) hb10) hb11) hb12)
  clear hs5 hs7 hs8 hb4 hb5 hb6 hb7 hb8 hb9 hb10 hb11 hb12 hB2 hB3 hB4 hB5 hB6 hb1 hb2 hb3 HQ1 HQ2 HA1 HA2 HNX HST HT HK1 HK2 hnx
  go_loopg [112] q.length (fun g i wr => ∃ k : Nat, k ≤ q.length ∧ g = q.length - k ∧ i = .int .i64 k ∧ Hid (Below w12.heap.size w12 wr))
  case atStart => exact ⟨0, Nat.zero_le _, rfl, rfl, Below.refl _ _⟩
  case round =>
    obtain ⟨k, hk, rfl, rfl, HB⟩ := hrel
    by_cases hlt : k < q.length
    · obtain ⟨p, hp⟩ : ∃ p, q[k]? = some p := ⟨_, List.getElem?_eq_getElem hlt⟩
      obtain ⟨a, b, o, c, he1, ha, hx⟩ := HS7.out.below HB.out
      obtain ⟨a', b', o', c', he2, ha', hx'⟩ := HS8.out.below HB.out
      cases he1
      cases he2
      obtain rfl : a7 = some ⟨b, o, none⟩ := by
        rcases ha with h | h
        · rw [h] at hlt; cases hlt
        · exact h
      obtain rfl : a8 = some ⟨b', o', none⟩ := by
        rcases ha' with h | h
        · rw [h] at hlt; cases hlt
        · exact h
      obtain ⟨d0, d1, d2⟩ := hx k p hp
      obtain ⟨g0, g1, g2⟩ := hx' k p hp
      clear hx hx' hp ha ha'
      have hk1 : (k : Int) < (q.length : Int) := by omega
      go_wp2_with fail
      go_region
      all_goals
        (go_wp2
         go_roundg (q.length - (k + 1))
         case measure => omega
         case rel => exact ⟨k + 1, by omega, rfl, by go_num, HB.out.drew⟩)
    · obtain rfl : k = q.length := by omega
      have hB := below_step HB12.out HB.out
      go_wp2_with (go_at_call 19; refine (HP1.out _ hB).mono ?_)
      rintro e w13 ⟨a1, n1, c1, rfl, hc1, rfl, hs1, hb13⟩
      have hB13 := below_step hB hb13
      go_wp2_with (go_at_call 19; refine (HP2.out _ hB13).mono ?_)
      rintro e w14 ⟨a2, n2, c2, rfl, hc2, rfl, hs2, hb14⟩
      have hB14 := below_step hB13 hb14
      go_wp2_with (first
        | (go_at_call 18; refine (lessRow_any _ _ L R (by omega) (by omega) _ (hs1.below hb14) hs2).mono ?_; rintro e w15 ⟨rfl, hb15⟩; have hB15 := below_step hB14 hb15)
        | (go_at_call 19; refine (HP1.out _ hB15).mono ?_))
      rintro e w16 ⟨a3, n3, c3, rfl, hc3, rfl, hs3, hb16⟩
      have hB16 := below_step hB15 hb16
      go_wp2_with (first
        | (go_at_call 11; refine (to_any _ L (by omega) _ hs3).mono ?_; rintro e w17 ⟨a4, n4, c4, rfl, hc4, rfl, hs4, hb17⟩; have hB17 := below_step hB16 hb17)
        | (go_at_call 19; refine (HP2.out _ hB17).mono ?_))
      rintro e w18 ⟨a5, n5, c5, rfl, hc5, rfl, hs5, hb18⟩
      have hB18 := below_step hB17 hb18
      go_wp2_with (first
        | (go_at_call 11; refine (to_any _ R (by omega) _ hs5).mono ?_; rintro e w19 ⟨a6, n6, c6, rfl, hc6, rfl, hs6, hb19⟩; have hB19 := below_step hB18 hb19)
        | (go_at_call 20; refine (refLess_any _ _ L R (by omega) (by omega) _ (hs4.below (below_step hb18 hb19)) hs6 HOL.out HOR.out).mono ?_; rintro e w20 ⟨rfl, hb20⟩))
      go_ret
      exact ⟨rfl, below_step hB19 hb20⟩
end Go.Proofs.YtgkonmidgeanmaaDoor
