/- The walk of the law OrderBack. -/
import Derived.Test.YtgkonmidgeanmaaDoorPartsFn
import Derived.Test.YtgkonmidgeanmaaDoorKeepsLaw
namespace Go.Proofs.YtgkonmidgeanmaaDoor
open Go.RowKit
theorem key_plain (l : List Ord.P) : Ord.key (l.map Ord.P.plain) = Ord.key l := by
  induction l with
  | nil => rfl
  | cons p l ih => rw [List.map_cons, Ord.key_cons, Ord.key_cons, ih, Ord.pb_plain]
theorem pb_le_key (p : Ord.P) : ∀ l : List Ord.P, p ∈ l → (Ord.pb p).length ≤ (Ord.key l).length
  | [], h => by simp at h
  | q :: l, h => by
    rw [Ord.key_cons, List.length_append]
    rcases List.mem_cons.1 h with rfl | h
    · omega
    · have := pb_le_key p l h; omega
theorem ok_small (l : List Ord.P) (hl : ∀ p ∈ l, p.ok) (h : (Ord.key l).length ≤ 255) : ∀ p ∈ l, p.n < 18446744073709551616 ∧ p.s.length ≤ 400 := by
  intro p hp
  have ho := hl p hp
  refine ⟨ho.2, ?_⟩
  have h1 := pb_le_key p l hp
  obtain ⟨t, n, s⟩ := p
  cases t
  · have : s = [] := by have := ho.1; simp [Ord.P.plain] at this; exact this
    subst this; exact Nat.zero_le _
  · have := pb_length_text ⟨true, n, s⟩ rfl
    show s.length ≤ 400
    simp only at this
    omega
/-- What the law does with any bytes: the second half. -/
inductive Half (s : ByteArray) (w : World) (e : Ending) (w' : World) : Prop
  | mk (a : Option Addr) (n c : Nat) (l : List Ord.P) (x : Int) (he : e = .returned (.tuple #[.slice a n c, .int .i64 x])) (hs : Sl w' (.slice a n c) l) (hl : ∀ p ∈ l, p.n < 18446744073709551616 ∧ p.s.length ≤ 400) (hll : l.length ≤ 1000)
      (hx : (x = 0 ∧ keyOut l = .tuple #[.string s, .int .i64 0]) ∨ (x = 20 ∧ n = 0 ∧ keyOut l = .tuple #[.string ⟨#[]⟩, .int .i64 0])) (hb : Below w.heap.size w w')
theorem half_any (s : ByteArray) (hs : s.size ≤ 400) (w : World) :
    Calls Tryd.prog 12 #[.string s] w fun e w' => Half s w e w' := by
  refine (parts_any s.data.toList (by simpa using (show s.size ≤ 1000 by omega)) w).mono fun e w' h => ?_
  rcases h with ⟨l, hl, hK, h255, a, n, c, hn, he, hsl, hb⟩ | ⟨hno, he, hb⟩
  · rw [hK] at h255
    refine .mk a n c l 0 he hsl (ok_small l hl h255) (by have := key_len l; omega) (.inl ⟨rfl, ?_⟩) hb
    rw [keyOut_ok l h255, ← hK, str_eq]
  · refine .mk none 0 0 [] 20 he (Sl.nil _) (fun p hp => by simp at hp) (Nat.zero_le _) (.inr ⟨rfl, rfl, ?_⟩) hb
    rw [keyOut_ok [] (by decide)]; rfl
set_option maxHeartbeats 4000000 in
set_option maxRecDepth 100000 in
theorem back_walk (v : Value) (l : List Ord.P) (hll : l.length ≤ maxLen) (hnl : ∀ p ∈ l, p.n < 18446744073709551616) (s : ByteArray)
    (m : Int) (w : World) (hm : w.cell? ⟨0, 0, none⟩ = some (.int .i64 m)) (hv : Sl w v l) :
    Calls Tryd.prog 5 #[v, .string s] w fun e w' => e = .returned (.bool true) ∧ Below w.heap.size w w' := by
  have h0 := World.block_lt_of_cell? _ _ hm
  have HM : Hid (∀ W, Below w.heap.size w W → W.cell? ⟨0, 0, none⟩ = some (.int .i64 m)) := fun W hW => (hW.cell (p := ⟨0, 0, none⟩) h0).trans hm
  go_enter Tryd.func5, Tryd.ntmps5
  go_wp2_with (first
    | (go_at_call 7; refine (awake_any m _ hm).mono ?_; rintro e w1 ⟨rfl, hb1⟩)
    | (go_at_call 8; refine (light_any v l hll _ (hv.below hb1)).mono ?_))
  rintro e w2 ⟨x, rfl, hxl, hb2⟩
  have hB2 := below_step hb1 hb2
  cases x
  · go_wp2
    go_ret
    exact ⟨rfl, hB2⟩
  obtain ⟨hl40, hls⟩ := hxl rfl
  by_cases hs4 : (s.size : Int) > 400
  · go_wp2
    go_ret
    exact ⟨rfl, hB2⟩
  have hs400 : s.size ≤ 400 := by omega
  have HV := Lib.hid hv
  have HP : Hid (∀ W, Below w.heap.size w W → Calls Tryd.prog 19 #[v] W fun e w' => RowOut (l.map Ord.P.plain) W e w') := fun W hW => plain_any v l (by omega) W (HV.out.below hW)
  have HK : Hid (∀ W, Below w.heap.size w W → Calls Tryd.prog 9 #[v] W fun e w' => e = .returned (keyOut l) ∧ Below W.heap.size W w') := fun W hW =>
    key_any v l (by omega) m W (HV.out.below hW) (fun p hp => ⟨hnl p hp, hls p hp⟩) (HM.out W hW)
  have HH := Lib.hid (fun W => half_any s hs400 W)
  have HLL : Hid (l.length ≤ 40) := hl40
  have HOK := Lib.hid (plain_ok l hnl)
  have HKL := Lib.hid (key_plain l)
  have hLn : (l.map Ord.P.plain).length ≤ 40 := by rw [List.length_map]; omega
  clear hv hll hnl hxl hls hl40 hb1 hb2
  revert HP HOK HKL hLn
  generalize l.map Ord.P.plain = L
  intro HP HOK HKL hLn
  by_cases hk : (Ord.key l).length ≤ 255
  · rw [keyOut_ok l hk] at HK
    have HKP := Lib.hid (fun W => parts_any (Ord.key l) (by omega) W)
    go_wp2_with (first
      | (go_at_call 9; refine (HK.out _ hB2).mono ?_; rintro e w3 ⟨rfl, hb3⟩; have hB3 := below_step hB2 hb3)
      | (go_at_call_of 12 (str (Ord.key l)); refine (HKP.out _).mono ?_))
    rintro e w4 (⟨r, hr, hK, h255, a1, n1, c1, hn1, rfl, hs1, hb4⟩ | ⟨hno, rfl, hb4⟩)
    · obtain rfl : r = L := Ord.key_inj r _ hr HOK.out (by rw [HKL.out]; exact hK.symm)
      clear hK hr h255
      subst hn1
      have hB4 := below_step hB3 hb4
      go_wp2_with (go_at_call 19; refine (HP.out _ hB4).mono ?_)
      rintro e w5 ⟨a2, n2, c2, rfl, _, rfl, hs2, hb5⟩
      have hB5 := below_step hB4 hb5
      go_wp2_with (go_at_call 21; refine (same_any _ _ r r (by omega) (by unfold maxLen; omega) _ (hs1.below hb5) hs2).mono ?_)
      rintro e w6 ⟨y, rfl, hy, hb6⟩
      obtain rfl : y = true := hy.2 rfl
      have hB6 := below_step hB5 hb6
      go_wp2_with (go_at_call 12; refine (HH.out _).mono ?_)
      rintro e w7 ⟨a3, n3, c3, r3, x3, rfl, hs3, hl3, hll3, hx3, hb7⟩
      have hB7 := below_step hB6 hb7
      have HK3 := Lib.hid (key_any _ r3 hll3 m _ hs3 hl3 (HM.out _ hB7))
      rcases hx3 with ⟨rfl, h3⟩ | ⟨rfl, rfl, h3⟩
      · rw [h3] at HK3
        go_wp2_with (go_at_call 9; refine HK3.out.mono ?_; rintro e w8 ⟨rfl, hb8⟩)
        go_ret
        exact ⟨rfl, below_step hB7 hb8⟩
      · rw [h3] at HK3
        go_wp2_with (go_at_call 9; refine HK3.out.mono ?_; rintro e w8 ⟨rfl, hb8⟩)
        go_ret
        exact ⟨rfl, below_step hB7 hb8⟩
    · exact absurd HKL.out.symm (hno hk _ HOK.out)
  · rw [keyOut_long l hk] at HK
    go_wp2_with (first
      | (go_at_call 9; refine (HK.out _ hB2).mono ?_; rintro e w3 ⟨rfl, hb3⟩; have hB3 := below_step hB2 hb3)
      | (go_at_call 12; refine (HH.out _).mono ?_))
    rintro e w7 ⟨a3, n3, c3, r3, x3, rfl, hs3, hl3, hll3, hx3, hb7⟩
    have hB7 := below_step hB3 hb7
    have HK3 := Lib.hid (key_any _ r3 hll3 m _ hs3 hl3 (HM.out _ hB7))
    rcases hx3 with ⟨rfl, h3⟩ | ⟨rfl, rfl, h3⟩
    · rw [h3] at HK3
      go_wp2_with (go_at_call 9; refine HK3.out.mono ?_; rintro e w8 ⟨rfl, hb8⟩)
      go_ret
      exact ⟨rfl, below_step hB7 hb8⟩
    · rw [h3] at HK3
      go_wp2_with (go_at_call 9; refine HK3.out.mono ?_; rintro e w8 ⟨rfl, hb8⟩)
      go_ret
      exact ⟨rfl, below_step hB7 hb8⟩
end Go.Proofs.YtgkonmidgeanmaaDoor
