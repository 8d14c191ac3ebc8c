/- The contracts of the document's own functions on rows of parts: to, After, Less. -/
import Derived.Test.YtgkonmidgeanmaaDoorPartsFn
namespace Go.Proofs.YtgkonmidgeanmaaDoor
open Go.RowKit
theorem info43 : (Tryd.prog.info? 43).map (fun i => (i.zero, i.size, i.bytes)) = some (some (.agg #[.bool false, .int .u64 0, .string ByteArray.empty]), 3, 32) := by kernel_rfl
theorem take_snocP (l : List Ord.P) (k : Nat) (p : Ord.P) (h : l[k]? = some p) : l.take (k + 1) = l.take k ++ [p] := by
  obtain ⟨hk, he⟩ := List.getElem?_eq_some_iff.1 h
  rw [List.take_succ_eq_append_getElem hk, he]
set_option maxHeartbeats 1000000 in
theorem to_any (v : Value) (l : List Ord.P) (hll : l.length ≤ 1000) (w : World) (hv : Sl w v l) :
    Calls Tryd.prog 11 #[v] w fun e w' => RowOut (l) w e w' := by
  obtain ⟨i0, hi, hz0, hz1, hz2⟩ := info_parts info43
  obtain ⟨a, b, o, c, rfl, ha, hx⟩ := hv
  have HX := Lib.hid hx
  have HA := Lib.hid ha
  clear ha hx
  go_enter Tryd.func11, Tryd.ntmps11
  go_wp2
  go_loopg [3, 8] l.length (fun g s i wr => ∃ (k : Nat), k ≤ l.length ∧ g = l.length - k ∧ i = .int .i64 k ∧ Hid (wr.ownsRow w.heap.size 43 3 s k ((l.take k).flatMap cellsP)) ∧ Hid (Below w.heap.size w wr))
  case atStart => exact ⟨0, Nat.zero_le _, rfl, rfl, World.ownsRow_nil _ _ _ _, Below.refl _ _⟩
  case round =>
    obtain ⟨k, hk, rfl, rfl, HO, HB⟩ := hrel
    have hsz := HB.out.size
    by_cases hlt : k < l.length
    · obtain ⟨p, hp⟩ : ∃ p, l[k]? = some p := ⟨_, List.getElem?_eq_getElem hlt⟩
      obtain ⟨e0, e1, e2⟩ := HX.out k p hp
      have hblt : b < w.heap.size := World.block_lt_of_cell? _ _ e0
      have d0 := (HB.out.cell (p := ⟨b, o + k * 3, none⟩) hblt).trans e0
      have d1 := (HB.out.cell (p := ⟨b, o + k * 3 + 1, none⟩) hblt).trans e1
      have d2 := (HB.out.cell (p := ⟨b, o + k * 3 + 2, none⟩) hblt).trans e2
      obtain rfl : a = some ⟨b, o, none⟩ := by
        rcases HA.out with h | h
        · rw [h] at hlt; cases hlt
        · exact h
      clear e0 e1 e2
      have HS := Lib.hid (take_snocP l k p hp)
      clear hp
      go_wp2_with (at_builtin; refine wpList_append_own _ rfl _ _ 30 rfl w.heap.size 43 i0 _ 3 32 Tryd.underlying30 hi hz0 hz1 hz2 rfl (by decide) _ k _ rfl ((HO.out.alloc _).alloc _) ⟨wr.heap.size + 1, 0, none⟩ 1 1 (cellsP p) rfl rfl ?c1 ?c2 ?c3 ?c4 ?c5 ?_)
      case c1 => exact fun j u h => h
      case c2 => exact cellsP_one p
      case c3 => unfold maxLen; omega
      case c4 => omega
      case c5 => omega
      intro v' w1 hown' hgrow _
      have HO' : Hid (w1.ownsRow w.heap.size 43 3 v' (k + 1) ((l.take (k + 1)).flatMap cellsP)) := by
        show w1.ownsRow _ _ _ _ _ _
        rw [HS.out, List.flatMap_append, flat_one]
        exact hown'
      have HB' : Hid (Below w.heap.size w w1) := ((HB.out.alloc hsz _).alloc (by simp; omega) _).grown hgrow (by simp; omega) (fun g hg => (HO.out.lt g hg).1)
      clear hown' hgrow
      go_wp2
      go_roundg (l.length - (k + 1))
      case measure => omega
      case rel => exact ⟨k + 1, by omega, rfl, by go_num, HO', HB'⟩
    · obtain rfl : k = l.length := by omega
      have HS : Hid (Sl wr u3 (l)) := by
        have := HO.out
        rw [List.take_length] at this
        exact Sl.own this
      obtain ⟨a1, c1, hc1, rfl⟩ : ∃ a1 c1, l.length ≤ c1 ∧ u3 = .slice a1 l.length c1 := by
        rcases HO.out.2 with ⟨h, h0⟩ | ⟨g, cap, cur, h, _, _, hc, _⟩
        · exact ⟨none, 0, by omega, by rw [h, h0]⟩
        · exact ⟨_, cap, hc, h⟩
      go_wp2
      go_ret
      exact .mk a1 l.length c1 rfl hc1 rfl HS.out HB.out
theorem big1 (x : Int) (n : Nat) (hx : x = n) (hn : n < 256) (w : World) :
    Calls Tryd.prog 25 #[.int .u64 x, .int .i64 1] w fun e w' => e = .returned (.string (str (Oc.big 1 n))) ∧ Below w.heap.size w w' := big_any x n 1 hx (by omega) (by omega) (by omega) w
set_option maxHeartbeats 1000000 in
theorem refAfter_any (s : ByteArray) (hs : s.size ≤ 1000) (w : World) :
    Calls Tryd.prog 15 #[.string s] w fun e w' => e = .returned (.tuple #[.string (str (aft s.data.toList).1), .bool (aft s.data.toList).2]) ∧ Below w.heap.size w w' := by
  go_enter Tryd.func15, Tryd.ntmps15
  go_wp2
  go_loopg [0] (s.size) (fun g p wr => g ≤ s.size ∧ p = .string (str (s.data.toList.take g)) ∧ Hid ((aft (s.data.toList.drop g)).2 = false) ∧ Hid (w = wr))
  case atStart => exact ⟨Nat.le_refl _, by rw [List.take_of_length_le (by simp), str_eq], by rw [List.drop_of_length_le (by simp)]; rfl, rfl⟩
  case round =>
    obtain ⟨hk, rfl, H1, rfl⟩ := hrel
    have hz : (str (s.data.toList.take gk)).size = gk := by rw [str_size, List.length_take]; simp; omega
    by_cases h0 : gk = 0
    · subst h0
      go_wp2
      go_ret2
      have h := aft_none _ H1.out
      rw [List.drop_zero] at h
      rw [h]
      exact ⟨rfl, Below.refl _ _⟩
    · obtain ⟨j, rfl⟩ : ∃ j, gk = j + 1 := ⟨gk - 1, by omega⟩
      have hj : j < s.size := by omega
      have hd := drop_at s j hj
      obtain ⟨T, hT⟩ : ∃ T, str (s.data.toList.take (j + 1)) = T := ⟨_, rfl⟩
      have hTj : ∀ h : j < T.size, (T[j]'h).toNat = s[j].toNat := by
        intro h
        subst hT
        have e : (str (s.data.toList.take (j + 1)))[j]'h = s[j] := by
          show (s.data.toList.take (j + 1)).toArray[j]'(by simpa [str_size] using h) = s.data[j]
          simp
        rw [e]
      have hTe : T.extract 0 j = str (s.data.toList.take j) := by
        rw [take_str, ← hT, str_data, List.take_take, Nat.min_eq_left (by omega)]
      rw [hT] at hz ⊢
      clear hT
      have hc256 := s[j].toNat_lt
      have HHIT := Lib.hid (fun (hb : s[j] ≠ 255) => aft_hit (b := s[j]) H1.out hb)
      have HMISS := Lib.hid (fun (hb : s[j] = 255) => aft_miss (b := s[j]) H1.out hb)
      rw [← hd] at HHIT HMISS
      clear hd
      have HCE : Hid (∀ q : UInt8, q.toNat = 255 → q = 255) := fun q h => UInt8.toNat_inj.1 h
      have HPL : Hid (str (s.data.toList.take j) ++ str (Oc.big 1 (s[j].toNat + 1)) = str (s.data.toList.take j ++ [UInt8.ofNat ((s[j].toNat + 1) % 256)])) := by
        rw [← str_append]; rfl
      have HP1 : Hid (s[j].toNat + 1 < 256 → UInt8.ofNat ((s[j].toNat + 1) % 256) = s[j] + 1) := by
        intro _
        apply UInt8.toNat_inj.1
        rw [UInt8.toNat_ofNat', UInt8.toNat_add]
        simp
      have HZ : Hid ((str (s.data.toList.take j)).size = j) := by show _ = _; rw [str_size, List.length_take]; simp; omega
      have HC := Lib.hid (show ∃ c : Nat, s[j].toNat = c from ⟨_, rfl⟩)
      revert hTj hc256 HPL HP1 HHIT HMISS
      generalize hcc : s[j] = q
      intro hTj hc256 HHIT HMISS HPL HP1
      clear hcc HC
      by_cases hb : q.toNat = 255
      · have hbq : q = 255 := HCE.out q hb
        subst hbq
        have hTj' : ∀ h : j < T.size, (T[j]'h).toNat = 255 := hTj
        clear hTj
        go_wp2
        go_roundg j
        case measure => omega
        case rel => exact ⟨by omega, rfl, by first | exact HMISS.out rfl | exact HMISS.out trivial, rfl⟩
      · have hb' : ((q.toNat : Int) == 255) = false := by rw [beq_eq_false_iff_ne]; omega
        have hz1 := big_size
        have hz2 := HZ.out
        have hne : q ≠ 255 := fun h => hb (by rw [h]; rfl)
        have H3 := Lib.hid (aft_app (HHIT.out hne) (s.data.toList.take j))
        rw [List.take_append_drop] at H3
        have hc1 : q.toNat + 1 < 256 := by omega
        clear hne
        go_wp2_with (go_at_call 25; refine (big1 _ (q.toNat + 1) ?_ hc1 _).mono ?_; (first | omega | (rw [IntKind.wrap_u64, IntKind.wrap_u64]; omega)); rintro e w1 ⟨rfl, hb1⟩)
        go_ret2
        rw [H3.out, ← HP1.out hc1]
        exact ⟨ret_two HPL.out, hb1⟩
end Go.Proofs.YtgkonmidgeanmaaDoor
