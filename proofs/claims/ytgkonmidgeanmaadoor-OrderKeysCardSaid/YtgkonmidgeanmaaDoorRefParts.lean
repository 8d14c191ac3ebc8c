/- The contract of the document's own Parts. -/
import Derived.Test.YtgkonmidgeanmaaDoorRefKey
import Derived.Test.YtgkonmidgeanmaaDoorRefs
namespace Go.Proofs.YtgkonmidgeanmaaDoor
open Go.RowKit
theorem refNum_any (n : Nat) (W : World) :
    Calls Tryd.prog 30 #[.int .u64 n] W fun e w' => e = .returned (.agg #[.bool false, .int .u64 n, .string ⟨#[]⟩]) ∧ Below W.heap.size W w' := by
  go_enter Tryd.func30, Tryd.ntmps30
  go_wp2
  refine bodyPost_ret_by (v := aggP ⟨false, n, []⟩) ?_ rfl ⟨rfl, (Below.refl _ _).alloc (Nat.le_refl _) _⟩
  simp [results, Tryd.results30, go_sem, aggP, str]
theorem refStr_any (t : List UInt8) (W : World) :
    Calls Tryd.prog 32 #[.string (str t)] W fun e w' => e = .returned (.agg #[.bool true, .int .u64 0, .string (str t)]) ∧ Below W.heap.size W w' := by
  go_enter Tryd.func32, Tryd.ntmps32
  go_wp2
  refine bodyPost_ret_by (v := aggP ⟨true, 0, t⟩) ?_ rfl ⟨rfl, (Below.refl _ _).alloc (Nat.le_refl _) _⟩
  simp [results, Tryd.results32, go_sem, aggP]
theorem num8_any (b : Nat) (l : List UInt8) (hl : l.length = 8) (w : World) (h : Rd w b (str l) 0) :
    Calls Tryd.prog 31 #[.pointer (some ⟨b, 0, none⟩), .int .i64 8] w fun v w' => v = .returned (.int .u64 (Oc.val l : Nat)) ∧ Upd b w w' := by
  have := numR_any b (str l) 0 8 (by omega) w h
  have e : tk (str l) 0 ((8 : Nat) : Int) = (str l, str [], 0) := by
    have := tk_str l [] 8 hl
    rwa [List.append_nil] at this
  rw [e, str_data] at this
  exact this.mono fun v w' ⟨h1, _, h3⟩ => ⟨h1, h3⟩
theorem slice_nine (K : List UInt8) (i : Nat) (h : i + 9 ≤ K.length) (W : World) :
    (Instr.slice 9 (.string (str K)) (some (.int .i64 ((i : Int) + 1))) (some (.int .i64 ((i : Int) + 9))) none).run Tryd.prog W = .ok (.string (str ((K.drop (i + 1)).take 8))) W := by
  rw [run_slice_string W 9 (str K) .i64 .i64 _ _ Tryd.underlying9 (by omega) (by omega) (by rw [str_size]; omega)]
  congr 2
  rw [show ((i : Int) + 1).toNat = i + 1 by omega, show ((i : Int) + 9).toNat = i + 9 by omega]
  apply ByteArray.ext
  simp only [str]
  rw [ByteArray.data_extract]
  apply Array.ext'
  simp [List.take_drop]
theorem drop_atL (K : List UInt8) (i : Nat) (c : UInt8) (h : K[i]? = some c) : K.drop i = c :: K.drop (i + 1) := by
  obtain ⟨hk, he⟩ := List.getElem?_eq_some_iff.1 h
  rw [List.drop_eq_getElem_cons hk, he]
theorem info43' : (Tryd.prog.info? 43).map (fun i => (i.zero, i.size, i.bytes)) = some (some (.agg #[.bool false, .int .u64 0, .string ByteArray.empty]), 3, 32) := info43
theorem fwd_key (K : List UInt8) (l : List Ord.P) (i : Nat) (p : Ord.P) (R' : List UInt8) (hK : K = Ord.key l ++ K.drop i) (hp : Ord.pt (K.drop i) = some (p, R')) : K = Ord.key (l ++ [p]) ++ R' := by
  obtain ⟨hpe, _⟩ := Ord.pt_some _ _ _ hp
  rw [Ord.key_append, List.append_assoc]
  show K = Ord.key l ++ (Ord.key [p] ++ R')
  rw [show Ord.key [p] = Ord.pb p by simp [Ord.key], ← hpe]
  exact hK
theorem ok_snoc (l : List Ord.P) (p : Ord.P) (hl : ∀ q ∈ l, q.ok) (hp : p.ok) : ∀ q ∈ l ++ [p], q.ok := by
  intro q hq
  rcases List.mem_append.1 hq with h | h
  · exact hl q h
  · simp at h; subst h; exact hp
theorem cellsP_at (w : World) (p : Ord.P) (T : TypeId) : ∀ (j : Nat) u, (cellsP p)[j]? = some u →
    (w.alloc (.cells #[.bool p.t, .int .u64 p.n, .string (str p.s)] T)).cell? ((⟨w.heap.size, 0, none⟩ : Addr).add j) = some u := by
  intro j u hj
  unfold cellsP at hj
  match j, hj with
  | 0, hj => simp at hj; subst hj; simp [Addr.add]
  | 1, hj => simp at hj; subst hj; simp [Addr.add]
  | 2, hj => simp at hj; subst hj; simp [Addr.add]
  | (j + 3), hj => simp at hj
theorem index_at (K : List UInt8) (j : Nat) (d : UInt8) (h : K[j]? = some d) (x : Int) (hx : x = j) (W : World) :
    (Instr.index 9 (.string (str K)) (.int .i64 x)).run Tryd.prog W = .ok (.int .u8 d.toNat) W := by
  subst hx
  have hj := (List.getElem?_eq_some_iff.1 h).1
  rw [run_index_string W 9 (str K) .i64 j Tryd.underlying9, dif_pos ⟨by omega, by rw [str_size]; omega⟩]
  have hs := str_at K j d h (by rw [str_size]; exact hj)
  congr 3
theorem own_upd' {w w' : World} {b B : Nat} {e : TypeId} {s : Nat} {v : Value} {n : Nat} {xs : List Value} {o : Obj} (h : (w.alloc o).ownsRow B e s v n xs) (u : Upd b (w.alloc o) w') (hv : v.ownBlock ≠ some b) : w'.ownsRow B e s v n xs := by
  obtain ⟨h0, h1⟩ := h
  refine ⟨h0, ?_⟩
  rcases h1 with h1 | ⟨g, cap, cur, rfl, hg, hh, rest⟩
  · exact .inl h1
  · exact .inr ⟨g, cap, cur, rfl, hg, by rw [u.block g (fun he => hv (by rw [he]; rfl)), hh], rest⟩
set_option maxHeartbeats 4000000 in
set_option maxRecDepth 100000 in
theorem refParts_any (K : List UInt8) (hK : K.length ≤ 1000) (w : World) :
    Calls Tryd.prog 13 #[.string (str K)] w fun e w' => PartsOut K w e w' := by
  obtain ⟨i0, hi, hz0, hz1, hz2⟩ := info_parts info43
  have hsz : (str K).size = K.length := rfl
  by_cases h255 : (K.length : Int) > 255
  · go_enter Tryd.func13, Tryd.ntmps13
    go_wp2
    go_ret2
    exact .bad (fun h => by omega) rfl (Below.refl _ _)
  · go_enter Tryd.func13, Tryd.ntmps13
    go_wp2
    go_loopg [4, 5] (K.length) (fun g v iv wr => ∃ (l : List Ord.P) (i : Nat), Hid (∀ p ∈ l, p.ok) ∧ Hid (K = Ord.key l ++ K.drop i) ∧ i ≤ K.length ∧ g = K.length - i ∧ iv = .int .i64 i ∧
      Hid (wr.ownsRow w.heap.size 43 3 v l.length (l.flatMap cellsP)) ∧ Hid (Below w.heap.size w wr))
    case atStart => exact ⟨[], 0, (fun p hp => by simp at hp), rfl, Nat.zero_le _, rfl, rfl, World.ownsRow_nil _ _ _ _, Below.refl _ _⟩
    case round =>
      obtain ⟨l, i, HL, HK, hik, rfl, rfl, HO, HB⟩ := hrel
      have hbs := HB.out.size
      have HOB : Hid (u4.ownBlock ≠ some wr.heap.size) := fun h => by have := (HO.out.lt _ h).2; omega
      have hlk : l.length ≤ 255 := by
        have h1 := key_len l
        have h2 := congrArg List.length HK.out
        rw [List.length_append] at h2
        omega
      have HL255 : Hid (K.length ≤ 255) := by show _ ≤ _; omega
      by_cases hlt : i < K.length
      · obtain ⟨c, hc⟩ : ∃ c, K[i]? = some c := ⟨_, List.getElem?_eq_getElem hlt⟩
        have hidx := str_at K i c hc
        have HD := Lib.hid (drop_atL K i c hc)
        clear hc
        have HBAD : Hid (Ord.pt (K.drop i) = none → ∀ m, (∀ p ∈ m, p.ok) → K ≠ Ord.key m) := by
          intro hp m hm
          rw [HK.out]
          exact Ord.no_row l HL.out (K.drop i) (by rw [HD.out]; simp) hp m hm
        by_cases h1 : c = 1
        · subst h1
          have hidx' : ∀ hh : i < (str K).size, ((str K)[i]'hh).toNat = 1 := hidx
          clear hidx
          by_cases h9 : (i : Int) + 9 > (K.length : Int)
          · have HP : Hid (Ord.pt (K.drop i) = none) := by
              show _ = _
              rw [HD.out]
              simp only [Ord.pt, if_true]
              rw [if_neg (by rw [List.length_drop]; omega)]
            go_wp2
            go_ret2
            exact .bad (fun _ => HBAD.out HP.out) rfl HB.out
          · have hsl := fun W => slice_nine K i (by omega) W
            have h8 : ((K.drop (i + 1)).take 8).length = 8 := by rw [List.length_take, List.length_drop]; omega
            have HP : Hid (Ord.pt (K.drop i) = some (⟨false, Oc.val ((K.drop (i + 1)).take 8), []⟩, K.drop (i + 9))) := by
              show _ = _
              rw [HD.out]
              simp only [Ord.pt, if_true]
              rw [if_pos (by rw [List.length_drop]; omega), List.drop_drop]
            revert hsl h8 HP
            generalize (K.drop (i + 1)).take 8 = X
            intro hsl h8 HP
            have HN := Lib.hid (fun W => refNum_any (Oc.val X) W)
            go_wp2_with (first
              | (go_at_call 31; refine (num8_any _ X h8 _ (by constructor <;> simp)).mono ?_; rintro e w1 ⟨rfl, hu1⟩)
              | (go_at_call 30; refine (HN.out _).mono ?_; rintro e w2 ⟨rfl, hb2⟩; have HB2 := Lib.hid ((((HB.out.alloc hbs (.cells #[.string (str X), .int .i64 0] 61)).trans (hu1.below hbs)).trans (hb2.mono (by have := hu1.size; simp at this; omega)))); have HO2 := Lib.hid (own_below (own_upd' (HO.out.alloc (.cells #[.string (str X), .int .i64 0] 61)) hu1 HOB.out) hb2 (Nat.le_refl _)))
              | (at_builtin; refine wpList_append_own _ rfl _ _ 30 rfl w.heap.size 43 i0 _ 3 32 Tryd.underlying30 hi hz0 hz1 hz2 rfl (by decide) _ l.length _ rfl (HO2.out.alloc _) ⟨w2.heap.size, 0, none⟩ 1 1 (cellsP ⟨false, Oc.val X, []⟩) rfl rfl ?q1 ?q2 ?q3 ?q4 ?q5 ?_))
            case q1 => exact cellsP_at w2 ⟨false, Oc.val X, []⟩ 43
            case q2 => exact cellsP_one _
            case q3 => unfold maxLen; omega
            case q4 => omega
            case q5 => have := HB2.out.size; simp; omega
            intro v' w4 hown' hgrow _
            have HO4 : Hid (w4.ownsRow w.heap.size 43 3 v' (l ++ [(⟨false, Oc.val X, []⟩ : Ord.P)]).length ((l ++ [(⟨false, Oc.val X, []⟩ : Ord.P)]).flatMap cellsP)) := by
              show w4.ownsRow _ _ _ _ _ _
              rw [List.flatMap_append, flat_one, List.length_append]; exact hown'
            have HB4 : Hid (Below w.heap.size w w4) := (HB2.out.alloc HB2.out.size _).grown hgrow (by have := HB2.out.size; simp; omega) (fun g hg => (HO.out.lt g hg).1)
            clear hown' hgrow
            have HK4 := Lib.hid (fwd_key K l i _ _ HK.out HP.out)
            have HL4 := Lib.hid (ok_snoc l _ HL.out (Ord.pt_some _ _ _ HP.out).2)
            go_wp2
            go_roundg (K.length - (i + 9))
            case measure => omega
            case rel => exact ⟨l ++ [⟨false, Oc.val X, []⟩], i + 9, HL4, HK4, by omega, rfl, by go_num, HO4, HB4⟩
        · have h1' : ((c.toNat : Int) == 1) = false := by
            rw [beq_eq_false_iff_ne]; intro h; exact h1 (UInt8.toNat_inj.1 (by show c.toNat = 1; omega))
          by_cases h2 : c = 2
          · subst h2
            have hidx' : ∀ hh : i < (str K).size, ((str K)[i]'hh).toNat = 2 := hidx
            clear hidx
            have HPT : Hid (Ord.pt (K.drop i) = (Ord.un (K.drop (i + 1))).map (fun x => (⟨true, 0, x.1⟩, x.2))) := by
              show _ = _
              rw [HD.out]
              simp only [Ord.pt]
              rw [if_neg (by decide), if_pos trivial]
            obtain ⟨wo, rfl⟩ : ∃ wo : World, wo = wr := ⟨_, rfl⟩
            go_wp2_with fail
            go_loopg [5, 7] (K.length - (i + 1)) (fun g2 iv sv wi => ∃ (j : Nat) (t : List UInt8), i + 1 ≤ j ∧ j ≤ K.length ∧ g2 = K.length - j ∧ iv = .int .i64 j ∧ sv = .string (str t) ∧ Hid (t.length ≤ j) ∧ Hid (Ord.un (K.drop (i + 1)) = (Ord.un (K.drop j)).map (Ord.pre t)) ∧ Hid (Below wo.heap.size wo wi))
            case atStart => exact ⟨i + 1, [], by omega, by omega, rfl, by go_num, rfl, Nat.zero_le _, by show _ = _; cases Ord.un (K.drop (i + 1)) <;> rfl, Below.refl _ _⟩
            case round =>
              obtain ⟨j, t, hij, hjl, rfl, rfl, rfl, HTL, HU, HBI⟩ := hrel
              obtain ⟨wi, rfl⟩ : ∃ wi : World, wi = wr := ⟨_, rfl⟩
              have HBW := Lib.hid (below_step HB.out HBI.out)
              have HBADU : Hid (Ord.un (K.drop j) = none → ∀ m, (∀ p ∈ m, p.ok) → K ≠ Ord.key m) := fun h => HBAD.out (by rw [HPT.out, HU.out, h]; rfl)
              have hzt : (str t).size ≤ 1000 := by rw [str_size]; have := HTL.out; omega
              by_cases hjlt : j < K.length
              · obtain ⟨c2, hc2⟩ : ∃ c2, K[j]? = some c2 := ⟨_, List.getElem?_eq_getElem hjlt⟩
                have hx2 := str_at K j c2 hc2
                have hsl := fun W => slice_one K j c2 hc2 W
                have HD2 := Lib.hid (drop_atL K j c2 hc2)
                have hs1 : (str [c2]).size = 1 := rfl
                clear hc2
                by_cases hc0 : c2 = 0
                · subst hc0
                  have hx2' : ∀ hh : j < (str K).size, ((str K)[j]'hh).toNat = 0 := hx2
                  clear hx2 hsl hs1
                  by_cases hj1 : j + 1 < K.length
                  · obtain ⟨d, hd⟩ : ∃ d, K[j + 1]? = some d := ⟨_, List.getElem?_eq_getElem hj1⟩
                    have HD3 := Lib.hid (drop_atL K (j + 1) d hd)
                    have hj1I : ¬ (K.length : Int) ≤ (j : Int) + 1 := by omega
                    by_cases hd0 : d = 0
                    · subst hd0
                      have hi1 : ∀ W, (Instr.index 9 (.string (str K)) (.int .i64 ((j : Int) + 1))).run Tryd.prog W = .ok (.int .u8 0) W := fun W => index_at K (j + 1) 0 hd _ (by omega) W
                      have hi2 : ∀ W, (Instr.index 9 (.string (str K)) (.int .i64 ((j : Int) + 2 - 1))).run Tryd.prog W = .ok (.int .u8 0) W := fun W => index_at K (j + 1) 0 hd _ (by omega) W
                      have HP : Hid (Ord.pt (K.drop i) = some (⟨true, 0, t⟩, K.drop (j + 2))) := by
                        show _ = _
                        rw [HPT.out, HU.out, HD2.out, HD3.out, Ord.un_end]
                        simp [Ord.pre]
                      clear hd
                      have HST := Lib.hid (fun W => refStr_any t W)
                      go_wp2_with (first
                        | (go_at_call 32; refine (HST.out _).mono ?_; rintro e w2 ⟨rfl, hb2⟩; have HB2 := Lib.hid (below_step HBW.out hb2); have HO2 := Lib.hid (own_below (own_below HO.out HBI.out (Nat.le_refl _)) hb2 (Nat.le_refl _)))
                        | (at_builtin; refine wpList_append_own _ rfl _ _ 30 rfl w.heap.size 43 i0 _ 3 32 Tryd.underlying30 hi hz0 hz1 hz2 rfl (by decide) _ l.length _ rfl (HO2.out.alloc _) ⟨w2.heap.size, 0, none⟩ 1 1 (cellsP ⟨true, 0, t⟩) rfl rfl ?q1 ?q2 ?q3 ?q4 ?q5 ?_))
                      case q1 => exact cellsP_at w2 ⟨true, 0, t⟩ 43
                      case q2 => exact cellsP_one _
                      case q3 => unfold maxLen; omega
                      case q4 => omega
                      case q5 => have := HB2.out.size; simp; omega
                      intro v' w4 hown' hgrow _
                      have HO4 : Hid (w4.ownsRow w.heap.size 43 3 v' (l ++ [(⟨true, 0, t⟩ : Ord.P)]).length ((l ++ [(⟨true, 0, t⟩ : Ord.P)]).flatMap cellsP)) := by
                        show w4.ownsRow _ _ _ _ _ _
                        rw [List.flatMap_append, flat_one, List.length_append]; exact hown'
                      have HB4 : Hid (Below w.heap.size w w4) := (HB2.out.alloc HB2.out.size _).grown hgrow (by have := HB2.out.size; simp; omega) (fun g hg => (HO.out.lt g hg).1)
                      clear hown' hgrow
                      have HK4 := Lib.hid (fwd_key K l i _ _ HK.out HP.out)
                      have HL4 := Lib.hid (ok_snoc l _ HL.out (Ord.pt_some _ _ _ HP.out).2)
                      go_wp2
                      go_roundg (K.length - (j + 2))
                      case measure => omega
                      case rel => exact ⟨l ++ [⟨true, 0, t⟩], j + 2, HL4, HK4, by omega, rfl, by go_num, HO4, HB4⟩
                    · by_cases hd2 : d = 255
                      · subst hd2
                        have hi1 : ∀ W, (Instr.index 9 (.string (str K)) (.int .i64 ((j : Int) + 1))).run Tryd.prog W = .ok (.int .u8 255) W := fun W => index_at K (j + 1) 255 hd _ (by omega) W
                        have hi2 : ∀ W, (Instr.index 9 (.string (str K)) (.int .i64 ((j : Int) + 2 - 1))).run Tryd.prog W = .ok (.int .u8 255) W := fun W => index_at K (j + 1) 255 hd _ (by omega) W
                        clear hd
                        have HU2 : Hid (Ord.un (K.drop (i + 1)) = (Ord.un (K.drop (j + 2))).map (Ord.pre (t ++ [0]))) := by
                          show _ = _
                          rw [HU.out, HD2.out, HD3.out, Ord.un_go, pre_snoc]
                        have HJ : Hid (str t ++ str (Oc.big 1 0) = str (t ++ [0])) := str_append t [0]
                        have hz9 := big_size
                        go_wp2_with (go_at_call_of 25 (Value.int IntKind.i64 1); refine (big1 0 0 rfl (by decide) _).mono ?_; rintro e w2 ⟨rfl, hb2⟩)
                        go_roundg (K.length - (j + 2))
                        case measure => omega
                        case rel => exact ⟨j + 2, t ++ [0], by omega, by omega, rfl, by go_num, congrArg Value.string HJ.out, by show _ ≤ _; rw [List.length_append]; have := HTL.out; simp; omega, HU2, below_step' HBI.out hb2⟩
                      · have hi1 : ∀ W, (Instr.index 9 (.string (str K)) (.int .i64 ((j : Int) + 1))).run Tryd.prog W = .ok (.int .u8 d.toNat) W := fun W => index_at K (j + 1) d hd _ (by omega) W
                        clear hd
                        have hd0' : ((d.toNat : Int) != 0) = true := by
                          rw [bne_iff_ne]; intro h; exact hd0 (UInt8.toNat_inj.1 (by show d.toNat = 0; omega))
                        have hd2' : ((d.toNat : Int) != 255) = true := by
                          rw [bne_iff_ne]; intro h; exact hd2 (UInt8.toNat_inj.1 (by show d.toNat = 255; omega))
                        have HN : Hid (Ord.un (K.drop j) = none) := by
                          show _ = _
                          rw [HD2.out, HD3.out, Ord.un_bad hd0 hd2]
                        go_wp2
                        go_ret2
                        exact .bad (fun _ => HBADU.out HN.out) rfl HBW.out
                  · have HN : Hid (Ord.un (K.drop j) = none) := by
                      show _ = _
                      rw [HD2.out, List.drop_of_length_le (by omega), Ord.un_zero]
                    have hj1I : (K.length : Int) ≤ (j : Int) + 1 := by omega
                    go_wp2
                    go_ret2
                    exact .bad (fun _ => HBADU.out HN.out) rfl HBW.out
                · have hc1 : ((c2.toNat : Int) != 0) = true := by
                    rw [bne_iff_ne]; intro h; exact hc0 (UInt8.toNat_inj.1 (by show c2.toNat = 0; omega))
                  have HU2 : Hid (Ord.un (K.drop (i + 1)) = (Ord.un (K.drop (j + 1))).map (Ord.pre (t ++ [c2]))) := by
                    show _ = _
                    rw [HU.out, HD2.out, Ord.un_cons hc0, pre_snoc]
                  have HJ : Hid (str t ++ str [c2] = str (t ++ [c2])) := str_append t [c2]
                  go_wp2
                  go_roundg (K.length - (j + 1))
                  case measure => omega
                  case rel => exact ⟨j + 1, t ++ [c2], by omega, by omega, rfl, by go_num, congrArg Value.string HJ.out, by show _ ≤ _; rw [List.length_append]; have := HTL.out; simp; omega, HU2, HBI⟩
              · obtain rfl : j = K.length := by omega
                have HN : Hid (Ord.un (K.drop K.length) = none) := by show _ = _; rw [List.drop_length, Ord.un_nil]
                go_wp2
                go_ret2
                exact .bad (fun _ => HBADU.out HN.out) rfl HBW.out
          · have h2' : ((c.toNat : Int) != 2) = true := by
              rw [bne_iff_ne]; intro h; exact h2 (UInt8.toNat_inj.1 (by show c.toNat = 2; omega))
            have HP : Hid (Ord.pt (K.drop i) = none) := by
              show _ = _
              rw [HD.out]
              simp only [Ord.pt]
              rw [if_neg h1, if_neg h2]
            go_wp2
            go_ret2
            exact .bad (fun _ => HBAD.out HP.out) rfl HB.out
      · obtain rfl : i = K.length := by omega
        have HK' : Hid (K = Ord.key l) := by have := HK.out; rwa [List.drop_length, List.append_nil] at this
        obtain ⟨a1, c1, rfl⟩ : ∃ a1 c1, u4 = .slice a1 l.length c1 := by
          rcases HO.out.2 with ⟨h, h0⟩ | ⟨g, cap, cur, h, _⟩
          · exact ⟨none, 0, by rw [h, h0]⟩
          · exact ⟨_, cap, h⟩
        go_wp2
        go_ret2
        exact .ok l HL.out HK'.out HL255.out a1 _ c1 rfl rfl (Sl.own HO.out) HB.out
end Go.Proofs.YtgkonmidgeanmaaDoor
