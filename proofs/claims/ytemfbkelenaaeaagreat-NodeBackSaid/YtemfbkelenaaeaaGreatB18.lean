/- Texts of one seat, merged. -/
import Derived.Test.YtemfbkelenaaeaaGreatB15
import Derived.Test.YtemfbkelenaaeaaGreatB17
import Derived.Test.YtemfbkelenaaeaaGreatB04
import Derived.Test.YtemfbkelenaaeaaGreatB09
import Derived.Test.YtemfbkelenaaeaaGreatB05
import Derived.Deep.DeepCutAuto
set_option maxRecDepth 100000
set_option maxHeartbeats 4000000
set_option linter.unusedVariables false
/- The contract of the document's own Read. -/
namespace Go.Proofs.YtemfbkelenaaeaaGreat
open Go.RowKit
open Sl (Cl Kd)
set_option maxHeartbeats 2000000 in
set_option maxRecDepth 100000 in
theorem refRead_true (body : List UInt8) (hb : body.length ≤ 5000) (n : Int) (w : World) :
    Calls Tryz.prog 37 #[.string (str body), .int .i64 n, .bool true] w (ReadOut true body n w) := by
  obtain ⟨i0, hi, hz0, hz1i, hz2i⟩ := info_parts info42
  have hsz := str_size body
  have hlen : (body.length : Int) ≤ 5000 := by omega
  by_cases h0 : n < 0
  · have HBAD : Hid (∀ m, 0 ≤ n → ¬ Canon true body n.toNat m) := fun m h => absurd h (by omega)
    go_enter Tryz.func37, Tryz.ntmps37
    go_wp2
    go_ret2
    exact .bad HBAD.out rfl (Below.refl _ _)
  · obtain ⟨c, rfl⟩ : ∃ c : Nat, n = c := ⟨n.toNat, by omega⟩
    by_cases h1 : body.length / 2 < c
    · have HBAD : Hid (∀ m, (0 : Int) ≤ c → ¬ Canon true body (c : Int).toNat m) := fun m _ h => by have := h.size; simp at this; omega
      have h1' : (body.length : Int) / 2 < c := by omega
      go_enter Tryz.func37, Tryz.ntmps37
      go_wp2
      go_ret2
      exact .bad HBAD.out rfl (Below.refl _ _)
    · have h1' : ¬ (body.length : Int) / 2 < c := by omega
      have hc2 : 2 * c ≤ body.length := by omega
      have hcb : (c : Int) ≤ 2500 := by omega
      have hsl : (str body).extract (2 * c) (str body).size = str (body.drop (2 * c)) := slice_from body (2 * c)
      have hc3 : (2 : Int) * c ≤ body.length := by omega
      have hc4 : ((2 : Int) * c).toNat = 2 * c := by omega
      have HG0 := Lib.hid (Got.start true (body.drop (2 * c)) c (by rw [List.length_drop]; omega))
      have HCR : Hid (∀ m, Canon true body c m → body.drop (2 * c) = m.flatMap (Sl.shR true).enc) := fun m h => h.rest
      rw [hsz] at hsl
      revert HG0 HCR hsl
      generalize hs0 : body.drop (2 * c) = s0
      have HS0 := Lib.hid hs0
      clear hs0
      intro hsl HG0 HCR
      go_enter Tryz.func37, Tryz.ntmps37
      go_wp2
      have HR0 : Hid (Rd (w.alloc (.cells #[.string (str s0), .int .i64 0] 140)) w.heap.size (str s0) 0) := by
        show Rd _ _ _ _
        constructor <;> simp
      go_loopg [9, 10, 11, 12] c (fun n v a b i wr => ∃ (l : List Cl) (s : ByteArray) (e : Int), l.length ≤ c ∧ n = c - l.length ∧ i = .int .i64 l.length ∧ a = .string (str (Sl.begins (Sl.shR true) (2 * c) l)) ∧ b = .string (str (l.flatMap (Sl.shR true).enc)) ∧ Hid (Got true s0 c l s e) ∧ Hid (Rd wr w.heap.size s e) ∧ Hid (wr.ownsRow (w.heap.size + 1) 52 4 v l.length (l.flatMap cellsC)) ∧ Hid (Below w.heap.size w wr) ∧ Hid (w.heap.size + 1 ≤ wr.heap.size))
      case atStart => exact ⟨[], _, _, Nat.zero_le _, rfl, rfl, rfl, rfl, HG0.out, HR0.out, World.ownsRow_nil _ _ _ _, (Below.refl _ _).alloc (Nat.le_refl _) _, by show _ ≤ _; simp⟩
      case round =>
        obtain ⟨l, s, e, hk, rfl, rfl, rfl, rfl, HG, HR, HO, HB, HS⟩ := hrel
        clear HG0 HR0
        by_cases hlt : l.length < c
        · have hlt' : (l.length : Int) < c := by omega
          have HX0 := Lib.hid (Ex.new wr)
          have HR1 := Lib.hid (HR.out.alloc (.cells #[.string ⟨#[]⟩, .string ⟨#[]⟩, .int .u32 0, .int .u32 0] 52))
          have HM0 := Lib.hid ((Mod.refl w.heap.size wr).alloc (.cells #[.string ⟨#[]⟩, .string ⟨#[]⟩, .int .u32 0, .int .u32 0] 52))
          have HQ := Lib.hid (show w.heap.size < wr.heap.size from HS.out)
          have HT := Lib.hid (fun W (hW : Rd W w.heap.size s e) => num_any w.heap.size s e 1 (by decide) W hW)
          have hvT := Nat.lt_of_lt_of_le (Oc.val_lt (tk s e 1).1.data.toList) (Nat.pow_le_pow_right (by omega) (tk_size s e 1))
          have HKE : Hid (kyR s e = tk (tk s e 1).2.1 (tk s e 1).2.2 (Oc.val (tk s e 1).1.data.toList : Nat)) := rfl
          rw [show (((1 : Nat) : Int)) = 1 from rfl] at HT
          revert HT hvT HKE
          generalize tk s e 1 = T
          obtain ⟨t, s1, e1⟩ := T
          simp only
          generalize Oc.val t.data.toList = n1
          intro HT hvT HKE
          have HK := Lib.hid (fun W (hW : Rd W w.heap.size s1 e1) => refTake_any w.heap.size s1 e1 n1 W hW)
          revert HK HKE
          generalize tk s1 e1 n1 = K
          obtain ⟨k, s2, e2⟩ := K
          intro HKE HK
          simp only at HK
          have hn1 : (n1 : Int) < 256 := by omega
          have hvO := Nat.lt_of_lt_of_le (Oc.val_lt (tk s2 e2 1).1.data.toList) (Nat.pow_le_pow_right (by omega) (tk_size s2 e2 1))
          have HOO := Lib.hid (fun W (hW : Rd W w.heap.size s2 e2) => num_any w.heap.size s2 e2 1 (by decide) W hW)
          rw [show (((1 : Nat) : Int)) = 1 from rfl] at HOO
          have HRZ := Lib.hid (fun V h1 h2 => rc_zero HKE.out rfl (V := V) h1 h2)
          have HRM := Lib.hid (fun A B h1 h2 h3 => rc_more HKE.out rfl (A := A) (B := B) h1 h2 h3)
          revert hvO HOO HRZ HRM
          simp only
          generalize tk s2 e2 1 = O
          obtain ⟨o, s3, e3⟩ := O
          simp only
          generalize Oc.val o.data.toList = n
          intro hvO HOO HRZ HRM
          have hn256 : (n : Int) < 256 := by omega
          by_cases h0n : n = 0
          · subst h0n
            have hv2 := Nat.lt_of_lt_of_le (Oc.val_lt (tk s3 e3 2).1.data.toList) (Nat.pow_le_pow_right (by omega) (tk_size s3 e3 2))
            have HT2 := Lib.hid (fun W (hW : Rd W w.heap.size s3 e3) => num_any w.heap.size s3 e3 2 (by decide) W hW)
            rw [show (((2 : Nat) : Int)) = 2 from rfl] at HT2
            have HRF := Lib.hid (HRZ.out (vlR s3 e3) rfl rfl)
            clear HRZ HRM
            unfold vlR at HRF
            revert hv2 HT2 HRF
            generalize tk s3 e3 2 = T2
            obtain ⟨t2, s4, e4⟩ := T2
            simp only
            generalize Oc.val t2.data.toList = n2
            intro hv2 HT2 HRF
            have hn2 : (n2 : Int) < 65536 := by omega
            have HK2 := Lib.hid (fun W (hW : Rd W w.heap.size s4 e4) => refTake_any w.heap.size s4 e4 n2 W hW)
            revert HRF HK2
            generalize tk s4 e4 n2 = V
            obtain ⟨u, s5, e5⟩ := V
            intro HRF HK2
            simp only at HRF HK2
            have HXB := Lib.hid (HG.out.next hlt HRF.out)
            have hxx := HXB.out.good (⟨k.data.toList, u.data.toList, 0, 0⟩ : Cl) (by simp)
            have HCE := Lib.hid (fun W => refCell_any (⟨k.data.toList, u.data.toList, 0, 0⟩ : Cl) true hxx.1 (by have := hxx.2; omega) W)
            have hle := Sl.shR_len true (⟨k.data.toList, u.data.toList, 0, 0⟩ : Cl)
            have HSB : Hid (Sl.begins (Sl.shR true) (2 * c) (l ++ [(⟨k.data.toList, u.data.toList, 0, 0⟩ : Cl)]) = Sl.begins (Sl.shR true) (2 * c) l ++ Oc.big 2 (2 * c + (l.flatMap (Sl.shR true).enc).length)) := Sl.begins_snoc (Sl.shR true) _ l _
            have HSF : Hid ((l ++ [(⟨k.data.toList, u.data.toList, 0, 0⟩ : Cl)]).flatMap (Sl.shR true).enc = l.flatMap (Sl.shR true).enc ++ (Sl.shR true).enc (⟨k.data.toList, u.data.toList, 0, 0⟩ : Cl)) := Sl.flat_snoc (Sl.shR true) l _
            have hfl : (l.flatMap (Sl.shR true).enc).length ≤ 6579600000 := by
              have h1 := Sl.flat_le (Sl.shR true) l
              have h2 := Sl.sum_le (Sl.shR true) 65794 (Sl.shR_len true) l
              omega
            have hbl : (Sl.begins (Sl.shR true) (2 * c) l).length ≤ 200000 := by rw [Sl.begins_len]; omega
            have hz1 := str_size (Sl.begins (Sl.shR true) (2 * c) l)
            have hz2 := str_size (l.flatMap (Sl.shR true).enc)
            have hz3 := str_size ((Sl.shR true).enc (⟨k.data.toList, u.data.toList, 0, 0⟩ : Cl))
            have hz4 := big_size
            clear hxx
            revert HCE hle HSB HSF hfl hbl hz1 hz2 hz3
            generalize hB1 : Sl.begins (Sl.shR true) (2 * c) (l ++ [(⟨k.data.toList, u.data.toList, 0, 0⟩ : Cl)]) = B1
            generalize hF1 : (l ++ [(⟨k.data.toList, u.data.toList, 0, 0⟩ : Cl)]).flatMap (Sl.shR true).enc = F1
            generalize Sl.begins (Sl.shR true) (2 * c) l = B0
            generalize l.flatMap (Sl.shR true).enc = F0
            generalize (Sl.shR true).enc (⟨k.data.toList, u.data.toList, 0, 0⟩ : Cl) = ex
            have HB1 := Lib.hid hB1
            have HF1 := Lib.hid hF1
            clear hB1 hF1
            intro HCE hle HSB HSF hfl hbl hz1 hz2 hz3
            have hff : (2 : Int) * c + F0.length ≤ 6579700000 := by omega
            unfold aggC at HCE
            go_wp2_with (first
              | (at_builtin; refine wpList_append_own _ rfl _ _ 22 rfl (w.heap.size + 1) 52 i0 _ 4 40 Tryz.underlying22 hi hz0 hz1i hz2i rfl (by decide) _ l.length _ rfl (HOC.out.alloc _) ⟨wC.heap.size, 0, none⟩ 1 1 (cellsC (⟨k.data.toList, u.data.toList, 0, 0⟩ : Cl)) rfl rfl ?p1 ?p2 ?p3 ?p4 ?p5 ?_)
              | (go_at_call 79; refine (HCE.out _).mono ?_; rintro e0 wC ⟨rfl, hbC⟩; have HEC := Lib.hid (HEB.out.below hbC); have c0 := HEC.out.c0; have c1 := HEC.out.c1; have c2 := HEC.out.c2; have c3 := HEC.out.c3; have HOC := Lib.hid (own_below (own_below HOt.out hbB (Nat.le_refl _)) hbC (Nat.le_refl _)))
              | (go_at_call 78; refine (big_any _ (2 * c + F0.length) 2 ?_ (by omega) (by decide) (by decide) _).mono ?_; (first | omega | (rw [IntKind.wrap_u64]; omega)); rintro e0 wB ⟨rfl, hbB⟩; have HEB := Lib.hid (HX5.out.below hbB); have c0 := HEB.out.c0; have c1 := HEB.out.c1; have c2 := HEB.out.c2; have c3 := HEB.out.c3)
              | (go_at_call 83; refine (HK2.out _ HR5.out).mono ?_; rintro x w5 ⟨rfl, hr5, hu5⟩; have c1 := (HX4.out.upd hu5 (Nat.ne_of_gt HQ.out)).c1; have f1 := (HX4.out.upd hu5 (Nat.ne_of_gt HQ.out)).f1; have HR6 := Lib.hid (hr5.other (q := wr.heap.size) (i := 1) (.string u) (Nat.ne_of_lt HQ.out)); have HX5 : Hid (Ex (w5.setCell ⟨wr.heap.size, 1, none⟩ (.string u)) wr.heap.size (.string k) (.string u) (.int .u32 0) (.int .u32 0)) := ((HX4.out.upd hu5 (Nat.ne_of_gt HQ.out)).set 1 (.string u)); have HM5 := Lib.hid ((HM4.out.upd hu5).step' ((Below.refl wr.heap.size w5).setCell (p := ⟨wr.heap.size, 1, none⟩) (Nat.le_refl _) (.string u))); have HOt := Lib.hid (own_mod HO.out HM5.out (Nat.lt_succ_self w.heap.size)); clear hr5 hu5)
              | (go_at_call_of 84 (Value.int IntKind.i64 2); refine (HT2.out _ HR4.out).mono ?_; rintro x w4 ⟨rfl, hr4, hu4⟩; have HR5 := Lib.hid hr4; have HX4 := Lib.hid (HX3.out.upd hu4 (Nat.ne_of_gt HQ.out)); have HM4 := Lib.hid (HM3.out.upd hu4); clear hr4 hu4)
              | (go_at_call_of 84 (Value.int IntKind.i64 1); refine (HOO.out _ HR3.out).mono ?_; rintro x w3 ⟨rfl, hr3, hu3⟩; have HR4 := Lib.hid hr3; have HX3 := Lib.hid (HX2.out.upd hu3 (Nat.ne_of_gt HQ.out)); have HM3 := Lib.hid (HM2.out.upd hu3); clear hr3 hu3)
              | (go_at_call 83; refine (HK.out _ HR2.out).mono ?_; rintro x w2 ⟨rfl, hr2, hu2⟩; have HR3 := Lib.hid (hr2.other (q := wr.heap.size) (i := 0) (.string k) (Nat.ne_of_lt HQ.out)); have HX2 := Lib.hid ((HX1.out.upd hu2 (Nat.ne_of_gt HQ.out)).set 0 (.string k)); have HM2 := Lib.hid ((HM1.out.upd hu2).step' ((Below.refl wr.heap.size w2).setCell (p := ⟨wr.heap.size, 0, none⟩) (Nat.le_refl _) (.string k))); have c0 := (HX1.out.upd hu2 (Nat.ne_of_gt HQ.out)).c0; have f0 := (HX1.out.upd hu2 (Nat.ne_of_gt HQ.out)).f0; clear hr2 hu2)
              | (go_at_call_of 84 (Value.int IntKind.i64 1); refine (HT.out _ HR1.out).mono ?_; rintro x w1 ⟨rfl, hr1, hu1⟩; have HR2 := Lib.hid hr1; have HX1 := Lib.hid (HX0.out.upd hu1 (Nat.ne_of_gt HQ.out)); have HM1 := Lib.hid (HM0.out.upd hu1); clear hr1 hu1))
            case p1 => first | exact cellsC_new wC (⟨k.data.toList, u.data.toList, 0, 0⟩ : Cl) 52 | exact fun _ _ h => h
            case p2 => exact cellsC_one _
            case p3 => unfold maxLen; omega
            case p4 => omega
            case p5 => have h1 := HS.out; have h2 := HM5.out.size; have h3 := hbB.size; have h4 := hbC.size; simp; omega
            intro v' w4 hown' hgrow _
            have hsC : w.heap.size + 1 ≤ wC.heap.size := by have h1 := HS.out; have h2 := HM5.out.size; have h3 := hbB.size; have h4 := hbC.size; omega
            have HO4 : Hid (w4.ownsRow (w.heap.size + 1) 52 4 v' (l ++ [(⟨k.data.toList, u.data.toList, 0, 0⟩ : Cl)]).length ((l ++ [(⟨k.data.toList, u.data.toList, 0, 0⟩ : Cl)]).flatMap cellsC)) := by
              show w4.ownsRow _ _ _ _ _ _
              rw [List.flatMap_append, List.length_append]; simpa using hown'
            have HBC : Hid (Below (w.heap.size + 1) wC w4) := ((Below.refl _ _).alloc hsC _).grown hgrow (by simp; omega) (fun g hg => (HOC.out.lt g hg).1)
            have HBt : Hid (Below w.heap.size w (w5.setCell ⟨wr.heap.size, 1, none⟩ (.string u))) := HB.out.trans (HM5.out.below (Nat.le_refl _) HB.out.size)
            have HB4 : Hid (Below w.heap.size w w4) := ((HBt.out.trans (hbB.mono HBt.out.size)).trans (hbC.mono (Nat.le_trans HBt.out.size hbB.size))).trans (HBC.out.mono (Nat.le_succ _))
            have HR9 : Hid (Rd w4 w.heap.size _ _) := ((HR6.out.below hbB).below hbC).below' HBC.out (Nat.lt_succ_self _)
            have HS4 : Hid (w.heap.size + 1 ≤ w4.heap.size) := Nat.le_trans hsC HBC.out.size
            clear hown' hgrow hbB hbC
            go_wp2
            go_roundg (c - (l.length + 1))
            case measure => omega
            case rel =>
              exact ⟨l ++ [(⟨k.data.toList, u.data.toList, 0, 0⟩ : Cl)], _, _, by rw [List.length_append]; exact hlt, by rw [List.length_append]; rfl, by rw [List.length_append]; go_num, by rw [HB1.out, HSB.out, str_append], by rw [HF1.out, HSF.out, str_append], HXB, HR9, HO4, HB4, HS4⟩
          · have hd0 : ((n : Int) == 0) = false := by rw [beq_eq_false_iff_ne]; omega
            have hv4 := tk_val4 s3 e3
            have HA4 := Lib.hid (fun W (hW : Rd W w.heap.size s3 e3) => num_any w.heap.size s3 e3 4 (by decide) W hW)
            rw [show (((4 : Nat) : Int)) = 4 from rfl] at HA4
            have HRF0 := Lib.hid (fun B h3 => HRM.out _ B h0n rfl h3)
            clear HRZ HRM
            revert hv4 HA4 HRF0
            try simp only
            generalize tk s3 e3 4 = A
            obtain ⟨a4, s4, e4⟩ := A
            simp only
            generalize Oc.val a4.data.toList = n4
            intro hv4 HA4 HRF0
            have hv5 := tk_val4 s4 e4
            have HB5 := Lib.hid (fun W (hW : Rd W w.heap.size s4 e4) => num_any w.heap.size s4 e4 4 (by decide) W hW)
            rw [show (((4 : Nat) : Int)) = 4 from rfl] at HB5
            have HRF := Lib.hid (HRF0.out _ rfl)
            clear HRF0
            revert hv5 HB5 HRF
            try simp only
            generalize tk s4 e4 4 = B
            obtain ⟨b5, s5, e5⟩ := B
            simp only
            generalize Oc.val b5.data.toList = n5
            intro hv5 HB5 HRF
            by_cases hbad : 1 < n ∨ n = 1 ∧ n4 = 0
            · have HBAD : Hid (∀ m, (0 : Int) ≤ (c : Int) → ¬ Canon true body ((c : Int)).toNat m) := fun m _ h => HG.out.none hlt (by rw [HRF.out]; exact decide_eq_true hbad) m h.1 h.2.1 (HCR.out m h)
              rcases hbad with hn1' | ⟨rfl, rfl⟩
              · have hn1i : (1 : Int) < n := by omega
                clear HRF
                go_wp2_with (first
                  | (go_at_call_of 84 (Value.int IntKind.i64 4); refine (HB5.out _ HR5.out).mono ?_; rintro x w5 ⟨rfl, hr5, hu5⟩; have c2' := (HX4.out.upd hu5 (Nat.ne_of_gt HQ.out)).c2; have c3 := (HX4.out.upd hu5 (Nat.ne_of_gt HQ.out)).c3; have f3 := (HX4.out.upd hu5 (Nat.ne_of_gt HQ.out)).f3; have HR6 := Lib.hid (hr5.other (q := wr.heap.size) (i := 3) (.int .u32 n5) (Nat.ne_of_lt HQ.out)); have HX5 : Hid (Ex (w5.setCell ⟨wr.heap.size, 3, none⟩ (.int .u32 n5)) wr.heap.size (.string k) (.string ⟨#[]⟩) (.int .u32 n4) (.int .u32 n5)) := ((HX4.out.upd hu5 (Nat.ne_of_gt HQ.out)).set 3 (.int .u32 n5)); have HM5 := Lib.hid ((HM4.out.upd hu5).step' ((Below.refl wr.heap.size w5).setCell (p := ⟨wr.heap.size, 3, none⟩) (Nat.le_refl _) (.int .u32 n5))); have HOt := Lib.hid (own_mod HO.out HM5.out (Nat.lt_succ_self w.heap.size)); clear hr5 hu5)
                  | (go_at_call_of 84 (Value.int IntKind.i64 4); refine (HA4.out _ HR4.out).mono ?_; rintro x w4 ⟨rfl, hr4, hu4⟩; have c2 := (HX3.out.upd hu4 (Nat.ne_of_gt HQ.out)).c2; have f2 := (HX3.out.upd hu4 (Nat.ne_of_gt HQ.out)).f2; have HR5 := Lib.hid (hr4.other (q := wr.heap.size) (i := 2) (.int .u32 n4) (Nat.ne_of_lt HQ.out)); have HX4 : Hid (Ex (w4.setCell ⟨wr.heap.size, 2, none⟩ (.int .u32 n4)) wr.heap.size (.string k) (.string ⟨#[]⟩) (.int .u32 n4) (.int .u32 0)) := ((HX3.out.upd hu4 (Nat.ne_of_gt HQ.out)).set 2 (.int .u32 n4)); have HM4 := Lib.hid ((HM3.out.upd hu4).step' ((Below.refl wr.heap.size w4).setCell (p := ⟨wr.heap.size, 2, none⟩) (Nat.le_refl _) (.int .u32 n4))); clear hr4 hu4)
                  | (go_at_call_of 84 (Value.int IntKind.i64 1); refine (HOO.out _ HR3.out).mono ?_; rintro x w3 ⟨rfl, hr3, hu3⟩; have HR4 := Lib.hid hr3; have HX3 := Lib.hid (HX2.out.upd hu3 (Nat.ne_of_gt HQ.out)); have HM3 := Lib.hid (HM2.out.upd hu3); clear hr3 hu3)
                  | (go_at_call 83; refine (HK.out _ HR2.out).mono ?_; rintro x w2 ⟨rfl, hr2, hu2⟩; have HR3 := Lib.hid (hr2.other (q := wr.heap.size) (i := 0) (.string k) (Nat.ne_of_lt HQ.out)); have HX2 := Lib.hid ((HX1.out.upd hu2 (Nat.ne_of_gt HQ.out)).set 0 (.string k)); have HM2 := Lib.hid ((HM1.out.upd hu2).step' ((Below.refl wr.heap.size w2).setCell (p := ⟨wr.heap.size, 0, none⟩) (Nat.le_refl _) (.string k))); have c0 := (HX1.out.upd hu2 (Nat.ne_of_gt HQ.out)).c0; have f0 := (HX1.out.upd hu2 (Nat.ne_of_gt HQ.out)).f0; clear hr2 hu2)
                  | (go_at_call_of 84 (Value.int IntKind.i64 1); refine (HT.out _ HR1.out).mono ?_; rintro x w1 ⟨rfl, hr1, hu1⟩; have HR2 := Lib.hid hr1; have HX1 := Lib.hid (HX0.out.upd hu1 (Nat.ne_of_gt HQ.out)); have HM1 := Lib.hid (HM0.out.upd hu1); clear hr1 hu1))
                go_ret2
                exact .bad HBAD.out rfl (HB.out.trans (HM5.out.below (Nat.le_refl _) HB.out.size))
              · clear HRF
                go_wp2_with (first
                  | (go_at_call_of 84 (Value.int IntKind.i64 4); refine (HB5.out _ HR5.out).mono ?_; rintro x w5 ⟨rfl, hr5, hu5⟩; have c2' := (HX4.out.upd hu5 (Nat.ne_of_gt HQ.out)).c2; have c3 := (HX4.out.upd hu5 (Nat.ne_of_gt HQ.out)).c3; have f3 := (HX4.out.upd hu5 (Nat.ne_of_gt HQ.out)).f3; have HR6 := Lib.hid (hr5.other (q := wr.heap.size) (i := 3) (.int .u32 n5) (Nat.ne_of_lt HQ.out)); have HX5 : Hid (Ex (w5.setCell ⟨wr.heap.size, 3, none⟩ (.int .u32 n5)) wr.heap.size (.string k) (.string ⟨#[]⟩) (.int .u32 0) (.int .u32 n5)) := ((HX4.out.upd hu5 (Nat.ne_of_gt HQ.out)).set 3 (.int .u32 n5)); have HM5 := Lib.hid ((HM4.out.upd hu5).step' ((Below.refl wr.heap.size w5).setCell (p := ⟨wr.heap.size, 3, none⟩) (Nat.le_refl _) (.int .u32 n5))); have HOt := Lib.hid (own_mod HO.out HM5.out (Nat.lt_succ_self w.heap.size)); clear hr5 hu5)
                  | (go_at_call_of 84 (Value.int IntKind.i64 4); refine (HA4.out _ HR4.out).mono ?_; rintro x w4 ⟨rfl, hr4, hu4⟩; have c2 := (HX3.out.upd hu4 (Nat.ne_of_gt HQ.out)).c2; have f2 := (HX3.out.upd hu4 (Nat.ne_of_gt HQ.out)).f2; have HR5 := Lib.hid (hr4.other (q := wr.heap.size) (i := 2) (.int .u32 0) (Nat.ne_of_lt HQ.out)); have HX4 : Hid (Ex (w4.setCell ⟨wr.heap.size, 2, none⟩ (.int .u32 0)) wr.heap.size (.string k) (.string ⟨#[]⟩) (.int .u32 0) (.int .u32 0)) := ((HX3.out.upd hu4 (Nat.ne_of_gt HQ.out)).set 2 (.int .u32 0)); have HM4 := Lib.hid ((HM3.out.upd hu4).step' ((Below.refl wr.heap.size w4).setCell (p := ⟨wr.heap.size, 2, none⟩) (Nat.le_refl _) (.int .u32 0))); clear hr4 hu4)
                  | (go_at_call_of 84 (Value.int IntKind.i64 1); refine (HOO.out _ HR3.out).mono ?_; rintro x w3 ⟨rfl, hr3, hu3⟩; have HR4 := Lib.hid hr3; have HX3 := Lib.hid (HX2.out.upd hu3 (Nat.ne_of_gt HQ.out)); have HM3 := Lib.hid (HM2.out.upd hu3); clear hr3 hu3)
                  | (go_at_call 83; refine (HK.out _ HR2.out).mono ?_; rintro x w2 ⟨rfl, hr2, hu2⟩; have HR3 := Lib.hid (hr2.other (q := wr.heap.size) (i := 0) (.string k) (Nat.ne_of_lt HQ.out)); have HX2 := Lib.hid ((HX1.out.upd hu2 (Nat.ne_of_gt HQ.out)).set 0 (.string k)); have HM2 := Lib.hid ((HM1.out.upd hu2).step' ((Below.refl wr.heap.size w2).setCell (p := ⟨wr.heap.size, 0, none⟩) (Nat.le_refl _) (.string k))); have c0 := (HX1.out.upd hu2 (Nat.ne_of_gt HQ.out)).c0; have f0 := (HX1.out.upd hu2 (Nat.ne_of_gt HQ.out)).f0; clear hr2 hu2)
                  | (go_at_call_of 84 (Value.int IntKind.i64 1); refine (HT.out _ HR1.out).mono ?_; rintro x w1 ⟨rfl, hr1, hu1⟩; have HR2 := Lib.hid hr1; have HX1 := Lib.hid (HX0.out.upd hu1 (Nat.ne_of_gt HQ.out)); have HM1 := Lib.hid (HM0.out.upd hu1); clear hr1 hu1))
                go_ret2
                exact .bad HBAD.out rfl (HB.out.trans (HM5.out.below (Nat.le_refl _) HB.out.size))
            · have HRT : Hid (rcR true s e = (⟨k.data.toList, [], n4, n5⟩, s5, e5, false)) := by
                have := HRF.out
                rw [decide_eq_false hbad] at this
                exact this
              clear HRF
              obtain rfl : n = 1 := by omega
              have hn4 : n4 ≠ 0 := fun h => hbad (.inr ⟨rfl, h⟩)
              have hd4 : ((n4 : Int) == 0) = false := by rw [beq_eq_false_iff_ne]; omega
              clear hbad
              have HXB := Lib.hid (HG.out.next hlt HRT.out)
              have hxx := HXB.out.good (⟨k.data.toList, [], n4, n5⟩ : Cl) (by simp)
              have HCE := Lib.hid (fun W => refCell_any (⟨k.data.toList, [], n4, n5⟩ : Cl) true hxx.1 (by have := hxx.2; omega) W)
              have hle := Sl.shR_len true (⟨k.data.toList, [], n4, n5⟩ : Cl)
              have HSB : Hid (Sl.begins (Sl.shR true) (2 * c) (l ++ [(⟨k.data.toList, [], n4, n5⟩ : Cl)]) = Sl.begins (Sl.shR true) (2 * c) l ++ Oc.big 2 (2 * c + (l.flatMap (Sl.shR true).enc).length)) := Sl.begins_snoc (Sl.shR true) _ l _
              have HSF : Hid ((l ++ [(⟨k.data.toList, [], n4, n5⟩ : Cl)]).flatMap (Sl.shR true).enc = l.flatMap (Sl.shR true).enc ++ (Sl.shR true).enc (⟨k.data.toList, [], n4, n5⟩ : Cl)) := Sl.flat_snoc (Sl.shR true) l _
              have hfl : (l.flatMap (Sl.shR true).enc).length ≤ 6579600000 := by
                have h1 := Sl.flat_le (Sl.shR true) l
                have h2 := Sl.sum_le (Sl.shR true) 65794 (Sl.shR_len true) l
                omega
              have hbl : (Sl.begins (Sl.shR true) (2 * c) l).length ≤ 200000 := by rw [Sl.begins_len]; omega
              have hz1 := str_size (Sl.begins (Sl.shR true) (2 * c) l)
              have hz2 := str_size (l.flatMap (Sl.shR true).enc)
              have hz3 := str_size ((Sl.shR true).enc (⟨k.data.toList, [], n4, n5⟩ : Cl))
              have hz4 := big_size
              clear hxx
              revert HCE hle HSB HSF hfl hbl hz1 hz2 hz3
              generalize hB1 : Sl.begins (Sl.shR true) (2 * c) (l ++ [(⟨k.data.toList, [], n4, n5⟩ : Cl)]) = B1
              generalize hF1 : (l ++ [(⟨k.data.toList, [], n4, n5⟩ : Cl)]).flatMap (Sl.shR true).enc = F1
              generalize Sl.begins (Sl.shR true) (2 * c) l = B0
              generalize l.flatMap (Sl.shR true).enc = F0
              generalize (Sl.shR true).enc (⟨k.data.toList, [], n4, n5⟩ : Cl) = ex
              have HB1 := Lib.hid hB1
              have HF1 := Lib.hid hF1
              clear hB1 hF1
              intro HCE hle HSB HSF hfl hbl hz1 hz2 hz3
              have hff : (2 : Int) * c + F0.length ≤ 6579700000 := by omega
              unfold aggC at HCE
              go_wp2_with (first
                | (at_builtin; refine wpList_append_own _ rfl _ _ 22 rfl (w.heap.size + 1) 52 i0 _ 4 40 Tryz.underlying22 hi hz0 hz1i hz2i rfl (by decide) _ l.length _ rfl (HOC.out.alloc _) ⟨wC.heap.size, 0, none⟩ 1 1 (cellsC (⟨k.data.toList, [], n4, n5⟩ : Cl)) rfl rfl ?p1 ?p2 ?p3 ?p4 ?p5 ?_)
                | (go_at_call 79; refine (HCE.out _).mono ?_; rintro e0 wC ⟨rfl, hbC⟩; have HEC := Lib.hid (HEB.out.below hbC); have c0 := HEC.out.c0; have c1 := HEC.out.c1; have c2 := HEC.out.c2; have c3 := HEC.out.c3; have HOC := Lib.hid (own_below (own_below HOt.out hbB (Nat.le_refl _)) hbC (Nat.le_refl _)))
                | (go_at_call 78; refine (big_any _ (2 * c + F0.length) 2 ?_ (by omega) (by decide) (by decide) _).mono ?_; (first | omega | (rw [IntKind.wrap_u64]; omega)); rintro e0 wB ⟨rfl, hbB⟩; have HEB := Lib.hid (HX5.out.below hbB); have c0 := HEB.out.c0; have c1 := HEB.out.c1; have c2 := HEB.out.c2; have c3 := HEB.out.c3)
                | (go_at_call_of 84 (Value.int IntKind.i64 4); refine (HB5.out _ HR5.out).mono ?_; rintro x w5 ⟨rfl, hr5, hu5⟩; have c2' := (HX4.out.upd hu5 (Nat.ne_of_gt HQ.out)).c2; have c3 := (HX4.out.upd hu5 (Nat.ne_of_gt HQ.out)).c3; have f3 := (HX4.out.upd hu5 (Nat.ne_of_gt HQ.out)).f3; have HR6 := Lib.hid (hr5.other (q := wr.heap.size) (i := 3) (.int .u32 n5) (Nat.ne_of_lt HQ.out)); have HX5 : Hid (Ex (w5.setCell ⟨wr.heap.size, 3, none⟩ (.int .u32 n5)) wr.heap.size (.string k) (.string ⟨#[]⟩) (.int .u32 n4) (.int .u32 n5)) := ((HX4.out.upd hu5 (Nat.ne_of_gt HQ.out)).set 3 (.int .u32 n5)); have HM5 := Lib.hid ((HM4.out.upd hu5).step' ((Below.refl wr.heap.size w5).setCell (p := ⟨wr.heap.size, 3, none⟩) (Nat.le_refl _) (.int .u32 n5))); have HOt := Lib.hid (own_mod HO.out HM5.out (Nat.lt_succ_self w.heap.size)); clear hr5 hu5)
                | (go_at_call_of 84 (Value.int IntKind.i64 4); refine (HA4.out _ HR4.out).mono ?_; rintro x w4 ⟨rfl, hr4, hu4⟩; have c2 := (HX3.out.upd hu4 (Nat.ne_of_gt HQ.out)).c2; have f2 := (HX3.out.upd hu4 (Nat.ne_of_gt HQ.out)).f2; have HR5 := Lib.hid (hr4.other (q := wr.heap.size) (i := 2) (.int .u32 n4) (Nat.ne_of_lt HQ.out)); have HX4 : Hid (Ex (w4.setCell ⟨wr.heap.size, 2, none⟩ (.int .u32 n4)) wr.heap.size (.string k) (.string ⟨#[]⟩) (.int .u32 n4) (.int .u32 0)) := ((HX3.out.upd hu4 (Nat.ne_of_gt HQ.out)).set 2 (.int .u32 n4)); have HM4 := Lib.hid ((HM3.out.upd hu4).step' ((Below.refl wr.heap.size w4).setCell (p := ⟨wr.heap.size, 2, none⟩) (Nat.le_refl _) (.int .u32 n4))); clear hr4 hu4)
                | (go_at_call_of 84 (Value.int IntKind.i64 1); refine (HOO.out _ HR3.out).mono ?_; rintro x w3 ⟨rfl, hr3, hu3⟩; have HR4 := Lib.hid hr3; have HX3 := Lib.hid (HX2.out.upd hu3 (Nat.ne_of_gt HQ.out)); have HM3 := Lib.hid (HM2.out.upd hu3); clear hr3 hu3)
                | (go_at_call 83; refine (HK.out _ HR2.out).mono ?_; rintro x w2 ⟨rfl, hr2, hu2⟩; have HR3 := Lib.hid (hr2.other (q := wr.heap.size) (i := 0) (.string k) (Nat.ne_of_lt HQ.out)); have HX2 := Lib.hid ((HX1.out.upd hu2 (Nat.ne_of_gt HQ.out)).set 0 (.string k)); have HM2 := Lib.hid ((HM1.out.upd hu2).step' ((Below.refl wr.heap.size w2).setCell (p := ⟨wr.heap.size, 0, none⟩) (Nat.le_refl _) (.string k))); have c0 := (HX1.out.upd hu2 (Nat.ne_of_gt HQ.out)).c0; have f0 := (HX1.out.upd hu2 (Nat.ne_of_gt HQ.out)).f0; clear hr2 hu2)
                | (go_at_call_of 84 (Value.int IntKind.i64 1); refine (HT.out _ HR1.out).mono ?_; rintro x w1 ⟨rfl, hr1, hu1⟩; have HR2 := Lib.hid hr1; have HX1 := Lib.hid (HX0.out.upd hu1 (Nat.ne_of_gt HQ.out)); have HM1 := Lib.hid (HM0.out.upd hu1); clear hr1 hu1))
              case p1 => first | exact cellsC_new wC (⟨k.data.toList, [], n4, n5⟩ : Cl) 52 | exact fun _ _ h => h
              case p2 => exact cellsC_one _
              case p3 => unfold maxLen; omega
              case p4 => omega
              case p5 => have h1 := HS.out; have h2 := HM5.out.size; have h3 := hbB.size; have h4 := hbC.size; simp; omega
              intro v' w4 hown' hgrow _
              have hsC : w.heap.size + 1 ≤ wC.heap.size := by have h1 := HS.out; have h2 := HM5.out.size; have h3 := hbB.size; have h4 := hbC.size; omega
              have HO4 : Hid (w4.ownsRow (w.heap.size + 1) 52 4 v' (l ++ [(⟨k.data.toList, [], n4, n5⟩ : Cl)]).length ((l ++ [(⟨k.data.toList, [], n4, n5⟩ : Cl)]).flatMap cellsC)) := by
                show w4.ownsRow _ _ _ _ _ _
                rw [List.flatMap_append, List.length_append]; simpa using hown'
              have HBC : Hid (Below (w.heap.size + 1) wC w4) := ((Below.refl _ _).alloc hsC _).grown hgrow (by simp; omega) (fun g hg => (HOC.out.lt g hg).1)
              have HBt : Hid (Below w.heap.size w (w5.setCell ⟨wr.heap.size, 3, none⟩ (.int .u32 n5))) := HB.out.trans (HM5.out.below (Nat.le_refl _) HB.out.size)
              have HB4 : Hid (Below w.heap.size w w4) := ((HBt.out.trans (hbB.mono HBt.out.size)).trans (hbC.mono (Nat.le_trans HBt.out.size hbB.size))).trans (HBC.out.mono (Nat.le_succ _))
              have HR9 : Hid (Rd w4 w.heap.size _ _) := ((HR6.out.below hbB).below hbC).below' HBC.out (Nat.lt_succ_self _)
              have HS4 : Hid (w.heap.size + 1 ≤ w4.heap.size) := Nat.le_trans hsC HBC.out.size
              clear hown' hgrow hbB hbC
              go_wp2
              go_roundg (c - (l.length + 1))
              case measure => omega
              case rel =>
                exact ⟨l ++ [(⟨k.data.toList, [], n4, n5⟩ : Cl)], _, _, by rw [List.length_append]; exact hlt, by rw [List.length_append]; rfl, by rw [List.length_append]; go_num, by rw [HB1.out, HSB.out, str_append], by rw [HF1.out, HSF.out, str_append], HXB, HR9, HO4, HB4, HS4⟩

        · obtain rfl : c = l.length := by omega
          have HGG := HG
          have hR1 := HR.out.c1
          have hfl : (l.flatMap (Sl.shR true).enc).length ≤ 6579600000 := by
            have h1 := Sl.flat_le (Sl.shR true) l
            have h2 := Sl.sum_le (Sl.shR true) 65794 (Sl.shR_len true) l
            omega
          have hbl : (Sl.begins (Sl.shR true) (2 * l.length) l).length ≤ 200000 := by rw [Sl.begins_len]; omega
          have hz1 := str_size (Sl.begins (Sl.shR true) (2 * l.length) l)
          have hz2 := str_size (l.flatMap (Sl.shR true).enc)
          have hlt0 : ¬ (l.length : Int) < l.length := by omega
          by_cases he : e = 0
          · subst he
            by_cases hbd : body = Sl.body (Sl.shR true) l
            · have HCN : Hid (Canon true body ((l.length : Int)).toNat l) := ⟨by simp, by obtain ⟨_, _, _, h⟩ := HG.out.fair rfl; exact h, hbd⟩
              have hbq := str_beq (show Sl.begins (Sl.shR true) (2 * l.length) l ++ l.flatMap (Sl.shR true).enc = body from hbd.symm)
              rw [← str_append] at hbq
              have HSl := Lib.hid (SlC.own HO.out)
              have HRt := Lib.hid (fun W (hW : SlC W u9 l) => refRight_any true u9 l (by omega) W hW)
              clear hbd
              by_cases hr : Sl.right (Sl.shR true) l = 0
              · have HRR := Lib.hid hr
                rw [hr] at HRt
                clear hr
                revert hfl hbl hz1 hz2 hbq
                generalize Sl.begins (Sl.shR true) (2 * l.length) l = B0
                generalize l.flatMap (Sl.shR true).enc = F0
                intro hfl hbl hz1 hz2 hbq
                go_wp2_with (go_at_call 77; refine (HRt.out _ HSl.out).mono ?_; rintro x w5 ⟨rfl, hb5⟩)
                go_ret2
                exact .ok l (Int.natCast_nonneg _) HCN.out HRR.out _ rfl (HSl.out.below hb5) (ownsRow_cap HO.out) (HB.out.trans (hb5.mono HB.out.size))
              · have HRR := Lib.hid hr
                have hd : (Sl.right (Sl.shR true) l != 0) = true := by rw [bne_iff_ne]; exact hr
                clear hr
                revert hfl hbl hz1 hz2 hbq
                generalize Sl.begins (Sl.shR true) (2 * l.length) l = B0
                generalize l.flatMap (Sl.shR true).enc = F0
                intro hfl hbl hz1 hz2 hbq
                go_wp2_with (go_at_call 77; refine (HRt.out _ HSl.out).mono ?_; rintro x w5 ⟨rfl, hb5⟩)
                go_ret2
                exact .ord l (Int.natCast_nonneg _) HCN.out HRR.out rfl (HB.out.trans (hb5.mono HB.out.size))
            · have HBAD : Hid (∀ m, (0 : Int) ≤ (l.length : Int) → ¬ Canon true body ((l.length : Int)).toNat m) := fun m _ h => by
                have h' : Canon true body l.length m := h
                obtain ⟨_, h2, _⟩ := HG.out.part m h'.1 h'.2.1 (HCR.out m h')
                rw [List.take_of_length_le (Nat.le_of_eq h'.1)] at h2
                exact hbd (by rw [h2]; exact h'.2.2)
              have hbq := str_bne (fun e => hbd (Eq.symm (show Sl.begins (Sl.shR true) (2 * l.length) l ++ l.flatMap (Sl.shR true).enc = body from e)))
              rw [← str_append] at hbq
              clear hbd
              revert hfl hbl hz1 hz2 hbq
              generalize Sl.begins (Sl.shR true) (2 * l.length) l = B0
              generalize l.flatMap (Sl.shR true).enc = F0
              intro hfl hbl hz1 hz2 hbq
              go_wp2
              go_ret2
              exact .bad HBAD.out rfl HB.out
          · have HBAD : Hid (∀ m, (0 : Int) ≤ (l.length : Int) → ¬ Canon true body ((l.length : Int)).toNat m) := fun m _ h => by
              have h' : Canon true body l.length m := h
              exact he (HG.out.part m h'.1 h'.2.1 (HCR.out m h')).1
            have hd : (e != 0) = true := by rw [bne_iff_ne]; exact he
            go_wp2
            go_ret2
            exact .bad HBAD.out rfl HB.out

end Go.Proofs.YtemfbkelenaaeaaGreat
/- The contract of Find, at a leaf's cells, over rising keys. -/
namespace Go.Proofs.YtemfbkelenaaeaaGreat
open Go.RowKit
open Sl (Cl Kd)
theorem box4 {w w1 : World} {x0 x1 x2 x3 : Value} {T : TypeId} (hb : Below (w.alloc (.cells #[x0, x1, x2, x3] T)).heap.size (w.alloc (.cells #[x0, x1, x2, x3] T)) w1) : Below w.heap.size w w1 :=
  below_step ((Below.refl _ _).alloc (Nat.le_refl _) _) hb
theorem compare_any (a b : List UInt8) (w : World) :
    Calls Tryz.prog 93 #[.string (str a), .string (str b)] w fun e w' => e = .returned (.int .i64 (Lib.compareBytes a b)) ∧ w = w' :=
  (Tryz.strings_Compare (str a) (str b) w).mono fun _ _ ⟨h1, h2⟩ => ⟨h1, h2.symm⟩
theorem findFnC_any (x : Cl) (key : List UInt8) (g : Nat) (w : World) (hb : BxC w g) :
    Calls Tryz.prog 92 #[aggC x, .string (str key), .pointer (some ⟨g, 0, none⟩)] w fun e w' => e = .returned (.int .i64 (Lib.compareBytes (Sl.shC.key x) key)) ∧ Below w.heap.size w w' := by
  have HK := Lib.hid (fun W => keyC2_any x W)
  have HA := Lib.hid (fun o1 => hb.alloc o1)
  have q0 := fun o1 => (HA.out o1).c0
  have q1 := fun o1 => (HA.out o1).c1
  have q2 := fun o1 => (HA.out o1).c2
  have q3 := fun o1 => (HA.out o1).c3
  revert HK
  generalize Sl.shC.key x = kx
  intro HK
  unfold shpC aggC at HK
  unfold aggC
  go_enter Tryz.func92, Tryz.ntmps92
  go_wp2_with (first
    | (go_at_call 94; refine (HK.out _).mono ?_; rintro e w1 ⟨rfl, hb1⟩)
    | (go_at_call 93; refine (compare_any _ _ _).mono ?_; rintro e w2 ⟨rfl, rfl⟩))
  go_ret
  exact ⟨rfl, below_step ((Below.refl _ _).alloc (Nat.le_refl _) _) hb1⟩
set_option maxHeartbeats 4000000 in
set_option maxRecDepth 100000 in
theorem bsfC_any (v : Value) (l : List Cl) (hll : l.length ≤ 100000) (key : List UInt8) (g : Nat) (w : World) (hv : SlC w v l) (hb : BxC w g) (hr : Sl.rises Sl.shC l = true) :
    Calls Tryz.prog 91 #[v, .string (str key), .func (.func 92) #[] #[.pointer (some ⟨g, 0, none⟩)]] w fun e w' => e = .returned (.tuple #[.int .i64 (Sl.place Sl.shC l key : Nat), .bool (Sl.there Sl.shC l key)]) ∧ Below w.heap.size w w' := by
  have HR := Lib.hid hr
  have HBX := Lib.hid hb
  obtain ⟨a, b, o, c, rfl, ha, hx⟩ := hv
  have HX := Lib.hid hx
  have HA := Lib.hid ha
  clear ha hx hr hb
  go_enter Tryz.func91, Tryz.ntmps91
  go_wp2
  go_loopg [9, 10] l.length (fun n i j wr => ∃ p q : Nat, p ≤ q ∧ q ≤ l.length ∧ n = q - p ∧ i = .int .i64 p ∧ j = .int .i64 q ∧ Hid (∀ m x, m < p → l[m]? = some x → Sl.less (Sl.shC.key x) key = true) ∧ Hid (∀ m x, q ≤ m → l[m]? = some x → Sl.less (Sl.shC.key x) key = false) ∧ Hid (Below w.heap.size w wr))
  case atStart => exact ⟨0, l.length, Nat.zero_le _, Nat.le_refl _, rfl, rfl, rfl, fun m x h => absurd h (Nat.not_lt_zero m), fun m x h hx => absurd (List.getElem?_eq_some_iff.1 hx).1 (Nat.not_lt.2 h), Below.refl _ _⟩
  case round =>
    obtain ⟨p, q, hpq, hql, rfl, rfl, rfl, HLO, HHI, HB⟩ := hrel
    by_cases hlt : p < q
    · obtain ⟨h, hh⟩ : ∃ h : Nat, h = (p + q) / 2 := ⟨_, rfl⟩
      obtain ⟨x, hx⟩ := take_some l h (by omega)
      have HXK := Lib.hid hx
      obtain ⟨e0, e1, e2, e3⟩ := HX.out h x hx
      have hblt : b < w.heap.size := World.block_lt_of_cell? _ _ e0
      have d0 := (HB.out.cell (p := ⟨b, o + h * 4, none⟩) hblt).trans e0
      have d1 := (HB.out.cell (p := ⟨b, o + h * 4 + 1, none⟩) hblt).trans e1
      have d2 := (HB.out.cell (p := ⟨b, o + h * 4 + 2, none⟩) hblt).trans e2
      have d3 := (HB.out.cell (p := ⟨b, o + h * 4 + 3, none⟩) hblt).trans e3
      have HBr := Lib.hid (HBX.out.below HB.out HBX.out.lt)
      obtain rfl : a = some ⟨b, o, none⟩ := by
        rcases HA.out with h' | h'
        · rw [h'] at hql; have : q ≤ 0 := hql; omega
        · exact h'
      have HC := Lib.hid (fun W (hW : BxC W g) => findFnC_any x key g W hW)
      unfold aggC at HC
      have hlo := Lib.hid (Sl.low_of Sl.shC l key HR.out h x hx)
      have hhi := Lib.hid (Sl.high_of Sl.shC l key HR.out h x hx)
      have hcl := Lib.hid (Sl.cmp_lt (Sl.shC.key x) key)
      have hcg := Lib.hid (Sl.cmp_ge (Sl.shC.key x) key)
      have hhE : ((p : Int) + q) / 2 = (h : Int) := by omega
      have hb1 : p ≤ h := by omega
      have hb2 : h < q := by omega
      have hb3 : h < l.length := by omega
      have hb4 : (h : Int) < l.length := by omega
      clear e0 e1 e2 e3 hx hh
      revert HC hlo hhi hcl hcg
      generalize Lib.compareBytes (Sl.shC.key x) key = cv
      generalize hls : Sl.less (Sl.shC.key x) key = ls
      have HLS := Lib.hid hls
      clear hls
      intro HC hlo hhi hcl hcg
      go_upto_region 5 with fail
      clear hhE
      cases ls
      · have hcv := hcg.out rfl
        clear hcl hcg
        go_wp2_with (go_at_call 92; refine (HC.out _ HBr.out).mono ?_; rintro e w4 ⟨rfl, hb5⟩)
        have HB4 : Hid (Below w.heap.size w w4) := HB.out.trans (hb5.mono HB.out.size)
        clear hb5
        go_roundg (h - p)
        case measure => omega
        case rel => exact ⟨p, h, by omega, by omega, rfl, rfl, rfl, HLO, hhi.out (by simp), HB4⟩
      · have hcv := hcl.out rfl
        clear hcl hcg
        go_wp2_with (go_at_call 92; refine (HC.out _ HBr.out).mono ?_; rintro e w4 ⟨rfl, hb5⟩)
        have HB4 : Hid (Below w.heap.size w w4) := HB.out.trans (hb5.mono HB.out.size)
        clear hb5
        go_roundg (q - (h + 1))
        case measure => omega
        case rel => exact ⟨h + 1, q, by omega, by omega, rfl, by go_num, rfl, hlo.out (by simp), HHI, HB4⟩
    · obtain rfl : p = q := by omega
      have HPL : Hid (Sl.place Sl.shC l key = p) := Sl.place_eq Sl.shC key l p hql HLO.out (fun x hx => HHI.out p x (Nat.le_refl _) hx)
      by_cases hn : p < l.length
      · obtain ⟨x, hx⟩ := take_some l p hn
        obtain ⟨e0, e1, e2, e3⟩ := HX.out p x hx
        have hblt : b < w.heap.size := World.block_lt_of_cell? _ _ e0
        have d0 := (HB.out.cell (p := ⟨b, o + p * 4, none⟩) hblt).trans e0
        have d1 := (HB.out.cell (p := ⟨b, o + p * 4 + 1, none⟩) hblt).trans e1
        have d2 := (HB.out.cell (p := ⟨b, o + p * 4 + 2, none⟩) hblt).trans e2
        have d3 := (HB.out.cell (p := ⟨b, o + p * 4 + 3, none⟩) hblt).trans e3
        have HBr := Lib.hid (HBX.out.below HB.out HBX.out.lt)
        obtain rfl : a = some ⟨b, o, none⟩ := by
          rcases HA.out with h' | h'
          · rw [h'] at hn; cases hn
          · exact h'
        have HC := Lib.hid (fun W (hW : BxC W g) => findFnC_any x key g W hW)
        unfold aggC at HC
        have HTH : Hid (Sl.there Sl.shC l key = (Lib.compareBytes (Sl.shC.key x) key == 0)) := (Sl.there_some Sl.shC l key x (by rw [HPL.out]; exact hx)).trans (Sl.cmp_zero _ _).symm
        have hn' : (p : Int) < l.length := by omega
        clear e0 e1 e2 e3 hx
        revert HC HTH
        generalize Lib.compareBytes (Sl.shC.key x) key = cv
        intro HC HTH
        go_wp2_with (go_at_call 92; refine (HC.out _ HBr.out).mono ?_; rintro e w4 ⟨rfl, hb5⟩)
        go_ret2
        exact ⟨by rw [HPL.out, HTH.out]; rfl, HB.out.trans (hb5.mono HB.out.size)⟩
      · have HTH : Hid (Sl.there Sl.shC l key = false) := Sl.there_none Sl.shC l key (by rw [HPL.out]; omega)
        have hn' : ¬ (p : Int) < l.length := by omega
        go_wp2
        go_ret2
        exact ⟨by rw [HPL.out, HTH.out]; rfl, HB.out⟩
set_option maxHeartbeats 1000000 in
theorem findC_any (v : Value) (l : List Cl) (hll : l.length ≤ 100000) (key : List UInt8) (w : World) (hv : SlC w v l) (hr : Sl.rises Sl.shC l = true) :
    Calls Tryz.prog 46 #[shpC, v, .string (str key)] w fun e w' => e = .returned (.tuple #[.int .i64 (Sl.place Sl.shC l key : Nat), .bool (Sl.there Sl.shC l key)]) ∧ Below w.heap.size w w' := by
  have hmf : ∀ (fn : Fn) (first cap : Array Value) (w : World), (Instr.makeFunc fn first cap).run Tryz.prog w = .ok (.func fn first cap) w := fun _ _ _ _ => rfl
  have HWh := Lib.hid (fun W => wholeC_any W)
  have HB0 := Lib.hid (BxC.new w)
  have HS := Lib.hid (fun W (hW : SlC W v l) (hb : BxC W w.heap.size) => bsfC_any v l hll key w.heap.size W hW hb hr)
  have HV := Lib.hid (fun W (hW : Below w.heap.size w W) => hv.below hW)
  have HW0 : Hid (Below w.heap.size w (w.alloc (.cells #[.func (.func 53) #[] #[], .func (.func 54) #[] #[], .func (.func 55) #[] #[], .func (.func 56) #[] #[]] 66))) := (Below.refl _ _).alloc (Nat.le_refl _) _
  clear hv hr
  revert HS
  generalize Sl.place Sl.shC l key = pl
  generalize Sl.there Sl.shC l key = th
  intro HS
  unfold shpC at HWh ⊢
  go_enter Tryz.func46, Tryz.ntmps46
  go_wp2_with (first
    | (go_at_call 58; refine (HWh.out _).mono ?_; rintro e w1 ⟨rfl, hb1⟩; have HB1 := Lib.hid (below_step HW0.out hb1); have HR1 := Lib.hid (HB0.out.below hb1 HB0.out.lt))
    | (go_at_call 91; refine (HS.out _ (HV.out _ HB1.out) HR1.out).mono ?_; rintro e w2 ⟨rfl, hb2⟩))
  go_ret2
  exact ⟨rfl, below_step HB1.out hb2⟩
end Go.Proofs.YtemfbkelenaaeaaGreat
