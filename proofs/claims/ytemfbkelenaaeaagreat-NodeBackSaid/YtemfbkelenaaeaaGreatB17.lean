/- Texts of one seat, merged. -/
import Derived.Test.YtemfbkelenaaeaaGreatB05
import Derived.Test.YtemfbkelenaaeaaGreatB15
set_option maxRecDepth 100000
set_option maxHeartbeats 4000000
set_option linter.unusedVariables false
/- The contract of the document's own Body. -/
namespace Go.Proofs.YtemfbkelenaaeaaGreat
open Go.RowKit
open Sl (Cl Kd)
set_option maxHeartbeats 4000000 in
set_option maxRecDepth 100000 in
theorem refBody_any (leaf : Bool) (v : Value) (l : List Cl) (hll : l.length ≤ 100000) (hl : ∀ x ∈ l, okC x ∧ x.val.length ≤ 60000) (w : World) (hv : SlC w v l) :
    Calls Tryz.prog 32 #[v, .bool leaf] w fun e w' => e = .returned (.tuple #[.string (str (Sl.bodyR (Sl.shR leaf) l).1), .int .i64 (Sl.bodyR (Sl.shR leaf) l).2]) ∧ Below w.heap.size w w' := by
  have HL := Lib.hid hl
  have HMa := Lib.hid (fun W (hW : SlC W v l) => refRight_any leaf v l hll W hW)
  have HSu := Lib.hid (fun W (hW : SlC W v l) => refSum_any leaf v l hll hl W hW)
  have HV := Lib.hid hv
  obtain ⟨a, b, o, c, rfl, ha, hx⟩ := hv
  have HX := Lib.hid hx
  have HA := Lib.hid ha
  clear hl ha hx
  have hlen : (l.length : Int) ≤ 100000 := by omega
  by_cases hr : Sl.right (Sl.shR leaf) l = 0
  · by_cases hs : 4072 < Sl.sum (Sl.shR leaf) l
    · rw [Sl.bodyR_full (Sl.shR leaf) l hr hs]
      rw [hr] at HMa
      clear hr
      revert HMa HSu hs
      generalize Sl.sum (Sl.shR leaf) l = m
      intro HMa HSu hs
      have hs' : (4072 : Int) < m := by omega
      go_enter Tryz.func32, Tryz.ntmps32
      go_wp2_with (first
        | (go_at_call 77; refine (HMa.out _ HV.out).mono ?_; rintro e w2 ⟨rfl, hb2⟩)
        | (go_at_call 41; refine (HSu.out _ (HV.out.below hb2)).mono ?_; rintro e w3 ⟨rfl, hb3⟩))
      go_ret2
      exact ⟨rfl, below_step hb2 hb3⟩
    · rw [Sl.bodyR_ok (Sl.shR leaf) l hr hs]
      rw [hr] at HMa
      have HAT := Lib.hid (fun k => Sl.at_le (Sl.shR leaf) l k (Nat.le_of_not_lt hs))
      have HBL : Hid (2 * l.length = (Sl.begins (Sl.shR leaf) (2 * l.length) l).length) := (Sl.begins_len (Sl.shR leaf) l _).symm
      have HBS : Hid (str (Sl.begins (Sl.shR leaf) (2 * l.length) l) ++ str (l.flatMap (Sl.shR leaf).enc) = str (Sl.body (Sl.shR leaf) l)) := by show _ = _; rw [str_append]; rfl
      clear hr
      revert HSu hs HBS
      generalize Sl.sum (Sl.shR leaf) l = m
      generalize Sl.body (Sl.shR leaf) l = res
      intro HSu hs HBS
      have hs' : ¬ (4072 : Int) < m := by omega
      go_enter Tryz.func32, Tryz.ntmps32
      go_wp2_with (first
        | (go_at_call 77; refine (HMa.out _ HV.out).mono ?_; rintro e w2 ⟨rfl, hb2⟩)
        | (go_at_call 41; refine (HSu.out _ (HV.out.below hb2)).mono ?_; rintro e w3 ⟨rfl, hb3⟩))
      have HW3 := Lib.hid (below_step hb2 hb3)
      clear hb2 hb3 hs hs'
      go_loopg [7, 8, 23] l.length (fun n s t i wr => ∃ k : Nat, k ≤ l.length ∧ n = l.length - k ∧ i = .int .i64 k ∧ s = .string (str (Sl.begins (Sl.shR leaf) (2 * l.length) (l.take k))) ∧ t = .string (str ((l.take k).flatMap (Sl.shR leaf).enc)) ∧ Hid (Below w.heap.size w wr))
      case atStart => exact ⟨0, Nat.zero_le _, rfl, rfl, rfl, rfl, HW3.out⟩
      case round =>
        obtain ⟨k, hk, rfl, rfl, rfl, rfl, HB⟩ := hrel
        by_cases hlt : k < l.length
        · obtain ⟨x, hx⟩ := take_some l k hlt
          have hxx := HL.out x (List.mem_of_getElem? hx)
          obtain ⟨e0, e1, e2, e3⟩ := HX.out k x hx
          have hblt : b < w.heap.size := World.block_lt_of_cell? _ _ e0
          have d0 := (HB.out.cell (p := ⟨b, o + k * 4, none⟩) hblt).trans e0
          have d1 := (HB.out.cell (p := ⟨b, o + k * 4 + 1, none⟩) hblt).trans e1
          have d2 := (HB.out.cell (p := ⟨b, o + k * 4 + 2, none⟩) hblt).trans e2
          have d3 := (HB.out.cell (p := ⟨b, o + k * 4 + 3, none⟩) hblt).trans e3
          obtain rfl : a = some ⟨b, o, none⟩ := by
            rcases HA.out with h | h
            · rw [h] at hlt; cases hlt
            · exact h
          have HBa : Hid (Below w.heap.size w (wr.alloc (.cells #[.string (str x.key), .string (str x.val), .int .u32 x.chain, .int .u32 x.long] 52))) := HB.out.alloc HB.out.size _
          have HSB := Lib.hid (Sl.begins_at (Sl.shR leaf) l k x hx (2 * l.length))
          have HSF := Lib.hid (Sl.flat_at (Sl.shR leaf) l k x hx)
          have hat := HAT.out k
          have HCE := Lib.hid (fun W => refCell_any x leaf hxx.1 hxx.2 W)
          have hle := Sl.shR_len leaf x
          have hbl : (Sl.begins (Sl.shR leaf) (2 * l.length) (l.take k)).length ≤ 200000 := by rw [Sl.begins_len, List.length_take]; omega
          clear e0 e1 e2 e3 hx hxx
          revert HSB HSF hat HCE hle hbl
          generalize Sl.begins (Sl.shR leaf) (2 * l.length) (l.take k) = B0
          generalize hb1e : Sl.begins (Sl.shR leaf) (2 * l.length) (l.take (k + 1)) = B1
          generalize (l.take k).flatMap (Sl.shR leaf).enc = F0
          generalize hf1e : (l.take (k + 1)).flatMap (Sl.shR leaf).enc = F1
          generalize (Sl.shR leaf).enc x = ex
          have HB1E := Lib.hid hb1e
          have HF1E := Lib.hid hf1e
          clear hb1e hf1e
          intro HSB HSF hat HCE hle hbl
          have hz := big_size
          have hz1 := str_size B0
          have hz2 := str_size F0
          have hz3 := str_size ex
          have hq1 : F0.length ≤ 4072 := by omega
          unfold aggC at HCE
          go_wp2_with (first
            | (go_at_call 78; refine (big2_at _ (2 * l.length + F0.length) ?_ (by omega) _).mono ?_; (first | omega | (rw [IntKind.wrap_u64]; omega)); rintro e w6 ⟨rfl, hb6⟩; have HB6 := Lib.hid (HBa.out.trans (hb6.mono HBa.out.size)); obtain ⟨y0, y1, y2, y3⟩ := elemC hb6)
            | (go_at_call 79; refine (HCE.out _).mono ?_; rintro e w7 ⟨rfl, hb7⟩))
          have HB7 : Hid (Below w.heap.size w w7) := HB6.out.trans (hb7.mono HB6.out.size)
          clear hb6 hb7
          go_roundg (l.length - (k + 1))
          case measure => omega
          case rel => exact ⟨k + 1, by omega, rfl, by go_num, by rw [HB1E.out, HSB.out, str_append], by rw [HF1E.out, HSF.out, str_append], HB7⟩
        · obtain rfl : k = l.length := by omega
          have hbl := Nat.le_of_eq HBL.out.symm
          have hfl := HAT.out l.length
          rw [List.take_length] at hfl ⊢
          revert hbl hfl HBS
          generalize Sl.begins (Sl.shR leaf) (2 * l.length) l = B0
          generalize l.flatMap (Sl.shR leaf).enc = F0
          intro HBS hbl hfl
          have hz1 := str_size B0
          have hz2 := str_size F0
          have hf2 : F0.length ≤ 4072 := by omega
          go_wp2
          go_ret2
          exact ⟨by rw [← HBS.out]; rfl, HB.out⟩
  · rw [Sl.bodyR_bad (Sl.shR leaf) l hr]
    revert HMa hr
    generalize Sl.right (Sl.shR leaf) l = m
    intro HMa hr
    have hd : (m != 0) = true := by rw [bne_iff_ne]; exact hr
    go_enter Tryz.func32, Tryz.ntmps32
    go_wp2_with (go_at_call 77; refine (HMa.out _ HV.out).mono ?_; rintro e w2 ⟨rfl, hb2⟩)
    go_ret2
    exact ⟨rfl, hb2⟩
end Go.Proofs.YtemfbkelenaaeaaGreat
/- The contract of the document's own Read. -/
namespace Go.Proofs.YtemfbkelenaaeaaGreat
open Go.RowKit
open Sl (Cl Kd)
theorem slice_from (l : List UInt8) (n : Nat) : (str l).extract n (str l).size = str (l.drop n) := by rw [str_size]; exact ext_drop l n
set_option maxHeartbeats 2000000 in
set_option maxRecDepth 100000 in
theorem refRead_false (body : List UInt8) (hb : body.length ≤ 5000) (n : Int) (w : World) :
    Calls Tryz.prog 37 #[.string (str body), .int .i64 n, .bool false] w (ReadOut false body n w) := by
  obtain ⟨i0, hi, hz0, hz1i, hz2i⟩ := info_parts info42
  have hsz := str_size body
  have hlen : (body.length : Int) ≤ 5000 := by omega
  by_cases h0 : n < 0
  · have HBAD : Hid (∀ m, 0 ≤ n → ¬ Canon false body n.toNat m) := fun m h => absurd h (by omega)
    go_enter Tryz.func37, Tryz.ntmps37
    go_wp2
    go_ret2
    exact .bad HBAD.out rfl (Below.refl _ _)
  · obtain ⟨c, rfl⟩ : ∃ c : Nat, n = c := ⟨n.toNat, by omega⟩
    by_cases h1 : body.length / 2 < c
    · have HBAD : Hid (∀ m, (0 : Int) ≤ c → ¬ Canon false body (c : Int).toNat m) := fun m _ h => by have := h.size; simp at this; omega
      have h1' : (body.length : Int) / 2 < c := by omega
      go_enter Tryz.func37, Tryz.ntmps37
      go_wp2
      go_ret2
      exact .bad HBAD.out rfl (Below.refl _ _)
    · have h1' : ¬ (body.length : Int) / 2 < c := by omega
      have hc2 : 2 * c ≤ body.length := by omega
      have hcb : (c : Int) ≤ 2500 := by omega
      have hsl : (str body).extract (2 * c) (str body).size = str (body.drop (2 * c)) := slice_from body (2 * c)
      have hc3 : (2 : Int) * c ≤ body.length := by omega
      have hc4 : ((2 : Int) * c).toNat = 2 * c := by omega
      have HG0 := Lib.hid (Got.start false (body.drop (2 * c)) c (by rw [List.length_drop]; omega))
      have HCR : Hid (∀ m, Canon false body c m → body.drop (2 * c) = m.flatMap (Sl.shR false).enc) := fun m h => h.rest
      rw [hsz] at hsl
      revert HG0 HCR hsl
      generalize hs0 : body.drop (2 * c) = s0
      have HS0 := Lib.hid hs0
      clear hs0
      intro hsl HG0 HCR
      go_enter Tryz.func37, Tryz.ntmps37
      go_wp2
      have HR0 : Hid (Rd (w.alloc (.cells #[.string (str s0), .int .i64 0] 140)) w.heap.size (str s0) 0) := by
        show Rd _ _ _ _
        constructor <;> simp
      go_loopg [9, 10, 11, 12] c (fun n v a b i wr => ∃ (l : List Cl) (s : ByteArray) (e : Int), l.length ≤ c ∧ n = c - l.length ∧ i = .int .i64 l.length ∧ a = .string (str (Sl.begins (Sl.shR false) (2 * c) l)) ∧ b = .string (str (l.flatMap (Sl.shR false).enc)) ∧ Hid (Got false s0 c l s e) ∧ Hid (Rd wr w.heap.size s e) ∧ Hid (wr.ownsRow (w.heap.size + 1) 52 4 v l.length (l.flatMap cellsC)) ∧ Hid (Below w.heap.size w wr) ∧ Hid (w.heap.size + 1 ≤ wr.heap.size))
      case atStart => exact ⟨[], _, _, Nat.zero_le _, rfl, rfl, rfl, rfl, HG0.out, HR0.out, World.ownsRow_nil _ _ _ _, (Below.refl _ _).alloc (Nat.le_refl _) _, by show _ ≤ _; simp⟩
      case round =>
        obtain ⟨l, s, e, hk, rfl, rfl, rfl, rfl, HG, HR, HO, HB, HS⟩ := hrel
        clear HG0 HR0
        by_cases hlt : l.length < c
        · have hlt' : (l.length : Int) < c := by omega
          have HX0 := Lib.hid (Ex.new wr)
          have HR1 := Lib.hid (HR.out.alloc (.cells #[.string ⟨#[]⟩, .string ⟨#[]⟩, .int .u32 0, .int .u32 0] 52))
          have HM0 := Lib.hid ((Mod.refl w.heap.size wr).alloc (.cells #[.string ⟨#[]⟩, .string ⟨#[]⟩, .int .u32 0, .int .u32 0] 52))
          have HQ := Lib.hid (show w.heap.size < wr.heap.size from HS.out)
          have HT := Lib.hid (fun W (hW : Rd W w.heap.size s e) => num_any w.heap.size s e 1 (by decide) W hW)
          have hvT := Nat.lt_of_lt_of_le (Oc.val_lt (tk s e 1).1.data.toList) (Nat.pow_le_pow_right (by omega) (tk_size s e 1))
          have HKE : Hid (kyR s e = tk (tk s e 1).2.1 (tk s e 1).2.2 (Oc.val (tk s e 1).1.data.toList : Nat)) := rfl
          rw [show (((1 : Nat) : Int)) = 1 from rfl] at HT
          revert HT hvT HKE
          generalize tk s e 1 = T
          obtain ⟨t, s1, e1⟩ := T
          simp only
          generalize Oc.val t.data.toList = n1
          intro HT hvT HKE
          have HK := Lib.hid (fun W (hW : Rd W w.heap.size s1 e1) => refTake_any w.heap.size s1 e1 n1 W hW)
          revert HK HKE
          generalize tk s1 e1 n1 = K
          obtain ⟨k, s2, e2⟩ := K
          intro HKE HK
          simp only at HK
          have hn1 : (n1 : Int) < 256 := by omega
          have hv4 := tk_val4 s2 e2
          have HP := Lib.hid (fun W (hW : Rd W w.heap.size s2 e2) => num_any w.heap.size s2 e2 4 (by decide) W hW)
          rw [show (((4 : Nat) : Int)) = 4 from rfl] at HP
          have HRC := Lib.hid (fun P hP => rc_kid HKE.out (P := P) hP)
          revert hv4 HP HRC
          generalize hpp : tk s2 e2 4 = P
          obtain ⟨p, s3, e3⟩ := P
          intro hv4 HP HRC
          have HRF := Lib.hid (HRC.out _ rfl)
          clear HRC hpp
          revert hv4 HP HRF
          simp only
          generalize Oc.val p.data.toList = n4
          intro hv4 HP HRF
          have HXB := Lib.hid (HG.out.next hlt HRF.out)
          have hxx := HXB.out.good (⟨k.data.toList, [], n4, 0⟩ : Cl) (by simp)
          have HCE := Lib.hid (fun W => refCell_any (⟨k.data.toList, [], n4, 0⟩ : Cl) false hxx.1 (by have := hxx.2; omega) W)
          have hle := Sl.shR_len false (⟨k.data.toList, [], n4, 0⟩ : Cl)
          have HSB : Hid (Sl.begins (Sl.shR false) (2 * c) (l ++ [(⟨k.data.toList, [], n4, 0⟩ : Cl)]) = Sl.begins (Sl.shR false) (2 * c) l ++ Oc.big 2 (2 * c + (l.flatMap (Sl.shR false).enc).length)) := Sl.begins_snoc (Sl.shR false) _ l _
          have HSF : Hid ((l ++ [(⟨k.data.toList, [], n4, 0⟩ : Cl)]).flatMap (Sl.shR false).enc = l.flatMap (Sl.shR false).enc ++ (Sl.shR false).enc (⟨k.data.toList, [], n4, 0⟩ : Cl)) := Sl.flat_snoc (Sl.shR false) l _
          have hfl : (l.flatMap (Sl.shR false).enc).length ≤ 6579600000 := by
            have h1 := Sl.flat_le (Sl.shR false) l
            have h2 := Sl.sum_le (Sl.shR false) 65794 (Sl.shR_len false) l
            omega
          have hbl : (Sl.begins (Sl.shR false) (2 * c) l).length ≤ 200000 := by rw [Sl.begins_len]; omega
          have hz1 := str_size (Sl.begins (Sl.shR false) (2 * c) l)
          have hz2 := str_size (l.flatMap (Sl.shR false).enc)
          have hz3 := str_size ((Sl.shR false).enc (⟨k.data.toList, [], n4, 0⟩ : Cl))
          have hz4 := big_size
          clear hxx
          revert HCE hle HSB HSF hfl hbl hz1 hz2 hz3
          generalize hB1 : Sl.begins (Sl.shR false) (2 * c) (l ++ [(⟨k.data.toList, [], n4, 0⟩ : Cl)]) = B1
          generalize hF1 : (l ++ [(⟨k.data.toList, [], n4, 0⟩ : Cl)]).flatMap (Sl.shR false).enc = F1
          generalize Sl.begins (Sl.shR false) (2 * c) l = B0
          generalize l.flatMap (Sl.shR false).enc = F0
          generalize (Sl.shR false).enc (⟨k.data.toList, [], n4, 0⟩ : Cl) = ex
          have HB1 := Lib.hid hB1
          have HF1 := Lib.hid hF1
          clear hB1 hF1
          intro HCE hle HSB HSF hfl hbl hz1 hz2 hz3
          have hff : (2 : Int) * c + F0.length ≤ 6579700000 := by omega
          unfold aggC at HCE
          go_wp2_with (first
            | (go_at_call_of 84 (Value.int IntKind.i64 1); refine (HT.out _ HR1.out).mono ?_; rintro x w1 ⟨rfl, hr1, hu1⟩; have HR2 := Lib.hid hr1; have HX1 := Lib.hid (HX0.out.upd hu1 (Nat.ne_of_gt HQ.out)); have HM1 := Lib.hid (HM0.out.upd hu1); clear hr1 hu1)
            | (go_at_call 83; refine (HK.out _ HR2.out).mono ?_; rintro x w2 ⟨rfl, hr2, hu2⟩; have HR3 := Lib.hid (hr2.other (q := wr.heap.size) (i := 0) (.string k) (Nat.ne_of_lt HQ.out)); have HX2 := Lib.hid ((HX1.out.upd hu2 (Nat.ne_of_gt HQ.out)).set 0 (.string k)); have HM2 := Lib.hid ((HM1.out.upd hu2).step' ((Below.refl wr.heap.size w2).setCell (p := ⟨wr.heap.size, 0, none⟩) (Nat.le_refl _) (.string k))); have c0 := (HX1.out.upd hu2 (Nat.ne_of_gt HQ.out)).c0; have f0 := (HX1.out.upd hu2 (Nat.ne_of_gt HQ.out)).f0; clear hr2 hu2)
            | (go_at_call_of 84 (Value.int IntKind.i64 4); refine (HP.out _ HR3.out).mono ?_; rintro x w3 ⟨rfl, hr3, hu3⟩; have c2 := (HX2.out.upd hu3 (Nat.ne_of_gt HQ.out)).c2; have f2 := (HX2.out.upd hu3 (Nat.ne_of_gt HQ.out)).f2; have HR4 := Lib.hid (hr3.other (q := wr.heap.size) (i := 2) (.int .u32 n4) (Nat.ne_of_lt HQ.out)); have HX3 : Hid (Ex (w3.setCell ⟨wr.heap.size, 2, none⟩ (.int .u32 n4)) wr.heap.size (.string k) (.string ⟨#[]⟩) (.int .u32 n4) (.int .u32 0)) := ((HX2.out.upd hu3 (Nat.ne_of_gt HQ.out)).set 2 (.int .u32 n4)); have HM3 := Lib.hid ((HM2.out.upd hu3).step' ((Below.refl wr.heap.size w3).setCell (p := ⟨wr.heap.size, 2, none⟩) (Nat.le_refl _) (.int .u32 n4))); have HOt := Lib.hid (own_mod HO.out HM3.out (Nat.lt_succ_self w.heap.size)); clear hr3 hu3)
            | (go_at_call 78; refine (big_any _ (2 * c + F0.length) 2 ?_ (by omega) (by decide) (by decide) _).mono ?_; (first | omega | (rw [IntKind.wrap_u64]; omega)); rintro e0 wB ⟨rfl, hbB⟩; have HEB := Lib.hid (HX3.out.below hbB); have c0 := HEB.out.c0; have c1 := HEB.out.c1; have c2 := HEB.out.c2; have c3 := HEB.out.c3)
            | (go_at_call 79; refine (HCE.out _).mono ?_; rintro e0 wC ⟨rfl, hbC⟩; have HEC := Lib.hid (HEB.out.below hbC); have c0 := HEC.out.c0; have c1 := HEC.out.c1; have c2 := HEC.out.c2; have c3 := HEC.out.c3; have HOC := Lib.hid (own_below (own_below HOt.out hbB (Nat.le_refl _)) hbC (Nat.le_refl _)))
            | (at_builtin; refine wpList_append_own _ rfl _ _ 22 rfl (w.heap.size + 1) 52 i0 _ 4 40 Tryz.underlying22 hi hz0 hz1i hz2i rfl (by decide) _ l.length _ rfl (HOC.out.alloc _) ⟨wC.heap.size, 0, none⟩ 1 1 (cellsC (⟨k.data.toList, [], n4, 0⟩ : Cl)) rfl rfl ?p1 ?p2 ?p3 ?p4 ?p5 ?_))
          case p1 => first | exact cellsC_new wC (⟨k.data.toList, [], n4, 0⟩ : Cl) 52 | exact fun _ _ h => h
          case p2 => exact cellsC_one _
          case p3 => unfold maxLen; omega
          case p4 => omega
          case p5 => have h1 := HS.out; have h2 := HM3.out.size; have h3 := hbB.size; have h4 := hbC.size; simp; omega
          intro v' w4 hown' hgrow _
          have hsC : w.heap.size + 1 ≤ wC.heap.size := by have h1 := HS.out; have h2 := HM3.out.size; have h3 := hbB.size; have h4 := hbC.size; omega
          have HO4 : Hid (w4.ownsRow (w.heap.size + 1) 52 4 v' (l ++ [(⟨k.data.toList, [], n4, 0⟩ : Cl)]).length ((l ++ [(⟨k.data.toList, [], n4, 0⟩ : Cl)]).flatMap cellsC)) := by
            show w4.ownsRow _ _ _ _ _ _
            rw [List.flatMap_append, List.length_append]; simpa using hown'
          have HBC : Hid (Below (w.heap.size + 1) wC w4) := ((Below.refl _ _).alloc hsC _).grown hgrow (by simp; omega) (fun g hg => (HOC.out.lt g hg).1)
          have HBt : Hid (Below w.heap.size w (w3.setCell ⟨wr.heap.size, 2, none⟩ (.int .u32 n4))) := HB.out.trans (HM3.out.below (Nat.le_refl _) HB.out.size)
          have HB4 : Hid (Below w.heap.size w w4) := ((HBt.out.trans (hbB.mono HBt.out.size)).trans (hbC.mono (Nat.le_trans HBt.out.size hbB.size))).trans (HBC.out.mono (Nat.le_succ _))
          have HR9 : Hid (Rd w4 w.heap.size _ _) := ((HR4.out.below hbB).below hbC).below' HBC.out (Nat.lt_succ_self _)
          have HS4 : Hid (w.heap.size + 1 ≤ w4.heap.size) := Nat.le_trans hsC HBC.out.size
          clear hown' hgrow hbB hbC
          go_wp2
          go_roundg (c - (l.length + 1))
          case measure => omega
          case rel =>
            exact ⟨l ++ [(⟨k.data.toList, [], n4, 0⟩ : Cl)], _, _, by rw [List.length_append]; exact hlt, by rw [List.length_append]; rfl, by rw [List.length_append]; go_num, by rw [HB1.out, HSB.out, str_append], by rw [HF1.out, HSF.out, str_append], HXB, HR9, HO4, HB4, HS4⟩

        · obtain rfl : c = l.length := by omega
          have HGG := HG
          have hR1 := HR.out.c1
          have hfl : (l.flatMap (Sl.shR false).enc).length ≤ 6579600000 := by
            have h1 := Sl.flat_le (Sl.shR false) l
            have h2 := Sl.sum_le (Sl.shR false) 65794 (Sl.shR_len false) l
            omega
          have hbl : (Sl.begins (Sl.shR false) (2 * l.length) l).length ≤ 200000 := by rw [Sl.begins_len]; omega
          have hz1 := str_size (Sl.begins (Sl.shR false) (2 * l.length) l)
          have hz2 := str_size (l.flatMap (Sl.shR false).enc)
          have hlt0 : ¬ (l.length : Int) < l.length := by omega
          by_cases he : e = 0
          · subst he
            by_cases hbd : body = Sl.body (Sl.shR false) l
            · have HCN : Hid (Canon false body ((l.length : Int)).toNat l) := ⟨by simp, by obtain ⟨_, _, _, h⟩ := HG.out.fair rfl; exact h, hbd⟩
              have hbq := str_beq (show Sl.begins (Sl.shR false) (2 * l.length) l ++ l.flatMap (Sl.shR false).enc = body from hbd.symm)
              rw [← str_append] at hbq
              have HSl := Lib.hid (SlC.own HO.out)
              have HRt := Lib.hid (fun W (hW : SlC W u9 l) => refRight_any false u9 l (by omega) W hW)
              clear hbd
              by_cases hr : Sl.right (Sl.shR false) l = 0
              · have HRR := Lib.hid hr
                rw [hr] at HRt
                clear hr
                revert hfl hbl hz1 hz2 hbq
                generalize Sl.begins (Sl.shR false) (2 * l.length) l = B0
                generalize l.flatMap (Sl.shR false).enc = F0
                intro hfl hbl hz1 hz2 hbq
                go_wp2_with (go_at_call 77; refine (HRt.out _ HSl.out).mono ?_; rintro x w5 ⟨rfl, hb5⟩)
                go_ret2
                exact .ok l (Int.natCast_nonneg _) HCN.out HRR.out _ rfl (HSl.out.below hb5) (ownsRow_cap HO.out) (HB.out.trans (hb5.mono HB.out.size))
              · have HRR := Lib.hid hr
                have hd : (Sl.right (Sl.shR false) l != 0) = true := by rw [bne_iff_ne]; exact hr
                clear hr
                revert hfl hbl hz1 hz2 hbq
                generalize Sl.begins (Sl.shR false) (2 * l.length) l = B0
                generalize l.flatMap (Sl.shR false).enc = F0
                intro hfl hbl hz1 hz2 hbq
                go_wp2_with (go_at_call 77; refine (HRt.out _ HSl.out).mono ?_; rintro x w5 ⟨rfl, hb5⟩)
                go_ret2
                exact .ord l (Int.natCast_nonneg _) HCN.out HRR.out rfl (HB.out.trans (hb5.mono HB.out.size))
            · have HBAD : Hid (∀ m, (0 : Int) ≤ (l.length : Int) → ¬ Canon false body ((l.length : Int)).toNat m) := fun m _ h => by
                have h' : Canon false body l.length m := h
                obtain ⟨_, h2, _⟩ := HG.out.part m h'.1 h'.2.1 (HCR.out m h')
                rw [List.take_of_length_le (Nat.le_of_eq h'.1)] at h2
                exact hbd (by rw [h2]; exact h'.2.2)
              have hbq := str_bne (fun e => hbd (Eq.symm (show Sl.begins (Sl.shR false) (2 * l.length) l ++ l.flatMap (Sl.shR false).enc = body from e)))
              rw [← str_append] at hbq
              clear hbd
              revert hfl hbl hz1 hz2 hbq
              generalize Sl.begins (Sl.shR false) (2 * l.length) l = B0
              generalize l.flatMap (Sl.shR false).enc = F0
              intro hfl hbl hz1 hz2 hbq
              go_wp2
              go_ret2
              exact .bad HBAD.out rfl HB.out
          · have HBAD : Hid (∀ m, (0 : Int) ≤ (l.length : Int) → ¬ Canon false body ((l.length : Int)).toNat m) := fun m _ h => by
              have h' : Canon false body l.length m := h
              exact he (HG.out.part m h'.1 h'.2.1 (HCR.out m h')).1
            have hd : (e != 0) = true := by rw [bne_iff_ne]; exact he
            go_wp2
            go_ret2
            exact .bad HBAD.out rfl HB.out

end Go.Proofs.YtemfbkelenaaeaaGreat
