/- Texts of one seat, merged. -/
import Derived.Test.YtpkoehnjladpoaaE07
import Derived.Test.YtpkoehnjladpoaaE02
import Derived.Deep.LoopGhost
set_option maxRecDepth 100000
set_option maxHeartbeats 4000000
set_option linter.unusedVariables false
/- The contract of the document's Frames of a chain. -/
namespace Go.Proofs.Ytpkoehnjladpoaa
open Go.RowKit
open Ch (Fr)
theorem five_new (W : World) (T : TypeId) (a0 a1 a2 a3 a4 : Value) : ∀ j u, ([a0, a1, a2, a3, a4] : List Value)[j]? = some u → (W.alloc (.cells #[a0, a1, a2, a3, a4] T)).cell? ((⟨W.heap.size, 0, none⟩ : Addr).add j) = some u := by
  intro j u hj
  rw [add_plain', Nat.zero_add, World.cell?_alloc_new]
  simpa using hj
set_option maxHeartbeats 4000000 in
theorem rframes_any (v : Value) (ids : List Nat) (tx : Nat) (s : List UInt8) (hl : ids.length ≤ 40) (hid : ∀ x ∈ ids, x < 4294967296) (hs : s.length ≤ 1000000) (w : World) (hv : SlU w v ids) :
    Calls Try.prog 9 #[v, .int .u64 tx, .string (str s)] w (FrOut 36 ids tx s w) := by
  have hsz := str_size s
  have HN := Lib.hid (fun W => rneed_any (s.length : Int) (by omega) (by omega) W)
  rw [Ch.need_nat] at HN
  obtain ⟨i0, hi, hz0, hz1, hz2⟩ := info_parts infoR
  obtain ⟨a, b, o, c, rfl, ha, hx⟩ := hv
  have HX := Lib.hid hx
  have HA := Lib.hid ha
  clear ha hx
  by_cases h1 : (65536 : Int) < s.length
  · have HE := Lib.hid (Ch.err_long ids s (by omega))
    go_enter Try.func9, Try.ntmps9
    go_wp2
    go_ret2
    exact .bad (by rw [HE.out]; decide) (by rw [HE.out]; rfl) (Below.refl _ _)
  · by_cases h2 : ids.length = Ch.needN s.length
    · rw [← h2] at HN
      have H2 := Lib.hid h2
      clear h2
      have hb4 := big_size
      go_enter Try.func9, Try.ntmps9
      go_wp2_with (go_at_call 11; refine (HN.out _).mono ?_; rintro e w1 ⟨rfl, rfl⟩)
      clear HN
      go_loopg [2, 8, 24] ids.length (fun n vv o i wr => ∃ (l : List Fr) (V : List UInt8), l.length ≤ ids.length ∧ n = ids.length - l.length ∧ vv = .string (str V) ∧ i = .int .i64 l.length ∧ Hid (V = s.drop (l.length * 4068)) ∧ Hid (l = Ch.frs ids tx s l.length) ∧ Hid (wr.ownsRow w.heap.size 36 5 o l.length (l.flatMap cellsF)) ∧ Hid (∀ (j : Nat) id, j < l.length → ids[j]? = some id → ¬ id < 2) ∧ Hid (Below w.heap.size w wr))
      case atStart => exact ⟨[], s, Nat.zero_le _, rfl, rfl, rfl, rfl, rfl, World.ownsRow_nil _ _ _ _, fun j id h => absurd h (Nat.not_lt_zero j), Below.refl _ _⟩
      case round =>
        obtain ⟨l, V, hk, rfl, rfl, rfl, HV, HL, HO, HI, HB⟩ := hrel
        by_cases hlt : l.length < ids.length
        · obtain ⟨x, hx⟩ : ∃ x, ids[l.length]? = some x := ⟨_, List.getElem?_eq_getElem hlt⟩
          have e0 := HX.out l.length x hx
          have hblt : b < w.heap.size := World.block_lt_of_cell? _ _ e0
          have d0 := (HB.out.cell (p := ⟨b, o + l.length, none⟩) hblt).trans e0
          obtain rfl : a = some ⟨b, o, none⟩ := by
            rcases HA.out with h | h
            · rw [h] at hlt; cases hlt
            · exact h
          have hki : (l.length : Int) < ids.length := by omega
          have hk0 : (0 : Int) ≤ (l.length : Int) := by omega
          have hxb : x < 4294967296 := hid x (List.mem_of_getElem? hx)
          by_cases hx2 : (x : Int) < 2
          · have HE := Lib.hid (Ch.err_low ids s (by omega) H2.out l.length x hx (by omega))
            clear e0 hblt hx
            go_wp2
            go_ret2
            exact .bad (by rw [HE.out]; decide) (by rw [HE.out]; rfl) HB.out
          · have HXX := Lib.hid hx
            have hvs := str_size V
            have HVL : Hid (V.length ≤ s.length) := by show _ ≤ _; rw [HV.out, List.length_drop]; omega
            have hw3' : IntKind.i64.wrap ((l.length : Int) + 1) = (l.length : Int) + 1 := IntWalk.i64_in _ (by omega)
            obtain ⟨NN, hnb, HNX, hnx⟩ : ∃ NN : Nat, NN < 4294967296 ∧ Hid (Ch.nxt ids l.length = NN) ∧ (((l.length : Int) + 1 < ids.length ∧ wr.cell? ⟨b, o + (l.length + 1), none⟩ = some (.int .u32 NN)) ∨ (¬ (l.length : Int) + 1 < ids.length ∧ NN = 0)) := by
              by_cases hn : l.length + 1 < ids.length
              · obtain ⟨y, hy⟩ : ∃ y, ids[l.length + 1]? = some y := ⟨_, List.getElem?_eq_getElem hn⟩
                have e1 := HX.out (l.length + 1) y hy
                refine ⟨y, hid y (List.mem_of_getElem? hy), ?_, .inl ⟨by omega, (HB.out.cell (p := ⟨b, o + (l.length + 1), none⟩) hblt).trans e1⟩⟩
                show Ch.nxt ids l.length = y; unfold Ch.nxt; rw [hy]
              · refine ⟨0, by decide, ?_, .inr ⟨by omega, rfl⟩⟩
                show Ch.nxt ids l.length = 0; unfold Ch.nxt; rw [List.getElem?_eq_none (by omega)]
            have HF4 := Lib.hid (fun W => big_any (NN : Nat) NN 4 rfl (by omega) (by decide) (by decide) W)
            have hk33 : ((l.length : Int) + 1).toNat = l.length + 1 := by omega
            have hw16 : IntKind.u16.wrap (l.length : Int) = (l.length : Int) := by rw [IntKind.wrap_u16]; omega
            have hwn : IntKind.u64.wrap (NN : Int) = (NN : Int) := by rw [IntKind.wrap_u64]; omega
            clear e0 hblt hx
            rcases hnx with ⟨hn1, hn2⟩ | ⟨hn1, rfl⟩
            · skip
              by_cases hbig : (4068 : Int) < (V.length : Int)
              · go_upto_region 17 with fail
                rw [show (str V).extract 0 4068 = str (V.take 4068) from str_piece V 0 4068]
                obtain ⟨P, HP⟩ : ∃ P, Hid (P = V.take 4068) := ⟨_, rfl⟩
                rw [← HP.out]
                have hpl : P.length = 4068 := by rw [HP.out, List.length_take]; omega
                have hps := str_size P
                have hp1 : (0 : Int) ≤ (P.length : Int) := by omega
                have hp2 : (P.length : Int) ≤ (V.length : Int) := by omega
                have HQ : Hid ((str V).extract 4068 V.length = str (V.drop 4068)) := by
                  show _ = _
                  rw [str_piece]
                  rw [List.take_of_length_le (by rw [List.length_drop]; omega)]
                have hzz : ¬ 9223372036854775807 < 4 + P.length := by have := HVL.out; omega
                go_upto_region 18 with fail
                rw [HQ.out]
                have HBD : Hid (str (Oc.big 4 NN) ++ str P = str (Ch.frAt ids tx s l.length x).body) := by
                  show _ = _
                  rw [str_append]
                  unfold Ch.frAt
                  rw [HNX.out, ← HV.out]
                  rw [HP.out]
                go_wp2_with (first
                  | (at_builtin; refine wpList_append_own _ rfl _ _ 30 rfl w.heap.size 36 i0 _ 5 32 Try.underlying30 hi hz0 hz1 hz2 rfl (by decide) _ l.length _ rfl (HO4.out.alloc _) ⟨w4.heap.size, 0, none⟩ 1 1 [.int .u8 4, .int .u16 l.length, .int .u32 x, .int .u64 tx, .string (str (Oc.big 4 NN) ++ str P)] rfl rfl ?p1 ?p2 ?p3 ?p4 ?p5 ?_)
                  | (go_at_call 51; refine (HF4.out _).mono ?_; rintro e w4 ⟨rfl, hb⟩; have HO4 := Lib.hid (ownsRow_below HO.out hb); have HB4 := Lib.hid (HB.out.trans (hb.mono HB.out.size)); clear hb))
                case p1 => exact five_new _ _ _ _ _ _ _
                case p2 =>
                  intro u hu
                  simp at hu
                  rcases hu with rfl | rfl | rfl | rfl | rfl <;> rfl
                case p3 => unfold maxLen; omega
                case p4 => omega
                case p5 => have := HB4.out.size; simp; omega
                intro v' w5 hown' hgrow _
                have HO5 : Hid (w5.ownsRow w.heap.size 36 5 v' (l ++ [Ch.frAt ids tx s l.length x]).length ((l ++ [Ch.frAt ids tx s l.length x]).flatMap cellsF)) := by
                  show w5.ownsRow _ _ _ _ _ _
                  rw [HBD.out] at hown'
                  rw [List.flatMap_append, List.length_append, List.flatMap_cons, List.flatMap_nil, List.append_nil]; exact hown'
                have HB5 : Hid (Below w.heap.size w w5) := (HB4.out.alloc HB4.out.size _).grown hgrow (by have := HB4.out.size; simp; omega) (fun g hg => (HO4.out.lt g hg).1)
                clear hown' hgrow
                go_wp2
                go_roundg (ids.length - (l.length + 1))
                case measure => omega
                case rel =>
                  refine ⟨l ++ [Ch.frAt ids tx s l.length x], V.drop 4068, by rw [List.length_append]; exact hlt, by rw [List.length_append]; rfl, rfl, by rw [List.length_append]; go_num, ?_, ?_, HO5, ?_, HB5⟩
                  · show _ = _
                    rw [HV.out, List.drop_drop, List.length_append, show [Ch.frAt ids tx s l.length x].length = 1 from rfl]
                    congr 1
                    omega
                  · have HLX := HL.out
                    show _ = _
                    rw [List.length_append, show l.length + [Ch.frAt ids tx s l.length x].length = l.length + 1 from rfl, Ch.frs_snoc ids tx s l.length x HXX.out, ← HLX]
                  · intro q id hq hid2
                    by_cases hql : q < l.length
                    · exact HI.out q id hql hid2
                    · obtain rfl : q = l.length := by rw [List.length_append] at hq; simp at hq; omega
                      rw [HXX.out] at hid2
                      cases hid2
                      omega
              · go_upto_region 17 with fail
                have hps := str_size V
                have hp1 : (0 : Int) ≤ (V.length : Int) := by omega
                have hp2 : (V.length : Int) ≤ (V.length : Int) := by omega
                have hzz : ¬ 9223372036854775807 < 4 + V.length := by have := HVL.out; omega
                go_upto_region 18 with fail
                have HBD : Hid (str (Oc.big 4 NN) ++ str V = str (Ch.frAt ids tx s l.length x).body) := by
                  show _ = _
                  rw [str_append]
                  unfold Ch.frAt
                  rw [HNX.out, ← HV.out]
                  rw [List.take_of_length_le (by omega)]
                go_wp2_with (first
                  | (at_builtin; refine wpList_append_own _ rfl _ _ 30 rfl w.heap.size 36 i0 _ 5 32 Try.underlying30 hi hz0 hz1 hz2 rfl (by decide) _ l.length _ rfl (HO4.out.alloc _) ⟨w4.heap.size, 0, none⟩ 1 1 [.int .u8 4, .int .u16 l.length, .int .u32 x, .int .u64 tx, .string (str (Oc.big 4 NN) ++ str V)] rfl rfl ?p1 ?p2 ?p3 ?p4 ?p5 ?_)
                  | (go_at_call 51; refine (HF4.out _).mono ?_; rintro e w4 ⟨rfl, hb⟩; have HO4 := Lib.hid (ownsRow_below HO.out hb); have HB4 := Lib.hid (HB.out.trans (hb.mono HB.out.size)); clear hb))
                case p1 => exact five_new _ _ _ _ _ _ _
                case p2 =>
                  intro u hu
                  simp at hu
                  rcases hu with rfl | rfl | rfl | rfl | rfl <;> rfl
                case p3 => unfold maxLen; omega
                case p4 => omega
                case p5 => have := HB4.out.size; simp; omega
                intro v' w5 hown' hgrow _
                have HO5 : Hid (w5.ownsRow w.heap.size 36 5 v' (l ++ [Ch.frAt ids tx s l.length x]).length ((l ++ [Ch.frAt ids tx s l.length x]).flatMap cellsF)) := by
                  show w5.ownsRow _ _ _ _ _ _
                  rw [HBD.out] at hown'
                  rw [List.flatMap_append, List.length_append, List.flatMap_cons, List.flatMap_nil, List.append_nil]; exact hown'
                have HB5 : Hid (Below w.heap.size w w5) := (HB4.out.alloc HB4.out.size _).grown hgrow (by have := HB4.out.size; simp; omega) (fun g hg => (HO4.out.lt g hg).1)
                clear hown' hgrow
                go_wp2
                go_roundg (ids.length - (l.length + 1))
                case measure => omega
                case rel =>
                  refine ⟨l ++ [Ch.frAt ids tx s l.length x], [], by rw [List.length_append]; exact hlt, by rw [List.length_append]; rfl, rfl, by rw [List.length_append]; go_num, ?_, ?_, HO5, ?_, HB5⟩
                  · show _ = _
                    have hv0 : V.drop 4068 = [] := List.drop_of_length_le (by omega)
                    rw [HV.out, List.drop_drop] at hv0
                    rw [List.length_append, show [Ch.frAt ids tx s l.length x].length = 1 from rfl, ← hv0]
                    congr 1
                    omega
                  · have HLX := HL.out
                    show _ = _
                    rw [List.length_append, show l.length + [Ch.frAt ids tx s l.length x].length = l.length + 1 from rfl, Ch.frs_snoc ids tx s l.length x HXX.out, ← HLX]
                  · intro q id hq hid2
                    by_cases hql : q < l.length
                    · exact HI.out q id hql hid2
                    · obtain rfl : q = l.length := by rw [List.length_append] at hq; simp at hq; omega
                      rw [HXX.out] at hid2
                      cases hid2
                      omega
            · skip
              by_cases hbig : (4068 : Int) < (V.length : Int)
              · go_upto_region 17 with fail
                rw [show (str V).extract 0 4068 = str (V.take 4068) from str_piece V 0 4068]
                obtain ⟨P, HP⟩ : ∃ P, Hid (P = V.take 4068) := ⟨_, rfl⟩
                rw [← HP.out]
                have hpl : P.length = 4068 := by rw [HP.out, List.length_take]; omega
                have hps := str_size P
                have hp1 : (0 : Int) ≤ (P.length : Int) := by omega
                have hp2 : (P.length : Int) ≤ (V.length : Int) := by omega
                have HQ : Hid ((str V).extract 4068 V.length = str (V.drop 4068)) := by
                  show _ = _
                  rw [str_piece]
                  rw [List.take_of_length_le (by rw [List.length_drop]; omega)]
                have hzz : ¬ 9223372036854775807 < 4 + P.length := by have := HVL.out; omega
                go_upto_region 18 with fail
                rw [HQ.out]
                have HBD : Hid (str (Oc.big 4 0) ++ str P = str (Ch.frAt ids tx s l.length x).body) := by
                  show _ = _
                  rw [str_append]
                  unfold Ch.frAt
                  rw [HNX.out, ← HV.out]
                  rw [HP.out]
                go_wp2_with (first
                  | (at_builtin; refine wpList_append_own _ rfl _ _ 30 rfl w.heap.size 36 i0 _ 5 32 Try.underlying30 hi hz0 hz1 hz2 rfl (by decide) _ l.length _ rfl (HO4.out.alloc _) ⟨w4.heap.size, 0, none⟩ 1 1 [.int .u8 4, .int .u16 l.length, .int .u32 x, .int .u64 tx, .string (str (Oc.big 4 0) ++ str P)] rfl rfl ?p1 ?p2 ?p3 ?p4 ?p5 ?_)
                  | (go_at_call 51; refine (HF4.out _).mono ?_; rintro e w4 ⟨rfl, hb⟩; have HO4 := Lib.hid (ownsRow_below HO.out hb); have HB4 := Lib.hid (HB.out.trans (hb.mono HB.out.size)); clear hb))
                case p1 => exact five_new _ _ _ _ _ _ _
                case p2 =>
                  intro u hu
                  simp at hu
                  rcases hu with rfl | rfl | rfl | rfl | rfl <;> rfl
                case p3 => unfold maxLen; omega
                case p4 => omega
                case p5 => have := HB4.out.size; simp; omega
                intro v' w5 hown' hgrow _
                have HO5 : Hid (w5.ownsRow w.heap.size 36 5 v' (l ++ [Ch.frAt ids tx s l.length x]).length ((l ++ [Ch.frAt ids tx s l.length x]).flatMap cellsF)) := by
                  show w5.ownsRow _ _ _ _ _ _
                  rw [HBD.out] at hown'
                  rw [List.flatMap_append, List.length_append, List.flatMap_cons, List.flatMap_nil, List.append_nil]; exact hown'
                have HB5 : Hid (Below w.heap.size w w5) := (HB4.out.alloc HB4.out.size _).grown hgrow (by have := HB4.out.size; simp; omega) (fun g hg => (HO4.out.lt g hg).1)
                clear hown' hgrow
                go_wp2
                go_roundg (ids.length - (l.length + 1))
                case measure => omega
                case rel =>
                  refine ⟨l ++ [Ch.frAt ids tx s l.length x], V.drop 4068, by rw [List.length_append]; exact hlt, by rw [List.length_append]; rfl, rfl, by rw [List.length_append]; go_num, ?_, ?_, HO5, ?_, HB5⟩
                  · show _ = _
                    rw [HV.out, List.drop_drop, List.length_append, show [Ch.frAt ids tx s l.length x].length = 1 from rfl]
                    congr 1
                    omega
                  · have HLX := HL.out
                    show _ = _
                    rw [List.length_append, show l.length + [Ch.frAt ids tx s l.length x].length = l.length + 1 from rfl, Ch.frs_snoc ids tx s l.length x HXX.out, ← HLX]
                  · intro q id hq hid2
                    by_cases hql : q < l.length
                    · exact HI.out q id hql hid2
                    · obtain rfl : q = l.length := by rw [List.length_append] at hq; simp at hq; omega
                      rw [HXX.out] at hid2
                      cases hid2
                      omega
              · go_upto_region 17 with fail
                have hps := str_size V
                have hp1 : (0 : Int) ≤ (V.length : Int) := by omega
                have hp2 : (V.length : Int) ≤ (V.length : Int) := by omega
                have hzz : ¬ 9223372036854775807 < 4 + V.length := by have := HVL.out; omega
                go_upto_region 18 with fail
                have HBD : Hid (str (Oc.big 4 0) ++ str V = str (Ch.frAt ids tx s l.length x).body) := by
                  show _ = _
                  rw [str_append]
                  unfold Ch.frAt
                  rw [HNX.out, ← HV.out]
                  rw [List.take_of_length_le (by omega)]
                go_wp2_with (first
                  | (at_builtin; refine wpList_append_own _ rfl _ _ 30 rfl w.heap.size 36 i0 _ 5 32 Try.underlying30 hi hz0 hz1 hz2 rfl (by decide) _ l.length _ rfl (HO4.out.alloc _) ⟨w4.heap.size, 0, none⟩ 1 1 [.int .u8 4, .int .u16 l.length, .int .u32 x, .int .u64 tx, .string (str (Oc.big 4 0) ++ str V)] rfl rfl ?p1 ?p2 ?p3 ?p4 ?p5 ?_)
                  | (go_at_call 51; refine (HF4.out _).mono ?_; rintro e w4 ⟨rfl, hb⟩; have HO4 := Lib.hid (ownsRow_below HO.out hb); have HB4 := Lib.hid (HB.out.trans (hb.mono HB.out.size)); clear hb))
                case p1 => exact five_new _ _ _ _ _ _ _
                case p2 =>
                  intro u hu
                  simp at hu
                  rcases hu with rfl | rfl | rfl | rfl | rfl <;> rfl
                case p3 => unfold maxLen; omega
                case p4 => omega
                case p5 => have := HB4.out.size; simp; omega
                intro v' w5 hown' hgrow _
                have HO5 : Hid (w5.ownsRow w.heap.size 36 5 v' (l ++ [Ch.frAt ids tx s l.length x]).length ((l ++ [Ch.frAt ids tx s l.length x]).flatMap cellsF)) := by
                  show w5.ownsRow _ _ _ _ _ _
                  rw [HBD.out] at hown'
                  rw [List.flatMap_append, List.length_append, List.flatMap_cons, List.flatMap_nil, List.append_nil]; exact hown'
                have HB5 : Hid (Below w.heap.size w w5) := (HB4.out.alloc HB4.out.size _).grown hgrow (by have := HB4.out.size; simp; omega) (fun g hg => (HO4.out.lt g hg).1)
                clear hown' hgrow
                go_wp2
                go_roundg (ids.length - (l.length + 1))
                case measure => omega
                case rel =>
                  refine ⟨l ++ [Ch.frAt ids tx s l.length x], [], by rw [List.length_append]; exact hlt, by rw [List.length_append]; rfl, rfl, by rw [List.length_append]; go_num, ?_, ?_, HO5, ?_, HB5⟩
                  · show _ = _
                    have hv0 : V.drop 4068 = [] := List.drop_of_length_le (by omega)
                    rw [HV.out, List.drop_drop] at hv0
                    rw [List.length_append, show [Ch.frAt ids tx s l.length x].length = 1 from rfl, ← hv0]
                    congr 1
                    omega
                  · have HLX := HL.out
                    show _ = _
                    rw [List.length_append, show l.length + [Ch.frAt ids tx s l.length x].length = l.length + 1 from rfl, Ch.frs_snoc ids tx s l.length x HXX.out, ← HLX]
                  · intro q id hq hid2
                    by_cases hql : q < l.length
                    · exact HI.out q id hql hid2
                    · obtain rfl : q = l.length := by rw [List.length_append] at hq; simp at hq; omega
                      rw [HXX.out] at hid2
                      cases hid2
                      omega
        · have hkk : l.length = ids.length := by omega
          have HE := Lib.hid (Ch.err_ok ids s (by omega) H2.out (by rw [← hkk]; exact HI.out))
          have hcap := ownsRow_cap HO.out
          have HR : Hid (RowF 36 wr w.heap.size u8 (Ch.frs ids tx s ids.length)) := by
            have hl2 := HL.out
            rw [hkk] at hl2
            rw [← hl2]
            exact HO.out
          clear hkk
          go_wp2
          go_ret2
          exact .ok _ HE.out rfl HR.out HB.out
    · have HE := Lib.hid (Ch.err_need ids s (by omega) h2)
      have h2' : ¬ (ids.length : Int) = (Ch.needN s.length : Nat) := by omega
      go_enter Try.func9, Try.ntmps9
      go_wp2_with (go_at_call 11; refine (HN.out _).mono ?_; rintro e w1 ⟨rfl, rfl⟩)
      go_ret2
      exact .bad (by rw [HE.out]; decide) (by rw [HE.out]; rfl) (Below.refl _ _)
end Go.Proofs.Ytpkoehnjladpoaa
/- Rows of frames as the walk reads them; the law's own example of a chain. -/
namespace Go.Proofs.Ytpkoehnjladpoaa
open Go.RowKit
open Ch (Fr)
def SlF (w : World) (v : Value) (l : List Fr) : Prop :=
  ∃ (a : Option Addr) (b o c : Nat), v = .slice a l.length c ∧ (l = [] ∨ a = some ⟨b, o, none⟩) ∧ ∀ (j : Nat) x, l[j]? = some x → w.cell? ⟨b, o + j * 5, none⟩ = some (.int .u8 4) ∧ w.cell? ⟨b, o + j * 5 + 1, none⟩ = some (.int .u16 x.count) ∧ w.cell? ⟨b, o + j * 5 + 2, none⟩ = some (.int .u32 x.id) ∧ w.cell? ⟨b, o + j * 5 + 3, none⟩ = some (.int .u64 x.tx) ∧ w.cell? ⟨b, o + j * 5 + 4, none⟩ = some (.string (str x.body))
theorem SlF.own {w : World} {B : Nat} {e : TypeId} {v : Value} {l : List Fr} (h : w.ownsRow B e 5 v l.length (l.flatMap cellsF)) : SlF w v l := by
  have hw := h
  obtain ⟨_, h1⟩ := h
  rcases h1 with ⟨rfl, h0⟩ | ⟨g, cap, cur, rfl, _⟩
  · obtain rfl : l = [] := List.length_eq_zero_iff.1 h0
    exact ⟨none, 0, 0, 0, rfl, .inl rfl, fun j p hj => by simp at hj⟩
  · refine ⟨_, g, 0, cap, rfl, .inr rfl, fun j p hj => ?_⟩
    have hlt := (List.getElem?_eq_some_iff.1 hj).1
    have c := fun i (hi : i < 5) => (hw.cellAt (j * 5 + i) (by omega)).trans (flat_at cellsF 5 cellsF_len l j i p hj hi)
    refine ⟨?_, ?_, ?_, ?_, ?_⟩
    · have := c 0 (by omega); simpa [cellsF] using this
    · have := c 1 (by omega); simpa [cellsF, Nat.add_assoc] using this
    · have := c 2 (by omega); simpa [cellsF, Nat.add_assoc] using this
    · have := c 3 (by omega); simpa [cellsF, Nat.add_assoc] using this
    · have := c 4 (by omega); simpa [cellsF, Nat.add_assoc] using this
theorem SlF.below {w w' : World} {v : Value} {l : List Fr} (h : SlF w v l) (hb : Below w.heap.size w w') : SlF w' v l := by
  obtain ⟨a, b, o, c, hv, ha, hx⟩ := h
  refine ⟨a, b, o, c, hv, ha, fun j x hj => ?_⟩
  obtain ⟨h0, h1, h2, h3, h4⟩ := hx j x hj
  have hlt := World.block_lt_of_cell? _ _ h0
  exact ⟨(hb.cell (p := ⟨b, o + j * 5, none⟩) hlt).trans h0, (hb.cell (p := ⟨b, o + j * 5 + 1, none⟩) hlt).trans h1, (hb.cell (p := ⟨b, o + j * 5 + 2, none⟩) hlt).trans h2, (hb.cell (p := ⟨b, o + j * 5 + 3, none⟩) hlt).trans h3, (hb.cell (p := ⟨b, o + j * 5 + 4, none⟩) hlt).trans h4⟩
theorem FrOut.got {T : TypeId} {ids : List Nat} {tx : Nat} {s : List UInt8} {w : World} {e : Ending} {w' : World} (h : FrOut T ids tx s w e w') : ∃ v, e = .returned (.tuple #[v, .int .i64 (Ch.err ids s)]) ∧ SlF w' v (if Ch.err ids s = 0 then Ch.frs ids tx s ids.length else []) ∧ Below w.heap.size w w' := by
  rcases h with ⟨h, he, hb⟩ | ⟨v, h, he, hv, hb⟩
  · exact ⟨_, he, by rw [if_neg h]; exact ⟨none, 0, 0, 0, rfl, .inl rfl, fun j p hj => by simp at hj⟩, hb⟩
  · refine ⟨v, by rw [h]; exact he, ?_, hb⟩
    rw [if_pos h]
    refine SlF.own (B := w.heap.size) (e := T) ?_
    exact hv
theorem slU_one (W : World) (x : Nat) : SlU (W.alloc (.cells #[.int .u32 x] 34)) (.slice (some ⟨W.heap.size, 0, none⟩) 1 1) [x] := by
  refine ⟨_, W.heap.size, 0, 1, rfl, .inr rfl, fun j z hj => ?_⟩
  have hj2 : j < 1 := (List.getElem?_eq_some_iff.1 hj).1
  obtain rfl : j = 0 := by omega
  simp at hj; subst hj
  exact World.cell?_alloc_new W _ _ 0
theorem ex_frs : (if Ch.err [2] [97] = 0 then Ch.frs [2] 1 [97] ([2] : List Nat).length else []) = [⟨0, 2, 1, [0, 0, 0, 0, 97]⟩] := by rfl
theorem chawake_any (w : World) : Calls Try.prog 6 #[] w fun e w' => e = .returned (.bool true) ∧ Below w.heap.size w w' := by
  have HF : Hid (∀ W v (hv : SlU W v [2]), Calls Try.prog 8 #[v, .int .u64 1, .string ⟨#[97]⟩] W (FrOut 37 [2] 1 [97] W)) := fun W v hv => frames_any v [2] 1 [97] (by decide) (by decide) (by decide) W hv
  have HV := Lib.hid (slU_one w 2)
  have HB : Hid (Below w.heap.size w (w.alloc (.cells #[.int .u32 2] 34))) := (Below.refl _ _).alloc (Nat.le_refl _) _
  have HN0 : Hid (∀ W, Calls Try.prog 10 #[.int .i64 0] W fun e w' => e = .returned (.int .i64 1) ∧ W = w') := fun W => need_any 0 (by decide) (by decide) W
  have HN1 : Hid (∀ W, Calls Try.prog 10 #[.int .i64 4068] W fun e w' => e = .returned (.int .i64 1) ∧ W = w') := fun W => need_any 4068 (by decide) (by decide) W
  have HN2 : Hid (∀ W, Calls Try.prog 10 #[.int .i64 4069] W fun e w' => e = .returned (.int .i64 2) ∧ W = w') := fun W => need_any 4069 (by decide) (by decide) W
  go_enter Try.func6, Try.ntmps6
  go_wp2_with (first
    | (go_at_call 8; refine (HF.out _ _ HV.out).mono ?_; rintro e w1 ho; obtain ⟨v, rfl, hv, hb⟩ := ho.got; rw [ex_frs] at hv; obtain ⟨a, b, o, c, rfl, ha, hx⟩ := hv; have ha2 := ha.resolve_left (by simp); subst ha2; obtain ⟨c0, c1, c2, c3, c4⟩ := hx 0 _ rfl; change _ = some (Value.string ⟨#[0, 0, 0, 0, 97]⟩) at c4; rw [show Ch.err [2] [97] = 0 from rfl]; have HB1 := Lib.hid (HB.out.trans (hb.mono HB.out.size)); clear hb hx ha)
    | (go_at_call 10; (with_reducible refine (HN0.out _).mono ?_); rintro e w2 ⟨rfl, rfl⟩)
    | (go_at_call 10; (with_reducible refine (HN1.out _).mono ?_); rintro e w3 ⟨rfl, rfl⟩)
    | (go_at_call 10; (with_reducible refine (HN2.out _).mono ?_); rintro e w4 ⟨rfl, rfl⟩))
  go_ret
  exact ⟨rfl, HB1.out⟩
end Go.Proofs.Ytpkoehnjladpoaa
