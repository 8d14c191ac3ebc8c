/- The walk of the law OctetCodecs. -/
import Derived.Test.YtgkonmidgeanmaaInts
import Derived.Deep.LoopGhost
import Derived.Deep.DeepCutAuto
import Derived.Deep.CutRange
import Derived.Deep.CutBlock
namespace Go.Proofs.Ytgkonmidgeanmaa
open Go.RowKit
theorem enc_eq (p : Pr) (t : List UInt8) (n : Nat) (h : p = ⟨n, t⟩) : str (Oc.big 2 n) ++ str (Oc.big 4 (str t).size ++ (str t).data.toList) = str (enc p) := by
  subst h; rw [str_append]; rfl
theorem cellsR_new2 (w : World) (n : Int) (s : ByteArray) (o : Obj) (T : TypeId) : ∀ (j : Nat) u, ([Value.int .u16 n, .string s] : List Value)[j]? = some u →
    ((w.alloc o).alloc (.cells #[.int .u16 n, .string s] T)).cell? ((⟨w.heap.size + 1, 0, none⟩ : Addr).add j) = some u := by
  have := cellsR_new (w.alloc o) n s T
  rwa [size1] at this
theorem box2a (w : World) (a b : Value) (T : TypeId) (o : Obj) : ((w.alloc (.cells #[a, b] T)).alloc o).cell? ⟨w.heap.size, 0, none⟩ = some a := by simp
theorem enc_snoc (n : Nat) (l : List Pr) (x : List UInt8) (y : Nat) : str (Oc.big 4 n ++ l.flatMap enc) ++ (str (Oc.big 2 y) ++ str (Oc.big 4 x.length ++ (str x).data.toList)) = str (Oc.big 4 n ++ (l ++ [(⟨y, x⟩ : Pr)]).flatMap enc) := by
  rw [str_append, str_append, List.flatMap_append, List.append_assoc]
  congr 3
  simp [enc, str_data]
theorem getsR_stop (k : Nat) (s : ByteArray) (e : Int) (h : e ≠ 0) : getsR k s e = getsR 0 s e := by rw [getsR_bad k s e h]; rfl
/-- What the law's own reader has behind the number. -/
theorem list_raw (x : ByteArray) (most : Int) : ∃ (K : Nat) (t0 t1 : ByteArray) (f0 e1 : Int), K < 4294967296 ∧ e1 = (if (K : Int) > (if 0 ≤ most then most else 0) then (if f0 = 0 then 6 else f0) else f0) ∧ t1 = t0 ∧
    (∀ (b : Nat) (W : World), Rd W b x 0 → Calls Try.prog 18 #[.pointer (some ⟨b, 0, none⟩), .int .i64 4] W fun v w' => v = .returned (.int .u64 (K : Nat)) ∧ Rd w' b t0 f0 ∧ Upd b W w') ∧
    listR x most = ((getsR K t1 e1).1, fin (getsR K t1 e1).2.1 (getsR K t1 e1).2.2) := by
  have hK : Oc.val (tk x 0 4).1.data.toList < 4294967296 := Nat.lt_of_lt_of_le (Oc.val_lt _) (Nat.pow_le_pow_right (n := 256) (by omega) (tk_size x 0 4))
  refine ⟨Oc.val (tk x 0 4).1.data.toList, (tk x 0 4).2.1, (tk x 0 4).2.1, (tk x 0 4).2.2, _, hK, rfl, rfl, fun b W hW => num_any b x 0 4 (by omega) W hW, ?_⟩
  unfold listR cnt
  dsimp only
  generalize tk x 0 4 = T at hK ⊢
  generalize Oc.val T.1.data.toList = K at hK ⊢
  generalize (if 0 ≤ most then most else 0) = q
  by_cases h : (K : Int) > q
  · rw [if_pos h, if_pos h]
    have hne : (if T.2.2 = 0 then (6 : Int) else T.2.2) ≠ 0 := by
      split
      · decide
      · assumption
    rw [getsR_stop K _ _ hne]
  · rw [if_neg h, if_neg h]
theorem get_pair (t : ByteArray) (e : Int) : ∃ (n : Nat) (u : List UInt8) (t' r : ByteArray) (f' g : Int), getR t e = (⟨n, u⟩, t', f') ∧ n < 65536 ∧
    (∀ (b : Nat) (W : World), Rd W b t e → Calls Try.prog 18 #[.pointer (some ⟨b, 0, none⟩), .int .i64 2] W fun v w' => v = .returned (.int .u64 (n : Nat)) ∧ Rd w' b r g ∧ Upd b W w') ∧
    (∀ (b : Nat) (W : World), Rd W b r g → Calls Try.prog 22 #[.pointer (some ⟨b, 0, none⟩), .int .i64 100] W fun v w' => v = .returned (.string (str u)) ∧ Rd w' b t' f' ∧ Upd b W w') :=
  ⟨_, _, _, _, _, _, rfl, valtk_lt t e 2, fun b W h => num_any b t e 2 (by omega) W h, fun b W h => refText_rd b _ _ 100 (by omega) W h⟩
theorem readR_eq (x : ByteArray) (n : Nat) (u : List UInt8) (t' : ByteArray) (f' : Int) (h : getR x 0 = (⟨n, u⟩, t', f')) : readR x = if fin t' f' = 0 then (⟨n, u⟩, 0) else (⟨0, []⟩, fin t' f') := by
  unfold readR
  rw [h]
theorem old_cell (w : World) (o : Obj) (b i : Nat) (v : Value) (h : w.cell? ⟨b, i, none⟩ = some v) : (w.alloc o).cell? ⟨b, i, none⟩ = some v := (World.cell?_alloc_old w o ⟨b, i, none⟩ (Nat.ne_of_lt (World.block_lt_of_cell? _ _ h))).trans h
theorem size_str (l : List UInt8) : (str l).size = l.length := rfl
set_option maxHeartbeats 4000000 in
set_option maxRecDepth 100000 in
theorem codecs_walk (A1 : Option Addr) (b1 o1 c1 : Nat) (ys : List Nat) (hA1 : ys = [] ∨ A1 = some ⟨b1, o1, none⟩) (A2 : Option Addr) (b2 o2 c2 : Nat) (xs : List (List UInt8)) (hA2 : xs = [] ∨ A2 = some ⟨b2, o2, none⟩)
    (s : ByteArray) (most : Int) (hm : most < 9223372036854775808) (hyl : ys.length ≤ maxLen) (w : World)
    (hy : ∀ (j : Nat) y, ys[j]? = some y → w.cell? ⟨b1, o1 + j, none⟩ = some (.int .u16 (y : Nat)) ∧ y < 65536)
    (hx : ∀ (j : Nat) x, xs[j]? = some x → w.cell? ⟨b2, o2 + j, none⟩ = some (.string (str x)) ∧ x.length ≤ maxLen) :
    Calls Try.prog 5 #[.slice A1 ys.length c1, .slice A2 xs.length c2, .string s, .int .i64 most] w fun e w' => e = .returned (.bool true) ∧ Below w.heap.size w w' := by
  obtain ⟨i0, hi, hz0, hz1, hz2⟩ := info_parts info62
  unfold maxLen at hx hyl
  have HX := Lib.hid hx
  have HY := Lib.hid hy
  have HA1 := Lib.hid hA1
  have HA2 := Lib.hid hA2
  clear hx hy hA1 hA2
  by_cases hl : (xs.length : Int) > 100
  · go_enter Try.func5, Try.ntmps5
    go_wp2_with (go_at_call 8; refine (awake_any _).mono ?_; rintro e w1 ⟨rfl, hb⟩)
    go_ret
    exact ⟨rfl, hb⟩
  by_cases hs : (s.size : Int) > 2000
  · go_enter Try.func5, Try.ntmps5
    go_wp2_with (go_at_call 8; refine (awake_any _).mono ?_; rintro e w1 ⟨rfl, hb⟩)
    go_ret
    exact ⟨rfl, hb⟩
  have HL := Lib.hid hl
  have hlu : xs.length < 4294967296 := by omega
  go_enter Try.func5, Try.ntmps5
  go_wp2_with (first
    | (go_at_call 8; refine (awake_any _).mono ?_; rintro e w1 ⟨rfl, hb1⟩)
    | (go_at_call 32; refine (pairs_any _).mono ?_; rintro e w2 ⟨rfl, hb2⟩)
    | (go_at_call_of 10 (Value.int IntKind.i64 4); refine (big4 _ xs.length ?_ hlu _).mono ?_; (first | omega | skip); rintro e w3 ⟨rfl, hb3⟩))
  have HB3 : Hid (Below w.heap.size w w3) := below_step (below_step (below_step hb1 hb2) ((Below.refl _ _).alloc (Nat.le_refl _) _)) hb3
  have HR3 : Hid (R1 w3 w2.heap.size) := (R1.new w2).below hb3 (by rw [size1]; omega)
  have HG := Lib.hid (show w.heap.size ≤ w2.heap.size from (below_step hb1 hb2).size)
  have HLT := Lib.hid HR3.out.lt
  clear hb1 hb2 hb3
  revert HR3 HG HLT
  generalize w2.heap.size = g9
  intro HR3 HG HLT
  go_loopg [10, 11, 49] xs.length (fun g v a i wr => ∃ (k : Nat) (l : List Pr), k ≤ xs.length ∧ g = xs.length - k ∧ i = .int .i64 k ∧ l.length = k ∧ a = .string (str (Oc.big 4 xs.length ++ l.flatMap enc)) ∧
    Hid (∀ p ∈ l, p.n < 65536 ∧ p.s.length ≤ 200) ∧ Hid (wr.ownsRow w3.heap.size 62 2 v l.length (l.flatMap cellsR)) ∧ Hid (Below w.heap.size w wr) ∧ Hid (Below w3.heap.size w3 wr))
  case atStart => exact ⟨0, [], Nat.zero_le _, rfl, rfl, rfl, by simp, (fun p hp => by simp at hp), World.ownsRow_nil _ _ _ _, HB3.out, Below.refl _ _⟩
  case round =>
    obtain ⟨k, l, hk, rfl, rfl, rfl, rfl, HP, HO, HB, HB'⟩ := hrel
    by_cases hlt : l.length < xs.length
    · obtain ⟨x, hxk⟩ : ∃ x, xs[l.length]? = some x := ⟨_, List.getElem?_eq_getElem hlt⟩
      obtain ⟨e0, hxm⟩ := HX.out _ x hxk
      have hblt : b2 < w.heap.size := World.block_lt_of_cell? _ _ e0
      have d0 := (HB.out.cell (p := ⟨b2, o2 + l.length, none⟩) hblt).trans e0
      obtain rfl : A2 = some ⟨b2, o2, none⟩ := by
        rcases HA2.out with h | h
        · rw [h] at hlt; cases hlt
        · exact h
      clear e0 hxk
      have hsx := size_str x
      by_cases hx200 : (x.length : Int) > 200
      · go_wp2
        go_ret
        exact ⟨rfl, HB.out⟩
      · by_cases hly : l.length < ys.length
        · obtain ⟨y, hyk⟩ : ∃ y, ys[l.length]? = some y := ⟨_, List.getElem?_eq_getElem hly⟩
          obtain ⟨e1, hy16⟩ := HY.out _ y hyk
          have hblt1 : b1 < w.heap.size := World.block_lt_of_cell? _ _ e1
          have d1 := (HB.out.cell (p := ⟨b1, o1 + l.length, none⟩) hblt1).trans e1
          obtain rfl : A1 = some ⟨b1, o1, none⟩ := by
            rcases HA1.out with h | h
            · rw [h] at hly; cases hly
            · exact h
          have d1' : ∀ ob, (wr.alloc ob).cell? ⟨b1, o1 + l.length, none⟩ = some (.int .u16 (y : Nat)) := fun ob => (World.cell?_alloc_old wr ob ⟨b1, o1 + l.length, none⟩ (Nat.ne_of_lt (Nat.lt_of_lt_of_le hblt1 HB.out.size))).trans d1
          clear e1 hyk d1
          have hzm : (List.map (fun a => (enc a).length) l).sum ≤ 206 * l.length := by
            have := encs_len l (fun q hq => (HP.out q hq).2)
            rwa [List.length_flatMap] at this
          have hz4 : (str (Oc.big 4 x.length ++ (str x).data.toList)).size = 4 + x.length := by rw [str_size, List.length_append, Oc.big_length]; rfl
          have hzt : (str (Oc.big 2 y)).size + (str (Oc.big 4 x.length ++ (str x).data.toList)).size ≤ 9223372036854775807 := by rw [big_size]; omega
          have hzr : (str (Oc.big 4 xs.length ++ List.flatMap enc l)).size + ((str (Oc.big 2 y)).size + (str (Oc.big 4 x.length ++ (str x).data.toList)).size) ≤ 9223372036854775807 := by
            have h5 : (str (Oc.big 4 xs.length ++ List.flatMap enc l)).size = 4 + (List.flatMap enc l).length := by rw [str_size, List.length_append, Oc.big_length]
            have h6 := encs_len l (fun q hq => (HP.out q hq).2)
            rw [h5, big_size]; omega
          clear hz4 hzm
          go_wp2_with (first
            | (at_builtin; refine wpList_append_own _ rfl _ _ 60 rfl w3.heap.size 62 i0 _ 2 24 Try.underlying60 hi hz0 hz1 hz2 rfl (by decide) _ l.length _ rfl ((HO.out.alloc _).alloc _) ⟨wr.heap.size + 1, 0, none⟩ 1 1 (cellsR ⟨y, x⟩) rfl rfl ?p1 ?p2 ?p3 ?p4 ?p5 ?_))
          case p1 => exact fun j u h => h
          case p2 => exact cellsR_one _
          case p3 => unfold maxLen; omega
          case p4 => omega
          case p5 => have h1 := HB'.out.size; simp; omega
          intro v' w4 hown' hgrow _
          have hs3 := HB'.out.size
          have HO4 : Hid (w4.ownsRow w3.heap.size 62 2 v' (l ++ [(⟨y, x⟩ : Pr)]).length ((l ++ [(⟨y, x⟩ : Pr)]).flatMap cellsR)) := by
            show w4.ownsRow _ _ _ _ _ _
            rw [List.flatMap_append, flat_oneR, List.length_append]; exact hown'
          have HBx : Hid (Below w3.heap.size wr w4) := (((Below.refl _ _).alloc hs3 _).alloc (by simp; omega) _).grown hgrow (by simp; omega) (fun g hg => (HO.out.lt g hg).1)
          have q4 : w4.cell? ⟨wr.heap.size, 0, none⟩ = some (.int .u16 (y : Nat)) := hgrow.cell (box2a wr _ _ 62 _) (fun e => absurd (HO.out.lt _ e.symm).2 (Nat.lt_irrefl _))
          clear hown' hgrow
          go_wp2_with (first
            | (go_at_call_of 10 (Value.int IntKind.i64 2); refine (big2 _ y rfl hy16 _).mono ?_; rintro e w5 ⟨rfl, hb5⟩)
            | (go_at_call 15; refine (refText_at (str x) (by omega) _).mono ?_; rintro e w6 ⟨rfl, hb6⟩))
          go_roundg (xs.length - (l.length + 1))
          case measure => omega
          case rel =>
            refine ⟨l.length + 1, l ++ [⟨y, x⟩], by omega, rfl, by go_num, by simp, ?_, ?_, own_below HO4.out (below_step hb5 hb6) (Nat.le_refl _), ?_, ?_⟩
            · exact congrArg Value.string (enc_snoc xs.length l x y)
            · intro q hq
              rcases List.mem_append.1 hq with h | h
              · exact HP.out q h
              · simp at h; subst h; exact ⟨hy16, by show x.length ≤ 200; omega⟩
            · exact HB.out.trans ((HBx.out.mono HB3.out.size).trans ((below_step hb5 hb6).mono (Nat.le_trans (Nat.le_trans HB3.out.size hs3) HBx.out.size)))
            · exact HB'.out.trans (HBx.out.trans ((below_step hb5 hb6).mono (Nat.le_trans hs3 HBx.out.size)))
        · have hzm : (List.map (fun a => (enc a).length) l).sum ≤ 206 * l.length := by
            have := encs_len l (fun q hq => (HP.out q hq).2)
            rwa [List.length_flatMap] at this
          have hz4 : (str (Oc.big 4 x.length ++ (str x).data.toList)).size = 4 + x.length := by rw [str_size, List.length_append, Oc.big_length]; rfl
          have hzt : (str (Oc.big 2 0)).size + (str (Oc.big 4 x.length ++ (str x).data.toList)).size ≤ 9223372036854775807 := by rw [big_size]; omega
          have hzr : (str (Oc.big 4 xs.length ++ List.flatMap enc l)).size + ((str (Oc.big 2 0)).size + (str (Oc.big 4 x.length ++ (str x).data.toList)).size) ≤ 9223372036854775807 := by
            have h5 : (str (Oc.big 4 xs.length ++ List.flatMap enc l)).size = 4 + (List.flatMap enc l).length := by rw [str_size, List.length_append, Oc.big_length]
            have h6 := encs_len l (fun q hq => (HP.out q hq).2)
            rw [h5, big_size]; omega
          clear hz4 hzm
          go_wp2_with (first
            | (at_builtin; refine wpList_append_own _ rfl _ _ 60 rfl w3.heap.size 62 i0 _ 2 24 Try.underlying60 hi hz0 hz1 hz2 rfl (by decide) _ l.length _ rfl ((HO.out.alloc _).alloc _) ⟨wr.heap.size + 1, 0, none⟩ 1 1 (cellsR ⟨0, x⟩) rfl rfl ?p1 ?p2 ?p3 ?p4 ?p5 ?_))
          case p1 => exact fun j u h => h
          case p2 => exact cellsR_one _
          case p3 => unfold maxLen; omega
          case p4 => omega
          case p5 => have h1 := HB'.out.size; simp; omega
          intro v' w4 hown' hgrow _
          have hs3 := HB'.out.size
          have HO4 : Hid (w4.ownsRow w3.heap.size 62 2 v' (l ++ [(⟨0, x⟩ : Pr)]).length ((l ++ [(⟨0, x⟩ : Pr)]).flatMap cellsR)) := by
            show w4.ownsRow _ _ _ _ _ _
            rw [List.flatMap_append, flat_oneR, List.length_append]; exact hown'
          have HBx : Hid (Below w3.heap.size wr w4) := (((Below.refl _ _).alloc hs3 _).alloc (by simp; omega) _).grown hgrow (by simp; omega) (fun g hg => (HO.out.lt g hg).1)
          have q4 : w4.cell? ⟨wr.heap.size, 0, none⟩ = some (.int .u16 0) := hgrow.cell (box2a wr _ _ 62 _) (fun e => absurd (HO.out.lt _ e.symm).2 (Nat.lt_irrefl _))
          clear hown' hgrow
          go_wp2_with (first
            | (go_at_call_of 10 (Value.int IntKind.i64 2); refine (big2 _ 0 rfl (by omega) _).mono ?_; rintro e w5 ⟨rfl, hb5⟩)
            | (go_at_call 15; refine (refText_at (str x) (by omega) _).mono ?_; rintro e w6 ⟨rfl, hb6⟩))
          go_roundg (xs.length - (l.length + 1))
          case measure => omega
          case rel =>
            refine ⟨l.length + 1, l ++ [⟨0, x⟩], by omega, rfl, by go_num, by simp, ?_, ?_, own_below HO4.out (below_step hb5 hb6) (Nat.le_refl _), ?_, ?_⟩
            · exact congrArg Value.string (enc_snoc xs.length l x 0)
            · intro q hq
              rcases List.mem_append.1 hq with h | h
              · exact HP.out q h
              · simp at h; subst h; exact ⟨(show 0 < 65536 by omega), by show x.length ≤ 200; omega⟩
            · exact HB.out.trans ((HBx.out.mono HB3.out.size).trans ((below_step hb5 hb6).mono (Nat.le_trans (Nat.le_trans HB3.out.size hs3) HBx.out.size)))
            · exact HB'.out.trans (HBx.out.trans ((below_step hb5 hb6).mono (Nat.le_trans hs3 HBx.out.size)))
    · obtain hke : l.length = xs.length := by omega
      have HLI : Hid (∀ W, SlR W u10 l → Calls Try.prog 33 #[.agg #[.func (.func 41) #[] #[], .func (.func 42) #[] #[]], u10] W fun e w' => e = .returned (.string (str (Oc.big 4 xs.length ++ l.flatMap enc))) ∧ Below W.heap.size W w') := by
        intro W hW
        have := list_any u10 l (by omega) HP.out W hW
        unfold encs at this
        rwa [hke] at this
      have HSl := Lib.hid (SlR.own HO.out)
      have HRr := Lib.hid (HR3.out.below HB'.out HLT.out)
      clear HP HO
      revert HLI
      generalize str (Oc.big 4 xs.length ++ l.flatMap enc) = all
      intro HLI
      have q0 := HRr.out.c0
      have q1 := HRr.out.c1
      go_wp2_with (first
        | (go_at_call 33; refine (HLI.out _ HSl.out).mono ?_; rintro e w4 ⟨rfl, hb4⟩))
      have HB4 : Hid (Below w.heap.size w (w4.alloc (.cells #[.string s, .string all] 9))) := (HB.out.trans (hb4.mono HB.out.size)).alloc (HB.out.trans (hb4.mono HB.out.size)).size _
      have HR4 : Hid (R1 (w4.alloc (.cells #[.string s, .string all] 9)) g9) := (HRr.out.below hb4 HRr.out.lt).below ((Below.refl w4.heap.size _).alloc (Nat.le_refl _) _) (HRr.out.below hb4 HRr.out.lt).lt
      have HC0 : Hid ((w4.alloc (.cells #[.string s, .string all] 9)).cell? ⟨w4.heap.size, 0, none⟩ = some (.string s) ∧ (w4.alloc (.cells #[.string s, .string all] 9)).cell? ⟨w4.heap.size, 1, none⟩ = some (.string all)) := by constructor <;> simp
      clear hb4 q0 q1
      have HLI' := HLI
      clear HLI HLI' HSl HRr
      revert HB4 HR4 HC0
      generalize w4.alloc (.cells #[.string s, .string all] 9) = W0
      generalize w4.heap.size = g89
      intro HB4 HR4 HC0
      have HZ := Lib.hid HB4.out.size
      go_loopg [91] 2 (fun g i wr => ∃ j : Nat, j ≤ 2 ∧ g = 2 - j ∧ i = .int .i64 j ∧ Hid (Below W0.heap.size W0 wr))
      case atStart => exact ⟨0, by omega, rfl, rfl, Below.refl _ _⟩
      case round =>
        obtain ⟨j, hj, rfl, rfl, HBj⟩ := hrel
        by_cases hj2 : j < 2
        · obtain ⟨x, hxj⟩ : ∃ x, W0.cell? ⟨g89, j, none⟩ = some (.string x) := by
            obtain ⟨h0, h1⟩ := HC0.out
            rcases (show j = 0 ∨ j = 1 by omega) with rfl | rfl
            · exact ⟨s, h0⟩
            · exact ⟨all, h1⟩
          have hcx := (HBj.out.cell (p := ⟨g89, j, none⟩) (World.block_lt_of_cell? _ _ hxj)).trans hxj
          obtain ⟨K, t0, t1, f0, e1, hK, he1, ht1, hN, hLR⟩ := list_raw x most
          have HN := Lib.hid hN
          have HLR := Lib.hid hLR
          have HE1 := Lib.hid he1
          have HT1 := Lib.hid ht1
          clear hxj hN hLR he1 ht1
          have HQ0 : Hid (Rd (wr.alloc (.cells #[.string x, .int .i64 0] 38)) wr.heap.size x 0) := by constructor <;> simp
          go_upto_if 104 with (go_at_call 18; refine (HN.out _ _ HQ0.out).mono ?_; rintro e w5 ⟨rfl, hr5, hu5⟩)
          have hqs : W0.heap.size ≤ wr.heap.size := HBj.out.size
          have HB5 : Hid (Below W0.heap.size W0 w5) := (HBj.out.alloc hqs _).trans (hu5.below hqs)
          have HR5 := Lib.hid hr5
          clear hu5 hr5 HN HQ0 hcx
          revert HB5 HR5 hqs
          generalize wr.heap.size = q
          intro hqs HB5 HR5
          go_cut [17] from 92 to 211 (fun p wx => p = .pointer (some ⟨q, 0, none⟩) ∧ Hid (Rd wx q t1 e1) ∧ Hid (Below W0.heap.size W0 wx))
          case first =>
            have HE1' := HE1.out
            by_cases h0 : 0 ≤ most
            · have h0' : ¬ most < 0 := by omega
              rw [if_pos h0] at HE1'
              by_cases hn : (K : Int) > most
              · rw [if_pos hn] at HE1'
                go_wp2_with (go_at_call 26; refine (refFail_any q t0 f0 6 _ HR5.out).mono ?_; rintro e w6 ⟨rfl, hr6, hu6⟩)
                go_meet
                exact ⟨rfl, by rw [HE1', HT1.out]; exact hr6, HB5.out.trans (hu6.below hqs)⟩
              · rw [if_neg hn] at HE1'
                go_wp2
                go_meet
                exact ⟨rfl, by rw [HE1', HT1.out]; exact HR5.out, HB5.out⟩
            · have h0' : most < 0 := by omega
              rw [if_neg h0] at HE1'
              by_cases hn : (K : Int) > 0
              · rw [if_pos hn] at HE1'
                go_wp2_with (go_at_call 26; refine (refFail_any q t0 f0 6 _ HR5.out).mono ?_; rintro e w6 ⟨rfl, hr6, hu6⟩)
                go_meet
                exact ⟨rfl, by rw [HE1', HT1.out]; exact hr6, HB5.out.trans (hu6.below hqs)⟩
              · rw [if_neg hn] at HE1'
                go_wp2
                go_meet
                exact ⟨rfl, by rw [HE1', HT1.out]; exact HR5.out, HB5.out⟩
          case rest =>
            obtain ⟨rfl, HRc, HBc⟩ := hcut
            clear HR5 HB5
            have HBs := Lib.hid HRc.out.lt
            go_upto_block 4 with fail
            go_cut [19] from 92 to 211 (fun v wx => ∃ (l3 : List Pr) (t3 : ByteArray) (f3 : Int) (a3 : Option Addr) (c3 : Nat), v = .slice a3 l3.length c3 ∧ l3.length ≤ K ∧ Hid (getsR K t1 e1 = (l3, t3, f3)) ∧ Hid (Rd wx q t3 f3) ∧ Hid (SlR wx v l3) ∧ Hid (Below W0.heap.size W0 wx))
            case first =>
              go_wp2_with fail
              go_loopg [19, 20] K (fun g v i wr3 => ∃ (k : Nat) (l3 : List Pr) (t : ByteArray) (f : Int), k ≤ K ∧ g = K - k ∧ i = .int .u64 k ∧ l3.length = k ∧
                Hid (getsR K t1 e1 = (l3 ++ (getsR (K - k) t f).1, (getsR (K - k) t f).2)) ∧ Hid (Rd wr3 q t f) ∧
                Hid (wr3.ownsRow wc.heap.size 62 2 v l3.length (l3.flatMap cellsR)) ∧ Hid (Below W0.heap.size W0 wr3) ∧ Hid (wc.heap.size ≤ wr3.heap.size))
              case atStart => exact ⟨0, [], t1, e1, Nat.zero_le _, rfl, rfl, rfl, rfl, HRc.out, World.ownsRow_nil _ _ _ _, HBc.out, Nat.le_refl _⟩
              case round =>
                obtain ⟨k, l3, t, f, hk3, rfl, rfl, rfl, HGE, HRd, HO, HB3', HS⟩ := hrel
                have q1 := HRd.out.c1
                by_cases hgo : l3.length < K ∧ f = 0
                · obtain ⟨hlt3, rfl⟩ := hgo
                  rw [show K - l3.length = K - (l3.length + 1) + 1 by omega, getsR_succ] at HGE
                  obtain ⟨n, u, t', r, f', g, hgp, hn16, hg2, hgt⟩ := get_pair t 0
                  rw [hgp] at HGE
                  simp only at HGE
                  have HG2 := Lib.hid hg2
                  have HGT := Lib.hid hgt
                  clear hgp hg2 hgt
                  go_wp2_with (first
                    | (go_at_call 18; refine (HG2.out _ _ HRd.out).mono ?_; rintro e w6 ⟨rfl, hr6, hu6⟩)
                    | (go_at_call 22; refine (HGT.out _ _ hr6).mono ?_; rintro e w7 ⟨rfl, hr7, hu7⟩)
                    | (at_builtin; refine wpList_append_own _ rfl _ _ 60 rfl wc.heap.size 62 i0 _ 2 24 Try.underlying60 hi hz0 hz1 hz2 rfl (by decide) _ l3.length _ rfl ((own_upd (own_upd HO.out hu6 HBs.out) hu7 HBs.out).alloc _) ⟨w7.heap.size, 0, none⟩ 1 1 (cellsR ⟨n, u⟩) rfl rfl ?p1 ?p2 ?p3 ?p4 ?p5 ?_))
                  case p1 => exact cellsR_new w7 n (str u) 62
                  case p2 => exact cellsR_one _
                  case p3 => unfold maxLen; omega
                  case p4 => omega
                  case p5 => have h1 := HS.out; have h2 := hu6.size; have h3 := hu7.size; simp; omega
                  intro v' w8 hown' hgrow _
                  have hs7 : wc.heap.size ≤ w7.heap.size := Nat.le_trans HS.out (by rw [hu7.size, hu6.size]; exact Nat.le_refl _)
                  have HO8 : Hid (w8.ownsRow wc.heap.size 62 2 v' (l3 ++ [(⟨n, u⟩ : Pr)]).length ((l3 ++ [(⟨n, u⟩ : Pr)]).flatMap cellsR)) := by
                    show w8.ownsRow _ _ _ _ _ _
                    rw [List.flatMap_append, flat_oneR, List.length_append]; exact hown'
                  have HB78 : Hid (Below wc.heap.size w7 w8) := ((Below.refl _ _).alloc hs7 _).grown hgrow (by simp; omega) (fun g hg => (HO.out.lt g hg).1)
                  have HD8 : Hid (Rd w8 q t' f') := hr7.below' HB78.out HBs.out
                  have HB7 : Hid (Below W0.heap.size W0 w7) := (HB3'.out.trans (hu6.below hqs)).trans (hu7.below hqs)
                  clear hown' hgrow hu6 hu7 hr6 hr7
                  go_wp2
                  go_roundg (K - (l3.length + 1))
                  case measure => omega
                  case rel =>
                    refine ⟨l3.length + 1, l3 ++ [⟨n, u⟩], t', f', by omega, rfl, by go_num, by simp, ?_, HD8, HO8, HB7.out.trans (HB78.out.mono HBc.out.size), Nat.le_trans hs7 HB78.out.size⟩
                    show _ = _
                    rw [HGE.out]
                    simp
                · have HEQ : Hid (getsR K t1 e1 = (l3, t, f)) := by
                    show _ = _
                    rw [HGE.out]
                    by_cases hf : f = 0
                    · obtain hk0 : K - l3.length = 0 := by have := fun h => hgo ⟨h, hf⟩; omega
                      rw [hk0]; simp [getsR]
                    · rw [getsR_bad _ _ _ hf]; simp
                  clear HGE
                  obtain ⟨a3, c3, rfl⟩ : ∃ a1 c1, u19 = .slice a1 l3.length c1 := by
                    rcases HO.out.2 with ⟨h, h0⟩ | ⟨g, cap, cur, h, _⟩
                    · exact ⟨none, 0, by rw [h, h0]⟩
                    · exact ⟨_, cap, h⟩
                  have HSL3 := Lib.hid (SlR.own HO.out)
                  by_cases hlt3 : l3.length < K
                  · have hf : f ≠ 0 := fun h => hgo ⟨hlt3, h⟩
                    have hf' : (f == 0) = false := by rw [beq_eq_false_iff_ne]; exact hf
                    go_wp2
                    go_meet
                    exact ⟨l3, t, f, a3, c3, rfl, hk3, HEQ, HRd, HSL3, HB3'⟩
                  · go_wp2
                    go_meet
                    exact ⟨l3, t, f, a3, c3, rfl, hk3, HEQ, HRd, HSL3, HB3'⟩
            case rest =>
              obtain ⟨l3, t3, f3, a3, c3, rfl, hl3, HEQ, HR3', HSL3, HB3'⟩ := hcut
              have HXE : Hid (listR x most = (l3, fin t3 f3)) := by
                show _ = _
                rw [HLR.out, HEQ.out]
              have HRR := Lib.hid (HR4.out.below HB3'.out HR4.out.lt)
              have q0 := HRR.out.c0
              have q1 := HRR.out.c1
              clear HLR HEQ HRc HBc HE1 HT1
              revert HXE
              generalize hz : fin t3 f3 = z
              intro HXE
              have HEND : Hid (∀ W, Rd W q t3 f3 → Calls Try.prog 28 #[.pointer (some ⟨q, 0, none⟩)] W fun v w' => v = .returned (.int .i64 z) ∧ W = w') := by
                intro W hW
                have := refEnd_rd q t3 f3 W hW
                rwa [hz] at this
              clear hz
              go_wp2_with (go_at_call 34; refine (readList_any x most hm _).mono ?_)
              intro e w9 hout
              obtain ⟨l4, a4, c4, rfl, hl4, hz4, HSL4, hb9⟩ : ∃ (l4 : List Pr) (a4 : Option Addr) (c4 : Nat), e = .returned (.tuple #[.slice a4 l4.length c4, .int .i64 z]) ∧ (l4 = [] ∨ l4 = l3) ∧ (z = 0 → l4 = l3) ∧ Hid (SlR w9 (.slice a4 l4.length c4) l4) ∧ Below wc.heap.size wc w9 ∧ (z ≠ 0 → l4 = []) := by
                rcases hout with ⟨h0, v, rfl, hs9, hb9⟩ | ⟨h0, rfl, hb9⟩
                · rw [HXE.out] at h0 hs9
                  simp only at h0 hs9
                  subst h0
                  have hs9' := hs9
                  obtain ⟨a4, b4, o4, c4, rfl, _, _⟩ := hs9
                  exact ⟨l3, a4, c4, rfl, .inr rfl, fun _ => rfl, hs9', hb9, fun h => absurd rfl h⟩
                · rw [HXE.out] at h0 ⊢
                  simp only at h0 ⊢
                  exact ⟨[], none, 0, rfl, .inl rfl, fun h => absurd h h0, SlR.nil _, hb9, fun _ => rfl⟩
              obtain ⟨hb9, hz9⟩ := hb9
              have HR9 : Hid (Rd w9 q t3 f3) := HR3'.out.below hb9
              have HSL9 : Hid (SlR w9 (.slice a3 l3.length c3) l3) := HSL3.out.below hb9
              have HB9 : Hid (Below W0.heap.size W0 w9) := HB3'.out.trans (hb9.mono HB3'.out.size)
              have HL4 := Lib.hid hl4
              have HZ4 := Lib.hid hz4
              have HZ9 := Lib.hid hz9
              clear hb9 hl4 hz4 hz9 q0 q1 HR3' HSL3 HB3' HXE HRR hout
              go_upto_region 34 with fail
              go_cut [158] from 92 to 211 (fun ok wx => ok = .bool false ∧ wx = w9)
              case first =>
                by_cases hz : z = 0
                · subst hz
                  have h4 := HZ4.out rfl
                  subst h4
                  go_wp2_with (go_at_call 28; refine (HEND.out _ HR9.out).mono ?_; rintro e w10 ⟨rfl, rfl⟩)
                  go_meet
                  exact ⟨rfl, rfl⟩
                · have h4 := HZ9.out hz
                  subst h4
                  have hz' : (z == 0) = false := by rw [beq_eq_false_iff_ne]; exact hz
                  have hz'' : (z != 0) = true := by rw [bne_iff_ne]; exact hz
                  go_wp2_with (go_at_call 28; refine (HEND.out _ HR9.out).mono ?_; rintro e w10 ⟨rfl, rfl⟩)
                  go_meet
                  exact ⟨rfl, rfl⟩
              case rest =>
                obtain ⟨rfl, rfl⟩ := hcut
                clear HR9 HEND
                have HLA := Lib.hid (show W0.heap.size ≤ wc.heap.size from HB9.out.size)
                have HKL := Lib.hid hl3
                go_upto_block 6 with fail
                go_cut [161] from 162 to 211 (fun i wx => Hid (Below W0.heap.size W0 wx))
                case first =>
                  go_wp2_with fail
                  go_loopg [161] l4.length (fun g i wx => ∃ k : Nat, k ≤ l4.length ∧ g = l4.length - k ∧ i = .int .i64 k ∧ Hid (Below wc.heap.size wc wx))
                  case atStart => exact ⟨0, Nat.zero_le _, rfl, rfl, Below.refl _ _⟩
                  case round =>
                    obtain ⟨k, hk4, rfl, rfl, HBk⟩ := hrel
                    by_cases hlt4 : k < l4.length
                    · have hl43 : l4 = l3 := by
                        rcases HL4.out with h | h
                        · rw [h] at hlt4; exact absurd hlt4 (Nat.not_lt_zero _)
                        · exact h
                      subst hl43
                      obtain ⟨p, hp⟩ : ∃ p, l4[k]? = some p := ⟨_, List.getElem?_eq_getElem hlt4⟩
                      obtain ⟨A4, B4, O4, C4, hv4, hA4, hc4⟩ := HSL4.out.below HBk.out
                      obtain ⟨A3, B3, O3, C3, hv3, hA3, hc3⟩ := HSL9.out.below HBk.out
                      obtain ⟨d0, d1⟩ := hc4 k p hp
                      obtain ⟨e0, e1'⟩ := hc3 k p hp
                      have hne : l4 ≠ [] := fun h => by rw [h] at hlt4; exact absurd hlt4 (Nat.not_lt_zero _)
                      obtain rfl := hA4.resolve_left hne
                      obtain rfl := hA3.resolve_left hne
                      simp only [Value.slice.injEq] at hv4 hv3
                      obtain ⟨rfl, _, rfl⟩ := hv4
                      obtain ⟨rfl, _, rfl⟩ := hv3
                      clear hc4 hc3 hA4 hA3 hp hne
                      obtain ⟨n, u⟩ := p
                      simp only at d0 d1 e0 e1'
                      go_wp2_with fail
                      go_region
                      go_wp2
                      go_roundg (l4.length - (k + 1))
                      case measure => omega
                      case rel => exact ⟨k + 1, by omega, rfl, by go_num, HBk.out.drew⟩
                    · go_wp2
                      go_meet
                      exact HB9.out.trans (HBk.out.mono HLA.out)
                case rest =>
                  have HB10 := hcut
                  clear hcut
                  have hqw : W0.heap.size ≤ wc.heap.size := HB10.out.size
                  have HQ0 : Hid (Rd (wc.alloc (.cells #[.string x, .int .i64 0] 38)) wc.heap.size x 0) := by constructor <;> simp
                  obtain ⟨n, u, t', r, f', g, hgp, hn16, hg2, hgt⟩ := get_pair x 0
                  have HG2 := Lib.hid hg2
                  have HGT := Lib.hid hgt
                  have HRE := Lib.hid (readR_eq x n u t' f' hgp)
                  clear hgp hg2 hgt HSL4 HSL9
                  go_upto_region 44 with (first
                    | (go_at_call 18; refine (HG2.out _ _ HQ0.out).mono ?_; rintro e w11 ⟨rfl, hr11, hu11⟩)
                    | (go_at_call 22; refine (HGT.out _ _ hr11).mono ?_; rintro e w12 ⟨rfl, hr12, hu12⟩))
                  have HB12 : Below W0.heap.size W0 w12 := ((HB10.out.alloc hqw _).trans (hu11.below hqw)).trans (hu12.below hqw)
                  have HW1 : Hid (Below W0.heap.size W0 (w12.alloc (.cells #[.int .u16 (n : Nat), .string (str u)] 62))) := HB12.alloc HB12.size _
                  have HQ1 : Hid (Rd (w12.alloc (.cells #[.int .u16 (n : Nat), .string (str u)] 62)) wc.heap.size t' f') := hr12.alloc _
                  have HC1 : Hid ((w12.alloc (.cells #[.int .u16 (n : Nat), .string (str u)] 62)).cell? ⟨w12.heap.size, 0, none⟩ = some (.int .u16 (n : Nat)) ∧ (w12.alloc (.cells #[.int .u16 (n : Nat), .string (str u)] 62)).cell? ⟨w12.heap.size, 1, none⟩ = some (.string (str u))) := by constructor <;> simp
                  have HRW : Hid (R1 (w12.alloc (.cells #[.int .u16 (n : Nat), .string (str u)] 62)) g9) := HR4.out.below HW1.out HR4.out.lt
                  clear HB12 hr11 hu11 hr12 hu12 HQ0 HG2 HGT HB10
                  revert HW1 HQ1 HC1 HRW
                  generalize w12.alloc (.cells #[.int .u16 (n : Nat), .string (str u)] 62) = W1
                  generalize w12.heap.size = g24
                  generalize wc.heap.size = q2
                  intro HW1 HQ1 HC1 HRW
                  obtain ⟨y, hy⟩ : ∃ y, fin t' f' = y := ⟨_, rfl⟩
                  have HEND2 : Hid (∀ W, Rd W q2 t' f' → Calls Try.prog 28 #[.pointer (some ⟨q2, 0, none⟩)] W fun v w' => v = .returned (.int .i64 y) ∧ W = w') := by
                    intro W hW
                    have := refEnd_rd q2 t' f' W hW
                    rwa [hy] at this
                  rw [hy] at HRE
                  clear hy
                  by_cases hz : y = 0
                  · subst hz
                    have HIF : (if (0 : Int) = 0 then ((⟨n, u⟩ : Pr), (0 : Int)) else (⟨0, []⟩, 0)) = (⟨n, u⟩, 0) := if_pos rfl
                    have HRD : Hid (∀ W, Calls Try.prog 35 #[.agg #[.func (.func 41) #[] #[], .func (.func 42) #[] #[]], .string x] W fun e w' => e = .returned (.tuple #[.agg #[.int .u16 (n : Nat), .string (str u)], .int .i64 0]) ∧ Below W.heap.size W w') := by
                      intro W
                      have := read_any x W
                      rw [HRE.out, HIF] at this
                      exact this
                    have q0 := HRW.out.c0
                    have q1 := HRW.out.c1
                    clear HRE
                    go_upto_region 45 with (go_at_call 35; refine (HRD.out _).mono ?_; rintro e w13 ⟨rfl, hb13⟩)
                    have HW2 : Hid (Below W0.heap.size W0 (w13.alloc (.cells #[.int .u16 (n : Nat), .string (str u)] 62))) := (HW1.out.trans (hb13.mono HW1.out.size)).alloc (HW1.out.trans (hb13.mono HW1.out.size)).size _
                    have HQ2 : Hid (Rd (w13.alloc (.cells #[.int .u16 (n : Nat), .string (str u)] 62)) q2 t' f') := (HQ1.out.below hb13).alloc _
                    have HC2 : Hid (((w13.alloc (.cells #[.int .u16 (n : Nat), .string (str u)] 62)).cell? ⟨g24, 0, none⟩ = some (.int .u16 (n : Nat)) ∧ (w13.alloc (.cells #[.int .u16 (n : Nat), .string (str u)] 62)).cell? ⟨g24, 1, none⟩ = some (.string (str u))) ∧
                        (w13.alloc (.cells #[.int .u16 (n : Nat), .string (str u)] 62)).cell? ⟨w13.heap.size, 0, none⟩ = some (.int .u16 (n : Nat)) ∧ (w13.alloc (.cells #[.int .u16 (n : Nat), .string (str u)] 62)).cell? ⟨w13.heap.size, 1, none⟩ = some (.string (str u))) := by
                      have hg := World.block_lt_of_cell? _ _ HC1.out.1
                      exact ⟨⟨old_cell _ _ _ _ _ ((hb13.cell (p := ⟨g24, 0, none⟩) hg).trans HC1.out.1), old_cell _ _ _ _ _ ((hb13.cell (p := ⟨g24, 1, none⟩) hg).trans HC1.out.2)⟩, by simp, by simp⟩
                    clear hb13 q0 q1 HRW HQ1 HC1 HW1
                    revert HW2 HQ2 HC2
                    generalize w13.alloc (.cells #[.int .u16 (n : Nat), .string (str u)] 62) = W2
                    generalize w13.heap.size = g25
                    intro HW2 HQ2 HC2
                    obtain ⟨⟨x0, x1⟩, y0, y1⟩ := HC2.out
                    clear HC2
                    go_wp2_with (go_at_call 28; refine (HEND2.out _ HQ2.out).mono ?_; rintro e w14 ⟨rfl, rfl⟩)
                    go_roundg (2 - (j + 1))
                    case measure => omega
                    case rel => exact ⟨j + 1, by omega, rfl, by go_num, HW2⟩
                  · have HIF : (if y = 0 then ((⟨n, u⟩ : Pr), (0 : Int)) else (⟨0, []⟩, y)) = (⟨0, []⟩, y) := if_neg hz
                    have hz' : (y == 0) = false := by rw [beq_eq_false_iff_ne]; exact hz
                    have hz'' : (y != 0) = true := by rw [bne_iff_ne]; exact hz
                    have HRD : Hid (∀ W, Calls Try.prog 35 #[.agg #[.func (.func 41) #[] #[], .func (.func 42) #[] #[]], .string x] W fun e w' => e = .returned (.tuple #[.agg #[.int .u16 0, .string ⟨#[]⟩], .int .i64 y]) ∧ Below W.heap.size W w') := by
                      intro W
                      have := read_any x W
                      rw [HRE.out, HIF] at this
                      exact this
                    have q0 := HRW.out.c0
                    have q1 := HRW.out.c1
                    clear HRE
                    go_upto_region 45 with (go_at_call 35; refine (HRD.out _).mono ?_; rintro e w13 ⟨rfl, hb13⟩)
                    have HW2 : Hid (Below W0.heap.size W0 (w13.alloc (.cells #[.int .u16 0, .string ⟨#[]⟩] 62))) := (HW1.out.trans (hb13.mono HW1.out.size)).alloc (HW1.out.trans (hb13.mono HW1.out.size)).size _
                    have HQ2 : Hid (Rd (w13.alloc (.cells #[.int .u16 0, .string ⟨#[]⟩] 62)) q2 t' f') := (HQ1.out.below hb13).alloc _
                    have HC2 : Hid (((w13.alloc (.cells #[.int .u16 0, .string ⟨#[]⟩] 62)).cell? ⟨g24, 0, none⟩ = some (.int .u16 (n : Nat)) ∧ (w13.alloc (.cells #[.int .u16 0, .string ⟨#[]⟩] 62)).cell? ⟨g24, 1, none⟩ = some (.string (str u))) ∧
                        (w13.alloc (.cells #[.int .u16 0, .string ⟨#[]⟩] 62)).cell? ⟨w13.heap.size, 0, none⟩ = some (.int .u16 0) ∧ (w13.alloc (.cells #[.int .u16 0, .string ⟨#[]⟩] 62)).cell? ⟨w13.heap.size, 1, none⟩ = some (.string ⟨#[]⟩)) := by
                      have hg := World.block_lt_of_cell? _ _ HC1.out.1
                      exact ⟨⟨old_cell _ _ _ _ _ ((hb13.cell (p := ⟨g24, 0, none⟩) hg).trans HC1.out.1), old_cell _ _ _ _ _ ((hb13.cell (p := ⟨g24, 1, none⟩) hg).trans HC1.out.2)⟩, by simp, by simp⟩
                    clear hb13 q0 q1 HRW HQ1 HC1 HW1
                    revert HW2 HQ2 HC2
                    generalize w13.alloc (.cells #[.int .u16 0, .string ⟨#[]⟩] 62) = W2
                    generalize w13.heap.size = g25
                    intro HW2 HQ2 HC2
                    obtain ⟨⟨x0, x1⟩, y0, y1⟩ := HC2.out
                    clear HC2
                    go_wp2_with (go_at_call 28; refine (HEND2.out _ HQ2.out).mono ?_; rintro e w14 ⟨rfl, rfl⟩)
                    go_roundg (2 - (j + 1))
                    case measure => omega
                    case rel => exact ⟨j + 1, by omega, rfl, by go_num, HW2⟩
        · obtain rfl : j = 2 := by omega
          have HBw : Hid (Below w.heap.size w wr) := HB4.out.trans (HBj.out.mono HZ.out)
          go_wp2_with (first
            | (go_at_call 36; refine (read_int _ _).mono ?_; rintro e w21 ⟨rfl, hb21⟩; have n0 := (hb21.cell (p := ⟨wr.heap.size, 0, none⟩) (by simp)).trans (show _ = some Value.nilFunc by simp); have n1 := (hb21.cell (p := ⟨wr.heap.size, 1, none⟩) (by simp)).trans (show _ = some Value.nilFunc by simp); have HS21 := Lib.hid hb21.size)
            | (go_at_call 37; refine (readList_int _ _ _).mono ?_; rintro e w22 ⟨rfl, hb22⟩; have m0 := (hb22.cell (p := ⟨wr.heap.size, 0, none⟩) (World.block_lt_of_cell? _ _ n0)).trans n0; have m1 := (hb22.cell (p := ⟨wr.heap.size, 1, none⟩) (World.block_lt_of_cell? _ _ n1)).trans n1)
            | (go_at_call 38; refine (bytes_int _ _).mono ?_; rintro e w23 ⟨rfl, hb23⟩))
          go_ret
          refine ⟨rfl, ?_⟩
          exact HBw.out.trans ((below_step (below_step (below_step ((Below.refl _ _).alloc (Nat.le_refl _) _) hb21) hb22) hb23).mono HBw.out.size)
end Go.Proofs.Ytgkonmidgeanmaa
