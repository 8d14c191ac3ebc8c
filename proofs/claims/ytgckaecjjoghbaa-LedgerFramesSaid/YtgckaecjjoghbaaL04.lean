/- Texts of one seat, merged. -/
import Derived.Test.YtgckaecjjoghbaaL02
import Derived.Test.YtgckaecjjoghbaaL03
import Derived.Deep.LoopGhost
import Derived.Deep.RegionWith
import Derived.Deep.DeepCutAuto
import Derived.Test.YtgckaecjjoghbaaL01
import Derived.Deep.RegionHeld3
set_option maxRecDepth 100000
set_option maxHeartbeats 4000000
set_option linter.unusedVariables false
/- The contract of a ledger's page's body. -/
namespace Go.Proofs.Ytgckaecjjoghbaa
open Go.RowKit
open Ld (En)
/-- A builder and its bytes. -/
def BB (w : World) (B b : Nat) (l : List UInt8) : Prop := ∃ u, Bld w B b u (Lib.byteCells l)
theorem BB.below {w w' : World} {B b : Nat} {l : List UInt8} (h : BB w B b l) (hb : Below w.heap.size w w') : BB w' B b l := by
  obtain ⟨u, h⟩ := h
  exact ⟨u, h.below hb⟩
theorem BB.drew {w : World} {B b : Nat} {l : List UInt8} (h : BB w B b l) : BB w.drew B b l := h.below ((Below.refl _ _).drew)
theorem BB.lt {w : World} {B b : Nat} {l : List UInt8} (h : BB w B b l) : b < w.heap.size := by
  obtain ⟨u, h⟩ := h
  exact h.lt
theorem BB.new (w : World) : BB (w.alloc (.cells #[.pointer none, .slice none 0 0] 107)) w.heap.size w.heap.size [] := by
  refine ⟨.slice none 0 0, Nat.le_refl _, .inl ?_, World.ownsRow_nil _ _ _ _⟩
  exact heap_alloc_new w _
theorem bcl (l : List UInt8) : (Lib.byteCells l).length = l.length := by simp [Lib.byteCells]
theorem bca (l m : List UInt8) : Lib.byteCells l ++ Lib.byteCells m = Lib.byteCells (l ++ m) := by simp [Lib.byteCells]
theorem BB.write {w : World} {B b : Nat} {l : List UInt8} (h : BB w B b l) (s : List UInt8) (hl : l.length + s.length ≤ 100000000) :
    Calls Try.prog 71 #[.pointer (some ⟨b, 0, none⟩), .string (str s)] w fun e w' => e = .returned (.tuple #[.int .i64 (str s).size, .nilIface]) ∧ BB w' B b (l ++ s) ∧ Below B w w' := by
  obtain ⟨u, h⟩ := h
  refine (write_at B b u _ (str s) w h (by rw [bcl, str_size]; omega)).mono ?_
  rintro e w' ⟨rfl, v', hw, _, hf⟩
  refine ⟨rfl, ⟨v', ?_⟩, hf.below h⟩
  rw [show Lib.strCells (str s) = Lib.byteCells s from rfl, bca] at hw
  exact hw
theorem BB.string {w : World} {B b : Nat} {l : List UInt8} (h : BB w B b l) :
    Calls Try.prog 74 #[.pointer (some ⟨b, 0, none⟩)] w fun e w' => e = .returned (.string (str l)) ∧ Below B w w' := string_last h
theorem stepB {w w1 w2 : World} {B b : Nat} {p0 p1 : Addr} {x0 x1 : Value} {l : List UInt8} (hB : B ≤ w.heap.size) (H : w1.cell? p0 = some x0 ∧ w1.cell? p1 = some x1 ∧ BB w1 B b l ∧ Below B w w1) (hb : Below w1.heap.size w1 w2) :
    w2.cell? p0 = some x0 ∧ w2.cell? p1 = some x1 ∧ BB w2 B b l ∧ Below B w w2 :=
  ⟨(hb.cell (World.block_lt_of_cell? _ _ H.1)).trans H.1, (hb.cell (World.block_lt_of_cell? _ _ H.2.1)).trans H.2.1, H.2.2.1.below hb, H.2.2.2.trans (hb.mono (Nat.le_trans hB H.2.2.2.size))⟩
theorem bytes_take {l : List En} {k : Nat} {x : En} (h : l[k]? = some x) : Ld.bytes (l.take (k + 1)) = Ld.bytes (l.take k) ++ (Oc.big 8 x.tx ++ Oc.big 4 x.page) := by
  rw [Ld.take_snoc h, Ld.bytes_snoc]; rfl
set_option maxHeartbeats 4000000 in
theorem ldBody_any (nx : Nat) (hn : nx < 4294967296) (v : Value) (l : List En) (hl : l.length ≤ 339) (hok : okE l) (w : World) (hv : SlE w v l) :
    Calls Try.prog 52 #[.int .u32 nx, v] w fun e w' => e = .returned (.string (str (Oc.big 4 nx ++ Ld.bytes l))) ∧ Below w.heap.size w w' := by
  obtain ⟨a, b, o, c, rfl, ha, hx⟩ := hv
  have HX := Lib.hid hx
  have HA := Lib.hid ha
  have HOK := Lib.hid hok
  have HF4 := Lib.hid (fun W => four_at (nx : Nat) nx rfl hn W)
  clear ha hx hok
  go_enter Try.func52, Try.ntmps52
  go_upto_region 2 with fail
  have HB0 := Lib.hid (BB.new w)
  have HW0 : Hid (Below w.heap.size w (w.alloc (.cells #[.pointer none, .slice none 0 0] 107))) := (Below.refl _ _).alloc (Nat.le_refl _) _
  generalize (w.alloc (.cells #[.pointer none, .slice none 0 0] 107)) = w0 at HB0 HW0 ⊢
  generalize hg : w.heap.size = g at HB0 HW0 ⊢
  have HG := Lib.hid hg
  clear hg
  go_wp2_with (first
    | (go_at_call 72; refine (HF4.out _).mono ?_; rintro e w1 ⟨rfl, hb1⟩; have HB1 := Lib.hid (HB0.out.below hb1); have HW1 := Lib.hid (HW0.out.trans (hb1.mono (by have := HW0.out.size; have := HG.out; omega))); clear hb1)
    | (go_at_call 71; refine (HB1.out.write (Oc.big 4 nx) (by rw [Oc.big_length]; decide)).mono ?_; rintro e w2 ⟨rfl, hb2, hw2⟩; have HB2 := Lib.hid hb2; have HW2 := Lib.hid (HW1.out.trans hw2); clear hb2 hw2))
  go_loopg [13] l.length (fun n i wr => ∃ k : Nat, k ≤ l.length ∧ n = l.length - k ∧ i = .int .i64 (k : Nat) ∧ Hid (BB wr g g (Oc.big 4 nx ++ Ld.bytes (l.take k))) ∧ Hid (Below g w wr))
  case atStart => exact ⟨0, Nat.zero_le _, rfl, rfl, by show BB _ _ _ _; rw [List.take_zero, show Ld.bytes [] = [] from rfl, List.append_nil, ← List.nil_append (Oc.big 4 nx)]; exact HB2.out, HW2.out⟩
  case round =>
    obtain ⟨k, hk, rfl, rfl, HB, HW⟩ := hrel
    by_cases hlt : k < l.length
    · obtain ⟨x, hx⟩ := some_at hlt
      obtain ⟨e0, e1⟩ := HX.out k x hx
      have hblt : b < g := by rw [← HG.out]; exact World.block_lt_of_cell? _ _ e0
      have d0 := (HW.out.cell (p := ⟨b, o + k * 2, none⟩) hblt).trans e0
      have d1 := (HW.out.cell (p := ⟨b, o + k * 2 + 1, none⟩) hblt).trans e1
      obtain rfl : a = some ⟨b, o, none⟩ := HA.out.resolve_left (by intro h; rw [h] at hlt; cases hlt)
      obtain ⟨hx1, hx2⟩ := HOK.out x (List.mem_of_getElem? hx)
      have HT : Hid (Oc.big 4 nx ++ Ld.bytes (l.take (k + 1)) = Oc.big 4 nx ++ Ld.bytes (l.take k) ++ (Oc.big 8 x.tx ++ Oc.big 4 x.page)) := by show _ = _; rw [bytes_take hx, ← List.append_assoc]
      have HLN : Hid ((Oc.big 4 nx ++ Ld.bytes (l.take k)).length ≤ 5000) := by
        show _ ≤ _
        rw [List.length_append, Ld.bytes_len, List.length_take, Oc.big_length]; omega
      have HE := Lib.hid (fun W => eight_at (x.tx : Nat) x.tx rfl hx1 W)
      have HF := Lib.hid (fun W => four_at (x.page : Nat) x.page rfl hx2 W)
      have hz8 := big_size 8 x.tx
      have hz4 := big_size 4 x.page
      clear e0 e1 hblt hx hx1 hx2 HF4
      generalize Oc.big 4 nx ++ Ld.bytes (l.take k) = L0 at HB HLN HT
      obtain ⟨xt, xp⟩ := x
      go_upto_region 6 with fail
      have HS : Hid ((wr.alloc (.cells #[.int .u64 xt, .int .u32 xp] 62)).drew.cell? ⟨wr.heap.size, 0, none⟩ = some (.int .u64 xt) ∧ (wr.alloc (.cells #[.int .u64 xt, .int .u32 xp] 62)).drew.cell? ⟨wr.heap.size, 1, none⟩ = some (.int .u32 xp) ∧ BB (wr.alloc (.cells #[.int .u64 xt, .int .u32 xp] 62)).drew g g L0 ∧ Below g w (wr.alloc (.cells #[.int .u64 xt, .int .u32 xp] 62)).drew) := by
        refine ⟨World.cell?_alloc_new _ _ _ 0, World.cell?_alloc_new _ _ _ 1, (HB.out.below ((Below.refl _ _).alloc (Nat.le_refl _) _)).drew, ?_⟩
        exact (HW.out.alloc (by have := HB.out.lt; omega) _).drew
      have HGW := Lib.hid (show g ≤ w.heap.size from Nat.le_of_eq HG.out.symm)
      generalize (wr.alloc (.cells #[.int .u64 xt, .int .u32 xp] 62)) = W5 at HS ⊢
      generalize wr.heap.size = q at HS ⊢
      obtain ⟨c0, c1, _⟩ := HS.out
      clear d0 d1
      go_region_with (first
        | (go_at_call 73; refine (HE.out _).mono ?_; rintro e w5 ⟨rfl, hb5⟩; first | (have HS5 := Lib.hid (stepB HGW.out HS6.out hb5)) | (have HS5 := Lib.hid (stepB HGW.out HS.out hb5)); clear hb5; obtain ⟨c50, c51, _⟩ := HS5.out)
        | (go_at_call 72; refine (HF.out _).mono ?_; rintro e w6 ⟨rfl, hb6⟩; first | (have HS6 := Lib.hid (stepB HGW.out HS5.out hb6)) | (have HS6 := Lib.hid (stepB HGW.out HS.out hb6)); clear hb6; obtain ⟨c60, c61, _⟩ := HS6.out)
        | (go_at_call 71; rw [str_append]; first | (refine (HS6.out.2.2.1.write (Oc.big 8 xt ++ Oc.big 4 xp) (by rw [List.length_append, Oc.big_length, Oc.big_length]; have := HLN.out; omega)).mono ?_; rintro e w7 ⟨rfl, hb7, hw7⟩; have HB7 := Lib.hid hb7; have HW7 := Lib.hid (HS6.out.2.2.2.trans hw7); clear hb7 hw7) | (refine (HS5.out.2.2.1.write (Oc.big 8 xt ++ Oc.big 4 xp) (by rw [List.length_append, Oc.big_length, Oc.big_length]; have := HLN.out; omega)).mono ?_; rintro e w7 ⟨rfl, hb7, hw7⟩; have HB7 := Lib.hid hb7; have HW7 := Lib.hid (HS5.out.2.2.2.trans hw7); clear hb7 hw7)))
      all_goals
        go_wp2
        go_roundg (l.length - (k + 1))
        case measure => omega
        case rel => exact ⟨k + 1, hlt, rfl, by go_num, by show BB _ _ _ _; rw [HT.out]; exact HB7.out, HW7.out⟩
    · have hkk : k = l.length := by omega
      have HB5 : Hid (BB wr g g (Oc.big 4 nx ++ Ld.bytes l)) := by
        have h := HB.out
        rw [hkk, List.take_length] at h
        exact h
      go_wp2_with (go_at_call 74; refine (HB5.out.string).mono ?_; rintro e w6 ⟨rfl, hb6⟩; have HB6 := Lib.hid (HW.out.trans hb6); clear hb6)
      go_ret
      exact ⟨rfl, by rw [HG.out]; exact HB6.out⟩
end Go.Proofs.Ytgckaecjjoghbaa
/- The contract of a ledger's Frames. -/
namespace Go.Proofs.Ytgckaecjjoghbaa
open Go.RowKit
open Ld (En)
theorem rowL_open {w : World} {g c : Nat} {l : List Ld.Fr} {zs : List Value} (h : w.ownsRow g 60 5 (.slice (some ⟨g, 0, none⟩) c c) c (l.flatMap cellsL ++ zs)) (hz : zs.length = (c - l.length) * 5) (hl : l.length < c) :
    (∃ z0 z1 z2 z3 z4, w.cell? ⟨g, l.length * 5, none⟩ = some z0 ∧ w.cell? ⟨g, l.length * 5 + 1, none⟩ = some z1 ∧ w.cell? ⟨g, l.length * 5 + 2, none⟩ = some z2 ∧ w.cell? ⟨g, l.length * 5 + 3, none⟩ = some z3 ∧ w.cell? ⟨g, l.length * 5 + 4, none⟩ = some z4) ∧
    w.frozen? ⟨g, l.length * 5, none⟩ = false ∧ w.frozen? ⟨g, l.length * 5 + 1, none⟩ = false ∧ w.frozen? ⟨g, l.length * 5 + 2, none⟩ = false ∧ w.frozen? ⟨g, l.length * 5 + 3, none⟩ = false ∧ w.frozen? ⟨g, l.length * 5 + 4, none⟩ = false := by
  have hfl := flatlL l
  have ck := fun j (hj : j < 5) => (h.cellAt (l.length * 5 + j) (by omega)).trans (List.getElem?_eq_getElem (by rw [List.length_append, hfl, hz]; omega))
  exact ⟨⟨_, _, _, _, _, ck 0 (by omega), ck 1 (by omega), ck 2 (by omega), ck 3 (by omega), ck 4 (by omega)⟩, h.frozenAt _, h.frozenAt _, h.frozenAt _, h.frozenAt _, h.frozenAt _⟩
theorem okE_take {l : List En} (h : okE l) (q : Nat) : okE (l.take q) := fun x hx => h x (List.mem_of_mem_take hx)
theorem okE_drop {l : List En} (h : okE l) (q : Nat) : okE (l.drop q) := fun x hx => h x (List.mem_of_mem_drop hx)
set_option maxHeartbeats 8000000 in
theorem ldFrames_any (v vi : Value) (l : List En) (ids : List Nat) (tx : Nat) (hl : l.length ≤ 2000) (hil : ids.length ≤ 40) (hid : ∀ x ∈ ids, x < 4294967296) (hok : okE l) (w : World) (hv : SlE w v l) (hvc : Cap v) (hvi : SlN w vi ids) :
    Calls Try.prog 24 #[v, vi, .int .u64 tx] w (LdOut 60 ids tx l w) := by
  have HN := Lib.hid (fun W => ldNeed_any (l.length : Int) (by omega) (by omega) W)
  rw [Ld.need_nat] at HN
  have HC := Lib.hid (fun W (hW : Below w.heap.size w W) => cont32_any vi ids (by omega) W (hvi.below hW))
  have HR := Lib.hid (fun W (hW : Below w.heap.size w W) => ldRise_any v l (by omega) W (hv.below hW))
  have HSV := Lib.hid hv
  have HCV := Lib.hid hvc
  have HOK := Lib.hid hok
  obtain ⟨a, b, o, c, rfl, _, _⟩ := hv
  obtain ⟨ai, bi, oi, ci, rfl, hai, hxi⟩ := hvi
  have HAI := Lib.hid hai
  have HXI := Lib.hid hxi
  have HIL : Hid (ids.length ≤ 40) := hil
  have HW0 : Hid (Below w.heap.size w w) := Below.refl _ _
  clear hvc hok hai hxi
  by_cases h1 : ids.length < Ld.needN l.length
  · have HE := Lib.hid (Ld.err_need h1)
    have h1' : (ids.length : Int) < (Ld.needN l.length : Nat) := by omega
    clear h1
    go_enter Try.func24, Try.ntmps24
    go_wp2_with (go_at_call 31; refine (HN.out _).mono ?_; rintro e w1 ⟨rfl, rfl⟩)
    go_ret2
    exact .bad (by rw [HE.out]; decide) (by rw [HE.out]; rfl) (Below.refl _ _)
  · have h1' : ¬ (ids.length : Int) < (Ld.needN l.length : Nat) := by omega
    cases hlow : Ld.low ids with
    | true =>
      have HE := Lib.hid (Ld.err_low (l := l) hlow)
      rw [hlow] at HC
      clear h1 hlow
      go_enter Try.func24, Try.ntmps24
      go_wp2_with (first
        | (go_at_call 31; refine (HN.out _).mono ?_; rintro e w1 ⟨rfl, rfl⟩)
        | (go_at_call 50; refine (HC.out _ HW0.out).mono ?_; rintro e w2 ⟨rfl, rfl⟩))
      go_ret2
      exact .bad (by rw [HE.out]; decide) (by rw [HE.out]; rfl) (Below.refl _ _)
    | false =>
      have HE := Lib.hid (Ld.err_rest h1 hlow)
      rw [hlow] at HC
      clear h1 hlow
      cases hrs : Ld.rises l with
      | false =>
        rw [hrs] at HR HE
        clear hrs
        go_enter Try.func24, Try.ntmps24
        go_wp2_with (first
          | (go_at_call 31; refine (HN.out _).mono ?_; rintro e w1 ⟨rfl, rfl⟩)
          | (go_at_call 50; refine (HC.out _ HW0.out).mono ?_; rintro e w2 ⟨rfl, rfl⟩)
          | (go_at_call 51; refine (HR.out _ HW0.out).mono ?_; rintro e w3 ⟨rfl, hb3⟩; have HB3 := Lib.hid hb3; clear hb3))
        go_ret2
        exact .bad (by rw [HE.out]; decide) (by rw [HE.out]; rfl) HB3.out
      | true =>
        rw [hrs] at HR HE
        clear hrs
        have hmk := fun W => make_framesL ids.length (by omega) W
        have HMRW := fun W => Lib.hid (made_rowL W ids.length (by omega))
        have hlz := size_madeCells zeroL (ids.length * 5)
        have HLZ : Hid ((madeCells zeroL (ids.length * 5)).toList.length = (ids.length - 0) * 5) := by show _ = _; rw [Array.length_toList, hlz]; omega
        clear hlz
        go_enter Try.func24, Try.ntmps24
        go_wp2_with (first
          | (go_at_call 31; refine (HN.out _).mono ?_; rintro e w1 ⟨rfl, rfl⟩)
          | (go_at_call 50; refine (HC.out _ HW0.out).mono ?_; rintro e w2 ⟨rfl, rfl⟩)
          | (go_at_call 51; refine (HR.out _ HW0.out).mono ?_; rintro e w3 ⟨rfl, hb3⟩; have HB3 := Lib.hid hb3; clear hb3))
        have HMR := HMRW w3
        have HB4 : Hid (Below w.heap.size w (w3.alloc (.cells (madeCells zeroL (ids.length * 5)) 60))) := HB3.out.alloc HB3.out.size _
        have HGB : Hid (w.heap.size ≤ w3.heap.size) := HB3.out.size
        clear hmk HMRW HN HC HR
        generalize (w3.alloc (.cells (madeCells zeroL (ids.length * 5)) 60)) = w4 at HMR HB4 ⊢
        generalize (madeCells zeroL (ids.length * 5)).toList = Z at HMR HLZ
        generalize w3.heap.size = g at HMR HGB ⊢
        go_loopg [10, 37] ids.length (fun n rv i wr => ∃ (fl : List Ld.Fr) (zs : List Value) (R : List En) (aR : Option Addr) (cR : Nat), fl.length ≤ ids.length ∧ n = ids.length - fl.length ∧ rv = .slice aR R.length cR ∧ i = .int .i64 fl.length ∧ Hid (R = l.drop (fl.length * 339)) ∧ Hid (Cap (.slice aR R.length cR)) ∧ Hid (SlE w (.slice aR R.length cR) R) ∧ Hid (fl = Ld.frs ids tx l fl.length) ∧ Hid (zs.length = (ids.length - fl.length) * 5) ∧ Hid (wr.ownsRow g 60 5 (.slice (some ⟨g, 0, none⟩) ids.length ids.length) ids.length (fl.flatMap cellsL ++ zs)) ∧ Hid (Below w.heap.size w wr))
        case atStart => exact ⟨[], Z, l, a, c, Nat.zero_le _, rfl, rfl, rfl, by simp [Hid], HCV.out, HSV.out, rfl, HLZ.out, HMR.out, HB4.out⟩
        case round =>
          obtain ⟨fl, zs, R, aR, cR, hk, rfl, rfl, rfl, HRD, HRC, HRS, HL, HZ, HO, HB⟩ := hrel
          by_cases hlt : fl.length < ids.length
          · obtain ⟨x, hx⟩ : ∃ x, ids[fl.length]? = some x := ⟨_, List.getElem?_eq_getElem hlt⟩
            have e0 := HXI.out fl.length x hx
            have hblt : bi < w.heap.size := World.block_lt_of_cell? _ _ e0
            have d0 := (HB.out.cell (p := ⟨bi, oi + fl.length, none⟩) hblt).trans e0
            obtain rfl : ai = some ⟨bi, oi, none⟩ := HAI.out.resolve_left (by intro h; rw [h] at hlt; cases hlt)
            have hki : (fl.length : Int) < ids.length := by omega
            have hk0 : (0 : Int) ≤ (fl.length : Int) := by omega
            have hxb : x < 4294967296 := hid x (List.mem_of_getElem? hx)
            have HXX := Lib.hid hx
            obtain ⟨q, hq⟩ : ∃ q : Nat, q = min 339 R.length := ⟨_, rfl⟩
            have hqR : q ≤ R.length := by omega
            have hq3 : q ≤ 339 := by omega
            obtain ⟨ht1, ht2⟩ := cut_to aR cR R q hqR HRC.out
            obtain ⟨a2, c2, hf1, hf2, hf3⟩ := cut_from 45 (by kernel_rfl) sizeE aR cR R q hqR HRC.out
            have hpl : (R.take q).length = q := by rw [List.length_take]; omega
            have HP : Hid (R.take q = Ld.piece l fl.length) := by
              show _ = _
              unfold Ld.piece
              rw [← HRD.out, hq]
              by_cases h9 : 339 ≤ R.length
              · rw [Nat.min_eq_left h9]
              · rw [Nat.min_eq_right (by omega), List.take_of_length_le (Nat.le_refl _), List.take_of_length_le (by omega)]
            have HD : Hid (R.drop q = l.drop ((fl.length + 1) * 339)) := by
              show _ = _
              rw [Nat.add_mul, Nat.one_mul, ← List.drop_drop, ← HRD.out, hq]
              by_cases h9 : 339 ≤ R.length
              · rw [Nat.min_eq_left h9]
              · rw [Nat.min_eq_right (by omega), List.drop_of_length_le (Nat.le_refl _), List.drop_of_length_le (by omega)]
            have HOKP : Hid (okE (R.take q)) := by
              show okE _
              rw [HRD.out]
              exact okE_take (okE_drop HOK.out _) _
            have HSP := Lib.hid (ht2 w HRS.out)
            have HS2 := Lib.hid (hf2 w HRS.out)
            have HC2 := Lib.hid hf3
            have HRL : Hid (R.length ≤ 2000) := by show _ ≤ _; rw [HRD.out, List.length_drop]; omega
            have hf1' : ∀ W, (Instr.sliceAt 45 (.slice aR R.length cR) (some (.int .i64 ((R.take q).length : Int))) none none).run Try.prog W = .ok (.slice a2 (R.drop q).length c2) W := by rw [hpl]; exact hf1
            clear hf1
            generalize hP : R.take q = P at HP HSP HOKP hpl ht1 hf1'
            generalize R.drop q = R2 at HD HS2 HC2 hf1'
            clear hP ht2 hf2 hf3 hx e0
            have HP3 : Hid (P.length ≤ 339) := by show _ ≤ _; omega
            by_cases h9 : (339 : Int) ≤ (R.length : Int)
            case' pos =>
              obtain rfl : q = 339 := by omega
              have hmin : min (339 : Int) (R.length : Int) = 339 := by omega
              have ht1' : ∀ W, (Instr.sliceAt 45 (.slice aR R.length cR) none (some (.int .i64 339)) none).run Try.prog W = .ok (.slice aR P.length cR) W := ht1
              clear ht1 hq hqR hq3 hpl h9
              go_upto_region 14 with fail
              clear hmin ht1' hf1'
            case' neg =>
              obtain rfl : q = R.length := by omega
              have hmin : min (339 : Int) (R.length : Int) = (R.length : Int) := by omega
              clear hq hqR hq3 hpl h9
              go_upto_region 14 with fail
              clear hmin ht1 hf1'
            all_goals
              by_cases hnx : (fl.length : Int) + 1 < ids.length
              case' pos =>
                obtain ⟨NN, hnn⟩ : ∃ x, ids[fl.length + 1]? = some x := ⟨_, List.getElem?_eq_getElem (by omega)⟩
                have e1 := HXI.out (fl.length + 1) NN hnn
                have d1 := (HB.out.cell (p := ⟨bi, oi + (fl.length + 1), none⟩) hblt).trans e1
                have hnb : NN < 4294967296 := hid NN (List.mem_of_getElem? hnn)
                have HNX : Hid (Ld.nxt ids fl.length = NN) := by show Ld.nxt ids fl.length = NN; unfold Ld.nxt; rw [hnn]
                have hw3' : IntKind.i64.wrap ((fl.length : Int) + 1) = (fl.length : Int) + 1 := IntWalk.i64_in _ (by omega)
                have hk2 : (0 : Int) ≤ (fl.length : Int) + 1 := by omega
                have hk33 : ((fl.length : Int) + 1).toNat = fl.length + 1 := by omega
                have HBODY := Lib.hid (fun W (hW : Below w.heap.size w W) => ldBody_any NN hnb (.slice aR P.length cR) P HP3.out HOKP.out W (HSP.out.below hW))
                have HFR : Hid (Ld.frAt ids tx l fl.length x = ⟨P.length, x, tx, Oc.big 4 NN ++ Ld.bytes P⟩) := by
                  show _ = _
                  unfold Ld.frAt
                  rw [HNX.out, HP.out]
                clear e1 hnn d0
                go_upto_region 16 with fail
                clear hw3' hk2 hk33 d1
              case' neg =>
                obtain ⟨NN, hNN⟩ : ∃ x : Nat, x = 0 := ⟨0, rfl⟩
                have hnb : NN < 4294967296 := by omega
                have HNX : Hid (Ld.nxt ids fl.length = NN) := by show Ld.nxt ids fl.length = NN; unfold Ld.nxt; rw [List.getElem?_eq_none (by omega), hNN]
                have HBODY := Lib.hid (fun W (hW : Below w.heap.size w W) => ldBody_any NN hnb (.slice aR P.length cR) P HP3.out HOKP.out W (HSP.out.below hW))
                have hw3' : IntKind.i64.wrap ((fl.length : Int) + 1) = (fl.length : Int) + 1 := IntWalk.i64_in _ (by omega)
                have HFR : Hid (Ld.frAt ids tx l fl.length x = ⟨P.length, x, tx, Oc.big 4 NN ++ Ld.bytes P⟩) := by
                  show _ = _
                  unfold Ld.frAt
                  rw [HNX.out, HP.out]
                subst hNN
                clear d0
                go_upto_region 16 with fail
                clear hw3'
              all_goals
                have hp3 := HP3.out
                have hw16 : IntKind.u16.wrap (P.length : Int) = (P.length : Int) := by rw [IntKind.wrap_u16]; omega
                go_wp2_with (go_at_call 52; refine (HBODY.out _ HB.out).mono ?_; rintro e w5 ⟨rfl, hb5⟩; have HR5 := Lib.hid (ownsRow_below HO.out hb5); have HB5 := Lib.hid (HB.out.trans (hb5.mono HB.out.size)); clear hb5; obtain ⟨⟨z0, z1, z2, z3, z4, ck0, ck1, ck2, ck3, ck4⟩, fz0, fz1, fz2, fz3, fz4⟩ := rowL_open HR5.out HZ.out hlt; obtain ⟨zt, hzt, HO7⟩ := storedL HR5.out HZ.out hlt (Ld.frAt ids tx l fl.length x); have HZT := Lib.hid hzt; rw [HFR.out] at HO7; have HO8 := Lib.hid HO7; clear hzt HO7)
                go_roundg (ids.length - (fl.length + 1))
                case measure => omega
                case rel =>
                  have HLX := HL.out
                  refine ⟨fl ++ [Ld.frAt ids tx l fl.length x], zt, R2, a2, c2, by rw [List.length_append]; exact hlt, by rw [List.length_append]; rfl, rfl, by rw [List.length_append]; go_num, ?_, HC2.out, HS2.out, ?_, ?_, ?_, ?_⟩
                  · show _ = _
                    rw [List.length_append]; exact HD.out
                  · show _ = _
                    rw [List.length_append, show fl.length + [Ld.frAt ids tx l fl.length x].length = fl.length + 1 from rfl, Ld.frs_snoc ids tx l fl.length x HXX.out, ← HLX]
                  · show _ = _
                    rw [List.length_append]; exact HZT.out
                  · show World.ownsRow _ _ _ _ _ _ _
                    rw [HFR.out]
                    exact HO8.out
                  · exact ((((HB5.out.setCell HGB.out _).setCell HGB.out _).setCell HGB.out _).setCell HGB.out _).setCell HGB.out _
          · have hkk : fl.length = ids.length := by omega
            have hcap := ownsRow_cap HO.out
            have HRR : Hid (RowL 60 wr w.heap.size (.slice (some ⟨g, 0, none⟩) ids.length ids.length) (Ld.frs ids tx l ids.length)) := by
              have hl2 := HL.out
              rw [hkk] at hl2
              have h := ownsRow_base HO.out HGB.out
              have hz0 : zs = [] := List.length_eq_zero_iff.1 (by rw [HZ.out, hkk]; omega)
              rw [hz0, List.append_nil] at h
              show World.ownsRow _ _ _ _ _ _ _
              rw [← hl2, hkk]
              exact h
            clear hkk
            go_wp2
            go_ret2
            exact .ok _ HE.out rfl HRR.out HB.out
end Go.Proofs.Ytgckaecjjoghbaa
/- The contract of whether entries rise, the document's. -/
namespace Go.Proofs.Ytgckaecjjoghbaa
open Go.RowKit
open Ld (En)
set_option maxHeartbeats 2000000 in
theorem lRises_any (v : Value) (l : List En) (hl : l.length ≤ 100000) (w : World) (hv : SlE w v l) :
    Calls Try.prog 53 #[v] w fun e w' => e = .returned (.bool (Ld.rises l)) ∧ Below w.heap.size w w' := by
  obtain ⟨a, b, o, c, rfl, ha, hx⟩ := hv
  have HX := Lib.hid hx
  have HA := Lib.hid ha
  clear ha hx
  go_enter Try.func53, Try.ntmps53
  go_wp2
  go_loopg [3] l.length (fun n i wr => ∃ k : Nat, k ≤ l.length ∧ n = l.length - k ∧ i = .int .i64 ((k : Int) + 1) ∧ Hid (∀ (j : Nat) x y, j < k → l[j]? = some x → l[j + 1]? = some y → Ld.ahead x y = true) ∧ Hid (Below w.heap.size w wr))
  case atStart => exact ⟨0, Nat.zero_le _, rfl, rfl, fun j x y h => absurd h (Nat.not_lt_zero j), Below.refl _ _⟩
  case round =>
    obtain ⟨k, hk, rfl, rfl, HK, HB⟩ := hrel
    by_cases hlt : k + 1 < l.length
    · obtain ⟨x, hx⟩ := some_at (show k < l.length by omega)
      obtain ⟨y, hy⟩ := some_at hlt
      obtain ⟨e0, e1⟩ := HX.out k x hx
      obtain ⟨e2, e3⟩ := HX.out (k + 1) y hy
      have hblt : b < w.heap.size := World.block_lt_of_cell? _ _ e0
      have d0 := (HB.out.cell (p := ⟨b, o + k * 2, none⟩) hblt).trans e0
      have d1 := (HB.out.cell (p := ⟨b, o + k * 2 + 1, none⟩) hblt).trans e1
      have d2 := (HB.out.cell (p := ⟨b, o + (k + 1) * 2, none⟩) hblt).trans e2
      have d3 := (HB.out.cell (p := ⟨b, o + (k + 1) * 2 + 1, none⟩) hblt).trans e3
      obtain rfl : a = some ⟨b, o, none⟩ := HA.out.resolve_left (by intro h; rw [h] at hlt; cases hlt)
      have hi : (k : Int) + 1 < (l.length : Int) := by omega
      have hi0 : (k : Int) < (l.length : Int) := by omega
      have hk0 : (0 : Int) ≤ (k : Int) := by omega
      have hk1 : (0 : Int) ≤ (k : Int) + 1 := by omega
      have hw1 : IntKind.i64.wrap ((k : Int) + 1 - 1) = (k : Int) := by rw [show (k : Int) + 1 - 1 = k by omega]; exact IntWalk.i64_in _ (by omega)
      have hw0 : IntKind.i64.wrap (k : Int) = (k : Int) := IntWalk.i64_in _ (by omega)
      have ht1 : ((k : Int) + 1).toNat = k + 1 := by omega
      have HC := Lib.hid (fun W => lAhead_any x y W)
      have HXX := Lib.hid hx
      have HYY := Lib.hid hy
      clear e0 e1 e2 e3 hblt hx hy
      cases hah : Ld.ahead x y with
      | false =>
        have HR := Lib.hid (Ld.not_rises l k x y HXX.out HYY.out hah)
        rw [hah] at HC
        clear hah
        go_upto_region 4 with fail
        have HBd := Lib.hid HB.out.drew
        go_region_with (go_at_call 75; refine (HC.out _).mono ?_; rintro e w4 ⟨rfl, hb4⟩; have HB4 := Lib.hid (HBd.out.trans (hb4.mono HBd.out.size)); clear hb4)
        all_goals
          go_wp2
          go_ret
          exact ⟨by rw [HR.out]; rfl, HB4.out⟩
      | true =>
        have HK2 := Lib.hid (rise_step HK.out HXX.out HYY.out hah)
        rw [hah] at HC
        clear hah
        go_upto_region 4 with fail
        have HBd := Lib.hid HB.out.drew
        go_region_with (go_at_call 75; refine (HC.out _).mono ?_; rintro e w4 ⟨rfl, hb4⟩; have HB4 := Lib.hid (HBd.out.trans (hb4.mono HBd.out.size)); clear hb4)
        all_goals
          go_wp2
          go_roundg (l.length - (k + 1))
          case measure => omega
          case rel => exact ⟨k + 1, by omega, rfl, by go_num, HK2, HB4⟩
    · have HR := Lib.hid (rise_end HK.out (by omega))
      go_wp2
      go_ret
      exact ⟨by rw [HR.out]; rfl, HB.out⟩
end Go.Proofs.Ytgckaecjjoghbaa
/- The contract of the document's Frames of a ledger. -/
namespace Go.Proofs.Ytgckaecjjoghbaa
open Go.RowKit
open Ld (En)
/-- A frame's box while it is filled. -/
structure FB (w0 : World) (q m x tx : Nat) (s : List UInt8) (w : World) : Prop where
  c0 : w.cell? ⟨q, 0, none⟩ = some (.int .u8 5)
  c1 : w.cell? ⟨q, 1, none⟩ = some (.int .u16 m)
  c2 : w.cell? ⟨q, 2, none⟩ = some (.int .u32 x)
  c3 : w.cell? ⟨q, 3, none⟩ = some (.int .u64 tx)
  c4 : w.cell? ⟨q, 4, none⟩ = some (.string (str s))
  f : ∀ i, w.frozen? ⟨q, i, none⟩ = false
  lo : w0.heap.size ≤ q
  below : Below w0.heap.size w0 w
theorem FB.lt {w0 w : World} {q m x tx : Nat} {s : List UInt8} (h : FB w0 q m x tx s w) : q < w.heap.size := World.block_lt_of_cell? _ _ h.c0
theorem FB.step {w0 w w' : World} {q m x tx : Nat} {s : List UInt8} (h : FB w0 q m x tx s w) (hb : Below w.heap.size w w') : FB w0 q m x tx s w' :=
  ⟨(hb.cell (p := ⟨q, 0, none⟩) h.lt).trans h.c0, (hb.cell (p := ⟨q, 1, none⟩) h.lt).trans h.c1, (hb.cell (p := ⟨q, 2, none⟩) h.lt).trans h.c2, (hb.cell (p := ⟨q, 3, none⟩) h.lt).trans h.c3, (hb.cell (p := ⟨q, 4, none⟩) h.lt).trans h.c4, fun i => (hb.frozen (p := ⟨q, i, none⟩) h.lt).trans (h.f i), h.lo, h.below.trans (hb.mono h.below.size)⟩
theorem FB.drew {w0 w : World} {q m x tx : Nat} {s : List UInt8} (h : FB w0 q m x tx s w) : FB w0 q m x tx s w.drew := h.step (Below.refl _ _).drew
theorem FB.new (w0 : World) (m x tx : Nat) (s : List UInt8) : FB w0 w0.heap.size m x tx s (w0.alloc (.cells #[.int .u8 5, .int .u16 m, .int .u32 x, .int .u64 tx, .string (str s)] 59)) :=
  ⟨World.cell?_alloc_new _ _ _ 0, World.cell?_alloc_new _ _ _ 1, World.cell?_alloc_new _ _ _ 2, World.cell?_alloc_new _ _ _ 3, World.cell?_alloc_new _ _ _ 4, fun i => by simp, Nat.le_refl _, (Below.refl _ _).alloc (Nat.le_refl _) _⟩
theorem FB.set4 {w0 w : World} {q m x tx : Nat} {s : List UInt8} (h : FB w0 q m x tx s w) (s' : List UInt8) : FB w0 q m x tx s' (w.setCell ⟨q, 4, none⟩ (.string (str s'))) :=
  ⟨by rw [World.cell?_setCell_other _ _ _ _ (by simp)]; exact h.c0, by rw [World.cell?_setCell_other _ _ _ _ (by simp)]; exact h.c1, by rw [World.cell?_setCell_other _ _ _ _ (by simp)]; exact h.c2, by rw [World.cell?_setCell_other _ _ _ _ (by simp)]; exact h.c3, World.cell?_setCell_same' _ _ _ (by rw [h.c4]; rfl), fun i => by rw [World.frozen?_setCell]; exact h.f i, h.lo, h.below.setCell (p := ⟨q, 4, none⟩) h.lo _⟩
theorem FB.set1 {w0 w : World} {q m x tx : Nat} {s : List UInt8} (h : FB w0 q m x tx s w) (m' : Nat) : FB w0 q m' x tx s (w.setCell ⟨q, 1, none⟩ (.int .u16 m')) :=
  ⟨by rw [World.cell?_setCell_other _ _ _ _ (by simp)]; exact h.c0, World.cell?_setCell_same' _ _ _ (by rw [h.c1]; rfl), by rw [World.cell?_setCell_other _ _ _ _ (by simp)]; exact h.c2, by rw [World.cell?_setCell_other _ _ _ _ (by simp)]; exact h.c3, by rw [World.cell?_setCell_other _ _ _ _ (by simp)]; exact h.c4, fun i => by rw [World.frozen?_setCell]; exact h.f i, h.lo, h.below.setCell (p := ⟨q, 1, none⟩) h.lo _⟩
theorem fiveL (W : World) (T : TypeId) (a0 a1 a2 a3 a4 : Value) : ∀ j u, ([a0, a1, a2, a3, a4] : List Value)[j]? = some u → (W.alloc (.cells #[a0, a1, a2, a3, a4] T)).cell? ((⟨W.heap.size, 0, none⟩ : Addr).add j) = some u := by
  intro j u hj
  rw [add_plain', Nat.zero_add, World.cell?_alloc_new]
  simpa using hj
/-- A frame's box and an entry's cells. -/
structure FE (w0 : World) (q m x tx : Nat) (s : List UInt8) (p0 p1 : Addr) (x0 x1 : Value) (w : World) : Prop where
  fb : FB w0 q m x tx s w
  e0 : w.cell? p0 = some x0
  e1 : w.cell? p1 = some x1
theorem FE.step {w0 w w' : World} {q m x tx : Nat} {s : List UInt8} {p0 p1 : Addr} {x0 x1 : Value} (h : FE w0 q m x tx s p0 p1 x0 x1 w) (hb : Below w.heap.size w w') : FE w0 q m x tx s p0 p1 x0 x1 w' :=
  ⟨h.fb.step hb, (hb.cell (World.block_lt_of_cell? _ _ h.e0)).trans h.e0, (hb.cell (World.block_lt_of_cell? _ _ h.e1)).trans h.e1⟩
theorem low_some {ids : List Nat} {k x : Nat} (h : ids[k]? = some x) (hx : (x : Int) < 2) : Ld.low ids = true := List.any_eq_true.2 ⟨x, List.mem_of_getElem? h, by simpa using hx⟩
set_option maxHeartbeats 16000000 in
theorem lFrames_any (v vi : Value) (l : List En) (ids : List Nat) (tx : Nat) (hl : l.length ≤ 2000) (hil : ids.length ≤ 40) (hid : ∀ x ∈ ids, x < 4294967296) (hok : okE l) (w : World) (hv : SlE w v l) (hvc : Cap v) (hvi : SlN w vi ids) :
    Calls Try.prog 25 #[v, vi, .int .u64 tx] w (LdOut 59 ids tx l w) := by
  obtain ⟨i0, hi, hz0, hz1, hz2⟩ := info_parts infoRL
  have HN := Lib.hid (fun W => lNeed_any (l.length : Int) (by omega) (by omega) W)
  rw [Ld.need_nat] at HN
  have HR := Lib.hid (fun W (hW : Below w.heap.size w W) => lRises_any v l (by omega) W (hv.below hW))
  have HSV := Lib.hid hv
  have HCV := Lib.hid hvc
  have HOK := Lib.hid hok
  obtain ⟨a, b, o, c, rfl, _, _⟩ := hv
  obtain ⟨ai, bi, oi, ci, rfl, hai, hxi⟩ := hvi
  have HAI := Lib.hid hai
  have HXI := Lib.hid hxi
  have HW0 : Hid (Below w.heap.size w w) := Below.refl _ _
  clear hvc hok hai hxi
  by_cases h1 : ids.length < Ld.needN l.length
  · have HE := Lib.hid (Ld.err_need h1)
    have h1' : (ids.length : Int) < (Ld.needN l.length : Nat) := by omega
    clear h1
    go_enter Try.func25, Try.ntmps25
    go_wp2_with (go_at_call 32; refine (HN.out _).mono ?_; rintro e w1 ⟨rfl, rfl⟩)
    go_ret2
    exact .bad (by rw [HE.out]; decide) (by rw [HE.out]; rfl) (Below.refl _ _)
  · have h1' : ¬ (ids.length : Int) < (Ld.needN l.length : Nat) := by omega
    have HH1 := Lib.hid h1
    have hdf : decide (ids.length < Ld.needN l.length) = false := decide_eq_false h1
    go_enter Try.func25, Try.ntmps25
    go_wp2_with (go_at_call 32; refine (HN.out _).mono ?_; rintro e w1 ⟨rfl, rfl⟩)
    try rw [hdf]
    clear h1 h1' hdf
    go_loopg [23] ids.length (fun n i wr => ∃ k : Nat, k ≤ ids.length ∧ n = ids.length - k ∧ i = .int .i64 k ∧ Hid (Ld.low (ids.take k) = false) ∧ w = wr)
    case atStart => exact ⟨0, Nat.zero_le _, rfl, rfl, Lib.hid rfl, rfl⟩
    case round =>
      obtain ⟨k, hk, rfl, rfl, HLO, rfl⟩ := hrel
      by_cases hlt : k < ids.length
      · obtain ⟨x, hx⟩ := has_of hlt
        have d0 := HXI.out k x hx
        obtain rfl : ai = some ⟨bi, oi, none⟩ := HAI.out.resolve_left (by intro h; rw [h] at hlt; cases hlt)
        by_cases hp : (x : Int) < 2
        · have HE := Lib.hid (Ld.err_low (l := l) (low_some hx hp))
          clear hx
          go_wp2
          go_ret2
          exact .bad (by rw [HE.out]; decide) (by rw [HE.out]; rfl) (Below.refl _ _)
        · have HS := Lib.hid (low_snocN ids k x hx)
          have HD : Hid (decide ((x : Int) < 2) = false) := decide_eq_false hp
          clear hx
          go_wp2
          go_roundg (ids.length - (k + 1))
          case measure => omega
          case rel => exact ⟨k + 1, hlt, rfl, by go_num, by show _ = _; rw [HS.out, HLO.out, HD.out]; rfl, rfl⟩
      · have hlow : Ld.low ids = false := by
          have h := HLO.out
          rw [List.take_of_length_le (by omega)] at h
          exact h
        have HE := Lib.hid (Ld.err_rest HH1.out hlow)
        clear hlow HLO
        cases hrs : Ld.rises l with
        | false =>
          rw [hrs] at HR HE
          clear hrs
          go_wp2_with (go_at_call 53; refine (HR.out _ HW0.out).mono ?_; rintro e w3 ⟨rfl, hb3⟩; have HB3 := Lib.hid hb3; clear hb3)
          go_ret2
          exact .bad (by rw [HE.out]; decide) (by rw [HE.out]; rfl) HB3.out
        | true =>
          rw [hrs] at HR HE
          clear hrs
          go_wp2_with (go_at_call 53; refine (HR.out _ HW0.out).mono ?_; rintro e w3 ⟨rfl, hb3⟩; have HB3 := Lib.hid hb3; clear hb3)
          clear hlt hk
          go_loopg [0, 10, 35] ids.length (fun n rv ov i wr => ∃ (fl : List Ld.Fr) (u : Value) (R : List En) (aR : Option Addr) (cR : Nat), fl.length ≤ ids.length ∧ n = ids.length - fl.length ∧ rv = .slice aR R.length cR ∧ u = ov ∧ i = .int .i64 fl.length ∧ Hid (R = l.drop (fl.length * 339)) ∧ Hid (Cap (.slice aR R.length cR)) ∧ Hid (SlE w (.slice aR R.length cR) R) ∧ Hid (fl = Ld.frs ids tx l fl.length) ∧ Hid (RowL 59 wr w.heap.size u fl) ∧ Hid (Below w.heap.size w wr))
          case atStart => exact ⟨[], _, l, a, c, Nat.zero_le _, rfl, rfl, rfl, rfl, by simp [Hid], HCV.out, HSV.out, rfl, World.ownsRow_nil _ _ _ _, HB3.out⟩
          case round =>
            obtain ⟨fl, u, R, aR, cR, hk, rfl, rfl, rfl, rfl, HRD, HRC, HRS, HL, HO, HB⟩ := hrel
            by_cases hlt : fl.length < ids.length
            · obtain ⟨x, hx⟩ : ∃ x, ids[fl.length]? = some x := ⟨_, List.getElem?_eq_getElem hlt⟩
              have e0 := HXI.out fl.length x hx
              have hblt : bi < w.heap.size := World.block_lt_of_cell? _ _ e0
              have d0 := (HB.out.cell (p := ⟨bi, oi + fl.length, none⟩) hblt).trans e0
              obtain rfl : ai = some ⟨bi, oi, none⟩ := HAI.out.resolve_left (by intro h; rw [h] at hlt; cases hlt)
              have hki : (fl.length : Int) < ids.length := by omega
              have hk0 : (0 : Int) ≤ (fl.length : Int) := by omega
              have hxb : x < 4294967296 := hid x (List.mem_of_getElem? hx)
              have HXX := Lib.hid hx
              clear e0 hx
              have hw3' : IntKind.i64.wrap ((fl.length : Int) + 1) = (fl.length : Int) + 1 := IntWalk.i64_in _ (by omega)
              go_upto_if 44 with fail
              go_cut [13] from 36 to 90 (fun s wx => s = .int .u64 (Ld.nxt ids fl.length : Nat) ∧ wx = wr)
              case first =>
                by_cases hnx : (fl.length : Int) + 1 < ids.length
                · obtain ⟨NN, hnn⟩ : ∃ x, ids[fl.length + 1]? = some x := ⟨_, List.getElem?_eq_getElem (by omega)⟩
                  have e1 := HXI.out (fl.length + 1) NN hnn
                  have d1 := (HB.out.cell (p := ⟨bi, oi + (fl.length + 1), none⟩) hblt).trans e1
                  have hnb : NN < 4294967296 := hid NN (List.mem_of_getElem? hnn)
                  have HNX : Hid (Ld.nxt ids fl.length = NN) := by show Ld.nxt ids fl.length = NN; unfold Ld.nxt; rw [hnn]
                  have hk2 : (0 : Int) ≤ (fl.length : Int) + 1 := by omega
                  have hk33 : ((fl.length : Int) + 1).toNat = fl.length + 1 := by omega
                  have hw64 : IntKind.u64.wrap (NN : Int) = (NN : Int) := by rw [IntKind.wrap_u64]; omega
                  clear e1 hnn d0
                  go_wp2_with fail
                  go_meet
                  exact ⟨by rw [HNX.out], rfl⟩
                · have HNX : Hid (Ld.nxt ids fl.length = 0) := by show Ld.nxt ids fl.length = 0; unfold Ld.nxt; rw [List.getElem?_eq_none (by omega)]
                  clear d0
                  go_wp2_with fail
                  go_meet
                  exact ⟨by rw [HNX.out]; rfl, rfl⟩
              case rest =>
                obtain ⟨rfl, rfl⟩ := hcut
                have hnb : Ld.nxt ids fl.length < 4294967296 := by
                  unfold Ld.nxt
                  split
                  · exact hid _ (List.mem_of_getElem? ‹_›)
                  · decide
                have HNX : Hid (Ld.frAt ids tx l fl.length x = ⟨(Ld.piece l fl.length).length, x, tx, Oc.big 4 (Ld.nxt ids fl.length) ++ Ld.bytes (Ld.piece l fl.length)⟩) := rfl
                generalize Ld.nxt ids fl.length = NN at hnb HNX ⊢
                have HBIG := Lib.hid (fun W => big_any (NN : Int) NN 4 rfl (by omega) (by decide) (by decide) W)
                clear d0 hw3'
                go_wp2_with (go_at_call 54; refine (HBIG.out _).mono ?_; rintro e w5 ⟨rfl, hb5⟩; have HB5 := Lib.hid (HB.out.trans (hb5.mono HB.out.size)); have HO5 := Lib.hid (RowL.below HO.out hb5); clear hb5)
                have HF0 := Lib.hid (FB.new w5 0 x tx (Oc.big 4 NN))
                clear HO HB HBIG
                generalize (w5.alloc (.cells #[.int .u8 5, .int .u16 (0 : Nat), .int .u32 x, .int .u64 tx, .string (str (Oc.big 4 NN))] 59)) = W6 at HF0 ⊢
                generalize w5.heap.size = q at HF0 ⊢
                go_loopg [0] R.length (fun n sv wi => ∃ (m : Nat) (R2 : List En) (a2 : Option Addr) (c2 : Nat), m ≤ R.length ∧ m ≤ 339 ∧ n = R.length - m ∧ sv = .slice a2 R2.length c2 ∧ Hid (R2 = R.drop m) ∧ Hid (Cap (.slice a2 R2.length c2)) ∧ Hid (SlE w (.slice a2 R2.length c2) R2) ∧ Hid (FB w5 q m x tx (Oc.big 4 NN ++ Ld.bytes (R.take m)) wi))
                case atStart => exact ⟨0, R, aR, cR, Nat.zero_le _, Nat.zero_le _, rfl, rfl, rfl, HRC.out, HRS.out, by show FB _ _ _ _ _ _ _; rw [List.take_zero, show Ld.bytes [] = [] from rfl, List.append_nil]; exact HF0.out⟩
                case round =>
                  obtain ⟨m, R2, a2, c2, hmR, hm3, rfl, rfl, HR2, HC2, HS2, HF⟩ := hrel
                  have HRL : Hid (R2.length = R.length - m) := by show _ = _; rw [HR2.out, List.length_drop]
                  by_cases hgo : 0 < R2.length ∧ m < 339
                  · obtain ⟨hg1, hg2⟩ := hgo
                    obtain ⟨y, hy⟩ := some_at hg1
                    have HSS := Lib.hid HS2.out
                    obtain ⟨ab, bb, ob, cb, hvv, haa, hxx⟩ := HS2.out
                    simp only [Value.slice.injEq] at hvv
                    obtain ⟨rfl, _, rfl⟩ := hvv
                    obtain rfl : a2 = some ⟨bb, ob, none⟩ := haa.resolve_left (by intro h; rw [h] at hg1; cases hg1)
                    obtain ⟨f0, f1⟩ := hxx 0 y hy
                    rw [Nat.zero_mul, Nat.add_zero] at f0 f1
                    have hblb : bb < w.heap.size := World.block_lt_of_cell? _ _ f0
                    have HBi := Lib.hid (HB5.out.trans (HF.out.below.mono HB5.out.size))
                    have HFE : Hid (FE w5 q m x tx (Oc.big 4 NN ++ Ld.bytes (R.take m)) ⟨bb, ob, none⟩ ⟨bb, ob + 1, none⟩ (.int .u64 y.tx) (.int .u32 y.page) wr.drew) :=
                      ⟨HF.out.drew, (HBi.out.drew.cell (p := ⟨bb, ob, none⟩) hblb).trans f0, (HBi.out.drew.cell (p := ⟨bb, ob + 1, none⟩) hblb).trans f1⟩
                    have hym : y ∈ l := by
                      have h1 := List.mem_of_getElem? hy
                      rw [HR2.out, HRD.out] at h1
                      exact List.mem_of_mem_drop (List.mem_of_mem_drop h1)
                    obtain ⟨hy1, hy2⟩ := HOK.out y hym
                    have HE8 : Hid (∀ W, Calls Try.prog 54 #[.int .u64 (y.tx : Nat), .int .i64 8] W fun e w' => e = .returned (.string (str (Oc.big 8 y.tx))) ∧ Below W.heap.size W w') := fun W => big_any (y.tx : Int) y.tx 8 rfl hy1 (by decide) (by decide) W
                    have HE4 : Hid (∀ W, Calls Try.prog 54 #[.int .u64 (y.page : Nat), .int .i64 4] W fun e w' => e = .returned (.string (str (Oc.big 4 y.page))) ∧ Below W.heap.size W w') := fun W => big_any (y.page : Int) y.page 4 rfl (by omega) (by decide) (by decide) W
                    have hwp : IntKind.u64.wrap (y.page : Int) = (y.page : Int) := by rw [IntKind.wrap_u64]; omega
                    obtain ⟨a3, c3, hf1, hf2, hf3⟩ := cut_from 56 (by kernel_rfl) sizeRE (some ⟨bb, ob, none⟩) c2 R2 1 hg1 HC2.out
                    have hf1' : ∀ W, (Instr.sliceAt 56 (.slice (some ⟨bb, ob, none⟩) R2.length c2) (some (.int .i64 1)) none none).run Try.prog W = .ok (.slice a3 (R2.drop 1).length c3) W := hf1
                    have HSS3 := Lib.hid (hf2 w HSS.out)
                    have HC3 := Lib.hid hf3
                    have HYR : Hid (R[m]? = some y) := by
                      show _ = _
                      rw [HR2.out, List.getElem?_drop] at hy
                      exact hy
                    have HBT : Hid (Oc.big 4 NN ++ Ld.bytes (R.take (m + 1)) = (Oc.big 4 NN ++ Ld.bytes (R.take m)) ++ (Oc.big 8 y.tx ++ Oc.big 4 y.page)) := by
                      show _ = _
                      rw [bytes_take HYR.out, List.append_assoc]
                    have hSL : (Oc.big 4 NN ++ Ld.bytes (R.take m)).length ≤ 5000 := by
                      rw [List.length_append, Ld.bytes_len, List.length_take, Oc.big_length]; omega
                    have HR3 : Hid (R2.drop 1 = R.drop (m + 1)) := by show _ = _; rw [HR2.out, List.drop_drop]
                    have hlr : m + 1 ≤ R.length := by have := HRL.out; omega
                    have hm4 : m + 1 ≤ 339 := hg2
                    clear hf1 hf2 hf3 hxx haa f0 f1 hym hy
                    generalize Oc.big 4 NN ++ Ld.bytes (R.take m) = S at HF HFE HBT hSL
                    generalize R2.drop 1 = R3 at hf1' HSS3 HC3 HR3
                    obtain ⟨yt, yp⟩ := y
                    have hz8 := big_size 8 yt
                    have hz4 := big_size 4 yp
                    have hzs := str_size S
                    have hzz1 : ¬ 9223372036854775807 < S.length + 8 := by omega
                    have hzz2 : ¬ 9223372036854775807 < S.length + 8 + 4 := by omega
                    have q1 := HF.out.c1
                    have hm3' : (m : Int) < 339 := by omega
                    have hg1' : (0 : Int) < (R2.length : Int) := by omega
                    go_upto_region 20 with fail
                    have r4 := HFE.out.fb.c4
                    have r0 := HFE.out.e0
                    have r1 := HFE.out.e1
                    clear q1
                    have hqb : bb ≠ q := by have := HF.out.lo; have := HB5.out.size; omega
                    have hn0 : (⟨q, 4, none⟩ : Addr) ≠ ⟨bb, ob, none⟩ := fun h => hqb (by cases h; rfl)
                    have hn1 : (⟨q, 4, none⟩ : Addr) ≠ ⟨bb, ob + 1, none⟩ := fun h => hqb (by cases h; rfl)
                    have HFIN : Hid (str S ++ str (Oc.big 8 yt) ++ str (Oc.big 4 yp) = str (S ++ (Oc.big 8 yt ++ Oc.big 4 yp))) := by show _ = _; rw [str_append, str_append, List.append_assoc]
                    go_cut [] from 56 to 85 (fun wx => Hid (FB w5 q m x tx (S ++ (Oc.big 8 yt ++ Oc.big 4 yp)) wx))
                    case first =>
                      go_region_with (first
                        | (go_at_call 54; (with_reducible refine (HE8.out _).mono ?_); rintro e w7 ⟨rfl, hb7⟩; (first | (have HS7 := Lib.hid (HS8.out.step hb7)) | (have HS7 := Lib.hid (HFE.out.step hb7))); clear hb7; have r74 := HS7.out.fb.c4; have r70 := HS7.out.e0; have r71 := HS7.out.e1; have rf7 := HS7.out.fb.f 4)
                        | (go_at_call 54; (with_reducible refine (HE4.out _).mono ?_); rintro e w8 ⟨rfl, hb8⟩; (first | (have HS8 := Lib.hid (HS7.out.step hb8)) | (have HS8 := Lib.hid (HFE.out.step hb8))); clear hb8; have r84 := HS8.out.fb.c4; have r80 := HS8.out.e0; have r81 := HS8.out.e1; have rf8 := HS8.out.fb.f 4))
                      all_goals
                        go_wp2_with fail
                        go_meet
                        rw [HFIN.out]
                        first
                        | exact HS8.out.fb.set4 _
                        | exact HS7.out.fb.set4 _
                    case rest =>
                      have HF2 : Hid (FB w5 q m x tx (S ++ (Oc.big 8 yt ++ Oc.big 4 yp)) wc) := hcut
                      have q1 := HF2.out.c1
                      have qf1 := HF2.out.f 1
                      have hw16 : IntKind.u16.wrap ((m : Int) + 1) = (m : Int) + 1 := by rw [IntKind.wrap_u16]; omega
                      clear HFE HF hg1' r0 r1 r4
                      go_wp2
                      go_roundg (R.length - (m + 1))
                      case measure => omega
                      case rel =>
                        refine ⟨m + 1, R3, a3, c3, hlr, hm4, rfl, rfl, HR3.out, HC3.out, HSS3.out, ?_⟩
                        show FB _ _ _ _ _ _ _
                        rw [HBT.out]
                        exact HF2.out.set1 (m + 1)
                  · have hmm : m = min 339 R.length := by have := HRL.out; omega
                    have HTK : Hid (R.take m = Ld.piece l fl.length) := by
                      show _ = _
                      unfold Ld.piece
                      rw [← HRD.out, hmm]
                      by_cases h9 : 339 ≤ R.length
                      · rw [Nat.min_eq_left h9]
                      · rw [Nat.min_eq_right (by omega), List.take_of_length_le (Nat.le_refl _), List.take_of_length_le (by omega)]
                    have HD : Hid (R2 = l.drop ((fl.length + 1) * 339)) := by
                      show _ = _
                      rw [HR2.out, Nat.add_mul, Nat.one_mul, ← List.drop_drop, ← HRD.out, hmm]
                      by_cases h9 : 339 ≤ R.length
                      · rw [Nat.min_eq_left h9]
                      · rw [Nat.min_eq_right (by omega), List.drop_of_length_le (Nat.le_refl _), List.drop_of_length_le (by omega)]
                    have HPM : Hid ((Ld.piece l fl.length).length = m) := by
                      show _ = _
                      rw [← HTK.out, List.length_take]; omega
                    have HBOX : Hid ([Value.int .u8 5, .int .u16 (m : Nat), .int .u32 x, .int .u64 tx, .string (str (Oc.big 4 NN ++ Ld.bytes (R.take m)))] = cellsL (Ld.frAt ids tx l fl.length x)) := by
                      show _ = _
                      rw [HNX.out, HPM.out, HTK.out]; rfl
                    have HFF := Lib.hid HF.out
                    have HOW := Lib.hid (RowL.below HO5.out HF.out.below)
                    have HBW := Lib.hid (HB5.out.trans (HF.out.below.mono HB5.out.size))
                    generalize Oc.big 4 NN ++ Ld.bytes (R.take m) = S at HFF HBOX
                    have q0 := HFF.out.c0
                    have q1 := HFF.out.c1
                    have q2 := HFF.out.c2
                    have q3 := HFF.out.c3
                    have q4 := HFF.out.c4
                    have hbs := HBW.out.size
                    have hfl : fl.length ≤ 100 := by omega
                    have hgo2 : R2.length = 0 ∨ m = 339 := by omega
                    clear HF hgo hmm HTK HPM HRL
                    by_cases hr0 : R2.length = 0
                    case' pos =>
                      have hr0' : ¬ (0 : Int) < (R2.length : Int) := by omega
                      clear hr0 hgo2
                    case' neg =>
                      have hr0' : (0 : Int) < (R2.length : Int) := by omega
                      have hm339 : ¬ (m : Int) < 339 := by omega
                    all_goals
                      go_wp2_with (at_builtin; refine wpList_append_own _ rfl _ _ 53 rfl w.heap.size 59 i0 _ 5 32 Try.underlying53 hi hz0 hz1 hz2 rfl (by decide) _ fl.length _ rfl (HOW.out.alloc _) ⟨wr.heap.size, 0, none⟩ 1 1 [.int .u8 5, .int .u16 (m : Nat), .int .u32 x, .int .u64 tx, .string (str S)] rfl rfl ?p1 ?p2 ?p3 ?p4 ?p5 ?_)
                      try (case p1 => exact fiveL _ _ _ _ _ _ _)
                      case p2 =>
                        first
                        | rfl
                        | (intro u hu; simp at hu; rcases hu with rfl | rfl | rfl | rfl | rfl <;> rfl)
                        | (simp [Value.oneCell'])
                      case p3 => unfold maxLen; omega
                      case p4 => omega
                      case p5 => first | omega | (simp; omega)
                      intro v' w9 hown' hgrow _
                      have HO9 : Hid (RowL 59 w9 w.heap.size v' (fl ++ [Ld.frAt ids tx l fl.length x])) := by
                        show w9.ownsRow _ _ _ _ _ _
                        rw [HBOX.out] at hown'
                        rw [List.flatMap_append, List.length_append, List.flatMap_cons, List.flatMap_nil, List.append_nil]; exact hown'
                      have HB9 : Hid (Below w.heap.size w w9) := (HBW.out.alloc HBW.out.size _).grown hgrow (by simp; omega) (fun g hg => (HOW.out.lt g hg).1)
                      clear hown' hgrow
                      go_wp2
                      go_roundg (ids.length - (fl.length + 1))
                      case measure => omega
                      case rel =>
                        have HLX := HL.out
                        refine ⟨fl ++ [Ld.frAt ids tx l fl.length x], v', R2, a2, c2, by rw [List.length_append]; exact hlt, by rw [List.length_append]; rfl, rfl, rfl, by rw [List.length_append]; go_num, ?_, HC2.out, HS2.out, ?_, HO9.out, HB9.out⟩
                        · show _ = _
                          rw [List.length_append]; exact HD.out
                        · show _ = _
                          rw [List.length_append, show fl.length + [Ld.frAt ids tx l fl.length x].length = fl.length + 1 from rfl, Ld.frs_snoc ids tx l fl.length x HXX.out, ← HLX]
            · have hkk : fl.length = ids.length := by omega
              have HRR : Hid (RowL 59 wr w.heap.size u (Ld.frs ids tx l ids.length)) := by
                have hl2 := HL.out
                rw [hkk] at hl2
                show RowL _ _ _ _ _
                rw [← hl2]
                exact HO.out
              obtain ⟨ou, cu, rfl⟩ : ∃ a c, u = .slice a fl.length c := by
                have h' : wr.ownsRow w.heap.size 59 5 u fl.length (fl.flatMap cellsL) := HO.out
                rcases h'.2 with ⟨rfl, h0⟩ | ⟨g, cap, cur, rfl, _⟩
                · exact ⟨none, 0, by rw [h0]⟩
                · exact ⟨_, _, rfl⟩
              clear hkk
              go_wp2
              go_ret2
              exact .ok _ HE.out rfl HRR.out HB.out
end Go.Proofs.Ytgckaecjjoghbaa
/- Nodes as values, the document's and the program's. -/
namespace Go.Proofs.Ytgckaecjjoghbaa.Sl
structure Nd where
  leaf : Bool
  cs : List Cl
  ks : List Kd
structure Rn where
  leaf : Bool
  l : List Cl
/-- The first cell's key. -/
def fkey {α : Type} (S : Sh α) : List α → List UInt8
  | [] => []
  | x :: _ => S.key x
def setK (k : List UInt8) : List Kd → List Kd
  | [] => []
  | x :: t => ⟨k, x.page⟩ :: t
def setC (k : List UInt8) : List Cl → List Cl
  | [] => []
  | x :: t => ⟨k, x.val, x.chain, x.long⟩ :: t
theorem setK_len (k : List UInt8) (l : List Kd) : (setK k l).length = l.length := by cases l <;> rfl
theorem setC_len (k : List UInt8) (l : List Cl) : (setC k l).length = l.length := by cases l <;> rfl
end Go.Proofs.Ytgckaecjjoghbaa.Sl
namespace Go.Proofs.Ytgckaecjjoghbaa
open Go.RowKit
open Sl (Cl Kd Nd Rn)
def ndV (b : Bool) (vc vk : Value) : Value := .agg #[.bool b, vc, vk]
def rnV (b : Bool) (vc : Value) : Value := .agg #[.bool b, vc]
inductive NdV (w : World) (v : Value) (n : Nd) : Prop
  | mk (vc vk : Value) (hv : v = ndV n.leaf vc vk) (hc : SlC w vc n.cs) (hcc : Cap vc) (hk : SlK w vk n.ks) (hkk : Cap vk)
inductive RnV (w : World) (v : Value) (n : Rn) : Prop
  | mk (vc : Value) (hv : v = rnV n.leaf vc) (hc : SlC w vc n.l) (hcc : Cap vc)
theorem NdV.below {w w' : World} {v : Value} {n : Nd} (h : NdV w v n) (hb : Below w.heap.size w w') : NdV w' v n := by
  obtain ⟨vc, vk, hv, hc, hcc, hk, hkk⟩ := h
  exact ⟨vc, vk, hv, hc.below hb, hcc, hk.below hb, hkk⟩
theorem RnV.below {w w' : World} {v : Value} {n : Rn} (h : RnV w v n) (hb : Below w.heap.size w w') : RnV w' v n := by
  obtain ⟨vc, hv, hc, hcc⟩ := h
  exact ⟨vc, hv, hc.below hb, hcc⟩
theorem cap_nil : Cap (.slice none 0 0) := ⟨none, 0, 0, Nat.le_refl _, Nat.zero_le _, fun _ => rfl⟩
end Go.Proofs.Ytgckaecjjoghbaa
