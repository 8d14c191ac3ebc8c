/- The contract of cut. -/
import Derived.Test.YtppoikhonlgcnaaCutSpec
import Derived.Test.YtppoikhonlgcnaaEnc
import Derived.Deep.DeepCutAuto
import Derived.Deep.RegionHeld3
namespace Go.Proofs.Ytppoikhonlgcnaa
open Go.RowKit
theorem two_at_slot (b : Nat) (s : List UInt8) (k : Nat) (hk : 2 * k + 2 ≤ s.length) (w : World) (h : Rd w b (str (s.drop (2 * k))) 0) :
    Calls Try.prog 84 #[.pointer (some ⟨b, 0, none⟩)] w fun v w' => v = .returned (.int .u16 (slotAt s k : Nat)) ∧ Rd w' b (str (s.drop (2 * (k + 1)))) 0 ∧ Upd b w w' := by
  have := two_rd b (str (s.drop (2 * k))) 0 w h
  rw [show ((2 : Int)) = ((2 : Nat) : Int) from rfl, tk_str (s.drop (2 * k)) 2 (by rw [List.length_drop]; omega), str_data] at this
  rw [List.drop_drop] at this
  exact this
def slotV (s : List UInt8) (j : Nat) : Value := .int .i64 (slotAt s j : Nat)
def pieceV (s : List UInt8) (c i : Nat) : Value := .string (str (pieceAt s c i))
theorem piece_ext (s : List UInt8) (c q : Nat) (_ : (bsOf s c).getD q 0 ≤ (bsOf s c).getD (q + 1) 0) : pieceV s c q = .string ((str s).extract ((bsOf s c).getD q 0) ((bsOf s c).getD (q + 1) 0)) := by
  rw [ext_mid]; rfl
theorem bs_cell (s : List UInt8) (c j : Nat) (hj : j < c + 1) : ((List.range c).map (slotV s) ++ [Value.int .i64 s.length])[j]? = some (.int .i64 ((bsOf s c).getD j 0 : Nat)) := by
  have e : (List.range c).map (slotV s) ++ [Value.int .i64 s.length] = (bsOf s c).map (fun x : Nat => Value.int .i64 x) := by
    unfold bsOf slotV; rw [List.map_append, List.map_map]; rfl
  have hl := bsOf_len s c
  rw [e, List.getElem?_map, List.getD_eq_getElem?_getD, List.getElem?_eq_getElem (by omega)]
  rfl
set_option maxHeartbeats 8000000 in
set_option maxRecDepth 100000 in
theorem cut_any (s : List UInt8) (hs : s.length ≤ 100000) (n : Int) (w : World) :
    Calls Try.prog 59 #[.string (str s), .int .i64 n] w (CutOut s n w) := by
  obtain ⟨i0, hi, hz0, hz1, hz2⟩ := info_parts info3
  have hsz := str_size s
  have hlen : (s.length : Int) ≤ 100000 := by omega
  by_cases h0 : n < 0
  · have HB : Hid (¬ CutGood s n) := fun h => by have := h.1; omega
    go_enter Try.func59, Try.ntmps59
    go_wp2
    go_ret2
    exact .bad HB.out rfl (Below.refl _ _)
  · obtain ⟨c, rfl⟩ : ∃ c : Nat, n = c := ⟨n.toNat, by omega⟩
    by_cases h1 : s.length / 2 < c
    · have HB : Hid (¬ CutGood s c) := fun h => by have := h.2.1; omega
      have h1' : (s.length : Int) / 2 < c := by omega
      go_enter Try.func59, Try.ntmps59
      go_wp2
      go_ret2
      exact .bad HB.out rfl (Below.refl _ _)
    · have h1' : ¬ (s.length : Int) / 2 < c := by omega
      have hc2 : 2 * c ≤ s.length := by omega
      have hcb : (c : Int) ≤ 100000 := by omega
      have hmk := fun W => make_ints c (by omega) W
      go_enter Try.func59, Try.ntmps59
      go_wp2_with (go_at_call 91; refine (over_any _ _).mono ?_; rintro e w1 ⟨rfl, hr1, hb1⟩)
      have HC0 := Lib.hid (made_row w1 (.int .i64 0) c (c + 1) 3 (Nat.le_succ c) (by unfold maxLen; omega))
      have HR0 : Hid (Rd (w1.alloc (.cells (madeCells #[.int .i64 0] (c + 1)) 3)) w.heap.size (str s) 0) := hr1.below ((Below.refl _ _).alloc (Nat.le_refl _) _)
      have HB0 : Hid (Below w.heap.size w (w1.alloc (.cells (madeCells #[.int .i64 0] (c + 1)) 3))) := below_step hb1 ((Below.refl _ _).alloc (Nat.le_refl _) _)
      have HBG : Hid (w.heap.size < w1.heap.size) := hr1.lt
      clear hb1 hr1 hmk
      revert HC0 HR0 HB0 HBG
      generalize (w1.alloc (.cells (madeCells #[.int .i64 0] (c + 1)) 3)) = w2
      generalize w1.heap.size = g
      intro HC0 HR0 HB0 HBG
      go_loopg [28] c (fun n i wr => ∃ k : Nat, k ≤ c ∧ n = c - k ∧ i = .int .i64 k ∧ Hid (Rd wr w.heap.size (str (s.drop (2 * k))) 0) ∧ Hid (wr.ownsRow g 3 1 (.slice (some ⟨g, 0, none⟩) c (c + 1)) c ((List.range k).map (slotV s) ++ List.replicate (c - k) (.int .i64 0))) ∧ Hid (Below w.heap.size w wr))
      case atStart => exact ⟨0, Nat.zero_le _, rfl, rfl, by simpa using HR0, by simpa using HC0, HB0.out⟩
      case round =>
        obtain ⟨k, hk, rfl, rfl, HR, HO, HB⟩ := hrel
        by_cases hlt : k < c
        · have HT := Lib.hid (two_at_slot w.heap.size s k (by omega) wr HR.out)
          have hv := slotAt_lt s k
          have HSN := Lib.hid (set_next (slotV s) (.int .i64 0) c k hlt)
          have HSV : Hid (slotV s k = .int .i64 (slotAt s k : Nat)) := rfl
          revert HT hv HSV
          generalize slotAt s k = q
          intro HT hv HSV
          have hq : (q : Int) < 65536 := by omega
          have hk0 : (0 : Int) ≤ (k : Int) := by omega
          have hk1 : (k : Int) < c := by omega
          go_wp2_with (go_at_call 84; (refine HT.out.mono ?_; rintro e w5 ⟨rfl, hr5, hu5⟩; have HO5 := Lib.hid (own_upd HO.out hu5 HBG.out); have fz := HO5.out.frozenAt k; have ck := (HO5.out.cellAt k (by omega)).trans (List.getElem?_eq_getElem (by simp; omega))))
          have HO6 : Hid ((w5.setCell ⟨g, k, none⟩ (.int .i64 q)).ownsRow g 3 1 (.slice (some ⟨g, 0, none⟩) c (c + 1)) c ((List.range (k + 1)).map (slotV s) ++ List.replicate (c - (k + 1)) (.int .i64 0))) := by
            have := (HO5.out.stored k (.int .i64 q)).1
            rw [← HSV.out, HSN.out, HSV.out] at this
            exact this
          have HR6 : Hid (Rd (w5.setCell ⟨g, k, none⟩ (.int .i64 q)) w.heap.size (str (s.drop (2 * (k + 1)))) 0) := hr5.upd ((Upd.refl g w5).setCell (o := k) (.int .i64 q)) (by have := HBG.out; omega)
          have HB6 : Hid (Below w.heap.size w (w5.setCell ⟨g, k, none⟩ (.int .i64 q))) := (HB.out.trans (hu5.below (Nat.le_refl _))).setCell (p := ⟨g, k, none⟩) (Nat.le_of_lt HBG.out) _
          clear hr5 hu5 fz ck
          go_roundg (c - (k + 1))
          case measure => omega
          case rel => exact ⟨k + 1, by omega, rfl, by go_num, HR6, HO6, HB6⟩
        · obtain rfl : k = c := by omega
          rw [Nat.sub_self, List.replicate_zero, List.append_nil] at HO
          go_wp2_with (at_builtin; (refine wpList_append_fits _ rfl _ _ 73 rfl g 3 i0 1 Try.underlying73 hi hz1 g k (k + 1) _ rfl (HO.out.alloc _) ⟨wr.heap.size, 0, none⟩ 1 1 [.int .i64 s.length] rfl rfl ?q3 ?q4 ?q5 ?_))
          case q3 =>
            intro j u hj
            match j, hj with
            | 0, hj => simp at hj; subst hj; simp [Addr.add]
            | (j + 1), hj => simp at hj
          case q4 => intro u hu; simp at hu; subst hu; rfl
          case q5 => omega
          intro w4 hown4 hgrow4
          have HB4 : Hid (Below w.heap.size w w4) := (HB.out.alloc HB.out.size _).grown hgrow4 (by have := HB.out.size; simp; omega) (fun k hk => by cases hk; exact Nat.le_of_lt HBG.out)
          have HX4 : Hid (∀ j, j < k + 1 → w4.cell? ⟨g, j, none⟩ = some (.int .i64 ((bsOf s k).getD j 0 : Nat))) := by
            intro j hj
            rw [hown4.cellAt j (by omega)]
            exact bs_cell s k j hj
          have hc0 := HX4.out 0 (Nat.succ_pos k)
          have HSo : Hid (∀ W, (∀ j, j < k + 1 → W.cell? ⟨g, j, none⟩ = some (.int .i64 ((bsOf s k).getD j 0 : Nat))) → Calls Try.prog 92 #[.slice (some ⟨g, 0, none⟩) (k + 1) (k + 1)] W (SortOut (bsOf s k) W)) := fun W hW => by
            have := sorted_any g (k + 1) (bsOf s k) (by rw [bsOf_len]; omega) (by rw [bsOf_len]; omega) W (by rw [bsOf_len]; exact hW)
            rw [bsOf_len] at this
            exact this
          have hkp : 0 < k + 1 := Nat.succ_pos k
          clear hown4 hgrow4 HO HR
          by_cases hb0 : (bsOf s k).getD 0 0 = 2 * k
          · have hd : (((bsOf s k).getD 0 0 : Nat) : Int) = 2 * k := by omega
            rw [hd] at hc0
            clear hd
            go_wp2_with (go_at_call 92; refine (HSo.out _ HX4.out).mono ?_)
            rintro e w5 (⟨hsrt, rfl, m, rfl⟩ | ⟨i, hi2, hlt2, rfl, m, rfl⟩)
            · have HG : Hid (CutGood s k) := ⟨by omega, by omega, by simpa using hb0, fun i hi3 => hsrt i (by rw [bsOf_len]; simpa using hi3)⟩
              have HST := Lib.hid hsrt
              have HX5 : Hid (∀ j, j < k + 1 → (w4.drewN m).cell? ⟨g, j, none⟩ = some (.int .i64 ((bsOf s k).getD j 0 : Nat))) := HX4.out
              have HB5 : Hid (Below w.heap.size w (w4.drewN m)) := ⟨HB4.out.os, HB4.out.tape, HB4.out.output, HB4.out.size, HB4.out.block⟩
              have hmk2 := fun W => make_texts k (by omega) W
              have HGL : Hid (g < (w4.drewN m).heap.size) := World.block_lt_of_cell? _ _ (HX5.out 0 hkp)
              clear hc0 hsrt HX4 HB4
              revert HX5 HB5 HGL
              generalize w4.drewN m = w5
              intro HX5 HB5 HGL
              have HO0 := Lib.hid (made_row w5 (.string ByteArray.empty) k k 9 (Nat.le_refl k) (by unfold maxLen; omega))
              have HX6 : Hid (∀ j, j < k + 1 → (w5.alloc (.cells (madeCells #[.string ByteArray.empty] k) 9)).cell? ⟨g, j, none⟩ = some (.int .i64 ((bsOf s k).getD j 0 : Nat))) := fun j hj => (old_at j HGL.out).trans (HX5.out j hj)
              have HB6 : Hid (Below w.heap.size w (w5.alloc (.cells (madeCells #[.string ByteArray.empty] k) 9))) := HB5.out.alloc HB5.out.size _
              go_wp2_with fail
              revert HO0 HX6 HB6
              clear hmk2
              generalize (w5.alloc (.cells (madeCells #[.string ByteArray.empty] k) 9)) = w6
              intro HO0 HX6 HB6
              have HGL5 : Hid (w.heap.size ≤ w5.heap.size) := HB5.out.size
              revert HGL HGL5 HO0
              generalize w5.heap.size = h
              intro HGL HO0 HGL5
              go_loopg [58] k (fun n i wr => ∃ q : Nat, q ≤ k ∧ n = k - q ∧ i = .int .i64 q ∧ Hid (wr.ownsRow h 9 1 (.slice (some ⟨h, 0, none⟩) k k) k ((List.range q).map (pieceV s k) ++ List.replicate (k - q) (.string ByteArray.empty))) ∧ Hid (∀ j, j < k + 1 → wr.cell? ⟨g, j, none⟩ = some (.int .i64 ((bsOf s k).getD j 0 : Nat))) ∧ Hid (Below w.heap.size w wr))
              case atStart => exact ⟨0, Nat.zero_le _, rfl, rfl, by simpa using HO0, HX6.out, HB6.out⟩
              case round =>
                obtain ⟨q, hq, rfl, rfl, HO, HX, HBr⟩ := hrel
                by_cases hlt : q < k
                · have c0 := HX.out q (by omega)
                  have c1 := HX.out (q + 1) (by omega)
                  have fz := HO.out.frozenAt q
                  have ck := (HO.out.cellAt q (by omega)).trans (List.getElem?_eq_getElem (by simp; omega))
                  have HSN := Lib.hid (set_next (pieceV s k) (.string ByteArray.empty) k q hlt)
                  have h12 := HST.out q (by rw [bsOf_len]; omega)
                  have hle := bs_le s k HST.out q (by omega)
                  have hle1 := bs_le s k HST.out (q + 1) (by omega)
                  have HPV : Hid (pieceV s k q = .string ((str s).extract ((bsOf s k).getD q 0) ((bsOf s k).getD (q + 1) 0))) := piece_ext s k q h12
                  revert c0 c1 h12 hle hle1 HPV
                  generalize (bsOf s k).getD q 0 = x0
                  generalize (bsOf s k).getD (q + 1) 0 = x1
                  intro c0 c1 h12 hle hle1 HPV
                  have hq0 : (0 : Int) ≤ (q : Int) := by omega
                  have hq1 : (q : Int) < k := by omega
                  have hq2 : (0 : Int) ≤ (q : Int) + 1 := by omega
                  have hq3 : (q : Int) + 1 < ((k + 1 : Nat) : Int) := by omega
                  have hq5 : (q : Int) < ((k + 1 : Nat) : Int) := by omega
                  have hq6 : (q : Int) ≤ k := by omega
                  have hq7 : (q : Int) < (k : Int) + 1 := by omega
                  have hq8 : (q : Int) + 1 < (k : Int) + 1 := by omega
                  have hq9 : (q : Int) + 1 ≤ k := by omega
                  have hq4 : ((q : Int) + 1).toNat = q + 1 := by omega
                  have hwr : IntKind.i64.wrap ((q : Int) + 1) = (q : Int) + 1 := IntWalk.i64_in _ (by omega)
                  have hx0 : (0 : Int) ≤ (x0 : Int) := by omega
                  have hx1 : (x0 : Int) ≤ (x1 : Int) := by omega
                  have hx2 : (x1 : Int) ≤ s.length := by omega
                  have hgh : g ≠ h := by have := HGL.out; omega
                  have HF : Hid (wr.drew.cell? ⟨g, q, none⟩ = some (.int .i64 x0) ∧ wr.drew.cell? ⟨g, q + 1, none⟩ = some (.int .i64 x1)) := ⟨c0, c1⟩
                  have HF2 : Hid (∀ v, (wr.setCell ⟨h, q, none⟩ v).drew.cell? ⟨g, q, none⟩ = some (.int .i64 x0) ∧ (wr.setCell ⟨h, q, none⟩ v).drew.cell? ⟨g, q + 1, none⟩ = some (.int .i64 x1)) := fun v => ⟨(World.cell?_setCell_other wr ⟨h, q, none⟩ ⟨g, q, none⟩ v (off_ne (fun e => hgh e.symm))).trans c0, (World.cell?_setCell_other wr ⟨h, q, none⟩ ⟨g, q + 1, none⟩ v (off_ne (fun e => hgh e.symm))).trans c1⟩
                  go_wp2_with fail
                  go_region_held3 (fun w' => w'.cell? ⟨g, q, none⟩ = some (.int .i64 x0) ∧ w'.cell? ⟨g, q + 1, none⟩ = some (.int .i64 x1))
                    ((first | assumption | exact HF.out | exact HF2.out _))
                    (fail)
                  have HO7 : Hid ((wr.setCell ⟨h, q, none⟩ (.string ((str s).extract x0 x1))).drew.ownsRow h 9 1 (.slice (some ⟨h, 0, none⟩) k k) k ((List.range (q + 1)).map (pieceV s k) ++ List.replicate (k - (q + 1)) (.string ByteArray.empty))) := by
                    have := (HO.out.stored q (.string ((str s).extract x0 x1))).1
                    rw [← HPV.out, HSN.out, HPV.out] at this
                    exact this
                  have HX7 : Hid (∀ j, j < k + 1 → (wr.setCell ⟨h, q, none⟩ (.string ((str s).extract x0 x1))).drew.cell? ⟨g, j, none⟩ = some (.int .i64 ((bsOf s k).getD j 0 : Nat))) := fun j hj => (World.cell?_setCell_other wr ⟨h, q, none⟩ ⟨g, j, none⟩ _ (off_ne (fun e => hgh e.symm))).trans (HX.out j hj)
                  have HB7 : Hid (Below w.heap.size w (wr.setCell ⟨h, q, none⟩ (.string ((str s).extract x0 x1))).drew) := (HBr.out.setCell (p := ⟨h, q, none⟩) HGL5.out _).drew
                  clear hwr hq4
                  go_wp2
                  go_roundg (k - (q + 1))
                  case measure => omega
                  case rel => exact ⟨q + 1, by omega, rfl, by go_num, HO7, HX7, HB7⟩
                · obtain rfl : q = k := by omega
                  rw [Nat.sub_self, List.replicate_zero, List.append_nil] at HO
                  have HT : Hid (SlT wr (.slice (some ⟨h, 0, none⟩) q q) (pieces s q)) := by
                    have hpl : (pieces s q).length = q := by simp [pieces]
                    refine SlT.own (B := h) (e := 9) ?_
                    rw [hpl, show (pieces s q).map (fun p => Value.string (str p)) = (List.range q).map (pieceV s q) by unfold pieces; rw [List.map_map]; rfl]
                    exact HO.out
                  go_wp2
                  go_ret2
                  exact .ok HG.out _ rfl HT.out HBr.out
            · have HG : Hid (¬ CutGood s k) := fun h => by
                have := h.2.2.2 i (by rw [bsOf_len] at hi2; simpa using hi2)
                simp only [Int.toNat_natCast] at this
                omega
              go_wp2
              go_ret2
              exact .bad HG.out rfl ⟨HB4.out.os, HB4.out.tape, HB4.out.output, HB4.out.size, HB4.out.block⟩
          · have HG : Hid (¬ CutGood s k) := fun h => hb0 (by simpa using h.2.2.1)
            have hd : ((((bsOf s k).getD 0 0 : Nat) : Int) != 2 * k) = true := by rw [bne_iff_ne]; omega
            revert hc0 hd
            generalize (bsOf s k).getD 0 0 = b0
            intro hc0 hd
            go_wp2
            go_ret2
            exact .bad HG.out rfl HB4.out
end Go.Proofs.Ytppoikhonlgcnaa
