/- Texts of one seat, merged. -/
import Derived.Test.YtgmneapgihakgaaGreatDoorZ15
import Derived.Test.YtgmneapgihakgaaGreatDoorZ20
import Derived.Test.YtgmneapgihakgaaGreatDoorZ19
import Derived.WalkKit
import Derived.WalkLawsBesides
import Derived.Below
import Derived.Lib.Hide
import Derived.Lib.Strings
import Derived.Laws.IdiomStrings
import Derived.RegionTactic
import Derived.Deep.RegionWith
import Derived.Deep.LoopGhost
import Derived.Deep.QuietTactic
import Derived.Sort.EncStr
import Derived.OwnWalk
import Derived.Maps.AppendAt
import Derived.Deep.DeepCutAuto
import Derived.BigQuiet
import Derived.Test.YtgmneapgihakgaaGreatDoorZ13
import Derived.Deep.RegionHeld3
set_option maxRecDepth 100000
set_option maxHeartbeats 4000000
set_option linter.unusedVariables false
/- The contracts of the document's own functions on rows of parts: to, After, Less. -/
namespace Go.Proofs.YtgmneapgihakgaaGreatDoor
open Go.RowKit
theorem info43 : (Tryz.prog.info? 305).map (fun i => (i.zero, i.size, i.bytes)) = some (some (.agg #[.bool false, .int .u64 0, .string ByteArray.empty]), 3, 32) := by kernel_rfl
theorem take_snocP (l : List Ord.P) (k : Nat) (p : Ord.P) (h : l[k]? = some p) : l.take (k + 1) = l.take k ++ [p] := by
  obtain ⟨hk, he⟩ := List.getElem?_eq_some_iff.1 h
  rw [List.take_succ_eq_append_getElem hk, he]
end Go.Proofs.YtgmneapgihakgaaGreatDoor
/- The contract of the document's own Key. -/
namespace Go.Proofs.YtgmneapgihakgaaGreatDoor
open Go.RowKit
theorem esc_take (t : List UInt8) (j : Nat) (c : UInt8) (h : t[j]? = some c) : Ord.esc (t.take (j + 1)) = Ord.esc (t.take j) ++ (if c = 0 then [0, 255] else [c]) := by
  obtain ⟨hj, he⟩ := List.getElem?_eq_some_iff.1 h
  rw [List.take_succ_eq_append_getElem hj, Ord.esc_append, he]
  congr 1
theorem esc_take_len (t : List UInt8) (j : Nat) : (Ord.esc (t.take j)).length ≤ 2 * t.length := by
  have h1 := Ord.esc_length_ge (t.take j)
  have h2 : (t.take j).length ≤ t.length := by rw [List.length_take]; omega
  omega
theorem extract_one (t : List UInt8) (j : Nat) (c : UInt8) (h : t[j]? = some c) : (str t).extract j (j + 1) = str [c] := by
  obtain ⟨hj, he⟩ := List.getElem?_eq_some_iff.1 h
  apply ByteArray.ext
  simp only [str]
  rw [ByteArray.data_extract]
  apply Array.ext
  · simp; omega
  · intro i h1 h2
    simp at h2
    subst h2
    simp [he]
theorem slice_one (t : List UInt8) (j : Nat) (c : UInt8) (h : t[j]? = some c) (W : World) :
    (Instr.slice 9 (.string (str t)) (some (.int .i64 j)) (some (.int .i64 ((j : Int) + 1))) none).run Tryz.prog W = .ok (.string (str [c])) W := by
  have hj := (List.getElem?_eq_some_iff.1 h).1
  rw [run_slice_string W 9 (str t) .i64 .i64 j ((j : Int) + 1) Tryz.underlying9 (by omega) (by omega) (by rw [str_size]; omega), ← extract_one t j c h]
  rfl
theorem str_at (t : List UInt8) (j : Nat) (c : UInt8) (h : t[j]? = some c) : ∀ hh : j < (str t).size, ((str t)[j]'hh).toNat = c.toNat := by
  intro hh
  obtain ⟨hj, he⟩ := List.getElem?_eq_some_iff.1 h
  show (t.toArray[j]'(by simpa using hj)).toNat = _
  simp [he]
set_option maxHeartbeats 4000000 in
set_option maxRecDepth 100000 in
theorem refKey_any (v : Value) (l : List Ord.P) (hll : l.length ≤ 1000) (w : World) (hv : Sl w v l) (hl : ∀ p ∈ l, p.n < 18446744073709551616 ∧ p.s.length ≤ 400) :
    Calls Tryz.prog 232 #[v] w fun e w' => e = .returned (keyOut l) ∧ Below w.heap.size w w' := by
  have HL := Lib.hid hl
  clear hl
  obtain ⟨a, b, o, c, rfl, ha, hx⟩ := hv
  have HX := Lib.hid hx
  have HA := Lib.hid ha
  clear ha hx
  have hz := big_size
  go_enter Tryz.func232, Tryz.ntmps232
  go_wp2
  go_loopg [4, 10] l.length (fun g s i wr => ∃ k : Nat, k ≤ l.length ∧ g = l.length - k ∧ i = .int .i64 k ∧ s = .string (str (Ord.key (l.take k))) ∧ Hid ((Ord.key (l.take k)).length ≤ 255) ∧ Hid (Below w.heap.size w wr))
  case atStart => exact ⟨0, Nat.zero_le _, rfl, rfl, rfl, Nat.zero_le _, Below.refl _ _⟩
  case round =>
    obtain ⟨k, hk, rfl, rfl, rfl, HK, HB⟩ := hrel
    have hsz : (str (Ord.key (l.take k))).size = (Ord.key (l.take k)).length := rfl
    by_cases hlt : k < l.length
    · obtain ⟨p, hp⟩ : ∃ p, l[k]? = some p := ⟨_, List.getElem?_eq_getElem hlt⟩
      have HS := Lib.hid (key_snoc l k p hp)
      have HT2 := Lib.hid (key_take_le l (k + 1))
      obtain ⟨hpn, hps⟩ := HL.out p (List.mem_of_getElem? hp)
      obtain ⟨e0, e1, e2⟩ := HX.out k p hp
      have hblt : b < w.heap.size := World.block_lt_of_cell? _ _ e0
      have d0 := (HB.out.cell (p := ⟨b, o + k * 3, none⟩) hblt).trans e0
      have d1 := (HB.out.cell (p := ⟨b, o + k * 3 + 1, none⟩) hblt).trans e1
      have d2 := (HB.out.cell (p := ⟨b, o + k * 3 + 2, none⟩) hblt).trans e2
      obtain rfl : a = some ⟨b, o, none⟩ := by
        rcases HA.out with h | h
        · rw [h] at hlt; cases hlt
        · exact h
      clear e0 e1 e2 hp
      revert HS HT2 hsz HK
      generalize Ord.key (l.take k) = K
      generalize hK1 : Ord.key (l.take (k + 1)) = K1
      intro HK hsz HS HT2
      have HK1 := Lib.hid hK1
      clear hK1
      have hkl := HK.out
      have HB0 := Lib.hid (HB.out.alloc HB.out.size (.cells #[.bool p.t, .int .u64 p.n, .string (str p.s)] 305))
      obtain ⟨t, n, s⟩ := p
      simp only at d0 d1 d2 hpn hps HB0
      cases t
      · have HJ : Hid (str K ++ str (Oc.big 1 1) ++ str (Oc.big 8 n) = str K1) := by
          show _ = _
          rw [str_append, str_append, HS.out, List.append_assoc]; rfl
        have HKL : Hid ((str K1).size = K1.length) := rfl
        have HLAST : Hid (255 < K1.length → keyOut l = .tuple #[.string ⟨#[]⟩, .int .i64 5]) := fun h => keyOut_long l (by have := HT2.out; omega)
        go_upto_region 6 with fail
        go_cut [4] (fun s wx => s = .string (str K1) ∧ Hid (Below w.heap.size w wx))
        case first =>
          go_region_with (first
            | (go_at_call_of 290 (Value.int IntKind.i64 1); refine (big1 1 1 rfl (by decide) _).mono ?_; rintro e w1 ⟨rfl, hb1⟩; have hk := (hb1.cell (p := ⟨wr.heap.size, 1, none⟩) (by simp)).trans (show _ = some (Value.int .u64 n) by simp))
            | (go_at_call_of 290 (Value.int IntKind.i64 8); refine (big8 _ n rfl hpn _).mono ?_; rintro e w2 ⟨rfl, hb2⟩))
          all_goals
            (go_wp2_with fail
             go_meet
             exact ⟨congrArg Value.string HJ.out, below_step HB.out (below_step (below_off hb1) hb2)⟩)
        case rest =>
          obtain ⟨rfl, HB1⟩ := hcut
          have hk1 := HKL.out
          by_cases h255 : (K1.length : Int) > 255
          · have HO := Lib.hid (HLAST.out (by omega))
            go_wp2
            go_ret2
            rw [HO.out]
            exact ⟨rfl, HB1.out⟩
          · go_wp2
            go_roundg (l.length - (k + 1))
            case measure => omega
            case rel => exact ⟨k + 1, by omega, rfl, by go_num, by rw [HK1.out], by show _ ≤ _; rw [HK1.out]; omega, HB1⟩
      · have HLAST : Hid (255 < K1.length → keyOut l = .tuple #[.string ⟨#[]⟩, .int .i64 5]) := fun h => keyOut_long l (by have := HT2.out; omega)
        have HKL : Hid ((str K1).size = K1.length) := rfl
        have HK1E : Hid (K1 = K ++ 2 :: (Ord.esc s ++ [0, 0])) := HS.out
        have HJ0 : Hid (str K ++ str (Oc.big 1 2) = str (K ++ 2 :: Ord.esc (s.take 0))) := by
          show _ = _
          rw [str_append]; rfl
        go_wp2_with (go_at_call_of 290 (Value.int IntKind.i64 1); refine (big1 2 2 rfl (by decide) _).mono ?_; rintro e w1 ⟨rfl, hb1⟩)
        rw [HJ0.out]
        have hck := (hb1.cell (p := ⟨wr.heap.size, 2, none⟩) (by simp)).trans (show _ = some (Value.string (str s)) by simp)
        have HB1 := Lib.hid (below_step HB0.out hb1)
        have HG := Lib.hid (World.block_lt_of_cell? _ _ hck)
        have HCK := Lib.hid hck
        clear hb1 hck d0 d1 d2
        generalize wr.heap.size = g at *
        obtain ⟨wo, rfl⟩ : ∃ wo : World, wo = wr := ⟨_, rfl⟩
        have hss : (str s).size = s.length := rfl
        go_loopg [4, 7] s.length (fun g4 x i wi => ∃ j : Nat, j ≤ s.length ∧ g4 = s.length - j ∧ i = .int .i64 j ∧ x = .string (str (K ++ 2 :: Ord.esc (s.take j))) ∧ Hid (Below w1.heap.size w1 wi))
        case atStart => exact ⟨0, Nat.zero_le _, rfl, rfl, rfl, Below.refl _ _⟩
        case round =>
          obtain ⟨j, hj, rfl, rfl, rfl, HBI⟩ := hrel
          obtain ⟨wi, rfl⟩ : ∃ wi : World, wi = wr := ⟨_, rfl⟩
          have hcs := (HBI.out.cell (p := ⟨g, 2, none⟩) HG.out).trans HCK.out
          have HEL := Lib.hid (esc_take_len s j)
          have hzk : (str (K ++ 2 :: Ord.esc (s.take j))).size ≤ 1100 := by
            rw [str_size, List.length_append, List.length_cons]
            have := HEL.out
            omega
          by_cases hjl : j < s.length
          · obtain ⟨c, hc⟩ : ∃ c, s[j]? = some c := ⟨_, List.getElem?_eq_getElem hjl⟩
            have hx1 := fun W => slice_one s j c hc W
            have hx2 := str_at s j c hc
            have hs1 : (str [c]).size = 1 := rfl
            have HES := Lib.hid (esc_take s j c hc)
            clear hc
            by_cases hc0 : c = 0
            · subst hc0
              have hx3 : ∀ hh : j < (str s).size, ((str s)[j]'hh).toNat = 0 := hx2
              clear hx2
              have HJ1 : Hid (str (K ++ 2 :: Ord.esc (s.take j)) ++ str [0] ++ str (Oc.big 1 255) = str (K ++ 2 :: Ord.esc (s.take (j + 1)))) := by
                show _ = _
                rw [str_append, str_append, HES.out, if_pos rfl]
                show str _ = str _
                simp [Oc.big]
              go_wp2_with (go_at_call_of 290 (Value.int IntKind.i64 1); refine (big1 255 255 rfl (by decide) _).mono ?_; rintro e w2 ⟨rfl, hb2⟩)
              go_roundg (s.length - (j + 1))
              case measure => omega
              case rel => exact ⟨j + 1, by omega, rfl, by go_num, congrArg Value.string HJ1.out, below_step' HBI.out hb2⟩
            · have hc1 : ((c.toNat : Int) == 0) = false := by
                rw [beq_eq_false_iff_ne]; intro h; exact hc0 (UInt8.toNat_inj.1 (by show c.toNat = 0; omega))
              have HJ1 : Hid (str (K ++ 2 :: Ord.esc (s.take j)) ++ str [c] = str (K ++ 2 :: Ord.esc (s.take (j + 1)))) := by
                show _ = _
                rw [str_append, HES.out, if_neg hc0]
                show str _ = str _
                simp
              go_wp2
              go_roundg (s.length - (j + 1))
              case measure => omega
              case rel => exact ⟨j + 1, by omega, rfl, by go_num, congrArg Value.string HJ1.out, HBI⟩
          · obtain rfl : j = s.length := by omega
            rw [List.take_length] at *
            have HJ2 : Hid (str (K ++ 2 :: Ord.esc s) ++ str (Oc.big 2 0) = str K1) := by
              show _ = _
              rw [str_append, HK1E.out]
              show str _ = str _
              simp [Oc.big]
            obtain ⟨q, hq, hq2⟩ : ∃ q : Nat, (str (K ++ 2 :: Ord.esc s)).size = q ∧ Hid (q + 2 = K1.length) := by
              refine ⟨_, rfl, ?_⟩
              show _ = _
              rw [HK1E.out, str_size]
              simp only [List.length_append, List.length_cons, List.length_nil]
              omega
            have HB3 := fun w2 (hb2 : Below wi.heap.size wi w2) => below_step HB1.out (below_step' HBI.out hb2)
            by_cases h255 : (q : Int) + 2 > 255
            · have HO := Lib.hid (HLAST.out (by have := hq2.out; omega))
              go_wp2_with (go_at_call_of 290 (Value.int IntKind.i64 2); refine (big2 0 0 rfl (by decide) _).mono ?_; rintro e w2 ⟨rfl, hb2⟩)
              go_ret2
              rw [HO.out]
              exact ⟨rfl, HB3 _ hb2⟩
            · go_wp2_with (go_at_call_of 290 (Value.int IntKind.i64 2); refine (big2 0 0 rfl (by decide) _).mono ?_; rintro e w2 ⟨rfl, hb2⟩)
              go_roundg (l.length - (k + 1))
              case measure => omega
              case rel => exact ⟨k + 1, by omega, rfl, by go_num, by rw [HK1.out]; exact congrArg Value.string HJ2.out, by show _ ≤ _; rw [HK1.out]; have := hq2.out; omega, HB3 _ hb2⟩
    · obtain rfl : k = l.length := by omega
      have HO := Lib.hid (keyOut_ok l (by have := HK.out; rwa [List.take_length] at this))
      rw [List.take_length]
      go_wp2
      go_ret2
      rw [HO.out]
      exact ⟨rfl, HB.out⟩
end Go.Proofs.YtgmneapgihakgaaGreatDoor
/- Texts as bytes; rows of texts that a slice shows. -/
namespace Go.Proofs.YtgmneapgihakgaaGreatDoor
open Go.RowKit
open Tp (Txt)
theorem strL (t : Txt) : (str t).toList = t := by simp [str, ByteArray.toList_eq]
theorem str_inj {a b : List UInt8} (h : str a = str b) : a = b := by
  have := congrArg (fun s => s.data.toList) h
  exact this
theorem take_snocT {α : Type} {l : List α} {k : Nat} {y : α} (h : l[k]? = some y) : l.take (k + 1) = l.take k ++ [y] := by rw [List.take_add_one, h]; rfl
variable {α : Type} {enc : α → Value} {t : TypeId} {w w' : World} {B B' : Nat} {v : Value} {l : List α}
/-- A slice that can be cut. -/
def SlTc (w : World) (v : Value) (l : List Txt) : Prop :=
  ∃ (a : Option Addr) (b o c : Nat), v = .slice a l.length c ∧ l.length ≤ c ∧ c ≤ maxLen ∧ (l = [] ∨ a = some ⟨b, o, none⟩) ∧ ∀ (j : Nat) x, l[j]? = some x → w.cell? ⟨b, o + j, none⟩ = some (eS x)
theorem SlTc.below {B : Nat} {w w' : World} {v : Value} {l : List Txt} (h : SlTc w v l) (hs : B = w.heap.size) (hb : Below B w w') : SlTc w' v l := by
  subst hs
  obtain ⟨a, b, o, c, hv, h1, h2, ha, hx⟩ := h
  refine ⟨a, b, o, c, hv, h1, h2, ha, fun j x hj => ?_⟩
  have h0 := hx j x hj
  exact (hb.cell (p := ⟨b, o + j, none⟩) (World.block_lt_of_cell? _ _ h0)).trans h0
theorem SlTc.sl {w : World} {v : Value} {l : List Txt} (h : SlTc w v l) : SlS w v l := by
  obtain ⟨a, b, o, c, hv, h1, h2, ha, hx⟩ := h
  exact ⟨a, b, o, c, hv, ha, hx⟩
theorem SlTc.slice {w : World} {v : Value} {l : List Txt} (h : SlTc w v l) : ∃ a c, v = .slice a l.length c ∧ l.length ≤ c ∧ c ≤ maxLen := by
  obtain ⟨a, b, o, c, hv, h1, h2, _⟩ := h
  exact ⟨a, c, hv, h1, h2⟩
theorem RowP.slc {w : World} {B : Nat} {v : Value} {l : List Txt} (h : RowS w B v l) : SlTc w v l := by
  rcases h.open with ⟨rfl, rfl⟩ | ⟨g, cap, cur, rfl, _, _, h1, h2, _⟩
  · exact ⟨none, 0, 0, 0, rfl, Nat.le_refl _, Nat.zero_le _, .inl rfl, fun j p hj => by simp at hj⟩
  · exact ⟨_, g, 0, cap, rfl, h1, h2, .inr rfl, fun j x hj => by rw [Nat.zero_add]; exact ((h.cells rfl).2 j x hj).1⟩
end Go.Proofs.YtgmneapgihakgaaGreatDoor
/- topic.Name, and the document's. -/
namespace Go.Proofs.YtgmneapgihakgaaGreatDoor
open Go.RowKit
open Tp
theorem plain_bits (c : UInt8) : plainB c = (decide (97 ≤ (c.toNat : Int)) && decide ((c.toNat : Int) ≤ 122) || decide (65 ≤ (c.toNat : Int)) && decide ((c.toNat : Int) ≤ 90) || decide (48 ≤ (c.toNat : Int)) && decide ((c.toNat : Int) ≤ 57) || decide ((c.toNat : Int) = 45) || decide ((c.toNat : Int) = 95)) := by
  unfold plainB
  rw [Bool.eq_iff_iff]
  simp only [Bool.or_eq_true, Bool.and_eq_true, decide_eq_true_eq, UInt8.le_iff_toNat_le, ← UInt8.toNat_inj]
  have h : c.toNat < 256 := c.toNat_lt
  simp only [show (97 : UInt8).toNat = 97 from rfl, show (122 : UInt8).toNat = 122 from rfl, show (65 : UInt8).toNat = 65 from rfl, show (90 : UInt8).toNat = 90 from rfl, show (48 : UInt8).toNat = 48 from rfl, show (57 : UInt8).toNat = 57 from rfl, show (45 : UInt8).toNat = 45 from rfl, show (95 : UInt8).toNat = 95 from rfl]
  omega
theorem plain_any (c : UInt8) (w : World) : Calls Tryz.prog 176 #[.int .u8 c.toNat] w fun e w' => e = .returned (.bool (plainB c)) ∧ w = w' := by
  have HP := Lib.hid (plain_bits c)
  go_enter Tryz.func176, Tryz.ntmps176
  go_wp2
  all_goals
    go_ret
    refine ⟨ret_bool ?_, rfl⟩
    rw [HP.out]
    rw [Bool.eq_iff_iff]
    simp only [Bool.or_eq_true, Bool.and_eq_true, decide_eq_true_eq, beq_iff_eq]
    first | omega | (simp; omega) | (simp; done)
def GOOD : Txt := [97, 98, 99, 100, 101, 102, 103, 104, 105, 106, 107, 108, 109, 110, 111, 112, 113, 114, 115, 116, 117, 118, 119, 120, 121, 122, 65, 66, 67, 68, 69, 70, 71, 72, 73, 74, 75, 76, 77, 78, 79, 80, 81, 82, 83, 84, 85, 86, 87, 88, 89, 90, 48, 49, 50, 51, 52, 53, 54, 55, 56, 57, 45, 95]
theorem good_plain : ∀ c : UInt8, GOOD.any (fun g => decide (g = c)) = plainB c := by
  have h : ∀ n : Fin 256, GOOD.any (fun g => decide (g = UInt8.ofNat n.val)) = plainB (UInt8.ofNat n.val) := by decide +kernel
  intro c
  have := h ⟨c.toNat, c.toNat_lt⟩
  simpa using this
theorem name_long {s : Txt} (h : 32 < s.length) : nameB s = false := by
  unfold nameB
  rw [decide_eq_false (p := s.length ≤ 32) (by omega)]
  simp
theorem name_at {s : Txt} {k : Nat} {c : UInt8} (h : s[k]? = some c) (hp : plainB c = false) : nameB s = false := by
  unfold nameB
  have : s.all plainB = false := by
    rw [List.all_eq_false]
    exact ⟨c, List.mem_of_getElem? h, by simp [hp]⟩
  rw [this, Bool.and_false]
theorem all_snoc {p : UInt8 → Bool} {s : Txt} {k : Nat} {c : UInt8} (h : s[k]? = some c) : (s.take (k + 1)).all p = ((s.take k).all p && p c) := by
  rw [take_snocT h, List.all_append]; simp
theorem name_all {s : Txt} (h0 : s ≠ []) (h1 : s.length ≤ 32) (h : (s.take s.length).all plainB = true) : nameB s = true := by
  unfold nameB
  rw [List.take_length] at h
  simp [h0, h1, h]
set_option maxHeartbeats 1000000 in
theorem name_any (s : Txt) (hs : s.length ≤ 100000) (w : World) : Calls Tryz.prog 83 #[.string (str s)] w fun e w' => e = .returned (.bool (nameB s)) ∧ w = w' := by
  have hz : (str s).size = s.length := rfl
  by_cases h0 : s = []
  · subst h0
    have he : (str ([] : Txt)).toList.isEmpty = true := by rw [strL]; rfl
    go_enter Tryz.func83, Tryz.ntmps83
    go_wp2
    go_ret
    exact ⟨rfl, rfl⟩
  · have hn : (str s).toList = s := strL s
    have hn1 : s.isEmpty = false := by cases s with | nil => exact absurd rfl h0 | cons _ _ => rfl
    by_cases h1 : 32 < s.length
    · have h1i : (32 : Int) < (s.length : Int) := by omega
      go_enter Tryz.func83, Tryz.ntmps83
      go_wp2
      go_ret
      exact ⟨ret_bool (name_long h1).symm, rfl⟩
    · have h1i : ¬ (32 : Int) < (s.length : Int) := by omega
      go_enter Tryz.func83, Tryz.ntmps83
      go_wp2
      go_loopg [13] s.length (fun g i wr => ∃ k : Nat, k ≤ s.length ∧ g = s.length - k ∧ i = .int .i64 k ∧ Hid ((s.take k).all plainB = true) ∧ w = wr)
      case atStart => exact ⟨0, Nat.zero_le _, rfl, rfl, rfl, rfl⟩
      case round =>
        obtain ⟨k, hk, rfl, rfl, HA, rfl⟩ := hrel
        by_cases hlt : k < s.length
        · obtain ⟨c, hc⟩ := some_atP hlt
          have hidx := str_at s k c hc
          by_cases hp : plainB c = true
          · have HS : Hid ((s.take (k + 1)).all plainB = true) := by show _ = _; rw [all_snoc hc, HA.out, hp]; rfl
            have HP := Lib.hid hp
            clear hp hc
            go_wp2_with (go_at_call 176; refine (plain_any _ _).mono ?_; rintro e w1 ⟨rfl, rfl⟩; rw [HP.out])
            go_roundg (s.length - (k + 1))
            case rel => exact ⟨k + 1, by omega, rfl, by go_num, HS, rfl⟩
            case measure => omega
          · have hp' : plainB c = false := by simpa using hp
            have HN := Lib.hid (name_at hc hp')
            have HP := Lib.hid hp'
            clear hp hp' hc
            go_wp2_with (go_at_call 176; refine (plain_any _ _).mono ?_; rintro e w1 ⟨rfl, rfl⟩; rw [HP.out])
            go_ret
            exact ⟨ret_bool HN.out.symm, rfl⟩
        · obtain rfl : k = s.length := by omega
          have HN := Lib.hid (name_all h0 (by omega) HA.out)
          go_wp2
          go_ret
          exact ⟨ret_bool HN.out.symm, rfl⟩
theorem good_any (c : UInt8) (j : Nat) (x : UInt8) (h : GOOD[j]? = some x) : (GOOD.take (j + 1)).any (fun g => decide (g = c)) = ((GOOD.take j).any (fun g => decide (g = c)) || decide (x = c)) := by
  rw [take_snocT h, List.any_append]; simp
theorem name_end {s : Txt} (h : (s.take s.length).all plainB = true) : nameB s = (decide (0 < s.length) && decide (s.length ≤ 32)) := by
  unfold nameB
  rw [List.take_length] at h
  rw [h, Bool.and_true]
  congr 1
  cases s <;> simp
theorem good_str : (⟨#[97, 98, 99, 100, 101, 102, 103, 104, 105, 106, 107, 108, 109, 110, 111, 112, 113, 114, 115, 116, 117, 118, 119, 120, 121, 122, 65, 66, 67, 68, 69, 70, 71, 72, 73, 74, 75, 76, 77, 78, 79, 80, 81, 82, 83, 84, 85, 86, 87, 88, 89, 90, 48, 49, 50, 51, 52, 53, 54, 55, 56, 57, 45, 95]⟩ : ByteArray) = str GOOD := rfl
set_option maxHeartbeats 4000000 in
theorem rName_any (s : Txt) (hs : s.length ≤ 100000) (w : World) : Calls Tryz.prog 153 #[.string (str s)] w fun e w' => e = .returned (.bool (nameB s)) ∧ ∃ q, w' = w.drewN q := by
  have hz : (str s).size = s.length := rfl
  have hg : (str GOOD).size = 64 := rfl
  go_enter Tryz.func153, Tryz.ntmps153
  simp only [good_str]
  go_wp2
  go_loopg [3] s.length (fun g i wr => ∃ k q : Nat, k ≤ s.length ∧ g = s.length - k ∧ i = .int .i64 k ∧ Hid ((s.take k).all plainB = true) ∧ wr = w.drewN q)
  case atStart => exact ⟨0, 0, Nat.zero_le _, rfl, rfl, rfl, rfl⟩
  case round =>
    obtain ⟨k, q, hk, rfl, rfl, HA, rfl⟩ := hrel
    by_cases hlt : k < s.length
    · obtain ⟨c, hc⟩ := some_atP hlt
      have hidx := str_at s k c hc
      have HC := Lib.hid hc
      clear hc
      go_wp2_with fail
      go_loopg [4, 5] 64 (fun g b j wr => ∃ m q : Nat, m ≤ 64 ∧ g = 64 - m ∧ j = .int .i64 m ∧ b = .bool ((GOOD.take m).any (fun g => decide (g = c))) ∧ wr = w.drewN q)
      case atStart => exact ⟨0, q, by omega, rfl, rfl, rfl, rfl⟩
      case round =>
        obtain ⟨m, q2, hm, rfl, rfl, rfl, rfl⟩ := hrel
        by_cases hm64 : m < 64
        · obtain ⟨x, hx⟩ := some_atP (show m < GOOD.length from hm64)
          have hidx2 := str_at GOOD m x hx
          have HG := Lib.hid (good_any c m x hx)
          clear hx
          revert HG
          generalize (GOOD.take m).any (fun g => decide (g = c)) = b0
          intro HG
          have HQ : ∀ (W : World) q, W.drewN q = W.drewN q := fun _ _ => rfl
          clear HQ
          by_cases hxc : x = c
          · subst hxc
            have HR : Hid ((GOOD.take (m + 1)).any (fun g => decide (g = x)) = true) := by show _ = _; rw [HG.out]; simp
            clear HG
            cases b0
            all_goals
              go_wp2_with fail
              go_quiet (fail)
              go_wp2
              go_roundg (64 - (m + 1))
              case rel => exact ⟨m + 1, _, by omega, rfl, by go_num, by rw [HR.out], rfl⟩
              case measure => omega
          · have hne : ((x.toNat : Int) == (c.toNat : Int)) = false := by
              rw [beq_eq_false_iff_ne]; intro h; exact hxc (UInt8.toNat_inj.1 (by omega))
            have HR : Hid ((GOOD.take (m + 1)).any (fun g => decide (g = c)) = b0) := by show _ = _; rw [HG.out, decide_eq_false hxc, Bool.or_false]
            clear HG hxc
            cases b0
            all_goals
              go_wp2_with fail
              go_quiet (fail)
              go_wp2
              go_roundg (64 - (m + 1))
              case rel => exact ⟨m + 1, _, by omega, rfl, by go_num, by rw [HR.out], rfl⟩
              case measure => omega
        · obtain rfl : m = 64 := by omega
          rw [show (GOOD.take 64).any (fun g => decide (g = c)) = plainB c from good_plain c]
          by_cases hp : plainB c = true
          · have HS : Hid ((s.take (k + 1)).all plainB = true) := by show _ = _; rw [all_snoc HC.out, HA.out, hp]; rfl
            rw [hp]
            clear hp
            go_wp2
            go_roundg (s.length - (k + 1))
            case rel => exact ⟨k + 1, _, by omega, rfl, by go_num, HS, rfl⟩
            case measure => omega
          · have hp' : plainB c = false := by simpa using hp
            have HN := Lib.hid (name_at HC.out hp')
            rw [hp']
            clear hp hp'
            go_wp2
            go_ret
            exact ⟨ret_bool HN.out.symm, _, rfl⟩
    · obtain rfl : k = s.length := by omega
      have HN := Lib.hid (name_end HA.out)
      go_wp2
      all_goals
        go_ret
        refine ⟨ret_bool ?_, _, rfl⟩
        rw [HN.out]
        first | (rw [Bool.eq_iff_iff]; simp only [Bool.and_eq_true, decide_eq_true_eq]; omega) | (simp; omega)
end Go.Proofs.YtgmneapgihakgaaGreatDoor
/- Declare of a queue that has a name alone, over a shelf. -/
namespace Go.Proofs.YtgmneapgihakgaaGreatDoor
open Go.RowKit Go.Sort Go.Maps
theorem esc_len : ∀ s : List UInt8, (Ord.esc s).length ≤ 2 * s.length
  | [] => by simp [Ord.esc]
  | b :: l => by
    have := esc_len l
    unfold Ord.esc
    split <;> simp <;> omega
theorem kQ_len (nm : Txt) : (kQ nm).length ≤ 7 + 2 * nm.length := by
  have h1 := esc_len nm
  unfold kQ Ord.key Ord.pb pS
  simp [Ord.esc]
  omega
def q0 (nm : Txt) : Qu := ⟨str nm, 0, 0, 0, ⟨#[]⟩⟩
theorem nameB_len {nm : Txt} (h : Tp.nameB nm = true) : nm ≠ [] ∧ nm.length ≤ 32 := by
  unfold Tp.nameB at h
  simp at h
  exact ⟨h.1.1, h.1.2⟩
theorem q0_len (nm : Txt) : (1 :: encQ (q0 nm)).length ≤ 65536 := by
  rw [List.length_cons, encQ_len]; show 20 + 0 + 1 ≤ 65536; omega
set_option maxHeartbeats 4000000 in
theorem declare0 {N : Nat} {M : Nat → Prop} {w : World} {p : Nat} {ks : List Txt} {f : Txt → Txt} (h : ShW N M w p ks f) (hN : N ≤ 80000) (nm : Txt) (hn : Tp.nameB nm = true) (m : Int) (hm : w.cell? ⟨0, 0, none⟩ = some (.int .i64 m)) :
    Calls Tryz.prog 19 #[.iface 25 (.pointer (some ⟨p, 0, none⟩)), .agg #[.string (str nm), .int .u32 0, .int .u64 0, .int .u32 0, .string ⟨#[]⟩]] w fun e w' =>
      (((findOut ks f nm).2.2 ≠ 0 ∧ e = .returned (.int .i64 (findOut ks f nm).2.2) ∧ Below w.heap.size w w')
      ∨ ((findOut ks f nm).2.2 = 0 ∧ (findOut ks f nm).2.1 = true ∧ e = .returned (.int .i64 22) ∧ Below w.heap.size w w')
      ∨ ((findOut ks f nm).2.2 = 0 ∧ (findOut ks f nm).2.1 = false ∧ e = .returned (.int .i64 0) ∧ ∃ M' ks', addS ks (kQ nm) ks' ∧ ShW (N + 1) M' w' p ks' (putF f (kQ nm) (1 :: encQ (q0 nm))) ∧ Went M M' w w')) := by
  have h00 := World.block_lt_of_cell? _ _ hm
  obtain ⟨hne, hlen⟩ := nameB_len hn
  have hkq : (kQ nm).length ≤ 255 := by have := kQ_len nm; omega
  have e1 : kS [pS [113], pS nm] = kQ nm := if_pos hkq
  have e2 : kE [pS [113], pS nm] = 0 := if_pos hkq
  obtain ⟨w0, hw0⟩ : ∃ w0, w0 = w.alloc (.cells #[.string (str nm), .int .u32 0, .int .u64 0, .int .u32 0, .string ⟨#[]⟩] 36) := ⟨_, rfl⟩
  have bA : Below w.heap.size w w0 := by rw [hw0]; exact (Below.refl _ _).alloc (Nat.le_refl _) _
  have x0 : BoxL w0 w.heap.size 36 #[.string (str nm), .int .u32 0, .int .u64 0, .int .u32 0, .string ⟨#[]⟩] := by rw [hw0]; exact BoxL.new w _ _
  have HM : Hid (∀ W, Below w.heap.size w W → W.cell? ⟨0, 0, none⟩ = some (.int .i64 m)) := fun W hW => (hW.cell (p := ⟨0, 0, none⟩) h00).trans hm
  have HN := Lib.hid (name_any nm (by omega) w0)
  rw [hn] at HN
  have HF : Hid (∀ W, Below w.heap.size w W → Calls Tryz.prog 74 #[.iface 25 (.pointer (some ⟨p, 0, none⟩)), .string (str nm)] W fun e w' => e = .returned (.tuple #[aggQ (findOut ks f nm).1, .bool (findOut ks f nm).2.1, .int .i64 (findOut ks f nm).2.2]) ∧ Below W.heap.size W w') := fun W hW => find_any (h.below hW) nm (by omega) m (HM.out W hW)
  have HK : Hid (∀ W, Below w.heap.size w W → Calls Tryz.prog 77 #[.string (str nm)] W fun e w' => e = .returned (.tuple #[.string (str (kQ nm)), .int .i64 0]) ∧ Below W.heap.size W w') := fun W hW => by
    have := skeyQ_any nm (by omega) m W (HM.out W hW)
    rw [e1, e2] at this
    exact this
  have HQ := Lib.hid (fun W => queues_any (str nm) W)
  have HB : Hid (∀ W cd, CdQ W cd (str nm) → Calls Tryz.prog 90 #[cd, .agg #[.string (str nm), .int .u32 0, .int .u64 0, .int .u32 0, .string ⟨#[]⟩]] W fun e w' => e = .returned (.string (str (1 :: encQ (q0 nm)))) ∧ Below W.heap.size W w') := fun W cd hc => hc.bytes (q0 nm) ⟨by show (0 : Nat) < _; omega, by show (0 : Nat) < _; omega, by show (0 : Nat) < _; omega, by show (0 : Nat) < _; omega⟩
  have HP : Hid (∀ W, Below w.heap.size w W → Calls Tryz.prog 81 #[.iface 25 (.pointer (some ⟨p, 0, none⟩)), .string (str (kQ nm)), .string (str (1 :: encQ (q0 nm)))] W fun e w' => e = .returned (.int .i64 0) ∧ ∃ M' ks', addS ks (kQ nm) ks' ∧ ShW (N + 1) M' w' p ks' (putF f (kQ nm) (1 :: encQ (q0 nm))) ∧ Went M M' w w') := fun W hb =>
    (askPut_any (h.below hb) hN (kQ nm) _ hkq (q0_len nm)).mono (fun e w' ⟨h1, M', ks', h2, h3, h4⟩ => ⟨h1, M', ks', h2, h3, h4.pre hb⟩)
  have hstr : (str nm).toList.isEmpty = false := by
    rw [str_list]
    cases nm with
    | nil => exact absurd rfl hne
    | cons c t => rfl
  have HX := Lib.hid x0
  have HA := Lib.hid bA
  have k0 := x0.cell (i := 0) rfl
  have k1 := x0.cell (i := 1) rfl
  have k2 := x0.cell (i := 2) rfl
  have k3 := x0.cell (i := 3) rfl
  have k4 := x0.cell (i := 4) rfl
  rw [hw0] at HN k0 k1 k2 k3 k4
  have HW0 := Lib.hid hw0
  clear e1 e2 hm h h00 hne hlen hn hkq x0 bA hw0
  revert HF
  generalize findOut ks f nm = r
  intro HF
  obtain ⟨q, b, e⟩ := r
  unfold aggQ at HF
  simp only at HF ⊢
  have HBL : Hid (∀ w2, Below w0.heap.size w0 w2 → Below w.heap.size w (w2.alloc (.cells #[.string q.nm, .int .u32 q.most, .int .u64 q.ttl, .int .u32 q.tries, .string q.dead] 36))) := fun w2 hb => (below_step HA.out hb).trans (((Below.refl _ _).alloc (Nat.le_refl _) _).mono (below_step HA.out hb).size)
  by_cases he : e = 0
  · subst he
    cases b with
    | true =>
      go_enter Tryz.func19, Tryz.ntmps19
      go_wp2_with (first
        | (go_at_call 83; refine HN.out.mono ?_; rintro e1 w1 ⟨rfl, rfl⟩)
        | (go_at_call 74; refine (HF.out _ (by rw [← HW0.out]; exact HA.out)).mono ?_; rintro e2 w2 ⟨rfl, hb2⟩))
      go_ret
      exact .inr (.inl ⟨by trivial, by trivial, by trivial, HBL.out _ (by rw [HW0.out]; exact hb2)⟩)
    | false =>
      go_enter Tryz.func19, Tryz.ntmps19
      go_upto_region 17 with (first
        | (go_at_call 83; refine HN.out.mono ?_; rintro e1 w1 ⟨rfl, rfl⟩)
        | (go_at_call 77; refine (HK.out _ (HBL.out _ (by rw [HW0.out]; exact hb2))).mono ?_; rintro e3 w3 ⟨rfl, hb3⟩)
        | (go_at_call 74; refine (HF.out _ (by rw [← HW0.out]; exact HA.out)).mono ?_; rintro e2 w2 ⟨rfl, hb2⟩; have xx := (HX.out.below (by rw [HW0.out]; exact hb2) HX.out.lt).alloc (.cells #[.string q.nm, .int .u32 q.most, .int .u64 q.ttl, .int .u32 q.tries, .string q.dead] 36); have j0 := xx.cell (i := 0) rfl; have j4 := xx.cell (i := 4) rfl; have HXX := Lib.hid xx))
      have HB3 : Hid (Below w.heap.size w w3) := below_step (HBL.out _ (by rw [HW0.out]; exact hb2)) hb3
      have x3 := HXX.out.below hb3 HXX.out.lt
      have n0 := x3.cell (i := 0) rfl
      have n1 := x3.cell (i := 1) rfl
      have n2 := x3.cell (i := 2) rfl
      have n3 := x3.cell (i := 3) rfl
      have n4 := x3.cell (i := 4) rfl
      have HX3 : Hid (BoxL w3.drew w.heap.size 36 #[.string (str nm), .int .u32 0, .int .u64 0, .int .u32 0, .string ⟨#[]⟩]) := x3
      clear x3 HXX
      have hmx := mixed0
      go_region_with (first
        | (go_at_call 81; refine (HP.out _ (by first | exact below_step (below_step HB3.out.drew hb4) hb5 | exact below_step (below_step HB3.out hb4) hb5)).mono ?_; rintro e6 w6 ⟨rfl, hq⟩; have HQ6 := Lib.hid hq; clear hq)
        | (go_at_call 90; refine (HB.out _ _ hcd4).mono ?_; rintro e5 w5 ⟨rfl, hb5⟩)
        | (go_at_call 89; refine (HQ.out _).mono ?_; rintro e4 w4 ⟨cd4, rfl, hcd4, hb4⟩; have x4 := BoxL.below (W' := w4) HX3.out hb4 HX3.out.lt; have o0 := x4.cell (i := 0) rfl; have o1 := x4.cell (i := 1) rfl; have o2 := x4.cell (i := 2) rfl; have o3 := x4.cell (i := 3) rfl; have o4 := x4.cell (i := 4) rfl))
      all_goals
        go_wp2
        go_ret
        exact .inr (.inr ⟨by trivial, by trivial, by trivial, HQ6.out⟩)
  · have hb : (e != 0) = true := by simpa using he
    have HE := Lib.hid he
    clear he
    go_enter Tryz.func19, Tryz.ntmps19
    go_wp2_with (first
      | (go_at_call 83; refine HN.out.mono ?_; rintro e1 w1 ⟨rfl, rfl⟩)
      | (go_at_call 74; refine (HF.out _ (by rw [← HW0.out]; exact HA.out)).mono ?_; rintro e2 w2 ⟨rfl, hb2⟩))
    go_ret
    exact .inl ⟨HE.out, by trivial, HBL.out _ (by rw [HW0.out]; exact hb2)⟩
end Go.Proofs.YtgmneapgihakgaaGreatDoor
/- A binding in memory. -/
namespace Go.Proofs.YtgmneapgihakgaaGreatDoor
open Go.RowKit
structure Bnd where
  ex : ByteArray
  kind : Int
  key : ByteArray
  qu : ByteArray
def aggB (b : Bnd) : Value := .agg #[.string b.ex, .int .i64 b.kind, .string b.key, .string b.qu]
end Go.Proofs.YtgmneapgihakgaaGreatDoor
/- schema.Bind: a binding's key. -/
namespace Go.Proofs.YtgmneapgihakgaaGreatDoor
open Go.RowKit Go.Sort Go.Maps
def pN (n : Nat) : Ord.P := ⟨false, n, []⟩
/-- The parts of a binding's key. -/
def bParts (ex : Txt) (u : Nat) (ky qu : Txt) : List Ord.P := [pS [98], pS ex, pN u, pS ky, pS qu]
theorem Sl.five (w : World) (ex : Txt) (u : Nat) (ky qu : Txt) (T : TypeId) : Sl (w.alloc (.cells #[.bool true, .int .u64 0, .string (str [98]), .bool true, .int .u64 0, .string (str ex), .bool false, .int .u64 u, .string ⟨#[]⟩, .bool true, .int .u64 0, .string (str ky), .bool true, .int .u64 0, .string (str qu)] T)) (.slice (some ⟨w.heap.size, 0, none⟩) 5 5) (bParts ex u ky qu) := by
  refine ⟨_, w.heap.size, 0, 5, rfl, .inr rfl, fun j r hj => ?_⟩
  match j, hj with
  | 0, hj => cases hj; refine ⟨?_, ?_, ?_⟩ <;> simp [pS]
  | 1, hj => cases hj; refine ⟨?_, ?_, ?_⟩ <;> simp [pS]
  | 2, hj => cases hj; refine ⟨?_, ?_, ?_⟩ <;> simp [pN] <;> rfl
  | 3, hj => cases hj; refine ⟨?_, ?_, ?_⟩ <;> simp [pS]
  | 4, hj => cases hj; refine ⟨?_, ?_, ?_⟩ <;> simp [pS]
  | (j + 5), hj => simp [bParts] at hj
theorem keyFive (ex : Txt) (u : Nat) (ky qu : Txt) (he : ex.length ≤ 400) (hu : u < 18446744073709551616) (hk : ky.length ≤ 400) (hq : qu.length ≤ 400) (m : Int) (W : World) (hm : W.cell? ⟨0, 0, none⟩ = some (.int .i64 m)) (T : TypeId) :
    Calls Tryz.prog 125 #[.slice (some ⟨W.heap.size, 0, none⟩) 5 5] (W.alloc (.cells #[.bool true, .int .u64 0, .string (str [98]), .bool true, .int .u64 0, .string (str ex), .bool false, .int .u64 u, .string ⟨#[]⟩, .bool true, .int .u64 0, .string (str ky), .bool true, .int .u64 0, .string (str qu)] T)) fun e w' => e = .returned (.tuple #[.string (str (kS (bParts ex u ky qu))), .int .i64 (kE (bParts ex u ky qu))]) ∧ Below (W.heap.size + 1) (W.alloc (.cells #[.bool true, .int .u64 0, .string (str [98]), .bool true, .int .u64 0, .string (str ex), .bool false, .int .u64 u, .string ⟨#[]⟩, .bool true, .int .u64 0, .string (str ky), .bool true, .int .u64 0, .string (str qu)] T)) w' := by
  have h0 := World.block_lt_of_cell? _ _ hm
  have h1 := key_any _ (bParts ex u ky qu) (by simp [bParts]) m _ (Sl.five W ex u ky qu T) (by
    intro p hp
    simp [bParts] at hp
    rcases hp with rfl | rfl | rfl | rfl | rfl
    · exact ⟨by simp [pS], by simp [pS]⟩
    · exact ⟨by simp [pS], he⟩
    · exact ⟨hu, by simp [pN]⟩
    · exact ⟨by simp [pS], hk⟩
    · exact ⟨by simp [pS], hq⟩) (((Below.refl _ _).alloc (Nat.le_refl _) _ |>.cell (p := ⟨0, 0, none⟩) h0).trans hm)
  rw [keyOut_eq, World.size_alloc] at h1
  exact h1
theorem strP' (s : ByteArray) (w : World) : Calls Tryz.prog 103 #[.string s] w fun e w' => e = .returned (.agg #[.bool true, .int .u64 0, .string s]) ∧ Below w.heap.size w w' := strP_any s.data.toList w
theorem numP' (n : Nat) (w : World) : Calls Tryz.prog 104 #[.int .u64 n] w fun e w' => e = .returned (.agg #[.bool false, .int .u64 n, .string ⟨#[]⟩]) ∧ Below w.heap.size w w' := num_any n w
/-- A binding's box, from w on. -/
def SB (w : World) (e : ByteArray) (k : Int) (ky q : ByteArray) (W : World) : Prop := W.cell? ⟨w.heap.size, 0, none⟩ = some (.string e) ∧ W.cell? ⟨w.heap.size, 1, none⟩ = some (.int .i64 k) ∧ W.cell? ⟨w.heap.size, 2, none⟩ = some (.string ky) ∧ W.cell? ⟨w.heap.size, 3, none⟩ = some (.string q) ∧ Below w.heap.size w W
theorem sb0 (w : World) (e : ByteArray) (k : Int) (ky q : ByteArray) (T : TypeId) : SB w e k ky q (w.alloc (.cells #[.string e, .int .i64 k, .string ky, .string q] T)).drew := by
  have b := BoxL.new w #[.string e, .int .i64 k, .string ky, .string q] T
  exact ⟨b.cell (i := 0) rfl, b.cell (i := 1) rfl, b.cell (i := 2) rfl, b.cell (i := 3) rfl, ((Below.refl _ _).alloc (Nat.le_refl _) _).drew⟩
theorem sbs {w W W' : World} {e : ByteArray} {k : Int} {ky q : ByteArray} (h : SB w e k ky q W) (hb : Below W.heap.size W W') : SB w e k ky q W' := by
  obtain ⟨h0, h1, h2, h3, h4⟩ := h
  have hl : w.heap.size < W.heap.size := World.block_lt_of_cell? _ _ h0
  exact ⟨(hb.cell (p := ⟨w.heap.size, 0, none⟩) hl).trans h0, (hb.cell (p := ⟨w.heap.size, 1, none⟩) hl).trans h1, (hb.cell (p := ⟨w.heap.size, 2, none⟩) hl).trans h2, (hb.cell (p := ⟨w.heap.size, 3, none⟩) hl).trans h3, below_step h4 hb⟩
theorem sbB {w W : World} {e : ByteArray} {k : Int} {ky q : ByteArray} (h : SB w e k ky q W) : Below w.heap.size w W := h.2.2.2.2
theorem sbM {w W : World} {e : ByteArray} {k : Int} {ky q : ByteArray} {o : Obj} {m : Int} (hm : ∀ W, Below w.heap.size w W → W.cell? ⟨0, 0, none⟩ = some (.int .i64 m)) (h : SB w e k ky q (W.alloc o)) : W.cell? ⟨0, 0, none⟩ = some (.int .i64 m) := by
  have h1 := hm _ h.2.2.2.2
  have h2 : 0 < w.heap.size := World.block_lt_of_cell? _ _ (hm w (Below.refl _ _))
  have h3 : w.heap.size < (W.alloc o).heap.size := World.block_lt_of_cell? _ _ h.1
  rw [World.size_alloc] at h3
  exact (((Below.refl W.heap.size W).alloc (Nat.le_refl _) o).cell (p := ⟨0, 0, none⟩) (by show 0 < W.heap.size; omega)).symm.trans h1
theorem sba {w W : World} {e : ByteArray} {k : Int} {ky q : ByteArray} (h : SB w e k ky q W) (o : Obj) : SB w e k ky q (W.alloc o) := sbs h ((Below.refl _ _).alloc (Nat.le_refl _) o)
set_option maxHeartbeats 4000000 in
theorem sBind_any (ex : Txt) (k : Int) (ky qu : Txt) (u : Nat) (hku : IntKind.u64.wrap k = (u : Int)) (he : ex.length ≤ 400) (hu : u < 18446744073709551616) (hk : ky.length ≤ 400) (hq : qu.length ≤ 400) (m : Int) (w : World) (hm : w.cell? ⟨0, 0, none⟩ = some (.int .i64 m)) :
    Calls Tryz.prog 79 #[.agg #[.string (str ex), .int .i64 k, .string (str ky), .string (str qu)]] w fun e w' => e = .returned (.tuple #[.string (str (kS (bParts ex u ky qu))), .int .i64 (kE (bParts ex u ky qu))]) ∧ Below w.heap.size w w' := by
  have h00 := World.block_lt_of_cell? _ _ hm
  have HM : Hid (∀ W, Below w.heap.size w W → W.cell? ⟨0, 0, none⟩ = some (.int .i64 m)) := fun W hW => (hW.cell (p := ⟨0, 0, none⟩) h00).trans hm
  have HK := Lib.hid (fun W T hW => keyFive ex u ky qu he hu hk hq m W hW T)
  have HS := Lib.hid strP'
  have HN := Lib.hid (numP' u)
  have H0 := Lib.hid (sb0 w (str ex) k (str ky) (str qu) 38)
  have hmx := mixed0
  clear hm h00 he hu hk hq
  go_enter Tryz.func79, Tryz.ntmps79
  go_wp2
  go_region_held3 (fun W => W.cell? ⟨w.heap.size, 0, none⟩ = some (.string (str ex)) ∧ W.cell? ⟨w.heap.size, 1, none⟩ = some (.int .i64 k) ∧ W.cell? ⟨w.heap.size, 2, none⟩ = some (.string (str ky)) ∧ W.cell? ⟨w.heap.size, 3, none⟩ = some (.string (str qu)) ∧ Below w.heap.size w W)
    ((first | with_reducible assumption | exact H0.out | exact sbs ‹_› hb1 | exact sbs ‹_› (by rw [World.size_alloc]; exact hb1) | exact sba ‹_› _))
    (first
      | (go_at_call 103; refine (HS.out _ _).mono ?_; rintro e w1 ⟨rfl, hb1⟩)
      | (go_at_call 104; refine (HN.out _).mono ?_; rintro e w1 ⟨rfl, hb1⟩)
      | (go_at_call 125; refine (HK.out _ _ (by first | exact HM.out _ (sbB (e := str ex) (k := k) (ky := str ky) (q := str qu) ‹_›) | exact sbM (e := str ex) (k := k) (ky := str ky) (q := str qu) HM.out ‹_›)).mono ?_; rintro e w1 ⟨rfl, hb1⟩))
  all_goals
    go_wp2
    go_ret2
    exact ⟨rfl, by first | exact sbB (e := str ex) (k := k) (ky := str ky) (q := str qu) ‹_› | assumption⟩
end Go.Proofs.YtgmneapgihakgaaGreatDoor
