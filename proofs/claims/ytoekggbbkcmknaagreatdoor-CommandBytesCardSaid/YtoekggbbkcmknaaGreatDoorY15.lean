/- CommandBytes: for every row of commands and every number the law answers true; the listed table is tied to the text of the program. No condition of its own. -/
import Derived.Test.YtoekggbbkcmknaaGreatDoorY14
import Derived.Deep.LoopGhost
import Derived.Test.YtoekggbbkcmknaaGreatDoorY05
import Derived.ProofKit
import Derived.OpenShut
import Derived.ChangeArms
import Derived.ChangeSlices
import Derived.ChangeOld
import Derived.Carry
import Derived.Deep.Slices
import Derived.Lib.SmallJoins
import Derived.WalkKit
import Derived.Test.YtoekggbbkcmknaaGreatDoorCards
import Derived.Test.YtoekggbbkcmknaaGreatDoorTie
import Derived.ShutString
import Derived.Below
import Derived.HandedShaped
import Derived.Lay
import Derived.LaidOnce
import Derived.SevenTiedAt
import Derived.MakeChecks
import Derived.Shelf.Vars
set_option maxRecDepth 100000
set_option maxHeartbeats 4000000
set_option linter.unusedVariables false
/- CommandBytes: the law's walk. -/
namespace Go.Proofs.YtoekggbbkcmknaaGreatDoor
open Go.RowKit
attribute [local go_sem ↓] zeroC_eq newC_eq loadC_eq storeC_eq buildC_eq zeroR_eq newR_eq loadR_eq storeR_eq buildR_eq
attribute [local go_sem] run_zeroC run_newC run_buildC0 run_buildC1 run_neqC run_eqlC run_guardC run_zeroR run_newR run_buildR0 run_buildR1 run_neqR run_eqlR run_guardR
attribute [local go_sem ↓] bslC_eq bslR_eq
attribute [local go_sem] run_bslC run_bslR
/-- All bytes so far. -/
def allB (n : Nat) (l : List Cm) : ByteArray := str (Oc.big 4 n ++ l.flatMap byL)
theorem allB_snoc (n : Nat) (l : List Cm) (c : Cm) : allB n (l ++ [c]) = allB n l ++ (bytesC c).1 := by
  unfold allB
  have h : str (byL c) = (bytesC c).1 := str_eq _
  rw [← h, str_append, List.flatMap_append, List.append_assoc]; simp
theorem allB_le (n : Nat) (l : List Cm) (h : l.length ≤ 70) : (allB n l).size ≤ 11470274 := by
  unfold allB
  rw [str_size, List.length_append, Oc.big_length]
  have := byLs_le l
  omega
set_option maxRecDepth 1000000 in
set_option maxHeartbeats 400000 in
theorem bytes_walk (v : Value) (l : List Cm) (more : Nat) (hmore : more < 256) (w : World) (hF : Forms w) (hv : SlW w v l) (hcap : ∃ a n c, v = .slice a n c ∧ n ≤ c ∧ c ≤ maxLen) (hok : ∀ c ∈ l, c.ok) :
    Calls Tryz.prog 3 #[v, .int .u8 more] w fun e w' => e = .returned (.bool true) ∧ Below w.heap.size w w' := by
  obtain ⟨a, b, o, c, rfl, hA, hx⟩ := hv.get
  obtain ⟨hcl, hcm⟩ : l.length ≤ c ∧ c ≤ maxLen := by obtain ⟨_, _, _, he, h1, h2⟩ := hcap; cases he; exact ⟨h1, h2⟩
  have HA := Lib.hid hA
  have HX := Lib.hid hx
  have HV := Lib.hid hv
  have HF := Lib.hid hF
  have HOK := Lib.hid hok
  have HCL := Lib.hid hcl
  have HCM := Lib.hid hcm
  have HAW := Lib.hid (awake_any w hF)
  clear hx hv hF hok hA hcl hcm hcap
  by_cases h70 : (70 : Int) < (l.length : Int)
  · go_enter Tryz.func3, Tryz.ntmps3
    go_wp2_with (go_at_call 6; refine HAW.out.mono ?_; rintro e w1 ⟨rfl, hb1⟩)
    go_ret
    exact ⟨rfl, hb1⟩
  · have g70 : decide ((70 : Int) < (l.length : Int)) = false := decide_eq_false h70
    have hl70 : l.length ≤ 70 := by omega
    have HML := Lib.hid (modL_len more l)
    have HMO := Lib.hid (modL_ok (more := more) HOK.out)
    have HMA := Lib.hid (fun k x (h : l[k]? = some x) => modL_at more k l x h)
    have HMZ : Hid (more = 0 → modL more l = l) := by intro h; rw [h]; exact modL_zero l
    generalize hm : modL more l = m at HML HMO HMA HMZ
    have HM := Lib.hid hm
    clear hm h70
    have HBG := Lib.hid (fun W => big4 (IntKind.u64.wrap (l.length : Int)) l.length (by rw [IntKind.wrap_u64]; omega) (by omega) W)
    have HBG2 := Lib.hid (fun W => big4 (l.length : Int) l.length rfl (by omega) W)
    have HB0 : Hid (str (Oc.big 4 l.length) = allB l.length (m.take 0)) := by show _ = _; unfold allB; rw [List.take_zero, List.flatMap_nil, List.append_nil]
    go_enter Tryz.func3, Tryz.ntmps3
    go_wp2_with (first
      | (go_at_call 6; refine HAW.out.mono ?_; rintro e w1 ⟨rfl, hb1⟩; have HB1 := Lib.hid hb1; clear hb1)
      | (go_at_call 7; (first | with_reducible refine (HBG2.out _).mono ?_ | with_reducible refine (HBG.out _).mono ?_); rintro e w2 ⟨rfl, hb2⟩; have HB2 := Lib.hid (below_step HB1.out hb2); clear hb2))
    clear HAW HBG HBG2 HB1
    go_loopg [0, 5, 6, 26] l.length (fun n v0 al bd i wr => ∃ (k : Nat) (A : ByteArray) (e : Int) (lv : Value), lv = v0 ∧ k ≤ l.length ∧ n = l.length - k ∧ i = .int .i64 k ∧ al = .string A ∧ bd = .int .i64 e ∧ (k = 0 → lv = .slice a l.length c) ∧ Hid (0 < k → SlW wr lv m) ∧ Hid (A = allB l.length (m.take k)) ∧ Hid (e = firstW (m.take k)) ∧ Hid (Below w.heap.size w wr))
    case atStart => exact ⟨0, str (Oc.big 4 l.length), 0, _, rfl, Nat.zero_le _, rfl, rfl, rfl, rfl, fun _ => rfl, Lib.hid (fun h => absurd h (Nat.lt_irrefl _)), HB0, Lib.hid (by rw [List.take_zero]; rfl), HB2⟩
    case round =>
      obtain ⟨k, A, e, lv, rfl, hk, rfl, rfl, rfl, rfl, hv0, HS, HAB, HE, HB⟩ := hrel
      by_cases hlt : k < l.length
      case pos =>
        obtain ⟨x, hx⟩ : ∃ x, l[k]? = some x := ⟨_, List.getElem?_eq_getElem hlt⟩
        have hC := run_loadAtC (HX.out.below rfl HB.out) hx
        obtain rfl := HA.out (by intro h; rw [h] at hlt; cases hlt)
        have hn2 := BxC.newC wr (Cm.zero 0)
        have hst1 := run_storeC hn2 x
        obtain ⟨hn3, hu3⟩ := hn2.stored x
        have hld := run_loadC hn3
        have HBX := Lib.hid hn3
        have HB3 := Lib.hid ((below_alloc' wr (objC (Cm.zero 0))).trans (hu3.below (Nat.le_refl _)))
        have HLG := Lib.hid (fun W => light_any x W)
        have HMX := Lib.hid (HMA.out k x hx)
        have HXO := Lib.hid (HOK.out x (List.mem_of_getElem? hx))
        have hlt70 : k < 70 := by omega
        have hki : (k : Int) < (l.length : Int) := by omega
        have HXL := Lib.hid hx
        clear hn2 hn3 hu3 hx
        by_cases hlg : longest x ≤ 2000
        case neg =>
          rw [decide_eq_false hlg] at HLG
          clear hlg
          go_wp2_with (go_at_call 8; refine (HLG.out _).mono ?_; rintro e w3 ⟨rfl, hb3⟩)
          go_ret
          exact ⟨rfl, (HB.out.trans (HB3.out.mono HB.out.size)).trans (hb3.mono (by have := HB.out.size; have := HB3.out.size; omega))⟩
        case pos =>
          rw [decide_eq_true hlg] at HLG
          have HLX := Lib.hid hlg
          clear hlg
          go_upto_region 12 with (go_at_call 8; refine (HLG.out _).mono ?_; rintro e w3 ⟨rfl, hb3⟩; have HBX3 := Lib.hid (HBX.out.below hb3); have HB4 := Lib.hid ((HB.out.trans (HB3.out.mono HB.out.size)).trans (hb3.mono (by have := HB.out.size; have := HB3.out.size; omega))); have HBW := Lib.hid (HB3.out.trans (hb3.mono HB3.out.size)); clear hb3)
          by_cases hk0 : k = 0
          case neg =>
            have hki0 : ((k : Int) == 0) = false := by rw [beq_eq_false_iff_ne]; omega
            obtain ⟨y, hy⟩ : ∃ y, y = x := ⟨_, rfl⟩
            have HYL : Hid (m[k]? = some y) := by show _ = _; rw [hy]; have := HMX.out; rwa [if_neg (fun h => hk0 h.1)] at this
            have HYO : Hid y.ok := by rw [hy]; exact HXO
            have HYT : Hid (Lt4 y) := by rw [hy]; exact lt4_of HLX.out
            have HBY : Hid (BxC w3 wr.heap.size y) := by rw [hy]; exact HBX3
            have HSZ : Hid (SlW w3 lv m) := by
              have h1 := HS.out (by omega)
              exact h1.below HBW.out
            have HBZ := HB4
            clear hy hk0 hv0
            go_upto_region 15 with fail
            have hld5 := run_loadC HBY.out
            have HBC := Lib.hid (fun W (hV : Forms W) => bytes_any y HYO.out W hV)
            have HRC := Lib.hid (fun W => refBytes_all y HYO.out HYT.out W)
            have HYW := Lib.hid (bytes_wrong y)
            have hys := bytes_le y
            have HTK := Lib.hid (take_snocL HYL.out)
            have HSN := Lib.hid (allB_snoc l.length (m.take k) y)
            have HFN := Lib.hid (firstW_snoc (m.take k) y)
            have haz : A.size ≤ 11470274 := by rw [HAB.out]; exact allB_le _ _ (by rw [List.length_take, HML.out]; omega)
            have HFZ := Lib.hid (HF.out.below HBZ.out HF.out.lt)
            generalize hBYE : bytesC y = BYE at HBC HRC HYW hys HSN
            clear hBYE
            obtain ⟨bs, be⟩ := BYE
            simp only at HBC HRC HYW hys HSN
            have ha1 : A.size + bs.size ≤ 9223372036854775807 := by omega
            have ha2 : ¬ 9223372036854775807 < A.size + bs.size := by omega
            clear hys haz
            have HAN : Hid (A ++ bs = allB l.length (m.take (k + 1))) := by show _ = _; rw [HTK.out, HSN.out, HAB.out]
            have HLT : Hid (k < l.length) := hlt
            clear hki hlt
            by_cases he : e = 0
            case pos =>
              subst he
              have HEN : Hid (be = firstW (m.take (k + 1))) := by show _ = _; rw [HTK.out, HFN.out, if_pos HE.out.symm, HYW.out]
              go_wp2_with (first
                | (go_at_call 11; (with_reducible refine (HRC.out _).mono ?_); rintro e w7 ⟨rfl, hb7⟩; have HB7 := Lib.hid (HB6.out.trans (hb7.mono HB6.out.size)); have HS7 := Lib.hid (HS6.out.below hb7); clear hb7)
                | (go_at_call 10; (with_reducible refine (HBC.out _ HFZ.out).mono ?_); rintro e w6 ⟨rfl, hb6⟩; have hld6 := run_loadC (HBY.out.below hb6); have HB6 := Lib.hid (HBZ.out.trans (hb6.mono HBZ.out.size)); have HS6 := Lib.hid (HSZ.out.below hb6); clear hb6))
              go_roundg (l.length - (k + 1))
              case measure => have := HLT.out; omega
              case rel => exact ⟨k + 1, _, _, _, rfl, HLT.out, rfl, by go_num, rfl, rfl, fun h => absurd h (Nat.succ_ne_zero _), Lib.hid (fun _ => HS7.out), HAN, HEN, HB7⟩
            case neg =>
              have hee : (e == 0) = false := by rw [beq_eq_false_iff_ne]; exact he
              have HEN : Hid (e = firstW (m.take (k + 1))) := by show _ = _; rw [HTK.out, HFN.out, if_neg (by rw [← HE.out]; exact he)]; exact HE.out
              clear he
              go_wp2_with (first
                | (go_at_call 11; (with_reducible refine (HRC.out _).mono ?_); rintro e w7 ⟨rfl, hb7⟩; have HB7 := Lib.hid (HB6.out.trans (hb7.mono HB6.out.size)); have HS7 := Lib.hid (HS6.out.below hb7); clear hb7)
                | (go_at_call 10; (with_reducible refine (HBC.out _ HFZ.out).mono ?_); rintro e w6 ⟨rfl, hb6⟩; have hld6 := run_loadC (HBY.out.below hb6); have HB6 := Lib.hid (HBZ.out.trans (hb6.mono HBZ.out.size)); have HS6 := Lib.hid (HSZ.out.below hb6); clear hb6))
              go_roundg (l.length - (k + 1))
              case measure => have := HLT.out; omega
              case rel => exact ⟨k + 1, _, _, _, rfl, HLT.out, rfl, by go_num, rfl, rfl, fun h => absurd h (Nat.succ_ne_zero _), Lib.hid (fun _ => HS7.out), HAN, HEN, HB7⟩
          case pos =>
            subst hk0
            obtain rfl := hv0 rfl
            by_cases hm0 : more = 0
            case pos =>
              subst hm0
              have hml : m = l := HMZ.out rfl
              obtain ⟨y, hy⟩ : ∃ y, y = x := ⟨_, rfl⟩
              have HYL : Hid (m[0]? = some y) := by show _ = _; rw [hy]; have := HMX.out; rwa [if_neg (fun h => absurd h.2 (Nat.lt_irrefl _))] at this
              have HYO : Hid y.ok := by rw [hy]; exact HXO
              have HYT : Hid (Lt4 y) := by rw [hy]; exact lt4_of HLX.out
              have HBY : Hid (BxC w3 wr.heap.size y) := by rw [hy]; exact HBX3
              have HSZ : Hid (SlW w3 (.slice (some ⟨b, o, none⟩) l.length c) m) := by
                show SlW _ _ _
                rw [hml]
                exact HV.out.below HB4.out
              have HBZ := HB4
              clear hy hv0 hml
              go_upto_region 15 with fail
              have hld5 := run_loadC HBY.out
              have HBC := Lib.hid (fun W (hV : Forms W) => bytes_any y HYO.out W hV)
              have HRC := Lib.hid (fun W => refBytes_all y HYO.out HYT.out W)
              have HYW := Lib.hid (bytes_wrong y)
              have hys := bytes_le y
              have HTK := Lib.hid (take_snocL HYL.out)
              have HSN := Lib.hid (allB_snoc l.length (m.take 0) y)
              have HFN := Lib.hid (firstW_snoc (m.take 0) y)
              have haz : A.size ≤ 11470274 := by rw [HAB.out]; exact allB_le _ _ (by rw [List.length_take, HML.out]; omega)
              have HFZ := Lib.hid (HF.out.below HBZ.out HF.out.lt)
              generalize hBYE : bytesC y = BYE at HBC HRC HYW hys HSN
              clear hBYE
              obtain ⟨bs, be⟩ := BYE
              simp only at HBC HRC HYW hys HSN
              have ha1 : A.size + bs.size ≤ 9223372036854775807 := by omega
              have ha2 : ¬ 9223372036854775807 < A.size + bs.size := by omega
              clear hys haz
              have HAN : Hid (A ++ bs = allB l.length (m.take (0 + 1))) := by show _ = _; rw [HTK.out, HSN.out, HAB.out]
              have HLT : Hid (0 < l.length) := hlt
              clear hki hlt
              by_cases he : e = 0
              case pos =>
                subst he
                have HEN : Hid (be = firstW (m.take (0 + 1))) := by show _ = _; rw [HTK.out, HFN.out, if_pos HE.out.symm, HYW.out]
                go_wp2_with (first
                  | (go_at_call 11; (with_reducible refine (HRC.out _).mono ?_); rintro e w7 ⟨rfl, hb7⟩; have HB7 := Lib.hid (HB6.out.trans (hb7.mono HB6.out.size)); have HS7 := Lib.hid (HS6.out.below hb7); clear hb7)
                  | (go_at_call 10; (with_reducible refine (HBC.out _ HFZ.out).mono ?_); rintro e w6 ⟨rfl, hb6⟩; have hld6 := run_loadC (HBY.out.below hb6); have HB6 := Lib.hid (HBZ.out.trans (hb6.mono HBZ.out.size)); have HS6 := Lib.hid (HSZ.out.below hb6); clear hb6))
                go_roundg (l.length - (0 + 1))
                case measure => have := HLT.out; omega
                case rel => exact ⟨0 + 1, _, _, _, rfl, HLT.out, rfl, by go_num, rfl, rfl, fun h => absurd h (Nat.succ_ne_zero _), Lib.hid (fun _ => HS7.out), HAN, HEN, HB7⟩
              case neg =>
                have hee : (e == 0) = false := by rw [beq_eq_false_iff_ne]; exact he
                have HEN : Hid (e = firstW (m.take (0 + 1))) := by show _ = _; rw [HTK.out, HFN.out, if_neg (by rw [← HE.out]; exact he)]; exact HE.out
                clear he
                go_wp2_with (first
                  | (go_at_call 11; (with_reducible refine (HRC.out _).mono ?_); rintro e w7 ⟨rfl, hb7⟩; have HB7 := Lib.hid (HB6.out.trans (hb7.mono HB6.out.size)); have HS7 := Lib.hid (HS6.out.below hb7); clear hb7)
                  | (go_at_call 10; (with_reducible refine (HBC.out _ HFZ.out).mono ?_); rintro e w6 ⟨rfl, hb6⟩; have hld6 := run_loadC (HBY.out.below hb6); have HB6 := Lib.hid (HBZ.out.trans (hb6.mono HBZ.out.size)); have HS6 := Lib.hid (HSZ.out.below hb6); clear hb6))
                go_roundg (l.length - (0 + 1))
                case measure => have := HLT.out; omega
                case rel => exact ⟨0 + 1, _, _, _, rfl, HLT.out, rfl, by go_num, rfl, rfl, fun h => absurd h (Nat.succ_ne_zero _), Lib.hid (fun _ => HS7.out), HAN, HEN, HB7⟩
            case neg =>
              have hmi : 0 < more := by omega
              have HMP : Hid (0 < more) := by show _ < _; omega
              have HMR := Lib.hid hmore
              clear hv0 hm0 hmore
              have hb12 := HBX3.out.cell 12 _ rfl
              have hf12 := HBX3.out.free 12 (by decide)
              obtain ⟨R, hR⟩ : ∃ R, R = str (Lib.repeatL [97] (32766 + more % 4)) := ⟨_, rfl⟩
              have HREP : Hid (∀ W, Calls Tryz.prog 9 #[.string ⟨#[97]⟩, .int .i64 (32766 + (more : Int) % 4)] W fun e w' => e = .returned (.string R) ∧ Below W.heap.size W w') := by rw [hR]; exact fun W => repeat_at _ _ (by omega) (by omega) W
              obtain ⟨y, hy⟩ : ∃ y, y = modC more x := ⟨_, rfl⟩
              have HYL : Hid (m[0]? = some y) := by show _ = _; rw [hy]; have := HMX.out; rwa [if_pos ⟨rfl, HMP.out⟩] at this
              have HYO : Hid y.ok := by rw [hy]; exact modC_ok HXO.out
              have HYT : Hid (Lt4 y) := by rw [hy]; exact lt4_mod HLX.out
              have HYY : Hid ({ x with body := R } = y) := by show _ = _; rw [hy, hR]; rfl
              have HMY : Hid (m = y :: l.drop 1) := by
                show _ = _
                have h1 := HM.out
                rw [← h1, hy]
                cases l with
                | nil => exact absurd hlt (by simp)
                | cons d l =>
                  have h2 : d = x := by have := HXL.out; simpa using this
                  rw [modL_cons, if_pos HMP.out, h2]; rfl
              clear hy hR
              go_upto_region 14 with (go_at_call 9; refine (HREP.out _).mono ?_; rintro e w4 ⟨rfl, hb4⟩; have hb13 := (HBX3.out.below hb4).cell 12 _ rfl; have hf13 := (HBX3.out.below hb4).free 12 (by decide); have HBX4 := Lib.hid (HBX3.out.below hb4); have HB5 := Lib.hid (HB4.out.trans (hb4.mono HB4.out.size)); clear hb4)
              have HBY4 : Hid (BxC (w4.setCell ⟨wr.heap.size, 12, none⟩ (.string R)) wr.heap.size y) := by
                have h := HBX4.out.set .b { x with body := R }
                rw [← HYY.out]
                exact h
              have HB6 : Hid (Below w.heap.size w (w4.setCell ⟨wr.heap.size, 12, none⟩ (.string R))) := HB5.out.setCell (p := ⟨wr.heap.size, 12, none⟩) HB.out.size _
              clear hb12 hf12 hb13 hf13 HBX4 HB5
              generalize (w4.setCell ⟨wr.heap.size, 12, none⟩ (.string R)) = W4 at HBY4 HB6 ⊢
              have hldW : ∀ W, W.heap = W4.heap → (loadC ⟨wr.heap.size, 0, none⟩).run Tryz.prog W = .ok y.agg W := fun W h => run_loadC (HBY4.out.heap h)
              have hld4 := hldW W4.drew rfl
              have hl1 : 1 ≤ l.length := by omega
              have hlc := HCL.out
              go_cut [0] (fun v wx => Hid (SlW wx v m) ∧ Hid (BxC wx wr.heap.size y) ∧ Hid (Below w.heap.size w wx))
              case first =>
                refine wp_region_noPanic ?_
                refine wp_region_held_drew (S := fun W' => (loadC ⟨wr.heap.size, 0, none⟩).run Tryz.prog W' = .ok y.agg W') (by kernel_rfl) hld4 (fun hHeld => ?_)
                refine wpAnyH_take (i := 0) (v := ?hv0) rfl (by kernel_rfl) (by kernel_rfl) (by kernel_rfl) (fun _ _ _ h => h) (Or.inl ⟨by rfl, ?hy0⟩) (by assumption) ?_
                case hy0 => (intro w hSw; (try dsimp only at hSw); (try simp only [List.getElem_toArray, List.getElem_cons_zero]); go_simp; (try with_reducible rfl))
                try simp only [Act.put, List.setIfInBounds_toArray, List.set_cons_zero, List.set_cons_succ, List.getElem_toArray, List.getElem_cons_zero]
                refine wpAnyH_take (i := 2) (v := ?hv2) rfl (by kernel_rfl) (by kernel_rfl) (by kernel_rfl) (fun _ _ _ h => h) (Or.inl ⟨by rfl, ?hy2⟩) (by assumption) ?_
                case hy2 => (intro w hSw; (try dsimp only at hSw); (try simp only [List.getElem_toArray, List.getElem_cons_succ, List.getElem_cons_zero]); go_simp; (try with_reducible rfl))
                try simp only [Act.put, List.setIfInBounds_toArray, List.set_cons_zero, List.set_cons_succ, List.getElem_toArray, List.getElem_cons_succ, List.getElem_cons_zero]
                obtain ⟨oo, hoo⟩ : ∃ oo, oo = (if c = 1 then o else o + 18) := ⟨_, rfl⟩
                have HOO := Lib.hid hoo
                clear hoo
                refine wpAnyH_take (i := 3) (v := .slice (some ⟨b, oo, none⟩) (l.length - 1) (c - 1)) rfl (by kernel_rfl) (by kernel_rfl) (by kernel_rfl) (fun _ _ _ h => h) (Or.inl ⟨by rfl, ?hy3⟩) (by assumption) ?_
                case hy3 =>
                  intro w hSw
                  have hs := slice_tail b o l.length c hl1 hlc w
                  rw [← HOO.out] at hs
                  show ((Instr.slice 22 (.slice (some ⟨b, o, none⟩) l.length c) (some (.int .i64 1)) none none >>= fun x => pure (Next.value x))).run Tryz.prog w = _
                  rw [Sem.run_bind, hs]
                  rfl
                try simp only [Act.put, List.setIfInBounds_toArray, List.set_cons_zero, List.set_cons_succ, List.getElem_toArray, List.getElem_cons_succ, List.getElem_cons_zero]
                refine wpAnyH_ready (rs := [1]) (by kernel_rfl) (by simp) ?_
                refine AllReadyH.cons rfl (fun K hK => ?_) AllReadyH.nil
                try simp only [List.getElem_toArray, List.getElem_cons_succ, List.getElem_cons_zero]
                go_simp
                refine hK.out _ _ ?hk1 (fun hHeld => ?_)
                case hk1 => exact run_loadC (HBY4.out.alloc (objC y)).drew
                clear hK K
                try simp only [Act.put, List.setIfInBounds_toArray, List.set_cons_zero, List.set_cons_succ, List.getElem_toArray, List.getElem_cons_succ, List.getElem_cons_zero]
                obtain ⟨v', W5, hrun, hsw, hb5⟩ := put_first W4 y l b o c hl1 hlc HCM.out hl70 (HX.out.below rfl HB6.out) _ (.inl rfl)
                rw [← HOO.out] at hrun
                clear HOO
                refine wpAnyH_ready (rs := [4]) (by kernel_rfl) (by simp) ?_
                refine AllReadyH.cons rfl (fun K hK => ?_) AllReadyH.nil
                try simp only [List.getElem_toArray, List.getElem_cons_succ, List.getElem_cons_zero]
                refine step_append_run (o := { dst := some 50, op := Op.call { callee := Callee.builtin Builtin.append, args := #[Operand.tmp 47, Operand.tmp 49], argTypes := #[22, 22] }, type := 22, pos := "law.go:54", after := #[{ on := 1, ground := Ground.data }, { on := 3, ground := Ground.data }], guard := none }) rfl (.tmp 47) (.tmp 49) 22 rfl _ _ (by rfl) (by rfl) _ _ hrun ?_
                refine hK.out _ _ ?hk4 (fun hHeld => ?_)
                case hk4 => exact run_loadC (HBY4.out.below hb5)
                clear hK K
                try simp only [Act.put, List.setIfInBounds_toArray, List.set_cons_zero, List.set_cons_succ]
                refine wpAnyH_take (i := 5) (v := ?hv5) rfl (by kernel_rfl) (by kernel_rfl) (by kernel_rfl) (fun _ _ _ h => h) (Or.inl ⟨by rfl, ?hy5⟩) (by assumption) ?_
                case hy5 => (intro w hSw; (try dsimp only at hSw); (try simp only [List.getElem_toArray, List.getElem_cons_succ, List.getElem_cons_zero]); go_simp; (try with_reducible rfl))
                try simp only [Act.put, List.setIfInBounds_toArray, List.set_cons_zero, List.getElem_toArray, List.getElem_cons_succ, List.getElem_cons_zero]
                refine wpAnyH_done (by kernel_rfl) ?_ _
                refine NoPanic.normal ?_
                have HRS : Hid (SlW W5 v' m) := by show SlW _ _ _; rw [HMY.out]; exact hsw
                have HB7 := Lib.hid (HB6.out.trans (hb5.mono HB6.out.size))
                have HY7 := Lib.hid (HBY4.out.below hb5)
                clear hrun hsw hb5 hl1 hlc hld4 hldW hmi hlt hki
                go_wp2_with fail
                go_meet
                exact ⟨HRS, HY7, HB7⟩
              case rest =>
                obtain ⟨HSZ, HBY, HBZ⟩ := hcut
                clear hl1 hlc hld4 hldW hmi
                go_upto_region 15 with fail
                have hld5 := run_loadC HBY.out
                have HBC := Lib.hid (fun W (hV : Forms W) => bytes_any y HYO.out W hV)
                have HRC := Lib.hid (fun W => refBytes_all y HYO.out HYT.out W)
                have HYW := Lib.hid (bytes_wrong y)
                have hys := bytes_le y
                have HTK := Lib.hid (take_snocL HYL.out)
                have HSN := Lib.hid (allB_snoc l.length (m.take 0) y)
                have HFN := Lib.hid (firstW_snoc (m.take 0) y)
                have haz : A.size ≤ 11470274 := by rw [HAB.out]; exact allB_le _ _ (by rw [List.length_take, HML.out]; omega)
                have HFZ := Lib.hid (HF.out.below HBZ.out HF.out.lt)
                generalize hBYE : bytesC y = BYE at HBC HRC HYW hys HSN
                clear hBYE
                obtain ⟨bs, be⟩ := BYE
                simp only at HBC HRC HYW hys HSN
                have ha1 : A.size + bs.size ≤ 9223372036854775807 := by omega
                have ha2 : ¬ 9223372036854775807 < A.size + bs.size := by omega
                clear hys haz
                have HAN : Hid (A ++ bs = allB l.length (m.take (0 + 1))) := by show _ = _; rw [HTK.out, HSN.out, HAB.out]
                have HLT : Hid (0 < l.length) := hlt
                clear hki hlt
                by_cases he : e = 0
                case pos =>
                  subst he
                  have HEN : Hid (be = firstW (m.take (0 + 1))) := by show _ = _; rw [HTK.out, HFN.out, if_pos HE.out.symm, HYW.out]
                  go_wp2_with (first
                    | (go_at_call 11; (with_reducible refine (HRC.out _).mono ?_); rintro e w7 ⟨rfl, hb7⟩; have HB7 := Lib.hid (HB6.out.trans (hb7.mono HB6.out.size)); have HS7 := Lib.hid (HS6.out.below hb7); clear hb7)
                    | (go_at_call 10; (with_reducible refine (HBC.out _ HFZ.out).mono ?_); rintro e w6 ⟨rfl, hb6⟩; have hld6 := run_loadC (HBY.out.below hb6); have HB6 := Lib.hid (HBZ.out.trans (hb6.mono HBZ.out.size)); have HS6 := Lib.hid (HSZ.out.below hb6); clear hb6))
                  go_roundg (l.length - (0 + 1))
                  case measure => have := HLT.out; omega
                  case rel => exact ⟨0 + 1, _, _, _, rfl, HLT.out, rfl, by go_num, rfl, rfl, fun h => absurd h (Nat.succ_ne_zero _), Lib.hid (fun _ => HS7.out), HAN, HEN, HB7⟩
                case neg =>
                  have hee : (e == 0) = false := by rw [beq_eq_false_iff_ne]; exact he
                  have HEN : Hid (e = firstW (m.take (0 + 1))) := by show _ = _; rw [HTK.out, HFN.out, if_neg (by rw [← HE.out]; exact he)]; exact HE.out
                  clear he
                  go_wp2_with (first
                    | (go_at_call 11; (with_reducible refine (HRC.out _).mono ?_); rintro e w7 ⟨rfl, hb7⟩; have HB7 := Lib.hid (HB6.out.trans (hb7.mono HB6.out.size)); have HS7 := Lib.hid (HS6.out.below hb7); clear hb7)
                    | (go_at_call 10; (with_reducible refine (HBC.out _ HFZ.out).mono ?_); rintro e w6 ⟨rfl, hb6⟩; have hld6 := run_loadC (HBY.out.below hb6); have HB6 := Lib.hid (HBZ.out.trans (hb6.mono HBZ.out.size)); have HS6 := Lib.hid (HSZ.out.below hb6); clear hb6))
                  go_roundg (l.length - (0 + 1))
                  case measure => have := HLT.out; omega
                  case rel => exact ⟨0 + 1, _, _, _, rfl, HLT.out, rfl, by go_num, rfl, rfl, fun h => absurd h (Nat.succ_ne_zero _), Lib.hid (fun _ => HS7.out), HAN, HEN, HB7⟩
      case neg =>
        obtain rfl : k = l.length := by omega
        have HSM : Hid (SlW wr lv m) := by
          by_cases h0 : l.length = 0
          · have h1 := hv0 h0
            have hl : l = [] := List.length_eq_zero_iff.1 h0
            have hmm : m = l := by rw [hl]; exact List.length_eq_zero_iff.1 (by rw [HML.out]; exact h0)
            show SlW _ _ _
            rw [h1, hmm]
            exact HV.out.below HB.out
          · exact HS.out (by omega)
        rw [List.take_of_length_le (by rw [HML.out]; exact Nat.le_refl _)] at HAB HE
        clear hv0 HS
        obtain ⟨a', c', rfl⟩ := HSM.out.slice
        have HBA := Lib.hid (fun W (hV : Forms W) (hs : SlW W (.slice a' m.length c') m) => batch_any _ m HMO.out W hV hs)
        have HFW := Lib.hid (HF.out.below HB.out HF.out.lt)
        have hml70 : m.length ≤ 70 := by rw [HML.out]; exact hl70
        by_cases h64 : 64 < m.length
        case pos =>
          have hr : batchR m = (⟨#[]⟩, 6) := by unfold batchR; rw [if_pos h64]
          rw [hr] at HBA
          have hmi : (64 : Int) < (m.length : Int) := by omega
          clear hr h64 hlt hk
          go_wp2_with (go_at_call 12; refine (HBA.out _ HFW.out HSM.out).mono ?_; rintro e w9 ⟨rfl, hb9⟩)
          go_ret
          exact ⟨rfl, HB.out.trans (hb9.mono HB.out.size)⟩
        case neg =>
          have hmi : decide ((64 : Int) < (m.length : Int)) = false := decide_eq_false (by omega)
          by_cases hf : firstW m = 0
          case pos =>
            have hr : batchR m = (batchB m, 0) := by unfold batchR; rw [if_neg h64, if_pos hf]
            have hab : A = batchB m := by rw [HAB.out]; unfold allB batchB; rw [byLs_ok m hf, HML.out]
            have hez : e = 0 := HE.out.trans hf
            subst hez
            rw [hr, ← hab] at HBA
            clear hr h64 hlt hk hf hab HE
            go_wp2_with (go_at_call 12; refine (HBA.out _ HFW.out HSM.out).mono ?_; rintro e w9 ⟨rfl, hb9⟩)
            go_ret
            exact ⟨rfl, HB.out.trans (hb9.mono HB.out.size)⟩
          case neg =>
            have hr : batchR m = (⟨#[]⟩, e) := by unfold batchR; rw [if_neg h64, if_neg hf, ← HE.out]
            have hez : (e == 0) = false := by rw [beq_eq_false_iff_ne, HE.out]; exact hf
            have hez' : (e != 0) = true := by rw [bne_iff_ne, HE.out]; exact hf
            rw [hr] at HBA
            clear hr h64 hlt hk hf HE
            go_wp2_with (go_at_call 12; refine (HBA.out _ HFW.out HSM.out).mono ?_; rintro e w9 ⟨rfl, hb9⟩)
            go_ret
            exact ⟨rfl, HB.out.trans (hb9.mono HB.out.size)⟩
end Go.Proofs.YtoekggbbkcmknaaGreatDoor
/- Rows of commands that are handed in, opened. -/
namespace Go.Proofs.YtoekggbbkcmknaaGreatDoor
open Go.Joins Go.ChangeShapes Go.WideShapes Go.ChangeAt Go.RowKit Go.Deep
theorem bnd_u32 {q : Int} (h : (Lit.int .u32 q).wf = true) : 0 ≤ q ∧ q < 4294967296 := by
  simp [Lit.wf, IntKind.min, IntKind.max, IntKind.signed, IntKind.bits] at h
  omega
theorem bnd_u64 {q : Int} (h : (Lit.int .u64 q).wf = true) : 0 ≤ q ∧ q < 18446744073709551616 := by
  simp [Lit.wf, IntKind.min, IntKind.max, IntKind.signed, IntKind.bits] at h
  omega
theorem bnd_i64 {q : Int} (h : (Lit.int .i64 q).wf = true) : -9223372036854775808 ≤ q ∧ q < 9223372036854775808 := by
  simp [Lit.wf, IntKind.min, IntKind.max, IntKind.signed, IntKind.bits] at h
  omega
theorem co_s : Tryz.prog.cellsOf 9 = 1 := by kernel_rfl
theorem co_u32 : Tryz.prog.cellsOf 26 = 1 := by kernel_rfl
theorem co_u64 : Tryz.prog.cellsOf 25 = 1 := by kernel_rfl
theorem co_i64 : Tryz.prog.cellsOf 3 = 1 := by kernel_rfl
theorem co_b : Tryz.prog.cellsOf 4 = 1 := by kernel_rfl
theorem co_q : Tryz.prog.cellsOf 28 = 5 := by kernel_rfl
theorem co_bd : Tryz.prog.cellsOf 30 = 4 := by kernel_rfl
theorem co_c : Tryz.prog.cellsOf 32 = 18 := by kernel_rfl
theorem lst4 {α : Type} (l : List α) (h : l.length = 4) : ∃ a0 a1 a2 a3, l = [a0, a1, a2, a3] := by
  rcases l with _ | ⟨a0, _ | ⟨a1, _ | ⟨a2, _ | ⟨a3, _ | ⟨z, l⟩⟩⟩⟩⟩
  all_goals first | (cases h; done) | exact ⟨_, _, _, _, rfl⟩ | (simp at h)
theorem lst5 {α : Type} (l : List α) (h : l.length = 5) : ∃ a0 a1 a2 a3 a4, l = [a0, a1, a2, a3, a4] := by
  rcases l with _ | ⟨a0, _ | ⟨a1, _ | ⟨a2, _ | ⟨a3, _ | ⟨a4, _ | ⟨z, l⟩⟩⟩⟩⟩⟩
  all_goals first | (cases h; done) | exact ⟨_, _, _, _, _, rfl⟩ | (simp at h)
theorem lst11 {α : Type} (l : List α) (h : l.length = 11) : ∃ a0 a1 a2 a3 a4 a5 a6 a7 a8 a9 a10, l = [a0, a1, a2, a3, a4, a5, a6, a7, a8, a9, a10] := by
  rcases l with _ | ⟨a0, _ | ⟨a1, _ | ⟨a2, _ | ⟨a3, _ | ⟨a4, _ | ⟨a5, _ | ⟨a6, _ | ⟨a7, _ | ⟨a8, _ | ⟨a9, _ | ⟨a10, _ | ⟨z, l⟩⟩⟩⟩⟩⟩⟩⟩⟩⟩⟩⟩
  all_goals first | (cases h; done) | exact ⟨_, _, _, _, _, _, _, _, _, _, _, rfl⟩ | (simp at h)
theorem lst18 {α : Type} (l : List α) (h : l.length = 18) : ∃ a0 a1 a2 a3 a4 a5 a6 a7 a8 a9 a10 a11 a12 a13 a14 a15 a16 a17, l = [a0, a1, a2, a3, a4, a5, a6, a7, a8, a9, a10, a11, a12, a13, a14, a15, a16, a17] := by
  rcases l with _ | ⟨a0, _ | ⟨a1, _ | ⟨a2, _ | ⟨a3, _ | ⟨a4, _ | ⟨a5, _ | ⟨a6, _ | ⟨a7, _ | ⟨a8, _ | ⟨a9, _ | ⟨a10, _ | ⟨a11, _ | ⟨a12, _ | ⟨a13, _ | ⟨a14, _ | ⟨a15, _ | ⟨a16, _ | ⟨a17, _ | ⟨z, l⟩⟩⟩⟩⟩⟩⟩⟩⟩⟩⟩⟩⟩⟩⟩⟩⟩⟩⟩
  all_goals first | (cases h; done) | exact ⟨_, _, _, _, _, _, _, _, _, _, _, _, _, _, _, _, _, _, rfl⟩ | (simp at h)
section
variable {H : Type} {enc : TypeId × Value → H} {W : World} {b1 : Nat} {sp : Nat → Bool} {held : Bool} {k : Nat}
theorem one_s {v : Value} {y} (h : DataW.trod enc Tryz.prog W b1 sp held k 9 [v] = some y) : ∃ s : ByteArray, v = .string s := by
  obtain ⟨s, h1, _, _⟩ := DataW.trod_string Tryz.underlying9 h
  exact ⟨s, by simpa using h1⟩
theorem one_b {v : Value} {y} (h : DataW.trod enc Tryz.prog W b1 sp held k 4 [v] = some y) : ∃ s : Bool, v = .bool s := by
  obtain ⟨s, h1, _⟩ := DataW.trod_bool Tryz.underlying4 h
  exact ⟨s, by simpa using h1⟩
theorem one_i {v : Value} {y} (h : DataW.trod enc Tryz.prog W b1 sp held k 3 [v] = some y) : ∃ q : Int, v = .int .i64 q ∧ -9223372036854775808 ≤ q ∧ q < 9223372036854775808 := by
  obtain ⟨q, h1, _, w1⟩ := DataW.trod_int Tryz.underlying3 h
  exact ⟨q, by simpa using h1, (bnd_i64 w1).1, (bnd_i64 w1).2⟩
theorem one_u32 {v : Value} {y} (h : DataW.trod enc Tryz.prog W b1 sp held k 26 [v] = some y) : ∃ q : Nat, v = .int .u32 q ∧ q < 4294967296 := by
  obtain ⟨q, h1, _, w1⟩ := DataW.trod_int Tryz.underlying26 h
  obtain ⟨m, n⟩ := bnd_u32 w1
  obtain ⟨N, rfl⟩ := Int.eq_ofNat_of_zero_le m
  exact ⟨N, by simpa using h1, by omega⟩
theorem one_u64 {v : Value} {y} (h : DataW.trod enc Tryz.prog W b1 sp held k 25 [v] = some y) : ∃ q : Nat, v = .int .u64 q ∧ q < 18446744073709551616 := by
  obtain ⟨q, h1, _, w1⟩ := DataW.trod_int Tryz.underlying25 h
  obtain ⟨m, n⟩ := bnd_u64 w1
  obtain ⟨N, rfl⟩ := Int.eq_ofNat_of_zero_le m
  exact ⟨N, by simpa using h1, by omega⟩
set_option maxRecDepth 100000 in
theorem open_queue {v1 v2 v3 v4 v5 : Value} {y} (h : DataW.trod enc Tryz.prog W b1 sp held k 28 [v1, v2, v3, v4, v5] = some y) : ∃ (s1 : ByteArray) (s2 s3 s4 : Nat) (s5 : ByteArray), v1 = .string s1 ∧ v2 = .int .u32 s2 ∧ v3 = .int .u64 s3 ∧ v4 = .int .u32 s4 ∧ v5 = .string s5 ∧ s2 < 4294967296 ∧ s3 < 18446744073709551616 ∧ s4 < 4294967296 := by
  obtain ⟨xs, k, hk, hxy, _, hxl, hf'⟩ := DataW.trod_struct Tryz.underlying28 h
  obtain ⟨y0, y1, y2, y3, y4, rfl⟩ := lst5 xs hxl
  have g0 : DataW.trod enc Tryz.prog W b1 sp held k 9 (([v1, v2, v3, v4, v5].drop 0).take (Tryz.prog.cellsOf 9)) = some y0 := hf' 0 _ rfl
  rw [co_s] at g0
  obtain ⟨s1, e1⟩ := one_s (v := v1) g0
  have g1 : DataW.trod enc Tryz.prog W b1 sp held k 26 (([v1, v2, v3, v4, v5].drop 1).take (Tryz.prog.cellsOf 26)) = some y1 := hf' 1 _ rfl
  rw [co_u32] at g1
  obtain ⟨s2, e2, u2⟩ := one_u32 (v := v2) g1
  have g2 : DataW.trod enc Tryz.prog W b1 sp held k 25 (([v1, v2, v3, v4, v5].drop 2).take (Tryz.prog.cellsOf 25)) = some y2 := hf' 2 _ rfl
  rw [co_u64] at g2
  obtain ⟨s3, e3, u3⟩ := one_u64 (v := v3) g2
  have g3 : DataW.trod enc Tryz.prog W b1 sp held k 26 (([v1, v2, v3, v4, v5].drop 3).take (Tryz.prog.cellsOf 26)) = some y3 := hf' 3 _ rfl
  rw [co_u32] at g3
  obtain ⟨s4, e4, u4⟩ := one_u32 (v := v4) g3
  have g4 : DataW.trod enc Tryz.prog W b1 sp held k 9 (([v1, v2, v3, v4, v5].drop 4).take (Tryz.prog.cellsOf 9)) = some y4 := hf' 4 _ rfl
  rw [co_s] at g4
  obtain ⟨s5, e5⟩ := one_s (v := v5) g4
  exact ⟨s1, s2, s3, s4, s5, e1, e2, e3, e4, e5, u2, u3, u4⟩
set_option maxRecDepth 100000 in
theorem open_binding {v6 v7 v8 v9 : Value} {y} (h : DataW.trod enc Tryz.prog W b1 sp held k 30 [v6, v7, v8, v9] = some y) : ∃ (s6 : ByteArray) (s7 : Int) (s8 s9 : ByteArray), v6 = .string s6 ∧ v7 = .int .i64 s7 ∧ v8 = .string s8 ∧ v9 = .string s9 ∧ -9223372036854775808 ≤ s7 ∧ s7 < 9223372036854775808 := by
  obtain ⟨xs, k, hk, hxy, _, hxl, hf'⟩ := DataW.trod_struct Tryz.underlying30 h
  obtain ⟨y0, y1, y2, y3, rfl⟩ := lst4 xs hxl
  have g0 : DataW.trod enc Tryz.prog W b1 sp held k 9 (([v6, v7, v8, v9].drop 0).take (Tryz.prog.cellsOf 9)) = some y0 := hf' 0 _ rfl
  rw [co_s] at g0
  obtain ⟨s6, e6⟩ := one_s (v := v6) g0
  have g1 : DataW.trod enc Tryz.prog W b1 sp held k 3 (([v6, v7, v8, v9].drop 1).take (Tryz.prog.cellsOf 3)) = some y1 := hf' 1 _ rfl
  rw [co_i64] at g1
  obtain ⟨s7, e7, l7, u7⟩ := one_i (v := v7) g1
  have g2 : DataW.trod enc Tryz.prog W b1 sp held k 9 (([v6, v7, v8, v9].drop 2).take (Tryz.prog.cellsOf 9)) = some y2 := hf' 2 _ rfl
  rw [co_s] at g2
  obtain ⟨s8, e8⟩ := one_s (v := v8) g2
  have g3 : DataW.trod enc Tryz.prog W b1 sp held k 9 (([v6, v7, v8, v9].drop 3).take (Tryz.prog.cellsOf 9)) = some y3 := hf' 3 _ rfl
  rw [co_s] at g3
  obtain ⟨s9, e9⟩ := one_s (v := v9) g3
  exact ⟨s6, s7, s8, s9, e6, e7, e8, e9, l7, u7⟩
set_option maxRecDepth 100000 in
theorem open_command {cs : List Value} (hl : cs.length = 18) {y} (h : DataW.trod enc Tryz.prog W b1 sp held k 32 cs = some y) : ∃ c : Cm, c.ok ∧ cs = c.vals := by
  obtain ⟨v0, v1, v2, v3, v4, v5, v6, v7, v8, v9, v10, v11, v12, v13, v14, v15, v16, v17, rfl⟩ := lst18 cs hl
  obtain ⟨xs, k, hk, hxy, _, hxl, hf'⟩ := DataW.trod_struct Tryz.underlying32 h
  obtain ⟨y0, y1, y2, y3, y4, y5, y6, y7, y8, y9, y10, rfl⟩ := lst11 xs hxl
  have g0 : DataW.trod enc Tryz.prog W b1 sp held k 3 (([v0, v1, v2, v3, v4, v5, v6, v7, v8, v9, v10, v11, v12, v13, v14, v15, v16, v17].drop 0).take (Tryz.prog.cellsOf 3)) = some y0 := hf' 0 _ rfl
  rw [co_i64] at g0
  obtain ⟨s0, e0, l0, u0⟩ := one_i (v := v0) g0
  have g1 : DataW.trod enc Tryz.prog W b1 sp held k 28 (([v0, v1, v2, v3, v4, v5, v6, v7, v8, v9, v10, v11, v12, v13, v14, v15, v16, v17].drop 1).take (Tryz.prog.cellsOf 28)) = some y1 := hf' 1 _ rfl
  rw [co_q] at g1
  obtain ⟨s1, s2, s3, s4, s5, e1, e2, e3, e4, e5, u2, u3, u4⟩ := open_queue (v1 := v1) (v2 := v2) (v3 := v3) (v4 := v4) (v5 := v5) g1
  have g2 : DataW.trod enc Tryz.prog W b1 sp held k 30 (([v0, v1, v2, v3, v4, v5, v6, v7, v8, v9, v10, v11, v12, v13, v14, v15, v16, v17].drop 6).take (Tryz.prog.cellsOf 30)) = some y2 := hf' 2 _ rfl
  rw [co_bd] at g2
  obtain ⟨s6, s7, s8, s9, e6, e7, e8, e9, l7, u7⟩ := open_binding (v6 := v6) (v7 := v7) (v8 := v8) (v9 := v9) g2
  have g3 : DataW.trod enc Tryz.prog W b1 sp held k 9 (([v0, v1, v2, v3, v4, v5, v6, v7, v8, v9, v10, v11, v12, v13, v14, v15, v16, v17].drop 10).take (Tryz.prog.cellsOf 9)) = some y3 := hf' 3 _ rfl
  rw [co_s] at g3
  obtain ⟨s10, e10⟩ := one_s (v := v10) g3
  have g4 : DataW.trod enc Tryz.prog W b1 sp held k 9 (([v0, v1, v2, v3, v4, v5, v6, v7, v8, v9, v10, v11, v12, v13, v14, v15, v16, v17].drop 11).take (Tryz.prog.cellsOf 9)) = some y4 := hf' 4 _ rfl
  rw [co_s] at g4
  obtain ⟨s11, e11⟩ := one_s (v := v11) g4
  have g5 : DataW.trod enc Tryz.prog W b1 sp held k 9 (([v0, v1, v2, v3, v4, v5, v6, v7, v8, v9, v10, v11, v12, v13, v14, v15, v16, v17].drop 12).take (Tryz.prog.cellsOf 9)) = some y5 := hf' 5 _ rfl
  rw [co_s] at g5
  obtain ⟨s12, e12⟩ := one_s (v := v12) g5
  have g6 : DataW.trod enc Tryz.prog W b1 sp held k 25 (([v0, v1, v2, v3, v4, v5, v6, v7, v8, v9, v10, v11, v12, v13, v14, v15, v16, v17].drop 13).take (Tryz.prog.cellsOf 25)) = some y6 := hf' 6 _ rfl
  rw [co_u64] at g6
  obtain ⟨s13, e13, u13⟩ := one_u64 (v := v13) g6
  have g7 : DataW.trod enc Tryz.prog W b1 sp held k 25 (([v0, v1, v2, v3, v4, v5, v6, v7, v8, v9, v10, v11, v12, v13, v14, v15, v16, v17].drop 14).take (Tryz.prog.cellsOf 25)) = some y7 := hf' 7 _ rfl
  rw [co_u64] at g7
  obtain ⟨s14, e14, u14⟩ := one_u64 (v := v14) g7
  have g8 : DataW.trod enc Tryz.prog W b1 sp held k 25 (([v0, v1, v2, v3, v4, v5, v6, v7, v8, v9, v10, v11, v12, v13, v14, v15, v16, v17].drop 15).take (Tryz.prog.cellsOf 25)) = some y8 := hf' 8 _ rfl
  rw [co_u64] at g8
  obtain ⟨s15, e15, u15⟩ := one_u64 (v := v15) g8
  have g9 : DataW.trod enc Tryz.prog W b1 sp held k 25 (([v0, v1, v2, v3, v4, v5, v6, v7, v8, v9, v10, v11, v12, v13, v14, v15, v16, v17].drop 16).take (Tryz.prog.cellsOf 25)) = some y9 := hf' 9 _ rfl
  rw [co_u64] at g9
  obtain ⟨s16, e16, u16⟩ := one_u64 (v := v16) g9
  have g10 : DataW.trod enc Tryz.prog W b1 sp held k 4 (([v0, v1, v2, v3, v4, v5, v6, v7, v8, v9, v10, v11, v12, v13, v14, v15, v16, v17].drop 17).take (Tryz.prog.cellsOf 4)) = some y10 := hf' 10 _ rfl
  rw [co_b] at g10
  obtain ⟨s17, e17⟩ := one_b (v := v17) g10
  exact ⟨⟨s0, s1, s2, s3, s4, s5, s6, s7, s8, s9, s10, s11, s12, s13, s14, s15, s16, s17⟩, ⟨l0, u0, u2, u3, u4, l7, u7, u13, u14, u15, u16⟩, by rw [e0, e1, e2, e3, e4, e5, e6, e7, e8, e9, e10, e11, e12, e13, e14, e15, e16, e17]; rfl⟩
end
theorem choose_cmd {n : Nat} {P : Nat → Cm → Prop} (h : ∀ i, i < n → ∃ x, P i x) : ∃ f : Nat → Cm, ∀ i, i < n → P i (f i) := by
  classical
  refine ⟨fun i => if hi : i < n then Classical.choose (h i hi) else Cm.zero 0, fun i hi => ?_⟩
  simp only [hi, dif_pos]
  exact Classical.choose_spec (h i hi)
set_option maxRecDepth 100000 in
theorem open_commands {H : Type} {enc : TypeId × Value → H} {W : World} {r : Reach} {b0 b1 : Nat} {sp : Nat → Bool} {held : Bool} {v : Value} {d : DataW H} {p : List MemPlace}
    (hv : Value.okWide Tryz.prog W r b0 22 v) (h : DataW.Trod enc Tryz.prog W b1 sp held 22 v d p) :
    ∃ l : List Cm, l.length ≤ maxLen ∧ (∀ c ∈ l, c.ok) ∧ SlW W v l := by
  obtain ⟨a0, len, cap, rfl⟩ := okWide_slice Tryz.underlying22 hv
  obtain ⟨fuel, hf⟩ := h
  rcases open_slice Tryz.underlying22 hf with hcs | ⟨a, len', cap', m, n, D, Pl, hcs, _, hl, hm, hz, _, hcell⟩
  · have hcs := hcs.1
    simp [Value.cells] at hcs
    obtain ⟨rfl, rfl, rfl⟩ := hcs
    exact ⟨[], Nat.zero_le _, fun p hp => by simp at hp, (SlG.nil _).w⟩
  · simp [Value.cells] at hcs
    obtain ⟨rfl, rfl, rfl⟩ := hcs
    have hlen : len ≤ m := by rw [hz]; split <;> omega
    have each : ∀ i, i < len → ∃ x : Cm, x.ok ∧ ∀ (j : Nat) u, x.vals[j]? = some u → W.cell? (a.add (i * 18 + j)) = some u := by
      intro i hi
      obtain ⟨cs', h1, h2⟩ := hcell i (by omega)
      rw [co_c] at h1
      obtain ⟨_, hlen', hcc⟩ := World.cells?_some h1
      obtain ⟨x, hx, rfl⟩ := open_command hlen' h2
      refine ⟨x, hx, fun j u hu => ?_⟩
      have hj := (List.getElem?_eq_some_iff.1 hu).1
      have c0 := hcc j (by rw [hlen'] at hj; exact hj)
      rw [add_add] at c0
      rw [c0]
      exact hu
    by_cases h0 : len = 0
    · subst h0
      exact ⟨[], Nat.zero_le _, fun p hp => by simp at hp, ⟨some a, 0, 0, cap, rfl, fun h => absurd rfl h, fun j p hj => by simp at hj⟩⟩
    · obtain ⟨b, off, spot⟩ := a
      obtain ⟨p0, _, hsp⟩ := each 0 (by omega)
      have hspot : spot = none := by simpa [Addr.add] using World.cell?_spot (hsp 0 _ rfl)
      subst hspot
      obtain ⟨f, hfx⟩ := choose_cmd each
      refine ⟨(List.range len).map f, by simp; omega, ?_, ⟨some ⟨b, off, none⟩, b, off, cap, by simp, fun _ => rfl, fun j p hj i u hu => ?_⟩⟩
      · intro p hp
        obtain ⟨i, hi, rfl⟩ := List.mem_map.1 hp
        exact (hfx i (List.mem_range.1 hi)).1
      · have hjl : j < len := by
          have := (List.getElem?_eq_some_iff.1 hj).1
          simpa using this
        simp [hjl] at hj
        subst hj
        have c0 := (hfx j hjl).2 i u hu
        rw [add_plain'] at c0
        rw [Nat.add_assoc]
        exact c0
theorem caps_of {H : Type} {enc : TypeId × Value → H} {W : World} {r : Reach} {b0 b1 : Nat} {sp : Nat → Bool} {held : Bool} {v : Value} {d : DataW H} {p : List MemPlace}
    (hv : Value.okWide Tryz.prog W r b0 22 v) (h : DataW.Trod enc Tryz.prog W b1 sp held 22 v d p) : ∃ a n c, v = .slice a n c ∧ n ≤ c ∧ c ≤ maxLen := by
  obtain ⟨a0, len, cap, rfl⟩ := okWide_slice Tryz.underlying22 hv
  obtain ⟨fuel, hf⟩ := h
  rcases open_slice Tryz.underlying22 hf with hcs | ⟨a, len', cap', m, n, D, Pl, hcs, _, hl, hm, hz, _, hcell⟩
  · have hcs := hcs.1
    simp [Value.cells] at hcs
    obtain ⟨rfl, rfl, rfl⟩ := hcs
    exact ⟨_, _, _, rfl, Nat.le_refl _, Nat.zero_le _⟩
  · simp [Value.cells] at hcs
    obtain ⟨rfl, rfl, rfl⟩ := hcs
    exact ⟨_, _, _, rfl, hl, hm⟩
theorem bnd_u8 {q : Int} (h : (Lit.int .u8 q).wf = true) : 0 ≤ q ∧ q < 256 := by
  simp [Lit.wf, IntKind.min, IntKind.max, IntKind.signed, IntKind.bits] at h
  omega
end Go.Proofs.YtoekggbbkcmknaaGreatDoor
namespace Go.Proofs.YtoekggbbkcmknaaGreatDoor.commandBytes
open Go.ChangeShapes Go.WideShapes Go.ChangeAt Go.RowKit Go.Lib Go.Shelf
open Go.ChangeMaps (open_string shut_string)
theorem own : ownKnob Tryz.prog.godebug = none := by kernel_rfl
theorem laidOut : laidOutB Tryz.prog = true := by kernel_rfl
theorem of_change_and_shaped {a : Assume} {C : Checked} {os : Os} {f : FuncId} {fn : Func} {s : ChangeSpec} {conds : List PathCond} {apart fresh handsOn again : Bool} {H : Type} {enc : TypeId × Value → H} {X : World → Array Value → Prop}
    (hX : ∀ (w w' : World) (args : Array Value), w.heap = w'.heap → X w args → X w' args)
    (own : ownKnob C.prog.godebug = none) (started : os.Started) (noInit : C.prog.inits.idxOf? f = none) (hfn : C.prog.funcs[f]? = some fn)
    (witness : ∃ (w : World) (tape : Tape) (i : Input), w.os = os ∧ (w.forCall tape i).Shaped C.prog ∧ i.vars = [] ∧ Input.okWide C.prog (w.forCall tape i) .any w.heap.size f i ∧
      ((s.pre enc C.prog fn conds apart (w.forCall tape i).memory i.args ∧ X (w.forCall tape i).memory i.args) ∧ sizedMet enc C.prog fn (OpenSpec.ofChange s) apart (w.forCall tape i).memory i.args) ∧ a.holds C.prog (lone (Frame.enter C.prog f i.args .normal) [] (w.forCall tape i)))
    (contract : ∀ (W : World) (base : Nat) (args : Array Value) (ds gs : List (DataW H)) (before : List MemPlace),
      (∀ (j : Nat) t v, fn.params[j]? = some t → args[j]? = some v → Value.okWide C.prog W .any base t v) →
      DataW.Whole enc C.prog fn.params.toList s.vars apart W args.toList ds gs before →
      W.ShapedOpen C.prog → X W args →
      Calls C.prog f args W fun e W' => ∃ v, e = .returned v ∧ s.post enc C.prog fn apart fresh handsOn again W args v W') :
    ReturnsInHanded a C os f .any (fun w args => (s.pre enc C.prog fn conds apart w args ∧ X w args) ∧ sizedMet enc C.prog fn (OpenSpec.ofChange s) apart w args) (s.post enc C.prog fn apart fresh handsOn again) := by
  refine returnsInHanded_of_calls own started noInit witness ?_
  intro w tape i _ hsh _ hok hpre _
  obtain ⟨_, _, _, fn', hfn', _, _, _, _, hval⟩ := hok
  have e : fn' = fn := Option.some.inj (hfn'.symm.trans hfn)
  subst e
  obtain ⟨⟨⟨ds, gs, before, hw, hc⟩, hx⟩, hz⟩ := hpre
  have hw' := DataW.Whole.of_heap (w' := w.forCall tape i) (by rfl) hw
  refine (contract (w.forCall tape i) w.heap.size i.args ds gs before hval hw' hsh (hX _ _ _ (by rfl) hx)).mono fun e W' ⟨v, he, hp⟩ => ?_
  subst he
  exact ChangeSpec.post_blind hp
set_option maxRecDepth 100000 in
theorem lifted (os : Os) (started : os.Started) (H : Type) (enc : TypeId × Value → H) :
    ReturnsInHanded {} Tryz.checked os 3 .any (fun w args => (Rows.commandBytesSpec.pre enc Tryz.prog Tryz.f3 [] false w args ∧ laidMetH Tryz.prog Rows.commandBytesRow.laid w) ∧ sizedMet enc Tryz.prog Tryz.f3 (OpenSpec.ofChange Rows.commandBytesSpec) false w args)
      (Rows.commandBytesSpec.post enc Tryz.prog Tryz.f3 false true false false) := by
  refine of_change_and_shaped (C := Tryz.checked) (X := fun w _ => laidMetH Tryz.prog Rows.commandBytesRow.laid w) (fun _ _ _ hh h => h.of_heap hh) own started (by kernel_rfl) Tryz.func3
    (ChangeSpec.witness_shaped (enc := enc) (C := Tryz.checked) (os := os) (X := fun w _ => laidMetH Tryz.prog Rows.commandBytesRow.laid w) false (World.laidAll Tryz.prog os Rows.commandBytesRow.laid) #[.slice none 0 0, .int .u8 0] 8 (World.laidAll_os _ _ _)
      (World.shaped_of_ZipB (by kernel_rfl) (by kernel_rfl)) (by kernel_rfl) (by kernel_rfl) (by kernel_rfl)
      (by rw [MakeChecks.laidMetH_plain _ _ _ (by kernel_rfl)]; exact laidMet_laidAll _ (by kernel_rfl) (by kernel_rfl))) ?_
  intro W base args ds gs before hval0 hW hsh hL
  have hval : ∀ (j : Nat) t v, Tryz.f3.params[j]? = some t → args[j]? = some v → Value.okWide Tryz.prog W .any base t v := hval0
  have hW' := hW
  obtain ⟨p, q, hA0, hV, rfl, _, _⟩ := hW
  have hA : DataW.TrodAll enc Tryz.prog W 0 (fun _ => true) true Tryz.f3.params.toList args.toList ds p := hA0
  rw [Tryz.params3] at hA hval
  obtain ⟨v0, vs0, d0, ds0, p0, q0, hargs, rfl, rfl, h0, r0⟩ := trodAll_cons hA
  obtain ⟨v1, vs1, d1, ds1, p1, q1, rfl, rfl, rfl, h1, r1⟩ := trodAll_cons r0
  obtain ⟨rfl, rfl, rfl⟩ := trodAll_nil r1
  obtain rfl : args = #[v0, v1] := by cases args; simp_all
  obtain ⟨rfl, rfl⟩ := trodVars_none hV
  have k0 := h0
  have lt0 : ∀ x ∈ p0, x.block < W.heap.size := by obtain ⟨m, hm⟩ := k0; exact DataW.trod_lt m _ _ _ hm
  have k1 := h1
  have lt1 : ∀ x ∈ p1, x.block < W.heap.size := by obtain ⟨m, hm⟩ := k1; exact DataW.trod_lt m _ _ _ hm
  have hv0 := hval 0 22 v0 rfl rfl
  have hv1 := hval 1 5 v1 rfl rfl
  obtain ⟨l1, hl1, hok1, hs1⟩ := open_commands hv0 h0
  obtain ⟨q1, rfl, _, _, w1⟩ := open_int Tryz.underlying5 (hval 1 5 v1 rfl rfl) h1
  have hq1 := bnd_u8 w1
  obtain ⟨n1, rfl⟩ : ∃ n : Nat, q1 = n := ⟨q1.toNat, by omega⟩
  clear hA0 hval0
  refine (bytes_walk v0 l1 n1 (by omega) W (forms_of_laid1 (by have hl := hL; rw [MakeChecks.laidMetH_plain _ _ _ (by kernel_rfl)] at hl; exact hl)) hs1 (caps_of hv0 h0) hok1).mono fun e W' ⟨he, bel⟩ => ?_
  subst he
  exact ⟨_, rfl, _, _, _, [], _, [], hW', trodAll_mk1 (shut_bool Tryz.underlying4 _), (trodAll_cons_mk (Below.trod laidOut (by kernel_rfl) (of_decide_eq_true (by kernel_rfl)) k0 bel lt0) (trodAll_cons_mk (Below.trod laidOut (by kernel_rfl) (of_decide_eq_true (by kernel_rfl)) k1 bel lt1) trodAll_mk0)), rfl, bel.frame _, fun h => by cases h⟩
theorem holds : Rows.CommandBytesSaid :=
  OpenClaim.holds_of_wide 3 Tryz.f3 rfl rfl rfl rfl rfl rfl rfl ⟨rfl, rfl, rfl, rfl, rfl⟩ rfl rfl rfl rfl rfl (by kernel_rfl) Tryz.func3 (by kernel_rfl)
    (of_decide_eq_true (by kernel_rfl)) (by unfold Func.isWrapper; first | (rw [if_pos (by decide +kernel)]; kernel_rfl) | (rw [if_neg (by decide +kernel)]; exact ⟨rfl, rfl⟩))
    (fun os started H enc _ => lifted os started H enc)
theorem proved : Rows.CommandBytesCardSaid :=
  Claim7.holds_tied_plain_at .later [] [.data] true (true, "86d3b2b539f86c9f9f19e2a2c0bf5fa5b9d7221a5c78daa6c8ce60d1026105a7") false holds (fun _ h => by cases h) (by kernel_rfl) (fun _ h => by cases h) commandBytes_row_tie rfl ⟨rfl, rfl⟩ (by kernel_rfl) rfl
    (fun f fn hf hfn => by
      obtain rfl : f = 3 := Option.some.inj ((show Tryz.prog.funcNamed Rows.commandBytesRow.func = some 3 by kernel_rfl).symm.trans hf) |>.symm
      obtain rfl : fn = Tryz.f3 := (Option.some.inj (Tryz.func3.symm.trans hfn)).symm
      exact ⟨by kernel_rfl, fun j t ht => by
        rw [Tryz.params3] at ht
        have hmem : t ∈ [22, 5] := by simpa using Array.mem_of_getElem? ht
        have hall : ([22, 5].all fun u => !Tryz.prog.wantsStandIn u) = true := by kernel_rfl
        exact (show Tryz.prog.wantsStandIn t = false by simpa using List.all_eq_true.1 hall t hmem)⟩)
    (by kernel_rfl)
#print axioms proved
end Go.Proofs.YtoekggbbkcmknaaGreatDoor.commandBytes
