/- Texts of one seat, merged. -/
import Derived.Test.YtemfbkelenaaeaaGreatM11
import Derived.Deep.LoopGhost
import Derived.Test.YtemfbkelenaaeaaGreatM05
import Derived.Test.YtemfbkelenaaeaaGreatM01
import Derived.Test.YtemfbkelenaaeaaGreatM09
import Derived.Test.YtemfbkelenaaeaaGreatM02
import Derived.BigQuiet
import Derived.Deep.QuietTactic
set_option maxRecDepth 100000
set_option maxHeartbeats 4000000
set_option linter.unusedVariables false
/- The contract of the document's right: may a node be? -/
namespace Go.Proofs.YtemfbkelenaaeaaGreat
open Go.RowKit
open Sl (Cl Kd Nd Rn)
theorem chain_snoc (l : List Cl) (k : Nat) (x : Cl) (h : l[k]? = some x) : (l.take (k + 1)).all (fun c => decide (2 ≤ c.chain)) = ((l.take k).all (fun c => decide (2 ≤ c.chain)) && decide (2 ≤ x.chain)) := by
  rw [Sl.take_snoc' l k x h, List.all_append]; simp
theorem right_leaf (r : Rn) (h : r.leaf = true) : Sl.rightB r = true := by unfold Sl.rightB; rw [h]; rfl
theorem right_nil (r : Rn) (h : r.leaf = false) (h2 : r.l = []) : Sl.rightB r = false := by unfold Sl.rightB; rw [h, h2]; rfl
theorem right_key (r : Rn) (x : Cl) (t : List Cl) (h : r.leaf = false) (h2 : r.l = x :: t) (h3 : ¬ x.key = []) : Sl.rightB r = false := by
  unfold Sl.rightB; rw [h, h2]
  show (false || (decide (x.key = []) && _)) = false
  rw [decide_eq_false h3]; rfl
theorem right_low (r : Rn) (x : Cl) (h : r.leaf = false) (h2 : x ∈ r.l) (h3 : ¬ 2 ≤ x.chain) : Sl.rightB r = false := by
  unfold Sl.rightB; rw [h]
  cases h4 : r.l with
  | nil => rfl
  | cons y t =>
    rw [h4] at h2
    show (false || (decide (y.key = []) && _)) = false
    have : ((y :: t).all fun c => decide (2 ≤ c.chain)) = false := by
      cases h5 : ((y :: t).all fun c => decide (2 ≤ c.chain))
      · rfl
      · exact absurd (of_decide_eq_true (List.all_eq_true.1 h5 x h2)) h3
    rw [this, Bool.and_false]; rfl
theorem right_yes (r : Rn) (x : Cl) (t : List Cl) (h : r.leaf = false) (h2 : r.l = x :: t) (h3 : x.key = []) (h4 : (r.l.all fun c => decide (2 ≤ c.chain)) = true) : Sl.rightB r = true := by
  unfold Sl.rightB; rw [h]
  rw [h2] at h4 ⊢
  show (false || (decide (x.key = []) && _)) = true
  rw [decide_eq_true h3, h4]; rfl
set_option maxHeartbeats 2000000 in
theorem right_any (v : Value) (r : Rn) (w : World) (hv : RnV w v r) (hll : r.l.length ≤ 100000) :
    Calls Tryz.prog 31 #[v] w fun e w' => e = .returned (.bool (Sl.rightB r)) ∧ Below w.heap.size w w' := by
  obtain ⟨vc, rfl, hc, hcc⟩ := hv
  have HCAP := Lib.hid hcc
  unfold rnV
  have HB : Hid (∀ o1, Below w.heap.size w (w.alloc o1)) := fun o1 => (Below.refl _ _).alloc (Nat.le_refl _) _
  cases hlf : r.leaf with
  | true =>
    rw [right_leaf r hlf]
    obtain ⟨a, m, c, _, _, _⟩ := hcc
    clear hc hlf
    go_enter Tryz.func31, Tryz.ntmps31
    go_wp2
    go_ret
    exact ⟨rfl, HB.out _⟩
  | false =>
    have HLF := Lib.hid hlf
    clear hlf hcc
    obtain ⟨a, b, o, c, rfl, ha, hx⟩ := hc
    have HX := Lib.hid hx
    by_cases hnil : r.l = []
    · rw [right_nil r HLF.out hnil]
      rw [hnil]
      clear hx ha HX hnil
      go_enter Tryz.func31, Tryz.ntmps31
      go_wp2
      go_ret
      exact ⟨rfl, HB.out _⟩
    · obtain ⟨x, t, hl⟩ : ∃ x t, r.l = x :: t := by
        cases h : r.l with
        | nil => exact absurd h hnil
        | cons x t => exact ⟨x, t, rfl⟩
      have HLL := Lib.hid hl
      have h00 : r.l[0]? = some x := by rw [hl]; rfl
      obtain ⟨e0, e1, e2, e3⟩ := hx 0 x h00
      rw [Nat.zero_mul, Nat.add_zero] at e0
      have hblt : b < w.heap.size := World.block_lt_of_cell? _ _ e0
      have d0 := fun o1 => ((HB.out o1).cell (p := ⟨b, o, none⟩) hblt).trans e0
      obtain rfl : a = some ⟨b, o, none⟩ := by
        rcases ha with h | h
        · exact absurd h hnil
        · exact h
      have hlp : 0 < r.l.length := by rw [hl]; simp
      have hlz : ¬ (r.l.length : Int) = 0 := by omega
      have hlz2 : ((r.l.length : Int) == 0) = false := by rw [beq_eq_false_iff_ne]; exact hlz
      have hlz3 : (0 : Int) < r.l.length := by omega
      clear ha hx e0 e1 e2 e3 h00 hnil hl
      by_cases hkey : x.key = []
      · rw [hkey] at d0
        rw [show str [] = ⟨#[]⟩ from rfl] at d0
        have HKEY := Lib.hid hkey
        clear hkey
        go_enter Tryz.func31, Tryz.ntmps31
        go_wp2
        clear d0
        go_loopg [22] r.l.length (fun n i wr => ∃ k : Nat, k ≤ r.l.length ∧ n = r.l.length - k ∧ i = .int .i64 k ∧ Hid ((r.l.take k).all (fun c => decide (2 ≤ c.chain)) = true) ∧ Hid (Below w.heap.size w wr))
        case atStart => exact ⟨0, Nat.zero_le _, rfl, rfl, Lib.hid rfl, Lib.hid (HB.out _)⟩
        case round =>
          obtain ⟨k, hk, rfl, rfl, HN, HBk⟩ := hrel
          by_cases hlt : k < r.l.length
          · obtain ⟨y, hy⟩ := take_some r.l k hlt
            obtain ⟨e0, e1, e2, e3⟩ := HX.out k y hy
            have d0 := (HBk.out.cell (p := ⟨b, o + k * 4, none⟩) hblt).trans e0
            have d1 := (HBk.out.cell (p := ⟨b, o + k * 4 + 1, none⟩) hblt).trans e1
            have d2 := (HBk.out.cell (p := ⟨b, o + k * 4 + 2, none⟩) hblt).trans e2
            have d3 := (HBk.out.cell (p := ⟨b, o + k * 4 + 3, none⟩) hblt).trans e3
            have HS := Lib.hid (chain_snoc r.l k y hy)
            have HMEM := Lib.hid (List.mem_of_getElem? hy)
            have HB4 : Hid (∀ o1, Below w.heap.size w (wr.alloc o1)) := fun o1 => HBk.out.alloc HBk.out.size _
            clear e0 e1 e2 e3 hy
            by_cases hp : (y.chain : Int) < 2
            · have HV := Lib.hid (right_low r y HLF.out HMEM.out (by omega))
              go_wp2
              go_ret
              exact ⟨by rw [HV.out]; rfl, HB4.out _⟩
            · have HN2 : Hid ((r.l.take (k + 1)).all (fun c => decide (2 ≤ c.chain)) = true) := by show _ = _; rw [HS.out, HN.out, decide_eq_true (show 2 ≤ y.chain by omega)]; rfl
              go_wp2
              go_roundg (r.l.length - (k + 1))
              case measure => omega
              case rel => exact ⟨k + 1, hlt, rfl, by go_num, HN2, HB4.out _⟩
          · have hkk : k = r.l.length := by omega
            have HV : Hid (Sl.rightB r = true) := by
              have := HN.out
              rw [hkk, List.take_length] at this
              exact right_yes r x t HLF.out HLL.out HKEY.out this
            clear hkk
            go_wp2
            go_ret
            exact ⟨by rw [HV.out]; rfl, HBk.out⟩
      · rw [right_key r x t HLF.out HLL.out hkey]
        have hk1 : ¬ ((str x.key).toList = []) := by rw [Lib.toList_data]; exact hkey
        have hk2 : (str x.key).toList.isEmpty = false := by rw [Lib.toList_data]; show (x.key).isEmpty = false; cases h : x.key; exact absurd h hkey; rfl
        have hk3 : ((str x.key).toList == []) = false := by rw [beq_eq_false_iff_ne]; exact hk1
        clear hkey
        go_enter Tryz.func31, Tryz.ntmps31
        go_wp2
        go_ret
        exact ⟨rfl, HB.out _⟩
end Go.Proofs.YtemfbkelenaaeaaGreat
/- The contract of the document's own Body. -/
namespace Go.Proofs.YtemfbkelenaaeaaGreat
open Go.RowKit
open Sl (Cl Kd)
set_option maxHeartbeats 4000000 in
set_option maxRecDepth 100000 in
theorem refBody_any (leaf : Bool) (v : Value) (l : List Cl) (hll : l.length ≤ 100000) (hl : ∀ x ∈ l, okC x ∧ x.val.length ≤ 60000) (w : World) (hv : SlC w v l) :
    Calls Tryz.prog 32 #[v, .bool leaf] w fun e w' => e = .returned (.tuple #[.string (str (Sl.bodyR (Sl.shR leaf) l).1), .int .i64 (Sl.bodyR (Sl.shR leaf) l).2]) ∧ Below w.heap.size w w' := by
  have HL := Lib.hid hl
  have HMa := Lib.hid (fun W (hW : SlC W v l) => refRight_any leaf v l hll W hW)
  have HSu := Lib.hid (fun W (hW : SlC W v l) => refSum_any leaf v l hll hl W hW)
  have HV := Lib.hid hv
  obtain ⟨a, b, o, c, rfl, ha, hx⟩ := hv
  have HX := Lib.hid hx
  have HA := Lib.hid ha
  clear hl ha hx
  have hlen : (l.length : Int) ≤ 100000 := by omega
  by_cases hr : Sl.right (Sl.shR leaf) l = 0
  · by_cases hs : 4072 < Sl.sum (Sl.shR leaf) l
    · rw [Sl.bodyR_full (Sl.shR leaf) l hr hs]
      rw [hr] at HMa
      clear hr
      revert HMa HSu hs
      generalize Sl.sum (Sl.shR leaf) l = m
      intro HMa HSu hs
      have hs' : (4072 : Int) < m := by omega
      go_enter Tryz.func32, Tryz.ntmps32
      go_wp2_with (first
        | (go_at_call 77; refine (HMa.out _ HV.out).mono ?_; rintro e w2 ⟨rfl, hb2⟩)
        | (go_at_call 41; refine (HSu.out _ (HV.out.below hb2)).mono ?_; rintro e w3 ⟨rfl, hb3⟩))
      go_ret2
      exact ⟨rfl, below_step hb2 hb3⟩
    · rw [Sl.bodyR_ok (Sl.shR leaf) l hr hs]
      rw [hr] at HMa
      have HAT := Lib.hid (fun k => Sl.at_le (Sl.shR leaf) l k (Nat.le_of_not_lt hs))
      have HBL : Hid (2 * l.length = (Sl.begins (Sl.shR leaf) (2 * l.length) l).length) := (Sl.begins_len (Sl.shR leaf) l _).symm
      have HBS : Hid (str (Sl.begins (Sl.shR leaf) (2 * l.length) l) ++ str (l.flatMap (Sl.shR leaf).enc) = str (Sl.body (Sl.shR leaf) l)) := by show _ = _; rw [str_append]; rfl
      clear hr
      revert HSu hs HBS
      generalize Sl.sum (Sl.shR leaf) l = m
      generalize Sl.body (Sl.shR leaf) l = res
      intro HSu hs HBS
      have hs' : ¬ (4072 : Int) < m := by omega
      go_enter Tryz.func32, Tryz.ntmps32
      go_wp2_with (first
        | (go_at_call 77; refine (HMa.out _ HV.out).mono ?_; rintro e w2 ⟨rfl, hb2⟩)
        | (go_at_call 41; refine (HSu.out _ (HV.out.below hb2)).mono ?_; rintro e w3 ⟨rfl, hb3⟩))
      have HW3 := Lib.hid (below_step hb2 hb3)
      clear hb2 hb3 hs hs'
      go_loopg [7, 8, 23] l.length (fun n s t i wr => ∃ k : Nat, k ≤ l.length ∧ n = l.length - k ∧ i = .int .i64 k ∧ s = .string (str (Sl.begins (Sl.shR leaf) (2 * l.length) (l.take k))) ∧ t = .string (str ((l.take k).flatMap (Sl.shR leaf).enc)) ∧ Hid (Below w.heap.size w wr))
      case atStart => exact ⟨0, Nat.zero_le _, rfl, rfl, rfl, rfl, HW3.out⟩
      case round =>
        obtain ⟨k, hk, rfl, rfl, rfl, rfl, HB⟩ := hrel
        by_cases hlt : k < l.length
        · obtain ⟨x, hx⟩ := take_some l k hlt
          have hxx := HL.out x (List.mem_of_getElem? hx)
          obtain ⟨e0, e1, e2, e3⟩ := HX.out k x hx
          have hblt : b < w.heap.size := World.block_lt_of_cell? _ _ e0
          have d0 := (HB.out.cell (p := ⟨b, o + k * 4, none⟩) hblt).trans e0
          have d1 := (HB.out.cell (p := ⟨b, o + k * 4 + 1, none⟩) hblt).trans e1
          have d2 := (HB.out.cell (p := ⟨b, o + k * 4 + 2, none⟩) hblt).trans e2
          have d3 := (HB.out.cell (p := ⟨b, o + k * 4 + 3, none⟩) hblt).trans e3
          obtain rfl : a = some ⟨b, o, none⟩ := by
            rcases HA.out with h | h
            · rw [h] at hlt; cases hlt
            · exact h
          have HBa : Hid (Below w.heap.size w (wr.alloc (.cells #[.string (str x.key), .string (str x.val), .int .u32 x.chain, .int .u32 x.long] 52))) := HB.out.alloc HB.out.size _
          have HSB := Lib.hid (Sl.begins_at (Sl.shR leaf) l k x hx (2 * l.length))
          have HSF := Lib.hid (Sl.flat_at (Sl.shR leaf) l k x hx)
          have hat := HAT.out k
          have HCE := Lib.hid (fun W => refCell_any x leaf hxx.1 hxx.2 W)
          have hle := Sl.shR_len leaf x
          have hbl : (Sl.begins (Sl.shR leaf) (2 * l.length) (l.take k)).length ≤ 200000 := by rw [Sl.begins_len, List.length_take]; omega
          clear e0 e1 e2 e3 hx hxx
          revert HSB HSF hat HCE hle hbl
          generalize Sl.begins (Sl.shR leaf) (2 * l.length) (l.take k) = B0
          generalize hb1e : Sl.begins (Sl.shR leaf) (2 * l.length) (l.take (k + 1)) = B1
          generalize (l.take k).flatMap (Sl.shR leaf).enc = F0
          generalize hf1e : (l.take (k + 1)).flatMap (Sl.shR leaf).enc = F1
          generalize (Sl.shR leaf).enc x = ex
          have HB1E := Lib.hid hb1e
          have HF1E := Lib.hid hf1e
          clear hb1e hf1e
          intro HSB HSF hat HCE hle hbl
          have hz := big_size
          have hz1 := str_size B0
          have hz2 := str_size F0
          have hz3 := str_size ex
          have hq1 : F0.length ≤ 4072 := by omega
          unfold aggC at HCE
          go_wp2_with (first
            | (go_at_call 78; refine (big2_at _ (2 * l.length + F0.length) ?_ (by omega) _).mono ?_; (first | omega | (rw [IntKind.wrap_u64]; omega)); rintro e w6 ⟨rfl, hb6⟩; have HB6 := Lib.hid (HBa.out.trans (hb6.mono HBa.out.size)); obtain ⟨y0, y1, y2, y3⟩ := elemC hb6)
            | (go_at_call 79; refine (HCE.out _).mono ?_; rintro e w7 ⟨rfl, hb7⟩))
          have HB7 : Hid (Below w.heap.size w w7) := HB6.out.trans (hb7.mono HB6.out.size)
          clear hb6 hb7
          go_roundg (l.length - (k + 1))
          case measure => omega
          case rel => exact ⟨k + 1, by omega, rfl, by go_num, by rw [HB1E.out, HSB.out, str_append], by rw [HF1E.out, HSF.out, str_append], HB7⟩
        · obtain rfl : k = l.length := by omega
          have hbl := Nat.le_of_eq HBL.out.symm
          have hfl := HAT.out l.length
          rw [List.take_length] at hfl ⊢
          revert hbl hfl HBS
          generalize Sl.begins (Sl.shR leaf) (2 * l.length) l = B0
          generalize l.flatMap (Sl.shR leaf).enc = F0
          intro HBS hbl hfl
          have hz1 := str_size B0
          have hz2 := str_size F0
          have hf2 : F0.length ≤ 4072 := by omega
          go_wp2
          go_ret2
          exact ⟨by rw [← HBS.out]; rfl, HB.out⟩
  · rw [Sl.bodyR_bad (Sl.shR leaf) l hr]
    revert HMa hr
    generalize Sl.right (Sl.shR leaf) l = m
    intro HMa hr
    have hd : (m != 0) = true := by rw [bne_iff_ne]; exact hr
    go_enter Tryz.func32, Tryz.ntmps32
    go_wp2_with (go_at_call 77; refine (HMa.out _ HV.out).mono ?_; rintro e w2 ⟨rfl, hb2⟩)
    go_ret2
    exact ⟨rfl, hb2⟩
end Go.Proofs.YtemfbkelenaaeaaGreat
/- The contract of the document's own Frame, of one of the program's nodes. -/
namespace Go.Proofs.YtemfbkelenaaeaaGreat
open Go.RowKit
open Sl (Cl Kd Nd Rn)
theorem body_toR (n : Nd) : Sl.bodyR (Sl.shR n.leaf) (Sl.toR n).l = if n.leaf then Sl.bodyR Sl.shC n.cs else Sl.bodyR Sl.shK n.ks := by
  obtain ⟨lf, cs, ks⟩ := n
  cases lf
  · exact Sl.bare_body ks
  · rfl
theorem len_toR (n : Nd) : (Sl.toR n).l.length = Sl.frL n := by
  obtain ⟨lf, cs, ks⟩ := n
  cases lf
  · exact List.length_map _
  · rfl
theorem frE_toR (n : Nd) (h : Sl.rightB (Sl.toR n) = true) : Sl.frE n = (Sl.bodyR (Sl.shR n.leaf) (Sl.toR n).l).2 ∧ Sl.frS n = (Sl.bodyR (Sl.shR n.leaf) (Sl.toR n).l).1 := by
  rw [Sl.rightB_toR] at h
  rw [body_toR]
  obtain ⟨lf, cs, ks⟩ := n
  cases lf
  · have h' : Sl.leadsB ks = true := h
    exact ⟨show (if Sl.leadsB ks then _ else _) = _ by rw [h']; rfl, rfl⟩
  · exact ⟨rfl, rfl⟩
theorem frE_bad (n : Nd) (h : Sl.rightB (Sl.toR n) = false) : Sl.frE n = 4 := by
  rw [Sl.rightB_toR] at h
  obtain ⟨lf, cs, ks⟩ := n
  cases lf
  · have h' : Sl.leadsB ks = false := h
    show (if Sl.leadsB ks then _ else _) = _
    rw [h']; rfl
  · cases h
set_option maxHeartbeats 4000000 in
theorem rFrame_any (v : Value) (n : Nd) (id tx : Int) (w : World) (hv : RnV w v (Sl.toR n)) (hl : (Sl.toR n).l.length ≤ 60000) (hok : ∀ x ∈ (Sl.toR n).l, okC x ∧ x.val.length ≤ 60000) :
    Calls Tryz.prog 10 #[v, .int .u32 id, .int .u64 tx] w (FrOut10 n id tx w) := by
  have HRT := Lib.hid (fun W (hW : Below w.heap.size w W) => right_any v (Sl.toR n) W (hv.below hW) (by omega))
  have HLN := Lib.hid (len_toR n)
  obtain ⟨vc, rfl, hc, hcc⟩ := hv
  have HS := Lib.hid (fun W (hW : Below w.heap.size w W) => refBody_any n.leaf vc (Sl.toR n).l (by omega) hok W (hc.below hW))
  unfold rnV at HRT ⊢
  rw [show (Sl.toR n).leaf = n.leaf from rfl] at HRT ⊢
  have hlen : ∀ a m c, vc = .slice a m c → m = (Sl.toR n).l.length := by obtain ⟨_, _, _, _, h, _⟩ := hc; intro a m c h2; rw [h] at h2; injection h2 with _ h3; exact h3.symm
  obtain ⟨a, m, c, _, _, _⟩ := hcc
  obtain rfl : m = (Sl.toR n).l.length := hlen _ _ _ rfl
  have hw16 : IntKind.u16.wrap ((Sl.toR n).l.length : Int) = ((Sl.toR n).l.length : Int) := by rw [IntKind.wrap_u16]; omega
  have HST : Hid (∀ x0 x1, ((w.alloc (.cells #[x0, x1] 35)).alloc (.cells #[.int .u8 0, .int .u16 0, .int .u32 0, .int .u64 0, .string ⟨#[]⟩] 40)).cell? ⟨w.heap.size, 0, none⟩ = some x0 ∧ ((w.alloc (.cells #[x0, x1] 35)).alloc (.cells #[.int .u8 0, .int .u16 0, .int .u32 0, .int .u64 0, .string ⟨#[]⟩] 40)).cell? ⟨w.heap.size, 1, none⟩ = some x1 ∧ Kp w.heap.size w (row1 (w.heap.size + 1) zf) ((w.alloc (.cells #[x0, x1] 35)).alloc (.cells #[.int .u8 0, .int .u16 0, .int .u32 0, .int .u64 0, .string ⟨#[]⟩] 40))) :=
    fun x0 x1 => ⟨box0 w _ _ _ _ 0, box0 w _ _ _ _ 1, ⟨(startK w _ _ _ _).cell, (startK w _ _ _ _).froz, boxB w _ _⟩⟩
  clear hc hok hlen
  cases hrt : Sl.rightB (Sl.toR n) with
  | false =>
    have HE : Hid (Sl.frE n = 4) := frE_bad n hrt
    rw [hrt] at HRT
    have HR : Hid (Ending.returned (.tuple #[frV 0 0 0 0 [], .int .i64 4]) = .returned (.tuple #[frR n id tx, .int .i64 (Sl.frE n)])) := by
      show _ = _
      unfold frR
      rw [HE.out]; rfl
    clear HS HLN hrt
    generalize n.leaf = lf at *
    go_enter Tryz.func10, Tryz.ntmps10
    go_wp2_with (go_at_call 31; refine (HRT.out _ (HST.out _ _).2.2.below).mono ?_; rintro e w0 ⟨rfl, hb0⟩; have HS0 := Lib.hid (stepK2 (Nat.le_refl _) (HST.out _ _) hb0); clear hb0; obtain ⟨⟨z0, z1, z2, z3, z4⟩, f0, f1, f2, f3, f4⟩ := HS0.out.2.2.zf)
    refine bodyPost_ret_by (v := .tuple #[frV 0 0 0 0 [], .int .i64 4]) ?_ rfl ?_
    · simp [frV, str, results, Tryz.results10, go_sem, z0, z1, z2, z3, z4]
    · exact ⟨HR.out, below_set5 HS0.out.2.2.below (Nat.le_succ _)⟩
  | true =>
    have HE : Hid (Sl.frE n = (Sl.bodyR (Sl.shR n.leaf) (Sl.toR n).l).2) := (frE_toR n hrt).1
    have HF : Hid (Sl.frS n = (Sl.bodyR (Sl.shR n.leaf) (Sl.toR n).l).1) := (frE_toR n hrt).2
    rw [hrt] at HRT
    clear hrt
    generalize (Sl.bodyR (Sl.shR n.leaf) (Sl.toR n).l).1 = s at HS HF
    generalize (Sl.bodyR (Sl.shR n.leaf) (Sl.toR n).l).2 = r at HS HE
    have HL := Lib.hid (show n.leaf = n.leaf from rfl)
    by_cases hr0 : r = 0
    · subst hr0
      cases hlf : n.leaf with
      | true =>
        have HR : Hid (Ending.returned (.tuple #[frV 2 ((Sl.toR n).l.length : Nat) id tx s, .int .i64 0]) = .returned (.tuple #[frR n id tx, .int .i64 (Sl.frE n)])) := by
          show _ = _
          unfold frR Sl.frK
          rw [HE.out, if_pos rfl, hlf, HF.out, HLN.out]; rfl
        rw [hlf] at HRT HS
        clear hlf HLN
        go_enter Tryz.func10, Tryz.ntmps10
        go_wp2_with (first
          | (go_at_call 31; refine (HRT.out _ (HST.out _ _).2.2.below).mono ?_; rintro e w0 ⟨rfl, hb0⟩; have HS0 := Lib.hid (stepK2 (Nat.le_refl _) (HST.out _ _) hb0); clear hb0; have k0 := HS0.out.1; have k1 := HS0.out.2.1)
          | (go_at_call 32; refine (HS.out _ HS0.out.2.2.below).mono ?_; rintro e w1 ⟨rfl, hb1⟩; have HS1 := Lib.hid (stepK2 (Nat.le_refl _) HS0.out hb1); clear hb1 k0 k1; have k0 := HS1.out.1; have k1 := HS1.out.2.1; obtain ⟨⟨z0, z1, z2, z3, z4⟩, f0, f1, f2, f3, f4⟩ := HS1.out.2.2.zf))
        refine bodyPost_ret_by (v := .tuple #[frV 2 ((Sl.toR n).l.length : Nat) id tx s, .int .i64 0]) ?_ rfl ?_
        · simp [frV, results, Tryz.results10, go_sem, z0, z1, z2, z3, z4]
        · exact ⟨HR.out, below_set5 HS1.out.2.2.below (Nat.le_succ _)⟩
      | false =>
        have HR : Hid (Ending.returned (.tuple #[frV 3 ((Sl.toR n).l.length : Nat) id tx s, .int .i64 0]) = .returned (.tuple #[frR n id tx, .int .i64 (Sl.frE n)])) := by
          show _ = _
          unfold frR Sl.frK
          rw [HE.out, if_pos rfl, hlf, HF.out, HLN.out]; rfl
        rw [hlf] at HRT HS
        clear hlf HLN
        go_enter Tryz.func10, Tryz.ntmps10
        go_wp2_with (first
          | (go_at_call 31; refine (HRT.out _ (HST.out _ _).2.2.below).mono ?_; rintro e w0 ⟨rfl, hb0⟩; have HS0 := Lib.hid (stepK2 (Nat.le_refl _) (HST.out _ _) hb0); clear hb0; have k0 := HS0.out.1; have k1 := HS0.out.2.1)
          | (go_at_call 32; refine (HS.out _ HS0.out.2.2.below).mono ?_; rintro e w1 ⟨rfl, hb1⟩; have HS1 := Lib.hid (stepK2 (Nat.le_refl _) HS0.out hb1); clear hb1 k0 k1; have k0 := HS1.out.1; have k1 := HS1.out.2.1; obtain ⟨⟨z0, z1, z2, z3, z4⟩, f0, f1, f2, f3, f4⟩ := HS1.out.2.2.zf))
        refine bodyPost_ret_by (v := .tuple #[frV 3 ((Sl.toR n).l.length : Nat) id tx s, .int .i64 0]) ?_ rfl ?_
        · simp [frV, results, Tryz.results10, go_sem, z0, z1, z2, z3, z4]
        · exact ⟨HR.out, below_set5 HS1.out.2.2.below (Nat.le_succ _)⟩
    · have HR : Hid (Ending.returned (.tuple #[frV 0 0 0 0 [], .int .i64 r]) = .returned (.tuple #[frR n id tx, .int .i64 (Sl.frE n)])) := by
        show _ = _
        unfold frR
        rw [HE.out, if_neg hr0]
      clear HLN
      generalize n.leaf = lf at HRT HS HST ⊢
      go_enter Tryz.func10, Tryz.ntmps10
      go_wp2_with (first
        | (go_at_call 31; refine (HRT.out _ (HST.out _ _).2.2.below).mono ?_; rintro e w0 ⟨rfl, hb0⟩; have HS0 := Lib.hid (stepK2 (Nat.le_refl _) (HST.out _ _) hb0); clear hb0; have k0 := HS0.out.1; have k1 := HS0.out.2.1)
        | (go_at_call 32; refine (HS.out _ HS0.out.2.2.below).mono ?_; rintro e w1 ⟨rfl, hb1⟩; have HS1 := Lib.hid (stepK2 (Nat.le_refl _) HS0.out hb1); clear hb1 k0 k1; have k0 := HS1.out.1; have k1 := HS1.out.2.1; obtain ⟨⟨z0, z1, z2, z3, z4⟩, f0, f1, f2, f3, f4⟩ := HS1.out.2.2.zf))
      refine bodyPost_ret_by (v := .tuple #[frV 0 0 0 0 [], .int .i64 r]) ?_ rfl ?_
      · simp [frV, str, results, Tryz.results10, go_sem, z0, z1, z2, z3, z4]
      · exact ⟨HR.out, below_set5 HS1.out.2.2.below (Nat.le_succ _)⟩
end Go.Proofs.YtemfbkelenaaeaaGreat
/- A row of cells stays as it was while a box of a node's is written. -/
namespace Go.Proofs.YtemfbkelenaaeaaGreat
open Go.RowKit
open Sl (Cl Kd Nd Rn)
def plainV : Value → Bool
  | .bool _ => true
  | .slice _ _ _ => true
  | _ => false
theorem cell_box3 {w : World} {g : Nat} {u0 u1 u2 : Value} (h0 : w.cell? ⟨g, 0, none⟩ = some u0) (h1 : w.cell? ⟨g, 1, none⟩ = some u1) (h2 : w.cell? ⟨g, 2, none⟩ = some u2) (p0 : plainV u0 = true) (p1 : plainV u1 = true) (p2 : plainV u2 = true) (x0 x1 x2 : Value) {b o : Nat} {y : Value} (hy : w.cell? ⟨b, o, none⟩ = some y) (py : plainV y = false) :
    (((w.setCell ⟨g, 0, none⟩ x0).setCell ⟨g, 1, none⟩ x1).setCell ⟨g, 2, none⟩ x2).cell? ⟨b, o, none⟩ = some y := by
  have n0 : (⟨b, o, none⟩ : Addr) ≠ ⟨g, 0, none⟩ := fun h => by rw [h, h0] at hy; injection hy with hy; rw [hy, py] at p0; cases p0
  have n1 : (⟨b, o, none⟩ : Addr) ≠ ⟨g, 1, none⟩ := fun h => by rw [h, h1] at hy; injection hy with hy; rw [hy, py] at p1; cases p1
  have n2 : (⟨b, o, none⟩ : Addr) ≠ ⟨g, 2, none⟩ := fun h => by rw [h, h2] at hy; injection hy with hy; rw [hy, py] at p2; cases p2
  rw [World.cell?_setCell_other _ _ _ _ (Ne.symm n2), World.cell?_setCell_other _ _ _ _ (Ne.symm n1), World.cell?_setCell_other _ _ _ _ (Ne.symm n0), hy]
theorem cell_box2 {w : World} {g : Nat} {u0 u1 : Value} (h0 : w.cell? ⟨g, 0, none⟩ = some u0) (h1 : w.cell? ⟨g, 1, none⟩ = some u1) (p0 : plainV u0 = true) (p1 : plainV u1 = true) (x0 x1 : Value) {b o : Nat} {y : Value} (hy : w.cell? ⟨b, o, none⟩ = some y) (py : plainV y = false) :
    ((w.setCell ⟨g, 0, none⟩ x0).setCell ⟨g, 1, none⟩ x1).cell? ⟨b, o, none⟩ = some y := by
  have n0 : (⟨b, o, none⟩ : Addr) ≠ ⟨g, 0, none⟩ := fun h => by rw [h, h0] at hy; injection hy with hy; rw [hy, py] at p0; cases p0
  have n1 : (⟨b, o, none⟩ : Addr) ≠ ⟨g, 1, none⟩ := fun h => by rw [h, h1] at hy; injection hy with hy; rw [hy, py] at p1; cases p1
  rw [World.cell?_setCell_other _ _ _ _ (Ne.symm n1), World.cell?_setCell_other _ _ _ _ (Ne.symm n0), hy]
theorem cell_set1 {w : World} {p : Addr} {u : Value} (h0 : w.cell? p = some u) (p0 : plainV u = true) (x : Value) {b o : Nat} {y : Value} (hy : w.cell? ⟨b, o, none⟩ = some y) (py : plainV y = false) :
    (w.setCell p x).cell? ⟨b, o, none⟩ = some y := by
  have n0 : (⟨b, o, none⟩ : Addr) ≠ p := fun h => by rw [h, h0] at hy; injection hy with hy; rw [hy, py] at p0; cases p0
  rw [World.cell?_setCell_other _ _ _ _ (Ne.symm n0), hy]
theorem SlC.box3 {w : World} {g : Nat} {u0 u1 u2 : Value} {v : Value} {l : List Cl} (h : SlC w v l) (h0 : w.cell? ⟨g, 0, none⟩ = some u0) (h1 : w.cell? ⟨g, 1, none⟩ = some u1) (h2 : w.cell? ⟨g, 2, none⟩ = some u2) (p0 : plainV u0 = true := by rfl) (p1 : plainV u1 = true := by rfl) (p2 : plainV u2 = true := by rfl) (x0 x1 x2 : Value) :
    SlC (((w.setCell ⟨g, 0, none⟩ x0).setCell ⟨g, 1, none⟩ x1).setCell ⟨g, 2, none⟩ x2) v l := by
  obtain ⟨a, b, o, c, hv, ha, hx⟩ := h
  refine ⟨a, b, o, c, hv, ha, fun j x hj => ?_⟩
  obtain ⟨e0, e1, e2, e3⟩ := hx j x hj
  exact ⟨cell_box3 h0 h1 h2 p0 p1 p2 _ _ _ e0 rfl, cell_box3 h0 h1 h2 p0 p1 p2 _ _ _ e1 rfl, cell_box3 h0 h1 h2 p0 p1 p2 _ _ _ e2 rfl, cell_box3 h0 h1 h2 p0 p1 p2 _ _ _ e3 rfl⟩
theorem SlK.box3 {w : World} {g : Nat} {u0 u1 u2 : Value} {v : Value} {l : List Kd} (h : SlK w v l) (h0 : w.cell? ⟨g, 0, none⟩ = some u0) (h1 : w.cell? ⟨g, 1, none⟩ = some u1) (h2 : w.cell? ⟨g, 2, none⟩ = some u2) (p0 : plainV u0 = true := by rfl) (p1 : plainV u1 = true := by rfl) (p2 : plainV u2 = true := by rfl) (x0 x1 x2 : Value) :
    SlK (((w.setCell ⟨g, 0, none⟩ x0).setCell ⟨g, 1, none⟩ x1).setCell ⟨g, 2, none⟩ x2) v l := by
  obtain ⟨a, b, o, c, hv, ha, hx⟩ := h
  refine ⟨a, b, o, c, hv, ha, fun j x hj => ?_⟩
  obtain ⟨e0, e1⟩ := hx j x hj
  exact ⟨cell_box3 h0 h1 h2 p0 p1 p2 _ _ _ e0 rfl, cell_box3 h0 h1 h2 p0 p1 p2 _ _ _ e1 rfl⟩
theorem SlC.box2 {w : World} {g : Nat} {u0 u1 : Value} {v : Value} {l : List Cl} (h : SlC w v l) (h0 : w.cell? ⟨g, 0, none⟩ = some u0) (h1 : w.cell? ⟨g, 1, none⟩ = some u1) (p0 : plainV u0 = true := by rfl) (p1 : plainV u1 = true := by rfl) (x0 x1 : Value) :
    SlC ((w.setCell ⟨g, 0, none⟩ x0).setCell ⟨g, 1, none⟩ x1) v l := by
  obtain ⟨a, b, o, c, hv, ha, hx⟩ := h
  refine ⟨a, b, o, c, hv, ha, fun j x hj => ?_⟩
  obtain ⟨e0, e1, e2, e3⟩ := hx j x hj
  exact ⟨cell_box2 h0 h1 p0 p1 _ _ e0 rfl, cell_box2 h0 h1 p0 p1 _ _ e1 rfl, cell_box2 h0 h1 p0 p1 _ _ e2 rfl, cell_box2 h0 h1 p0 p1 _ _ e3 rfl⟩
theorem SlC.set1 {w : World} {p : Addr} {u : Value} {v : Value} {l : List Cl} (h : SlC w v l) (h0 : w.cell? p = some u) (p0 : plainV u = true := by rfl) (x : Value) : SlC (w.setCell p x) v l := by
  obtain ⟨a, b, o, c, hv, ha, hx⟩ := h
  refine ⟨a, b, o, c, hv, ha, fun j y hj => ?_⟩
  obtain ⟨e0, e1, e2, e3⟩ := hx j y hj
  exact ⟨cell_set1 h0 p0 _ e0 rfl, cell_set1 h0 p0 _ e1 rfl, cell_set1 h0 p0 _ e2 rfl, cell_set1 h0 p0 _ e3 rfl⟩
end Go.Proofs.YtemfbkelenaaeaaGreat
/- The contracts of cmp.Less and slices.IsSorted, at ints. -/
namespace Go.Proofs.YtemfbkelenaaeaaGreat
open Go.RowKit
theorem less_int (x y : Int) (w : World) :
    Calls Tryz.prog 121 #[.int .i64 x, .int .i64 y] w fun e w' => e = .returned (.bool (decide (x < y))) ∧ w' = w := by
  have HN := Lib.hid (fun z W => Tryz.cmp_isNaN_int z W)
  go_enter Tryz.func121, Tryz.ntmps121
  go_wp2_with (go_at_call 127; refine (HN.out _ _).mono ?_; rintro e w1 ⟨rfl, rfl⟩)
  go_ret
  exact ⟨rfl, rfl⟩
inductive SortOut (xs : List Nat) (w : World) (e : Ending) (w' : World) : Prop
  | yes (h : ∀ i, i + 1 < xs.length → xs.getD i 0 ≤ xs.getD (i + 1) 0) (he : e = .returned (.bool true)) (k : Nat) (hw : w' = w.drewN k)
  | no (i : Nat) (hi : i + 1 < xs.length) (h : xs.getD (i + 1) 0 < xs.getD i 0) (he : e = .returned (.bool false)) (k : Nat) (hw : w' = w.drewN k)
set_option maxHeartbeats 2000000 in
theorem sorted_any (g cap : Nat) (xs : List Nat) (hl : xs.length ≤ 100000) (h1 : 1 ≤ xs.length) (w : World) (hx : ∀ j, j < xs.length → w.cell? ⟨g, j, none⟩ = some (.int .i64 (xs.getD j 0 : Nat))) :
    Calls Tryz.prog 110 #[.slice (some ⟨g, 0, none⟩) xs.length cap] w (SortOut xs w) := by
  have HX := Lib.hid hx
  clear hx
  go_enter Tryz.func110, Tryz.ntmps110
  go_wp2
  go_loopg [3] (xs.length - 1) (fun n i wr => ∃ m : Nat, m + 1 ≤ xs.length ∧ n = m ∧ i = .int .i64 m ∧ Hid (∀ j, m ≤ j → j + 1 < xs.length → xs.getD j 0 ≤ xs.getD (j + 1) 0) ∧ Hid (∃ k, wr = w.drewN k))
  case atStart => exact ⟨xs.length - 1, by omega, rfl, val_i64 (by omega), fun j h1 h2 => by omega, 0, rfl⟩
  case round =>
    obtain ⟨m, hm, hgm, rfl, HS, HW⟩ := hrel
    cases m with
    | zero =>
      go_wp2
      go_ret
      obtain ⟨k, hk⟩ := HW.out
      exact .yes (fun i hi => HS.out i (Nat.zero_le _) hi) rfl k hk
    | succ q =>
      have c1 : wr.cell? ⟨g, q + 1, none⟩ = some (.int .i64 (xs.getD (q + 1) 0 : Nat)) := by obtain ⟨k, hk⟩ := HW.out; rw [hk]; exact HX.out (q + 1) (by omega)
      have c0 : wr.cell? ⟨g, q, none⟩ = some (.int .i64 (xs.getD q 0 : Nat)) := by obtain ⟨k, hk⟩ := HW.out; rw [hk]; exact HX.out q (by omega)
      have hq0 : (0 : Int) ≤ (q : Int) := by omega
      have hq1 : (0 : Int) ≤ (q : Int) + 1 := by omega
      have hq2 : (q : Int) < xs.length := by omega
      have hq3 : (q : Int) + 1 < xs.length := by omega
      have hq4 : ((q : Int) + 1).toNat = q + 1 := by omega
      have hgt : (0 : Int) < (q : Int) + 1 := by omega
      revert c0 c1
      generalize ha : xs.getD (q + 1) 0 = x1
      generalize hb : xs.getD q 0 = x0
      intro c1 c0
      have HA := Lib.hid ha
      have HB := Lib.hid hb
      clear ha hb
      by_cases hlt : x1 < x0
      · have hd : decide ((x1 : Int) < (x0 : Int)) = true := by rw [decide_eq_true_eq]; omega
        go_wp2_with fail
        go_quiet ((go_at_call 121; exact Calls.quiet_of_same (less_int _ _ _)))
        go_wp2
        go_ret
        obtain ⟨k, hk⟩ := HW.out
        exact .no q (by omega) (by rw [HA.out, HB.out]; exact hlt) rfl _ (by rw [hk, World.drewN_drewN])
      · have hd : decide ((x1 : Int) < (x0 : Int)) = false := by rw [decide_eq_false_iff_not]; omega
        go_wp2_with fail
        go_quiet ((go_at_call 121; exact Calls.quiet_of_same (less_int _ _ _)))
        clear hq4
        go_wp2
        go_roundg q
        case measure => omega
        case rel =>
          refine ⟨q, by omega, rfl, rfl, fun j h2 h3 => ?_, ?_⟩
          · by_cases hj : j = q
            · subst hj; rw [HA.out, HB.out]; omega
            · exact HS.out j (by omega) h3
          · obtain ⟨k, hk⟩ := HW.out
            exact ⟨_, by rw [hk, World.drewN_drewN]⟩
end Go.Proofs.YtemfbkelenaaeaaGreat
