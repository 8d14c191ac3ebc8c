/- The contract of the document's own Body. -/
import Derived.Test.YtppoikhonlgcnaaRefRight
namespace Go.Proofs.Ytppoikhonlgcnaa
open Go.RowKit
open Sl (Cl Kd)
set_option maxHeartbeats 4000000 in
set_option maxRecDepth 100000 in
theorem refBody_any (leaf : Bool) (v : Value) (l : List Cl) (hll : l.length ≤ 100000) (hl : ∀ x ∈ l, okC x ∧ x.val.length ≤ 60000) (w : World) (hv : SlC w v l) :
    Calls Try.prog 12 #[v, .bool leaf] w fun e w' => e = .returned (.tuple #[.string (str (Sl.bodyR (Sl.shR leaf) l).1), .int .i64 (Sl.bodyR (Sl.shR leaf) l).2]) ∧ Below w.heap.size w w' := by
  have HL := Lib.hid hl
  have HMa := Lib.hid (fun W (hW : SlC W v l) => refRight_any leaf v l hll W hW)
  have HSu := Lib.hid (fun W (hW : SlC W v l) => refSum_any leaf v l hll hl W hW)
  have HV := Lib.hid hv
  obtain ⟨a, b, o, c, rfl, ha, hx⟩ := hv
  have HX := Lib.hid hx
  have HA := Lib.hid ha
  clear hl ha hx
  have hlen : (l.length : Int) ≤ 100000 := by omega
  by_cases hr : Sl.right (Sl.shR leaf) l = 0
  · by_cases hs : 4072 < Sl.sum (Sl.shR leaf) l
    · rw [Sl.bodyR_full (Sl.shR leaf) l hr hs]
      rw [hr] at HMa
      clear hr
      revert HMa HSu hs
      generalize Sl.sum (Sl.shR leaf) l = m
      intro HMa HSu hs
      have hs' : (4072 : Int) < m := by omega
      go_enter Try.func12, Try.ntmps12
      go_wp2_with (first
        | (go_at_call 51; refine (HMa.out _ HV.out).mono ?_; rintro e w2 ⟨rfl, hb2⟩)
        | (go_at_call 17; refine (HSu.out _ (HV.out.below hb2)).mono ?_; rintro e w3 ⟨rfl, hb3⟩))
      go_ret2
      exact ⟨rfl, below_step hb2 hb3⟩
    · rw [Sl.bodyR_ok (Sl.shR leaf) l hr hs]
      rw [hr] at HMa
      have HAT := Lib.hid (fun k => Sl.at_le (Sl.shR leaf) l k (Nat.le_of_not_lt hs))
      have HBL : Hid (2 * l.length = (Sl.begins (Sl.shR leaf) (2 * l.length) l).length) := (Sl.begins_len (Sl.shR leaf) l _).symm
      have HBS : Hid (str (Sl.begins (Sl.shR leaf) (2 * l.length) l) ++ str (l.flatMap (Sl.shR leaf).enc) = str (Sl.body (Sl.shR leaf) l)) := by show _ = _; rw [str_append]; rfl
      clear hr
      revert HSu hs HBS
      generalize Sl.sum (Sl.shR leaf) l = m
      generalize Sl.body (Sl.shR leaf) l = res
      intro HSu hs HBS
      have hs' : ¬ (4072 : Int) < m := by omega
      go_enter Try.func12, Try.ntmps12
      go_wp2_with (first
        | (go_at_call 51; refine (HMa.out _ HV.out).mono ?_; rintro e w2 ⟨rfl, hb2⟩)
        | (go_at_call 17; refine (HSu.out _ (HV.out.below hb2)).mono ?_; rintro e w3 ⟨rfl, hb3⟩))
      have HW3 := Lib.hid (below_step hb2 hb3)
      clear hb2 hb3 hs hs'
      go_loopg [7, 8, 23] l.length (fun n s t i wr => ∃ k : Nat, k ≤ l.length ∧ n = l.length - k ∧ i = .int .i64 k ∧ s = .string (str (Sl.begins (Sl.shR leaf) (2 * l.length) (l.take k))) ∧ t = .string (str ((l.take k).flatMap (Sl.shR leaf).enc)) ∧ Hid (Below w.heap.size w wr))
      case atStart => exact ⟨0, Nat.zero_le _, rfl, rfl, rfl, rfl, HW3.out⟩
      case round =>
        obtain ⟨k, hk, rfl, rfl, rfl, rfl, HB⟩ := hrel
        by_cases hlt : k < l.length
        · obtain ⟨x, hx⟩ := take_some l k hlt
          have hxx := HL.out x (List.mem_of_getElem? hx)
          obtain ⟨e0, e1, e2, e3⟩ := HX.out k x hx
          have hblt : b < w.heap.size := World.block_lt_of_cell? _ _ e0
          have d0 := (HB.out.cell (p := ⟨b, o + k * 4, none⟩) hblt).trans e0
          have d1 := (HB.out.cell (p := ⟨b, o + k * 4 + 1, none⟩) hblt).trans e1
          have d2 := (HB.out.cell (p := ⟨b, o + k * 4 + 2, none⟩) hblt).trans e2
          have d3 := (HB.out.cell (p := ⟨b, o + k * 4 + 3, none⟩) hblt).trans e3
          obtain rfl : a = some ⟨b, o, none⟩ := by
            rcases HA.out with h | h
            · rw [h] at hlt; cases hlt
            · exact h
          have HBa : Hid (Below w.heap.size w (wr.alloc (.cells #[.string (str x.key), .string (str x.val), .int .u32 x.chain, .int .u32 x.long] 42))) := HB.out.alloc HB.out.size _
          have HSB := Lib.hid (Sl.begins_at (Sl.shR leaf) l k x hx (2 * l.length))
          have HSF := Lib.hid (Sl.flat_at (Sl.shR leaf) l k x hx)
          have hat := HAT.out k
          have HCE := Lib.hid (fun W => refCell_any x leaf hxx.1 hxx.2 W)
          have hle := Sl.shR_len leaf x
          have hbl : (Sl.begins (Sl.shR leaf) (2 * l.length) (l.take k)).length ≤ 200000 := by rw [Sl.begins_len, List.length_take]; omega
          clear e0 e1 e2 e3 hx hxx
          revert HSB HSF hat HCE hle hbl
          generalize Sl.begins (Sl.shR leaf) (2 * l.length) (l.take k) = B0
          generalize hb1e : Sl.begins (Sl.shR leaf) (2 * l.length) (l.take (k + 1)) = B1
          generalize (l.take k).flatMap (Sl.shR leaf).enc = F0
          generalize hf1e : (l.take (k + 1)).flatMap (Sl.shR leaf).enc = F1
          generalize (Sl.shR leaf).enc x = ex
          have HB1E := Lib.hid hb1e
          have HF1E := Lib.hid hf1e
          clear hb1e hf1e
          intro HSB HSF hat HCE hle hbl
          have hz := big_size
          have hz1 := str_size B0
          have hz2 := str_size F0
          have hz3 := str_size ex
          have hq1 : F0.length ≤ 4072 := by omega
          unfold aggC at HCE
          go_wp2_with (first
            | (go_at_call 52; refine (big2_at _ (2 * l.length + F0.length) ?_ (by omega) _).mono ?_; (first | omega | (rw [IntKind.wrap_u64]; omega)); rintro e w6 ⟨rfl, hb6⟩; have HB6 := Lib.hid (HBa.out.trans (hb6.mono HBa.out.size)); obtain ⟨y0, y1, y2, y3⟩ := elemC hb6)
            | (go_at_call 53; refine (HCE.out _).mono ?_; rintro e w7 ⟨rfl, hb7⟩))
          have HB7 : Hid (Below w.heap.size w w7) := HB6.out.trans (hb7.mono HB6.out.size)
          clear hb6 hb7
          go_roundg (l.length - (k + 1))
          case measure => omega
          case rel => exact ⟨k + 1, by omega, rfl, by go_num, by rw [HB1E.out, HSB.out, str_append], by rw [HF1E.out, HSF.out, str_append], HB7⟩
        · obtain rfl : k = l.length := by omega
          have hbl := Nat.le_of_eq HBL.out.symm
          have hfl := HAT.out l.length
          rw [List.take_length] at hfl ⊢
          revert hbl hfl HBS
          generalize Sl.begins (Sl.shR leaf) (2 * l.length) l = B0
          generalize l.flatMap (Sl.shR leaf).enc = F0
          intro HBS hbl hfl
          have hz1 := str_size B0
          have hz2 := str_size F0
          have hf2 : F0.length ≤ 4072 := by omega
          go_wp2
          go_ret2
          exact ⟨by rw [← HBS.out]; rfl, HB.out⟩
  · rw [Sl.bodyR_bad (Sl.shR leaf) l hr]
    revert HMa hr
    generalize Sl.right (Sl.shR leaf) l = m
    intro HMa hr
    have hd : (m != 0) = true := by rw [bne_iff_ne]; exact hr
    go_enter Try.func12, Try.ntmps12
    go_wp2_with (go_at_call 51; refine (HMa.out _ HV.out).mono ?_; rintro e w2 ⟨rfl, hb2⟩)
    go_ret2
    exact ⟨rfl, hb2⟩
end Go.Proofs.Ytppoikhonlgcnaa
