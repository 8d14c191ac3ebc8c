/- The contract of the document's own right. -/
import Derived.Test.YtppoikhonlgcnaaRefSum
namespace Go.Proofs.Ytppoikhonlgcnaa
open Go.RowKit
open Sl (Cl Kd)
theorem long_bad (leaf : Bool) (x : Cl) (h : 255 < x.key.length) : Sl.long (Sl.shR leaf) x = true := by
  unfold Sl.long; rw [decide_eq_true (show 255 < ((Sl.shR leaf).key x).length from h)]; rfl
theorem long_kid (x : Cl) (h : ¬ 255 < x.key.length) : Sl.long (Sl.shR false) x = false := by
  unfold Sl.long; rw [decide_eq_false (show ¬ 255 < ((Sl.shR false).key x).length from h)]; rfl
theorem long_leaf (x : Cl) (h : ¬ 255 < x.key.length) : Sl.long (Sl.shR true) x = !(Sl.fitsC x) := by
  unfold Sl.long; rw [decide_eq_false (show ¬ 255 < ((Sl.shR true).key x).length from h)]; rfl
theorem str_beq {a b : List UInt8} (h : a = b) : ((str a).toList == (str b).toList) = true := by rw [h]; exact beq_self_eq_true _
theorem str_bne {a b : List UInt8} (h : a ≠ b) : ((str a).toList == (str b).toList) = false := by
  rw [Lib.toList_data, Lib.toList_data, beq_eq_false_iff_ne]; exact h
set_option maxHeartbeats 4000000 in
set_option maxRecDepth 100000 in
theorem refRight_any (leaf : Bool) (v : Value) (l : List Cl) (hll : l.length ≤ 100000) (w : World) (hv : SlC w v l) :
    Calls Try.prog 51 #[v, .bool leaf] w fun e w' => e = .returned (.int .i64 (Sl.right (Sl.shR leaf) l)) ∧ Below w.heap.size w w' := by
  obtain ⟨a, b, o, c, rfl, ha, hx⟩ := hv
  have HX := Lib.hid hx
  have HA := Lib.hid ha
  clear ha hx
  go_enter Try.func51, Try.ntmps51
  go_wp2
  go_loopg [10] l.length (fun n i wr => ∃ k : Nat, k ≤ l.length ∧ n = l.length - k ∧ i = .int .i64 k ∧ Hid ((l.take k).any (Sl.long (Sl.shR leaf)) = false) ∧ Hid (Below w.heap.size w wr))
  case atStart => exact ⟨0, Nat.zero_le _, rfl, rfl, rfl, Below.refl _ _⟩
  case round =>
    obtain ⟨k, hk, rfl, rfl, HM, HB⟩ := hrel
    by_cases hlt : k < l.length
    · obtain ⟨x, hx⟩ := take_some l k hlt
      have HXK := Lib.hid hx
      obtain ⟨e0, e1, e2, e3⟩ := HX.out k x hx
      have hblt : b < w.heap.size := World.block_lt_of_cell? _ _ e0
      have d0 := (HB.out.cell (p := ⟨b, o + k * 4, none⟩) hblt).trans e0
      have d1 := (HB.out.cell (p := ⟨b, o + k * 4 + 1, none⟩) hblt).trans e1
      have d2 := (HB.out.cell (p := ⟨b, o + k * 4 + 2, none⟩) hblt).trans e2
      have d3 := (HB.out.cell (p := ⟨b, o + k * 4 + 3, none⟩) hblt).trans e3
      obtain rfl : a = some ⟨b, o, none⟩ := by
        rcases HA.out with h | h
        · rw [h] at hlt; cases hlt
        · exact h
      have hs := str_size x.key
      have hs2 := str_size x.val
      have HBa : Hid (Below w.heap.size w (wr.alloc (.cells #[.string (str x.key), .string (str x.val), .int .u32 x.chain, .int .u32 x.long] 42))) := HB.out.alloc HB.out.size _
      clear e0 e1 e2 e3 hx
      by_cases hA : 255 < x.key.length
      · have HL : Hid (Sl.right (Sl.shR leaf) l = 5) := Sl.right_long (Sl.shR leaf) l k x HXK.out (long_bad leaf x hA)
        have hA' : (255 : Int) < x.key.length := by omega
        go_wp2
        go_ret
        exact ⟨ret_int HL.out.symm, HBa.out⟩
      · have hA' : ¬ (255 : Int) < x.key.length := by omega
        cases leaf
        · have HN := Lib.hid (Sl.any_snoc (Sl.shR false) l k x HXK.out HM.out (long_kid x hA))
          go_wp2
          go_roundg (l.length - (k + 1))
          case measure => omega
          case rel => exact ⟨k + 1, by omega, rfl, by go_num, HN, HBa⟩
        · by_cases h0 : x.chain = 0
          · have hf : Sl.fitsC x = decide (x.val.length ≤ 400) := by unfold Sl.fitsC; rw [if_neg (by omega)]
            rw [h0] at d2 HBa
            have hz : ((0 : Nat) : Int) = 0 := rfl
            by_cases h4 : x.val.length ≤ 400
            · have h4' : ¬ (400 : Int) < x.val.length := by omega
              have HN := Lib.hid (Sl.any_snoc (Sl.shR true) l k x HXK.out HM.out (by rw [long_leaf x hA, hf, decide_eq_true h4]; rfl))
              clear hf
              go_wp2
              go_roundg (l.length - (k + 1))
              case measure => omega
              case rel => exact ⟨k + 1, by omega, rfl, by go_num, HN, HBa⟩
            · have h4' : (400 : Int) < x.val.length := by omega
              have HL : Hid (Sl.right (Sl.shR true) l = 5) := Sl.right_long (Sl.shR true) l k x HXK.out (by rw [long_leaf x hA, hf, decide_eq_false h4]; rfl)
              clear hf
              go_wp2
              go_ret
              exact ⟨ret_int HL.out.symm, HBa.out⟩
          · have hf : Sl.fitsC x = decide (x.val.length ≤ 0) := by unfold Sl.fitsC; rw [if_pos h0]
            have hd : ((x.chain : Int) == 0) = false := by rw [beq_eq_false_iff_ne]; omega
            have hd' : ((x.chain : Int) != 0) = true := by rw [bne_iff_ne]; omega
            by_cases h4 : x.val.length ≤ 0
            · have h4' : ¬ (0 : Int) < x.val.length := by omega
              have HN := Lib.hid (Sl.any_snoc (Sl.shR true) l k x HXK.out HM.out (by rw [long_leaf x hA, hf, decide_eq_true h4]; rfl))
              clear hf
              go_wp2
              go_roundg (l.length - (k + 1))
              case measure => omega
              case rel => exact ⟨k + 1, by omega, rfl, by go_num, HN, HBa⟩
            · have h4' : (0 : Int) < x.val.length := by omega
              have h4n : 0 < x.val.length := by omega
              have HL : Hid (Sl.right (Sl.shR true) l = 5) := Sl.right_long (Sl.shR true) l k x HXK.out (by rw [long_leaf x hA, hf, decide_eq_false h4]; rfl)
              clear hf
              go_wp2
              go_ret
              exact ⟨ret_int HL.out.symm, HBa.out⟩
    · obtain rfl : k = l.length := by omega
      rw [List.take_length] at HM
      obtain ⟨wo, rfl⟩ : ∃ wo : World, wo = wr := ⟨_, rfl⟩
      have HBO := Lib.hid HB.out
      clear HB
      go_wp2
      go_loopg [7] (l.length + 1) (fun n i wr => ∃ k : Nat, k ≤ l.length ∧ n = l.length + 1 - k ∧ i = .int .i64 ((k + 1 : Nat) : Int) ∧ Hid (∀ j a b, j < k → l[j]? = some a → l[j + 1]? = some b → Sl.less a.key b.key = true) ∧ Hid (Below w.heap.size w wr))
      case atStart => exact ⟨0, Nat.zero_le _, rfl, rfl, fun j a b hj => absurd hj (Nat.not_lt_zero j), HBO.out⟩
      case round =>
        obtain ⟨k, hk', rfl, rfl, HN, HB⟩ := hrel
        by_cases hlt1 : k + 1 < l.length
        · obtain ⟨x, hx⟩ := take_some l k (by omega)
          obtain ⟨y, hy⟩ := take_some l (k + 1) hlt1
          have HXK := Lib.hid hx
          have HYK := Lib.hid hy
          obtain ⟨e0, e1, e2, e3⟩ := HX.out k x hx
          obtain ⟨f0, f1, f2, f3⟩ := HX.out (k + 1) y hy
          have hblt : b < w.heap.size := World.block_lt_of_cell? _ _ e0
          have d0 := (HB.out.cell (p := ⟨b, o + k * 4, none⟩) hblt).trans e0
          have g0 := (HB.out.cell (p := ⟨b, o + (k + 1) * 4, none⟩) hblt).trans f0
          obtain rfl : a = some ⟨b, o, none⟩ := by
            rcases HA.out with h | h
            · rw [h] at hlt1; cases hlt1
            · exact h
          clear e0 e1 e2 e3 f0 f1 f2 f3 hx hy
          have hlt' : (k : Int) + 1 < l.length := by omega
          have hk0 : (0 : Int) ≤ (k : Int) := by omega
          have hk1 : (k : Int) < l.length := by omega
          have hk2 : (0 : Int) ≤ (k : Int) + 1 := by omega
          have hk4 : ((k : Int) + 1).toNat = k + 1 := by omega
          cases hle : Sl.less x.key y.key
          · have HR30 : Hid (Sl.right (Sl.shR leaf) l = 30) := Sl.right_drop (Sl.shR leaf) l HM.out (Sl.rises_false (Sl.shR leaf) l k x y HXK.out HYK.out hle)
            cases hge : Sl.less y.key x.key
            · have hb2 := str_beq (Sl.less_tri y.key x.key hge hle)
              have hb1 : Op.bytesLess (str y.key).toList (str x.key).toList = false := (bl _ _).trans hge
              clear hle hge
              go_wp2_with fail
              go_quiet (fail)
              go_wp2
              go_ret
              exact ⟨ret_int HR30.out.symm, below_drewN HB.out _⟩
            · have hb1 : Op.bytesLess (str y.key).toList (str x.key).toList = true := (bl _ _).trans hge
              clear hle hge
              go_wp2_with fail
              go_quiet (fail)
              go_wp2
              go_ret
              exact ⟨ret_int HR30.out.symm, below_drewN HB.out _⟩
          · have hb1 : Op.bytesLess (str y.key).toList (str x.key).toList = false := (bl _ _).trans (Sl.less_asym _ _ hle)
            have hb2 := str_bne (a := y.key) (b := x.key) (fun e => by rw [e, Sl.less_self] at hle; cases hle)
            have HNN := Lib.hid (Sl.rises_upto (Sl.shR leaf) l k x y HXK.out HYK.out hle HN.out)
            clear hle
            go_wp2_with fail
            go_quiet (fail)
            clear hk4
            go_wp2
            go_roundg (l.length + 1 - (k + 1))
            case measure => omega
            case rel => exact ⟨k + 1, by omega, rfl, by go_num, HNN, below_drewN HB.out _⟩
        · have hlen : ¬ (k : Int) + 1 < l.length := by omega
          have HR0 : Hid (Sl.right (Sl.shR leaf) l = 0) := Sl.right_ok (Sl.shR leaf) l HM.out (Sl.rises_all (Sl.shR leaf) l fun j a b hj => HN.out j a b (by omega))
          go_wp2
          go_ret
          exact ⟨ret_int HR0.out.symm, HB.out⟩
end Go.Proofs.Ytppoikhonlgcnaa
