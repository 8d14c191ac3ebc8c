/- The contracts of the document's own Same (of a row with itself) and Find. -/
import Derived.Test.YtppoikhonlgcnaaRefRight
import Derived.Test.YtppoikhonlgcnaaSMath5
import Derived.Test.YtppoikhonlgcnaaFndC
import Derived.Test.YtppoikhonlgcnaaRdC
namespace Go.Proofs.Ytppoikhonlgcnaa
open Go.RowKit
open Sl (Cl Kd)
set_option maxHeartbeats 4000000 in
set_option maxRecDepth 100000 in
theorem same_any (v u : Value) (l : List Cl) (hll : l.length ≤ 100000) (w : World) (hv : SlC w v l) (hu : SlC w u l) :
    Calls Try.prog 22 #[v, u] w fun e w' => e = .returned (.bool true) ∧ Below w.heap.size w w' := by
  obtain ⟨a, b, o, c, rfl, ha, hx⟩ := hv
  obtain ⟨a', b', o', c', rfl, ha', hx'⟩ := hu
  have HX := Lib.hid hx
  have HA := Lib.hid ha
  have HX' := Lib.hid hx'
  have HA' := Lib.hid ha'
  clear ha hx ha' hx'
  have hlen : (l.length : Int) ≤ 100000 := by omega
  go_enter Try.func22, Try.ntmps22
  go_wp2
  go_loopg [13] l.length (fun n i wr => ∃ k : Nat, k ≤ l.length ∧ n = l.length - k ∧ i = .int .i64 k ∧ Hid (Below w.heap.size w wr))
  case atStart => exact ⟨0, Nat.zero_le _, rfl, rfl, Below.refl _ _⟩
  case round =>
    obtain ⟨k, hk, rfl, rfl, HB⟩ := hrel
    by_cases hlt : k < l.length
    · obtain ⟨x, hx⟩ := take_some l k hlt
      obtain ⟨e0, e1, e2, e3⟩ := HX.out k x hx
      obtain ⟨y0, y1, y2, y3⟩ := HX'.out k x hx
      have hblt : b < w.heap.size := World.block_lt_of_cell? _ _ e0
      have d0 := (HB.out.cell (p := ⟨b, o + k * 4, none⟩) hblt).trans e0
      have d1 := (HB.out.cell (p := ⟨b, o + k * 4 + 1, none⟩) hblt).trans e1
      have d2 := (HB.out.cell (p := ⟨b, o + k * 4 + 2, none⟩) hblt).trans e2
      have d3 := (HB.out.cell (p := ⟨b, o + k * 4 + 3, none⟩) hblt).trans e3
      have hblt' : b' < w.heap.size := World.block_lt_of_cell? _ _ y0
      have g0 := (HB.out.cell (p := ⟨b', o' + k * 4, none⟩) hblt').trans y0
      have g1 := (HB.out.cell (p := ⟨b', o' + k * 4 + 1, none⟩) hblt').trans y1
      have g2 := (HB.out.cell (p := ⟨b', o' + k * 4 + 2, none⟩) hblt').trans y2
      have g3 := (HB.out.cell (p := ⟨b', o' + k * 4 + 3, none⟩) hblt').trans y3
      obtain rfl : a = some ⟨b, o, none⟩ := by
        rcases HA.out with h | h
        · rw [h] at hlt; cases hlt
        · exact h
      obtain rfl : a' = some ⟨b', o', none⟩ := by
        rcases HA'.out with h | h
        · rw [h] at hlt; cases hlt
        · exact h
      have hki : (k : Int) < l.length := by omega
      have hk0 : (0 : Int) ≤ (k : Int) := by omega
      clear e0 e1 e2 e3 y0 y1 y2 y3 hx hblt hblt'
      go_wp2
      go_quiet (fail)
      go_wp2
      go_roundg (l.length - (k + 1))
      case measure => omega
      case rel => exact ⟨k + 1, by omega, rfl, by go_num, below_drewN HB.out _⟩
    · obtain rfl : k = l.length := by omega
      go_wp2
      go_ret
      exact ⟨rfl, HB.out⟩
set_option maxHeartbeats 4000000 in
set_option maxRecDepth 100000 in
theorem refFind_any (v : Value) (l : List Cl) (hll : l.length ≤ 100000) (key : List UInt8) (w : World) (hv : SlC w v l) :
    Calls Try.prog 25 #[v, .string (str key)] w fun e w' => e = .returned (.tuple #[.int .i64 (Sl.place Sl.shC l key : Nat), .bool (Sl.there Sl.shC l key)]) ∧ Below w.heap.size w w' := by
  obtain ⟨a, b, o, c, rfl, ha, hx⟩ := hv
  have HX := Lib.hid hx
  have HA := Lib.hid ha
  clear ha hx
  have hlen : (l.length : Int) ≤ 100000 := by omega
  go_enter Try.func25, Try.ntmps25
  go_wp2
  go_loopg [10] l.length (fun n i wr => ∃ k : Nat, k ≤ l.length ∧ n = l.length - k ∧ i = .int .i64 k ∧ Hid (∀ m x, m < k → l[m]? = some x → Sl.less (Sl.shC.key x) key = true) ∧ Hid (Below w.heap.size w wr))
  case atStart => exact ⟨0, Nat.zero_le _, rfl, rfl, fun m x h => absurd h (Nat.not_lt_zero m), Below.refl _ _⟩
  case round =>
    obtain ⟨k, hk, rfl, rfl, HLO, HB⟩ := hrel
    by_cases hlt : k < l.length
    · obtain ⟨x, hx⟩ := take_some l k hlt
      have HXK := Lib.hid hx
      obtain ⟨e0, e1, e2, e3⟩ := HX.out k x hx
      have hblt : b < w.heap.size := World.block_lt_of_cell? _ _ e0
      have d0 := (HB.out.cell (p := ⟨b, o + k * 4, none⟩) hblt).trans e0
      have d1 := (HB.out.cell (p := ⟨b, o + k * 4 + 1, none⟩) hblt).trans e1
      have d2 := (HB.out.cell (p := ⟨b, o + k * 4 + 2, none⟩) hblt).trans e2
      have d3 := (HB.out.cell (p := ⟨b, o + k * 4 + 3, none⟩) hblt).trans e3
      obtain rfl : a = some ⟨b, o, none⟩ := by
        rcases HA.out with h | h
        · rw [h] at hlt; cases hlt
        · exact h
      have HBa : Hid (Below w.heap.size w (wr.alloc (.cells #[.string (str x.key), .string (str x.val), .int .u32 x.chain, .int .u32 x.long] 42))) := HB.out.alloc HB.out.size _
      clear e0 e1 e2 e3 hx hblt
      cases hle : Sl.less x.key key
      · have hb1 : Op.bytesLess (str x.key).toList (str key).toList = false := (bl _ _).trans hle
        have HPL : Hid (Sl.place Sl.shC l key = k) := Sl.place_eq Sl.shC key l k hk HLO.out (fun y hy => by rw [HXK.out] at hy; injection hy with hy; rw [← hy]; exact hle)
        have HTH : Hid (Sl.there Sl.shC l key = decide (x.key = key)) := Sl.there_some Sl.shC l key x (by rw [HPL.out]; exact HXK.out)
        clear hle
        by_cases hkk : x.key = key
        · have hb2 := str_beq hkk
          have HKK := Lib.hid hkk
          clear hkk
          go_wp2
          go_quiet (fail)
          go_wp2
          go_ret2
          exact ⟨by rw [HPL.out, HTH.out, decide_eq_true HKK.out]; rfl, below_drewN HBa.out _⟩
        · have hb2 := str_bne hkk
          have HKK := Lib.hid hkk
          clear hkk
          go_wp2
          go_quiet (fail)
          go_wp2
          go_ret2
          exact ⟨by rw [HPL.out, HTH.out, decide_eq_false HKK.out]; rfl, below_drewN HBa.out _⟩
      · have hb1 : Op.bytesLess (str x.key).toList (str key).toList = true := (bl _ _).trans hle
        have HLN : Hid (∀ m y, m < k + 1 → l[m]? = some y → Sl.less (Sl.shC.key y) key = true) := fun m y hm hy => by
          rcases Nat.lt_or_ge m k with h | h
          · exact HLO.out m y h hy
          · obtain rfl : m = k := by omega
            rw [HXK.out] at hy; injection hy with hy; rw [← hy]; exact hle
        clear hle
        go_wp2
        go_roundg (l.length - (k + 1))
        case measure => omega
        case rel => exact ⟨k + 1, by omega, rfl, by go_num, HLN, HBa⟩
    · obtain rfl : k = l.length := by omega
      have HPL : Hid (Sl.place Sl.shC l key = l.length) := Sl.place_eq Sl.shC key l l.length (Nat.le_refl _) HLO.out (fun y hy => by rw [List.getElem?_eq_none (Nat.le_refl _)] at hy; cases hy)
      have HTH : Hid (Sl.there Sl.shC l key = false) := Sl.there_none Sl.shC l key (Nat.le_of_eq HPL.out.symm)
      go_wp2
      go_ret2
      exact ⟨by rw [HPL.out, HTH.out]; rfl, HB.out⟩
end Go.Proofs.Ytppoikhonlgcnaa
