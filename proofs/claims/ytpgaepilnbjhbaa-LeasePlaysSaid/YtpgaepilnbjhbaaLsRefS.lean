/- The document's Same. -/
import Derived.Test.YtpgaepilnbjhbaaLsCmp
set_option maxRecDepth 100000
set_option maxHeartbeats 4000000
set_option linter.unusedVariables false
namespace Go.Proofs.Ytpgaepilnbjhbaa
open Go.RowKit
open Ls (Txt Ln Ms)
attribute [local go_sem] Oper.semAt_some
theorem take_next {l m : List Ln} {k : Nat} {x y : Ln} (h : l.take k = m.take k) (hx : l[k]? = some x) (hy : m[k]? = some y) (e : x = y) : l.take (k + 1) = m.take (k + 1) := by
  rw [take_snoc hx, take_snoc hy, h, e]
theorem ln_eq {x y : Ln} (h0 : x.q = y.q) (h1 : x.id = y.id) (h2 : x.t = y.t) : x = y := by cases x; cases y; simp at h0 h1 h2; simp [h0, h1, h2]
theorem rSame_any (s1 s2 : Value) (l m : List Ln) (hl : l.length ≤ 1000) (hm : m.length ≤ 1000) (w : World) (h : SlG cL 3 w s1 l) (h' : SlG cL 3 w s2 m) :
    Calls Try.prog 18 #[s1, s2] w fun e w' => e = .returned (.bool (decide (l = m))) ∧ Below w.heap.size w w' := by
  have HS := Lib.hid h
  have HS' := Lib.hid h'
  obtain ⟨sa, sc, rfl⟩ := h.slice
  obtain ⟨ta, tc, rfl⟩ := h'.slice
  clear h h'
  by_cases hln : l.length = m.length
  · have hli : (l.length : Int) = (m.length : Int) := by omega
    go_enter Try.func18, Try.ntmps18
    go_wp2
    go_loopg [13] m.length (fun n v wr => ∃ k : Nat, k ≤ m.length ∧ n = m.length - k ∧ v = .int .i64 k ∧ Hid (l.take k = m.take k) ∧ Hid (Below w.heap.size w wr))
    case atStart => exact ⟨0, Nat.zero_le _, rfl, rfl, rfl, Below.refl _ _⟩
    case round =>
      obtain ⟨k, hk, rfl, rfl, HN, HB⟩ := hrel
      by_cases hlt : k < m.length
      · have hlt' : k < l.length := by omega
        have hlti : (k : Int) < (l.length : Int) := by omega
        obtain ⟨x, hx⟩ := some_atP hlt'
        obtain ⟨y, hy⟩ := some_atP hlt
        obtain ⟨a, b, o, c, hv, hlc, _, ha0, ha, hcx⟩ := (HS.out.below HB.out).get
        cases hv
        obtain rfl : sa = some ⟨b, o, none⟩ := ha.resolve_left (fun h' => by have := ha0 h'; omega)
        obtain ⟨e0, e1, e2⟩ := at3 hcx hx
        obtain ⟨a', b', o', c', hv', hlc', _, ha0', ha', hcx'⟩ := (HS'.out.below HB.out).get
        cases hv'
        obtain rfl : ta = some ⟨b', o', none⟩ := ha'.resolve_left (fun h' => by have := ha0' h'; omega)
        obtain ⟨d0, d1, d2⟩ := at3 hcx' hy
        have HX := Lib.hid hx
        have HY := Lib.hid hy
        have HBD := Lib.hid HB.out.drew
        clear hcx ha0 ha hx hcx' ha0' ha' hy
        by_cases hxy : x = y
        · have HN' := Lib.hid (take_next HN.out HX.out HY.out hxy)
          subst hxy
          have hs := str_same x.q
          go_wp2_with fail
          go_region
          go_wp2
          go_roundg (m.length - (k + 1))
          case measure => omega
          case rel => exact ⟨k + 1, hlt, rfl, by go_num, HN', HBD⟩
        · have HNE : Hid (decide (l = m) = false) := decide_eq_false (fun e => hxy (by have h1 := HX.out; have h2 := HY.out; rw [e] at h1; rw [h1] at h2; exact Option.some.inj h2))
          by_cases hq : x.q = y.q
          · rw [hq] at e0
            have hs := str_same y.q
            by_cases hi : x.id = y.id
            · have ht : ¬ (x.t : Int) = (y.t : Int) := fun h => hxy (ln_eq hq hi (by omega))
              rw [hi] at e1
              clear hxy hq hi
              go_wp2_with fail
              go_region
              go_wp2
              go_ret
              exact ⟨by rw [HNE.out]; rfl, HBD.out⟩
            · have hii : ¬ (x.id : Int) = (y.id : Int) := by omega
              clear hxy hq hi
              go_wp2_with fail
              go_region
              go_wp2
              go_ret
              exact ⟨by rw [HNE.out]; rfl, HBD.out⟩
          · have hs := str_ne hq
            clear hxy hq
            go_wp2_with fail
            go_region
            go_wp2
            go_ret
            exact ⟨by rw [HNE.out]; rfl, HBD.out⟩
      · obtain rfl : k = m.length := by omega
        have HE : Hid (l = m) := by show _ = _; have := HN.out; rw [List.take_length, ← hln, List.take_length] at this; exact this
        go_wp2
        go_ret
        exact ⟨by rw [decide_eq_true HE.out]; rfl, HB.out⟩
  · have hli : ¬ (l.length : Int) = (m.length : Int) := by omega
    have hd : decide (l = m) = false := decide_eq_false (fun e => hln (by rw [e]))
    rw [hd]
    go_enter Try.func18, Try.ntmps18
    go_wp2
    go_ret
    exact ⟨rfl, Below.refl _ _⟩
end Go.Proofs.Ytpgaepilnbjhbaa
