/- The document's Until, Same and Free. -/
import Derived.Test.YtpgaepilnbjhbaaLsCmp
set_option maxRecDepth 100000
set_option maxHeartbeats 4000000
set_option linter.unusedVariables false
namespace Go.Proofs.Ytpgaepilnbjhbaa
open Go.RowKit
open Ls (Txt Ln Ms)
attribute [local go_sem] Oper.semAt_some
def untilR (q : Txt) (id : Nat) (l : List Ln) : Option Nat := (l.find? fun e => decide (e.q = q ∧ e.id = id)).map (·.t)
theorem find_at {p : Ln → Bool} : ∀ {l : List Ln} {k : Nat} {x : Ln}, l[k]? = some x → (∀ e ∈ l.take k, p e = false) → p x = true → l.find? p = some x
  | [], _, _, h, _, _ => by simp at h
  | y :: l, 0, x, h, _, hp => by simp at h; subst h; simp [List.find?, hp]
  | y :: l, k + 1, x, h, hn, hp => by
    have h0 := hn y (by simp)
    simp only [List.find?, h0]
    exact find_at (by simpa using h) (fun e he => hn e (by simp [he])) hp
theorem find_none' {p : Ln → Bool} {l : List Ln} (h : ∀ e ∈ l, p e = false) : l.find? p = none := by
  rw [List.find?_eq_none]; intro e he; simp [h e he]
theorem rUntil_any (q : Txt) (id : Nat) (sl : Value) (l : List Ln) (hl : l.length ≤ 1000) (w : World) (h : SlG cL 3 w sl l) :
    Calls Try.prog 17 #[sl, .string (str q), .int .u64 id] w fun e w' => e = .returned (.tuple #[.int .u64 (((untilR q id l).getD 0 : Nat) : Int), .bool (untilR q id l).isSome]) ∧ Below w.heap.size w w' := by
  have HS := Lib.hid h
  obtain ⟨sa, sc, rfl⟩ := h.slice
  clear h
  go_enter Try.func17, Try.ntmps17
  go_wp2
  go_loopg [12] l.length (fun n v wr => ∃ k : Nat, k ≤ l.length ∧ n = l.length - k ∧ v = .int .i64 k ∧ Hid (∀ e ∈ l.take k, decide (e.q = q ∧ e.id = id) = false) ∧ Hid (Below w.heap.size w wr))
  case atStart => exact ⟨0, Nat.zero_le _, rfl, rfl, (fun e he => by simp at he), Below.refl _ _⟩
  case round =>
    obtain ⟨k, hk, rfl, rfl, HN, HB⟩ := hrel
    by_cases hlt : k < l.length
    · obtain ⟨x, hx⟩ := some_atP hlt
      obtain ⟨a, b, o, c, hv, hlc, _, ha0, ha, hcx⟩ := (HS.out.below HB.out).get
      cases hv
      obtain rfl : sa = some ⟨b, o, none⟩ := ha.resolve_left (fun h' => by have := ha0 h'; omega)
      obtain ⟨e0, e1, e2⟩ := at3 hcx hx
      have HX := Lib.hid hx
      have HT := Lib.hid (take_snoc hx)
      have HB1 : Hid (∀ o, Below w.heap.size w (wr.alloc o)) := fun o => HB.out.alloc HB.out.size _
      clear hcx ha0 ha hx
      by_cases hq : x.q = q ∧ x.id = id
      · have HF : Hid (untilR q id l = some x.t) := by show _ = _; unfold untilR; rw [find_at HX.out HN.out (by simp [hq])]; rfl
        rw [hq.1] at e0
        rw [hq.2] at e1
        have hs := str_same q
        clear hq
        go_wp2
        go_ret2
        exact ⟨by rw [HF.out]; rfl, HB1.out _⟩
      · have HN' : Hid (∀ e ∈ l.take (k + 1), decide (e.q = q ∧ e.id = id) = false) := fun e he => by
          rw [HT.out] at he
          rcases List.mem_append.1 he with h | h
          · exact HN.out e h
          · simp at h; subst h; exact decide_eq_false hq
        by_cases hqq : x.q = q
        · have hid : ¬ (x.id : Int) = (id : Int) := fun h => hq ⟨hqq, by omega⟩
          rw [hqq] at e0
          have hs := str_same q
          clear hq hqq
          go_wp2
          go_roundg (l.length - (k + 1))
          case measure => omega
          case rel => exact ⟨k + 1, hlt, rfl, by go_num, HN', HB1.out _⟩
        · have hs := str_ne hqq
          clear hq hqq
          go_wp2
          go_roundg (l.length - (k + 1))
          case measure => omega
          case rel => exact ⟨k + 1, hlt, rfl, by go_num, HN', HB1.out _⟩
    · obtain rfl : k = l.length := by omega
      rw [List.take_length] at HN
      have HF : Hid (untilR q id l = none) := by show _ = _; unfold untilR; rw [find_none' HN.out]; rfl
      go_wp2
      go_ret2
      exact ⟨by rw [HF.out]; rfl, HB.out⟩
end Go.Proofs.Ytpgaepilnbjhbaa
