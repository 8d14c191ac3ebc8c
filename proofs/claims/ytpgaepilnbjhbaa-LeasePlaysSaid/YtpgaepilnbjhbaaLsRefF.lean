/- The document's Free. -/
import Derived.Test.YtpgaepilnbjhbaaLsCmp
import Derived.Lib.AppendZerosOnto
set_option maxRecDepth 100000
set_option maxHeartbeats 4000000
set_option linter.unusedVariables false
namespace Go.Proofs.Ytpgaepilnbjhbaa
open Go.RowKit
open Ls (Txt Ln Ms)
attribute [local go_sem] Oper.semAt_some
theorem free_snoc (x e : Ln) (m : List Ln) : Ls.free Ls.sameL x (m ++ [e]) = Ls.free Ls.sameL x m ++ (if Ls.sameL e x then [] else [e]) := by
  unfold Ls.free
  rw [List.filter_append]
  cases h : Ls.sameL e x <;> simp [h]
theorem RowG.alloc' {α : Type} {f : α → List Value} {s : Nat} {T : TypeId} {W : World} {B : Nat} {v : Value} {l : List α} (h : RowG f s T W B v l) (o : Obj) : RowG f s T (W.alloc o) B v l := h.alloc o
theorem rFree_any (x : Ln) (sl : Value) (l : List Ln) (hl : l.length ≤ 1000) (w : World) (h : SlG cL 3 w sl l) :
    Calls Try.prog 9 #[sl, .string (str x.q), .int .u64 x.id] w fun e w' => ∃ v, e = .returned v ∧ RowG cL 3 45 w' w.heap.size v (Ls.free Ls.sameL x l) ∧ Below w.heap.size w w' := by
  have HS := Lib.hid h
  obtain ⟨sa, sc, rfl⟩ := h.slice
  clear h
  go_enter Try.func9, Try.ntmps9
  go_wp2
  go_loopg [7, 12] l.length (fun n u v wr => ∃ k : Nat, k ≤ l.length ∧ n = l.length - k ∧ v = .int .i64 k ∧ Hid (RowG cL 3 45 wr w.heap.size u (Ls.free Ls.sameL x (l.take k))) ∧ Hid (Below w.heap.size w wr))
  case atStart => exact ⟨0, Nat.zero_le _, rfl, rfl, RowG.nil _ _ _ _ _, Below.refl _ _⟩
  case round =>
    obtain ⟨k, hk, rfl, rfl, HR, HB⟩ := hrel
    by_cases hlt : k < l.length
    · obtain ⟨e, hx⟩ := some_atP hlt
      obtain ⟨a, b, o, c, hv, hlc, _, ha0, ha, hcx⟩ := (HS.out.below HB.out).get
      cases hv
      obtain rfl : sa = some ⟨b, o, none⟩ := ha.resolve_left (fun h' => by have := ha0 h'; omega)
      obtain ⟨e0, e1, e2⟩ := at3 hcx hx
      have HT := Lib.hid (take_snoc hx)
      have HB1 : Hid (∀ o, Below w.heap.size w (wr.alloc o)) := fun o => HB.out.alloc HB.out.size _
      have hlf : (Ls.free Ls.sameL x (l.take k)).length ≤ 300000 := by
        have h1 := Ls.free_len Ls.sameL x (l.take k)
        rw [List.length_take] at h1
        omega
      clear hcx ha0 ha hx
      by_cases hq : e.q = x.q ∧ e.id = x.id
      · have HN : Hid (∀ o, RowG cL 3 45 (wr.alloc o) w.heap.size u7 (Ls.free Ls.sameL x (l.take (k + 1)))) := fun o => by
          rw [HT.out, free_snoc, if_pos (by simp [Ls.sameL, hq])]
          simpa using HR.out.alloc o
        have hid : (e.id : Int) = (x.id : Int) := by omega
        rw [hq.1] at e0
        have hs := str_same x.q
        clear hq hlf
        go_wp2
        go_roundg (l.length - (k + 1))
        case measure => omega
        case rel => exact ⟨k + 1, hlt, rfl, by go_num, HN.out _, HB1.out _⟩
      · obtain ⟨v', w2, hrun, hr2, _, hb2, _⟩ := app1 encL appE (by decide) u7 e 29 (wr.alloc (.cells #[.string (str e.q), .int .u64 e.id, .int .u64 e.t] 45)) (Nat.le_trans HB.out.size (by simp)) (HR.out.alloc _) hlf #[.string (str e.q), .int .u64 e.id, .int .u64 e.t] rfl (wr.heap.size + 1) (by simp)
        have HN : Hid (RowG cL 3 45 w2 w.heap.size v' (Ls.free Ls.sameL x (l.take (k + 1)))) := by
          show RowG _ _ _ _ _ _ _
          rw [HT.out, free_snoc, if_neg (by simp [Ls.sameL, hq])]
          exact hr2
        have HB2 : Hid (Below w.heap.size w w2) := (HB1.out _).trans hb2
        obtain ⟨a2, n2, c2, rfl⟩ := hr2.slice'
        clear hr2 hb2 hlf
        obtain ⟨ua, un, uc, hu⟩ := HR.out.slice'
        subst hu
        by_cases hqq : e.q = x.q
        · have hid : ¬ (e.id : Int) = (x.id : Int) := fun h => hq ⟨hqq, by omega⟩
          rw [hqq] at e0 hrun
          have hs := str_same x.q
          clear hq hqq
          go_wp2_with (at_builtin; refine Lib.wpList_append_run _ rfl _ _ _ _ rfl _ _ rfl rfl _ _ hrun ?_)
          go_roundg (l.length - (k + 1))
          case measure => omega
          case rel => exact ⟨k + 1, hlt, rfl, by go_num, HN, HB2⟩
        · have hs := str_ne hqq
          clear hq hqq
          go_wp2_with (at_builtin; refine Lib.wpList_append_run _ rfl _ _ _ _ rfl _ _ rfl rfl _ _ hrun ?_)
          go_roundg (l.length - (k + 1))
          case measure => omega
          case rel => exact ⟨k + 1, hlt, rfl, by go_num, HN, HB2⟩
    · obtain rfl : k = l.length := by omega
      rw [List.take_length] at HR
      go_wp2
      go_ret
      exact ⟨_, rfl, HR.out, HB.out⟩
end Go.Proofs.Ytpgaepilnbjhbaa
