/- What is lent, one by one. -/
import Derived.Test.YtpgaepilnbjhbaaLsItX
import Derived.Test.YtpgaepilnbjhbaaLsCmp
set_option maxRecDepth 100000
set_option maxHeartbeats 4000000
set_option linter.unusedVariables false
namespace Go.Proofs.Ytpgaepilnbjhbaa
open Go.RowKit
open Ls (Txt Ln Ms)
attribute [local go_sem] Oper.semAt_some
def arM (x : Ms) : Array Value := #[.string (str x.s), .int .u64 x.t]
theorem allM_any (fn sl : Value) (w : World) : Calls Try.prog 25 #[.agg #[fn, sl]] w fun e w' => e = .returned (.func (.func 44) #[] #[.pointer (some ⟨w.heap.size, 0, none⟩)]) ∧ w' = w.alloc (.cells #[fn, sl] 62) := by
  go_enter Try.func25, Try.ntmps25
  go_wp2
  go_ret
  exact ⟨rfl, rfl⟩
/-- What the closure of All asks of a world. -/
def AGM (B : Nat) (sl : Value) (l : List Ms) (W : World) : Prop := W.cell? ⟨B, 1, none⟩ = some sl ∧ SlG cM 2 W sl l
theorem AGM.below {B : Nat} {sl : Value} {l : List Ms} {W W' : World} (h : AGM B sl l W) (hb : Below W.heap.size W W') : AGM B sl l W' := ⟨(hb.cell (p := ⟨B, 1, none⟩) (World.block_lt_of_cell? _ _ h.1)).trans h.1, h.2.below hb⟩
set_option maxHeartbeats 4000000 in
theorem all1M_in (n : Nat) (hn : 1 ≤ n) (B : Nat) (sl : Value) (l : List Ms) (hl : l.length ≤ 100000) : SeqX arM n 44 #[.pointer (some ⟨B, 0, none⟩)] (AGM B sl l) l := by
  intro lr J X W hG hJq hJa hY h0
  refine callsIn_of_wp Try.func44 rfl trivial ?_ rfl
  simp only [Try.ntmps44, List.size_toArray, List.length_cons, List.length_nil, Nat.reduceAdd, Nat.reduceSub, Array.replicate_succ, Array.replicate_zero, List.push_toArray, List.append_toArray, List.nil_append, List.cons_append]
  obtain ⟨hBs, hS⟩ := hG _ _ h0
  obtain ⟨sa, sc, rfl⟩ := hS.slice
  clear hS
  gi_wp2
  gi_loopg [8] l.length (fun g v8 wr => ∃ k : Nat, k ≤ l.length ∧ g = l.length - k ∧ v8 = .int .i64 k ∧ Hid (J (l.take k) wr))
  case atStart => exact ⟨0, Nat.zero_le _, rfl, rfl, h0⟩
  case round =>
    obtain ⟨k, hk, rfl, rfl, HJ⟩ := hrel
    by_cases hlt : k < l.length
    · obtain ⟨x, hx⟩ := some_atP hlt
      obtain ⟨a, b, o, c, hv, hlc, hcm, ha0, ha, hcx⟩ := (hG _ _ HJ.out).2.get
      cases hv
      obtain rfl : sa = some ⟨b, o, none⟩ := ha.resolve_left (fun h' => by have := ha0 h'; omega)
      obtain ⟨e0, e1⟩ := at2 hcx hx
      have HT := Lib.hid (take_snoc hx)
      have hpre : l.take k ++ [x] <+: l := by rw [← HT.out]; exact List.take_prefix _ _
      have HPRE := Lib.hid hpre
      clear hcx ha0 ha hx hpre
      gi_upto_region 3 with fail
      obtain ⟨fn, tmps, assign, body, hy, hR⟩ := hY _ x _ (hJa _ _ (.cells (cM x).toArray 88) HJ.out) HPRE.out
      unfold arM at hy
      simp only [cM] at hy hR
      gi_wp2
      refine hR.mono ?_
      rintro e W3 (⟨rfl, h3⟩ | ⟨rfl, h3⟩)
      · have HJ3 := Lib.hid h3
        clear h3
        gi_wp2
        go_roundg (l.length - (k + 1))
        case measure => omega
        case rel => exact ⟨k + 1, hlt, rfl, by go_num, by rw [HT.out]; exact HJ3⟩
      · have HX3 := Lib.hid h3
        clear h3
        gi_wp2
        exact bodyPost_ret (results_none rfl _ _ _) rfl ⟨⟨_, rfl⟩, .inr ⟨_, HX3.out⟩⟩
    · obtain rfl : k = l.length := by omega
      rw [List.take_length] at HJ
      gi_wp2
      go_end0
      exact ⟨⟨_, rfl⟩, .inl HJ.out⟩
end Go.Proofs.Ytpgaepilnbjhbaa
