/- The contracts of the document's own reader. -/
import Derived.Test.YtppoikhonlgcnaaReader
import Derived.Test.YtppoikhonlgcnaaBig
namespace Go.Proofs.Ytppoikhonlgcnaa
open Go.RowKit
theorem refTake_bad (b : Nat) (s : ByteArray) (e n : Int) (w : World) (h : Rd w b s e) (he : e ≠ 0) :
    Calls Try.prog 61 #[.pointer (some ⟨b, 0, none⟩), .int .i64 n] w fun v w' => v = .returned (.string ByteArray.empty) ∧ w = w' := by
  have hd : (e == 0) = false := by rw [beq_eq_false_iff_ne]; exact he
  have hd' : (e != 0) = true := by rw [bne_iff_ne]; exact he
  have c1 := h.c1
  go_enter Try.func61, Try.ntmps61
  go_wp2
  go_ret
  exact ⟨rfl, rfl⟩
theorem refTake_short (b : Nat) (s : ByteArray) (n : Int) (w : World) (h : Rd w b s 0) (hn : n < 0 ∨ (s.size : Int) < n) :
    Calls Try.prog 61 #[.pointer (some ⟨b, 0, none⟩), .int .i64 n] w fun v w' => v = .returned (.string ByteArray.empty) ∧ Rd w' b s 3 ∧ Upd b w w' := by
  have c0 := h.c0
  have c1 := h.c1
  have f1 := h.f1
  by_cases h1 : n < 0
  · go_enter Try.func61, Try.ntmps61
    go_wp2
    go_ret
    exact ⟨rfl, h.set1 _, (Upd.refl _ _).setCell _⟩
  · have h2 : (s.size : Int) < n := by omega
    go_enter Try.func61, Try.ntmps61
    go_wp2
    go_ret
    exact ⟨rfl, h.set1 _, (Upd.refl _ _).setCell _⟩
theorem refTake_ok (b : Nat) (s : ByteArray) (n : Nat) (w : World) (h : Rd w b s 0) (hn : n ≤ s.size) :
    Calls Try.prog 61 #[.pointer (some ⟨b, 0, none⟩), .int .i64 n] w fun v w' => v = .returned (.string (s.extract 0 n)) ∧ Rd w' b (s.extract n s.size) 0 ∧ Upd b w w' := by
  have c0 := h.c0
  have c1 := h.c1
  have f0 := h.f0
  have h1 : ¬ (n : Int) < 0 := by omega
  have h2 : ¬ (s.size : Int) < (n : Int) := by omega
  have h3 : (n : Int) ≤ (s.size : Int) := by omega
  go_enter Try.func61, Try.ntmps61
  go_wp2
  go_ret
  exact ⟨rfl, h.set0 _, (Upd.refl _ _).setCell _⟩
theorem refTake_any (b : Nat) (s : ByteArray) (e n : Int) (w : World) (h : Rd w b s e) :
    Calls Try.prog 61 #[.pointer (some ⟨b, 0, none⟩), .int .i64 n] w fun v w' => v = .returned (.string (tk s e n).1) ∧ Rd w' b (tk s e n).2.1 (tk s e n).2.2 ∧ Upd b w w' := by
  by_cases he : e = 0
  · subst he
    by_cases hn : n < 0 ∨ (s.size : Int) < n
    · rw [tk_short s n hn]; exact refTake_short b s n w h hn
    · obtain ⟨m, rfl⟩ : ∃ m : Nat, n = m := ⟨n.toNat, by omega⟩
      rw [tk_ok s m (by omega)]; exact refTake_ok b s m w h (by omega)
  · rw [tk_bad s e n he]
    exact (refTake_bad b s e n w h he).mono fun v w' ⟨h1, h2⟩ => ⟨h1, h2 ▸ h, h2 ▸ Upd.refl _ _⟩
theorem u64_add_byte (v c : Nat) (hv : v < 72057594037927936) (hc : c < 256) : IntKind.u64.wrap (IntKind.u64.wrap ((v : Int) * 256) + IntKind.u64.wrap (c : Int)) = ((v * 256 + c : Nat) : Int) := by
  rw [IntKind.wrap_u64, IntKind.wrap_u64, IntKind.wrap_u64]; omega
theorem num_any (b : Nat) (s : ByteArray) (e : Int) (k : Nat) (hk : k ≤ 8) (w : World) (h : Rd w b s e) :
    Calls Try.prog 62 #[.pointer (some ⟨b, 0, none⟩), .int .i64 k] w fun v w' => v = .returned (.int .u64 (Oc.val (tk s e k).1.data.toList : Nat)) ∧ Rd w' b (tk s e k).2.1 (tk s e k).2.2 ∧ Upd b w w' := by
  have hz := tk_size s e k
  have ht := refTake_any b s e k w h
  revert hz ht
  generalize tk s e k = T
  obtain ⟨t, r⟩ := T
  intro hz ht
  simp only at hz ht
  have HT := Lib.hid ht
  clear ht
  go_enter Try.func62, Try.ntmps62
  go_wp2_with (go_at_call 61; refine HT.out.mono ?_; rintro x w1 ⟨rfl, hr, hu⟩)
  have HR := Lib.hid hr
  have HU := Lib.hid hu
  clear hr hu
  go_loop [6, 7] (fun v i => ∃ m : Nat, m ≤ t.size ∧ i = .int .i64 m ∧ v = .int .u64 (Oc.val (t.data.toList.take m) : Nat)) (fun _ i => t.size - (intOf i).toNat)
  case atStart => exact ⟨0, by omega, rfl, rfl⟩
  case round =>
    obtain ⟨m, hm, rfl, rfl⟩ := hrel
    by_cases hlt : m < t.size
    · go_wp2
      go_round
      case rel =>
        refine ⟨m + 1, by omega, by go_num, ?_⟩
        rw [u64_add_byte _ _ (val_take t m hlt (by omega)) t[m].toNat_lt, take_snoc t m hlt, Oc.val_snoc]
      case measure => simp [intOf]; omega
    · obtain rfl : m = t.size := by omega
      go_wp2
      go_ret
      refine ⟨ret_int ?_, HR.out, HU.out⟩
      rw [List.take_of_length_le (by simp)]
end Go.Proofs.Ytppoikhonlgcnaa
