/- The contracts of the document's own reader. -/
import Derived.Test.YtfoijhofpjaldaaReader
import Derived.Test.YtfoijhofpjaldaaBig
set_option maxRecDepth 100000
set_option maxHeartbeats 4000000
set_option linter.unusedVariables false
namespace Go.Proofs.Ytfoijhofpjaldaa
open Go.RowKit
theorem refFail_any (b : Nat) (s : ByteArray) (e x : Int) (w : World) (h : Rd w b s e) :
    Calls Try.prog 86 #[.pointer (some ⟨b, 0, none⟩), .int .i64 x] w fun v w' => v = .returned (.tuple #[]) ∧ Rd w' b s (if e = 0 then x else e) ∧ Upd b w w' := by
  have hR := h
  obtain ⟨c0, c1, f0, f1⟩ := h
  by_cases he : e = 0
  · subst he
    go_enter Try.func86, Try.ntmps86
    go_wp2
    go_end0
    exact ⟨rfl, hR.set1 x, (Upd.refl _ _).setCell _⟩
  · have hd : (e == 0) = false := by rw [beq_eq_false_iff_ne]; exact he
    rw [if_neg he]
    go_enter Try.func86, Try.ntmps86
    go_wp2
    go_end0
    exact ⟨rfl, hR, Upd.refl _ _⟩
theorem refTake_bad (b : Nat) (s : ByteArray) (e n : Int) (w : World) (h : Rd w b s e) (he : e ≠ 0) :
    Calls Try.prog 87 #[.pointer (some ⟨b, 0, none⟩), .int .i64 n] w fun v w' => v = .returned (.string ByteArray.empty) ∧ w = w' := by
  have hd : (e == 0) = false := by rw [beq_eq_false_iff_ne]; exact he
  have hd' : (e != 0) = true := by rw [bne_iff_ne]; exact he
  have c1 := h.c1
  go_enter Try.func87, Try.ntmps87
  go_wp2
  go_ret
  exact ⟨rfl, rfl⟩
theorem refTake_short (b : Nat) (s : ByteArray) (n : Int) (w : World) (h : Rd w b s 0) (hn : n < 0 ∨ (s.size : Int) < n) :
    Calls Try.prog 87 #[.pointer (some ⟨b, 0, none⟩), .int .i64 n] w fun v w' => v = .returned (.string ByteArray.empty) ∧ Rd w' b s 3 ∧ Upd b w w' := by
  have c0 := h.c0
  have c1 := h.c1
  have f1 := h.f1
  by_cases h1 : n < 0
  · go_enter Try.func87, Try.ntmps87
    go_wp2
    go_ret
    exact ⟨rfl, h.set1 _, (Upd.refl _ _).setCell _⟩
  · have h2 : (s.size : Int) < n := by omega
    go_enter Try.func87, Try.ntmps87
    go_wp2
    go_ret
    exact ⟨rfl, h.set1 _, (Upd.refl _ _).setCell _⟩
theorem refTake_ok (b : Nat) (s : ByteArray) (n : Nat) (w : World) (h : Rd w b s 0) (hn : n ≤ s.size) :
    Calls Try.prog 87 #[.pointer (some ⟨b, 0, none⟩), .int .i64 n] w fun v w' => v = .returned (.string (s.extract 0 n)) ∧ Rd w' b (s.extract n s.size) 0 ∧ Upd b w w' := by
  have c0 := h.c0
  have c1 := h.c1
  have f0 := h.f0
  have h1 : ¬ (n : Int) < 0 := by omega
  have h2 : ¬ (s.size : Int) < (n : Int) := by omega
  have h3 : (n : Int) ≤ (s.size : Int) := by omega
  go_enter Try.func87, Try.ntmps87
  go_wp2
  go_ret
  exact ⟨rfl, h.set0 _, (Upd.refl _ _).setCell _⟩
theorem refTake_any (b : Nat) (s : ByteArray) (e n : Int) (w : World) (h : Rd w b s e) :
    Calls Try.prog 87 #[.pointer (some ⟨b, 0, none⟩), .int .i64 n] w fun v w' => v = .returned (.string (tk s e n).1) ∧ Rd w' b (tk s e n).2.1 (tk s e n).2.2 ∧ Upd b w w' := by
  by_cases he : e = 0
  · subst he
    by_cases hn : n < 0 ∨ (s.size : Int) < n
    · rw [tk_short s n hn]; exact refTake_short b s n w h hn
    · obtain ⟨m, rfl⟩ : ∃ m : Nat, n = m := ⟨n.toNat, by omega⟩
      rw [tk_ok s m (by omega)]; exact refTake_ok b s m w h (by omega)
  · rw [tk_bad s e n he]
    exact (refTake_bad b s e n w h he).mono fun v w' ⟨h1, h2⟩ => ⟨h1, h2 ▸ h, h2 ▸ Upd.refl _ _⟩
theorem u64_add_byte (v c : Nat) (hv : v < 72057594037927936) (hc : c < 256) : IntKind.u64.wrap (IntKind.u64.wrap ((v : Int) * 256) + IntKind.u64.wrap (c : Int)) = ((v * 256 + c : Nat) : Int) := by
  rw [IntKind.wrap_u64, IntKind.wrap_u64, IntKind.wrap_u64]; omega
theorem num_any (b : Nat) (s : ByteArray) (e : Int) (k : Nat) (hk : k ≤ 8) (w : World) (h : Rd w b s e) :
    Calls Try.prog 57 #[.pointer (some ⟨b, 0, none⟩), .int .i64 k] w fun v w' => v = .returned (.int .u64 (Oc.val (tk s e k).1.data.toList : Nat)) ∧ Rd w' b (tk s e k).2.1 (tk s e k).2.2 ∧ Upd b w w' := by
  have hz := tk_size s e k
  have ht := refTake_any b s e k w h
  revert hz ht
  generalize tk s e k = T
  obtain ⟨t, r⟩ := T
  intro hz ht
  simp only at hz ht
  have HT := Lib.hid ht
  clear ht
  go_enter Try.func57, Try.ntmps57
  go_wp2_with (go_at_call 87; refine HT.out.mono ?_; rintro x w1 ⟨rfl, hr, hu⟩)
  have HR := Lib.hid hr
  have HU := Lib.hid hu
  clear hr hu
  go_loop [6, 7] (fun v i => ∃ m : Nat, m ≤ t.size ∧ i = .int .i64 m ∧ v = .int .u64 (Oc.val (t.data.toList.take m) : Nat)) (fun _ i => t.size - (intOf i).toNat)
  case atStart => exact ⟨0, by omega, rfl, rfl⟩
  case round =>
    obtain ⟨m, hm, rfl, rfl⟩ := hrel
    by_cases hlt : m < t.size
    · go_wp2
      go_round
      case rel =>
        refine ⟨m + 1, by omega, by go_num, ?_⟩
        rw [u64_add_byte _ _ (val_take t m hlt (by omega)) t[m].toNat_lt, take_snoc t m hlt, Oc.val_snoc]
      case measure => simp [intOf]; omega
    · obtain rfl : m = t.size := by omega
      go_wp2
      go_ret
      refine ⟨ret_int ?_, HR.out, HU.out⟩
      rw [List.take_of_length_le (by simp)]
theorem txt_eq (s : ByteArray) (e most : Int) :
    txt s e most = if (Oc.val (tk s e 4).1.data.toList : Int) > (if 0 ≤ most then most else 0) then (ByteArray.empty, (tk s e 4).2.1, if (tk s e 4).2.2 = 0 then 5 else (tk s e 4).2.2) else tk (tk s e 4).2.1 (tk s e 4).2.2 (Oc.val (tk s e 4).1.data.toList) := by
  unfold txt cnt
  generalize tk s e 4 = T
  generalize (if 0 ≤ most then most else 0) = q
  by_cases h : (Oc.val T.1.data.toList : Int) > q
  · rw [if_pos h, if_pos h]
    refine tk_bad _ _ _ ?_
    show (if T.2.2 = 0 then (5 : Int) else T.2.2) ≠ 0
    split
    · decide
    · assumption
  · rw [if_neg h, if_neg h]
theorem refText_rd (b : Nat) (s : ByteArray) (e most : Int) (hm : most < 9223372036854775808) (w : World) (h : Rd w b s e) :
    Calls Try.prog 58 #[.pointer (some ⟨b, 0, none⟩), .int .i64 most] w fun v w' => v = .returned (.string (txt s e most).1) ∧ Rd w' b (txt s e most).2.1 (txt s e most).2.2 ∧ Upd b w w' := by
  have hv := Nat.lt_of_lt_of_le (Oc.val_lt (tk s e 4).1.data.toList) (Nat.pow_le_pow_right (by omega) (tk_size s e 4))
  have HC := Lib.hid (num_any b s e 4 (by omega) w h)
  rw [txt_eq]
  revert hv HC
  generalize tk s e ((4 : Nat) : Int) = C
  obtain ⟨t, r, f⟩ := C
  intro hv HC
  simp only at hv HC ⊢
  revert hv HC
  generalize Oc.val t.data.toList = n
  intro hv HC
  have HT := Lib.hid (fun W (H : Rd W b r f) => refTake_any b r f n W H)
  obtain ⟨y, hy⟩ : ∃ y : Int, (if f = 0 then 5 else f) = y := ⟨_, rfl⟩
  have HF := Lib.hid (fun W (H : Rd W b r f) => refFail_any b r f 5 W H)
  rw [hy] at HF ⊢
  clear hy
  by_cases h0 : 0 ≤ most
  · have h0' : ¬ most < 0 := by omega
    rw [if_pos h0]
    by_cases hn : (n : Int) > most
    · rw [if_pos hn]
      go_enter Try.func58, Try.ntmps58
      go_wp2_with (first
        | (go_at_call 57; refine HC.out.mono ?_; rintro x w1 ⟨rfl, hr, hu⟩)
        | (go_at_call 86; refine (HF.out _ hr).mono ?_; rintro x w2 ⟨rfl, hr2, hu2⟩))
      go_ret
      exact ⟨rfl, hr2, hu.trans hu2⟩
    · rw [if_neg hn]
      go_enter Try.func58, Try.ntmps58
      go_wp2_with (first
        | (go_at_call 57; refine HC.out.mono ?_; rintro x w1 ⟨rfl, hr, hu⟩)
        | (go_at_call 87; refine (HT.out _ hr).mono ?_; rintro x w2 ⟨rfl, hr2, hu2⟩))
      go_ret
      exact ⟨rfl, hr2, hu.trans hu2⟩
  · have h0' : most < 0 := by omega
    rw [if_neg h0]
    by_cases hn : (n : Int) > 0
    · rw [if_pos hn]
      go_enter Try.func58, Try.ntmps58
      go_wp2_with (first
        | (go_at_call 57; refine HC.out.mono ?_; rintro x w1 ⟨rfl, hr, hu⟩)
        | (go_at_call 86; refine (HF.out _ hr).mono ?_; rintro x w2 ⟨rfl, hr2, hu2⟩))
      go_ret
      exact ⟨rfl, hr2, hu.trans hu2⟩
    · rw [if_neg hn]
      go_enter Try.func58, Try.ntmps58
      go_wp2_with (first
        | (go_at_call 57; refine HC.out.mono ?_; rintro x w1 ⟨rfl, hr, hu⟩)
        | (go_at_call 87; refine (HT.out _ hr).mono ?_; rintro x w2 ⟨rfl, hr2, hu2⟩))
      go_ret
      exact ⟨rfl, hr2, hu.trans hu2⟩
theorem refEnd_rd (b : Nat) (s : ByteArray) (e : Int) (w : World) (h : Rd w b s e) :
    Calls Try.prog 59 #[.pointer (some ⟨b, 0, none⟩)] w fun v w' => v = .returned (.int .i64 (fin s e)) ∧ w = w' := by
  unfold fin
  have c0 := h.c0
  have c1 := h.c1
  by_cases he : e = 0
  · subst he
    by_cases hs : 0 < s.size
    · have hs' : (0 : Int) < s.size := by omega
      rw [if_pos ⟨rfl, hs⟩]
      go_enter Try.func59, Try.ntmps59
      go_wp2
      go_ret
      exact ⟨rfl, rfl⟩
    · have hs' : ¬ (0 : Int) < s.size := by omega
      rw [if_neg (fun hh => hs hh.2)]
      go_enter Try.func59, Try.ntmps59
      go_wp2
      go_ret
      exact ⟨rfl, rfl⟩
  · have hd : (e == 0) = false := by rw [beq_eq_false_iff_ne]; exact he
    rw [if_neg (fun hh => he hh.1)]
    go_enter Try.func59, Try.ntmps59
    go_wp2
    go_ret
    exact ⟨rfl, rfl⟩
end Go.Proofs.Ytfoijhofpjaldaa
