/- What a reader is in memory, and the contracts of the functions that read and fail. -/
import Derived.Test.YtfoijhofpjaldaaWrite
import Derived.Deep.DeepMust
set_option maxRecDepth 100000
set_option maxHeartbeats 4000000
set_option linter.unusedVariables false
namespace Go.Proofs.Ytfoijhofpjaldaa
open Go.RowKit
structure Rd (w : World) (b : Nat) (s : ByteArray) (e : Int) : Prop where
  c0 : w.cell? ⟨b, 0, none⟩ = some (.string s)
  c1 : w.cell? ⟨b, 1, none⟩ = some (.int .i64 e)
  f0 : w.frozen? ⟨b, 0, none⟩ = false
  f1 : w.frozen? ⟨b, 1, none⟩ = false
structure Upd (b : Nat) (w w' : World) : Prop where
  os : w'.os = w.os
  tape : w'.tape = w.tape
  output : w'.output = w.output
  size : w'.heap.size = w.heap.size
  block : ∀ k, k ≠ b → w'.heap[k]? = w.heap[k]?
theorem Upd.refl (b : Nat) (w : World) : Upd b w w := ⟨rfl, rfl, rfl, rfl, fun _ _ => rfl⟩
theorem Upd.trans {b : Nat} {u v w : World} (h : Upd b u v) (k : Upd b v w) : Upd b u w :=
  ⟨k.os.trans h.os, k.tape.trans h.tape, k.output.trans h.output, k.size.trans h.size, fun i hi => (k.block i hi).trans (h.block i hi)⟩
theorem Upd.drew {b : Nat} {u v : World} (h : Upd b u v) : Upd b u v.drew := ⟨h.os, h.tape, h.output, h.size, h.block⟩
theorem Upd.drewN {b : Nat} {u v : World} (h : Upd b u v) (n : Nat) : Upd b u (v.drewN n) := ⟨h.os, h.tape, h.output, h.size, h.block⟩
theorem Upd.setCell {b o : Nat} {u v : World} (h : Upd b u v) (x : Value) : Upd b u (v.setCell ⟨b, o, none⟩ x) :=
  h.trans ⟨rfl, rfl, rfl, by simp [World.setCell], fun k hk => Below.heap_setCell _ _ _ _ hk⟩
theorem Upd.below {b B : Nat} {w w' : World} (h : Upd b w w') (hb : B ≤ b) : Below B w w' :=
  ⟨h.os, h.tape, h.output, Nat.le_of_eq h.size.symm, fun k hk => h.block k (by omega)⟩
theorem Rd.drew {w : World} {b : Nat} {s : ByteArray} {e : Int} (h : Rd w b s e) : Rd w.drew b s e := ⟨h.c0, h.c1, h.f0, h.f1⟩
theorem Rd.drewN {w : World} {b : Nat} {s : ByteArray} {e : Int} (h : Rd w b s e) (n : Nat) : Rd (w.drewN n) b s e := ⟨h.c0, h.c1, h.f0, h.f1⟩
theorem Rd.set1 {w : World} {b : Nat} {s : ByteArray} {e : Int} (h : Rd w b s e) (x : Int) : Rd (w.setCell ⟨b, 1, none⟩ (.int .i64 x)) b s x :=
  ⟨by rw [World.cell?_setCell_other _ _ _ _ (fun h => by cases h), h.c0], World.cell?_setCell_same' _ _ _ (by rw [h.c1]; rfl), by rw [World.frozen?_setCell, h.f0], by rw [World.frozen?_setCell, h.f1]⟩
theorem Rd.set0 {w : World} {b : Nat} {s : ByteArray} {e : Int} (h : Rd w b s e) (x : ByteArray) : Rd (w.setCell ⟨b, 0, none⟩ (.string x)) b x e :=
  ⟨World.cell?_setCell_same' _ _ _ (by rw [h.c0]; rfl), by rw [World.cell?_setCell_other _ _ _ _ (fun h => by cases h), h.c1], by rw [World.frozen?_setCell, h.f0], by rw [World.frozen?_setCell, h.f1]⟩
theorem Rd.upd {w w' : World} {b c : Nat} {s : ByteArray} {e : Int} (h : Rd w b s e) (u : Upd c w w') (hne : b ≠ c) : Rd w' b s e := by
  have hB := u.block b hne
  exact ⟨(World.cell?_of_block (w := w) hB).trans h.c0, (World.cell?_of_block (w := w) hB).trans h.c1, (World.frozen?_of_block (w := w) hB).trans h.f0, (World.frozen?_of_block (w := w) hB).trans h.f1⟩
theorem Rd.below {w w' : World} {b : Nat} {s : ByteArray} {e : Int} (h : Rd w b s e) (hb : Below w.heap.size w w') : Rd w' b s e := by
  have hB := hb.block b (block_lt_of_cell h.c0)
  exact ⟨(World.cell?_of_block (w := w) hB).trans h.c0, (World.cell?_of_block (w := w) hB).trans h.c1, (World.frozen?_of_block (w := w) hB).trans h.f0, (World.frozen?_of_block (w := w) hB).trans h.f1⟩
theorem over_any (s : ByteArray) (w : World) :
    Calls Try.prog 53 #[.string s] w fun e w' => e = .returned (.pointer (some ⟨w.heap.size, 0, none⟩)) ∧ Rd w' w.heap.size s 0 ∧ Below w.heap.size w w' := by
  go_enter Try.func53, Try.ntmps53
  go_wp2
  go_ret
  refine ⟨rfl, ?_, (Below.refl _ _).alloc (Nat.le_refl _) _⟩
  constructor <;> simp
theorem err_any (b : Nat) (s : ByteArray) (e : Int) (w : World) (h : Rd w b s e) :
    Calls Try.prog 67 #[.pointer (some ⟨b, 0, none⟩)] w fun x w' => x = .returned (.int .i64 e) ∧ w = w' := by
  obtain ⟨c0, c1, f0, f1⟩ := h
  go_enter Try.func67, Try.ntmps67
  go_wp2
  go_ret
  exact ⟨rfl, rfl⟩
theorem left_any (b : Nat) (s : ByteArray) (e : Int) (w : World) (h : Rd w b s e) :
    Calls Try.prog 85 #[.pointer (some ⟨b, 0, none⟩)] w fun x w' => x = .returned (.int .i64 s.size) ∧ w = w' := by
  obtain ⟨c0, c1, f0, f1⟩ := h
  go_enter Try.func85, Try.ntmps85
  go_wp2
  go_ret
  exact ⟨rfl, rfl⟩
theorem fail_any (b : Nat) (s : ByteArray) (e x : Int) (w : World) (h : Rd w b s e) :
    Calls Try.prog 66 #[.pointer (some ⟨b, 0, none⟩), .int .i64 x] w fun v w' => v = .returned (.tuple #[]) ∧ Rd w' b s (if e = 0 then x else e) ∧ Upd b w w' := by
  have hR := h
  obtain ⟨c0, c1, f0, f1⟩ := h
  by_cases he : e = 0
  · subst he
    go_enter Try.func66, Try.ntmps66
    go_wp2
    go_end0
    exact ⟨rfl, hR.set1 x, (Upd.refl _ _).setCell _⟩
  · have hd : (e == 0) = false := by rw [beq_eq_false_iff_ne]; exact he
    rw [if_neg he]
    go_enter Try.func66, Try.ntmps66
    go_wp2
    go_end0
    exact ⟨rfl, hR, Upd.refl _ _⟩
theorem take_bad (b : Nat) (s : ByteArray) (e n : Int) (w : World) (h : Rd w b s e) (he : e ≠ 0) :
    Calls Try.prog 72 #[.pointer (some ⟨b, 0, none⟩), .int .i64 n] w fun v w' => v = .returned (.string ByteArray.empty) ∧ w = w' := by
  have hd : (e == 0) = false := by rw [beq_eq_false_iff_ne]; exact he
  have hd' : (e != 0) = true := by rw [bne_iff_ne]; exact he
  go_enter Try.func72, Try.ntmps72
  go_wp2_with (go_at_call 67; refine (err_any b s e _ h).mono ?_; rintro x w1 ⟨rfl, rfl⟩)
  go_ret
  exact ⟨rfl, rfl⟩
theorem take_short (b : Nat) (s : ByteArray) (n : Int) (w : World) (h : Rd w b s 0) (hn : n < 0 ∨ (s.size : Int) < n) :
    Calls Try.prog 72 #[.pointer (some ⟨b, 0, none⟩), .int .i64 n] w fun v w' => v = .returned (.string ByteArray.empty) ∧ Rd w' b s 3 ∧ Upd b w w' := by
  have c0 := h.c0
  by_cases h1 : n < 0
  · go_enter Try.func72, Try.ntmps72
    go_wp2_with (first
      | (go_at_call 67; refine (err_any b s 0 _ h).mono ?_; rintro x w1 ⟨rfl, rfl⟩)
      | (go_at_call 66; refine (fail_any b s 0 3 _ h).mono ?_; rintro x w1 ⟨rfl, hr, hu⟩))
    go_ret
    exact ⟨rfl, hr, hu⟩
  · have h2 : (s.size : Int) < n := by omega
    go_enter Try.func72, Try.ntmps72
    go_wp2_with (first
      | (go_at_call 67; refine (err_any b s 0 _ h).mono ?_; rintro x w1 ⟨rfl, rfl⟩)
      | (go_at_call 66; refine (fail_any b s 0 3 _ h).mono ?_; rintro x w1 ⟨rfl, hr, hu⟩))
    go_ret
    exact ⟨rfl, hr, hu⟩
theorem take_ok (b : Nat) (s : ByteArray) (n : Nat) (w : World) (h : Rd w b s 0) (hn : n ≤ s.size) :
    Calls Try.prog 72 #[.pointer (some ⟨b, 0, none⟩), .int .i64 n] w fun v w' => v = .returned (.string (s.extract 0 n)) ∧ Rd w' b (s.extract n s.size) 0 ∧ Upd b w w' := by
  have c0 := h.c0
  have f0 := h.f0
  have h1 : ¬ (n : Int) < 0 := by omega
  have h2 : ¬ (s.size : Int) < (n : Int) := by omega
  have h3 : (n : Int) ≤ (s.size : Int) := by omega
  go_enter Try.func72, Try.ntmps72
  go_wp2_with (go_at_call 67; refine (err_any b s 0 _ h).mono ?_; rintro x w1 ⟨rfl, rfl⟩)
  go_ret
  exact ⟨rfl, h.set0 _, (Upd.refl _ _).setCell _⟩
def tk (s : ByteArray) (e n : Int) : ByteArray × ByteArray × Int :=
  if e ≠ 0 then (ByteArray.empty, s, e) else if n < 0 ∨ (s.size : Int) < n then (ByteArray.empty, s, 3) else (s.extract 0 n.toNat, s.extract n.toNat s.size, 0)
theorem tk_bad (s : ByteArray) (e n : Int) (h : e ≠ 0) : tk s e n = (ByteArray.empty, s, e) := by unfold tk; rw [if_pos h]
theorem tk_short (s : ByteArray) (n : Int) (h : n < 0 ∨ (s.size : Int) < n) : tk s 0 n = (ByteArray.empty, s, 3) := by unfold tk; rw [if_neg (by decide), if_pos h]
theorem tk_ok (s : ByteArray) (n : Nat) (h : n ≤ s.size) : tk s 0 n = (s.extract 0 n, s.extract n s.size, 0) := by
  unfold tk; rw [if_neg (by decide), if_neg (by omega)]; rfl
theorem take_any (b : Nat) (s : ByteArray) (e n : Int) (w : World) (h : Rd w b s e) :
    Calls Try.prog 72 #[.pointer (some ⟨b, 0, none⟩), .int .i64 n] w fun v w' => v = .returned (.string (tk s e n).1) ∧ Rd w' b (tk s e n).2.1 (tk s e n).2.2 ∧ Upd b w w' := by
  by_cases he : e = 0
  · subst he
    by_cases hn : n < 0 ∨ (s.size : Int) < n
    · rw [tk_short s n hn]; exact take_short b s n w h hn
    · obtain ⟨m, rfl⟩ : ∃ m : Nat, n = m := ⟨n.toNat, by omega⟩
      rw [tk_ok s m (by omega)]; exact take_ok b s m w h (by omega)
  · rw [tk_bad s e n he]
    exact (take_bad b s e n w h he).mono fun v w' ⟨h1, h2⟩ => ⟨h1, h2 ▸ h, h2 ▸ Upd.refl _ _⟩
theorem tk_size (s : ByteArray) (e : Int) (k : Nat) : (tk s e k).1.size ≤ k := by
  unfold tk
  split
  · exact Nat.zero_le _
  · split
    · exact Nat.zero_le _
    · rw [ByteArray.size_extract]; omega
theorem take_snoc (s : ByteArray) (k : Nat) (h : k < s.size) : s.data.toList.take (k + 1) = s.data.toList.take k ++ [s[k]] := by
  rw [List.take_succ_eq_append_getElem (by simpa using h)]; rfl
theorem u64_or_byte (v c : Nat) (hv : v < 72057594037927936) (hc : c < 256) : bits .or .u64 (IntKind.u64.wrap ((v : Int) * 256)) (IntKind.u64.wrap (c : Int)) = ((v * 256 + c : Nat) : Int) := by
  have h1 : IntKind.u64.wrap ((v : Int) * 256) = ((v * 256 : Nat) : Int) := by rw [IntKind.wrap_u64]; omega
  have h2 : IntKind.u64.wrap (c : Int) = ((c : Nat) : Int) := by rw [IntKind.wrap_u64]; omega
  rw [h1, h2, u64_or_nat _ _ (by omega) (by omega)]
  have := Nat.shiftLeft_add_eq_or_of_lt (i := 8) (b := c) (by omega) v
  rw [Nat.shiftLeft_eq] at this
  rw [show v * 256 = v * 2 ^ 8 by rfl, this]
theorem val_take (t : ByteArray) (m : Nat) (h : m < t.size) (h8 : t.size ≤ 8) : Oc.val (t.data.toList.take m) < 72057594037927936 := by
  refine Nat.lt_of_lt_of_le (Oc.val_lt _) ?_
  rw [List.length_take]
  exact Nat.le_trans (Nat.pow_le_pow_right (by omega) (show min m t.data.toList.length ≤ 7 by omega)) (by decide)
theorem ret_int {k : IntKind} {a b : Int} (h : a = b) : Ending.returned (.int k a) = .returned (.int k b) := by rw [h]
theorem ret_bool {a b : Bool} (h : a = b) : Ending.returned (.bool a) = .returned (.bool b) := by rw [h]
theorem number_any (b : Nat) (s : ByteArray) (e : Int) (k : Nat) (hk : k ≤ 8) (w : World) (h : Rd w b s e) :
    Calls Try.prog 68 #[.pointer (some ⟨b, 0, none⟩), .int .i64 k] w fun v w' => v = .returned (.int .u64 (Oc.val (tk s e k).1.data.toList : Nat)) ∧ Rd w' b (tk s e k).2.1 (tk s e k).2.2 ∧ Upd b w w' := by
  have hz := tk_size s e k
  have ht := take_any b s e k w h
  revert hz ht
  generalize tk s e k = T
  obtain ⟨t, r⟩ := T
  intro hz ht
  simp only at hz ht
  have HT := Lib.hid ht
  clear ht
  go_enter Try.func68, Try.ntmps68
  go_wp2_with (go_at_call 72; refine HT.out.mono ?_; rintro x w1 ⟨rfl, hr, hu⟩)
  have HR := Lib.hid hr
  have HU := Lib.hid hu
  clear hr hu
  go_loop [6, 13] (fun v i => ∃ m : Nat, m ≤ t.size ∧ i = .int .i64 m ∧ v = .int .u64 (Oc.val (t.data.toList.take m) : Nat)) (fun _ i => t.size - (intOf i).toNat)
  case atStart => exact ⟨0, by omega, rfl, rfl⟩
  case round =>
    obtain ⟨m, hm, rfl, rfl⟩ := hrel
    by_cases hlt : m < t.size
    · go_wp2
      go_round
      case rel =>
        refine ⟨m + 1, by omega, by go_num, ?_⟩
        rw [u64_or_byte _ _ (val_take t m hlt (by omega)) t[m].toNat_lt, take_snoc t m hlt, Oc.val_snoc]
      case measure => simp [intOf]; omega
    · obtain rfl : m = t.size := by omega
      go_wp2
      go_ret
      refine ⟨ret_int ?_, HR.out, HU.out⟩
      rw [List.take_of_length_le (by simp)]
theorem one_rd (b : Nat) (s : ByteArray) (e : Int) (w : World) (h : Rd w b s e) :
    Calls Try.prog 65 #[.pointer (some ⟨b, 0, none⟩)] w fun v w' => v = .returned (.int .u8 (Oc.val (tk s e 1).1.data.toList : Nat)) ∧ Rd w' b (tk s e 1).2.1 (tk s e 1).2.2 ∧ Upd b w w' := by
  have hv := Nat.lt_of_lt_of_le (Oc.val_lt (tk s e 1).1.data.toList) (Nat.pow_le_pow_right (by omega) (tk_size s e 1))
  have HT := Lib.hid (number_any b s e 1 (by omega) w h)
  revert hv HT
  generalize tk s e 1 = T
  intro hv HT
  go_enter Try.func65, Try.ntmps65
  go_wp2_with (go_at_call 68; refine HT.out.mono ?_; rintro x w1 ⟨rfl, hr, hu⟩)
  go_ret
  exact ⟨rfl, hr, hu⟩
theorem two_rd (b : Nat) (s : ByteArray) (e : Int) (w : World) (h : Rd w b s e) :
    Calls Try.prog 25 #[.pointer (some ⟨b, 0, none⟩)] w fun v w' => v = .returned (.int .u16 (Oc.val (tk s e 2).1.data.toList : Nat)) ∧ Rd w' b (tk s e 2).2.1 (tk s e 2).2.2 ∧ Upd b w w' := by
  have hv := Nat.lt_of_lt_of_le (Oc.val_lt (tk s e 2).1.data.toList) (Nat.pow_le_pow_right (by omega) (tk_size s e 2))
  have HT := Lib.hid (number_any b s e 2 (by omega) w h)
  revert hv HT
  generalize tk s e 2 = T
  intro hv HT
  go_enter Try.func25, Try.ntmps25
  go_wp2_with (go_at_call 68; refine HT.out.mono ?_; rintro x w1 ⟨rfl, hr, hu⟩)
  go_ret
  exact ⟨rfl, hr, hu⟩
theorem four_rd (b : Nat) (s : ByteArray) (e : Int) (w : World) (h : Rd w b s e) :
    Calls Try.prog 35 #[.pointer (some ⟨b, 0, none⟩)] w fun v w' => v = .returned (.int .u32 (Oc.val (tk s e 4).1.data.toList : Nat)) ∧ Rd w' b (tk s e 4).2.1 (tk s e 4).2.2 ∧ Upd b w w' := by
  have hv := Nat.lt_of_lt_of_le (Oc.val_lt (tk s e 4).1.data.toList) (Nat.pow_le_pow_right (by omega) (tk_size s e 4))
  have HT := Lib.hid (number_any b s e 4 (by omega) w h)
  revert hv HT
  generalize tk s e 4 = T
  intro hv HT
  go_enter Try.func35, Try.ntmps35
  go_wp2_with (go_at_call 68; refine HT.out.mono ?_; rintro x w1 ⟨rfl, hr, hu⟩)
  go_ret
  exact ⟨rfl, hr, hu⟩
theorem eight_rd (b : Nat) (s : ByteArray) (e : Int) (w : World) (h : Rd w b s e) :
    Calls Try.prog 36 #[.pointer (some ⟨b, 0, none⟩)] w fun v w' => v = .returned (.int .u64 (Oc.val (tk s e 8).1.data.toList : Nat)) ∧ Rd w' b (tk s e 8).2.1 (tk s e 8).2.2 ∧ Upd b w w' := by
  have HT := Lib.hid (number_any b s e 8 (by omega) w h)
  revert HT
  generalize tk s e 8 = T
  intro HT
  go_enter Try.func36, Try.ntmps36
  go_wp2_with (go_at_call 68; refine HT.out.mono ?_; rintro x w1 ⟨rfl, hr, hu⟩)
  go_ret
  exact ⟨rfl, hr, hu⟩
/-- What a number that may be too great leaves: the number, the bytes, the error. -/
def cnt (s : ByteArray) (e most x : Int) : Nat × ByteArray × Int :=
  let T := tk s e 4
  if (Oc.val T.1.data.toList : Int) > (if 0 ≤ most then most else 0) then (0, T.2.1, if T.2.2 = 0 then x else T.2.2) else (Oc.val T.1.data.toList, T.2.1, T.2.2)
theorem count_any (b : Nat) (s : ByteArray) (e most x : Int) (hm : most < 9223372036854775808) (w : World) (h : Rd w b s e) :
    Calls Try.prog 71 #[.pointer (some ⟨b, 0, none⟩), .int .i64 most, .int .i64 x] w fun v w' => v = .returned (.int .i64 (cnt s e most x).1) ∧ Rd w' b (cnt s e most x).2.1 (cnt s e most x).2.2 ∧ Upd b w w' := by
  have hv := Nat.lt_of_lt_of_le (Oc.val_lt (tk s e 4).1.data.toList) (Nat.pow_le_pow_right (by omega) (tk_size s e 4))
  have HT := Lib.hid (four_rd b s e w h)
  unfold cnt
  revert hv HT
  generalize tk s e 4 = T
  obtain ⟨t, r, f⟩ := T
  intro hv HT
  simp only at hv HT ⊢
  revert hv HT
  generalize Oc.val t.data.toList = n
  intro hv HT
  obtain ⟨y, hy⟩ : ∃ y : Int, (if f = 0 then x else f) = y := ⟨_, rfl⟩
  have HF := Lib.hid (fun W (H : Rd W b r f) => fail_any b r f x W H)
  rw [hy] at HF ⊢
  clear hy
  by_cases h0 : 0 ≤ most
  · rw [if_pos h0]
    by_cases hn : (n : Int) > most
    · rw [if_pos hn]
      go_enter Try.func71, Try.ntmps71
      go_wp2_with (first
        | (go_at_call 35; refine HT.out.mono ?_; rintro x w1 ⟨rfl, hr, hu⟩)
        | (go_at_call 66; refine (HF.out _ hr).mono ?_; rintro x w2 ⟨rfl, hr2, hu2⟩))
      go_ret
      exact ⟨rfl, hr2, hu.trans hu2⟩
    · rw [if_neg hn]
      go_enter Try.func71, Try.ntmps71
      go_wp2_with (go_at_call 35; refine HT.out.mono ?_; rintro x w1 ⟨rfl, hr, hu⟩)
      go_ret
      exact ⟨rfl, hr, hu⟩
  · rw [if_neg h0]
    by_cases hn : (n : Int) > 0
    · rw [if_pos hn]
      go_enter Try.func71, Try.ntmps71
      go_wp2_with (first
        | (go_at_call 35; refine HT.out.mono ?_; rintro x w1 ⟨rfl, hr, hu⟩)
        | (go_at_call 66; refine (HF.out _ hr).mono ?_; rintro x w2 ⟨rfl, hr2, hu2⟩))
      go_ret
      exact ⟨rfl, hr2, hu.trans hu2⟩
    · rw [if_neg hn]
      go_enter Try.func71, Try.ntmps71
      go_wp2_with (go_at_call 35; refine HT.out.mono ?_; rintro x w1 ⟨rfl, hr, hu⟩)
      go_ret
      exact ⟨rfl, hr, hu⟩
/-- What a text of at most so many bytes leaves. -/
def txt (s : ByteArray) (e most : Int) : ByteArray × ByteArray × Int :=
  let C := cnt s e most 5
  tk C.2.1 C.2.2 C.1
theorem text_rd (b : Nat) (s : ByteArray) (e most : Int) (hm : most < 9223372036854775808) (w : World) (h : Rd w b s e) :
    Calls Try.prog 37 #[.pointer (some ⟨b, 0, none⟩), .int .i64 most] w fun v w' => v = .returned (.string (txt s e most).1) ∧ Rd w' b (txt s e most).2.1 (txt s e most).2.2 ∧ Upd b w w' := by
  have HC := Lib.hid (count_any b s e most 5 hm w h)
  unfold txt
  revert HC
  generalize cnt s e most 5 = C
  intro HC
  simp only
  have HT := Lib.hid (fun W (H : Rd W b C.2.1 C.2.2) => take_any b C.2.1 C.2.2 C.1 W H)
  revert HT
  generalize tk C.2.1 C.2.2 C.1 = T
  intro HT
  go_enter Try.func37, Try.ntmps37
  go_wp2_with (first
    | (go_at_call 71; refine HC.out.mono ?_; rintro x w1 ⟨rfl, hr, hu⟩)
    | (go_at_call 72; refine (HT.out _ hr).mono ?_; rintro x w2 ⟨rfl, hr2, hu2⟩))
  go_ret
  exact ⟨rfl, hr2, hu.trans hu2⟩
/-- What End answers. -/
def fin (s : ByteArray) (e : Int) : Int := if e = 0 ∧ 0 < s.size then 4 else e
theorem end_rd (b : Nat) (s : ByteArray) (e : Int) (w : World) (h : Rd w b s e) :
    Calls Try.prog 55 #[.pointer (some ⟨b, 0, none⟩)] w fun v w' => v = .returned (.int .i64 (fin s e)) ∧ w = w' := by
  unfold fin
  by_cases he : e = 0
  · subst he
    by_cases hs : 0 < s.size
    · have hs' : (0 : Int) < s.size := by omega
      rw [if_pos ⟨rfl, hs⟩]
      go_enter Try.func55, Try.ntmps55
      go_wp2_with (first
        | (go_at_call 67; refine (err_any b s 0 _ h).mono ?_; rintro x w1 ⟨rfl, rfl⟩)
        | (go_at_call 85; refine (left_any b s 0 _ h).mono ?_; rintro x w1 ⟨rfl, rfl⟩))
      go_ret
      exact ⟨rfl, rfl⟩
    · have hs' : ¬ (0 : Int) < s.size := by omega
      rw [if_neg (fun hh => hs hh.2)]
      go_enter Try.func55, Try.ntmps55
      go_wp2_with (first
        | (go_at_call 67; refine (err_any b s 0 _ h).mono ?_; rintro x w1 ⟨rfl, rfl⟩)
        | (go_at_call 85; refine (left_any b s 0 _ h).mono ?_; rintro x w1 ⟨rfl, rfl⟩))
      go_ret
      exact ⟨rfl, rfl⟩
  · have hd : (e == 0) = false := by rw [beq_eq_false_iff_ne]; exact he
    rw [if_neg (fun hh => he hh.1)]
    go_enter Try.func55, Try.ntmps55
    go_wp2_with (first
      | (go_at_call 67; refine (err_any b s e _ h).mono ?_; rintro x w1 ⟨rfl, rfl⟩)
      | (go_at_call 85; refine (left_any b s e _ h).mono ?_; rintro x w1 ⟨rfl, rfl⟩))
    go_ret
    exact ⟨rfl, rfl⟩
end Go.Proofs.Ytfoijhofpjaldaa
