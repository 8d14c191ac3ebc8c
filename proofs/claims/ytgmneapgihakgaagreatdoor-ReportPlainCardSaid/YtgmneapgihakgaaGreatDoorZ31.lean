/- Texts of one seat, merged. -/
import Derived.Test.YtgmneapgihakgaaGreatDoorZ04
import Derived.Test.YtgmneapgihakgaaGreatDoorZ13
import Derived.Deep.RegionHeld3
import Derived.Test.YtgmneapgihakgaaGreatDoorZ30
import Derived.Test.YtgmneapgihakgaaGreatDoorZ24
set_option maxRecDepth 100000
set_option maxHeartbeats 4000000
set_option linter.unusedVariables false
/- script.Quote: a text between quotation marks. -/
namespace Go.Proofs.YtgmneapgihakgaaGreatDoor
open Go.RowKit
def hexD (n : Nat) : UInt8 := UInt8.ofNat (if n < 10 then 48 + n else 87 + n)
def quoteC (c : UInt8) : List UInt8 := if c = 34 ∨ c = 92 then [92, c] else if c = 10 then [92, 110] else if c < 32 ∨ 126 < c then [92, 120] ++ [hexD (c.toNat / 16)] ++ [hexD (c.toNat % 16)] else [c]
def quoteT (s : List UInt8) : List UInt8 := [34] ++ s.flatMap quoteC ++ [34]
def quoteH (s : List UInt8) : List UInt8 := [34] ++ s.flatMap quoteC
theorem quoteC_len (c : UInt8) : (quoteC c).length ≤ 4 := by
  unfold quoteC
  split
  · simp
  · split
    · simp
    · split <;> simp
theorem quoteH_len (s : List UInt8) : (quoteH s).length ≤ 1 + 4 * s.length := by
  unfold quoteH
  rw [List.length_append]
  have h : (s.flatMap quoteC).length ≤ 4 * s.length := by
    induction s with
    | nil => simp
    | cons c t ih =>
      have := quoteC_len c
      simp only [List.flatMap_cons, List.length_append, List.length_cons]; omega
  simp only [List.length_cons, List.length_nil]; omega
theorem quoteT_len (s : List UInt8) : (quoteT s).length ≤ 2 + 4 * s.length := by
  have := quoteH_len s
  unfold quoteH at this
  unfold quoteT
  rw [List.length_append]
  simp only [List.length_cons, List.length_nil]; omega
theorem quoteH_take {s : List UInt8} {k : Nat} {c : UInt8} (h : s[k]? = some c) : quoteH (s.take (k + 1)) = quoteH (s.take k) ++ quoteC c := by
  unfold quoteH
  rw [List.take_add_one, h]
  simp
theorem hexE : ∀ m : Fin 16, ((⟨#[48, 49, 50, 51, 52, 53, 54, 55, 56, 57, 97, 98, 99, 100, 101, 102]⟩ : ByteArray)[m.val]'(by have := m.isLt; have : ByteArray.size ⟨#[48, 49, 50, 51, 52, 53, 54, 55, 56, 57, 97, 98, 99, 100, 101, 102]⟩ = 16 := rfl; omega)).toNat = (hexD m.val).toNat := by decide
theorem hexI (n : Nat) (h : n < 16) (k : IntKind) (t : TypeId) (ht : Tryz.prog.underlying t = some .string) (w : World) : (Instr.index t (.string ⟨#[48, 49, 50, 51, 52, 53, 54, 55, 56, 57, 97, 98, 99, 100, 101, 102]⟩) (.int k (n : Int))).run Tryz.prog w = .ok (.int .u8 ((hexD n).toNat : Int)) w := by
  rw [run_index_string w t _ _ _ ht, dif_pos ⟨by omega, by have : ByteArray.size ⟨#[48, 49, 50, 51, 52, 53, 54, 55, 56, 57, 97, 98, 99, 100, 101, 102]⟩ = 16 := rfl; omega⟩]
  have e1 := hexE ⟨n, h⟩
  simp only [Int.toNat_natCast]
  rw [e1]
theorem strIx (s : List UInt8) (k : Nat) (c : UInt8) (h : s[k]? = some c) (t : TypeId) (ht : Tryz.prog.underlying t = some .string) (w : World) : (Instr.index t (.string (str s)) (.int .i64 (k : Int))).run Tryz.prog w = .ok (.int .u8 (c.toNat : Int)) w := by
  obtain ⟨hk, rfl⟩ := List.getElem?_eq_some_iff.mp h
  have hz : (str s).size = s.length := rfl
  rw [run_index_string w t _ _ _ ht, dif_pos ⟨by omega, by omega⟩]
  rfl
theorem BX.byteZ {w : World} {B b : Nat} {l : List UInt8} (h : BX w B b l) (c : UInt8) {z : Int} (hz : z = (c.toNat : Int)) (hl : l.length + 1 ≤ 1000000000) :
    Calls Tryz.prog 147 #[.pointer (some ⟨b, 0, none⟩), .int .u8 z] w fun e w' => e = .returned .nilIface ∧ BX w' B b (l ++ [c]) ∧ Below B w w' := by
  subst hz
  exact h.byte c hl
set_option maxHeartbeats 4000000 in
theorem quote_any (s : List UInt8) (hs : s.length ≤ 10000000) (w : World) :
    Calls Tryz.prog 127 #[.string (str s)] w fun e w' => e = .returned (.string (str (quoteT s))) ∧ Below w.heap.size w w' := by
  have hz : (str s).size = s.length := rfl
  have HX0 := Lib.hid (BX.new w)
  have HB0 : Hid (Below w.heap.size w (w.alloc (.cells #[.pointer none, .slice none 0 0] 209))) := (Below.refl _ _).alloc (Nat.le_refl _) _
  have HS := Lib.hid hs
  go_enter Tryz.func127, Tryz.ntmps127
  go_wp2_with (go_at_call 147; refine (HX0.out.byte 34 (by simp)).mono ?_; rintro e w1 ⟨rfl, hx1, hb1⟩; have HX1 := Lib.hid hx1; have HB1 := Lib.hid (HB0.out.trans hb1); clear hx1 hb1)
  go_loopg [9] s.length (fun n i wr => ∃ k : Nat, k ≤ s.length ∧ n = s.length - k ∧ i = .int .i64 (k : Nat) ∧ Hid (BX wr w.heap.size w.heap.size (quoteH (s.take k))) ∧ Hid (Below w.heap.size w wr))
  case atStart => exact ⟨0, Nat.zero_le _, rfl, rfl, HX1.out, HB1.out⟩
  case round =>
    obtain ⟨k, hk, rfl, rfl, HX, HB⟩ := hrel
    by_cases hlt : k < s.length
    · obtain ⟨c, hc⟩ : ∃ c, s[k]? = some c := ⟨_, List.getElem?_eq_getElem hlt⟩
      have HT := Lib.hid (quoteH_take hc)
      have HL : Hid ((quoteH (s.take k)).length ≤ 40000001) := by
        have h := quoteH_len (s.take k)
        have h2 : (s.take k).length ≤ s.length := by simp; omega
        have := HS.out
        show _ ≤ _
        omega
      have hix := strIx s k c hc
      have hcl := c.toNat_lt
      clear hc
      by_cases c1 : c = 34
      · subst c1
        have HQ : Hid (quoteC 34 = [92] ++ [34]) := rfl
        go_wp2_with (first
          | (go_at_call 147; (with_reducible refine (HX.out.byteZ 92 (by first | rfl | decide) (by have := HL.out; omega)).mono ?_); rintro e w2 ⟨rfl, hx, hb⟩; have HX2 := Lib.hid hx; have HB2 := Lib.hid (HB.out.trans hb); clear hx hb)
          | (go_at_call 147; (with_reducible refine (HX2.out.byteZ 34 (by first | rfl | decide) (by rw [List.length_append]; have := HL.out; simp; omega)).mono ?_); rintro e w3 ⟨rfl, hx, hb⟩; have HX3 := Lib.hid hx; have HB3 := Lib.hid (HB2.out.trans hb); clear hx hb))
        go_roundg (s.length - (k + 1))
        case measure => omega
        case rel => exact ⟨k + 1, hlt, rfl, by go_num, by show BX _ _ _ _; rw [HT.out, HQ.out]; simp only [← List.append_assoc]; exact HX3.out, HB3.out⟩
      by_cases c2 : c = 92
      · subst c2
        have HQ : Hid (quoteC 92 = [92] ++ [92]) := rfl
        go_wp2_with (first
          | (go_at_call 147; (with_reducible refine (HX.out.byteZ 92 (by first | rfl | decide) (by have := HL.out; omega)).mono ?_); rintro e w2 ⟨rfl, hx, hb⟩; have HX2 := Lib.hid hx; have HB2 := Lib.hid (HB.out.trans hb); clear hx hb)
          | (go_at_call 147; (with_reducible refine (HX2.out.byteZ 92 (by first | rfl | decide) (by rw [List.length_append]; have := HL.out; simp; omega)).mono ?_); rintro e w3 ⟨rfl, hx, hb⟩; have HX3 := Lib.hid hx; have HB3 := Lib.hid (HB2.out.trans hb); clear hx hb))
        go_roundg (s.length - (k + 1))
        case measure => omega
        case rel => exact ⟨k + 1, hlt, rfl, by go_num, by show BX _ _ _ _; rw [HT.out, HQ.out]; simp only [← List.append_assoc]; exact HX3.out, HB3.out⟩
      by_cases c3 : c = 10
      · subst c3
        have HQ : Hid (quoteC 10 = [92, 110]) := rfl
        go_wp2_with (first
          | (go_at_call 116; refine (HX.out.write [92, 110] (by simp; have := HL.out; omega)).mono ?_; rintro e w2 ⟨rfl, hx, hb⟩; have HX2 := Lib.hid hx; have HB2 := Lib.hid (HB.out.trans hb); clear hx hb))
        go_roundg (s.length - (k + 1))
        case measure => omega
        case rel => exact ⟨k + 1, hlt, rfl, by go_num, by show BX _ _ _ _; rw [HT.out, HQ.out]; exact HX2.out, HB2.out⟩
      have d1 : ((c.toNat : Int) == 34) = false := by
        have : c.toNat ≠ 34 := fun h => c1 (UInt8.toNat_inj.1 h)
        simp; omega
      have d2 : ((c.toNat : Int) == 92) = false := by
        have : c.toNat ≠ 92 := fun h => c2 (UInt8.toNat_inj.1 h)
        simp; omega
      have d3 : ((c.toNat : Int) == 10) = false := by
        have : c.toNat ≠ 10 := fun h => c3 (UInt8.toNat_inj.1 h)
        simp; omega
      have q0 : ∀ q : Prop, (c < 32 ∨ 126 < c → q) → (c.toNat < 32 ∨ 126 < c.toNat) → q := fun q h1 h2 => h1 (h2.elim (fun h => .inl (UInt8.lt_iff_toNat_lt.2 h)) (fun h => .inr (UInt8.lt_iff_toNat_lt.2 h)))
      have e15 : bits .and .u8 (c.toNat : Int) 15 = ((c.toNat % 16 : Nat) : Int) := by
        rw [show (15 : Int) = ((15 : Nat) : Int) from rfl, u8_and_nat _ _ (by omega) (by omega), show (15 : Nat) = 2 ^ 4 - 1 from rfl, Nat.and_two_pow_sub_one_eq_mod]
      have hshr : ∀ W, (binOp .shr 5 (.int .u8 (c.toNat : Int)) (.int .u64 4)).run Tryz.prog W = .ok (.int .u8 ((c.toNat / 16 : Nat) : Int)) W := fun W => by
        rw [binOp_shr, shift_shr_any _ _ _ _ (by decide)]
        rfl
      have hand : ∀ W, (binOp .and 5 (.int .u8 (c.toNat : Int)) (.int .u8 15)).run Tryz.prog W = .ok (.int .u8 ((c.toNat % 16 : Nat) : Int)) W := fun W => by
        rw [← e15]; rfl
      have hi16 := hexI (c.toNat / 16) (by omega) .u8
      have hi15 := hexI (c.toNat % 16) (by omega) .u8
      by_cases c4 : c.toNat < 32
      · have HQ : Hid (quoteC c = [92, 120] ++ [hexD (c.toNat / 16)] ++ [hexD (c.toNat % 16)]) := by
          show _ = _
          unfold quoteC
          rw [if_neg (by rintro (h | h); exact c1 h; exact c2 h), if_neg c3, if_pos (q0 _ id (.inl c4))]
        have d4 : (c.toNat : Int) < 32 := by omega
        clear q0 c1 c2 c3
        go_wp2_with (first
          | (go_at_call 116; refine (HX.out.write [92, 120] (by simp; have := HL.out; omega)).mono ?_; rintro e w2 ⟨rfl, hx, hb⟩; have HX2 := Lib.hid hx; have HB2 := Lib.hid (HB.out.trans hb); clear hx hb)
          | (go_at_call 147; (with_reducible refine (HX2.out.byteZ (hexD (c.toNat / 16)) (congrArg (fun n : Nat => (n : Int)) (hexE ⟨(c.toNat / 16), by omega⟩)) (by rw [List.length_append]; have := HL.out; simp; omega)).mono ?_); rintro e w3 ⟨rfl, hx, hb⟩; have HX3 := Lib.hid hx; have HB3 := Lib.hid (HB2.out.trans hb); clear hx hb)
          | (go_at_call 147; (with_reducible refine (HX3.out.byteZ (hexD (c.toNat % 16)) (congrArg (fun n : Nat => (n : Int)) (hexE ⟨(c.toNat % 16), by omega⟩)) (by rw [List.length_append, List.length_append]; have := HL.out; simp; omega)).mono ?_); rintro e w4 ⟨rfl, hx, hb⟩; have HX4 := Lib.hid hx; have HB4 := Lib.hid (HB3.out.trans hb); clear hx hb))
        go_roundg (s.length - (k + 1))
        case measure => omega
        case rel => exact ⟨k + 1, hlt, rfl, by go_num, by show BX _ _ _ _; rw [HT.out, HQ.out]; simp only [← List.append_assoc]; exact HX4.out, HB4.out⟩
      by_cases c5 : 126 < c.toNat
      · have HQ : Hid (quoteC c = [92, 120] ++ [hexD (c.toNat / 16)] ++ [hexD (c.toNat % 16)]) := by
          show _ = _
          unfold quoteC
          rw [if_neg (by rintro (h | h); exact c1 h; exact c2 h), if_neg c3, if_pos (q0 _ id (.inr c5))]
        have d4 : ¬ (c.toNat : Int) < 32 := by omega
        have d5 : (126 : Int) < c.toNat := by omega
        clear q0 c1 c2 c3
        go_wp2_with (first
          | (go_at_call 116; refine (HX.out.write [92, 120] (by simp; have := HL.out; omega)).mono ?_; rintro e w2 ⟨rfl, hx, hb⟩; have HX2 := Lib.hid hx; have HB2 := Lib.hid (HB.out.trans hb); clear hx hb)
          | (go_at_call 147; (with_reducible refine (HX2.out.byteZ (hexD (c.toNat / 16)) (congrArg (fun n : Nat => (n : Int)) (hexE ⟨(c.toNat / 16), by omega⟩)) (by rw [List.length_append]; have := HL.out; simp; omega)).mono ?_); rintro e w3 ⟨rfl, hx, hb⟩; have HX3 := Lib.hid hx; have HB3 := Lib.hid (HB2.out.trans hb); clear hx hb)
          | (go_at_call 147; (with_reducible refine (HX3.out.byteZ (hexD (c.toNat % 16)) (congrArg (fun n : Nat => (n : Int)) (hexE ⟨(c.toNat % 16), by omega⟩)) (by rw [List.length_append, List.length_append]; have := HL.out; simp; omega)).mono ?_); rintro e w4 ⟨rfl, hx, hb⟩; have HX4 := Lib.hid hx; have HB4 := Lib.hid (HB3.out.trans hb); clear hx hb))
        go_roundg (s.length - (k + 1))
        case measure => omega
        case rel => exact ⟨k + 1, hlt, rfl, by go_num, by show BX _ _ _ _; rw [HT.out, HQ.out]; simp only [← List.append_assoc]; exact HX4.out, HB4.out⟩
      · have HQ : Hid (quoteC c = [c]) := by
          show _ = _
          unfold quoteC
          rw [if_neg (by rintro (h | h); exact c1 h; exact c2 h), if_neg c3, if_neg (by rintro (h | h); exact c4 (UInt8.lt_iff_toNat_lt.1 h); exact c5 (UInt8.lt_iff_toNat_lt.1 h))]
        have d4 : ¬ (c.toNat : Int) < 32 := by omega
        have d5 : ¬ (126 : Int) < c.toNat := by omega
        clear q0 c1 c2 c3
        go_wp2_with (first
          | (go_at_call 147; (with_reducible refine (HX.out.byteZ c (by first | rfl | decide) (by have := HL.out; omega)).mono ?_); rintro e w2 ⟨rfl, hx, hb⟩; have HX2 := Lib.hid hx; have HB2 := Lib.hid (HB.out.trans hb); clear hx hb))
        go_roundg (s.length - (k + 1))
        case measure => omega
        case rel => exact ⟨k + 1, hlt, rfl, by go_num, by show BX _ _ _ _; rw [HT.out, HQ.out]; exact HX2.out, HB2.out⟩
    · obtain rfl : k = s.length := by omega
      have HXn : Hid (BX wr w.heap.size w.heap.size (quoteH s)) := by have := HX.out; rw [List.take_length] at this; exact this
      have HL : Hid ((quoteH s).length ≤ 40000001) := by
        have h := quoteH_len s
        have := HS.out
        show _ ≤ _
        omega
      go_wp2_with (first
        | (go_at_call 147; (with_reducible refine (HXn.out.byteZ 34 (by decide) (by have := HL.out; omega)).mono ?_); rintro e w2 ⟨rfl, hx2, hb2⟩; have HX2 := Lib.hid hx2; have HB2 := Lib.hid (HB.out.trans hb2); clear hx2 hb2)
        | (go_at_call 118; (with_reducible refine HX2.out.string.mono ?_); rintro e w3 ⟨rfl, hb3⟩; have HB3 := Lib.hid (HB2.out.trans hb3); clear hb3))
      go_ret
      exact ⟨rfl, HB3.out⟩
end Go.Proofs.YtgmneapgihakgaaGreatDoor
/- What a queue's, a message's and a binding's lines are, whole; an exchange's kind. -/
namespace Go.Proofs.YtgmneapgihakgaaGreatDoor
open Go.RowKit
def tx (b : ByteArray) : List UInt8 := b.data.toList
def quT (q : Qu) : List UInt8 := [113, 117, 101, 117, 101, 32] ++ quoteT (tx q.nm) ++ [32, 109, 111, 115, 116, 32] ++ dec q.most ++ [32, 116, 116, 108, 32] ++ dec q.ttl ++ [32, 116, 114, 105, 101, 115, 32] ++ dec q.tries ++ [32, 100, 101, 97, 100, 32] ++ quoteT (tx q.dead)
def unT (e : Nat) : List UInt8 := if e = 0 then [110, 101, 118, 101, 114] else dec e
def msT (m : Ms) : List UInt8 := [109, 101, 115, 115, 97, 103, 101, 32] ++ quoteT (tx m.qu) ++ [32, 35] ++ dec m.id ++ [32, 116, 114, 105, 101, 115, 32] ++ dec m.tries ++ [32, 117, 110, 116, 105, 108, 32] ++ unT m.expiry ++ [32] ++ decI m.body.size ++ [32, 98, 121, 116, 101, 115]
def exT (k : Int) : List UInt8 := if k = 1 then [100, 105, 114, 101, 99, 116] else if k = 2 then [102, 97, 110, 111, 117, 116] else if k = 3 then [116, 111, 112, 105, 99] else [107, 105, 110, 100] ++ decI k
def bnT (b : Bnd) : List UInt8 := [98, 105, 110, 100, 32] ++ quoteT (tx b.ex) ++ [32] ++ exT b.kind ++ [32] ++ quoteT (tx b.key) ++ [32, 116, 111, 32] ++ quoteT (tx b.qu)
structure OkQ (q : Qu) : Prop where
  nm : q.nm.size ≤ 2000
  dead : q.dead.size ≤ 2000
  most : q.most < 4294967296
  ttl : q.ttl < 18446744073709551616
  tries : q.tries < 4294967296
structure OkM (m : Ms) : Prop where
  qu : m.qu.size ≤ 2000
  body : m.body.size ≤ 2000
  id : m.id < 18446744073709551616
  tries : m.tries < 4294967296
  expiry : m.expiry < 18446744073709551616
structure OkB (b : Bnd) : Prop where
  ex : b.ex.size ≤ 2000
  key : b.key.size ≤ 2000
  qu : b.qu.size ≤ 2000
  k0 : -9223372036854775808 ≤ b.kind
  k1 : b.kind ≤ 9223372036854775807
theorem quote_tx (s : ByteArray) (hs : s.size ≤ 2000) (w : World) : Calls Tryz.prog 127 #[.string s] w fun e w' => e = .returned (.string (str (quoteT (tx s)))) ∧ Below w.heap.size w w' := by
  have h := quote_any (tx s) (by show s.size ≤ _; omega) w
  rwa [show str (tx s) = s from rfl] at h
theorem quoteT_tx (s : ByteArray) (hs : s.size ≤ 2000) : (quoteT (tx s)).length ≤ 10000 := by
  have := quoteT_len (tx s)
  have h2 : (tx s).length = s.size := rfl
  omega
theorem queue_line (q : Qu) (h : OkQ q) (w : World) (ht : Tb w) : Calls Tryz.prog 43 #[aggQ q] w fun e w' => e = .returned (.string (str (quT q))) ∧ Below w.heap.size w w' := by
  have a0 := quoteT_tx q.nm h.nm
  have a1 := quoteT_tx q.dead h.dead
  have a2 := dec_len q.most (by have := h.most; omega)
  have a3 := dec_len q.ttl h.ttl
  have a4 := dec_len q.tries (by have := h.tries; omega)
  exact cat_queue q.nm q.dead q.most q.ttl q.tries _ _ _ _ _ (by omega) (by omega) (by omega) (by omega) (by omega) w (fun W _ => quote_tx _ h.nm W) (fun W hW => nm32_any _ h.most W (.inr (ht.below hW))) (fun W hW => nm64_any _ h.ttl W (.inr (ht.below hW))) (fun W hW => nm32_any _ h.tries W (.inr (ht.below hW))) (fun W _ => quote_tx _ h.dead W)
theorem message_line (m : Ms) (h : OkM m) (w : World) (ht : Tb w) : Calls Tryz.prog 45 #[aggM m] w fun e w' => e = .returned (.string (str (msT m))) ∧ Below w.heap.size w w' := by
  have a0 := quoteT_tx m.qu h.qu
  have a1 := decI_len m.body.size (by omega) (by have := h.body; omega)
  have a2 := dec_len m.id h.id
  have a3 := dec_len m.expiry h.expiry
  have a4 := dec_len m.tries (by have := h.tries; omega)
  have hb := h.body
  unfold msT unT
  by_cases he : m.expiry = 0
  · rw [if_pos he]
    unfold aggM
    rw [he]
    exact cat_never m.qu m.body m.id m.tries _ _ _ _ (by omega) (by omega) (by omega) (by omega) w (fun W _ => quote_tx _ h.qu W) (fun W hW => nm64_any _ h.id W (.inr (ht.below hW))) (fun W hW => nm32_any _ h.tries W (.inr (ht.below hW))) (fun W hW => nmI_any _ (by omega) (by omega) W (ht.below hW))
  · rw [if_neg he]
    exact cat_until m.qu m.body m.id m.tries m.expiry (by omega) _ _ _ _ _ (by omega) (by omega) (by omega) (by omega) (by omega) w (fun W hW => nm64_any _ h.expiry W (.inr (ht.below hW))) (fun W _ => quote_tx _ h.qu W) (fun W hW => nm64_any _ h.id W (.inr (ht.below hW))) (fun W hW => nm32_any _ h.tries W (.inr (ht.below hW))) (fun W hW => nmI_any _ (by omega) (by omega) W (ht.below hW))
theorem exch_any (k : Int) (h0 : -9223372036854775808 ≤ k) (h1 : k ≤ 9223372036854775807) (w : World) (ht : Tb w) : Calls Tryz.prog 225 #[.int .i64 k] w fun e w' => e = .returned (.string (str (exT k))) ∧ Below w.heap.size w w' := by
  unfold exT
  by_cases c1 : k = 1
  · rw [if_pos c1]
    subst c1
    clear h0 h1 ht
    go_enter Tryz.func225, Tryz.ntmps225
    go_wp2
    go_ret
    exact ⟨rfl, Below.refl _ _⟩
  by_cases c2 : k = 2
  · rw [if_neg c1, if_pos c2]
    subst c2
    clear h0 h1 ht c1
    go_enter Tryz.func225, Tryz.ntmps225
    go_wp2
    go_ret
    exact ⟨rfl, Below.refl _ _⟩
  by_cases c3 : k = 3
  · rw [if_neg c1, if_neg c2, if_pos c3]
    subst c3
    clear h0 h1 ht c1 c2
    go_enter Tryz.func225, Tryz.ntmps225
    go_wp2
    go_ret
    exact ⟨rfl, Below.refl _ _⟩
  rw [if_neg c1, if_neg c2, if_neg c3]
  have H := Lib.hid (nmI_any k h0 h1 w ht)
  have hl := decI_len k h0 h1
  have d1 : (k == 1) = false := by simpa using c1
  have d2 : (k == 2) = false := by simpa using c2
  have d3 : (k == 3) = false := by simpa using c3
  have y0 : (str (decI k)).size = (decI k).length := rfl
  have q0 : ¬ 9223372036854775807 < 4 + (decI k).length := by omega
  have HS : Hid ((⟨#[107, 105, 110, 100]⟩ ++ str (decI k) : ByteArray) = str ([107, 105, 110, 100] ++ decI k)) := str_append _ _
  clear h0 h1 ht c1 c2 c3 hl
  revert HS H y0 q0
  generalize str ([107, 105, 110, 100] ++ decI k) = ex
  generalize decI k = dk
  intro H y0 q0 HS
  go_enter Tryz.func225, Tryz.ntmps225
  go_wp2_with (go_at_call 132; refine H.out.mono ?_; rintro e1 w1 ⟨rfl, hb1⟩)
  go_ret
  exact ⟨ret_string HS.out, hb1⟩
theorem exT_len (k : Int) (h0 : -9223372036854775808 ≤ k) (h1 : k ≤ 9223372036854775807) : (exT k).length ≤ 40 := by
  have := decI_len k h0 h1
  unfold exT
  split
  · simp
  · split
    · simp
    · split
      · simp
      · simp only [List.length_append, List.length_cons, List.length_nil]; omega
theorem binding_line (b : Bnd) (h : OkB b) (w : World) (ht : Tb w) : Calls Tryz.prog 139 #[aggB b] w fun e w' => e = .returned (.string (str (bnT b))) ∧ Below w.heap.size w w' := by
  have a0 := quoteT_tx b.ex h.ex
  have a1 := quoteT_tx b.key h.key
  have a2 := quoteT_tx b.qu h.qu
  have a3 := exT_len b.kind h.k0 h.k1
  exact cat_binding b.ex b.key b.qu b.kind _ _ _ _ (by omega) (by omega) (by omega) (by omega) w (fun W _ => quote_tx _ h.ex W) (fun W hW => exch_any _ h.k0 h.k1 W (ht.below hW)) (fun W _ => quote_tx _ h.key W) (fun W _ => quote_tx _ h.qu W)
theorem quT_len (q : Qu) (h : OkQ q) : (quT q).length ≤ 30000 := by
  have a0 := quoteT_tx q.nm h.nm
  have a1 := quoteT_tx q.dead h.dead
  have a2 := dec_len q.most (by have := h.most; omega)
  have a3 := dec_len q.ttl h.ttl
  have a4 := dec_len q.tries (by have := h.tries; omega)
  unfold quT
  simp only [List.length_append, List.length_cons, List.length_nil]; omega
end Go.Proofs.YtgmneapgihakgaaGreatDoor
/- Texts that are put together: report's queue, message, binding, dump and pages, over letters. -/
namespace Go.Proofs.YtgmneapgihakgaaGreatDoor
open Go.RowKit
set_option maxHeartbeats 8000000 in
theorem cat_dump (clock last : Nat) (vq vb vm : Value) (d0 d1 d2 d3 d4 : List UInt8) (l_d0 : d0.length ≤ 100000000) (l_d1 : d1.length ≤ 100000000) (l_d2 : d2.length ≤ 100000000) (l_d3 : d3.length ≤ 100000000) (l_d4 : d4.length ≤ 100000000) (w : World)
    (H0 : ∀ W, Below w.heap.size w W → Calls Tryz.prog 129 #[.int .u64 clock] W fun e w' => e = .returned (.string (str d0)) ∧ Below W.heap.size W w')
    (H1 : ∀ W, Below w.heap.size w W → Calls Tryz.prog 129 #[.int .u64 last] W fun e w' => e = .returned (.string (str d1)) ∧ Below W.heap.size W w')
    (H2 : ∀ W, Below w.heap.size w W → Calls Tryz.prog 137 #[vq, .func (.func 43) #[] #[]] W fun e w' => e = .returned (.string (str d2)) ∧ Below W.heap.size W w')
    (H3 : ∀ W, Below w.heap.size w W → Calls Tryz.prog 138 #[vb, .func (.func 139) #[] #[]] W fun e w' => e = .returned (.string (str d3)) ∧ Below W.heap.size W w')
    (H4 : ∀ W, Below w.heap.size w W → Calls Tryz.prog 140 #[vm, .func (.func 45) #[] #[]] W fun e w' => e = .returned (.string (str d4)) ∧ Below W.heap.size W w') :
    Calls Tryz.prog 50 #[.agg #[.int .u64 clock, .int .u64 last, vq, vb, vm]] w fun e w' => e = .returned (.string (str ([99, 108, 111, 99, 107, 32] ++ d0 ++ [32, 108, 97, 115, 116, 32] ++ d1 ++ [10] ++ d2 ++ d3 ++ d4))) ∧ Below w.heap.size w w' := by
  have HH0 := Lib.hid H0
  have HH1 := Lib.hid H1
  have HH2 := Lib.hid H2
  have HH3 := Lib.hid H3
  have HH4 := Lib.hid H4
  have HS : Hid ((⟨#[99, 108, 111, 99, 107, 32]⟩ ++ str d0 ++ ⟨#[32, 108, 97, 115, 116, 32]⟩ ++ str d1 ++ ⟨#[10]⟩ ++ str d2 ++ str d3 ++ str d4 : ByteArray) = str ([99, 108, 111, 99, 107, 32] ++ d0 ++ [32, 108, 97, 115, 116, 32] ++ d1 ++ [10] ++ d2 ++ d3 ++ d4)) := by
    show _ = _
    have e : (⟨#[99, 108, 111, 99, 107, 32]⟩ ++ str d0 ++ ⟨#[32, 108, 97, 115, 116, 32]⟩ ++ str d1 ++ ⟨#[10]⟩ ++ str d2 ++ str d3 ++ str d4 : ByteArray) = str [99, 108, 111, 99, 107, 32] ++ str d0 ++ str [32, 108, 97, 115, 116, 32] ++ str d1 ++ str [10] ++ str d2 ++ str d3 ++ str d4 := rfl
    rw [e]
    simp only [str_append]
  have y_d0 : (str d0).size = d0.length := rfl
  have y_d1 : (str d1).size = d1.length := rfl
  have y_d2 : (str d2).size = d2.length := rfl
  have y_d3 : (str d3).size = d3.length := rfl
  have y_d4 : (str d4).size = d4.length := rfl
  have q1 : ¬ 9223372036854775807 < 6 + d0.length := by omega
  have q2 : ¬ 9223372036854775807 < 6 + d0.length + 6 := by omega
  have q3 : ¬ 9223372036854775807 < 6 + d0.length + 6 + d1.length := by omega
  have q4 : ¬ 9223372036854775807 < 6 + d0.length + 6 + d1.length + 1 := by omega
  have q5 : ¬ 9223372036854775807 < 6 + d0.length + 6 + d1.length + 1 + d2.length := by omega
  have q6 : ¬ 9223372036854775807 < 6 + d0.length + 6 + d1.length + 1 + d2.length + d3.length := by omega
  have q7 : ¬ 9223372036854775807 < 6 + d0.length + 6 + d1.length + 1 + d2.length + d3.length + d4.length := by omega
  clear H0 H1 H2 H3 H4 l_d0 l_d1 l_d2 l_d3 l_d4
  revert HS
  generalize str ([99, 108, 111, 99, 107, 32] ++ d0 ++ [32, 108, 97, 115, 116, 32] ++ d1 ++ [10] ++ d2 ++ d3 ++ d4) = ex
  intro HS
  obtain ⟨w0, hw0⟩ : ∃ w0, w0 = w.alloc (.cells #[.int .u64 clock, .int .u64 last, vq, vb, vm] 103) := ⟨_, rfl⟩
  have x0 : BoxL w0 w.heap.size 103 #[.int .u64 clock, .int .u64 last, vq, vb, vm] := by rw [hw0]; exact BoxL.new w _ _
  have bA : Below w.heap.size w w0.drew := by rw [hw0]; exact ((Below.refl _ _).alloc (Nat.le_refl _) _).drew
  have H0 : Hid (w0.drew.cell? ⟨w.heap.size, 0, none⟩ = some (.int .u64 clock) ∧ w0.drew.cell? ⟨w.heap.size, 1, none⟩ = some (.int .u64 last) ∧ w0.drew.cell? ⟨w.heap.size, 2, none⟩ = some (vq) ∧ w0.drew.cell? ⟨w.heap.size, 3, none⟩ = some (vb) ∧ w0.drew.cell? ⟨w.heap.size, 4, none⟩ = some (vm) ∧ Below w.heap.size w w0.drew) := ⟨x0.cell (i := 0) rfl, x0.cell (i := 1) rfl, x0.cell (i := 2) rfl, x0.cell (i := 3) rfl, x0.cell (i := 4) rfl, bA⟩
  have HB0 := Lib.hid bA
  have hmx := mixed0
  rw [hw0] at H0 HB0 x0
  clear bA
  clear x0
  go_enter Tryz.func50, Tryz.ntmps50
  go_wp2
  go_region_held3 (fun W => W.cell? ⟨w.heap.size, 0, none⟩ = some (.int .u64 clock) ∧ W.cell? ⟨w.heap.size, 1, none⟩ = some (.int .u64 last) ∧ W.cell? ⟨w.heap.size, 2, none⟩ = some (vq) ∧ W.cell? ⟨w.heap.size, 3, none⟩ = some (vb) ∧ W.cell? ⟨w.heap.size, 4, none⟩ = some (vm) ∧ Below w.heap.size w W)
    ((first | with_reducible assumption | exact H0.out | exact stepK5 (Nat.le_refl _) ‹_› hb1))
    (first
      | (go_at_call 140; have tok := HB4; (with_reducible refine (HH4.out _ HB4.out).mono ?_); rintro e w5 ⟨rfl, hb1⟩; have HB5 := Lib.hid (below_step HB4.out hb1))
      | (go_at_call 138; have tok := HB3; (with_reducible refine (HH3.out _ HB3.out).mono ?_); rintro e w4 ⟨rfl, hb1⟩; have HB4 := Lib.hid (below_step HB3.out hb1))
      | (go_at_call 137; have tok := HB2; (with_reducible refine (HH2.out _ HB2.out).mono ?_); rintro e w3 ⟨rfl, hb1⟩; have HB3 := Lib.hid (below_step HB2.out hb1))
      | (go_at_call 129; have tok := HB1; (with_reducible refine (HH1.out _ HB1.out).mono ?_); rintro e w2 ⟨rfl, hb1⟩; have HB2 := Lib.hid (below_step HB1.out hb1))
      | (go_at_call 129; (with_reducible refine (HH0.out _ HB0.out).mono ?_); rintro e w1 ⟨rfl, hb1⟩; have HB1 := Lib.hid (below_step HB0.out hb1)))
  all_goals
    go_wp2
    go_ret
    exact ⟨ret_string HS.out, HB5.out⟩
end Go.Proofs.YtgmneapgihakgaaGreatDoor
