/- The walk of the law OctetReads: two readers side by side. -/
import Derived.Test.YtgkonmidgeanmaaWrites
import Derived.Deep.LoopGhost
import Derived.Deep.DeepCutAuto
import Derived.Deep.CutRange
import Derived.Deep.CutBlock
import Derived.Deep.QuietTactic
namespace Go.Proofs.Ytgkonmidgeanmaa
open Go.RowKit
theorem Rd.alloc {w : World} {b : Nat} {s : ByteArray} {e : Int} (h : Rd w b s e) (o : Obj) : Rd (w.alloc o) b s e := h.below ((Below.refl _ _).alloc (Nat.le_refl _) _)
theorem Upd.cell {b : Nat} {w w' : World} (h : Upd b w w') {p : Addr} (hp : p.block ≠ b) : w'.cell? p = w.cell? p := World.cell?_of_block (w := w) (h.block p.block hp)
theorem valtk_lt (s : ByteArray) (e : Int) (k : Nat) : Oc.val (tk s e k).1.data.toList < 256 ^ k :=
  Nat.lt_of_lt_of_le (Oc.val_lt _) (Nat.pow_le_pow_right (by omega) (tk_size s e k))
theorem pair1 (b c : Nat) (s : ByteArray) (e : Int) : ∃ (n : Nat) (s1 : ByteArray) (e1 : Int), n < 256 ∧
    Hid (∀ W, Rd W b s e → Calls Try.prog 29 #[.pointer (some ⟨b, 0, none⟩)] W fun v w' => v = .returned (.int .u8 n) ∧ Rd w' b s1 e1 ∧ Upd b W w') ∧
    Hid (∀ W, Rd W c s e → Calls Try.prog 18 #[.pointer (some ⟨c, 0, none⟩), .int .i64 1] W fun v w' => v = .returned (.int .u64 n) ∧ Rd w' c s1 e1 ∧ Upd c W w') :=
  ⟨_, _, _, valtk_lt s e 1, fun W h => one_rd b s e W h, fun W h => num_any c s e 1 (by omega) W h⟩
theorem pair2 (b c : Nat) (s : ByteArray) (e : Int) : ∃ (n : Nat) (s1 : ByteArray) (e1 : Int), n < 65536 ∧
    Hid (∀ W, Rd W b s e → Calls Try.prog 17 #[.pointer (some ⟨b, 0, none⟩)] W fun v w' => v = .returned (.int .u16 n) ∧ Rd w' b s1 e1 ∧ Upd b W w') ∧
    Hid (∀ W, Rd W c s e → Calls Try.prog 18 #[.pointer (some ⟨c, 0, none⟩), .int .i64 2] W fun v w' => v = .returned (.int .u64 n) ∧ Rd w' c s1 e1 ∧ Upd c W w') :=
  ⟨_, _, _, valtk_lt s e 2, fun W h => two_rd b s e W h, fun W h => num_any c s e 2 (by omega) W h⟩
theorem pair4 (b c : Nat) (s : ByteArray) (e : Int) : ∃ (n : Nat) (s1 : ByteArray) (e1 : Int), n < 4294967296 ∧
    Hid (∀ W, Rd W b s e → Calls Try.prog 19 #[.pointer (some ⟨b, 0, none⟩)] W fun v w' => v = .returned (.int .u32 n) ∧ Rd w' b s1 e1 ∧ Upd b W w') ∧
    Hid (∀ W, Rd W c s e → Calls Try.prog 18 #[.pointer (some ⟨c, 0, none⟩), .int .i64 4] W fun v w' => v = .returned (.int .u64 n) ∧ Rd w' c s1 e1 ∧ Upd c W w') :=
  ⟨_, _, _, valtk_lt s e 4, fun W h => four_rd b s e W h, fun W h => num_any c s e 4 (by omega) W h⟩
theorem pair8 (b c : Nat) (s : ByteArray) (e : Int) : ∃ (n : Nat) (s1 : ByteArray) (e1 : Int),
    Hid (∀ W, Rd W b s e → Calls Try.prog 20 #[.pointer (some ⟨b, 0, none⟩)] W fun v w' => v = .returned (.int .u64 n) ∧ Rd w' b s1 e1 ∧ Upd b W w') ∧
    Hid (∀ W, Rd W c s e → Calls Try.prog 18 #[.pointer (some ⟨c, 0, none⟩), .int .i64 8] W fun v w' => v = .returned (.int .u64 n) ∧ Rd w' c s1 e1 ∧ Upd c W w') :=
  ⟨_, _, _, fun W h => eight_rd b s e W h, fun W h => num_any c s e 8 (by omega) W h⟩
theorem pairText (b c : Nat) (s : ByteArray) (e x : Int) (hx : x < 9223372036854775808) : ∃ (t s1 : ByteArray) (e1 : Int),
    Hid (∀ W, Rd W b s e → Calls Try.prog 21 #[.pointer (some ⟨b, 0, none⟩), .int .i64 x] W fun v w' => v = .returned (.string t) ∧ Rd w' b s1 e1 ∧ Upd b W w') ∧
    Hid (∀ W, Rd W c s e → Calls Try.prog 22 #[.pointer (some ⟨c, 0, none⟩), .int .i64 x] W fun v w' => v = .returned (.string t) ∧ Rd w' c s1 e1 ∧ Upd c W w') :=
  ⟨_, _, _, fun W h => text_rd b s e x hx W h, fun W h => refText_rd c s e x hx W h⟩
theorem pairTake (b c : Nat) (s : ByteArray) (e x : Int) : ∃ (t s1 : ByteArray) (e1 : Int),
    Hid (∀ W, Rd W b s e → Calls Try.prog 23 #[.pointer (some ⟨b, 0, none⟩), .int .i64 x] W fun v w' => v = .returned (.string t) ∧ Rd w' b s1 e1 ∧ Upd b W w') ∧
    Hid (∀ W, Rd W c s e → Calls Try.prog 24 #[.pointer (some ⟨c, 0, none⟩), .int .i64 x] W fun v w' => v = .returned (.string t) ∧ Rd w' c s1 e1 ∧ Upd c W w') :=
  ⟨_, _, _, fun W h => take_any b s e x W h, fun W h => refTake_any c s e x W h⟩
theorem pairFail (b c : Nat) (s : ByteArray) (e x : Int) : ∃ (e1 : Int),
    Hid (∀ W, Rd W b s e → Calls Try.prog 25 #[.pointer (some ⟨b, 0, none⟩), .int .i64 x] W fun v w' => v = .returned (.tuple #[]) ∧ Rd w' b s e1 ∧ Upd b W w') ∧
    Hid (∀ W, Rd W c s e → Calls Try.prog 26 #[.pointer (some ⟨c, 0, none⟩), .int .i64 x] W fun v w' => v = .returned (.tuple #[]) ∧ Rd w' c s e1 ∧ Upd c W w') :=
  ⟨_, fun W h => fail_any b s e x W h, fun W h => refFail_any c s e x W h⟩
theorem pairEnd (b c : Nat) (s : ByteArray) (e : Int) : ∃ (x : Int),
    Hid (∀ W, Rd W b s e → Calls Try.prog 27 #[.pointer (some ⟨b, 0, none⟩)] W fun v w' => v = .returned (.int .i64 x) ∧ W = w') ∧
    Hid (∀ W, Rd W c s e → Calls Try.prog 28 #[.pointer (some ⟨c, 0, none⟩)] W fun v w' => v = .returned (.int .i64 x) ∧ W = w') :=
  ⟨_, fun W h => end_rd b s e W h, fun W h => refEnd_rd c s e W h⟩
set_option maxHeartbeats 4000000 in
set_option maxRecDepth 100000 in
theorem reads_walk (s : ByteArray) (A : Option Addr) (b o c : Nat) (xs : List (Int × Int)) (hA : xs = [] ∨ A = some ⟨b, o, none⟩) (w : World)
    (hx : ∀ (j : Nat) x, xs[j]? = some x → w.cell? ⟨b, o + j * 2, none⟩ = some (.int .i64 x.1) ∧ w.cell? ⟨b, o + j * 2 + 1, none⟩ = some (.int .i64 x.2) ∧ x.2 < 9223372036854775808) :
    Calls Try.prog 4 #[.string s, .slice A xs.length c] w fun e w' => e = .returned (.bool true) ∧ Below w.heap.size w w' := by
  have HX := Lib.hid hx
  have HA := Lib.hid hA
  clear hx hA
  by_cases hs : (s.size : Int) > 2000
  · go_enter Try.func4, Try.ntmps4
    go_wp2_with (go_at_call 8; refine (awake_any _).mono ?_; rintro e w1 ⟨rfl, hb⟩)
    go_ret
    exact ⟨rfl, hb⟩
  · by_cases hl : (xs.length : Int) > 50
    · go_enter Try.func4, Try.ntmps4
      go_wp2_with (go_at_call 8; refine (awake_any _).mono ?_; rintro e w1 ⟨rfl, hb⟩)
      go_ret
      exact ⟨rfl, hb⟩
    · go_enter Try.func4, Try.ntmps4
      go_wp2_with (first
        | (go_at_call 8; refine (awake_any _).mono ?_; rintro e w1 ⟨rfl, hb1⟩)
        | (go_at_call 16; refine (over_any _ _).mono ?_; rintro e w2 ⟨rfl, hr2, hb2⟩))
      have HB : Hid (Below w.heap.size w (w2.alloc (Obj.cells #[.string s, .int .i64 0] 38))) := (below_step hb1 hb2).alloc (below_step hb1 hb2).size _
      have HR : Hid (Rd (w2.alloc (Obj.cells #[.string s, .int .i64 0] 38)) w1.heap.size s 0) := hr2.alloc _
      have HQ : Hid (Rd (w2.alloc (Obj.cells #[.string s, .int .i64 0] 38)) w2.heap.size s 0) := by constructor <;> simp
      have hpq : w1.heap.size ≠ w2.heap.size := Nat.ne_of_lt (World.block_lt_of_cell? _ _ hr2.c0)
      have hp : w.heap.size ≤ w1.heap.size := hb1.size
      have hq : w.heap.size ≤ w2.heap.size := (below_step hb1 hb2).size
      clear hr2 hb1 hb2
      revert HB HR HQ hpq hp hq
      generalize w2.alloc (Obj.cells #[.string s, .int .i64 0] 38) = W
      generalize w1.heap.size = p
      generalize w2.heap.size = q
      intro HB HR HQ hpq hp hq
      have HPQ := Lib.hid hpq
      have HP := Lib.hid hp
      have HQQ := Lib.hid hq
      clear hpq hp hq
      go_loopg [27] xs.length (fun g i wr => ∃ (k : Nat) (t : ByteArray) (e : Int), k ≤ xs.length ∧ g = xs.length - k ∧ i = .int .i64 k ∧ Hid (Rd wr p t e) ∧ Hid (Rd wr q t e) ∧ Hid (Below w.heap.size w wr))
      case atStart => exact ⟨0, s, 0, Nat.zero_le _, rfl, rfl, HR, HQ, HB⟩
      case round =>
        obtain ⟨k, t, e, hk, rfl, rfl, HR, HQ, HB⟩ := hrel
        by_cases hlt : k < xs.length
        · obtain ⟨x, hx⟩ : ∃ x, xs[k]? = some x := ⟨_, List.getElem?_eq_getElem hlt⟩
          obtain ⟨D, M⟩ := x
          obtain ⟨hc0, hc1, hm⟩ := HX.out k _ hx
          simp only at hc0 hc1 hm
          have HM := Lib.hid hm
          clear hm
          have hbs : b < w.heap.size := World.block_lt_of_cell? _ _ hc0
          have hd0 := (HB.out.cell (p := ⟨b, o + k * 2, none⟩) hbs).trans hc0
          have hd1 := (HB.out.cell (p := ⟨b, o + k * 2 + 1, none⟩) hbs).trans hc1
          obtain rfl : A = some ⟨b, o, none⟩ := by
            rcases HA.out with h | h
            · rw [h] at hlt; cases hlt
            · exact h
          clear hc0 hc1 hx
          obtain ⟨n1, s1, e1, hn1, A1, B1⟩ := pair1 p q t e
          obtain ⟨n2, s2, e2, hn2, A2, B2⟩ := pair2 p q t e
          obtain ⟨n4, s4, e4, hn4, A4, B4⟩ := pair4 p q t e
          obtain ⟨n8, s8, e8, A8, B8⟩ := pair8 p q t e
          obtain ⟨tT, sT, eT, AT, BT⟩ := pairText p q t e M HM.out
          obtain ⟨tK, sK, eK, AK, BK⟩ := pairTake p q t e M
          obtain ⟨eF, AF, BF⟩ := pairFail p q t e M
          obtain ⟨xE, AE, BE⟩ := pairEnd p q t e
          have HP1 : Hid (p ≠ wr.heap.size) := Nat.ne_of_lt (World.block_lt_of_cell? _ _ HR.out.c0)
          have HQ1 : Hid (q ≠ wr.heap.size) := Nat.ne_of_lt (World.block_lt_of_cell? _ _ HQ.out.c0)
          go_upto_block 2 with fail
          have hk1 : (wr.alloc (Obj.cells #[.int .i64 D, .int .i64 M] 40)).cell? ⟨wr.heap.size, 1, none⟩ = some (.int .i64 M) := by simp
          have HB1 : Hid (Below w.heap.size w (wr.alloc (Obj.cells #[.int .i64 D, .int .i64 M] 40))) := HB.out.alloc HB.out.size _
          have HR1 : Hid (Rd (wr.alloc (Obj.cells #[.int .i64 D, .int .i64 M] 40)) p t e) := HR.out.alloc _
          have HQ1 : Hid (Rd (wr.alloc (Obj.cells #[.int .i64 D, .int .i64 M] 40)) q t e) := HQ.out.alloc _
          revert hk1 HB1 HR1 HQ1
          generalize wr.alloc (Obj.cells #[.int .i64 D, .int .i64 M] 40) = wl
          intro hk1 HB1 HR1 HQ1
          go_cut [9] (fun ok wx => ok = .bool true ∧ ∃ (t' : ByteArray) (e' : Int), Hid (Rd wx p t' e') ∧ Hid (Rd wx q t' e') ∧ Hid (Below w.heap.size w wx))
          case first =>
            go_wp2_with (first
              | (go_at_call 17; refine (A2.out _ HR1.out).mono ?_; rintro v wa ⟨rfl, hra, hua⟩)
              | (go_at_call 19; refine (A4.out _ HR1.out).mono ?_; rintro v wa ⟨rfl, hra, hua⟩)
              | (go_at_call 20; refine (A8.out _ HR1.out).mono ?_; rintro v wa ⟨rfl, hra, hua⟩)
              | (go_at_call 29; refine (A1.out _ HR1.out).mono ?_; rintro v wa ⟨rfl, hra, hua⟩)
              | (go_at_call 25; refine (AF.out _ HR1.out).mono ?_; rintro v wa ⟨rfl, hra, hua⟩; have hk2 := (hua.cell (p := ⟨wr.heap.size, 1, none⟩) (fun h => HP1.out h.symm)).trans hk1)
              | (go_at_call 27; refine (AE.out _ HR1.out).mono ?_; rintro v wa ⟨rfl, rfl⟩)
              | (go_at_call_of 18 (Value.int IntKind.i64 1); refine (B1.out _ (HQ1.out.upd hua (fun h => HPQ.out h.symm))).mono ?_; rintro v wb ⟨rfl, hrb, hub⟩)
              | (go_at_call_of 18 (Value.int IntKind.i64 2); refine (B2.out _ (HQ1.out.upd hua (fun h => HPQ.out h.symm))).mono ?_; rintro v wb ⟨rfl, hrb, hub⟩)
              | (go_at_call_of 18 (Value.int IntKind.i64 4); refine (B4.out _ (HQ1.out.upd hua (fun h => HPQ.out h.symm))).mono ?_; rintro v wb ⟨rfl, hrb, hub⟩)
              | (go_at_call_of 18 (Value.int IntKind.i64 8); refine (B8.out _ (HQ1.out.upd hua (fun h => HPQ.out h.symm))).mono ?_; rintro v wb ⟨rfl, hrb, hub⟩)
              | (go_at_call 26; refine (BF.out _ (HQ1.out.upd hua (fun h => HPQ.out h.symm))).mono ?_; rintro v wb ⟨rfl, hrb, hub⟩)
              | (go_at_call 28; refine (BE.out _ HQ1.out).mono ?_; rintro v wb ⟨rfl, rfl⟩))
            all_goals (first
              | (go_meet; first
                | exact ⟨rfl, _, _, hra.upd hub HPQ.out, hrb, HB1.out.trans ((hua.below HP.out).trans (hub.below HQQ.out))⟩
                | exact ⟨rfl, _, _, HR1, HQ1, HB1⟩)
              | (go_region_with (first
                  | (go_at_call 21; refine (AT.out _ HR1.out.drew).mono ?_; rintro v wa ⟨rfl, hra, hua⟩; have hk2 := (hua.cell (p := ⟨wr.heap.size, 1, none⟩) (fun h => HP1.out h.symm)).trans hk1; have HQ3 := Lib.hid (Rd.upd (b := q) (s := t) (e := e) HQ1.out.drew hua (fun h => HPQ.out h.symm)))
                  | (go_at_call 23; refine (AK.out _ HR1.out.drew).mono ?_; rintro v wa ⟨rfl, hra, hua⟩; have hk2 := (hua.cell (p := ⟨wr.heap.size, 1, none⟩) (fun h => HP1.out h.symm)).trans hk1; have HQ3 := Lib.hid (Rd.upd (b := q) (s := t) (e := e) HQ1.out.drew hua (fun h => HPQ.out h.symm)))
                  | (go_at_call 22; refine (BT.out _ HQ3.out).mono ?_; rintro v wb ⟨rfl, hrb, hub⟩)
                  | (go_at_call 24; refine (BK.out _ HQ3.out).mono ?_; rintro v wb ⟨rfl, hrb, hub⟩))
                 all_goals (go_wp2_with fail; go_meet; exact ⟨rfl, _, _, hra.upd hub HPQ.out, hrb, HB1.out.trans (Below.trans ⟨(hua.below HP.out).os, (hua.below HP.out).tape, (hua.below HP.out).output, (hua.below HP.out).size, (hua.below HP.out).block⟩ (hub.below HQQ.out))⟩)))
          case rest =>
            obtain ⟨rfl, t', e', HR2, HQ2, HB2⟩ := hcut
            have g0 := HQ2.out.c0
            have g1 := HQ2.out.c1
            go_wp2_with fail
            go_quiet (first
              | (go_at_call 30; exact (left_any p t' e' _ (HR2.out.drewN _)).mono fun _ _ h => ⟨h.1, _, h.2.symm⟩)
              | (go_at_call 31; exact (err_any p t' e' _ (HR2.out.drewN _)).mono fun _ _ h => ⟨h.1, _, h.2.symm⟩))
            go_wp2
            go_roundg (xs.length - (k + 1))
            case measure => omega
            case rel => exact ⟨k + 1, t', e', by omega, rfl, by go_num, HR2.out.drewN _, HQ2.out.drewN _, ⟨HB2.out.os, HB2.out.tape, HB2.out.output, HB2.out.size, HB2.out.block⟩⟩
        · obtain rfl : k = xs.length := by omega
          go_wp2
          go_ret
          exact ⟨rfl, HB.out⟩
end Go.Proofs.Ytgkonmidgeanmaa
