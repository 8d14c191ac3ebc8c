/- Texts of one seat, merged. -/
import Derived.Test.YtgmneapgihakgaaGreatDoorZ24
import Derived.Deep.RegionHeld3
import Derived.Test.YtgmneapgihakgaaGreatDoorZ22
import Derived.Test.YtgmneapgihakgaaGreatDoorZ21
import Derived.Test.YtgmneapgihakgaaGreatDoorZ23
set_option maxRecDepth 100000
set_option maxHeartbeats 4000000
set_option linter.unusedVariables false
/- report.Reply. -/
namespace Go.Proofs.YtgmneapgihakgaaGreatDoor
open Go.RowKit
/-- The lines of messages behind a reply. -/
def tailF (F : Ms → List UInt8) (l : List Ms) : List UInt8 := l.flatMap (fun m => [10, 32, 32] ++ F m)
theorem tailF_take (F : Ms → List UInt8) {l : List Ms} {k : Nat} {x : Ms} (h : l[k]? = some x) : tailF F (l.take (k + 1)) = tailF F (l.take k) ++ ([10, 32, 32] ++ F x) := by
  unfold tailF
  rw [List.take_add_one, h]
  simp
theorem tailF_le (F : Ms → List UInt8) (l : List Ms) (k : Nat) : (tailF F (l.take k)).length ≤ (tailF F l).length := by
  unfold tailF
  conv => rhs; rw [← List.take_append_drop k l, List.flatMap_append, List.length_append]
  omega
/-- What is ahead of them. -/
def headT (n : Nat) (ids lost dead : List Nat) : List UInt8 := [111, 107, 32] ++ dec n ++ someT [32, 105, 100, 115] ids ++ someT [32, 108, 111, 115, 116] lost ++ someT [32, 100, 101, 97, 100] dead
theorem someT_len (ah : List UInt8) (l : List Nat) (h : ∀ n ∈ l, n < 18446744073709551616) : (someT ah l).length ≤ ah.length + 3 + 21 * l.length := by
  unfold someT
  have := join_len l h
  split
  · simp
  · simp only [List.length_append, List.length_cons, List.length_nil]; omega
theorem stepR {w w1 w2 : World} {B : Nat} {p0 p1 p2 p3 : Addr} {x0 x1 x2 x3 : Value} (hB : B ≤ w.heap.size) (H : w1.cell? p0 = some x0 ∧ w1.cell? p1 = some x1 ∧ w1.cell? p2 = some x2 ∧ w1.cell? p3 = some x3 ∧ Below B w w1) (hb : Below w1.heap.size w1 w2) : w2.cell? p0 = some x0 ∧ w2.cell? p1 = some x1 ∧ w2.cell? p2 = some x2 ∧ w2.cell? p3 = some x3 ∧ Below B w w2 := by
  obtain ⟨h0, h1, h2, h3, hq⟩ := H
  exact ⟨(hb.cell (p := p0) (World.block_lt_of_cell? _ _ h0)).trans h0, (hb.cell (p := p1) (World.block_lt_of_cell? _ _ h1)).trans h1, (hb.cell (p := p2) (World.block_lt_of_cell? _ _ h2)).trans h2, (hb.cell (p := p3) (World.block_lt_of_cell? _ _ h3)).trans h3, hq.trans (hb.mono (Nat.le_trans hB hq.size))⟩
/-- As stepR, behind a call that writes blocks from G on alone. -/
theorem stepRG {w w1 w2 : World} {B G : Nat} {p0 p1 p2 p3 : Addr} {x0 x1 x2 x3 : Value} (hB : B ≤ G) (g0 : p0.block < G) (g1 : p1.block < G) (g2 : p2.block < G) (g3 : p3.block < G) (H : w1.cell? p0 = some x0 ∧ w1.cell? p1 = some x1 ∧ w1.cell? p2 = some x2 ∧ w1.cell? p3 = some x3 ∧ Below B w w1) (hb : Below G w1 w2) : w2.cell? p0 = some x0 ∧ w2.cell? p1 = some x1 ∧ w2.cell? p2 = some x2 ∧ w2.cell? p3 = some x3 ∧ Below B w w2 := by
  obtain ⟨h0, h1, h2, h3, hq⟩ := H
  exact ⟨(hb.cell (p := p0) g0).trans h0, (hb.cell (p := p1) g1).trans h1, (hb.cell (p := p2) g2).trans h2, (hb.cell (p := p3) g3).trans h3, hq.trans (hb.mono hB)⟩
theorem startR (w : World) (xs : Array Value) (T : TypeId) : BoxL ((w.alloc (.cells xs T)).alloc (.cells #[.pointer none, .slice none 0 0] 209)) w.heap.size T xs ∧ BX ((w.alloc (.cells xs T)).alloc (.cells #[.pointer none, .slice none 0 0] 209)) (w.heap.size + 1) (w.heap.size + 1) [] ∧ Below w.heap.size w ((w.alloc (.cells xs T)).alloc (.cells #[.pointer none, .slice none 0 0] 209)) := by
  refine ⟨(BoxL.new w _ _).alloc _, ?_, ((Below.refl _ _).alloc (Nat.le_refl _) _).alloc (by simp) _⟩
  have := BX.new (w.alloc (.cells xs T))
  rwa [World.size_alloc] at this
set_option maxHeartbeats 8000000 in
theorem reply_ok (F : Ms → List UInt8) (n : Nat) (hn : n < 18446744073709551616) (ids lost dead : List Nat) (vi vl vd vm : Value) (l : List Ms) (w : World)
    (hi : SlP (fun n : Nat => .int .u64 n) w vi ids) (hlo : SlP (fun n : Nat => .int .u64 n) w vl lost) (hde : SlP (fun n : Nat => .int .u64 n) w vd dead) (hm : SlV cvMs 5 w vm l)
    (bi : ∀ n ∈ ids, n < 18446744073709551616) (bl : ∀ n ∈ lost, n < 18446744073709551616) (bd : ∀ n ∈ dead, n < 18446744073709551616) (li : ids.length ≤ 1000) (ll : lost.length ≤ 1000) (ld : dead.length ≤ 1000) (lm : l.length ≤ 1000) (lt : (tailF F l).length ≤ 100000000)
    (ht : (n < 100 ∧ (∀ n ∈ ids, n < 100) ∧ (∀ n ∈ lost, n < 100) ∧ (∀ n ∈ dead, n < 100)) ∨ Tb w)
    (HM : ∀ m ∈ l, ∀ W, Below w.heap.size w W → Calls Tryz.prog 45 #[aggM m] W fun e w' => e = .returned (.string (str (F m))) ∧ Below W.heap.size W w') :
    Calls Tryz.prog 47 #[.agg #[.int .i64 0, .int .u64 n, vi, vl, vd, vm]] w fun e w' => e = .returned (.string (str (headT n ids lost dead ++ tailF F l))) ∧ Below w.heap.size w w' := by
  have below : ∀ {v : Value} {k : List Nat} {W : World}, SlP (fun n : Nat => .int .u64 n) w v k → Below w.heap.size w W → SlP (fun n : Nat => .int .u64 n) W v k := fun ⟨a, b, o, c, h1, h2, h3⟩ hb => ⟨a, b, o, c, h1, h2, fun j x hj => (hb.cell (p := ⟨b, o + j, none⟩) (World.block_lt_of_cell? _ _ (h3 j x hj))).trans (h3 j x hj)⟩
  have H1 : Hid (∀ W, Below w.heap.size w W → Calls Tryz.prog 129 #[.int .u64 n] W fun e w' => e = .returned (.string (str (dec n))) ∧ Below W.heap.size W w') := fun W hW => nm64_any n hn W (ht.elim (fun h => .inl h.1) (fun h => .inr (Tb.below h hW)))
  have H2 : Hid (∀ W, Below w.heap.size w W → Calls Tryz.prog 134 #[.string ⟨#[32, 105, 100, 115]⟩, vi] W fun e w' => e = .returned (.string (str (someT [32, 105, 100, 115] ids))) ∧ Below W.heap.size W w') := fun W hW => some64_any [32, 105, 100, 115] (by decide) ids (by omega) bi vi W (below hi hW) (ht.elim (fun h => .inl h.2.1) (fun h => .inr (Tb.below h hW)))
  have H3 : Hid (∀ W, Below w.heap.size w W → Calls Tryz.prog 134 #[.string ⟨#[32, 108, 111, 115, 116]⟩, vl] W fun e w' => e = .returned (.string (str (someT [32, 108, 111, 115, 116] lost))) ∧ Below W.heap.size W w') := fun W hW => some64_any [32, 108, 111, 115, 116] (by decide) lost (by omega) bl vl W (below hlo hW) (ht.elim (fun h => .inl h.2.2.1) (fun h => .inr (Tb.below h hW)))
  have H4 : Hid (∀ W, Below w.heap.size w W → Calls Tryz.prog 134 #[.string ⟨#[32, 100, 101, 97, 100]⟩, vd] W fun e w' => e = .returned (.string (str (someT [32, 100, 101, 97, 100] dead))) ∧ Below W.heap.size W w') := fun W hW => some64_any [32, 100, 101, 97, 100] (by decide) dead (by omega) bd vd W (below hde hW) (ht.elim (fun h => .inl h.2.2.2) (fun h => .inr (Tb.below h hW)))
  have z0 := dec_len n hn
  have z1 := someT_len [32, 105, 100, 115] ids bi
  have z2 := someT_len [32, 108, 111, 115, 116] lost bl
  have z3 := someT_len [32, 100, 101, 97, 100] dead bd
  have HS : Hid (str [111, 107, 32] ++ str (dec n) ++ str (someT [32, 105, 100, 115] ids) ++ str (someT [32, 108, 111, 115, 116] lost) ++ str (someT [32, 100, 101, 97, 100] dead) = str (headT n ids lost dead)) := by
    show _ = _
    rw [str_append, str_append, str_append, str_append]; rfl
  have HZ : Hid ((headT n ids lost dead).length ≤ 70000) := by
    show _ ≤ _
    unfold headT
    simp only [List.length_append, List.length_cons, List.length_nil] at z1 z2 z3 ⊢
    omega
  have HI := Lib.hid hm
  have HMM := Lib.hid HM
  have HST := Lib.hid (startR w #[.int .i64 0, .int .u64 n, vi, vl, vd, vm] 101)
  have LM := Lib.hid lm
  have LT := Lib.hid lt
  have hmx := mixed0
  clear below hi hlo hde hm bi bl bd ht HM lm lt hn
  revert H1 H2 H3 H4 HS HZ z0 z1 z2 z3
  generalize headT n ids lost dead = hd
  generalize dec n = d0
  generalize someT [32, 105, 100, 115] ids = d1
  generalize someT [32, 108, 111, 115, 116] lost = d2
  generalize someT [32, 100, 101, 97, 100] dead = d3
  intro H1 H2 H3 H4 z0 z1 z2 z3 HS HZ
  have y0 : (str d0).size = d0.length := rfl
  have y1 : (str d1).size = d1.length := rfl
  have y2 : (str d2).size = d2.length := rfl
  have y3 : (str d3).size = d3.length := rfl
  simp only [List.length_cons, List.length_nil] at z1 z2 z3
  have q0 : ¬ 9223372036854775807 < 3 + d0.length := by omega
  have q1 : ¬ 9223372036854775807 < 3 + d0.length + d1.length := by omega
  have q2 : ¬ 9223372036854775807 < 3 + d0.length + d1.length + d2.length := by omega
  have q3 : ¬ 9223372036854775807 < 3 + d0.length + d1.length + d2.length + d3.length := by omega
  clear z0 z1 z2 z3
  go_enter Tryz.func47, Tryz.ntmps47
  go_upto_region 4 with fail
  revert HST
  generalize hw0 : ((w.alloc (.cells #[.int .i64 0, .int .u64 n, vi, vl, vd, vm] 101)).alloc (.cells #[.pointer none, .slice none 0 0] 209)) = w0
  intro HST
  have HX0 : Hid (BX w0.drew (w.heap.size + 1) (w.heap.size + 1) []) := HST.out.2.1.below ((Below.refl _ _).drew)
  have HB0 : Hid (Below w.heap.size w w0.drew) := HST.out.2.2.drew
  have HBXL : Hid (BoxL w0.drew w.heap.size 101 #[.int .i64 0, .int .u64 n, vi, vl, vd, vm]) := HST.out.1
  have H0 : Hid (w0.drew.cell? ⟨w.heap.size, 1, none⟩ = some (.int .u64 n) ∧ w0.drew.cell? ⟨w.heap.size, 2, none⟩ = some vi ∧ w0.drew.cell? ⟨w.heap.size, 3, none⟩ = some vl ∧ w0.drew.cell? ⟨w.heap.size, 4, none⟩ = some vd ∧ Below w.heap.size w w0.drew) := ⟨HBXL.out.cell (i := 1) rfl, HBXL.out.cell (i := 2) rfl, HBXL.out.cell (i := 3) rfl, HBXL.out.cell (i := 4) rfl, HB0.out⟩
  have HWR : Hid (∀ W, BX W (w.heap.size + 1) (w.heap.size + 1) [] → Calls Tryz.prog 116 #[.pointer (some ⟨w.heap.size + 1, 0, none⟩), .string (⟨#[111, 107, 32]⟩ ++ str d0 ++ str d1 ++ str d2 ++ str d3)] W fun e w' => e = .returned (.tuple #[.int .i64 hd.length, .nilIface]) ∧ BX w' (w.heap.size + 1) (w.heap.size + 1) hd ∧ Below (w.heap.size + 1) W w') := fun W h => by
    have e : (⟨#[111, 107, 32]⟩ ++ str d0 ++ str d1 ++ str d2 ++ str d3 : ByteArray) = str hd := HS.out
    rw [e]
    have h2 := h.write hd (by simp; have := HZ.out; omega)
    rw [List.nil_append] at h2
    exact h2
  clear HST hw0
  go_region_held3 (fun W => W.cell? ⟨w.heap.size, 1, none⟩ = some (.int .u64 n) ∧ W.cell? ⟨w.heap.size, 2, none⟩ = some vi ∧ W.cell? ⟨w.heap.size, 3, none⟩ = some vl ∧ W.cell? ⟨w.heap.size, 4, none⟩ = some vd ∧ Below w.heap.size w W)
    ((first | with_reducible assumption | exact H0.out | exact stepR (Nat.le_refl _) ‹_› hb1 | exact stepRG (G := w.heap.size + 1) (by omega) (Nat.lt_succ_self _) (Nat.lt_succ_self _) (Nat.lt_succ_self _) (Nat.lt_succ_self _) ‹_› hw5))
    (first
      | (go_at_call 116; (with_reducible refine (HWR.out _ HX4.out).mono ?_); rintro e w5 ⟨rfl, hx5, hw5⟩; have HX5 := Lib.hid hx5; have HL5 := Lib.hid (HL4.out.below hw5 (Nat.lt_succ_self _)); have HB5 : Hid (Below w.heap.size w w5) := HB4.out.trans (hw5.mono (by omega)); clear hx5)
      | (go_at_call 134; have tok := HX3; (with_reducible refine (H4.out _ HB3.out).mono ?_); rintro e w4 ⟨rfl, hb1⟩; have HX4 := Lib.hid (HX3.out.below hb1); have HL4 := Lib.hid (HL3.out.below hb1 HL3.out.lt); have HB4 := Lib.hid (below_step HB3.out hb1))
      | (go_at_call 134; have tok := HX2; (with_reducible refine (H3.out _ HB2.out).mono ?_); rintro e w3 ⟨rfl, hb1⟩; have HX3 := Lib.hid (HX2.out.below hb1); have HL3 := Lib.hid (HL2.out.below hb1 HL2.out.lt); have HB3 := Lib.hid (below_step HB2.out hb1))
      | (go_at_call 134; have tok := HX1; (with_reducible refine (H2.out _ HB1.out).mono ?_); rintro e w2 ⟨rfl, hb1⟩; have HX2 := Lib.hid (HX1.out.below hb1); have HL2 := Lib.hid (HL1.out.below hb1 HL1.out.lt); have HB2 := Lib.hid (below_step HB1.out hb1))
      | (go_at_call 129; (with_reducible refine (H1.out _ HB0.out).mono ?_); rintro e w1 ⟨rfl, hb1⟩; have HX1 := Lib.hid (HX0.out.below hb1); have HL1 := Lib.hid (HBXL.out.below hb1 HBXL.out.lt); have HB1 := Lib.hid (below_step HB0.out hb1)))
  all_goals
    have k5 := HL5.out.cell (i := 5) rfl
    obtain ⟨a, b, o, c, rfl, h2, h3, h5, h6⟩ := HI.out.get
    have HC := Lib.hid h6
    have HAB := Lib.hid h5
    have HLC := Lib.hid h2
    clear h2 h3 h5 h6
    go_wp2
    go_loopg [32] l.length (fun n i wr => ∃ k : Nat, k ≤ l.length ∧ n = l.length - k ∧ i = .int .i64 (k : Nat) ∧ Hid (BX wr (w.heap.size + 1) (w.heap.size + 1) (hd ++ tailF F (l.take k))) ∧ Hid (Below w.heap.size w wr))
    case atStart => exact ⟨0, Nat.zero_le _, rfl, rfl, by show BX _ _ _ _; rw [List.take_zero]; show BX _ _ _ (hd ++ []); rw [List.append_nil]; exact HX5.out, HB5.out⟩
    case round =>
      obtain ⟨k, hk, rfl, rfl, HB, HE⟩ := hrel
      by_cases hlt : k < l.length
      · obtain ⟨x, hx⟩ : ∃ x, l[k]? = some x := ⟨_, List.getElem?_eq_getElem hlt⟩
        obtain rfl : a = some ⟨b, o, none⟩ := HAB.out.resolve_left (fun e => by rw [e] at hlt; cases hlt)
        obtain ⟨e0, e1, e2, e3, e4⟩ := atMs HC.out hx
        have hblt : b < w.heap.size := World.block_lt_of_cell? _ _ e0
        have f0 := (HE.out.cell (p := ⟨b, o + k * 5, none⟩) hblt).trans e0
        have f1 := (HE.out.cell (p := ⟨b, o + k * 5 + 1, none⟩) hblt).trans e1
        have f2 := (HE.out.cell (p := ⟨b, o + k * 5 + 2, none⟩) hblt).trans e2
        have f3 := (HE.out.cell (p := ⟨b, o + k * 5 + 3, none⟩) hblt).trans e3
        have f4 := (HE.out.cell (p := ⟨b, o + k * 5 + 4, none⟩) hblt).trans e4
        have HT := Lib.hid (tailF_take F hx)
        have HLE : Hid ((tailF F (l.take (k + 1))).length ≤ 100000000) := Nat.le_trans (tailF_le F l (k + 1)) LT.out
        have HFX := Lib.hid (HMM.out x (List.mem_of_getElem? hx))
        have hl1 : Hid ((tailF F (l.take k)).length + (3 + (F x).length) ≤ 100000000) := by have := HLE.out; rw [HT.out] at this; simp at this; show _ ≤ _; omega
        have bA : Below w.heap.size w (wr.alloc (.cells #[.string x.qu, .int .u64 x.id, .int .u32 x.tries, .int .u64 x.expiry, .string x.body] 62)) := HE.out.alloc HE.out.size _
        have HBA : Hid (BX (wr.alloc (.cells #[.string x.qu, .int .u64 x.id, .int .u32 x.tries, .int .u64 x.expiry, .string x.body] 62)) (w.heap.size + 1) (w.heap.size + 1) (hd ++ tailF F (l.take k))) := HB.out.below ((Below.refl _ _).alloc (Nat.le_refl _) _)
        have HFA := Lib.hid (HFX.out _ bA)
        have HBB := Lib.hid bA
        have qx : ¬ 9223372036854775807 < 3 + (F x).length := by have := hl1.out; omega
        have yx : (str (F x)).size = (F x).length := rfl
        have hll : l.length ≤ 1000 := LM.out
        unfold aggM at HFA
        clear hx e0 e1 e2 e3 e4 hblt bA HFX
        revert HFA hl1 qx yx HT
        generalize F x = fx
        intro HT hl1 HFA qx yx
        have HWX : Hid (∀ W, BX W (w.heap.size + 1) (w.heap.size + 1) (hd ++ tailF F (l.take k)) → Calls Tryz.prog 116 #[.pointer (some ⟨w.heap.size + 1, 0, none⟩), .string (⟨#[10, 32, 32]⟩ ++ str fx)] W fun e w' => e = .returned (.tuple #[.int .i64 ([10, 32, 32] ++ fx).length, .nilIface]) ∧ BX w' (w.heap.size + 1) (w.heap.size + 1) (hd ++ tailF F (l.take (k + 1))) ∧ Below (w.heap.size + 1) W w') := fun W h => by
          have e : (⟨#[10, 32, 32]⟩ ++ str fx : ByteArray) = str ([10, 32, 32] ++ fx) := str_append [10, 32, 32] fx
          rw [e, HT.out, ← List.append_assoc]
          exact h.write ([10, 32, 32] ++ fx) (by have := hl1.out; have := HZ.out; simp only [List.length_append, List.length_cons, List.length_nil]; omega)
        go_wp2_with (first
          | (go_at_call 45; refine HFA.out.mono ?_; rintro e w6 ⟨rfl, hb6⟩; have HX6 := Lib.hid (HBA.out.below hb6); have HB6 := Lib.hid (below_step HBB.out hb6); clear hb6)
          | (go_at_call 116; (with_reducible refine (HWX.out _ HX6.out).mono ?_); rintro e w7 ⟨rfl, hx7, hw7⟩; have HX7 := Lib.hid hx7; have HB7 : Hid (Below w.heap.size w w7) := HB6.out.trans (hw7.mono (by omega)); clear hx7 hw7))
        go_roundg (l.length - (k + 1))
        case measure => omega
        case rel => exact ⟨k + 1, hlt, rfl, by go_num, HX7.out, HB7.out⟩
      · obtain rfl : k = l.length := by omega
        have HB' : Hid (BX wr (w.heap.size + 1) (w.heap.size + 1) (hd ++ tailF F l)) := by have := HB.out; rw [List.take_length] at this; exact this
        go_wp2_with (go_at_call 118; refine HB'.out.string.mono ?_; rintro e w8 ⟨rfl, hb8⟩)
        go_ret
        exact ⟨rfl, HE.out.trans (hb8.mono (by omega))⟩
end Go.Proofs.YtgmneapgihakgaaGreatDoor
/- registry's binding: what a binding's pair tells. -/
namespace Go.Proofs.YtgmneapgihakgaaGreatDoor
open Go.RowKit Go.Sort Go.Maps
theorem rrBi {w : World} {g : Nat} {x0 x1 x2 x3 : Value} {e : Int} {tmps : Array Value} (ht : tmps[2]? = some (.pointer (some ⟨g, 0, none⟩))) (h8 : tmps[3]? = some (.int .i64 e)) (hx : BoxL w g 38 #[x0, x1, x2, x3]) :
    (results Tryz.f168 tmps).run Tryz.prog w = .ok (.tuple #[.agg #[x0, x1, x2, x3], .int .i64 e]) w := by
  have h0 := hx.cell (i := 0) rfl
  have h1 := hx.cell (i := 1) rfl
  have h2 := hx.cell (i := 2) rfl
  have h3 := hx.cell (i := 3) rfl
  simp [results, Tryz.results168, go_sem, ht, h8, h0, h1, h2, h3]
set_option maxHeartbeats 4000000 in
theorem binding_any (ex : Txt) (u : Nat) (ky qu : Txt) (k : Int) (hu : u < 18446744073709551616) (hk1 : IntKind.i64.wrap (u : Int) = k) (hk2 : IntKind.u64.wrap k = (u : Int)) (hk : (kBd ex u ky qu).length ≤ 255) (w : World) :
    Calls Tryz.prog 168 #[.agg #[.string (str (kBd ex u ky qu)), .string ⟨#[]⟩]] w fun e w' => e = .returned (.tuple #[.agg #[.string (str ex), .int .i64 k, .string (str ky), .string (str qu)], .int .i64 0]) ∧ Below w.heap.size w w' := by
  obtain ⟨w1, hw1⟩ : ∃ w1, w1 = (w.alloc (.cells #[.string (str (kBd ex u ky qu)), .string ⟨#[]⟩] 73)).alloc (.cells #[.string ⟨#[]⟩, .int .i64 0, .string ⟨#[]⟩, .string ⟨#[]⟩] 38) := ⟨_, rfl⟩
  obtain ⟨x1, y1, b1⟩ := two0 w #[.string (str (kBd ex u ky qu)), .string ⟨#[]⟩] #[.string ⟨#[]⟩, .int .i64 0, .string ⟨#[]⟩, .string ⟨#[]⟩] 73 38
  rw [← hw1] at x1 y1 b1
  have p0 := x1.cell (i := 0) rfl
  have HP := Lib.hid (parseB ex u ky qu k hu hk1 hk2 hk w1)
  have HX := Lib.hid x1
  have HY := Lib.hid y1
  have HB := Lib.hid b1
  rw [hw1] at p0 HP
  have HW := Lib.hid hw1
  clear x1 y1 b1 hw1 hk hk1 hk2 hu
  go_enter Tryz.func168, Tryz.ntmps168
  go_wp2_with (go_at_call 25; refine HP.out.mono ?_; rintro e2 w2 ⟨rfl, hb2⟩; rw [← HW.out] at hb2; have x2 := (HX.out.below hb2 HX.out.lt).alloc (.cells #[.string ⟨#[98]⟩, .string ⟨#[]⟩, .int .u64 0, .int .u64 0, .string (str ex), .int .i64 k, .string (str ky), .string (str qu), .string ⟨#[]⟩] 75); have v1 := x2.cell (i := 1) rfl; have z2 := BoxL.new w2 #[.string ⟨#[98]⟩, .string ⟨#[]⟩, .int .u64 0, .int .u64 0, .string (str ex), .int .i64 k, .string (str ky), .string (str qu), .string ⟨#[]⟩] 75; have z4 := z2.cell (i := 4) rfl; have z5 := z2.cell (i := 5) rfl; have z6 := z2.cell (i := 6) rfl; have z7 := z2.cell (i := 7) rfl; have y2 := (HY.out.below hb2 HY.out.lt).alloc (.cells #[.string ⟨#[98]⟩, .string ⟨#[]⟩, .int .u64 0, .int .u64 0, .string (str ex), .int .i64 k, .string (str ky), .string (str qu), .string ⟨#[]⟩] 75); have f2 := y2.frozen; have q0 := y2.cell (i := 0) rfl; have q1 := y2.cell (i := 1) rfl; have q2 := y2.cell (i := 2) rfl; have q3 := y2.cell (i := 3) rfl; have HB2 := Lib.hid (below_stepA (below_step HB.out hb2) (.cells #[.string ⟨#[98]⟩, .string ⟨#[]⟩, .int .u64 0, .int .u64 0, .string (str ex), .int .i64 k, .string (str ky), .string (str qu), .string ⟨#[]⟩] 75)); have HY2 := Lib.hid y2; clear x2 z2 y2 hb2)
  have y2 := HY2.out
  have hbF := HB2.out
  have xs := ((((y2.set 0 (.string (str ex))).set 1 (.int .i64 k)).set 2 (.string (str ky))).set 3 (.string (str qu)))
  exact bodyPost_ret_by (rrBi rfl rfl xs) rfl ⟨rfl, ((((hbF.setCell (p := ⟨w.heap.size + 1, 0, none⟩) (by simp) (.string (str ex))).setCell (p := ⟨w.heap.size + 1, 1, none⟩) (by simp) (.int .i64 k)).setCell (p := ⟨w.heap.size + 1, 2, none⟩) (by simp) (.string (str ky))).setCell (p := ⟨w.heap.size + 1, 3, none⟩) (by simp) (.string (str qu)))⟩
end Go.Proofs.YtgmneapgihakgaaGreatDoor
/- message.due: of a term's pair the message that expires. -/
namespace Go.Proofs.YtgmneapgihakgaaGreatDoor
open Go.RowKit Go.Sort Go.Maps
def dueE (a : Nat) (r : Ms × Bool × Int) : Int := if r.2.2 = 0 ∧ (r.2.1 = false ∨ r.1.expiry ≠ a) then 31 else r.2.2
theorem rrDu {w : World} {g : Nat} {x0 x1 x2 x3 x4 : Value} {e : Int} {tmps : Array Value} (ht : tmps[4]? = some (.pointer (some ⟨g, 0, none⟩))) (h8 : tmps[5]? = some (.int .i64 e)) (hx : BoxL w g 62 #[x0, x1, x2, x3, x4]) :
    (results Tryz.f112 tmps).run Tryz.prog w = .ok (.tuple #[.agg #[x0, x1, x2, x3, x4], .int .i64 e]) w := by
  have h0 := hx.cell (i := 0) rfl
  have h1 := hx.cell (i := 1) rfl
  have h2 := hx.cell (i := 2) rfl
  have h3 := hx.cell (i := 3) rfl
  have h4 := hx.cell (i := 4) rfl
  simp [results, Tryz.results112, go_sem, ht, h8, h0, h1, h2, h3, h4]
set_option maxHeartbeats 4000000 in
theorem mdue_any {N : Nat} {M : Nat → Prop} {w : World} {p : Nat} {ks : List Txt} {f : Txt → Txt} (h : ShW N M w p ks f) (a : Nat) (q : Txt) (i : Nat) (ha : a < 18446744073709551616) (hq : q.length ≤ 400) (hi : i < 18446744073709551616) (hk : (kT a q i).length ≤ 255) (m : Int) (hm : w.cell? ⟨0, 0, none⟩ = some (.int .i64 m)) :
    Calls Tryz.prog 112 #[.iface 25 (.pointer (some ⟨p, 0, none⟩)), .agg #[.string (str (kT a q i)), .string ⟨#[]⟩]] w fun e w' => e = .returned (.tuple #[aggM (findM ks f q i).1, .int .i64 (dueE a (findM ks f q i))]) ∧ Below w.heap.size w w' := by
  have h00 := World.block_lt_of_cell? _ _ hm
  obtain ⟨w1, hw1⟩ : ∃ w1, w1 = (w.alloc (.cells #[.string (str (kT a q i)), .string ⟨#[]⟩] 73)).alloc (.cells #[.string ⟨#[]⟩, .int .u64 0, .int .u32 0, .int .u64 0, .string ⟨#[]⟩] 62) := ⟨_, rfl⟩
  obtain ⟨x1, y1, b1⟩ := two0 w #[.string (str (kT a q i)), .string ⟨#[]⟩] #[.string ⟨#[]⟩, .int .u64 0, .int .u32 0, .int .u64 0, .string ⟨#[]⟩] 73 62
  rw [← hw1] at x1 y1 b1
  have p0 := x1.cell (i := 0) rfl
  have HP := Lib.hid (parseT a q i ha hi hk w1)
  have HF : Hid (∀ W, Below w.heap.size w W → Calls Tryz.prog 98 #[.iface 25 (.pointer (some ⟨p, 0, none⟩)), .string (str q), .int .u64 i] W fun e w' => e = .returned (.tuple #[aggM (findM ks f q i).1, .bool (findM ks f q i).2.1, .int .i64 (findM ks f q i).2.2]) ∧ Below W.heap.size W w') := fun W hb => findM_any (h.below hb) q i hq hi m ((hb.cell (p := ⟨0, 0, none⟩) h00).trans hm)
  have HX := Lib.hid x1
  have HY := Lib.hid y1
  have HB := Lib.hid b1
  rw [hw1] at p0 HP
  have HW := Lib.hid hw1
  clear x1 y1 b1 hw1 hk h hm h00
  revert HF
  generalize findM ks f q i = rr
  intro HF
  obtain ⟨r, th, ev⟩ := rr
  unfold aggM at HF ⊢
  simp only at HF ⊢
  by_cases h0 : ev = 0
  · subst h0
    cases th with
    | false =>
      have e1 : dueE a (r, false, 0) = 31 := if_pos ⟨rfl, .inl rfl⟩
      rw [e1]
      clear e1
      go_enter Tryz.func112, Tryz.ntmps112
      go_wp2_with (first
        | (go_at_call 25; refine HP.out.mono ?_; rintro e2 w2 ⟨rfl, hb2⟩; rw [← HW.out] at hb2; have p2 := (HX.out.below hb2 HX.out.lt).alloc (.cells #[.string ⟨#[101]⟩, .string (str q), .int .u64 i, .int .u64 a, .string ⟨#[]⟩, .int .i64 0, .string ⟨#[]⟩, .string ⟨#[]⟩, .string ⟨#[]⟩] 75); have v1 := p2.cell (i := 1) rfl; have t2 := BoxL.new w2 #[.string ⟨#[101]⟩, .string (str q), .int .u64 i, .int .u64 a, .string ⟨#[]⟩, .int .i64 0, .string ⟨#[]⟩, .string ⟨#[]⟩, .string ⟨#[]⟩] 75; have t21 := t2.cell (i := 1) rfl; have t22 := t2.cell (i := 2) rfl; have HB2 := Lib.hid (below_stepA (below_step HB.out hb2) (.cells #[.string ⟨#[101]⟩, .string (str q), .int .u64 i, .int .u64 a, .string ⟨#[]⟩, .int .i64 0, .string ⟨#[]⟩, .string ⟨#[]⟩, .string ⟨#[]⟩] 75)); have HY2 := Lib.hid ((HY.out.below hb2 HY.out.lt).alloc (.cells #[.string ⟨#[101]⟩, .string (str q), .int .u64 i, .int .u64 a, .string ⟨#[]⟩, .int .i64 0, .string ⟨#[]⟩, .string ⟨#[]⟩, .string ⟨#[]⟩] 75)); have HT2 := Lib.hid t2; clear p2 t2 hb2)
        | (go_at_call 98; refine (HF.out _ HB2.out).mono ?_; rintro e3 w3 ⟨rfl, hb3⟩; have y3 := (HY2.out.below hb3 HY2.out.lt).alloc (.cells #[.string r.qu, .int .u64 r.id, .int .u32 r.tries, .int .u64 r.expiry, .string r.body] 62); have t3 := (HT2.out.below hb3 HT2.out.lt).alloc (.cells #[.string r.qu, .int .u64 r.id, .int .u32 r.tries, .int .u64 r.expiry, .string r.body] 62); have t33 := t3.cell (i := 3) rfl; have n3 := BoxL.new w3 #[.string r.qu, .int .u64 r.id, .int .u32 r.tries, .int .u64 r.expiry, .string r.body] 62; have n30 := n3.cell (i := 0) rfl; have n31 := n3.cell (i := 1) rfl; have n32 := n3.cell (i := 2) rfl; have n33 := n3.cell (i := 3) rfl; have n34 := n3.cell (i := 4) rfl; have f3 := y3.frozen; have q0 := y3.cell (i := 0) rfl; have q1 := y3.cell (i := 1) rfl; have q2 := y3.cell (i := 2) rfl; have q3 := y3.cell (i := 3) rfl; have q4 := y3.cell (i := 4) rfl; have HB3 := Lib.hid (below_stepA (below_step HB2.out hb3) (.cells #[.string r.qu, .int .u64 r.id, .int .u32 r.tries, .int .u64 r.expiry, .string r.body] 62)); have HY3 := Lib.hid y3; clear y3 t3 n3 hb3))
      have y3 := HY3.out
      have hbF := HB3.out
      have xs := (((((y3.set 0 (.string r.qu)).set 1 (.int .u64 r.id)).set 2 (.int .u32 r.tries)).set 3 (.int .u64 r.expiry)).set 4 (.string r.body))
      exact bodyPost_ret_by (rrDu rfl rfl xs) rfl ⟨rfl, (((((hbF.setCell (p := ⟨w.heap.size + 1, 0, none⟩) (by simp) (.string r.qu)).setCell (p := ⟨w.heap.size + 1, 1, none⟩) (by simp) (.int .u64 r.id)).setCell (p := ⟨w.heap.size + 1, 2, none⟩) (by simp) (.int .u32 r.tries)).setCell (p := ⟨w.heap.size + 1, 3, none⟩) (by simp) (.int .u64 r.expiry)).setCell (p := ⟨w.heap.size + 1, 4, none⟩) (by simp) (.string r.body))⟩
    | true =>
      by_cases h1 : r.expiry = a
      · have e1 : dueE a (r, true, 0) = 0 := if_neg (fun h => h.2.elim (by simp) (fun h => h h1))
        rw [e1]
        have hbn : ((r.expiry : Int) != (a : Int)) = false := by rw [h1]; simp
        clear e1 h1
        go_enter Tryz.func112, Tryz.ntmps112
        go_wp2_with (first
          | (go_at_call 25; refine HP.out.mono ?_; rintro e2 w2 ⟨rfl, hb2⟩; rw [← HW.out] at hb2; have p2 := (HX.out.below hb2 HX.out.lt).alloc (.cells #[.string ⟨#[101]⟩, .string (str q), .int .u64 i, .int .u64 a, .string ⟨#[]⟩, .int .i64 0, .string ⟨#[]⟩, .string ⟨#[]⟩, .string ⟨#[]⟩] 75); have v1 := p2.cell (i := 1) rfl; have t2 := BoxL.new w2 #[.string ⟨#[101]⟩, .string (str q), .int .u64 i, .int .u64 a, .string ⟨#[]⟩, .int .i64 0, .string ⟨#[]⟩, .string ⟨#[]⟩, .string ⟨#[]⟩] 75; have t21 := t2.cell (i := 1) rfl; have t22 := t2.cell (i := 2) rfl; have HB2 := Lib.hid (below_stepA (below_step HB.out hb2) (.cells #[.string ⟨#[101]⟩, .string (str q), .int .u64 i, .int .u64 a, .string ⟨#[]⟩, .int .i64 0, .string ⟨#[]⟩, .string ⟨#[]⟩, .string ⟨#[]⟩] 75)); have HY2 := Lib.hid ((HY.out.below hb2 HY.out.lt).alloc (.cells #[.string ⟨#[101]⟩, .string (str q), .int .u64 i, .int .u64 a, .string ⟨#[]⟩, .int .i64 0, .string ⟨#[]⟩, .string ⟨#[]⟩, .string ⟨#[]⟩] 75)); have HT2 := Lib.hid t2; clear p2 t2 hb2)
          | (go_at_call 98; refine (HF.out _ HB2.out).mono ?_; rintro e3 w3 ⟨rfl, hb3⟩; have y3 := (HY2.out.below hb3 HY2.out.lt).alloc (.cells #[.string r.qu, .int .u64 r.id, .int .u32 r.tries, .int .u64 r.expiry, .string r.body] 62); have t3 := (HT2.out.below hb3 HT2.out.lt).alloc (.cells #[.string r.qu, .int .u64 r.id, .int .u32 r.tries, .int .u64 r.expiry, .string r.body] 62); have t33 := t3.cell (i := 3) rfl; have n3 := BoxL.new w3 #[.string r.qu, .int .u64 r.id, .int .u32 r.tries, .int .u64 r.expiry, .string r.body] 62; have n30 := n3.cell (i := 0) rfl; have n31 := n3.cell (i := 1) rfl; have n32 := n3.cell (i := 2) rfl; have n33 := n3.cell (i := 3) rfl; have n34 := n3.cell (i := 4) rfl; have f3 := y3.frozen; have q0 := y3.cell (i := 0) rfl; have q1 := y3.cell (i := 1) rfl; have q2 := y3.cell (i := 2) rfl; have q3 := y3.cell (i := 3) rfl; have q4 := y3.cell (i := 4) rfl; have HB3 := Lib.hid (below_stepA (below_step HB2.out hb3) (.cells #[.string r.qu, .int .u64 r.id, .int .u32 r.tries, .int .u64 r.expiry, .string r.body] 62)); have HY3 := Lib.hid y3; clear y3 t3 n3 hb3))
        have y3 := HY3.out
        have hbF := HB3.out
        have xs := (((((y3.set 0 (.string r.qu)).set 1 (.int .u64 r.id)).set 2 (.int .u32 r.tries)).set 3 (.int .u64 r.expiry)).set 4 (.string r.body))
        exact bodyPost_ret_by (rrDu rfl rfl xs) rfl ⟨rfl, (((((hbF.setCell (p := ⟨w.heap.size + 1, 0, none⟩) (by simp) (.string r.qu)).setCell (p := ⟨w.heap.size + 1, 1, none⟩) (by simp) (.int .u64 r.id)).setCell (p := ⟨w.heap.size + 1, 2, none⟩) (by simp) (.int .u32 r.tries)).setCell (p := ⟨w.heap.size + 1, 3, none⟩) (by simp) (.int .u64 r.expiry)).setCell (p := ⟨w.heap.size + 1, 4, none⟩) (by simp) (.string r.body))⟩
      · have e1 : dueE a (r, true, 0) = 31 := if_pos ⟨rfl, .inr h1⟩
        rw [e1]
        have hbn : ((r.expiry : Int) != (a : Int)) = true := by simp; omega
        clear e1 h1
        go_enter Tryz.func112, Tryz.ntmps112
        go_wp2_with (first
          | (go_at_call 25; refine HP.out.mono ?_; rintro e2 w2 ⟨rfl, hb2⟩; rw [← HW.out] at hb2; have p2 := (HX.out.below hb2 HX.out.lt).alloc (.cells #[.string ⟨#[101]⟩, .string (str q), .int .u64 i, .int .u64 a, .string ⟨#[]⟩, .int .i64 0, .string ⟨#[]⟩, .string ⟨#[]⟩, .string ⟨#[]⟩] 75); have v1 := p2.cell (i := 1) rfl; have t2 := BoxL.new w2 #[.string ⟨#[101]⟩, .string (str q), .int .u64 i, .int .u64 a, .string ⟨#[]⟩, .int .i64 0, .string ⟨#[]⟩, .string ⟨#[]⟩, .string ⟨#[]⟩] 75; have t21 := t2.cell (i := 1) rfl; have t22 := t2.cell (i := 2) rfl; have HB2 := Lib.hid (below_stepA (below_step HB.out hb2) (.cells #[.string ⟨#[101]⟩, .string (str q), .int .u64 i, .int .u64 a, .string ⟨#[]⟩, .int .i64 0, .string ⟨#[]⟩, .string ⟨#[]⟩, .string ⟨#[]⟩] 75)); have HY2 := Lib.hid ((HY.out.below hb2 HY.out.lt).alloc (.cells #[.string ⟨#[101]⟩, .string (str q), .int .u64 i, .int .u64 a, .string ⟨#[]⟩, .int .i64 0, .string ⟨#[]⟩, .string ⟨#[]⟩, .string ⟨#[]⟩] 75)); have HT2 := Lib.hid t2; clear p2 t2 hb2)
          | (go_at_call 98; refine (HF.out _ HB2.out).mono ?_; rintro e3 w3 ⟨rfl, hb3⟩; have y3 := (HY2.out.below hb3 HY2.out.lt).alloc (.cells #[.string r.qu, .int .u64 r.id, .int .u32 r.tries, .int .u64 r.expiry, .string r.body] 62); have t3 := (HT2.out.below hb3 HT2.out.lt).alloc (.cells #[.string r.qu, .int .u64 r.id, .int .u32 r.tries, .int .u64 r.expiry, .string r.body] 62); have t33 := t3.cell (i := 3) rfl; have n3 := BoxL.new w3 #[.string r.qu, .int .u64 r.id, .int .u32 r.tries, .int .u64 r.expiry, .string r.body] 62; have n30 := n3.cell (i := 0) rfl; have n31 := n3.cell (i := 1) rfl; have n32 := n3.cell (i := 2) rfl; have n33 := n3.cell (i := 3) rfl; have n34 := n3.cell (i := 4) rfl; have f3 := y3.frozen; have q0 := y3.cell (i := 0) rfl; have q1 := y3.cell (i := 1) rfl; have q2 := y3.cell (i := 2) rfl; have q3 := y3.cell (i := 3) rfl; have q4 := y3.cell (i := 4) rfl; have HB3 := Lib.hid (below_stepA (below_step HB2.out hb3) (.cells #[.string r.qu, .int .u64 r.id, .int .u32 r.tries, .int .u64 r.expiry, .string r.body] 62)); have HY3 := Lib.hid y3; clear y3 t3 n3 hb3))
        have y3 := HY3.out
        have hbF := HB3.out
        have xs := (((((y3.set 0 (.string r.qu)).set 1 (.int .u64 r.id)).set 2 (.int .u32 r.tries)).set 3 (.int .u64 r.expiry)).set 4 (.string r.body))
        exact bodyPost_ret_by (rrDu rfl rfl xs) rfl ⟨rfl, (((((hbF.setCell (p := ⟨w.heap.size + 1, 0, none⟩) (by simp) (.string r.qu)).setCell (p := ⟨w.heap.size + 1, 1, none⟩) (by simp) (.int .u64 r.id)).setCell (p := ⟨w.heap.size + 1, 2, none⟩) (by simp) (.int .u32 r.tries)).setCell (p := ⟨w.heap.size + 1, 3, none⟩) (by simp) (.int .u64 r.expiry)).setCell (p := ⟨w.heap.size + 1, 4, none⟩) (by simp) (.string r.body))⟩
  · have e1 : dueE a (r, th, ev) = ev := if_neg (fun h => h0 h.1)
    rw [e1]
    have hb : (ev == 0) = false := by simpa using h0
    clear e1 h0
    go_enter Tryz.func112, Tryz.ntmps112
    go_wp2_with (first
      | (go_at_call 25; refine HP.out.mono ?_; rintro e2 w2 ⟨rfl, hb2⟩; rw [← HW.out] at hb2; have p2 := (HX.out.below hb2 HX.out.lt).alloc (.cells #[.string ⟨#[101]⟩, .string (str q), .int .u64 i, .int .u64 a, .string ⟨#[]⟩, .int .i64 0, .string ⟨#[]⟩, .string ⟨#[]⟩, .string ⟨#[]⟩] 75); have v1 := p2.cell (i := 1) rfl; have t2 := BoxL.new w2 #[.string ⟨#[101]⟩, .string (str q), .int .u64 i, .int .u64 a, .string ⟨#[]⟩, .int .i64 0, .string ⟨#[]⟩, .string ⟨#[]⟩, .string ⟨#[]⟩] 75; have t21 := t2.cell (i := 1) rfl; have t22 := t2.cell (i := 2) rfl; have HB2 := Lib.hid (below_stepA (below_step HB.out hb2) (.cells #[.string ⟨#[101]⟩, .string (str q), .int .u64 i, .int .u64 a, .string ⟨#[]⟩, .int .i64 0, .string ⟨#[]⟩, .string ⟨#[]⟩, .string ⟨#[]⟩] 75)); have HY2 := Lib.hid ((HY.out.below hb2 HY.out.lt).alloc (.cells #[.string ⟨#[101]⟩, .string (str q), .int .u64 i, .int .u64 a, .string ⟨#[]⟩, .int .i64 0, .string ⟨#[]⟩, .string ⟨#[]⟩, .string ⟨#[]⟩] 75)); have HT2 := Lib.hid t2; clear p2 t2 hb2)
      | (go_at_call 98; refine (HF.out _ HB2.out).mono ?_; rintro e3 w3 ⟨rfl, hb3⟩; have y3 := (HY2.out.below hb3 HY2.out.lt).alloc (.cells #[.string r.qu, .int .u64 r.id, .int .u32 r.tries, .int .u64 r.expiry, .string r.body] 62); have t3 := (HT2.out.below hb3 HT2.out.lt).alloc (.cells #[.string r.qu, .int .u64 r.id, .int .u32 r.tries, .int .u64 r.expiry, .string r.body] 62); have t33 := t3.cell (i := 3) rfl; have n3 := BoxL.new w3 #[.string r.qu, .int .u64 r.id, .int .u32 r.tries, .int .u64 r.expiry, .string r.body] 62; have n30 := n3.cell (i := 0) rfl; have n31 := n3.cell (i := 1) rfl; have n32 := n3.cell (i := 2) rfl; have n33 := n3.cell (i := 3) rfl; have n34 := n3.cell (i := 4) rfl; have f3 := y3.frozen; have q0 := y3.cell (i := 0) rfl; have q1 := y3.cell (i := 1) rfl; have q2 := y3.cell (i := 2) rfl; have q3 := y3.cell (i := 3) rfl; have q4 := y3.cell (i := 4) rfl; have HB3 := Lib.hid (below_stepA (below_step HB2.out hb3) (.cells #[.string r.qu, .int .u64 r.id, .int .u32 r.tries, .int .u64 r.expiry, .string r.body] 62)); have HY3 := Lib.hid y3; clear y3 t3 n3 hb3))
    have y3 := HY3.out
    have hbF := HB3.out
    have xs := (((((y3.set 0 (.string r.qu)).set 1 (.int .u64 r.id)).set 2 (.int .u32 r.tries)).set 3 (.int .u64 r.expiry)).set 4 (.string r.body))
    exact bodyPost_ret_by (rrDu rfl rfl xs) rfl ⟨rfl, (((((hbF.setCell (p := ⟨w.heap.size + 1, 0, none⟩) (by simp) (.string r.qu)).setCell (p := ⟨w.heap.size + 1, 1, none⟩) (by simp) (.int .u64 r.id)).setCell (p := ⟨w.heap.size + 1, 2, none⟩) (by simp) (.int .u32 r.tries)).setCell (p := ⟨w.heap.size + 1, 3, none⟩) (by simp) (.int .u64 r.expiry)).setCell (p := ⟨w.heap.size + 1, 4, none⟩) (by simp) (.string r.body))⟩
end Go.Proofs.YtgmneapgihakgaaGreatDoor
