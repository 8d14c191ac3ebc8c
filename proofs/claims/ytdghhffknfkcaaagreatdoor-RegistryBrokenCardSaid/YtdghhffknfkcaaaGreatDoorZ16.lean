/- Texts of one seat, merged. -/
import Derived.Test.YtdghhffknfkcaaaGreatDoorZ15
import Derived.Test.YtdghhffknfkcaaaGreatDoorZ12
set_option maxRecDepth 100000
set_option maxHeartbeats 4000000
set_option linter.unusedVariables false
/- The contract of Key. -/
namespace Go.Proofs.YtdghhffknfkcaaaGreatDoor
open Go.RowKit
/-- What Key answers: the bytes, or that they are too many. -/
def keyOut (l : List Ord.P) : Value := if (Ord.key l).length ≤ 255 then .tuple #[.string (str (Ord.key l)), .int .i64 0] else .tuple #[.string ⟨#[]⟩, .int .i64 5]
theorem keyOut_ok (l : List Ord.P) (h : (Ord.key l).length ≤ 255) : keyOut l = .tuple #[.string (str (Ord.key l)), .int .i64 0] := by unfold keyOut; rw [if_pos h]
theorem keyOut_long (l : List Ord.P) (h : ¬ (Ord.key l).length ≤ 255) : keyOut l = .tuple #[.string ⟨#[]⟩, .int .i64 5] := by unfold keyOut; rw [if_neg h]
theorem key_take_le (l : List Ord.P) (k : Nat) : (Ord.key (l.take k)).length ≤ (Ord.key l).length := by
  have := Ord.key_append (l.take k) (l.drop k)
  rw [List.take_append_drop] at this
  rw [this, List.length_append]; omega
theorem key_snoc (l : List Ord.P) (k : Nat) (p : Ord.P) (h : l[k]? = some p) : Ord.key (l.take (k + 1)) = Ord.key (l.take k) ++ Ord.pb p := by
  obtain ⟨hk, he⟩ := List.getElem?_eq_some_iff.1 h
  rw [List.take_succ_eq_append_getElem hk, Ord.key_append, he, Ord.key_cons]
  simp [Ord.key]
theorem pb_length_text (p : Ord.P) (h : p.t = true) : p.s.length ≤ (Ord.pb p).length := by
  have := Ord.esc_length_le p.s
  unfold Ord.pb
  rw [if_pos h]
  simp; omega
theorem pb_length_le (p : Ord.P) (h : p.s.length ≤ 400) : (Ord.pb p).length ≤ 803 := by
  have := Ord.esc_length_ge p.s
  unfold Ord.pb
  split
  · simp; omega
  · simp [Oc.big_length]
set_option maxHeartbeats 2000000 in
set_option maxRecDepth 100000 in
theorem key_any (v : Value) (l : List Ord.P) (hll : l.length ≤ 1000) (m : Int) (w : World) (hv : Sl w v l) (hl : ∀ p ∈ l, p.n < 18446744073709551616 ∧ p.s.length ≤ 400) (hm : w.cell? ⟨0, 0, none⟩ = some (.int .i64 m)) :
    Calls Tryz.prog 51 #[v] w fun e w' => e = .returned (keyOut l) ∧ Below w.heap.size w w' := by
  have h0 := World.block_lt_of_cell? _ _ hm
  have HV := Lib.hid hv
  have HL := Lib.hid hl
  have HM := Lib.hid hm
  have H0 := Lib.hid h0
  clear hl hm h0
  obtain ⟨a, b, o, c, rfl, ha, hx⟩ := hv
  have HX := Lib.hid hx
  have HA := Lib.hid ha
  clear ha hx
  go_enter Tryz.func51, Tryz.ntmps51
  go_wp2
  go_loopg [4, 9] l.length (fun g s i wr => ∃ k : Nat, k ≤ l.length ∧ g = l.length - k ∧ i = .int .i64 k ∧ s = .string (str (Ord.key (l.take k))) ∧ Hid ((Ord.key (l.take k)).length ≤ 1100) ∧ Hid (Below w.heap.size w wr))
  case atStart => exact ⟨0, Nat.zero_le _, rfl, rfl, rfl, Nat.zero_le _, Below.refl _ _⟩
  case round =>
    obtain ⟨k, hk, rfl, rfl, rfl, HK, HB⟩ := hrel
    have hsz : (str (Ord.key (l.take k))).size = (Ord.key (l.take k)).length := rfl
    have HT := Lib.hid (key_take_le l k)
    by_cases hlt : k < l.length
    · obtain ⟨p, hp⟩ : ∃ p, l[k]? = some p := ⟨_, List.getElem?_eq_getElem hlt⟩
      have HS := Lib.hid (key_snoc l k p hp)
      have HT2 := Lib.hid (key_take_le l (k + 1))
      obtain ⟨hpn, hps⟩ := HL.out p (List.mem_of_getElem? hp)
      obtain ⟨e0, e1, e2⟩ := HX.out k p hp
      have hblt : b < w.heap.size := World.block_lt_of_cell? _ _ e0
      have d0 := (HB.out.cell (p := ⟨b, o + k * 3, none⟩) hblt).trans e0
      have d1 := (HB.out.cell (p := ⟨b, o + k * 3 + 1, none⟩) hblt).trans e1
      have d2 := (HB.out.cell (p := ⟨b, o + k * 3 + 2, none⟩) hblt).trans e2
      obtain rfl : a = some ⟨b, o, none⟩ := by
        rcases HA.out with h | h
        · rw [h] at hlt; cases hlt
        · exact h
      have HPT := Lib.hid (pb_length_text p)
      have HPL := Lib.hid (pb_length_le p hps)
      have HBY := Lib.hid (fun W (hW : Below w.heap.size w W) => bytes_any p hpn hps m W ((hW.cell (p := ⟨0, 0, none⟩) H0.out).trans HM.out))
      clear e0 e1 e2 hp
      revert HS HT2 hsz HK HT
      generalize Ord.key (l.take k) = K
      generalize hK1 : Ord.key (l.take (k + 1)) = K1
      intro HK hsz HT HS HT2
      have HK1 := Lib.hid hK1
      clear hK1
      have hkl := HK.out
      by_cases h255 : (K.length : Int) > 255
      · have hlong : ¬ (Ord.key l).length ≤ 255 := by have := HT.out; omega
        have HO := Lib.hid (keyOut_long l hlong)
        go_wp2
        go_ret2
        rw [HO.out]
        exact ⟨rfl, HB.out.alloc HB.out.size _⟩
      · have hpl : (str (Ord.pb p)).size ≤ 803 := by rw [str_size]; exact HPL.out
        have HJ : Hid (str K ++ str (Ord.pb p) = str K1) := by
          show str K ++ str (Ord.pb p) = str K1
          rw [str_append, ← HS.out]
        have HK1L : Hid (K1.length ≤ 1100) := by
          show K1.length ≤ 1100
          rw [HS.out, List.length_append]
          have := HPL.out
          omega
        obtain ⟨t, n, s⟩ := p
        simp only at d0 d1 d2 hpn hps HPT
        cases t
        · go_wp2_with (go_at_call 102; refine (HBY.out _ (HB.out.alloc HB.out.size _)).mono ?_; rintro e w1 ⟨rfl, hb1⟩)
          go_roundg (l.length - (k + 1))
          case measure => omega
          case rel => exact ⟨k + 1, by omega, rfl, by go_num, by rw [HJ.out, HK1.out], by rw [HK1.out]; exact HK1L, below_step (HB.out.alloc HB.out.size _) hb1⟩
        · have hss : (str s).size = s.length := rfl
          by_cases hs255 : (s.length : Int) > 255
          · have hlong : ¬ (Ord.key l).length ≤ 255 := by
              have h1 := HT2.out
              have h2 := HPT.out rfl
              have h3 := HS.out
              rw [h3, List.length_append] at h1
              omega
            have HO := Lib.hid (keyOut_long l hlong)
            go_wp2
            go_ret2
            rw [HO.out]
            exact ⟨rfl, HB.out.alloc HB.out.size _⟩
          · go_wp2_with (go_at_call 102; refine (HBY.out _ (HB.out.alloc HB.out.size _)).mono ?_; rintro e w1 ⟨rfl, hb1⟩)
            go_roundg (l.length - (k + 1))
            case measure => omega
            case rel => exact ⟨k + 1, by omega, rfl, by go_num, by rw [HJ.out, HK1.out], by rw [HK1.out]; exact HK1L, below_step (HB.out.alloc HB.out.size _) hb1⟩
    · obtain rfl : k = l.length := by omega
      rw [List.take_length] at *
      by_cases h255 : ((Ord.key l).length : Int) > 255
      · have HO := Lib.hid (keyOut_long l (by omega))
        go_wp2
        go_ret2
        rw [HO.out]
        exact ⟨rfl, HB.out⟩
      · have HO := Lib.hid (keyOut_ok l (by omega))
        go_wp2
        go_ret2
        rw [HO.out]
        exact ⟨rfl, HB.out⟩
end Go.Proofs.YtdghhffknfkcaaaGreatDoor
/- The keys of queues and counters, of any name. -/
namespace Go.Proofs.YtdghhffknfkcaaaGreatDoor
open Go.RowKit Go.Sort Go.Maps
def kS (l : List Ord.P) : List UInt8 := if (Ord.key l).length ≤ 255 then Ord.key l else []
def kE (l : List Ord.P) : Int := if (Ord.key l).length ≤ 255 then 0 else 5
theorem keyOut_eq (l : List Ord.P) : keyOut l = .tuple #[.string (str (kS l)), .int .i64 (kE l)] := by
  unfold keyOut kS kE
  split <;> rfl
def pS (s : List UInt8) : Ord.P := ⟨true, 0, s⟩
theorem Sl.two' (w : World) (p q : Ord.P) (T : TypeId) : Sl (w.alloc (.cells #[.bool p.t, .int .u64 p.n, .string (str p.s), .bool q.t, .int .u64 q.n, .string (str q.s)] T)) (.slice (some ⟨w.heap.size, 0, none⟩) 2 2) [p, q] := by
  refine ⟨_, w.heap.size, 0, 2, rfl, .inr rfl, fun j r hj => ?_⟩
  match j, hj with
  | 0, hj => simp at hj; subst hj; refine ⟨?_, ?_, ?_⟩ <;> simp
  | 1, hj => simp at hj; subst hj; refine ⟨?_, ?_, ?_⟩ <;> simp
  | (j + 2), hj => simp at hj
theorem keyTwo (a b : List UInt8) (ha : a.length ≤ 400) (hb : b.length ≤ 400) (m : Int) (W : World) (hm : W.cell? ⟨0, 0, none⟩ = some (.int .i64 m)) (T : TypeId) :
    Calls Tryz.prog 51 #[.slice (some ⟨W.heap.size, 0, none⟩) 2 2] (W.alloc (.cells #[.bool true, .int .u64 0, .string (str a), .bool true, .int .u64 0, .string (str b)] T)) fun e w' => e = .returned (.tuple #[.string (str (kS [pS a, pS b])), .int .i64 (kE [pS a, pS b])]) ∧ Below W.heap.size W w' := by
  have h0 := World.block_lt_of_cell? _ _ hm
  have h1 := key_any _ [pS a, pS b] (by simp) m _ (Sl.two' W (pS a) (pS b) T) (by intro p hp; simp at hp; rcases hp with rfl | rfl; exact ⟨by simp [pS], ha⟩; exact ⟨by simp [pS], hb⟩) (((Below.refl _ _).alloc (Nat.le_refl _) _ |>.cell (p := ⟨0, 0, none⟩) h0).trans hm)
  rw [keyOut_eq] at h1
  exact h1.mono fun e w' h => ⟨h.1, below_step ((Below.refl _ _).alloc (Nat.le_refl _) _) h.2⟩
theorem skeyQ_any (nm : List UInt8) (hn : nm.length ≤ 400) (m : Int) (w : World) (hm : w.cell? ⟨0, 0, none⟩ = some (.int .i64 m)) :
    Calls Tryz.prog 16 #[.string (str nm)] w fun e w' => e = .returned (.tuple #[.string (str (kS [pS [113], pS nm])), .int .i64 (kE [pS [113], pS nm])]) ∧ Below w.heap.size w w' := by
  have h0 := World.block_lt_of_cell? _ _ hm
  have HM : Hid (∀ W, Below w.heap.size w W → W.cell? ⟨0, 0, none⟩ = some (.int .i64 m)) := fun W hW => (hW.cell (p := ⟨0, 0, none⟩) h0).trans hm
  have HN := Lib.hid hn
  have hs1 := fun W => strP_any [113] W
  have hs2 := fun W => strP_any nm W
  unfold aggP at hs1 hs2
  have H1 : Hid (∀ W, Calls Tryz.prog 52 #[.string ⟨#[113]⟩] W fun e w' => e = .returned (.agg #[.bool true, .int .u64 0, .string ⟨#[113]⟩]) ∧ Below W.heap.size W w') := hs1
  have H2 : Hid (∀ W, Calls Tryz.prog 52 #[.string (str nm)] W fun e w' => e = .returned (.agg #[.bool true, .int .u64 0, .string (str nm)]) ∧ Below W.heap.size W w') := hs2
  have HK : Hid (∀ W T, W.cell? ⟨0, 0, none⟩ = some (.int .i64 m) → Calls Tryz.prog 51 #[.slice (some ⟨W.heap.size, 0, none⟩) 2 2] (W.alloc (.cells #[.bool true, .int .u64 0, .string ⟨#[113]⟩, .bool true, .int .u64 0, .string (str nm)] T)) fun e w' => e = .returned (.tuple #[.string (str (kS [pS [113], pS nm])), .int .i64 (kE [pS [113], pS nm])]) ∧ Below W.heap.size W w') := fun W T h => keyTwo [113] nm (by decide) hn m W h T
  clear hs1 hs2 hm h0 hn
  go_enter Tryz.func16, Tryz.ntmps16
  go_wp2_with (first
    | (go_at_call 51; refine (HK.out _ _ (HM.out _ (below_step hb1 hb2))).mono ?_; rintro e w3 ⟨rfl, hb3⟩)
    | (go_at_call 52; have tok := hb1; refine (H2.out _).mono ?_; rintro e w2 ⟨rfl, hb2⟩)
    | (go_at_call 52; refine (H1.out _).mono ?_; rintro e w1 ⟨rfl, hb1⟩))
  go_ret2
  exact ⟨rfl, below_step (below_step hb1 hb2) hb3⟩
theorem skeyC_any (nm : List UInt8) (hn : nm.length ≤ 400) (m : Int) (w : World) (hm : w.cell? ⟨0, 0, none⟩ = some (.int .i64 m)) :
    Calls Tryz.prog 17 #[.string (str nm)] w fun e w' => e = .returned (.tuple #[.string (str (kS [pS [99], pS nm])), .int .i64 (kE [pS [99], pS nm])]) ∧ Below w.heap.size w w' := by
  have h0 := World.block_lt_of_cell? _ _ hm
  have HM : Hid (∀ W, Below w.heap.size w W → W.cell? ⟨0, 0, none⟩ = some (.int .i64 m)) := fun W hW => (hW.cell (p := ⟨0, 0, none⟩) h0).trans hm
  have HN := Lib.hid hn
  have hs1 := fun W => strP_any [99] W
  have hs2 := fun W => strP_any nm W
  unfold aggP at hs1 hs2
  have H1 : Hid (∀ W, Calls Tryz.prog 52 #[.string ⟨#[99]⟩] W fun e w' => e = .returned (.agg #[.bool true, .int .u64 0, .string ⟨#[99]⟩]) ∧ Below W.heap.size W w') := hs1
  have H2 : Hid (∀ W, Calls Tryz.prog 52 #[.string (str nm)] W fun e w' => e = .returned (.agg #[.bool true, .int .u64 0, .string (str nm)]) ∧ Below W.heap.size W w') := hs2
  have HK : Hid (∀ W T, W.cell? ⟨0, 0, none⟩ = some (.int .i64 m) → Calls Tryz.prog 51 #[.slice (some ⟨W.heap.size, 0, none⟩) 2 2] (W.alloc (.cells #[.bool true, .int .u64 0, .string ⟨#[99]⟩, .bool true, .int .u64 0, .string (str nm)] T)) fun e w' => e = .returned (.tuple #[.string (str (kS [pS [99], pS nm])), .int .i64 (kE [pS [99], pS nm])]) ∧ Below W.heap.size W w') := fun W T h => keyTwo [99] nm (by decide) hn m W h T
  clear hs1 hs2 hm h0 hn
  go_enter Tryz.func17, Tryz.ntmps17
  go_wp2_with (first
    | (go_at_call 51; refine (HK.out _ _ (HM.out _ (below_step hb1 hb2))).mono ?_; rintro e w3 ⟨rfl, hb3⟩)
    | (go_at_call 52; have tok := hb1; refine (H2.out _).mono ?_; rintro e w2 ⟨rfl, hb2⟩)
    | (go_at_call 52; refine (H1.out _).mono ?_; rintro e w1 ⟨rfl, hb1⟩))
  go_ret2
  exact ⟨rfl, below_step (below_step hb1 hb2) hb3⟩
end Go.Proofs.YtdghhffknfkcaaaGreatDoor
/- find and Find of a queue, over a shelf. -/
namespace Go.Proofs.YtdghhffknfkcaaaGreatDoor
open Go.RowKit Go.Sort Go.Maps
def zQ0 : Qu := ⟨⟨#[]⟩, 0, 0, 0, ⟨#[]⟩⟩
def fRes (th : Bool) (q : Qu) (re : Int) : Qu × Bool × Int := if th = false then (zQ0, false, 0) else if re ≠ 0 then (zQ0, false, re) else (q, true, 0)
theorem tgOut_res (th : Bool) (q : Qu) (re : Int) : tgOut (.agg #[.string ⟨#[]⟩, .int .u32 0, .int .u64 0, .int .u32 0, .string ⟨#[]⟩]) (aggQ q) th 0 re = .tuple #[aggQ (fRes th q re).1, .bool (fRes th q re).2.1, .int .i64 (fRes th q re).2.2] := by
  unfold tgOut fRes
  cases th
  · rfl
  · by_cases h : re = 0
    · subst h; rfl
    · simp [h]; rfl
def kQ (nm : Txt) : Txt := Ord.key [pS [113], pS nm]
/-- What find answers. -/
def findOut (ks : List Txt) (f : Txt → Txt) (nm : Txt) : Qu × Bool × Int := if (kQ nm).length ≤ 255 then fRes (decide (kQ nm ∈ ks)) (readG zQ (getQ (str nm)) (str (shV ks f (kQ nm)))).1 (readG zQ (getQ (str nm)) (str (shV ks f (kQ nm)))).2 else (zQ0, false, 0)
theorem rrFi {w : World} {g : Nat} {x0 x1 x2 x3 x4 : Value} {b : Bool} {e : Int} {tmps : Array Value} (ht : tmps[4]? = some (.pointer (some ⟨g, 0, none⟩))) (h7 : tmps[5]? = some (.bool b)) (h8 : tmps[6]? = some (.int .i64 e)) (hx : BoxL w g 36 #[x0, x1, x2, x3, x4]) :
    (results Tryz.f35 tmps).run Tryz.prog w = .ok (.tuple #[.agg #[x0, x1, x2, x3, x4], .bool b, .int .i64 e]) w := by
  have h0 := hx.cell (i := 0) rfl
  have h1 := hx.cell (i := 1) rfl
  have h2 := hx.cell (i := 2) rfl
  have h3 := hx.cell (i := 3) rfl
  have h4 := hx.cell (i := 4) rfl
  simp [results, Tryz.results35, go_sem, ht, h7, h8, h0, h1, h2, h3, h4]
theorem rrFI {w : World} {g : Nat} {x0 x1 x2 x3 x4 : Value} {e : Int} {tmps : Array Value} (ht : tmps[4]? = some (.pointer (some ⟨g, 0, none⟩))) (h8 : tmps[5]? = some (.int .i64 e)) (hx : BoxL w g 36 #[x0, x1, x2, x3, x4]) :
    (results Tryz.f11 tmps).run Tryz.prog w = .ok (.tuple #[.agg #[x0, x1, x2, x3, x4], .int .i64 e]) w := by
  have h0 := hx.cell (i := 0) rfl
  have h1 := hx.cell (i := 1) rfl
  have h2 := hx.cell (i := 2) rfl
  have h3 := hx.cell (i := 3) rfl
  have h4 := hx.cell (i := 4) rfl
  simp [results, Tryz.results11, go_sem, ht, h8, h0, h1, h2, h3, h4]
set_option maxHeartbeats 4000000 in
theorem find_any {N : Nat} {M : Nat → Prop} {w : World} {p : Nat} {ks : List Txt} {f : Txt → Txt} (h : ShW N M w p ks f) (nm : Txt) (hn : nm.length ≤ 400) (m : Int) (hm : w.cell? ⟨0, 0, none⟩ = some (.int .i64 m)) :
    Calls Tryz.prog 35 #[.iface 25 (.pointer (some ⟨p, 0, none⟩)), .string (str nm)] w fun e w' => e = .returned (.tuple #[aggQ (findOut ks f nm).1, .bool (findOut ks f nm).2.1, .int .i64 (findOut ks f nm).2.2]) ∧ Below w.heap.size w w' := by
  have h00 := World.block_lt_of_cell? _ _ hm
  have hmf : ∀ (fn : Fn) (first cap : Array Value) (w : World), (Instr.makeFunc fn first cap).run Tryz.prog w = .ok (.func fn first cap) w := fun _ _ _ _ => rfl
  have bA : Below w.heap.size w (w.alloc (.cells #[.string ⟨#[]⟩, .int .u32 0, .int .u64 0, .int .u32 0, .string ⟨#[]⟩] 36)) := (Below.refl _ _).alloc (Nat.le_refl _) _
  have HX := Lib.hid (BoxL.new w #[.string ⟨#[]⟩, .int .u32 0, .int .u64 0, .int .u32 0, .string ⟨#[]⟩] 36)
  have HK := Lib.hid (skeyQ_any nm hn m (w.alloc (.cells #[.string ⟨#[]⟩, .int .u32 0, .int .u64 0, .int .u32 0, .string ⟨#[]⟩] 36)) ((bA.cell (p := ⟨0, 0, none⟩) h00).trans hm))
  have HA := Lib.hid bA
  have HQ := Lib.hid (fun W => queues_any (str nm) W)
  clear bA hm h00
  unfold findOut
  by_cases hk : (kQ nm).length ≤ 255
  · rw [if_pos hk]
    have e1 : kS [pS [113], pS nm] = kQ nm := if_pos hk
    have e2 : kE [pS [113], pS nm] = 0 := if_pos hk
    rw [e1, e2] at HK
    have HT : Hid (∀ W cd, Below w.heap.size w W → CdQ W cd (str nm) → Calls Tryz.prog 76 #[.iface 25 (.pointer (some ⟨p, 0, none⟩)), .string (str (kQ nm)), .func (.func 77) #[cd] #[]] W fun e W' => e = .returned (tgOut (.agg #[.string ⟨#[]⟩, .int .u32 0, .int .u64 0, .int .u32 0, .string ⟨#[]⟩]) (aggQ (readG zQ (getQ (str nm)) (str (shV ks f (kQ nm)))).1) (decide (kQ nm ∈ ks)) 0 (readG zQ (getQ (str nm)) (str (shV ks f (kQ nm)))).2) ∧ Below W.heap.size W W') := fun W cd hb hc =>
      thingQ_any _ (kQ nm) (shV ks f (kQ nm)) _ 0 cd _ _ W (fun W' hb' => askGet_any (h.below (below_step hb hb')) (kQ nm) (by unfold maxLen; omega)) (fun W' hb' => (hc.below hb').read _) (.inl rfl)
    clear e1 e2 h
    generalize hr : readG zQ (getQ (str nm)) (str (shV ks f (kQ nm))) = rr at HT ⊢
    clear hr
    rw [tgOut_res] at HT
    generalize fRes (decide (kQ nm ∈ ks)) rr.1 rr.2 = r at HT ⊢
    obtain ⟨q, b, e⟩ := r
    unfold aggQ at HT ⊢
    simp only at HT ⊢
    go_enter Tryz.func35, Tryz.ntmps35
    go_wp2_with (first
      | (go_at_call 16; refine HK.out.mono ?_; rintro e1 w1 ⟨rfl, hb1⟩)
      | (go_at_call 49; refine (HQ.out _).mono ?_; rintro e2 w2 ⟨cd, rfl, hcd, hb2⟩)
      | (go_at_call 76; refine (HT.out _ _ (below_step HA.out (below_step hb1 hb2)) hcd).mono ?_; rintro e3 w3 ⟨rfl, hb3⟩; have x1 := ((HX.out.below hb1 HX.out.lt).below hb2 (HX.out.below hb1 HX.out.lt).lt).below hb3 ((HX.out.below hb1 HX.out.lt).below hb2 (HX.out.below hb1 HX.out.lt).lt).lt; have f1 := x1.frozen; have q0 := x1.cell (i := 0) rfl; have q1 := x1.cell (i := 1) rfl; have q2 := x1.cell (i := 2) rfl; have q3 := x1.cell (i := 3) rfl; have q4 := x1.cell (i := 4) rfl))
    have xs := (((((x1.set 0 (.string q.nm)).set 1 (.int .u32 q.most)).set 2 (.int .u64 q.ttl)).set 3 (.int .u32 q.tries)).set 4 (.string q.dead))
    exact bodyPost_ret_by (rrFi rfl rfl rfl xs) rfl ⟨rfl, below_sets (below_step HA.out (below_step (below_step hb1 hb2) hb3)) (Nat.le_refl _)⟩
  · rw [if_neg hk]
    have e1 : kS [pS [113], pS nm] = [] := if_neg hk
    have e2 : kE [pS [113], pS nm] = 5 := if_neg hk
    rw [e1, e2] at HK
    clear e1 e2 h hk
    go_enter Tryz.func35, Tryz.ntmps35
    go_wp2_with (go_at_call 16; refine HK.out.mono ?_; rintro e1 w1 ⟨rfl, hb1⟩; have x1 := HX.out.below hb1 HX.out.lt; have f1 := x1.frozen; have q0 := x1.cell (i := 0) rfl; have q1 := x1.cell (i := 1) rfl; have q2 := x1.cell (i := 2) rfl; have q3 := x1.cell (i := 3) rfl; have q4 := x1.cell (i := 4) rfl)
    have xs := (((((x1.set 0 (.string ⟨#[]⟩)).set 1 (.int .u32 0)).set 2 (.int .u64 0)).set 3 (.int .u32 0)).set 4 (.string ⟨#[]⟩))
    exact bodyPost_ret_by (rrFi rfl rfl rfl xs) rfl ⟨rfl, below_sets (below_step HA.out hb1) (Nat.le_refl _)⟩
/-- What Find tells: with what find answers, none where it isn't there. -/
def fiE (b : Bool) (e : Int) : Int := if e = 0 ∧ b = false then 21 else e
set_option maxHeartbeats 4000000 in
theorem Find_any {N : Nat} {M : Nat → Prop} {w : World} {p : Nat} {ks : List Txt} {f : Txt → Txt} (h : ShW N M w p ks f) (nm : Txt) (hn : nm.length ≤ 400) (m : Int) (hm : w.cell? ⟨0, 0, none⟩ = some (.int .i64 m)) :
    Calls Tryz.prog 11 #[.iface 25 (.pointer (some ⟨p, 0, none⟩)), .string (str nm)] w fun e w' => e = .returned (.tuple #[aggQ (findOut ks f nm).1, .int .i64 (fiE (findOut ks f nm).2.1 (findOut ks f nm).2.2)]) ∧ Below w.heap.size w w' := by
  have h00 := World.block_lt_of_cell? _ _ hm
  have bA : Below w.heap.size w (w.alloc (.cells #[.string ⟨#[]⟩, .int .u32 0, .int .u64 0, .int .u32 0, .string ⟨#[]⟩] 36)) := (Below.refl _ _).alloc (Nat.le_refl _) _
  have HX := Lib.hid (BoxL.new w #[.string ⟨#[]⟩, .int .u32 0, .int .u64 0, .int .u32 0, .string ⟨#[]⟩] 36)
  have HF := Lib.hid (find_any (h.below bA) nm hn m ((bA.cell (p := ⟨0, 0, none⟩) h00).trans hm))
  have HA := Lib.hid bA
  clear bA hm h00 h
  revert HF
  generalize findOut ks f nm = r
  intro HF
  obtain ⟨q, b, e⟩ := r
  unfold aggQ at HF ⊢
  simp only at HF ⊢
  have fin : ∀ e' w1, Below (w.alloc (.cells #[.string ⟨#[]⟩, .int .u32 0, .int .u64 0, .int .u32 0, .string ⟨#[]⟩] 36)).heap.size (w.alloc (.cells #[.string ⟨#[]⟩, .int .u32 0, .int .u64 0, .int .u32 0, .string ⟨#[]⟩] 36)) w1 → Hid (BoxL (w1.alloc (.cells #[.string q.nm, .int .u32 q.most, .int .u64 q.ttl, .int .u32 q.tries, .string q.dead] 36)) w.heap.size 36 #[.string ⟨#[]⟩, .int .u32 0, .int .u64 0, .int .u32 0, .string ⟨#[]⟩] ∧ Below w.heap.size w (w1.alloc (.cells #[.string q.nm, .int .u32 q.most, .int .u64 q.ttl, .int .u32 q.tries, .string q.dead] 36)) ∧ fiE b e = e') → fiE b e = e' := fun _ _ _ h => h.out.2.2
  clear fin
  by_cases he : e = 0
  · subst he
    cases b
    all_goals
      go_enter Tryz.func11, Tryz.ntmps11
      go_wp2_with (go_at_call 35; refine HF.out.mono ?_; rintro e1 w1 ⟨rfl, hb1⟩; have x0 := HX.out.below hb1 HX.out.lt; have x1 := x0.alloc (.cells #[.string q.nm, .int .u32 q.most, .int .u64 q.ttl, .int .u32 q.tries, .string q.dead] 36); have f1 := x1.frozen; have q0 := x1.cell (i := 0) rfl; have q1 := x1.cell (i := 1) rfl; have q2 := x1.cell (i := 2) rfl; have q3 := x1.cell (i := 3) rfl; have q4 := x1.cell (i := 4) rfl)
      have xs := (((((x1.set 0 (.string q.nm)).set 1 (.int .u32 q.most)).set 2 (.int .u64 q.ttl)).set 3 (.int .u32 q.tries)).set 4 (.string q.dead))
      exact bodyPost_ret_by (rrFI rfl rfl xs) rfl ⟨rfl, below_sets ((below_step HA.out hb1).trans (((Below.refl _ _).alloc (Nat.le_refl _) _).mono (below_step HA.out hb1).size)) (Nat.le_refl _)⟩
  · have hb : (e != 0) = true := by simpa using he
    have hb' : (e == 0) = false := by simpa using he
    have e2 : fiE b e = e := by unfold fiE; rw [if_neg (fun h => he h.1)]
    rw [e2]
    clear he e2
    go_enter Tryz.func11, Tryz.ntmps11
    go_wp2_with (go_at_call 35; refine HF.out.mono ?_; rintro e1 w1 ⟨rfl, hb1⟩; have x0 := HX.out.below hb1 HX.out.lt; have x1 := x0.alloc (.cells #[.string q.nm, .int .u32 q.most, .int .u64 q.ttl, .int .u32 q.tries, .string q.dead] 36); have f1 := x1.frozen; have q0 := x1.cell (i := 0) rfl; have q1 := x1.cell (i := 1) rfl; have q2 := x1.cell (i := 2) rfl; have q3 := x1.cell (i := 3) rfl; have q4 := x1.cell (i := 4) rfl)
    have xs := (((((x1.set 0 (.string q.nm)).set 1 (.int .u32 q.most)).set 2 (.int .u64 q.ttl)).set 3 (.int .u32 q.tries)).set 4 (.string q.dead))
    exact bodyPost_ret_by (rrFI rfl rfl xs) rfl ⟨rfl, below_sets ((below_step HA.out hb1).trans (((Below.refl _ _).alloc (Nat.le_refl _) _).mono (below_step HA.out hb1).size)) (Nat.le_refl _)⟩
end Go.Proofs.YtdghhffknfkcaaaGreatDoor
/- Next: a counter's next number, over a shelf. -/
namespace Go.Proofs.YtdghhffknfkcaaaGreatDoor
open Go.RowKit Go.Sort Go.Maps
def kC (nm : Txt) : Txt := Ord.key [pS [99], pS nm]
def uRes (th : Bool) (n : Nat) (re : Int) : Nat × Bool × Int := if th = false then (0, false, 0) else if re ≠ 0 then (0, false, re) else (n, true, 0)
theorem tgOut_resU (th : Bool) (n : Nat) (re : Int) : tgOut (.int .u64 0) (.int .u64 n) th 0 re = .tuple #[.int .u64 (uRes th n re).1, .bool (uRes th n re).2.1, .int .i64 (uRes th n re).2.2] := by
  unfold tgOut uRes
  cases th
  · rfl
  · by_cases h : re = 0
    · subst h; rfl
    · simp [h]
/-- What stands under a counter's key. -/
def cntOut (ks : List Txt) (f : Txt → Txt) (nm : Txt) : Nat × Bool × Int := uRes (decide (kC nm ∈ ks)) (readG 0 getU (str (shV ks f (kC nm)))).1 (readG 0 getU (str (shV ks f (kC nm)))).2
theorem big8_len (n : Nat) : (1 :: Oc.big 8 n).length ≤ 65536 := by rw [List.length_cons, Oc.big_length]; decide
set_option maxHeartbeats 4000000 in
theorem next_long {w : World} (sv : Value) (nm : Txt) (hn : nm.length ≤ 400) (m : Int) (hm : w.cell? ⟨0, 0, none⟩ = some (.int .i64 m)) (hk : ¬ (kC nm).length ≤ 255) :
    Calls Tryz.prog 18 #[sv, .string (str nm)] w fun e w' => e = .returned (.tuple #[.int .u64 0, .int .i64 5]) ∧ Below w.heap.size w w' := by
  have HK := Lib.hid (skeyC_any nm hn m w hm)
  have e1 : kS [pS [99], pS nm] = [] := if_neg hk
  have e2 : kE [pS [99], pS nm] = 5 := if_neg hk
  rw [e1, e2] at HK
  clear e1 e2 hm hk
  go_enter Tryz.func18, Tryz.ntmps18
  go_wp2_with (go_at_call 17; refine HK.out.mono ?_; rintro e w1 ⟨rfl, hb1⟩)
  go_ret2
  exact ⟨rfl, hb1⟩
set_option maxHeartbeats 4000000 in
theorem next_any {N : Nat} {M : Nat → Prop} {w : World} {p : Nat} {ks : List Txt} {f : Txt → Txt} (h : ShW N M w p ks f) (hN : N ≤ 80000) (nm : Txt) (hn : nm.length ≤ 400) (m : Int) (hm : w.cell? ⟨0, 0, none⟩ = some (.int .i64 m)) (hk : (kC nm).length ≤ 255) (hlt : (cntOut ks f nm).1 < 18446744073709551616) :
    Calls Tryz.prog 18 #[.iface 25 (.pointer (some ⟨p, 0, none⟩)), .string (str nm)] w fun e w' =>
      (((cntOut ks f nm).2.2 ≠ 0 ∧ e = .returned (.tuple #[.int .u64 0, .int .i64 (cntOut ks f nm).2.2]) ∧ Below w.heap.size w w')
      ∨ ((cntOut ks f nm).2.2 = 0 ∧ (cntOut ks f nm).1 = 18446744073709551615 ∧ e = .returned (.tuple #[.int .u64 0, .int .i64 8]) ∧ Below w.heap.size w w')
      ∨ ((cntOut ks f nm).2.2 = 0 ∧ (cntOut ks f nm).1 < 18446744073709551615 ∧ e = .returned (.tuple #[.int .u64 ((cntOut ks f nm).1 + 1 : Nat), .int .i64 0]) ∧ ∃ M' ks', addS ks (kC nm) ks' ∧ ShW (N + 1) M' w' p ks' (putF f (kC nm) (1 :: Oc.big 8 ((cntOut ks f nm).1 + 1))) ∧ Went M M' w w')) := by
  have hmf : ∀ (fn : Fn) (first cap : Array Value) (w : World), (Instr.makeFunc fn first cap).run Tryz.prog w = .ok (.func fn first cap) w := fun _ _ _ _ => rfl
  have HK := Lib.hid (skeyC_any nm hn m w hm)
  have e1 : kS [pS [99], pS nm] = kC nm := if_pos hk
  have e2 : kE [pS [99], pS nm] = 0 := if_pos hk
  rw [e1, e2] at HK
  have HU := Lib.hid (fun W => counters_any W)
  have HKL := Lib.hid hk
  have HT : Hid (∀ W cd, Below w.heap.size w W → CdU W cd → Calls Tryz.prog 53 #[.iface 25 (.pointer (some ⟨p, 0, none⟩)), .string (str (kC nm)), .func (.func 55) #[cd] #[]] W fun e W' => e = .returned (.tuple #[.int .u64 (cntOut ks f nm).1, .bool (cntOut ks f nm).2.1, .int .i64 (cntOut ks f nm).2.2]) ∧ Below W.heap.size W W') := fun W cd hb hc => by
    unfold cntOut
    rw [← tgOut_resU]
    exact thingU_any _ (kC nm) (shV ks f (kC nm)) _ 0 cd _ _ W (askGet_any (h.below hb) (kC nm) (by unfold maxLen; omega)) (fun W' hb' => VerU.read (hc.below hb') _) (.inl rfl)
  have HP : Hid (∀ W x, Below w.heap.size w W → x.length ≤ 65536 → Calls Tryz.prog 41 #[.iface 25 (.pointer (some ⟨p, 0, none⟩)), .string (str (kC nm)), .string (str x)] W fun e w' => e = .returned (.int .i64 0) ∧ ∃ M' ks', addS ks (kC nm) ks' ∧ ShW (N + 1) M' w' p ks' (putF f (kC nm) x) ∧ Went M M' w w') := fun W x hb hx =>
    (askPut_any (h.below hb) hN (kC nm) x hk hx).mono (fun e w' ⟨h1, M', ks', h2, h3, h4⟩ => ⟨h1, M', ks', h2, h3, h4.pre hb⟩)
  clear e1 e2 hm hk h
  revert HT hlt
  generalize cntOut ks f nm = r
  intro hlt HT
  obtain ⟨c, b, e⟩ := r
  simp only at HT hlt ⊢
  by_cases he : e = 0
  · subst he
    by_cases hc : c = 18446744073709551615
    · subst hc
      go_enter Tryz.func18, Tryz.ntmps18
      go_wp2_with (first
        | (go_at_call 17; refine HK.out.mono ?_; rintro e1 w1 ⟨rfl, hb1⟩)
        | (go_at_call 54; refine (HU.out _).mono ?_; rintro e2 w2 ⟨cd, rfl, hcd, hb2⟩)
        | (go_at_call 53; refine (HT.out _ _ (below_step hb1 hb2) hcd).mono ?_; rintro e3 w3 ⟨rfl, hb3⟩))
      go_ret2
      exact .inr (.inl ⟨by trivial, by trivial, by trivial, below_step (below_step hb1 hb2) hb3⟩)
    · have hb : ((c : Int) == 18446744073709551615) = false := by simp; omega
      have HC : Hid (c < 18446744073709551615) := by show _ < _; omega
      have hw : IntKind.u64.wrap ((c : Int) + 1) = ((c + 1 : Nat) : Int) := by simp [IntKind.wrap, IntKind.bits, IntKind.signed]; omega
      have HUB := Lib.hid (fun W v (hv : CdU W v) => VerU.bytes hv (c + 1) (by omega))
      have HC1 := Lib.hid hc
      clear hc
      go_enter Tryz.func18, Tryz.ntmps18
      go_wp2_with (first
        | (go_at_call 41; refine (HP.out _ _ (below_step (below_step (below_step (below_step hb1 hb2) hb3) hb4) hb5) (big8_len _)).mono ?_; rintro e6 w6 ⟨rfl, hq⟩; have HQ := Lib.hid hq; clear hq)
        | (go_at_call 17; refine HK.out.mono ?_; rintro e1 w1 ⟨rfl, hb1⟩)
        | (go_at_call 56; refine (HUB.out _ _ hcd4).mono ?_; rintro e5 w5 ⟨rfl, hb5⟩)
        | (go_at_call 54; have tok := hb3; refine (HU.out _).mono ?_; rintro e4 w4 ⟨cd4, rfl, hcd4, hb4⟩)
        | (go_at_call 54; refine (HU.out _).mono ?_; rintro e2 w2 ⟨cd, rfl, hcd, hb2⟩)
        | (go_at_call 53; refine (HT.out _ _ (below_step hb1 hb2) hcd).mono ?_; rintro e3 w3 ⟨rfl, hb3⟩))
      go_ret2
      exact .inr (.inr ⟨by trivial, HC.out, by trivial, HQ.out⟩)
  · have hb : (e != 0) = true := by simpa using he
    have HE := Lib.hid he
    clear he
    go_enter Tryz.func18, Tryz.ntmps18
    go_wp2_with (first
      | (go_at_call 17; refine HK.out.mono ?_; rintro e1 w1 ⟨rfl, hb1⟩)
      | (go_at_call 54; refine (HU.out _).mono ?_; rintro e2 w2 ⟨cd, rfl, hcd, hb2⟩)
      | (go_at_call 53; refine (HT.out _ _ (below_step hb1 hb2) hcd).mono ?_; rintro e3 w3 ⟨rfl, hb3⟩))
    go_ret2
    exact .inl ⟨HE.out, rfl, below_step (below_step hb1 hb2) hb3⟩
end Go.Proofs.YtdghhffknfkcaaaGreatDoor
