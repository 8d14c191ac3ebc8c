/- Texts of one seat, merged. -/
import Derived.Test.YtdghhffknfkcaaaGreatDoorZ17
import Derived.Test.YtdghhffknfkcaaaGreatDoorZ18
import Derived.Deep.RegionHeld3
import Derived.Test.YtdghhffknfkcaaaGreatDoorZ13
import Derived.Test.YtdghhffknfkcaaaGreatDoorZ03
import Derived.Laws.AppendOwnNone
import Derived.Test.YtdghhffknfkcaaaGreatDoorZ15
set_option maxRecDepth 100000
set_option maxHeartbeats 4000000
set_option linter.unusedVariables false
/- schema's fits, of a queue's key. -/
namespace Go.Proofs.YtdghhffknfkcaaaGreatDoor
open Go.RowKit Go.Sort Go.Maps
/-- A row of two parts, a sort and a text. -/
structure Two (w : World) (b o : Nat) (s t : List UInt8) : Prop where
  c0 : w.cell? ⟨b, o, none⟩ = some (.bool true)
  c1 : w.cell? ⟨b, o + 1, none⟩ = some (.int .u64 0)
  c2 : w.cell? ⟨b, o + 2, none⟩ = some (.string (str s))
  c3 : w.cell? ⟨b, o + 3, none⟩ = some (.bool true)
  c4 : w.cell? ⟨b, o + 3 + 1, none⟩ = some (.int .u64 0)
  c5 : w.cell? ⟨b, o + 3 + 2, none⟩ = some (.string (str t))
theorem Two.lt {w : World} {b o : Nat} {s t : List UInt8} (h : Two w b o s t) : b < w.heap.size := World.block_lt_of_cell? _ _ h.c0
theorem Two.below {w w' : World} {b o : Nat} {s t : List UInt8} (h : Two w b o s t) (hb : Below w.heap.size w w') : Two w' b o s t := by
  have hl := h.lt
  exact ⟨(hb.cell (p := ⟨b, o, none⟩) hl).trans h.c0, (hb.cell (p := ⟨b, o + 1, none⟩) hl).trans h.c1, (hb.cell (p := ⟨b, o + 2, none⟩) hl).trans h.c2, (hb.cell (p := ⟨b, o + 3, none⟩) hl).trans h.c3, (hb.cell (p := ⟨b, o + 3 + 1, none⟩) hl).trans h.c4, (hb.cell (p := ⟨b, o + 3 + 2, none⟩) hl).trans h.c5⟩
theorem Two.of {w : World} {a : Option Addr} {n c : Nat} {s t : List UInt8} (h : Sl w (.slice a n c) [pS s, pS t]) : ∃ b o, a = some ⟨b, o, none⟩ ∧ n = 2 ∧ Two w b o s t := by
  obtain ⟨a', b, o, c', hv, ha, hx⟩ := h
  cases hv
  obtain rfl := ha.resolve_left (by simp)
  obtain ⟨h0, h1, h2⟩ := hx 0 (pS s) rfl
  obtain ⟨h3, h4, h5⟩ := hx 1 (pS t) rfl
  exact ⟨b, o, rfl, rfl, ⟨by simpa [pS] using h0, by simpa [pS] using h1, by simpa [pS] using h2, by simpa [pS] using h3, by simpa [pS] using h4, by simpa [pS] using h5⟩⟩
def SF (b o : Nat) (w W : World) : Prop := W.cell? ⟨b, o, none⟩ = some (.bool true) ∧ W.cell? ⟨b, o + 1, none⟩ = some (.int .u64 0) ∧ W.cell? ⟨b, o + 2, none⟩ = some (.string ⟨#[113]⟩) ∧ Below w.heap.size w W
theorem sf0 {w : World} {b o : Nat} {t : List UInt8} (h : Two w b o [113] t) : SF b o w w.drew := ⟨h.c0, h.c1, h.c2, (Below.refl _ _).drew⟩
theorem sfs {w W W' : World} {b o : Nat} (h : SF b o w W) (hb : Below W.heap.size W W') : SF b o w W' := by
  obtain ⟨h0, h1, h2, h3⟩ := h
  have hl : b < W.heap.size := World.block_lt_of_cell? _ _ h0
  exact ⟨(hb.cell (p := ⟨b, o, none⟩) hl).trans h0, (hb.cell (p := ⟨b, o + 1, none⟩) hl).trans h1, (hb.cell (p := ⟨b, o + 2, none⟩) hl).trans h2, below_step h3 hb⟩
theorem Stays_drew (B : Nat) (w : World) (q : Nat) : Below B w (w.drewN q) := ⟨rfl, rfl, rfl, Nat.le_refl _, fun _ _ => rfl⟩
theorem neqP (w : World) : (binOp .neq 115 (.agg #[.bool true, .int .u64 0, .string ⟨#[113]⟩]) (.agg #[.bool true, .int .u64 0, .string ⟨#[113]⟩])).run Tryz.prog w = .ok (.bool false) w := by kernel_rfl
set_option maxHeartbeats 4000000 in
theorem fitsQ {w : World} {b o c n k : Nat} {nm : Txt} (h : Two w b o [113] nm) (hn : n = 2) (hk : k = 1) {g : Nat} (hg : BoxL w g 115 #[.bool true, .int .u64 0, .string ⟨#[]⟩]) :
    Calls Tryz.prog 142 #[.slice (some ⟨b, o, none⟩) n c, .string ⟨#[113]⟩, .slice (some ⟨g, 0, none⟩) k k] w fun e w' => e = .returned (.bool true) ∧ Below w.heap.size w w' := by
  have hs2 := fun W => strP_any [113] W
  unfold aggP at hs2
  have HS : Hid (∀ W, Calls Tryz.prog 52 #[.string ⟨#[113]⟩] W fun e w' => e = .returned (.agg #[.bool true, .int .u64 0, .string ⟨#[113]⟩]) ∧ Below W.heap.size W w') := hs2
  have HT := Lib.hid h
  have HG := Lib.hid hg
  have hmx := mixed0
  have hneq := fun W => neqP W
  have H0 := Lib.hid (sf0 HT.out)
  have hw : IntKind.i64.wrap ((k : Int) + 1) = (k : Int) + 1 := by subst hk; rfl
  have hne : ((n : Int) != (k : Int) + 1) = false := by subst hn; subst hk; rfl
  have hn0 : 0 < n := by omega
  have HN := Lib.hid hn
  have HKk := Lib.hid hk
  clear h hg hs2 hn hk
  go_enter Tryz.func142, Tryz.ntmps142
  go_wp2
  go_region_held3 (fun W => W.cell? ⟨b, o, none⟩ = some (.bool true) ∧ W.cell? ⟨b, o + 1, none⟩ = some (.int .u64 0) ∧ W.cell? ⟨b, o + 2, none⟩ = some (.string ⟨#[113]⟩) ∧ Below w.heap.size w W)
    ((first | with_reducible assumption | exact H0.out | exact sfs ‹_› hb1))
    (first | (go_at_call 52; refine (HS.out _).mono ?_; rintro e w1 ⟨rfl, hb1⟩))
  all_goals
    have HB1 : Hid (Below w.heap.size w w1) := by
      first
        | exact (‹_ ∧ _ ∧ _ ∧ Below w.heap.size w w1›).2.2.2
        | exact ‹Below w.heap.size w w1›
    clear hb1
    go_wp2
    go_loopg [25] k (fun gk i wr => ∃ j : Nat, j ≤ k ∧ gk = k - j ∧ i = .int .i64 j ∧ Hid (Below w.heap.size w wr))
    case atStart => exact ⟨0, Nat.zero_le _, rfl, rfl, HB1.out⟩
    case round =>
      obtain ⟨j, hj, rfl, rfl, HB⟩ := hrel
      by_cases hlt : j < k
      · have hj0 : j = 0 := by have := HKk.out; omega
        subst hj0
        have g1 := HG.out.below HB.out HG.out.lt
        have g2 := g1.alloc (.cells #[.bool true, .int .u64 0, .string ⟨#[]⟩] 115)
        have i0 := g1.cell (i := 0) rfl
        have i1 := g1.cell (i := 1) rfl
        have i2 := g1.cell (i := 2) rfl
        have t2 : Two (wr.alloc (.cells #[.bool true, .int .u64 0, .string ⟨#[]⟩] 115)) b o [113] nm := (HT.out.below HB.out).below ((Below.refl _ _).alloc (Nat.le_refl _) _)
        have m3 := t2.c3
        have m3' : (wr.alloc (.cells #[.bool true, .int .u64 0, .string ⟨#[]⟩] 115)).cell? ⟨b, o + 1 * 3, none⟩ = some (.bool true) := t2.c3
        have p0 := (BoxL.new wr #[.bool true, .int .u64 0, .string ⟨#[]⟩] 115).cell (i := 0) rfl
        have hn1 : 1 < n := by have := HN.out; omega
        clear g1 g2 t2
        go_wp2
        go_quiet (fail)
        go_wp2
        go_roundg (k - (0 + 1))
        case measure => omega
        case rel => exact ⟨0 + 1, by omega, rfl, by go_num, (HB.out.trans (((Below.refl _ _).alloc (Nat.le_refl _) _).mono HB.out.size)).trans (Stays_drew _ _ _)⟩
      · obtain rfl : j = k := by omega
        go_wp2
        go_ret
        exact ⟨rfl, HB.out⟩
end Go.Proofs.YtdghhffknfkcaaaGreatDoor
/- schema's Parse of a queue's key; registry's queue. -/
namespace Go.Proofs.YtdghhffknfkcaaaGreatDoor
open Go.RowKit Go.Sort Go.Maps
theorem pS_ok (s : List UInt8) : (pS s).ok := ⟨rfl, by show (0 : Nat) < _; omega⟩
theorem partsQ (nm : Txt) (hk : (kQ nm).length ≤ 255) (w : World) :
    Calls Tryz.prog 141 #[.string (str (kQ nm))] w fun e w' => ∃ b o n c, e = .returned (.tuple #[.slice (some ⟨b, o, none⟩) n c, .int .i64 0]) ∧ n = 2 ∧ Two w' b o [113] nm ∧ Below w.heap.size w w' := by
  refine (parts_any (kQ nm) (by omega) w).mono ?_
  rintro e w' (⟨l, hl, hK, _, a, n, c, hn, he, hs, hb⟩ | ⟨hno, _, _⟩)
  · have hl2 : [pS [113], pS nm] = l := Ord.key_inj _ _ (by intro p hp; simp at hp; rcases hp with rfl | rfl; exact pS_ok _; exact pS_ok _) hl hK
    subst hl2
    obtain ⟨b, o, rfl, hn2, ht⟩ := Two.of hs
    exact ⟨b, o, n, c, he, hn2, ht, hb⟩
  · exact absurd rfl (hno hk [pS [113], pS nm] (by intro p hp; simp at hp; rcases hp with rfl | rfl; exact pS_ok _; exact pS_ok _))
theorem rrPa {w : World} {g : Nat} {x0 x1 x2 x3 x4 x5 x6 x7 x8 : Value} {e : Int} {tmps : Array Value} (ht : tmps[2]? = some (.pointer (some ⟨g, 0, none⟩))) (h3 : tmps[3]? = some (.int .i64 e)) (hx : BoxL w g 187 #[x0, x1, x2, x3, x4, x5, x6, x7, x8]) :
    (results Tryz.f109 tmps).run Tryz.prog w = .ok (.tuple #[.agg #[x0, x1, x2, x3, x4, x5, x6, x7, x8], .int .i64 e]) w := by
  have h00 := hx.cell (i := 0) rfl
  have h01 := hx.cell (i := 1) rfl
  have h02 := hx.cell (i := 2) rfl
  have h03 := hx.cell (i := 3) rfl
  have h04 := hx.cell (i := 4) rfl
  have h05 := hx.cell (i := 5) rfl
  have h06 := hx.cell (i := 6) rfl
  have h07 := hx.cell (i := 7) rfl
  have h08 := hx.cell (i := 8) rfl
  simp [results, Tryz.results109, go_sem, ht, h3, h00, h01, h02, h03, h04, h05, h06, h07, h08]
set_option maxHeartbeats 4000000 in
theorem parseQ (nm : Txt) (hk : (kQ nm).length ≤ 255) (w : World) :
    Calls Tryz.prog 109 #[.string (str (kQ nm))] w fun e w' => e = .returned (.tuple #[.agg #[.string ⟨#[113]⟩, .string (str nm), .int .u64 0, .int .u64 0, .string ⟨#[]⟩, .int .i64 0, .string ⟨#[]⟩, .string ⟨#[]⟩, .string ⟨#[]⟩], .int .i64 0]) ∧ Below w.heap.size w w' := by
  have HX := Lib.hid (BoxL.new w #[.string ⟨#[]⟩, .string ⟨#[]⟩, .int .u64 0, .int .u64 0, .string ⟨#[]⟩, .int .i64 0, .string ⟨#[]⟩, .string ⟨#[]⟩, .string ⟨#[]⟩] 187)
  have HA : Hid (Below w.heap.size w (w.alloc (.cells #[.string ⟨#[]⟩, .string ⟨#[]⟩, .int .u64 0, .int .u64 0, .string ⟨#[]⟩, .int .i64 0, .string ⟨#[]⟩, .string ⟨#[]⟩, .string ⟨#[]⟩] 187))) := (Below.refl _ _).alloc (Nat.le_refl _) _
  have HP := Lib.hid (partsQ nm hk (w.alloc (.cells #[.string ⟨#[]⟩, .string ⟨#[]⟩, .int .u64 0, .int .u64 0, .string ⟨#[]⟩, .int .i64 0, .string ⟨#[]⟩, .string ⟨#[]⟩, .string ⟨#[]⟩] 187)))
  have hs2 := fun W => strP_any [] W
  unfold aggP at hs2
  have HS : Hid (∀ W, Calls Tryz.prog 52 #[.string ⟨#[]⟩] W fun e w' => e = .returned (.agg #[.bool true, .int .u64 0, .string ⟨#[]⟩]) ∧ Below W.heap.size W w') := hs2
  clear hs2 hk
  go_enter Tryz.func109, Tryz.ntmps109
  go_wp2_with (first
    | (go_at_call 141; refine HP.out.mono ?_; rintro e1 w1 ⟨b, o, n, c, rfl, hn, ht, hb1⟩; have HN := Lib.hid hn; have HT := Lib.hid ht; have hn1 : 1 < n := (by omega); have y1 := HX.out.below hb1 HX.out.lt; have HY := Lib.hid y1; clear hn ht y1)
    | (go_at_call 52; refine (HS.out _).mono ?_; rintro e2 w2 ⟨rfl, hb2⟩)
    | (go_at_call 142; refine (fitsQ (w := w2.alloc (.cells #[.bool true, .int .u64 0, .string ⟨#[]⟩] 115)) ((HT.out.below hb2).below ((Below.refl _ _).alloc (Nat.le_refl _) _)) HN.out rfl (BoxL.new w2 #[.bool true, .int .u64 0, .string ⟨#[]⟩] 115)).mono ?_; rintro e3 w3 ⟨rfl, hb3⟩; have t3 := ((HT.out.below hb2).below ((Below.refl _ _).alloc (Nat.le_refl _) (.cells #[.bool true, .int .u64 0, .string ⟨#[]⟩] 115))).below hb3; have m5 := t3.c5; have m5' : w3.cell? ⟨b, o + 1 * 3 + 2, none⟩ = some (.string (str nm)) := t3.c5; have x1 := ((HY.out.below hb2 HY.out.lt).alloc (.cells #[.bool true, .int .u64 0, .string ⟨#[]⟩] 115)).below hb3 ((HY.out.below hb2 HY.out.lt).alloc (.cells #[.bool true, .int .u64 0, .string ⟨#[]⟩] 115)).lt; have f1 := x1.frozen; have q0 := x1.cell (i := 0) rfl; have q1 := x1.cell (i := 1) rfl; have q2 := x1.cell (i := 2) rfl; have q3 := x1.cell (i := 3) rfl; have q4 := x1.cell (i := 4) rfl; have q5 := x1.cell (i := 5) rfl; have q6 := x1.cell (i := 6) rfl; have q7 := x1.cell (i := 7) rfl; have q8 := x1.cell (i := 8) rfl))
  have xs := (((((((((x1.set 0 (.string ⟨#[113]⟩)).set 1 (.string (str nm))).set 2 (.int .u64 0)).set 3 (.int .u64 0)).set 4 (.string ⟨#[]⟩)).set 5 (.int .i64 0)).set 6 (.string ⟨#[]⟩)).set 7 (.string ⟨#[]⟩)).set 8 (.string ⟨#[]⟩))
  refine bodyPost_ret_by (rrPa rfl rfl xs) rfl ⟨rfl, ?_⟩
  have hB3 : Below w.heap.size w w3 := by
    have s1 := below_step HA.out hb1
    have s2 := below_step s1 hb2
    have s3 := s2.trans (((Below.refl _ w2).alloc (Nat.le_refl _) (.cells #[.bool true, .int .u64 0, .string ⟨#[]⟩] 115)).mono s2.size)
    exact below_step s3 hb3
  exact (((((((((hB3.setCell (p := ⟨w.heap.size, 0, none⟩) (Nat.le_refl _) _).setCell (p := ⟨w.heap.size, 1, none⟩) (Nat.le_refl _) _).setCell (p := ⟨w.heap.size, 2, none⟩) (Nat.le_refl _) _).setCell (p := ⟨w.heap.size, 3, none⟩) (Nat.le_refl _) _).setCell (p := ⟨w.heap.size, 4, none⟩) (Nat.le_refl _) _).setCell (p := ⟨w.heap.size, 5, none⟩) (Nat.le_refl _) _).setCell (p := ⟨w.heap.size, 6, none⟩) (Nat.le_refl _) _).setCell (p := ⟨w.heap.size, 7, none⟩) (Nat.le_refl _) _).setCell (p := ⟨w.heap.size, 8, none⟩) (Nat.le_refl _) _)
end Go.Proofs.YtdghhffknfkcaaaGreatDoor
/- The contracts of the document's own functions on rows of parts: to, After, Less. -/
namespace Go.Proofs.YtdghhffknfkcaaaGreatDoor
open Go.RowKit
theorem info43 : (Tryz.prog.info? 224).map (fun i => (i.zero, i.size, i.bytes)) = some (some (.agg #[.bool false, .int .u64 0, .string ByteArray.empty]), 3, 32) := by kernel_rfl
theorem take_snocP (l : List Ord.P) (k : Nat) (p : Ord.P) (h : l[k]? = some p) : l.take (k + 1) = l.take k ++ [p] := by
  obtain ⟨hk, he⟩ := List.getElem?_eq_some_iff.1 h
  rw [List.take_succ_eq_append_getElem hk, he]
end Go.Proofs.YtdghhffknfkcaaaGreatDoor
/- The contract of the document's own Key. -/
namespace Go.Proofs.YtdghhffknfkcaaaGreatDoor
open Go.RowKit
theorem esc_take (t : List UInt8) (j : Nat) (c : UInt8) (h : t[j]? = some c) : Ord.esc (t.take (j + 1)) = Ord.esc (t.take j) ++ (if c = 0 then [0, 255] else [c]) := by
  obtain ⟨hj, he⟩ := List.getElem?_eq_some_iff.1 h
  rw [List.take_succ_eq_append_getElem hj, Ord.esc_append, he]
  congr 1
theorem esc_take_len (t : List UInt8) (j : Nat) : (Ord.esc (t.take j)).length ≤ 2 * t.length := by
  have h1 := Ord.esc_length_ge (t.take j)
  have h2 : (t.take j).length ≤ t.length := by rw [List.length_take]; omega
  omega
set_option maxHeartbeats 4000000 in
set_option maxRecDepth 100000 in
theorem refKey_any (v : Value) (l : List Ord.P) (hll : l.length ≤ 1000) (w : World) (hv : Sl w v l) (hl : ∀ p ∈ l, p.n < 18446744073709551616 ∧ p.s.length ≤ 400) :
    Calls Tryz.prog 114 #[v] w fun e w' => e = .returned (keyOut l) ∧ Below w.heap.size w w' := by
  have HL := Lib.hid hl
  clear hl
  obtain ⟨a, b, o, c, rfl, ha, hx⟩ := hv
  have HX := Lib.hid hx
  have HA := Lib.hid ha
  clear ha hx
  have hz := big_size
  go_enter Tryz.func114, Tryz.ntmps114
  go_wp2
  go_loopg [4, 10] l.length (fun g s i wr => ∃ k : Nat, k ≤ l.length ∧ g = l.length - k ∧ i = .int .i64 k ∧ s = .string (str (Ord.key (l.take k))) ∧ Hid ((Ord.key (l.take k)).length ≤ 255) ∧ Hid (Below w.heap.size w wr))
  case atStart => exact ⟨0, Nat.zero_le _, rfl, rfl, rfl, Nat.zero_le _, Below.refl _ _⟩
  case round =>
    obtain ⟨k, hk, rfl, rfl, rfl, HK, HB⟩ := hrel
    have hsz : (str (Ord.key (l.take k))).size = (Ord.key (l.take k)).length := rfl
    by_cases hlt : k < l.length
    · obtain ⟨p, hp⟩ : ∃ p, l[k]? = some p := ⟨_, List.getElem?_eq_getElem hlt⟩
      have HS := Lib.hid (key_snoc l k p hp)
      have HT2 := Lib.hid (key_take_le l (k + 1))
      obtain ⟨hpn, hps⟩ := HL.out p (List.mem_of_getElem? hp)
      obtain ⟨e0, e1, e2⟩ := HX.out k p hp
      have hblt : b < w.heap.size := World.block_lt_of_cell? _ _ e0
      have d0 := (HB.out.cell (p := ⟨b, o + k * 3, none⟩) hblt).trans e0
      have d1 := (HB.out.cell (p := ⟨b, o + k * 3 + 1, none⟩) hblt).trans e1
      have d2 := (HB.out.cell (p := ⟨b, o + k * 3 + 2, none⟩) hblt).trans e2
      obtain rfl : a = some ⟨b, o, none⟩ := by
        rcases HA.out with h | h
        · rw [h] at hlt; cases hlt
        · exact h
      clear e0 e1 e2 hp
      revert HS HT2 hsz HK
      generalize Ord.key (l.take k) = K
      generalize hK1 : Ord.key (l.take (k + 1)) = K1
      intro HK hsz HS HT2
      have HK1 := Lib.hid hK1
      clear hK1
      have hkl := HK.out
      have HB0 := Lib.hid (HB.out.alloc HB.out.size (.cells #[.bool p.t, .int .u64 p.n, .string (str p.s)] 224))
      obtain ⟨t, n, s⟩ := p
      simp only at d0 d1 d2 hpn hps HB0
      cases t
      · have HJ : Hid (str K ++ str (Oc.big 1 1) ++ str (Oc.big 8 n) = str K1) := by
          show _ = _
          rw [str_append, str_append, HS.out, List.append_assoc]; rfl
        have HKL : Hid ((str K1).size = K1.length) := rfl
        have HLAST : Hid (255 < K1.length → keyOut l = .tuple #[.string ⟨#[]⟩, .int .i64 5]) := fun h => keyOut_long l (by have := HT2.out; omega)
        go_upto_region 6 with fail
        go_cut [4] (fun s wx => s = .string (str K1) ∧ Hid (Below w.heap.size w wx))
        case first =>
          go_region_with (first
            | (go_at_call_of 156 (Value.int IntKind.i64 1); refine (big1 1 1 rfl (by decide) _).mono ?_; rintro e w1 ⟨rfl, hb1⟩; have hk := (hb1.cell (p := ⟨wr.heap.size, 1, none⟩) (by simp)).trans (show _ = some (Value.int .u64 n) by simp))
            | (go_at_call_of 156 (Value.int IntKind.i64 8); refine (big8 _ n rfl hpn _).mono ?_; rintro e w2 ⟨rfl, hb2⟩))
          all_goals
            (go_wp2_with fail
             go_meet
             exact ⟨congrArg Value.string HJ.out, below_step HB.out (below_step (below_off hb1) hb2)⟩)
        case rest =>
          obtain ⟨rfl, HB1⟩ := hcut
          have hk1 := HKL.out
          by_cases h255 : (K1.length : Int) > 255
          · have HO := Lib.hid (HLAST.out (by omega))
            go_wp2
            go_ret2
            rw [HO.out]
            exact ⟨rfl, HB1.out⟩
          · go_wp2
            go_roundg (l.length - (k + 1))
            case measure => omega
            case rel => exact ⟨k + 1, by omega, rfl, by go_num, by rw [HK1.out], by show _ ≤ _; rw [HK1.out]; omega, HB1⟩
      · have HLAST : Hid (255 < K1.length → keyOut l = .tuple #[.string ⟨#[]⟩, .int .i64 5]) := fun h => keyOut_long l (by have := HT2.out; omega)
        have HKL : Hid ((str K1).size = K1.length) := rfl
        have HK1E : Hid (K1 = K ++ 2 :: (Ord.esc s ++ [0, 0])) := HS.out
        have HJ0 : Hid (str K ++ str (Oc.big 1 2) = str (K ++ 2 :: Ord.esc (s.take 0))) := by
          show _ = _
          rw [str_append]; rfl
        go_wp2_with (go_at_call_of 156 (Value.int IntKind.i64 1); refine (big1 2 2 rfl (by decide) _).mono ?_; rintro e w1 ⟨rfl, hb1⟩)
        rw [HJ0.out]
        have hck := (hb1.cell (p := ⟨wr.heap.size, 2, none⟩) (by simp)).trans (show _ = some (Value.string (str s)) by simp)
        have HB1 := Lib.hid (below_step HB0.out hb1)
        have HG := Lib.hid (World.block_lt_of_cell? _ _ hck)
        have HCK := Lib.hid hck
        clear hb1 hck d0 d1 d2
        generalize wr.heap.size = g at *
        obtain ⟨wo, rfl⟩ : ∃ wo : World, wo = wr := ⟨_, rfl⟩
        have hss : (str s).size = s.length := rfl
        go_loopg [4, 7] s.length (fun g4 x i wi => ∃ j : Nat, j ≤ s.length ∧ g4 = s.length - j ∧ i = .int .i64 j ∧ x = .string (str (K ++ 2 :: Ord.esc (s.take j))) ∧ Hid (Below w1.heap.size w1 wi))
        case atStart => exact ⟨0, Nat.zero_le _, rfl, rfl, rfl, Below.refl _ _⟩
        case round =>
          obtain ⟨j, hj, rfl, rfl, rfl, HBI⟩ := hrel
          obtain ⟨wi, rfl⟩ : ∃ wi : World, wi = wr := ⟨_, rfl⟩
          have hcs := (HBI.out.cell (p := ⟨g, 2, none⟩) HG.out).trans HCK.out
          have HEL := Lib.hid (esc_take_len s j)
          have hzk : (str (K ++ 2 :: Ord.esc (s.take j))).size ≤ 1100 := by
            rw [str_size, List.length_append, List.length_cons]
            have := HEL.out
            omega
          by_cases hjl : j < s.length
          · obtain ⟨c, hc⟩ : ∃ c, s[j]? = some c := ⟨_, List.getElem?_eq_getElem hjl⟩
            have hx1 := fun W => slice_one s j c hc W
            have hx2 := str_at s j c hc
            have hs1 : (str [c]).size = 1 := rfl
            have HES := Lib.hid (esc_take s j c hc)
            clear hc
            by_cases hc0 : c = 0
            · subst hc0
              have hx3 : ∀ hh : j < (str s).size, ((str s)[j]'hh).toNat = 0 := hx2
              clear hx2
              have HJ1 : Hid (str (K ++ 2 :: Ord.esc (s.take j)) ++ str [0] ++ str (Oc.big 1 255) = str (K ++ 2 :: Ord.esc (s.take (j + 1)))) := by
                show _ = _
                rw [str_append, str_append, HES.out, if_pos rfl]
                show str _ = str _
                simp [Oc.big]
              go_wp2_with (go_at_call_of 156 (Value.int IntKind.i64 1); refine (big1 255 255 rfl (by decide) _).mono ?_; rintro e w2 ⟨rfl, hb2⟩)
              go_roundg (s.length - (j + 1))
              case measure => omega
              case rel => exact ⟨j + 1, by omega, rfl, by go_num, congrArg Value.string HJ1.out, below_step' HBI.out hb2⟩
            · have hc1 : ((c.toNat : Int) == 0) = false := by
                rw [beq_eq_false_iff_ne]; intro h; exact hc0 (UInt8.toNat_inj.1 (by show c.toNat = 0; omega))
              have HJ1 : Hid (str (K ++ 2 :: Ord.esc (s.take j)) ++ str [c] = str (K ++ 2 :: Ord.esc (s.take (j + 1)))) := by
                show _ = _
                rw [str_append, HES.out, if_neg hc0]
                show str _ = str _
                simp
              go_wp2
              go_roundg (s.length - (j + 1))
              case measure => omega
              case rel => exact ⟨j + 1, by omega, rfl, by go_num, congrArg Value.string HJ1.out, HBI⟩
          · obtain rfl : j = s.length := by omega
            rw [List.take_length] at *
            have HJ2 : Hid (str (K ++ 2 :: Ord.esc s) ++ str (Oc.big 2 0) = str K1) := by
              show _ = _
              rw [str_append, HK1E.out]
              show str _ = str _
              simp [Oc.big]
            obtain ⟨q, hq, hq2⟩ : ∃ q : Nat, (str (K ++ 2 :: Ord.esc s)).size = q ∧ Hid (q + 2 = K1.length) := by
              refine ⟨_, rfl, ?_⟩
              show _ = _
              rw [HK1E.out, str_size]
              simp only [List.length_append, List.length_cons, List.length_nil]
              omega
            have HB3 := fun w2 (hb2 : Below wi.heap.size wi w2) => below_step HB1.out (below_step' HBI.out hb2)
            by_cases h255 : (q : Int) + 2 > 255
            · have HO := Lib.hid (HLAST.out (by have := hq2.out; omega))
              go_wp2_with (go_at_call_of 156 (Value.int IntKind.i64 2); refine (big2 0 0 rfl (by decide) _).mono ?_; rintro e w2 ⟨rfl, hb2⟩)
              go_ret2
              rw [HO.out]
              exact ⟨rfl, HB3 _ hb2⟩
            · go_wp2_with (go_at_call_of 156 (Value.int IntKind.i64 2); refine (big2 0 0 rfl (by decide) _).mono ?_; rintro e w2 ⟨rfl, hb2⟩)
              go_roundg (l.length - (k + 1))
              case measure => omega
              case rel => exact ⟨k + 1, by omega, rfl, by go_num, by rw [HK1.out]; exact congrArg Value.string HJ2.out, by show _ ≤ _; rw [HK1.out]; have := hq2.out; omega, HB3 _ hb2⟩
    · obtain rfl : k = l.length := by omega
      have HO := Lib.hid (keyOut_ok l (by have := HK.out; rwa [List.take_length] at this))
      rw [List.take_length]
      go_wp2
      go_ret2
      rw [HO.out]
      exact ⟨rfl, HB.out⟩
end Go.Proofs.YtdghhffknfkcaaaGreatDoor
/- The contract of the document's own Parts. -/
namespace Go.Proofs.YtdghhffknfkcaaaGreatDoor
open Go.RowKit
theorem refNum_any (n : Nat) (W : World) :
    Calls Tryz.prog 158 #[.int .u64 n] W fun e w' => e = .returned (.agg #[.bool false, .int .u64 n, .string ⟨#[]⟩]) ∧ Below W.heap.size W w' := by
  go_enter Tryz.func158, Tryz.ntmps158
  go_wp2
  refine bodyPost_ret_by (v := aggP ⟨false, n, []⟩) ?_ rfl ⟨rfl, (Below.refl _ _).alloc (Nat.le_refl _) _⟩
  simp [results, Tryz.results158, go_sem, aggP, str]
theorem refStr_any (t : List UInt8) (W : World) :
    Calls Tryz.prog 157 #[.string (str t)] W fun e w' => e = .returned (.agg #[.bool true, .int .u64 0, .string (str t)]) ∧ Below W.heap.size W w' := by
  go_enter Tryz.func157, Tryz.ntmps157
  go_wp2
  refine bodyPost_ret_by (v := aggP ⟨true, 0, t⟩) ?_ rfl ⟨rfl, (Below.refl _ _).alloc (Nat.le_refl _) _⟩
  simp [results, Tryz.results157, go_sem, aggP]
theorem slice_nine (K : List UInt8) (i : Nat) (h : i + 9 ≤ K.length) (W : World) :
    (Instr.slice 9 (.string (str K)) (some (.int .i64 ((i : Int) + 1))) (some (.int .i64 ((i : Int) + 9))) none).run Tryz.prog W = .ok (.string (str ((K.drop (i + 1)).take 8))) W := by
  rw [run_slice_string W 9 (str K) .i64 .i64 _ _ Tryz.underlying9 (by omega) (by omega) (by rw [str_size]; omega)]
  congr 2
  rw [show ((i : Int) + 1).toNat = i + 1 by omega, show ((i : Int) + 9).toNat = i + 9 by omega]
  apply ByteArray.ext
  simp only [str]
  rw [ByteArray.data_extract]
  apply Array.ext'
  simp [List.take_drop]
theorem drop_atL (K : List UInt8) (i : Nat) (c : UInt8) (h : K[i]? = some c) : K.drop i = c :: K.drop (i + 1) := by
  obtain ⟨hk, he⟩ := List.getElem?_eq_some_iff.1 h
  rw [List.drop_eq_getElem_cons hk, he]
theorem info43' : (Tryz.prog.info? 224).map (fun i => (i.zero, i.size, i.bytes)) = some (some (.agg #[.bool false, .int .u64 0, .string ByteArray.empty]), 3, 32) := info43
theorem fwd_key (K : List UInt8) (l : List Ord.P) (i : Nat) (p : Ord.P) (R' : List UInt8) (hK : K = Ord.key l ++ K.drop i) (hp : Ord.pt (K.drop i) = some (p, R')) : K = Ord.key (l ++ [p]) ++ R' := by
  obtain ⟨hpe, _⟩ := Ord.pt_some _ _ _ hp
  rw [Ord.key_append, List.append_assoc]
  show K = Ord.key l ++ (Ord.key [p] ++ R')
  rw [show Ord.key [p] = Ord.pb p by simp [Ord.key], ← hpe]
  exact hK
theorem ok_snoc (l : List Ord.P) (p : Ord.P) (hl : ∀ q ∈ l, q.ok) (hp : p.ok) : ∀ q ∈ l ++ [p], q.ok := by
  intro q hq
  rcases List.mem_append.1 hq with h | h
  · exact hl q h
  · simp at h; subst h; exact hp
theorem cellsP_at (w : World) (p : Ord.P) (T : TypeId) : ∀ (j : Nat) u, (cellsP p)[j]? = some u →
    (w.alloc (.cells #[.bool p.t, .int .u64 p.n, .string (str p.s)] T)).cell? ((⟨w.heap.size, 0, none⟩ : Addr).add j) = some u := by
  intro j u hj
  unfold cellsP at hj
  match j, hj with
  | 0, hj => simp at hj; subst hj; simp [Addr.add]
  | 1, hj => simp at hj; subst hj; simp [Addr.add]
  | 2, hj => simp at hj; subst hj; simp [Addr.add]
  | (j + 3), hj => simp at hj
theorem index_at (K : List UInt8) (j : Nat) (d : UInt8) (h : K[j]? = some d) (x : Int) (hx : x = j) (W : World) :
    (Instr.index 9 (.string (str K)) (.int .i64 x)).run Tryz.prog W = .ok (.int .u8 d.toNat) W := by
  subst hx
  have hj := (List.getElem?_eq_some_iff.1 h).1
  rw [run_index_string W 9 (str K) .i64 j Tryz.underlying9, dif_pos ⟨by omega, by rw [str_size]; omega⟩]
  have hs := str_at K j d h (by rw [str_size]; exact hj)
  congr 3
theorem own_upd' {w w' : World} {b B : Nat} {e : TypeId} {s : Nat} {v : Value} {n : Nat} {xs : List Value} {o : Obj} (h : (w.alloc o).ownsRow B e s v n xs) (u : Upd b (w.alloc o) w') (hv : v.ownBlock ≠ some b) : w'.ownsRow B e s v n xs := by
  obtain ⟨h0, h1⟩ := h
  refine ⟨h0, ?_⟩
  rcases h1 with h1 | ⟨g, cap, cur, rfl, hg, hh, rest⟩
  · exact .inl h1
  · exact .inr ⟨g, cap, cur, rfl, hg, by rw [u.block g (fun he => hv (by rw [he]; rfl)), hh], rest⟩
end Go.Proofs.YtdghhffknfkcaaaGreatDoor
/- The contracts of a key's row: Str, Queue of the example, light, Under. -/
namespace Go.Proofs.YtdghhffknfkcaaaGreatDoor
open Go.RowKit
theorem Sl.two (w : World) (p q : Ord.P) (T : TypeId) : Sl (w.alloc (.cells #[.bool p.t, .int .u64 p.n, .string (str p.s), .bool q.t, .int .u64 q.n, .string (str q.s)] T)) (.slice (some ⟨w.heap.size, 0, none⟩) 2 2) [p, q] := by
  refine ⟨_, w.heap.size, 0, 2, rfl, .inr rfl, fun j r hj => ?_⟩
  match j, hj with
  | 0, hj => simp at hj; subst hj; refine ⟨?_, ?_, ?_⟩ <;> simp
  | 1, hj => simp at hj; subst hj; refine ⟨?_, ?_, ?_⟩ <;> simp
  | (j + 2), hj => simp at hj
theorem queueEx : keyOut [⟨true, 0, [113]⟩, ⟨true, 0, [97]⟩] = .tuple #[.string ⟨#[2, 113, 0, 0, 2, 97, 0, 0]⟩, .int .i64 0] := by
  rw [keyOut_ok _ (by decide)]; rfl
theorem keyEx2 (m : Int) (W : World) (hm : W.cell? ⟨0, 0, none⟩ = some (.int .i64 m)) (T : TypeId) :
    Calls Tryz.prog 51 #[.slice (some ⟨W.heap.size, 0, none⟩) 2 2] (W.alloc (.cells #[.bool true, .int .u64 0, .string ⟨#[113]⟩, .bool true, .int .u64 0, .string ⟨#[97]⟩] T)) fun e w' => e = .returned (.tuple #[.string ⟨#[2, 113, 0, 0, 2, 97, 0, 0]⟩, .int .i64 0]) ∧ Below W.heap.size W w' := by
  have h0 := World.block_lt_of_cell? _ _ hm
  have h1 := key_any _ [⟨true, 0, [113]⟩, ⟨true, 0, [97]⟩] (by decide) m _ (Sl.two W ⟨true, 0, [113]⟩ ⟨true, 0, [97]⟩ T) (by intro p hp; simp at hp; rcases hp with rfl | rfl <;> decide) (((Below.refl _ _).alloc (Nat.le_refl _) _ |>.cell (p := ⟨0, 0, none⟩) h0).trans hm)
  rw [queueEx] at h1
  exact h1.mono fun e w' h => ⟨h.1, below_step ((Below.refl _ _).alloc (Nat.le_refl _) _) h.2⟩
theorem queueEx_any (m : Int) (w : World) (hm : w.cell? ⟨0, 0, none⟩ = some (.int .i64 m)) :
    Calls Tryz.prog 16 #[.string ⟨#[97]⟩] w fun e w' => e = .returned (.tuple #[.string ⟨#[2, 113, 0, 0, 2, 97, 0, 0]⟩, .int .i64 0]) ∧ Below w.heap.size w w' := by
  have h0 := World.block_lt_of_cell? _ _ hm
  have HM : Hid (∀ W, Below w.heap.size w W → W.cell? ⟨0, 0, none⟩ = some (.int .i64 m)) := fun W hW => (hW.cell (p := ⟨0, 0, none⟩) h0).trans hm
  have hs1 := fun W => strP_any [113] W
  have hs2 := fun W => strP_any [97] W
  unfold aggP at hs1 hs2
  have H1 : Hid (∀ W, Calls Tryz.prog 52 #[.string ⟨#[113]⟩] W fun e w' => e = .returned (.agg #[.bool true, .int .u64 0, .string ⟨#[113]⟩]) ∧ Below W.heap.size W w') := hs1
  have H2 : Hid (∀ W, Calls Tryz.prog 52 #[.string ⟨#[97]⟩] W fun e w' => e = .returned (.agg #[.bool true, .int .u64 0, .string ⟨#[97]⟩]) ∧ Below W.heap.size W w') := hs2
  clear hs1 hs2 hm h0
  go_enter Tryz.func16, Tryz.ntmps16
  go_wp2_with (first
    | (go_at_call 51; refine (keyEx2 m _ (HM.out _ (below_step hb1 hb2)) _).mono ?_; rintro e w3 ⟨rfl, hb3⟩)
    | (go_at_call 52; have tok := hb1; refine (H2.out _).mono ?_; rintro e w2 ⟨rfl, hb2⟩)
    | (go_at_call 52; refine (H1.out _).mono ?_; rintro e w1 ⟨rfl, hb1⟩))
  go_ret2
  exact ⟨rfl, below_step (below_step hb1 hb2) hb3⟩
/-- A row of texts that a slice shows. -/
def Sls (w : World) (v : Value) (l : List ByteArray) : Prop :=
  ∃ b o c : Nat, v = .slice (some ⟨b, o, none⟩) l.length c ∧ ∀ (j : Nat) s, l[j]? = some s → w.cell? ⟨b, o + j, none⟩ = some (.string s)
end Go.Proofs.YtdghhffknfkcaaaGreatDoor
/- The contract of Under. -/
namespace Go.Proofs.YtdghhffknfkcaaaGreatDoor
open Go.RowKit
/-- A row that is handed in: nil, or at an address. -/
def Slin (w : World) (v : Value) (l : List Ord.P) : Prop := (l = [] ∧ v = .slice none 0 0) ∨ ∃ (a : Addr) (c : Nat), v = .slice (some a) l.length c ∧ ∀ (j : Nat) u, (l.flatMap cellsP)[j]? = some u → w.cell? (a.add j) = some u
theorem Slin.below {w w' : World} {v : Value} {l : List Ord.P} (h : Slin w v l) (hb : Below w.heap.size w w') : Slin w' v l := by
  rcases h with h | ⟨a, c, hv, hx⟩
  · exact .inl h
  · refine .inr ⟨a, c, hv, fun j u hj => ?_⟩
    have h0 := hx j u hj
    exact (hb.cell (World.block_lt_of_cell? _ _ h0)).trans h0
theorem cellsPs_one (l : List Ord.P) : ∀ u ∈ l.flatMap cellsP, u.oneCell' = true := by
  intro u hu
  obtain ⟨p, _, hp⟩ := List.mem_flatMap.1 hu
  simp [cellsP] at hp
  rcases hp with rfl | rfl | rfl <;> rfl
/-- What Under answers. -/
def underOut (K : List UInt8) : Value := if K.length ≤ 255 then .tuple #[.string (str K), .string (str (aft K).1)] else .tuple #[.string ⟨#[]⟩, .string ⟨#[]⟩]
theorem key_head (s : List UInt8) (l : List Ord.P) : Ord.key (⟨true, 0, s⟩ :: l) = 2 :: (Ord.esc s ++ [0, 0] ++ Ord.key l) := by
  rw [Ord.key_cons]; rfl
set_option maxHeartbeats 2000000 in
theorem under_any (s : List UInt8) (v : Value) (l : List Ord.P) (hll : l.length ≤ 5) (hs : s.length ≤ 400) (hl : ∀ p ∈ l, p.n < 18446744073709551616 ∧ p.s.length ≤ 400) (m : Int) (w : World) (hm : w.cell? ⟨0, 0, none⟩ = some (.int .i64 m)) (hv : Slin w v l) :
    Calls Tryz.prog 57 #[.string (str s), v] w fun e w' => e = .returned (underOut (Ord.key (⟨true, 0, s⟩ :: l))) ∧ Below w.heap.size w w' := by
  obtain ⟨i0, hi, hz0, hz1, hz2⟩ := info_parts info41
  have h0 := World.block_lt_of_cell? _ _ hm
  have HM : Hid (∀ W, Below w.heap.size w W → W.cell? ⟨0, 0, none⟩ = some (.int .i64 m)) := fun W hW => (hW.cell (p := ⟨0, 0, none⟩) h0).trans hm
  have hst := fun W => strP_any s W
  unfold aggP at hst
  have HST := Lib.hid hst
  have HV : Hid (∀ W, Below w.heap.size w W → Slin W v l) := fun W hW => hv.below hW
  have HK : Hid (∀ u W, Below w.heap.size w W → Sl W u (⟨true, 0, s⟩ :: l) → Calls Tryz.prog 51 #[u] W fun e w' => e = .returned (keyOut (⟨true, 0, s⟩ :: l)) ∧ Below W.heap.size W w') := fun u W hW hu =>
    key_any u (⟨true, 0, s⟩ :: l) (by simp; omega) m W hu (by intro p hp; rcases List.mem_cons.1 hp with rfl | hp; exact ⟨by show 0 < _; decide, hs⟩; exact hl p hp) (HM.out W hW)
  have HAF := Lib.hid (fun W (h : (Ord.key (⟨true, 0, s⟩ :: l)).length ≤ 255) => after_any (str (Ord.key (⟨true, 0, s⟩ :: l))) (by rw [str_size]; omega) W)
  have hko : keyOut (⟨true, 0, s⟩ :: l) = if (Ord.key (⟨true, 0, s⟩ :: l)).length ≤ 255 then .tuple #[.string (str (Ord.key (⟨true, 0, s⟩ :: l))), .int .i64 0] else .tuple #[.string ⟨#[]⟩, .int .i64 5] := rfl
  rw [hko] at HK
  clear hko hst hm h0 hl hs
  revert HK HAF
  generalize Ord.key (⟨true, 0, s⟩ :: l) = K
  intro HK HAF
  unfold underOut
  have HOW : Hid (∀ W : World, (W.alloc (.cells #[.bool true, .int .u64 0, .string (str s)] 115)).ownsRow W.heap.size 115 3 (.slice (some ⟨W.heap.size, 0, none⟩) 1 1) 1 (cellsP ⟨true, 0, s⟩)) := fun W =>
    World.ownsRow_lit W #[.bool true, .int .u64 0, .string (str s)] 1 (Nat.le_refl _) (by decide) rfl
  have HFL : Hid (cellsP ⟨true, 0, s⟩ ++ l.flatMap cellsP = ((⟨true, 0, s⟩ : Ord.P) :: l).flatMap cellsP) := by show _ = _; rw [List.flatMap_cons]
  have go1 : ∀ (w2 : World) (v' : Value) (w1 : World), Hid (Below w.heap.size w w1) → Hid (Below w1.heap.size w1 w2) → Hid (w2.ownsRow w1.heap.size 115 3 v' (1 + l.length) (cellsP ⟨true, 0, s⟩ ++ l.flatMap cellsP)) → Sl w2 v' (⟨true, 0, s⟩ :: l) := by
    intro w2 v' w1 _ _ h
    have h' := h.out
    rw [HFL.out, Nat.add_comm] at h'
    exact Sl.own h'
  have GO1 := Lib.hid go1
  clear go1
  by_cases hk : K.length ≤ 255
  · rw [if_pos hk] at HK ⊢
    have HAF' := Lib.hid (fun W => HAF.out W hk)
    clear HAF hk
    rw [str_data] at HAF'
    revert HAF'
    generalize aft K = AF
    intro HAF
    go_enter Tryz.func57, Tryz.ntmps57
    rcases hv with ⟨rfl, rfl⟩ | ⟨a, c, rfl, _⟩
    · go_wp2_with (first
        | (go_at_call 52; refine (HST.out _).mono ?_; rintro e w1 ⟨rfl, hb1⟩)
        | (at_builtin; refine wpList_append_own_none _ rfl _ _ 180 rfl w1.heap.size 115 i0 3 Tryz.underlying180 hi _ 1 _ rfl (HOW.out w1) rfl ?_)
        | (go_at_call 51; refine (HK.out _ _ (below_step hb1 ((Below.refl _ _).alloc (Nat.le_refl _) _)) (Sl.one w1 ⟨true, 0, s⟩ 115)).mono ?_; rintro e w3 ⟨rfl, hb3⟩)
        | (go_at_call 107; refine (HAF.out _).mono ?_; rintro e w4 ⟨rfl, hb4⟩))
      go_ret2
      exact ⟨rfl, below_step (below_step (below_step hb1 ((Below.refl _ _).alloc (Nat.le_refl _) _)) hb3) hb4⟩
    · go_wp2_with (first
        | (go_at_call 52; refine (HST.out _).mono ?_; rintro e w1 ⟨rfl, hb1⟩)
        | (at_builtin; refine wpList_append_own _ rfl _ _ 180 rfl w1.heap.size 115 i0 _ 3 32 Tryz.underlying180 hi hz0 hz1 hz2 rfl (by decide) _ 1 _ rfl (HOW.out w1) a l.length c (l.flatMap cellsP) rfl ?c1 ?c2 ?c3 ?c4 ?c5 ?c6 ?_))
      case c1 => exact flat_length l
      case c2 =>
        rcases HV.out _ (below_step hb1 ((Below.refl _ _).alloc (Nat.le_refl _) (.cells #[.bool true, .int .u64 0, .string (str s)] 115))) with ⟨_, h⟩ | ⟨a', c', h, hx⟩
        · cases h
        · simp only [Value.slice.injEq, Option.some.injEq] at h
          obtain ⟨rfl, _, rfl⟩ := h
          exact hx
      case c3 => exact cellsPs_one l
      case c4 => unfold maxLen; omega
      case c5 => omega
      case c6 => simp
      intro v' w2 hown' hgrow _
      have HB2 : Hid (Below w1.heap.size w1 w2) := ((Below.refl w1.heap.size w1).alloc (Nat.le_refl _) _).grown hgrow (by simp) (fun g hg => by simp [Value.ownBlock] at hg; subst hg; exact Nat.le_refl _)
      have HSL := Lib.hid (GO1.out w2 v' w1 hb1 HB2 hown')
      have HB3 := Lib.hid (hb1.trans (HB2.out.mono hb1.size))
      clear hown' hgrow
      go_wp2_with (first
        | (go_at_call 51; refine (HK.out _ _ HB3.out HSL.out).mono ?_; rintro e w3 ⟨rfl, hb3⟩)
        | (go_at_call 107; refine (HAF.out _).mono ?_; rintro e w4 ⟨rfl, hb4⟩))
      go_ret2
      exact ⟨rfl, below_step (below_step HB3.out hb3) hb4⟩
  · rw [if_neg hk] at HK ⊢
    clear HAF hk
    go_enter Tryz.func57, Tryz.ntmps57
    rcases hv with ⟨rfl, rfl⟩ | ⟨a, c, rfl, _⟩
    · go_wp2_with (first
        | (go_at_call 52; refine (HST.out _).mono ?_; rintro e w1 ⟨rfl, hb1⟩)
        | (at_builtin; refine wpList_append_own_none _ rfl _ _ 180 rfl w1.heap.size 115 i0 3 Tryz.underlying180 hi _ 1 _ rfl (HOW.out w1) rfl ?_)
        | (go_at_call 51; refine (HK.out _ _ (below_step hb1 ((Below.refl _ _).alloc (Nat.le_refl _) _)) (Sl.one w1 ⟨true, 0, s⟩ 115)).mono ?_; rintro e w3 ⟨rfl, hb3⟩))
      go_ret2
      exact ⟨rfl, below_step (below_step hb1 ((Below.refl _ _).alloc (Nat.le_refl _) _)) hb3⟩
    · go_wp2_with (first
        | (go_at_call 52; refine (HST.out _).mono ?_; rintro e w1 ⟨rfl, hb1⟩)
        | (at_builtin; refine wpList_append_own _ rfl _ _ 180 rfl w1.heap.size 115 i0 _ 3 32 Tryz.underlying180 hi hz0 hz1 hz2 rfl (by decide) _ 1 _ rfl (HOW.out w1) a l.length c (l.flatMap cellsP) rfl ?c1 ?c2 ?c3 ?c4 ?c5 ?c6 ?_))
      case c1 => exact flat_length l
      case c2 =>
        rcases HV.out _ (below_step hb1 ((Below.refl _ _).alloc (Nat.le_refl _) (.cells #[.bool true, .int .u64 0, .string (str s)] 115))) with ⟨_, h⟩ | ⟨a', c', h, hx⟩
        · cases h
        · simp only [Value.slice.injEq, Option.some.injEq] at h
          obtain ⟨rfl, _, rfl⟩ := h
          exact hx
      case c3 => exact cellsPs_one l
      case c4 => unfold maxLen; omega
      case c5 => omega
      case c6 => simp
      intro v' w2 hown' hgrow _
      have HB2 : Hid (Below w1.heap.size w1 w2) := ((Below.refl w1.heap.size w1).alloc (Nat.le_refl _) _).grown hgrow (by simp) (fun g hg => by simp [Value.ownBlock] at hg; subst hg; exact Nat.le_refl _)
      have HSL := Lib.hid (GO1.out w2 v' w1 hb1 HB2 hown')
      have HB3 := Lib.hid (hb1.trans (HB2.out.mono hb1.size))
      clear hown' hgrow
      go_wp2_with (first
        | (go_at_call 51; refine (HK.out _ _ HB3.out HSL.out).mono ?_; rintro e w3 ⟨rfl, hb3⟩))
      go_ret2
      exact ⟨rfl, below_step HB3.out hb3⟩
end Go.Proofs.YtdghhffknfkcaaaGreatDoor
