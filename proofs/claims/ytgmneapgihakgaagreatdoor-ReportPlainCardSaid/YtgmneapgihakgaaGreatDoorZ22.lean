/- Texts of one seat, merged. -/
import Derived.Test.YtgmneapgihakgaaGreatDoorZ21
import Derived.Test.YtgmneapgihakgaaGreatDoorZ20
import Derived.Deep.RegionHeld3
import Derived.Test.YtgmneapgihakgaaGreatDoorZ14
set_option maxRecDepth 100000
set_option maxHeartbeats 4000000
set_option linter.unusedVariables false
/- schema's fits, of a queue's key. -/
namespace Go.Proofs.YtgmneapgihakgaaGreatDoor
open Go.RowKit Go.Sort Go.Maps
/-- A row of two parts, a sort and a text. -/
structure Two (w : World) (b o : Nat) (s t : List UInt8) : Prop where
  c0 : w.cell? ⟨b, o, none⟩ = some (.bool true)
  c1 : w.cell? ⟨b, o + 1, none⟩ = some (.int .u64 0)
  c2 : w.cell? ⟨b, o + 2, none⟩ = some (.string (str s))
  c3 : w.cell? ⟨b, o + 3, none⟩ = some (.bool true)
  c4 : w.cell? ⟨b, o + 3 + 1, none⟩ = some (.int .u64 0)
  c5 : w.cell? ⟨b, o + 3 + 2, none⟩ = some (.string (str t))
theorem Two.lt {w : World} {b o : Nat} {s t : List UInt8} (h : Two w b o s t) : b < w.heap.size := World.block_lt_of_cell? _ _ h.c0
theorem Two.below {w w' : World} {b o : Nat} {s t : List UInt8} (h : Two w b o s t) (hb : Below w.heap.size w w') : Two w' b o s t := by
  have hl := h.lt
  exact ⟨(hb.cell (p := ⟨b, o, none⟩) hl).trans h.c0, (hb.cell (p := ⟨b, o + 1, none⟩) hl).trans h.c1, (hb.cell (p := ⟨b, o + 2, none⟩) hl).trans h.c2, (hb.cell (p := ⟨b, o + 3, none⟩) hl).trans h.c3, (hb.cell (p := ⟨b, o + 3 + 1, none⟩) hl).trans h.c4, (hb.cell (p := ⟨b, o + 3 + 2, none⟩) hl).trans h.c5⟩
theorem Two.of {w : World} {a : Option Addr} {n c : Nat} {s t : List UInt8} (h : Sl w (.slice a n c) [pS s, pS t]) : ∃ b o, a = some ⟨b, o, none⟩ ∧ n = 2 ∧ Two w b o s t := by
  obtain ⟨a', b, o, c', hv, ha, hx⟩ := h
  cases hv
  obtain rfl := ha.resolve_left (by simp)
  obtain ⟨h0, h1, h2⟩ := hx 0 (pS s) rfl
  obtain ⟨h3, h4, h5⟩ := hx 1 (pS t) rfl
  exact ⟨b, o, rfl, rfl, ⟨by simpa [pS] using h0, by simpa [pS] using h1, by simpa [pS] using h2, by simpa [pS] using h3, by simpa [pS] using h4, by simpa [pS] using h5⟩⟩
def SF (b o : Nat) (w W : World) : Prop := W.cell? ⟨b, o, none⟩ = some (.bool true) ∧ W.cell? ⟨b, o + 1, none⟩ = some (.int .u64 0) ∧ W.cell? ⟨b, o + 2, none⟩ = some (.string ⟨#[113]⟩) ∧ Below w.heap.size w W
theorem sf0 {w : World} {b o : Nat} {t : List UInt8} (h : Two w b o [113] t) : SF b o w w.drew := ⟨h.c0, h.c1, h.c2, (Below.refl _ _).drew⟩
theorem sfs {w W W' : World} {b o : Nat} (h : SF b o w W) (hb : Below W.heap.size W W') : SF b o w W' := by
  obtain ⟨h0, h1, h2, h3⟩ := h
  have hl : b < W.heap.size := World.block_lt_of_cell? _ _ h0
  exact ⟨(hb.cell (p := ⟨b, o, none⟩) hl).trans h0, (hb.cell (p := ⟨b, o + 1, none⟩) hl).trans h1, (hb.cell (p := ⟨b, o + 2, none⟩) hl).trans h2, below_step h3 hb⟩
theorem Stays_drew (B : Nat) (w : World) (q : Nat) : Below B w (w.drewN q) := ⟨rfl, rfl, rfl, Nat.le_refl _, fun _ _ => rfl⟩
theorem neqP (w : World) : (binOp .neq 192 (.agg #[.bool true, .int .u64 0, .string ⟨#[113]⟩]) (.agg #[.bool true, .int .u64 0, .string ⟨#[113]⟩])).run Tryz.prog w = .ok (.bool false) w := by kernel_rfl
set_option maxHeartbeats 4000000 in
theorem fitsQ {w : World} {b o c n k : Nat} {nm : Txt} (h : Two w b o [113] nm) (hn : n = 2) (hk : k = 1) {g : Nat} (hg : BoxL w g 192 #[.bool true, .int .u64 0, .string ⟨#[]⟩]) :
    Calls Tryz.prog 102 #[.slice (some ⟨b, o, none⟩) n c, .string ⟨#[113]⟩, .slice (some ⟨g, 0, none⟩) k k] w fun e w' => e = .returned (.bool true) ∧ Below w.heap.size w w' := by
  have hs2 := fun W => strP_any [113] W
  unfold aggP at hs2
  have HS : Hid (∀ W, Calls Tryz.prog 103 #[.string ⟨#[113]⟩] W fun e w' => e = .returned (.agg #[.bool true, .int .u64 0, .string ⟨#[113]⟩]) ∧ Below W.heap.size W w') := hs2
  have HT := Lib.hid h
  have HG := Lib.hid hg
  have hmx := mixed0
  have hneq := fun W => neqP W
  have H0 := Lib.hid (sf0 HT.out)
  have hw : IntKind.i64.wrap ((k : Int) + 1) = (k : Int) + 1 := by subst hk; rfl
  have hne : ((n : Int) != (k : Int) + 1) = false := by subst hn; subst hk; rfl
  have hn0 : 0 < n := by omega
  have HN := Lib.hid hn
  have HKk := Lib.hid hk
  clear h hg hs2 hn hk
  go_enter Tryz.func102, Tryz.ntmps102
  go_wp2
  go_region_held3 (fun W => W.cell? ⟨b, o, none⟩ = some (.bool true) ∧ W.cell? ⟨b, o + 1, none⟩ = some (.int .u64 0) ∧ W.cell? ⟨b, o + 2, none⟩ = some (.string ⟨#[113]⟩) ∧ Below w.heap.size w W)
    ((first | with_reducible assumption | exact H0.out | exact sfs ‹_› hb1))
    (first | (go_at_call 103; refine (HS.out _).mono ?_; rintro e w1 ⟨rfl, hb1⟩))
  all_goals
    have HB1 : Hid (Below w.heap.size w w1) := by
      first
        | exact (‹_ ∧ _ ∧ _ ∧ Below w.heap.size w w1›).2.2.2
        | exact ‹Below w.heap.size w w1›
    clear hb1
    go_wp2
    go_loopg [25] k (fun gk i wr => ∃ j : Nat, j ≤ k ∧ gk = k - j ∧ i = .int .i64 j ∧ Hid (Below w.heap.size w wr))
    case atStart => exact ⟨0, Nat.zero_le _, rfl, rfl, HB1.out⟩
    case round =>
      obtain ⟨j, hj, rfl, rfl, HB⟩ := hrel
      by_cases hlt : j < k
      · have hj0 : j = 0 := by have := HKk.out; omega
        subst hj0
        have g1 := HG.out.below HB.out HG.out.lt
        have g2 := g1.alloc (.cells #[.bool true, .int .u64 0, .string ⟨#[]⟩] 192)
        have i0 := g1.cell (i := 0) rfl
        have i1 := g1.cell (i := 1) rfl
        have i2 := g1.cell (i := 2) rfl
        have t2 : Two (wr.alloc (.cells #[.bool true, .int .u64 0, .string ⟨#[]⟩] 192)) b o [113] nm := (HT.out.below HB.out).below ((Below.refl _ _).alloc (Nat.le_refl _) _)
        have m3 := t2.c3
        have m3' : (wr.alloc (.cells #[.bool true, .int .u64 0, .string ⟨#[]⟩] 192)).cell? ⟨b, o + 1 * 3, none⟩ = some (.bool true) := t2.c3
        have p0 := (BoxL.new wr #[.bool true, .int .u64 0, .string ⟨#[]⟩] 192).cell (i := 0) rfl
        have hn1 : 1 < n := by have := HN.out; omega
        clear g1 g2 t2
        go_wp2
        go_quiet (fail)
        go_wp2
        go_roundg (k - (0 + 1))
        case measure => omega
        case rel => exact ⟨0 + 1, by omega, rfl, by go_num, (HB.out.trans (((Below.refl _ _).alloc (Nat.le_refl _) _).mono HB.out.size)).trans (Stays_drew _ _ _)⟩
      · obtain rfl : j = k := by omega
        go_wp2
        go_ret
        exact ⟨rfl, HB.out⟩
end Go.Proofs.YtgmneapgihakgaaGreatDoor
/- schema's fits: where the lengths differ; of a binding's key. ask's Cut over a shelf. -/
namespace Go.Proofs.YtgmneapgihakgaaGreatDoor
open Go.RowKit Go.Sort Go.Maps
set_option maxHeartbeats 4000000 in
theorem fitsNo {w : World} {a g : Option Addr} {c d n k : Nat} {s : ByteArray} (hn : n ≤ 1000) (hk : k ≤ 1000) (hne : n ≠ k + 1) :
    Calls Tryz.prog 102 #[.slice a n c, .string s, .slice g k d] w fun e w' => e = .returned (.bool false) ∧ Below w.heap.size w w' := by
  have hmx := mixed0
  have hw : IntKind.i64.wrap ((k : Int) + 1) = (k : Int) + 1 := by simp [IntKind.wrap, IntKind.bits, IntKind.signed]; omega
  have hb : ((n : Int) != (k : Int) + 1) = true := by simp; omega
  clear hn hk hne
  go_enter Tryz.func102, Tryz.ntmps102
  go_wp2
  go_quiet (fail)
  go_wp2
  go_ret
  exact ⟨rfl, Stays_drew _ _ _⟩
theorem askCut_any {N : Nat} {M : Nat → Prop} {w : World} {p : Nat} {ks : List Txt} {f : Txt → Txt} (h : ShW N M w p ks f) (hN : N ≤ 80000) (k : Txt) (hk : k.length ≤ maxLen) :
    Calls Tryz.prog 76 #[.iface 25 (.pointer (some ⟨p, 0, none⟩)), .string (str k)] w fun e w' => e = .returned (.tuple #[.bool (decide (k ∈ ks)), .int .i64 0]) ∧ ∃ M' ks', remS ks k ks' ∧ ShW N M' w' p ks' f ∧ Went M M' w w' := by
  obtain ⟨sp, mb, B, n, v, hs, hM, h1, h2, h3, hp⟩ := h.ex
  refine (aCut_shelf p k (decide (k ∈ ks)) w (fun W => ∃ M' ks', remS ks k ks' ∧ ShW N M' W p ks' f ∧ Went M M' w W ∧ ∀ q, M' q → q ≠ w.heap.size ∧ q ≠ w.heap.size + 1) (fun W hW hz => ?_)).mono ?_
  · refine (shCut_any (hs.below hW) (by omega) k hk).mono ?_
    rintro e W' ⟨rfl, v', ks', hs', ha, hk', ho⟩
    have hw := ShK.went (N := N) (n := n) hM (fun k => Iff.rfl) hk' ho
    have hlt : ∀ q, M q → q < w.heap.size := h.lt
    refine ⟨rfl, ⟨_, ks', ha, ⟨⟨sp, mb, B, n, v', hs', fun k => Iff.rfl, by omega, by have := ha.2.2; omega, Nat.le_trans h3 (Nat.le_trans hW.size hk'.size), Nat.lt_of_lt_of_le hp (Nat.le_trans hW.size hk'.size)⟩, fun j hj => h.kl j ((ha.2.1 j).1 hj).2⟩, hw.pre hW, fun q hq => ?_⟩, ⟨hk'.size, fun j hj hl => ?_⟩⟩
    · rcases hw.grow q hq with h | h
      · have := hlt q h; omega
      · omega
    · exact hw.stays.same j (fun hm => by have := hlt j hm; omega) hl
  · rintro e w' ⟨rfl, W', ⟨M', ks', ha, hw, hwent, hne⟩, hb⟩
    exact ⟨rfl, M', ks', ha, hw.stays hb hne, ⟨hwent.grow, ⟨hb.os.trans hwent.stays.os, hb.tape.trans hwent.stays.tape, hb.output.trans hwent.stays.output, Nat.le_trans hwent.stays.size hb.size, fun k hk hl => (hb.same k (by omega) (Nat.lt_of_lt_of_le hl hwent.stays.size)).trans (hwent.stays.same k hk hl)⟩⟩⟩
end Go.Proofs.YtgmneapgihakgaaGreatDoor
/- schema's fits, where it is so. -/
namespace Go.Proofs.YtgmneapgihakgaaGreatDoor
open Go.RowKit Go.Sort Go.Maps
/-- A row of parts at a block: its kinds, and the first one's text. -/
structure FitL (w : World) (b o : Nat) (x : UInt8) (ts : List Bool) : Prop where
  c0 : w.cell? ⟨b, o, none⟩ = some (.bool true)
  c1 : w.cell? ⟨b, o + 1, none⟩ = some (.int .u64 0)
  c2 : w.cell? ⟨b, o + 2, none⟩ = some (.string ⟨#[x]⟩)
  at' : ∀ j t, ts[j]? = some t → w.cell? ⟨b, o + (j + 1) * 3, none⟩ = some (.bool t)
theorem FitL.lt {w : World} {b o : Nat} {x : UInt8} {ts : List Bool} (h : FitL w b o x ts) : b < w.heap.size := World.block_lt_of_cell? _ _ h.c0
theorem FitL.below {w w' : World} {b o : Nat} {x : UInt8} {ts : List Bool} {B : Nat} (h : FitL w b o x ts) (hb : Below B w w') (hl : b < B) : FitL w' b o x ts :=
  ⟨(hb.cell (p := ⟨b, o, none⟩) hl).trans h.c0, (hb.cell (p := ⟨b, o + 1, none⟩) hl).trans h.c1, (hb.cell (p := ⟨b, o + 2, none⟩) hl).trans h.c2, fun j t hj => (hb.cell (p := ⟨b, o + (j + 1) * 3, none⟩) hl).trans (h.at' j t hj)⟩
/-- Parts like which others are. -/
structure LikeL (w : World) (g : Nat) (ts : List Bool) : Prop where
  lt : g < w.heap.size
  at' : ∀ j t, ts[j]? = some t → w.cell? ⟨g, j * 3, none⟩ = some (.bool t) ∧ w.cell? ⟨g, j * 3 + 1, none⟩ = some (.int .u64 0) ∧ w.cell? ⟨g, j * 3 + 2, none⟩ = some (.string ⟨#[]⟩)
theorem LikeL.below {w w' : World} {g : Nat} {ts : List Bool} {B : Nat} (h : LikeL w g ts) (hb : Below B w w') (hl : g < B)  : LikeL w' g ts :=
  ⟨Nat.lt_of_lt_of_le h.lt hb.size, fun j t hj => ⟨(hb.cell (p := ⟨g, j * 3, none⟩) hl).trans (h.at' j t hj).1, (hb.cell (p := ⟨g, j * 3 + 1, none⟩) hl).trans (h.at' j t hj).2.1, (hb.cell (p := ⟨g, j * 3 + 2, none⟩) hl).trans (h.at' j t hj).2.2⟩⟩
def SG (b o : Nat) (x : UInt8) (w W : World) : Prop := W.cell? ⟨b, o, none⟩ = some (.bool true) ∧ W.cell? ⟨b, o + 1, none⟩ = some (.int .u64 0) ∧ W.cell? ⟨b, o + 2, none⟩ = some (.string ⟨#[x]⟩) ∧ Below w.heap.size w W
theorem sg0 {w : World} {b o : Nat} {x : UInt8} {ts : List Bool} (h : FitL w b o x ts) : SG b o x w w.drew := ⟨h.c0, h.c1, h.c2, (Below.refl _ _).drew⟩
theorem sgs {w W W' : World} {b o : Nat} {x : UInt8} (h : SG b o x w W) (hb : Below W.heap.size W W') : SG b o x w W' := by
  obtain ⟨h0, h1, h2, h3⟩ := h
  have hl : b < W.heap.size := World.block_lt_of_cell? _ _ h0
  exact ⟨(hb.cell (p := ⟨b, o, none⟩) hl).trans h0, (hb.cell (p := ⟨b, o + 1, none⟩) hl).trans h1, (hb.cell (p := ⟨b, o + 2, none⟩) hl).trans h2, below_step h3 hb⟩
set_option maxHeartbeats 4000000 in
theorem fitsT {w : World} {b o c n k g : Nat} {x : UInt8} {ts : List Bool} (h : FitL w b o x ts) (hn : n = ts.length + 1) (hk : k = ts.length) (hts : ts.length ≤ 1000) (hg : LikeL w g ts)
    (hneq : ∀ W, (binOp .neq 192 (.agg #[.bool true, .int .u64 0, .string ⟨#[x]⟩]) (.agg #[.bool true, .int .u64 0, .string ⟨#[x]⟩])).run Tryz.prog W = .ok (.bool false) W) :
    Calls Tryz.prog 102 #[.slice (some ⟨b, o, none⟩) n c, .string ⟨#[x]⟩, .slice (some ⟨g, 0, none⟩) k k] w fun e w' => e = .returned (.bool true) ∧ Below w.heap.size w w' := by
  have HS : Hid (∀ W, Calls Tryz.prog 103 #[.string ⟨#[x]⟩] W fun e w' => e = .returned (.agg #[.bool true, .int .u64 0, .string ⟨#[x]⟩]) ∧ Below W.heap.size W w') := fun W => strP' ⟨#[x]⟩ W
  have HT := Lib.hid h
  have HG := Lib.hid hg
  have hmx := mixed0
  have H0 := Lib.hid (sg0 HT.out)
  have hw : IntKind.i64.wrap ((k : Int) + 1) = (k : Int) + 1 := by simp [IntKind.wrap, IntKind.bits, IntKind.signed]; omega
  have hne : ((n : Int) != (k : Int) + 1) = false := by simp; omega
  have hn0 : 0 < n := by omega
  have HN := Lib.hid hn
  have HKk := Lib.hid hk
  have HTS := Lib.hid hts
  clear h hg hn hk hts
  go_enter Tryz.func102, Tryz.ntmps102
  go_wp2
  go_region_held3 (fun W => W.cell? ⟨b, o, none⟩ = some (.bool true) ∧ W.cell? ⟨b, o + 1, none⟩ = some (.int .u64 0) ∧ W.cell? ⟨b, o + 2, none⟩ = some (.string ⟨#[x]⟩) ∧ Below w.heap.size w W)
    ((first | with_reducible assumption | exact H0.out | exact sgs ‹_› hb1))
    (first | (go_at_call 103; refine (HS.out _).mono ?_; rintro e w1 ⟨rfl, hb1⟩))
  all_goals
    have HB1 : Hid (Below w.heap.size w w1) := by
      first
        | exact (‹_ ∧ _ ∧ _ ∧ Below w.heap.size w w1›).2.2.2
        | exact ‹Below w.heap.size w w1›
    clear hb1
    go_wp2
    go_loopg [25] k (fun gk i wr => ∃ j : Nat, j ≤ k ∧ gk = k - j ∧ i = .int .i64 j ∧ Hid (Below w.heap.size w wr))
    case atStart => exact ⟨0, Nat.zero_le _, rfl, rfl, HB1.out⟩
    case round =>
      obtain ⟨j, hj, rfl, rfl, HB⟩ := hrel
      by_cases hlt : j < k
      · obtain ⟨t, ht⟩ : ∃ t, ts[j]? = some t := ⟨_, List.getElem?_eq_getElem (by have := HKk.out; omega)⟩
        have HTj := Lib.hid ht
        have g1 := HG.out.below HB.out HG.out.lt
        obtain ⟨i0, i1, i2⟩ := g1.at' j t ht
        have hbA : Below wr.heap.size wr (wr.alloc (.cells #[.bool t, .int .u64 0, .string ⟨#[]⟩] 192)) := (Below.refl _ _).alloc (Nat.le_refl _) _
        have t1 := HT.out.below HB.out HT.out.lt
        have t2 := t1.below hbA t1.lt
        have m3 := t2.at' j t ht
        have m3' : (wr.alloc (.cells #[.bool t, .int .u64 0, .string ⟨#[]⟩] 192)).cell? ⟨b, o + (j + 1) * 3, none⟩ = some (.bool t) := m3
        have p0 := (BoxL.new wr #[.bool t, .int .u64 0, .string ⟨#[]⟩] 192).cell (i := 0) rfl
        have hn1 : j + 1 < n := by have := HN.out; have := HKk.out; omega
        have hwj : IntKind.i64.wrap ((j : Int) + 1) = (j : Int) + 1 := by have := HTS.out; have := HKk.out; simp [IntKind.wrap, IntKind.bits, IntKind.signed]; omega
        have hjk : (j : Int) < (k : Int) := by omega
        have HFin : Hid (∀ q, Below w.heap.size w ((wr.alloc (.cells #[.bool t, .int .u64 0, .string ⟨#[]⟩] 192)).drewN q)) := fun q => (HB.out.trans (hbA.mono HB.out.size)).trans (Stays_drew _ _ _)
        clear g1 t1 t2 ht hbA
        go_wp2
        go_quiet (fail)
        go_wp2
        go_roundg (k - (j + 1))
        case measure => omega
        case rel => exact ⟨j + 1, by omega, rfl, by go_num, HFin.out _⟩
      · obtain rfl : j = k := by omega
        go_wp2
        go_ret
        exact ⟨rfl, HB.out⟩
end Go.Proofs.YtgmneapgihakgaaGreatDoor
/- schema's Parse of a queue's key; registry's queue. -/
namespace Go.Proofs.YtgmneapgihakgaaGreatDoor
open Go.RowKit Go.Sort Go.Maps
theorem pS_ok (s : List UInt8) : (pS s).ok := ⟨rfl, by show (0 : Nat) < _; omega⟩
theorem partsQ (nm : Txt) (hk : (kQ nm).length ≤ 255) (w : World) :
    Calls Tryz.prog 101 #[.string (str (kQ nm))] w fun e w' => ∃ b o n c, e = .returned (.tuple #[.slice (some ⟨b, o, none⟩) n c, .int .i64 0]) ∧ n = 2 ∧ Two w' b o [113] nm ∧ Below w.heap.size w w' := by
  refine (parts_any (kQ nm) (by omega) w).mono ?_
  rintro e w' (⟨l, hl, hK, _, a, n, c, hn, he, hs, hb⟩ | ⟨hno, _, _⟩)
  · have hl2 : [pS [113], pS nm] = l := Ord.key_inj _ _ (by intro p hp; simp at hp; rcases hp with rfl | rfl; exact pS_ok _; exact pS_ok _) hl hK
    subst hl2
    obtain ⟨b, o, rfl, hn2, ht⟩ := Two.of hs
    exact ⟨b, o, n, c, he, hn2, ht, hb⟩
  · exact absurd rfl (hno hk [pS [113], pS nm] (by intro p hp; simp at hp; rcases hp with rfl | rfl; exact pS_ok _; exact pS_ok _))
theorem rrPa {w : World} {g : Nat} {x0 x1 x2 x3 x4 x5 x6 x7 x8 : Value} {e : Int} {tmps : Array Value} (ht : tmps[2]? = some (.pointer (some ⟨g, 0, none⟩))) (h3 : tmps[3]? = some (.int .i64 e)) (hx : BoxL w g 75 #[x0, x1, x2, x3, x4, x5, x6, x7, x8]) :
    (results Tryz.f25 tmps).run Tryz.prog w = .ok (.tuple #[.agg #[x0, x1, x2, x3, x4, x5, x6, x7, x8], .int .i64 e]) w := by
  have h00 := hx.cell (i := 0) rfl
  have h01 := hx.cell (i := 1) rfl
  have h02 := hx.cell (i := 2) rfl
  have h03 := hx.cell (i := 3) rfl
  have h04 := hx.cell (i := 4) rfl
  have h05 := hx.cell (i := 5) rfl
  have h06 := hx.cell (i := 6) rfl
  have h07 := hx.cell (i := 7) rfl
  have h08 := hx.cell (i := 8) rfl
  simp [results, Tryz.results25, go_sem, ht, h3, h00, h01, h02, h03, h04, h05, h06, h07, h08]
set_option maxHeartbeats 4000000 in
theorem parseQ (nm : Txt) (hk : (kQ nm).length ≤ 255) (w : World) :
    Calls Tryz.prog 25 #[.string (str (kQ nm))] w fun e w' => e = .returned (.tuple #[.agg #[.string ⟨#[113]⟩, .string (str nm), .int .u64 0, .int .u64 0, .string ⟨#[]⟩, .int .i64 0, .string ⟨#[]⟩, .string ⟨#[]⟩, .string ⟨#[]⟩], .int .i64 0]) ∧ Below w.heap.size w w' := by
  have HX := Lib.hid (BoxL.new w #[.string ⟨#[]⟩, .string ⟨#[]⟩, .int .u64 0, .int .u64 0, .string ⟨#[]⟩, .int .i64 0, .string ⟨#[]⟩, .string ⟨#[]⟩, .string ⟨#[]⟩] 75)
  have HA : Hid (Below w.heap.size w (w.alloc (.cells #[.string ⟨#[]⟩, .string ⟨#[]⟩, .int .u64 0, .int .u64 0, .string ⟨#[]⟩, .int .i64 0, .string ⟨#[]⟩, .string ⟨#[]⟩, .string ⟨#[]⟩] 75))) := (Below.refl _ _).alloc (Nat.le_refl _) _
  have HP := Lib.hid (partsQ nm hk (w.alloc (.cells #[.string ⟨#[]⟩, .string ⟨#[]⟩, .int .u64 0, .int .u64 0, .string ⟨#[]⟩, .int .i64 0, .string ⟨#[]⟩, .string ⟨#[]⟩, .string ⟨#[]⟩] 75)))
  have hs2 := fun W => strP_any [] W
  unfold aggP at hs2
  have HS : Hid (∀ W, Calls Tryz.prog 103 #[.string ⟨#[]⟩] W fun e w' => e = .returned (.agg #[.bool true, .int .u64 0, .string ⟨#[]⟩]) ∧ Below W.heap.size W w') := hs2
  clear hs2 hk
  go_enter Tryz.func25, Tryz.ntmps25
  go_wp2_with (first
    | (go_at_call 101; refine HP.out.mono ?_; rintro e1 w1 ⟨b, o, n, c, rfl, hn, ht, hb1⟩; have HN := Lib.hid hn; have HT := Lib.hid ht; have hn1 : 1 < n := (by omega); have y1 := HX.out.below hb1 HX.out.lt; have HY := Lib.hid y1; clear hn ht y1)
    | (go_at_call 103; refine (HS.out _).mono ?_; rintro e2 w2 ⟨rfl, hb2⟩)
    | (go_at_call 102; refine (fitsQ (w := w2.alloc (.cells #[.bool true, .int .u64 0, .string ⟨#[]⟩] 192)) ((HT.out.below hb2).below ((Below.refl _ _).alloc (Nat.le_refl _) _)) HN.out rfl (BoxL.new w2 #[.bool true, .int .u64 0, .string ⟨#[]⟩] 192)).mono ?_; rintro e3 w3 ⟨rfl, hb3⟩; have t3 := ((HT.out.below hb2).below ((Below.refl _ _).alloc (Nat.le_refl _) (.cells #[.bool true, .int .u64 0, .string ⟨#[]⟩] 192))).below hb3; have m5 := t3.c5; have m5' : w3.cell? ⟨b, o + 1 * 3 + 2, none⟩ = some (.string (str nm)) := t3.c5; have x1 := ((HY.out.below hb2 HY.out.lt).alloc (.cells #[.bool true, .int .u64 0, .string ⟨#[]⟩] 192)).below hb3 ((HY.out.below hb2 HY.out.lt).alloc (.cells #[.bool true, .int .u64 0, .string ⟨#[]⟩] 192)).lt; have f1 := x1.frozen; have q0 := x1.cell (i := 0) rfl; have q1 := x1.cell (i := 1) rfl; have q2 := x1.cell (i := 2) rfl; have q3 := x1.cell (i := 3) rfl; have q4 := x1.cell (i := 4) rfl; have q5 := x1.cell (i := 5) rfl; have q6 := x1.cell (i := 6) rfl; have q7 := x1.cell (i := 7) rfl; have q8 := x1.cell (i := 8) rfl))
  have xs := (((((((((x1.set 0 (.string ⟨#[113]⟩)).set 1 (.string (str nm))).set 2 (.int .u64 0)).set 3 (.int .u64 0)).set 4 (.string ⟨#[]⟩)).set 5 (.int .i64 0)).set 6 (.string ⟨#[]⟩)).set 7 (.string ⟨#[]⟩)).set 8 (.string ⟨#[]⟩))
  refine bodyPost_ret_by (rrPa rfl rfl xs) rfl ⟨rfl, ?_⟩
  have hB3 : Below w.heap.size w w3 := by
    have s1 := below_step HA.out hb1
    have s2 := below_step s1 hb2
    have s3 := s2.trans (((Below.refl _ w2).alloc (Nat.le_refl _) (.cells #[.bool true, .int .u64 0, .string ⟨#[]⟩] 192)).mono s2.size)
    exact below_step s3 hb3
  exact (((((((((hB3.setCell (p := ⟨w.heap.size, 0, none⟩) (Nat.le_refl _) _).setCell (p := ⟨w.heap.size, 1, none⟩) (Nat.le_refl _) _).setCell (p := ⟨w.heap.size, 2, none⟩) (Nat.le_refl _) _).setCell (p := ⟨w.heap.size, 3, none⟩) (Nat.le_refl _) _).setCell (p := ⟨w.heap.size, 4, none⟩) (Nat.le_refl _) _).setCell (p := ⟨w.heap.size, 5, none⟩) (Nat.le_refl _) _).setCell (p := ⟨w.heap.size, 6, none⟩) (Nat.le_refl _) _).setCell (p := ⟨w.heap.size, 7, none⟩) (Nat.le_refl _) _).setCell (p := ⟨w.heap.size, 8, none⟩) (Nat.le_refl _) _)
end Go.Proofs.YtgmneapgihakgaaGreatDoor
/- schema's bound: the thing of a binding's parts. -/
namespace Go.Proofs.YtgmneapgihakgaaGreatDoor
open Go.RowKit Go.Sort Go.Maps
/-- What bound reads of a binding's parts. -/
structure BdL (w : World) (b o : Nat) (ex : Txt) (u : Nat) (ky qu : Txt) : Prop where
  c1 : w.cell? ⟨b, o + 3 + 2, none⟩ = some (.string (str ex))
  c2 : w.cell? ⟨b, o + 6 + 1, none⟩ = some (.int .u64 u)
  c3 : w.cell? ⟨b, o + 9 + 2, none⟩ = some (.string (str ky))
  c4 : w.cell? ⟨b, o + 12 + 2, none⟩ = some (.string (str qu))
theorem BdL.below {w w' : World} {b o : Nat} {ex : Txt} {u : Nat} {ky qu : Txt} (h : BdL w b o ex u ky qu) (hb : Below w.heap.size w w') : BdL w' b o ex u ky qu := by
  have hl : b < w.heap.size := World.block_lt_of_cell? _ _ h.c1
  exact ⟨(hb.cell (p := ⟨b, o + 3 + 2, none⟩) hl).trans h.c1, (hb.cell (p := ⟨b, o + 6 + 1, none⟩) hl).trans h.c2, (hb.cell (p := ⟨b, o + 9 + 2, none⟩) hl).trans h.c3, (hb.cell (p := ⟨b, o + 12 + 2, none⟩) hl).trans h.c4⟩
theorem BoxL.drew {W : World} {g : Nat} {t : TypeId} {xs : Array Value} (h : BoxL W g t xs) : BoxL W.drew g t xs := h
theorem rrBo {w : World} {g : Nat} {x0 x1 x2 x3 x4 x5 x6 x7 x8 : Value} {e : Int} {tmps : Array Value} (ht : tmps[2]? = some (.pointer (some ⟨g, 0, none⟩))) (h3 : tmps[3]? = some (.int .i64 e)) (hx : BoxL w g 75 #[x0, x1, x2, x3, x4, x5, x6, x7, x8]) :
    (results Tryz.f105 tmps).run Tryz.prog w = .ok (.tuple #[.agg #[x0, x1, x2, x3, x4, x5, x6, x7, x8], .int .i64 e]) w := by
  have h00 := hx.cell (i := 0) rfl
  have h01 := hx.cell (i := 1) rfl
  have h02 := hx.cell (i := 2) rfl
  have h03 := hx.cell (i := 3) rfl
  have h04 := hx.cell (i := 4) rfl
  have h05 := hx.cell (i := 5) rfl
  have h06 := hx.cell (i := 6) rfl
  have h07 := hx.cell (i := 7) rfl
  have h08 := hx.cell (i := 8) rfl
  simp [results, Tryz.results105, go_sem, ht, h3, h00, h01, h02, h03, h04, h05, h06, h07, h08]
set_option maxHeartbeats 4000000 in
theorem bound_any {w : World} {b o c n : Nat} {ex : Txt} {u : Nat} {ky qu : Txt} {k : Int} (h : BdL w b o ex u ky qu) (hn : n = 5) (hk1 : IntKind.i64.wrap (u : Int) = k) (hk2 : IntKind.u64.wrap k = (u : Int)) :
    Calls Tryz.prog 105 #[.slice (some ⟨b, o, none⟩) n c] w fun e w' => e = .returned (.tuple #[.agg #[.string ⟨#[98]⟩, .string ⟨#[]⟩, .int .u64 0, .int .u64 0, .string (str ex), .int .i64 k, .string (str ky), .string (str qu), .string ⟨#[]⟩], .int .i64 0]) ∧ Below w.heap.size w w' := by
  have hbA : Below w.heap.size w (w.alloc (.cells #[.string ⟨#[]⟩, .string ⟨#[]⟩, .int .u64 0, .int .u64 0, .string ⟨#[]⟩, .int .i64 0, .string ⟨#[]⟩, .string ⟨#[]⟩, .string ⟨#[]⟩] 75)) := (Below.refl _ _).alloc (Nat.le_refl _) _
  have h2 := h.below hbA
  have c1 := h2.c1
  have c2 := h2.c2
  have c3 := h2.c3
  have c4 := h2.c4
  have x0 := BoxL.new w #[.string ⟨#[]⟩, .string ⟨#[]⟩, .int .u64 0, .int .u64 0, .string ⟨#[]⟩, .int .i64 0, .string ⟨#[]⟩, .string ⟨#[]⟩, .string ⟨#[]⟩] 75
  have HX := Lib.hid x0
  have HA := Lib.hid hbA
  have hn2 : 2 < n := by omega
  have hn1 : 1 < n := by omega
  have hn3 : 3 < n := by omega
  have hn4 : 4 < n := by omega
  have hmx := mixed0
  clear h h2 x0 hbA hn
  go_enter Tryz.func105, Tryz.ntmps105
  go_upto_region 4 with (fail)
  have d1 : (w.alloc (.cells #[.string ⟨#[]⟩, .string ⟨#[]⟩, .int .u64 0, .int .u64 0, .string ⟨#[]⟩, .int .i64 0, .string ⟨#[]⟩, .string ⟨#[]⟩, .string ⟨#[]⟩] 75)).drew.cell? ⟨b, o + 3 + 2, none⟩ = some (.string (str ex)) := c1
  have d3 : (w.alloc (.cells #[.string ⟨#[]⟩, .string ⟨#[]⟩, .int .u64 0, .int .u64 0, .string ⟨#[]⟩, .int .i64 0, .string ⟨#[]⟩, .string ⟨#[]⟩, .string ⟨#[]⟩] 75)).drew.cell? ⟨b, o + 9 + 2, none⟩ = some (.string (str ky)) := c3
  have d4 : (w.alloc (.cells #[.string ⟨#[]⟩, .string ⟨#[]⟩, .int .u64 0, .int .u64 0, .string ⟨#[]⟩, .int .i64 0, .string ⟨#[]⟩, .string ⟨#[]⟩, .string ⟨#[]⟩] 75)).drew.cell? ⟨b, o + 12 + 2, none⟩ = some (.string (str qu)) := c4
  have hbl := World.block_lt_of_cell? _ _ c1
  have bB : Below (w.alloc (.cells #[.string ⟨#[]⟩, .string ⟨#[]⟩, .int .u64 0, .int .u64 0, .string ⟨#[]⟩, .int .i64 0, .string ⟨#[]⟩, .string ⟨#[]⟩, .string ⟨#[]⟩] 75)).heap.size (w.alloc (.cells #[.string ⟨#[]⟩, .string ⟨#[]⟩, .int .u64 0, .int .u64 0, .string ⟨#[]⟩, .int .i64 0, .string ⟨#[]⟩, .string ⟨#[]⟩, .string ⟨#[]⟩] 75)) ((w.alloc (.cells #[.string ⟨#[]⟩, .string ⟨#[]⟩, .int .u64 0, .int .u64 0, .string ⟨#[]⟩, .int .i64 0, .string ⟨#[]⟩, .string ⟨#[]⟩, .string ⟨#[]⟩] 75)).alloc (.cells #[.string ⟨#[]⟩, .int .i64 0, .string ⟨#[]⟩, .string ⟨#[]⟩] 38)).drew := ((Below.refl _ _).alloc (Nat.le_refl _) _).drew
  have e1 := (bB.cell (p := ⟨b, o + 3 + 2, none⟩) hbl).trans c1
  have e3 := (bB.cell (p := ⟨b, o + 9 + 2, none⟩) hbl).trans c3
  have e4 := (bB.cell (p := ⟨b, o + 12 + 2, none⟩) hbl).trans c4
  clear c1 c2 c3 c4 hbl bB
  obtain ⟨wF, hwF⟩ : ∃ wF, wF = ((w.alloc (.cells #[.string ⟨#[]⟩, .string ⟨#[]⟩, .int .u64 0, .int .u64 0, .string ⟨#[]⟩, .int .i64 0, .string ⟨#[]⟩, .string ⟨#[]⟩, .string ⟨#[]⟩] 75)).alloc (.cells #[.string (str ex), .int .i64 k, .string (str ky), .string (str qu)] 38)).drew := ⟨_, rfl⟩
  have hbF : Below w.heap.size w wF := by rw [hwF]; exact (((Below.refl _ _).alloc (Nat.le_refl _) _).alloc (by simp) _).drew
  have x1 : BoxL wF w.heap.size 75 #[.string ⟨#[]⟩, .string ⟨#[]⟩, .int .u64 0, .int .u64 0, .string ⟨#[]⟩, .int .i64 0, .string ⟨#[]⟩, .string ⟨#[]⟩, .string ⟨#[]⟩] := by rw [hwF]; exact (BoxL.new w #[.string ⟨#[]⟩, .string ⟨#[]⟩, .int .u64 0, .int .u64 0, .string ⟨#[]⟩, .int .i64 0, .string ⟨#[]⟩, .string ⟨#[]⟩, .string ⟨#[]⟩] 75).alloc _
  have y1 : BoxL wF (w.heap.size + 1) 38 #[.string (str ex), .int .i64 k, .string (str ky), .string (str qu)] := by
    rw [hwF]
    have := BoxL.new (w.alloc (.cells #[.string ⟨#[]⟩, .string ⟨#[]⟩, .int .u64 0, .int .u64 0, .string ⟨#[]⟩, .int .i64 0, .string ⟨#[]⟩, .string ⟨#[]⟩, .string ⟨#[]⟩] 75)) #[.string (str ex), .int .i64 k, .string (str ky), .string (str qu)] 38
    rw [World.size_alloc] at this
    exact this
  have HF := Lib.hid hbF
  have HX1 := Lib.hid x1
  have f1 := x1.frozen
  have q0 := x1.cell (i := 0) rfl; have q1 := x1.cell (i := 1) rfl; have q2 := x1.cell (i := 2) rfl; have q3 := x1.cell (i := 3) rfl; have q4 := x1.cell (i := 4) rfl; have q5 := x1.cell (i := 5) rfl; have q6 := x1.cell (i := 6) rfl; have q7 := x1.cell (i := 7) rfl; have q8 := x1.cell (i := 8) rfl
  have z0 := y1.cell (i := 0) rfl; have z1 := y1.cell (i := 1) rfl; have z2 := y1.cell (i := 2) rfl; have z3 := y1.cell (i := 3) rfl
  rw [hwF] at f1 q0 q1 q2 q3 q4 q5 q6 q7 q8 z0 z1 z2 z3
  clear hbF x1 y1
  go_region
  all_goals
    go_wp2
    have xs : BoxL ((w.alloc (.cells #[.string ⟨#[98]⟩, .string ⟨#[]⟩, .int .u64 0, .int .u64 0, .string (str ex), .int .i64 k, .string (str ky), .string (str qu), .string ⟨#[]⟩] 75)).alloc (.cells #[.string (str ex), .int .i64 k, .string (str ky), .string (str qu)] 38)) w.heap.size 75 #[.string ⟨#[98]⟩, .string ⟨#[]⟩, .int .u64 0, .int .u64 0, .string (str ex), .int .i64 k, .string (str ky), .string (str qu), .string ⟨#[]⟩] := (BoxL.new w #[.string ⟨#[98]⟩, .string ⟨#[]⟩, .int .u64 0, .int .u64 0, .string (str ex), .int .i64 k, .string (str ky), .string (str qu), .string ⟨#[]⟩] 75).alloc _
    exact bodyPost_ret_by (rrBo rfl rfl (BoxL.drew xs)) rfl ⟨rfl, (((Below.refl _ _).alloc (Nat.le_refl _) _).alloc (by simp) _).drew⟩
end Go.Proofs.YtgmneapgihakgaaGreatDoor
/- schema's Parse of a binding's key. -/
namespace Go.Proofs.YtgmneapgihakgaaGreatDoor
open Go.RowKit Go.Sort Go.Maps
def kBd (ex : Txt) (u : Nat) (ky qu : Txt) : Txt := Ord.key (bParts ex u ky qu)
theorem bParts_ok (ex : Txt) (u : Nat) (ky qu : Txt) (hu : u < 18446744073709551616) : ∀ p ∈ bParts ex u ky qu, p.ok := by
  intro p hp
  simp [bParts] at hp
  rcases hp with rfl | rfl | rfl | rfl | rfl
  · exact pS_ok _
  · exact pS_ok _
  · exact ⟨rfl, hu⟩
  · exact pS_ok _
  · exact pS_ok _
theorem partsB (ex : Txt) (u : Nat) (ky qu : Txt) (hu : u < 18446744073709551616) (hk : (kBd ex u ky qu).length ≤ 255) (w : World) :
    Calls Tryz.prog 101 #[.string (str (kBd ex u ky qu))] w fun e w' => ∃ b o n c, e = .returned (.tuple #[.slice (some ⟨b, o, none⟩) n c, .int .i64 0]) ∧ n = 5 ∧ FitL w' b o 98 [true, false, true, true] ∧ BdL w' b o ex u ky qu ∧ Below w.heap.size w w' := by
  refine (parts_any (kBd ex u ky qu) (by omega) w).mono ?_
  rintro e w' (⟨l, hl, hK, _, a, n, c, hn, he, hs, hb⟩ | ⟨hno, _, _⟩)
  · have hl2 : bParts ex u ky qu = l := Ord.key_inj _ _ (bParts_ok ex u ky qu hu) hl hK
    subst hl2
    obtain ⟨a', b, o, c', hv, ha, hx⟩ := hs
    cases hv
    obtain rfl := ha.resolve_left (by simp [bParts])
    obtain ⟨a0, a1, a2⟩ := hx 0 (pS [98]) rfl
    obtain ⟨b0, b1, b2⟩ := hx 1 (pS ex) rfl
    obtain ⟨c0, c1, c2⟩ := hx 2 (pN u) rfl
    obtain ⟨d0, d1, d2⟩ := hx 3 (pS ky) rfl
    obtain ⟨e0, e1, e2⟩ := hx 4 (pS qu) rfl
    refine ⟨b, o, _, c, he, rfl, ⟨by simpa [pS] using a0, by simpa [pS] using a1, a2, fun j t hj => ?_⟩, ⟨by simpa [pS] using b2, by simpa [pN] using c1, by simpa [pS] using d2, by simpa [pS] using e2⟩, hb⟩
    match j, hj with
    | 0, hj => cases hj; simpa [pS] using b0
    | 1, hj => cases hj; simpa [pN] using c0
    | 2, hj => cases hj; simpa [pS] using d0
    | 3, hj => cases hj; simpa [pS] using e0
    | (j + 4), hj => simp at hj
  · exact absurd rfl (hno hk (bParts ex u ky qu) (bParts_ok ex u ky qu hu))
theorem below_stepA {w W : World} (h : Below w.heap.size w W) (o : Obj) : Below w.heap.size w (W.alloc o) := h.trans (((Below.refl _ _).alloc (Nat.le_refl _) o).mono h.size)
theorem neqPB (w : World) : (binOp .neq 192 (.agg #[.bool true, .int .u64 0, .string ⟨#[98]⟩]) (.agg #[.bool true, .int .u64 0, .string ⟨#[98]⟩])).run Tryz.prog w = .ok (.bool false) w := by kernel_rfl
theorem likeB (W : World) : LikeL (W.alloc (.cells #[.bool true, .int .u64 0, .string ⟨#[]⟩, .bool false, .int .u64 0, .string ⟨#[]⟩, .bool true, .int .u64 0, .string ⟨#[]⟩, .bool true, .int .u64 0, .string ⟨#[]⟩] 192)) W.heap.size [true, false, true, true] := by
  have b := BoxL.new W #[.bool true, .int .u64 0, .string ⟨#[]⟩, .bool false, .int .u64 0, .string ⟨#[]⟩, .bool true, .int .u64 0, .string ⟨#[]⟩, .bool true, .int .u64 0, .string ⟨#[]⟩] 192
  refine ⟨b.lt, fun j t hj => ?_⟩
  match j, hj with
  | 0, hj => cases hj; exact ⟨b.cell (i := 0) rfl, b.cell (i := 1) rfl, b.cell (i := 2) rfl⟩
  | 1, hj => cases hj; exact ⟨b.cell (i := 3) rfl, b.cell (i := 4) rfl, b.cell (i := 5) rfl⟩
  | 2, hj => cases hj; exact ⟨b.cell (i := 6) rfl, b.cell (i := 7) rfl, b.cell (i := 8) rfl⟩
  | 3, hj => cases hj; exact ⟨b.cell (i := 9) rfl, b.cell (i := 10) rfl, b.cell (i := 11) rfl⟩
  | (j + 4), hj => simp at hj
set_option maxHeartbeats 8000000 in
theorem parseB (ex : Txt) (u : Nat) (ky qu : Txt) (k : Int) (hu : u < 18446744073709551616) (hk1 : IntKind.i64.wrap (u : Int) = k) (hk2 : IntKind.u64.wrap k = (u : Int)) (hk : (kBd ex u ky qu).length ≤ 255) (w : World) :
    Calls Tryz.prog 25 #[.string (str (kBd ex u ky qu))] w fun e w' => e = .returned (.tuple #[.agg #[.string ⟨#[98]⟩, .string ⟨#[]⟩, .int .u64 0, .int .u64 0, .string (str ex), .int .i64 k, .string (str ky), .string (str qu), .string ⟨#[]⟩], .int .i64 0]) ∧ Below w.heap.size w w' := by
  have HX := Lib.hid (BoxL.new w #[.string ⟨#[]⟩, .string ⟨#[]⟩, .int .u64 0, .int .u64 0, .string ⟨#[]⟩, .int .i64 0, .string ⟨#[]⟩, .string ⟨#[]⟩, .string ⟨#[]⟩] 75)
  have HA : Hid (Below w.heap.size w (w.alloc (.cells #[.string ⟨#[]⟩, .string ⟨#[]⟩, .int .u64 0, .int .u64 0, .string ⟨#[]⟩, .int .i64 0, .string ⟨#[]⟩, .string ⟨#[]⟩, .string ⟨#[]⟩] 75))) := (Below.refl _ _).alloc (Nat.le_refl _) _
  have HP := Lib.hid (partsB ex u ky qu hu hk (w.alloc (.cells #[.string ⟨#[]⟩, .string ⟨#[]⟩, .int .u64 0, .int .u64 0, .string ⟨#[]⟩, .int .i64 0, .string ⟨#[]⟩, .string ⟨#[]⟩, .string ⟨#[]⟩] 75)))
  have HS : Hid (∀ W, Calls Tryz.prog 103 #[.string ⟨#[]⟩] W fun e w' => e = .returned (.agg #[.bool true, .int .u64 0, .string ⟨#[]⟩]) ∧ Below W.heap.size W w') := fun W => strP' ⟨#[]⟩ W
  have HN : Hid (∀ W, Calls Tryz.prog 104 #[.int .u64 0] W fun e w' => e = .returned (.agg #[.bool false, .int .u64 0, .string ⟨#[]⟩]) ∧ Below W.heap.size W w') := fun W => numP' 0 W
  have HK1 := Lib.hid hk1
  have HK2 := Lib.hid hk2
  clear hk1 hk2 hk hu
  go_enter Tryz.func25, Tryz.ntmps25
  go_wp2_with (first
    | (go_at_call 101; refine HP.out.mono ?_; rintro e1 w1 ⟨b, o, n, c, rfl, hn, hf, hd, hb1⟩; have HNn := Lib.hid hn; have HF := Lib.hid hf; have HD := Lib.hid hd; have HY := Lib.hid (HX.out.below hb1 HX.out.lt); have HW1 := Lib.hid (below_step HA.out hb1); have HC := Lib.hid (Below.refl w1.heap.size w1); clear hn hf hd hb1)
    | (go_at_call 103; refine (HS.out _).mono ?_; rintro e2 w2 ⟨rfl, hb2⟩; have HC := Lib.hid (below_step HC.out hb2); clear hb2)
    | (go_at_call 104; refine (HN.out _).mono ?_; rintro e2 w2 ⟨rfl, hb2⟩; have HC := Lib.hid (below_step HC.out hb2); clear hb2)
    | (go_at_call 102; first
        | (refine (fitsNo (by rw [HNn.out]; decide) (by decide) (by rw [HNn.out]; decide)).mono ?_; rintro e3 w3 ⟨rfl, hb3⟩; have HC := Lib.hid (below_step (below_stepA HC.out _) hb3); clear hb3)
        | (refine (fitsT (HF.out.below (below_stepA HC.out _) HF.out.lt) HNn.out rfl (by decide) (likeB _) neqPB).mono ?_; rintro e3 w3 ⟨rfl, hb3⟩; have HC := Lib.hid (below_step (below_stepA HC.out _) hb3); clear hb3))
    | (go_at_call 105; refine (bound_any (HD.out.below HC.out) HNn.out HK1.out HK2.out).mono ?_; rintro e4 w4 ⟨rfl, hb4⟩; have HC := Lib.hid (below_step HC.out hb4); have x1 := HY.out.below HC.out HY.out.lt; have f1 := x1.frozen; have q0 := x1.cell (i := 0) rfl; have q1 := x1.cell (i := 1) rfl; have q2 := x1.cell (i := 2) rfl; have q3 := x1.cell (i := 3) rfl; have q4 := x1.cell (i := 4) rfl; have q5 := x1.cell (i := 5) rfl; have q6 := x1.cell (i := 6) rfl; have q7 := x1.cell (i := 7) rfl; have q8 := x1.cell (i := 8) rfl))
  have xs := (((((((((x1.set 0 (.string ⟨#[98]⟩)).set 1 (.string ⟨#[]⟩)).set 2 (.int .u64 0)).set 3 (.int .u64 0)).set 4 (.string (str ex))).set 5 (.int .i64 k)).set 6 (.string (str ky))).set 7 (.string (str qu))).set 8 (.string ⟨#[]⟩))
  have hB3 := below_step HW1.out HC.out
  refine bodyPost_ret_by (rrPa rfl rfl xs) rfl ⟨rfl, (((((((((hB3.setCell (p := ⟨w.heap.size, 0, none⟩) (Nat.le_refl _) (.string ⟨#[98]⟩)).setCell (p := ⟨w.heap.size, 1, none⟩) (Nat.le_refl _) (.string ⟨#[]⟩)).setCell (p := ⟨w.heap.size, 2, none⟩) (Nat.le_refl _) (.int .u64 0)).setCell (p := ⟨w.heap.size, 3, none⟩) (Nat.le_refl _) (.int .u64 0)).setCell (p := ⟨w.heap.size, 4, none⟩) (Nat.le_refl _) (.string (str ex))).setCell (p := ⟨w.heap.size, 5, none⟩) (Nat.le_refl _) (.int .i64 k)).setCell (p := ⟨w.heap.size, 6, none⟩) (Nat.le_refl _) (.string (str ky))).setCell (p := ⟨w.heap.size, 7, none⟩) (Nat.le_refl _) (.string (str qu))).setCell (p := ⟨w.heap.size, 8, none⟩) (Nat.le_refl _) (.string ⟨#[]⟩))⟩
end Go.Proofs.YtgmneapgihakgaaGreatDoor
