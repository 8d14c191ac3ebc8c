/- Texts of one seat, merged. -/
import Derived.Test.YtnhbdonffomibaaGreatT08
import Derived.Sort.WalkA
import Derived.Sort.LotA
import Derived.CellFam
import Derived.BigQuiet
import Derived.BigGuard
import Derived.BigCall
import Derived.Deep.Draws
import Derived.Deep.QuietTactic
import Derived.Test.YtnhbdonffomibaaGreatT04
set_option maxRecDepth 100000
set_option maxHeartbeats 4000000
set_option linter.unusedVariables false
/- The library's sort at numbers: a row of at most twelve. -/
namespace Go.Proofs.YtnhbdonffomibaaGreat
open Go.RowKit Go.Sort
/-- A row's world: draws, and what the row holds now. -/
def RowAt (w : World) (g : Nat) (size : Nat) (d : Array Nat) (W : World) : Prop := d.size = size ∧ ∃ n, W = putRow eV (Sort.ahead w n) g 0 d
theorem RowAt.drewN {w W : World} {g s : Nat} {d : Array Nat} (h : RowAt w g s d W) (q : Nat) : RowAt w g s d (W.drewN q) := by
  obtain ⟨hs, n, rfl⟩ := h
  exact ⟨hs, n + q, putRow_drewN eV w n q g 0 d⟩
theorem RowAt.swap {w W : World} {g s : Nat} {d : Array Nat} (h : RowAt w g s d W) (q j k : Nat) (hj : j < s) (hk : k < s) :
    RowAt w g s (swp d j k) (((W.drewN q).setCell ⟨g, 0 + j, none⟩ (eV d[k]!)).setCell ⟨g, 0 + k, none⟩ (eV d[j]!)) := by
  obtain ⟨rfl, n, rfl⟩ := h
  exact ⟨size_swp _ _ _, n + q, swap_worldA eV w n q g 0 d j k hj hk⟩
theorem RowAt.cell {w W : World} {g s : Nat} {d d0 : Array Nat} (h : RowAt w g s d W) (h0 : Holds eV w g 0 d0) (hs : d0.size = s) (t : Nat) (ht : t < s) : W.cell? ⟨g, 0 + t, none⟩ = some (.int .u32 (d[t]! : Nat)) ∧ W.frozen? ⟨g, 0 + t, none⟩ = false := by
  obtain ⟨rfl, n, rfl⟩ := h
  refine ⟨cell?_putRow eV _ g 0 d0 d (holds_ahead _ _ _ _ _ _ h0) hs.symm t ht, ?_⟩
  rw [frozen?_putRow]
  exact ((holds_ahead _ _ n _ _ _ h0) t (by omega)).2
/-- The library's insertion sort. -/
theorem inso32_any (g cap a b : Nat) (d : Array Nat) (w : World) (hH : Holds eV w g 0 d) (hab : a ≤ b) (hb : b ≤ d.size) (hsz : d.size ≤ 1000000) :
    Calls Tryz.prog 83 #[.slice (some ⟨g, 0, none⟩) d.size cap, .int .i64 a, .int .i64 b] w fun e w' => e = .returned (.tuple #[]) ∧ RowAt w g d.size (insertionSort vlt d a b) w' := by
  have HH := Lib.hid hH
  have HR0 : Hid (RowAt w g d.size d w) := ⟨rfl, 0, (putRow_self _ _ _ _ _ hH).symm⟩
  obtain ⟨sz, hsz'⟩ : ∃ sz, sz = d.size := ⟨_, rfl⟩
  rw [← hsz'] at HR0 hb hsz ⊢
  have HSZ := Lib.hid hsz'
  clear hH hsz'
  go_enter Tryz.func83, Tryz.ntmps83
  go_wp2
  go_loopg [6] (b - a) (fun k s6 W => ∃ i dk, s6 = .int .i64 (i : Nat) ∧ k = b + 1 - i ∧ a < i ∧ i ≤ b + 1 ∧ Hid (RowAt w g sz dk W) ∧ Hid (insOuter vlt a b i dk = insertionSort vlt d a b))
  case atStart => exact ⟨a + 1, d, by go_num, by omega, by omega, by omega, HR0, rfl⟩
  case round =>
    obtain ⟨i, dk, rfl, rfl, hai, hib, HK, HO⟩ := hrel
    by_cases hlt : i < b
    · have hltz : (i : Int) < (b : Int) := by omega
      go_wp2
      go_loopg [7] i (fun j s7 W => ∃ dj, s7 = .int .i64 (j : Nat) ∧ a ≤ j ∧ j ≤ i ∧ Hid (RowAt w g sz dj W) ∧ Hid (insInner vlt a j dj = insInner vlt a i dk))
      case atStart => exact ⟨dk, rfl, by omega, by omega, HK, rfl⟩
      case round =>
        obtain ⟨dj, rfl, haj, hji, HJ, HI⟩ := hrel
        obtain ⟨j, hj⟩ : ∃ j, j = gk := ⟨_, rfl⟩
        subst hj
        obtain ⟨G, hG⟩ : ∃ G : Nat → Nat, ∀ t, G t = dj[t]! := ⟨fun t => dj[t]!, fun _ => rfl⟩
        have hcw : ∀ t, t < sz → wr.cell? ⟨g, 0 + t, none⟩ = some (.int .u32 (G t)) := fun t ht => by rw [hG]; exact (HJ.out.cell HH.out HSZ.out.symm t ht).1
        have hfw : ∀ t, t < sz → wr.frozen? ⟨g, 0 + t, none⟩ = false := fun t ht => (HJ.out.cell HH.out HSZ.out.symm t ht).2
        simp only [Nat.zero_add] at hcw hfw
        have HG := Lib.hid hG
        clear hG
        have OUT : Hid ((j ≤ a ∨ vlt dj[j]! dj[j - 1]! = false) → insOuter vlt a b (i + 1) dj = insertionSort vlt d a b) := fun hs => by
          rw [← HO.out, insOuter_go _ _ _ _ _ hlt, ← HI.out, insInner_stop _ _ _ _ hs]
        by_cases hja : a < j
        · have hL := cLess_any (G j) (G (j - 1))
          have hj0 : (0 : Int) ≤ (j : Int) := by omega
          have hj1 : (j : Int) < (sz : Int) := by omega
          have hj2 : (0 : Int) ≤ (j : Int) - 1 := by omega
          have hj3 : (j : Int) - 1 < (sz : Int) := by omega
          have cj := hcw j (by omega)
          have cj1 := hcw (j - 1) (by omega)
          have fj := hfw j (by omega)
          have fj1 := hfw (j - 1) (by omega)
          have ej : ((j : Int) - 1).toNat = j - 1 := by omega
          clear hcw hfw
          go_wp2
          go_quiet (first | (go_at_call 89; refine Calls.quiet_of_same ((hL _).mono fun _ _ h => ⟨h.1, h.2.symm⟩)))
          go_wp2
          · have hl : vlt (G j) (G (j - 1)) = true := decide_eq_true (by omega)
            go_region
            all_goals go_wp2
            go_roundg (j - 1)
            case rel =>
              refine ⟨swp dj j (j - 1), by congr 1; omega, by omega, by omega, ?_, ?_⟩
              · rw [HG.out, HG.out]
                have := HJ.out.swap (nq + 1) j (j - 1) (by omega) (by omega)
                rw [Nat.zero_add, Nat.zero_add] at this
                exact this
              · show _ = _
                rw [← HI.out, insInner_go vlt a j dj hja (by rw [← HG.out, ← HG.out]; exact hl)]
            case measure => omega
          · have hl : vlt (G j) (G (j - 1)) = false := decide_eq_false (by omega)
            go_roundg (b + 1 - (i + 1))
            case rel => exact ⟨i + 1, dj, by go_num, rfl, by omega, by omega, HJ.out.drewN nq, OUT.out (.inr (by rw [← HG.out, ← HG.out]; exact hl))⟩
            case measure => omega
        · have hjaz : ¬ (a : Int) < (j : Int) := by omega
          clear hcw hfw
          go_wp2
          go_quiet (first | (go_at_call 89; refine Calls.quiet_of_same ((cLess_any _ _ _).mono fun _ _ h => ⟨h.1, h.2.symm⟩)))
          go_wp2
          go_roundg (b + 1 - (i + 1))
          case rel => exact ⟨i + 1, dj, by go_num, rfl, by omega, by omega, HJ.out.drewN nq, OUT.out (.inl (by omega))⟩
          case measure => omega
    · have hltz : ¬ (i : Int) < (b : Int) := by omega
      go_wp2
      go_end0
      refine ⟨rfl, ?_⟩
      rw [← HO.out, insOuter_stop _ _ _ _ _ hlt]
      exact HK.out
theorem swo_vlt : SWO vlt where
  irrefl x := by simp [vlt]
  trans x y z h1 h2 := by simp only [vlt, decide_eq_true_eq] at *; omega
  ntrans x y z h1 h2 := by simp only [vlt, decide_eq_false_iff_not] at *; omega
def srtV (l : List Nat) : List Nat := l.mergeSort fun x y => decide (x ≤ y)
theorem inso_srt (l : List Nat) : (insertionSort vlt l.toArray 0 l.toArray.size).toList = srtV l := by
  obtain ⟨hP, hS⟩ := insertionSort_holds (lt := vlt) swo_vlt l.toArray 0 l.toArray.size (Nat.zero_le _) (Nat.le_refl _)
  have h := sorted_unique_holds swo_vlt (fun x y h1 h2 => by simp only [vlt, decide_eq_false_iff_not] at h1 h2; omega) l.toArray _ hP hS
  rw [h]
  unfold srtV
  congr 1
  funext x y
  show (!decide (y < x)) = decide (x ≤ y)
  by_cases h : x ≤ y
  · rw [decide_eq_true h, decide_eq_false (by omega)]; rfl
  · rw [decide_eq_false h, decide_eq_true (by omega)]; rfl
/-- The library's sort of a short part is its insertion sort. -/
theorem pdq32_small (v : Value) (a b lim : Nat) (w : World) (hab : a ≤ b) (h12 : b - a ≤ 12) (hb : b ≤ 1000000) (R : World → Prop) (hi : Calls Tryz.prog 83 #[v, .int .i64 a, .int .i64 b] w fun e w' => e = .returned (.tuple #[]) ∧ R w') :
    Calls Tryz.prog 74 #[v, .int .i64 a, .int .i64 b, .int .i64 lim] w fun e w' => e = .returned (.tuple #[]) ∧ R w' := by
  have HI := Lib.hid hi
  have hz : (b : Int) - (a : Int) ≤ 12 := by omega
  clear hi
  go_enter Tryz.func74, Tryz.ntmps74
  go_wp2
  go_loopg [1, 2, 3, 8, 9] 0 (fun _ s1 s2 s3 s8 s9 W => s1 = .int .i64 a ∧ s2 = .int .i64 b ∧ s3 = .int .i64 lim ∧ s8 = .bool true ∧ s9 = .bool true ∧ w = W)
  case atStart => exact ⟨rfl, rfl, rfl, rfl, rfl, rfl⟩
  case round =>
    obtain ⟨rfl, rfl, rfl, rfl, rfl, rfl⟩ := hrel
    go_wp2_with (go_at_call 83; refine HI.out.mono ?_; rintro e w1 ⟨rfl, hr⟩; have HR := Lib.hid hr; clear hr)
    (try simp only [Exit.inBlock, Exit.then]); refine bodyPost_ret (results_none rfl _ _ _) rfl ?_
    exact ⟨rfl, HR.out⟩
theorem inso32_nil (w : World) : Calls Tryz.prog 83 #[.slice none 0 0, .int .i64 (0 : Nat), .int .i64 (0 : Nat)] w fun e w' => e = .returned (.tuple #[]) ∧ w = w' := by
  go_enter Tryz.func83, Tryz.ntmps83
  go_wp2
  go_loopg [6] 0 (fun _ s6 W => s6 = .int .i64 1 ∧ w = W)
  case atStart => exact ⟨rfl, rfl⟩
  case round =>
    obtain ⟨rfl, rfl⟩ := hrel
    go_wp2
    go_end0
    exact ⟨rfl, rfl⟩
theorem sort32_small (v : Value) (l : List Nat) (hl : l.length ≤ 12) (B : Nat) (w : World) (hr : RowV w B v l) :
    Calls Tryz.prog 57 #[v] w fun e w' => e = .returned (.tuple #[]) ∧ RowV w' B v (srtV l) ∧ Below B w w' := by
  have HP : Hid (∀ lim : Nat, Calls Tryz.prog 74 #[v, .int .i64 (0 : Nat), .int .i64 (l.length : Nat), .int .i64 lim] w fun e w' => e = .returned (.tuple #[]) ∧ RowV w' B v (srtV l) ∧ Below B w w') := fun lim => by
    refine pdq32_small v 0 l.length lim w (Nat.zero_le _) (by omega) (by omega) _ ?_
    rcases hr.open with ⟨rfl, rfl⟩ | ⟨g, cap, cur, rfl, hB, hg, _⟩
    · exact (inso32_nil w).mono fun e w' h => ⟨h.1, by rw [← h.2, show srtV [] = [] from List.mergeSort_nil]; exact hr, by rw [← h.2]; exact Below.refl _ _⟩
    · refine (inso32_any g cap 0 l.length l.toArray w (hr.holds rfl) (Nat.zero_le _) (by simp) (by simp; omega)).mono ?_
      rintro e w' ⟨he, hsz, n, hw⟩
      have hc : (insertionSort vlt l.toArray 0 l.length).toList = srtV l := inso_srt l
      have hl2 : (srtV l).length = l.length := List.length_mergeSort l
      obtain ⟨r1, r2⟩ := RowP.put (n := n) (os := #[]) hr (srtV l) l.length hl2 (Nat.le_of_eq hl2.symm)
      rw [grow_none] at r1 r2
      rw [List.take_of_length_le (Nat.le_of_eq hl2)] at r1
      have hw2 : w' = putRow eV (Sort.ahead w n) g 0 (srtV l).toArray := by rw [hw, ← hc]
      exact ⟨he, by rw [hw2]; exact r1, by rw [hw2]; exact r2⟩
  have HL := Lib.hid hl
  obtain ⟨a, c, rfl⟩ := hr.slice
  have hlb := fun W => Tryz.bits_Len (l.length : Nat) W (by omega) (by omega)
  clear hr
  go_enter Tryz.func57, Tryz.ntmps57
  go_wp2_with (first
    | (go_at_call 32; refine (hlb _).mono ?_; rintro e w1 ⟨rfl, rfl⟩)
    | (go_at_call 74; refine (HP.out _).mono ?_; rintro e w2 ⟨rfl, hr2, hb2⟩; have HR2 := Lib.hid hr2; have HB2 := Lib.hid hb2; clear hr2 hb2))
  go_end0
  exact ⟨rfl, HR2.out, HB2.out⟩
end Go.Proofs.YtnhbdonffomibaaGreat
/- The set of some texts. -/
namespace Go.Proofs.YtnhbdonffomibaaGreat
open Go.RowKit Go.Sort
open Tx (Rise Ord above)
/-- Some texts, rising, each once. -/
def ddV (l : List Nat) : List Nat := Tx.cmpn (srtV l) (srtV l).length
theorem srtV_le (l : List Nat) : (srtV l).Pairwise fun a b => vlt b a = false := by
  have h := List.pairwise_mergeSort (le := fun x y : Nat => decide (x ≤ y)) (fun a b c h1 h2 => decide_eq_true (Nat.le_trans (of_decide_eq_true h1) (of_decide_eq_true h2))) (fun a b => by
    rcases Nat.le_total a b with h | h
    · rw [decide_eq_true h]; rfl
    · rw [decide_eq_true h, Bool.or_true]) l
  exact h.imp (fun {a b} h => decide_eq_false (Nat.not_lt.2 (of_decide_eq_true h)))
theorem srtV_len (l : List Nat) : (srtV l).length = l.length := List.length_mergeSort l
theorem srtV_mem (l : List Nat) (z : Nat) : z ∈ srtV l ↔ z ∈ l := List.mem_mergeSort
theorem ddV_rise (l : List Nat) : Rise vlt (ddV l) := (Tx.cmpn_rise vord (srtV l) (srtV_le l) _ (Nat.le_refl _)).1
theorem ddV_mem (l : List Nat) (z : Nat) : z ∈ ddV l ↔ z ∈ l := by
  unfold ddV
  rw [(Tx.cmpn_rise vord (srtV l) (srtV_le l) _ (Nat.le_refl _)).2, List.take_length, srtV_mem]
theorem ddV_len (l : List Nat) : (ddV l).length ≤ l.length := by
  have := Tx.cmpn_len (srtV l) (srtV l).length
  exact Nat.le_trans this (Nat.le_of_eq (srtV_len l))
theorem uxClone_any (v : Value) (l : List Nat) (hl : l.length ≤ 100000) (w : World) (hv : SlV w v l) :
    Calls Tryz.prog 56 #[v] w fun e w' => ∃ v', e = .returned v' ∧ RowV w' w.heap.size v' l ∧ Below w.heap.size w w' := by
  obtain ⟨i0, hi, hz0, hz1, hz2⟩ := info_parts infoV
  obtain ⟨a, b, o, c, rfl, ha, hx⟩ := hv
  cases a with
  | none =>
    have hl0 : l = [] := ha.resolve_right (fun h => by cases h)
    subst hl0
    exact (Tryz.slices_Clone_nil_f56 _ c w).mono fun e w' h => ⟨_, h.1, by rw [h.2]; exact ⟨RowP.nil _ _ _ _, Below.refl _ _⟩⟩
  | some ad =>
    have HX := Lib.hid hx
    have HA := Lib.hid ha
    have q22 : ∀ (w : World) (a : Option Addr) (n c n' c' : Nat), (binOp .eql 41 (.slice a n c) (.slice none n' c')).run Tryz.prog w = .ok (.bool a.isNone) w := fun w a n c n' c' => Lib.run_eql_slice_nil w _ _ a n c n' c' Tryz.underlying41
    clear ha hx
    go_enter Tryz.func56, Tryz.ntmps56
    go_wp2_with (at_builtin; refine wpList_append_own _ rfl _ _ 41 rfl w.heap.size 40 i0 _ 1 4 Tryz.underlying41 hi hz0 hz1 hz2 rfl (by decide) _ _ _ rfl (World.ownsRow_made w #[] 0 (Nat.le_refl _) (Nat.zero_le _) rfl) ad l.length c (l.map eV) rfl ?p0 ?p1 ?p2 ?p3 ?p4 ?p5 ?_)
    case p0 => simp
    case p1 =>
      intro j u hj
      rcases HA.out with h | h
      · subst h; simp at hj
      · cases h
        rw [List.getElem?_map] at hj
        cases hy : l[j]? with
        | none => rw [hy] at hj; cases hj
        | some y =>
          rw [hy] at hj
          cases hj
          rw [show (⟨b, o, none⟩ : Addr).add j = ⟨b, o + j, none⟩ by unfold Addr.add; split <;> simp_all]
          exact ((Below.refl w.heap.size w).alloc (Nat.le_refl _) _).cell (p := ⟨b, o + j, none⟩) (World.block_lt_of_cell? _ _ (HX.out j y hy)) |>.trans (HX.out j y hy)
    case p2 =>
      intro u hu
      obtain ⟨y, _, rfl⟩ := List.mem_map.1 hu
      rfl
    case p3 => unfold maxLen; omega
    case p4 => omega
    case p5 => simp
    intro v' w1 hown hgrow _
    go_wp2
    go_ret
    refine ⟨v', rfl, ?_, ((Below.refl _ w).alloc (Nat.le_refl _) _).grown hgrow (by simp) (by intro k hk; simp [Value.ownBlock] at hk; omega)⟩
    show w1.ownsRow _ _ _ _ _ _
    simpa using hown
theorem uxOf_any (v : Value) (l : List Nat) (hl : l.length ≤ 12) (w : World) (hv : SlV w v l) :
    Calls Tryz.prog 34 #[v] w fun e w' => ∃ p v', e = .returned (.pointer (some ⟨p, 0, none⟩)) ∧ w.heap.size ≤ p ∧ SetV w' p w.heap.size v' (ddV l) ∧ Below w.heap.size w w' := by
  have HC := Lib.hid (uxClone_any v l (by omega) w hv)
  have HL := Lib.hid (srtV_len l)
  have hll := hl
  obtain ⟨a, c, rfl⟩ := hv.slice
  clear hv
  go_enter Tryz.func34, Tryz.ntmps34
  go_wp2_with (first
    | (go_at_call 56; refine HC.out.mono ?_; rintro e w1 ⟨v1, rfl, hr1, hb1⟩; have HR1 := Lib.hid hr1; have HB1 := Lib.hid hb1; obtain ⟨a1, c1, rfl⟩ := hr1.slice; clear hr1 hb1)
    | (go_at_call 57; refine (sort32_small _ l hl _ _ HR1.out).mono ?_; rintro e w2 ⟨rfl, hr2, hb2⟩; have HR2 := Lib.hid hr2; have HB2 := Lib.hid hb2; clear hr2 hb2)
    | (go_at_call 58; refine (uxCptF_any _ (srtV l) (by have := HL.out; omega) w.heap.size _ (Nat.le_trans HB1.out.size HB2.out.size) HR2.out).mono ?_; rintro e w3 ⟨v3, rfl, hr3, hb3⟩; have HR3 := Lib.hid hr3; have HB3 := Lib.hid hb3; obtain ⟨a3, c3, rfl⟩ := hr3.slice; clear hr3 hb3))
  go_ret
  have hb : Below w.heap.size w w3 := HB1.out.trans (HB2.out.trans HB3.out)
  refine ⟨w3.heap.size, _, rfl, hb.size, ⟨World.cell?_alloc_new w3 _ _ 0, World.frozen?_alloc_new w3 _ _ 0, HR3.out.below ((Below.refl _ _).alloc (Nat.le_refl _) _), ddV_rise l, fun e => ?_⟩, hb.alloc hb.size _⟩
  have := (HR3.out.lt e).1
  exact absurd this (Nat.lt_irrefl _)
end Go.Proofs.YtnhbdonffomibaaGreat
/- A pool of pages: two sets, the mark, the disk's pages; the law's own example. -/
namespace Go.Proofs.YtnhbdonffomibaaGreat
open Go.RowKit Go.Sort
open Tx (Rise Ord)
theorem uxHas_any {w : World} {p B : Nat} {v : Value} {l : List Nat} (h : SetV w p B v l) (hl : l.length ≤ 100000) (x : Nat) :
    Calls Tryz.prog 62 #[.pointer (some ⟨p, 0, none⟩), .int .u32 x] w fun e w' => e = .returned (.bool (decide (x ∈ l))) ∧ ∃ q, w' = w.drewN q := by
  have HP := Lib.hid (uxPlace_any h hl x)
  have HR := Lib.hid h.rise
  clear h
  go_enter Tryz.func62, Tryz.ntmps62
  go_wp2_with (go_at_call 63; refine HP.out.mono ?_; rintro e w1 ⟨k, rfl, hat, q, rfl⟩; have HAT := Lib.hid hat; clear hat)
  go_ret
  refine ⟨?_, q, rfl⟩
  have := (HAT.out.mem vord HR.out : x ∈ _ ↔ _)
  show Ending.returned (Value.bool (decide _)) = _
  rw [decide_eq_decide.2 this]
/-- A pool's box, and its sets. -/
structure PoolB (W : World) (q pf pt Bf : Nat) (vf vt : Value) (F T : List Nat) (hi pg : Nat) : Prop where
  c0 : W.cell? ⟨q, 0, none⟩ = some (.pointer (some ⟨pf, 0, none⟩))
  c1 : W.cell? ⟨q, 1, none⟩ = some (.pointer (some ⟨pt, 0, none⟩))
  c2 : W.cell? ⟨q, 2, none⟩ = some (.int .u32 hi)
  c3 : W.cell? ⟨q, 3, none⟩ = some (.int .u32 pg)
  fr : W.frozen? ⟨q, 2, none⟩ = false
  free : SetV W pf Bf vf F
  taken : SetV W pt Bf vt T
  n1 : q ≠ pf
  n2 : q ≠ pt
  n3 : pf ≠ pt
  n4 : vf.ownBlock ≠ some q
  n5 : vt.ownBlock ≠ some q
  n6 : vf.ownBlock ≠ some pt
  n7 : vt.ownBlock ≠ some pf
  n8 : ∀ g, vf.ownBlock = some g → vt.ownBlock ≠ some g
theorem SetV.keep {w w' : World} {p B : Nat} {v : Value} {l : List Nat} (h : SetV w p B v l) (hp : w'.heap[p]? = w.heap[p]?) (hv : ∀ g, v.ownBlock = some g → w'.heap[g]? = w.heap[g]?) : SetV w' p B v l :=
  ⟨(cell_same hp 0).trans h.c0, (frozen_same hp 0).trans h.f0, h.row.keep hv, h.rise, h.ne⟩
theorem SetV.blt {w : World} {p B : Nat} {v : Value} {l : List Nat} (h : SetV w p B v l) : p < w.heap.size := World.block_lt_of_cell? _ _ h.c0
theorem PoolB.step_free {W W' : World} {q pf pt Bf : Nat} {vf vt vf' : Value} {F F' T : List Nat} {hi pg : Nat} (h : PoolB W q pf pt Bf vf vt F T hi pg) (hs : SetV W' pf Bf vf' F') (hk : SetK pf Bf vf W W')
    (ho : vf'.ownBlock = vf.ownBlock ∨ ∃ g, vf'.ownBlock = some g ∧ W.heap.size ≤ g) : PoolB W' q pf pt Bf vf' vt F' T hi pg := by
  have hq := World.block_lt_of_cell? _ _ h.c0
  have kq := hk.keep q h.n1 h.n4 hq
  have kt := hk.keep pt (Ne.symm h.n3) h.n6 h.taken.blt
  have hv : ∀ g, vt.ownBlock = some g → g < W.heap.size := fun g hg => (h.taken.row.lt hg).1
  have hn : ∀ g, g < W.heap.size → vf.ownBlock ≠ some g → vf'.ownBlock ≠ some g := fun g hg hne e => by
    rcases ho with ho | ⟨g', h1, h2⟩
    · exact hne (ho ▸ e)
    · rw [h1] at e; cases e; omega
  refine ⟨(cell_same kq 0).trans h.c0, (cell_same kq 1).trans h.c1, (cell_same kq 2).trans h.c2, (cell_same kq 3).trans h.c3, (frozen_same kq 2).trans h.fr, hs, h.taken.keep kt (fun g hg => hk.keep g (fun e => h.n7 (by rw [hg, e])) (fun e => h.n8 g e hg) (hv g hg)), h.n1, h.n2, h.n3, hn q hq h.n4, h.n5, hn pt h.taken.blt h.n6, h.n7, fun g hg e => ?_⟩
  exact hn g (hv g e) (fun e' => h.n8 g e' e) hg
theorem PoolB.step_taken {W W' : World} {q pf pt Bf : Nat} {vf vt vt' : Value} {F T T' : List Nat} {hi pg : Nat} (h : PoolB W q pf pt Bf vf vt F T hi pg) (hs : SetV W' pt Bf vt' T') (hk : SetK pt Bf vt W W')
    (ho : vt'.ownBlock = vt.ownBlock ∨ ∃ g, vt'.ownBlock = some g ∧ W.heap.size ≤ g) : PoolB W' q pf pt Bf vf vt' F T' hi pg := by
  have hq := World.block_lt_of_cell? _ _ h.c0
  have kq := hk.keep q h.n2 h.n5 hq
  have kf := hk.keep pf h.n3 h.n7 h.free.blt
  have hv : ∀ g, vf.ownBlock = some g → g < W.heap.size := fun g hg => (h.free.row.lt hg).1
  have hn : ∀ g, g < W.heap.size → vt.ownBlock ≠ some g → vt'.ownBlock ≠ some g := fun g hg hne e => by
    rcases ho with ho | ⟨g', h1, h2⟩
    · exact hne (ho ▸ e)
    · rw [h1] at e; cases e; omega
  exact ⟨(cell_same kq 0).trans h.c0, (cell_same kq 1).trans h.c1, (cell_same kq 2).trans h.c2, (cell_same kq 3).trans h.c3, (frozen_same kq 2).trans h.fr, h.free.keep kf (fun g hg => hk.keep g (fun e => h.n6 (by rw [hg, e])) (fun e => h.n8 g hg e) (hv g hg)), hs, h.n1, h.n2, h.n3, h.n4, hn q hq h.n5, h.n6, hn pf h.free.blt h.n7, fun g hg => hn g (hv g hg) (h.n8 g hg)⟩
theorem SetK.below {p Bf B : Nat} {v : Value} {w w' : World} {l : List Nat} (h : SetK p Bf v w w') (hs : SetV w p Bf v l) (hB : B ≤ p) (hB2 : B ≤ Bf) : Below B w w' :=
  ⟨h.os, h.tape, h.output, h.size, fun k hk => h.keep k (by omega) (fun e => by have := (hs.row.lt e).2; omega) (by have := hs.blt; omega)⟩
theorem pool_not_nil (w : World) (q : Nat) : (binOp .eql 38 (.pointer (some ⟨q, 0, none⟩)) (.pointer none)).run Tryz.prog w = .ok (.bool false) w := by kernel_rfl
/-- A page that was free is taken. -/
theorem again_some {W : World} {q pf pt Bf : Nat} {vf vt : Value} {x : Nat} {F T : List Nat} {hi pg : Nat} (h : PoolB W q pf pt Bf vf vt (x :: F) T hi pg) (hl : F.length ≤ 1000) (B : Nat) (hB : B ≤ pf) (hB2 : B ≤ Bf) :
    Calls Tryz.prog 35 #[.pointer (some ⟨q, 0, none⟩)] W fun e W' => e = .returned (.tuple #[.int .u32 x, .bool true]) ∧ (∃ vf', PoolB W' q pf pt Bf vf' vt F T hi pg) ∧ Below B W W' := by
  have HL := Lib.hid (uxLeast_any h.free)
  have e0 : fstV (x :: F) = (x, true) := rfl
  rw [e0] at HL
  have HRm := Lib.hid (uxRemove_any h.free (by simp only [List.length_cons]; omega) x)
  have HH := Lib.hid h
  have c0 := h.c0
  clear h e0
  go_enter Tryz.func35, Tryz.ntmps35
  go_wp2_with (first
    | (go_at_call 60; refine HL.out.mono ?_; rintro e w1 ⟨rfl, rfl⟩)
    | (go_at_call 61; refine HRm.out.mono ?_; rintro e w2 ⟨⟨b, rfl⟩, v', l', hs, hr, hk, ho⟩; have HS := Lib.hid hs; have HR := Lib.hid hr; have HK := Lib.hid hk; have HO := Lib.hid ho; clear hs hr hk ho))
  go_ret2
  have hl' : l' = F := by
    have hr0 := List.pairwise_cons.1 HH.out.free.rise
    refine Rise.uniq vord HR.out.1 hr0.2 (fun y => ?_)
    rw [HR.out.2.1, List.mem_cons]
    constructor
    · rintro ⟨h1, h2⟩; exact h2.resolve_left h1
    · intro h; exact ⟨fun e => by have := hr0.1 y h; rw [e] at this; exact absurd this (by rw [vord.irr]; simp), .inr h⟩
  subst hl'
  refine ⟨rfl, ⟨v', HH.out.step_free HS.out HK.out HO.out⟩, HK.out.below HH.out.free hB hB2⟩
theorem again_none {W : World} {q pf pt Bf : Nat} {vf vt : Value} {T : List Nat} {hi pg : Nat} (h : PoolB W q pf pt Bf vf vt [] T hi pg) :
    Calls Tryz.prog 35 #[.pointer (some ⟨q, 0, none⟩)] W fun e W' => e = .returned (.tuple #[.int .u32 0, .bool false]) ∧ W = W' := by
  have HL := Lib.hid (uxLeast_any h.free)
  have e0 : fstV [] = (0, false) := rfl
  rw [e0] at HL
  have c0 := h.c0
  clear h e0
  go_enter Tryz.func35, Tryz.ntmps35
  go_wp2_with (go_at_call 60; refine HL.out.mono ?_; rintro e w1 ⟨rfl, rfl⟩)
  go_ret2
  exact ⟨rfl, rfl⟩
theorem PoolB.drewN {W : World} {q pf pt Bf : Nat} {vf vt : Value} {F T : List Nat} {hi pg : Nat} (h : PoolB W q pf pt Bf vf vt F T hi pg) (n : Nat) : PoolB (W.drewN n) q pf pt Bf vf vt F T hi pg :=
  ⟨h.c0, h.c1, h.c2, h.c3, h.fr, h.free.drewN n, h.taken.drewN n, h.n1, h.n2, h.n3, h.n4, h.n5, h.n6, h.n7, h.n8⟩
theorem PoolB.marked {W : World} {q pf pt Bf : Nat} {vf vt : Value} {F T : List Nat} {hi pg : Nat} (h : PoolB W q pf pt Bf vf vt F T hi pg) (x : Nat) : PoolB (W.setCell ⟨q, 2, none⟩ (.int .u32 x)) q pf pt Bf vf vt F T x pg := by
  have k : ∀ g, g ≠ q → (W.setCell ⟨q, 2, none⟩ (.int .u32 x)).heap[g]? = W.heap[g]? := fun g hg => Below.heap_setCell W _ _ g hg
  refine ⟨?_, ?_, ?_, ?_, ?_, h.free.keep (k pf (Ne.symm h.n1)) (fun g hg => k g (fun e => h.n4 (by rw [hg, e]))), h.taken.keep (k pt (Ne.symm h.n2)) (fun g hg => k g (fun e => h.n5 (by rw [hg, e]))), h.n1, h.n2, h.n3, h.n4, h.n5, h.n6, h.n7, h.n8⟩
  · exact (World.cell?_setCell_other _ _ _ _ (by simp)).trans h.c0
  · exact (World.cell?_setCell_other _ _ _ _ (by simp)).trans h.c1
  · exact World.cell?_setCell_same' _ _ _ (by rw [h.c2]; rfl)
  · exact (World.cell?_setCell_other _ _ _ _ (by simp)).trans h.c3
  · rw [World.frozen?_setCell]; exact h.fr
theorem fresh_none {W : World} {q pf pt Bf : Nat} {vf vt : Value} {F T : List Nat} {hi pg : Nat} (h : PoolB W q pf pt Bf vf vt F T hi pg) (hh : pg ≤ hi) :
    Calls Tryz.prog 36 #[.pointer (some ⟨q, 0, none⟩)] W fun e W' => e = .returned (.tuple #[.int .u32 0, .bool false]) ∧ ∃ n, W' = W.drewN n := by
  obtain ⟨c2, c3⟩ : W.cell? ⟨q, 2, none⟩ = some (.int .u32 hi) ∧ W.cell? ⟨q, 3, none⟩ = some (.int .u32 pg) := ⟨h.c2, h.c3⟩
  have h1 : ¬ (hi : Int) < (pg : Int) := by omega
  have h2 : (pg : Int) ≤ (hi : Int) := by omega
  clear h hh
  go_enter Tryz.func36, Tryz.ntmps36
  go_wp2
  go_loopg [4] 0 (fun _ s4 wr => s4 = .int .u32 hi ∧ W = wr)
  case atStart => exact ⟨rfl, rfl⟩
  case round =>
    obtain ⟨rfl, rfl⟩ := hrel
    go_wp2
    go_ret2
    exact ⟨rfl, 0, rfl⟩
theorem fresh_some {W : World} {q pf pt Bf : Nat} {vf vt : Value} {F T : List Nat} {hi pg : Nat} (h : PoolB W q pf pt Bf vf vt F T hi pg) (hT : T.length ≤ 1000) (hh : hi < pg) (hp : pg ≤ 1000000) (hn : hi ∉ T) :
    Calls Tryz.prog 36 #[.pointer (some ⟨q, 0, none⟩)] W fun e W' => e = .returned (.tuple #[.int .u32 hi, .bool true]) ∧ PoolB W' q pf pt Bf vf vt F T (hi + 1) pg ∧ ∀ B, B ≤ q → Below B W W' := by
  obtain ⟨c1, c2, c3, f2⟩ : W.cell? ⟨q, 1, none⟩ = some (.pointer (some ⟨pt, 0, none⟩)) ∧ W.cell? ⟨q, 2, none⟩ = some (.int .u32 hi) ∧ W.cell? ⟨q, 3, none⟩ = some (.int .u32 pg) ∧ W.frozen? ⟨q, 2, none⟩ = false := ⟨h.c1, h.c2, h.c3, h.fr⟩
  have h1 : (hi : Int) < (pg : Int) := by omega
  have h2 : ¬ (pg : Int) ≤ (hi : Int) := by omega
  have HH := Lib.hid (fun n => by have := uxHas_any (h.taken.drewN n) (by omega) hi; rw [decide_eq_false hn] at this; exact this)
  have HP := Lib.hid h
  clear h hh hn
  go_enter Tryz.func36, Tryz.ntmps36
  go_wp2
  go_loopg [4] 0 (fun _ s4 wr => s4 = .int .u32 hi ∧ W = wr)
  case atStart => exact ⟨rfl, rfl⟩
  case round =>
    obtain ⟨rfl, rfl⟩ := hrel
    go_wp2_with (go_at_call 62; refine (HH.out 0).mono ?_; rintro e w1 ⟨rfl, n, rfl⟩)
    go_ret2
    refine ⟨rfl, ?_, ?_⟩
    · exact (HP.out.drewN n).marked (hi + 1)
    · intro B hB
      exact (below_drewV (Below.refl B W) n).setCell (by exact hB) _
theorem SetV.base {w : World} {p B B' : Nat} {v : Value} {l : List Nat} (h : SetV w p B v l) (hB : B' ≤ B) : SetV w p B' v l := ⟨h.c0, h.f0, h.row.base hB, h.rise, h.ne⟩
/-- What Take makes of a pool. -/
inductive Took (W : World) (q pf pt Bf B : Nat) (x : Nat) (F T : List Nat) (hi pg : Nat) (e : Ending) (W' : World) : Prop
  | mk (vf vt : Value) (he : e = .returned (.tuple #[.int .u32 x, .int .i64 0])) (hp : PoolB W' q pf pt Bf vf vt F T hi pg) (hb : Below B W W')
theorem add_taken {W : World} {q pf pt Bf : Nat} {vf vt : Value} {x : Nat} {F T T' : List Nat} {hi pg : Nat} (h : PoolB W q pf pt Bf vf vt F T hi pg) (hs : Bf ≤ W.heap.size) (hT : T.length ≤ 1000) (B : Nat) (hB2 : B ≤ Bf) (hB3 : B ≤ pt) (hr : Rise vlt T') (hm : ∀ y, y ∈ T' ↔ y = x ∨ y ∈ T) :
    Calls Tryz.prog 37 #[.pointer (some ⟨pt, 0, none⟩), .int .u32 x] W fun e w' => (∃ b, e = .returned (.bool b)) ∧ (∃ vt', PoolB w' q pf pt Bf vf vt' F T' hi pg) ∧ Below B W w' := by
  refine (uxAdd_any h.taken (by omega) hs x).mono ?_
  rintro e w' ⟨he, v', l', hs, ha, hk, ho⟩
  have : l' = T' := Rise.uniq vord ha.1 hr (fun y => by rw [ha.2.1, hm])
  subst this
  exact ⟨he, ⟨v', h.step_taken hs hk ho⟩, hk.below h.taken hB3 hB2⟩
theorem take_again {W : World} {q pf pt Bf : Nat} {vf vt : Value} {x : Nat} {F T : List Nat} {hi pg : Nat} (h : PoolB W q pf pt Bf vf vt (x :: F) T hi pg) (hs : Bf ≤ W.heap.size) (hl : F.length ≤ 1000) (hT : T.length ≤ 1000) (B : Nat) (hB : B ≤ pf) (hB2 : B ≤ Bf) (hB3 : B ≤ pt) (T' : List Nat) (hr : Rise vlt T') (hm : ∀ y, y ∈ T' ↔ y = x ∨ y ∈ T) :
    Calls Tryz.prog 18 #[.pointer (some ⟨q, 0, none⟩)] W (Took W q pf pt Bf B x F T' hi pg) := by
  have HA := Lib.hid (again_some h hl B hB hB2)
  have hn := fun W => pool_not_nil W q
  have HR := Lib.hid hr
  have HM := Lib.hid hm
  have HS := Lib.hid hs
  clear h hr hm hs
  go_enter Tryz.func18, Tryz.ntmps18
  go_wp2_with (first
    | (go_at_call 35; refine HA.out.mono ?_; rintro e w1 ⟨rfl, ⟨vf1, hp1⟩, hb1⟩; have HP1 := Lib.hid hp1; have HB1 := Lib.hid hb1; have c1 := hp1.c1; clear hp1 hb1)
    | (go_at_call 37; refine (add_taken HP1.out (Nat.le_trans HS.out HB1.out.size) hT B hB2 hB3 HR.out HM.out).mono ?_; rintro e w2 ⟨⟨b, rfl⟩, ⟨vt2, hp2⟩, hb2⟩; have HP2 := Lib.hid hp2; have HB2 := Lib.hid hb2; clear hp2 hb2))
  go_ret2
  exact ⟨_, _, rfl, HP2.out, HB1.out.trans HB2.out⟩
theorem take_fresh {W : World} {q pf pt Bf : Nat} {vf vt : Value} {T : List Nat} {hi pg : Nat} (h : PoolB W q pf pt Bf vf vt [] T hi pg) (hs : Bf ≤ W.heap.size) (hT : T.length ≤ 1000) (hh : hi < pg) (hp : pg ≤ 1000000) (hn : hi ∉ T) (B : Nat) (hB : B ≤ q) (hB2 : B ≤ Bf) (hB3 : B ≤ pt) (T' : List Nat) (hr : Rise vlt T') (hm : ∀ y, y ∈ T' ↔ y = hi ∨ y ∈ T) :
    Calls Tryz.prog 18 #[.pointer (some ⟨q, 0, none⟩)] W (Took W q pf pt Bf B hi [] T' (hi + 1) pg) := by
  have HA := Lib.hid (again_none h)
  have HF := Lib.hid (fresh_some h hT hh hp hn)
  have hn := fun W => pool_not_nil W q
  have HR := Lib.hid hr
  have HM := Lib.hid hm
  have HS := Lib.hid hs
  clear h hr hm hs
  go_enter Tryz.func18, Tryz.ntmps18
  go_wp2_with (first
    | (go_at_call 35; refine HA.out.mono ?_; rintro e w1 ⟨rfl, rfl⟩)
    | (go_at_call 36; refine HF.out.mono ?_; rintro e w1 ⟨rfl, hp1, hb1⟩; have HP1 := Lib.hid hp1; have HB1 := Lib.hid (hb1 B hB); have c1 := hp1.c1; clear hp1 hb1)
    | (go_at_call 37; refine (add_taken HP1.out (Nat.le_trans HS.out HB1.out.size) hT B hB2 hB3 HR.out HM.out).mono ?_; rintro e w2 ⟨⟨b, rfl⟩, ⟨vt2, hp2⟩, hb2⟩; have HP2 := Lib.hid hp2; have HB2 := Lib.hid hb2; clear hp2 hb2))
  go_ret2
  exact ⟨_, _, rfl, HP2.out, HB1.out.trans HB2.out⟩
theorem take_full {W : World} {q pf pt Bf : Nat} {vf vt : Value} {T : List Nat} {hi pg : Nat} (h : PoolB W q pf pt Bf vf vt [] T hi pg) (hh : pg ≤ hi) (B : Nat) :
    Calls Tryz.prog 18 #[.pointer (some ⟨q, 0, none⟩)] W fun e W' => e = .returned (.tuple #[.int .u32 0, .int .i64 14]) ∧ Below B W W' := by
  have HA := Lib.hid (again_none h)
  have HF := Lib.hid (fresh_none h hh)
  have hn := fun W => pool_not_nil W q
  clear h
  go_enter Tryz.func18, Tryz.ntmps18
  go_wp2_with (first
    | (go_at_call 35; refine HA.out.mono ?_; rintro e w1 ⟨rfl, rfl⟩)
    | (go_at_call 36; refine HF.out.mono ?_; rintro e w1 ⟨rfl, n, rfl⟩))
  go_ret2
  exact ⟨rfl, below_drewV (Below.refl _ _) n⟩
end Go.Proofs.YtnhbdonffomibaaGreat
/- A new pool; the law's own example. -/
namespace Go.Proofs.YtnhbdonffomibaaGreat
open Go.RowKit Go.Sort
open Tx (Rise Ord)
theorem ddV_nil : ddV [] = [] := Rise.uniq vord (ddV_rise []) List.Pairwise.nil (fun y => ddV_mem [] y)
theorem slV_nil (W : World) : SlV W (.slice none 0 0) [] := ⟨none, 0, 0, 0, rfl, .inl rfl, fun j x h => by simp at h⟩
theorem new_pool (v : Value) (F F' : List Nat) (hl : F.length ≤ 12) (hr : Rise vlt F') (hm : ∀ y, y ∈ F' ↔ y ∈ F) (hi pg : Nat) (w : World) (hv : SlV w v F) :
    Calls Tryz.prog 17 #[v, .int .u32 hi, .int .u32 pg] w fun e w' => ∃ q pf pt vf vt, e = .returned (.pointer (some ⟨q, 0, none⟩)) ∧ PoolB w' q pf pt w.heap.size vf vt F' [] hi pg ∧ w.heap.size ≤ pf ∧ w.heap.size ≤ pt ∧ w.heap.size ≤ q ∧ Below w.heap.size w w' := by
  have hF : ddV F = F' := Rise.uniq vord (ddV_rise F) hr (fun y => by rw [ddV_mem, hm])
  have HO := Lib.hid (uxOf_any v F hl w hv)
  rw [hF] at HO
  have HN : Hid (∀ W, Calls Tryz.prog 34 #[.slice none 0 0] W fun e w' => ∃ p v', e = .returned (.pointer (some ⟨p, 0, none⟩)) ∧ W.heap.size ≤ p ∧ SetV w' p W.heap.size v' [] ∧ Below W.heap.size W w') := fun W => by
    have := uxOf_any (.slice none 0 0) [] (Nat.zero_le _) W (slV_nil W)
    rw [ddV_nil] at this
    exact this
  obtain ⟨a, c, rfl⟩ := hv.slice
  clear hv hm hr hF
  go_enter Tryz.func17, Tryz.ntmps17
  go_wp2_with (first
    | (go_at_call 34; (with_reducible refine (HN.out _).mono ?_); rintro e w2 ⟨pt, vt, rfl, hpt, hs2, hb2⟩; have HS2 := Lib.hid hs2; have HB2 := Lib.hid hb2; have HPT := Lib.hid hpt; clear hs2 hb2 hpt)
    | (go_at_call 34; (with_reducible refine HO.out.mono ?_); rintro e w1 ⟨pf, vf, rfl, hpf, hs1, hb1⟩; have HS1 := Lib.hid hs1; have HB1 := Lib.hid hb1; have HPF := Lib.hid hpf; clear hs1 hb1 hpf))
  go_ret
  have h1 := HB1.out.size
  have h2 := HB2.out.size
  have hpf := HPF.out
  have hpt := HPT.out
  have b1 := HS1.out.blt
  have b2 := HS2.out.blt
  have fS := (HS1.out.below HB2.out)
  have tS := HS2.out.base (B' := w.heap.size) h1
  have hba : RowKit.Below w2.heap.size w2 (w2.alloc (.cells #[.pointer (some ⟨pf, 0, none⟩), .pointer (some ⟨pt, 0, none⟩), .int .u32 hi, .int .u32 pg] 64)) := (RowKit.Below.refl _ _).alloc (Nat.le_refl _) _
  have lv : ∀ g, vf.ownBlock = some g → g < w1.heap.size := fun g hg => (HS1.out.row.lt hg).1
  have lt2 : ∀ g, vt.ownBlock = some g → w1.heap.size ≤ g ∧ g < w2.heap.size := fun g hg => ⟨(HS2.out.row.lt hg).2, (HS2.out.row.lt hg).1⟩
  refine ⟨w2.heap.size, pf, pt, vf, vt, rfl, ⟨World.cell?_alloc_new w2 _ _ 0, World.cell?_alloc_new w2 _ _ 1, World.cell?_alloc_new w2 _ _ 2, World.cell?_alloc_new w2 _ _ 3, World.frozen?_alloc_new w2 _ _ 2, fS.below hba, tS.below hba, by omega, by omega, by omega, fun e => by have := lv _ e; omega, fun e => by have := lt2 _ e; omega, fun e => by have := lv _ e; omega, fun e => by have := lt2 _ e; omega, fun g hg e => by have := lv _ hg; have := lt2 _ e; omega⟩, by omega, by omega, by omega, ((HB1.out.trans (HB2.out.mono h1)).alloc (by omega) _)⟩
theorem ex_pool : Rise vlt [5, 7] ∧ Rise vlt [5] ∧ Rise vlt [5, 7, 9] := ⟨by decide, by decide, by decide⟩
theorem plawake_any (w : World) : Calls Tryz.prog 4 #[] w fun e w' => e = .returned (.bool true) ∧ Below w.heap.size w w' := by
  obtain ⟨w0, hw0⟩ : ∃ w0, w0 = w.alloc (.cells #[.int .u32 7, .int .u32 5] 40) := ⟨_, rfl⟩
  have hv : SlV w0 (.slice (some ⟨w.heap.size, 0, none⟩) 2 2) [7, 5] := by
    refine ⟨_, w.heap.size, 0, 2, rfl, .inr rfl, fun j x hj => ?_⟩
    rw [hw0]
    match j, hj with
    | 0, hj => cases hj; exact World.cell?_alloc_new w _ _ 0
    | 1, hj => cases hj; exact World.cell?_alloc_new w _ _ 1
    | n + 2, hj => simp at hj
  have HN := Lib.hid (new_pool _ [7, 5] [5, 7] (by decide) ex_pool.1 (fun y => by simp only [List.mem_cons, List.not_mem_nil, or_false]; exact or_comm) 9 10 w0 hv)
  rw [hw0] at HN
  have HB0 : Hid (Below w.heap.size w w0) := by rw [hw0]; exact (RowKit.Below.refl _ _).alloc (Nat.le_refl _) _
  rw [hw0] at HB0
  have HZ : Hid (w.heap.size ≤ (w.alloc (.cells #[.int .u32 7, .int .u32 5] 40)).heap.size) := by show _ ≤ _; rw [World.size_alloc]; omega
  clear hw0 hv w0
  have T1 : Hid (∀ W q pf pt Bf vf vt, PoolB W q pf pt Bf vf vt [5, 7] [] 9 10 → Bf ≤ W.heap.size → Bf ≤ pf → Bf ≤ pt → Calls Tryz.prog 18 #[.pointer (some ⟨q, 0, none⟩)] W (Took W q pf pt Bf Bf 5 [7] [5] 9 10)) := fun W q pf pt Bf vf vt h h1 h2 h3 => take_again h h1 (by decide) (by decide) Bf h2 (Nat.le_refl _) h3 [5] ex_pool.2.1 (fun y => by simp)
  have T2 : Hid (∀ W q pf pt Bf vf vt, PoolB W q pf pt Bf vf vt [7] [5] 9 10 → Bf ≤ W.heap.size → Bf ≤ pf → Bf ≤ pt → Calls Tryz.prog 18 #[.pointer (some ⟨q, 0, none⟩)] W (Took W q pf pt Bf Bf 7 [] [5, 7] 9 10)) := fun W q pf pt Bf vf vt h h1 h2 h3 => take_again h h1 (by decide) (by decide) Bf h2 (Nat.le_refl _) h3 [5, 7] ex_pool.1 (fun y => by simp; exact or_comm)
  have T3 : Hid (∀ W q pf pt Bf vf vt, PoolB W q pf pt Bf vf vt [] [5, 7] 9 10 → Bf ≤ W.heap.size → Bf ≤ q → Bf ≤ pt → Calls Tryz.prog 18 #[.pointer (some ⟨q, 0, none⟩)] W (Took W q pf pt Bf Bf 9 [] [5, 7, 9] 10 10)) := fun W q pf pt Bf vf vt h h1 h2 h3 => take_fresh h h1 (by decide) (by decide) (by decide) (by decide) Bf h2 (Nat.le_refl _) h3 [5, 7, 9] ex_pool.2.2 (fun y => by simp only [List.mem_cons, List.not_mem_nil, or_false]; omega)
  have T4 : Hid (∀ W q pf pt Bf vf vt, PoolB W q pf pt Bf vf vt [] [5, 7, 9] 10 10 → Calls Tryz.prog 18 #[.pointer (some ⟨q, 0, none⟩)] W fun e W' => e = .returned (.tuple #[.int .u32 0, .int .i64 14]) ∧ Below Bf W W') := fun W q pf pt Bf vf vt h => take_full h (by decide) Bf
  go_enter Tryz.func4, Tryz.ntmps4
  go_wp2_with (first
    | (go_at_call 17; refine HN.out.mono ?_; rintro e w1 ⟨q, pf, pt, vf, vt, rfl, hp, h1, h2, h3, hb1⟩; have HP := Lib.hid hp; have H1 := Lib.hid h1; have H2 := Lib.hid h2; have H3 := Lib.hid h3; have HB1 := Lib.hid hb1; clear hp h1 h2 h3 hb1)
    | (go_at_call 18; with_reducible refine (T4.out _ _ _ _ _ _ _ HP4.out).mono ?_; rintro e w5 ⟨rfl, hb⟩; have HB5 := Lib.hid (HB4.out.trans hb); clear hb)
    | (go_at_call 18; (with_reducible refine (T3.out _ _ _ _ _ _ _ HP3.out (Nat.le_trans HB3.out.size (Nat.le_refl _)) H3.out H2.out).mono ?_); rintro e w4 ⟨vf4, vt4, rfl, hp, hb⟩; have HP4 := Lib.hid hp; have HB4 := Lib.hid (HB3.out.trans hb); clear hp hb)
    | (go_at_call 18; (with_reducible refine (T2.out _ _ _ _ _ _ _ HP2.out (Nat.le_trans HB2.out.size (Nat.le_refl _)) H1.out H2.out).mono ?_); rintro e w3 ⟨vf3, vt3, rfl, hp, hb⟩; have HP3 := Lib.hid hp; have HB3 := Lib.hid (HB2.out.trans hb); clear hp hb)
    | (go_at_call 18; (with_reducible refine (T1.out _ _ _ _ _ _ _ HP.out HB1.out.size H1.out H2.out).mono ?_); rintro e w2 ⟨vf2, vt2, rfl, hp, hb⟩; have HP2 := Lib.hid hp; have HB2 := Lib.hid (HB1.out.trans hb); clear hp hb))
  go_ret
  exact ⟨rfl, HB0.out.trans (HB5.out.mono HZ.out)⟩
end Go.Proofs.YtnhbdonffomibaaGreat
