/- The library's sort at numbers: a row of at most twelve. -/
import Derived.Test.YtdkkcogjkeonkaaUxAdd
import Derived.Sort.WalkA
import Derived.Sort.LotA
import Derived.CellFam
import Derived.BigQuiet
import Derived.BigGuard
import Derived.BigCall
import Derived.Deep.Draws
import Derived.Deep.QuietTactic
import Derived.Test.YtdkkcogjkeonkaaShelf
set_option maxRecDepth 100000
set_option maxHeartbeats 4000000
set_option linter.unusedVariables false
namespace Go.Proofs.Ytdkkcogjkeonkaa
open Go.RowKit Go.Sort
/-- A row's world: draws, and what the row holds now. -/
def RowAt (w : World) (g : Nat) (size : Nat) (d : Array Nat) (W : World) : Prop := d.size = size ∧ ∃ n, W = putRow eV (Sort.ahead w n) g 0 d
theorem RowAt.drewN {w W : World} {g s : Nat} {d : Array Nat} (h : RowAt w g s d W) (q : Nat) : RowAt w g s d (W.drewN q) := by
  obtain ⟨hs, n, rfl⟩ := h
  exact ⟨hs, n + q, putRow_drewN eV w n q g 0 d⟩
theorem RowAt.swap {w W : World} {g s : Nat} {d : Array Nat} (h : RowAt w g s d W) (q j k : Nat) (hj : j < s) (hk : k < s) :
    RowAt w g s (swp d j k) (((W.drewN q).setCell ⟨g, 0 + j, none⟩ (eV d[k]!)).setCell ⟨g, 0 + k, none⟩ (eV d[j]!)) := by
  obtain ⟨rfl, n, rfl⟩ := h
  exact ⟨size_swp _ _ _, n + q, swap_worldA eV w n q g 0 d j k hj hk⟩
theorem RowAt.cell {w W : World} {g s : Nat} {d d0 : Array Nat} (h : RowAt w g s d W) (h0 : Holds eV w g 0 d0) (hs : d0.size = s) (t : Nat) (ht : t < s) : W.cell? ⟨g, 0 + t, none⟩ = some (.int .u32 (d[t]! : Nat)) ∧ W.frozen? ⟨g, 0 + t, none⟩ = false := by
  obtain ⟨rfl, n, rfl⟩ := h
  refine ⟨cell?_putRow eV _ g 0 d0 d (holds_ahead _ _ _ _ _ _ h0) hs.symm t ht, ?_⟩
  rw [frozen?_putRow]
  exact ((holds_ahead _ _ n _ _ _ h0) t (by omega)).2
/-- The library's insertion sort. -/
theorem inso32_any (g cap a b : Nat) (d : Array Nat) (w : World) (hH : Holds eV w g 0 d) (hab : a ≤ b) (hb : b ≤ d.size) (hsz : d.size ≤ 1000000) :
    Calls Try.prog 46 #[.slice (some ⟨g, 0, none⟩) d.size cap, .int .i64 a, .int .i64 b] w fun e w' => e = .returned (.tuple #[]) ∧ RowAt w g d.size (insertionSort vlt d a b) w' := by
  have HH := Lib.hid hH
  have HR0 : Hid (RowAt w g d.size d w) := ⟨rfl, 0, (putRow_self _ _ _ _ _ hH).symm⟩
  obtain ⟨sz, hsz'⟩ : ∃ sz, sz = d.size := ⟨_, rfl⟩
  rw [← hsz'] at HR0 hb hsz ⊢
  have HSZ := Lib.hid hsz'
  clear hH hsz'
  go_enter Try.func46, Try.ntmps46
  go_wp2
  go_loopg [6] (b - a) (fun k s6 W => ∃ i dk, s6 = .int .i64 (i : Nat) ∧ k = b + 1 - i ∧ a < i ∧ i ≤ b + 1 ∧ Hid (RowAt w g sz dk W) ∧ Hid (insOuter vlt a b i dk = insertionSort vlt d a b))
  case atStart => exact ⟨a + 1, d, by go_num, by omega, by omega, by omega, HR0, rfl⟩
  case round =>
    obtain ⟨i, dk, rfl, rfl, hai, hib, HK, HO⟩ := hrel
    by_cases hlt : i < b
    · have hltz : (i : Int) < (b : Int) := by omega
      go_wp2
      go_loopg [7] i (fun j s7 W => ∃ dj, s7 = .int .i64 (j : Nat) ∧ a ≤ j ∧ j ≤ i ∧ Hid (RowAt w g sz dj W) ∧ Hid (insInner vlt a j dj = insInner vlt a i dk))
      case atStart => exact ⟨dk, rfl, by omega, by omega, HK, rfl⟩
      case round =>
        obtain ⟨dj, rfl, haj, hji, HJ, HI⟩ := hrel
        obtain ⟨j, hj⟩ : ∃ j, j = gk := ⟨_, rfl⟩
        subst hj
        obtain ⟨G, hG⟩ : ∃ G : Nat → Nat, ∀ t, G t = dj[t]! := ⟨fun t => dj[t]!, fun _ => rfl⟩
        have hcw : ∀ t, t < sz → wr.cell? ⟨g, 0 + t, none⟩ = some (.int .u32 (G t)) := fun t ht => by rw [hG]; exact (HJ.out.cell HH.out HSZ.out.symm t ht).1
        have hfw : ∀ t, t < sz → wr.frozen? ⟨g, 0 + t, none⟩ = false := fun t ht => (HJ.out.cell HH.out HSZ.out.symm t ht).2
        simp only [Nat.zero_add] at hcw hfw
        have HG := Lib.hid hG
        clear hG
        have OUT : Hid ((j ≤ a ∨ vlt dj[j]! dj[j - 1]! = false) → insOuter vlt a b (i + 1) dj = insertionSort vlt d a b) := fun hs => by
          rw [← HO.out, insOuter_go _ _ _ _ _ hlt, ← HI.out, insInner_stop _ _ _ _ hs]
        by_cases hja : a < j
        · have hL := cLess_any (G j) (G (j - 1))
          have hj0 : (0 : Int) ≤ (j : Int) := by omega
          have hj1 : (j : Int) < (sz : Int) := by omega
          have hj2 : (0 : Int) ≤ (j : Int) - 1 := by omega
          have hj3 : (j : Int) - 1 < (sz : Int) := by omega
          have cj := hcw j (by omega)
          have cj1 := hcw (j - 1) (by omega)
          have fj := hfw j (by omega)
          have fj1 := hfw (j - 1) (by omega)
          have ej : ((j : Int) - 1).toNat = j - 1 := by omega
          clear hcw hfw
          go_wp2
          go_quiet (first | (go_at_call 52; refine Calls.quiet_of_same ((hL _).mono fun _ _ h => ⟨h.1, h.2.symm⟩)))
          go_wp2
          · have hl : vlt (G j) (G (j - 1)) = true := decide_eq_true (by omega)
            go_region
            all_goals go_wp2
            go_roundg (j - 1)
            case rel =>
              refine ⟨swp dj j (j - 1), by congr 1; omega, by omega, by omega, ?_, ?_⟩
              · rw [HG.out, HG.out]
                have := HJ.out.swap (nq + 1) j (j - 1) (by omega) (by omega)
                rw [Nat.zero_add, Nat.zero_add] at this
                exact this
              · show _ = _
                rw [← HI.out, insInner_go vlt a j dj hja (by rw [← HG.out, ← HG.out]; exact hl)]
            case measure => omega
          · have hl : vlt (G j) (G (j - 1)) = false := decide_eq_false (by omega)
            go_roundg (b + 1 - (i + 1))
            case rel => exact ⟨i + 1, dj, by go_num, rfl, by omega, by omega, HJ.out.drewN nq, OUT.out (.inr (by rw [← HG.out, ← HG.out]; exact hl))⟩
            case measure => omega
        · have hjaz : ¬ (a : Int) < (j : Int) := by omega
          clear hcw hfw
          go_wp2
          go_quiet (first | (go_at_call 52; refine Calls.quiet_of_same ((cLess_any _ _ _).mono fun _ _ h => ⟨h.1, h.2.symm⟩)))
          go_wp2
          go_roundg (b + 1 - (i + 1))
          case rel => exact ⟨i + 1, dj, by go_num, rfl, by omega, by omega, HJ.out.drewN nq, OUT.out (.inl (by omega))⟩
          case measure => omega
    · have hltz : ¬ (i : Int) < (b : Int) := by omega
      go_wp2
      go_end0
      refine ⟨rfl, ?_⟩
      rw [← HO.out, insOuter_stop _ _ _ _ _ hlt]
      exact HK.out
theorem swo_vlt : SWO vlt where
  irrefl x := by simp [vlt]
  trans x y z h1 h2 := by simp only [vlt, decide_eq_true_eq] at *; omega
  ntrans x y z h1 h2 := by simp only [vlt, decide_eq_false_iff_not] at *; omega
def srtV (l : List Nat) : List Nat := l.mergeSort fun x y => decide (x ≤ y)
theorem inso_srt (l : List Nat) : (insertionSort vlt l.toArray 0 l.toArray.size).toList = srtV l := by
  obtain ⟨hP, hS⟩ := insertionSort_holds (lt := vlt) swo_vlt l.toArray 0 l.toArray.size (Nat.zero_le _) (Nat.le_refl _)
  have h := sorted_unique_holds swo_vlt (fun x y h1 h2 => by simp only [vlt, decide_eq_false_iff_not] at h1 h2; omega) l.toArray _ hP hS
  rw [h]
  unfold srtV
  congr 1
  funext x y
  show (!decide (y < x)) = decide (x ≤ y)
  by_cases h : x ≤ y
  · rw [decide_eq_true h, decide_eq_false (by omega)]; rfl
  · rw [decide_eq_false h, decide_eq_true (by omega)]; rfl
/-- The library's sort of a short part is its insertion sort. -/
theorem pdq32_small (v : Value) (a b lim : Nat) (w : World) (hab : a ≤ b) (h12 : b - a ≤ 12) (hb : b ≤ 1000000) (R : World → Prop) (hi : Calls Try.prog 46 #[v, .int .i64 a, .int .i64 b] w fun e w' => e = .returned (.tuple #[]) ∧ R w') :
    Calls Try.prog 39 #[v, .int .i64 a, .int .i64 b, .int .i64 lim] w fun e w' => e = .returned (.tuple #[]) ∧ R w' := by
  have HI := Lib.hid hi
  have hz : (b : Int) - (a : Int) ≤ 12 := by omega
  clear hi
  go_enter Try.func39, Try.ntmps39
  go_wp2
  go_loopg [1, 2, 3, 8, 9] 0 (fun _ s1 s2 s3 s8 s9 W => s1 = .int .i64 a ∧ s2 = .int .i64 b ∧ s3 = .int .i64 lim ∧ s8 = .bool true ∧ s9 = .bool true ∧ w = W)
  case atStart => exact ⟨rfl, rfl, rfl, rfl, rfl, rfl⟩
  case round =>
    obtain ⟨rfl, rfl, rfl, rfl, rfl, rfl⟩ := hrel
    go_wp2_with (go_at_call 46; refine HI.out.mono ?_; rintro e w1 ⟨rfl, hr⟩; have HR := Lib.hid hr; clear hr)
    (try simp only [Exit.inBlock, Exit.then]); refine bodyPost_ret (results_none rfl _ _ _) rfl ?_
    exact ⟨rfl, HR.out⟩
theorem inso32_nil (w : World) : Calls Try.prog 46 #[.slice none 0 0, .int .i64 (0 : Nat), .int .i64 (0 : Nat)] w fun e w' => e = .returned (.tuple #[]) ∧ w = w' := by
  go_enter Try.func46, Try.ntmps46
  go_wp2
  go_loopg [6] 0 (fun _ s6 W => s6 = .int .i64 1 ∧ w = W)
  case atStart => exact ⟨rfl, rfl⟩
  case round =>
    obtain ⟨rfl, rfl⟩ := hrel
    go_wp2
    go_end0
    exact ⟨rfl, rfl⟩
theorem sort32_small (v : Value) (l : List Nat) (hl : l.length ≤ 12) (B : Nat) (w : World) (hr : RowV w B v l) :
    Calls Try.prog 24 #[v] w fun e w' => e = .returned (.tuple #[]) ∧ RowV w' B v (srtV l) ∧ Below B w w' := by
  have HP : Hid (∀ lim : Nat, Calls Try.prog 39 #[v, .int .i64 (0 : Nat), .int .i64 (l.length : Nat), .int .i64 lim] w fun e w' => e = .returned (.tuple #[]) ∧ RowV w' B v (srtV l) ∧ Below B w w') := fun lim => by
    refine pdq32_small v 0 l.length lim w (Nat.zero_le _) (by omega) (by omega) _ ?_
    rcases hr.open with ⟨rfl, rfl⟩ | ⟨g, cap, cur, rfl, hB, hg, _⟩
    · exact (inso32_nil w).mono fun e w' h => ⟨h.1, by rw [← h.2, show srtV [] = [] from List.mergeSort_nil]; exact hr, by rw [← h.2]; exact Below.refl _ _⟩
    · refine (inso32_any g cap 0 l.length l.toArray w (hr.holds rfl) (Nat.zero_le _) (by simp) (by simp; omega)).mono ?_
      rintro e w' ⟨he, hsz, n, hw⟩
      have hc : (insertionSort vlt l.toArray 0 l.length).toList = srtV l := inso_srt l
      have hl2 : (srtV l).length = l.length := List.length_mergeSort l
      obtain ⟨r1, r2⟩ := RowP.put (n := n) (os := #[]) hr (srtV l) l.length hl2 (Nat.le_of_eq hl2.symm)
      rw [grow_none] at r1 r2
      rw [List.take_of_length_le (Nat.le_of_eq hl2)] at r1
      have hw2 : w' = putRow eV (Sort.ahead w n) g 0 (srtV l).toArray := by rw [hw, ← hc]
      exact ⟨he, by rw [hw2]; exact r1, by rw [hw2]; exact r2⟩
  have HL := Lib.hid hl
  obtain ⟨a, c, rfl⟩ := hr.slice
  have hlb := fun W => Try.bits_Len (l.length : Nat) W (by omega) (by omega)
  clear hr
  go_enter Try.func24, Try.ntmps24
  go_wp2_with (first
    | (go_at_call 40; refine (hlb _).mono ?_; rintro e w1 ⟨rfl, rfl⟩)
    | (go_at_call 39; refine (HP.out _).mono ?_; rintro e w2 ⟨rfl, hr2, hb2⟩; have HR2 := Lib.hid hr2; have HB2 := Lib.hid hb2; clear hr2 hb2))
  go_end0
  exact ⟨rfl, HR2.out, HB2.out⟩
end Go.Proofs.Ytdkkcogjkeonkaa
