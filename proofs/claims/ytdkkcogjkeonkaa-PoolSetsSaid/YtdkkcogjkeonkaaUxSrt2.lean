/- The library's sort at numbers, a row of any length; the set of some numbers. -/
import Derived.Test.YtdkkcogjkeonkaaUxPdq
import Derived.Test.YtdkkcogjkeonkaaUxOf
import Derived.Sort.WalkA14
set_option maxRecDepth 100000
set_option maxHeartbeats 4000000
set_option linter.unusedVariables false
namespace Go.Proofs.Ytdkkcogjkeonkaa
open Go.RowKit
open Go.Sort (swp PermIn SortedIn)
open Tx (Rise Ord above)
theorem RowP.pr {w : World} {B g cap : Nat} {l : List Nat} (h : RowV w B (.slice (some ⟨g, 0, none⟩) l.length cap) l) : PR l.length cap B g w l.toArray w ∧ l.length ≤ cap := by
  rcases h.open with ⟨h1, _⟩ | ⟨g', cap', cur, h1, hB, hg, h2, h3, h4, h5⟩
  · cases h1
  · cases h1
    refine ⟨⟨by simp, hB, Go.RowKit.Below.refl _ _, cur, hg, h4, fun j hj => ?_⟩, h2⟩
    have e1 : (cur.toList.take l.length)[j]? = some (eV l[j]) := by rw [h5, List.getElem?_map, List.getElem?_eq_getElem hj]; rfl
    rw [List.getElem?_take_of_lt hj, Array.getElem?_toList] at e1
    rw [e1, getB (List.getElem?_eq_getElem hj)]
theorem PR.row {sz cap B g : Nat} {w W : World} {d : Array Nat} (h : PR sz cap B g w d W) (hc : sz ≤ cap) (hm : cap ≤ maxLen) {l : List Nat} (hl : d.toList = l) : RowV W B (.slice (some ⟨g, 0, none⟩) sz cap) l := by
  obtain ⟨cur, h1, h2, h3⟩ := h.blk
  have hn : l.length = sz := by rw [← hl, Array.length_toList, h.size]
  subst hn
  refine RowP.mk h.hB h1 hc hm h2 ?_
  apply List.ext_getElem?
  intro j
  by_cases hj : j < l.length
  · rw [List.getElem?_take_of_lt hj, Array.getElem?_toList, h3 j hj, List.getElem?_map, List.getElem?_eq_getElem hj]
    subst hl
    have hjd : j < d.size := by simpa using hj
    rw [getElem!_pos d j hjd]
    simp
  · rw [List.getElem?_take_eq_none (by omega), List.getElem?_eq_none (by simp; omega)]
theorem bitLen_small (n : Nat) (hn : n ≤ 1000) : Lib.bitLen n ≤ 1000 := by
  rw [Go.Proofs.bitLen_eq n (by omega)]
  have := (Go.Sort.bitsLen_le_iff n 10).2 (by omega)
  omega
theorem srt_of (l : List Nat) (d' : Array Nat) (h1 : PermIn 0 l.length l.toArray d') (h2 : SortedIn vlt 0 l.length d') : d'.toList = srtV l := by
  have h := Go.Sort.sorted_unique_holds swo_vlt (fun x y h1 h2 => by simp only [vlt, decide_eq_false_iff_not] at h1 h2; omega) l.toArray d' (by simpa using h1) (by simpa using h2)
  rw [h]
  unfold srtV
  congr 1
  funext x y
  show (!decide (y < x)) = decide (x ≤ y)
  by_cases h : x ≤ y
  · rw [decide_eq_true h, decide_eq_false (by omega)]; rfl
  · rw [decide_eq_false h, decide_eq_true (by omega)]; rfl
theorem sort32_any (v : Value) (l : List Nat) (hl : l.length ≤ 1000) (B : Nat) (w : World) (hr : RowV w B v l) :
    Calls Try.prog 24 #[v] w fun e w' => e = .returned (.tuple #[]) ∧ RowV w' B v (srtV l) ∧ Go.RowKit.Below B w w' := by
  by_cases h12 : l.length ≤ 12
  · exact sort32_small v l h12 B w hr
  · rcases hr.open with ⟨rfl, rfl⟩ | ⟨g, cap, cur, rfl, hB, hg, hlc, hcm, _⟩
    · exact absurd (Nat.zero_le 12) h12
    · obtain ⟨hp, hc⟩ := hr.pr
      have HP := Lib.hid (fun lim (hlim : lim ≤ 1000) => pdq32_any (w := w) (B := B) (g := g) hl hc (l.length + 1) 0 l.length lim l.toArray w (by omega) hp (Nat.zero_le _) (Nat.le_refl _) (Or.inl rfl) hlim)
      have hlb := fun W => Try.bits_Len (l.length : Nat) W (by omega) (by omega)
      have HBL := Lib.hid (bitLen_small l.length hl)
      have HC := Lib.hid (And.intro hc hcm)
      clear hr hp hg hB h12 hc hlc hcm
      go_enter Try.func24, Try.ntmps24
      go_wp2_with (first
        | (go_at_call 40; refine (hlb _).mono ?_; rintro e w1 ⟨rfl, rfl⟩)
        | (go_at_call 39; refine (HP.out _ HBL.out).mono ?_; rintro e w2 ⟨rfl, d', hq, hs, hp⟩; have HQ := Lib.hid hq; have HS := Lib.hid hs; have HP2 := Lib.hid hp; clear hq hs hp))
      go_end0
      exact ⟨rfl, HP2.out.row HC.out.1 HC.out.2 (srt_of l d' HQ.out HS.out), HP2.out.bel⟩
theorem uxOf2_any (v : Value) (l : List Nat) (hl : l.length ≤ 1000) (w : World) (hv : SlV w v l) :
    Calls Try.prog 5 #[v] w fun e w' => ∃ p v', e = .returned (.pointer (some ⟨p, 0, none⟩)) ∧ w.heap.size ≤ p ∧ SetV w' p w.heap.size v' (ddV l) ∧ Go.RowKit.Below w.heap.size w w' := by
  have HC := Lib.hid (uxClone_any v l (by omega) w hv)
  have HL := Lib.hid (srtV_len l)
  have hll := hl
  obtain ⟨a, c, rfl⟩ := hv.slice
  clear hv
  go_enter Try.func5, Try.ntmps5
  go_wp2_with (first
    | (go_at_call 23; refine HC.out.mono ?_; rintro e w1 ⟨v1, rfl, hr1, hb1⟩; have HR1 := Lib.hid hr1; have HB1 := Lib.hid hb1; obtain ⟨a1, c1, rfl⟩ := hr1.slice; clear hr1 hb1)
    | (go_at_call 24; refine (sort32_any _ l hl _ _ HR1.out).mono ?_; rintro e w2 ⟨rfl, hr2, hb2⟩; have HR2 := Lib.hid hr2; have HB2 := Lib.hid hb2; clear hr2 hb2)
    | (go_at_call 25; refine (uxCptF_any _ (srtV l) (by have := HL.out; omega) w.heap.size _ (Nat.le_trans HB1.out.size HB2.out.size) HR2.out).mono ?_; rintro e w3 ⟨v3, rfl, hr3, hb3⟩; have HR3 := Lib.hid hr3; have HB3 := Lib.hid hb3; obtain ⟨a3, c3, rfl⟩ := hr3.slice; clear hr3 hb3))
  go_ret
  have hb : Go.RowKit.Below w.heap.size w w3 := HB1.out.trans (HB2.out.trans HB3.out)
  refine ⟨w3.heap.size, _, rfl, hb.size, ⟨World.cell?_alloc_new w3 _ _ 0, World.frozen?_alloc_new w3 _ _ 0, HR3.out.below ((Go.RowKit.Below.refl _ _).alloc (Nat.le_refl _) _), ddV_rise l, fun e => ?_⟩, hb.alloc hb.size _⟩
  have := (HR3.out.lt e).1
  exact absurd this (Nat.lt_irrefl _)
end Go.Proofs.Ytdkkcogjkeonkaa
