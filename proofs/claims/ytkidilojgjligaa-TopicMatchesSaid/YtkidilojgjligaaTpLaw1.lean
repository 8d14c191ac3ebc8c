/- The chapter's example; TopicNames. -/
import Derived.Test.YtkidilojgjligaaTpRM
import Derived.Test.YtkidilojgjligaaTpRK
set_option maxRecDepth 100000
set_option maxHeartbeats 4000000
set_option linter.unusedVariables false
namespace Go.Proofs.Ytkidilojgjligaa
open Go.RowKit
open Tp
attribute [local go_sem] Oper.semAt_some
theorem maxAt {W w' : World} {x : Value} (hm : W.cell? ⟨0, 0, none⟩ = some x) (hb : RowKit.Below W.heap.size W w') : w'.cell? ⟨0, 0, none⟩ = some x :=
  (hb.cell (p := ⟨0, 0, none⟩) (World.block_lt_of_cell? _ _ hm)).trans hm
theorem on {B : Nat} {W w1 w2 : World} (h : RowKit.Below B W w1) (hB : B ≤ W.heap.size) (h2 : RowKit.Below w1.heap.size w1 w2) : RowKit.Below B W w2 := h.trans (h2.mono (Nat.le_trans hB h.size))
abbrev PA : Txt := [97, 46, 42, 46, 99]
abbrev PB : Txt := [97, 46, 98, 46, 99]
abbrev PC : Txt := [97, 46, 99]
abbrev PD : Txt := [97, 46, 35]
abbrev PE : Txt := [97]
theorem ex1 : mt (words PA) (words PB) = true := by decide +kernel
theorem ex2 : mt (words PA) (words PC) = false := by decide +kernel
theorem ex3 : mt (words PD) (words PE) = true := by decide +kernel
theorem ex4 : mt (words PD) (words PB) = true := by decide +kernel
set_option maxHeartbeats 4000000 in
theorem awake_any (m : Int) (w : World) (hm : w.cell? ⟨0, 0, none⟩ = some (.int .i64 m)) :
    Calls Try.prog 6 #[] w fun e w' => e = .returned (.bool true) ∧ RowKit.Below w.heap.size w w' := by
  have H1 : Hid (∀ W, RowKit.Below w.heap.size w W → Calls Try.prog 20 #[.string ⟨#[97, 46, 42, 46, 99]⟩, .string ⟨#[97, 46, 98, 46, 99]⟩] W fun e w' => e = .returned (.bool true) ∧ RowKit.Below W.heap.size W w') := fun W hb => by
    have := match_any PA PB (by decide) (by decide) m W (maxAt hm hb); rw [ex1] at this; exact this
  have H2 : Hid (∀ W, RowKit.Below w.heap.size w W → Calls Try.prog 20 #[.string ⟨#[97, 46, 42, 46, 99]⟩, .string ⟨#[97, 46, 99]⟩] W fun e w' => e = .returned (.bool false) ∧ RowKit.Below W.heap.size W w') := fun W hb => by
    have := match_any PA PC (by decide) (by decide) m W (maxAt hm hb); rw [ex2] at this; exact this
  have H3 : Hid (∀ W, RowKit.Below w.heap.size w W → Calls Try.prog 20 #[.string ⟨#[97, 46, 35]⟩, .string ⟨#[97]⟩] W fun e w' => e = .returned (.bool true) ∧ RowKit.Below W.heap.size W w') := fun W hb => by
    have := match_any PD PE (by decide) (by decide) m W (maxAt hm hb); rw [ex3] at this; exact this
  have H4 : Hid (∀ W, RowKit.Below w.heap.size w W → Calls Try.prog 20 #[.string ⟨#[97, 46, 35]⟩, .string ⟨#[97, 46, 98, 46, 99]⟩] W fun e w' => e = .returned (.bool true) ∧ RowKit.Below W.heap.size W w') := fun W hb => by
    have := match_any PD PB (by decide) (by decide) m W (maxAt hm hb); rw [ex4] at this; exact this
  clear hm
  go_enter Try.func6, Try.ntmps6
  go_wp2_with (first
    | (go_at_call 20; (with_reducible refine (H4.out _ HB3.out).mono ?_); rintro e w4 ⟨rfl, hb4⟩; have HB4 := Lib.hid (on HB3.out (Nat.le_refl _) hb4); clear hb4)
    | (go_at_call 20; (with_reducible refine (H3.out _ HB2.out).mono ?_); rintro e w3 ⟨rfl, hb3⟩; have HB3 := Lib.hid (on HB2.out (Nat.le_refl _) hb3); clear hb3)
    | (go_at_call 20; (with_reducible refine (H2.out _ HB1.out).mono ?_); rintro e w2 ⟨rfl, hb2⟩; have HB2 := Lib.hid (on HB1.out (Nat.le_refl _) hb2); clear hb2)
    | (go_at_call 20; (with_reducible refine (H1.out _ (Below.refl _ _)).mono ?_); rintro e w1 ⟨rfl, hb1⟩; have HB1 := Lib.hid hb1; clear hb1))
  go_ret
  exact ⟨rfl, HB4.out⟩
theorem neS_at (T : TypeId) : NeqAt Try.prog T eS (fun x y => decide (x = y)) :=
  ⟨fun x y w => by
    rw [(NeqAt.string Try.prog T).1 (str x) (str y) w]
    show Result.ok (Value.bool (!((str x).toList == (str y).toList))) w = Result.ok (Value.bool (!(decide (x = y)))) w
    rw [strL, strL]
    by_cases h : x = y <;> simp [h], fun op a b x y w => GuardAt.string Try.prog T op a b (str x) (str y) w⟩
theorem allEq_self : ∀ (l : List Txt), Lib.allEq (fun x y => decide (x = y)) l l = true
  | [] => rfl
  | x :: t => by simp [Lib.allEq, allEq_self t]
theorem slS_at {w : World} {b o : Nat} {l : List Txt} (hx : ∀ (j : Nat) x, l[j]? = some x → w.cell? ⟨b, o + j, none⟩ = some (eS x)) : ∀ j, j < l.length → w.cell? ⟨b, o + j, none⟩ = some (eS l[j]!) := fun j hj => by
  rw [getElem!_pos l j hj]
  exact hx j _ (List.getElem?_eq_getElem hj)
/-- Two rows of the same texts are equal. -/
theorem sEq_any (v v' : Value) (l : List Txt) (hl : l.length ≤ 100001) (w : World) (hv : SlS w v l) (hv' : SlS w v' l) :
    Calls Try.prog 13 #[v, v'] w fun e w' => e = .returned (.bool true) ∧ ∃ q, w' = w.drewN q := by
  obtain ⟨a, b, o, c, rfl, ha, hx⟩ := hv
  obtain ⟨a', b', o', c', rfl, ha', hx'⟩ := hv'
  by_cases h0 : l = []
  · subst h0
    clear ha ha' hx hx'
    go_enter Try.func13, Try.ntmps13
    go_wp2
    go_loopg [13] 0 (fun k i wr => k = 0 ∧ i = .int .i64 0 ∧ w = wr)
    case atStart => exact ⟨rfl, rfl, rfl⟩
    case round =>
      obtain ⟨rfl, rfl, rfl⟩ := hrel
      go_wp2
      go_ret
      exact ⟨rfl, 0, rfl⟩
  · obtain rfl := ha.resolve_left h0
    obtain rfl := ha'.resolve_left h0
    refine (Try.slices_Equal eS (fun x y => decide (x = y)) (neS_at _) b o l.length c b' o' l.length c' l l w (Nat.le_refl _) (Nat.le_refl _) (by omega) (by omega) (slS_at hx) (slS_at hx')).mono ?_
    rintro e w' ⟨he, hq⟩
    rw [List.take_length, allEq_self] at he
    exact ⟨he, hq⟩
set_option maxHeartbeats 8000000 in
set_option maxRecDepth 100000 in
theorem names_in (s : Txt) (k : Int) (m : Int) (W : World) (hm : W.cell? ⟨0, 0, none⟩ = some (.int .i64 m)) :
    Calls Try.prog 3 #[.string (str s), .int .i64 k] W fun e W' => e = .returned (.bool true) ∧ RowKit.Below W.heap.size W W' := by
  have HM := Lib.hid hm
  have hz : (str s).size = s.length := rfl
  clear hm
  by_cases hbig : (2000 : Int) < (s.length : Int)
  · go_enter Try.func3, Try.ntmps3
    go_wp2_with (go_at_call 6; (with_reducible refine (awake_any m _ HM.out).mono ?_); rintro e w1 ⟨rfl, hb1⟩; have HB1 := Lib.hid hb1; clear hb1)
    go_ret
    exact ⟨rfl, HB1.out⟩
  · have hs : s.length ≤ 100000 := by omega
    have hl := words_len s
    go_enter Try.func3, Try.ntmps3
    go_wp2_with (first
      | (go_at_call 6; (with_reducible refine (awake_any m _ HM.out).mono ?_); rintro e w1 ⟨rfl, hb1⟩; have HB1 := Lib.hid hb1; clear hb1)
      | (go_at_call 7; (with_reducible refine (name_any s hs _).mono ?_); rintro e w2 ⟨rfl, rfl⟩)
      | (go_at_call 8; (with_reducible refine (rName_any s hs _).mono ?_); rintro e w3 ⟨rfl, q3, rfl⟩; have HB3 := Lib.hid (below_drewT HB1.out q3))
      | (go_at_call 9; (with_reducible refine (key_any s hs m _ (maxAt HM.out HB3.out)).mono ?_); rintro e w4 ⟨rfl, hb4⟩; have HB4 := Lib.hid (on HB3.out (Nat.le_refl _) hb4); clear hb4)
      | (go_at_call 10; (with_reducible refine (rKey_any s hs _).mono ?_); rintro e w5 ⟨rfl, hb5⟩; have HB5 := Lib.hid (on HB4.out (Nat.le_refl _) hb5); clear hb5)
      | (go_at_call 11; (with_reducible refine (pat_any s hs m _ (maxAt HM.out HB5.out)).mono ?_); rintro e w6 ⟨rfl, hb6⟩; have HB6 := Lib.hid (on HB5.out (Nat.le_refl _) hb6); clear hb6)
      | (go_at_call 12; (with_reducible refine (rPat_any s hs _).mono ?_); rintro e w7 ⟨rfl, hb7⟩; have HB7 := Lib.hid (on HB6.out (Nat.le_refl _) hb7); clear hb7)
      | (go_at_call 15; (with_reducible refine (words_any s _).mono ?_); rintro e w8 ⟨rfl, rfl⟩)
      | (go_at_call 14; (with_reducible refine (coll_new s hs m w7 (maxAt HM.out HB7.out)).mono ?_); rintro e w9 ⟨v9, rfl, hr9, hb9⟩; have HR9 := Lib.hid hr9; have HB9 := Lib.hid (on HB7.out (Nat.le_refl _) hb9); obtain ⟨a9, c9, rfl⟩ := hr9.slice; clear hr9 hb9)
      | (go_at_call 16; (with_reducible refine (rWords_any s hs _).mono ?_); rintro e w10 ⟨v10, rfl, hr10, hb10⟩; have HR10 := Lib.hid hr10; have HS9 := Lib.hid (HR9.out.sl.below rfl hb10); have HB10 := Lib.hid (on HB9.out (Nat.le_refl _) hb10); obtain ⟨a10, c10, rfl⟩ := hr10.slice; clear hr10 hb10)
      | (go_at_call 13; (with_reducible refine (sEq_any _ _ (words s) (by omega) _ HS9.out HR10.out.sl).mono ?_); rintro e w11 ⟨rfl, q11, rfl⟩; have HB11 := Lib.hid (below_drewT HB10.out q11))
      | (go_at_call 17; (with_reducible refine (right_any k s hs m _ (maxAt HM.out HB11.out)).mono ?_); rintro e w12 ⟨rfl, hb12⟩; have HB12 := Lib.hid (on HB11.out (Nat.le_refl _) hb12); clear hb12)
      | (go_at_call 18; (with_reducible refine (rRight_any k s hs _).mono ?_); rintro e w13 ⟨rfl, hb13⟩; have HB13 := Lib.hid (on HB12.out (Nat.le_refl _) hb13); clear hb13))
    go_ret
    exact ⟨rfl, HB13.out⟩
theorem names20_walk (a : ByteArray) (k : Int) (m : Int) (W : World) (hm : W.cell? ⟨0, 0, none⟩ = some (.int .i64 m)) :
    Calls Try.prog 3 #[.string a, .int .i64 k] W fun e W' => e = .returned (.bool true) ∧ RowKit.Below W.heap.size W W' := names_in a.data.toList k m W hm
end Go.Proofs.Ytkidilojgjligaa
