/- The contract of Under. -/
import Derived.Test.YtfoijhofpjaldaaDoorSchA
import Derived.Test.YtfoijhofpjaldaaDoorAfter
import Derived.Test.YtfoijhofpjaldaaDoorAfterMath
set_option maxRecDepth 100000
set_option maxHeartbeats 4000000
set_option linter.unusedVariables false
namespace Go.Proofs.YtfoijhofpjaldaaDoor
open Go.RowKit
/-- A row that is handed in: nil, or at an address. -/
def Slin (w : World) (v : Value) (l : List Ord.P) : Prop := (l = [] ∧ v = .slice none 0 0) ∨ ∃ (a : Addr) (c : Nat), v = .slice (some a) l.length c ∧ ∀ (j : Nat) u, (l.flatMap cellsP)[j]? = some u → w.cell? (a.add j) = some u
theorem Slin.below {w w' : World} {v : Value} {l : List Ord.P} (h : Slin w v l) (hb : Below w.heap.size w w') : Slin w' v l := by
  rcases h with h | ⟨a, c, hv, hx⟩
  · exact .inl h
  · refine .inr ⟨a, c, hv, fun j u hj => ?_⟩
    have h0 := hx j u hj
    exact (hb.cell (World.block_lt_of_cell? _ _ h0)).trans h0
theorem cellsPs_one (l : List Ord.P) : ∀ u ∈ l.flatMap cellsP, u.oneCell' = true := by
  intro u hu
  obtain ⟨p, _, hp⟩ := List.mem_flatMap.1 hu
  simp [cellsP] at hp
  rcases hp with rfl | rfl | rfl <;> rfl
/-- What Under answers. -/
def underOut (K : List UInt8) : Value := if K.length ≤ 255 then .tuple #[.string (str K), .string (str (aft K).1)] else .tuple #[.string ⟨#[]⟩, .string ⟨#[]⟩]
theorem key_head (s : List UInt8) (l : List Ord.P) : Ord.key (⟨true, 0, s⟩ :: l) = 2 :: (Ord.esc s ++ [0, 0] ++ Ord.key l) := by
  rw [Ord.key_cons]; rfl
set_option maxHeartbeats 2000000 in
theorem under_any (s : List UInt8) (v : Value) (l : List Ord.P) (hll : l.length ≤ 5) (hs : s.length ≤ 400) (hl : ∀ p ∈ l, p.n < 18446744073709551616 ∧ p.s.length ≤ 400) (m : Int) (w : World) (hm : w.cell? ⟨0, 0, none⟩ = some (.int .i64 m)) (hv : Slin w v l) :
    Calls Tryd.prog 7 #[.string (str s), v] w fun e w' => e = .returned (underOut (Ord.key (⟨true, 0, s⟩ :: l))) ∧ Below w.heap.size w w' := by
  obtain ⟨i0, hi, hz0, hz1, hz2⟩ := info_parts info41
  have h0 := World.block_lt_of_cell? _ _ hm
  have HM : Hid (∀ W, Below w.heap.size w W → W.cell? ⟨0, 0, none⟩ = some (.int .i64 m)) := fun W hW => (hW.cell (p := ⟨0, 0, none⟩) h0).trans hm
  have hst := fun W => strP_any s W
  unfold aggP at hst
  have HST := Lib.hid hst
  have HV : Hid (∀ W, Below w.heap.size w W → Slin W v l) := fun W hW => hv.below hW
  have HK : Hid (∀ u W, Below w.heap.size w W → Sl W u (⟨true, 0, s⟩ :: l) → Calls Tryd.prog 12 #[u] W fun e w' => e = .returned (keyOut (⟨true, 0, s⟩ :: l)) ∧ Below W.heap.size W w') := fun u W hW hu =>
    key_any u (⟨true, 0, s⟩ :: l) (by simp; omega) m W hu (by intro p hp; rcases List.mem_cons.1 hp with rfl | hp; exact ⟨by show 0 < _; decide, hs⟩; exact hl p hp) (HM.out W hW)
  have HAF := Lib.hid (fun W (h : (Ord.key (⟨true, 0, s⟩ :: l)).length ≤ 255) => after_any (str (Ord.key (⟨true, 0, s⟩ :: l))) (by rw [str_size]; omega) W)
  have hko : keyOut (⟨true, 0, s⟩ :: l) = if (Ord.key (⟨true, 0, s⟩ :: l)).length ≤ 255 then .tuple #[.string (str (Ord.key (⟨true, 0, s⟩ :: l))), .int .i64 0] else .tuple #[.string ⟨#[]⟩, .int .i64 5] := rfl
  rw [hko] at HK
  clear hko hst hm h0 hl hs
  revert HK HAF
  generalize Ord.key (⟨true, 0, s⟩ :: l) = K
  intro HK HAF
  unfold underOut
  have HOW : Hid (∀ W : World, (W.alloc (.cells #[.bool true, .int .u64 0, .string (str s)] 30)).ownsRow W.heap.size 30 3 (.slice (some ⟨W.heap.size, 0, none⟩) 1 1) 1 (cellsP ⟨true, 0, s⟩)) := fun W =>
    World.ownsRow_lit W #[.bool true, .int .u64 0, .string (str s)] 1 (Nat.le_refl _) (by decide) rfl
  have HFL : Hid (cellsP ⟨true, 0, s⟩ ++ l.flatMap cellsP = ((⟨true, 0, s⟩ : Ord.P) :: l).flatMap cellsP) := by show _ = _; rw [List.flatMap_cons]
  have go1 : ∀ (w2 : World) (v' : Value) (w1 : World), Hid (Below w.heap.size w w1) → Hid (Below w1.heap.size w1 w2) → Hid (w2.ownsRow w1.heap.size 30 3 v' (1 + l.length) (cellsP ⟨true, 0, s⟩ ++ l.flatMap cellsP)) → Sl w2 v' (⟨true, 0, s⟩ :: l) := by
    intro w2 v' w1 _ _ h
    have h' := h.out
    rw [HFL.out, Nat.add_comm] at h'
    exact Sl.own h'
  have GO1 := Lib.hid go1
  clear go1
  by_cases hk : K.length ≤ 255
  · rw [if_pos hk] at HK ⊢
    have HAF' := Lib.hid (fun W => HAF.out W hk)
    clear HAF hk
    rw [str_data] at HAF'
    revert HAF'
    generalize aft K = AF
    intro HAF
    go_enter Tryd.func7, Tryd.ntmps7
    rcases hv with ⟨rfl, rfl⟩ | ⟨a, c, rfl, _⟩
    · go_wp2_with (first
        | (go_at_call 11; refine (HST.out _).mono ?_; rintro e w1 ⟨rfl, hb1⟩)
        | (at_builtin; refine wpList_append_own_none _ rfl _ _ 22 rfl w1.heap.size 30 i0 3 Tryd.underlying22 hi _ 1 _ rfl (HOW.out w1) rfl ?_)
        | (go_at_call 12; refine (HK.out _ _ (below_step hb1 ((Below.refl _ _).alloc (Nat.le_refl _) _)) (Sl.one w1 ⟨true, 0, s⟩ 30)).mono ?_; rintro e w3 ⟨rfl, hb3⟩)
        | (go_at_call 13; refine (HAF.out _).mono ?_; rintro e w4 ⟨rfl, hb4⟩))
      go_ret2
      exact ⟨rfl, below_step (below_step (below_step hb1 ((Below.refl _ _).alloc (Nat.le_refl _) _)) hb3) hb4⟩
    · go_wp2_with (first
        | (go_at_call 11; refine (HST.out _).mono ?_; rintro e w1 ⟨rfl, hb1⟩)
        | (at_builtin; refine wpList_append_own _ rfl _ _ 22 rfl w1.heap.size 30 i0 _ 3 32 Tryd.underlying22 hi hz0 hz1 hz2 rfl (by decide) _ 1 _ rfl (HOW.out w1) a l.length c (l.flatMap cellsP) rfl ?c1 ?c2 ?c3 ?c4 ?c5 ?c6 ?_))
      case c1 => exact flat_length l
      case c2 =>
        rcases HV.out _ (below_step hb1 ((Below.refl _ _).alloc (Nat.le_refl _) (.cells #[.bool true, .int .u64 0, .string (str s)] 30))) with ⟨_, h⟩ | ⟨a', c', h, hx⟩
        · cases h
        · simp only [Value.slice.injEq, Option.some.injEq] at h
          obtain ⟨rfl, _, rfl⟩ := h
          exact hx
      case c3 => exact cellsPs_one l
      case c4 => unfold maxLen; omega
      case c5 => omega
      case c6 => simp
      intro v' w2 hown' hgrow _
      have HB2 : Hid (Below w1.heap.size w1 w2) := ((Below.refl w1.heap.size w1).alloc (Nat.le_refl _) _).grown hgrow (by simp) (fun g hg => by simp [Value.ownBlock] at hg; subst hg; exact Nat.le_refl _)
      have HSL := Lib.hid (GO1.out w2 v' w1 hb1 HB2 hown')
      have HB3 := Lib.hid (hb1.trans (HB2.out.mono hb1.size))
      clear hown' hgrow
      go_wp2_with (first
        | (go_at_call 12; refine (HK.out _ _ HB3.out HSL.out).mono ?_; rintro e w3 ⟨rfl, hb3⟩)
        | (go_at_call 13; refine (HAF.out _).mono ?_; rintro e w4 ⟨rfl, hb4⟩))
      go_ret2
      exact ⟨rfl, below_step (below_step HB3.out hb3) hb4⟩
  · rw [if_neg hk] at HK ⊢
    clear HAF hk
    go_enter Tryd.func7, Tryd.ntmps7
    rcases hv with ⟨rfl, rfl⟩ | ⟨a, c, rfl, _⟩
    · go_wp2_with (first
        | (go_at_call 11; refine (HST.out _).mono ?_; rintro e w1 ⟨rfl, hb1⟩)
        | (at_builtin; refine wpList_append_own_none _ rfl _ _ 22 rfl w1.heap.size 30 i0 3 Tryd.underlying22 hi _ 1 _ rfl (HOW.out w1) rfl ?_)
        | (go_at_call 12; refine (HK.out _ _ (below_step hb1 ((Below.refl _ _).alloc (Nat.le_refl _) _)) (Sl.one w1 ⟨true, 0, s⟩ 30)).mono ?_; rintro e w3 ⟨rfl, hb3⟩))
      go_ret2
      exact ⟨rfl, below_step (below_step hb1 ((Below.refl _ _).alloc (Nat.le_refl _) _)) hb3⟩
    · go_wp2_with (first
        | (go_at_call 11; refine (HST.out _).mono ?_; rintro e w1 ⟨rfl, hb1⟩)
        | (at_builtin; refine wpList_append_own _ rfl _ _ 22 rfl w1.heap.size 30 i0 _ 3 32 Tryd.underlying22 hi hz0 hz1 hz2 rfl (by decide) _ 1 _ rfl (HOW.out w1) a l.length c (l.flatMap cellsP) rfl ?c1 ?c2 ?c3 ?c4 ?c5 ?c6 ?_))
      case c1 => exact flat_length l
      case c2 =>
        rcases HV.out _ (below_step hb1 ((Below.refl _ _).alloc (Nat.le_refl _) (.cells #[.bool true, .int .u64 0, .string (str s)] 30))) with ⟨_, h⟩ | ⟨a', c', h, hx⟩
        · cases h
        · simp only [Value.slice.injEq, Option.some.injEq] at h
          obtain ⟨rfl, _, rfl⟩ := h
          exact hx
      case c3 => exact cellsPs_one l
      case c4 => unfold maxLen; omega
      case c5 => omega
      case c6 => simp
      intro v' w2 hown' hgrow _
      have HB2 : Hid (Below w1.heap.size w1 w2) := ((Below.refl w1.heap.size w1).alloc (Nat.le_refl _) _).grown hgrow (by simp) (fun g hg => by simp [Value.ownBlock] at hg; subst hg; exact Nat.le_refl _)
      have HSL := Lib.hid (GO1.out w2 v' w1 hb1 HB2 hown')
      have HB3 := Lib.hid (hb1.trans (HB2.out.mono hb1.size))
      clear hown' hgrow
      go_wp2_with (first
        | (go_at_call 12; refine (HK.out _ _ HB3.out HSL.out).mono ?_; rintro e w3 ⟨rfl, hb3⟩))
      go_ret2
      exact ⟨rfl, below_step HB3.out hb3⟩
end Go.Proofs.YtfoijhofpjaldaaDoor
