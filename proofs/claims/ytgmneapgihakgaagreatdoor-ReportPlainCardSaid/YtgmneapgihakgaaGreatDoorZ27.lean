/- Texts of one seat, merged. -/
import Derived.Test.YtgmneapgihakgaaGreatDoorZ26
import Derived.Test.YtgmneapgihakgaaGreatDoorZ18
import Derived.Test.YtgmneapgihakgaaGreatDoorZ22
import Derived.Deep.RegionHeld3
import Derived.Test.YtgmneapgihakgaaGreatDoorZ25
import Derived.Test.YtgmneapgihakgaaGreatDoorZ24
set_option maxRecDepth 100000
set_option maxHeartbeats 4000000
set_option linter.unusedVariables false
/- The contract of Under. -/
namespace Go.Proofs.YtgmneapgihakgaaGreatDoor
open Go.RowKit
/-- A row that is handed in: nil, or at an address. -/
def Slin (w : World) (v : Value) (l : List Ord.P) : Prop := (l = [] ∧ v = .slice none 0 0) ∨ ∃ (a : Addr) (c : Nat), v = .slice (some a) l.length c ∧ ∀ (j : Nat) u, (l.flatMap cellsP)[j]? = some u → w.cell? (a.add j) = some u
theorem Slin.below {w w' : World} {v : Value} {l : List Ord.P} (h : Slin w v l) (hb : Below w.heap.size w w') : Slin w' v l := by
  rcases h with h | ⟨a, c, hv, hx⟩
  · exact .inl h
  · refine .inr ⟨a, c, hv, fun j u hj => ?_⟩
    have h0 := hx j u hj
    exact (hb.cell (World.block_lt_of_cell? _ _ h0)).trans h0
theorem cellsPs_one (l : List Ord.P) : ∀ u ∈ l.flatMap cellsP, u.oneCell' = true := by
  intro u hu
  obtain ⟨p, _, hp⟩ := List.mem_flatMap.1 hu
  simp [cellsP] at hp
  rcases hp with rfl | rfl | rfl <;> rfl
/-- What Under answers. -/
def underOut (K : List UInt8) : Value := if K.length ≤ 255 then .tuple #[.string (str K), .string (str (aft K).1)] else .tuple #[.string ⟨#[]⟩, .string ⟨#[]⟩]
theorem key_head (s : List UInt8) (l : List Ord.P) : Ord.key (⟨true, 0, s⟩ :: l) = 2 :: (Ord.esc s ++ [0, 0] ++ Ord.key l) := by
  rw [Ord.key_cons]; rfl
set_option maxHeartbeats 2000000 in
theorem under_any (s : List UInt8) (v : Value) (l : List Ord.P) (hll : l.length ≤ 5) (hs : s.length ≤ 400) (hl : ∀ p ∈ l, p.n < 18446744073709551616 ∧ p.s.length ≤ 400) (m : Int) (w : World) (hm : w.cell? ⟨0, 0, none⟩ = some (.int .i64 m)) (hv : Slin w v l) :
    Calls Tryz.prog 108 #[.string (str s), v] w fun e w' => e = .returned (underOut (Ord.key (⟨true, 0, s⟩ :: l))) ∧ Below w.heap.size w w' := by
  obtain ⟨i0, hi, hz0, hz1, hz2⟩ := info_parts info41
  have h0 := World.block_lt_of_cell? _ _ hm
  have HM : Hid (∀ W, Below w.heap.size w W → W.cell? ⟨0, 0, none⟩ = some (.int .i64 m)) := fun W hW => (hW.cell (p := ⟨0, 0, none⟩) h0).trans hm
  have hst := fun W => strP_any s W
  unfold aggP at hst
  have HST := Lib.hid hst
  have HV : Hid (∀ W, Below w.heap.size w W → Slin W v l) := fun W hW => hv.below hW
  have HK : Hid (∀ u W, Below w.heap.size w W → Sl W u (⟨true, 0, s⟩ :: l) → Calls Tryz.prog 125 #[u] W fun e w' => e = .returned (keyOut (⟨true, 0, s⟩ :: l)) ∧ Below W.heap.size W w') := fun u W hW hu =>
    key_any u (⟨true, 0, s⟩ :: l) (by simp; omega) m W hu (by intro p hp; rcases List.mem_cons.1 hp with rfl | hp; exact ⟨by show 0 < _; decide, hs⟩; exact hl p hp) (HM.out W hW)
  have HAF := Lib.hid (fun W (h : (Ord.key (⟨true, 0, s⟩ :: l)).length ≤ 255) => after_any (str (Ord.key (⟨true, 0, s⟩ :: l))) (by rw [str_size]; omega) W)
  have hko : keyOut (⟨true, 0, s⟩ :: l) = if (Ord.key (⟨true, 0, s⟩ :: l)).length ≤ 255 then .tuple #[.string (str (Ord.key (⟨true, 0, s⟩ :: l))), .int .i64 0] else .tuple #[.string ⟨#[]⟩, .int .i64 5] := rfl
  rw [hko] at HK
  clear hko hst hm h0 hl hs
  revert HK HAF
  generalize Ord.key (⟨true, 0, s⟩ :: l) = K
  intro HK HAF
  unfold underOut
  have HOW : Hid (∀ W : World, (W.alloc (.cells #[.bool true, .int .u64 0, .string (str s)] 192)).ownsRow W.heap.size 192 3 (.slice (some ⟨W.heap.size, 0, none⟩) 1 1) 1 (cellsP ⟨true, 0, s⟩)) := fun W =>
    World.ownsRow_lit W #[.bool true, .int .u64 0, .string (str s)] 1 (Nat.le_refl _) (by decide) rfl
  have HFL : Hid (cellsP ⟨true, 0, s⟩ ++ l.flatMap cellsP = ((⟨true, 0, s⟩ : Ord.P) :: l).flatMap cellsP) := by show _ = _; rw [List.flatMap_cons]
  have go1 : ∀ (w2 : World) (v' : Value) (w1 : World), Hid (Below w.heap.size w w1) → Hid (Below w1.heap.size w1 w2) → Hid (w2.ownsRow w1.heap.size 192 3 v' (1 + l.length) (cellsP ⟨true, 0, s⟩ ++ l.flatMap cellsP)) → Sl w2 v' (⟨true, 0, s⟩ :: l) := by
    intro w2 v' w1 _ _ h
    have h' := h.out
    rw [HFL.out, Nat.add_comm] at h'
    exact Sl.own h'
  have GO1 := Lib.hid go1
  clear go1
  by_cases hk : K.length ≤ 255
  · rw [if_pos hk] at HK ⊢
    have HAF' := Lib.hid (fun W => HAF.out W hk)
    clear HAF hk
    rw [str_data] at HAF'
    revert HAF'
    generalize aft K = AF
    intro HAF
    go_enter Tryz.func108, Tryz.ntmps108
    rcases hv with ⟨rfl, rfl⟩ | ⟨a, c, rfl, _⟩
    · go_wp2_with (first
        | (go_at_call 103; refine (HST.out _).mono ?_; rintro e w1 ⟨rfl, hb1⟩)
        | (at_builtin; refine wpList_append_own_none _ rfl _ _ 187 rfl w1.heap.size 192 i0 3 Tryz.underlying187 hi _ 1 _ rfl (HOW.out w1) rfl ?_)
        | (go_at_call 125; refine (HK.out _ _ (below_step hb1 ((Below.refl _ _).alloc (Nat.le_refl _) _)) (Sl.one w1 ⟨true, 0, s⟩ 192)).mono ?_; rintro e w3 ⟨rfl, hb3⟩)
        | (go_at_call 207; refine (HAF.out _).mono ?_; rintro e w4 ⟨rfl, hb4⟩))
      go_ret2
      exact ⟨rfl, below_step (below_step (below_step hb1 ((Below.refl _ _).alloc (Nat.le_refl _) _)) hb3) hb4⟩
    · go_wp2_with (first
        | (go_at_call 103; refine (HST.out _).mono ?_; rintro e w1 ⟨rfl, hb1⟩)
        | (at_builtin; refine wpList_append_own _ rfl _ _ 187 rfl w1.heap.size 192 i0 _ 3 32 Tryz.underlying187 hi hz0 hz1 hz2 rfl (by decide) _ 1 _ rfl (HOW.out w1) a l.length c (l.flatMap cellsP) rfl ?c1 ?c2 ?c3 ?c4 ?c5 ?c6 ?_))
      case c1 => exact flat_length l
      case c2 =>
        rcases HV.out _ (below_step hb1 ((Below.refl _ _).alloc (Nat.le_refl _) (.cells #[.bool true, .int .u64 0, .string (str s)] 192))) with ⟨_, h⟩ | ⟨a', c', h, hx⟩
        · cases h
        · simp only [Value.slice.injEq, Option.some.injEq] at h
          obtain ⟨rfl, _, rfl⟩ := h
          exact hx
      case c3 => exact cellsPs_one l
      case c4 => unfold maxLen; omega
      case c5 => omega
      case c6 => simp
      intro v' w2 hown' hgrow _
      have HB2 : Hid (Below w1.heap.size w1 w2) := ((Below.refl w1.heap.size w1).alloc (Nat.le_refl _) _).grown hgrow (by simp) (fun g hg => by simp [Value.ownBlock] at hg; subst hg; exact Nat.le_refl _)
      have HSL := Lib.hid (GO1.out w2 v' w1 hb1 HB2 hown')
      have HB3 := Lib.hid (hb1.trans (HB2.out.mono hb1.size))
      clear hown' hgrow
      go_wp2_with (first
        | (go_at_call 125; refine (HK.out _ _ HB3.out HSL.out).mono ?_; rintro e w3 ⟨rfl, hb3⟩)
        | (go_at_call 207; refine (HAF.out _).mono ?_; rintro e w4 ⟨rfl, hb4⟩))
      go_ret2
      exact ⟨rfl, below_step (below_step HB3.out hb3) hb4⟩
  · rw [if_neg hk] at HK ⊢
    clear HAF hk
    go_enter Tryz.func108, Tryz.ntmps108
    rcases hv with ⟨rfl, rfl⟩ | ⟨a, c, rfl, _⟩
    · go_wp2_with (first
        | (go_at_call 103; refine (HST.out _).mono ?_; rintro e w1 ⟨rfl, hb1⟩)
        | (at_builtin; refine wpList_append_own_none _ rfl _ _ 187 rfl w1.heap.size 192 i0 3 Tryz.underlying187 hi _ 1 _ rfl (HOW.out w1) rfl ?_)
        | (go_at_call 125; refine (HK.out _ _ (below_step hb1 ((Below.refl _ _).alloc (Nat.le_refl _) _)) (Sl.one w1 ⟨true, 0, s⟩ 192)).mono ?_; rintro e w3 ⟨rfl, hb3⟩))
      go_ret2
      exact ⟨rfl, below_step (below_step hb1 ((Below.refl _ _).alloc (Nat.le_refl _) _)) hb3⟩
    · go_wp2_with (first
        | (go_at_call 103; refine (HST.out _).mono ?_; rintro e w1 ⟨rfl, hb1⟩)
        | (at_builtin; refine wpList_append_own _ rfl _ _ 187 rfl w1.heap.size 192 i0 _ 3 32 Tryz.underlying187 hi hz0 hz1 hz2 rfl (by decide) _ 1 _ rfl (HOW.out w1) a l.length c (l.flatMap cellsP) rfl ?c1 ?c2 ?c3 ?c4 ?c5 ?c6 ?_))
      case c1 => exact flat_length l
      case c2 =>
        rcases HV.out _ (below_step hb1 ((Below.refl _ _).alloc (Nat.le_refl _) (.cells #[.bool true, .int .u64 0, .string (str s)] 192))) with ⟨_, h⟩ | ⟨a', c', h, hx⟩
        · cases h
        · simp only [Value.slice.injEq, Option.some.injEq] at h
          obtain ⟨rfl, _, rfl⟩ := h
          exact hx
      case c3 => exact cellsPs_one l
      case c4 => unfold maxLen; omega
      case c5 => omega
      case c6 => simp
      intro v' w2 hown' hgrow _
      have HB2 : Hid (Below w1.heap.size w1 w2) := ((Below.refl w1.heap.size w1).alloc (Nat.le_refl _) _).grown hgrow (by simp) (fun g hg => by simp [Value.ownBlock] at hg; subst hg; exact Nat.le_refl _)
      have HSL := Lib.hid (GO1.out w2 v' w1 hb1 HB2 hown')
      have HB3 := Lib.hid (hb1.trans (HB2.out.mono hb1.size))
      clear hown' hgrow
      go_wp2_with (first
        | (go_at_call 125; refine (HK.out _ _ HB3.out HSL.out).mono ?_; rintro e w3 ⟨rfl, hb3⟩))
      go_ret2
      exact ⟨rfl, below_step HB3.out hb3⟩
end Go.Proofs.YtgmneapgihakgaaGreatDoor
/- registry's queue: what a queue's pair tells; Queues. -/
namespace Go.Proofs.YtgmneapgihakgaaGreatDoor
open Go.RowKit Go.Sort Go.Maps
theorem rrQu {w : World} {g : Nat} {x0 x1 x2 x3 x4 : Value} {e : Int} {tmps : Array Value} (ht : tmps[2]? = some (.pointer (some ⟨g, 0, none⟩))) (h8 : tmps[3]? = some (.int .i64 e)) (hx : BoxL w g 36 #[x0, x1, x2, x3, x4]) :
    (results Tryz.f165 tmps).run Tryz.prog w = .ok (.tuple #[.agg #[x0, x1, x2, x3, x4], .int .i64 e]) w := by
  have h0 := hx.cell (i := 0) rfl
  have h1 := hx.cell (i := 1) rfl
  have h2 := hx.cell (i := 2) rfl
  have h3 := hx.cell (i := 3) rfl
  have h4 := hx.cell (i := 4) rfl
  simp [results, Tryz.results165, go_sem, ht, h8, h0, h1, h2, h3, h4]
/-- What registry's queue reads of: the pair's box, the thing's box, the answer's box. -/
def SQ (w0 : World) (B : Nat) (nm V : Txt) (W : World) : Prop := W.cell? ⟨B, 1, none⟩ = some (.string (str V)) ∧ W.cell? ⟨w0.heap.size, 1, none⟩ = some (.string (str nm)) ∧ W.cell? ⟨B + 1, 0, none⟩ = some (.string ⟨#[]⟩) ∧ W.cell? ⟨B + 1, 1, none⟩ = some (.int .u32 0) ∧ W.cell? ⟨B + 1, 2, none⟩ = some (.int .u64 0) ∧ W.cell? ⟨B + 1, 3, none⟩ = some (.int .u32 0) ∧ W.cell? ⟨B + 1, 4, none⟩ = some (.string ⟨#[]⟩) ∧ (∀ i, W.frozen? ⟨B + 1, i, none⟩ = false) ∧ BoxL W (B + 1) 36 #[.string ⟨#[]⟩, .int .u32 0, .int .u64 0, .int .u32 0, .string ⟨#[]⟩] ∧ Below (w0.heap.size + 1) (w0.alloc (.cells #[.string ⟨#[113]⟩, .string (str nm), .int .u64 0, .int .u64 0, .string ⟨#[]⟩, .int .i64 0, .string ⟨#[]⟩, .string ⟨#[]⟩, .string ⟨#[]⟩] 75)) W
set_option maxHeartbeats 4000000 in
theorem queue_any (nm V : Txt) (hk : (kQ nm).length ≤ 255) (w : World) :
    Calls Tryz.prog 165 #[.agg #[.string (str (kQ nm)), .string (str V)]] w fun e w' => e = .returned (.tuple #[aggQ (readG zQ (getQ (str nm)) (str V)).1, .int .i64 (readG zQ (getQ (str nm)) (str V)).2]) ∧ Below w.heap.size w w' := by
  obtain ⟨w1, hw1⟩ : ∃ w1, w1 = (w.alloc (.cells #[.string (str (kQ nm)), .string (str V)] 73)).alloc (.cells #[.string ⟨#[]⟩, .int .u32 0, .int .u64 0, .int .u32 0, .string ⟨#[]⟩] 36) := ⟨_, rfl⟩
  obtain ⟨x1, y1, b1⟩ := two0 w #[.string (str (kQ nm)), .string (str V)] #[.string ⟨#[]⟩, .int .u32 0, .int .u64 0, .int .u32 0, .string ⟨#[]⟩] 73 36
  rw [← hw1] at x1 y1 b1
  have p0 := x1.cell (i := 0) rfl
  have HP := Lib.hid (parseQ nm hk w1)
  have HQ := Lib.hid (fun W => queues_any (str nm) W)
  have HR : Hid (∀ W cd, CdQ W cd (str nm) → Calls Tryz.prog 170 #[cd, .string (str V)] W fun x w' => x = .returned (.tuple #[aggQ (readG zQ (getQ (str nm)) (str V)).1, .int .i64 (readG zQ (getQ (str nm)) (str V)).2]) ∧ Below W.heap.size W w') := fun W cd hc => hc.read _
  have HX := Lib.hid x1
  have HY := Lib.hid y1
  have HB := Lib.hid b1
  rw [hw1] at p0 HP
  have HW := Lib.hid hw1
  have hmx := mixed0
  clear x1 y1 b1 hw1 hk
  revert HR
  generalize readG zQ (getQ (str nm)) (str V) = r
  intro HR
  obtain ⟨q, ev⟩ := r
  unfold aggQ at HR ⊢
  simp only at HR ⊢
  go_enter Tryz.func165, Tryz.ntmps165
  go_upto_region 4 with (go_at_call 25; refine HP.out.mono ?_; rintro e2 w2 ⟨rfl, hb2⟩)
  rw [← HW.out] at hb2
  have x2 := (HX.out.below hb2 HX.out.lt).alloc (.cells #[.string ⟨#[113]⟩, .string (str nm), .int .u64 0, .int .u64 0, .string ⟨#[]⟩, .int .i64 0, .string ⟨#[]⟩, .string ⟨#[]⟩, .string ⟨#[]⟩] 75)
  have HX2 : Hid (BoxL (w2.alloc (.cells #[.string ⟨#[113]⟩, .string (str nm), .int .u64 0, .int .u64 0, .string ⟨#[]⟩, .int .i64 0, .string ⟨#[]⟩, .string ⟨#[]⟩, .string ⟨#[]⟩] 75)).drew w.heap.size 73 #[.string (str (kQ nm)), .string (str V)]) := x2
  have HY2 : Hid (BoxL (w2.alloc (.cells #[.string ⟨#[113]⟩, .string (str nm), .int .u64 0, .int .u64 0, .string ⟨#[]⟩, .int .i64 0, .string ⟨#[]⟩, .string ⟨#[]⟩, .string ⟨#[]⟩] 75)).drew (w.heap.size + 1) 36 #[.string ⟨#[]⟩, .int .u32 0, .int .u64 0, .int .u32 0, .string ⟨#[]⟩]) := (HY.out.below hb2 HY.out.lt).alloc (.cells #[.string ⟨#[113]⟩, .string (str nm), .int .u64 0, .int .u64 0, .string ⟨#[]⟩, .int .i64 0, .string ⟨#[]⟩, .string ⟨#[]⟩, .string ⟨#[]⟩] 75)
  have HB2 : Hid (Below w.heap.size w (w2.alloc (.cells #[.string ⟨#[113]⟩, .string (str nm), .int .u64 0, .int .u64 0, .string ⟨#[]⟩, .int .i64 0, .string ⟨#[]⟩, .string ⟨#[]⟩, .string ⟨#[]⟩] 75)).drew) := ((below_step HB.out hb2).trans (((Below.refl _ _).alloc (Nat.le_refl _) _).mono (below_step HB.out hb2).size)).drew
  have v1 : (w2.alloc (.cells #[.string ⟨#[113]⟩, .string (str nm), .int .u64 0, .int .u64 0, .string ⟨#[]⟩, .int .i64 0, .string ⟨#[]⟩, .string ⟨#[]⟩, .string ⟨#[]⟩] 75)).drew.cell? ⟨w.heap.size, 1, none⟩ = some (.string (str V)) := x2.cell (i := 1) rfl
  have v2 : (w2.alloc (.cells #[.string ⟨#[113]⟩, .string (str nm), .int .u64 0, .int .u64 0, .string ⟨#[]⟩, .int .i64 0, .string ⟨#[]⟩, .string ⟨#[]⟩, .string ⟨#[]⟩] 75)).drew.cell? ⟨w2.heap.size, 1, none⟩ = some (.string (str nm)) := (BoxL.new w2 #[.string ⟨#[113]⟩, .string (str nm), .int .u64 0, .int .u64 0, .string ⟨#[]⟩, .int .i64 0, .string ⟨#[]⟩, .string ⟨#[]⟩, .string ⟨#[]⟩] 75).cell (i := 1) rfl
  clear x2 hb2 p0
  go_region_with (first
    | (go_at_call 170; refine (HR.out _ _ hcd4).mono ?_; rintro e5 w5 ⟨rfl, hb5⟩; have HB5 := Lib.hid (below_step (below_step HB2.out hb4) hb5); have y5 := (HY2.out.below hb4 HY2.out.lt).below hb5 (HY2.out.below hb4 HY2.out.lt).lt; have f5 := y5.frozen; have q0 := y5.cell (i := 0) rfl; have q1 := y5.cell (i := 1) rfl; have q2 := y5.cell (i := 2) rfl; have q3 := y5.cell (i := 3) rfl; have q4 := y5.cell (i := 4) rfl; have HY5 := Lib.hid y5; clear y5)
    | (go_at_call 89; refine (HQ.out _).mono ?_; rintro e4 w4 ⟨cd4, rfl, hcd4, hb4⟩; have v3 := (HX2.out.below hb4 HX2.out.lt).cell (i := 1) rfl))
  all_goals
    go_wp2
    have x1 := HY5.out
    have xs := (((((x1.set 0 (.string q.nm)).set 1 (.int .u32 q.most)).set 2 (.int .u64 q.ttl)).set 3 (.int .u32 q.tries)).set 4 (.string q.dead))
    exact bodyPost_ret_by (rrQu rfl rfl xs) rfl ⟨rfl, below_sets HB5.out (by omega)⟩
end Go.Proofs.YtgmneapgihakgaaGreatDoor
/- Queues: the row that is made. -/
namespace Go.Proofs.YtgmneapgihakgaaGreatDoor
open Go.RowKit Go.Sort Go.Maps
def KQ : Txt := [2, 113, 0, 0]
def UQ : Txt := [2, 113, 0, 1]
/-- The boxes of a row of queues. -/
structure QsB (w : World) (a p : Nat) : Prop where
  c1 : w.cell? ⟨a, 0, none⟩ = some (.iface 25 (.pointer (some ⟨p, 0, none⟩)))
  c2 : w.cell? ⟨a + 1, 0, none⟩ = some (.string (str KQ))
  c3 : w.cell? ⟨a + 1 + 1, 0, none⟩ = some (.string (str UQ))
  c4 : w.cell? ⟨a + 1 + 1 + 1, 0, none⟩ = some (.func (.func 165) #[] #[])
theorem thQ_any (p : Nat) (fr up : Txt) (w : World) :
    Calls Tryz.prog 164 #[.iface 25 (.pointer (some ⟨p, 0, none⟩)), .string (str fr), .string (str up), .func (.func 165) #[] #[]] w fun e w' => e = .returned (.func (.func 240) #[] #[.pointer (some ⟨w.heap.size, 0, none⟩), .pointer (some ⟨w.heap.size + 1, 0, none⟩), .pointer (some ⟨w.heap.size + 1 + 1, 0, none⟩), .pointer (some ⟨w.heap.size + 1 + 1 + 1, 0, none⟩)]) ∧ ∃ T1 T2, w' = (((w.alloc (.cells #[.iface 25 (.pointer (some ⟨p, 0, none⟩))] T1)).alloc (.cells #[.string (str fr)] 9)).alloc (.cells #[.string (str up)] 9)).alloc (.cells #[.func (.func 165) #[] #[]] T2) := by
  go_enter Tryz.func164, Tryz.ntmps164
  go_wp2
  go_ret
  exact ⟨rfl, _, _, rfl⟩
theorem qsB_of {w w' : World} {p : Nat} {T1 T2 : TypeId} (hw : w' = (((w.alloc (.cells #[.iface 25 (.pointer (some ⟨p, 0, none⟩))] T1)).alloc (.cells #[.string (str KQ)] 9)).alloc (.cells #[.string (str UQ)] 9)).alloc (.cells #[.func (.func 165) #[] #[]] T2)) : QsB w' w.heap.size p ∧ Below w.heap.size w w' := by
  have b1 := Boxed.new w T1 (.iface 25 (.pointer (some ⟨p, 0, none⟩)))
  have b2 := Boxed.new (w.alloc (.cells #[.iface 25 (.pointer (some ⟨p, 0, none⟩))] T1)) 9 (.string (str KQ))
  have b3 := Boxed.new ((w.alloc (.cells #[.iface 25 (.pointer (some ⟨p, 0, none⟩))] T1)).alloc (.cells #[.string (str KQ)] 9)) 9 (.string (str UQ))
  have b4 := Boxed.new (((w.alloc (.cells #[.iface 25 (.pointer (some ⟨p, 0, none⟩))] T1)).alloc (.cells #[.string (str KQ)] 9)).alloc (.cells #[.string (str UQ)] 9)) T2 (.func (.func 165) #[] #[])
  simp only [World.size_alloc] at b2 b3 b4
  refine ⟨⟨?_, ?_, ?_, ?_⟩, ?_⟩
  · rw [hw]; exact (((b1.alloc _).alloc _).alloc _).cell
  · rw [hw]; exact ((b2.alloc _).alloc _).cell
  · rw [hw]; exact (b3.alloc _).cell
  · rw [hw]; exact b4.cell
  · rw [hw]; exact ((((Below.refl _ _).alloc (Nat.le_refl _) _).alloc (by simp) _).alloc (by simp; omega) _).alloc (by simp; omega) _
theorem underQ : underOut (Ord.key (⟨true, 0, [113]⟩ :: [])) = .tuple #[.string (str KQ), .string (str UQ)] := by
  unfold underOut
  rw [if_pos (by decide)]
  rfl
theorem qs_any (p : Nat) (m : Int) (w : World) (hm : w.cell? ⟨0, 0, none⟩ = some (.int .i64 m)) :
    Calls Tryz.prog 70 #[.iface 25 (.pointer (some ⟨p, 0, none⟩))] w fun e w' => ∃ a, e = .returned (.func (.func 240) #[] #[.pointer (some ⟨a, 0, none⟩), .pointer (some ⟨a + 1, 0, none⟩), .pointer (some ⟨a + 1 + 1, 0, none⟩), .pointer (some ⟨a + 1 + 1 + 1, 0, none⟩)]) ∧ w.heap.size ≤ a ∧ QsB w' a p ∧ Below w.heap.size w w' := by
  have HU : Hid (Calls Tryz.prog 108 #[.string ⟨#[113]⟩, .slice none 0 0] w fun e w' => e = .returned (.tuple #[.string (str KQ), .string (str UQ)]) ∧ Below w.heap.size w w') := by
    have := under_any [113] (.slice none 0 0) [] (by decide) (by decide) (fun _ h => by cases h) m w hm (.inl ⟨rfl, rfl⟩)
    rw [underQ] at this
    exact this
  have HT := Lib.hid (fun W => thQ_any p KQ UQ W)
  clear hm
  go_enter Tryz.func70, Tryz.ntmps70
  go_wp2_with (first
    | (go_at_call 108; refine HU.out.mono ?_; rintro e1 w1 ⟨rfl, hb1⟩)
    | (go_at_call 164; refine (HT.out _).mono ?_; rintro e2 w2 ⟨rfl, T1, T2, hw2⟩; have HQ2 := Lib.hid (qsB_of hw2); clear hw2))
  go_ret
  exact ⟨w1.heap.size, rfl, hb1.size, HQ2.out.1, below_step hb1 HQ2.out.2⟩
end Go.Proofs.YtgmneapgihakgaaGreatDoor
/- Due's closure; Due: the row that is made. -/
namespace Go.Proofs.YtgmneapgihakgaaGreatDoor
open Go.RowKit Go.Sort Go.Maps
theorem rrD1 {w : World} {g : Nat} {x0 x1 x2 x3 x4 : Value} {e : Int} {tmps : Array Value} (ht : tmps[3]? = some (.pointer (some ⟨g, 0, none⟩))) (h8 : tmps[4]? = some (.int .i64 e)) (hx : BoxL w g 62 #[x0, x1, x2, x3, x4]) :
    (results Tryz.f111 tmps).run Tryz.prog w = .ok (.tuple #[.agg #[x0, x1, x2, x3, x4], .int .i64 e]) w := by
  have h0 := hx.cell (i := 0) rfl
  have h1 := hx.cell (i := 1) rfl
  have h2 := hx.cell (i := 2) rfl
  have h3 := hx.cell (i := 3) rfl
  have h4 := hx.cell (i := 4) rfl
  simp [results, Tryz.results111, go_sem, ht, h8, h0, h1, h2, h3, h4]
set_option maxHeartbeats 4000000 in
/-- Due's closure, over whatever due answers of the pair. -/
theorem mDue1_of (k x : Txt) (p r : Nat) (m : Ms) (e : Int) (w : World) (hr : w.cell? ⟨r, 0, none⟩ = some (.iface 25 (.pointer (some ⟨p, 0, none⟩))))
    (H : ∀ W, Below w.heap.size w W → Calls Tryz.prog 112 #[.iface 25 (.pointer (some ⟨p, 0, none⟩)), .agg #[.string (str k), .string (str x)]] W fun y w' => y = .returned (.tuple #[aggM m, .int .i64 e]) ∧ Below W.heap.size W w') :
    Calls Tryz.prog 111 #[prV k x, .pointer (some ⟨r, 0, none⟩)] w fun y w' => y = .returned (.tuple #[aggM m, .int .i64 e]) ∧ Below w.heap.size w w' := by
  obtain ⟨w1, hw1⟩ : ∃ w1, w1 = (w.alloc (.cells #[.string (str k), .string (str x)] 73)).alloc (.cells #[.string ⟨#[]⟩, .int .u64 0, .int .u32 0, .int .u64 0, .string ⟨#[]⟩] 62) := ⟨_, rfl⟩
  obtain ⟨x1, y1, b1⟩ := two0 w #[.string (str k), .string (str x)] #[.string ⟨#[]⟩, .int .u64 0, .int .u32 0, .int .u64 0, .string ⟨#[]⟩] 73 62
  rw [← hw1] at x1 y1 b1
  have p0 := x1.cell (i := 0) rfl
  have p1 := x1.cell (i := 1) rfl
  have r1 := (b1.cell (p := ⟨r, 0, none⟩) (World.block_lt_of_cell? _ _ hr)).trans hr
  have HH := Lib.hid (H w1 b1)
  have HY := Lib.hid y1
  have HB := Lib.hid b1
  rw [hw1] at p0 p1 r1 HH
  have HW := Lib.hid hw1
  clear x1 y1 b1 hw1 H hr
  unfold aggM at HH ⊢
  unfold prV
  go_enter Tryz.func111, Tryz.ntmps111
  go_wp2_with (go_at_call 112; refine HH.out.mono ?_; rintro e2 w2 ⟨rfl, hb2⟩; rw [← HW.out] at hb2; have y3 := HY.out.below hb2 HY.out.lt; have f3 := y3.frozen; have q0 := y3.cell (i := 0) rfl; have q1 := y3.cell (i := 1) rfl; have q2 := y3.cell (i := 2) rfl; have q3 := y3.cell (i := 3) rfl; have q4 := y3.cell (i := 4) rfl; have HB3 := Lib.hid (below_step HB.out hb2); have HY3 := Lib.hid y3; clear y3 hb2)
  have y3 := HY3.out
  have hbF := HB3.out
  have xs := (((((y3.set 0 (.string m.qu)).set 1 (.int .u64 m.id)).set 2 (.int .u32 m.tries)).set 3 (.int .u64 m.expiry)).set 4 (.string m.body))
  exact bodyPost_ret_by (rrD1 rfl rfl xs) rfl ⟨rfl, (((((hbF.setCell (p := ⟨w.heap.size + 1, 0, none⟩) (by simp) (.string m.qu)).setCell (p := ⟨w.heap.size + 1, 1, none⟩) (by simp) (.int .u64 m.id)).setCell (p := ⟨w.heap.size + 1, 2, none⟩) (by simp) (.int .u32 m.tries)).setCell (p := ⟨w.heap.size + 1, 3, none⟩) (by simp) (.int .u64 m.expiry)).setCell (p := ⟨w.heap.size + 1, 4, none⟩) (by simp) (.string m.body))⟩
/-- The boxes of a row of what expires. -/
structure DueB (w : World) (a r p : Nat) (K U : Txt) : Prop where
  c1 : w.cell? ⟨a, 0, none⟩ = some (.iface 25 (.pointer (some ⟨p, 0, none⟩)))
  c2 : w.cell? ⟨a + 1, 0, none⟩ = some (.string (str K))
  c3 : w.cell? ⟨a + 1 + 1, 0, none⟩ = some (.string (str U))
  c4 : w.cell? ⟨a + 1 + 1 + 1, 0, none⟩ = some (.func (.func 111) #[] #[.pointer (some ⟨r, 0, none⟩)])
  c5 : w.cell? ⟨r, 0, none⟩ = some (.iface 25 (.pointer (some ⟨p, 0, none⟩)))
theorem thD_any (p r : Nat) (fr up : Txt) (w : World) :
    Calls Tryz.prog 109 #[.iface 25 (.pointer (some ⟨p, 0, none⟩)), .string (str fr), .string (str up), .func (.func 111) #[] #[.pointer (some ⟨r, 0, none⟩)]] w fun e w' => e = .returned (.func (.func 208) #[] #[.pointer (some ⟨w.heap.size, 0, none⟩), .pointer (some ⟨w.heap.size + 1, 0, none⟩), .pointer (some ⟨w.heap.size + 1 + 1, 0, none⟩), .pointer (some ⟨w.heap.size + 1 + 1 + 1, 0, none⟩)]) ∧ ∃ T1 T2, w' = (((w.alloc (.cells #[.iface 25 (.pointer (some ⟨p, 0, none⟩))] T1)).alloc (.cells #[.string (str fr)] 9)).alloc (.cells #[.string (str up)] 9)).alloc (.cells #[.func (.func 111) #[] #[.pointer (some ⟨r, 0, none⟩)]] T2) := by
  go_enter Tryz.func109, Tryz.ntmps109
  go_wp2
  go_ret
  exact ⟨rfl, _, _, rfl⟩
theorem dueB_of {w w' : World} {p r : Nat} {K U : Txt} {T1 T2 : TypeId} (hr : w.cell? ⟨r, 0, none⟩ = some (.iface 25 (.pointer (some ⟨p, 0, none⟩)))) (hw : w' = (((w.alloc (.cells #[.iface 25 (.pointer (some ⟨p, 0, none⟩))] T1)).alloc (.cells #[.string (str K)] 9)).alloc (.cells #[.string (str U)] 9)).alloc (.cells #[.func (.func 111) #[] #[.pointer (some ⟨r, 0, none⟩)]] T2)) : DueB w' w.heap.size r p K U ∧ Below w.heap.size w w' := by
  have b1 := Boxed.new w T1 (.iface 25 (.pointer (some ⟨p, 0, none⟩)))
  have b2 := Boxed.new (w.alloc (.cells #[.iface 25 (.pointer (some ⟨p, 0, none⟩))] T1)) 9 (.string (str K))
  have b3 := Boxed.new ((w.alloc (.cells #[.iface 25 (.pointer (some ⟨p, 0, none⟩))] T1)).alloc (.cells #[.string (str K)] 9)) 9 (.string (str U))
  have b4 := Boxed.new (((w.alloc (.cells #[.iface 25 (.pointer (some ⟨p, 0, none⟩))] T1)).alloc (.cells #[.string (str K)] 9)).alloc (.cells #[.string (str U)] 9)) T2 (.func (.func 111) #[] #[.pointer (some ⟨r, 0, none⟩)])
  simp only [World.size_alloc] at b2 b3 b4
  have hb : Below w.heap.size w w' := by rw [hw]; exact ((((Below.refl _ _).alloc (Nat.le_refl _) _).alloc (by simp) _).alloc (by simp; omega) _).alloc (by simp; omega) _
  refine ⟨⟨?_, ?_, ?_, ?_, (hb.cell (p := ⟨r, 0, none⟩) (World.block_lt_of_cell? _ _ hr)).trans hr⟩, hb⟩
  · rw [hw]; exact (((b1.alloc _).alloc _).alloc _).cell
  · rw [hw]; exact ((b2.alloc _).alloc _).cell
  · rw [hw]; exact (b3.alloc _).cell
  · rw [hw]; exact b4.cell
def KE : Txt := Ord.key [pS [101]]
def KD (now : Nat) : Txt := Ord.key [pS [101], pN now]
def UD (now : Nat) : Txt := (aft (KD now)).1
theorem KD_len (now : Nat) : (KD now).length ≤ 255 := by
  unfold KD Ord.key pS pN Ord.pb
  simp [Oc.big_length, Ord.esc]
theorem underE1 (m : Int) (w : World) (hm : w.cell? ⟨0, 0, none⟩ = some (.int .i64 m)) :
    Calls Tryz.prog 108 #[.string ⟨#[101]⟩, .slice none 0 0] w fun e w' => ∃ U, e = .returned (.tuple #[.string (str KE), .string (str U)]) ∧ Below w.heap.size w w' := by
  refine (under_any [101] (.slice none 0 0) [] (by decide) (by decide) (fun _ h => by cases h) m w hm (.inl ⟨rfl, rfl⟩)).mono ?_
  rintro e w' ⟨rfl, hb⟩
  exact ⟨(aft KE).1, by unfold underOut; rw [if_pos (by decide)]; rfl, hb⟩
theorem underE2 (now : Nat) (hn : now < 18446744073709551616) (m : Int) (w : World) (T : TypeId) (hm : w.cell? ⟨0, 0, none⟩ = some (.int .i64 m)) :
    Calls Tryz.prog 108 #[.string ⟨#[101]⟩, .slice (some ⟨w.heap.size, 0, none⟩) 1 1] (w.alloc (.cells #[.bool false, .int .u64 now, .string ⟨#[]⟩] T)) fun e w' => e = .returned (.tuple #[.string (str (KD now)), .string (str (UD now))]) ∧ Below w.heap.size w w' := by
  have h0 := World.block_lt_of_cell? _ _ hm
  have bA : Below w.heap.size w (w.alloc (.cells #[.bool false, .int .u64 now, .string ⟨#[]⟩] T)) := (Below.refl _ _).alloc (Nat.le_refl _) _
  have bx := BoxL.new w #[.bool false, .int .u64 now, .string ⟨#[]⟩] T
  refine (under_any [101] (.slice (some ⟨w.heap.size, 0, none⟩) 1 1) [pN now] (by simp) (by simp) (fun q hq => ?_) m _ ((bA.cell (p := ⟨0, 0, none⟩) h0).trans hm) (.inr ⟨⟨w.heap.size, 0, none⟩, 1, rfl, fun j v hj => ?_⟩)).mono ?_
  · simp at hq; subst hq; exact ⟨hn, by simp [pN]⟩
  · match j, hj with
    | 0, hj => cases hj; exact bx.cell (i := 0) rfl
    | 1, hj => cases hj; exact bx.cell (i := 1) rfl
    | 2, hj => cases hj; exact bx.cell (i := 2) rfl
    | (j + 3), hj => simp [cellsP] at hj
  · rintro e w' ⟨rfl, hb⟩
    exact ⟨by unfold underOut; rw [if_pos (by exact KD_len now)]; rfl, below_step bA hb⟩
theorem mDue_any (p : Nat) (now : Nat) (hn : now < 18446744073709551616) (m : Int) (w : World) (hm : w.cell? ⟨0, 0, none⟩ = some (.int .i64 m)) :
    Calls Tryz.prog 28 #[.iface 25 (.pointer (some ⟨p, 0, none⟩)), .int .u64 now] w fun e w' => ∃ a, e = .returned (.func (.func 208) #[] #[.pointer (some ⟨a, 0, none⟩), .pointer (some ⟨a + 1, 0, none⟩), .pointer (some ⟨a + 1 + 1, 0, none⟩), .pointer (some ⟨a + 1 + 1 + 1, 0, none⟩)]) ∧ w.heap.size ≤ a ∧ DueB w' a w.heap.size p KE (UD now) ∧ Below w.heap.size w w' := by
  have h0 := World.block_lt_of_cell? _ _ hm
  have hmf : ∀ (fn : Fn) (first cap : Array Value) (w : World), (Instr.makeFunc fn first cap).run Tryz.prog w = .ok (.func fn first cap) w := fun _ _ _ _ => rfl
  obtain ⟨w0, hw0⟩ : ∃ w0, w0 = w.alloc (.cells #[.iface 25 (.pointer (some ⟨p, 0, none⟩))] 149) := ⟨_, rfl⟩
  have b0 : Below w.heap.size w w0 := by rw [hw0]; exact (Below.refl _ _).alloc (Nat.le_refl _) _
  have x0 : Boxed w0 w.heap.size 149 (.iface 25 (.pointer (some ⟨p, 0, none⟩))) := by rw [hw0]; exact Boxed.new w _ _
  have HM : Hid (∀ W, Below w.heap.size w W → W.cell? ⟨0, 0, none⟩ = some (.int .i64 m)) := fun W hW => (hW.cell (p := ⟨0, 0, none⟩) h0).trans hm
  have HU1 := Lib.hid (underE1 m w0 (HM.out _ b0))
  have HU2 := Lib.hid (fun W T hW => underE2 now hn m W T hW)
  have HN := Lib.hid (fun W => numP' now W)
  have HT := Lib.hid (fun W => thD_any p w.heap.size KE (UD now) W)
  have HX := Lib.hid x0
  have HB := Lib.hid b0
  rw [hw0] at HU1 HX HB
  clear hm h0 x0 b0 hw0
  go_enter Tryz.func28, Tryz.ntmps28
  go_wp2_with (first
    | (go_at_call 109; refine (HT.out _).mono ?_; rintro e4 w4 ⟨rfl, T1, T2, hw4⟩; have HQ4 := Lib.hid (dueB_of c3 hw4); clear hw4)
    | (go_at_call 104; refine (HN.out _).mono ?_; rintro e2 w2 ⟨rfl, hb2⟩)
    | (go_at_call 108; have tok := hb2; refine (HU2.out _ _ (HM.out _ (below_step (below_step HB.out hb1) hb2))).mono ?_; rintro e3 w3 ⟨rfl, hb3⟩; have x3 : Boxed w3 w.heap.size 149 (.iface 25 (.pointer (some ⟨p, 0, none⟩))) := (hb3.block _ (Nat.lt_of_lt_of_le (Nat.lt_of_lt_of_le HX.out.lt hb1.size) hb2.size)).trans ((hb2.block _ (Nat.lt_of_lt_of_le HX.out.lt hb1.size)).trans ((hb1.block _ HX.out.lt).trans HX.out)); have c3 := x3.cell; have HB3 := Lib.hid (below_step (below_step (below_step HB.out hb1) hb2) hb3))
    | (go_at_call 108; refine HU1.out.mono ?_; rintro e1 w1 ⟨U, rfl, hb1⟩))
  go_ret
  exact ⟨_, by trivial, HB3.out.size, HQ4.out.1, below_step HB3.out HQ4.out.2⟩
end Go.Proofs.YtgmneapgihakgaaGreatDoor
/- All: all messages of a row, up to its error. -/
namespace Go.Proofs.YtgmneapgihakgaaGreatDoor
open Go.RowKit
attribute [local go_sem] Oper.semAt_some
/-- What All's rounds keep: the boxes of its answers, and the row so far. -/
structure AllI (w : World) (g : Nat) (pre : List (Ms × Int)) (M : Nat → Prop) (A : World) : Prop where
  ok : ∀ x ∈ pre, x.2 = 0
  ex : ∃ v, Boxed A (g + 2) 59 v ∧ RowG cvMs 5 62 A g v (pre.map (·.1)) ∧ (∀ k, M k ↔ k = g ∨ k = g + 1 ∨ k = g + 2 ∨ v.ownBlock = some k)
  r0 : Boxed A g 59 (.slice none 0 0)
  r1 : Boxed A (g + 1) 43 (.int .i64 0)
  below : Below g w A
/-- .. and what they leave behind an error. -/
structure AllX (w : World) (g : Nat) (E pre : List (Ms × Int)) (M : Nat → Prop) (A : World) : Prop where
  ex : ∃ p x, pre = p ++ [x] ∧ p ++ [x] <+: E ∧ x.2 ≠ 0 ∧ Boxed A (g + 1) 43 (.int .i64 x.2)
  own : ∀ k, M k → k = g ∨ k = g + 1 ∨ k = g + 2 ∨ g + 3 ≤ k
  has : M g ∧ M (g + 1)
  r0 : Boxed A g 59 (.slice none 0 0)
  below : Below g w A
theorem below_stays {g : Nat} {w A B : World} {C : Nat → Prop} (h : Below g w A) (hs : Stays C A B) (hC : ∀ k, k < g → C k) (hg : g ≤ A.heap.size) : Below g w B :=
  ⟨hs.os.trans h.os, hs.tape.trans h.tape, hs.output.trans h.output, Nat.le_trans h.size hs.size, fun k hk => (hs.same k (hC k hk) (by omega)).trans (h.block k hk)⟩
theorem AllI.stays {w : World} {g : Nat} {pre : List (Ms × Int)} {M : Nat → Prop} {A B : World} (h : AllI w g pre M A) (hs : Stays (fun k => M k ∨ k < g + 3) A B) : AllI w g pre M B := by
  have l2 := h.r1.lt
  obtain ⟨v, hv, hr, hM⟩ := h.ex
  have l3 := hv.lt
  exact ⟨h.ok, ⟨v, (hs.same _ (.inr (by omega)) l3).trans hv, hr.keep (fun j hj => hs.same j (.inl ((hM j).2 (.inr (.inr (.inr hj))))) (hr.lt j hj).2), hM⟩, (hs.same _ (.inr (by omega)) h.r0.lt).trans h.r0, (hs.same _ (.inr (by omega)) l2).trans h.r1, below_stays h.below hs (fun k hk => .inr (by omega)) (by omega)⟩
theorem AllX.stays {w : World} {g : Nat} {E pre : List (Ms × Int)} {M : Nat → Prop} {A B : World} (h : AllX w g E pre M A) (hs : Stays (fun k => M k ∨ k < g + 3) A B) : AllX w g E pre M B := by
  obtain ⟨p, x, h1, h2, h3, h4⟩ := h.ex
  have l2 := h4.lt
  exact ⟨⟨p, x, h1, h2, h3, (hs.same _ (.inr (by omega)) l2).trans h4⟩, h.own, h.has, (hs.same _ (.inr (by omega)) h.r0.lt).trans h.r0, below_stays h.below hs (fun k hk => .inr (by omega)) (by omega)⟩
theorem start3A (w : World) : AllI w w.heap.size [] (fun k => k = w.heap.size ∨ k = w.heap.size + 1 ∨ k = w.heap.size + 2) (((w.alloc (.cells #[.slice none 0 0] 59)).alloc (.cells #[.int .i64 0] 43)).alloc (.cells #[.slice none 0 0] 59)) := by
  obtain ⟨x0, x1, x2, b⟩ := start3 w 59 43 59 (.slice none 0 0) (.int .i64 0) (.slice none 0 0)
  exact ⟨fun x h => (by cases h), ⟨_, x2, RowG.nil _ _ _ _ _, fun k => by simp [Value.ownBlock]⟩, x0, x1, b⟩
theorem AllI.push {w : World} {g : Nat} {pre : List (Ms × Int)} {M : Nat → Prop} {A w1 : World} {x : Ms × Int} {v v' : Value} {o : Obj} (h : AllI w g pre M A) (hx : x.2 = 0) (hv : Boxed A (g + 2) 59 v) (hrow : RowG cvMs 5 62 A g v (pre.map (·.1))) (hM : ∀ k, M k ↔ k = g ∨ k = g + 1 ∨ k = g + 2 ∨ v.ownBlock = some k)
    (hr : RowG cvMs 5 62 w1 g v' (pre.map (·.1) ++ [x.1])) (hg : (A.alloc o).grownBy w1 v.ownBlock) (hb : Below g A w1) (ho : v'.ownBlock = v.ownBlock ∨ v'.ownBlock = some (A.heap.size + 1)) :
    Boxed w1 (g + 2) 59 v ∧ ∃ M', Went M M' A (w1.setCell ⟨g + 2, 0, none⟩ v') ∧ AllI w g (pre ++ [x]) M' (w1.setCell ⟨g + 2, 0, none⟩ v') := by
  have l0 := h.r0.lt
  have l1 := h.r1.lt
  have l2 := hv.lt
  have n2 : some (g + 2) ≠ v.ownBlock := hrow.not_row hv (by decide)
  have n0 : some g ≠ v.ownBlock := hrow.not_row h.r0 (by decide)
  have n1 : some (g + 1) ≠ v.ownBlock := hrow.not_row h.r1 (by decide)
  have keep : ∀ k, k < A.heap.size → some k ≠ v.ownBlock → w1.heap[k]? = A.heap[k]? := fun k hk hne => (hg.block k (by rw [World.size_alloc]; omega) hne).trans (Below.heap_alloc A o k hk)
  have hv1 : Boxed w1 (g + 2) 59 v := (keep _ l2 n2).trans hv
  have m2 : some (g + 2) ≠ v'.ownBlock := hr.not_row hv1 (by decide)
  refine ⟨hv1, fun k => k = g ∨ k = g + 1 ∨ k = g + 2 ∨ v'.ownBlock = some k, ⟨fun k hk => ?_, ?_⟩, ⟨fun y hy => ?_, ⟨v', hv1.set _, ?_, fun _ => Iff.rfl⟩, ?_, ?_, ?_⟩⟩
  · rcases hk with hk | hk | hk | hk
    · exact .inl ((hM k).2 (.inl hk))
    · exact .inl ((hM k).2 (.inr (.inl hk)))
    · exact .inl ((hM k).2 (.inr (.inr (.inl hk))))
    · rcases ho with e | e
      · exact .inl ((hM k).2 (.inr (.inr (.inr (e ▸ hk)))))
      · rw [e] at hk; cases hk; exact .inr (by omega)
  · refine ⟨hb.os, hb.tape, hb.output, by rw [World.size_setCell]; exact hb.size, fun k hk hl => ?_⟩
    have hk' : ¬ (k = g ∨ k = g + 1 ∨ k = g + 2 ∨ v.ownBlock = some k) := fun e => hk ((hM k).2 e)
    exact (Below.heap_setCell _ _ _ _ (by show k ≠ g + 2; intro e; exact hk' (.inr (.inr (.inl e))))).trans (keep k hl (fun e => hk' (.inr (.inr (.inr e.symm)))))
  · rcases List.mem_append.1 hy with hy | hy
    · exact h.ok y hy
    · obtain rfl : y = x := by simpa using hy
      exact hx
  · rw [List.map_append]
    exact hr.keep fun j hj => Below.heap_setCell _ _ _ _ (by show j ≠ g + 2; intro e; exact m2 (by rw [← e]; exact hj.symm))
  · have hk : Boxed w1 g 59 (.slice none 0 0) := (keep _ l0 n0).trans h.r0
    exact Boxed.other hk (by omega) _
  · have hk : Boxed w1 (g + 1) 43 (.int .i64 0) := (keep _ l1 n1).trans h.r1
    exact Boxed.other hk (by omega) _
  · exact (h.below.trans hb).setCell (p := ⟨g + 2, 0, none⟩) (by show g ≤ g + 2; omega) _
theorem AllI.stop {w : World} {g : Nat} {E pre : List (Ms × Int)} {M : Nat → Prop} {A : World} {x : Ms × Int} (h : AllI w g pre M A) (hx : x.2 ≠ 0) (hE : pre ++ [x] <+: E) :
    Went M M A ((A.setCell ⟨g, 0, none⟩ (.slice none 0 0)).setCell ⟨g + 1, 0, none⟩ (.int .i64 x.2)) ∧ AllX w g E (pre ++ [x]) M ((A.setCell ⟨g, 0, none⟩ (.slice none 0 0)).setCell ⟨g + 1, 0, none⟩ (.int .i64 x.2)) := by
  obtain ⟨v, hv, hr, hM⟩ := h.ex
  have mg := (hM g).2 (.inl rfl)
  have mg1 := (hM (g + 1)).2 (.inr (.inl rfl))
  refine ⟨⟨fun k hk => .inl hk, ⟨rfl, rfl, rfl, by simp, fun k hk hl => ?_⟩⟩, ⟨⟨pre, x, rfl, hE, hx, ((h.r1.other (by omega) _).set _)⟩, fun k hk => ?_, ⟨mg, mg1⟩, (h.r0.set _).other (by omega) _, (h.below.setCell (p := ⟨g, 0, none⟩) (Nat.le_refl _) _).setCell (p := ⟨g + 1, 0, none⟩) (by show g ≤ g + 1; omega) _⟩⟩
  · exact (Below.heap_setCell _ _ _ _ (by show k ≠ g + 1; intro e; exact hk (e ▸ mg1))).trans (Below.heap_setCell _ _ _ _ (by show k ≠ g; intro e; exact hk (e ▸ mg)))
  · rcases (hM k).1 hk with e | e | e | e
    · exact .inl e
    · exact .inr (.inl e)
    · exact .inr (.inr (.inl e))
    · have h1 := (hr.lt k e).1
      have n2 : some (g + 2) ≠ v.ownBlock := hr.not_row hv (by decide)
      have n0 : some g ≠ v.ownBlock := hr.not_row h.r0 (by decide)
      have n1 : some (g + 1) ≠ v.ownBlock := hr.not_row h.r1 (by decide)
      have : k ≠ g := fun h => n0 (by rw [← h, e])
      have : k ≠ g + 1 := fun h => n1 (by rw [← h, e])
      have : k ≠ g + 2 := fun h => n2 (by rw [← h, e])
      exact .inr (.inr (.inr (by omega)))
end Go.Proofs.YtgmneapgihakgaaGreatDoor
