/- Texts of one seat, merged. -/
import Derived.Test.YtdghhffknfkcaaaGreatDoorZ19
import Derived.Deep.RegionHeld3
import Derived.Test.YtdghhffknfkcaaaGreatDoorZ13
import Derived.Test.YtdghhffknfkcaaaGreatDoorZ12
set_option maxRecDepth 100000
set_option maxHeartbeats 4000000
set_option linter.unusedVariables false
/- registry's queue: what a queue's pair tells; Queues. -/
namespace Go.Proofs.YtdghhffknfkcaaaGreatDoor
open Go.RowKit Go.Sort Go.Maps
theorem rrQu {w : World} {g : Nat} {x0 x1 x2 x3 x4 : Value} {e : Int} {tmps : Array Value} (ht : tmps[2]? = some (.pointer (some ⟨g, 0, none⟩))) (h8 : tmps[3]? = some (.int .i64 e)) (hx : BoxL w g 36 #[x0, x1, x2, x3, x4]) :
    (results Tryz.f59 tmps).run Tryz.prog w = .ok (.tuple #[.agg #[x0, x1, x2, x3, x4], .int .i64 e]) w := by
  have h0 := hx.cell (i := 0) rfl
  have h1 := hx.cell (i := 1) rfl
  have h2 := hx.cell (i := 2) rfl
  have h3 := hx.cell (i := 3) rfl
  have h4 := hx.cell (i := 4) rfl
  simp [results, Tryz.results59, go_sem, ht, h8, h0, h1, h2, h3, h4]
/-- What registry's queue reads of: the pair's box, the thing's box, the answer's box. -/
def SQ (w0 : World) (B : Nat) (nm V : Txt) (W : World) : Prop := W.cell? ⟨B, 1, none⟩ = some (.string (str V)) ∧ W.cell? ⟨w0.heap.size, 1, none⟩ = some (.string (str nm)) ∧ W.cell? ⟨B + 1, 0, none⟩ = some (.string ⟨#[]⟩) ∧ W.cell? ⟨B + 1, 1, none⟩ = some (.int .u32 0) ∧ W.cell? ⟨B + 1, 2, none⟩ = some (.int .u64 0) ∧ W.cell? ⟨B + 1, 3, none⟩ = some (.int .u32 0) ∧ W.cell? ⟨B + 1, 4, none⟩ = some (.string ⟨#[]⟩) ∧ (∀ i, W.frozen? ⟨B + 1, i, none⟩ = false) ∧ BoxL W (B + 1) 36 #[.string ⟨#[]⟩, .int .u32 0, .int .u64 0, .int .u32 0, .string ⟨#[]⟩] ∧ Below (w0.heap.size + 1) (w0.alloc (.cells #[.string ⟨#[113]⟩, .string (str nm), .int .u64 0, .int .u64 0, .string ⟨#[]⟩, .int .i64 0, .string ⟨#[]⟩, .string ⟨#[]⟩, .string ⟨#[]⟩] 187)) W
set_option maxHeartbeats 4000000 in
theorem queue_any (nm V : Txt) (hk : (kQ nm).length ≤ 255) (w : World) :
    Calls Tryz.prog 59 #[.agg #[.string (str (kQ nm)), .string (str V)]] w fun e w' => e = .returned (.tuple #[aggQ (readG zQ (getQ (str nm)) (str V)).1, .int .i64 (readG zQ (getQ (str nm)) (str V)).2]) ∧ Below w.heap.size w w' := by
  obtain ⟨w1, hw1⟩ : ∃ w1, w1 = (w.alloc (.cells #[.string (str (kQ nm)), .string (str V)] 60)).alloc (.cells #[.string ⟨#[]⟩, .int .u32 0, .int .u64 0, .int .u32 0, .string ⟨#[]⟩] 36) := ⟨_, rfl⟩
  obtain ⟨x1, y1, b1⟩ := two0 w #[.string (str (kQ nm)), .string (str V)] #[.string ⟨#[]⟩, .int .u32 0, .int .u64 0, .int .u32 0, .string ⟨#[]⟩] 60 36
  rw [← hw1] at x1 y1 b1
  have p0 := x1.cell (i := 0) rfl
  have HP := Lib.hid (parseQ nm hk w1)
  have HQ := Lib.hid (fun W => queues_any (str nm) W)
  have HR : Hid (∀ W cd, CdQ W cd (str nm) → Calls Tryz.prog 77 #[cd, .string (str V)] W fun x w' => x = .returned (.tuple #[aggQ (readG zQ (getQ (str nm)) (str V)).1, .int .i64 (readG zQ (getQ (str nm)) (str V)).2]) ∧ Below W.heap.size W w') := fun W cd hc => hc.read _
  have HX := Lib.hid x1
  have HY := Lib.hid y1
  have HB := Lib.hid b1
  rw [hw1] at p0 HP
  have HW := Lib.hid hw1
  have hmx := mixed0
  clear x1 y1 b1 hw1 hk
  revert HR
  generalize readG zQ (getQ (str nm)) (str V) = r
  intro HR
  obtain ⟨q, ev⟩ := r
  unfold aggQ at HR ⊢
  simp only at HR ⊢
  go_enter Tryz.func59, Tryz.ntmps59
  go_upto_region 4 with (go_at_call 109; refine HP.out.mono ?_; rintro e2 w2 ⟨rfl, hb2⟩)
  rw [← HW.out] at hb2
  have x2 := (HX.out.below hb2 HX.out.lt).alloc (.cells #[.string ⟨#[113]⟩, .string (str nm), .int .u64 0, .int .u64 0, .string ⟨#[]⟩, .int .i64 0, .string ⟨#[]⟩, .string ⟨#[]⟩, .string ⟨#[]⟩] 187)
  have HX2 : Hid (BoxL (w2.alloc (.cells #[.string ⟨#[113]⟩, .string (str nm), .int .u64 0, .int .u64 0, .string ⟨#[]⟩, .int .i64 0, .string ⟨#[]⟩, .string ⟨#[]⟩, .string ⟨#[]⟩] 187)).drew w.heap.size 60 #[.string (str (kQ nm)), .string (str V)]) := x2
  have HY2 : Hid (BoxL (w2.alloc (.cells #[.string ⟨#[113]⟩, .string (str nm), .int .u64 0, .int .u64 0, .string ⟨#[]⟩, .int .i64 0, .string ⟨#[]⟩, .string ⟨#[]⟩, .string ⟨#[]⟩] 187)).drew (w.heap.size + 1) 36 #[.string ⟨#[]⟩, .int .u32 0, .int .u64 0, .int .u32 0, .string ⟨#[]⟩]) := (HY.out.below hb2 HY.out.lt).alloc (.cells #[.string ⟨#[113]⟩, .string (str nm), .int .u64 0, .int .u64 0, .string ⟨#[]⟩, .int .i64 0, .string ⟨#[]⟩, .string ⟨#[]⟩, .string ⟨#[]⟩] 187)
  have HB2 : Hid (Below w.heap.size w (w2.alloc (.cells #[.string ⟨#[113]⟩, .string (str nm), .int .u64 0, .int .u64 0, .string ⟨#[]⟩, .int .i64 0, .string ⟨#[]⟩, .string ⟨#[]⟩, .string ⟨#[]⟩] 187)).drew) := ((below_step HB.out hb2).trans (((Below.refl _ _).alloc (Nat.le_refl _) _).mono (below_step HB.out hb2).size)).drew
  have v1 : (w2.alloc (.cells #[.string ⟨#[113]⟩, .string (str nm), .int .u64 0, .int .u64 0, .string ⟨#[]⟩, .int .i64 0, .string ⟨#[]⟩, .string ⟨#[]⟩, .string ⟨#[]⟩] 187)).drew.cell? ⟨w.heap.size, 1, none⟩ = some (.string (str V)) := x2.cell (i := 1) rfl
  have v2 : (w2.alloc (.cells #[.string ⟨#[113]⟩, .string (str nm), .int .u64 0, .int .u64 0, .string ⟨#[]⟩, .int .i64 0, .string ⟨#[]⟩, .string ⟨#[]⟩, .string ⟨#[]⟩] 187)).drew.cell? ⟨w2.heap.size, 1, none⟩ = some (.string (str nm)) := (BoxL.new w2 #[.string ⟨#[113]⟩, .string (str nm), .int .u64 0, .int .u64 0, .string ⟨#[]⟩, .int .i64 0, .string ⟨#[]⟩, .string ⟨#[]⟩, .string ⟨#[]⟩] 187).cell (i := 1) rfl
  clear x2 hb2 p0
  go_region_with (first
    | (go_at_call 77; refine (HR.out _ _ hcd4).mono ?_; rintro e5 w5 ⟨rfl, hb5⟩; have HB5 := Lib.hid (below_step (below_step HB2.out hb4) hb5); have y5 := (HY2.out.below hb4 HY2.out.lt).below hb5 (HY2.out.below hb4 HY2.out.lt).lt; have f5 := y5.frozen; have q0 := y5.cell (i := 0) rfl; have q1 := y5.cell (i := 1) rfl; have q2 := y5.cell (i := 2) rfl; have q3 := y5.cell (i := 3) rfl; have q4 := y5.cell (i := 4) rfl; have HY5 := Lib.hid y5; clear y5)
    | (go_at_call 49; refine (HQ.out _).mono ?_; rintro e4 w4 ⟨cd4, rfl, hcd4, hb4⟩; have v3 := (HX2.out.below hb4 HX2.out.lt).cell (i := 1) rfl))
  all_goals
    go_wp2
    have x1 := HY5.out
    have xs := (((((x1.set 0 (.string q.nm)).set 1 (.int .u32 q.most)).set 2 (.int .u64 q.ttl)).set 3 (.int .u32 q.tries)).set 4 (.string q.dead))
    exact bodyPost_ret_by (rrQu rfl rfl xs) rfl ⟨rfl, below_sets HB5.out (by omega)⟩
end Go.Proofs.YtdghhffknfkcaaaGreatDoor
/- Queues: the row that is made. -/
namespace Go.Proofs.YtdghhffknfkcaaaGreatDoor
open Go.RowKit Go.Sort Go.Maps
def KQ : Txt := [2, 113, 0, 0]
def UQ : Txt := [2, 113, 0, 1]
/-- The boxes of a row of queues. -/
structure QsB (w : World) (a p : Nat) : Prop where
  c1 : w.cell? ⟨a, 0, none⟩ = some (.iface 25 (.pointer (some ⟨p, 0, none⟩)))
  c2 : w.cell? ⟨a + 1, 0, none⟩ = some (.string (str KQ))
  c3 : w.cell? ⟨a + 1 + 1, 0, none⟩ = some (.string (str UQ))
  c4 : w.cell? ⟨a + 1 + 1 + 1, 0, none⟩ = some (.func (.func 59) #[] #[])
theorem thQ_any (p : Nat) (fr up : Txt) (w : World) :
    Calls Tryz.prog 58 #[.iface 25 (.pointer (some ⟨p, 0, none⟩)), .string (str fr), .string (str up), .func (.func 59) #[] #[]] w fun e w' => e = .returned (.func (.func 108) #[] #[.pointer (some ⟨w.heap.size, 0, none⟩), .pointer (some ⟨w.heap.size + 1, 0, none⟩), .pointer (some ⟨w.heap.size + 1 + 1, 0, none⟩), .pointer (some ⟨w.heap.size + 1 + 1 + 1, 0, none⟩)]) ∧ ∃ T1 T2, w' = (((w.alloc (.cells #[.iface 25 (.pointer (some ⟨p, 0, none⟩))] T1)).alloc (.cells #[.string (str fr)] 9)).alloc (.cells #[.string (str up)] 9)).alloc (.cells #[.func (.func 59) #[] #[]] T2) := by
  go_enter Tryz.func58, Tryz.ntmps58
  go_wp2
  go_ret
  exact ⟨rfl, _, _, rfl⟩
theorem qsB_of {w w' : World} {p : Nat} {T1 T2 : TypeId} (hw : w' = (((w.alloc (.cells #[.iface 25 (.pointer (some ⟨p, 0, none⟩))] T1)).alloc (.cells #[.string (str KQ)] 9)).alloc (.cells #[.string (str UQ)] 9)).alloc (.cells #[.func (.func 59) #[] #[]] T2)) : QsB w' w.heap.size p ∧ Below w.heap.size w w' := by
  have b1 := Boxed.new w T1 (.iface 25 (.pointer (some ⟨p, 0, none⟩)))
  have b2 := Boxed.new (w.alloc (.cells #[.iface 25 (.pointer (some ⟨p, 0, none⟩))] T1)) 9 (.string (str KQ))
  have b3 := Boxed.new ((w.alloc (.cells #[.iface 25 (.pointer (some ⟨p, 0, none⟩))] T1)).alloc (.cells #[.string (str KQ)] 9)) 9 (.string (str UQ))
  have b4 := Boxed.new (((w.alloc (.cells #[.iface 25 (.pointer (some ⟨p, 0, none⟩))] T1)).alloc (.cells #[.string (str KQ)] 9)).alloc (.cells #[.string (str UQ)] 9)) T2 (.func (.func 59) #[] #[])
  simp only [World.size_alloc] at b2 b3 b4
  refine ⟨⟨?_, ?_, ?_, ?_⟩, ?_⟩
  · rw [hw]; exact (((b1.alloc _).alloc _).alloc _).cell
  · rw [hw]; exact ((b2.alloc _).alloc _).cell
  · rw [hw]; exact (b3.alloc _).cell
  · rw [hw]; exact b4.cell
  · rw [hw]; exact ((((Below.refl _ _).alloc (Nat.le_refl _) _).alloc (by simp) _).alloc (by simp; omega) _).alloc (by simp; omega) _
theorem underQ : underOut (Ord.key (⟨true, 0, [113]⟩ :: [])) = .tuple #[.string (str KQ), .string (str UQ)] := by
  unfold underOut
  rw [if_pos (by decide)]
  rfl
theorem qs_any (p : Nat) (m : Int) (w : World) (hm : w.cell? ⟨0, 0, none⟩ = some (.int .i64 m)) :
    Calls Tryz.prog 19 #[.iface 25 (.pointer (some ⟨p, 0, none⟩))] w fun e w' => ∃ a, e = .returned (.func (.func 108) #[] #[.pointer (some ⟨a, 0, none⟩), .pointer (some ⟨a + 1, 0, none⟩), .pointer (some ⟨a + 1 + 1, 0, none⟩), .pointer (some ⟨a + 1 + 1 + 1, 0, none⟩)]) ∧ w.heap.size ≤ a ∧ QsB w' a p ∧ Below w.heap.size w w' := by
  have HU : Hid (Calls Tryz.prog 57 #[.string ⟨#[113]⟩, .slice none 0 0] w fun e w' => e = .returned (.tuple #[.string (str KQ), .string (str UQ)]) ∧ Below w.heap.size w w') := by
    have := under_any [113] (.slice none 0 0) [] (by decide) (by decide) (fun _ h => by cases h) m w hm (.inl ⟨rfl, rfl⟩)
    rw [underQ] at this
    exact this
  have HT := Lib.hid (fun W => thQ_any p KQ UQ W)
  clear hm
  go_enter Tryz.func19, Tryz.ntmps19
  go_wp2_with (first
    | (go_at_call 57; refine HU.out.mono ?_; rintro e1 w1 ⟨rfl, hb1⟩)
    | (go_at_call 58; refine (HT.out _).mono ?_; rintro e2 w2 ⟨rfl, T1, T2, hw2⟩; have HQ2 := Lib.hid (qsB_of hw2); clear hw2))
  go_ret
  exact ⟨w1.heap.size, rfl, hb1.size, HQ2.out.1, below_step hb1 HQ2.out.2⟩
end Go.Proofs.YtdghhffknfkcaaaGreatDoor
/- What the law of broken bytes asks of texts. -/
namespace Go.Proofs.YtdghhffknfkcaaaGreatDoor
open Go.RowKit Go.Sort Go.Maps
open Tx (Rise At Ord above)
theorem two_rise {l : List Txt} {a b : Txt} (hr : Rise slt l) (hm : ∀ y, y ∈ l ↔ y = a ∨ y = b) (hab : slt a b = true) : l = [a, b] := by
  have irr : ∀ x, slt x x ≠ true := fun x h => by rw [sord.irr] at h; cases h
  have hne : a ≠ b := fun e => irr b (e ▸ hab)
  have hba : slt b a ≠ true := fun h => irr a (sord.tr hab h)
  match l, hr, hm with
  | [], _, hm => exact absurd ((hm a).2 (.inl rfl)) (by simp)
  | [x], _, hm =>
    have h1 := (hm a).2 (.inl rfl)
    have h2 := (hm b).2 (.inr rfl)
    simp at h1 h2
    exact absurd (h1.trans h2.symm) hne
  | x :: y :: t, hr, hm =>
    obtain ⟨hx, hr2⟩ := List.pairwise_cons.1 hr
    obtain ⟨hy, hr3⟩ := List.pairwise_cons.1 hr2
    have hxa : x = a := by
      rcases (hm x).1 (by simp) with e | e
      · exact e
      · subst e
        have h1 := (hm a).2 (.inl rfl)
        rcases List.mem_cons.1 h1 with e | h
        · exact absurd e hne
        · exact absurd (hx a h) hba
    subst hxa
    have hyb : y = b := by
      rcases (hm y).1 (by simp) with e | e
      · exact absurd (hx y (by simp)) (by rw [e]; exact irr _)
      · exact e
    subst hyb
    have ht : t = [] := by
      cases t with
      | nil => rfl
      | cons z t =>
        rcases (hm z).1 (by simp) with e | e
        · exact absurd (hx z (by simp)) (by rw [e]; exact irr _)
        · exact absurd (hy z (by simp)) (by rw [e]; exact irr _)
    rw [ht]
def kqa : Txt := kQ [97]
def kca : Txt := kC [97]
theorem kqa_eq : kqa = [2, 113, 0, 0, 2, 97, 0, 0] := by decide
theorem kca_eq : kca = [2, 99, 0, 0, 2, 97, 0, 0] := by decide
theorem kca_lt : slt kca kqa = true := by rw [kqa_eq, kca_eq]; decide
theorem between_a (f : Txt → Txt) : between [kca, kqa] f KQ UQ = [(kqa, f kqa)] := by
  unfold between notB ahead
  rw [kqa_eq, kca_eq]
  have h1 : slt [2, 99, 0, 0, 2, 97, 0, 0] KQ = true := by decide
  have h2 : slt [2, 113, 0, 0, 2, 97, 0, 0] KQ = false := by decide
  have h3 : slt [2, 113, 0, 0, 2, 97, 0, 0] UQ = true := by decide
  simp [h1, h2, h3]
/-- Are the bytes a counter's? -/
def wholeB (B : Txt) : Bool := decide (B.length = 9) && decide (B.head? = some 1)
/-- What the reader tells behind the first byte. -/
def kB (B : Txt) : Nat := Oc.val (tk (tk (str B) 0 1).2.1 (tk (str B) 0 1).2.2 8).1.data.toList
theorem val_one (c : UInt8) : Oc.val [c] = c.toNat := by simp [Oc.val]
theorem readU_math (B : Txt) : ((readG 0 getU (str B)).2 = 0 ↔ wholeB B = true) ∧ ((readG 0 getU (str B)).2 = 0 → (readG 0 getU (str B)).1 = kB B) := by
  cases B with
  | nil =>
    have h0 : tk (str []) 0 1 = (ByteArray.empty, str [], 3) := tk_short (str []) 1 (.inr (by decide))
    have hv : verG 0 getU (str []) 0 = (0, str [], 3) := by
      unfold verG
      rw [h0]
      rfl
    have hr : readG 0 getU (str []) = (0, 3) := by
      unfold readG
      rw [hv]
      rfl
    rw [hr]
    exact ⟨⟨fun h => (by cases h), fun h => (by cases h)⟩, fun h => (by cases h)⟩
  | cons c t =>
    have e1 : tk (str (c :: t)) 0 1 = (str [c], str t, 0) := tk_str [c] t 1 rfl
    by_cases hc : c = 1
    · subst hc
      have v1 : Oc.val (str [1]).data.toList = 1 := by decide
      by_cases h8 : 8 ≤ t.length
      · obtain ⟨u, v, rfl, hu⟩ : ∃ u v, t = u ++ v ∧ u.length = 8 := ⟨t.take 8, t.drop 8, (List.take_append_drop 8 t).symm, by simp; omega⟩
        have e8 : tk (str (u ++ v)) 0 8 = (str u, str v, 0) := tk_str u v 8 hu
        have hg : getU (str (u ++ v)) 0 = (Oc.val u, str v, 0) := by unfold getU; rw [e8]; rfl
        have hv : verG 0 getU (str (1 :: (u ++ v))) 0 = (Oc.val u, str v, 0) := by
          unfold verG
          rw [e1]
          simp only [v1, if_true]
          rw [hg]
          rfl
        have hk : kB (1 :: (u ++ v)) = Oc.val u := by unfold kB; rw [e1]; simp only; rw [e8]; rfl
        rw [hk]
        have hlen : (1 :: (u ++ v)).length = 9 + v.length := by simp; omega
        by_cases hv0 : v = []
        · subst hv0
          have hr : readG 0 getU (str (1 :: (u ++ []))) = (Oc.val u, 0) := by
            unfold readG
            rw [hv]
            rfl
          rw [hr]
          refine ⟨⟨fun _ => ?_, fun _ => rfl⟩, fun _ => rfl⟩
          unfold wholeB
          rw [hlen]
          rfl
        · have hvl : 0 < v.length := List.length_pos_iff.2 hv0
          have hr : (readG 0 getU (str (1 :: (u ++ v)))).2 = 4 := by
            unfold readG
            rw [hv]
            have hf : fin (str v) 0 = 4 := by unfold fin; rw [if_pos ⟨rfl, hvl⟩]
            simp only [hf]
            rfl
          rw [hr]
          refine ⟨⟨fun h => (by cases h), fun h => ?_⟩, fun h => (by cases h)⟩
          unfold wholeB at h
          rw [hlen] at h
          simp at h
          exact absurd h hv0
      · have e8 : tk (str t) 0 8 = (ByteArray.empty, str t, 3) := tk_short (str t) 8 (.inr (by have : (str t).size = t.length := rfl; omega))
        have hg : getU (str t) 0 = (0, str t, 3) := by unfold getU; rw [e8]; rfl
        have hv : verG 0 getU (str (1 :: t)) 0 = (0, str t, 3) := by
          unfold verG
          rw [e1]
          simp only [v1, if_true]
          rw [hg]
          rfl
        have hr : readG 0 getU (str (1 :: t)) = (0, 3) := by
          unfold readG
          rw [hv]
          rfl
        rw [hr]
        refine ⟨⟨fun h => (by cases h), fun h => ?_⟩, fun h => (by cases h)⟩
        unfold wholeB at h
        simp at h
        omega
    · have v1 : ¬ Oc.val (str [c]).data.toList = 1 := by
        show ¬ Oc.val [c] = 1
        rw [val_one]
        intro h
        exact hc (UInt8.toNat_inj.1 h)
      have hv : verG 0 getU (str (c :: t)) 0 = (0, str t, 4) := by
        unfold verG
        rw [e1]
        simp only [if_neg v1, if_true]
      have hr : readG 0 getU (str (c :: t)) = (0, 4) := by
        unfold readG
        rw [hv]
        rfl
      rw [hr]
      refine ⟨⟨fun h => (by cases h), fun h => ?_⟩, fun h => (by cases h)⟩
      unfold wholeB at h
      simp [hc] at h
theorem tk_e (s : ByteArray) (e n : Int) (h : e ≠ 0) : (tk s e n).2.2 = e := by rw [tk_bad s e n h]
theorem cnt_e (s : ByteArray) (e m x : Int) (h : e ≠ 0) : (cnt s e m x).2.2 = e := by
  unfold cnt
  rw [tk_bad s e 4 h]
  simp only [if_neg h]
  repeat (first | rfl | split)
theorem txt_e (s : ByteArray) (e m : Int) (h : e ≠ 0) : (txt s e m).2.2 = e := by
  unfold txt
  simp only
  rw [tk_e _ _ _ (by rw [cnt_e s e m 5 h]; exact h), cnt_e s e m 5 h]
theorem readQ_math (B : Txt) (nm : ByteArray) (h : wholeB B = true) : (readG zQ (getQ nm) (str B)).2 ≠ 0 := by
  unfold wholeB at h
  simp at h
  obtain ⟨hl, hh⟩ := h
  cases B with
  | nil => cases hl
  | cons c t =>
    obtain rfl : c = 1 := by simpa using hh
    have ht : t.length = 8 := by simpa using hl
    have e1 : tk (str (1 :: t)) 0 1 = (str [1], str t, 0) := tk_str [1] t 1 rfl
    obtain ⟨u, v, rfl, hu, hv⟩ : ∃ u v, t = u ++ v ∧ u.length = 4 ∧ v.length = 4 := ⟨t.take 4, t.drop 4, (List.take_append_drop 4 t).symm, by simp; omega, by simp; omega⟩
    have e4 : tk (str (u ++ v)) 0 4 = (str u, str v, 0) := tk_str u v 4 hu
    have e8 : tk (str v) 0 8 = (ByteArray.empty, str v, 3) := tk_short (str v) 8 (.inr (by have : (str v).size = v.length := rfl; omega))
    have eq : (getQ nm (str (u ++ v)) 0).2.2 = 3 := by
      unfold getQ
      rw [e4]
      simp only
      rw [e8]
      simp only
      rw [txt_e _ _ _ (by rw [tk_e _ _ _ (by decide)]; decide), tk_e _ _ _ (by decide)]
    have v1 : Oc.val (str [1]).data.toList = 1 := by decide
    unfold readG verG
    rw [e1]
    simp only [v1, if_true, eq]
    simp [fin]
end Go.Proofs.YtdghhffknfkcaaaGreatDoor
/- The chapter's example. -/
namespace Go.Proofs.YtdghhffknfkcaaaGreatDoor
open Go.RowKit Go.Sort Go.Maps
theorem straightA {N : Nat} {M : Nat → Prop} {w : World} {p : Nat} {ks : List Txt} {f : Txt → Txt} (h : ShW N M w p ks f) (m : Int) (hm : w.cell? ⟨0, 0, none⟩ = some (.int .i64 m)) (hf : (findOut ks f [97]).2 = (true, 0)) :
    Calls Tryz.prog 42 #[.iface 25 (.pointer (some ⟨p, 0, none⟩)), .string ⟨#[97]⟩] w fun e w' => ∃ g, e = .returned (.tuple #[.slice (some ⟨g, 0, none⟩) 1 1, .int .i64 0]) ∧ w'.cell? ⟨g, 0, none⟩ = some (.string ⟨#[97]⟩) ∧ Below w.heap.size w w' ∧ w.heap.size ≤ g := by
  have HF : Hid (Calls Tryz.prog 11 #[.iface 25 (.pointer (some ⟨p, 0, none⟩)), .string ⟨#[97]⟩] w fun e w' => e = .returned (.tuple #[aggQ (findOut ks f [97]).1, .int .i64 0]) ∧ Below w.heap.size w w') := by
    have := Find_any h [97] (by decide) m hm
    rw [hf] at this
    exact this
  clear hm hf h
  revert HF
  generalize (findOut ks f [97]).1 = q
  intro HF
  unfold aggQ at HF
  go_enter Tryz.func42, Tryz.ntmps42
  go_wp2_with (go_at_call 11; refine HF.out.mono ?_; rintro e1 w1 ⟨rfl, hb1⟩)
  go_ret2
  have bb := (Below.refl w1.heap.size w1).alloc (Nat.le_refl _) (.cells #[.string q.nm, .int .u32 q.most, .int .u64 q.ttl, .int .u32 q.tries, .string q.dead] 36)
  refine ⟨_, rfl, ?_, hb1.trans ((bb.trans (((Below.refl _ _).alloc (Nat.le_refl _) _).mono bb.size)).mono hb1.size), by have := hb1.size; omega⟩
  have hc := (Boxed.new (w1.alloc (.cells #[.string q.nm, .int .u32 q.most, .int .u64 q.ttl, .int .u32 q.tries, .string q.dead] 36)) 9 (.string ⟨#[97]⟩)).cell
  rw [World.size_alloc] at hc
  exact hc
theorem routeA {N : Nat} {M : Nat → Prop} {w : World} {p : Nat} {ks : List Txt} {f : Txt → Txt} (h : ShW N M w p ks f) (m : Int) (hm : w.cell? ⟨0, 0, none⟩ = some (.int .i64 m)) (hf : (findOut ks f [97]).2 = (true, 0)) :
    Calls Tryz.prog 14 #[.iface 25 (.pointer (some ⟨p, 0, none⟩)), .string ⟨#[]⟩, .string ⟨#[97]⟩] w fun e w' => ∃ g, e = .returned (.tuple #[.slice (some ⟨g, 0, none⟩) 1 1, .int .i64 0]) ∧ w'.cell? ⟨g, 0, none⟩ = some (.string ⟨#[97]⟩) ∧ Below w.heap.size w w' ∧ w.heap.size ≤ g := by
  have h00 := World.block_lt_of_cell? _ _ hm
  obtain ⟨x0, x1, x2, bA⟩ := start3 w 9 52 43 (.string ⟨#[97]⟩) (.slice none 0 0) (.int .i64 0)
  have HS := Lib.hid (straightA (h.below bA) m ((bA.cell (p := ⟨0, 0, none⟩) h00).trans hm) hf)
  have HX1 := Lib.hid x1
  have HX2 := Lib.hid x2
  have HA := Lib.hid bA
  have k0 := x0.cell
  clear hm hf h x0 x1 x2 bA h00
  go_enter Tryz.func14, Tryz.ntmps14
  go_wp2_with (go_at_call 42; refine HS.out.mono ?_; rintro e1 w1 ⟨g, rfl, hg, hb1, hgl⟩; have y1 := (hb1.block _ HX1.out.lt).trans HX1.out; have y2 := (hb1.block _ HX2.out.lt).trans HX2.out; have c1 := Boxed.cell y1; have f1 := Boxed.frozen y1; have c2 := Boxed.cell y2; have f2 := Boxed.frozen y2; have HY1 := Lib.hid y1; have HY2 := Lib.hid y2)
  have z1 : Boxed ((w1.setCell ⟨w.heap.size + 1, 0, none⟩ (.slice (some ⟨g, 0, none⟩) 1 1)).setCell ⟨w.heap.size + 1 + 1, 0, none⟩ (.int .i64 0)) (w.heap.size + 1) 52 (.slice (some ⟨g, 0, none⟩) 1 1) := (Boxed.set _ HY1.out).other (by omega) _
  have z2 : Boxed ((w1.setCell ⟨w.heap.size + 1, 0, none⟩ (.slice (some ⟨g, 0, none⟩) 1 1)).setCell ⟨w.heap.size + 1 + 1, 0, none⟩ (.int .i64 0)) (w.heap.size + 1 + 1) 43 (.int .i64 0) := Boxed.set _ (Boxed.other HY2.out (by omega) _)
  have s1 := z1.cell
  have s2 := z2.cell
  have hgs : w.heap.size + 3 ≤ g := by simpa using hgl
  refine bodyPost_ret_by (v := .tuple #[.slice (some ⟨g, 0, none⟩) 1 1, .int .i64 0]) ?_ rfl ⟨g, rfl, ?_, ((below_step HA.out hb1).setCell (p := ⟨w.heap.size + 1, 0, none⟩) (by simp) _).setCell (p := ⟨w.heap.size + 1 + 1, 0, none⟩) (by simp; omega) _, by omega⟩
  · simp [results, Tryz.results14, go_sem, s1, s2]
  · exact (World.cell?_setCell_far _ ⟨w.heap.size + 1 + 1, 0, none⟩ ⟨g, 0, none⟩ _ (by simp; omega)).trans ((World.cell?_setCell_far _ ⟨w.heap.size + 1, 0, none⟩ ⟨g, 0, none⟩ _ (by simp; omega)).trans hg)
theorem shNewW (w : World) (f : Txt → Txt) :
    Calls Tryz.prog 8 #[.slice none 0 0] w fun e w' => ∃ p M, e = .returned (.pointer (some ⟨p, 0, none⟩)) ∧ ShW 0 M w' p [] f ∧ Below w.heap.size w w' ∧ ∀ k, M k → w.heap.size ≤ k := by
  refine (shNew0 w f).mono ?_
  rintro e w' ⟨p, sp, mb, B, v, rfl, hs, hb, h1, h2, h3, h4, h5⟩
  refine ⟨p, _, rfl, ⟨⟨sp, mb, B, 0, v, hs, fun k => Iff.rfl, Nat.le_refl _, Nat.le_refl _, h5, World.block_lt_of_cell? _ _ hs.c0⟩, fun k hk => by cases hk⟩, hb, fun k hk => ?_⟩
  rcases hk with e | e | e | e
  · omega
  · omega
  · omega
  · have := (hs.set.row.lt e).2; omega
theorem found_put {ks ks' : List Txt} {f : Txt → Txt} (ha : addS ks (kQ [97]) ks') : (findOut ks' (putF f (kQ [97]) (1 :: encQ (q0 [97]))) [97]).2 = (true, 0) := by
  have hl : (kQ [97]).length ≤ 255 := by decide
  have hm : kQ [97] ∈ ks' := (ha.2.1 _).2 (.inl rfl)
  unfold findOut
  rw [if_pos hl, decide_eq_true hm]
  have hv : shV ks' (putF f (kQ [97]) (1 :: encQ (q0 [97]))) (kQ [97]) = 1 :: encQ (q0 [97]) := by
    unfold shV putF
    rw [if_pos hm, if_pos rfl]
  rw [hv]
  have hr : (readG zQ (getQ (str [97])) (str (1 :: encQ (q0 [97])))).2 = 0 := by decide +kernel
  unfold fRes
  rw [if_neg (by decide), if_neg (by rw [hr]; decide)]
theorem below_went {M M' : Nat → Prop} {w w1 w2 : World} (hb : Below w.heap.size w w1) (hw : Went M M' w1 w2) (hM : ∀ k, M k → w.heap.size ≤ k) : Below w.heap.size w w2 :=
  ⟨hw.stays.os.trans hb.os, hw.stays.tape.trans hb.tape, hw.stays.output.trans hb.output, Nat.le_trans hb.size hw.stays.size, fun k hk => (hw.stays.same k (fun h => by have := hM k h; omega) (Nat.lt_of_lt_of_le hk hb.size)).trans (hb.block k hk)⟩
theorem find_none (f : Txt → Txt) : (findOut [] f [97]).2 = (false, 0) := by
  unfold findOut
  rw [if_pos (by decide), decide_eq_false (by simp)]
  rfl
set_option maxHeartbeats 4000000 in
theorem rgAwake (m : Int) (w : World) (hm : w.cell? ⟨0, 0, none⟩ = some (.int .i64 m)) :
    Calls Tryz.prog 6 #[] w fun e w' => e = .returned (.bool true) ∧ Below w.heap.size w w' := by
  have h00 := World.block_lt_of_cell? _ _ hm
  have HM : Hid (∀ W, Below w.heap.size w W → W.cell? ⟨0, 0, none⟩ = some (.int .i64 m)) := fun W hW => (hW.cell (p := ⟨0, 0, none⟩) h00).trans hm
  have HN := Lib.hid (shNewW w (fun _ => []))
  have hnil := fun q W => sh_not_nil W q
  clear hm h00
  go_enter Tryz.func6, Tryz.ntmps6
  go_wp2_with (first
    | (go_at_call 8; refine HN.out.mono ?_; rintro e1 w1 ⟨p, M, rfl, hs, hb1, hM⟩; have HS := Lib.hid hs; have HMM := Lib.hid hM; have hnp := hnil p; clear hs hM)
    | (go_at_call 15; refine (declare0 HS.out (by decide) [97] (by decide) m (HM.out _ hb1)).mono ?_; rintro e2 w2 (⟨h, _⟩ | ⟨_, h, _⟩ | ⟨_, _, rfl, M2, ks2, ha2, hs2, hw2⟩); (exact absurd (by rw [find_none]) h); (rw [find_none] at h; cases h); have HS2 := Lib.hid hs2; have HA2 := Lib.hid ha2; have HB2 : Hid (Below w.heap.size w w2) := below_went hb1 hw2 HMM.out; clear hs2 ha2 hw2)
    | (go_at_call 14; refine (routeA HS2.out m (HM.out _ HB2.out) (found_put HA2.out)).mono ?_; rintro e3 w3 ⟨g, rfl, hg, hb3, _⟩))
  go_ret
  exact ⟨rfl, below_step HB2.out hb3⟩
end Go.Proofs.YtdghhffknfkcaaaGreatDoor
/- A shelf's New, of any pairs. -/
namespace Go.Proofs.YtdghhffknfkcaaaGreatDoor
open Go.RowKit Go.Sort Go.Maps
open Tx (Rise At Ord above)
/-- What the map has behind some pairs. -/
def mapN (l : List (Txt × Txt)) : List UInt8 → Option Value := l.foldl (fun F x => updS F x.1 (some (prV x.1 x.2))) (fun _ => none)
theorem mapN_snoc (l : List (Txt × Txt)) (x : Txt × Txt) : mapN (l ++ [x]) = updS (mapN l) x.1 (some (prV x.1 x.2)) := by unfold mapN; rw [List.foldl_append]; rfl
/-- The last value under a key. -/
def lastV (l : List (Txt × Txt)) : Txt → Txt := l.foldl (fun f x => fun k => if k = x.1 then x.2 else f k) (fun _ => [])
theorem lastV_snoc (l : List (Txt × Txt)) (x : Txt × Txt) : lastV (l ++ [x]) = fun k => if k = x.1 then x.2 else lastV l k := by unfold lastV; rw [List.foldl_append]; rfl
theorem mapN_look : ∀ (n : Nat) (l : List (Txt × Txt)), l.length = n → ∀ k, mapN l k = if k ∈ l.map Prod.fst then some (prV k (lastV l k)) else none
  | 0, l, h, k => by
    obtain rfl := List.eq_nil_of_length_eq_zero h
    rfl
  | n + 1, l, h, k => by
    rcases List.eq_nil_or_concat l with e | ⟨t, x, e⟩
    · subst e; cases h
    · rw [List.concat_eq_append] at e
      subst e
      have ih := mapN_look n t (by simpa using h) k
      rw [mapN_snoc, lastV_snoc]
      by_cases hk : k = x.1
      · subst hk; rw [updS_same, if_pos (by simp)]; simp
      · rw [updS_other _ _ _ hk, ih]
        have : (k ∈ (t ++ [x]).map Prod.fst) ↔ k ∈ t.map Prod.fst := by simp [hk]
        by_cases hm : k ∈ t.map Prod.fst
        · rw [if_pos hm, if_pos (this.2 hm)]; simp [hk]
        · rw [if_neg hm, if_neg (fun h => hm (this.1 h))]
/-- A row of pairs that is handed over. -/
structure SlPr (w : World) (g c : Nat) (l : List (Txt × Txt)) : Prop where
  lt : g < w.heap.size
  at' : ∀ (j : Nat) (x : Txt × Txt), l[j]? = some x → w.cell? ⟨g, j * 2, none⟩ = some (.string (str x.1)) ∧ w.cell? ⟨g, j * 2 + 1, none⟩ = some (.string (str x.2))
/-- What the loop keeps. -/
structure NewI (w : World) (l : List (Txt × Txt)) (k : Nat) (wr : World) : Prop where
  b : Below w.heap.size w wr
  row : ∃ xs, BoxL wr w.heap.size 9 xs ∧ xs.size = l.length ∧ ∀ (j : Nat) (x : Txt × Txt), j < k → l[j]? = some x → xs[j]? = some (.string (str x.1))
  map : MapS wr (w.heap.size + 1) k (mapN (l.take k))
theorem SlPr.below {w w' : World} {g c : Nat} {l : List (Txt × Txt)} (h : SlPr w g c l) (hb : Below w.heap.size w w') : SlPr w' g c l :=
  ⟨Nat.lt_of_lt_of_le h.lt hb.size, fun j x hj => ⟨(hb.cell (p := ⟨g, j * 2, none⟩) h.lt).trans (h.at' j x hj).1, (hb.cell (p := ⟨g, j * 2 + 1, none⟩) h.lt).trans (h.at' j x hj).2⟩⟩
set_option maxHeartbeats 4000000 in
theorem newN {w : World} {g c : Nat} {l : List (Txt × Txt)} (hl : l.length ≤ 50000) (hs : SlPr w g c l) (hk : ∀ x ∈ l, x.1.length ≤ 255) :
    Calls Tryz.prog 8 #[.slice (some ⟨g, 0, none⟩) l.length c] w fun e w' => ∃ p M, e = .returned (.pointer (some ⟨p, 0, none⟩)) ∧ ShW l.length M w' p (dd (l.map Prod.fst)) (lastV l) ∧ Below w.heap.size w w' ∧ ∀ k, M k → w.heap.size ≤ k := by
  have hmx : Tryz.prog.follows .mixedOrders = true := by kernel_rfl
  obtain ⟨i0, hi, hz0, hz1, hz2⟩ := info_parts infoS
  have hmake : (Instr.makeSlice 52 (.int .i64 l.length) (.int .i64 l.length)).run Tryz.prog w = .ok (.slice (some ⟨w.heap.size, 0, none⟩) l.length l.length) (w.alloc (.cells (madeCells (Value.cells (.string ⟨#[]⟩)) l.length) 9)) := by
    have := run_makeSlice (P := Tryz.prog) w 52 9 i0 _ Tryz.underlying52 hi hz0 .i64 .i64 l.length l.length (by omega) (by omega) (by rw [hz1]; simp; omega) (by rw [hz2]; simp; omega) (by omega)
    rw [this, hz1]
    simp
  have hmm := @run_makeMap Tryz.prog
  obtain ⟨mc, hmc⟩ : ∃ mc, mc = madeCells (Value.cells (.string ⟨#[]⟩)) l.length := ⟨_, rfl⟩
  rw [← hmc] at hmake
  obtain ⟨W1, hW1⟩ : ∃ W1, W1 = (w.alloc (.cells mc 9)).alloc (.map #[] 0) := ⟨_, rfl⟩
  have HI1 : Hid (NewI w l 0 W1) := by
    refine ⟨by rw [hW1]; exact ((Below.refl _ _).alloc (Nat.le_refl _) _).alloc (by simp) _, ⟨mc, by rw [hW1]; exact (BoxL.new w _ _).alloc _, by rw [hmc]; exact size_madeCells _ _, fun j x hj => by omega⟩, ?_⟩
    have := MapS.made (w.alloc (.cells mc 9))
    rw [World.size_alloc, ← hW1] at this
    exact this.same (fun k => rfl)
  have HS := Lib.hid hs
  have HK := Lib.hid hk
  clear hi hz0 hz1 hz2 hmc hs hk
  go_enter Tryz.func8, Tryz.ntmps8
  go_wp2
  rw [← hW1]
  clear hW1
  go_loopg [13] l.length (fun n i wr => ∃ k : Nat, k ≤ l.length ∧ n = l.length - k ∧ i = .int .i64 k ∧ Hid (NewI w l k wr))
  case atStart => exact ⟨0, Nat.zero_le _, rfl, rfl, HI1.out⟩
  case round =>
    obtain ⟨k, hkl, rfl, rfl, HI⟩ := hrel
    by_cases hlt : k < l.length
    · obtain ⟨x, hx⟩ : ∃ x, l[k]? = some x := ⟨_, List.getElem?_eq_getElem hlt⟩
      have HX := Lib.hid hx
      obtain ⟨e0, e1⟩ := (HS.out.below HI.out.b).at' k x hx
      obtain ⟨xs, hxs, hxn, hxa⟩ := HI.out.row
      have b1 : BoxL (wr.alloc (.cells #[.string (str x.1), .string (str x.2)] 60)) w.heap.size 9 xs := hxs.alloc _
      obtain ⟨u, hu⟩ : ∃ u, xs[k]? = some u := ⟨_, Array.getElem?_eq_getElem (by omega)⟩
      have c1 := b1.cell hu
      have f1 := b1.frozen k
      have nn := BoxL.new wr #[.string (str x.1), .string (str x.2)] 60
      have hwl : w.heap.size < wr.heap.size := hxs.lt
      have b2 := nn.other (k := w.heap.size) (by omega) k (.string (str x.1))
      have n0 := nn.cell (i := 0) rfl
      have n1 := nn.cell (i := 1) rfl
      have p0 := b2.cell (i := 0) rfl
      have p1 := b2.cell (i := 1) rfl
      have b3 := b1.set k (.string (str x.1))
      have hbA : Below wr.heap.size wr (wr.alloc (.cells #[.string (str x.1), .string (str x.2)] 60)) := (Below.refl _ _).alloc (Nat.le_refl _) _
      have m2 : MapS ((wr.alloc (.cells #[.string (str x.1), .string (str x.2)] 60)).setCell ⟨w.heap.size, k, none⟩ (.string (str x.1))) (w.heap.size + 1) k (mapN (l.take k)) :=
        (HI.out.map.kept (hbA.block _ HI.out.map.lt)).kept (Below.heap_setCell _ ⟨w.heap.size, k, none⟩ _ _ (by simp))
      obtain ⟨w3, hst, m3, t3⟩ := m2.store (k := x.1) (by have := HK.out x (List.mem_of_getElem? hx); unfold maxLen; omega) (by unfold maxLen; omega) (prV x.1 x.2)
      have hst' : (Instr.mapUpdate 72 (.map (some (w.heap.size + 1))) (.string (str x.1)) (.agg #[.string (str x.1), .string (str x.2)])).run Tryz.prog ((wr.alloc (.cells #[.string (str x.1), .string (str x.2)] 60)).setCell ⟨w.heap.size, k, none⟩ (.string (str x.1))) = .ok () w3 := hst
      have HI3 : Hid (NewI w l (k + 1) w3) := by
        obtain ⟨q1, q2, q3, q4, q5⟩ := t3.grown
        have kp : w3.heap[w.heap.size]? = ((wr.alloc (.cells #[.string (str x.1), .string (str x.2)] 60)).setCell ⟨w.heap.size, k, none⟩ (.string (str x.1))).heap[w.heap.size]? := q5 _ b3.lt (fun e => by have := Option.some.inj e; omega)
        have bl : Below w.heap.size w ((wr.alloc (.cells #[.string (str x.1), .string (str x.2)] 60)).setCell ⟨w.heap.size, k, none⟩ (.string (str x.1))) := (HI.out.b.trans (hbA.mono HI.out.b.size)).setCell (p := ⟨w.heap.size, k, none⟩) (Nat.le_refl _) _
        refine ⟨⟨q1.trans bl.os, q2.trans bl.tape, q3.trans bl.output, Nat.le_trans bl.size q4, fun j hj => (q5 j (Nat.lt_of_lt_of_le hj bl.size) (fun e => by have := Option.some.inj e; omega)).trans (bl.block j hj)⟩, ⟨_, b3.same kp, by rw [Array.size_setIfInBounds]; exact hxn, fun j y hj hy => ?_⟩, ?_⟩
        · by_cases hjk : j = k
          · subst hjk
            rw [hx] at hy; cases hy
            exact Array.getElem?_setIfInBounds_self_of_lt (by omega)
          · rw [Array.getElem?_setIfInBounds_ne (by omega)]
            exact hxa j y (by omega) hy
        · rw [show l.take (k + 1) = l.take k ++ [x] by obtain ⟨h1, h2⟩ := List.getElem?_eq_some_iff.1 hx; rw [← h2]; exact List.take_succ_eq_append_getElem h1, mapN_snoc]
          exact m3
      have hki : (k : Int) < (l.length : Int) := by omega
      clear hxs hxn hxa hu nn b1 b2 b3 m2 hst m3 t3 hbA hwl hx
      go_wp2
      go_roundg (l.length - (k + 1))
      case rel => exact ⟨k + 1, by omega, rfl, by go_num, HI3.out⟩
      case measure => omega
    · obtain rfl : k = l.length := by omega
      obtain ⟨xs, hxs, hxn, hxa⟩ := HI.out.row
      have hSl : SlS wr (.slice (some ⟨w.heap.size, 0, none⟩) l.length l.length) (l.map Prod.fst) := by
        refine ⟨_, w.heap.size, 0, l.length, by simp, .inr rfl, fun j y hj => ?_⟩
        obtain ⟨x, hx, rfl⟩ : ∃ x, l[j]? = some x ∧ x.1 = y := by simpa using hj
        have := hxs.cell (hxa j x (List.getElem?_eq_some_iff.1 hx).1 hx)
        simpa using this
      have HO := Lib.hid (sxOf_any _ (l.map Prod.fst) (by simp; omega) wr hSl)
      have HM := Lib.hid HI.out.map
      have HXL := Lib.hid hxs.lt
      clear hxs hxn hxa hSl
      go_wp2_with (go_at_call 23; refine HO.out.mono ?_; rintro e w2 ⟨q, v2, rfl, hq, hs2, hb2⟩)
      go_ret
      have hx := fun o => (((RowKit.Below.refl w2.heap.size w2).alloc (Nat.le_refl _) o))
      have hmb : w.heap.size + 1 < wr.heap.size := HM.out.lt
      have q2 : q < w2.heap.size := World.block_lt_of_cell? _ _ hs2.c0
      have hvm : ∀ g, v2.ownBlock = some g → wr.heap.size ≤ g ∧ g < w2.heap.size := fun g hg => ⟨(hs2.row.lt hg).2, (hs2.row.lt hg).1⟩
      refine ⟨w2.heap.size, _, rfl, ⟨⟨q, w.heap.size + 1, wr.heap.size, l.length, v2, ⟨World.cell?_alloc_new w2 _ _ 0, World.cell?_alloc_new w2 _ _ 1, hs2.below (hx _), (((HM.out.kept (hb2.block _ hmb)).kept ((hx _).block _ (Nat.lt_of_lt_of_le hmb hb2.size)))).same (fun k => ?_), by omega, by have := hb2.size; omega, by omega, fun e => ?_, fun e => ?_⟩, fun k => Iff.rfl, Nat.le_refl _, ?_, by have := hb2.size; simp; omega, by simp⟩, fun k hk => ?_⟩, ?_, fun k hk => ?_⟩
      · rw [List.take_length, mapN_look _ l rfl]
        unfold lookP
        by_cases hm : k ∈ l.map Prod.fst
        · rw [if_pos hm, if_pos ((dd_mem _ _).2 hm)]
        · rw [if_neg hm, if_neg (fun h => hm ((dd_mem _ _).1 h))]
      · have := hvm _ e; omega
      · have := hvm _ e; omega
      · have := dd_len (l.map Prod.fst); simpa using this
      · obtain ⟨x, hx, rfl⟩ := List.mem_map.1 ((dd_mem _ _).1 hk)
        exact HK.out x hx
      · exact (HI.out.b.trans (hb2.mono (by have := HXL.out; omega))).alloc (by have := hb2.size; have := HXL.out; omega) _
      · have := hb2.size
        have := HXL.out
        rcases hk with e | e | e | e
        · omega
        · omega
        · omega
        · have := hvm _ e; omega
end Go.Proofs.YtdghhffknfkcaaaGreatDoor
