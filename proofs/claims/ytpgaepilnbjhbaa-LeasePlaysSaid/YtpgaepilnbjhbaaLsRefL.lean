/- The document's Lend. -/
import Derived.Test.YtpgaepilnbjhbaaLsRefD
import Derived.Test.YtpgaepilnbjhbaaLsAwk
set_option maxRecDepth 100000
set_option maxHeartbeats 4000000
set_option linter.unusedVariables false
namespace Go.Proofs.Ytpgaepilnbjhbaa
open Go.RowKit
open Ls (Txt Ln Ms ltL rins)
attribute [local go_sem] Oper.semAt_some
/-- What Lend's loop has: not yet, or all that is wanted with the rest. -/
def LendI (x : Ln) (F : List Ln) (k : Nat) (dd : Bool) (o : List Ln) : Prop := o.length ≤ k + 1 ∧ ((dd = false ∧ o = F.take k ∧ ∀ e ∈ F.take k, ltL x e = false) ∨ (dd = true ∧ o ++ F.drop k = rins x F))
theorem takeWhile_all {p : Ln → Bool} {l : List Ln} (h : ∀ e ∈ l, p e = true) : l.takeWhile p = l ∧ l.dropWhile p = [] := by
  induction l with
  | nil => exact ⟨rfl, rfl⟩
  | cons a l ih =>
    have h0 := h a (by simp)
    obtain ⟨h1, h2⟩ := ih fun e he => h e (by simp [he])
    simp [List.takeWhile, List.dropWhile, h0, h1, h2]
theorem rins_at {x e : Ln} {F : List Ln} {k : Nat} (hx : F[k]? = some e) (h : ∀ y ∈ F.take k, ltL x y = false) (he : ltL x e = true) : rins x F = F.take k ++ x :: F.drop k := by
  have hd : F.drop k = e :: F.drop (k + 1) := by
    have hl := (List.getElem?_eq_some_iff.1 hx)
    rw [List.drop_eq_getElem_cons hl.1, hl.2]
  have hp : ∀ y ∈ F.take k, (fun y => !ltL x y) y = true := fun y hy => by simp [h y hy]
  obtain ⟨h1, h2⟩ := takeWhile_all (p := fun y => !ltL x y) hp
  unfold rins
  conv => lhs; rw [← List.take_append_drop k F]
  rw [List.takeWhile_append_of_pos (p := fun y => !ltL x y) hp, List.dropWhile_append_of_pos (p := fun y => !ltL x y) hp, hd]
  simp [List.takeWhile, List.dropWhile, he]
theorem rins_end {x : Ln} {F : List Ln} (h : ∀ y ∈ F, ltL x y = false) : rins x F = F ++ [x] := by
  obtain ⟨h1, h2⟩ := takeWhile_all (p := fun y => !ltL x y) (l := F) fun y hy => by simp [h y hy]
  unfold rins
  rw [h1, h2]
theorem LendI.start (x : Ln) (F : List Ln) : LendI x F 0 false [] := ⟨by simp, .inl ⟨rfl, by simp, fun e he => by simp at he⟩⟩
theorem LendI.later {x e : Ln} {F : List Ln} {k : Nat} {o : List Ln} (h : LendI x F k true o) (hx : F[k]? = some e) : LendI x F (k + 1) true (o ++ [e]) := by
  obtain ⟨h0, ⟨h1, _⟩ | ⟨_, h2⟩⟩ := h
  · cases h1
  · have hl := (List.getElem?_eq_some_iff.1 hx)
    have hd : F.drop k = e :: F.drop (k + 1) := by rw [List.drop_eq_getElem_cons hl.1, hl.2]
    exact ⟨by simp; omega, .inr ⟨rfl, by rw [← h2, hd]; simp⟩⟩
theorem LendI.here {x e : Ln} {F : List Ln} {k : Nat} {o : List Ln} (h : LendI x F k false o) (hx : F[k]? = some e) (he : ltL x e = true) : LendI x F (k + 1) true (o ++ [x] ++ [e]) := by
  obtain ⟨h0, ⟨_, h1, h2⟩ | ⟨h1, _⟩⟩ := h
  · have hl := (List.getElem?_eq_some_iff.1 hx)
    have hd : F.drop k = e :: F.drop (k + 1) := by rw [List.drop_eq_getElem_cons hl.1, hl.2]
    have h3 : o.length ≤ k := by rw [h1, List.length_take]; omega
    exact ⟨by simp; omega, .inr ⟨rfl, by rw [rins_at hx h2 he, h1, hd]; simp⟩⟩
  · cases h1
theorem LendI.ahead {x e : Ln} {F : List Ln} {k : Nat} {o : List Ln} (h : LendI x F k false o) (hx : F[k]? = some e) (he : ltL x e = false) : LendI x F (k + 1) false (o ++ [e]) := by
  obtain ⟨h0, ⟨_, h1, h2⟩ | ⟨h1, _⟩⟩ := h
  · have ht : F.take (k + 1) = F.take k ++ [e] := take_snoc hx
    refine ⟨by simp; omega, .inl ⟨rfl, by rw [ht, h1], fun y hy => ?_⟩⟩
    rw [ht] at hy
    rcases List.mem_append.1 hy with h | h
    · exact h2 y h
    · simp at h; subst h; exact he
  · cases h1
theorem LendI.done {x : Ln} {F : List Ln} {o : List Ln} (h : LendI x F F.length true o) : o = rins x F := by
  obtain ⟨h0, ⟨h1, _⟩ | ⟨_, h2⟩⟩ := h
  · cases h1
  · simpa using h2
theorem LendI.last {x : Ln} {F : List Ln} {o : List Ln} (h : LendI x F F.length false o) : o ++ [x] = rins x F := by
  obtain ⟨h0, ⟨_, h1, h2⟩ | ⟨h1, _⟩⟩ := h
  · rw [List.take_length] at h1 h2
    rw [rins_end h2, h1]
  · cases h1
abbrev ce (e : Ln) : Obj := .cells #[.string (str e.q), .int .u64 e.id, .int .u64 e.t] 45
structure Bx3 (W : World) (g : Nat) (e : Ln) : Prop where
  c0 : W.cell? ⟨g, 0, none⟩ = some (.string (str e.q))
  c1 : W.cell? ⟨g, 1, none⟩ = some (.int .u64 e.id)
  c2 : W.cell? ⟨g, 2, none⟩ = some (.int .u64 e.t)
theorem Bx3.new (W : World) (e : Ln) : Bx3 (W.alloc (ce e)) W.heap.size e := ⟨World.cell?_alloc_new W _ _ 0, World.cell?_alloc_new W _ _ 1, World.cell?_alloc_new W _ _ 2⟩
theorem Bx3.lt {W : World} {g : Nat} {e : Ln} (h : Bx3 W g e) : g < W.heap.size := World.block_lt_of_cell? _ _ h.c0
theorem Bx3.keep {W W' : World} {g : Nat} {e : Ln} (h : Bx3 W g e) (hb : W'.heap[g]? = W.heap[g]?) : Bx3 W' g e := by
  have c : ∀ i, W'.cell? ⟨g, i, none⟩ = W.cell? ⟨g, i, none⟩ := fun i => by simp only [World.cell?, hb]
  exact ⟨(c 0).trans h.c0, (c 1).trans h.c1, (c 2).trans h.c2⟩
theorem Bx3.below {W W' : World} {g : Nat} {e : Ln} (h : Bx3 W g e) (hb : Below W.heap.size W W') : Bx3 W' g e := h.keep (hb.block _ h.lt)
theorem rowFin {W : World} {B B' : Nat} {v : Value} {o F G : List Ln} {x : Ln} (h : RowG cL 3 45 W B v o) (hB : B' ≤ B) (h1 : o = rins x F) (h2 : G = F) : RowG cL 3 45 W B' v (rins x G) := by subst h2; rw [← h1]; exact h.base hB
/-- One more. -/
theorem one {W : World} {B : Nat} {u : Value} {o : List Ln} (hB : B ≤ W.heap.size) (hu : RowG cL 3 45 W B u o) (hl : o.length ≤ 300000) (e : Ln) :
    ∃ u' w2, (Builtin.append_ #[29, 29] 29 #[u, .slice (some ⟨W.heap.size, 0, none⟩) 1 1]).run Try.prog (W.alloc (ce e)) = .ok u' w2 ∧ RowG cL 3 45 w2 B u' (o ++ [e]) ∧ Below B W w2 ∧
      ∀ g y, Bx3 W g y → u.ownBlock ≠ some g → Bx3 w2 g y := by
  obtain ⟨u', w2, hrun, hr2, hg, hb2, ho⟩ := app1 encL appE (by decide) u e 29 W hB hu hl #[.string (str e.q), .int .u64 e.id, .int .u64 e.t] rfl W.heap.size rfl
  refine ⟨u', w2, hrun, hr2, hb2, fun g y hy hn => hy.keep ?_⟩
  have h1 := Below.heap_alloc W (ce e) g hy.lt
  exact (hg.block g (by simp; have := hy.lt; omega) (fun h => hn h.symm)).trans h1
set_option maxHeartbeats 4000000 in
theorem rLend_any (x : Ln) (sl : Value) (l : List Ln) (hl : l.length ≤ 1000) (w : World) (h : SlG cL 3 w sl l) :
    Calls Try.prog 15 #[sl, .agg #[.string (str x.q), .int .u64 x.id, .int .u64 x.t]] w fun e w' => ∃ v, e = .returned v ∧ RowG cL 3 45 w' w.heap.size v (rins x (Ls.free Ls.sameL x l)) ∧ Below w.heap.size w w' := by
  have HF := Lib.hid (fun (sl : Value) w h => rFree_any x sl l hl w h)
  have HS := Lib.hid h
  have HLF : Hid ((Ls.free Ls.sameL x l).length ≤ 1000) := Nat.le_trans (Ls.free_len _ _ _) hl
  obtain ⟨sa, sc, rfl⟩ := h.slice
  clear h
  have HX0 := Lib.hid (Bx3.new w x)
  have x0 := HX0.out.c0
  have x1 := HX0.out.c1
  go_enter Try.func15, Try.ntmps15
  go_wp2_with (go_at_call 9; refine (HF.out _ _ (HS.out.below (below_alloc _ _))).mono ?_; rintro e1 w1 ⟨v1, rfl, hr1, hb1⟩; have HX1 := Lib.hid (HX0.out.below hb1); have HF1 := Lib.hid (hr1.sl encL); have HB1 : Hid (Below w.heap.size w w1) := Below.trans (below_alloc w _) (hb1.mono (by simp)); obtain ⟨fa, fc, hfs⟩ := hr1.slice; subst hfs; clear hr1 hb1)
  clear x0 x1 HX0
  generalize hFF : Ls.free Ls.sameL x l = F at *
  have HFF := Lib.hid hFF
  clear hFF
  go_loopg [5, 6, 16] F.length (fun n u dv v wr => ∃ (k : Nat) (dd : Bool) (o : List Ln), k ≤ F.length ∧ n = F.length - k ∧ v = .int .i64 k ∧ dv = .bool dd ∧ Hid (LendI x F k dd o) ∧ Hid (RowG cL 3 45 wr w1.heap.size u o) ∧ Hid (Below w1.heap.size w1 wr))
  case atStart => exact ⟨0, false, [], Nat.zero_le _, rfl, rfl, rfl, LendI.start x F, RowG.nil _ _ _ _ _, Below.refl _ _⟩
  case round =>
    obtain ⟨k, dd, o, hk, rfl, rfl, rfl, HI, HR, HB⟩ := hrel
    have hFl : F.length ≤ 1000 := HLF.out
    by_cases hlt : k < F.length
    · obtain ⟨e, hx⟩ := some_atP hlt
      obtain ⟨a, b, o', c, hv, hlc, _, ha0, ha, hcx⟩ := (HF1.out.below HB.out).get
      cases hv
      obtain rfl : fa = some ⟨b, o', none⟩ := ha.resolve_left (fun h' => by have := ha0 h'; omega)
      obtain ⟨e0, e1, e2⟩ := at3 hcx hx
      have HX := Lib.hid hx
      have hol : o.length ≤ 300000 := by have := HI.out.1; omega
      have HE := Lib.hid (Bx3.new wr e)
      have HBA : Hid (Below w1.heap.size w1 (wr.alloc (ce e))) := HB.out.alloc HB.out.size _
      have HRA : Hid (RowG cL 3 45 (wr.alloc (ce e)) w1.heap.size u5 o) := HR.out.alloc _
      have HON : Hid (∀ g, u5.ownBlock = some g → g < wr.heap.size) := fun g hg => (HR.out.lt g hg).2
      obtain ⟨ua, un, uc, hu⟩ := HR.out.slice'
      subst hu
      clear hcx ha0 ha hx
      cases dd with
      | true =>
        obtain ⟨u', w2, hrun, h1, h2, _⟩ := one HBA.out.size HRA.out hol e
        rw [World.size_alloc] at hrun
        have H1 := Lib.hid h1
        have H2 : Hid (Below w1.heap.size w1 w2) := HBA.out.trans h2
        obtain ⟨a2, n2, c2, rfl⟩ := h1.slice'
        have HI' := Lib.hid (HI.out.later HX.out)
        clear h1 h2 hol
        go_wp2_with (at_builtin; refine Lib.wpList_append_run _ rfl _ _ _ _ rfl _ _ rfl rfl _ _ hrun ?_)
        go_roundg (F.length - (k + 1))
        case measure => omega
        case rel => exact ⟨k + 1, true, _, hlt, rfl, by go_num, rfl, HI', H1, H2⟩
      | false =>
        have HXA := Lib.hid (HX1.out.below HBA.out)
        have x0 := HXA.out.c0
        have x1 := HXA.out.c1
        have x2 := HXA.out.c2
        have HA := Lib.hid (fun W => ahead_any x e W)
        cases hle : ltL x e with
        | false =>
          rw [hle] at HA
          have HI' := Lib.hid (HI.out.ahead HX.out hle)
          clear hle
          go_wp2_with (first
            | (go_at_call 28; (with_reducible refine (HA.out _).mono ?_); rintro e5 w5 ⟨rfl, hb5⟩; have HB5 : Hid (Below w1.heap.size w1 w5) := HBA.out.trans (hb5.mono HBA.out.size); have HE5 := HE.out.below hb5; have f0 := HE5.c0; have f1 := HE5.c1; have f2 := HE5.c2; obtain ⟨u', w2, hrun, h1, h2, _⟩ := one HB5.out.size (HRA.out.below hb5) hol e; have H1 := Lib.hid h1; have H2 : Hid (Below w1.heap.size w1 w2) := HB5.out.trans h2; obtain ⟨a2, n2, c2, rfl⟩ := h1.slice'; clear h1 h2 hb5 HE5)
            | (at_builtin; refine Lib.wpList_append_run _ rfl _ _ _ _ rfl _ _ rfl rfl _ _ hrun ?_))
          go_roundg (F.length - (k + 1))
          case measure => omega
          case rel => exact ⟨k + 1, false, _, hlt, rfl, by go_num, rfl, HI', H1, H2⟩
        | true =>
          rw [hle] at HA
          have HI' := Lib.hid (HI.out.here HX.out hle)
          clear hle
          go_wp2_with (first
            | (go_at_call 28; (with_reducible refine (HA.out _).mono ?_); rintro e5 w5 ⟨rfl, hb5⟩; have HB5 : Hid (Below w1.heap.size w1 w5) := HBA.out.trans (hb5.mono HBA.out.size); have HE5 := HE.out.below hb5; have HX5 := HX1.out.below HB5.out; have g0 := HX5.c0; have g1 := HX5.c1; have g2 := HX5.c2; obtain ⟨u', w2, hrun, h1, h2, h3⟩ := one HB5.out.size (HRA.out.below hb5) hol x; have HE6 := h3 _ _ HE5 (fun h => by have := HON.out _ h; omega); have f0 := HE6.c0; have f1 := HE6.c1; have f2 := HE6.c2; have H2 : Hid (Below w1.heap.size w1 w2) := HB5.out.trans h2; obtain ⟨u'', w3, hrun2, h4, h5, _⟩ := one H2.out.size h1 (by simp; have := HI.out.1; omega) e; have H4 := Lib.hid h4; have H5 : Hid (Below w1.heap.size w1 w3) := H2.out.trans h5; obtain ⟨a2, n2, c2, rfl⟩ := h1.slice'; obtain ⟨a3, n3, c3, rfl⟩ := h4.slice'; clear h1 h2 h3 h4 h5 hb5 HE5 HE6 HX5)
            | (at_builtin; refine Lib.wpList_append_run _ rfl _ _ _ _ rfl _ _ rfl rfl _ _ hrun ?_)
            | (at_builtin; refine Lib.wpList_append_run _ rfl _ _ _ _ rfl _ _ rfl rfl _ _ hrun2 ?_))
          go_roundg (F.length - (k + 1))
          case measure => omega
          case rel => exact ⟨k + 1, true, _, hlt, rfl, by go_num, rfl, HI', H4, H5⟩
    · obtain rfl : k = F.length := by omega
      obtain ⟨ua, un, uc, hu⟩ := HR.out.slice'
      subst hu
      have hol : o.length ≤ 300000 := by have := HI.out.1; omega
      cases dd with
      | true =>
        have HD := Lib.hid HI.out.done
        clear hol
        go_wp2
        go_ret
        exact ⟨_, rfl, rowFin HR.out HB1.out.size HD.out HFF.out, HB1.out.trans (HB.out.mono HB1.out.size)⟩
      | false =>
        have HD := Lib.hid HI.out.last
        have HXA := Lib.hid (HX1.out.below HB.out)
        have x0 := HXA.out.c0
        have x1 := HXA.out.c1
        have x2 := HXA.out.c2
        obtain ⟨u', w2, hrun, h1, h2, _⟩ := one HB.out.size HR.out hol x
        have H1 := Lib.hid h1
        have H2 : Hid (Below w1.heap.size w1 w2) := HB.out.trans h2
        obtain ⟨a2, n2, c2, rfl⟩ := h1.slice'
        clear h1 h2 hol
        go_wp2_with (at_builtin; refine Lib.wpList_append_run _ rfl _ _ _ _ rfl _ _ rfl rfl _ _ hrun ?_)
        go_ret
        exact ⟨_, rfl, rowFin H1.out HB1.out.size HD.out HFF.out, HB1.out.trans (H2.out.mono HB1.out.size)⟩
end Go.Proofs.Ytpgaepilnbjhbaa
