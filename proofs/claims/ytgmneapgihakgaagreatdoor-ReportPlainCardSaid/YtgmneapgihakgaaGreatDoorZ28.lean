/- Texts of one seat, merged. -/
import Derived.Test.YtgmneapgihakgaaGreatDoorZ27
import Derived.Test.YtgmneapgihakgaaGreatDoorZ22
import Derived.Test.YtgmneapgihakgaaGreatDoorZ23
set_option maxRecDepth 100000
set_option maxHeartbeats 4000000
set_option linter.unusedVariables false
/- All over a row. -/
namespace Go.Proofs.YtgmneapgihakgaaGreatDoor
open Go.RowKit
attribute [local go_sem] Oper.semAt_some
/-- What All answers. -/
inductive AllOut (w : World) (E : List (Ms × Int)) : Ending → World → Prop
  | all (v : Value) (w' : World) (h : ∀ x ∈ E, x.2 = 0) (hr : RowG cvMs 5 62 w' w.heap.size v (E.map (·.1))) (hb : Below w.heap.size w w') : AllOut w E (.returned (.tuple #[v, .int .i64 0])) w'
  | bad (p : List (Ms × Int)) (x : Ms × Int) (w' : World) (hE : p ++ [x] <+: E) (hx : x.2 ≠ 0) (hb : Below w.heap.size w w') : AllOut w E (.returned (.tuple #[.slice none 0 0, .int .i64 x.2])) w'
theorem pre_lt {α : Type} {p E : List α} {x : α} (h : p ++ [x] <+: E) : p.length < E.length := by
  have := h.length_le
  simp at this
  omega
theorem rrAll {w : World} {g : Nat} {v : Value} {e : Int} {tmps : Array Value} (h2 : tmps[2]? = some (.pointer (some ⟨g, 0, none⟩))) (h3 : tmps[3]? = some (.pointer (some ⟨g + 1, 0, none⟩))) (b0 : Boxed w g 59 v) (b1 : Boxed w (g + 1) 43 (.int .i64 e)) :
    (results Tryz.f26 tmps).run Tryz.prog w = .ok (.tuple #[v, .int .i64 e]) w := by
  have h0 := b0.cell
  have h1 := b1.cell
  simp [results, Tryz.results26, go_sem, h2, h3, h0, h1]
theorem boxed_putO {w : World} {g D : Nat} {t : TypeId} {v : Value} {o : Obj} (h : Boxed w g t v) (hne : g ≠ D) : Boxed (w.putObj D o) g t v := (World.putObj_heap_other (by omega)).trans h
theorem below_putN {g : Nat} {w W : World} {D : Nat} (h : Below g w W) (hD : g ≤ D) (o : Obj) : Below g w (W.putObj D o) :=
  ⟨h.os, h.tape, h.output, by simpa using h.size, fun k hk => (World.putObj_heap_other (by omega)).trans (h.block k hk)⟩
theorem all_done {w W' X : World} {g D : Nat} {E : List (Ms × Int)} {M : Nat → Prop} {o : Obj} {v : Value} (hI : AllI w g E M W') (hv : Boxed W' (g + 2) 59 v) (hr : RowG cvMs 5 62 W' g v (E.map (·.1))) (hM : ∀ k, M k ↔ k = g ∨ k = g + 1 ∨ k = g + 2 ∨ v.ownBlock = some k) (hD : g + 3 ≤ D) (hMD : ¬ M D)
    (hK : W'.heap[D]? = some (.deferred (some []))) (hX : X = (W'.setCell ⟨g, 0, none⟩ v).setCell ⟨g + 1, 0, none⟩ (.int .i64 0)) :
    X.heap[D]? = some (.deferred (some [])) ∧ Boxed (X.putObj D o) g 59 v ∧ Boxed (X.putObj D o) (g + 1) 43 (.int .i64 0) ∧ RowG cvMs 5 62 (X.putObj D o) g v (E.map (·.1)) ∧ Below g w (X.putObj D o) := by
  have n0 : some g ≠ v.ownBlock := hr.not_row hI.r0 (by decide)
  have n1 : some (g + 1) ≠ v.ownBlock := hr.not_row hI.r1 (by decide)
  have bX : ∀ k, k ≠ g → k ≠ g + 1 → X.heap[k]? = W'.heap[k]? := fun k h0 h1 => by
    rw [hX]
    exact (Below.heap_setCell _ ⟨g + 1, 0, none⟩ _ k h1).trans (Below.heap_setCell _ ⟨g, 0, none⟩ _ k h0)
  have x0 : Boxed X g 59 v := by rw [hX]; exact Boxed.other (Boxed.set _ hI.r0) (by omega) _
  have x1 : Boxed X (g + 1) 43 (.int .i64 0) := by rw [hX]; exact Boxed.set _ (Boxed.other hI.r1 (by omega) _)
  have hb : Below g w X := by
    rw [hX]
    exact (hI.below.setCell (p := ⟨g, 0, none⟩) (Nat.le_refl _) _).setCell (p := ⟨g + 1, 0, none⟩) (by show g ≤ g + 1; omega) _
  refine ⟨(bX D (by omega) (by omega)).trans hK, boxed_putO x0 (by omega), boxed_putO x1 (by omega), hr.keep fun j hj => ?_, below_putN hb (by omega) o⟩
  have hjD : j ≠ D := fun e => hMD ((hM D).2 (.inr (.inr (.inr (e ▸ hj)))))
  exact (World.putObj_heap_other (by omega)).trans (bX j (fun e => n0 (by rw [← e, hj])) (fun e => n1 (by rw [← e, hj])))
set_option maxHeartbeats 8000000 in
theorem mAll_any (lb : Array Value) (G : World → Prop) (E : List (Ms × Int)) (hE : E.length ≤ 100000) (hseq : SeqB teM 19 208 lb G E) (w : World) (hG : ∀ A, Below w.heap.size w A → G A) :
    Calls Tryz.prog 26 #[.func (.func 208) #[] lb] w (AllOut w E) := by
  refine callsIn_wide.1 (callsIn_of_wp_marks (n := 20) (F := WF) Tryz.func26 rfl trivial ?_ rfl)
  simp only [Tryz.ntmps26, List.size_toArray, List.length_cons, List.length_nil, Nat.reduceAdd, Nat.reduceSub, Array.replicate_succ, Array.replicate_zero, List.push_toArray, List.append_toArray, List.nil_append, List.cons_append]
  refine (wpIn_wide (n := 20)).2 ?_
  obtain ⟨Q, hQ⟩ : ∃ Q, Q = bodyPostM WF 20 Tryz.prog Tryz.f26 (AllOut w E) := ⟨_, rfl⟩
  rw [← hQ]
  have HQ := Lib.hid hQ
  clear hQ
  have HI0 := Lib.hid (start3A w)
  have HB0 := Lib.hid (start3 w 59 43 59 (.slice none 0 0) (.int .i64 0) (.slice none 0 0)).2.2.2
  go_wp2
  refine (wpIn_wide (n := 20)).1 ?_
  revert HI0 HB0
  have hsz : (((w.alloc (.cells #[.slice none 0 0] 59)).alloc (.cells #[.int .i64 0] 43)).alloc (.cells #[.slice none 0 0] 59)).heap.size = w.heap.size + 3 := by simp
  revert hsz
  generalize (((w.alloc (.cells #[.slice none 0 0] 59)).alloc (.cells #[.int .i64 0] 43)).alloc (.cells #[.slice none 0 0] 59)) = w3
  intro hsz HI0 HB0
  refine rangeB (n := 20) (by decide) (gf := 208) (lb := lb) rfl (fun args w => by kernel_rfl) hseq (fun x => rfl)
    (AllI w w.heap.size) (AllX w w.heap.size E) (fun k => k = w.heap.size ∨ k = w.heap.size + 1 ∨ k = w.heap.size + 2) (fun k hk => by omega)
    (fun pre M A B h hs => h.stays (by rw [hsz] at hs; exact hs)) (fun pre M A B h hs => h.stays (by rw [hsz] at hs; exact hs))
    (fun pre M A h k hk => by
      obtain ⟨v, hv, hr, hM⟩ := h.ex
      rcases (hM k).1 hk with e | e | e | e
      · rw [e]; exact h.r0.lt
      · rw [e]; exact h.r1.lt
      · rw [e]; exact hv.lt
      · exact (hr.lt k e).2)
    (fun pre M A h => hG A h.below) HI0.out
    (fun x a' A => ∃ bx, w.heap.size + 5 ≤ bx ∧ BoxL A bx 62 #[.string x.1.qu, .int .u64 x.1.id, .int .u32 x.1.tries, .int .u64 x.1.expiry, .string x.1.body] ∧ a' = { tmps := #[.func (.func 208) #[] lb, undef, .pointer (some ⟨w.heap.size, 0, none⟩), .pointer (some ⟨w.heap.size + 1, 0, none⟩), .pointer (some ⟨w.heap.size + 1 + 1, 0, none⟩), .pointer (some ⟨bx, 0, none⟩), .int .i64 x.2, .func (.func 208) #[] lb, aggM x.1, .int .i64 x.2, undef, undef, undef, undef, undef, undef, undef, undef], defers := [] })
    (fun x a' A B ⟨bx, h1, h2, h3⟩ hs => ⟨bx, h1, h2.same (hs.same bx (by omega) h2.lt), h3⟩) ?assign ?body ?done ?stop
  case assign =>
    intro l x W K hsz' hK
    have HK := Lib.hid hK
    clear hK
    unfold teM aggM
    unfold aggM at HK
    gi_wp2
    exact HK.out _ _ ((Below.refl _ _).alloc (Nat.le_refl _) _) ⟨W.heap.size, by omega, BoxL.new W _ _, rfl⟩
  case body =>
    rintro l pre x M a' A hI ⟨bx, hbl, hbx, rfl⟩ hsz' hpre
    have HI := Lib.hid hI
    have HPR := Lib.hid hpre
    have q0 := hbx.cell (i := 0) rfl
    have q1 := hbx.cell (i := 1) rfl
    have q2 := hbx.cell (i := 2) rfl
    have q3 := hbx.cell (i := 3) rfl
    have q4 := hbx.cell (i := 4) rfl
    have hpl := pre_lt hpre
    by_cases he : x.2 = 0
    · obtain ⟨v, hv, hrow, hM⟩ := hI.ex
      obtain ⟨va, vn, vc, rfl⟩ := hrow.slice'
      obtain ⟨v', w1, hrun, hr1, hg1, hb1, ho1⟩ := app1 encMs appMs (by decide) (.slice va vn vc) x.1 59 A (by have := hI.r0.lt; omega) hrow (by rw [List.length_map]; omega) #[.string x.1.qu, .int .u64 x.1.id, .int .u32 x.1.tries, .int .u64 x.1.expiry, .string x.1.body] rfl A.heap.size rfl
      obtain ⟨va', vn', vc', rfl⟩ := hr1.slice'
      obtain ⟨hv1, M', hw, hI'⟩ := hI.push he hv hrow hM hr1 hg1 hb1 ho1
      have HW := Lib.hid hw
      have HI2 := Lib.hid hI'
      have c0 := hv.cell
      have c1 := hv1.cell
      have f1 := hv1.frozen
      have HE := Lib.hid he
      rw [he]
      clear hI hpre hbx hv hrow hM hr1 hg1 hb1 ho1 hv1 hw hI' he HI
      gi_wp2_with (gi_at_builtin; refine wpListIn_runA _ rfl _ _ _ _ rfl _ _ rfl rfl _ _ hrun ?_)
      exact ⟨M', HW.out, HI2.out⟩
    · obtain ⟨hw, hX⟩ := hI.stop he hpre
      have HW := Lib.hid hw
      have HX := Lib.hid hX
      have c0 := hI.r0.cell
      have f0 := hI.r0.frozen
      have c1 := hI.r1.cell
      have f1 := hI.r1.frozen
      have hb : (x.2 != 0) = true := by simpa using he
      clear hI hpre hbx hw hX he HI
      gi_wp2
      exact ⟨M, HW.out, HX.out⟩
  case done =>
    intro D M W' hD hMD hI hst hgr hK
    obtain ⟨v, hv, hrow, hM⟩ := hI.ex
    obtain ⟨va, vn, vc, rfl⟩ := hrow.slice'
    have c0 := hv.cell
    have d0 := hI.r0.cell
    have f0 := hI.r0.frozen
    have d1 := hI.r1.cell
    have f1 := hI.r1.frozen
    have HI := Lib.hid hI
    have HV := Lib.hid hv
    have HR := Lib.hid hrow
    have HK := Lib.hid hK
    have HM := Lib.hid hM
    clear hI hv hrow hK hM
    go_wp2
    rw [HQ.out]
    have hDg : w.heap.size + 3 ≤ D := by rw [← hsz]; exact hD
    obtain ⟨X, hX⟩ : ∃ X, X = (W'.setCell ⟨w.heap.size, 0, none⟩ (.slice va vn vc)).setCell ⟨w.heap.size + 1, 0, none⟩ (.int .i64 0) := ⟨_, rfl⟩
    rw [← hX]
    have HDN := Lib.hid (fun o => all_done (o := o) HI.out HV.out HR.out HM.out hDg hMD HK.out hX)
    clear hX
    refine ⟨by simp, .inl ⟨_, _, rfl, run_takeDeferred (HDN.out (.deferred none)).1, ?_⟩⟩
    obtain ⟨_, y0, y1, y2, y3⟩ := HDN.out (.deferred none)
    exact ⟨_, rrAll rfl rfl y0 y1, .all _ _ HI.out.ok y2 y3⟩
  case stop =>
    intro D pre M W' hD hMD hX hst hgr hK
    have HK := Lib.hid hK
    have HX := Lib.hid hX
    clear hK hX
    gi_wp2
    rw [HQ.out]
    have hDg : w.heap.size + 3 ≤ D := by rw [← hsz]; exact hD
    obtain ⟨p, x, h1, h2, h3, h4⟩ := HX.out.ex
    refine ⟨by simp, .inl ⟨_, _, rfl, run_takeDeferred HK.out, ?_⟩⟩
    exact ⟨_, rrAll rfl rfl (boxed_putO HX.out.r0 (by omega)) (boxed_putO h4 (by omega)), .bad p x _ h2 h3 (below_putN HX.out.below (by omega) _)⟩
end Go.Proofs.YtgmneapgihakgaaGreatDoor
/- All of Due's row, over a shelf. -/
namespace Go.Proofs.YtgmneapgihakgaaGreatDoor
open Go.RowKit Go.Sort Go.Maps
theorem upE_len {α : Type} (z : α) : ∀ l : List (α × Int), (upE z l).length ≤ l.length
  | [] => Nat.le_refl _
  | x :: t => by
    have := upE_len z t
    unfold upE
    split <;> simp <;> omega
theorem between_len (ks : List Txt) (f : Txt → Txt) (fr up : Txt) : (between ks f fr up).length ≤ ks.length := by
  unfold between notB
  rw [List.length_map]
  exact Nat.le_trans (List.takeWhile_prefix _).length_le (List.length_filter_le _ _)
/-- What a term's pair tells. -/
def DueRd (ks : List Txt) (f : Txt → Txt) (rd : Txt × Txt → Ms × Int) (x : Txt × Txt) : Prop :=
  ∃ a q i, a < 18446744073709551616 ∧ q.length ≤ 400 ∧ i < 18446744073709551616 ∧ (kT a q i).length ≤ 255 ∧ x = (kT a q i, []) ∧ rd x = ((findM ks f q i).1, dueE a (findM ks f q i))
theorem dueSeq {N : Nat} {M : Nat → Prop} {w : World} {p : Nat} {ks : List Txt} {f : Txt → Txt} (h : ShW N M w p ks f) (hN : N ≤ 100000) (now a r n : Nat) (hn : 8 ≤ n) (hd : DueB w a r p KE (UD now)) (rd : Txt × Txt → Ms × Int) (hrd : ∀ x ∈ between ks f KE (UD now), DueRd ks f rd x) (m : Int) (hm : w.cell? ⟨0, 0, none⟩ = some (.int .i64 m)) :
    ∃ G : World → Prop, SeqB teM n 208 #[.pointer (some ⟨a, 0, none⟩), .pointer (some ⟨a + 1, 0, none⟩), .pointer (some ⟨a + 1 + 1, 0, none⟩), .pointer (some ⟨a + 1 + 1 + 1, 0, none⟩)] G (upE zM0 ((between ks f KE (UD now)).map rd)) ∧ (∀ A, Below w.heap.size w A → G A) ∧ (upE zM0 ((between ks f KE (UD now)).map rd)).length ≤ 100000 := by
  have h00 := World.block_lt_of_cell? _ _ hm
  obtain ⟨sp, mb, B0, nn, v, hsh, hMM, hn1, hn2, hn3, hp⟩ := h.ex
  refine ⟨_, things1D n hn p sp mb B0 nn a (a + 1) (a + 1 + 1) (a + 1 + 1 + 1) r v ks f KE (UD now) (by omega) (fun k hk => by have := h.kl k hk; unfold maxLen; omega) rd (fun A => ShW N M A p ks f ∧ A.cell? ⟨r, 0, none⟩ = some (.iface 25 (.pointer (some ⟨p, 0, none⟩))) ∧ A.cell? ⟨0, 0, none⟩ = some (.int .i64 m))
    (fun A A' ⟨g1, g2, g3⟩ hb => ⟨g1.below hb, (hb.cell (p := ⟨r, 0, none⟩) (World.block_lt_of_cell? _ _ g2)).trans g2, (hb.cell (p := ⟨0, 0, none⟩) (World.block_lt_of_cell? _ _ g3)).trans g3⟩)
    (fun x hx A ⟨g1, g2, g3⟩ => ?_), fun A hA => ?_, ?_⟩
  · obtain ⟨at', q, i, b1, b2, b3, b4, rfl, b6⟩ := hrd x hx
    rw [b6]
    exact mDue1_of _ _ p r _ _ A g2 (fun W hW => mdue_any (g1.below hW) at' q i b1 b2 b3 b4 m ((hW.cell (p := ⟨0, 0, none⟩) (World.block_lt_of_cell? _ _ g3)).trans g3))
  · exact ⟨hsh.below hA, (hA.cell (p := ⟨a, 0, none⟩) (World.block_lt_of_cell? _ _ hd.c1)).trans hd.c1, (hA.cell (p := ⟨a + 1, 0, none⟩) (World.block_lt_of_cell? _ _ hd.c2)).trans hd.c2, (hA.cell (p := ⟨a + 1 + 1, 0, none⟩) (World.block_lt_of_cell? _ _ hd.c3)).trans hd.c3, (hA.cell (p := ⟨a + 1 + 1 + 1, 0, none⟩) (World.block_lt_of_cell? _ _ hd.c4)).trans hd.c4, h.below hA, (hA.cell (p := ⟨r, 0, none⟩) (World.block_lt_of_cell? _ _ hd.c5)).trans hd.c5, (hA.cell (p := ⟨0, 0, none⟩) h00).trans hm⟩
  · have h1 := upE_len zM0 ((between ks f KE (UD now)).map rd)
    have h2 := between_len ks f KE (UD now)
    rw [List.length_map] at h1
    omega
theorem dueAll {N : Nat} {M : Nat → Prop} {w : World} {p : Nat} {ks : List Txt} {f : Txt → Txt} (h : ShW N M w p ks f) (hN : N ≤ 100000) (now a r : Nat) (hd : DueB w a r p KE (UD now)) (rd : Txt × Txt → Ms × Int) (hrd : ∀ x ∈ between ks f KE (UD now), DueRd ks f rd x) (m : Int) (hm : w.cell? ⟨0, 0, none⟩ = some (.int .i64 m)) :
    Calls Tryz.prog 26 #[.func (.func 208) #[] #[.pointer (some ⟨a, 0, none⟩), .pointer (some ⟨a + 1, 0, none⟩), .pointer (some ⟨a + 1 + 1, 0, none⟩), .pointer (some ⟨a + 1 + 1 + 1, 0, none⟩)]] w (AllOut w (upE zM0 ((between ks f KE (UD now)).map rd))) := by
  obtain ⟨G, h1, h2, h3⟩ := dueSeq h hN now a r 19 (by decide) hd rd hrd m hm
  exact mAll_any _ G _ h3 h1 w h2
end Go.Proofs.YtgmneapgihakgaaGreatDoor
/- message.put, stand, keys, over a shelf. -/
namespace Go.Proofs.YtgmneapgihakgaaGreatDoor
open Go.RowKit Go.Sort Go.Maps
def Ms.q (m : Ms) : Txt := m.qu.data.toList
def Ms.fit (m : Ms) : Prop := m.q.length ≤ 400 ∧ m.id < 18446744073709551616 ∧ m.tries < 4294967296 ∧ m.expiry < 18446744073709551616 ∧ m.body.size ≤ 60000
theorem Ms.fit.ok {m : Ms} (h : m.fit) : m.ok := ⟨h.2.2.1, h.2.2.2.1, by have := h.2.2.2.2; omega⟩
theorem encM_small {m : Ms} (h : m.fit) : (1 :: encM m).length ≤ 65536 := by
  rw [List.length_cons, encM_len]; have := h.2.2.2.2; omega
theorem ShW.more {N N' : Nat} {M : Nat → Prop} {w : World} {p : Nat} {ks : List Txt} {f : Txt → Txt} (h : ShW N M w p ks f) (hN : N ≤ N') : ShW N' M w p ks f := by
  obtain ⟨sp, mb, B, n, v, hs, hM, h1, h2, h3⟩ := h.ex
  exact ⟨⟨sp, mb, B, n, v, hs, hM, by omega, by omega, h3⟩, h.kl⟩
theorem went_below {M : Nat → Prop} {w w' : World} (hb : Below w.heap.size w w') : Went M M w w' := ⟨fun k hk => .inl hk, Stays.below hb⟩
set_option maxHeartbeats 4000000 in
theorem mput_any {N : Nat} {M : Nat → Prop} {w : World} {p : Nat} {ks : List Txt} {f : Txt → Txt} (h : ShW N M w p ks f) (hN : N ≤ 80000) (k : Txt) (hk : k.length ≤ 255) (m : Ms) (hm : m.fit) :
    Calls Tryz.prog 123 #[.iface 25 (.pointer (some ⟨p, 0, none⟩)), .string (str k), aggM m] w fun e w' => e = .returned (.int .i64 0) ∧ ∃ M' ks', addS ks k ks' ∧ ShW (N + 1) M' w' p ks' (putF f k (1 :: encM m)) ∧ Went M M' w w' := by
  obtain ⟨w0, hw0⟩ : ∃ w0, w0 = w.alloc (.cells #[.string m.qu, .int .u64 m.id, .int .u32 m.tries, .int .u64 m.expiry, .string m.body] 62) := ⟨_, rfl⟩
  have bA : Below w.heap.size w w0 := by rw [hw0]; exact (Below.refl _ _).alloc (Nat.le_refl _) _
  have x0 : BoxL w0 w.heap.size 62 #[.string m.qu, .int .u64 m.id, .int .u32 m.tries, .int .u64 m.expiry, .string m.body] := by rw [hw0]; exact BoxL.new w _ _
  have HQ := Lib.hid (fun W => messages_any m.qu m.id W)
  have HB : Hid (∀ W cd, CdM W cd m.qu m.id → Calls Tryz.prog 217 #[cd, .agg #[.string m.qu, .int .u64 m.id, .int .u32 m.tries, .int .u64 m.expiry, .string m.body]] W fun e w' => e = .returned (.string (str (1 :: encM m))) ∧ Below W.heap.size W w') := fun W cd hc => hc.bytes m hm.ok
  have HP : Hid (∀ W, Below w.heap.size w W → Calls Tryz.prog 81 #[.iface 25 (.pointer (some ⟨p, 0, none⟩)), .string (str k), .string (str (1 :: encM m))] W fun e w' => e = .returned (.int .i64 0) ∧ ∃ M' ks', addS ks k ks' ∧ ShW (N + 1) M' w' p ks' (putF f k (1 :: encM m)) ∧ Went M M' w w') := fun W hb =>
    (askPut_any (h.below hb) hN k _ hk (encM_small hm)).mono (fun e w' ⟨h1, M', ks', h2, h3, h4⟩ => ⟨h1, M', ks', h2, h3, h4.pre hb⟩)
  have HX : Hid (BoxL w0.drew w.heap.size 62 #[.string m.qu, .int .u64 m.id, .int .u32 m.tries, .int .u64 m.expiry, .string m.body]) := x0
  have HA := Lib.hid bA
  have k0 := x0.cell (i := 0) rfl
  have k1 := x0.cell (i := 1) rfl
  have k2 := x0.cell (i := 2) rfl
  have k3 := x0.cell (i := 3) rfl
  have k4 := x0.cell (i := 4) rfl
  have hmx := mixed0
  rw [hw0] at k0 k1 k2 k3 k4 HX HA
  clear hm h hk x0 bA hw0
  revert HB HP
  generalize (1 :: encM m) = ex
  intro HB HP
  unfold aggM
  go_enter Tryz.func123, Tryz.ntmps123
  go_wp2
  go_region_with (first
    | (go_at_call 81; refine (HP.out _ (by first | exact below_step (below_step HA.out.drew hb4) hb5 | exact below_step (below_step HA.out hb4) hb5)).mono ?_; rintro e6 w6 ⟨rfl, hq⟩; have HQ6 := Lib.hid hq; clear hq)
    | (go_at_call 217; refine (HB.out _ _ hcd4).mono ?_; rintro e5 w5 ⟨rfl, hb5⟩)
    | (go_at_call 199; refine (HQ.out _).mono ?_; rintro e4 w4 ⟨cd4, rfl, hcd4, hb4⟩; have x4 := BoxL.below (W' := w4) HX.out hb4 HX.out.lt; have o0 := x4.cell (i := 0) rfl; have o1 := x4.cell (i := 1) rfl; have o2 := x4.cell (i := 2) rfl; have o3 := x4.cell (i := 3) rfl; have o4 := x4.cell (i := 4) rfl))
  all_goals
    go_wp2
    go_ret
    exact ⟨by trivial, HQ6.out⟩
/-- A term stands, and nothing else is changed. -/
def Stood (ks : List Txt) (f : Txt → Txt) (t : Txt) (ks' : List Txt) (f' : Txt → Txt) : Prop := (∀ j, j ∈ ks' ↔ j = t ∨ j ∈ ks) ∧ f' t = [] ∧ ∀ j, j ≠ t → f' j = f j
theorem mstand_none (sv : Value) (w : World) : Calls Tryz.prog 124 #[sv, .string ⟨#[]⟩] w fun e w' => e = .returned (.int .i64 0) ∧ Below w.heap.size w w' := by
  go_enter Tryz.func124, Tryz.ntmps124
  go_wp2
  go_ret
  exact ⟨rfl, Below.refl _ _⟩
set_option maxHeartbeats 4000000 in
theorem mstand_any {N : Nat} {M : Nat → Prop} {w : World} {p : Nat} {ks : List Txt} {f : Txt → Txt} (h : ShW N M w p ks f) (hN : N ≤ 80000) (t : Txt) (ht : t.length ≤ 255) (hne : t ≠ []) :
    Calls Tryz.prog 124 #[.iface 25 (.pointer (some ⟨p, 0, none⟩)), .string (str t)] w fun e w' => e = .returned (.int .i64 0) ∧ ∃ M' ks' f', ShW (N + 1) M' w' p ks' f' ∧ Went M M' w w' ∧ Stood ks f t ks' f' := by
  have HG := Lib.hid (askGet_any h t (by unfold maxLen; omega))
  have HP : Hid (∀ W, Below w.heap.size w W → Calls Tryz.prog 81 #[.iface 25 (.pointer (some ⟨p, 0, none⟩)), .string (str t), .string ⟨#[]⟩] W fun e w' => e = .returned (.int .i64 0) ∧ ∃ M' ks' f', ShW (N + 1) M' w' p ks' f' ∧ Went M M' w w' ∧ Stood ks f t ks' f') := fun W hb =>
    (askPut_any (h.below hb) hN t [] ht (by simp)).mono (fun e w' ⟨h1, M', ks', h2, h3, h4⟩ => ⟨h1, M', ks', _, h3, h4.pre hb, ⟨h2.2.1, by simp [putF], fun j hj => by simp [putF, hj]⟩⟩)
  have hnt : ((str t).toList == ([] : List UInt8)) = false := by
    rw [str_list]
    cases t with
    | nil => exact absurd rfl hne
    | cons c l => rfl
  have hnt2 : (str t).toList.isEmpty = false := by
    rw [str_list]
    cases t with
    | nil => exact absurd rfl hne
    | cons c l => rfl
  have HS := Lib.hid h
  clear ht hne h
  by_cases hm : t ∈ ks
  · have hv : shV ks f t = f t := if_pos hm
    rw [hv, decide_eq_true hm] at HG
    have hg : got (f t) true 0 = .tuple #[.string (str (f t)), .bool true, .int .i64 0] := if_pos ⟨rfl, rfl⟩
    rw [hg] at HG
    have HM := Lib.hid hm
    clear hg hv hm
    by_cases he : f t = []
    · have HE := Lib.hid he
      rw [he] at HG
      have HG' : Hid (Calls Tryz.prog 80 #[.iface 25 (.pointer (some ⟨p, 0, none⟩)), .string (str t)] w fun e w' => e = .returned (.tuple #[.string ⟨#[]⟩, .bool true, .int .i64 0]) ∧ Below w.heap.size w w') := HG.out
      clear he HG
      go_enter Tryz.func124, Tryz.ntmps124
      go_wp2_with (go_at_call 80; refine HG'.out.mono ?_; rintro e1 w1 ⟨rfl, hb1⟩)
      go_ret
      exact ⟨by trivial, M, ks, f, (HS.out.below hb1).more (by omega), went_below hb1, fun j => ⟨fun hj => .inr hj, fun hj => hj.elim (fun e => e ▸ HM.out) id⟩, HE.out, fun j _ => rfl⟩
    · have hne2 : (str (f t)).toList.isEmpty = false := by
        rw [str_list]
        cases h : f t with
        | nil => exact absurd h he
        | cons c l => rfl
      clear he
      revert HG hne2
      generalize f t = V
      intro HG hne2
      go_enter Tryz.func124, Tryz.ntmps124
      go_wp2_with (first
        | (go_at_call 80; refine HG.out.mono ?_; rintro e1 w1 ⟨rfl, hb1⟩)
        | (go_at_call 81; refine (HP.out _ hb1).mono ?_; rintro e2 w2 ⟨rfl, hq⟩; have HQ := Lib.hid hq; clear hq))
      go_ret
      exact ⟨by trivial, HQ.out⟩
  · rw [decide_eq_false hm] at HG
    have hg : got (shV ks f t) false 0 = .tuple #[.string ⟨#[]⟩, .bool false, .int .i64 0] := if_neg (by simp)
    rw [hg] at HG
    clear hg hm
    go_enter Tryz.func124, Tryz.ntmps124
    go_wp2_with (first
      | (go_at_call 80; refine HG.out.mono ?_; rintro e1 w1 ⟨rfl, hb1⟩)
      | (go_at_call 81; refine (HP.out _ hb1).mono ?_; rintro e2 w2 ⟨rfl, hq⟩; have HQ := Lib.hid hq; clear hq))
    go_ret
    exact ⟨by trivial, HQ.out⟩
end Go.Proofs.YtgmneapgihakgaaGreatDoor
/- message.keys. -/
namespace Go.Proofs.YtgmneapgihakgaaGreatDoor
open Go.RowKit Go.Sort Go.Maps
def mK (m : Ms) : Txt := kM m.q m.id
def tK (m : Ms) : Txt := kT m.expiry m.q m.id
/-- The error of a message's keys; its term's key. -/
def keysE (m : Ms) : Int := if (mK m).length ≤ 255 then (if m.expiry = 0 then 0 else if (tK m).length ≤ 255 then 0 else 5) else 5
def keysT (m : Ms) : Txt := if (mK m).length ≤ 255 ∧ m.expiry ≠ 0 ∧ (tK m).length ≤ 255 then tK m else []
set_option maxHeartbeats 4000000 in
theorem mkeys_any (ms : Ms) (hf : ms.fit) (m : Int) (w : World) (hm : w.cell? ⟨0, 0, none⟩ = some (.int .i64 m)) :
    Calls Tryz.prog 122 #[aggM ms] w fun e w' => e = .returned (.tuple #[.string (str (kS (mParts ms.q ms.id))), .string (str (keysT ms)), .int .i64 (keysE ms)]) ∧ Below w.heap.size w w' := by
  have h00 := World.block_lt_of_cell? _ _ hm
  obtain ⟨w0, hw0⟩ : ∃ w0, w0 = w.alloc (.cells #[.string ms.qu, .int .u64 ms.id, .int .u32 ms.tries, .int .u64 ms.expiry, .string ms.body] 62) := ⟨_, rfl⟩
  have bA : Below w.heap.size w w0 := by rw [hw0]; exact (Below.refl _ _).alloc (Nat.le_refl _) _
  have x0 : BoxL w0 w.heap.size 62 #[.string ms.qu, .int .u64 ms.id, .int .u32 ms.tries, .int .u64 ms.expiry, .string ms.body] := by rw [hw0]; exact BoxL.new w _ _
  have HM : Hid (∀ W, Below w.heap.size w W → W.cell? ⟨0, 0, none⟩ = some (.int .i64 m)) := fun W hW => (hW.cell (p := ⟨0, 0, none⟩) h00).trans hm
  have HK : Hid (∀ W, Below w.heap.size w W → Calls Tryz.prog 106 #[.string ms.qu, .int .u64 ms.id] W fun e w' => e = .returned (.tuple #[.string (str (kS (mParts ms.q ms.id))), .int .i64 (kE (mParts ms.q ms.id))]) ∧ Below W.heap.size W w') := fun W hb => skeyM_any ms.q ms.id hf.1 hf.2.1 m W (HM.out W hb)
  have HT : Hid (∀ W, Below w.heap.size w W → Calls Tryz.prog 37 #[.int .u64 ms.expiry, .string ms.qu, .int .u64 ms.id] W fun e w' => e = .returned (.tuple #[.string (str (kS (tParts ms.expiry ms.q ms.id))), .int .i64 (kE (tParts ms.expiry ms.q ms.id))]) ∧ Below W.heap.size W w') := fun W hb => skeyT_any ms.expiry ms.q ms.id hf.2.2.2.1 hf.1 hf.2.1 m W (HM.out W hb)
  have HX := Lib.hid x0
  have HA := Lib.hid bA
  have k0 := x0.cell (i := 0) rfl
  have k1 := x0.cell (i := 1) rfl
  have k3 := x0.cell (i := 3) rfl
  have hmx := mixed0
  rw [hw0] at k0 k1 k3 HX HA
  clear hm h00 hf x0 bA hw0
  unfold aggM
  by_cases h1 : (mK ms).length ≤ 255
  · have e2 : kE (mParts ms.q ms.id) = 0 := if_pos h1
    rw [e2] at HK
    clear e2
    by_cases h2 : ms.expiry = 0
    · have e3 : keysE ms = 0 := by unfold keysE; rw [if_pos h1, if_pos h2]
      have e4 : keysT ms = [] := by unfold keysT; rw [if_neg (fun h => h.2.1 h2)]
      rw [e3, e4]
      rw [h2] at k3 HX HA k0 k1 ⊢
      clear e3 e4 h1 HT
      go_enter Tryz.func122, Tryz.ntmps122
      go_wp2_with (go_at_call 106; refine (HK.out _ HA.out).mono ?_; rintro e1 w1 ⟨rfl, hb1⟩; have c3 := (HX.out.below hb1 HX.out.lt).cell (i := 3) rfl)
      go_ret3
      exact ⟨rfl, below_step HA.out hb1⟩
    · have e3 : keysE ms = kE (tParts ms.expiry ms.q ms.id) := by unfold keysE kE; rw [if_pos h1, if_neg h2]; rfl
      have e4 : keysT ms = kS (tParts ms.expiry ms.q ms.id) := by
        unfold keysT kS
        by_cases h3 : (tK ms).length ≤ 255
        · rw [if_pos ⟨h1, h2, h3⟩]; exact (if_pos h3).symm
        · rw [if_neg (fun h => h3 h.2.2)]; exact (if_neg h3).symm
      rw [e3, e4]
      have hb : ((ms.expiry : Int) == 0) = false := by simp; omega
      clear e3 e4 h1 h2
      revert HK HT
      generalize kS (tParts ms.expiry ms.q ms.id) = t1
      generalize kE (tParts ms.expiry ms.q ms.id) = t2
      generalize kS (mParts ms.q ms.id) = t3
      intro HK HT
      go_enter Tryz.func122, Tryz.ntmps122
      go_wp2_with (first
        | (go_at_call 106; refine (HK.out _ HA.out).mono ?_; rintro e1 w1 ⟨rfl, hb1⟩; have x1 := HX.out.below hb1 HX.out.lt; have c0 := x1.cell (i := 0) rfl; have c1 := x1.cell (i := 1) rfl; have c3 := x1.cell (i := 3) rfl; clear x1)
        | (go_at_call 37; refine (HT.out _ (below_step HA.out hb1)).mono ?_; rintro e2 w2 ⟨rfl, hb2⟩))
      go_ret3
      exact ⟨rfl, below_step (below_step HA.out hb1) hb2⟩
  · have e2 : kE (mParts ms.q ms.id) = 5 := if_neg h1
    have e1 : kS (mParts ms.q ms.id) = [] := if_neg h1
    have e3 : keysE ms = 5 := by unfold keysE; rw [if_neg h1]
    have e4 : keysT ms = [] := by unfold keysT; rw [if_neg (fun h => h1 h.1)]
    rw [e1, e2] at HK
    rw [e1, e3, e4]
    clear e1 e2 e3 e4 h1 HT
    go_enter Tryz.func122, Tryz.ntmps122
    go_wp2_with (go_at_call 106; refine (HK.out _ HA.out).mono ?_; rintro e1 w1 ⟨rfl, hb1⟩)
    go_ret3
    exact ⟨rfl, below_step HA.out hb1⟩
end Go.Proofs.YtgmneapgihakgaaGreatDoor
/- message.Add, over a shelf. -/
namespace Go.Proofs.YtgmneapgihakgaaGreatDoor
open Go.RowKit Go.Sort Go.Maps
/-- What Add answers. -/
def addE (ks : List Txt) (m : Ms) : Int := if keysE m ≠ 0 then keysE m else if mK m ∈ ks then 22 else 0
/-- A message and its term are there, and nothing else is changed. -/
structure Added (ks : List Txt) (f : Txt → Txt) (m : Ms) (ks' : List Txt) (f' : Txt → Txt) : Prop where
  mem : ∀ j, j ∈ ks' ↔ j = mK m ∨ (m.expiry ≠ 0 ∧ j = tK m) ∨ j ∈ ks
  val : f' (mK m) = 1 :: encM m
  term : m.expiry ≠ 0 → f' (tK m) = []
  else' : ∀ j, j ≠ mK m → (m.expiry ≠ 0 → j ≠ tK m) → f' j = f j
theorem mK_ne_tK (m : Ms) (hf : m.fit) : mK m ≠ tK m := fun h => by
  have := Ord.key_inj _ _ (mParts_ok m.q m.id hf.2.1) (tParts_ok m.expiry m.q m.id hf.2.2.2.1 hf.2.1) h
  cases this
theorem keysE_0 {m : Ms} (h : keysE m = 0) : (mK m).length ≤ 255 ∧ (m.expiry ≠ 0 → (tK m).length ≤ 255) := by
  unfold keysE at h
  by_cases h1 : (mK m).length ≤ 255
  · rw [if_pos h1] at h
    refine ⟨h1, fun h2 => ?_⟩
    rw [if_neg h2] at h
    by_cases h3 : (tK m).length ≤ 255
    · exact h3
    · rw [if_neg h3] at h; cases h
  · rw [if_neg h1] at h; cases h
theorem tK_ne_nil (m : Ms) : tK m ≠ [] := by
  unfold tK kT tParts
  intro h
  have := congrArg List.length h
  simp [Ord.key, Ord.pb, pS] at this
theorem added_none {ks ks' : List Txt} {f : Txt → Txt} {m : Ms} (h : addS ks (mK m) ks') (he : m.expiry = 0) : Added ks f m ks' (putF f (mK m) (1 :: encM m)) :=
  ⟨fun j => by rw [h.2.1]; simp [he], by simp [putF], fun h => absurd he h, fun j hj _ => by simp [putF, hj]⟩
theorem added_term {ks ks1 ks' : List Txt} {f f' : Txt → Txt} {m : Ms} (hf : m.fit) (h : addS ks (mK m) ks1) (hs : Stood ks1 (putF f (mK m) (1 :: encM m)) (tK m) ks' f') (he : m.expiry ≠ 0) : Added ks f m ks' f' :=
  ⟨fun j => by
    rw [hs.1, h.2.1]
    constructor
    · rintro (h | h | h)
      · exact .inr (.inl ⟨he, h⟩)
      · exact .inl h
      · exact .inr (.inr h)
    · rintro (h | ⟨_, h⟩ | h)
      · exact .inr (.inl h)
      · exact .inl h
      · exact .inr (.inr h), by rw [hs.2.2 _ (mK_ne_tK m hf)]; simp [putF], fun _ => hs.2.1, fun j h1 h2 => by rw [hs.2.2 j (h2 he)]; simp [putF, h1]⟩
set_option maxHeartbeats 4000000 in
theorem madd_any {N : Nat} {M : Nat → Prop} {w : World} {p : Nat} {ks : List Txt} {f : Txt → Txt} (h : ShW N M w p ks f) (hN : N ≤ 70000) (ms : Ms) (hf : ms.fit) (m : Int) (hm : w.cell? ⟨0, 0, none⟩ = some (.int .i64 m)) :
    Calls Tryz.prog 35 #[.iface 25 (.pointer (some ⟨p, 0, none⟩)), aggM ms] w fun e w' =>
      (addE ks ms ≠ 0 ∧ e = .returned (.int .i64 (addE ks ms)) ∧ Below w.heap.size w w')
      ∨ (addE ks ms = 0 ∧ e = .returned (.int .i64 0) ∧ ∃ M' ks' f', ShW (N + 2) M' w' p ks' f' ∧ Went M M' w w' ∧ Added ks f ms ks' f') := by
  have h00 := World.block_lt_of_cell? _ _ hm
  obtain ⟨w0, hw0⟩ : ∃ w0, w0 = w.alloc (.cells #[.string ms.qu, .int .u64 ms.id, .int .u32 ms.tries, .int .u64 ms.expiry, .string ms.body] 62) := ⟨_, rfl⟩
  have bA : Below w.heap.size w w0 := by rw [hw0]; exact (Below.refl _ _).alloc (Nat.le_refl _) _
  have x0 : BoxL w0 w.heap.size 62 #[.string ms.qu, .int .u64 ms.id, .int .u32 ms.tries, .int .u64 ms.expiry, .string ms.body] := by rw [hw0]; exact BoxL.new w _ _
  have HM : Hid (∀ W, Below w.heap.size w W → W.cell? ⟨0, 0, none⟩ = some (.int .i64 m)) := fun W hW => (hW.cell (p := ⟨0, 0, none⟩) h00).trans hm
  have HK := Lib.hid (mkeys_any ms hf m w0 (HM.out _ bA))
  have HX := Lib.hid x0
  have HA := Lib.hid bA
  have HF := Lib.hid hf
  have HS := Lib.hid h
  have k0 := x0.cell (i := 0) rfl
  have k1 := x0.cell (i := 1) rfl
  have k2 := x0.cell (i := 2) rfl
  have k3 := x0.cell (i := 3) rfl
  have k4 := x0.cell (i := 4) rfl
  have hmx := mixed0
  unfold aggM at HK ⊢
  by_cases h1 : keysE ms = 0
  · obtain ⟨hk1, hk2⟩ := keysE_0 h1
    have ek : kS (mParts ms.q ms.id) = mK ms := if_pos hk1
    rw [ek, h1] at HK
    have HG : Hid (∀ W, Below w.heap.size w W → Calls Tryz.prog 80 #[.iface 25 (.pointer (some ⟨p, 0, none⟩)), .string (str (mK ms))] W fun e w' => e = .returned (got (shV ks f (mK ms)) (decide (mK ms ∈ ks)) 0) ∧ Below W.heap.size W w') := fun W hb => askGet_any (h.below hb) (mK ms) (by unfold maxLen; omega)
    by_cases h2 : mK ms ∈ ks
    · have e1 : addE ks ms = 22 := by unfold addE; rw [if_neg (by omega), if_pos h2]
      rw [e1]
      rw [decide_eq_true h2] at HG
      have hg : got (shV ks f (mK ms)) true 0 = .tuple #[.string (str (shV ks f (mK ms))), .bool true, .int .i64 0] := if_pos ⟨rfl, rfl⟩
      rw [hg] at HG
      rw [hw0] at k0 k1 k2 k3 k4 HX HA HK
      clear hm h00 hf x0 bA hw0 h hk1 hk2 ek h1 h2 e1 hg
      revert HG
      generalize shV ks f (mK ms) = V
      intro HG
      go_enter Tryz.func35, Tryz.ntmps35
      go_wp2_with (first
        | (go_at_call 122; refine HK.out.mono ?_; rintro e1 w1 ⟨rfl, hb1⟩)
        | (go_at_call 80; refine (HG.out _ (below_step HA.out hb1)).mono ?_; rintro e2 w2 ⟨rfl, hb2⟩))
      go_ret
      exact .inl ⟨by decide, by trivial, below_step (below_step HA.out hb1) hb2⟩
    · have e1 : addE ks ms = 0 := by unfold addE; rw [if_neg (by omega), if_neg h2]
      rw [e1]
      rw [decide_eq_false h2] at HG
      have hg : got (shV ks f (mK ms)) false 0 = .tuple #[.string ⟨#[]⟩, .bool false, .int .i64 0] := if_neg (by simp)
      rw [hg] at HG
      have HP : Hid (∀ W, Below w.heap.size w W → Calls Tryz.prog 123 #[.iface 25 (.pointer (some ⟨p, 0, none⟩)), .string (str (mK ms)), .agg #[.string ms.qu, .int .u64 ms.id, .int .u32 ms.tries, .int .u64 ms.expiry, .string ms.body]] W fun e w' => e = .returned (.int .i64 0) ∧ ∃ M' ks', addS ks (mK ms) ks' ∧ ShW (N + 1) M' w' p ks' (putF f (mK ms) (1 :: encM ms)) ∧ Went M M' w w') := fun W hb =>
        (mput_any (h.below hb) (by omega) (mK ms) hk1 ms hf).mono (fun e w' ⟨h1, M', ks', h2, h3, h4⟩ => ⟨h1, M', ks', h2, h3, h4.pre hb⟩)
      by_cases h3 : ms.expiry = 0
      · have et : keysT ms = [] := by unfold keysT; rw [if_neg (fun h => h.2.1 h3)]
        rw [et] at HK
        have HT := Lib.hid (fun W => mstand_none (.iface 25 (.pointer (some ⟨p, 0, none⟩))) W)
        have H3 := Lib.hid h3
        rw [hw0] at k0 k1 k2 k3 k4 HX HA HK
        clear hm h00 hf x0 bA hw0 h hk1 hk2 ek h1 h2 e1 hg et h3
        have HK' : Hid (Calls Tryz.prog 122 #[.agg #[.string ms.qu, .int .u64 ms.id, .int .u32 ms.tries, .int .u64 ms.expiry, .string ms.body]] (w.alloc (.cells #[.string ms.qu, .int .u64 ms.id, .int .u32 ms.tries, .int .u64 ms.expiry, .string ms.body] 62)) fun e w' => e = .returned (.tuple #[.string (str (mK ms)), .string ⟨#[]⟩, .int .i64 0]) ∧ Below (w.alloc (.cells #[.string ms.qu, .int .u64 ms.id, .int .u32 ms.tries, .int .u64 ms.expiry, .string ms.body] 62)).heap.size (w.alloc (.cells #[.string ms.qu, .int .u64 ms.id, .int .u32 ms.tries, .int .u64 ms.expiry, .string ms.body] 62)) w') := HK.out
        clear HK
        go_enter Tryz.func35, Tryz.ntmps35
        go_wp2_with (first
          | (go_at_call 122; refine HK'.out.mono ?_; rintro e1 w1 ⟨rfl, hb1⟩)
          | (go_at_call 80; refine (HG.out _ (below_step HA.out hb1)).mono ?_; rintro e2 w2 ⟨rfl, hb2⟩; have x2 := (HX.out.below hb1 HX.out.lt).below hb2 (HX.out.below hb1 HX.out.lt).lt; have c0 := x2.cell (i := 0) rfl; have c1 := x2.cell (i := 1) rfl; have c2 := x2.cell (i := 2) rfl; have c3 := x2.cell (i := 3) rfl; have c4 := x2.cell (i := 4) rfl; clear x2)
          | (go_at_call 123; refine (HP.out _ (below_step (below_step HA.out hb1) hb2)).mono ?_; rintro e3 w3 ⟨rfl, hq⟩; have HQ := Lib.hid hq; clear hq)
          | (go_at_call 124; refine (HT.out _).mono ?_; rintro e4 w4 ⟨rfl, hb4⟩))
        go_ret
        obtain ⟨M', ks', ha, hs, hw⟩ := HQ.out
        exact .inr ⟨by trivial, by trivial, M', ks', _, (hs.below hb4).more (by omega), hw.post (hb4.mono hw.stays.size), added_none ha H3.out⟩
      · have et : keysT ms = tK ms := by unfold keysT; rw [if_pos ⟨hk1, h3, hk2 h3⟩]
        rw [et] at HK
        have HT : Hid (∀ W M1 ks1, ShW (N + 1) M1 W p ks1 (putF f (mK ms) (1 :: encM ms)) → Calls Tryz.prog 124 #[.iface 25 (.pointer (some ⟨p, 0, none⟩)), .string (str (tK ms))] W fun e w' => e = .returned (.int .i64 0) ∧ ∃ M' ks' f', ShW (N + 2) M' w' p ks' f' ∧ Went M1 M' W w' ∧ Stood ks1 (putF f (mK ms) (1 :: encM ms)) (tK ms) ks' f') := fun W M1 ks1 hs => mstand_any hs (by omega) (tK ms) (hk2 h3) (tK_ne_nil ms)
        have H3 := Lib.hid h3
        rw [hw0] at k0 k1 k2 k3 k4 HX HA HK
        clear hm h00 hf x0 bA hw0 h hk1 hk2 ek h1 h2 e1 hg et h3
        go_enter Tryz.func35, Tryz.ntmps35
        go_wp2_with (first
          | (go_at_call 122; refine HK.out.mono ?_; rintro e1 w1 ⟨rfl, hb1⟩)
          | (go_at_call 80; refine (HG.out _ (below_step HA.out hb1)).mono ?_; rintro e2 w2 ⟨rfl, hb2⟩; have x2 := (HX.out.below hb1 HX.out.lt).below hb2 (HX.out.below hb1 HX.out.lt).lt; have c0 := x2.cell (i := 0) rfl; have c1 := x2.cell (i := 1) rfl; have c2 := x2.cell (i := 2) rfl; have c3 := x2.cell (i := 3) rfl; have c4 := x2.cell (i := 4) rfl; clear x2)
          | (go_at_call 123; refine (HP.out _ (below_step (below_step HA.out hb1) hb2)).mono ?_; rintro e3 w3 ⟨rfl, M3, ks3, ha3, hs3, hw3⟩; have HA3 := Lib.hid ha3; have HS3 := Lib.hid hs3; have HW3 := Lib.hid hw3; clear ha3 hs3 hw3)
          | (go_at_call 124; refine (HT.out _ _ _ HS3.out).mono ?_; rintro e4 w4 ⟨rfl, hq⟩; have HQ := Lib.hid hq; clear hq))
        go_ret
        obtain ⟨M', ks', f', hs, hw, hst⟩ := HQ.out
        exact .inr ⟨by trivial, by trivial, M', ks', f', hs, HW3.out.trans hw, added_term HF.out HA3.out hst H3.out⟩
  · have e1 : addE ks ms = keysE ms := by unfold addE; rw [if_pos h1]
    rw [e1]
    have hb : (keysE ms != 0) = true := by simpa using h1
    have H1 := Lib.hid h1
    rw [hw0] at k0 k1 k2 k3 k4 HX HA HK
    clear hm h00 hf x0 bA hw0 h h1 e1
    revert HK hb H1
    generalize keysE ms = ev
    intro HK hb H1
    go_enter Tryz.func35, Tryz.ntmps35
    go_wp2_with (go_at_call 122; refine HK.out.mono ?_; rintro e1 w1 ⟨rfl, hb1⟩)
    go_ret
    exact .inl ⟨H1.out, by trivial, below_step HA.out hb1⟩
end Go.Proofs.YtgmneapgihakgaaGreatDoor
