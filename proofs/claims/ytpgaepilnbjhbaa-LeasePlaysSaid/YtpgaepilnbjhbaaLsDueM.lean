/- Due: those whose time has come, and the table without them. -/
import Derived.Test.YtpgaepilnbjhbaaLsKeep
import Derived.Test.YtpgaepilnbjhbaaLsItM
import Derived.Test.YtpgaepilnbjhbaaLsFreeM
set_option maxRecDepth 100000
set_option maxHeartbeats 4000000
set_option linter.unusedVariables false
namespace Go.Proofs.Ytpgaepilnbjhbaa
open Go.RowKit
open Ls (Txt Ln Ms low Mono)
attribute [local go_sem] Oper.semAt_some store_fn store_nil
def cX (x : Txt) : List Value := [.string (str x)]
theorem encX : Enc cX 1 := ⟨by decide, fun _ => rfl, fun x u hu => by simp [cX] at hu; subst hu; rfl⟩
def keyM (x : Ms) : Txt := x.s
/-- What a round keeps within Due. -/
structure DIM (w : World) (fn sl : Value) (now : Nat) (pre : List Ms) (W : World) : Prop where
  T : Boxed2 W w.heap.size 62 fn sl
  N : Boxed W (w.heap.size + 1) 32 (.int .u64 now)
  R : Boxed2 W (w.heap.size + 1 + 1) 62 .nilFunc (.slice none 0 0)
  D : ∃ v, Boxed W (w.heap.size + 1 + 1 + 1) 57 v ∧ RowG cX 1 9 W w.heap.size v (pre.map keyM)
  A : Boxed2 W (w.heap.size + 1 + 1 + 1 + 1) 62 fn sl
  W : Below w.heap.size w W
  le : ∀ e ∈ pre, e.t ≤ now
theorem DIM.own (w : World) (fn sl : Value) (now : Nat) (B : Nat) (hB : w.heap.size ≤ B) : OwnFrom B (DIM w fn sl now) := fun pre _ _ _ h hg hr => by
  obtain ⟨v, h1, h2⟩ := h.D
  exact ⟨h.T.kept hg hr, boxed_kept h.N hg hr, h.R.kept hg hr, ⟨v, boxed_kept h1 hg hr, h2.kept hg hr⟩, h.A.kept hg hr, (ownFrom_below (β := Unit) (Nat.le_refl _) hB) () _ _ _ h.W hg hr, h.le⟩
theorem DIM.drewN {w W : World} {fn sl : Value} {now : Nat} {pre : List Ms} (h : DIM w fn sl now pre W) (q : Nat) : DIM w fn sl now pre (W.drewN q) := ⟨h.T, h.N, h.R, h.D, h.A, below_drewT h.W q, h.le⟩
theorem diM_start (w : World) (fn sl : Value) (now : Nat) (W : World) (hW : W = ((((w.alloc (.cells #[fn, sl] 62)).alloc (.cells #[.int .u64 now] 32)).alloc (.cells #[.nilFunc, .slice none 0 0] 62)).alloc (.cells #[.slice none 0 0] 57)).alloc (.cells #[fn, sl] 62)) : DIM w fn sl now [] W := by
  subst hW
  refine ⟨((((Boxed2.new w _ _ _).alloc _).alloc _).alloc _).alloc _, ?_, ?_, ⟨.slice none 0 0, ?_, RowG.nil _ _ _ _ _⟩, ?_, (((((below_alloc w _).alloc (by simp) _).alloc (by simp <;> omega) _).alloc (by simp <;> omega) _).alloc (by simp <;> omega) _), fun e he => by simp at he⟩
  · exact (((boxed_at (Boxed.new _ _ _) (by simp)).alloc _).alloc _).alloc _
  · exact ((boxed2_at (Boxed2.new _ _ _ _) (by simp)).alloc _).alloc _
  · exact (boxed_at (Boxed.new _ _ _) (by simp)).alloc _
  · exact boxed2_at (Boxed2.new _ _ _ _) (by simp)
/-- How Due is left early. -/
def DXM (w : World) (fn sl : Value) (now : Nat) (l : List Ms) (pre : List Ms) (W : World) : Prop := ∃ pre0 x, pre = pre0 ++ [x] ∧ pre0 ++ [x] <+: l ∧ now < x.t ∧ DIM w fn sl now pre0 W
theorem DXM.own (w : World) (fn sl : Value) (now : Nat) (l : List Ms) (B : Nat) (hB : w.heap.size ≤ B) : OwnFrom B (DXM w fn sl now l) := fun pre _ _ _ h hg hr => by
  obtain ⟨p, x, h1, h0, h2, h3⟩ := h
  exact ⟨p, x, h1, h0, h2, DIM.own w fn sl now B hB p _ _ _ h3 hg hr⟩
theorem DIM.ag {w W : World} {fn sl : Value} {now : Nat} {pre l : List Ms} (h : DIM w fn sl now pre W) (hs : SlG cM 2 w sl l) : AGM (w.heap.size + 1 + 1 + 1 + 1) sl l W := ⟨h.A.c1, hs.below h.W⟩
theorem DIM.grow {w W w1 : World} {fn sl : Value} {now : Nat} {pre : List Ms} {v v' : Value} (h : DIM w fn sl now pre W) (x : Ms) (hx : x.t ≤ now)
    (hG : Grew cX 1 57 9 w.heap.size (w.heap.size + 1 + 1 + 1) W w1 v v' (pre.map keyM ++ [keyM x])) : DIM w fn sl now (pre ++ [x]) (w1.setCell ⟨w.heap.size + 1 + 1 + 1, 0, none⟩ v') := by
  refine ⟨hG.oth _ _ _ h.T (by decide) (by omega), hG.oth _ _ _ h.N (by decide) (by omega), hG.oth _ _ _ h.R (by decide) (by omega), ⟨v', hG.b2, by rw [List.map_append]; exact hG.row⟩, hG.oth _ _ _ h.A (by decide) (by omega), h.W.trans hG.below, fun e he => ?_⟩
  rcases List.mem_append.1 he with h' | h'
  · exact h.le e h'
  · simp at h'; subst h'; exact hx
inductive DueOutM (fn : Value) (now : Nat) (l : List Ms) (w : World) (e : Ending) (w' : World) : Prop
  | mk (v sl : Value) (he : e = .returned (.tuple #[v, .agg #[fn, sl]])) (hr : RowG cX 1 9 w' w.heap.size v ((l.take (low (fun e => decide (e.t ≤ now)) l)).map keyM)) (hs : SlG cM 2 w' sl (l.drop (low (fun e => decide (e.t ≤ now)) l))) (hb : Below w.heap.size w w')
theorem sliceFromM (sa : Option Addr) (n sc k : Nat) (hk : k ≤ n) (W : World) : (Instr.slice 60 (.slice sa n sc) (some (.int .i64 k)) none none).run Try.prog W = .ok (sliced sa k n sc 2) W := by
  rw [run_slice_l W 60 sa n sc (by kernel_rfl) .i64 k (by omega) (by omega)]
  have h : (sizeOf (Try.prog.elem 60)).run Try.prog W = .ok 2 W := by kernel_rfl
  rw [h]; rfl
theorem slFromM {sa : Option Addr} {n sc k : Nat} {l : List Ms} {W : World} (h : SlG cM 2 W (.slice sa n sc) l) (hk : k ≤ n) : SlG cM 2 W (sliced sa k n sc 2) (l.drop k) := by
  obtain ⟨a, b, o, c, hv, hlc, _, ha0, ha, _⟩ := h.get
  cases hv
  unfold sliced
  rcases ha with rfl | rfl
  · obtain rfl : sc = 0 := ha0 rfl
    obtain rfl : k = 0 := by omega
    have hl : l = [] := List.length_eq_zero_iff.1 (by omega)
    subst hl
    exact SlG.nil _
  · by_cases hc : sc = k
    · rw [if_pos hc]; exact (h.tail k hk).2 hc
    · rw [if_neg hc, Option.map_some, add_plain']; exact (h.tail k hk).1
theorem due_lowM {pre rest l : List Ms} {now : Nat} (h : l = pre ++ rest) (h1 : ∀ e ∈ pre, e.t ≤ now) (h2 : ∀ e, rest.head? = some e → now < e.t) : low (fun e => decide (e.t ≤ now)) l = pre.length := by
  subst h
  refine Ls.low_eq (by simp) (fun i a hi ha => ?_) (fun a ha => ?_)
  · rw [List.getElem?_append_left hi] at ha
    simpa using h1 a (List.mem_of_getElem? ha)
  · rw [List.getElem?_append_right (Nat.le_refl _), Nat.sub_self] at ha
    have := h2 a (by cases rest with | nil => simp at ha | cons y t => simpa using ha)
    simp; omega
theorem SlG.keptM' {β : Type} {f : β → List Value} {s : Nat} {W W' : World} {v : Value} {l : List β} {B : Nat} {row : Option Nat} (h : SlG f s W v l) (hg : W.grownBy W' row) (hr : ∀ r, row = some r → B ≤ r ∧ ∃ o : Obj, W.heap[r]? = some o ∧ o.isCells = false) : SlG f s W' v l := by
  obtain ⟨a, b, o, c, h1, h2, h3, h4, h5, h6⟩ := h.get
  exact ⟨a, b, o, c, h1, h2, h3, h4, h5, fun j x hj i u hu => cell_kept (h6 j x hj i u hu) hg (fun r e => (hr r e).2)⟩
theorem dueEndM {w W w7 : World} {fn y0 y1 : Value} {va : Option Addr} {np vc : Nat} {now : Nat} {l : List Ms} {a2 : Option Addr} {n2 c2 : Nat} {D : Nat} {tm : Array Value}
    (h4 : tm[4]? = some (.slice va np vc)) (h5 : tm[5]? = some (.pointer (some ⟨w.heap.size + 1 + 1, 0, none⟩)))
    (hrow : RowG cX 1 9 W w.heap.size (.slice va np vc) ((l.take np).map keyM)) (hlow : low (fun e => decide (e.t ≤ now)) l = np)
    (hR : Boxed2 W (w.heap.size + 1 + 1) 62 y0 y1) (hB : Below w.heap.size w W) (hb7 : Below W.heap.size W w7) (hK : W.heap[D]? = some (.deferred (some []))) (hD : w.heap.size + 1 + 1 < D)
    (hs : ∀ W', Below w.heap.size w W' → SlG cM 2 W' (.slice a2 n2 c2) (l.drop np)) :
    bodyPostM WF 8 Try.prog Try.f26 (DueOutM fn now l w) .ret { tmps := tm, defers := [{ target := .collected D, args := #[] }] } ((w7.setCell ⟨w.heap.size + 1 + 1, 0, none⟩ fn).setCell ⟨w.heap.size + 1 + 1, 1, none⟩ (.slice a2 n2 c2)) := by
  have hR7 := hR.below hb7
  have hDl : D < W.heap.size := (Array.getElem?_eq_some_iff.1 hK).1
  have hrow7 := hrow.below hb7
  have hn7 : some (w.heap.size + 1 + 1) ≠ (Value.slice va np vc).ownBlock := hrow7.not_row hR7 (by decide)
  have hRs := hR7.set fn (.slice a2 n2 c2)
  have hrs : RowG cX 1 9 ((w7.setCell ⟨w.heap.size + 1 + 1, 0, none⟩ fn).setCell ⟨w.heap.size + 1 + 1, 1, none⟩ (.slice a2 n2 c2)) w.heap.size (.slice va np vc) ((l.take np).map keyM) :=
    hrow7.keep fun g hg => by
      have hne : g ≠ w.heap.size + 1 + 1 := fun e => hn7 (by rw [← e]; exact hg.symm)
      rw [Below.heap_setCell _ _ _ _ hne, Below.heap_setCell _ _ _ _ hne]
  have hBs := ((hB.trans (hb7.mono hB.size)).setCell (p := ⟨w.heap.size + 1 + 1, 0, none⟩) (show w.heap.size ≤ w.heap.size + 1 + 1 by omega) fn).setCell (p := ⟨w.heap.size + 1 + 1, 1, none⟩) (show w.heap.size ≤ w.heap.size + 1 + 1 by omega) (.slice a2 n2 c2)
  have hKs : ((w7.setCell ⟨w.heap.size + 1 + 1, 0, none⟩ fn).setCell ⟨w.heap.size + 1 + 1, 1, none⟩ (.slice a2 n2 c2)).heap[D]? = some (.deferred (some [])) := by
    have hne : D ≠ w.heap.size + 1 + 1 := by omega
    rw [Below.heap_setCell _ _ _ _ hne, Below.heap_setCell _ _ _ _ hne, hb7.block D hDl]; exact hK
  generalize ((w7.setCell ⟨w.heap.size + 1 + 1, 0, none⟩ fn).setCell ⟨w.heap.size + 1 + 1, 1, none⟩ (.slice a2 n2 c2)) = Wf at hRs hrs hBs hKs ⊢
  have hfin : ∀ o : Obj, (results Try.f26 tm).run Try.prog (Wf.putObj D o) = .ok (.tuple #[.slice va np vc, .agg #[fn, .slice a2 n2 c2]]) (Wf.putObj D o) ∧ DueOutM fn now l w (.returned (.tuple #[.slice va np vc, .agg #[fn, .slice a2 n2 c2]])) (Wf.putObj D o) := by
    intro o
    have hg := grownBy_putObj' Wf D o
    have hr : ∀ r, some D = some r → w.heap.size ≤ r ∧ ∃ o : Obj, Wf.heap[r]? = some o ∧ o.isCells = false := fun r e => by cases e; exact ⟨by omega, _, hKs, rfl⟩
    have hR9 := hRs.kept hg hr
    have hB9 : Below w.heap.size w (Wf.putObj D o) := (ownFrom_below (β := Unit) (Nat.le_refl _) (Nat.le_refl _)) () _ _ _ hBs hg hr
    have c0 := hR9.c0
    have c1 := hR9.c1
    refine ⟨by simp [results, Try.results26, go_sem, h4, h5, c0, c1], _, _, rfl, ?_, ?_, hB9⟩
    · rw [hlow]; exact hrs.kept hg hr
    · rw [hlow]; exact hs _ hB9
  refine ⟨by simp, .inl ⟨_, _, rfl, run_takeDeferred hKs, ?_⟩⟩
  obtain ⟨h1, h2⟩ := hfin (.deferred none)
  exact ⟨_, h1, h2⟩
set_option maxHeartbeats 8000000 in
theorem dueM_any (fn : Value) (hfn : IsFn fn) (sl : Value) (now : Nat) (l : List Ms) (hl : l.length ≤ 1000) (w : World) (hsl : SlG cM 2 w sl l) :
    Calls Try.prog 26 #[.agg #[fn, sl], .int .u64 now] w (DueOutM fn now l w) := by
  have HS0 := Lib.hid hsl
  obtain ⟨sa, sc, rfl⟩ := hsl.slice
  have HW := Lib.hid (fun a2 n2 c2 W => withM_any fn hfn (.slice sa l.length sc) (.slice a2 n2 c2) ⟨_, _, _, rfl⟩ ⟨_, _, _, rfl⟩ W)
  have HST := Lib.hid (diM_start w fn (.slice sa l.length sc) now _ rfl)
  have HA := Lib.hid (fun W => allM_any fn (.slice sa l.length sc) W)
  clear hsl
  rcases hfn with ⟨kf, rfl⟩ | rfl
  · skip
    refine (callsIn_wide (n := 8)).1 (callsIn_of_wp_marks Try.func26 rfl trivial ?_ rfl)
    simp only [Try.ntmps26, List.size_toArray, List.length_cons, List.length_nil, Nat.reduceAdd, Nat.reduceSub, Array.replicate_succ, Array.replicate_zero, List.push_toArray, List.append_toArray, List.nil_append, List.cons_append]
    refine (wpIn_wide (n := 8)).2 ?_
    obtain ⟨Q, hQ⟩ : ∃ Q, Q = bodyPostM WF 8 Try.prog Try.f26 (DueOutM (.func (.func kf) #[] #[]) now l w) := ⟨_, rfl⟩
    rw [← hQ]
    have HQ := Lib.hid hQ
    clear hQ
    go_wp2_with (go_at_call 25; (with_reducible refine (HA.out _).mono ?_); rintro e w1 ⟨rfl, rfl⟩)
    refine (wpIn_wide (n := 8)).1 ?_
    refine rangeX (n := 8) (gf := 44) (lb := #[.pointer (some ⟨w.heap.size + 1 + 1 + 1 + 1, 0, none⟩)]) (by decide) rfl (fun args w => by kernel_rfl) (all1M_in 7 (by decide) _ _ l (by omega)) (fun _ => rfl)
      (.exit 0) (.exit 0) (.inr ⟨0, rfl, rfl⟩)
      (DIM w (.func (.func kf) #[] #[]) (.slice sa l.length sc) now) (DXM w (.func (.func kf) #[] #[]) (.slice sa l.length sc) now l) (DIM.own _ _ _ _ _ (by simp <;> omega)) (DXM.own _ _ _ _ _ _ (by simp <;> omega)) (fun pre W h => h.ag HS0.out) (fun pre W q h => h.drewN q) HST.out
      (fun x W => { tmps := #[.agg #[(.func (.func kf) #[] #[]), .slice sa l.length sc], .int .u64 now, .pointer (some ⟨w.heap.size, 0, none⟩), .pointer (some ⟨w.heap.size + 1, 0, none⟩), .slice none 0 0, .pointer (some ⟨w.heap.size + 1 + 1, 0, none⟩), .pointer (some ⟨w.heap.size + 1 + 1 + 1, 0, none⟩), .string (str x.s), .int .u64 x.t, .agg #[(.func (.func kf) #[] #[]), .slice sa l.length sc], .func (.func 44) #[] #[.pointer (some ⟨w.heap.size + 1 + 1 + 1 + 1, 0, none⟩)], .string (str x.s), .int .u64 x.t, undef, undef, undef, undef, undef, undef, undef, undef, undef, undef, undef, undef, undef, undef, undef], defers := [] }) (fun x W => W) (fun x W => .inl rfl) ?assign ?body ?done ?stop
    case assign =>
      intro l x W K hK
      unfold arM
      gi_wp2
      exact hK
    case body =>
      intro lr pre x W W2 hW2 hI hpre
      have HI := Lib.hid hI
      have HPF := Lib.hid hpre
      have hlen := hpre.length_le
      rw [List.length_append, List.length_singleton] at hlen
      have cN := hI.N.cell
      obtain ⟨v, hv, hrow⟩ := hI.D
      obtain ⟨va, vn, vc, rfl⟩ := hrow.slice'
      have hD0 := hv.cell
      by_cases hx : x.t ≤ now
      · have hxi : ¬ (now : Int) < (x.t : Int) := by omega
        have hxn : ¬ now < x.t := by omega
        have hDs : w.heap.size + 1 + 1 + 1 < W2.heap.size := hv.lt
        obtain ⟨v', w1, hrun, hG⟩ := grew (ty := 57) encX appX (by decide) (by decide) hv hrow (by omega) (by omega) (by rw [List.length_map]; omega) (keyM x) _ rfl
        have HGG := Lib.hid (HI.out.grow x hx hG)
        have HKP := Lib.hid hG.keep
        obtain ⟨va', vn', vc', rfl⟩ := hG.row.slice'
        have d1 := hG.b1.cell
        have f1 := hG.b1.frozen
        simp only [cX, keyM] at hrun
        clear hG hI hrow hv hpre 
        gi_wp2_with (gi_at_builtin; refine wpListIn_runA _ rfl _ _ _ _ rfl _ _ rfl rfl _ _ hrun ?_)
        exact .inl ⟨rfl, HKP.out.from _, HGG.out⟩
      · have hxi : (now : Int) < (x.t : Int) := by omega
        have hxn : now < x.t := by omega
        clear hI hrow hv hpre 
        gi_wp2
        exact .inr ⟨rfl, KeepsFrom.refl _ _, pre, x, rfl, HPF.out, by omega, HI.out⟩
    case done =>
      intro D W hD hI hK
      have hlow := due_lowM (l := l) (pre := l) (rest := []) (by simp) hI.le (fun e h => by cases h)
      have hP : l.length ≤ l.length := Nat.le_refl _
      obtain ⟨a2, hif⟩ : ∃ a2, (if sc = l.length then sa else Option.map (fun x => x.add (l.length * 2)) sa) = a2 := ⟨_, rfl⟩
      have HSF : Hid (∀ W, SlG cM 2 W (.slice sa l.length sc) l → SlG cM 2 W (.slice a2 (0) (sc - l.length)) (l.drop (l.length))) := fun W h => by
        have := slFromM h hP
        unfold sliced at this
        rw [hif] at this
        simpa using this
      have HLOW := Lib.hid hlow
      have hT := hI.T
      have hR := hI.R
      obtain ⟨v, hv, hrow⟩ := hI.D
      obtain ⟨va, vc, hvv⟩ := hrow.slice
      rw [List.length_map] at hvv
      subst hvv
      have HT := Lib.hid hT
      have HR := Lib.hid hR
      have HD0 := Lib.hid hv.cell
      have HRW := Lib.hid hrow
      have HKK := Lib.hid hK
      have HWW := Lib.hid hI.W
      have HDD := Lib.hid hD
      have hpi : (l.length : Int) ≤ (l.length : Int) := by omega
      have hW0 : w.heap.size + 1 + 1 < W.heap.size := hR.lt
      clear hI hT hR hv hrow hK hlow hD
      go_wp2_with fail
      go_region_held3 (fun w' => w'.cell? ⟨w.heap.size, 0, none⟩ = some (.func (.func kf) #[] #[]) ∧ w'.cell? ⟨w.heap.size, 1, none⟩ = some (.slice sa l.length sc) ∧ w'.cell? ⟨w.heap.size + 1 + 1, 0, none⟩ = some (cv w' (w.heap.size + 1 + 1) 0) ∧ w'.cell? ⟨w.heap.size + 1 + 1, 1, none⟩ = some (cv w' (w.heap.size + 1 + 1) 1) ∧ w'.frozen? ⟨w.heap.size + 1 + 1, 0, none⟩ = false ∧ w'.frozen? ⟨w.heap.size + 1 + 1, 1, none⟩ = false ∧ w'.cell? ⟨w.heap.size + 1 + 1 + 1, 0, none⟩ = some (.slice va l.length vc) ∧ Below w.heap.size w w')
        ((first | with_reducible assumption | exact firstH (w1 := W.drew) HT.out HR.out HD0.out HWW.out.drew | (with_reducible exact stepH (Nat.le_refl _) ‹_› hb) | (exact stepH (Nat.le_refl _) (firstH (w1 := W.drew) HT.out HR.out HD0.out HWW.out.drew) hb) | exact stepHs (stepHs ‹_› (by omega) (by omega) (by omega)) (by omega) (by omega) (by omega)))
        (first
        | (go_at_call 42; refine (HW.out _ _ _ _).mono ?_; rintro e w7 ⟨rfl, hb⟩; have HB7 := Lib.hid hb; have HZ7 := Lib.hid (zH (firstH (w1 := W.drew) HT.out HR.out HD0.out HWW.out.drew) hb)))
      rename_i hS
      have HSS := Lib.hid hS
      clear hS
      go_wp2
      rw [HQ.out]
      exact dueEndM (y0 := .nilFunc) (y1 := .slice none 0 0) rfl rfl (by rw [List.take_length]; exact HRW.out) HLOW.out HR.out HWW.out ((Below.refl _ _).drew.trans HB7.out) HKK.out (by have := HDD.out; simp at this; omega) (fun W' hW' => HSF.out W' (HS0.out.below hW'))
    case stop =>
      rintro D pre W hD ⟨pre0, x, rfl, hpre, hx, hI⟩ hK
      obtain ⟨rest, hrest⟩ := hpre
      have hl0 : l = pre0 ++ (x :: rest) := by rw [← hrest]; simp
      have hlow := due_lowM (l := l) (pre := pre0) (rest := x :: rest) hl0 hI.le (fun e h => by simp at h; rw [← h]; exact hx)
      have hlenp : pre0.length ≤ l.length := by rw [hl0]; simp
      have HTK : Hid (l.take pre0.length = pre0) := by show _ = _; rw [hl0]; simp
      clear hl0 hrest hx
      have hP : pre0.length ≤ l.length := hlenp
      obtain ⟨a2, hif⟩ : ∃ a2, (if sc = pre0.length then sa else Option.map (fun x => x.add (pre0.length * 2)) sa) = a2 := ⟨_, rfl⟩
      have HSF : Hid (∀ W, SlG cM 2 W (.slice sa l.length sc) l → SlG cM 2 W (.slice a2 (l.length - pre0.length) (sc - pre0.length)) (l.drop (pre0.length))) := fun W h => by
        have := slFromM h hP
        unfold sliced at this
        rw [hif] at this
        simpa using this
      have HLOW := Lib.hid hlow
      have hT := hI.T
      have hR := hI.R
      obtain ⟨v, hv, hrow⟩ := hI.D
      obtain ⟨va, vc, hvv⟩ := hrow.slice
      rw [List.length_map] at hvv
      subst hvv
      have HT := Lib.hid hT
      have HR := Lib.hid hR
      have HD0 := Lib.hid hv.cell
      have HRW := Lib.hid hrow
      have HKK := Lib.hid hK
      have HWW := Lib.hid hI.W
      have HDD := Lib.hid hD
      have hpi : (pre0.length : Int) ≤ (l.length : Int) := by omega
      have hW0 : w.heap.size + 1 + 1 < W.heap.size := hR.lt
      clear hI hT hR hv hrow hK hlow hD
      refine (wpIn_wide (n := 8)).2 ?_
      go_wp2_with fail
      go_region_held3 (fun w' => w'.cell? ⟨w.heap.size, 0, none⟩ = some (.func (.func kf) #[] #[]) ∧ w'.cell? ⟨w.heap.size, 1, none⟩ = some (.slice sa l.length sc) ∧ w'.cell? ⟨w.heap.size + 1 + 1, 0, none⟩ = some (cv w' (w.heap.size + 1 + 1) 0) ∧ w'.cell? ⟨w.heap.size + 1 + 1, 1, none⟩ = some (cv w' (w.heap.size + 1 + 1) 1) ∧ w'.frozen? ⟨w.heap.size + 1 + 1, 0, none⟩ = false ∧ w'.frozen? ⟨w.heap.size + 1 + 1, 1, none⟩ = false ∧ w'.cell? ⟨w.heap.size + 1 + 1 + 1, 0, none⟩ = some (.slice va pre0.length vc) ∧ Below w.heap.size w w')
        ((first | with_reducible assumption | exact firstH (w1 := W.drew) HT.out HR.out HD0.out HWW.out.drew | (with_reducible exact stepH (Nat.le_refl _) ‹_› hb) | (exact stepH (Nat.le_refl _) (firstH (w1 := W.drew) HT.out HR.out HD0.out HWW.out.drew) hb) | exact stepHs (stepHs ‹_› (by omega) (by omega) (by omega)) (by omega) (by omega) (by omega)))
        (first
        | (go_at_call 42; refine (HW.out _ _ _ _).mono ?_; rintro e w7 ⟨rfl, hb⟩; have HB7 := Lib.hid hb; have HZ7 := Lib.hid (zH (firstH (w1 := W.drew) HT.out HR.out HD0.out HWW.out.drew) hb)))
      rename_i hS
      have HSS := Lib.hid hS
      clear hS
      go_wp2
      rw [HQ.out]
      exact dueEndM (y0 := .nilFunc) (y1 := .slice none 0 0) rfl rfl (by rw [HTK.out]; exact HRW.out) HLOW.out HR.out HWW.out ((Below.refl _ _).drew.trans HB7.out) HKK.out (by have := HDD.out; simp at this; omega) (fun W' hW' => HSF.out W' (HS0.out.below hW'))
  · skip
    refine (callsIn_wide (n := 8)).1 (callsIn_of_wp_marks Try.func26 rfl trivial ?_ rfl)
    simp only [Try.ntmps26, List.size_toArray, List.length_cons, List.length_nil, Nat.reduceAdd, Nat.reduceSub, Array.replicate_succ, Array.replicate_zero, List.push_toArray, List.append_toArray, List.nil_append, List.cons_append]
    refine (wpIn_wide (n := 8)).2 ?_
    obtain ⟨Q, hQ⟩ : ∃ Q, Q = bodyPostM WF 8 Try.prog Try.f26 (DueOutM .nilFunc now l w) := ⟨_, rfl⟩
    rw [← hQ]
    have HQ := Lib.hid hQ
    clear hQ
    go_wp2_with (go_at_call 25; (with_reducible refine (HA.out _).mono ?_); rintro e w1 ⟨rfl, rfl⟩)
    refine (wpIn_wide (n := 8)).1 ?_
    refine rangeX (n := 8) (gf := 44) (lb := #[.pointer (some ⟨w.heap.size + 1 + 1 + 1 + 1, 0, none⟩)]) (by decide) rfl (fun args w => by kernel_rfl) (all1M_in 7 (by decide) _ _ l (by omega)) (fun _ => rfl)
      (.exit 0) (.exit 0) (.inr ⟨0, rfl, rfl⟩)
      (DIM w .nilFunc (.slice sa l.length sc) now) (DXM w .nilFunc (.slice sa l.length sc) now l) (DIM.own _ _ _ _ _ (by simp <;> omega)) (DXM.own _ _ _ _ _ _ (by simp <;> omega)) (fun pre W h => h.ag HS0.out) (fun pre W q h => h.drewN q) HST.out
      (fun x W => { tmps := #[.agg #[.nilFunc, .slice sa l.length sc], .int .u64 now, .pointer (some ⟨w.heap.size, 0, none⟩), .pointer (some ⟨w.heap.size + 1, 0, none⟩), .slice none 0 0, .pointer (some ⟨w.heap.size + 1 + 1, 0, none⟩), .pointer (some ⟨w.heap.size + 1 + 1 + 1, 0, none⟩), .string (str x.s), .int .u64 x.t, .agg #[.nilFunc, .slice sa l.length sc], .func (.func 44) #[] #[.pointer (some ⟨w.heap.size + 1 + 1 + 1 + 1, 0, none⟩)], .string (str x.s), .int .u64 x.t, undef, undef, undef, undef, undef, undef, undef, undef, undef, undef, undef, undef, undef, undef, undef], defers := [] }) (fun x W => W) (fun x W => .inl rfl) ?assign ?body ?done ?stop
    case assign =>
      intro l x W K hK
      unfold arM
      gi_wp2
      exact hK
    case body =>
      intro lr pre x W W2 hW2 hI hpre
      have HI := Lib.hid hI
      have HPF := Lib.hid hpre
      have hlen := hpre.length_le
      rw [List.length_append, List.length_singleton] at hlen
      have cN := hI.N.cell
      obtain ⟨v, hv, hrow⟩ := hI.D
      obtain ⟨va, vn, vc, rfl⟩ := hrow.slice'
      have hD0 := hv.cell
      by_cases hx : x.t ≤ now
      · have hxi : ¬ (now : Int) < (x.t : Int) := by omega
        have hxn : ¬ now < x.t := by omega
        have hDs : w.heap.size + 1 + 1 + 1 < W2.heap.size := hv.lt
        obtain ⟨v', w1, hrun, hG⟩ := grew (ty := 57) encX appX (by decide) (by decide) hv hrow (by omega) (by omega) (by rw [List.length_map]; omega) (keyM x) _ rfl
        have HGG := Lib.hid (HI.out.grow x hx hG)
        have HKP := Lib.hid hG.keep
        obtain ⟨va', vn', vc', rfl⟩ := hG.row.slice'
        have d1 := hG.b1.cell
        have f1 := hG.b1.frozen
        simp only [cX, keyM] at hrun
        clear hG hI hrow hv hpre 
        gi_wp2_with (gi_at_builtin; refine wpListIn_runA _ rfl _ _ _ _ rfl _ _ rfl rfl _ _ hrun ?_)
        exact .inl ⟨rfl, HKP.out.from _, HGG.out⟩
      · have hxi : (now : Int) < (x.t : Int) := by omega
        have hxn : now < x.t := by omega
        clear hI hrow hv hpre 
        gi_wp2
        exact .inr ⟨rfl, KeepsFrom.refl _ _, pre, x, rfl, HPF.out, by omega, HI.out⟩
    case done =>
      intro D W hD hI hK
      have hlow := due_lowM (l := l) (pre := l) (rest := []) (by simp) hI.le (fun e h => by cases h)
      have hP : l.length ≤ l.length := Nat.le_refl _
      obtain ⟨a2, hif⟩ : ∃ a2, (if sc = l.length then sa else Option.map (fun x => x.add (l.length * 2)) sa) = a2 := ⟨_, rfl⟩
      have HSF : Hid (∀ W, SlG cM 2 W (.slice sa l.length sc) l → SlG cM 2 W (.slice a2 (0) (sc - l.length)) (l.drop (l.length))) := fun W h => by
        have := slFromM h hP
        unfold sliced at this
        rw [hif] at this
        simpa using this
      have HLOW := Lib.hid hlow
      have hT := hI.T
      have hR := hI.R
      obtain ⟨v, hv, hrow⟩ := hI.D
      obtain ⟨va, vc, hvv⟩ := hrow.slice
      rw [List.length_map] at hvv
      subst hvv
      have HT := Lib.hid hT
      have HR := Lib.hid hR
      have HD0 := Lib.hid hv.cell
      have HRW := Lib.hid hrow
      have HKK := Lib.hid hK
      have HWW := Lib.hid hI.W
      have HDD := Lib.hid hD
      have hpi : (l.length : Int) ≤ (l.length : Int) := by omega
      have hW0 : w.heap.size + 1 + 1 < W.heap.size := hR.lt
      clear hI hT hR hv hrow hK hlow hD
      go_wp2_with fail
      go_region_held3 (fun w' => w'.cell? ⟨w.heap.size, 0, none⟩ = some .nilFunc ∧ w'.cell? ⟨w.heap.size, 1, none⟩ = some (.slice sa l.length sc) ∧ w'.cell? ⟨w.heap.size + 1 + 1, 0, none⟩ = some (cv w' (w.heap.size + 1 + 1) 0) ∧ w'.cell? ⟨w.heap.size + 1 + 1, 1, none⟩ = some (cv w' (w.heap.size + 1 + 1) 1) ∧ w'.frozen? ⟨w.heap.size + 1 + 1, 0, none⟩ = false ∧ w'.frozen? ⟨w.heap.size + 1 + 1, 1, none⟩ = false ∧ w'.cell? ⟨w.heap.size + 1 + 1 + 1, 0, none⟩ = some (.slice va l.length vc) ∧ Below w.heap.size w w')
        ((first | with_reducible assumption | exact firstH (w1 := W.drew) HT.out HR.out HD0.out HWW.out.drew | (with_reducible exact stepH (Nat.le_refl _) ‹_› hb) | (exact stepH (Nat.le_refl _) (firstH (w1 := W.drew) HT.out HR.out HD0.out HWW.out.drew) hb) | exact stepHs (stepHs ‹_› (by omega) (by omega) (by omega)) (by omega) (by omega) (by omega)))
        (first
        | (go_at_call 42; refine (HW.out _ _ _ _).mono ?_; rintro e w7 ⟨rfl, hb⟩; have HB7 := Lib.hid hb; have HZ7 := Lib.hid (zH (firstH (w1 := W.drew) HT.out HR.out HD0.out HWW.out.drew) hb)))
      rename_i hS
      have HSS := Lib.hid hS
      clear hS
      go_wp2
      rw [HQ.out]
      exact dueEndM (y0 := .nilFunc) (y1 := .slice none 0 0) rfl rfl (by rw [List.take_length]; exact HRW.out) HLOW.out HR.out HWW.out ((Below.refl _ _).drew.trans HB7.out) HKK.out (by have := HDD.out; simp at this; omega) (fun W' hW' => HSF.out W' (HS0.out.below hW'))
    case stop =>
      rintro D pre W hD ⟨pre0, x, rfl, hpre, hx, hI⟩ hK
      obtain ⟨rest, hrest⟩ := hpre
      have hl0 : l = pre0 ++ (x :: rest) := by rw [← hrest]; simp
      have hlow := due_lowM (l := l) (pre := pre0) (rest := x :: rest) hl0 hI.le (fun e h => by simp at h; rw [← h]; exact hx)
      have hlenp : pre0.length ≤ l.length := by rw [hl0]; simp
      have HTK : Hid (l.take pre0.length = pre0) := by show _ = _; rw [hl0]; simp
      clear hl0 hrest hx
      have hP : pre0.length ≤ l.length := hlenp
      obtain ⟨a2, hif⟩ : ∃ a2, (if sc = pre0.length then sa else Option.map (fun x => x.add (pre0.length * 2)) sa) = a2 := ⟨_, rfl⟩
      have HSF : Hid (∀ W, SlG cM 2 W (.slice sa l.length sc) l → SlG cM 2 W (.slice a2 (l.length - pre0.length) (sc - pre0.length)) (l.drop (pre0.length))) := fun W h => by
        have := slFromM h hP
        unfold sliced at this
        rw [hif] at this
        simpa using this
      have HLOW := Lib.hid hlow
      have hT := hI.T
      have hR := hI.R
      obtain ⟨v, hv, hrow⟩ := hI.D
      obtain ⟨va, vc, hvv⟩ := hrow.slice
      rw [List.length_map] at hvv
      subst hvv
      have HT := Lib.hid hT
      have HR := Lib.hid hR
      have HD0 := Lib.hid hv.cell
      have HRW := Lib.hid hrow
      have HKK := Lib.hid hK
      have HWW := Lib.hid hI.W
      have HDD := Lib.hid hD
      have hpi : (pre0.length : Int) ≤ (l.length : Int) := by omega
      have hW0 : w.heap.size + 1 + 1 < W.heap.size := hR.lt
      clear hI hT hR hv hrow hK hlow hD
      refine (wpIn_wide (n := 8)).2 ?_
      go_wp2_with fail
      go_region_held3 (fun w' => w'.cell? ⟨w.heap.size, 0, none⟩ = some .nilFunc ∧ w'.cell? ⟨w.heap.size, 1, none⟩ = some (.slice sa l.length sc) ∧ w'.cell? ⟨w.heap.size + 1 + 1, 0, none⟩ = some (cv w' (w.heap.size + 1 + 1) 0) ∧ w'.cell? ⟨w.heap.size + 1 + 1, 1, none⟩ = some (cv w' (w.heap.size + 1 + 1) 1) ∧ w'.frozen? ⟨w.heap.size + 1 + 1, 0, none⟩ = false ∧ w'.frozen? ⟨w.heap.size + 1 + 1, 1, none⟩ = false ∧ w'.cell? ⟨w.heap.size + 1 + 1 + 1, 0, none⟩ = some (.slice va pre0.length vc) ∧ Below w.heap.size w w')
        ((first | with_reducible assumption | exact firstH (w1 := W.drew) HT.out HR.out HD0.out HWW.out.drew | (with_reducible exact stepH (Nat.le_refl _) ‹_› hb) | (exact stepH (Nat.le_refl _) (firstH (w1 := W.drew) HT.out HR.out HD0.out HWW.out.drew) hb) | exact stepHs (stepHs ‹_› (by omega) (by omega) (by omega)) (by omega) (by omega) (by omega)))
        (first
        | (go_at_call 42; refine (HW.out _ _ _ _).mono ?_; rintro e w7 ⟨rfl, hb⟩; have HB7 := Lib.hid hb; have HZ7 := Lib.hid (zH (firstH (w1 := W.drew) HT.out HR.out HD0.out HWW.out.drew) hb)))
      rename_i hS
      have HSS := Lib.hid hS
      clear hS
      go_wp2
      rw [HQ.out]
      exact dueEndM (y0 := .nilFunc) (y1 := .slice none 0 0) rfl rfl (by rw [HTK.out]; exact HRW.out) HLOW.out HR.out HWW.out ((Below.refl _ _).drew.trans HB7.out) HKK.out (by have := HDD.out; simp at this; omega) (fun W' hW' => HSF.out W' (HS0.out.below hW'))
end Go.Proofs.Ytpgaepilnbjhbaa
