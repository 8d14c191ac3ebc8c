/- TopicAll. -/
import Derived.Test.YtkidilojgjligaaTpLaw1
set_option maxRecDepth 100000
set_option maxHeartbeats 4000000
set_option linter.unusedVariables false
namespace Go.Proofs.Ytkidilojgjligaa
open Go.RowKit
open Tp
attribute [local go_sem] Oper.semAt_some
theorem trimStars (n : Nat) : Lib.trimPrefix (stars n) [46] = strs n := by
  cases n with
  | zero => rfl
  | succ n => rw [stars_cons, strs_succ]; rfl
theorem trim_any (n : Nat) (w : World) : Calls Try.prog 24 #[.string (str (stars n)), .string ⟨#[46]⟩] w fun e w' => e = .returned (.string (str (strs n))) ∧ w = w' := by
  have h := Try.strings_TrimPrefix (str (stars n)) ⟨#[46]⟩ w
  rw [show (⟨#[46]⟩ : ByteArray).data.toList = [46] from rfl, str_data, trimStars] at h
  exact h.mono fun _ _ h => ⟨h.1, h.2.symm⟩
/-- The boxes of the law: the stars so far; the key's words. -/
structure AB (W0 w : World) (k : Txt) (pre : List Txt) (W : World) : Prop where
  b0 : Boxed W w.heap.size 9 (.string (str (stars pre.length)))
  b1 : Boxed W (w.heap.size + 1) 9 (.string (str k))
  bel : RowKit.Below w.heap.size w W
  off : RowKit.Below W0.heap.size W0 w
theorem boxed_keep3 {B0 : Nat} {X Y : World} {row : Option Nat} {B : Nat} {t : TypeId} {v : Value} (h : Boxed X B t v) (hg : X.grownBy Y row) (hr : ∀ r, row = some r → B0 ≤ r ∧ ∃ o : Obj, X.heap[r]? = some o ∧ o.isCells = false) : Boxed Y B t v := boxed_keep h hg hr
theorem ab_own (W0 w : World) (k : Txt) (B : Nat) (hB : w.heap.size ≤ B) : OwnFrom B (AB W0 w k) := fun _ _ _ _ h hg hr =>
  ⟨boxed_keep h.b0 hg hr, boxed_keep h.b1 hg hr, (ownFrom_below (β := Unit) (Nat.le_refl _) hB) () _ _ _ h.bel hg hr, h.off⟩
theorem AB.drewN {W0 w : World} {k : Txt} {pre : List Txt} {W : World} (h : AB W0 w k pre W) (q : Nat) : AB W0 w k pre (W.drewN q) := ⟨h.b0, h.b1, below_drewT h.bel q, h.off⟩
theorem AB.wg {W0 w : World} {k : Txt} {pre : List Txt} {W : World} (h : AB W0 w k pre W) {m : Int} (hm : W0.cell? ⟨0, 0, none⟩ = some (.int .i64 m)) : WG (w.heap.size + 1) k m W :=
  ⟨h.b1.cell, maxAt (maxAt hm h.off) h.bel⟩
theorem ab_go {W0 w : World} {k : Txt} {pre : List Txt} {x : Txt} {W : World} {B : Nat} (h : AB W0 w k pre W) (hB : w.heap.size < B) :
    KeepsFrom B W (W.setCell ⟨w.heap.size, 0, none⟩ (.string (str (stars (pre.length + 1))))) ∧ AB W0 w k (pre ++ [x]) (W.setCell ⟨w.heap.size, 0, none⟩ (.string (str (stars (pre.length + 1))))) := by
  refine ⟨(KeepsOthers.setCell _ _ _).from _, ?_, h.b1.other (by omega) _, h.bel.setCell (Nat.le_refl _) _, h.off⟩
  have := h.b0.set (.string (str (stars (pre.length + 1))))
  simpa using this
/-- 'rangeL' where nothing is assigned, and the body never returns. -/
theorem rangeLs {n : Nat} {g : Operand} {ps : Array Tmp} {body : Code} {Q : Exit → Act → World → Prop} {a : Act} {w : World} (h1 : 1 ≤ n) {gf : Nat} {lb : Array Value}
    (hg : a.eval g = .func (.func gf) #[] lb) (eg : ∀ args w, (callFunc gf args).run Try.prog w = .ok (.enter gf args) w) {G : World → Prop} {E : List Txt} (hseq : SeqL (n - 1) gf lb G E) (hps : 1 = ps.size)
    (I : List Txt → World → Prop) (hI : OwnFrom w.heap.size I) (hIG : ∀ pre W, I pre W → G W) (hIq : ∀ pre W q, I pre W → I pre (W.drewN q)) (h0 : I [] w)
    (hbody : ∀ (l : Nat) (pre : List Txt) (x : Txt) (W : World), I pre W → pre ++ [x] <+: E → body.wpIn (WF.inRound l) (n - 1 - 1) Try.prog (goesOr w.heap.size I (fun _ _ => False) (pre ++ [x]) W) { tmps := (ps.zip #[.string (str x)]).foldl (fun t (p, v) => t.setIfInBounds p v) a.tmps, defers := [] } W)
    (hdone : ∀ (D : Nat) (W : World), w.heap.size ≤ D → I E W → W.heap[D]? = some (.deferred (some [])) → Q .normal { a with defers := { target := .collected D, args := #[] } :: a.defers } W) :
    (Code.rangeFunc g ps Code.skip body).wpIn WF n Try.prog Q a w :=
  rangeL h1 hg eg hseq hps I (fun _ _ => False) hI (fun _ _ _ _ h _ _ => h.elim) hIG hIq h0 (fun x => { tmps := (ps.zip #[.string (str x)]).foldl (fun t (p, v) => t.setIfInBounds p v) a.tmps, defers := [] })
    (fun l x W K hK => wpIn_skip hK) hbody hdone (fun _ _ _ _ h => h.elim)
theorem cellAt {W w' : World} {b : Nat} {x : Value} (hm : W.cell? ⟨b, 0, none⟩ = some x) (hb : RowKit.Below W.heap.size W w') : w'.cell? ⟨b, 0, none⟩ = some x :=
  (hb.cell (p := ⟨b, 0, none⟩) (World.block_lt_of_cell? _ _ hm)).trans hm
theorem key_not_hash {k : Txt} (h : keyB k = true) : ∀ x ∈ words k, x ≠ HASH := fun x hx => by
  unfold keyB at h
  rw [Bool.and_eq_true, List.all_eq_true] at h
  exact (name_not (h.2 x hx)).1
theorem more_stars (k : Txt) : mt (words (strs (words k).length ++ [46, 42])) (words k) = false := by
  by_cases h : (words k).length = 0
  · rw [h]
    have : words k = [] := List.length_eq_zero_iff.1 h
    rw [this]
    decide +kernel
  · rw [words_strs_more _ h, mt_stars]
    exact decide_eq_false (by omega)
set_option maxHeartbeats 8000000 in
set_option maxRecDepth 100000 in
theorem all_in (p k : Txt) (m : Int) (W : World) (hm : W.cell? ⟨0, 0, none⟩ = some (.int .i64 m)) :
    Calls Try.prog 5 #[.string (str p), .string (str k)] W fun e W' => e = .returned (.bool true) ∧ RowKit.Below W.heap.size W W' := by
  have HM := Lib.hid hm
  have hz : (str p).size = p.length := rfl
  have hz2 : (str k).size = k.length := rfl
  clear hm
  by_cases hbig : 2000 < p.length ∨ 2000 < k.length
  · by_cases hp2 : (2000 : Int) < (p.length : Int)
    · clear hbig
      refine (callsIn_wide (n := 8)).1 (callsIn_of_wp_marks Try.func5 rfl trivial ?_ rfl)
      simp only [Try.ntmps5, List.size_toArray, List.length_cons, List.length_nil, Nat.reduceAdd, Nat.reduceSub, Array.replicate_succ, Array.replicate_zero, List.push_toArray, List.append_toArray, List.nil_append, List.cons_append]
      refine (wpIn_wide (n := 8)).2 ?_
      obtain ⟨Q, hQ⟩ : ∃ Q, Q = bodyPostM WF 8 Try.prog Try.f5 (fun e W' => e = .returned (.bool true) ∧ RowKit.Below W.heap.size W W') := ⟨_, rfl⟩
      rw [← hQ]
      have HQ := Lib.hid hQ
      clear hQ
      go_wp2_with (go_at_call 6; (with_reducible refine (awake_any m _ HM.out).mono ?_); rintro e w1 ⟨rfl, hb1⟩; have HB1 := Lib.hid hb1; clear hb1)
      rw [HQ.out]
      exact ⟨_, results_tmp rfl _ _ _, rfl, HB1.out⟩
    · have hk2 : (2000 : Int) < (k.length : Int) := by omega
      clear hbig
      refine (callsIn_wide (n := 8)).1 (callsIn_of_wp_marks Try.func5 rfl trivial ?_ rfl)
      simp only [Try.ntmps5, List.size_toArray, List.length_cons, List.length_nil, Nat.reduceAdd, Nat.reduceSub, Array.replicate_succ, Array.replicate_zero, List.push_toArray, List.append_toArray, List.nil_append, List.cons_append]
      refine (wpIn_wide (n := 8)).2 ?_
      obtain ⟨Q, hQ⟩ : ∃ Q, Q = bodyPostM WF 8 Try.prog Try.f5 (fun e W' => e = .returned (.bool true) ∧ RowKit.Below W.heap.size W W') := ⟨_, rfl⟩
      rw [← hQ]
      have HQ := Lib.hid hQ
      clear hQ
      go_wp2_with (go_at_call 6; (with_reducible refine (awake_any m _ HM.out).mono ?_); rintro e w1 ⟨rfl, hb1⟩; have HB1 := Lib.hid hb1; clear hb1)
      rw [HQ.out]
      exact ⟨_, results_tmp rfl _ _ _, rfl, HB1.out⟩
  · have hp : p.length ≤ 100000 := by omega
    have hk : k.length ≤ 100000 := by omega
    have hp2 : (p.length : Int) ≤ 2000 := by omega
    have hk2 : (k.length : Int) ≤ 2000 := by omega
    clear hbig
    by_cases hkey : keyB k = true
    · by_cases hpat : patB p = true
      · have HKEY := Lib.hid hkey
        have HPAT := Lib.hid hpat
        clear hkey hpat
        refine (callsIn_wide (n := 8)).1 (callsIn_of_wp_marks Try.func5 rfl trivial ?_ rfl)
        simp only [Try.ntmps5, List.size_toArray, List.length_cons, List.length_nil, Nat.reduceAdd, Nat.reduceSub, Array.replicate_succ, Array.replicate_zero, List.push_toArray, List.append_toArray, List.nil_append, List.cons_append]
        refine (wpIn_wide (n := 8)).2 ?_
        obtain ⟨Q, hQ⟩ : ∃ Q, Q = bodyPostM WF 8 Try.prog Try.f5 (fun e W' => e = .returned (.bool true) ∧ RowKit.Below W.heap.size W W') := ⟨_, rfl⟩
        rw [← hQ]
        have HQ := Lib.hid hQ
        clear hQ
        go_wp2_with (first
          | (go_at_call 6; (with_reducible refine (awake_any m _ HM.out).mono ?_); rintro e w1 ⟨rfl, hb1⟩; have HB1 := Lib.hid hb1; clear hb1)
          | (go_at_call 9; (with_reducible refine (key_any k hk m _ (maxAt HM.out HB1.out)).mono ?_); rintro e w2 ⟨rfl, hb2⟩; have HB2 := Lib.hid (on HB1.out (Nat.le_refl _) hb2); clear hb2; rw [HKEY.out])
          | (go_at_call 11; (with_reducible refine (pat_any p hp m _ (maxAt HM.out HB2.out)).mono ?_); rintro e w3 ⟨rfl, hb3⟩; have HB3 := Lib.hid (on HB2.out (Nat.le_refl _) hb3); clear hb3; rw [HPAT.out])
          | (go_at_call 15; (with_reducible refine (words_any k _).mono ?_); rintro e w4 ⟨rfl, rfl⟩))
        have hwl := words_len k
        have H0 : Hid (AB W w3 k [] ((w3.alloc (.cells #[.string ⟨#[]⟩] 9)).alloc (.cells #[.string (str k)] 9))) := by
          refine ⟨(Boxed.new w3 9 (.string ⟨#[]⟩)).alloc _, ?_, ((Below.refl _ _).alloc (Nat.le_refl _) _).alloc (by simp) _, HB3.out⟩
          have := Boxed.new (w3.alloc (.cells #[.string ⟨#[]⟩] 9)) 9 (.string (str k))
          rw [World.size_alloc] at this
          exact this
        refine (wpIn_wide (n := 8)).1 ?_
        refine rangeLs (n := 8) (gf := 29) (lb := #[.pointer (some ⟨w3.heap.size + 1, 0, none⟩)]) (by decide) rfl (fun args w => by kernel_rfl) (words1_in 7 (by decide) _ k hk m) rfl
          (AB W w3 k) (ab_own _ _ _ _ (by simp; omega)) (fun pre W h => h.wg HM.out) (fun pre W q h => h.drewN q) H0.out ?body ?done
        case body =>
          intro l pre x W' hI hpre
          have hlt := hpre.length_le
          rw [List.length_append, List.length_singleton] at hlt
          have HI := Lib.hid hI
          have c0 := hI.b0.cell
          have f0 := hI.b0.frozen
          have hsz : (str (stars pre.length)).size = 2 * pre.length := stars_len _
          have HJ : Hid (str (stars pre.length) ++ (⟨#[46, 42]⟩ : ByteArray) = str (stars (pre.length + 1))) := str_append _ [46, 42]
          have hs2 : (⟨#[46, 42]⟩ : ByteArray).size = 2 := rfl
          clear hI hpre
          gi_wp2
          rw [HJ.out]
          exact ab_go HI.out (by simp; omega)
        case done =>
          intro D W' hD hI hK
          obtain ⟨n, hn⟩ : ∃ n, n = (words k).length := ⟨_, rfl⟩
          have HI := Lib.hid hI
          have HK := Lib.hid hK
          have HD := Lib.hid hD
          have c0 := hI.b0.cell
          have f0 := hI.b0.frozen
          rw [← hn] at c0
          have HBW : Hid (RowKit.Below W.heap.size W W') := on hI.off (Nat.le_refl _) hI.bel
          have H1 : Hid (∀ W0, RowKit.Below W.heap.size W W0 → Calls Try.prog 20 #[.string (str k), .string (str k)] W0 fun e w' => e = .returned (.bool true) ∧ RowKit.Below W0.heap.size W0 w') := fun W0 hb => by
            have := match_any k k hk hk m W0 (maxAt HM.out hb)
            rw [mt_self _ (key_not_hash HKEY.out)] at this
            exact this
          have H2 : Hid (∀ W0, RowKit.Below W.heap.size W W0 → Calls Try.prog 20 #[.string ⟨#[35]⟩, .string (str k)] W0 fun e w' => e = .returned (.bool true) ∧ RowKit.Below W0.heap.size W0 w') := fun W0 hb => by
            have := match_any [35] k (by decide) hk m W0 (maxAt HM.out hb)
            rw [words_hash, mt_hashes] at this
            exact this
          have hln : n ≤ 2001 := by omega
          have hstr : (strs n).length ≤ 5000 := by unfold strs; rw [List.length_drop, stars_len]; omega
          have H3 : Hid (∀ W0, RowKit.Below W.heap.size W W0 → Calls Try.prog 20 #[.string (str (strs n)), .string (str k)] W0 fun e w' => e = .returned (.bool true) ∧ RowKit.Below W0.heap.size W0 w') := fun W0 hb => by
            have := match_any (strs n) k (by omega) hk m W0 (maxAt HM.out hb)
            rw [words_strs, mt_stars, decide_eq_true hn.symm] at this
            exact this
          have H4 : Hid (∀ W0, RowKit.Below W.heap.size W W0 → Calls Try.prog 20 #[.string (str (strs n) ++ ⟨#[46, 42]⟩), .string (str k)] W0 fun e w' => e = .returned (.bool false) ∧ RowKit.Below W0.heap.size W0 w') := fun W0 hb => by
            have := match_any (strs n ++ [46, 42]) k (by simp; omega) hk m W0 (maxAt HM.out hb)
            have h5 := more_stars k
            rw [← hn] at h5
            rw [h5] at this
            exact this
          have HT := Lib.hid (trim_any n W')
          have hsz : (str (strs n)).size ≤ 5000 := hstr
          have hs2 : (⟨#[46, 42]⟩ : ByteArray).size = 2 := rfl
          have hs3 : (⟨#[46, 35]⟩ : ByteArray).size = 2 := rfl
          have hs4 : (⟨#[35, 46]⟩ : ByteArray).size = 2 := rfl
          have HDL : Hid (D < W'.heap.size) := (Array.getElem?_eq_some_iff.1 hK).1
          clear hI hK hD hn hwl hstr
          go_upto_region 9 with (go_at_call 24; (with_reducible refine HT.out.mono ?_); rintro e w5 ⟨rfl, rfl⟩)
          obtain ⟨wA, hwA⟩ : ∃ wA, wA = W'.setCell ⟨w3.heap.size, 0, none⟩ (.string (str (strs n))) := ⟨_, rfl⟩
          have cA : wA.cell? ⟨w3.heap.size, 0, none⟩ = some (.string (str (strs n))) := by rw [hwA]; exact (HI.out.b0.set (.string (str (strs n)))).cell
          have HBA : Hid (RowKit.Below W.heap.size W wA) := by rw [hwA]; exact HBW.out.setCell (p := ⟨w3.heap.size, 0, none⟩) HB3.out.size _
          have HKA : Hid (wA.heap[D]? = some (.deferred (some []))) := by
            have := HD.out
            simp only [World.size_alloc] at this
            rw [hwA]; exact (Below.heap_setCell _ _ _ _ (by simp; omega)).trans HK.out
          rw [← hwA]
          clear hwA c0 f0 HI HK HBW HT
          have HEND : Hid (∀ (wE : World) (tm : Array Value), RowKit.Below wA.heap.size wA wE → tm.getD 4 undef = Value.bool true → LeavesInM WF 8 Try.prog Try.f5 tm (fun e W' => e = .returned (.bool true) ∧ RowKit.Below W.heap.size W W') [{ target := .collected D, args := #[] }] .returning wE) := fun wE tm hb ht => by
            have hKE : wE.heap[D]? = some (.deferred (some [])) := (hb.block D (Array.getElem?_eq_some_iff.1 HKA.out).1).trans HKA.out
            have hbE : RowKit.Below W.heap.size W wE := on HBA.out (Nat.le_refl _) hb
            have hD := HD.out
            simp only [World.size_alloc] at hD
            refine ⟨by simp, .inl ⟨_, _, rfl, run_takeDeferred hKE, ?_⟩⟩
            exact ⟨_, results_tmp rfl _ _ _, by rw [ht], hbE.trans (belowK_b (w := W) (Nat.le_refl _) wE D _ _ (by have := HB3.out.size; omega) hKE rfl rfl)⟩
          clear HD HKA
          go_upto_region 11 with (first
            | (go_at_call 20; (with_reducible refine (H4.out _ (on HBA.out (Nat.le_refl _) HB8.out)).mono ?_); rintro e w9 ⟨rfl, hb9⟩; have HB9 := Lib.hid (on HB8.out (Nat.le_refl _) hb9); clear hb9)
            | (go_at_call 20; (with_reducible refine (H3.out _ (on HBA.out (Nat.le_refl _) HB7.out)).mono ?_); rintro e w8 ⟨rfl, hb8⟩; have HB8 := Lib.hid (on HB7.out (Nat.le_refl _) hb8); have c8 := cellAt c7 hb8; clear hb8)
            | (go_at_call 20; (with_reducible refine (H2.out _ (on HBA.out (Nat.le_refl _) HB6.out)).mono ?_); rintro e w7 ⟨rfl, hb7⟩; have HB7 := Lib.hid (on HB6.out (Nat.le_refl _) hb7); have c7 := cellAt c6 hb7; clear hb7)
            | (go_at_call 20; (with_reducible refine (H1.out _ HBA.out).mono ?_); rintro e w6 ⟨rfl, hb6⟩; have HB6 := Lib.hid hb6; have c6 := cellAt cA hb6; clear hb6))
          clear H1 H2 H3 H4
          have HB9W : Hid (RowKit.Below W.heap.size W w9) := on HBA.out (Nat.le_refl _) HB9.out
          have H5 := Lib.hid (match_any p k hp hk m w9 (maxAt HM.out HB9W.out))
          have H6 : Hid (∀ W0, mt (words p) (words k) = true → p ≠ [] → RowKit.Below W.heap.size W W0 → Calls Try.prog 20 #[.string (str p ++ ⟨#[46, 35]⟩), .string (str k)] W0 fun e w' => e = .returned (.bool true) ∧ RowKit.Below W0.heap.size W0 w') := fun W0 h1 h2 hb => by
            have := match_any (p ++ [46, 35]) k (by simp; omega) hk m W0 (maxAt HM.out hb)
            rw [words_behind h2, mt_behind _ _ h1] at this
            exact this
          have H7 : Hid (∀ W0, mt (words p) (words k) = true → p ≠ [] → RowKit.Below W.heap.size W W0 → Calls Try.prog 20 #[.string ((⟨#[35, 46]⟩ : ByteArray) ++ str p), .string (str k)] W0 fun e w' => e = .returned (.bool true) ∧ RowKit.Below W0.heap.size W0 w') := fun W0 h1 h2 hb => by
            have := match_any (35 :: 46 :: p) k (by simp; omega) hk m W0 (maxAt HM.out hb)
            rw [words_ahead h2, mt_ahead h1] at this
            have e : str (35 :: 46 :: p) = (⟨#[35, 46]⟩ : ByteArray) ++ str p := (str_append [35, 46] p).symm
            rw [e] at this
            exact this
          by_cases hmt : mt (words p) (words k) = true
          · by_cases hpe : p = []
            · have he : (str p).toList.isEmpty = true := by rw [strL, hpe]; rfl
              rw [hmt] at H5
              clear hmt hpe H6 H7
              go_wp2_with (go_at_call 20; (with_reducible refine H5.out.mono ?_); rintro e w10 ⟨rfl, hb10⟩; have HB10 := Lib.hid (on HB9.out (Nat.le_refl _) hb10); clear hb10)
              rw [HQ.out]
              exact HEND.out _ _ HB10.out rfl
            · have he : (str p).toList.isEmpty = false := by rw [strL]; cases p with | nil => exact absurd rfl hpe | cons _ _ => rfl
              have H6' := Lib.hid (fun W0 => H6.out W0 hmt hpe)
              have H7' := Lib.hid (fun W0 => H7.out W0 hmt hpe)
              rw [hmt] at H5
              clear hmt hpe H6 H7
              go_wp2_with (first
                | (go_at_call 20; (with_reducible refine (H7'.out _ (on HBA.out (Nat.le_refl _) HB11.out)).mono ?_); rintro e w12 ⟨rfl, hb12⟩; have HB12 := Lib.hid (on HB11.out (Nat.le_refl _) hb12); clear hb12)
                | (go_at_call 20; (with_reducible refine (H6'.out _ (on HBA.out (Nat.le_refl _) HB10.out)).mono ?_); rintro e w11 ⟨rfl, hb11⟩; have HB11 := Lib.hid (on HB10.out (Nat.le_refl _) hb11); clear hb11)
                | (go_at_call 20; (with_reducible refine H5.out.mono ?_); rintro e w10 ⟨rfl, hb10⟩; have HB10 := Lib.hid (on HB9.out (Nat.le_refl _) hb10); clear hb10))
              rw [HQ.out]
              exact HEND.out _ _ HB12.out rfl
          · have hmf : mt (words p) (words k) = false := by simpa using hmt
            rw [hmf] at H5
            clear hmt hmf H6 H7
            go_wp2_with (go_at_call 20; (with_reducible refine H5.out.mono ?_); rintro e w10 ⟨rfl, hb10⟩; have HB10 := Lib.hid (on HB9.out (Nat.le_refl _) hb10); clear hb10)
            rw [HQ.out]
            exact HEND.out _ _ HB10.out rfl
      · have hpat' : patB p = false := by simpa using hpat
        have HKEY := Lib.hid hkey
        have HPAT := Lib.hid hpat'
        clear hkey hpat hpat'
        refine (callsIn_wide (n := 8)).1 (callsIn_of_wp_marks Try.func5 rfl trivial ?_ rfl)
        simp only [Try.ntmps5, List.size_toArray, List.length_cons, List.length_nil, Nat.reduceAdd, Nat.reduceSub, Array.replicate_succ, Array.replicate_zero, List.push_toArray, List.append_toArray, List.nil_append, List.cons_append]
        refine (wpIn_wide (n := 8)).2 ?_
        obtain ⟨Q, hQ⟩ : ∃ Q, Q = bodyPostM WF 8 Try.prog Try.f5 (fun e W' => e = .returned (.bool true) ∧ RowKit.Below W.heap.size W W') := ⟨_, rfl⟩
        rw [← hQ]
        have HQ := Lib.hid hQ
        clear hQ
        go_wp2_with (first
          | (go_at_call 6; (with_reducible refine (awake_any m _ HM.out).mono ?_); rintro e w1 ⟨rfl, hb1⟩; have HB1 := Lib.hid hb1; clear hb1)
          | (go_at_call 9; (with_reducible refine (key_any k hk m _ (maxAt HM.out HB1.out)).mono ?_); rintro e w2 ⟨rfl, hb2⟩; have HB2 := Lib.hid (on HB1.out (Nat.le_refl _) hb2); clear hb2; rw [HKEY.out])
          | (go_at_call 11; (with_reducible refine (pat_any p hp m _ (maxAt HM.out HB2.out)).mono ?_); rintro e w3 ⟨rfl, hb3⟩; have HB3 := Lib.hid (on HB2.out (Nat.le_refl _) hb3); clear hb3; rw [HPAT.out]))
        rw [HQ.out]
        exact ⟨_, results_tmp rfl _ _ _, rfl, HB3.out⟩
    · have hkey' : keyB k = false := by simpa using hkey
      have HKEY := Lib.hid hkey'
      clear hkey hkey'
      refine (callsIn_wide (n := 8)).1 (callsIn_of_wp_marks Try.func5 rfl trivial ?_ rfl)
      simp only [Try.ntmps5, List.size_toArray, List.length_cons, List.length_nil, Nat.reduceAdd, Nat.reduceSub, Array.replicate_succ, Array.replicate_zero, List.push_toArray, List.append_toArray, List.nil_append, List.cons_append]
      refine (wpIn_wide (n := 8)).2 ?_
      obtain ⟨Q, hQ⟩ : ∃ Q, Q = bodyPostM WF 8 Try.prog Try.f5 (fun e W' => e = .returned (.bool true) ∧ RowKit.Below W.heap.size W W') := ⟨_, rfl⟩
      rw [← hQ]
      have HQ := Lib.hid hQ
      clear hQ
      go_wp2_with (first
        | (go_at_call 6; (with_reducible refine (awake_any m _ HM.out).mono ?_); rintro e w1 ⟨rfl, hb1⟩; have HB1 := Lib.hid hb1; clear hb1)
        | (go_at_call 9; (with_reducible refine (key_any k hk m _ (maxAt HM.out HB1.out)).mono ?_); rintro e w2 ⟨rfl, hb2⟩; have HB2 := Lib.hid (on HB1.out (Nat.le_refl _) hb2); clear hb2; rw [HKEY.out]))
      rw [HQ.out]
      exact ⟨_, results_tmp rfl _ _ _, rfl, HB2.out⟩
theorem all20_walk (a b : ByteArray) (m : Int) (W : World) (hm : W.cell? ⟨0, 0, none⟩ = some (.int .i64 m)) :
    Calls Try.prog 5 #[.string a, .string b] W fun e W' => e = .returned (.bool true) ∧ RowKit.Below W.heap.size W W' := all_in a.data.toList b.data.toList m W hm
end Go.Proofs.Ytkidilojgjligaa
