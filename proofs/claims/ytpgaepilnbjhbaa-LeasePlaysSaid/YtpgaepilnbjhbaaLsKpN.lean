/- Keep of nothing: all of them. -/
import Derived.Test.YtpgaepilnbjhbaaLsKpF
set_option maxRecDepth 100000
set_option maxHeartbeats 4000000
set_option linter.unusedVariables false
namespace Go.Proofs.Ytpgaepilnbjhbaa
open Go.RowKit
open Ls (Txt Ln Ms low Mono)
attribute [local go_sem] Oper.semAt_some store_fn store_nil
set_option maxHeartbeats 1000000 in
theorem keepN_any (kf : Nat) (sl : Value)  (l : List Ln) (hl : l.length ≤ 1000) (w : World) (hsl : SlG cL 3 w sl l)  :
    Calls Try.prog 12 #[.agg #[.func (.func kf) #[] #[], sl], .nilFunc] w (LendOutL (.func (.func kf) #[] #[]) (l.filter fun e => (fun _ => true) e.id) w) := by
  have HS0 := Lib.hid hsl
  obtain ⟨sa, sc, rfl⟩ := hsl.slice
  obtain ⟨p, hp⟩ : ∃ p, p = (fun _ => true) := ⟨_, rfl⟩
  have HSY : Hid (∀ (q : Txt) (id : Nat) (W : World), Below w.heap.size w W → ∀ b, p id = b → Calls Try.prog 35 #[.nilFunc, .agg #[.string (str q), .int .u64 id]] W fun e w' => e = .returned (.bool b) ∧ Below W.heap.size W w') := fun q id W hW b hb => by
    subst hb; rw [hp]; exact says_any So.all q id W (So.all.below rfl hW trivial)
  rw [← hp]
  clear hp 
  have HW := Lib.hid (fun a2 n2 c2 W => withL_any (.func (.func kf) #[] #[]) (.inl ⟨kf, rfl⟩) (.slice sa l.length sc) (.slice a2 n2 c2) ⟨_, _, _, rfl⟩ ⟨_, _, _, rfl⟩ W)
  have HST := Lib.hid (ki_start w (.func (.func kf) #[] #[]) (.slice sa l.length sc) .nilFunc p _ rfl)
  have HA := Lib.hid (fun W => allL_any (.func (.func kf) #[] #[]) (.slice sa l.length sc) W)
  clear hsl
  refine (callsIn_wide (n := 8)).1 (callsIn_of_wp_marks Try.func12 rfl trivial ?_ rfl)
  simp only [Try.ntmps12, List.size_toArray, List.length_cons, List.length_nil, Nat.reduceAdd, Nat.reduceSub, Array.replicate_succ, Array.replicate_zero, List.push_toArray, List.append_toArray, List.nil_append, List.cons_append]
  refine (wpIn_wide (n := 8)).2 ?_
  obtain ⟨Q, hQ⟩ : ∃ Q, Q = bodyPostM WF 8 Try.prog Try.f12 (LendOutL (.func (.func kf) #[] #[]) (l.filter fun e => p e.id) w) := ⟨_, rfl⟩
  rw [← hQ]
  have HQ := Lib.hid hQ
  clear hQ
  go_wp2_with (go_at_call 34; (with_reducible refine (HA.out _).mono ?_); rintro e w1 ⟨rfl, rfl⟩)
  refine (wpIn_wide (n := 8)).1 ?_
  refine rangeX (n := 8) (gf := 48) (lb := #[.pointer (some ⟨w.heap.size + 1 + 1 + 1 + 1, 0, none⟩)]) (by decide) rfl (fun args w => by kernel_rfl) (all1L_in 7 (by decide) _ _ l (by omega)) (fun _ => rfl)
    (.ret) (.ret) (.inl ⟨rfl, rfl⟩)
    (KI w (.func (.func kf) #[] #[]) (.slice sa l.length sc) .nilFunc p) (fun _ _ => False) (KI.own _ _ _ _ _ _ (by simp <;> omega)) (fun _ _ _ _ h _ _ => h.elim) (fun pre W h => h.ag HS0.out) (fun pre W q h => h.drewN q) HST.out
    (fun x W => { tmps := #[.agg #[.func (.func kf) #[] #[], .slice sa l.length sc], .nilFunc, .pointer (some ⟨w.heap.size, 0, none⟩), .pointer (some ⟨w.heap.size + 1, 0, none⟩), .pointer (some ⟨w.heap.size + 1 + 1, 0, none⟩), .pointer (some ⟨w.heap.size + 1 + 1 + 1, 0, none⟩), .pointer (some ⟨W.heap.size, 0, none⟩), .int .u64 x.t, .agg #[.func (.func kf) #[] #[], .slice sa l.length sc], .func (.func 48) #[] #[.pointer (some ⟨w.heap.size + 1 + 1 + 1 + 1, 0, none⟩)], .agg #[.string (str x.q), .int .u64 x.id], .int .u64 x.t, undef, undef, undef, undef, undef, undef, undef, undef, undef, undef, undef, undef], defers := [] }) (fun x W => W.alloc (.cells #[.string (str x.q), .int .u64 x.id] 34)) (fun x W => .inr ⟨_, rfl⟩) ?assign ?body ?done ?stop
  case stop => exact fun D pre W hD hX => hX.elim
  case assign =>
    intro l x W K hK
    unfold arL
    gi_wp2
    exact hK
  case body =>
    intro lr pre x W W2 hW2 hI hpre
    have HI := Lib.hid hI
    have hlen := hpre.length_le
    rw [List.length_append, List.length_singleton] at hlen
    obtain ⟨k0, o0, hW2, hk0, hk1, _⟩ := hW2
    have hkb : Boxed2 W2 W.heap.size 34 (.string (str x.q)) (.int .u64 x.id) := by
      rw [hW2]
      exact (World.putObj_heap_other (by omega)).trans (Boxed2.new W _ _ _)
    have q0 := hkb.c0
    have q1 := hkb.c1
    have n0 := hI.N.cell
    have HKB := Lib.hid hkb
    have HLN : Hid (pre.length ≤ 1000) := by show _ ≤ _; omega
    have HSI := Lib.hid (HSY.out x.q x.id W2 hI.W)
    clear hI hpre hkb hW2 hlen hk0 hk1
    by_cases hx : p x.id = true
    · have HX := Lib.hid hx
      have HSB := Lib.hid (HSI.out true hx)
      clear hx
      gi_wp2_with (first
        | (gi_at_builtin; refine wpListIn_runA _ rfl _ _ _ _ rfl _ _ rfl rfl _ _ hrun ?_)
        | (refine ⟨trivial, ?_⟩; gi_at_call 35; refine (CallsIn.inRound lr (callsIn_wide.2 HSB.out)).mono ?_; rintro e w3 ⟨rfl, hb3⟩; have hI3 := HI.out.below hb3; have hkb3 := HKB.out.below hb3; have q0' := hkb3.c0; have q1' := hkb3.c1; obtain ⟨v, hv, hrow⟩ := hI3.D; obtain ⟨va, vn, vc, rfl⟩ := hrow.slice'; have hD0 := hv.cell; obtain ⟨v', w1, hrun, hG⟩ := grew (ty := 25) encL appL (by decide) (by decide) hv hrow (hI3.W.size) (by omega) (Nat.le_trans (List.length_filter_le _ _) (by have := HLN.out; omega)) x _ rfl; have HGG := Lib.hid (hI3.grow x HX.out hG); have HKP := Lib.hid ((others_below hb3).trans hG.keep); obtain ⟨va', vn', vc', rfl⟩ := hG.row.slice'; have d1 := hG.b1.cell; have f1 := hG.b1.frozen; simp only [cL] at hrun; clear hG hI3 hrow hv hkb3 hb3))
      exact .inl ⟨rfl, HKP.out.from _, HGG.out⟩
    · have hx' : p x.id = false := by simpa using hx
      have HX := Lib.hid hx'
      have HSB := Lib.hid (HSI.out false hx')
      clear hx hx'
      gi_wp2_with (refine ⟨trivial, ?_⟩; gi_at_call 35; refine (CallsIn.inRound lr (callsIn_wide.2 HSB.out)).mono ?_; rintro e w3 ⟨rfl, hb3⟩; have HB3 := Lib.hid hb3; clear hb3)
      exact .inl ⟨rfl, (others_below HB3.out).from _, (HI.out.below HB3.out).skip x HX.out⟩
  case done =>
    intro D W hD hI hK
    have hT := hI.T
    have hR := hI.R
    obtain ⟨v, hv, hrow⟩ := hI.D
    obtain ⟨va, vn, vc, rfl⟩ := hrow.slice'
    have HT := Lib.hid hT
    have HR := Lib.hid hR
    have HD0 := Lib.hid hv.cell
    have HRW := Lib.hid hrow
    have HKK := Lib.hid hK
    have HWW := Lib.hid hI.W
    have HDD := Lib.hid hD
    have hW0 : w.heap.size + 1 + 1 < W.heap.size := hR.lt
    have c0 := hT.c0
    have c1 := hT.c1
    have c2 := hv.cell
    clear hI hT hR hv hrow hK hD
    go_wp2_with (go_at_call 32; refine (HW.out _ _ _ _).mono ?_; rintro e w7 ⟨rfl, hb⟩; have HB7 := Lib.hid hb; have hr7 := HR.out.below hb; have r0 := hr7.c0; have r1 := hr7.c1; have f0 := hr7.f0; have f1 := hr7.f1; clear hb hr7)
    rw [HQ.out]
    exact keepEnd (y0 := .nilFunc) (y1 := .slice none 0 0) rfl HRW.out HR.out HWW.out HB7.out HKK.out (by have := HDD.out; simp at this; omega)
end Go.Proofs.Ytpgaepilnbjhbaa
