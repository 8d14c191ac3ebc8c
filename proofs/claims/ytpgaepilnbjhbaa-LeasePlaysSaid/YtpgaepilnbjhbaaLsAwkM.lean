/- Tables of texts: new, how many, with one more. -/
import Derived.Test.YtpgaepilnbjhbaaLsAwk
import Derived.Test.YtpgaepilnbjhbaaLsDueM
import Derived.Test.YtpgaepilnbjhbaaLsLendM
import Derived.Test.YtpgaepilnbjhbaaLsMap
set_option maxRecDepth 100000
set_option maxHeartbeats 4000000
set_option linter.unusedVariables false
namespace Go.Proofs.Ytpgaepilnbjhbaa
open Go.RowKit
open Ls (Txt Ln Ms low ltM sameM tl)
attribute [local go_sem] store_fn store_nil
def fnM (b : Bool) : Value := if b then .func (.func 21) #[] #[] else .nilFunc
theorem fnM_is (b : Bool) : IsFn (fnM b) := by cases b; exact .inr rfl; exact .inl ⟨_, rfl⟩
theorem newM_any (b : Bool) (w : World) : Calls Try.prog 23 #[fnM b] w fun e w' => e = .returned (.agg #[fnM b, .slice none 0 0]) ∧ Below w.heap.size w w' := by
  cases b
  · show Calls _ _ #[.nilFunc] _ _
    go_enter Try.func23, Try.ntmps23
    go_wp2
    refine bodyPost_ret_by (v := .agg #[.nilFunc, .slice none 0 0]) ?_ rfl ⟨rfl, ?_⟩
    · simp [results, Try.results23, go_sem]
    · exact below_alloc _ _
  · show Calls _ _ #[.func (.func 21) #[] #[]] _ _
    go_enter Try.func23, Try.ntmps23
    go_wp2
    refine bodyPost_ret_by (v := .agg #[.func (.func 21) #[] #[], .slice none 0 0]) ?_ rfl ⟨rfl, ?_⟩
    · simp [results, Try.results23, go_sem]
    · exact below_alloc _ _
theorem lenM_any (fn : Value) (a : Option Addr) (n c : Nat) (w : World) : Calls Try.prog 27 #[.agg #[fn, .slice a n c]] w fun e w' => e = .returned (.int .i64 n) ∧ w' = w.alloc (.cells #[fn, .slice a n c] 62) := by
  go_enter Try.func27, Try.ntmps27
  go_wp2
  go_ret
  exact ⟨rfl, rfl⟩
theorem cmpT_lt (a b : Txt) : decide (cmpT a b < 0) = tl a b := by
  unfold cmpT
  cases h : tl a b with
  | true => simp
  | false => cases tl b a <;> simp
theorem cmpO_ltM (b : Bool) (e x : Ms) : decide (cmpO e.t x.t (if b then cmpT x.s e.s else 0) < 0) = ltM b e x := by
  unfold cmpO ltM
  by_cases h1 : e.t < x.t
  · simp [h1]
  · by_cases h2 : x.t < e.t
    · have h3 : ¬ e.t = x.t := by omega
      simp [h1, h2, h3]
    · have h3 : e.t = x.t := by omega
      rw [if_neg h1, if_neg h2]
      cases b with
      | false => simp [h3]
      | true => simp only [if_true]; rw [cmpT_lt]; simp [h3]
theorem lendB_any (b : Bool) (sl : Value) (l : List Ms) (hl : l.length ≤ 900) (hu : Ls.Uni sameM l) (hs : Ls.Srt (ltM b) l) (x : Ms) (w : World) (hsl : SlG cM 2 w sl l) :
    Calls Try.prog 24 #[.agg #[fnM b, sl], .string (str x.s), .int .u64 x.t] w (LendOutM (fnM b) (Ls.lend (ltM b) sameM x l) w) := by
  refine lendM_any (ltM b) (Ls.woM b) (fun e => cmpO e.t x.t (if b then cmpT x.s e.s else 0)) _ (fnM_is b) sl l hl hu hs x w hsl ?_ (fun e => cmpO_ltM b e x)
  intro e sl' W hs'
  cases b with
  | true =>
    exact orderM_any _ sl' (.inl ⟨_, rfl⟩) hs' e x (cmpT x.s e.s) W fun W' => compM_any sl' hs' e x (cmpT x.s e.s) W' fun W2 => (sorts1_any e.s x.s W2).mono (fun _ _ h => ⟨h.1, by rw [h.2]; exact Below.refl _ _⟩)
  | false =>
    exact orderM_any _ sl' (.inr rfl) hs' e x 0 W fun W' => compNilM sl' hs' e x W'
/-- Texts handed in, and times. -/
def cU (n : Nat) : List Value := [.int .u64 n]
theorem encU : Enc cU 1 := ⟨by decide, fun _ => rfl, fun x u hu => by simp [cU] at hu; subst hu; rfl⟩
theorem at1 {β : Type} {f : β → Value} {w : World} {b o : Nat} {l : List β} (h : CellsAt (fun x => [f x]) 1 w b o l) {k : Nat} {x : β} (hx : l[k]? = some x) : w.cell? ⟨b, o + k, none⟩ = some (f x) := by
  have := h k x hx 0 _ rfl
  simpa using this
/-- What the law keeps: boxes, the table, the map. -/
structure SJ (w : World) (b : Bool) (now : Nat) (g2 gm : Nat) (L : List Ms) (f : Txt → Option Nat) (n : Nat) (sl : Value) (W : World) : Prop where
  b0 : Boxed W w.heap.size 32 (.int .u64 now)
  b1 : Boxed W (w.heap.size + 1) 4 (.bool b)
  b2 : Boxed W (w.heap.size + 1 + 1) 4 (.bool false)
  T : Boxed2 W g2 62 (fnM b) sl
  M : Boxed W gm 64 (.map (some (g2 + 1)))
  S : SlG cM 2 W sl L
  F : MapN W (g2 + 1) n f L.length
  W : Below w.heap.size w W
  G : w.heap.size + 1 + 1 < g2
  GM : gm = g2 + 1 + 1
  u : Ls.Uni sameM L
  s : Ls.Srt (ltM b) L
  r : Ls.Rel L f L.length
  kk : ∀ e ∈ L, e.s.length ≤ maxLen
theorem SJ.below {w W W' : World} {b : Bool} {now g2 gm n : Nat} {L : List Ms} {f : Txt → Option Nat} {sl : Value} (h : SJ w b now g2 gm L f n sl W) (hb : Below W.heap.size W W') : SJ w b now g2 gm L f n sl W' :=
  ⟨boxed_below h.b0 hb, boxed_below h.b1 hb, boxed_below h.b2 hb, h.T.below hb, boxed_below h.M hb, h.S.below hb, h.F.kept (hb.block _ h.F.lt), h.W.trans (hb.mono h.W.size), h.G, h.GM, h.u, h.s, h.r, h.kk⟩
end Go.Proofs.Ytpgaepilnbjhbaa
