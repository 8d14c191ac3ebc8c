/- Texts of one seat, merged. -/
import Derived.Test.YtgmneapgihakgaaGreatDoorZ09
import Derived.Sort.QuietIn
import Derived.Sort.BigQuietIn
set_option maxRecDepth 100000
set_option maxHeartbeats 4000000
set_option linter.unusedVariables false
/- A region that draws its order, within a round too: what only reads comes in any order, and behind all of it the rest, one by one. -/
namespace Go.Proofs.YtgmneapgihakgaaGreatDoor
open Go.RowKit
section
variable {F : Fence} {n : Nat} {P : Program} {ops : Array Oper} {md : Region.Mode} {C : World → Prop} {K m : Nat}
theorem opIn_of_quiet {o : Oper} {a : Act} {K : Act → Prop} {K' : Act → World → Prop} {Q' : Exit → Act → World → Prop} {w : World} (hnd : ∀ c, o.op ≠ .defer c) (hw : C w) (h : ∀ a w', C w' → K a → K' a w')
    (ha : o.askedIn F P a C) (hh : o.quietIn F n P a C K) : o.wpIn F n P a w K' Q' := by
  obtain ⟨v, h1, h2⟩ := hh
  have h3 := h1 w hw
  unfold Oper.quietAtIn at h3
  unfold Oper.wpIn
  refine ⟨ha w hw, ?_⟩
  rw [Oper.semAt_eq _ _ _ hnd]
  generalize (execOp a.eval o).run P w = r at *
  cases r with
  | ok x w' =>
    cases x <;> simp only [Oper.quietUponIn] at h3 <;> simp only [Oper.uponIn]
    case value u =>
      obtain ⟨e1, e2⟩ := h3
      rw [e1, e2]
      exact h _ _ hw h2
    case skip =>
      obtain ⟨e1, e2⟩ := h3
      rw [e1, ← e2]
      exact h _ _ hw h2
    case enter f args =>
      obtain ⟨e1, hd, hc⟩ := h3
      rw [e1]
      exact ⟨hd, hc.mono fun e w'' ⟨he, hw''⟩ => by subst he; exact h _ _ hw'' h2⟩
  | halt x w' => simp only [Oper.quietUponIn] at h3
theorem wpOpIn_of_q {i : Nat} {a : Act} {K : Act → Prop} {K' : Act → World → Prop} {Q' : Exit → Act → World → Prop} {w : World} (hnd : ∀ o, ops[i]? = some o → ∀ c, o.op ≠ .defer c) (hC : C w) (h : ∀ a w', C w' → K a → K' a w')
    (hh : qOpIn F n P ops C i K a) : wpOpIn F n P ops Q' i K' a w := by
  unfold qOpIn at hh
  unfold wpOpIn
  split
  · rename_i ho; simp only [ho] at hh; exact h _ _ hC hh
  · rename_i o ho
    simp only [ho] at hh
    obtain ⟨ha, hh⟩ := hh
    split
    · rename_i hw; simp only [hw, if_true] at hh; exact opIn_of_quiet (hnd o ho) hC h ha hh
    · rename_i hw; simp only [hw] at hh; exact ⟨ha w hC, h _ _ hC hh⟩
/-- What has come up has all ahead of it. -/
def ClosedR (md : Region.Mode) (ops : Array Oper) (listed : Array Bool) : Prop := ∀ j o, ops[j]? = some o → listed.getD j false = true → ∀ e ∈ o.after, Region.binds md e = true → listed.getD e.on false = true
def edgesR (md : Region.Mode) (ops : Array Oper) (j : Nat) : List Nat := match ops[j]? with
  | none => []
  | some o => (o.after.toList.filter (fun e => Region.binds md e)).map (·.on)
def ancR (md : Region.Mode) (ops : Array Oper) : Nat → List Nat → List Nat
  | 0, S => S
  | f + 1, S => ancR md ops f (S ++ (S.flatMap (edgesR md ops)).filter (fun x => !S.contains x))
theorem edges_listed {listed : Array Bool} (hc : ClosedR md ops listed) {j : Nat} (hj : listed.getD j false = true) : ∀ i ∈ edgesR md ops j, listed.getD i false = true := fun i hi => by
  unfold edgesR at hi
  split at hi
  · cases hi
  · rename_i o ho
    obtain ⟨e, he, rfl⟩ := List.mem_map.1 hi
    obtain ⟨h1, h2⟩ := List.mem_filter.1 he
    exact hc j o ho hj e (by simpa using h1) h2
theorem anc_listed {listed : Array Bool} (hc : ClosedR md ops listed) : ∀ (f : Nat) (S : List Nat), (∀ i ∈ S, listed.getD i false = true) → ∀ i ∈ ancR md ops f S, listed.getD i false = true
  | 0, _, h, i, hi => h i hi
  | f + 1, S, h, i, hi => anc_listed hc f _ (fun j hj => by
      rcases List.mem_append.1 hj with hj | hj
      · exact h j hj
      · obtain ⟨x, hx, hxj⟩ := List.mem_flatMap.1 (List.mem_filter.1 hj).1
        exact edges_listed hc (h x hx) j hxj) i hi
/-- Is every operation behind the K-th behind all ahead of it? -/
def behindB (md : Region.Mode) (ops : Array Oper) (K : Nat) : Bool := (List.range ops.size).all (fun j => decide (j < K) || (List.range K).all (fun i => (ancR md ops K (edgesR md ops j)).contains i))
theorem behind_spec (h : behindB md ops K = true) {listed : Array Bool} (hc : ClosedR md ops listed) {j : Nat} (hj : j ∈ Region.ready md ops listed) (hK : K ≤ j) {i : Nat} (hi : i < K) : listed.getD i false = true := by
  obtain ⟨hun, o, ho, hall⟩ := mem_ready.1 hj
  unfold behindB at h
  have h1 := List.all_eq_true.1 h j (List.mem_range.2 (Array.getElem?_eq_some_iff.1 ho).1)
  rw [Bool.or_eq_true] at h1
  rcases h1 with h1 | h1
  · have := of_decide_eq_true h1; omega
  · have h2 := List.all_eq_true.1 h1 i (List.mem_range.2 hi)
    refine anc_listed hc K _ (fun x hx => ?_) i (by simpa using h2)
    unfold edgesR at hx
    rw [ho] at hx
    obtain ⟨e, he, rfl⟩ := List.mem_map.1 hx
    obtain ⟨h3, h4⟩ := List.mem_filter.1 he
    exact hall e (by simpa using h3) h4
theorem closed_set {listed : Array Bool} (hc : ClosedR md ops listed) {j : Nat} (hj : j ∈ Region.ready md ops listed) : ClosedR md ops (listed.setIfInBounds j true) := fun k o ho hk e he hb => by
  obtain ⟨_, oj, hoj, hall⟩ := mem_ready.1 hj
  by_cases hkj : j = k
  · subst hkj
    rw [hoj] at ho; cases ho
    exact getD_set_true (hall e he hb)
  · rw [getD_set_ne false hkj] at hk
    exact getD_set_true (hc k o ho hk e he hb)
/-- Whatever order the first K come in. -/
def wpAnyT (F : Fence) (n : Nat) (P : Program) (md : Region.Mode) (ops : Array Oper) (C : World → Prop) (K : Nat) (T : Array Bool → Act → Prop) : Nat → Array Bool → Act → Prop
  | 0, listed, a => T listed a
  | fuel + 1, listed, a => Region.ready md ops listed ≠ [] ∧ ∀ i ∈ Region.ready md ops listed, i < K ∧ qOpIn F n P ops C i (wpAnyT F n P md ops C K T fuel (listed.setIfInBounds i true)) a
theorem any_of_T {T : Array Bool → Act → Prop} {Q : Exit → Act → World → Prop} (hnd : ∀ i o, i < K → ops[i]? = some o → ∀ c, o.op ≠ .defer c) (hT : ∀ listed a w, C w → T listed a → wpAnyIn F n P md ops Q m listed a w) :
    ∀ (fuel : Nat) (listed : Array Bool) (a : Act) (w : World), C w → wpAnyT F n P md ops C K T fuel listed a → wpAnyIn F n P md ops Q (fuel + m) listed a w
  | 0, _, _, _, hw, h => by rw [Nat.zero_add]; exact hT _ _ _ hw h
  | fuel + 1, _, _, _, hw, h => by
    rw [show fuel + 1 + m = fuel + m + 1 by omega]
    exact ⟨fun h0 => absurd h0 h.1, fun i hi => wpOpIn_of_q (fun o ho => hnd i o (h.2 i hi).1 ho) hw (fun a' w' hw' => any_of_T hnd hT fuel _ a' w' hw') (h.2 i hi).2⟩
theorem anyT_first {T : Array Bool → Act → Prop} {i : Nat} {oi : Oper} {v : Value} (hi : ops[i]? = some oi) (hiK : i < K) (hsel : ∀ (j : Nat) (o : Oper) cs b, ops[j]? = some o → o.op ≠ .select cs b) (hbe : behindB md ops K = true) :
    ∀ (fuel : Nat) (listed : Array Bool) (a : Act) (R : List Nat), ClosedR md ops listed → (∀ k, k < K → listed.getD k true = false → k ∈ R) → R.length = fuel + 1 →
      (∀ j oj, ops[j]? = some oj → j ≠ i → listed.getD j true = false → (∀ e ∈ oj.after, Region.binds md e = true → e.on ≠ i) → oi.apart ops oj = true) →
      i ∈ Region.ready md ops listed → YieldsQuiet F n P ops C oi v a →
      wpAnyT F n P md ops C K T fuel (listed.setIfInBounds i true) (a.put oi.dst v) → wpAnyT F n P md ops C K T (fuel + 1) listed a := by
  have small : ∀ (listed : Array Bool) (j : Nat), ClosedR md ops listed → i ∈ Region.ready md ops listed → j ∈ Region.ready md ops listed → j < K := fun listed j hc hr hj => by
    rcases Nat.lt_or_ge j K with h | h
    · exact h
    · have h1 := behind_spec hbe hc hj h hiK
      have h2 := (mem_ready.1 hr).1
      rcases Nat.lt_or_ge i listed.size with h' | h'
      · simp [h'] at h1 h2; rw [h1] at h2; cases h2
      · simp [Array.getElem?_eq_none h'] at h1
  intro fuel
  induction fuel with
  | zero =>
    intro listed a R hc hR hl _ hr hy H
    refine ⟨fun h => (by rw [h] at hr; cases hr), fun j hj => ⟨small listed j hc hr hj, ?_⟩⟩
    have h1 := hR i hiK (mem_ready.1 hr).1
    have h2 := hR j (small listed j hc hr hj) (mem_ready.1 hj).1
    obtain ⟨x, rfl⟩ := List.length_eq_one_iff.1 hl
    obtain rfl : i = x := by simpa using h1
    obtain rfl : j = i := by simpa using h2
    exact hy.qOpIn hi H
  | succ fuel ih =>
    intro listed a R hc hR hl hfree hr hy H
    refine ⟨fun h => (by rw [h] at hr; cases hr), fun j hj => ⟨small listed j hc hr hj, ?_⟩⟩
    by_cases hji : j = i
    · subst hji; exact hy.qOpIn hi H
    · have h1 := (H.2 j (ready_mono hj hji)).2
      obtain ⟨hjun, oj, hoj, hall⟩ := mem_ready.1 hj
      have hnot : ∀ e ∈ oj.after, Region.binds md e = true → e.on ≠ i := fun e he hb heq => by
        have h1 := hall e he hb
        have h0 := (mem_ready.1 hr).1
        rw [heq] at h1
        rcases Nat.lt_or_ge i listed.size with h' | h'
        · simp [h'] at h0 h1; rw [h0] at h1; cases h1
        · simp [Array.getElem?_eq_none h'] at h1
      have h2 := qOpIn_put hoj (hfree j oj hoj hji hjun hnot) (fun cs b => hsel i oi cs b hi) (fun cs b => hsel j oj cs b hoj) hy h1
      have hfree' : ∀ k ok, ops[k]? = some ok → k ≠ i → (listed.setIfInBounds j true).getD k true = false →
          (∀ e ∈ ok.after, Region.binds md e = true → e.on ≠ i) → oi.apart ops ok = true := fun k ok hk hki hun hno => by
        refine hfree k ok hk hki ?_ hno
        by_cases hjk : j = k
        · subst hjk; exact hjun
        · rw [getD_set_ne true hjk] at hun; exact hun
      have hjR := hR j (small listed j hc hr hj) hjun
      refine qOpIn_mono (fun a' h3 => ih (listed.setIfInBounds j true) a' (R.erase j) (closed_set hc hj) (fun k hk hun => ?_) (by rw [List.length_erase_of_mem hjR, hl]; rfl) hfree' (ready_mono hr (Ne.symm hji)) h3.1 ?_) h2
      · by_cases hjk : j = k
        · subst hjk
          exfalso
          have hlt : j < listed.size := by
            rcases Nat.lt_or_ge j listed.size with h | h
            · exact h
            · simp [Array.getElem?_eq_none h] at hjun
          simp [hlt] at hun
        · rw [getD_set_ne true hjk] at hun
          exact (List.mem_erase_of_ne (Ne.symm hjk)).2 (hR k hk hun)
      · rw [Array.setIfInBounds_comm _ _ hji]
        exact h3.2
/-- The rest comes one by one. -/
def seqB (md : Region.Mode) (ops : Array Oper) : Nat → Nat → Array Bool → Bool
  | 0, _, listed => (Region.ready md ops listed).isEmpty
  | fuel + 1, k, listed => (Region.ready md ops listed == [k]) && seqB md ops fuel (k + 1) (listed.setIfInBounds k true)
theorem any_seq {Q : Exit → Act → World → Prop} : ∀ (l : List Oper) (k : Nat) (listed : Array Bool) (a : Act) (w : World), (∀ j, l[j]? = ops[k + j]?) → seqB md ops l.length k listed = true → wpListIn F n P ops Q l a w → wpAnyIn F n P md ops Q l.length listed a w
  | [], _, _, _, _, _, hB, h => ⟨by simpa [seqB] using hB, h⟩
  | o :: l, k, listed, a, w, hl, hB, h => by
    have h0 : ops[k]? = some o := by simpa using (hl 0).symm
    simp only [List.length_cons, seqB, Bool.and_eq_true, beq_iff_eq] at hB
    obtain ⟨hr, hB'⟩ := hB
    refine ⟨fun h0 => (by rw [hr] at h0; cases h0), fun i hi => ?_⟩
    rw [hr] at hi
    obtain rfl : i = k := by simpa using hi
    have hl' : ∀ j, l[j]? = ops[i + 1 + j]? := fun j => by have := hl (j + 1); simpa [Nat.add_assoc, Nat.add_comm 1 j] using this
    unfold wpOpIn
    simp only [h0]
    unfold wpListIn at h
    split
    · rename_i hw; simp only [hw, if_true] at h
      exact Oper.wpIn_mono (fun a' w' h' => any_seq l (i + 1) _ a' w' hl' hB' h') h
    · rename_i hw; simp only [hw] at h
      exact ⟨h.1, any_seq l (i + 1) _ _ _ hl' hB' h.2⟩
def preB (md : Region.Mode) (ops : Array Oper) (m : Nat) : Nat → Nat → Array Bool → Bool
  | 0, k, listed => seqB md ops m k listed
  | fuel + 1, k, listed => (Region.ready md ops listed).contains k && Region.free md ops listed k && preB md ops m fuel (k + 1) (listed.setIfInBounds k true)
theorem anyT_lex {Q : Exit → Act → World → Prop} {l2 : List Oper} (hs : Region.noSelect ops = true) (hbe : behindB md ops K = true) (h2 : ∀ j, l2[j]? = ops[K + j]?) : ∀ (l : List Oper) (k : Nat) (listed : Array Bool) (a : Act), (∀ j, j < l.length → l[j]? = ops[k + j]?) → k + l.length = K → ClosedR md ops listed → (∀ i, i < K → listed.getD i true = false → k ≤ i) →
    preB md ops l2.length l.length k listed = true → wpQuietIn F n P ops C (fun a' => ∀ w', C w' → wpListIn F n P ops Q l2 a' w') l a → wpAnyT F n P md ops C K (fun listed a' => ∀ w', C w' → wpAnyIn F n P md ops Q l2.length listed a' w') l.length listed a
  | [], k, listed, a, _, hk, _, _, hB, h => by
    have hk' : k = K := by simpa using hk
    subst hk'
    intro w' hw'
    refine any_seq l2 k listed a w' h2 ?_ (h w' hw')
    unfold preB at hB
    exact hB
  | o :: l, k, listed, a, hl, hk, hc, hun, hB, h => by
    have h0 : ops[k]? = some o := by simpa using (hl 0 (by simp)).symm
    simp only [List.length_cons, preB, Bool.and_eq_true] at hB hk
    obtain ⟨⟨hr, hf⟩, hB'⟩ := hB
    have hr' : k ∈ Region.ready md ops listed := by simpa using hr
    have hst : qOpIn F n P ops C k (wpQuietIn F n P ops C (fun a' => ∀ w', C w' → wpListIn F n P ops Q l2 a' w') l) a := by unfold qOpIn; simp only [h0]; exact h
    obtain ⟨v, hy, hKq⟩ := yieldsQuiet_of_qOpIn h0 hst
    refine anyT_first h0 (by omega) (Region.noSelect_spec hs) hbe l.length listed a (List.range' k (l.length + 1)) hc (fun i hiK hi => ?_) (by simp) (Region.free_spec h0 hf) hr' hy
      (anyT_lex hs hbe h2 l (k + 1) _ _ (fun j hj => by have := hl (j + 1) (by simpa using hj); simpa [Nat.add_assoc, Nat.add_comm 1 j] using this) (by omega) (closed_set hc hr') (fun i hiK hi => ?_) hB' hKq)
    · have := hun i hiK hi
      exact List.mem_range'_1.2 ⟨this, by omega⟩
    · by_cases hik : k = i
      · subst hik
        have hlt : k < listed.size := by
          have := (mem_ready.1 hr').1
          rcases Nat.lt_or_ge k listed.size with h | h
          · exact h
          · simp [Array.getElem?_eq_none h] at this
        simp [hlt] at hi
      · rw [getD_set_ne true hik] at hi
        have := hun i hiK hi
        omega
def noDeferB (l : List Oper) : Bool := l.all (fun o => match o.op with | .defer _ => false | _ => true)
/-- ONE WALK OF THE FIRST ONES SERVES EVERY ORDER; THE REST IS WALKED AS IT STANDS. -/
theorem wpIn_region_tail {id : Nat} {Q : Exit → Act → World → Prop} {a : Act} {w : World} {l1 l2 : List Oper} (hm : P.follows .mixedOrders = true)
    (hB : (Region.noSelect (l1 ++ l2).toArray && behindB .any (l1 ++ l2).toArray l1.length && preB .any (l1 ++ l2).toArray l2.length l1.length 0 (Array.replicate (l1 ++ l2).toArray.size false) && noDeferB l1) = true)
    (h : wpQuietIn F n P (l1 ++ l2).toArray (fun w' => ∃ q, w' = w.drewN q) (fun a' => ∀ w', (∃ q, w' = w.drewN q) → wpListIn F n P (l1 ++ l2).toArray Q l2 a' w') l1 a) : (Code.region id (l1 ++ l2).toArray true).wpIn F n P Q a w := by
  simp only [Bool.and_eq_true] at hB
  obtain ⟨⟨⟨b1, b2⟩, b3⟩, b4⟩ := hB
  refine wpIn_region_any hm ?_
  rw [show (l1 ++ l2).toArray.size = l1.length + l2.length by simp] at b3 ⊢
  refine any_of_T (K := l1.length) (C := fun w' => ∃ q, w' = w.drewN q) (T := fun listed a' => ∀ w', (∃ q, w' = w.drewN q) → wpAnyIn F n P .any (l1 ++ l2).toArray Q l2.length listed a' w') ?_ (fun listed a w hw hT => hT w hw) l1.length _ a _ ⟨1, rfl⟩ ?_
  · intro i o hi ho c hc
    have ho' : l1[i]? = some o := by
      have : (l1 ++ l2)[i]? = some o := by simpa using ho
      rwa [List.getElem?_append_left hi] at this
    have := List.all_eq_true.1 b4 o (List.mem_of_getElem? ho')
    rw [hc] at this
    cases this
  · refine anyT_lex b1 b2 (fun j => by rw [List.getElem?_toArray, List.getElem?_append_right (by omega), Nat.add_sub_cancel_left]) l1 0 _ a (fun j hj => by simp [List.getElem?_append_left hj]) (by simp) (fun j o ho hj => ?_) (fun i _ _ => Nat.zero_le _) b3 h
    exfalso
    rcases Nat.lt_or_ge j (l1.length + l2.length) with hlt | hlt
    · simp [hlt] at hj
    · simp [hlt] at hj
theorem wpIn_region_tail_k (k : Nat) {id : Nat} {Q : Exit → Act → World → Prop} {a : Act} {w : World} {l : List Oper} (hm : P.follows .mixedOrders = true)
    (hB : (Region.noSelect (l.take k ++ l.drop k).toArray && behindB .any (l.take k ++ l.drop k).toArray (l.take k).length && preB .any (l.take k ++ l.drop k).toArray (l.drop k).length (l.take k).length 0 (Array.replicate (l.take k ++ l.drop k).toArray.size false) && noDeferB (l.take k)) = true)
    (h : ∀ l1 l2, l.take k = l1 → l.drop k = l2 → wpQuietIn F n P l.toArray (fun w' => ∃ q, w' = w.drewN q) (fun a' => ∀ w', (∃ q, w' = w.drewN q) → wpListIn F n P l.toArray Q l2 a' w') l1 a) : (Code.region id l.toArray true).wpIn F n P Q a w := by
  have h' := h _ _ rfl rfl
  have e : l = l.take k ++ l.drop k := (List.take_append_drop k l).symm
  have g := wpIn_region_tail (id := id) (Q := Q) (a := a) (w := w) hm hB (by rw [← e]; exact h')
  rw [← e] at g
  exact g
end
end Go.Proofs.YtgmneapgihakgaaGreatDoor
/- A set's texts from one on, one by one. -/
namespace Go.Proofs.YtgmneapgihakgaaGreatDoor
open Go.RowKit Go.Sort
open Tx (Rise At Ord above)
attribute [local go_sem] Oper.semAt_some
/-- What isn't below a text. -/
def notB (l : List Txt) (x : Txt) : List Txt := l.filter (fun y => !slt y x)
theorem drop_notB {l : List Txt} {x : Txt} {p : Nat} (h : At slt l x p) : l.drop p = notB l x := by
  have h1 : (l.take p).filter (fun y => !slt y x) = [] := List.filter_eq_nil_iff.2 (fun y hy => by rw [h.low' y hy]; simp)
  have h2 : (l.drop p).filter (fun y => !slt y x) = l.drop p := List.filter_eq_self.2 (fun y hy => by rw [h.high' y hy]; rfl)
  unfold notB
  conv => rhs; rw [← List.take_append_drop p l]
  rw [List.filter_append, h1, h2]; rfl
theorem notB_rise {l : List Txt} (hr : Rise slt l) (x : Txt) : Rise slt (notB l x) := hr.sublist List.filter_sublist
theorem mid_above {l p t : List Txt} {x : Txt} (hr : Rise slt l) (h : l = p ++ x :: t) : above slt l x = t := by
  subst h
  obtain ⟨_, r2, r3⟩ := List.pairwise_append.1 hr
  have h1 : above slt p x = [] := List.filter_eq_nil_iff.2 (fun y hy => by rw [sord.asy (r3 y hy x (List.mem_cons_self ..))]; simp)
  have h2 : above slt (x :: t) x = t := by
    unfold above
    rw [List.filter_cons, if_neg (by rw [sord.irr]; simp)]
    exact List.filter_eq_self.2 (fun y hy => (List.pairwise_cons.1 r2).1 y hy)
  calc above slt (p ++ x :: t) x = above slt p x ++ above slt (x :: t) x := by unfold above; rw [List.filter_append]
    _ = t := by rw [h1, h2]; rfl
theorem next_notB {ks p t : List Txt} {x fr : Txt} (hr : Rise slt ks) (h : notB ks fr = p ++ x :: t) : above slt ks x = t := by
  have hx : slt x fr = false := by
    have : x ∈ notB ks fr := by rw [h]; simp
    simpa using (List.mem_filter.1 this).2
  have e : above slt ks x = above slt (notB ks fr) x := by
    unfold above notB
    rw [List.filter_filter]
    refine List.filter_congr (fun y _ => ?_)
    cases hy : slt x y with
    | false => simp
    | true =>
      have : slt y fr = false := by
        cases hq : slt y fr with
        | false => rfl
        | true => rw [sord.tr hy hq] at hx; cases hx
      simp [this]
  rw [e]
  exact mid_above (notB_rise hr fr) h
theorem sxNotBelow_any {w : World} {p B : Nat} {v : Value} {l : List Txt} (h : SetT w p B v l) (hl : l.length ≤ 100000) (x : Txt) :
    Calls Tryz.prog 202 #[.pointer (some ⟨p, 0, none⟩), .string (str x)] w fun e w' => e = .returned (.tuple #[.string (str (fst (notB l x)).1), .bool (fst (notB l x)).2]) ∧ ∃ q, w' = w.drewN q := by
  have HP := Lib.hid (sxPlace_any h hl x)
  have HA := Lib.hid (fun (q k : Nat) => sxAt_any (h.drewN q) k)
  clear h
  obtain ⟨r, hr⟩ : ∃ r, r = fst (notB l x) := ⟨_, rfl⟩
  rw [← hr]
  have HR := Lib.hid hr
  clear hr
  go_enter Tryz.func202, Tryz.ntmps202
  go_upto_region 2 with (go_at_call 179; refine HP.out.mono ?_; rintro e w1 ⟨k, rfl, hat, q, rfl⟩; have HAT := Lib.hid hat; clear hat)
  have HE : Hid (atS l (k : Int) = fst (notB l x)) := by
    show _ = _
    rw [fst_drop, drop_notB HAT.out]
  have HA2 := Lib.hid (HA.out q k)
  rw [HE.out, ← HR.out] at HA2
  clear HE
  go_wp2_with (go_at_call 252; refine HA2.out.mono ?_; rintro e w1 ⟨rfl, rfl⟩)
  go_ret2
  exact ⟨rfl, q, rfl⟩
theorem sxFrom1_any {w : World} {p B bs bf : Nat} {v : Value} {l : List Txt} {x : Txt} (h : SetT w p B v l) (hl : l.length ≤ 100000) (c0 : w.cell? ⟨bs, 0, none⟩ = some (.pointer (some ⟨p, 0, none⟩))) (c1 : w.cell? ⟨bf, 0, none⟩ = some (.string (str x))) :
    Calls Tryz.prog 201 #[.pointer (some ⟨bs, 0, none⟩), .pointer (some ⟨bf, 0, none⟩)] w fun e w' => e = .returned (.tuple #[.string (str (fst (notB l x)).1), .bool (fst (notB l x)).2]) ∧ ∃ q, w' = w.drewN q := by
  have HN := Lib.hid (sxNotBelow_any h hl x)
  clear h
  go_enter Tryz.func201, Tryz.ntmps201
  go_wp2_with (go_at_call 202; refine HN.out.mono ?_; rintro e w1 ⟨rfl, q, rfl⟩)
  go_ret2
  exact ⟨rfl, q, rfl⟩
/-- What the row asks of a world. -/
structure FromG (sp B b1 b2 bs bf : Nat) (v : Value) (ks : List Txt) (fr : Txt) (A : World) : Prop where
  set : SetT A sp B v ks
  c1 : A.cell? ⟨b1, 0, none⟩ = some (.func (.func 201) #[] #[.pointer (some ⟨bs, 0, none⟩), .pointer (some ⟨bf, 0, none⟩)])
  c2 : A.cell? ⟨b2, 0, none⟩ = some (.func (.func 184) #[.pointer (some ⟨sp, 0, none⟩)] #[])
  c3 : A.cell? ⟨bs, 0, none⟩ = some (.pointer (some ⟨sp, 0, none⟩))
  c4 : A.cell? ⟨bf, 0, none⟩ = some (.string (str fr))
set_option maxHeartbeats 4000000 in
theorem row1F (n : Nat) (hn : 1 ≤ n) (sp B b1 b2 bs bf : Nat) (v : Value) (ks : List Txt) (fr : Txt) (hks : ks.length ≤ 100000) :
    SeqF (fun x : Txt => #[.string (str x)]) n 251 #[.pointer (some ⟨b1, 0, none⟩), .pointer (some ⟨b2, 0, none⟩)] (FromG sp B b1 b2 bs bf v ks fr) (notB ks fr) := by
  intro l J X W M0 hJ hX hG hY h0 hM0
  refine callsIn_of_wp Tryz.func251 rfl trivial ?_ rfl
  simp only [Tryz.ntmps251, List.size_toArray, List.length_cons, List.length_nil, Nat.reduceAdd, Nat.reduceSub, Array.replicate_succ, Array.replicate_zero, List.push_toArray, List.append_toArray, List.nil_append, List.cons_append]
  have HG0 := Lib.hid (hG _ _ _ h0)
  have HRI := Lib.hid HG0.out.set.rise
  have c1 := HG0.out.c1
  have c2 := HG0.out.c2
  have HL := Lib.hid (sxFrom1_any HG0.out.set hks HG0.out.c3 HG0.out.c4)
  gi_wp2_with (refine ⟨trivial, ?_⟩; gi_at_call 201; refine (callsIn_wide.2 HL.out).mono ?_; rintro e w1 ⟨rfl, q, rfl⟩)
  gi_loopg [4, 5] (notB ks fr).length (fun k s4 s5 wr => ∃ pre rest M, Hid (notB ks fr = pre ++ rest) ∧ k = rest.length ∧ s4 = .string (str (fst rest).1) ∧ s5 = .bool (fst rest).2 ∧ Hid (J pre M wr) ∧ Hid (Went M0 M W wr))
  case atStart => exact ⟨[], notB ks fr, M0, rfl, rfl, rfl, rfl, hJ _ _ _ _ h0 (Stays.drewN _ _ _), ⟨fun _ h => .inl h, Stays.drewN _ _ _⟩⟩
  case round =>
    obtain ⟨pre, rest, M, HPR, rfl, rfl, rfl, hJs, HW⟩ := hrel
    cases rest with
    | nil =>
      have hfin : Hid (J (notB ks fr) M wr) := by have := HPR.out; rw [List.append_nil] at this; rw [this]; exact hJs.out
      have hf : (fst []).2 = false := rfl
      gi_wp2
      go_end0
      exact ⟨⟨_, rfl⟩, HW.out.stays, M, HW.out.grow, .inl hfin.out⟩
    | cons x t =>
      have hf : (fst (x :: t)).2 = true := rfl
      have hf1 : (fst (x :: t)).1 = x := rfl
      rw [hf, hf1]
      obtain ⟨fn, tmps, assign, body, hy, hR⟩ := hY pre x M wr hJs.out (by rw [HPR.out]; exact ⟨t, by simp⟩)
      have HN : Hid (fst (above slt ks x) = fst t) := by show _ = _; rw [next_notB HRI.out HPR.out]
      gi_wp2
      refine hR.mono ?_
      rintro e W3 ⟨M3, hw3, (⟨rfl, hJ3⟩ | ⟨rfl, hX3⟩)⟩
      · have HW3 := Lib.hid (HW.out.trans hw3)
        have HG3 := Lib.hid (hG _ _ _ hJ3)
        have HJ3 := Lib.hid hJ3
        have c31 := HG3.out.c2
        have HA := Lib.hid (sxAbove_any HG3.out.set hks x)
        rw [HN.out] at HA
        clear hJ3 hw3
        gi_wp2_with (refine ⟨trivial, ?_⟩; gi_at_call 184; refine (callsIn_wide.2 HA.out).mono ?_; rintro e w4 ⟨rfl, q, rfl⟩)
        go_roundg t.length
        case rel => exact ⟨pre ++ [x], t, M3, by show _ = _; rw [HPR.out]; simp, rfl, rfl, rfl, hJ _ _ _ _ HJ3.out (Stays.drewN _ _ _), HW3.out.trans ⟨fun _ h => .inl h, Stays.drewN _ _ _⟩⟩
        case measure => simp
      · have HW3 := Lib.hid (HW.out.trans hw3)
        have HX3 := Lib.hid hX3
        clear hX3 hw3
        gi_wp2
        exact bodyPost_ret (results_none rfl _ _ _) rfl ⟨⟨_, rfl⟩, HW3.out.stays, M3, HW3.out.grow, .inr ⟨_, HX3.out⟩⟩
end Go.Proofs.YtgmneapgihakgaaGreatDoor
