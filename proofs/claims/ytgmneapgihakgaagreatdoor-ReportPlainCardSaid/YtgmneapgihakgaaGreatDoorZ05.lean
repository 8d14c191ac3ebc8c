/- Texts of one seat, merged. -/
import Derived.Test.YtgmneapgihakgaaGreatDoorZ02
import Derived.Test.YtgmneapgihakgaaGreatDoorZ04
import Derived.WalkKit
import Derived.Test.YtgmneapgihakgaaGreatDoorZ03
import Derived.Sort.EncStr
import Derived.Sort.OwnSorted
import Derived.Deep.LoopGhost
import Derived.OwnWalk
import Derived.Lib.Hide
import Derived.Below
import Derived.Laws.CopyOwn
import Derived.Laws.CopyRow
import Derived.Laws.AppendOwn
import Derived.Laws.OwnMore
import Derived.Lib.SliceRun
import Derived.Lib.AppendZerosOnto
import Derived.Lib.Overlaps
set_option maxRecDepth 100000
set_option maxHeartbeats 4000000
set_option linter.unusedVariables false
/- Numbers in digits: strconv.FormatUint and FormatInt at base 10, report's number. -/
namespace Go.Proofs.YtgmneapgihakgaaGreatDoor
open Go.RowKit Go.Sort Go.Lib
/-- The table of powers of ten lies where it was laid. -/
def Tb (w : World) : Prop := Lib.TabIs Tryz.prog w "internal/strconv.uint64pow10" .u64 Lib.pow10Tab
theorem Tb.below {w w' : World} (h : Tb w) (hb : Below w.heap.size w w') : Tb w' := by
  unfold Tb Lib.TabIs World.var? at *
  cases hg : Tryz.prog.globalNamed "internal/strconv.uint64pow10" with
  | none => simp [hg] at h
  | some g =>
    simp only [hg, Option.bind_some] at h ⊢
    have hlt : g < w.heap.size := by
      rcases Nat.lt_or_ge g w.heap.size with h' | h'
      · exact h'
      · rw [Array.getElem?_eq_none h'] at h; simp at h
    rw [hb.block g hlt]
    exact h
theorem below_gr (B : Nat) (w : World) (hB : B ≤ w.heap.size) (k : Nat) (os : Array Obj) : Below B w (grow (w.drewN k) os) :=
  ⟨rfl, rfl, rfl, by simp [grow], fun j hj => by rw [heap_grow_old _ _ (by simpa using Nat.lt_of_lt_of_le hj hB)]; rfl⟩
def dec (u : Nat) : List UInt8 := Lib.decDigits u
theorem arr24 : Tryz.prog.arrayLen 349 = 24 := by kernel_rfl
theorem el24 : Tryz.prog.elem 349 = 5 := by kernel_rfl
theorem hz0 (w : World) (T : TypeId) (nd : Nat) (hs : nd ≤ 24) : Holds (fun (b : UInt8) => Value.int .u8 (b.toNat : Int)) (w.alloc (.cells Lib.zeros24 T)) w.heap.size 0 (Array.replicate nd (0 : UInt8)) := fun j hj => by
  have hj' : j < nd := by simpa using hj
  refine ⟨?_, World.frozen?_alloc_new _ _ _ _⟩
  rw [World.cell?_alloc_new, Lib.zeros24_at _ (by omega), getElem!_pos _ j hj]
  simp
theorem fin0 (w : World) (o : Obj) (dk : Array UInt8) (k : Nat) : ∃ os, (putRow (fun (b : UInt8) => Value.int .u8 (b.toNat : Int)) (w.alloc o) w.heap.size 0 dk).drewN k = grow (w.drewN k) os := by
  rw [alloc_eq_grow]
  obtain ⟨os', _, e⟩ := putRow_grow_new (fun (b : UInt8) => Value.int .u8 (b.toNat : Int)) w #[o] w.heap.size 0 dk (Nat.le_refl _)
  exact ⟨os', by rw [e]; rfl⟩
set_option maxHeartbeats 4000000 in
theorem fmtUi_any (u : Nat) (hu64 : u < 18446744073709551616) (w : World) (ht : u < 100 ∨ Tb w) :
    Calls Tryz.prog 272 #[.int .u64 u, .int .i64 10] w fun e w' => e = .returned (.string (str (dec u))) ∧ Below w.heap.size w w' := by
  by_cases hs : u < 100
  · have hw : IntKind.i64.wrap (u : Int) = (u : Int) := by simp [IntKind.wrap, IntKind.bits, IntKind.signed]; omega
    have HS := Lib.hid (fun W => Tryz.internal_strconv_small u hs W)
    have hs' : (u : Int) < 100 := by omega
    go_enter Tryz.func272, Tryz.ntmps272
    go_wp2_with (go_at_call 306; refine (HS.out _).mono ?_; rintro e w' ⟨rfl, rfl⟩)
    go_ret
    exact ⟨rfl, Below.refl _ _⟩
  · have ht := ht.resolve_left hs
    have hu1 : 1 ≤ u := by omega
    have hnd20 : Lib.nDigits u ≤ 20 := by have := Lib.numDigits_eq u hu1 hu64; split at this <;> omega
    have hb3 : Lib.nDigits u ≤ 24 := by omega
    have hs' : ¬ (u : Int) < 100 := by omega
    have hsl : ∀ W, (Instr.sliceAt 349 (.pointer (some ⟨w.heap.size, 0, none⟩)) none (some (.int .i64 (Lib.nDigits u : Int))) none).run Tryz.prog W = .ok (.slice (some ⟨w.heap.size, 0, none⟩) (Lib.nDigits u) 24) W := fun W => by
      rw [run_sliceAt_array_h W 349 ⟨w.heap.size, 0, none⟩ (by simp [Program.arrayLen, Program.elem, Tryz.underlying349]) .i64 (Lib.nDigits u : Int) (by omega) (by rw [arr24]; omega)]
      rw [arr24, el24]
      go_simp
    have hH0 := hz0 w 349 (Lib.nDigits u) hb3
    have hfmt := Tryz.internal_strconv_formatBase10 w.heap.size 0 24 u (Array.replicate (Lib.nDigits u) 0) (w.alloc (.cells Lib.zeros24 349)) hH0 (by rw [Array.size_replicate]; exact Lib.lt_pow_nDigits u) hu64 (by rw [Array.size_replicate]; omega)
    rw [Array.size_replicate] at hfmt
    have HH0 := Lib.hid hH0
    have hT : Tb (w.alloc (.cells Lib.zeros24 349)) := ht.below ((Below.refl _ _).alloc (Nat.le_refl _) _)
    have HND := Lib.hid (Tryz.internal_strconv_numDigits u hu1 hu64 _ hT)
    have HFM := Lib.hid hfmt
    clear hH0 hfmt hT
    go_enter Tryz.func272, Tryz.ntmps272
    go_wp2_with (go_at_call 307; refine HND.out.mono ?_; rintro e w' ⟨rfl, rfl⟩)
    go_at_call 308
    refine HFM.out.mono ?_
    rintro e w' ⟨rfl, k, v', dk, rfl, hF⟩
    have hcv : (convert 125 9 (.slice (some ⟨w.heap.size, 0, none⟩) (Lib.nDigits u) 24)).run Tryz.prog ((putRow (fun (b : UInt8) => Value.int .u8 (b.toNat : Int)) (w.alloc (.cells Lib.zeros24 349)) w.heap.size 0 dk).drewN k) = .ok (.string ⟨(Lib.decDigits u).toArray⟩) ((putRow (fun (b : UInt8) => Value.int .u8 (b.toNat : Int)) (w.alloc (.cells Lib.zeros24 349)) w.heap.size 0 dk).drewN k) := by
      have h := run_convert_bytes_back (P := Tryz.prog) ((putRow (fun (b : UInt8) => Value.int .u8 (b.toNat : Int)) (w.alloc (.cells Lib.zeros24 349)) w.heap.size 0 dk).drewN k) 125 9 5 ⟨w.heap.size, 0, none⟩ 24 (Lib.decDigits u) Tryz.underlying125 Tryz.underlying5 Tryz.underlying9 (fun j hj => by
        rw [Lib.row_is_numeral hF j hj, Lib.add_plain, World.cell?_drewN]
        exact cell?_putRow (fun (b : UInt8) => Value.int .u8 (b.toNat : Int)) _ w.heap.size 0 _ dk HH0.out (by rw [hF.size, Array.size_replicate]) j (by rw [hF.size]; rw [Lib.decDigits_length] at hj; exact hj))
      rw [Lib.decDigits_length] at h
      exact h
    go_wp2
    go_ret
    refine ⟨rfl, ?_⟩
    obtain ⟨os, eo⟩ := fin0 w (.cells Lib.zeros24 349) dk k
    rw [eo]
    exact below_gr _ _ (Nat.le_refl _) _ _
theorem fmtU_any (u : Nat) (hu64 : u < 18446744073709551616) (w : World) (ht : u < 100 ∨ Tb w) :
    Calls Tryz.prog 220 #[.int .u64 u, .int .i64 10] w fun e w' => e = .returned (.string (str (dec u))) ∧ Below w.heap.size w w' := by
  have H := Lib.hid (fmtUi_any u hu64 w ht)
  clear ht
  go_enter Tryz.func220, Tryz.ntmps220
  go_wp2_with (go_at_call 272; refine H.out.mono ?_; rintro e1 w1 ⟨rfl, hb1⟩)
  go_ret
  exact ⟨rfl, hb1⟩
theorem nm64_any (u : Nat) (hu64 : u < 18446744073709551616) (w : World) (ht : u < 100 ∨ Tb w) :
    Calls Tryz.prog 129 #[.int .u64 u] w fun e w' => e = .returned (.string (str (dec u))) ∧ Below w.heap.size w w' := by
  have H := Lib.hid (fmtU_any u hu64 w ht)
  have h0 : ¬ (u : Int) < 0 := by omega
  clear ht
  go_enter Tryz.func129, Tryz.ntmps129
  go_wp2_with (go_at_call 220; refine H.out.mono ?_; rintro e1 w1 ⟨rfl, hb1⟩)
  go_ret
  exact ⟨rfl, hb1⟩
theorem nm32_any (u : Nat) (hu : u < 4294967296) (w : World) (ht : u < 100 ∨ Tb w) :
    Calls Tryz.prog 128 #[.int .u32 u] w fun e w' => e = .returned (.string (str (dec u))) ∧ Below w.heap.size w w' := by
  have H := Lib.hid (fmtU_any u (by omega) w ht)
  have h0 : ¬ (u : Int) < 0 := by omega
  have hw : IntKind.u64.wrap (u : Int) = (u : Int) := by simp [IntKind.wrap, IntKind.bits, IntKind.signed]; omega
  clear ht
  go_enter Tryz.func128, Tryz.ntmps128
  go_wp2_with (go_at_call 220; refine H.out.mono ?_; rintro e1 w1 ⟨rfl, hb1⟩)
  go_ret
  exact ⟨rfl, hb1⟩
def decI (i : Int) : List UInt8 := Lib.itoa i
theorem decI_nat (u : Nat) : decI u = dec u := Lib.itoa_nonneg u
theorem nmI_any (i : Int) (h0 : -9223372036854775808 ≤ i) (h1 : i ≤ 9223372036854775807) (w : World) (ht : Tb w) :
    Calls Tryz.prog 132 #[.int .i64 i] w fun e w' => e = .returned (.string (str (decI i))) ∧ Below w.heap.size w w' := by
  by_cases hn : i < 0
  · have H := Lib.hid (Tryz.strconv_FormatInt_10 i h0 h1 w ht)
    clear ht
    go_enter Tryz.func132, Tryz.ntmps132
    go_wp2_with (go_at_call 219; refine H.out.mono ?_; rintro e1 w1 ⟨rfl, k, os, rfl⟩)
    go_ret
    exact ⟨rfl, below_gr _ _ (Nat.le_refl _) _ _⟩
  · obtain ⟨u, rfl⟩ : ∃ u : Nat, i = u := ⟨i.toNat, by omega⟩
    have H := Lib.hid (fmtU_any u (by omega) w (.inr ht))
    have hw : IntKind.u64.wrap (u : Int) = (u : Int) := by simp [IntKind.wrap, IntKind.bits, IntKind.signed]; omega
    rw [decI_nat]
    clear ht h0 h1
    go_enter Tryz.func132, Tryz.ntmps132
    go_wp2_with (go_at_call 220; refine H.out.mono ?_; rintro e1 w1 ⟨rfl, hb1⟩)
    go_ret
    exact ⟨rfl, hb1⟩
theorem dec_len (u : Nat) (hu : u < 18446744073709551616) : (dec u).length ≤ 20 := by
  unfold dec
  rw [Lib.decDigits_length]
  by_cases h : 1 ≤ u
  · have := Lib.numDigits_eq u h hu; split at this <;> omega
  · rw [Lib.nDigits_small (by omega)]; omega
theorem decI_len (i : Int) (h0 : -9223372036854775808 ≤ i) (h1 : i ≤ 9223372036854775807) : (decI i).length ≤ 21 := by
  unfold decI Lib.itoa
  split
  · have := dec_len i.natAbs (by omega)
    unfold dec at this
    rw [List.length_cons]; omega
  · have := dec_len i.toNat (by omega)
    unfold dec at this
    omega
theorem errno_any (i : Int) (h0 : -9223372036854775808 ≤ i) (h1 : i ≤ 9223372036854775807) (w : World) (ht : Tb w) :
    Calls Tryz.prog 133 #[.int .i64 i] w fun e w' => e = .returned (.string (str ([101, 114, 114, 111, 114, 32] ++ decI i))) ∧ Below w.heap.size w w' := by
  have H := Lib.hid (Tryz.strconv_Itoa i h0 h1 w ht)
  have hl := decI_len i h0 h1
  clear ht h0 h1
  have hd : Hid (Lib.itoa i = decI i) := rfl
  rw [hd.out] at H
  have hS : Hid ((⟨#[101, 114, 114, 111, 114, 32]⟩ : ByteArray) ++ str (decI i) = str ([101, 114, 114, 111, 114, 32] ++ decI i)) := str_append _ _
  go_enter Tryz.func133, Tryz.ntmps133
  go_wp2_with (go_at_call 221; refine H.out.mono ?_; rintro e1 w1 ⟨rfl, k, os, rfl⟩)
  go_ret
  exact ⟨ret_string hS.out, below_gr _ _ (Nat.le_refl _) _ _⟩
end Go.Proofs.YtgmneapgihakgaaGreatDoor
/- Rows that rise: what stands below and above a thing, with one more, with one less; two of the same things are the same. -/
namespace Go.Proofs.YtgmneapgihakgaaGreatDoor.Tx
/-- An order. -/
structure Ord {α : Type} (lt : α → α → Bool) : Prop where
  irr : ∀ x, lt x x = false
  tr : ∀ {x y z}, lt x y = true → lt y z = true → lt x z = true
  tri : ∀ {x y}, lt x y = false → lt y x = false → x = y
variable {α : Type} {lt : α → α → Bool}
abbrev Rise (lt : α → α → Bool) (l : List α) : Prop := l.Pairwise (fun a b => lt a b = true)
theorem Ord.asy (O : Ord lt) {x y : α} (h : lt x y = true) : lt y x = false := by
  cases h2 : lt y x with
  | false => rfl
  | true => have := O.tr h h2; rw [O.irr] at this; cases this
theorem Ord.ne (O : Ord lt) {x y : α} (h : lt x y = true) : x ≠ y := by
  rintro rfl; rw [O.irr] at h; cases h
/-- Rising rows of the same things are the same. -/
theorem Rise.uniq (O : Ord lt) : ∀ {l l' : List α}, Rise lt l → Rise lt l' → (∀ x, x ∈ l ↔ x ∈ l') → l = l'
  | [], [], _, _, _ => rfl
  | [], y :: t, _, _, h => absurd ((h y).2 (List.mem_cons_self ..)) (by simp)
  | x :: s, [], _, _, h => absurd ((h x).1 (List.mem_cons_self ..)) (by simp)
  | x :: s, y :: t, h1, h2, h => by
    have a1 := (List.pairwise_cons.1 h1)
    have a2 := (List.pairwise_cons.1 h2)
    have hxy : x = y := by
      rcases List.mem_cons.1 ((h x).1 (List.mem_cons_self ..)) with e | e
      · exact e
      · rcases List.mem_cons.1 ((h y).2 (List.mem_cons_self ..)) with e' | e'
        · exact e'.symm
        · have := O.tr (a2.1 x e) (a1.1 y e'); rw [O.irr] at this; cases this
    subst hxy
    congr 1
    refine Rise.uniq O a1.2 a2.2 (fun z => ⟨fun hz => ?_, fun hz => ?_⟩)
    · rcases List.mem_cons.1 ((h z).1 (List.mem_cons_of_mem _ hz)) with e | e
      · subst e; have := a1.1 z hz; rw [O.irr] at this; cases this
      · exact e
    · rcases List.mem_cons.1 ((h z).2 (List.mem_cons_of_mem _ hz)) with e | e
      · subst e; have := a2.1 z hz; rw [O.irr] at this; cases this
      · exact e
/-- What stands above a thing. -/
def above (lt : α → α → Bool) (l : List α) (x : α) : List α := l.filter (fun y => lt x y)
/-- Where a thing stands, or would stand. -/
structure At (lt : α → α → Bool) (l : List α) (x : α) (p : Nat) : Prop where
  le : p ≤ l.length
  low : ∀ m y, m < p → l[m]? = some y → lt y x = true
  high : ∀ m y, p ≤ m → l[m]? = some y → lt y x = false
theorem At.low' {l : List α} {x : α} {p : Nat} (h : At lt l x p) : ∀ y ∈ l.take p, lt y x = true := fun y hy => by
  obtain ⟨m, hm⟩ := List.mem_iff_getElem?.1 hy
  have hlt := (List.getElem?_eq_some_iff.1 hm).1
  rw [List.length_take] at hlt
  exact h.low m y (by omega) (by rw [List.getElem?_take_of_lt (by omega)] at hm; exact hm)
theorem At.high' {l : List α} {x : α} {p : Nat} (h : At lt l x p) : ∀ y ∈ l.drop p, lt y x = false := fun y hy => by
  obtain ⟨m, hm⟩ := List.mem_iff_getElem?.1 hy
  rw [List.getElem?_drop] at hm
  exact h.high (p + m) y (by omega) hm
/-- It stands there, if it is there. -/
theorem At.mem (O : Ord lt) {l : List α} {x : α} {p : Nat} (h : At lt l x p) (hr : Rise lt l) : x ∈ l ↔ l[p]? = some x := by
  refine ⟨fun hx => ?_, fun hx => List.mem_of_getElem? hx⟩
  obtain ⟨m, hm⟩ := List.mem_iff_getElem?.1 hx
  have h1 : p ≤ m := by
    apply Decidable.byContradiction; intro hn
    have := h.low m x (by omega) hm; rw [O.irr] at this; cases this
  rcases Nat.lt_or_ge p m with h2 | h2
  · have hl := (List.getElem?_eq_some_iff.1 hm).1
    have hp : l[p]? = some (l[p]'(by omega)) := List.getElem?_eq_getElem (by omega)
    have h3 := h.high p _ (Nat.le_refl _) hp
    have h4 : lt (l[p]'(by omega)) (l[m]'hl) = true := List.pairwise_iff_getElem.1 hr p m (by omega) hl h2
    rw [(List.getElem?_eq_some_iff.1 hm).2, h3] at h4; cases h4
  · obtain rfl : p = m := by omega
    exact hm
theorem At.drop_above (O : Ord lt) {l : List α} {x : α} {p : Nat} (h : At lt l x p) (hr : Rise lt l) (hx : l[p]? ≠ some x) : l.drop p = above lt l x := by
  have e : l = l.take p ++ l.drop p := (List.take_append_drop p l).symm
  have h1 : above lt (l.take p) x = [] := List.filter_eq_nil_iff.2 (fun y hy => by rw [O.asy (h.low' y hy)]; simp)
  have h2 : above lt (l.drop p) x = l.drop p := List.filter_eq_self.2 (fun y hy => by
    cases hxy : lt x y with
    | true => rfl
    | false =>
      have := O.tri hxy (h.high' y hy)
      subst this
      exact absurd ((h.mem O hr).1 (List.mem_of_mem_drop hy)) hx)
  calc l.drop p = above lt (l.take p) x ++ above lt (l.drop p) x := by rw [h1, h2]; rfl
    _ = above lt (l.take p ++ l.drop p) x := by unfold above; rw [List.filter_append]
    _ = above lt l x := by rw [← e]
theorem At.drop_above1 (O : Ord lt) {l : List α} {x : α} {p : Nat} (h : At lt l x p) (hr : Rise lt l) (hx : l[p]? = some x) : l.drop (p + 1) = above lt l x := by
  have hl := (List.getElem?_eq_some_iff.1 hx).1
  have e1 : l.drop p = x :: l.drop (p + 1) := by rw [List.drop_eq_getElem_cons hl, (List.getElem?_eq_some_iff.1 hx).2]
  have e : l = l.take p ++ x :: l.drop (p + 1) := by rw [← e1]; exact (List.take_append_drop p l).symm
  have h1 : above lt (l.take p) x = [] := List.filter_eq_nil_iff.2 (fun y hy => by rw [O.asy (h.low' y hy)]; simp)
  have hr2 : Rise lt (x :: l.drop (p + 1)) := by rw [← e1]; exact hr.sublist (List.drop_sublist _ _)
  have h2 : above lt (x :: l.drop (p + 1)) x = l.drop (p + 1) := by
    unfold above
    rw [List.filter_cons, if_neg (by rw [O.irr]; simp)]
    exact List.filter_eq_self.2 (fun y hy => (List.pairwise_cons.1 hr2).1 y hy)
  calc l.drop (p + 1) = above lt (l.take p) x ++ above lt (x :: l.drop (p + 1)) x := by rw [h1, h2]; rfl
    _ = above lt (l.take p ++ x :: l.drop (p + 1)) x := by unfold above; rw [List.filter_append]
    _ = above lt l x := by rw [← e]
/-- Behind the first one above a thing, those above that. -/
theorem above_tail (O : Ord lt) {l : List α} {x y : α} {t : List α} (hr : Rise lt l) (h : above lt l x = y :: t) : above lt l y = t := by
  have hy : lt x y = true := by
    have := List.mem_cons_self (a := y) (l := t)
    rw [← h] at this
    exact (List.mem_filter.1 this).2
  have hr2 : Rise lt (y :: t) := by rw [← h]; exact hr.sublist List.filter_sublist
  have h1 : above lt l y = above lt (above lt l x) y := by
    unfold above
    rw [List.filter_filter]
    refine List.filter_congr (fun z _ => ?_)
    cases hz : lt y z with
    | false => simp
    | true => simp [O.tr hy hz]
  rw [h1, h]
  unfold above
  rw [List.filter_cons, if_neg (by rw [O.irr]; simp)]
  exact List.filter_eq_self.2 (fun z hz => (List.pairwise_cons.1 hr2).1 z hz)
/-- With one more. -/
def ins (l : List α) (p : Nat) (x : α) : List α := l.take p ++ x :: l.drop p
theorem ins_mem {l : List α} {p : Nat} {x y : α} : y ∈ ins l p x ↔ y = x ∨ y ∈ l := by
  unfold ins
  constructor
  · intro h
    rcases List.mem_append.1 h with h | h
    · exact .inr (List.mem_of_mem_take h)
    · rcases List.mem_cons.1 h with h | h
      · exact .inl h
      · exact .inr (List.mem_of_mem_drop h)
  · rintro (rfl | h)
    · simp
    · rw [← List.take_append_drop p l] at h
      rcases List.mem_append.1 h with h | h
      · exact List.mem_append.2 (.inl h)
      · exact List.mem_append.2 (.inr (List.mem_cons_of_mem _ h))
theorem At.ins_rise (O : Ord lt) {l : List α} {x : α} {p : Nat} (h : At lt l x p) (hr : Rise lt l) (hx : l[p]? ≠ some x) : Rise lt (ins l p x) := by
  have e := (List.take_append_drop p l)
  have hr' : Rise lt (l.take p ++ l.drop p) := by rw [e]; exact hr
  obtain ⟨r1, r2, r3⟩ := List.pairwise_append.1 hr'
  have ha : ∀ y ∈ l.drop p, lt x y = true := fun y hy => by
    rw [h.drop_above O hr hx] at hy
    exact (List.mem_filter.1 hy).2
  refine List.pairwise_append.2 ⟨r1, List.pairwise_cons.2 ⟨ha, r2⟩, fun a hA b hB => ?_⟩
  rcases List.mem_cons.1 hB with rfl | hB
  · exact h.low' a hA
  · exact r3 a hA b hB
/-- With one less. -/
def del (l : List α) (p : Nat) : List α := l.take p ++ l.drop (p + 1)
theorem del_rise {l : List α} (p : Nat) (hr : Rise lt l) : Rise lt (del l p) := by
  have : List.Sublist (del l p) l := by
    conv => rhs; rw [← List.take_append_drop p l]
    exact List.Sublist.append (List.Sublist.refl _) (by rw [← List.drop_drop]; exact List.drop_sublist _ _)
  exact hr.sublist this
theorem del_mem (O : Ord lt) {l : List α} {p : Nat} {x y : α} (hr : Rise lt l) (hx : l[p]? = some x) : y ∈ del l p ↔ y ≠ x ∧ y ∈ l := by
  have hl := (List.getElem?_eq_some_iff.1 hx).1
  have e1 : l.drop p = x :: l.drop (p + 1) := by rw [List.drop_eq_getElem_cons hl, (List.getElem?_eq_some_iff.1 hx).2]
  have e : l.take p ++ x :: l.drop (p + 1) = l := by rw [← e1]; exact List.take_append_drop p l
  have hr2 : Rise lt (l.take p ++ x :: l.drop (p + 1)) := by rw [e]; exact hr
  obtain ⟨_, r2, r3⟩ := List.pairwise_append.1 hr2
  have r4 := (List.pairwise_cons.1 r2).1
  constructor
  · intro h
    rcases List.mem_append.1 h with h | h
    · exact ⟨O.ne (r3 y h x (List.mem_cons_self ..)), List.mem_of_mem_take h⟩
    · exact ⟨fun e => O.ne (r4 y h) e.symm, List.mem_of_mem_drop h⟩
  · rintro ⟨hne, h⟩
    rw [← e] at h
    rcases List.mem_append.1 h with h | h
    · exact List.mem_append.2 (.inl h)
    · rcases List.mem_cons.1 h with h | h
      · exact absurd h hne
      · exact List.mem_append.2 (.inr h)
end Go.Proofs.YtgmneapgihakgaaGreatDoor.Tx
/- Rows of one-cell things of one's own; what the library's writing in place leaves of them. -/
namespace Go.Proofs.YtgmneapgihakgaaGreatDoor
open Go.RowKit Go.Sort
/-- A slice that holds a row. -/
def SlP {α : Type} (enc : α → Value) (w : World) (v : Value) (l : List α) : Prop :=
  ∃ (a : Option Addr) (b o c : Nat), v = .slice a l.length c ∧ (l = [] ∨ a = some ⟨b, o, none⟩) ∧ ∀ (j : Nat) x, l[j]? = some x → w.cell? ⟨b, o + j, none⟩ = some (enc x)
theorem SlP.below {α : Type} {enc : α → Value} {B : Nat} {w w' : World} {v : Value} {l : List α} (h : SlP enc w v l) (hs : B = w.heap.size) (hb : Below B w w') : SlP enc w' v l := by
  subst hs
  obtain ⟨a, b, o, c, hv, ha, hx⟩ := h
  refine ⟨a, b, o, c, hv, ha, fun j x hj => ?_⟩
  have h0 := hx j x hj
  exact (hb.cell (p := ⟨b, o + j, none⟩) (World.block_lt_of_cell? _ _ h0)).trans h0
theorem SlP.slice {α : Type} {enc : α → Value} {w : World} {v : Value} {l : List α} (h : SlP enc w v l) : ∃ a c, v = .slice a l.length c := by
  obtain ⟨a, _, _, c, rfl, _⟩ := h
  exact ⟨a, c, rfl⟩
/-- A row of one's own. -/
def RowP {α : Type} (enc : α → Value) (t : TypeId) (w : World) (B : Nat) (v : Value) (l : List α) : Prop := w.ownsRow B t 1 v l.length (l.map enc)
variable {α : Type} {enc : α → Value} {t : TypeId} {w w' : World} {B B' : Nat} {v : Value} {l : List α}
theorem RowP.nil (enc : α → Value) (t : TypeId) (w : World) (B : Nat) : RowP enc t w B (.slice none 0 0) [] := World.ownsRow_nil _ _ _ _
theorem RowP.open (h : RowP enc t w B v l) : (v = .slice none 0 0 ∧ l = []) ∨ ∃ (g cap : Nat) (cur : Array Value), v = .slice (some ⟨g, 0, none⟩) l.length cap ∧ B ≤ g ∧ w.heap[g]? = some (.cells cur t (0, 0)) ∧ l.length ≤ cap ∧ cap ≤ maxLen ∧ cur.size = cap ∧ cur.toList.take l.length = l.map enc := by
  have h' : w.ownsRow B t 1 v l.length (l.map enc) := h
  rcases h'.2 with ⟨rfl, h0⟩ | ⟨g, cap, cur, rfl, hB, hg, h2, h3, h4, h5⟩
  · exact .inl ⟨rfl, List.length_eq_zero_iff.1 h0⟩
  · exact .inr ⟨g, cap, cur, rfl, hB, hg, h2, h3, by simpa using h4, by simpa using h5⟩
theorem RowP.mk {g cap : Nat} {cur : Array Value} (hB : B ≤ g) (hg : w.heap[g]? = some (.cells cur t (0, 0))) (h1 : l.length ≤ cap) (h2 : cap ≤ maxLen) (h3 : cur.size = cap) (h4 : cur.toList.take l.length = l.map enc) : RowP enc t w B (.slice (some ⟨g, 0, none⟩) l.length cap) l :=
  ⟨by simp, .inr ⟨g, cap, cur, rfl, hB, hg, h1, h2, by simpa using h3, by simpa using h4⟩⟩
theorem RowP.slice (h : RowP enc t w B v l) : ∃ a c, v = .slice a l.length c := by
  rcases h.open with ⟨rfl, rfl⟩ | ⟨g, cap, cur, rfl, _⟩
  · exact ⟨none, 0, rfl⟩
  · exact ⟨_, _, rfl⟩
theorem RowP.cells (h : RowP enc t w B v l) {g o n c : Nat} (hv : v = .slice (some ⟨g, o, none⟩) n c) : o = 0 ∧ ∀ j x, l[j]? = some x → w.cell? ⟨g, j, none⟩ = some (enc x) ∧ w.frozen? ⟨g, j, none⟩ = false := by
  rcases h.open with ⟨rfl, rfl⟩ | ⟨g', cap, cur, rfl, _, hg, h1, _, h3, h4⟩
  · cases hv
  · cases hv
    refine ⟨rfl, fun j x hj => ⟨?_, by simp [World.frozen?, hg]⟩⟩
    have hlt := (List.getElem?_eq_some_iff.1 hj).1
    have : (cur.toList.take l.length)[j]? = some (enc x) := by rw [h4, List.getElem?_map, hj]; rfl
    rw [List.getElem?_take_of_lt hlt] at this
    simp [World.cell?, hg]
    simpa using this
theorem RowP.sl (h : RowP enc t w B v l) : SlP enc w v l := by
  rcases h.open with ⟨rfl, rfl⟩ | ⟨g, cap, cur, rfl, _⟩
  · exact ⟨none, 0, 0, 0, rfl, .inl rfl, fun j p hj => by simp at hj⟩
  · exact ⟨_, g, 0, cap, rfl, .inr rfl, fun j x hj => by rw [Nat.zero_add]; exact ((h.cells rfl).2 j x hj).1⟩
theorem RowP.below (h : RowP enc t w B v l) (hb : Below w.heap.size w w') : RowP enc t w' B v l := by
  rcases h.open with ⟨rfl, rfl⟩ | ⟨g, cap, cur, rfl, hB, hg, h1, h2, h3, h4⟩
  · exact RowP.nil _ _ _ _
  · exact .mk hB ((hb.block g (Array.getElem?_eq_some_iff.1 hg).1).trans hg) h1 h2 h3 h4
theorem RowP.base (h : RowP enc t w B v l) (hb : B' ≤ B) : RowP enc t w B' v l := by
  rcases h.open with ⟨rfl, rfl⟩ | ⟨g, cap, cur, rfl, hB, hg, h1, h2, h3, h4⟩
  · exact RowP.nil _ _ _ _
  · exact .mk (Nat.le_trans hb hB) hg h1 h2 h3 h4
/-- It stays where its block stays. -/
theorem RowP.keep (h : RowP enc t w B v l) (hk : ∀ g, v.ownBlock = some g → w'.heap[g]? = w.heap[g]?) : RowP enc t w' B v l := by
  rcases h.open with ⟨rfl, rfl⟩ | ⟨g, cap, cur, rfl, hB, hg, h1, h2, h3, h4⟩
  · exact RowP.nil _ _ _ _
  · exact .mk hB ((hk g rfl).trans hg) h1 h2 h3 h4
theorem RowP.lt (h : RowP enc t w B v l) {g : Nat} (hg : v.ownBlock = some g) : g < w.heap.size ∧ B ≤ g := by
  rcases h.open with ⟨rfl, rfl⟩ | ⟨g', cap, cur, rfl, hB, hg', _⟩
  · cases hg
  · cases hg; exact ⟨(Array.getElem?_eq_some_iff.1 hg').1, hB⟩
theorem getB [Inhabited α] {l : List α} {j : Nat} {x : α} (h : l[j]? = some x) : l.toArray[j]! = x := by
  have hl := (List.getElem?_eq_some_iff.1 h).1
  rw [getElem!_pos _ j (by simpa using hl)]
  simpa using (List.getElem?_eq_some_iff.1 h).2
theorem RowP.holds [Inhabited α] (h : RowP enc t w B v l) {g n c : Nat} (hv : v = .slice (some ⟨g, 0, none⟩) n c) : Holds enc w g 0 l.toArray := by
  intro j hj
  have hx : l[j]? = some l[j] := List.getElem?_eq_getElem (by simpa using hj)
  rw [getB hx, Nat.zero_add]
  exact (h.cells hv).2 j _ hx
theorem heap_putP [Inhabited α] {g n : Nat} {os : Array Obj} {cur : Array Value} {e : TypeId} {fr : Nat × Nat} (F : Array α) (hb : w.heap[g]? = some (.cells cur e fr)) :
    (grow (putRow enc (Sort.ahead w n) g 0 F) os).heap[g]? = some (.cells (putCells enc 0 F cur) e fr) := by
  have hg : g < w.heap.size := (Array.getElem?_eq_some_iff.1 hb).1
  rw [heap_grow_old _ _ (by simpa using hg)]
  simp [putRow, mapBlock, Sort.ahead, Array.getElem?_modify, hb, onCells]
theorem below_putP [Inhabited α] {g n : Nat} {os : Array Obj} (F : Array α) (hB : B ≤ g) (hg : g < w.heap.size) : Below B w (grow (putRow enc (Sort.ahead w n) g 0 F) os) := by
  refine ⟨rfl, rfl, rfl, by simp [grow, putRow, mapBlock, Sort.ahead], fun k hk => ?_⟩
  rw [heap_grow_old _ _ (by simp [putRow, mapBlock, Sort.ahead]; omega)]
  have : g ≠ k := by omega
  simp [putRow, mapBlock, Sort.ahead, Array.getElem?_modify, this]
theorem take_putP [Inhabited α] (cur : Array Value) (F : List α) (m : Nat) (h : F.length ≤ cur.size) (hm : m ≤ F.length) : (putCells enc 0 F.toArray cur).toList.take m = (F.take m).map enc := by
  apply List.ext_getElem?
  intro j
  by_cases hj : j < m
  · have hjF : j < F.length := by omega
    rw [List.getElem?_take_of_lt hj, Array.getElem?_toList, List.getElem?_map, List.getElem?_take_of_lt hj, List.getElem?_eq_getElem hjF]
    have : F.toArray[j]! = F[j] := getB (List.getElem?_eq_getElem hjF)
    simp [putCells, hjF, show j < cur.size by omega]
  · rw [List.getElem?_take_eq_none (by omega), List.getElem?_eq_none (by simp; omega)]
theorem size_putP [Inhabited α] (cur : Array Value) (F : Array α) (o : Nat) : (putCells enc o F cur).size = cur.size := by simp [putCells]
theorem grow_none (w : World) : grow w #[] = w := by simp [grow]
/-- WHAT IS WRITTEN OVER A ROW OF ONE'S OWN: what it holds then, cut to a length. -/
theorem RowP.put [Inhabited α] {g cap n : Nat} {os : Array Obj} (h : RowP enc t w B (.slice (some ⟨g, 0, none⟩) l.length cap) l) (F : List α) (m : Nat) (hF : F.length = l.length) (hm : m ≤ F.length) :
    RowP enc t (grow (putRow enc (Sort.ahead w n) g 0 F.toArray) os) B (.slice (some ⟨g, 0, none⟩) m cap) (F.take m) ∧ Below B w (grow (putRow enc (Sort.ahead w n) g 0 F.toArray) os) := by
  rcases h.open with ⟨hv, _⟩ | ⟨g', cap', cur, hv, hB, hg, h1, h2, h3, h4⟩
  · cases hv
  · cases hv
    have hl : (F.take m).length = m := by rw [List.length_take]; omega
    refine ⟨?_, below_putP _ hB (Array.getElem?_eq_some_iff.1 hg).1⟩
    have := RowP.mk (enc := enc) (t := t) (l := F.take m) (w := grow (putRow enc (Sort.ahead w n) g 0 F.toArray) os) (B := B) (cap := cap) hB (heap_putP F.toArray hg) (by rw [hl]; omega) h2 (by rw [size_putP]; exact h3) (by rw [hl]; exact take_putP cur F m (by omega) hm)
    rw [hl] at this
    exact this
/-- Nothing but a set's box and its row is another. -/
structure SetK (p B : Nat) (v : Value) (w w' : World) : Prop where
  size : w.heap.size ≤ w'.heap.size
  os : w'.os = w.os
  tape : w'.tape = w.tape
  output : w'.output = w.output
  keep : ∀ k, k ≠ p → v.ownBlock ≠ some k → k < w.heap.size → w'.heap[k]? = w.heap[k]?
theorem cell_same {w w' : World} {p : Nat} (h : w'.heap[p]? = w.heap[p]?) (o : Nat) : w'.cell? ⟨p, o, none⟩ = w.cell? ⟨p, o, none⟩ := by simp [World.cell?, h]
theorem frozen_same {w w' : World} {p : Nat} (h : w'.heap[p]? = w.heap[p]?) (o : Nat) : w'.frozen? ⟨p, o, none⟩ = w.frozen? ⟨p, o, none⟩ := by simp [World.frozen?, h]
theorem SetK.stored {w w2 : World} {p B : Nat} {v : Value} (hs : w.heap.size ≤ w2.heap.size) (ho : w2.os = w.os) (ht : w2.tape = w.tape) (hou : w2.output = w.output) (hk : ∀ k, v.ownBlock ≠ some k → k < w.heap.size → w2.heap[k]? = w.heap[k]?) (u : Value) :
    SetK p B v w (w2.setCell ⟨p, 0, none⟩ u) := by
  refine ⟨?_, ?_, ?_, ?_, fun k hp hv hlt => (Below.heap_setCell w2 _ u k hp).trans (hk k hv hlt)⟩
  · simpa [World.setCell] using hs
  · simpa [World.setCell] using ho
  · simpa [World.setCell] using ht
  · simpa [World.setCell] using hou
theorem ins_len {α : Type} {l : List α} {p : Nat} {x : α} (h : p ≤ l.length) : (Tx.ins l p x).length = l.length + 1 := by
  unfold Tx.ins; simp; omega
theorem del_len {α : Type} {l : List α} {p : Nat} (h : p < l.length) : (Tx.del l p).length = l.length - 1 := by
  unfold Tx.del; simp; omega
end Go.Proofs.YtgmneapgihakgaaGreatDoor
/- Copying, clearing and shifting rows of structs in a block that is known whole. -/
namespace Go.Proofs.YtgmneapgihakgaaGreatDoor
open Go.RowKit
section
variable {P : Program}
theorem run_copy_rowS (w : World) (dT sT ty elem : TypeId) (S : Nat) (g o dLen dCap : Nat) (a : Addr) (sLen sCap : Nat) (cur : Array Value) (t : TypeId) (cs : List Value)
    (hu : P.underlying dT = some (.slice elem)) (hs : (P.info? elem).map (·.size) = some S)
    (hg : w.heap[g]? = some (.cells cur t (0, 0))) (hn : cs.length = Nat.min sLen dLen * S)
    (hsrc : ∀ j v, cs[j]? = some v → w.cell? (a.add j) = some v) (hfit : o + cs.length ≤ cur.size) (h1 : ∀ v ∈ cs, v.oneCell' = true) :
    (Builtin.copy_ #[dT, sT] ty #[.slice (some ⟨g, o, none⟩) dLen dCap, .slice (some a) sLen sCap]).run P w =
      .ok (goInt (Nat.min sLen dLen)) (w.setRow g (cur.toList.take o ++ cs ++ cur.toList.drop (o + cs.length)).toArray) := by
  have hl := run_loadCells_list (P := P) w a cs hsrc
  have hst := run_storeCells_at P g o t cs 0 cur w hg (by simpa using hfit) h1
  cases hq : P.info? elem with
  | none => simp [hq] at hs
  | some i =>
    have hi : i.size = S := by simpa [hq] using hs
    simp [Builtin.copy_, run_underlying hu, Builtin.lenOf, Builtin.firstCells, sizeOf, typeInfo, hq, hi, ← hn, hl, hst]
theorem setCells_row (g : Nat) (t : TypeId) : ∀ (vs : List Value) (o : Nat) (cur : Array Value) (w : World), w.heap[g]? = some (.cells cur t (0, 0)) → o + vs.length ≤ cur.size →
    w.setCells g o vs = w.setRow g (cur.toList.take o ++ vs ++ cur.toList.drop (o + vs.length)).toArray
  | [], o, cur, w, hg, _ => by
    simp only [World.setCells, List.append_nil, List.length_nil, Nat.add_zero, List.take_append_drop, Array.toArray_toList]
    rw [setRow_self w g cur t (0, 0) hg]
  | v :: rest, o, cur, w, hg, hl => by
    have ih := setCells_row g t rest (o + 1) (cur.setIfInBounds o v) (w.setRow g (cur.setIfInBounds o v)) (setRow_heap w g cur _ t _ hg) (by simp at hl ⊢; omega)
    rw [World.setCells, setCell_eq_setRow w g o cur t (0, 0) v hg, ih, setRow_setRow]
    congr 2
    have e := list_seg_step cur.toList o v rest (by simp at hl ⊢; omega)
    simpa [Array.toList_setIfInBounds] using e
/-- 'clear(s)', s of one element of several cells. -/
theorem run_clear_one (w : World) (t e ty : TypeId) (z : Value) (zs : List Value) (hz : z.cells = zs.toArray) (ht : P.underlying t = some (.slice e)) (hv : ∀ w, (zeroValue e).run P w = .ok z w) (h1 : ∀ v ∈ zs, v.oneCell' = true) (b o c : Nat)
    (hc : ∀ j, j < zs.length → (w.cell? ⟨b, o + j, none⟩).isSome = true) (hf : ∀ j, j < zs.length → w.frozen? ⟨b, o + j, none⟩ = false) :
    (Builtin.clear_ #[t] ty #[.slice (some ⟨b, o, none⟩) 1 c]).run P w = .ok (.tuple #[]) (w.setCells b o zs) := by
  have hzc : (Builtin.zeroCells z.cells 1).toList = zs := by
    rw [hz]
    simp only [Builtin.zeroCells, Nat.one_mul, Array.toList_map, Array.toList_range, List.size_toArray]
    apply List.ext_getElem
    · simp
    · intro i h1 h2
      have hi : i < zs.length := by simpa using h2
      simp [Nat.mod_eq_of_lt hi, hi]
  have hst := run_storeCells_cells (P := P) b o zs 0 w (by simpa using hc) (by simpa using hf) h1
  simp only [Nat.add_zero] at hst
  simp [Builtin.clear_, run_underlying ht, hv, hzc, hst]
end
theorem seg_ins (I N S : Nat) (cur xs vs : List Value) (hI : I ≤ N) (hx : cur.take N = xs) (hN : N + S ≤ cur.length) (hv : vs.length = S) :
    (((cur.take (I + S) ++ xs.drop I ++ cur.drop (I + S + (xs.drop I).length)).take I ++ vs ++ (cur.take (I + S) ++ xs.drop I ++ cur.drop (I + S + (xs.drop I).length)).drop (I + vs.length)).take (N + S) = xs.take I ++ vs ++ xs.drop I) := by
  have hxl : xs.length = N := by rw [← hx, List.length_take]; omega
  have h1 : (cur.take (I + S)).length = I + S := by rw [List.length_take]; omega
  have h2 : (cur.take (I + S) ++ xs.drop I ++ cur.drop (I + S + (xs.drop I).length)).take I = xs.take I := by
    rw [List.append_assoc, List.take_append_of_le_length (by omega), List.take_take, ← hx, List.take_take, Nat.min_eq_left (by omega), Nat.min_eq_left (by omega)]
  have h3 : (cur.take (I + S) ++ xs.drop I ++ cur.drop (I + S + (xs.drop I).length)).drop (I + vs.length) = xs.drop I ++ cur.drop (I + S + (xs.drop I).length) := by
    rw [hv, List.append_assoc, List.drop_append_of_le_length (by omega), List.drop_of_length_le (by omega), List.nil_append]
  rw [h2, h3, ← List.append_assoc, List.take_append_of_le_length (by simp only [List.length_append, List.length_take, List.length_drop]; omega), List.take_of_length_le (by simp only [List.length_append, List.length_take, List.length_drop]; omega)]
theorem seg_ins_len (I N S : Nat) (cur xs vs : List Value) (hI : I ≤ N) (hx : cur.take N = xs) (hN : N + S ≤ cur.length) (hv : vs.length = S) :
    ((cur.take (I + S) ++ xs.drop I ++ cur.drop (I + S + (xs.drop I).length)).take I ++ vs ++ (cur.take (I + S) ++ xs.drop I ++ cur.drop (I + S + (xs.drop I).length)).drop (I + vs.length)).length = cur.length := by
  have hxl : xs.length = N := by rw [← hx, List.length_take]; omega
  simp only [List.length_append, List.length_take, List.length_drop]; omega
/-- The other order: what is put in first, then what stood behind. -/
theorem seg_ins2 (I N S : Nat) (cur xs vs : List Value) (hI : I ≤ N) (hxl : xs.length = N) (hx : cur.take I = xs.take I) (hN : N + S ≤ cur.length) (hv : vs.length = S) :
    ((cur.take I ++ vs ++ cur.drop (I + vs.length)).take (I + S) ++ xs.drop I ++ (cur.take I ++ vs ++ cur.drop (I + vs.length)).drop (I + S + (xs.drop I).length)).take (N + S) = xs.take I ++ vs ++ xs.drop I := by
  have h1 : (cur.take I).length = I := by rw [List.length_take]; omega
  have h2 : (cur.take I ++ vs ++ cur.drop (I + vs.length)).take (I + S) = xs.take I ++ vs := by
    rw [List.take_append_of_le_length (by rw [List.length_append]; omega), List.take_of_length_le (by rw [List.length_append]; omega), hx]
  rw [h2, List.take_append_of_le_length (by simp only [List.length_append, List.length_take, List.length_drop]; omega), List.take_of_length_le (by simp only [List.length_append, List.length_take, List.length_drop]; omega)]
theorem seg_ins2_len (I N S : Nat) (cur xs vs : List Value) (hI : I ≤ N) (hxl : xs.length = N) (hN : N + S ≤ cur.length) (hv : vs.length = S) :
    ((cur.take I ++ vs ++ cur.drop (I + vs.length)).take (I + S) ++ xs.drop I ++ (cur.take I ++ vs ++ cur.drop (I + vs.length)).drop (I + S + (xs.drop I).length)).length = cur.length := by
  simp only [List.length_append, List.length_take, List.length_drop]; omega
theorem seg_del (I N S : Nat) (cur xs zs : List Value) (hI : I + S ≤ N) (hx : cur.take N = xs) (hN : N ≤ cur.length) (hz : zs.length = S) :
    (((cur.take I ++ xs.drop (I + S) ++ cur.drop (I + (xs.drop (I + S)).length)).take (N - S) ++ zs ++ (cur.take I ++ xs.drop (I + S) ++ cur.drop (I + (xs.drop (I + S)).length)).drop (N - S + zs.length)).take (N - S) = xs.take I ++ xs.drop (I + S)) := by
  have hxl : xs.length = N := by rw [← hx, List.length_take]; omega
  have h1 : (cur.take I ++ xs.drop (I + S)).length = N - S := by simp only [List.length_append, List.length_take, List.length_drop]; omega
  have h2 : (cur.take I ++ xs.drop (I + S) ++ cur.drop (I + (xs.drop (I + S)).length)).take (N - S) = xs.take I ++ xs.drop (I + S) := by
    rw [List.take_append_of_le_length (by omega), List.take_of_length_le (by omega), ← hx, List.take_take, Nat.min_eq_left (by omega)]
  rw [h2, List.append_assoc, List.take_append_of_le_length (by simp only [List.length_append, List.length_take, List.length_drop]; omega), List.take_of_length_le (by simp only [List.length_append, List.length_take, List.length_drop]; omega)]
theorem seg_del_len (I N S : Nat) (cur xs zs : List Value) (hI : I + S ≤ N) (hx : cur.take N = xs) (hN : N ≤ cur.length) (hz : zs.length = S) :
    ((cur.take I ++ xs.drop (I + S) ++ cur.drop (I + (xs.drop (I + S)).length)).take (N - S) ++ zs ++ (cur.take I ++ xs.drop (I + S) ++ cur.drop (I + (xs.drop (I + S)).length)).drop (N - S + zs.length)).length = cur.length := by
  have hxl : xs.length = N := by rw [← hx, List.length_take]; omega
  simp only [List.length_append, List.length_take, List.length_drop]; omega
theorem owns_setRow {w : World} {g B e S cap n' : Nat} {cur : Array Value} {l : List Value} {xs' : List Value} (hg : w.heap[g]? = some (.cells cur e (0, 0))) (hB : B ≤ g) (hn' : n' ≤ cap) (hcap : cap ≤ maxLen) (hsz : l.length = cap * S) (hx : xs'.length = n' * S) (ht : l.take (n' * S) = xs') :
    (w.setRow g l.toArray).ownsRow B e S (.slice (some ⟨g, 0, none⟩) n' cap) n' xs' :=
  ⟨hx, .inr ⟨g, cap, l.toArray, rfl, hB, setRow_heap w g cur _ e _ hg, hn', hcap, by simpa using hsz, by simpa using ht⟩⟩
end Go.Proofs.YtgmneapgihakgaaGreatDoor
