/- Texts of one seat, merged. -/
import Derived.Test.YtnhbdonffomibaaGreatT03
import Derived.Test.YtnhbdonffomibaaGreatT02
import Derived.Laws.OwnMore
import Derived.Lib.SlicesCompact
import Derived.Shelf.Spec.SearchS
import Derived.Shelf.Small.Bits
import Derived.Shelf.Sort.Plain
import Derived.Ground.Names2Prog
import Derived.Ground.SlgnProg
import Derived.Shelf.SlicesE.Index
import Derived.Shelf.SlicesE.Equal
import Derived.Shelf.SlicesE.Compact
import Derived.Shelf.SlicesE.Delete
import Derived.Shelf.SlicesE.Clone
import Derived.Ground.SlgfProg
import Derived.Shelf.SlicesE.IndexFunc
import Derived.Shelf.SlicesE.DeleteFunc
import Derived.Test.YtnhbdonffomibaaGreatProg
import Derived.Sort.Walk0
import Derived.Deep.DeepCutAuto
set_option maxRecDepth 100000
set_option maxHeartbeats 4000000
set_option linter.unusedVariables false
/- Each once, of a sorted row. -/
namespace Go.Proofs.YtnhbdonffomibaaGreat.Tx
variable {α : Type} [DecidableEq α]
def cmpn (l : List α) : Nat → List α
  | 0 => []
  | 1 => l.take 1
  | j + 2 => if l[j + 1]? = l[j]? then cmpn l (j + 1) else cmpn l (j + 1) ++ (l[j + 1]?).toList
theorem take_snoc {α : Type} {l : List α} {k : Nat} {y : α} (h : l[k]? = some y) : l.take (k + 1) = l.take k ++ [y] := by rw [List.take_add_one, h]; rfl
theorem cmpn_same {l : List α} {j : Nat} {x : α} (h : l[j + 1]? = some x) (h2 : l[j]? = some x) : cmpn l (j + 2) = cmpn l (j + 1) := by
  rw [cmpn, if_pos (by rw [h, h2])]
theorem cmpn_next {l : List α} {j : Nat} {x y : α} (h : l[j + 1]? = some x) (h2 : l[j]? = some y) (hn : x ≠ y) : cmpn l (j + 2) = cmpn l (j + 1) ++ [x] := by
  rw [cmpn, if_neg (by rw [h, h2]; simpa using hn), h]; rfl
theorem cmpn_len (l : List α) : ∀ j, (cmpn l j).length ≤ j
  | 0 => Nat.le_refl _
  | 1 => by unfold cmpn; rw [List.length_take]; omega
  | j + 2 => by
    unfold cmpn
    have := cmpn_len l (j + 1)
    split
    · omega
    · rw [List.length_append]
      cases l[j + 1]? <;> simp <;> omega
theorem cmpn_rise {lt : α → α → Bool} (O : Ord lt) (l : List α) (hs : l.Pairwise fun a b => lt b a = false) : ∀ j, j ≤ l.length → Rise lt (cmpn l j) ∧ ∀ z, z ∈ cmpn l j ↔ z ∈ l.take j
  | 0, _ => ⟨List.Pairwise.nil, fun z => by simp [cmpn]⟩
  | 1, h => by
    refine ⟨?_, fun z => Iff.rfl⟩
    unfold cmpn
    match l, h with
    | x :: t, _ => simp
  | j + 2, h => by
    obtain ⟨h1, h2⟩ := cmpn_rise O l hs (j + 1) (by omega)
    have e1 : l[j + 1]? = some l[j + 1] := List.getElem?_eq_getElem (by omega)
    have e0 : l[j]? = some l[j] := List.getElem?_eq_getElem (by omega)
    have hge : ∀ i z, i < j + 1 → l[i]? = some z → lt l[j + 1] z = false := fun i z hi hz => by
      have := List.pairwise_iff_getElem.1 hs i (j + 1) (by omega) (by omega) (by omega)
      rw [(List.getElem?_eq_some_iff.1 hz).2] at this
      exact this
    have hge0 : ∀ i z, i < j → l[i]? = some z → lt l[j] z = false := fun i z hi hz => by
      have := List.pairwise_iff_getElem.1 hs i j (by omega) (by omega) (by omega)
      rw [(List.getElem?_eq_some_iff.1 hz).2] at this
      exact this
    generalize l[j + 1] = x at e1 hge
    generalize l[j] = y at e0 hge0
    have hm : ∀ z, z ∈ l.take (j + 2) ↔ z ∈ l.take (j + 1) ∨ z = x := fun z => by rw [take_snoc e1]; simp
    by_cases hxy : x = y
    · subst hxy
      rw [cmpn_same e1 e0]
      refine ⟨h1, fun z => ?_⟩
      rw [h2, hm]
      constructor
      · exact .inl
      · rintro (h | rfl)
        · exact h
        · rw [take_snoc e0]; simp
    · rw [cmpn_next e1 e0 hxy]
      have hyx : lt y x = true := by
        cases hq : lt y x with
        | true => rfl
        | false => exact absurd (O.tri (hge j y (by omega) e0) hq) hxy
      have hle : ∀ z, z ∈ l.take (j + 1) → lt z x = true := by
        intro z hz
        rw [take_snoc e0] at hz
        rcases List.mem_append.1 hz with hz | hz
        · obtain ⟨i, hi⟩ := List.getElem?_of_mem hz
          have hij : i < j := by
            have := (List.getElem?_eq_some_iff.1 hi).1
            rw [List.length_take] at this; omega
          rw [List.getElem?_take_of_lt hij] at hi
          have hyz := hge0 i z hij hi
          cases hzy : lt z y with
          | true => exact O.tr hzy hyx
          | false => rw [← O.tri hyz hzy]; exact hyx
        · simp at hz; subst hz; exact hyx
      refine ⟨?_, fun z => ?_⟩
      · refine List.pairwise_append.2 ⟨h1, by simp, fun a ha b hb => ?_⟩
        simp at hb; subst hb
        exact hle a ((h2 a).1 ha)
      · rw [List.mem_append, h2, hm]; simp
end Go.Proofs.YtnhbdonffomibaaGreat.Tx
namespace Go.Proofs.YtnhbdonffomibaaGreat
open Go.RowKit Go.Sort
variable {α : Type} {enc : α → Value} {t : TypeId} {w w' : World} {B B' : Nat} {v : Value} {l : List α}
theorem some_atP {α : Type} {l : List α} {k : Nat} (h : k < l.length) : ∃ x, l[k]? = some x := ⟨l[k], List.getElem?_eq_getElem h⟩
theorem RowP.set {g c : Nat} (h : RowP enc t w B (.slice (some ⟨g, 0, none⟩) l.length c) l) (i : Nat) (x : α) : RowP enc t (w.setCell ⟨g, i, none⟩ (enc x)) B (.slice (some ⟨g, 0, none⟩) (l.set i x).length c) (l.set i x) := by
  have h' : w.ownsRow B t 1 (.slice (some ⟨g, 0, none⟩) l.length c) l.length (l.map enc) := h
  have := (h'.stored i (enc x)).1
  show World.ownsRow _ _ _ _ _ _ _
  rw [List.length_set, List.map_set]
  exact this
theorem rest_atP {α : Type} {A m : List α} {t : Nat} (h : A.length ≤ t) : (A ++ m.drop A.length)[t]? = m[t]? := by
  rw [List.getElem?_append_right h, List.getElem?_drop]
  congr 1
  omega
theorem set_restP {α : Type} {A m : List α} {x : α} (h : A.length < m.length) : (A ++ m.drop A.length).set A.length x = (A ++ [x]) ++ m.drop (A ++ [x]).length := by
  rw [List.set_append_right _ _ (Nat.le_refl _), Nat.sub_self, List.drop_eq_getElem_cons h, List.set_cons_zero]
  simp
/-- What is behind a place is cleared; what stands ahead of it stays. -/
theorem RowP.cleared {g c n : Nat} {A S : List α} (h : RowP enc t w B (.slice (some ⟨g, 0, none⟩) n c) (A ++ S)) (hn : (A ++ S).length = n) (vs : List Value) (hvs : vs.length = S.length) :
    RowP enc t (w.setCells g A.length vs) B (.slice (some ⟨g, 0, none⟩) A.length c) A ∧ Below B w (w.setCells g A.length vs) ∧ (∀ k, k ≠ g → (w.setCells g A.length vs).heap[k]? = w.heap[k]?) ∧ w.heap.size ≤ (w.setCells g A.length vs).heap.size := by
  rcases h.open with ⟨h0, _⟩ | ⟨g', cap', cur, hv, hB, hb, hc1, hc2, hc3, hc4⟩
  · cases h0
  · cases hv
    have hl : (A ++ S).length = A.length + S.length := List.length_append
    have hsz : A.length + vs.length ≤ cur.size := by omega
    rw [setCells_row g t _ _ cur w hb hsz]
    have hg := setRow_heap w g cur (cur.toList.take A.length ++ vs ++ cur.toList.drop (A.length + vs.length)).toArray t _ hb
    refine ⟨.mk hB hg (by omega) hc2 ?_ ?_, below_setRow (Below.refl _ _) hB _, fun k hk => setRow_other w g k _ hk, by simp [World.setRow]⟩
    · have h9 : cur.toList.length = cur.size := Array.length_toList
      simp only [List.size_toArray, List.length_append, List.length_take, List.length_drop]
      omega
    · have h9 : cur.toList.length = cur.size := Array.length_toList
      show List.take A.length (cur.toList.take A.length ++ vs ++ cur.toList.drop (A.length + vs.length)) = _
      rw [List.append_assoc, List.take_append_of_le_length (by rw [List.length_take]; omega), List.take_take, Nat.min_self]
      have := congrArg (List.take A.length) hc4
      rw [List.take_take, Nat.min_eq_left (by omega), List.map_append, List.take_append_of_le_length (by simp)] at this
      rw [this]
      exact List.take_of_length_le (by simp)
end Go.Proofs.YtnhbdonffomibaaGreat
/- The library's contracts of slices and math/bits, laid at this program's numbers by the guide's own tool. -/
namespace Go.Proofs
open Go.Shelf
def Tryz.lays226_ren : Go.Shelf.Ren := ⟨fun | 26 => 42 | 33 => 51 | 34 => 67 | 38 => 65 | n => n, fun | 24 => 22 | 9 => 9 | 3 => 3 | 4 => 4 | 40 => 59 | 0 => 0 | n => n, fun | n => n⟩
theorem Tryz.lays226 : Go.Proofs.Lays2.n26 Tryz.prog Tryz.lays226_ren := {
  mixed := by kernel_rfl
  f26 := Tryz.func42.trans (congrArg some (by kernel_rfl))
  f33 := Tryz.func51.trans (congrArg some (by kernel_rfl))
  f34 := Tryz.func67.trans (congrArg some (by kernel_rfl))
  f38 := Tryz.func65.trans (congrArg some (by kernel_rfl))
  t0 := Tryz.underlying0
  a0 := Tryz.isAgg0
  z0 := Tryz.sizeOf0
  v0 := Tryz.zeroValue0
  t3 := Tryz.underlying3
  a3 := Tryz.isAgg3
  z3 := Tryz.sizeOf3
  v3 := Tryz.zeroValue3
  t4 := Tryz.underlying4
  a4 := Tryz.isAgg4
  z4 := Tryz.sizeOf4
  v4 := Tryz.zeroValue4
  t9 := Tryz.underlying9
  a9 := Tryz.isAgg9
  z9 := Tryz.sizeOf9
  v9 := Tryz.zeroValue9
  t24 := Tryz.underlying22
  a24 := Tryz.isAgg22
  z24 := Tryz.sizeOf22
  v24 := Tryz.zeroValue22
  t40 := Tryz.underlying59
  a40 := Tryz.isAgg59
  z40 := Tryz.sizeOf59
  v40 := Tryz.zeroValue59 }
def Tryz.lays125_ren : Go.Shelf.Ren := ⟨fun | 125 => 32 | 128 => 54 | 129 => 55 | n => n, fun | 46 => 59 | 3 => 3 | 51 => 40 | 53 => 83 | 4 => 4 | 5 => 5 | 9 => 9 | n => n, fun | n => n⟩
theorem Tryz.lays125 : Go.Proofs.Lays.n125 Tryz.prog Tryz.lays125_ren := {
  mixed := by kernel_rfl
  f125 := Tryz.func32.trans (congrArg some (by kernel_rfl))
  f128 := Tryz.func54.trans (congrArg some (by kernel_rfl))
  f129 := Tryz.func55.trans (congrArg some (by kernel_rfl))
  t3 := Tryz.underlying3
  a3 := Tryz.isAgg3
  z3 := Tryz.sizeOf3
  v3 := Tryz.zeroValue3
  t4 := Tryz.underlying4
  a4 := Tryz.isAgg4
  z4 := Tryz.sizeOf4
  v4 := Tryz.zeroValue4
  t5 := Tryz.underlying5
  a5 := Tryz.isAgg5
  z5 := Tryz.sizeOf5
  v5 := Tryz.zeroValue5
  t9 := Tryz.underlying9
  a9 := Tryz.isAgg9
  z9 := Tryz.sizeOf9
  v9 := Tryz.zeroValue9
  t46 := Tryz.underlying59
  a46 := Tryz.isAgg59
  z46 := Tryz.sizeOf59
  v46 := Tryz.zeroValue59
  t51 := Tryz.underlying40
  a51 := Tryz.isAgg40
  z51 := Tryz.sizeOf40
  v51 := Tryz.zeroValue40
  t53 := Tryz.underlying83
  a53 := Tryz.isAgg83
  z53 := Tryz.sizeOf83
  v53 := Tryz.zeroValue83 }
theorem Tryz.bits_Len (x : Int) (w : World) (h0 : 0 ≤ x) (h1 : x ≤ 18446744073709551615) :
    Calls Tryz.prog 32 #[.int .u64 x] w fun e w' => e = .returned (.int .i64 (Lib.bitLen x.toNat)) ∧ w' = w := Any.bits_Len Tryz.lays125 x w h0 h1
def Tryz.lays190_ren : Go.Shelf.Ren := ⟨fun | 190 => 14 | 125 => 32 | 258 => 31 | 128 => 54 | 129 => 55 | 302 => 45 | 303 => 46 | 304 => 47 | 305 => 48 | 306 => 49 | 307 => 50 | 308 => 51 | 309 => 52 | 310 => 53 | 333 => 69 | 329 => 70 | 330 => 71 | 334 => 72 | 335 => 73 | 336 => 65 | 344 => 82 | n => n, fun | 31 => 22 | 9 => 9 | 3 => 3 | 46 => 59 | 0 => 0 | 51 => 40 | 53 => 83 | 4 => 4 | 183 => 76 | 182 => 75 | 131 => 52 | 5 => 5 | 218 => 93 | 222 => 97 | 228 => 106 | 229 => 107 | n => n, fun | n => n⟩
theorem Tryz.lays190 : Go.Proofs.Lays.n190 Tryz.prog Tryz.lays190_ren := {
  mixed := by kernel_rfl
  f125 := Tryz.func32.trans (congrArg some (by kernel_rfl))
  f128 := Tryz.func54.trans (congrArg some (by kernel_rfl))
  f129 := Tryz.func55.trans (congrArg some (by kernel_rfl))
  f190 := Tryz.func14.trans (congrArg some (by kernel_rfl))
  f258 := Tryz.func31.trans (congrArg some (by kernel_rfl))
  f302 := Tryz.func45.trans (congrArg some (by kernel_rfl))
  f303 := Tryz.func46.trans (congrArg some (by kernel_rfl))
  f304 := Tryz.func47.trans (congrArg some (by kernel_rfl))
  f305 := Tryz.func48.trans (congrArg some (by kernel_rfl))
  f306 := Tryz.func49.trans (congrArg some (by kernel_rfl))
  f307 := Tryz.func50.trans (congrArg some (by kernel_rfl))
  f308 := Tryz.func51.trans (congrArg some (by kernel_rfl))
  f309 := Tryz.func52.trans (congrArg some (by kernel_rfl))
  f310 := Tryz.func53.trans (congrArg some (by kernel_rfl))
  f329 := Tryz.func70.trans (congrArg some (by kernel_rfl))
  f330 := Tryz.func71.trans (congrArg some (by kernel_rfl))
  f333 := Tryz.func69.trans (congrArg some (by kernel_rfl))
  f334 := Tryz.func72.trans (congrArg some (by kernel_rfl))
  f335 := Tryz.func73.trans (congrArg some (by kernel_rfl))
  f336 := Tryz.func65.trans (congrArg some (by kernel_rfl))
  f344 := Tryz.func82.trans (congrArg some (by kernel_rfl))
  t0 := Tryz.underlying0
  a0 := Tryz.isAgg0
  z0 := Tryz.sizeOf0
  v0 := Tryz.zeroValue0
  t3 := Tryz.underlying3
  a3 := Tryz.isAgg3
  z3 := Tryz.sizeOf3
  v3 := Tryz.zeroValue3
  t4 := Tryz.underlying4
  a4 := Tryz.isAgg4
  z4 := Tryz.sizeOf4
  v4 := Tryz.zeroValue4
  t5 := Tryz.underlying5
  a5 := Tryz.isAgg5
  z5 := Tryz.sizeOf5
  v5 := Tryz.zeroValue5
  t9 := Tryz.underlying9
  a9 := Tryz.isAgg9
  z9 := Tryz.sizeOf9
  v9 := Tryz.zeroValue9
  t31 := Tryz.underlying22
  a31 := Tryz.isAgg22
  z31 := Tryz.sizeOf22
  v31 := Tryz.zeroValue22
  t46 := Tryz.underlying59
  a46 := Tryz.isAgg59
  z46 := Tryz.sizeOf59
  v46 := Tryz.zeroValue59
  t51 := Tryz.underlying40
  a51 := Tryz.isAgg40
  z51 := Tryz.sizeOf40
  v51 := Tryz.zeroValue40
  t53 := Tryz.underlying83
  a53 := Tryz.isAgg83
  z53 := Tryz.sizeOf83
  v53 := Tryz.zeroValue83
  t131 := Tryz.underlying52
  a131 := Tryz.isAgg52
  z131 := Tryz.sizeOf52
  v131 := Tryz.zeroValue52
  t182 := Tryz.underlying75
  a182 := Tryz.isAgg75
  z182 := Tryz.sizeOf75
  v182 := Tryz.zeroValue75
  t183 := Tryz.underlying76
  a183 := Tryz.isAgg76
  z183 := Tryz.sizeOf76
  v183 := Tryz.zeroValue76
  t218 := Tryz.underlying93
  a218 := Tryz.isAgg93
  z218 := Tryz.sizeOf93
  v218 := Tryz.zeroValue93
  t222 := Tryz.underlying97
  a222 := Tryz.isAgg97
  z222 := Tryz.sizeOf97
  v222 := Tryz.zeroValue97
  t228 := Tryz.underlying106
  a228 := Tryz.isAgg106
  z228 := Tryz.sizeOf106
  v228 := Tryz.zeroValue106
  t229 := Tryz.underlying107
  a229 := Tryz.isAgg107
  z229 := Tryz.sizeOf107
  v229 := Tryz.zeroValue107 }
open Go.Sort Go.RowKit in
theorem Tryz.slices_Sort_string (blk off cap : Nat) (ss : List (List UInt8)) (w : World) (hH : Holds encStr w blk off ss.toArray) (hblk : blk < w.heap.size) (hsz : ss.length < 4611686018427387904) :
    Calls Tryz.prog 14 #[.slice (some ⟨blk, off, none⟩) ss.length cap] w fun e w' =>
      e = .returned (.tuple #[]) ∧ ∃ n os, w' = grow (putRow encStr (Sort.ahead w n) blk off (ss.mergeSort fun x y => decide (x ≤ y)).toArray) os := Any.slices_Sort_string Tryz.lays190 blk off cap ss w hH hblk hsz
def Tryz.laysSlE31_f13_ren : Go.Shelf.Ren := ⟨fun | 31 => 13 | 29 => 30 | n => n, fun | 22 => 22 | 23 => 9 | 4 => 4 | 3 => 3 | 0 => 0 | n => n, fun | n => n⟩
theorem Tryz.laysSlE31_f13 : Go.Proofs.SlLaysE.n31 Tryz.prog Tryz.laysSlE31_f13_ren := {
  mixed := by kernel_rfl
  f29 := ⟨Tryz.f30.name, by decide, Tryz.func30.trans (congrArg some (by kernel_rfl))⟩
  f31 := ⟨Tryz.f13.name, by decide, Tryz.func13.trans (congrArg some (by kernel_rfl))⟩
  t0 := Tryz.underlying0
  a0 := Tryz.isAgg0
  z0 := Tryz.sizeOf0
  v0 := Tryz.zeroValue0
  t3 := Tryz.underlying3
  a3 := Tryz.isAgg3
  z3 := Tryz.sizeOf3
  v3 := Tryz.zeroValue3
  t4 := Tryz.underlying4
  a4 := Tryz.isAgg4
  z4 := Tryz.sizeOf4
  v4 := Tryz.zeroValue4
  t22 := Tryz.underlying22
  a22 := Tryz.isAgg22
  z22 := Tryz.sizeOf22
  v22 := Tryz.zeroValue22
  a23 := Tryz.isAgg9
  z23 := Tryz.sizeOf9 }
open Go.Lib in
theorem Tryz.slices_Contains {α : Type} [Inhabited α] (enc : α → Value) (eq : α → α → Bool) (heq : EqlAt Tryz.prog 9 enc eq) (b off n c : Nat) (zs : List α) (x : α) (w : World) (hz : n ≤ zs.length) (hbig : n ≤ 9223372036854775807) (hc : ∀ j, j < zs.length → w.cell? ⟨b, off + j, none⟩ = some (enc zs[j]!)) :
    Calls Tryz.prog 13 #[.slice (some ⟨b, off, none⟩) n c, enc x] w fun e w' => e = .returned (.bool ((zs.take n).any fun y => eq x y)) ∧ w' = w := AnyE.slices_Contains Tryz.laysSlE31_f13 enc eq heq b off n c zs x w hz hbig hc
open Go.Lib in
theorem Tryz.slices_Contains_empty {α : Type} [Inhabited α] (a : Option Addr) (c : Nat) (xv : Value) (w : World) :
    Calls Tryz.prog 13 #[.slice a 0 c, xv] w fun e w' => e = .returned (.bool false) ∧ w' = w := AnyE.slices_Contains_empty Tryz.laysSlE31_f13 a c xv w
def Tryz.laysSlE33_f12_ren : Go.Shelf.Ren := ⟨fun | 33 => 12 | n => n, fun | 22 => 22 | 23 => 9 | 4 => 4 | 3 => 3 | 0 => 0 | n => n, fun | n => n⟩
theorem Tryz.laysSlE33_f12 : Go.Proofs.SlLaysE.n33 Tryz.prog Tryz.laysSlE33_f12_ren := {
  mixed := by kernel_rfl
  f33 := ⟨Tryz.f12.name, by decide, Tryz.func12.trans (congrArg some (by kernel_rfl))⟩
  t0 := Tryz.underlying0
  a0 := Tryz.isAgg0
  z0 := Tryz.sizeOf0
  v0 := Tryz.zeroValue0
  t3 := Tryz.underlying3
  a3 := Tryz.isAgg3
  z3 := Tryz.sizeOf3
  v3 := Tryz.zeroValue3
  t4 := Tryz.underlying4
  a4 := Tryz.isAgg4
  z4 := Tryz.sizeOf4
  v4 := Tryz.zeroValue4
  t22 := Tryz.underlying22
  a22 := Tryz.isAgg22
  z22 := Tryz.sizeOf22
  v22 := Tryz.zeroValue22
  a23 := Tryz.isAgg9
  z23 := Tryz.sizeOf9 }
open Go.RowKit Go.Lib in
theorem Tryz.slices_Equal {α : Type} [Inhabited α] (enc : α → Value) (eq : α → α → Bool) (hne : NeqAt Tryz.prog 9 enc eq) (b1 o1 n c b2 o2 m d : Nat) (xs ys : List α) (w : World) (hx : n ≤ xs.length) (hy : m ≤ ys.length) (hbig : n ≤ 9223372036854775807) (hbig2 : m ≤ 9223372036854775807) (hc1 : ∀ j, j < xs.length → w.cell? ⟨b1, o1 + j, none⟩ = some (enc xs[j]!)) (hc2 : ∀ j, j < ys.length → w.cell? ⟨b2, o2 + j, none⟩ = some (enc ys[j]!)) :
    Calls Tryz.prog 12 #[.slice (some ⟨b1, o1, none⟩) n c, .slice (some ⟨b2, o2, none⟩) m d] w fun e w' => e = .returned (.bool (Lib.allEq eq (xs.take n) (ys.take m))) ∧ ∃ q, w' = w.drewN q := AnyE.slices_Equal Tryz.laysSlE33_f12 enc eq hne b1 o1 n c b2 o2 m d xs ys w hx hy hbig hbig2 hc1 hc2
def Tryz.laysSlE43_f5_ren : Go.Shelf.Ren := ⟨fun | 43 => 5 | n => n, fun | 22 => 22 | 23 => 9 | 3 => 3 | 4 => 4 | 0 => 0 | n => n, fun | n => n⟩
theorem Tryz.laysSlE43_f5 : Go.Proofs.SlLaysE.n43 Tryz.prog Tryz.laysSlE43_f5_ren := {
  mixed := by kernel_rfl
  f43 := ⟨Tryz.f5.name, by decide, Tryz.func5.trans (congrArg some (by kernel_rfl))⟩
  t0 := Tryz.underlying0
  a0 := Tryz.isAgg0
  z0 := Tryz.sizeOf0
  v0 := Tryz.zeroValue0
  t3 := Tryz.underlying3
  a3 := Tryz.isAgg3
  z3 := Tryz.sizeOf3
  v3 := Tryz.zeroValue3
  t4 := Tryz.underlying4
  a4 := Tryz.isAgg4
  z4 := Tryz.sizeOf4
  v4 := Tryz.zeroValue4
  t22 := Tryz.underlying22
  a22 := Tryz.isAgg22
  z22 := Tryz.sizeOf22
  v22 := Tryz.zeroValue22
  a23 := Tryz.isAgg9
  z23 := Tryz.sizeOf9 }
open Go.RowKit Go.Lib Go.Sort in
theorem Tryz.slices_Compact {α : Type} [Inhabited α] [DecidableEq α] (enc : α → Value) (hO : OneCell enc) (heq : EqlAt Tryz.prog 9 enc (fun x y => decide (x = y))) (hne : NeqAt Tryz.prog 9 enc (fun x y => decide (x = y))) (zr : α) (v23 : ∀ w, (zeroValue 9).run Tryz.prog w = .ok (enc zr) w) (blk off cap : Nat) (d : Array α) (w : World) (hH : Holds enc w blk off d) (hsz : d.size ≤ 9223372036854775807) (hcap : d.size ≤ cap) :
    Calls Tryz.prog 5 #[.slice (some ⟨blk, off, none⟩) d.size cap] w fun e w' => e = .returned (.slice (some ⟨blk, off, none⟩) (compactUpTo d d.size).length cap) ∧ ∃ q, w' = putRow enc (Sort.ahead w q) blk off (compactUpTo d d.size ++ List.replicate (d.size - (compactUpTo d d.size).length) zr).toArray := AnyE.slices_Compact Tryz.laysSlE43_f5 enc hO heq hne zr v23 blk off cap d w hH hsz hcap
def Tryz.laysSlE45_f29_ren : Go.Shelf.Ren := ⟨fun | 45 => 29 | n => n, fun | 22 => 22 | 23 => 9 | 3 => 3 | 4 => 4 | 0 => 0 | n => n, fun | n => n⟩
theorem Tryz.laysSlE45_f29 : Go.Proofs.SlLaysE.n45 Tryz.prog Tryz.laysSlE45_f29_ren := {
  mixed := by kernel_rfl
  f45 := ⟨Tryz.f29.name, by decide, Tryz.func29.trans (congrArg some (by kernel_rfl))⟩
  t0 := Tryz.underlying0
  a0 := Tryz.isAgg0
  z0 := Tryz.sizeOf0
  v0 := Tryz.zeroValue0
  t3 := Tryz.underlying3
  a3 := Tryz.isAgg3
  z3 := Tryz.sizeOf3
  v3 := Tryz.zeroValue3
  t4 := Tryz.underlying4
  a4 := Tryz.isAgg4
  z4 := Tryz.sizeOf4
  v4 := Tryz.zeroValue4
  t22 := Tryz.underlying22
  a22 := Tryz.isAgg22
  z22 := Tryz.sizeOf22
  v22 := Tryz.zeroValue22
  a23 := Tryz.isAgg9
  z23 := Tryz.sizeOf9 }
open Go.RowKit Go.Lib Go.Sort in
theorem Tryz.slices_Delete_f29 {α : Type} [Inhabited α] (enc : α → Value) (h1 : OneCell enc) (zr : α) (v23 : ∀ w, (zeroValue 9).run Tryz.prog w = .ok (enc zr) w) (i0 : TypeInfo) (hi0 : Tryz.prog.info? 9 = some i0) (hz1 : i0.size = 1) (blk off cap i j : Nat) (d : Array α) (w : World) (hH : Holds enc w blk off d) (hcap : d.size ≤ cap) (hm : cap ≤ 9223372036854775807) (hij : i ≤ j) (hj : j ≤ d.size) :
    Calls Tryz.prog 29 #[.slice (some ⟨blk, off, none⟩) d.size cap, .int .i64 i, .int .i64 j] w fun e w' => e = .returned (.slice (some ⟨blk, off, none⟩) (d.size - (j - i)) cap) ∧ ∃ q, w' = putRow enc (Sort.ahead w q) blk off (d.toList.take i ++ d.toList.drop j ++ List.replicate (j - i) zr).toArray := AnyE.slices_Delete Tryz.laysSlE45_f29 enc h1 zr v23 i0 hi0 hz1 blk off cap i j d w hH hcap hm hij hj
def Tryz.laysSlE45_f77_ren : Go.Shelf.Ren := ⟨fun | 45 => 77 | n => n, fun | 22 => 41 | 23 => 40 | 3 => 3 | 4 => 4 | 0 => 0 | n => n, fun | n => n⟩
theorem Tryz.laysSlE45_f77 : Go.Proofs.SlLaysE.n45 Tryz.prog Tryz.laysSlE45_f77_ren := {
  mixed := by kernel_rfl
  f45 := ⟨Tryz.f77.name, by decide, Tryz.func77.trans (congrArg some (by kernel_rfl))⟩
  t0 := Tryz.underlying0
  a0 := Tryz.isAgg0
  z0 := Tryz.sizeOf0
  v0 := Tryz.zeroValue0
  t3 := Tryz.underlying3
  a3 := Tryz.isAgg3
  z3 := Tryz.sizeOf3
  v3 := Tryz.zeroValue3
  t4 := Tryz.underlying4
  a4 := Tryz.isAgg4
  z4 := Tryz.sizeOf4
  v4 := Tryz.zeroValue4
  t22 := Tryz.underlying41
  a22 := Tryz.isAgg41
  z22 := Tryz.sizeOf41
  v22 := Tryz.zeroValue41
  a23 := Tryz.isAgg40
  z23 := Tryz.sizeOf40 }
open Go.RowKit Go.Lib Go.Sort in
theorem Tryz.slices_Delete_f77 {α : Type} [Inhabited α] (enc : α → Value) (h1 : OneCell enc) (zr : α) (v23 : ∀ w, (zeroValue 40).run Tryz.prog w = .ok (enc zr) w) (i0 : TypeInfo) (hi0 : Tryz.prog.info? 40 = some i0) (hz1 : i0.size = 1) (blk off cap i j : Nat) (d : Array α) (w : World) (hH : Holds enc w blk off d) (hcap : d.size ≤ cap) (hm : cap ≤ 9223372036854775807) (hij : i ≤ j) (hj : j ≤ d.size) :
    Calls Tryz.prog 77 #[.slice (some ⟨blk, off, none⟩) d.size cap, .int .i64 i, .int .i64 j] w fun e w' => e = .returned (.slice (some ⟨blk, off, none⟩) (d.size - (j - i)) cap) ∧ ∃ q, w' = putRow enc (Sort.ahead w q) blk off (d.toList.take i ++ d.toList.drop j ++ List.replicate (j - i) zr).toArray := AnyE.slices_Delete Tryz.laysSlE45_f77 enc h1 zr v23 i0 hi0 hz1 blk off cap i j d w hH hcap hm hij hj
def Tryz.laysSlE041_f21_ren : Go.Shelf.Ren := ⟨fun | 41 => 21 | n => n, fun | 22 => 22 | 23 => 9 | 4 => 4 | n => n, fun | n => n⟩
theorem Tryz.laysSlE041_f21 : Go.Proofs.SlLaysE0.n41 Tryz.prog Tryz.laysSlE041_f21_ren := {
  mixed := by kernel_rfl
  f41 := ⟨Tryz.f21.name, by decide, Tryz.func21.trans (congrArg some (by kernel_rfl))⟩
  t4 := Tryz.underlying4
  a4 := Tryz.isAgg4
  z4 := Tryz.sizeOf4
  v4 := Tryz.zeroValue4
  t22 := Tryz.underlying22
  a22 := Tryz.isAgg22
  z22 := Tryz.sizeOf22
  v22 := Tryz.zeroValue22 }
open Go.RowKit Go.Lib in
theorem Tryz.slices_Clone_f21 (i0 : TypeInfo) (z : Value) (size bytes : Nat) (hi : Tryz.prog.info? 9 = some i0) (hz0 : i0.zero = some z) (hz1 : i0.size = size) (hz2 : i0.bytes = bytes) (hzs : z.cells.size = size) (hsz : 0 < size) (z23 : ∀ w, (Go.sizeOf 9).run Tryz.prog w = .ok size w) (b off n c : Nat) (news : List Value) (w : World) (hl : news.length = n * size) (hn : n ≤ maxLen) (hbig : n * bytes ≤ 140737488355328) (hc : ∀ j u, news[j]? = some u → w.cell? ⟨b, off + j, none⟩ = some u) (h1 : ∀ u ∈ news, u.oneCell' = true) :
    Calls Tryz.prog 21 #[.slice (some ⟨b, off, none⟩) n c] w fun e w' => ∃ v', e = .returned v' ∧ w'.ownsRow w.heap.size 9 size v' n news ∧ v' ≠ .slice none 0 0 ∧ Below w.heap.size w w' := AnyE.slices_Clone Tryz.laysSlE041_f21 i0 z size bytes hi hz0 hz1 hz2 hzs hsz z23 b off n c news w hl hn hbig hc h1
def Tryz.laysSlE041_f56_ren : Go.Shelf.Ren := ⟨fun | 41 => 56 | n => n, fun | 22 => 41 | 23 => 40 | 4 => 4 | n => n, fun | n => n⟩
theorem Tryz.laysSlE041_f56 : Go.Proofs.SlLaysE0.n41 Tryz.prog Tryz.laysSlE041_f56_ren := {
  mixed := by kernel_rfl
  f41 := ⟨Tryz.f56.name, by decide, Tryz.func56.trans (congrArg some (by kernel_rfl))⟩
  t4 := Tryz.underlying4
  a4 := Tryz.isAgg4
  z4 := Tryz.sizeOf4
  v4 := Tryz.zeroValue4
  t22 := Tryz.underlying41
  a22 := Tryz.isAgg41
  z22 := Tryz.sizeOf41
  v22 := Tryz.zeroValue41 }
open Go.RowKit Go.Lib in
theorem Tryz.slices_Clone_f56 (i0 : TypeInfo) (z : Value) (size bytes : Nat) (hi : Tryz.prog.info? 40 = some i0) (hz0 : i0.zero = some z) (hz1 : i0.size = size) (hz2 : i0.bytes = bytes) (hzs : z.cells.size = size) (hsz : 0 < size) (z23 : ∀ w, (Go.sizeOf 40).run Tryz.prog w = .ok size w) (b off n c : Nat) (news : List Value) (w : World) (hl : news.length = n * size) (hn : n ≤ maxLen) (hbig : n * bytes ≤ 140737488355328) (hc : ∀ j u, news[j]? = some u → w.cell? ⟨b, off + j, none⟩ = some u) (h1 : ∀ u ∈ news, u.oneCell' = true) :
    Calls Tryz.prog 56 #[.slice (some ⟨b, off, none⟩) n c] w fun e w' => ∃ v', e = .returned v' ∧ w'.ownsRow w.heap.size 40 size v' n news ∧ v' ≠ .slice none 0 0 ∧ Below w.heap.size w w' := AnyE.slices_Clone Tryz.laysSlE041_f56 i0 z size bytes hi hz0 hz1 hz2 hzs hsz z23 b off n c news w hl hn hbig hc h1
open Go.RowKit Go.Lib in
theorem Tryz.slices_Clone_nil_f21 (n c : Nat) (w : World) :
    Calls Tryz.prog 21 #[.slice none n c] w fun e w' => e = .returned (.slice none 0 0) ∧ w' = w := AnyE.slices_Clone_nil Tryz.laysSlE041_f21 n c w
open Go.RowKit Go.Lib in
theorem Tryz.slices_Clone_nil_f56 (n c : Nat) (w : World) :
    Calls Tryz.prog 56 #[.slice none n c] w fun e w' => e = .returned (.slice none 0 0) ∧ w' = w := AnyE.slices_Clone_nil Tryz.laysSlE041_f56 n c w
def Tryz.laysSlH10_f15_ren : Go.Shelf.Ren := ⟨fun | 10 => 15 | 6 => 33 | n => n, fun | 22 => 22 | 23 => 9 | 25 => 32 | 3 => 3 | 4 => 4 | 0 => 0 | n => n, fun | n => n⟩
theorem Tryz.laysSlH10_f15 : Go.Proofs.SlLaysH.n10 Tryz.prog Tryz.laysSlH10_f15_ren := {
  mixed := by kernel_rfl
  f6 := ⟨Tryz.f33.name, by decide, Tryz.func33.trans (congrArg some (by kernel_rfl))⟩
  f10 := ⟨Tryz.f15.name, by decide, Tryz.func15.trans (congrArg some (by kernel_rfl))⟩
  t0 := Tryz.underlying0
  a0 := Tryz.isAgg0
  z0 := Tryz.sizeOf0
  v0 := Tryz.zeroValue0
  t3 := Tryz.underlying3
  a3 := Tryz.isAgg3
  z3 := Tryz.sizeOf3
  v3 := Tryz.zeroValue3
  t4 := Tryz.underlying4
  a4 := Tryz.isAgg4
  z4 := Tryz.sizeOf4
  v4 := Tryz.zeroValue4
  t22 := Tryz.underlying22
  a22 := Tryz.isAgg22
  z22 := Tryz.sizeOf22
  v22 := Tryz.zeroValue22
  a23 := Tryz.isAgg9
  z23 := Tryz.sizeOf9
  t25 := Tryz.underlying32
  a25 := Tryz.isAgg32
  z25 := Tryz.sizeOf32
  v25 := Tryz.zeroValue32 }
open Go.RowKit Go.Lib Go.Sort in
theorem Tryz.slices_DeleteFunc {α : Type} [Inhabited α] (enc : α → Value) (hO : OneCell enc) (p : α → Bool) (g : Nat) (lb : Array Value) (eg : ∀ args w, (callFunc g args).run Tryz.prog w = .ok (.enter g args) w) (zr : α) (v23 : ∀ w, (zeroValue 9).run Tryz.prog w = .ok (enc zr) w) (blk off cap : Nat) (d : Array α) (w : World) (hp : PredAt Tryz.prog g lb enc p w) (hpo : PredOver Tryz.prog g lb enc p blk off d.size w) (hH : Holds enc w blk off d) (hsz : d.size ≤ 9223372036854775807) (hcap : d.size ≤ cap) :
    Calls Tryz.prog 15 #[.slice (some ⟨blk, off, none⟩) d.size cap, .func (.func g) #[] lb] w fun e w' => e = .returned (.slice (some ⟨blk, off, none⟩) (d.toList.filter fun x => !p x).length cap) ∧ ∃ q, w' = putRow enc (Sort.ahead w q) blk off ((d.toList.filter fun x => !p x) ++ List.replicate (d.size - (d.toList.filter fun x => !p x).length) zr).toArray := AnyE.slices_DeleteFunc Tryz.laysSlH10_f15 enc hO p g lb eg zr v23 blk off cap d w hp hpo hH hsz hcap
end Go.Proofs
/- A set of texts: its box; where a text stands in it, how many, what stands at a place, above a text. -/
namespace Go.Proofs.YtnhbdonffomibaaGreat
open Go.RowKit Go.Sort
open Tx (Rise At Ord above)
abbrev Txt := List UInt8
abbrev eS : Txt → Value := fun l => .string (str l)
def slt (x y : Txt) : Bool := decide (x < y)
theorem sord : Ord slt where
  irr x := decide_eq_false (List.lt_irrefl x)
  tr h1 h2 := decide_eq_true (List.lt_trans (of_decide_eq_true h1) (of_decide_eq_true h2))
  tri h1 h2 := List.le_antisymm (List.not_lt.1 (of_decide_eq_false h2)) (List.not_lt.1 (of_decide_eq_false h1))
theorem infoS : (Tryz.prog.info? 9).map (fun i => (i.zero, i.size, i.bytes)) = some (some (.string ⟨#[]⟩), 1, 16) := by kernel_rfl
abbrev SlS := @SlP Txt eS
abbrev RowS := @RowP Txt eS 9
theorem sxBin_any (v : Value) (l : List Txt) (hl : l.length ≤ 100000) (x : Txt) (w : World) (hv : SlS w v l) (hr : Rise slt l) :
    Calls Tryz.prog 42 #[v, .string (str x)] w fun e w' => ∃ p, e = .returned (.tuple #[.int .i64 (p : Nat), .bool (decide (l[p]? = some x))]) ∧ At slt l x p ∧ ∃ q, w' = w.drewN q := by
  obtain ⟨a, b, o, c, rfl, ha, hx⟩ := hv
  rcases ha with rfl | rfl
  · exact (Any2.slices_BinarySearch_string_empty Tryz.lays226 a c (str x) w).mono fun e w' ⟨he, hw⟩ =>
      ⟨0, by rw [he]; rfl, ⟨Nat.le_refl _, fun m y h => absurd h (Nat.not_lt_zero m), fun m y _ h => by simp at h⟩, 0, by rw [hw]; rfl⟩
  · have hk : ∃ k, At slt l x k := by
      refine ⟨(l.filter (fun y => slt y x)).length, ?_⟩
      clear hx hl
      induction l with
      | nil => exact ⟨by simp, fun m y h => by simp at h, fun m y _ h => by simp at h⟩
      | cons y t ih =>
        have hr' := List.pairwise_cons.1 hr
        have i := ih hr'.2
        rw [List.filter_cons]
        by_cases hy : slt y x = true
        · rw [if_pos hy]
          refine ⟨by have := i.le; simp only [List.length_cons]; omega, fun m z hm hz => ?_, fun m z hm hz => ?_⟩
          · cases m with
            | zero => simp at hz; subst hz; exact hy
            | succ m => exact i.low m z (by simp only [List.length_cons] at hm; omega) (by simpa using hz)
          · cases m with
            | zero => simp only [List.length_cons] at hm; omega
            | succ m => exact i.high m z (by simp only [List.length_cons] at hm; omega) (by simpa using hz)
        · have hy' : slt y x = false := by simpa using hy
          rw [if_neg hy]
          have h0 : ∀ z ∈ t, slt z x = false := fun z hz => by
            cases hzx : slt z x with
            | false => rfl
            | true => rw [sord.tr (hr'.1 z hz) hzx] at hy'; cases hy'
          have hn : t.filter (fun y => slt y x) = [] := List.filter_eq_nil_iff.2 (fun z hz => by rw [h0 z hz]; simp)
          rw [hn]
          refine ⟨by simp, fun m z hm => by simp at hm, fun m z _ hz => ?_⟩
          rcases List.mem_cons.1 (List.mem_of_getElem? hz) with rfl | h
          · exact hy'
          · exact h0 z h
    obtain ⟨k, hk⟩ := hk
    have hS : ∀ j, j < l.length → w.cell? ⟨b, o + j, none⟩ = some (.string (str (l.getD j x))) := fun j hj => by
      have := hx j l[j] (List.getElem?_eq_getElem hj)
      rw [this]
      simp [hj]
    have hd : ∀ t : Txt, (str t).toList = t := fun t => by simp [str, ByteArray.toList_eq]
    have hb : Lib.bsGo (fun t => Op.bytesLess (str (l.getD t x)).toList (str x).toList) l.length 0 l.length = k := by
      refine Lib.bsGo_spec _ k (fun t ht => ?_) (fun t ht => ?_) _ _ _ (Nat.le_refl _) (Nat.zero_le _) hk.le
      · have hl := hk.le
        have := hk.low t l[t] ht (List.getElem?_eq_getElem (by omega))
        simp only [hd, bytesLess_eq]
        rw [show l.getD t x = l[t] by simp [show t < l.length by omega]]
        exact this
      · simp only [hd, bytesLess_eq]
        by_cases htl : t < l.length
        · have := hk.high t l[t] ht (List.getElem?_eq_getElem htl)
          rw [show l.getD t x = l[t] by simp [htl]]
          exact this
        · rw [show l.getD t x = x by simp [htl]]
          exact sord.irr x
    refine (Any2.slices_BinarySearch_string Tryz.lays226 b o l.length c (fun j => str (l.getD j x)) (str x) w (by omega) hS).mono ?_
    rintro e w' ⟨he, q, hw⟩
    rw [hb] at he
    refine ⟨k, ?_, hk, q, hw⟩
    have hdec : decide (k < l.length ∧ str (l.getD k x) = str x) = decide (l[k]? = some x) := by
      congr 1
      apply propext
      constructor
      · rintro ⟨h1, h2⟩
        have h3 : l.getD k x = x := by have := congrArg ByteArray.toList h2; simpa only [hd] using this
        rw [List.getElem?_eq_getElem h1]
        rw [show l.getD k x = l[k] by simp [h1]] at h3
        rw [h3]
      · intro h
        have h1 := (List.getElem?_eq_some_iff.1 h).1
        refine ⟨h1, ?_⟩
        rw [show l.getD k x = x by simp [h]]
    rw [he]
    simp only [hdec]
/-- A set's box: a rising row of its own. -/
structure SetT (w : World) (p B : Nat) (v : Value) (l : List Txt) : Prop where
  c0 : w.cell? ⟨p, 0, none⟩ = some v
  f0 : w.frozen? ⟨p, 0, none⟩ = false
  row : RowS w B v l
  rise : Rise slt l
  ne : v.ownBlock ≠ some p
theorem SetT.below {w w' : World} {p B : Nat} {v : Value} {l : List Txt} (h : SetT w p B v l) (hb : Below w.heap.size w w') : SetT w' p B v l := by
  have hlt := World.block_lt_of_cell? _ _ h.c0
  exact ⟨(hb.cell (p := ⟨p, 0, none⟩) hlt).trans h.c0, (hb.frozen (p := ⟨p, 0, none⟩) hlt).trans h.f0, h.row.below hb, h.rise, h.ne⟩
theorem below_drewT {B : Nat} {w w' : World} (h : Below B w w') (q : Nat) : Below B w (w'.drewN q) := ⟨h.os, h.tape, h.output, h.size, h.block⟩
theorem SetT.drewN {w : World} {p B : Nat} {v : Value} {l : List Txt} (h : SetT w p B v l) (q : Nat) : SetT (w.drewN q) p B v l := h.below (below_drewT (Below.refl _ w) q)
theorem setT_not_nil (w : World) (q : Nat) : (binOp .eql 29 (.pointer (some ⟨q, 0, none⟩)) (.pointer none)).run Tryz.prog w = .ok (.bool false) w := by kernel_rfl
theorem sxPlace_any {w : World} {p B : Nat} {v : Value} {l : List Txt} (h : SetT w p B v l) (hl : l.length ≤ 100000) (x : Txt) :
    Calls Tryz.prog 27 #[.pointer (some ⟨p, 0, none⟩), .string (str x)] w fun e w' => ∃ k, e = .returned (.tuple #[.int .i64 (k : Nat), .bool (decide (l[k]? = some x))]) ∧ At slt l x k ∧ ∃ q, w' = w.drewN q := by
  have HB := Lib.hid (sxBin_any v l hl x w h.row.sl h.rise)
  have hn := fun W => setT_not_nil W p
  have c0 := h.c0
  obtain ⟨a, c, rfl⟩ := h.row.slice
  clear h
  go_enter Tryz.func27, Tryz.ntmps27
  go_wp2_with (go_at_call 42; refine HB.out.mono ?_; rintro e w1 ⟨k, rfl, hat, q, rfl⟩; have HAT := Lib.hid hat; clear hat)
  go_ret2
  exact ⟨k, rfl, HAT.out, q, rfl⟩
theorem sxLen_any {w : World} {p B : Nat} {v : Value} {l : List Txt} (h : SetT w p B v l) :
    Calls Tryz.prog 66 #[.pointer (some ⟨p, 0, none⟩)] w fun e w' => e = .returned (.int .i64 (l.length : Nat)) ∧ w = w' := by
  have hn := fun W => setT_not_nil W p
  have c0 := h.c0
  obtain ⟨a, c, rfl⟩ := h.row.slice
  clear h
  go_enter Tryz.func66, Tryz.ntmps66
  go_wp2
  go_ret
  exact ⟨rfl, rfl⟩
/-- What stands at a place, if it is one. -/
def atS (l : List Txt) (k : Int) : Txt × Bool := if 0 ≤ k ∧ k < l.length then ((l[k.toNat]?).getD [], true) else ([], false)
theorem sxAt_any {w : World} {p B : Nat} {v : Value} {l : List Txt} (h : SetT w p B v l) (k : Int) :
    Calls Tryz.prog 41 #[.pointer (some ⟨p, 0, none⟩), .int .i64 k] w fun e w' => e = .returned (.tuple #[.string (str (atS l k).1), .bool (atS l k).2]) ∧ w = w' := by
  have HL := Lib.hid (sxLen_any h)
  have c0 := h.c0
  have HS := Lib.hid h.row.sl
  obtain ⟨a, c, rfl⟩ := h.row.slice
  clear h
  have HQ : Hid (atS l k = if 0 ≤ k ∧ k < l.length then ((l[k.toNat]?).getD [], true) else ([], false)) := rfl
  generalize atS l k = r at HQ ⊢
  by_cases h0 : 0 ≤ k
  · have i0 : ¬ k < 0 := by omega
    by_cases h1 : k < l.length
    · obtain ⟨n, rfl⟩ := Int.eq_ofNat_of_zero_le h0
      have hn : n < l.length := by omega
      have hy : l[n]? = some l[n] := List.getElem?_eq_getElem hn
      have hr : r = (l[n], true) := by rw [HQ.out, if_pos ⟨h0, h1⟩, Int.toNat_natCast, hy]; rfl
      subst hr
      obtain ⟨a', b, o, c', he, ha, hx⟩ := HS.out
      obtain rfl : a = a' := by cases he; rfl
      obtain rfl : a = some ⟨b, o, none⟩ := ha.resolve_left (by intro h; rw [h] at hn; cases hn)
      have d0 := hx n _ hy
      generalize l[n] = y at d0 ⊢
      have i1 : ¬ (l.length : Int) ≤ (n : Int) := by omega
      clear HQ he ha hx hy
      go_enter Tryz.func41, Tryz.ntmps41
      go_wp2_with (go_at_call 66; refine HL.out.mono ?_; rintro e w1 ⟨rfl, rfl⟩)
      go_ret2
      exact ⟨rfl, rfl⟩
    · have hr : r = ([], false) := by rw [HQ.out, if_neg (fun h => h1 h.2)]
      subst hr
      have i1 : (l.length : Int) ≤ k := by omega
      clear HQ h1
      go_enter Tryz.func41, Tryz.ntmps41
      go_wp2_with (go_at_call 66; refine HL.out.mono ?_; rintro e w1 ⟨rfl, rfl⟩)
      go_ret2
      exact ⟨rfl, rfl⟩
  · have hr : r = ([], false) := by rw [HQ.out, if_neg (fun h => h0 h.1)]
    subst hr
    have i0 : k < 0 := by omega
    clear HQ h0
    go_enter Tryz.func41, Tryz.ntmps41
    go_wp2
    go_ret2
    exact ⟨rfl, rfl⟩
/-- The first of a row, if it has one. -/
def fst (l : List Txt) : Txt × Bool := match l with | [] => ([], false) | x :: _ => (x, true)
theorem fst_drop (l : List Txt) (n : Nat) : atS l n = fst (l.drop n) := by
  unfold atS
  by_cases h : n < l.length
  · rw [if_pos ⟨by omega, by omega⟩, Int.toNat_natCast, List.drop_eq_getElem_cons h, List.getElem?_eq_getElem h]; rfl
  · rw [if_neg (by omega), List.drop_eq_nil_of_le (by omega)]; rfl
theorem sxLeast_any {w : World} {p B : Nat} {v : Value} {l : List Txt} (h : SetT w p B v l) :
    Calls Tryz.prog 25 #[.pointer (some ⟨p, 0, none⟩)] w fun e w' => e = .returned (.tuple #[.string (str (fst l).1), .bool (fst l).2]) ∧ w = w' := by
  have HA := Lib.hid (sxAt_any h 0)
  have e0 : atS l 0 = fst l := fst_drop l 0
  rw [e0] at HA
  clear h e0
  generalize fst l = r at HA ⊢
  go_enter Tryz.func25, Tryz.ntmps25
  go_wp2_with (go_at_call 41; refine HA.out.mono ?_; rintro e w1 ⟨rfl, rfl⟩)
  go_ret2
  exact ⟨rfl, rfl⟩
theorem sxAbove_any {w : World} {p B : Nat} {v : Value} {l : List Txt} (h : SetT w p B v l) (hl : l.length ≤ 100000) (x : Txt) :
    Calls Tryz.prog 26 #[.pointer (some ⟨p, 0, none⟩), .string (str x)] w fun e w' => e = .returned (.tuple #[.string (str (fst (above slt l x)).1), .bool (fst (above slt l x)).2]) ∧ ∃ q, w' = w.drewN q := by
  have HP := Lib.hid (sxPlace_any h hl x)
  have HA := Lib.hid (fun (q k : Nat) => sxAt_any (h.drewN q) k)
  have HRI := Lib.hid h.rise
  clear h
  obtain ⟨r, hr⟩ : ∃ r, r = fst (above slt l x) := ⟨_, rfl⟩
  rw [← hr]
  have HR := Lib.hid hr
  clear hr
  go_enter Tryz.func26, Tryz.ntmps26
  go_upto_region 2 with (go_at_call 27; refine HP.out.mono ?_; rintro e w1 ⟨k, rfl, hat, q, rfl⟩; have HAT := Lib.hid hat; clear hat)
  have hk := HAT.out.le
  by_cases hx : l[k]? = some x
  · rw [decide_eq_true hx]
    have HE : Hid (atS l ((k + 1 : Nat) : Int) = fst (above slt l x)) := by
      show _ = _
      rw [fst_drop, HAT.out.drop_above1 sord HRI.out hx]
    have HA2 := Lib.hid (HA.out q (k + 1))
    rw [HE.out, ← HR.out] at HA2
    clear hx HE
    go_wp2_with (go_at_call 41; refine HA2.out.mono ?_; rintro e w1 ⟨rfl, rfl⟩)
    go_ret2
    exact ⟨rfl, q, rfl⟩
  · rw [decide_eq_false hx]
    have HE : Hid (atS l (k : Int) = fst (above slt l x)) := by
      show _ = _
      rw [fst_drop, HAT.out.drop_above sord HRI.out hx]
    have HA2 := Lib.hid (HA.out q k)
    rw [HE.out, ← HR.out] at HA2
    clear hx HE
    go_wp2_with (go_at_call 41; refine HA2.out.mono ?_; rintro e w1 ⟨rfl, rfl⟩)
    go_ret2
    exact ⟨rfl, q, rfl⟩
end Go.Proofs.YtnhbdonffomibaaGreat
/- The contracts of slices.Insert and slices.Delete of one text, at a row of one's own. -/
namespace Go.Proofs.YtnhbdonffomibaaGreat
open Go.RowKit Go.Sort
theorem insertT_any (B vb vc i : Nat) (v : Value) (l : List (List UInt8)) (x : (List UInt8)) (T : TypeId) (w : World) (hi : i ≤ l.length) (hl : l.length ≤ 100000) (hv : RowT w B v l) (hB : B ≤ w.heap.size) (hvb : w.heap[vb]? = some (.cells (cellsT x).toArray T (0, 0))) (hne : v.ownBlock ≠ some vb) :
    Calls Tryz.prog 28 #[v, .int .i64 i, .slice (some ⟨vb, 0, none⟩) 1 vc] w (InsOutT B v (l.take i ++ x :: l.drop i) w) := by
  by_cases he : i = l.length
  · subst he
    rw [List.take_length, List.drop_length]
    exact insertT_end B vb vc v l x T w hv hB hl hvb
  · obtain ⟨_, h1⟩ := hv
    rcases h1 with ⟨rfl, h0⟩ | ⟨g, cap, cur, rfl, hg, hh, hn, hm, hs, ht⟩
    · omega
    · have hng : vb ≠ g := fun h => hne (by rw [h]; rfl)
      by_cases hr : l.length + 1 ≤ cap
      · exact insertT_shift B g cap i vb vc cur l x T w (by omega) hr hm hh hg hs ht hvb hng
      · exact insertT_grow B g cap i vb vc cur l x T w (by omega) hn hr hl hB hh ht hvb
theorem flat_eS (l : List Txt) : l.flatMap cellsT = l.map eS := by
  induction l with
  | nil => rfl
  | cons x t ih => rw [List.flatMap_cons, ih]; rfl
theorem rowT_iff (w : World) (B : Nat) (v : Value) (l : List Txt) : RowT w B v l = RowS w B v l := by
  unfold RowT RowS RowP
  rw [flat_eS]
theorem oneS : OneCell eS := fun _ => rfl
/-- What Insert answers. -/
structure InsS (B : Nat) (u : Value) (l : List Txt) (w : World) (v : Value) (w' : World) : Prop where
  row : RowS w' B v l
  below : Below B w w'
  keep : ∀ k, u.ownBlock ≠ some k → k < w.heap.size → w'.heap[k]? = w.heap[k]?
  at' : v.ownBlock = u.ownBlock ∨ ∃ g, v.ownBlock = some g ∧ w.heap.size ≤ g
theorem sxIns_any (B vb vc i : Nat) (v : Value) (l : List Txt) (x : Txt) (T : TypeId) (w : World) (hi : i ≤ l.length) (hl : l.length ≤ 100000) (hv : RowS w B v l) (hB : B ≤ w.heap.size) (hvb : w.heap[vb]? = some (.cells #[.string (str x)] T (0, 0))) (hne : v.ownBlock ≠ some vb) :
    Calls Tryz.prog 28 #[v, .int .i64 i, .slice (some ⟨vb, 0, none⟩) 1 vc] w fun e w' => ∃ v', e = .returned v' ∧ InsS B v (Tx.ins l i x) w v' w' :=
  (insertT_any B vb vc i v l x T w hi hl (by rw [rowT_iff]; exact hv) hB hvb hne).mono fun e w' h => by
    obtain ⟨v', he, hr, hb, hk, hf⟩ := h
    rw [rowT_iff] at hr
    exact ⟨v', he, hr, hb, hk, hf⟩
/-- What Delete of one answers. -/
theorem sxDel_any (B g cap i : Nat) (l : List Txt) (w : World) (hi : i < l.length) (hv : RowS w B (.slice (some ⟨g, 0, none⟩) l.length cap) l) :
    Calls Tryz.prog 29 #[.slice (some ⟨g, 0, none⟩) l.length cap, .int .i64 i, .int .i64 ((i : Int) + 1)] w fun e w' => ∃ v', e = .returned v' ∧ v'.ownBlock = some g ∧ InsS B (.slice (some ⟨g, 0, none⟩) l.length cap) (Tx.del l i) w v' w' := by
  obtain ⟨i0, hi0, hz0, hz1, hz2⟩ := info_parts infoS
  have hcap : l.length ≤ cap ∧ cap ≤ 9223372036854775807 ∧ B ≤ g ∧ g < w.heap.size := by
    rcases hv.open with ⟨h, _⟩ | ⟨g', cap', cur, h, hB, hg, h1, h2, _⟩
    · cases h
    · cases h; exact ⟨h1, h2, hB, (Array.getElem?_eq_some_iff.1 hg).1⟩
  have hF : (l.take i ++ l.drop (i + 1) ++ List.replicate (i + 1 - i) ([] : Txt)).length = l.length := by simp; omega
  have h := Tryz.slices_Delete_f29 eS oneS ([] : Txt) (fun w => Tryz.zeroValue9 w) i0 hi0 hz1 g 0 cap i (i + 1) l.toArray w (hv.holds rfl) (by simpa using hcap.1) hcap.2.1 (by omega) (by show i + 1 ≤ l.length; omega)
  refine h.mono ?_
  rintro e w' ⟨he, q, hw⟩
  obtain ⟨hr, hb⟩ := RowP.put (n := q) (os := #[]) hv (l.take i ++ l.drop (i + 1) ++ List.replicate (i + 1 - i) ([] : Txt)) (l.length - 1) hF (by omega)
  rw [grow_none] at hr hb
  have hd : (l.take i ++ l.drop (i + 1) ++ List.replicate (i + 1 - i) ([] : Txt)).take (l.length - 1) = Tx.del l i := by
    rw [List.take_append_of_le_length (by simp; omega), List.take_of_length_le (by simp; omega)]; rfl
  rw [hd] at hr
  refine ⟨_, he, rfl, ?_, ?_, ?_, .inl rfl⟩
  · rw [hw]
    have e1 : l.toArray.size - (i + 1 - i) = l.length - 1 := by simp
    rw [e1]; exact hr
  · rw [hw]; exact hb
  · intro k hk _
    rw [hw]
    have : g ≠ k := fun h => hk (by rw [h]; rfl)
    simp [putRow, mapBlock, Sort.ahead, Array.getElem?_modify, this]
end Go.Proofs.YtnhbdonffomibaaGreat
