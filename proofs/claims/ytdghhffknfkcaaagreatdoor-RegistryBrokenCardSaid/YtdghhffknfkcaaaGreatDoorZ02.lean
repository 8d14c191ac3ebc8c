/- Texts of one seat, merged. -/
import Derived.Test.YtdghhffknfkcaaaGreatDoorZ01
import Derived.Laws.OwnMore
import Derived.Lib.SlicesCompact
import Derived.Shelf.Spec.SearchS
import Derived.Shelf.LaysM
import Derived.Shelf.Sort.Plain
import Derived.Shelf.Slices.In.SortNone
import Derived.Shelf.Slices.Clone
import Derived.Shelf.Strings.Replace
import Derived.Shelf.Strings.Cut
import Derived.Shelf.Strings.Count
import Derived.Shelf.SlicesE.Equal
import Derived.Shelf.SlicesE.Delete
import Derived.Shelf.SlicesE.Clone
import Derived.Test.YtdghhffknfkcaaaGreatDoorProg
import Derived.Sort.Walk0
import Derived.Deep.DeepCutAuto
set_option maxRecDepth 100000
set_option maxHeartbeats 4000000
set_option linter.unusedVariables false
/- Each once, of a sorted row. -/
namespace Go.Proofs.YtdghhffknfkcaaaGreatDoor.Tx
variable {α : Type} [DecidableEq α]
def cmpn (l : List α) : Nat → List α
  | 0 => []
  | 1 => l.take 1
  | j + 2 => if l[j + 1]? = l[j]? then cmpn l (j + 1) else cmpn l (j + 1) ++ (l[j + 1]?).toList
theorem take_snoc {α : Type} {l : List α} {k : Nat} {y : α} (h : l[k]? = some y) : l.take (k + 1) = l.take k ++ [y] := by rw [List.take_add_one, h]; rfl
theorem cmpn_same {l : List α} {j : Nat} {x : α} (h : l[j + 1]? = some x) (h2 : l[j]? = some x) : cmpn l (j + 2) = cmpn l (j + 1) := by
  rw [cmpn, if_pos (by rw [h, h2])]
theorem cmpn_next {l : List α} {j : Nat} {x y : α} (h : l[j + 1]? = some x) (h2 : l[j]? = some y) (hn : x ≠ y) : cmpn l (j + 2) = cmpn l (j + 1) ++ [x] := by
  rw [cmpn, if_neg (by rw [h, h2]; simpa using hn), h]; rfl
theorem cmpn_len (l : List α) : ∀ j, (cmpn l j).length ≤ j
  | 0 => Nat.le_refl _
  | 1 => by unfold cmpn; rw [List.length_take]; omega
  | j + 2 => by
    unfold cmpn
    have := cmpn_len l (j + 1)
    split
    · omega
    · rw [List.length_append]
      cases l[j + 1]? <;> simp <;> omega
theorem cmpn_rise {lt : α → α → Bool} (O : Ord lt) (l : List α) (hs : l.Pairwise fun a b => lt b a = false) : ∀ j, j ≤ l.length → Rise lt (cmpn l j) ∧ ∀ z, z ∈ cmpn l j ↔ z ∈ l.take j
  | 0, _ => ⟨List.Pairwise.nil, fun z => by simp [cmpn]⟩
  | 1, h => by
    refine ⟨?_, fun z => Iff.rfl⟩
    unfold cmpn
    match l, h with
    | x :: t, _ => simp
  | j + 2, h => by
    obtain ⟨h1, h2⟩ := cmpn_rise O l hs (j + 1) (by omega)
    have e1 : l[j + 1]? = some l[j + 1] := List.getElem?_eq_getElem (by omega)
    have e0 : l[j]? = some l[j] := List.getElem?_eq_getElem (by omega)
    have hge : ∀ i z, i < j + 1 → l[i]? = some z → lt l[j + 1] z = false := fun i z hi hz => by
      have := List.pairwise_iff_getElem.1 hs i (j + 1) (by omega) (by omega) (by omega)
      rw [(List.getElem?_eq_some_iff.1 hz).2] at this
      exact this
    have hge0 : ∀ i z, i < j → l[i]? = some z → lt l[j] z = false := fun i z hi hz => by
      have := List.pairwise_iff_getElem.1 hs i j (by omega) (by omega) (by omega)
      rw [(List.getElem?_eq_some_iff.1 hz).2] at this
      exact this
    generalize l[j + 1] = x at e1 hge
    generalize l[j] = y at e0 hge0
    have hm : ∀ z, z ∈ l.take (j + 2) ↔ z ∈ l.take (j + 1) ∨ z = x := fun z => by rw [take_snoc e1]; simp
    by_cases hxy : x = y
    · subst hxy
      rw [cmpn_same e1 e0]
      refine ⟨h1, fun z => ?_⟩
      rw [h2, hm]
      constructor
      · exact .inl
      · rintro (h | rfl)
        · exact h
        · rw [take_snoc e0]; simp
    · rw [cmpn_next e1 e0 hxy]
      have hyx : lt y x = true := by
        cases hq : lt y x with
        | true => rfl
        | false => exact absurd (O.tri (hge j y (by omega) e0) hq) hxy
      have hle : ∀ z, z ∈ l.take (j + 1) → lt z x = true := by
        intro z hz
        rw [take_snoc e0] at hz
        rcases List.mem_append.1 hz with hz | hz
        · obtain ⟨i, hi⟩ := List.getElem?_of_mem hz
          have hij : i < j := by
            have := (List.getElem?_eq_some_iff.1 hi).1
            rw [List.length_take] at this; omega
          rw [List.getElem?_take_of_lt hij] at hi
          have hyz := hge0 i z hij hi
          cases hzy : lt z y with
          | true => exact O.tr hzy hyx
          | false => rw [← O.tri hyz hzy]; exact hyx
        · simp at hz; subst hz; exact hyx
      refine ⟨?_, fun z => ?_⟩
      · refine List.pairwise_append.2 ⟨h1, by simp, fun a ha b hb => ?_⟩
        simp at hb; subst hb
        exact hle a ((h2 a).1 ha)
      · rw [List.mem_append, h2, hm]; simp
end Go.Proofs.YtdghhffknfkcaaaGreatDoor.Tx
namespace Go.Proofs.YtdghhffknfkcaaaGreatDoor
open Go.RowKit Go.Sort
variable {α : Type} {enc : α → Value} {t : TypeId} {w w' : World} {B B' : Nat} {v : Value} {l : List α}
theorem some_atP {α : Type} {l : List α} {k : Nat} (h : k < l.length) : ∃ x, l[k]? = some x := ⟨l[k], List.getElem?_eq_getElem h⟩
theorem RowP.set {g c : Nat} (h : RowP enc t w B (.slice (some ⟨g, 0, none⟩) l.length c) l) (i : Nat) (x : α) : RowP enc t (w.setCell ⟨g, i, none⟩ (enc x)) B (.slice (some ⟨g, 0, none⟩) (l.set i x).length c) (l.set i x) := by
  have h' : w.ownsRow B t 1 (.slice (some ⟨g, 0, none⟩) l.length c) l.length (l.map enc) := h
  have := (h'.stored i (enc x)).1
  show World.ownsRow _ _ _ _ _ _ _
  rw [List.length_set, List.map_set]
  exact this
theorem rest_atP {α : Type} {A m : List α} {t : Nat} (h : A.length ≤ t) : (A ++ m.drop A.length)[t]? = m[t]? := by
  rw [List.getElem?_append_right h, List.getElem?_drop]
  congr 1
  omega
theorem set_restP {α : Type} {A m : List α} {x : α} (h : A.length < m.length) : (A ++ m.drop A.length).set A.length x = (A ++ [x]) ++ m.drop (A ++ [x]).length := by
  rw [List.set_append_right _ _ (Nat.le_refl _), Nat.sub_self, List.drop_eq_getElem_cons h, List.set_cons_zero]
  simp
/-- What is behind a place is cleared; what stands ahead of it stays. -/
theorem RowP.cleared {g c n : Nat} {A S : List α} (h : RowP enc t w B (.slice (some ⟨g, 0, none⟩) n c) (A ++ S)) (hn : (A ++ S).length = n) (vs : List Value) (hvs : vs.length = S.length) :
    RowP enc t (w.setCells g A.length vs) B (.slice (some ⟨g, 0, none⟩) A.length c) A ∧ Below B w (w.setCells g A.length vs) ∧ (∀ k, k ≠ g → (w.setCells g A.length vs).heap[k]? = w.heap[k]?) ∧ w.heap.size ≤ (w.setCells g A.length vs).heap.size := by
  rcases h.open with ⟨h0, _⟩ | ⟨g', cap', cur, hv, hB, hb, hc1, hc2, hc3, hc4⟩
  · cases h0
  · cases hv
    have hl : (A ++ S).length = A.length + S.length := List.length_append
    have hsz : A.length + vs.length ≤ cur.size := by omega
    rw [setCells_row g t _ _ cur w hb hsz]
    have hg := setRow_heap w g cur (cur.toList.take A.length ++ vs ++ cur.toList.drop (A.length + vs.length)).toArray t _ hb
    refine ⟨.mk hB hg (by omega) hc2 ?_ ?_, below_setRow (Below.refl _ _) hB _, fun k hk => setRow_other w g k _ hk, by simp [World.setRow]⟩
    · have h9 : cur.toList.length = cur.size := Array.length_toList
      simp only [List.size_toArray, List.length_append, List.length_take, List.length_drop]
      omega
    · have h9 : cur.toList.length = cur.size := Array.length_toList
      show List.take A.length (cur.toList.take A.length ++ vs ++ cur.toList.drop (A.length + vs.length)) = _
      rw [List.append_assoc, List.take_append_of_le_length (by rw [List.length_take]; omega), List.take_take, Nat.min_self]
      have := congrArg (List.take A.length) hc4
      rw [List.take_take, Nat.min_eq_left (by omega), List.map_append, List.take_append_of_le_length (by simp)] at this
      rw [this]
      exact List.take_of_length_le (by simp)
end Go.Proofs.YtdghhffknfkcaaaGreatDoor
/- The library's contracts, laid at this program's numbers by the guide's own tool. -/
namespace Go.Proofs
open Go.Shelf
def Tryz.lays145_ren : Go.Shelf.Ren := ⟨fun | 145 => 163 | 220 => 174 | 219 => 184 | 217 => 190 | 225 => 191 | 224 => 192 | 267 => 193 | 266 => 196 | 314 => 197 | n => n, fun | 9 => 9 | 4 => 4 | 59 => 228 | 3 => 3 | 5 => 5 | 46 => 190 | 146 => 262 | 51 => 33 | n => n, fun | 1 => 0 | n => n⟩
theorem Tryz.lays145 : Go.Proofs.Lays.n145 Tryz.prog Tryz.lays145_ren := {
  mixed := by kernel_rfl
  f145 := Tryz.func163.trans (congrArg some (by kernel_rfl))
  f217 := Tryz.func190.trans (congrArg some (by kernel_rfl))
  f219 := Tryz.func184.trans (congrArg some (by kernel_rfl))
  f220 := Tryz.func174.trans (congrArg some (by kernel_rfl))
  f224 := Tryz.func192.trans (congrArg some (by kernel_rfl))
  f225 := Tryz.func191.trans (congrArg some (by kernel_rfl))
  f266 := Tryz.func196.trans (congrArg some (by kernel_rfl))
  f267 := Tryz.func193.trans (congrArg some (by kernel_rfl))
  f314 := Tryz.func197.trans (congrArg some (by kernel_rfl))
  t3 := Tryz.underlying3
  a3 := Tryz.isAgg3
  z3 := Tryz.sizeOf3
  v3 := Tryz.zeroValue3
  t4 := Tryz.underlying4
  a4 := Tryz.isAgg4
  z4 := Tryz.sizeOf4
  v4 := Tryz.zeroValue4
  t5 := Tryz.underlying5
  a5 := Tryz.isAgg5
  z5 := Tryz.sizeOf5
  v5 := Tryz.zeroValue5
  t9 := Tryz.underlying9
  a9 := Tryz.isAgg9
  z9 := Tryz.sizeOf9
  v9 := Tryz.zeroValue9
  t46 := Tryz.underlying190
  a46 := Tryz.isAgg190
  z46 := Tryz.sizeOf190
  v46 := Tryz.zeroValue190
  t51 := Tryz.underlying33
  a51 := Tryz.isAgg33
  z51 := Tryz.sizeOf33
  v51 := Tryz.zeroValue33
  t59 := Tryz.underlying228
  a59 := Tryz.isAgg228
  z59 := Tryz.sizeOf228
  v59 := Tryz.zeroValue228
  t146 := Tryz.underlying262
  a146 := Tryz.isAgg262
  z146 := Tryz.sizeOf262
  v146 := Tryz.zeroValue262
  g1 := by kernel_rfl }
open Go.RowKit Go.Lib in
theorem Tryz.strings_Cut (s sep : ByteArray) (m : Int) (w : World) (hs : s.size < 4294967281) (hm : w.cell? ⟨0, 0, none⟩ = some (.int .i64 m)) :
    Calls Tryz.prog 163 #[.string s, .string sep] w fun e w' => e = .returned (.tuple #[.string ⟨(Lib.cut s.data.toList sep.data.toList).1.toArray⟩, .string ⟨(Lib.cut s.data.toList sep.data.toList).2.1.toArray⟩, .bool (Lib.cut s.data.toList sep.data.toList).2.2]) ∧ ∃ n, w' = w.drewN n := Any.strings_Cut Tryz.lays145 s sep m w hs hm
def Tryz.lays138_ren : Go.Shelf.Ren := ⟨fun | 138 => 176 | 195 => 185 | 218 => 186 | 143 => 178 | 219 => 184 | 217 => 190 | 225 => 191 | 224 => 192 | 267 => 193 | 266 => 196 | 314 => 197 | n => n, fun | 9 => 9 | 3 => 3 | 4 => 4 | 5 => 5 | 0 => 0 | 46 => 190 | 146 => 262 | 51 => 33 | n => n, fun | 1 => 0 | n => n⟩
theorem Tryz.lays138 : Go.Proofs.Lays.n138 Tryz.prog Tryz.lays138_ren := {
  mixed := by kernel_rfl
  f138 := Tryz.func176.trans (congrArg some (by kernel_rfl))
  f143 := Tryz.func178.trans (congrArg some (by kernel_rfl))
  f195 := Tryz.func185.trans (congrArg some (by kernel_rfl))
  f217 := Tryz.func190.trans (congrArg some (by kernel_rfl))
  f218 := Tryz.func186.trans (congrArg some (by kernel_rfl))
  f219 := Tryz.func184.trans (congrArg some (by kernel_rfl))
  f224 := Tryz.func192.trans (congrArg some (by kernel_rfl))
  f225 := Tryz.func191.trans (congrArg some (by kernel_rfl))
  f266 := Tryz.func196.trans (congrArg some (by kernel_rfl))
  f267 := Tryz.func193.trans (congrArg some (by kernel_rfl))
  f314 := Tryz.func197.trans (congrArg some (by kernel_rfl))
  t0 := Tryz.underlying0
  a0 := Tryz.isAgg0
  z0 := Tryz.sizeOf0
  v0 := Tryz.zeroValue0
  t3 := Tryz.underlying3
  a3 := Tryz.isAgg3
  z3 := Tryz.sizeOf3
  v3 := Tryz.zeroValue3
  t4 := Tryz.underlying4
  a4 := Tryz.isAgg4
  z4 := Tryz.sizeOf4
  v4 := Tryz.zeroValue4
  t5 := Tryz.underlying5
  a5 := Tryz.isAgg5
  z5 := Tryz.sizeOf5
  v5 := Tryz.zeroValue5
  t9 := Tryz.underlying9
  a9 := Tryz.isAgg9
  z9 := Tryz.sizeOf9
  v9 := Tryz.zeroValue9
  t46 := Tryz.underlying190
  a46 := Tryz.isAgg190
  z46 := Tryz.sizeOf190
  v46 := Tryz.zeroValue190
  t51 := Tryz.underlying33
  a51 := Tryz.isAgg33
  z51 := Tryz.sizeOf33
  v51 := Tryz.zeroValue33
  t146 := Tryz.underlying262
  a146 := Tryz.isAgg262
  z146 := Tryz.sizeOf262
  v146 := Tryz.zeroValue262
  g1 := by kernel_rfl }
open Go.RowKit Go.Lib in
theorem Tryz.strings_Count_one (s : ByteArray) (c : UInt8) (w : World) :
    Calls Tryz.prog 176 #[.string s, .string ⟨#[c]⟩] w fun e w' => e = .returned (.int .i64 (Lib.countByte s.data.toList c)) ∧ w' = w := Any.strings_Count_one Tryz.lays138 s c w
open Go.RowKit Go.Lib in
theorem Tryz.strings_Count (s sub : ByteArray) (m : Int) (w : World) (hs : s.size < 4294967281) (hm : w.cell? ⟨0, 0, none⟩ = some (.int .i64 m)) (h2 : 2 ≤ sub.size) :
    Calls Tryz.prog 176 #[.string s, .string sub] w fun e w' => e = .returned (.int .i64 (Lib.countB s sub)) ∧ w' = w := Any.strings_Count Tryz.lays138 s sub m w hs hm h2
def Tryz.lays190_ren : Go.Shelf.Ren := ⟨fun | 190 => 64 | 125 => 111 | 258 => 110 | 128 => 153 | 129 => 154 | 302 => 144 | 303 => 145 | 304 => 146 | 305 => 147 | 306 => 148 | 307 => 149 | 308 => 150 | 309 => 151 | 310 => 152 | 333 => 169 | 329 => 170 | 330 => 171 | 334 => 172 | 335 => 173 | 336 => 155 | 344 => 183 | n => n, fun | 31 => 52 | 9 => 9 | 3 => 3 | 46 => 190 | 0 => 0 | 51 => 33 | 53 => 34 | 4 => 4 | 183 => 217 | 182 => 216 | 131 => 169 | 5 => 5 | 218 => 233 | 222 => 47 | 228 => 249 | 229 => 250 | n => n, fun | n => n⟩
theorem Tryz.lays190 : Go.Proofs.Lays.n190 Tryz.prog Tryz.lays190_ren := {
  mixed := by kernel_rfl
  f125 := Tryz.func111.trans (congrArg some (by kernel_rfl))
  f128 := Tryz.func153.trans (congrArg some (by kernel_rfl))
  f129 := Tryz.func154.trans (congrArg some (by kernel_rfl))
  f190 := Tryz.func64.trans (congrArg some (by kernel_rfl))
  f258 := Tryz.func110.trans (congrArg some (by kernel_rfl))
  f302 := Tryz.func144.trans (congrArg some (by kernel_rfl))
  f303 := Tryz.func145.trans (congrArg some (by kernel_rfl))
  f304 := Tryz.func146.trans (congrArg some (by kernel_rfl))
  f305 := Tryz.func147.trans (congrArg some (by kernel_rfl))
  f306 := Tryz.func148.trans (congrArg some (by kernel_rfl))
  f307 := Tryz.func149.trans (congrArg some (by kernel_rfl))
  f308 := Tryz.func150.trans (congrArg some (by kernel_rfl))
  f309 := Tryz.func151.trans (congrArg some (by kernel_rfl))
  f310 := Tryz.func152.trans (congrArg some (by kernel_rfl))
  f329 := Tryz.func170.trans (congrArg some (by kernel_rfl))
  f330 := Tryz.func171.trans (congrArg some (by kernel_rfl))
  f333 := Tryz.func169.trans (congrArg some (by kernel_rfl))
  f334 := Tryz.func172.trans (congrArg some (by kernel_rfl))
  f335 := Tryz.func173.trans (congrArg some (by kernel_rfl))
  f336 := Tryz.func155.trans (congrArg some (by kernel_rfl))
  f344 := Tryz.func183.trans (congrArg some (by kernel_rfl))
  t0 := Tryz.underlying0
  a0 := Tryz.isAgg0
  z0 := Tryz.sizeOf0
  v0 := Tryz.zeroValue0
  t3 := Tryz.underlying3
  a3 := Tryz.isAgg3
  z3 := Tryz.sizeOf3
  v3 := Tryz.zeroValue3
  t4 := Tryz.underlying4
  a4 := Tryz.isAgg4
  z4 := Tryz.sizeOf4
  v4 := Tryz.zeroValue4
  t5 := Tryz.underlying5
  a5 := Tryz.isAgg5
  z5 := Tryz.sizeOf5
  v5 := Tryz.zeroValue5
  t9 := Tryz.underlying9
  a9 := Tryz.isAgg9
  z9 := Tryz.sizeOf9
  v9 := Tryz.zeroValue9
  t31 := Tryz.underlying52
  a31 := Tryz.isAgg52
  z31 := Tryz.sizeOf52
  v31 := Tryz.zeroValue52
  t46 := Tryz.underlying190
  a46 := Tryz.isAgg190
  z46 := Tryz.sizeOf190
  v46 := Tryz.zeroValue190
  t51 := Tryz.underlying33
  a51 := Tryz.isAgg33
  z51 := Tryz.sizeOf33
  v51 := Tryz.zeroValue33
  t53 := Tryz.underlying34
  a53 := Tryz.isAgg34
  z53 := Tryz.sizeOf34
  v53 := Tryz.zeroValue34
  t131 := Tryz.underlying169
  a131 := Tryz.isAgg169
  z131 := Tryz.sizeOf169
  v131 := Tryz.zeroValue169
  t182 := Tryz.underlying216
  a182 := Tryz.isAgg216
  z182 := Tryz.sizeOf216
  v182 := Tryz.zeroValue216
  t183 := Tryz.underlying217
  a183 := Tryz.isAgg217
  z183 := Tryz.sizeOf217
  v183 := Tryz.zeroValue217
  t218 := Tryz.underlying233
  a218 := Tryz.isAgg233
  z218 := Tryz.sizeOf233
  v218 := Tryz.zeroValue233
  t222 := Tryz.underlying47
  a222 := Tryz.isAgg47
  z222 := Tryz.sizeOf47
  v222 := Tryz.zeroValue47
  t228 := Tryz.underlying249
  a228 := Tryz.isAgg249
  z228 := Tryz.sizeOf249
  v228 := Tryz.zeroValue249
  t229 := Tryz.underlying250
  a229 := Tryz.isAgg250
  z229 := Tryz.sizeOf250
  v229 := Tryz.zeroValue250 }
open Go.Sort Go.RowKit in
theorem Tryz.slices_Sort_string (blk off cap : Nat) (ss : List (List UInt8)) (w : World) (hH : Holds encStr w blk off ss.toArray) (hblk : blk < w.heap.size) (hsz : ss.length < 4611686018427387904) :
    Calls Tryz.prog 64 #[.slice (some ⟨blk, off, none⟩) ss.length cap] w fun e w' =>
      e = .returned (.tuple #[]) ∧ ∃ n os, w' = grow (putRow encStr (Sort.ahead w n) blk off (ss.mergeSort fun x y => decide (x ≤ y)).toArray) os := Any.slices_Sort_string Tryz.lays190 blk off cap ss w hH hblk hsz
def Tryz.lays155_ren : Go.Shelf.Ren := ⟨fun | 155 => 136 | 154 => 167 | 138 => 176 | 165 => 177 | 143 => 178 | 166 => 179 | 197 => 180 | 169 => 181 | 195 => 185 | 218 => 186 | 240 => 187 | 241 => 188 | 219 => 184 | 260 => 189 | 276 => 194 | 277 => 195 | 217 => 190 | 225 => 191 | 224 => 192 | 267 => 193 | 266 => 196 | 314 => 197 | n => n, fun | 9 => 9 | 3 => 3 | 4 => 4 | 72 => 240 | 0 => 0 | 76 => 244 | 105 => 246 | 21 => 21 | 5 => 5 | 70 => 238 | 20 => 20 | 37 => 230 | 75 => 243 | 127 => 253 | 164 => 255 | 46 => 190 | 119 => 258 | 139 => 261 | 138 => 260 | 146 => 262 | 51 => 33 | 80 => 181 | n => n, fun | 1 => 0 | 3 => 1 | 4 => 2 | n => n⟩
theorem Tryz.lays155 : Go.Proofs.Lays.n155 Tryz.prog Tryz.lays155_ren := {
  mixed := by kernel_rfl
  f138 := Tryz.func176.trans (congrArg some (by kernel_rfl))
  f143 := Tryz.func178.trans (congrArg some (by kernel_rfl))
  f154 := Tryz.func167.trans (congrArg some (by kernel_rfl))
  f155 := Tryz.func136.trans (congrArg some (by kernel_rfl))
  f165 := Tryz.func177.trans (congrArg some (by kernel_rfl))
  f166 := Tryz.func179.trans (congrArg some (by kernel_rfl))
  f169 := Tryz.func181.trans (congrArg some (by kernel_rfl))
  f195 := Tryz.func185.trans (congrArg some (by kernel_rfl))
  f197 := Tryz.func180.trans (congrArg some (by kernel_rfl))
  f217 := Tryz.func190.trans (congrArg some (by kernel_rfl))
  f218 := Tryz.func186.trans (congrArg some (by kernel_rfl))
  f219 := Tryz.func184.trans (congrArg some (by kernel_rfl))
  f224 := Tryz.func192.trans (congrArg some (by kernel_rfl))
  f225 := Tryz.func191.trans (congrArg some (by kernel_rfl))
  f240 := Tryz.func187.trans (congrArg some (by kernel_rfl))
  f241 := Tryz.func188.trans (congrArg some (by kernel_rfl))
  f260 := Tryz.func189.trans (congrArg some (by kernel_rfl))
  f266 := Tryz.func196.trans (congrArg some (by kernel_rfl))
  f267 := Tryz.func193.trans (congrArg some (by kernel_rfl))
  f276 := Tryz.func194.trans (congrArg some (by kernel_rfl))
  f277 := Tryz.func195.trans (congrArg some (by kernel_rfl))
  f314 := Tryz.func197.trans (congrArg some (by kernel_rfl))
  t0 := Tryz.underlying0
  a0 := Tryz.isAgg0
  z0 := Tryz.sizeOf0
  v0 := Tryz.zeroValue0
  t3 := Tryz.underlying3
  a3 := Tryz.isAgg3
  z3 := Tryz.sizeOf3
  v3 := Tryz.zeroValue3
  t4 := Tryz.underlying4
  a4 := Tryz.isAgg4
  z4 := Tryz.sizeOf4
  v4 := Tryz.zeroValue4
  t5 := Tryz.underlying5
  a5 := Tryz.isAgg5
  z5 := Tryz.sizeOf5
  v5 := Tryz.zeroValue5
  t9 := Tryz.underlying9
  a9 := Tryz.isAgg9
  z9 := Tryz.sizeOf9
  v9 := Tryz.zeroValue9
  t20 := Tryz.underlying20
  a20 := Tryz.isAgg20
  z20 := Tryz.sizeOf20
  v20 := Tryz.zeroValue20
  t21 := Tryz.underlying21
  a21 := Tryz.isAgg21
  z21 := Tryz.sizeOf21
  v21 := Tryz.zeroValue21
  t37 := Tryz.underlying230
  a37 := Tryz.isAgg230
  z37 := Tryz.sizeOf230
  v37 := Tryz.zeroValue230
  t46 := Tryz.underlying190
  a46 := Tryz.isAgg190
  z46 := Tryz.sizeOf190
  v46 := Tryz.zeroValue190
  t51 := Tryz.underlying33
  a51 := Tryz.isAgg33
  z51 := Tryz.sizeOf33
  v51 := Tryz.zeroValue33
  t70 := Tryz.underlying238
  a70 := Tryz.isAgg238
  z70 := Tryz.sizeOf238
  v70 := Tryz.zeroValue238
  t72 := Tryz.underlying240
  a72 := Tryz.isAgg240
  z72 := Tryz.sizeOf240
  v72 := Tryz.zeroValue240
  t75 := Tryz.underlying243
  a75 := Tryz.isAgg243
  z75 := Tryz.sizeOf243
  v75 := Tryz.zeroValue243
  t76 := Tryz.underlying244
  a76 := Tryz.isAgg244
  z76 := Tryz.sizeOf244
  v76 := Tryz.zeroValue244
  t105 := Tryz.underlying246
  a105 := Tryz.isAgg246
  z105 := Tryz.sizeOf246
  v105 := Tryz.zeroValue246
  t119 := Tryz.underlying258
  a119 := Tryz.isAgg258
  z119 := Tryz.sizeOf258
  t127 := Tryz.underlying253
  a127 := Tryz.isAgg253
  z127 := Tryz.sizeOf253
  v127 := Tryz.zeroValue253
  t138 := Tryz.underlying260
  a138 := Tryz.isAgg260
  z138 := Tryz.sizeOf260
  v138 := Tryz.zeroValue260
  t139 := Tryz.underlying261
  a139 := Tryz.isAgg261
  z139 := Tryz.sizeOf261
  v139 := Tryz.zeroValue261
  t146 := Tryz.underlying262
  a146 := Tryz.isAgg262
  z146 := Tryz.sizeOf262
  v146 := Tryz.zeroValue262
  t164 := Tryz.underlying255
  a164 := Tryz.isAgg255
  z164 := Tryz.sizeOf255
  v164 := Tryz.zeroValue255
  g1 := by kernel_rfl
  g3 := by kernel_rfl
  g4 := by kernel_rfl }
theorem Tryz.Builder_Extra_155 : Builder.Extra Tryz.prog Tryz.lays155_ren := {
  sizeBuilder := by kernel_rfl
  liesBuilder := by kernel_rfl
  t5 := Tryz.underlying5
  a5 := Tryz.isAgg5
  z5 := Tryz.sizeOf5
  v5 := Tryz.zeroValue5
  infoByte := by kernel_rfl
  cellsByte := by kernel_rfl
  sizeByte := by kernel_rfl
  neB5 := by decide }
open Go.RowKit Go.Lib in
theorem Tryz.strings_ReplaceAll (s old new : ByteArray) (m : Int) (w : World) (hs : s.size < 4294967281) (hm : w.cell? ⟨0, 0, none⟩ = some (.int .i64 m)) (h1 : 1 ≤ old.size) (hlen : s.size + Lib.countB s old * new.size ≤ 140737488355328) :
    Calls Tryz.prog 136 #[.string s, .string old, .string new] w fun e w' =>
      e = .returned (.string ⟨(Lib.replaceAll s.data.toList old.data.toList new.data.toList).toArray⟩) ∧ Below w.heap.size w w' := Any.strings_ReplaceAll Tryz.lays155 Tryz.Builder_Extra_155 s old new m w hs hm h1 hlen
open Go.RowKit Go.Sort in
theorem Tryz.slices_Sort_string_none (p : Option Addr) (cap : Nat) (w : World) :
    Calls Tryz.prog 64 #[.slice p 0 cap] w fun e w' => e = .returned (.tuple #[]) ∧ w' = w := Any.slices_Sort_string_none Tryz.lays190 p cap w
def Tryz.laysSlE33_f29_ren : Go.Shelf.Ren := ⟨fun | 33 => 29 | n => n, fun | 22 => 52 | 23 => 9 | 4 => 4 | 3 => 3 | 0 => 0 | n => n, fun | n => n⟩
theorem Tryz.laysSlE33_f29 : Go.Proofs.SlLaysE.n33 Tryz.prog Tryz.laysSlE33_f29_ren := {
  mixed := by kernel_rfl
  f33 := ⟨Tryz.f29.name, by decide, Tryz.func29.trans (congrArg some (by kernel_rfl))⟩
  t0 := Tryz.underlying0
  a0 := Tryz.isAgg0
  z0 := Tryz.sizeOf0
  v0 := Tryz.zeroValue0
  t3 := Tryz.underlying3
  a3 := Tryz.isAgg3
  z3 := Tryz.sizeOf3
  v3 := Tryz.zeroValue3
  t4 := Tryz.underlying4
  a4 := Tryz.isAgg4
  z4 := Tryz.sizeOf4
  v4 := Tryz.zeroValue4
  t22 := Tryz.underlying52
  a22 := Tryz.isAgg52
  z22 := Tryz.sizeOf52
  v22 := Tryz.zeroValue52
  a23 := Tryz.isAgg9
  z23 := Tryz.sizeOf9 }
open Go.RowKit Go.Lib in
theorem Tryz.slices_Equal {α : Type} [Inhabited α] (enc : α → Value) (eq : α → α → Bool) (hne : NeqAt Tryz.prog 9 enc eq) (b1 o1 n c b2 o2 m d : Nat) (xs ys : List α) (w : World) (hx : n ≤ xs.length) (hy : m ≤ ys.length) (hbig : n ≤ 9223372036854775807) (hbig2 : m ≤ 9223372036854775807) (hc1 : ∀ j, j < xs.length → w.cell? ⟨b1, o1 + j, none⟩ = some (enc xs[j]!)) (hc2 : ∀ j, j < ys.length → w.cell? ⟨b2, o2 + j, none⟩ = some (enc ys[j]!)) :
    Calls Tryz.prog 29 #[.slice (some ⟨b1, o1, none⟩) n c, .slice (some ⟨b2, o2, none⟩) m d] w fun e w' => e = .returned (.bool (Lib.allEq eq (xs.take n) (ys.take m))) ∧ ∃ q, w' = w.drewN q := AnyE.slices_Equal Tryz.laysSlE33_f29 enc eq hne b1 o1 n c b2 o2 m d xs ys w hx hy hbig hbig2 hc1 hc2
def Tryz.laysSlE45_f220_ren : Go.Shelf.Ren := ⟨fun | 45 => 220 | n => n, fun | 22 => 52 | 23 => 9 | 3 => 3 | 4 => 4 | 0 => 0 | n => n, fun | n => n⟩
theorem Tryz.laysSlE45_f220 : Go.Proofs.SlLaysE.n45 Tryz.prog Tryz.laysSlE45_f220_ren := {
  mixed := by kernel_rfl
  f45 := ⟨Tryz.f220.name, by decide, Tryz.func220.trans (congrArg some (by kernel_rfl))⟩
  t0 := Tryz.underlying0
  a0 := Tryz.isAgg0
  z0 := Tryz.sizeOf0
  v0 := Tryz.zeroValue0
  t3 := Tryz.underlying3
  a3 := Tryz.isAgg3
  z3 := Tryz.sizeOf3
  v3 := Tryz.zeroValue3
  t4 := Tryz.underlying4
  a4 := Tryz.isAgg4
  z4 := Tryz.sizeOf4
  v4 := Tryz.zeroValue4
  t22 := Tryz.underlying52
  a22 := Tryz.isAgg52
  z22 := Tryz.sizeOf52
  v22 := Tryz.zeroValue52
  a23 := Tryz.isAgg9
  z23 := Tryz.sizeOf9 }
open Go.RowKit Go.Lib Go.Sort in
theorem Tryz.slices_Delete {α : Type} [Inhabited α] (enc : α → Value) (h1 : OneCell enc) (zr : α) (v23 : ∀ w, (zeroValue 9).run Tryz.prog w = .ok (enc zr) w) (i0 : TypeInfo) (hi0 : Tryz.prog.info? 9 = some i0) (hz1 : i0.size = 1) (blk off cap i j : Nat) (d : Array α) (w : World) (hH : Holds enc w blk off d) (hcap : d.size ≤ cap) (hm : cap ≤ 9223372036854775807) (hij : i ≤ j) (hj : j ≤ d.size) :
    Calls Tryz.prog 220 #[.slice (some ⟨blk, off, none⟩) d.size cap, .int .i64 i, .int .i64 j] w fun e w' => e = .returned (.slice (some ⟨blk, off, none⟩) (d.size - (j - i)) cap) ∧ ∃ q, w' = putRow enc (Sort.ahead w q) blk off (d.toList.take i ++ d.toList.drop j ++ List.replicate (j - i) zr).toArray := AnyE.slices_Delete Tryz.laysSlE45_f220 enc h1 zr v23 i0 hi0 hz1 blk off cap i j d w hH hcap hm hij hj
def Tryz.laysSlE041_f63_ren : Go.Shelf.Ren := ⟨fun | 41 => 63 | n => n, fun | 22 => 52 | 23 => 9 | 4 => 4 | n => n, fun | n => n⟩
theorem Tryz.laysSlE041_f63 : Go.Proofs.SlLaysE0.n41 Tryz.prog Tryz.laysSlE041_f63_ren := {
  mixed := by kernel_rfl
  f41 := ⟨Tryz.f63.name, by decide, Tryz.func63.trans (congrArg some (by kernel_rfl))⟩
  t4 := Tryz.underlying4
  a4 := Tryz.isAgg4
  z4 := Tryz.sizeOf4
  v4 := Tryz.zeroValue4
  t22 := Tryz.underlying52
  a22 := Tryz.isAgg52
  z22 := Tryz.sizeOf52
  v22 := Tryz.zeroValue52 }
open Go.RowKit Go.Lib in
theorem Tryz.slices_Clone (i0 : TypeInfo) (z : Value) (size bytes : Nat) (hi : Tryz.prog.info? 9 = some i0) (hz0 : i0.zero = some z) (hz1 : i0.size = size) (hz2 : i0.bytes = bytes) (hzs : z.cells.size = size) (hsz : 0 < size) (z23 : ∀ w, (Go.sizeOf 9).run Tryz.prog w = .ok size w) (b off n c : Nat) (news : List Value) (w : World) (hl : news.length = n * size) (hn : n ≤ maxLen) (hbig : n * bytes ≤ 140737488355328) (hc : ∀ j u, news[j]? = some u → w.cell? ⟨b, off + j, none⟩ = some u) (h1 : ∀ u ∈ news, u.oneCell' = true) :
    Calls Tryz.prog 63 #[.slice (some ⟨b, off, none⟩) n c] w fun e w' => ∃ v', e = .returned v' ∧ w'.ownsRow w.heap.size 9 size v' n news ∧ v' ≠ .slice none 0 0 ∧ Below w.heap.size w w' := AnyE.slices_Clone Tryz.laysSlE041_f63 i0 z size bytes hi hz0 hz1 hz2 hzs hsz z23 b off n c news w hl hn hbig hc h1
open Go.RowKit Go.Lib in
theorem Tryz.slices_Clone_nil (n c : Nat) (w : World) :
    Calls Tryz.prog 63 #[.slice none n c] w fun e w' => e = .returned (.slice none 0 0) ∧ w' = w := AnyE.slices_Clone_nil Tryz.laysSlE041_f63 n c w
def Tryz.lays226_ren : Go.Shelf.Ren := ⟨fun | 26 => 125 | 33 => 150 | 34 => 164 | 38 => 155 | n => n, fun | 24 => 52 | 9 => 9 | 3 => 3 | 4 => 4 | 40 => 190 | 0 => 0 | n => n, fun | n => n⟩
theorem Tryz.lays226 : Go.Proofs.Lays2.n26 Tryz.prog Tryz.lays226_ren := {
  mixed := by kernel_rfl
  f26 := Tryz.func125.trans (congrArg some (by kernel_rfl))
  f33 := Tryz.func150.trans (congrArg some (by kernel_rfl))
  f34 := Tryz.func164.trans (congrArg some (by kernel_rfl))
  f38 := Tryz.func155.trans (congrArg some (by kernel_rfl))
  t0 := Tryz.underlying0
  a0 := Tryz.isAgg0
  z0 := Tryz.sizeOf0
  v0 := Tryz.zeroValue0
  t3 := Tryz.underlying3
  a3 := Tryz.isAgg3
  z3 := Tryz.sizeOf3
  v3 := Tryz.zeroValue3
  t4 := Tryz.underlying4
  a4 := Tryz.isAgg4
  z4 := Tryz.sizeOf4
  v4 := Tryz.zeroValue4
  t9 := Tryz.underlying9
  a9 := Tryz.isAgg9
  z9 := Tryz.sizeOf9
  v9 := Tryz.zeroValue9
  t24 := Tryz.underlying52
  a24 := Tryz.isAgg52
  z24 := Tryz.sizeOf52
  v24 := Tryz.zeroValue52
  t40 := Tryz.underlying190
  a40 := Tryz.isAgg190
  z40 := Tryz.sizeOf190
  v40 := Tryz.zeroValue190 }
end Go.Proofs
/- A set of texts: its box; where a text stands in it, how many, what stands at a place, above a text. -/
namespace Go.Proofs.YtdghhffknfkcaaaGreatDoor
open Go.RowKit Go.Sort
open Tx (Rise At Ord above)
abbrev Txt := List UInt8
abbrev eS : Txt → Value := fun l => .string (str l)
def slt (x y : Txt) : Bool := decide (x < y)
theorem sord : Ord slt where
  irr x := decide_eq_false (List.lt_irrefl x)
  tr h1 h2 := decide_eq_true (List.lt_trans (of_decide_eq_true h1) (of_decide_eq_true h2))
  tri h1 h2 := List.le_antisymm (List.not_lt.1 (of_decide_eq_false h2)) (List.not_lt.1 (of_decide_eq_false h1))
theorem infoS : (Tryz.prog.info? 9).map (fun i => (i.zero, i.size, i.bytes)) = some (some (.string ⟨#[]⟩), 1, 16) := by kernel_rfl
abbrev SlS := @SlP Txt eS
abbrev RowS := @RowP Txt eS 9
theorem sxBin_any (v : Value) (l : List Txt) (hl : l.length ≤ 100000) (x : Txt) (w : World) (hv : SlS w v l) (hr : Rise slt l) :
    Calls Tryz.prog 125 #[v, .string (str x)] w fun e w' => ∃ p, e = .returned (.tuple #[.int .i64 (p : Nat), .bool (decide (l[p]? = some x))]) ∧ At slt l x p ∧ ∃ q, w' = w.drewN q := by
  obtain ⟨a, b, o, c, rfl, ha, hx⟩ := hv
  rcases ha with rfl | rfl
  · exact (Any2.slices_BinarySearch_string_empty Tryz.lays226 a c (str x) w).mono fun e w' ⟨he, hw⟩ =>
      ⟨0, by rw [he]; rfl, ⟨Nat.le_refl _, fun m y h => absurd h (Nat.not_lt_zero m), fun m y _ h => by simp at h⟩, 0, by rw [hw]; rfl⟩
  · have hk : ∃ k, At slt l x k := by
      refine ⟨(l.filter (fun y => slt y x)).length, ?_⟩
      clear hx hl
      induction l with
      | nil => exact ⟨by simp, fun m y h => by simp at h, fun m y _ h => by simp at h⟩
      | cons y t ih =>
        have hr' := List.pairwise_cons.1 hr
        have i := ih hr'.2
        rw [List.filter_cons]
        by_cases hy : slt y x = true
        · rw [if_pos hy]
          refine ⟨by have := i.le; simp only [List.length_cons]; omega, fun m z hm hz => ?_, fun m z hm hz => ?_⟩
          · cases m with
            | zero => simp at hz; subst hz; exact hy
            | succ m => exact i.low m z (by simp only [List.length_cons] at hm; omega) (by simpa using hz)
          · cases m with
            | zero => simp only [List.length_cons] at hm; omega
            | succ m => exact i.high m z (by simp only [List.length_cons] at hm; omega) (by simpa using hz)
        · have hy' : slt y x = false := by simpa using hy
          rw [if_neg hy]
          have h0 : ∀ z ∈ t, slt z x = false := fun z hz => by
            cases hzx : slt z x with
            | false => rfl
            | true => rw [sord.tr (hr'.1 z hz) hzx] at hy'; cases hy'
          have hn : t.filter (fun y => slt y x) = [] := List.filter_eq_nil_iff.2 (fun z hz => by rw [h0 z hz]; simp)
          rw [hn]
          refine ⟨by simp, fun m z hm => by simp at hm, fun m z _ hz => ?_⟩
          rcases List.mem_cons.1 (List.mem_of_getElem? hz) with rfl | h
          · exact hy'
          · exact h0 z h
    obtain ⟨k, hk⟩ := hk
    have hS : ∀ j, j < l.length → w.cell? ⟨b, o + j, none⟩ = some (.string (str (l.getD j x))) := fun j hj => by
      have := hx j l[j] (List.getElem?_eq_getElem hj)
      rw [this]
      simp [hj]
    have hd : ∀ t : Txt, (str t).toList = t := fun t => by simp [str, ByteArray.toList_eq]
    have hb : Lib.bsGo (fun t => Op.bytesLess (str (l.getD t x)).toList (str x).toList) l.length 0 l.length = k := by
      refine Lib.bsGo_spec _ k (fun t ht => ?_) (fun t ht => ?_) _ _ _ (Nat.le_refl _) (Nat.zero_le _) hk.le
      · have hl := hk.le
        have := hk.low t l[t] ht (List.getElem?_eq_getElem (by omega))
        simp only [hd, bytesLess_eq]
        rw [show l.getD t x = l[t] by simp [show t < l.length by omega]]
        exact this
      · simp only [hd, bytesLess_eq]
        by_cases htl : t < l.length
        · have := hk.high t l[t] ht (List.getElem?_eq_getElem htl)
          rw [show l.getD t x = l[t] by simp [htl]]
          exact this
        · rw [show l.getD t x = x by simp [htl]]
          exact sord.irr x
    refine (Any2.slices_BinarySearch_string Tryz.lays226 b o l.length c (fun j => str (l.getD j x)) (str x) w (by omega) hS).mono ?_
    rintro e w' ⟨he, q, hw⟩
    rw [hb] at he
    refine ⟨k, ?_, hk, q, hw⟩
    have hdec : decide (k < l.length ∧ str (l.getD k x) = str x) = decide (l[k]? = some x) := by
      congr 1
      apply propext
      constructor
      · rintro ⟨h1, h2⟩
        have h3 : l.getD k x = x := by have := congrArg ByteArray.toList h2; simpa only [hd] using this
        rw [List.getElem?_eq_getElem h1]
        rw [show l.getD k x = l[k] by simp [h1]] at h3
        rw [h3]
      · intro h
        have h1 := (List.getElem?_eq_some_iff.1 h).1
        refine ⟨h1, ?_⟩
        rw [show l.getD k x = x by simp [h]]
    rw [he]
    simp only [hdec]
/-- A set's box: a rising row of its own. -/
structure SetT (w : World) (p B : Nat) (v : Value) (l : List Txt) : Prop where
  c0 : w.cell? ⟨p, 0, none⟩ = some v
  f0 : w.frozen? ⟨p, 0, none⟩ = false
  row : RowS w B v l
  rise : Rise slt l
  ne : v.ownBlock ≠ some p
theorem SetT.below {w w' : World} {p B : Nat} {v : Value} {l : List Txt} (h : SetT w p B v l) (hb : Below w.heap.size w w') : SetT w' p B v l := by
  have hlt := World.block_lt_of_cell? _ _ h.c0
  exact ⟨(hb.cell (p := ⟨p, 0, none⟩) hlt).trans h.c0, (hb.frozen (p := ⟨p, 0, none⟩) hlt).trans h.f0, h.row.below hb, h.rise, h.ne⟩
theorem below_drewT {B : Nat} {w w' : World} (h : Below B w w') (q : Nat) : Below B w (w'.drewN q) := ⟨h.os, h.tape, h.output, h.size, h.block⟩
theorem SetT.drewN {w : World} {p B : Nat} {v : Value} {l : List Txt} (h : SetT w p B v l) (q : Nat) : SetT (w.drewN q) p B v l := h.below (below_drewT (Below.refl _ w) q)
theorem setT_not_nil (w : World) (q : Nat) : (binOp .eql 73 (.pointer (some ⟨q, 0, none⟩)) (.pointer none)).run Tryz.prog w = .ok (.bool false) w := by kernel_rfl
theorem sxPlace_any {w : World} {p B : Nat} {v : Value} {l : List Txt} (h : SetT w p B v l) (hl : l.length ≤ 100000) (x : Txt) :
    Calls Tryz.prog 87 #[.pointer (some ⟨p, 0, none⟩), .string (str x)] w fun e w' => ∃ k, e = .returned (.tuple #[.int .i64 (k : Nat), .bool (decide (l[k]? = some x))]) ∧ At slt l x k ∧ ∃ q, w' = w.drewN q := by
  have HB := Lib.hid (sxBin_any v l hl x w h.row.sl h.rise)
  have hn := fun W => setT_not_nil W p
  have c0 := h.c0
  obtain ⟨a, c, rfl⟩ := h.row.slice
  clear h
  go_enter Tryz.func87, Tryz.ntmps87
  go_wp2_with (go_at_call 125; refine HB.out.mono ?_; rintro e w1 ⟨k, rfl, hat, q, rfl⟩; have HAT := Lib.hid hat; clear hat)
  go_ret2
  exact ⟨k, rfl, HAT.out, q, rfl⟩
theorem sxLen_any {w : World} {p B : Nat} {v : Value} {l : List Txt} (h : SetT w p B v l) :
    Calls Tryz.prog 166 #[.pointer (some ⟨p, 0, none⟩)] w fun e w' => e = .returned (.int .i64 (l.length : Nat)) ∧ w = w' := by
  have hn := fun W => setT_not_nil W p
  have c0 := h.c0
  obtain ⟨a, c, rfl⟩ := h.row.slice
  clear h
  go_enter Tryz.func166, Tryz.ntmps166
  go_wp2
  go_ret
  exact ⟨rfl, rfl⟩
/-- What stands at a place, if it is one. -/
def atS (l : List Txt) (k : Int) : Txt × Bool := if 0 ≤ k ∧ k < l.length then ((l[k.toNat]?).getD [], true) else ([], false)
theorem sxAt_any {w : World} {p B : Nat} {v : Value} {l : List Txt} (h : SetT w p B v l) (k : Int) :
    Calls Tryz.prog 129 #[.pointer (some ⟨p, 0, none⟩), .int .i64 k] w fun e w' => e = .returned (.tuple #[.string (str (atS l k).1), .bool (atS l k).2]) ∧ w = w' := by
  have HL := Lib.hid (sxLen_any h)
  have c0 := h.c0
  have HS := Lib.hid h.row.sl
  obtain ⟨a, c, rfl⟩ := h.row.slice
  clear h
  have HQ : Hid (atS l k = if 0 ≤ k ∧ k < l.length then ((l[k.toNat]?).getD [], true) else ([], false)) := rfl
  generalize atS l k = r at HQ ⊢
  by_cases h0 : 0 ≤ k
  · have i0 : ¬ k < 0 := by omega
    by_cases h1 : k < l.length
    · obtain ⟨n, rfl⟩ := Int.eq_ofNat_of_zero_le h0
      have hn : n < l.length := by omega
      have hy : l[n]? = some l[n] := List.getElem?_eq_getElem hn
      have hr : r = (l[n], true) := by rw [HQ.out, if_pos ⟨h0, h1⟩, Int.toNat_natCast, hy]; rfl
      subst hr
      obtain ⟨a', b, o, c', he, ha, hx⟩ := HS.out
      obtain rfl : a = a' := by cases he; rfl
      obtain rfl : a = some ⟨b, o, none⟩ := ha.resolve_left (by intro h; rw [h] at hn; cases hn)
      have d0 := hx n _ hy
      generalize l[n] = y at d0 ⊢
      have i1 : ¬ (l.length : Int) ≤ (n : Int) := by omega
      clear HQ he ha hx hy
      go_enter Tryz.func129, Tryz.ntmps129
      go_wp2_with (go_at_call 166; refine HL.out.mono ?_; rintro e w1 ⟨rfl, rfl⟩)
      go_ret2
      exact ⟨rfl, rfl⟩
    · have hr : r = ([], false) := by rw [HQ.out, if_neg (fun h => h1 h.2)]
      subst hr
      have i1 : (l.length : Int) ≤ k := by omega
      clear HQ h1
      go_enter Tryz.func129, Tryz.ntmps129
      go_wp2_with (go_at_call 166; refine HL.out.mono ?_; rintro e w1 ⟨rfl, rfl⟩)
      go_ret2
      exact ⟨rfl, rfl⟩
  · have hr : r = ([], false) := by rw [HQ.out, if_neg (fun h => h0 h.1)]
    subst hr
    have i0 : k < 0 := by omega
    clear HQ h0
    go_enter Tryz.func129, Tryz.ntmps129
    go_wp2
    go_ret2
    exact ⟨rfl, rfl⟩
/-- The first of a row, if it has one. -/
def fst (l : List Txt) : Txt × Bool := match l with | [] => ([], false) | x :: _ => (x, true)
theorem fst_drop (l : List Txt) (n : Nat) : atS l n = fst (l.drop n) := by
  unfold atS
  by_cases h : n < l.length
  · rw [if_pos ⟨by omega, by omega⟩, Int.toNat_natCast, List.drop_eq_getElem_cons h, List.getElem?_eq_getElem h]; rfl
  · rw [if_neg (by omega), List.drop_eq_nil_of_le (by omega)]; rfl
theorem sxLeast_any {w : World} {p B : Nat} {v : Value} {l : List Txt} (h : SetT w p B v l) :
    Calls Tryz.prog 91 #[.pointer (some ⟨p, 0, none⟩)] w fun e w' => e = .returned (.tuple #[.string (str (fst l).1), .bool (fst l).2]) ∧ w = w' := by
  have HA := Lib.hid (sxAt_any h 0)
  have e0 : atS l 0 = fst l := fst_drop l 0
  rw [e0] at HA
  clear h e0
  generalize fst l = r at HA ⊢
  go_enter Tryz.func91, Tryz.ntmps91
  go_wp2_with (go_at_call 129; refine HA.out.mono ?_; rintro e w1 ⟨rfl, rfl⟩)
  go_ret2
  exact ⟨rfl, rfl⟩
theorem sxAbove_any {w : World} {p B : Nat} {v : Value} {l : List Txt} (h : SetT w p B v l) (hl : l.length ≤ 100000) (x : Txt) :
    Calls Tryz.prog 92 #[.pointer (some ⟨p, 0, none⟩), .string (str x)] w fun e w' => e = .returned (.tuple #[.string (str (fst (above slt l x)).1), .bool (fst (above slt l x)).2]) ∧ ∃ q, w' = w.drewN q := by
  have HP := Lib.hid (sxPlace_any h hl x)
  have HA := Lib.hid (fun (q k : Nat) => sxAt_any (h.drewN q) k)
  have HRI := Lib.hid h.rise
  clear h
  obtain ⟨r, hr⟩ : ∃ r, r = fst (above slt l x) := ⟨_, rfl⟩
  rw [← hr]
  have HR := Lib.hid hr
  clear hr
  go_enter Tryz.func92, Tryz.ntmps92
  go_upto_region 2 with (go_at_call 87; refine HP.out.mono ?_; rintro e w1 ⟨k, rfl, hat, q, rfl⟩; have HAT := Lib.hid hat; clear hat)
  have hk := HAT.out.le
  by_cases hx : l[k]? = some x
  · rw [decide_eq_true hx]
    have HE : Hid (atS l ((k + 1 : Nat) : Int) = fst (above slt l x)) := by
      show _ = _
      rw [fst_drop, HAT.out.drop_above1 sord HRI.out hx]
    have HA2 := Lib.hid (HA.out q (k + 1))
    rw [HE.out, ← HR.out] at HA2
    clear hx HE
    go_wp2_with (go_at_call 129; refine HA2.out.mono ?_; rintro e w1 ⟨rfl, rfl⟩)
    go_ret2
    exact ⟨rfl, q, rfl⟩
  · rw [decide_eq_false hx]
    have HE : Hid (atS l (k : Int) = fst (above slt l x)) := by
      show _ = _
      rw [fst_drop, HAT.out.drop_above sord HRI.out hx]
    have HA2 := Lib.hid (HA.out q k)
    rw [HE.out, ← HR.out] at HA2
    clear hx HE
    go_wp2_with (go_at_call 129; refine HA2.out.mono ?_; rintro e w1 ⟨rfl, rfl⟩)
    go_ret2
    exact ⟨rfl, q, rfl⟩
end Go.Proofs.YtdghhffknfkcaaaGreatDoor
