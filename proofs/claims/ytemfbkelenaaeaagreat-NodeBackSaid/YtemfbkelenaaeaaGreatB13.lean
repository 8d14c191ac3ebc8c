/- Texts of one seat, merged. -/
import Derived.Test.YtemfbkelenaaeaaGreatB01
import Derived.Test.YtemfbkelenaaeaaGreatB09
import Derived.Test.YtemfbkelenaaeaaGreatB02
import Derived.BigQuiet
import Derived.Deep.QuietTactic
import Derived.Deep.LoopGhost
set_option maxRecDepth 100000
set_option maxHeartbeats 4000000
set_option linter.unusedVariables false
/- The contracts of cmp.Less and slices.IsSorted, at ints. -/
namespace Go.Proofs.YtemfbkelenaaeaaGreat
open Go.RowKit
theorem less_int (x y : Int) (w : World) :
    Calls Tryz.prog 121 #[.int .i64 x, .int .i64 y] w fun e w' => e = .returned (.bool (decide (x < y))) ∧ w' = w := by
  have HN := Lib.hid (fun z W => Tryz.cmp_isNaN_int z W)
  go_enter Tryz.func121, Tryz.ntmps121
  go_wp2_with (go_at_call 127; refine (HN.out _ _).mono ?_; rintro e w1 ⟨rfl, rfl⟩)
  go_ret
  exact ⟨rfl, rfl⟩
inductive SortOut (xs : List Nat) (w : World) (e : Ending) (w' : World) : Prop
  | yes (h : ∀ i, i + 1 < xs.length → xs.getD i 0 ≤ xs.getD (i + 1) 0) (he : e = .returned (.bool true)) (k : Nat) (hw : w' = w.drewN k)
  | no (i : Nat) (hi : i + 1 < xs.length) (h : xs.getD (i + 1) 0 < xs.getD i 0) (he : e = .returned (.bool false)) (k : Nat) (hw : w' = w.drewN k)
set_option maxHeartbeats 2000000 in
theorem sorted_any (g cap : Nat) (xs : List Nat) (hl : xs.length ≤ 100000) (h1 : 1 ≤ xs.length) (w : World) (hx : ∀ j, j < xs.length → w.cell? ⟨g, j, none⟩ = some (.int .i64 (xs.getD j 0 : Nat))) :
    Calls Tryz.prog 110 #[.slice (some ⟨g, 0, none⟩) xs.length cap] w (SortOut xs w) := by
  have HX := Lib.hid hx
  clear hx
  go_enter Tryz.func110, Tryz.ntmps110
  go_wp2
  go_loopg [3] (xs.length - 1) (fun n i wr => ∃ m : Nat, m + 1 ≤ xs.length ∧ n = m ∧ i = .int .i64 m ∧ Hid (∀ j, m ≤ j → j + 1 < xs.length → xs.getD j 0 ≤ xs.getD (j + 1) 0) ∧ Hid (∃ k, wr = w.drewN k))
  case atStart => exact ⟨xs.length - 1, by omega, rfl, val_i64 (by omega), fun j h1 h2 => by omega, 0, rfl⟩
  case round =>
    obtain ⟨m, hm, hgm, rfl, HS, HW⟩ := hrel
    cases m with
    | zero =>
      go_wp2
      go_ret
      obtain ⟨k, hk⟩ := HW.out
      exact .yes (fun i hi => HS.out i (Nat.zero_le _) hi) rfl k hk
    | succ q =>
      have c1 : wr.cell? ⟨g, q + 1, none⟩ = some (.int .i64 (xs.getD (q + 1) 0 : Nat)) := by obtain ⟨k, hk⟩ := HW.out; rw [hk]; exact HX.out (q + 1) (by omega)
      have c0 : wr.cell? ⟨g, q, none⟩ = some (.int .i64 (xs.getD q 0 : Nat)) := by obtain ⟨k, hk⟩ := HW.out; rw [hk]; exact HX.out q (by omega)
      have hq0 : (0 : Int) ≤ (q : Int) := by omega
      have hq1 : (0 : Int) ≤ (q : Int) + 1 := by omega
      have hq2 : (q : Int) < xs.length := by omega
      have hq3 : (q : Int) + 1 < xs.length := by omega
      have hq4 : ((q : Int) + 1).toNat = q + 1 := by omega
      have hgt : (0 : Int) < (q : Int) + 1 := by omega
      revert c0 c1
      generalize ha : xs.getD (q + 1) 0 = x1
      generalize hb : xs.getD q 0 = x0
      intro c1 c0
      have HA := Lib.hid ha
      have HB := Lib.hid hb
      clear ha hb
      by_cases hlt : x1 < x0
      · have hd : decide ((x1 : Int) < (x0 : Int)) = true := by rw [decide_eq_true_eq]; omega
        go_wp2_with fail
        go_quiet ((go_at_call 121; exact Calls.quiet_of_same (less_int _ _ _)))
        go_wp2
        go_ret
        obtain ⟨k, hk⟩ := HW.out
        exact .no q (by omega) (by rw [HA.out, HB.out]; exact hlt) rfl _ (by rw [hk, World.drewN_drewN])
      · have hd : decide ((x1 : Int) < (x0 : Int)) = false := by rw [decide_eq_false_iff_not]; omega
        go_wp2_with fail
        go_quiet ((go_at_call 121; exact Calls.quiet_of_same (less_int _ _ _)))
        clear hq4
        go_wp2
        go_roundg q
        case measure => omega
        case rel =>
          refine ⟨q, by omega, rfl, rfl, fun j h2 h3 => ?_, ?_⟩
          · by_cases hj : j = q
            · subst hj; rw [HA.out, HB.out]; omega
            · exact HS.out j (by omega) h3
          · obtain ⟨k, hk⟩ := HW.out
            exact ⟨_, by rw [hk, World.drewN_drewN]⟩
end Go.Proofs.YtemfbkelenaaeaaGreat
/- The contracts of getKey and getCell: what they read, and what they leave. -/
namespace Go.Proofs.YtemfbkelenaaeaaGreat
open Go.RowKit
open Sl (Cl Kd)
theorem Rd.alloc {w : World} {b : Nat} {s : ByteArray} {e : Int} (h : Rd w b s e) (o : Obj) : Rd (w.alloc o) b s e := h.below ((Below.refl _ _).alloc (Nat.le_refl _) _)
def kyR (s : ByteArray) (e : Int) : ByteArray × ByteArray × Int := tk (tk s e 1).2.1 (tk s e 1).2.2 (Oc.val (tk s e 1).1.data.toList : Nat)
def vlR (s : ByteArray) (e : Int) : ByteArray × ByteArray × Int := tk (tk s e 2).2.1 (tk s e 2).2.2 (Oc.val (tk s e 2).1.data.toList : Nat)
def failR (e : Int) : Int := if e = 0 then 4 else e
theorem failR_ne (e : Int) : failR e ≠ 0 := by unfold failR; split <;> omega
theorem getKey_any (b : Nat) (s : ByteArray) (e : Int) (w : World) (h : Rd w b s e) :
    Calls Tryz.prog 97 #[.pointer (some ⟨b, 0, none⟩)] w fun x w' => x = .returned (.string (kyR s e).1) ∧ Rd w' b (kyR s e).2.1 (kyR s e).2.2 ∧ Upd b w w' := by
  unfold kyR
  have hv := Nat.lt_of_lt_of_le (Oc.val_lt (tk s e 1).1.data.toList) (Nat.pow_le_pow_right (by omega) (tk_size s e 1))
  have HO := Lib.hid (one_rd b s e w h)
  revert HO hv
  generalize tk s e 1 = T
  obtain ⟨t, s1, e1⟩ := T
  simp only
  generalize Oc.val t.data.toList = n
  intro hv HO
  have HT := Lib.hid (fun W (hW : Rd W b s1 e1) => take_any b s1 e1 n W hW)
  revert HT
  generalize tk s1 e1 n = V
  intro HT
  have hn : (n : Int) < 256 := by omega
  go_enter Tryz.func97, Tryz.ntmps97
  go_wp2_with (first
    | (go_at_call 98; refine HO.out.mono ?_; rintro x w1 ⟨rfl, hr1, hu1⟩)
    | (go_at_call 99; refine (HT.out _ hr1).mono ?_; rintro x w2 ⟨rfl, hr2, hu2⟩))
  go_ret
  exact ⟨rfl, hr2, hu1.trans hu2⟩
def zeroC : Cl := ⟨[], [], 0, 0⟩
def gcR (s : ByteArray) (e : Int) : Cl × ByteArray × Int :=
  let K := kyR s e
  let O := tk K.2.1 K.2.2 1
  let n := Oc.val O.1.data.toList
  if n = 0 then
    let V := vlR O.2.1 O.2.2
    if V.2.2 ≠ 0 then (zeroC, V.2) else (⟨K.1.data.toList, V.1.data.toList, 0, 0⟩, V.2)
  else if n = 1 then
    let A := tk O.2.1 O.2.2 4
    let B := tk A.2.1 A.2.2 4
    let c := Oc.val A.1.data.toList
    let er := if c = 0 then failR B.2.2 else B.2.2
    if er ≠ 0 then (zeroC, B.2.1, er) else (⟨K.1.data.toList, [], c, Oc.val B.1.data.toList⟩, B.2.1, er)
  else (zeroC, O.2.1, failR O.2.2)
/-- Two boxes of cells of the call's own, at g and g + 1. -/
structure Rg (w : World) (g : Nat) (x0 x1 x2 x3 : Value) : Prop where
  r0 : w.cell? ⟨g, 0, none⟩ = some (.string ⟨#[]⟩)
  r1 : w.cell? ⟨g, 1, none⟩ = some (.string ⟨#[]⟩)
  r2 : w.cell? ⟨g, 2, none⟩ = some (.int .u32 0)
  r3 : w.cell? ⟨g, 3, none⟩ = some (.int .u32 0)
  p0 : w.frozen? ⟨g, 0, none⟩ = false
  p1 : w.frozen? ⟨g, 1, none⟩ = false
  p2 : w.frozen? ⟨g, 2, none⟩ = false
  p3 : w.frozen? ⟨g, 3, none⟩ = false
  c0 : w.cell? ⟨g + 1, 0, none⟩ = some x0
  c1 : w.cell? ⟨g + 1, 1, none⟩ = some x1
  c2 : w.cell? ⟨g + 1, 2, none⟩ = some x2
  c3 : w.cell? ⟨g + 1, 3, none⟩ = some x3
  f0 : w.frozen? ⟨g + 1, 0, none⟩ = false
  f1 : w.frozen? ⟨g + 1, 1, none⟩ = false
  f2 : w.frozen? ⟨g + 1, 2, none⟩ = false
  f3 : w.frozen? ⟨g + 1, 3, none⟩ = false
theorem Rg.lt {w : World} {g : Nat} {x0 x1 x2 x3 : Value} (h : Rg w g x0 x1 x2 x3) : g + 1 < w.heap.size := World.block_lt_of_cell? _ _ h.c0
theorem Rg.keep {w w' : World} {g : Nat} {x0 x1 x2 x3 : Value} (h : Rg w g x0 x1 x2 x3) (h0 : w'.heap[g]? = w.heap[g]?) (h1 : w'.heap[g + 1]? = w.heap[g + 1]?) : Rg w' g x0 x1 x2 x3 := by
  have c := fun o => World.cell?_of_block (w := w) (w' := w') (a := ⟨g, o, none⟩) h0
  have d := fun o => World.cell?_of_block (w := w) (w' := w') (a := ⟨g + 1, o, none⟩) h1
  have f := fun o => World.frozen?_of_block (w := w) (w' := w') (a := ⟨g, o, none⟩) h0
  have k := fun o => World.frozen?_of_block (w := w) (w' := w') (a := ⟨g + 1, o, none⟩) h1
  exact ⟨(c 0).trans h.r0, (c 1).trans h.r1, (c 2).trans h.r2, (c 3).trans h.r3, (f 0).trans h.p0, (f 1).trans h.p1, (f 2).trans h.p2, (f 3).trans h.p3, (d 0).trans h.c0, (d 1).trans h.c1, (d 2).trans h.c2, (d 3).trans h.c3, (k 0).trans h.f0, (k 1).trans h.f1, (k 2).trans h.f2, (k 3).trans h.f3⟩
theorem Rg.upd {w w' : World} {g b : Nat} {x0 x1 x2 x3 : Value} (h : Rg w g x0 x1 x2 x3) (u : Upd b w w') (hb : b < g) : Rg w' g x0 x1 x2 x3 := h.keep (u.block g (by omega)) (u.block (g + 1) (by omega))
theorem Rg.new {w w1 : World} {b : Nat} (x0 x1 x2 x3 : Value) (u : Upd b (w.alloc (.cells #[.string ⟨#[]⟩, .string ⟨#[]⟩, .int .u32 0, .int .u32 0] 52)) w1) (hb : b < w.heap.size) :
    w1.heap.size = w.heap.size + 1 ∧ Rg (w1.alloc (.cells #[x0, x1, x2, x3] 52)) w.heap.size x0 x1 x2 x3 := by
  have hs : w1.heap.size = w.heap.size + 1 := by rw [u.size]; simp
  refine ⟨hs, ?_⟩
  have hB := u.block w.heap.size (by omega)
  have o1 : ∀ i, (w1.alloc (.cells #[x0, x1, x2, x3] 52)).cell? ⟨w.heap.size, i, none⟩ = (w.alloc (.cells #[.string ⟨#[]⟩, .string ⟨#[]⟩, .int .u32 0, .int .u32 0] 52)).cell? ⟨w.heap.size, i, none⟩ := fun i => by
    rw [World.cell?_alloc_old _ _ _ (Nat.ne_of_lt (show w.heap.size < w1.heap.size by omega))]
    exact World.cell?_of_block (w := w.alloc _) hB
  have o2 : ∀ i, (w1.alloc (.cells #[x0, x1, x2, x3] 52)).frozen? ⟨w.heap.size, i, none⟩ = (w.alloc (.cells #[.string ⟨#[]⟩, .string ⟨#[]⟩, .int .u32 0, .int .u32 0] 52)).frozen? ⟨w.heap.size, i, none⟩ := fun i => by
    rw [World.frozen?_alloc_old _ _ _ (Nat.ne_of_lt (show w.heap.size < w1.heap.size by omega))]
    exact World.frozen?_of_block (w := w.alloc _) hB
  have n1 : ∀ i, (w1.alloc (.cells #[x0, x1, x2, x3] 52)).cell? ⟨w.heap.size + 1, i, none⟩ = (#[x0, x1, x2, x3] : Array Value)[i]? := fun i => by
    rw [← hs]; exact World.cell?_alloc_new w1 _ 52 i
  have n2 : ∀ i, (w1.alloc (.cells #[x0, x1, x2, x3] 52)).frozen? ⟨w.heap.size + 1, i, none⟩ = false := fun i => by
    rw [← hs]; exact World.frozen?_alloc_new w1 _ 52 i
  constructor
  · rw [o1]; simp
  · rw [o1]; simp
  · rw [o1]; simp
  · rw [o1]; simp
  · rw [o2]; simp
  · rw [o2]; simp
  · rw [o2]; simp
  · rw [o2]; simp
  · rw [n1]; rfl
  · rw [n1]; rfl
  · rw [n1]; rfl
  · rw [n1]; rfl
  · rw [n2]
  · rw [n2]
  · rw [n2]
  · rw [n2]
theorem ne_off {g i j : Nat} (h : i ≠ j) : (⟨g, i, none⟩ : Addr) ≠ ⟨g, j, none⟩ := fun e => by cases e; exact h rfl
/-- Four stores into one box. -/
theorem stored4 {w : World} {g : Nat} {x0 x1 x2 x3 v0 v1 v2 v3 : Value} (k0 : w.cell? ⟨g, 0, none⟩ = some x0) (k1 : w.cell? ⟨g, 1, none⟩ = some x1) (k2 : w.cell? ⟨g, 2, none⟩ = some x2) (k3 : w.cell? ⟨g, 3, none⟩ = some x3) :
    ((((w.setCell ⟨g, 0, none⟩ v0).setCell ⟨g, 1, none⟩ v1).setCell ⟨g, 2, none⟩ v2).setCell ⟨g, 3, none⟩ v3).cell? ⟨g, 0, none⟩ = some v0 ∧ ((((w.setCell ⟨g, 0, none⟩ v0).setCell ⟨g, 1, none⟩ v1).setCell ⟨g, 2, none⟩ v2).setCell ⟨g, 3, none⟩ v3).cell? ⟨g, 1, none⟩ = some v1 ∧
    ((((w.setCell ⟨g, 0, none⟩ v0).setCell ⟨g, 1, none⟩ v1).setCell ⟨g, 2, none⟩ v2).setCell ⟨g, 3, none⟩ v3).cell? ⟨g, 2, none⟩ = some v2 ∧ ((((w.setCell ⟨g, 0, none⟩ v0).setCell ⟨g, 1, none⟩ v1).setCell ⟨g, 2, none⟩ v2).setCell ⟨g, 3, none⟩ v3).cell? ⟨g, 3, none⟩ = some v3 := by
  have s := fun (W : World) (i : Nat) (v x : Value) (h : W.cell? ⟨g, i, none⟩ = some x) => World.cell?_setCell_same' W ⟨g, i, none⟩ v (by rw [h]; rfl)
  have o : ∀ (W : World) (i j : Nat) (v : Value), i ≠ j → (W.setCell ⟨g, i, none⟩ v).cell? ⟨g, j, none⟩ = W.cell? ⟨g, j, none⟩ := fun W i j v h => World.cell?_setCell_other W ⟨g, i, none⟩ ⟨g, j, none⟩ v (ne_off h)
  refine ⟨?_, ?_, ?_, ?_⟩
  · rw [o _ 3 0 _ (by decide), o _ 2 0 _ (by decide), o _ 1 0 _ (by decide)]; exact s _ 0 _ _ k0
  · rw [o _ 3 1 _ (by decide), o _ 2 1 _ (by decide)]; exact s _ 1 _ x1 (by rw [o _ 0 1 _ (by decide), k1])
  · rw [o _ 3 2 _ (by decide)]; exact s _ 2 _ x2 (by rw [o _ 1 2 _ (by decide), o _ 0 2 _ (by decide), k2])
  · exact s _ 3 _ x3 (by rw [o _ 2 3 _ (by decide), o _ 1 3 _ (by decide), o _ 0 3 _ (by decide), k3])
theorem stored4_below {w : World} {g B : Nat} {v0 v1 v2 v3 : Value} (hB : B ≤ g) : Below B w ((((w.setCell ⟨g, 0, none⟩ v0).setCell ⟨g, 1, none⟩ v1).setCell ⟨g, 2, none⟩ v2).setCell ⟨g, 3, none⟩ v3) :=
  ((((Below.refl B w).setCell (p := ⟨g, 0, none⟩) hB _).setCell (p := ⟨g, 1, none⟩) hB _).setCell (p := ⟨g, 2, none⟩) hB _).setCell (p := ⟨g, 3, none⟩) hB _
theorem off_ne {g h i j : Nat} (hne : g ≠ h) : (⟨g, i, none⟩ : Addr) ≠ ⟨h, j, none⟩ := fun e => by cases e; exact hne rfl
theorem Rg.set (i : Nat) (v : Value) {w : World} {g : Nat} {x0 x1 x2 x3 : Value} (h : Rg w g x0 x1 x2 x3) :
    Rg (w.setCell ⟨g + 1, i, none⟩ v) g (if i = 0 then v else x0) (if i = 1 then v else x1) (if i = 2 then v else x2) (if i = 3 then v else x3) := by
  have o : ∀ j, (w.setCell ⟨g + 1, i, none⟩ v).cell? ⟨g, j, none⟩ = w.cell? ⟨g, j, none⟩ := fun j => World.cell?_setCell_other w ⟨g + 1, i, none⟩ ⟨g, j, none⟩ v (off_ne (by omega))
  have c : ∀ (j : Nat) (x : Value), w.cell? ⟨g + 1, j, none⟩ = some x → (w.setCell ⟨g + 1, i, none⟩ v).cell? ⟨g + 1, j, none⟩ = some (if i = j then v else x) := fun j x hx => by
    by_cases hij : i = j
    · subst hij; rw [if_pos rfl]; exact World.cell?_setCell_same' _ _ _ (by rw [hx]; rfl)
    · rw [if_neg hij, World.cell?_setCell_other w ⟨g + 1, i, none⟩ ⟨g + 1, j, none⟩ v (ne_off hij), hx]
  exact ⟨(o 0).trans h.r0, (o 1).trans h.r1, (o 2).trans h.r2, (o 3).trans h.r3, by rw [World.frozen?_setCell, h.p0], by rw [World.frozen?_setCell, h.p1], by rw [World.frozen?_setCell, h.p2], by rw [World.frozen?_setCell, h.p3],
    c 0 _ h.c0, c 1 _ h.c1, c 2 _ h.c2, c 3 _ h.c3, by rw [World.frozen?_setCell, h.f0], by rw [World.frozen?_setCell, h.f1], by rw [World.frozen?_setCell, h.f2], by rw [World.frozen?_setCell, h.f3]⟩
theorem res34 {w : World} {g : Nat} {v0 v1 v2 v3 : Value} {tmps : Array Value} (ht : tmps[2]? = some (.pointer (some ⟨g, 0, none⟩)))
    (h0 : w.cell? ⟨g, 0, none⟩ = some v0) (h1 : w.cell? ⟨g, 1, none⟩ = some v1) (h2 : w.cell? ⟨g, 2, none⟩ = some v2) (h3 : w.cell? ⟨g, 3, none⟩ = some v3) :
    (results Tryz.f54 tmps).run Tryz.prog w = .ok (.agg #[v0, v1, v2, v3]) w := by
  simp [results, Tryz.results54, go_sem, ht, h0, h1, h2, h3]
set_option maxHeartbeats 4000000 in
set_option maxRecDepth 100000 in
theorem getCell_any (b : Nat) (s : ByteArray) (e : Int) (w : World) (h : Rd w b s e) :
    Calls Tryz.prog 54 #[.pointer (some ⟨b, 0, none⟩)] w fun x w' => x = .returned (aggC (gcR s e).1) ∧ Rd w' b (gcR s e).2.1 (gcR s e).2.2 ∧ Mod b w w' := by
  have HR := Lib.hid h
  have HLT := Lib.hid h.lt
  clear h
  unfold gcR
  simp only
  have HK := Lib.hid (fun W (hW : Rd W b s e) => getKey_any b s e W hW)
  revert HK
  generalize kyR s e = K
  obtain ⟨k, s1, e1⟩ := K
  intro HK
  simp only at HK ⊢
  have hv := Nat.lt_of_lt_of_le (Oc.val_lt (tk s1 e1 1).1.data.toList) (Nat.pow_le_pow_right (by omega) (tk_size s1 e1 1))
  have HO := Lib.hid (fun W (hW : Rd W b s1 e1) => one_rd b s1 e1 W hW)
  revert HO hv
  generalize tk s1 e1 1 = O
  obtain ⟨o, s2, e2⟩ := O
  simp only
  generalize Oc.val o.data.toList = n
  intro hv HO
  by_cases h0 : n = 0
  · subst h0
    rw [if_pos rfl]
    unfold vlR
    have hv2 := Nat.lt_of_lt_of_le (Oc.val_lt (tk s2 e2 2).1.data.toList) (Nat.pow_le_pow_right (by omega) (tk_size s2 e2 2))
    have HT := Lib.hid (fun W (hW : Rd W b s2 e2) => two_rd b s2 e2 W hW)
    revert HT hv2
    generalize tk s2 e2 2 = T
    obtain ⟨t, s3, e3⟩ := T
    simp only
    generalize Oc.val t.data.toList = m
    intro hv2 HT
    have HV := Lib.hid (fun W (hW : Rd W b s3 e3) => take_any b s3 e3 m W hW)
    revert HV
    generalize tk s3 e3 m = V
    obtain ⟨u, s4, e4⟩ := V
    intro HV
    simp only at HV ⊢
    have hm : (m : Int) < 65536 := by omega
    by_cases h4 : e4 = 0
    · subst h4
      rw [if_neg (by decide)]
      go_enter Tryz.func54, Tryz.ntmps54
      go_wp2_with (first
        | (go_at_call 97; refine (HK.out _ (HR.out.alloc _)).mono ?_; rintro x w1 ⟨rfl, hr1, hu1⟩; obtain ⟨hs1, hg1⟩ := Rg.new (.string k) (.string ⟨#[]⟩) (.int .u32 0) (.int .u32 0) hu1 HLT.out; have HG1 := Lib.hid hg1; have HM1 := Lib.hid ((((Mod.refl b w).alloc (.cells #[.string ⟨#[]⟩, .string ⟨#[]⟩, .int .u32 0, .int .u32 0] 52)).upd hu1).alloc (.cells #[.string k, .string ⟨#[]⟩, .int .u32 0, .int .u32 0] 52)); clear hg1)
        | (go_at_call 98; refine (HO.out _ (hr1.alloc _)).mono ?_; rintro x w2 ⟨rfl, hr2, hu2⟩; have HG2 := Lib.hid (HG1.out.upd hu2 HLT.out); have HM2 := Lib.hid (HM1.out.upd hu2))
        | (go_at_call 100; refine (HT.out _ hr2).mono ?_; rintro x w3 ⟨rfl, hr3, hu3⟩; have HG3 := Lib.hid (HG2.out.upd hu3 HLT.out); have HM3 := Lib.hid (HM2.out.upd hu3))
        | (go_at_call 99; refine (HV.out _ hr3).mono ?_; rintro x w4 ⟨rfl, hr4, hu4⟩; have HG4 := Lib.hid (HG3.out.upd hu4 HLT.out); have HM4 := Lib.hid (HM3.out.upd hu4); have c1 := HG4.out.c1; have f1 := HG4.out.f1; have HG5 := Lib.hid (HG4.out.set 1 (.string u)); have HR5 := Lib.hid (hr4.upd ((Upd.refl (w.heap.size + 1) w4).setCell (o := 1) (.string u)) (by have := HLT.out; omega)); have HM5 := Lib.hid (HM4.out.step' ((Below.refl w.heap.size w4).setCell (p := ⟨w.heap.size + 1, 1, none⟩) (Nat.le_succ _) (.string u))))
        | (go_at_call 103; refine (err_any _ _ _ _ HR5.out).mono ?_; rintro x w5 ⟨rfl, rfl⟩; have c0 := HG5.out.c0; have c1 := HG5.out.c1; have c2 := HG5.out.c2; have c3 := HG5.out.c3; have r0 := HG5.out.r0; have r1 := HG5.out.r1; have r2 := HG5.out.r2; have r3 := HG5.out.r3; have p0 := HG5.out.p0; have p1 := HG5.out.p1; have p2 := HG5.out.p2; have p3 := HG5.out.p3))
      obtain ⟨s0, s1, s2, s3⟩ := stored4 (v0 := .string k) (v1 := .string u) (v2 := .int .u32 0) (v3 := .int .u32 0) HG5.out.r0 HG5.out.r1 HG5.out.r2 HG5.out.r3
      have hbe := stored4_below (w := (w4.setCell ⟨w.heap.size + 1, 1, none⟩ (.string u))) (v0 := .string k) (v1 := .string u) (v2 := .int .u32 0) (v3 := .int .u32 0) (Nat.le_refl w.heap.size)
      exact bodyPost_ret_by (res34 rfl s0 s1 s2 s3) rfl ⟨rfl, HR5.out.below' hbe HLT.out, HM5.out.step' hbe⟩
    · rw [if_pos h4]
      have hd : (e4 != 0) = true := by rw [bne_iff_ne]; exact h4
      go_enter Tryz.func54, Tryz.ntmps54
      go_wp2_with (first
        | (go_at_call 97; refine (HK.out _ (HR.out.alloc _)).mono ?_; rintro x w1 ⟨rfl, hr1, hu1⟩; obtain ⟨hs1, hg1⟩ := Rg.new (.string k) (.string ⟨#[]⟩) (.int .u32 0) (.int .u32 0) hu1 HLT.out; have HG1 := Lib.hid hg1; have HM1 := Lib.hid ((((Mod.refl b w).alloc (.cells #[.string ⟨#[]⟩, .string ⟨#[]⟩, .int .u32 0, .int .u32 0] 52)).upd hu1).alloc (.cells #[.string k, .string ⟨#[]⟩, .int .u32 0, .int .u32 0] 52)); clear hg1)
        | (go_at_call 98; refine (HO.out _ (hr1.alloc _)).mono ?_; rintro x w2 ⟨rfl, hr2, hu2⟩; have HG2 := Lib.hid (HG1.out.upd hu2 HLT.out); have HM2 := Lib.hid (HM1.out.upd hu2))
        | (go_at_call 100; refine (HT.out _ hr2).mono ?_; rintro x w3 ⟨rfl, hr3, hu3⟩; have HG3 := Lib.hid (HG2.out.upd hu3 HLT.out); have HM3 := Lib.hid (HM2.out.upd hu3))
        | (go_at_call 99; refine (HV.out _ hr3).mono ?_; rintro x w4 ⟨rfl, hr4, hu4⟩; have HG4 := Lib.hid (HG3.out.upd hu4 HLT.out); have HM4 := Lib.hid (HM3.out.upd hu4); have c1 := HG4.out.c1; have f1 := HG4.out.f1; have HG5 := Lib.hid (HG4.out.set 1 (.string u)); have HR5 := Lib.hid (hr4.upd ((Upd.refl (w.heap.size + 1) w4).setCell (o := 1) (.string u)) (by have := HLT.out; omega)); have HM5 := Lib.hid (HM4.out.step' ((Below.refl w.heap.size w4).setCell (p := ⟨w.heap.size + 1, 1, none⟩) (Nat.le_succ _) (.string u))))
        | (go_at_call 103; refine (err_any _ _ _ _ HR5.out).mono ?_; rintro x w5 ⟨rfl, rfl⟩; have c0 := HG5.out.c0; have c1 := HG5.out.c1; have c2 := HG5.out.c2; have c3 := HG5.out.c3; have r0 := HG5.out.r0; have r1 := HG5.out.r1; have r2 := HG5.out.r2; have r3 := HG5.out.r3; have p0 := HG5.out.p0; have p1 := HG5.out.p1; have p2 := HG5.out.p2; have p3 := HG5.out.p3))
      obtain ⟨s0, s1, s2, s3⟩ := stored4 (v0 := .string ⟨#[]⟩) (v1 := .string ⟨#[]⟩) (v2 := .int .u32 0) (v3 := .int .u32 0) HG5.out.r0 HG5.out.r1 HG5.out.r2 HG5.out.r3
      have hbe := stored4_below (w := (w4.setCell ⟨w.heap.size + 1, 1, none⟩ (.string u))) (v0 := .string ⟨#[]⟩) (v1 := .string ⟨#[]⟩) (v2 := .int .u32 0) (v3 := .int .u32 0) (Nat.le_refl w.heap.size)
      exact bodyPost_ret_by (res34 rfl s0 s1 s2 s3) rfl ⟨rfl, HR5.out.below' hbe HLT.out, HM5.out.step' hbe⟩
  · rw [if_neg h0]
    have hn8 : (n : Int) < 256 := by omega
    have hz0 : ((n : Int) == 0) = false := by rw [beq_eq_false_iff_ne]; omega
    by_cases h1 : n = 1
    · subst h1
      rw [if_pos rfl]
      have hvA := Nat.lt_of_lt_of_le (Oc.val_lt (tk s2 e2 4).1.data.toList) (Nat.pow_le_pow_right (by omega) (tk_size s2 e2 4))
      have HA := Lib.hid (fun W (hW : Rd W b s2 e2) => four_rd b s2 e2 W hW)
      revert HA hvA
      generalize tk s2 e2 4 = A
      obtain ⟨a, s3, e3⟩ := A
      simp only
      generalize Oc.val a.data.toList = c
      intro hvA HA
      have hvB := Nat.lt_of_lt_of_le (Oc.val_lt (tk s3 e3 4).1.data.toList) (Nat.pow_le_pow_right (by omega) (tk_size s3 e3 4))
      have HB := Lib.hid (fun W (hW : Rd W b s3 e3) => four_rd b s3 e3 W hW)
      revert HB hvB
      generalize tk s3 e3 4 = B
      obtain ⟨bb, s4, e4⟩ := B
      simp only
      generalize Oc.val bb.data.toList = l
      intro hvB HB
      by_cases hc : c = 0
      · subst hc
        rw [if_pos rfl, if_pos (failR_ne e4)]
        have HFF : Hid (∀ W, Rd W b s4 (if e4 = 0 then 4 else e4) → Rd W b s4 (failR e4)) := fun W h => h
        have hd : (failR e4 != 0) = true := by rw [bne_iff_ne]; exact failR_ne e4
        generalize failR e4 = f at HFF hd ⊢
        go_enter Tryz.func54, Tryz.ntmps54
        go_wp2_with (first
          | (go_at_call 97; refine (HK.out _ (HR.out.alloc _)).mono ?_; rintro x w1 ⟨rfl, hr1, hu1⟩; obtain ⟨hs1, hg1⟩ := Rg.new (.string k) (.string ⟨#[]⟩) (.int .u32 0) (.int .u32 0) hu1 HLT.out; have HG1 := Lib.hid hg1; have HM1 := Lib.hid ((((Mod.refl b w).alloc (.cells #[.string ⟨#[]⟩, .string ⟨#[]⟩, .int .u32 0, .int .u32 0] 52)).upd hu1).alloc (.cells #[.string k, .string ⟨#[]⟩, .int .u32 0, .int .u32 0] 52)); clear hg1)
          | (go_at_call 98; refine (HO.out _ (hr1.alloc _)).mono ?_; rintro x w2 ⟨rfl, hr2, hu2⟩; have HG2 := Lib.hid (HG1.out.upd hu2 HLT.out); have HM2 := Lib.hid (HM1.out.upd hu2))
          | (go_at_call 101; with_reducible refine (HA.out _ hr2).mono ?_; rintro x w3 ⟨rfl, hr3, hu3⟩; have HG3 := Lib.hid (HG2.out.upd hu3 HLT.out); have HM3 := Lib.hid (HM2.out.upd hu3))
          | (go_at_call 101; with_reducible refine (HB.out _ hr3).mono ?_; rintro x w4 ⟨rfl, hr4, hu4⟩; have HG4 := Lib.hid (HG3.out.upd hu4 HLT.out); have HM4 := Lib.hid (HM3.out.upd hu4); have c2 := HG4.out.c2; have f2 := HG4.out.f2; have c3 := (HG4.out.set 2 (.int .u32 0)).c3; have f3 := (HG4.out.set 2 (.int .u32 0)).f3; have HG5 := Lib.hid ((HG4.out.set 2 (.int .u32 0)).set 3 (.int .u32 l)); have c2' := HG5.out.c2; have HR5 := Lib.hid ((hr4.upd ((Upd.refl (w.heap.size + 1) w4).setCell (o := 2) (.int .u32 0)) (by have := HLT.out; omega)).upd ((Upd.refl (w.heap.size + 1) (w4.setCell ⟨w.heap.size + 1, 2, none⟩ (.int .u32 0))).setCell (o := 3) (.int .u32 l)) (by have := HLT.out; omega)); have HM5 := Lib.hid (HM4.out.step' (((Below.refl w.heap.size w4).setCell (p := ⟨w.heap.size + 1, 2, none⟩) (Nat.le_succ _) (.int .u32 0)).setCell (p := ⟨w.heap.size + 1, 3, none⟩) (Nat.le_succ _) (.int .u32 l))))
          | (go_at_call 102; refine (fail_any _ _ _ 4 _ HR5.out).mono ?_; rintro x w5 ⟨rfl, hr6, hu6⟩; have HG6 := Lib.hid (HG5.out.upd hu6 HLT.out); have HM6 := Lib.hid (HM5.out.upd hu6); have HR6 := Lib.hid (HFF.out _ hr6))
          | (go_at_call 103; refine (err_any _ _ _ _ HR6.out).mono ?_; rintro x w6 ⟨rfl, rfl⟩; have c0 := HG6.out.c0; have c1 := HG6.out.c1; have c2 := HG6.out.c2; have c3 := HG6.out.c3; have r0 := HG6.out.r0; have r1 := HG6.out.r1; have r2 := HG6.out.r2; have r3 := HG6.out.r3; have p0 := HG6.out.p0; have p1 := HG6.out.p1; have p2 := HG6.out.p2; have p3 := HG6.out.p3))
        obtain ⟨s0, s1, s2, s3⟩ := stored4 (v0 := .string ⟨#[]⟩) (v1 := .string ⟨#[]⟩) (v2 := .int .u32 0) (v3 := .int .u32 0) HG6.out.r0 HG6.out.r1 HG6.out.r2 HG6.out.r3
        have hbe := stored4_below (w := w5) (v0 := .string ⟨#[]⟩) (v1 := .string ⟨#[]⟩) (v2 := .int .u32 0) (v3 := .int .u32 0) (Nat.le_refl w.heap.size)
        exact bodyPost_ret_by (res34 rfl s0 s1 s2 s3) rfl ⟨rfl, HR6.out.below' hbe HLT.out, HM6.out.step' hbe⟩
      · rw [if_neg hc]
        have hc0 : ((c : Int) == 0) = false := by rw [beq_eq_false_iff_ne]; omega
        by_cases h4 : e4 = 0
        · subst h4
          rw [if_neg (by decide)]
          go_enter Tryz.func54, Tryz.ntmps54
          go_wp2_with (first
            | (go_at_call 97; refine (HK.out _ (HR.out.alloc _)).mono ?_; rintro x w1 ⟨rfl, hr1, hu1⟩; obtain ⟨hs1, hg1⟩ := Rg.new (.string k) (.string ⟨#[]⟩) (.int .u32 0) (.int .u32 0) hu1 HLT.out; have HG1 := Lib.hid hg1; have HM1 := Lib.hid ((((Mod.refl b w).alloc (.cells #[.string ⟨#[]⟩, .string ⟨#[]⟩, .int .u32 0, .int .u32 0] 52)).upd hu1).alloc (.cells #[.string k, .string ⟨#[]⟩, .int .u32 0, .int .u32 0] 52)); clear hg1)
            | (go_at_call 98; refine (HO.out _ (hr1.alloc _)).mono ?_; rintro x w2 ⟨rfl, hr2, hu2⟩; have HG2 := Lib.hid (HG1.out.upd hu2 HLT.out); have HM2 := Lib.hid (HM1.out.upd hu2))
            | (go_at_call 101; with_reducible refine (HA.out _ hr2).mono ?_; rintro x w3 ⟨rfl, hr3, hu3⟩; have HG3 := Lib.hid (HG2.out.upd hu3 HLT.out); have HM3 := Lib.hid (HM2.out.upd hu3))
            | (go_at_call 101; with_reducible refine (HB.out _ hr3).mono ?_; rintro x w4 ⟨rfl, hr4, hu4⟩; have HG4 := Lib.hid (HG3.out.upd hu4 HLT.out); have HM4 := Lib.hid (HM3.out.upd hu4); have c2 := HG4.out.c2; have f2 := HG4.out.f2; have c3 := (HG4.out.set 2 (.int .u32 c)).c3; have f3 := (HG4.out.set 2 (.int .u32 c)).f3; have HG5 := Lib.hid ((HG4.out.set 2 (.int .u32 c)).set 3 (.int .u32 l)); have c2' := HG5.out.c2; have HR5 := Lib.hid ((hr4.upd ((Upd.refl (w.heap.size + 1) w4).setCell (o := 2) (.int .u32 c)) (by have := HLT.out; omega)).upd ((Upd.refl (w.heap.size + 1) (w4.setCell ⟨w.heap.size + 1, 2, none⟩ (.int .u32 c))).setCell (o := 3) (.int .u32 l)) (by have := HLT.out; omega)); have HM5 := Lib.hid (HM4.out.step' (((Below.refl w.heap.size w4).setCell (p := ⟨w.heap.size + 1, 2, none⟩) (Nat.le_succ _) (.int .u32 c)).setCell (p := ⟨w.heap.size + 1, 3, none⟩) (Nat.le_succ _) (.int .u32 l))))
            | (go_at_call 103; refine (err_any _ _ _ _ HR5.out).mono ?_; rintro x w5 ⟨rfl, rfl⟩; have c0 := HG5.out.c0; have c1 := HG5.out.c1; have c2 := HG5.out.c2; have c3 := HG5.out.c3; have r0 := HG5.out.r0; have r1 := HG5.out.r1; have r2 := HG5.out.r2; have r3 := HG5.out.r3; have p0 := HG5.out.p0; have p1 := HG5.out.p1; have p2 := HG5.out.p2; have p3 := HG5.out.p3))
          obtain ⟨s0, s1, s2, s3⟩ := stored4 (v0 := .string k) (v1 := .string ⟨#[]⟩) (v2 := .int .u32 c) (v3 := .int .u32 l) HG5.out.r0 HG5.out.r1 HG5.out.r2 HG5.out.r3
          have hbe := stored4_below (w := ((w4.setCell ⟨w.heap.size + 1, 2, none⟩ (.int .u32 c)).setCell ⟨w.heap.size + 1, 3, none⟩ (.int .u32 l))) (v0 := .string k) (v1 := .string ⟨#[]⟩) (v2 := .int .u32 c) (v3 := .int .u32 l) (Nat.le_refl w.heap.size)
          exact bodyPost_ret_by (res34 rfl s0 s1 s2 s3) rfl ⟨rfl, HR5.out.below' hbe HLT.out, HM5.out.step' hbe⟩
        · rw [if_pos h4]
          have hd : (e4 != 0) = true := by rw [bne_iff_ne]; exact h4
          go_enter Tryz.func54, Tryz.ntmps54
          go_wp2_with (first
            | (go_at_call 97; refine (HK.out _ (HR.out.alloc _)).mono ?_; rintro x w1 ⟨rfl, hr1, hu1⟩; obtain ⟨hs1, hg1⟩ := Rg.new (.string k) (.string ⟨#[]⟩) (.int .u32 0) (.int .u32 0) hu1 HLT.out; have HG1 := Lib.hid hg1; have HM1 := Lib.hid ((((Mod.refl b w).alloc (.cells #[.string ⟨#[]⟩, .string ⟨#[]⟩, .int .u32 0, .int .u32 0] 52)).upd hu1).alloc (.cells #[.string k, .string ⟨#[]⟩, .int .u32 0, .int .u32 0] 52)); clear hg1)
            | (go_at_call 98; refine (HO.out _ (hr1.alloc _)).mono ?_; rintro x w2 ⟨rfl, hr2, hu2⟩; have HG2 := Lib.hid (HG1.out.upd hu2 HLT.out); have HM2 := Lib.hid (HM1.out.upd hu2))
            | (go_at_call 101; with_reducible refine (HA.out _ hr2).mono ?_; rintro x w3 ⟨rfl, hr3, hu3⟩; have HG3 := Lib.hid (HG2.out.upd hu3 HLT.out); have HM3 := Lib.hid (HM2.out.upd hu3))
            | (go_at_call 101; with_reducible refine (HB.out _ hr3).mono ?_; rintro x w4 ⟨rfl, hr4, hu4⟩; have HG4 := Lib.hid (HG3.out.upd hu4 HLT.out); have HM4 := Lib.hid (HM3.out.upd hu4); have c2 := HG4.out.c2; have f2 := HG4.out.f2; have c3 := (HG4.out.set 2 (.int .u32 c)).c3; have f3 := (HG4.out.set 2 (.int .u32 c)).f3; have HG5 := Lib.hid ((HG4.out.set 2 (.int .u32 c)).set 3 (.int .u32 l)); have c2' := HG5.out.c2; have HR5 := Lib.hid ((hr4.upd ((Upd.refl (w.heap.size + 1) w4).setCell (o := 2) (.int .u32 c)) (by have := HLT.out; omega)).upd ((Upd.refl (w.heap.size + 1) (w4.setCell ⟨w.heap.size + 1, 2, none⟩ (.int .u32 c))).setCell (o := 3) (.int .u32 l)) (by have := HLT.out; omega)); have HM5 := Lib.hid (HM4.out.step' (((Below.refl w.heap.size w4).setCell (p := ⟨w.heap.size + 1, 2, none⟩) (Nat.le_succ _) (.int .u32 c)).setCell (p := ⟨w.heap.size + 1, 3, none⟩) (Nat.le_succ _) (.int .u32 l))))
            | (go_at_call 103; refine (err_any _ _ _ _ HR5.out).mono ?_; rintro x w5 ⟨rfl, rfl⟩; have c0 := HG5.out.c0; have c1 := HG5.out.c1; have c2 := HG5.out.c2; have c3 := HG5.out.c3; have r0 := HG5.out.r0; have r1 := HG5.out.r1; have r2 := HG5.out.r2; have r3 := HG5.out.r3; have p0 := HG5.out.p0; have p1 := HG5.out.p1; have p2 := HG5.out.p2; have p3 := HG5.out.p3))
          obtain ⟨s0, s1, s2, s3⟩ := stored4 (v0 := .string ⟨#[]⟩) (v1 := .string ⟨#[]⟩) (v2 := .int .u32 0) (v3 := .int .u32 0) HG5.out.r0 HG5.out.r1 HG5.out.r2 HG5.out.r3
          have hbe := stored4_below (w := ((w4.setCell ⟨w.heap.size + 1, 2, none⟩ (.int .u32 c)).setCell ⟨w.heap.size + 1, 3, none⟩ (.int .u32 l))) (v0 := .string ⟨#[]⟩) (v1 := .string ⟨#[]⟩) (v2 := .int .u32 0) (v3 := .int .u32 0) (Nat.le_refl w.heap.size)
          exact bodyPost_ret_by (res34 rfl s0 s1 s2 s3) rfl ⟨rfl, HR5.out.below' hbe HLT.out, HM5.out.step' hbe⟩
    · rw [if_neg h1]
      have hz1 : ((n : Int) == 1) = false := by rw [beq_eq_false_iff_ne]; omega
      have HFF : Hid (∀ W, Rd W b s2 (if e2 = 0 then 4 else e2) → Rd W b s2 (failR e2)) := fun W h => h
      have hd : (failR e2 != 0) = true := by rw [bne_iff_ne]; exact failR_ne e2
      generalize failR e2 = f at HFF hd ⊢
      go_enter Tryz.func54, Tryz.ntmps54
      go_wp2_with (first
        | (go_at_call 97; refine (HK.out _ (HR.out.alloc _)).mono ?_; rintro x w1 ⟨rfl, hr1, hu1⟩; obtain ⟨hs1, hg1⟩ := Rg.new (.string k) (.string ⟨#[]⟩) (.int .u32 0) (.int .u32 0) hu1 HLT.out; have HG1 := Lib.hid hg1; have HM1 := Lib.hid ((((Mod.refl b w).alloc (.cells #[.string ⟨#[]⟩, .string ⟨#[]⟩, .int .u32 0, .int .u32 0] 52)).upd hu1).alloc (.cells #[.string k, .string ⟨#[]⟩, .int .u32 0, .int .u32 0] 52)); clear hg1)
        | (go_at_call 98; refine (HO.out _ (hr1.alloc _)).mono ?_; rintro x w2 ⟨rfl, hr2, hu2⟩; have HG2 := Lib.hid (HG1.out.upd hu2 HLT.out); have HM2 := Lib.hid (HM1.out.upd hu2))
        | (go_at_call 102; refine (fail_any _ _ _ 4 _ hr2).mono ?_; rintro x w5 ⟨rfl, hr6, hu6⟩; have HG6 := Lib.hid (HG2.out.upd hu6 HLT.out); have HM6 := Lib.hid (HM2.out.upd hu6); have HR6 := Lib.hid (HFF.out _ hr6))
        | (go_at_call 103; refine (err_any _ _ _ _ HR6.out).mono ?_; rintro x w6 ⟨rfl, rfl⟩; have c0 := HG6.out.c0; have c1 := HG6.out.c1; have c2 := HG6.out.c2; have c3 := HG6.out.c3; have r0 := HG6.out.r0; have r1 := HG6.out.r1; have r2 := HG6.out.r2; have r3 := HG6.out.r3; have p0 := HG6.out.p0; have p1 := HG6.out.p1; have p2 := HG6.out.p2; have p3 := HG6.out.p3))
      obtain ⟨s0, s1, s2, s3⟩ := stored4 (v0 := .string ⟨#[]⟩) (v1 := .string ⟨#[]⟩) (v2 := .int .u32 0) (v3 := .int .u32 0) HG6.out.r0 HG6.out.r1 HG6.out.r2 HG6.out.r3
      have hbe := stored4_below (w := w5) (v0 := .string ⟨#[]⟩) (v1 := .string ⟨#[]⟩) (v2 := .int .u32 0) (v3 := .int .u32 0) (Nat.le_refl w.heap.size)
      exact bodyPost_ret_by (res34 rfl s0 s1 s2 s3) rfl ⟨rfl, HR6.out.below' hbe HLT.out, HM6.out.step' hbe⟩
end Go.Proofs.YtemfbkelenaaeaaGreat
/- The contract of getKid: what it reads, and what it leaves. -/
namespace Go.Proofs.YtemfbkelenaaeaaGreat
open Go.RowKit
open Sl (Cl Kd)
def zeroK : Kd := ⟨[], 0⟩
def gkR (s : ByteArray) (e : Int) : Kd × ByteArray × Int :=
  let K := kyR s e
  let P := tk K.2.1 K.2.2 4
  if P.2.2 ≠ 0 then (zeroK, P.2) else (⟨K.1.data.toList, Oc.val P.1.data.toList⟩, P.2)
/-- A box of a branch's cell of the call's own, empty. -/
structure Rk (w : World) (g : Nat) : Prop where
  r0 : w.cell? ⟨g, 0, none⟩ = some (.string ⟨#[]⟩)
  r1 : w.cell? ⟨g, 1, none⟩ = some (.int .u32 0)
  p0 : w.frozen? ⟨g, 0, none⟩ = false
  p1 : w.frozen? ⟨g, 1, none⟩ = false
theorem Rk.lt {w : World} {g : Nat} (h : Rk w g) : g < w.heap.size := World.block_lt_of_cell? _ _ h.r0
theorem Rk.keep {w w' : World} {g : Nat} (h : Rk w g) (h0 : w'.heap[g]? = w.heap[g]?) : Rk w' g := by
  have c := fun o => World.cell?_of_block (w := w) (w' := w') (a := ⟨g, o, none⟩) h0
  have f := fun o => World.frozen?_of_block (w := w) (w' := w') (a := ⟨g, o, none⟩) h0
  exact ⟨(c 0).trans h.r0, (c 1).trans h.r1, (f 0).trans h.p0, (f 1).trans h.p1⟩
theorem Rk.mod {w w' : World} {g b : Nat} (h : Rk w g) (m : Mod b w w') (hb : g ≠ b) : Rk w' g := h.keep (m.block g h.lt hb)
theorem Rk.alloc {w : World} {g : Nat} (h : Rk w g) (o : Obj) : Rk (w.alloc o) g := h.keep (((Below.refl (w.heap.size) w).alloc (Nat.le_refl _) o).block g h.lt)
theorem Rk.new (w : World) : Rk (w.alloc (.cells #[.string ⟨#[]⟩, .int .u32 0] 78)) w.heap.size := ⟨by simp, by simp, by simp, by simp⟩
theorem stored2 {w : World} {g : Nat} {x0 x1 v0 v1 : Value} (k0 : w.cell? ⟨g, 0, none⟩ = some x0) (k1 : w.cell? ⟨g, 1, none⟩ = some x1) :
    ((w.setCell ⟨g, 0, none⟩ v0).setCell ⟨g, 1, none⟩ v1).cell? ⟨g, 0, none⟩ = some v0 ∧ ((w.setCell ⟨g, 0, none⟩ v0).setCell ⟨g, 1, none⟩ v1).cell? ⟨g, 1, none⟩ = some v1 := by
  have a0 : (w.setCell ⟨g, 0, none⟩ v0).cell? ⟨g, 0, none⟩ = some v0 := World.cell?_setCell_same' _ _ _ (by rw [k0]; rfl)
  have a1 : (w.setCell ⟨g, 0, none⟩ v0).cell? ⟨g, 1, none⟩ = some x1 := by rw [World.cell?_setCell_other _ _ _ _ (ne_off (by decide)), k1]
  exact ⟨by rw [World.cell?_setCell_other _ _ _ _ (ne_off (by decide)), a0], World.cell?_setCell_same' _ _ _ (by rw [a1]; rfl)⟩
theorem stored2_below {w : World} {g B : Nat} {v0 v1 : Value} (hB : B ≤ g) : Below B w ((w.setCell ⟨g, 0, none⟩ v0).setCell ⟨g, 1, none⟩ v1) :=
  ((Below.refl B w).setCell (p := ⟨g, 0, none⟩) hB _).setCell (p := ⟨g, 1, none⟩) hB _
theorem res41 {w : World} {g : Nat} {v0 v1 : Value} {tmps : Array Value} (ht : tmps[2]? = some (.pointer (some ⟨g, 0, none⟩)))
    (h0 : w.cell? ⟨g, 0, none⟩ = some v0) (h1 : w.cell? ⟨g, 1, none⟩ = some v1) :
    (results Tryz.f71 tmps).run Tryz.prog w = .ok (.agg #[v0, v1]) w := by
  simp [results, Tryz.results71, go_sem, ht, h0, h1]
set_option maxHeartbeats 2000000 in
set_option maxRecDepth 100000 in
theorem getKid_any (b : Nat) (s : ByteArray) (e : Int) (w : World) (h : Rd w b s e) :
    Calls Tryz.prog 71 #[.pointer (some ⟨b, 0, none⟩)] w fun x w' => x = .returned (aggK (gkR s e).1) ∧ Rd w' b (gkR s e).2.1 (gkR s e).2.2 ∧ Mod b w w' := by
  have HR := Lib.hid h
  have HLT := Lib.hid h.lt
  have H0 := Lib.hid (Rk.new w)
  clear h
  unfold gkR
  simp only
  have HK := Lib.hid (fun W (hW : Rd W b s e) => getKey_any b s e W hW)
  revert HK
  generalize kyR s e = K
  obtain ⟨k, s1, e1⟩ := K
  intro HK
  simp only at HK ⊢
  have hvA := Nat.lt_of_lt_of_le (Oc.val_lt (tk s1 e1 4).1.data.toList) (Nat.pow_le_pow_right (by omega) (tk_size s1 e1 4))
  have HA := Lib.hid (fun W (hW : Rd W b s1 e1) => four_rd b s1 e1 W hW)
  revert HA hvA
  generalize tk s1 e1 4 = A
  obtain ⟨a, s3, e3⟩ := A
  simp only
  generalize Oc.val a.data.toList = c
  intro hvA HA
  have HNE : Hid (w.heap.size ≠ b) := fun he => by have := HLT.out; omega
  by_cases h4 : e3 = 0
  · subst h4
    rw [if_neg (by decide)]
    go_enter Tryz.func71, Tryz.ntmps71
    go_wp2_with (first
      | (go_at_call 97; refine (HK.out _ (HR.out.alloc _)).mono ?_; rintro x w1 ⟨rfl, hr1, hu1⟩; have HM1 := Lib.hid ((Mod.refl b (w.alloc (.cells #[.string ⟨#[]⟩, .int .u32 0] 78))).upd hu1))
      | (go_at_call 101; refine (HA.out _ hr1).mono ?_; rintro x w2 ⟨rfl, hr2, hu2⟩; have HM2 := Lib.hid ((HM1.out.upd hu2).alloc (.cells #[.string k, .int .u32 c] 78)); have HG := Lib.hid (H0.out.mod HM2.out HNE.out); have HR2 := Lib.hid (hr2.alloc (.cells #[.string k, .int .u32 c] 78)))
      | (go_at_call 103; refine (err_any _ _ _ _ HR2.out).mono ?_; rintro x w5 ⟨rfl, rfl⟩; have r0 := HG.out.r0; have r1 := HG.out.r1; have p0 := HG.out.p0; have p1 := HG.out.p1))
    obtain ⟨s0, s1⟩ := stored2 (v0 := .string k) (v1 := .int .u32 c) HG.out.r0 HG.out.r1
    have hbe := stored2_below (w := w2.alloc (.cells #[.string k, .int .u32 c] 78)) (v0 := .string k) (v1 := .int .u32 c) (Nat.le_refl w.heap.size)
    exact bodyPost_ret_by (res41 rfl s0 s1) rfl ⟨rfl, HR2.out.below' hbe HLT.out, HM2.out.old.step' hbe⟩
  · rw [if_pos h4]
    have hd : (e3 != 0) = true := by rw [bne_iff_ne]; exact h4
    go_enter Tryz.func71, Tryz.ntmps71
    go_wp2_with (first
      | (go_at_call 97; refine (HK.out _ (HR.out.alloc _)).mono ?_; rintro x w1 ⟨rfl, hr1, hu1⟩; have HM1 := Lib.hid ((Mod.refl b (w.alloc (.cells #[.string ⟨#[]⟩, .int .u32 0] 78))).upd hu1))
      | (go_at_call 101; refine (HA.out _ hr1).mono ?_; rintro x w2 ⟨rfl, hr2, hu2⟩; have HM2 := Lib.hid ((HM1.out.upd hu2).alloc (.cells #[.string k, .int .u32 c] 78)); have HG := Lib.hid (H0.out.mod HM2.out HNE.out); have HR2 := Lib.hid (hr2.alloc (.cells #[.string k, .int .u32 c] 78)))
      | (go_at_call 103; refine (err_any _ _ _ _ HR2.out).mono ?_; rintro x w5 ⟨rfl, rfl⟩; have r0 := HG.out.r0; have r1 := HG.out.r1; have p0 := HG.out.p0; have p1 := HG.out.p1))
    obtain ⟨s0, s1⟩ := stored2 (v0 := .string ⟨#[]⟩) (v1 := .int .u32 0) HG.out.r0 HG.out.r1
    have hbe := stored2_below (w := w2.alloc (.cells #[.string k, .int .u32 c] 78)) (v0 := .string ⟨#[]⟩) (v1 := .int .u32 0) (Nat.le_refl w.heap.size)
    exact bodyPost_ret_by (res41 rfl s0 s1) rfl ⟨rfl, HR2.out.below' hbe HLT.out, HM2.out.old.step' hbe⟩
end Go.Proofs.YtemfbkelenaaeaaGreat
