/- The contracts of what reads a queue and a message. -/
import Derived.Test.YtfoijhofpjaldaaRecB
import Derived.Test.YtfoijhofpjaldaaTkStr
set_option maxRecDepth 100000
set_option maxHeartbeats 4000000
set_option linter.unusedVariables false
namespace Go.Proofs.Ytfoijhofpjaldaa
open Go.RowKit
theorem Mod.drew {b : Nat} {u v : World} (h : Mod b u v) : Mod b u v.drew := ⟨h.os, h.tape, h.output, h.size, h.block⟩
theorem stored5 {w : World} {g : Nat} {x0 x1 x2 x3 x4 v0 v1 v2 v3 v4 : Value} (k0 : w.cell? ⟨g, 0, none⟩ = some x0) (k1 : w.cell? ⟨g, 1, none⟩ = some x1) (k2 : w.cell? ⟨g, 2, none⟩ = some x2) (k3 : w.cell? ⟨g, 3, none⟩ = some x3) (k4 : w.cell? ⟨g, 4, none⟩ = some x4) :
    (((((w.setCell ⟨g, 0, none⟩ v0).setCell ⟨g, 1, none⟩ v1).setCell ⟨g, 2, none⟩ v2).setCell ⟨g, 3, none⟩ v3).setCell ⟨g, 4, none⟩ v4).cell? ⟨g, 0, none⟩ = some v0 ∧
    (((((w.setCell ⟨g, 0, none⟩ v0).setCell ⟨g, 1, none⟩ v1).setCell ⟨g, 2, none⟩ v2).setCell ⟨g, 3, none⟩ v3).setCell ⟨g, 4, none⟩ v4).cell? ⟨g, 1, none⟩ = some v1 ∧
    (((((w.setCell ⟨g, 0, none⟩ v0).setCell ⟨g, 1, none⟩ v1).setCell ⟨g, 2, none⟩ v2).setCell ⟨g, 3, none⟩ v3).setCell ⟨g, 4, none⟩ v4).cell? ⟨g, 2, none⟩ = some v2 ∧
    (((((w.setCell ⟨g, 0, none⟩ v0).setCell ⟨g, 1, none⟩ v1).setCell ⟨g, 2, none⟩ v2).setCell ⟨g, 3, none⟩ v3).setCell ⟨g, 4, none⟩ v4).cell? ⟨g, 3, none⟩ = some v3 ∧
    (((((w.setCell ⟨g, 0, none⟩ v0).setCell ⟨g, 1, none⟩ v1).setCell ⟨g, 2, none⟩ v2).setCell ⟨g, 3, none⟩ v3).setCell ⟨g, 4, none⟩ v4).cell? ⟨g, 4, none⟩ = some v4 := by
  have ne : ∀ i j : Nat, i ≠ j → (⟨g, i, none⟩ : Addr) ≠ ⟨g, j, none⟩ := fun i j h e => h (by cases e; rfl)
  have o : ∀ (W : World) (i j : Nat) (v : Value), i ≠ j → (W.setCell ⟨g, j, none⟩ v).cell? ⟨g, i, none⟩ = W.cell? ⟨g, i, none⟩ := fun W i j v h => World.cell?_setCell_other _ _ _ _ (ne j i (Ne.symm h))
  have s : ∀ (W : World) (i : Nat) (v : Value), (W.cell? ⟨g, i, none⟩).isSome → (W.setCell ⟨g, i, none⟩ v).cell? ⟨g, i, none⟩ = some v := fun W i v h => World.cell?_setCell_same' _ _ _ h
  refine ⟨?_, ?_, ?_, ?_, ?_⟩
  · rw [o _ 0 4 _ (by decide), o _ 0 3 _ (by decide), o _ 0 2 _ (by decide), o _ 0 1 _ (by decide), s _ 0 _ (by rw [k0]; rfl)]
  · rw [o _ 1 4 _ (by decide), o _ 1 3 _ (by decide), o _ 1 2 _ (by decide), s _ 1 _ (by rw [o _ 1 0 _ (by decide), k1]; rfl)]
  · rw [o _ 2 4 _ (by decide), o _ 2 3 _ (by decide), s _ 2 _ (by rw [o _ 2 1 _ (by decide), o _ 2 0 _ (by decide), k2]; rfl)]
  · rw [o _ 3 4 _ (by decide), s _ 3 _ (by rw [o _ 3 2 _ (by decide), o _ 3 1 _ (by decide), o _ 3 0 _ (by decide), k3]; rfl)]
  · rw [s _ 4 _ (by rw [o _ 4 3 _ (by decide), o _ 4 2 _ (by decide), o _ 4 1 _ (by decide), o _ 4 0 _ (by decide), k4]; rfl)]
theorem stored5_below {w : World} {g B : Nat} {v0 v1 v2 v3 v4 : Value} (hB : B ≤ g) : Below B w (((((w.setCell ⟨g, 0, none⟩ v0).setCell ⟨g, 1, none⟩ v1).setCell ⟨g, 2, none⟩ v2).setCell ⟨g, 3, none⟩ v3).setCell ⟨g, 4, none⟩ v4) :=
  (((((Below.refl B w).setCell (p := ⟨g, 0, none⟩) hB _).setCell (p := ⟨g, 1, none⟩) hB _).setCell (p := ⟨g, 2, none⟩) hB _).setCell (p := ⟨g, 3, none⟩) hB _).setCell (p := ⟨g, 4, none⟩) hB _
/-- A box of five cells that was laid as the last one, behind what has turned another block alone. -/
theorem blk5 {w w' : World} {b : Nat} {x0 x1 x2 x3 x4 : Value} {T : TypeId} (hm : Mod b (w.alloc (.cells #[x0, x1, x2, x3, x4] T)) w') (hne : w.heap.size ≠ b) :
    (w'.cell? ⟨w.heap.size, 0, none⟩ = some x0 ∧ w'.cell? ⟨w.heap.size, 1, none⟩ = some x1 ∧ w'.cell? ⟨w.heap.size, 2, none⟩ = some x2 ∧ w'.cell? ⟨w.heap.size, 3, none⟩ = some x3 ∧ w'.cell? ⟨w.heap.size, 4, none⟩ = some x4) ∧
      (w'.frozen? ⟨w.heap.size, 0, none⟩ = false ∧ w'.frozen? ⟨w.heap.size, 1, none⟩ = false ∧ w'.frozen? ⟨w.heap.size, 2, none⟩ = false ∧ w'.frozen? ⟨w.heap.size, 3, none⟩ = false ∧ w'.frozen? ⟨w.heap.size, 4, none⟩ = false) := by
  have hl : w.heap.size < (w.alloc (.cells #[x0, x1, x2, x3, x4] T)).heap.size := by simp
  refine ⟨⟨?_, ?_, ?_, ?_, ?_⟩, ?_, ?_, ?_, ?_, ?_⟩
  · rw [hm.cell (p := ⟨w.heap.size, 0, none⟩) hl hne]; simp
  · rw [hm.cell (p := ⟨w.heap.size, 1, none⟩) hl hne]; simp
  · rw [hm.cell (p := ⟨w.heap.size, 2, none⟩) hl hne]; simp
  · rw [hm.cell (p := ⟨w.heap.size, 3, none⟩) hl hne]; simp
  · rw [hm.cell (p := ⟨w.heap.size, 4, none⟩) hl hne]; simp
  · rw [hm.frozen (p := ⟨w.heap.size, 0, none⟩) hl hne]; simp
  · rw [hm.frozen (p := ⟨w.heap.size, 1, none⟩) hl hne]; simp
  · rw [hm.frozen (p := ⟨w.heap.size, 2, none⟩) hl hne]; simp
  · rw [hm.frozen (p := ⟨w.heap.size, 3, none⟩) hl hne]; simp
  · rw [hm.frozen (p := ⟨w.heap.size, 4, none⟩) hl hne]; simp
def getQ (nm : ByteArray) (s : ByteArray) (e : Int) : Qu × ByteArray × Int :=
  let A := tk s e 4
  let B := tk A.2.1 A.2.2 8
  let C := tk B.2.1 B.2.2 4
  let D := txt C.2.1 C.2.2 32
  (⟨nm, Oc.val A.1.data.toList, Oc.val B.1.data.toList, Oc.val C.1.data.toList, D.1⟩, D.2.1, D.2.2)
def getM (qu : ByteArray) (id : Nat) (s : ByteArray) (e : Int) : Ms × ByteArray × Int :=
  let A := tk s e 4
  let B := tk A.2.1 A.2.2 8
  let D := txt B.2.1 B.2.2 32768
  (⟨qu, id, Oc.val A.1.data.toList, Oc.val B.1.data.toList, D.1⟩, D.2.1, D.2.2)
theorem rcQ {w : World} {g : Nat} {nm s : ByteArray} {a b c : Int} {tmps : Array Value} (ht : tmps[3]? = some (.pointer (some ⟨g, 0, none⟩)))
    (h0 : w.cell? ⟨g, 0, none⟩ = some (.string nm)) (h1 : w.cell? ⟨g, 1, none⟩ = some (.int .u32 a)) (h2 : w.cell? ⟨g, 2, none⟩ = some (.int .u64 b)) (h3 : w.cell? ⟨g, 3, none⟩ = some (.int .u32 c)) (h4 : w.cell? ⟨g, 4, none⟩ = some (.string s)) :
    (results Try.f34 tmps).run Try.prog w = .ok (.agg #[.string nm, .int .u32 a, .int .u64 b, .int .u32 c, .string s]) w := by
  simp [results, Try.results34, go_sem, ht, h0, h1, h2, h3, h4]
theorem rcM {w : World} {g : Nat} {nm s : ByteArray} {i a b : Int} {tmps : Array Value} (ht : tmps[4]? = some (.pointer (some ⟨g, 0, none⟩)))
    (h0 : w.cell? ⟨g, 0, none⟩ = some (.string nm)) (h1 : w.cell? ⟨g, 1, none⟩ = some (.int .u64 i)) (h2 : w.cell? ⟨g, 2, none⟩ = some (.int .u32 a)) (h3 : w.cell? ⟨g, 3, none⟩ = some (.int .u64 b)) (h4 : w.cell? ⟨g, 4, none⟩ = some (.string s)) :
    (results Try.f42 tmps).run Try.prog w = .ok (.agg #[.string nm, .int .u64 i, .int .u32 a, .int .u64 b, .string s]) w := by
  simp [results, Try.results42, go_sem, ht, h0, h1, h2, h3, h4]
theorem Mod.cellU {b : Nat} {u w1 w2 : World} {p : Addr} {x : Value} (hu : Upd b w1 w2) (h : w1.cell? p = some x) (hne : p.block ≠ b) : w2.cell? p = some x :=
  (World.cell?_of_block (w := w1) (hu.block p.block hne)).trans h
theorem cell_alloc {w : World} {o : Obj} {p : Addr} {x : Value} (h : w.cell? p = some x) : (w.alloc o).cell? p = some x :=
  (World.cell?_alloc_old w o p (Nat.ne_of_lt (World.block_lt_of_cell? _ _ h))).trans h
set_option maxHeartbeats 4000000 in
theorem getFnQ_any (b n : Nat) (nm s : ByteArray) (e : Int) (w : World) (h : Rd w b s e) (hn : w.cell? ⟨n, 0, none⟩ = some (.string nm)) (hnb : n ≠ b) :
    Calls Try.prog 34 #[.pointer (some ⟨b, 0, none⟩), .pointer (some ⟨n, 0, none⟩)] w fun x w' => x = .returned (aggQ (getQ nm s e).1) ∧ Rd w' b (getQ nm s e).2.1 (getQ nm s e).2.2 ∧ Mod b w w' := by
  have HLT := Lib.hid h.lt
  have HNE : Hid (w.heap.size ≠ b) := fun he => by have := HLT.out; omega
  have HR := Lib.hid (h.alloc (.cells #[.string ⟨#[]⟩, .int .u32 0, .int .u64 0, .int .u32 0, .string ⟨#[]⟩] 25))
  have HM0 := Lib.hid ((Mod.refl b (w.alloc (.cells #[.string ⟨#[]⟩, .int .u32 0, .int .u64 0, .int .u32 0, .string ⟨#[]⟩] 25))))
  have n0 : (w.alloc (.cells #[.string ⟨#[]⟩, .int .u32 0, .int .u64 0, .int .u32 0, .string ⟨#[]⟩] 25)).cell? ⟨n, 0, none⟩ = some (.string nm) := cell_alloc hn
  have HNB : Hid (n ≠ b) := hnb
  clear h hn hnb
  unfold getQ
  simp only
  have HA := Lib.hid (fun W (hW : Rd W b s e) => four_rd b s e W hW)
  revert HA
  generalize tk s e 4 = A
  intro HA
  have HB := Lib.hid (fun W (hW : Rd W b A.2.1 A.2.2) => eight_rd b A.2.1 A.2.2 W hW)
  revert HB
  generalize tk A.2.1 A.2.2 8 = B
  intro HB
  have HC := Lib.hid (fun W (hW : Rd W b B.2.1 B.2.2) => four_rd b B.2.1 B.2.2 W hW)
  revert HC
  generalize tk B.2.1 B.2.2 4 = C
  intro HC
  have HD := Lib.hid (fun W (hW : Rd W b C.2.1 C.2.2) => text_rd b C.2.1 C.2.2 32 (by decide) W hW)
  revert HD
  generalize txt C.2.1 C.2.2 32 = D
  intro HD
  go_enter Try.func34, Try.ntmps34
  go_wp2_with fail
  go_region_with (first
    | (go_at_call 37; refine (HD.out _ hr3).mono ?_; rintro x w4 ⟨rfl, hr4, hu4⟩; have n4 := Mod.cellU (u := w) hu4 n3 HNB.out; have hm4 := Lib.hid (hm3.out.upd hu4); obtain ⟨⟨k0, k1, k2, k3, k4⟩, f0, f1, f2, f3, f4⟩ := blk5 hm4.out HNE.out)
    | (go_at_call 35; refine (HC.out _ hr2).mono ?_; rintro x w3 ⟨rfl, hr3, hu3⟩; have n3 := Mod.cellU (u := w) hu3 n2 HNB.out; have hm3 := Lib.hid (hm2.out.upd hu3))
    | (go_at_call 36; refine (HB.out _ hr1).mono ?_; rintro x w2 ⟨rfl, hr2, hu2⟩; have n2 := Mod.cellU (u := w) hu2 n1 HNB.out; have hm2 := Lib.hid (hm1.out.upd hu2))
    | (go_at_call 35; refine (HA.out _ HR.out.drew).mono ?_; rintro x w1 ⟨rfl, hr1, hu1⟩; have n1 := Mod.cellU (u := w) hu1 n0 HNB.out; have hm1 := Lib.hid (HM0.out.drew.upd hu1)))
  all_goals
    (obtain ⟨s0, s1, s2, s3, s4⟩ := stored5 (v0 := .string nm) (v1 := .int .u32 (Oc.val A.1.data.toList : Nat)) (v2 := .int .u64 (Oc.val B.1.data.toList : Nat)) (v3 := .int .u32 (Oc.val C.1.data.toList : Nat)) (v4 := .string D.1) k0 k1 k2 k3 k4
     have hbe := stored5_below (w := w4) (v0 := .string nm) (v1 := .int .u32 (Oc.val A.1.data.toList : Nat)) (v2 := .int .u64 (Oc.val B.1.data.toList : Nat)) (v3 := .int .u32 (Oc.val C.1.data.toList : Nat)) (v4 := .string D.1) (Nat.le_refl w.heap.size)
     go_wp2
     exact bodyPost_ret_by (rcQ rfl s0 s1 s2 s3 s4) rfl ⟨rfl, hr4.below' hbe HLT.out, hm4.out.old.step' hbe⟩)
end Go.Proofs.Ytfoijhofpjaldaa
