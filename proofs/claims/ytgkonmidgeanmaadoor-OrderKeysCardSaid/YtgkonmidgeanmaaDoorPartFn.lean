/- The contract of the function that reads the next part. -/
import Derived.Test.YtgkonmidgeanmaaDoorReads
namespace Go.Proofs.YtgkonmidgeanmaaDoor
open Go.RowKit
inductive PartOut (R : List UInt8) (b : Nat) (w : World) (e : Ending) (w' : World) : Prop
  | ok (p : Ord.P) (R' : List UInt8) (h : Ord.pt R = some (p, R')) (he : e = .returned (aggP p)) (hr : Rd w' b (str R') 0) (hm : Mod b w w')
  | bad (h : Ord.pt R = none) (p : Ord.P) (he : e = .returned (aggP p)) (s : ByteArray) (x : Int) (hr : Rd w' b s x) (hx : x ≠ 0) (hm : Mod b w w')
theorem left_str (b : Nat) (R : List UInt8) (e : Int) (w : World) (h : Rd w b (str R) e) :
    Calls Tryd.prog 27 #[.pointer (some ⟨b, 0, none⟩)] w fun x w' => x = .returned (.int .i64 R.length) ∧ w = w' := left_any b _ e w h
theorem blk {w w' : World} {b : Nat} (hm : Mod b (w.alloc (.cells #[.bool false, .int .u64 0, .string ⟨#[]⟩] 41)) w') (hne : w.heap.size ≠ b) :
    (w'.cell? ⟨w.heap.size, 0, none⟩ = some (.bool false) ∧ w'.cell? ⟨w.heap.size, 1, none⟩ = some (.int .u64 0) ∧ w'.cell? ⟨w.heap.size, 2, none⟩ = some (.string ⟨#[]⟩)) ∧
      w'.frozen? ⟨w.heap.size, 0, none⟩ = false ∧ w'.frozen? ⟨w.heap.size, 1, none⟩ = false ∧ w'.frozen? ⟨w.heap.size, 2, none⟩ = false := by
  have hl : w.heap.size < (w.alloc (.cells #[.bool false, .int .u64 0, .string ⟨#[]⟩] 41)).heap.size := by simp
  refine ⟨⟨?_, ?_, ?_⟩, ?_, ?_, ?_⟩
  · rw [hm.cell (p := ⟨w.heap.size, 0, none⟩) hl hne]; simp
  · rw [hm.cell (p := ⟨w.heap.size, 1, none⟩) hl hne]; simp
  · rw [hm.cell (p := ⟨w.heap.size, 2, none⟩) hl hne]; simp
  · rw [hm.frozen (p := ⟨w.heap.size, 0, none⟩) hl hne]; simp
  · rw [hm.frozen (p := ⟨w.heap.size, 1, none⟩) hl hne]; simp
  · rw [hm.frozen (p := ⟨w.heap.size, 2, none⟩) hl hne]; simp
theorem stored {w : World} {g : Nat} {x0 x1 x2 v0 v1 v2 : Value} (k0 : w.cell? ⟨g, 0, none⟩ = some x0) (k1 : w.cell? ⟨g, 1, none⟩ = some x1) (k2 : w.cell? ⟨g, 2, none⟩ = some x2) :
    (((w.setCell ⟨g, 0, none⟩ v0).setCell ⟨g, 1, none⟩ v1).setCell ⟨g, 2, none⟩ v2).cell? ⟨g, 0, none⟩ = some v0 ∧
    (((w.setCell ⟨g, 0, none⟩ v0).setCell ⟨g, 1, none⟩ v1).setCell ⟨g, 2, none⟩ v2).cell? ⟨g, 1, none⟩ = some v1 ∧
    (((w.setCell ⟨g, 0, none⟩ v0).setCell ⟨g, 1, none⟩ v1).setCell ⟨g, 2, none⟩ v2).cell? ⟨g, 2, none⟩ = some v2 := by
  have ne01 : (⟨g, 1, none⟩ : Addr) ≠ ⟨g, 0, none⟩ := fun h => by cases h
  have ne02 : (⟨g, 2, none⟩ : Addr) ≠ ⟨g, 0, none⟩ := fun h => by cases h
  have ne12 : (⟨g, 2, none⟩ : Addr) ≠ ⟨g, 1, none⟩ := fun h => by cases h
  have a0 : (w.setCell ⟨g, 0, none⟩ v0).cell? ⟨g, 0, none⟩ = some v0 := World.cell?_setCell_same' _ _ _ (by rw [k0]; rfl)
  have a1 : (w.setCell ⟨g, 0, none⟩ v0).cell? ⟨g, 1, none⟩ = some x1 := by rw [World.cell?_setCell_other _ _ _ _ (fun h => ne01 h.symm), k1]
  have a2 : (w.setCell ⟨g, 0, none⟩ v0).cell? ⟨g, 2, none⟩ = some x2 := by rw [World.cell?_setCell_other _ _ _ _ (fun h => ne02 h.symm), k2]
  have b1 : ((w.setCell ⟨g, 0, none⟩ v0).setCell ⟨g, 1, none⟩ v1).cell? ⟨g, 1, none⟩ = some v1 := World.cell?_setCell_same' _ _ _ (by rw [a1]; rfl)
  have b2 : ((w.setCell ⟨g, 0, none⟩ v0).setCell ⟨g, 1, none⟩ v1).cell? ⟨g, 2, none⟩ = some x2 := by rw [World.cell?_setCell_other _ _ _ _ (fun h => ne12 h.symm), a2]
  refine ⟨?_, ?_, World.cell?_setCell_same' _ _ _ (by rw [b2]; rfl)⟩
  · rw [World.cell?_setCell_other _ _ _ _ ne02, World.cell?_setCell_other _ _ _ _ ne01, a0]
  · rw [World.cell?_setCell_other _ _ _ _ ne12, b1]
theorem stored_below {w : World} {g B : Nat} {v0 v1 v2 : Value} (hB : B ≤ g) : Below B w (((w.setCell ⟨g, 0, none⟩ v0).setCell ⟨g, 1, none⟩ v1).setCell ⟨g, 2, none⟩ v2) :=
  (((Below.refl B w).setCell (p := ⟨g, 0, none⟩) hB _).setCell (p := ⟨g, 1, none⟩) hB _).setCell (p := ⟨g, 2, none⟩) hB _
theorem Mod.old {b : Nat} {w w' : World} {o : Obj} (h : Mod b (w.alloc o) w') : Mod b w w' := ((Mod.refl b w).alloc o).trans h
theorem res28 {w : World} {g : Nat} {t : Bool} {n : Int} {s : ByteArray} {tmps : Array Value} (ht : tmps[2]? = some (.pointer (some ⟨g, 0, none⟩)))
    (h0 : w.cell? ⟨g, 0, none⟩ = some (.bool t)) (h1 : w.cell? ⟨g, 1, none⟩ = some (.int .u64 n)) (h2 : w.cell? ⟨g, 2, none⟩ = some (.string s)) :
    (results Tryd.f28 tmps).run Tryd.prog w = .ok (.agg #[.bool t, .int .u64 n, .string s]) w := by
  simp [results, Tryd.results28, go_sem, ht, h0, h1, h2]
set_option maxHeartbeats 2000000 in
set_option maxRecDepth 100000 in
theorem part_any (b : Nat) (c : UInt8) (R : List UInt8) (hR : R.length ≤ 1000) (w : World) (h : Rd w b (str (c :: R)) 0) :
    Calls Tryd.prog 28 #[.pointer (some ⟨b, 0, none⟩)] w fun e w' => PartOut (c :: R) b w e w' := by
  have HR := Lib.hid h
  have HLT := Lib.hid h.lt
  have HNE : Hid (w.heap.size ≠ b) := fun e => by have := HLT.out; omega
  clear h
  by_cases h1 : c = 1
  · subst h1
    by_cases h8 : 8 ≤ R.length
    · have HN : Hid (Ord.pt (1 :: R) = some (⟨false, Oc.val (R.take 8), []⟩, R.drop 8)) := by
        show _ = _
        simp only [Ord.pt, if_true]
        rw [if_pos h8]
      have HNU : Hid (∀ W, Calls Tryd.prog 23 #[.int .u64 (Oc.val (R.take 8) : Nat)] W fun e w' => e = .returned (.agg #[.bool false, .int .u64 (Oc.val (R.take 8) : Nat), .string ⟨#[]⟩]) ∧ Below W.heap.size W w') := fun W => num_any (Oc.val (R.take 8)) W
      go_enter Tryd.func28, Tryd.ntmps28
      go_wp2_with (first
        | (go_at_call 38; refine (one_cons b 1 R _ (HR.out.alloc _)).mono ?_; rintro e w1 ⟨rfl, hr1, hu1⟩)
        | (go_at_call 39; refine (eight_ok b R h8 _ hr1).mono ?_; rintro e w2 ⟨rfl, hr2, hu2⟩)
        | (go_at_call 23; refine (HNU.out _).mono ?_; rintro e w3 ⟨rfl, hb3⟩; have hm3 := Lib.hid ((((Mod.refl b (w.alloc (.cells #[.bool false, .int .u64 0, .string ⟨#[]⟩] 41))).upd hu1).upd hu2).step hb3); obtain ⟨⟨k0, k1, k2⟩, f0, f1, f2⟩ := blk hm3.out HNE.out))
      obtain ⟨s0, s1, s2⟩ := stored (v0 := .bool false) (v1 := .int .u64 (Oc.val (R.take 8) : Nat)) (v2 := .string ⟨#[]⟩) k0 k1 k2
      have hbe := stored_below (w := w3) (v0 := .bool false) (v1 := .int .u64 (Oc.val (R.take 8) : Nat)) (v2 := .string ⟨#[]⟩) (Nat.le_refl w.heap.size)
      refine bodyPost_ret_by (res28 rfl s0 s1 s2) rfl ?_
      exact .ok _ _ HN.out rfl ((hr2.below hb3).below' hbe HLT.out) (hm3.out.old.step' hbe)
    · have HN : Hid (Ord.pt (1 :: R) = none) := by
        show _ = _
        simp only [Ord.pt, if_true]
        rw [if_neg h8]
      have HNU : Hid (∀ W, Calls Tryd.prog 23 #[.int .u64 0] W fun e w' => e = .returned (.agg #[.bool false, .int .u64 0, .string ⟨#[]⟩]) ∧ Below W.heap.size W w') := fun W => num_any 0 W
      go_enter Tryd.func28, Tryd.ntmps28
      go_wp2_with (first
        | (go_at_call 38; refine (one_cons b 1 R _ (HR.out.alloc _)).mono ?_; rintro e w1 ⟨rfl, hr1, hu1⟩)
        | (go_at_call 39; refine (eight_short b R h8 _ hr1).mono ?_; rintro e w2 ⟨rfl, hr2, hu2⟩)
        | (go_at_call 23; refine (HNU.out _).mono ?_; rintro e w3 ⟨rfl, hb3⟩; have hm3 := Lib.hid ((((Mod.refl b (w.alloc (.cells #[.bool false, .int .u64 0, .string ⟨#[]⟩] 41))).upd hu1).upd hu2).step hb3); obtain ⟨⟨k0, k1, k2⟩, f0, f1, f2⟩ := blk hm3.out HNE.out))
      obtain ⟨s0, s1, s2⟩ := stored (v0 := .bool false) (v1 := .int .u64 0) (v2 := .string ⟨#[]⟩) k0 k1 k2
      have hbe := stored_below (w := w3) (v0 := .bool false) (v1 := .int .u64 0) (v2 := .string ⟨#[]⟩) (Nat.le_refl w.heap.size)
      refine bodyPost_ret_by (res28 rfl s0 s1 s2) rfl ?_
      exact .bad HN.out ⟨false, 0, []⟩ rfl _ 3 ((hr2.below hb3).below' hbe HLT.out) (by decide) (hm3.out.old.step' hbe)
  · have h1' : ((c.toNat : Int) == 1) = false := by
      rw [beq_eq_false_iff_ne]; intro h; exact h1 (UInt8.toNat_inj.1 (by show c.toNat = 1; omega))
    by_cases h2 : c = 2
    · subst h2
      have HNS : Hid (∀ t W, Calls Tryd.prog 17 #[.string (str t)] W fun e w' => e = .returned (.agg #[.bool true, .int .u64 0, .string (str t)]) ∧ Below W.heap.size W w') := fun t W => strP_any t W
      go_enter Tryd.func28, Tryd.ntmps28
      go_wp2_with (first
        | (go_at_call 38; refine (one_cons b 2 R _ (HR.out.alloc _)).mono ?_; rintro e w1 ⟨rfl, hr1, hu1⟩)
        | (go_at_call 40; refine (unescaped_any b R hR _ hr1).mono ?_))
      intro e w2 hun
      obtain ⟨t, he, hm2⟩ : ∃ t, e = .returned (.string (str t)) ∧ Mod b w1 w2 := by
        rcases hun with ⟨t, R', h, he, hr, hm⟩ | ⟨h, t, he, s, x, hr, hx, hm⟩
        · exact ⟨t, he, hm⟩
        · exact ⟨t, he, hm⟩
      subst he
      have HUN := Lib.hid hun
      clear hun
      go_wp2_with (go_at_call 17; refine (HNS.out _ _).mono ?_; rintro e w3 ⟨rfl, hb3⟩; have hm3 := Lib.hid ((((Mod.refl b (w.alloc (.cells #[.bool false, .int .u64 0, .string ⟨#[]⟩] 41))).upd hu1).trans hm2).step hb3); obtain ⟨⟨k0, k1, k2⟩, f0, f1, f2⟩ := blk hm3.out HNE.out)
      obtain ⟨s0, s1, s2⟩ := stored (v0 := .bool true) (v1 := .int .u64 0) (v2 := .string (str t)) k0 k1 k2
      have hbe := stored_below (w := w3) (v0 := .bool true) (v1 := .int .u64 0) (v2 := .string (str t)) (Nat.le_refl w.heap.size)
      refine bodyPost_ret_by (res28 rfl s0 s1 s2) rfl ?_
      rcases HUN.out with ⟨t', R', h, he, hr, hm⟩ | ⟨h, t', he, s, x, hr, hx, hm⟩
      · have : str t = str t' := by cases he; rfl
        have ht : t = t' := by rw [← str_data t, this, str_data]
        subst ht
        refine .ok ⟨true, 0, t⟩ R' ?_ rfl ((hr.below hb3).below' hbe HLT.out) (hm3.out.old.step' hbe)
        simp only [Ord.pt]
        rw [if_neg (by decide), if_pos trivial, h]; rfl
      · refine .bad ?_ ⟨true, 0, t⟩ rfl s x ((hr.below hb3).below' hbe HLT.out) hx (hm3.out.old.step' hbe)
        simp only [Ord.pt]
        rw [if_neg (by decide), if_pos trivial, h]; rfl
    · have h2' : ((c.toNat : Int) == 2) = false := by
        rw [beq_eq_false_iff_ne]; intro h; exact h2 (UInt8.toNat_inj.1 (by show c.toNat = 2; omega))
      have HN : Hid (Ord.pt (c :: R) = none) := by
        show _ = _
        simp only [Ord.pt]
        rw [if_neg h1, if_neg h2]
      go_enter Tryd.func28, Tryd.ntmps28
      go_wp2_with (first
        | (go_at_call 38; refine (one_cons b c R _ (HR.out.alloc _)).mono ?_; rintro e w1 ⟨rfl, hr1, hu1⟩)
        | (go_at_call 41; refine (fail_20 b _ _ hr1).mono ?_; rintro e w3 ⟨rfl, hr3, hu3⟩; have hm3 := Lib.hid (((Mod.refl b (w.alloc (.cells #[.bool false, .int .u64 0, .string ⟨#[]⟩] 41))).upd hu1).upd hu3); obtain ⟨⟨k0, k1, k2⟩, f0, f1, f2⟩ := blk hm3.out HNE.out))
      obtain ⟨s0, s1, s2⟩ := stored (v0 := .bool false) (v1 := .int .u64 0) (v2 := .string ⟨#[]⟩) k0 k1 k2
      have hbe := stored_below (w := w3) (v0 := .bool false) (v1 := .int .u64 0) (v2 := .string ⟨#[]⟩) (Nat.le_refl w.heap.size)
      refine bodyPost_ret_by (res28 rfl s0 s1 s2) rfl ?_
      exact .bad HN.out ⟨false, 0, []⟩ rfl _ 20 (hr3.below' hbe HLT.out) (by decide) (hm3.out.old.step' hbe)
end Go.Proofs.YtgkonmidgeanmaaDoor
