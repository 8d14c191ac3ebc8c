/- The contracts of a summer's sums: of a thing, of several. -/
import Derived.Test.YtghmpoahnkoppaaOver
import Derived.Deep.RegionWith
import Derived.Deep.DeepMust
namespace Go.Proofs.Ytghmpoahnkoppaa
open Go.RowKit
theorem add_nil_text (T : Nat → Nat) (s : Nat) (h : s < 4294967296) : Crc.add T s [] = s := by
  show 4294967295 - (4294967295 - s) = s
  omega
/-- The sum of several texts, one behind the other. -/
def allSum (l : List (List UInt8)) : Nat := l.foldl (fun s x => Crc.add Crc.byte s x) 0
theorem allSum_snoc (l : List (List UInt8)) (x : List UInt8) : allSum (l ++ [x]) = Crc.add Crc.byte (allSum l) x := by
  unfold allSum; rw [List.foldl_append]; rfl
theorem allFrom_eq : ∀ (l : List (List UInt8)) (a : List UInt8), l.foldl (fun s x => Crc.add Crc.byte s x) (Crc.add Crc.byte 0 a) = Crc.add Crc.byte 0 (a ++ l.flatten)
  | [], a => by simp
  | x :: l, a => by
    rw [List.foldl_cons, ← Crc.add_append byte_all (by decide), allFrom_eq l (a ++ x), List.flatten_cons, List.append_assoc]
theorem allSum_eq (l : List (List UInt8)) : allSum l = Crc.add Crc.byte 0 l.flatten := by
  have := allFrom_eq l []
  rw [add_nil_text _ _ (by decide), List.nil_append] at this
  exact this
theorem allSum_lt (l : List (List UInt8)) : allSum l < 4294967296 := by rw [allSum_eq]; exact Crc.add_lt _ _ _
theorem take_snoc_map {α : Type} (f : α → List UInt8) (l : List α) (k : Nat) (h : k < l.length) : (l.map f).take (k + 1) = (l.map f).take k ++ [f l[k]] := by
  rw [List.take_succ_eq_append_getElem (by simpa using h)]; simp
set_option maxHeartbeats 400000 in
theorem of_id (g : Nat) (s : ByteArray) (hl : s.size ≤ maxLen) (w : World) (hg : w.heap[g]? = some (.cells (tab Crc.byte) 25 (0, 0))) :
    Calls Try.prog 20 #[.agg #[.pointer (some ⟨g, 0, none⟩), .func (.func 17) #[] #[]], .string s] w fun e w' => e = .returned (.int .u32 (Crc.add Crc.byte 0 s.data.toList : Nat)) ∧ Below w.heap.size w w' := by
  have HG := Lib.hid hg
  have HK := Lib.hid (show g < w.heap.size from (Array.getElem?_eq_some_iff.1 hg).1)
  have HL := Lib.hid hl
  clear hg hl
  go_enter Try.func20, Try.ntmps20
  go_wp2
  go_region_with (first
    | (go_at_call 26; refine (text_id _ s _).mono ?_; rintro e w2 ⟨rfl, hb⟩; have hc0 := hb.cell (p := ⟨w.heap.size, 0, none⟩) (by simp); have hc1 := hb.cell (p := ⟨w.heap.size, 1, none⟩) (by simp))
    | (go_at_call 13; refine (of_at Crc.byte byte_all g 25 (0, 0) s (by first | exact HL.out | decide) _ (by rw [hb.block g (by simp; have := HK.out; omega)]; exact (heap_old _ _ _ HK.out).trans HG.out)).mono ?_; rintro e w3 ⟨rfl, n, rfl⟩))
  all_goals
    go_wp2
    go_ret
    exact ⟨rfl, below_drewN (((Below.refl _ _).alloc (Nat.le_refl _) _).drew.trans (hb.mono (by simp))) _⟩
set_option maxHeartbeats 400000 in
theorem of_nil (g : Nat) (s : ByteArray) (hl : s.size ≤ maxLen) (w : World) (hg : w.heap[g]? = some (.cells (tab Crc.byte) 25 (0, 0))) :
    Calls Try.prog 20 #[.agg #[.pointer (some ⟨g, 0, none⟩), .nilFunc], .string s] w fun e w' => e = .returned (.int .u32 (Crc.add Crc.byte 0 ([] : List UInt8) : Nat)) ∧ Below w.heap.size w w' := by
  have HG := Lib.hid hg
  have HK := Lib.hid (show g < w.heap.size from (Array.getElem?_eq_some_iff.1 hg).1)
  have HL := Lib.hid hl
  clear hg hl
  go_enter Try.func20, Try.ntmps20
  go_wp2
  go_region_with (first
    | (go_at_call 26; refine (text_nil _ s _).mono ?_; rintro e w2 ⟨rfl, hb⟩; have hc0 := hb.cell (p := ⟨w.heap.size, 0, none⟩) (by simp); have hc1 := hb.cell (p := ⟨w.heap.size, 1, none⟩) (by simp))
    | (go_at_call 13; refine (of_at Crc.byte byte_all g 25 (0, 0) ⟨#[]⟩ (by first | exact HL.out | decide) _ (by rw [hb.block g (by simp; have := HK.out; omega)]; exact (heap_old _ _ _ HK.out).trans HG.out)).mono ?_; rintro e w3 ⟨rfl, n, rfl⟩))
  all_goals
    go_wp2
    go_ret
    exact ⟨rfl, below_drewN (((Below.refl _ _).alloc (Nat.le_refl _) _).drew.trans (hb.mono (by simp))) _⟩
set_option maxHeartbeats 400000 in
theorem all_id (g : Nat) (a : Option Addr) (bk off c : Nat) (xs : List ByteArray) (hm : xs.length ≤ maxLen) (ha : xs = [] ∨ a = some ⟨bk, off, none⟩) (w : World) (hx : ∀ (j : Nat) (x : ByteArray), xs[j]? = some x → w.cell? ⟨bk, off + j, none⟩ = some (.string x) ∧ x.size ≤ maxLen) (hg : w.heap[g]? = some (.cells (tab Crc.byte) 25 (0, 0))) :
    Calls Try.prog 21 #[.agg #[.pointer (some ⟨g, 0, none⟩), .func (.func 17) #[] #[]], .slice a xs.length c] w fun e w' => e = .returned (.int .u32 (allSum (xs.map fun x => x.data.toList) : Nat)) ∧ Below w.heap.size w w' := by
  have HG : Hid ((w.alloc (.cells #[.pointer (some ⟨g, 0, none⟩), .func (.func 17) #[] #[]] 38)).heap[g]? = some (.cells (tab Crc.byte) 25 (0, 0))) := (heap_old _ _ _ (Array.getElem?_eq_some_iff.1 hg).1).trans hg
  have HX : Hid (∀ (j : Nat) (x : ByteArray), xs[j]? = some x → (w.alloc (.cells #[.pointer (some ⟨g, 0, none⟩), .func (.func 17) #[] #[]] 38)).cell? ⟨bk, off + j, none⟩ = some (.string x) ∧ x.size ≤ maxLen) := fun j x h => ⟨by rw [World.cell?_alloc_lt _ _ _ (block_lt_of_cell (hx j x h).1)]; exact (hx j x h).1, (hx j x h).2⟩
  have HB : Hid ((w.alloc (.cells #[.pointer (some ⟨g, 0, none⟩), .func (.func 17) #[] #[]] 38)).heap[w.heap.size]? = some (.cells #[.pointer (some ⟨g, 0, none⟩), .func (.func 17) #[] #[]] 38 (0, 0))) := heap_alloc_new _ _
  have HW : Hid (Below w.heap.size w (w.alloc (.cells #[.pointer (some ⟨g, 0, none⟩), .func (.func 17) #[] #[]] 38))) := (Below.refl _ _).alloc (Nat.le_refl _) _
  have HA := Lib.hid ha
  unfold maxLen at hm
  clear hg hx ha
  go_enter Try.func21, Try.ntmps21
  go_wp2
  revert HG HX HB HW
  generalize w.alloc (.cells #[.pointer (some ⟨g, 0, none⟩), .func (.func 17) #[] #[]] 38) = W
  generalize hB0 : w.heap.size = b
  have HB1 := Lib.hid hB0
  clear hB0
  intro HG HX HB HW
  go_loopw [5, 10] (fun v i wr => ∃ k : Nat, k ≤ xs.length ∧ i = .int .i64 k ∧ v = .int .u32 (allSum ((xs.map fun x => x.data.toList).take k) : Nat) ∧ Below W.heap.size W wr) (fun _ i _ => xs.length - (intOf i).toNat)
  case atStart => exact ⟨0, by omega, rfl, rfl, Below.refl _ _⟩
  case round =>
    obtain ⟨k, hk, rfl, rfl, hW⟩ := hrel
    by_cases hlt : k < xs.length
    · have hlt0 : decide ((k : Int) < (xs.length : Int)) = true := decide_eq_true (by omega)
      obtain rfl : a = some ⟨bk, off, none⟩ := by
        rcases HA.out with h | h
        · rw [h] at hlt; exact absurd hlt (Nat.not_lt_zero _)
        · exact h
      have HQ := Lib.hid (HX.out k xs[k] (List.getElem?_eq_getElem hlt))
      have hc : wr.cell? ⟨bk, off + k, none⟩ = some (.string xs[k]) := by
        rw [hW.cell (p := ⟨bk, off + k, none⟩) (block_lt_of_cell HQ.out.1)]; exact HQ.out.1
      have hb : wr.heap[b]? = some (.cells #[.pointer (some ⟨g, 0, none⟩), .func (.func 17) #[] #[]] 38 (0, 0)) := by
        rw [hW.block b (Array.getElem?_eq_some_iff.1 HB.out).1]; exact HB.out
      have HT : Hid (wr.heap[g]? = some (.cells (tab Crc.byte) 25 (0, 0))) := by
        have := hW.block g (Array.getElem?_eq_some_iff.1 HG.out).1
        exact this.trans HG.out
      have hc0 : wr.cell? ⟨b, 0, none⟩ = some (.pointer (some ⟨g, 0, none⟩)) := by rw [cell_of_row _ _ _ _ _ _ hb]; rfl
      have hc1 : wr.cell? ⟨b, 1, none⟩ = some (.func (.func 17) #[] #[]) := by rw [cell_of_row _ _ _ _ _ _ hb]; rfl
      have HSB := Lib.hid (block_lt_of_cell hc0)
      have HSG := Lib.hid (Array.getElem?_eq_some_iff.1 HT.out).1
      have HSN := Lib.hid (show allSum ((xs.map fun x => x.data.toList).take (k + 1)) = Crc.add Crc.byte (allSum ((xs.map fun x => x.data.toList).take k)) (xs[k].data.toList) by rw [take_snoc_map _ _ _ hlt, allSum_snoc])
      have hr := allSum_lt ((xs.map fun x => x.data.toList).take k)
      revert hr HSN
      generalize allSum ((xs.map fun x => x.data.toList).take k) = r
      intro HSN hr
      clear hb
      go_wp2
      go_region_with (first
        | (go_at_call 26; refine (text_id _ xs[k] _).mono ?_; rintro e w2 ⟨rfl, hb⟩; have hd0 := hb.cell (p := ⟨b, 0, none⟩) HSB.out; have hd1 := hb.cell (p := ⟨b, 1, none⟩) HSB.out)
        | (go_at_call 12; go_must (refine (add_at Crc.byte byte_all g 25 (0, 0) r hr _ (by exact HQ.out.2) _ (by rw [hb.block g HSG.out]; exact HT.out)).mono ?_); rintro e w3 ⟨rfl, n, rfl⟩))
      all_goals
        go_wp2
        go_roundw
        case rel => exact ⟨k + 1, by omega, by go_num, by rw [HSN.out], below_drewN (hW.drew.trans (hb.mono hW.size)) _⟩
        case measure => simp [intOf]; omega
    · obtain rfl : k = xs.length := by omega
      go_wp2
      go_ret
      refine ⟨ret_u32 ?_, ?_⟩
      · rw [List.take_of_length_le (by simp)]
      · rw [HB1.out]; exact HW.out.trans (hW.mono (by rw [← HB1.out]; exact HW.out.size))
set_option maxHeartbeats 400000 in
theorem all_nil (g : Nat) (a : Option Addr) (bk off c : Nat) (xs : List ByteArray) (hm : xs.length ≤ maxLen) (ha : xs = [] ∨ a = some ⟨bk, off, none⟩) (w : World) (hx : ∀ (j : Nat) (x : ByteArray), xs[j]? = some x → w.cell? ⟨bk, off + j, none⟩ = some (.string x) ∧ x.size ≤ maxLen) (hg : w.heap[g]? = some (.cells (tab Crc.byte) 25 (0, 0))) :
    Calls Try.prog 21 #[.agg #[.pointer (some ⟨g, 0, none⟩), .nilFunc], .slice a xs.length c] w fun e w' => e = .returned (.int .u32 (allSum (xs.map fun _ => ([] : List UInt8)) : Nat)) ∧ Below w.heap.size w w' := by
  have HG : Hid ((w.alloc (.cells #[.pointer (some ⟨g, 0, none⟩), .nilFunc] 38)).heap[g]? = some (.cells (tab Crc.byte) 25 (0, 0))) := (heap_old _ _ _ (Array.getElem?_eq_some_iff.1 hg).1).trans hg
  have HX : Hid (∀ (j : Nat) (x : ByteArray), xs[j]? = some x → (w.alloc (.cells #[.pointer (some ⟨g, 0, none⟩), .nilFunc] 38)).cell? ⟨bk, off + j, none⟩ = some (.string x) ∧ x.size ≤ maxLen) := fun j x h => ⟨by rw [World.cell?_alloc_lt _ _ _ (block_lt_of_cell (hx j x h).1)]; exact (hx j x h).1, (hx j x h).2⟩
  have HB : Hid ((w.alloc (.cells #[.pointer (some ⟨g, 0, none⟩), .nilFunc] 38)).heap[w.heap.size]? = some (.cells #[.pointer (some ⟨g, 0, none⟩), .nilFunc] 38 (0, 0))) := heap_alloc_new _ _
  have HW : Hid (Below w.heap.size w (w.alloc (.cells #[.pointer (some ⟨g, 0, none⟩), .nilFunc] 38))) := (Below.refl _ _).alloc (Nat.le_refl _) _
  have HA := Lib.hid ha
  unfold maxLen at hm
  clear hg hx ha
  go_enter Try.func21, Try.ntmps21
  go_wp2
  revert HG HX HB HW
  generalize w.alloc (.cells #[.pointer (some ⟨g, 0, none⟩), .nilFunc] 38) = W
  generalize hB0 : w.heap.size = b
  have HB1 := Lib.hid hB0
  clear hB0
  intro HG HX HB HW
  go_loopw [5, 10] (fun v i wr => ∃ k : Nat, k ≤ xs.length ∧ i = .int .i64 k ∧ v = .int .u32 (allSum ((xs.map fun _ => ([] : List UInt8)).take k) : Nat) ∧ Below W.heap.size W wr) (fun _ i _ => xs.length - (intOf i).toNat)
  case atStart => exact ⟨0, by omega, rfl, rfl, Below.refl _ _⟩
  case round =>
    obtain ⟨k, hk, rfl, rfl, hW⟩ := hrel
    by_cases hlt : k < xs.length
    · have hlt0 : decide ((k : Int) < (xs.length : Int)) = true := decide_eq_true (by omega)
      obtain rfl : a = some ⟨bk, off, none⟩ := by
        rcases HA.out with h | h
        · rw [h] at hlt; exact absurd hlt (Nat.not_lt_zero _)
        · exact h
      have HQ := Lib.hid (HX.out k xs[k] (List.getElem?_eq_getElem hlt))
      have hc : wr.cell? ⟨bk, off + k, none⟩ = some (.string xs[k]) := by
        rw [hW.cell (p := ⟨bk, off + k, none⟩) (block_lt_of_cell HQ.out.1)]; exact HQ.out.1
      have hb : wr.heap[b]? = some (.cells #[.pointer (some ⟨g, 0, none⟩), .nilFunc] 38 (0, 0)) := by
        rw [hW.block b (Array.getElem?_eq_some_iff.1 HB.out).1]; exact HB.out
      have HT : Hid (wr.heap[g]? = some (.cells (tab Crc.byte) 25 (0, 0))) := by
        have := hW.block g (Array.getElem?_eq_some_iff.1 HG.out).1
        exact this.trans HG.out
      have hc0 : wr.cell? ⟨b, 0, none⟩ = some (.pointer (some ⟨g, 0, none⟩)) := by rw [cell_of_row _ _ _ _ _ _ hb]; rfl
      have hc1 : wr.cell? ⟨b, 1, none⟩ = some (.nilFunc) := by rw [cell_of_row _ _ _ _ _ _ hb]; rfl
      have HSB := Lib.hid (block_lt_of_cell hc0)
      have HSG := Lib.hid (Array.getElem?_eq_some_iff.1 HT.out).1
      have HSN := Lib.hid (show allSum ((xs.map fun _ => ([] : List UInt8)).take (k + 1)) = Crc.add Crc.byte (allSum ((xs.map fun _ => ([] : List UInt8)).take k)) (([] : List UInt8)) by rw [take_snoc_map _ _ _ hlt, allSum_snoc])
      have hr := allSum_lt ((xs.map fun _ => ([] : List UInt8)).take k)
      revert hr HSN
      generalize allSum ((xs.map fun _ => ([] : List UInt8)).take k) = r
      intro HSN hr
      clear hb
      go_wp2
      go_region_with (first
        | (go_at_call 26; refine (text_nil _ xs[k] _).mono ?_; rintro e w2 ⟨rfl, hb⟩; have hd0 := hb.cell (p := ⟨b, 0, none⟩) HSB.out; have hd1 := hb.cell (p := ⟨b, 1, none⟩) HSB.out)
        | (go_at_call 12; go_must (refine (add_at Crc.byte byte_all g 25 (0, 0) r hr _ (by decide) _ (by rw [hb.block g HSG.out]; exact HT.out)).mono ?_); rintro e w3 ⟨rfl, n, rfl⟩))
      all_goals
        go_wp2
        go_roundw
        case rel => exact ⟨k + 1, by omega, by go_num, by rw [HSN.out], below_drewN (hW.drew.trans (hb.mono hW.size)) _⟩
        case measure => simp [intOf]; omega
    · obtain rfl : k = xs.length := by omega
      go_wp2
      go_ret
      refine ⟨ret_u32 ?_, ?_⟩
      · rw [List.take_of_length_le (by simp)]
      · rw [HB1.out]; exact HW.out.trans (hW.mono (by rw [← HB1.out]; exact HW.out.size))
set_option maxHeartbeats 400000 in
theorem all_two (g : Nat) (a : Option Addr) (bk off c : Nat) (xs : List Nat) (hm : xs.length ≤ maxLen) (ha : xs = [] ∨ a = some ⟨bk, off, none⟩) (w : World) (hx : ∀ (j : Nat) (x : Nat), xs[j]? = some x → w.cell? ⟨bk, off + j, none⟩ = some (.int .u16 (x : Nat)) ∧ x < 65536) (hg : w.heap[g]? = some (.cells (tab Crc.byte) 25 (0, 0))) :
    Calls Try.prog 23 #[.agg #[.pointer (some ⟨g, 0, none⟩), .func (.func 18) #[] #[]], .slice a xs.length c] w fun e w' => e = .returned (.int .u32 (allSum (xs.map fun x => two x) : Nat)) ∧ Below w.heap.size w w' := by
  have HG : Hid ((w.alloc (.cells #[.pointer (some ⟨g, 0, none⟩), .func (.func 18) #[] #[]] 45)).heap[g]? = some (.cells (tab Crc.byte) 25 (0, 0))) := (heap_old _ _ _ (Array.getElem?_eq_some_iff.1 hg).1).trans hg
  have HX : Hid (∀ (j : Nat) (x : Nat), xs[j]? = some x → (w.alloc (.cells #[.pointer (some ⟨g, 0, none⟩), .func (.func 18) #[] #[]] 45)).cell? ⟨bk, off + j, none⟩ = some (.int .u16 (x : Nat)) ∧ x < 65536) := fun j x h => ⟨by rw [World.cell?_alloc_lt _ _ _ (block_lt_of_cell (hx j x h).1)]; exact (hx j x h).1, (hx j x h).2⟩
  have HB : Hid ((w.alloc (.cells #[.pointer (some ⟨g, 0, none⟩), .func (.func 18) #[] #[]] 45)).heap[w.heap.size]? = some (.cells #[.pointer (some ⟨g, 0, none⟩), .func (.func 18) #[] #[]] 45 (0, 0))) := heap_alloc_new _ _
  have HW : Hid (Below w.heap.size w (w.alloc (.cells #[.pointer (some ⟨g, 0, none⟩), .func (.func 18) #[] #[]] 45))) := (Below.refl _ _).alloc (Nat.le_refl _) _
  have HA := Lib.hid ha
  unfold maxLen at hm
  clear hg hx ha
  go_enter Try.func23, Try.ntmps23
  go_wp2
  revert HG HX HB HW
  generalize w.alloc (.cells #[.pointer (some ⟨g, 0, none⟩), .func (.func 18) #[] #[]] 45) = W
  generalize hB0 : w.heap.size = b
  have HB1 := Lib.hid hB0
  clear hB0
  intro HG HX HB HW
  go_loopw [5, 10] (fun v i wr => ∃ k : Nat, k ≤ xs.length ∧ i = .int .i64 k ∧ v = .int .u32 (allSum ((xs.map fun x => two x).take k) : Nat) ∧ Below W.heap.size W wr) (fun _ i _ => xs.length - (intOf i).toNat)
  case atStart => exact ⟨0, by omega, rfl, rfl, Below.refl _ _⟩
  case round =>
    obtain ⟨k, hk, rfl, rfl, hW⟩ := hrel
    by_cases hlt : k < xs.length
    · have hlt0 : decide ((k : Int) < (xs.length : Int)) = true := decide_eq_true (by omega)
      obtain rfl : a = some ⟨bk, off, none⟩ := by
        rcases HA.out with h | h
        · rw [h] at hlt; exact absurd hlt (Nat.not_lt_zero _)
        · exact h
      have HQ := Lib.hid (HX.out k xs[k] (List.getElem?_eq_getElem hlt))
      have hc : wr.cell? ⟨bk, off + k, none⟩ = some (.int .u16 (xs[k] : Nat)) := by
        rw [hW.cell (p := ⟨bk, off + k, none⟩) (block_lt_of_cell HQ.out.1)]; exact HQ.out.1
      have hb : wr.heap[b]? = some (.cells #[.pointer (some ⟨g, 0, none⟩), .func (.func 18) #[] #[]] 45 (0, 0)) := by
        rw [hW.block b (Array.getElem?_eq_some_iff.1 HB.out).1]; exact HB.out
      have HT : Hid (wr.heap[g]? = some (.cells (tab Crc.byte) 25 (0, 0))) := by
        have := hW.block g (Array.getElem?_eq_some_iff.1 HG.out).1
        exact this.trans HG.out
      have hc0 : wr.cell? ⟨b, 0, none⟩ = some (.pointer (some ⟨g, 0, none⟩)) := by rw [cell_of_row _ _ _ _ _ _ hb]; rfl
      have hc1 : wr.cell? ⟨b, 1, none⟩ = some (.func (.func 18) #[] #[]) := by rw [cell_of_row _ _ _ _ _ _ hb]; rfl
      have HSB := Lib.hid (block_lt_of_cell hc0)
      have HSG := Lib.hid (Array.getElem?_eq_some_iff.1 HT.out).1
      have HSN := Lib.hid (show allSum ((xs.map fun x => two x).take (k + 1)) = Crc.add Crc.byte (allSum ((xs.map fun x => two x).take k)) (two xs[k]) by rw [take_snoc_map _ _ _ hlt, allSum_snoc])
      have hr := allSum_lt ((xs.map fun x => two x).take k)
      revert hr HSN
      generalize allSum ((xs.map fun x => two x).take k) = r
      intro HSN hr
      clear hb
      go_wp2
      go_region_with (first
        | (go_at_call 30; refine (text_two _ xs[k] HQ.out.2 _).mono ?_; rintro e w2 ⟨rfl, hb⟩; have hd0 := hb.cell (p := ⟨b, 0, none⟩) HSB.out; have hd1 := hb.cell (p := ⟨b, 1, none⟩) HSB.out)
        | (go_at_call 12; go_must (refine (add_at Crc.byte byte_all g 25 (0, 0) r hr _ (by show (2 : Nat) ≤ maxLen; decide) _ (by rw [hb.block g HSG.out]; exact HT.out)).mono ?_); rintro e w3 ⟨rfl, n, rfl⟩))
      all_goals
        go_wp2
        go_roundw
        case rel => exact ⟨k + 1, by omega, by go_num, by rw [HSN.out], below_drewN (hW.drew.trans (hb.mono hW.size)) _⟩
        case measure => simp [intOf]; omega
    · obtain rfl : k = xs.length := by omega
      go_wp2
      go_ret
      refine ⟨ret_u32 ?_, ?_⟩
      · rw [List.take_of_length_le (by simp)]
      · rw [HB1.out]; exact HW.out.trans (hW.mono (by rw [← HB1.out]; exact HW.out.size))
end Go.Proofs.Ytghmpoahnkoppaa
