/- The law CrcThings: things of any sort are summed by their bytes, one and several. -/
import Derived.Test.YtghmpoahnkoppaaSummer
import Derived.Test.YtghmpoahnkoppaaShelf
namespace Go.Proofs.Ytghmpoahnkoppaa
open Go.RowKit
theorem join_flatten : ∀ l : List (List UInt8), Lib.join l [] = l.flatten := by
  intro l
  induction l with
  | nil => rfl
  | cons a t ih =>
    cases t with
    | nil => simp [Lib.join]
    | cons b r => simp [Lib.join] at *; exact ih
theorem join_any (a : Option Addr) (bk o c : Nat) (xs : List ByteArray) (w : World) (ha : xs = [] ∨ a = some ⟨bk, o, none⟩) (hx : ∀ (j : Nat) (x : ByteArray), xs[j]? = some x → w.cell? ⟨bk, o + j, none⟩ = some (.string x)) (hcap : xs.length ≤ c)
    (hN : xs.length ≤ 100) (hlen : (xs.map (·.data.toList)).flatten.length ≤ 100000) :
    Calls Try.prog 22 #[.slice a xs.length c, .string ⟨#[]⟩] w fun e w' => e = .returned (.string ⟨(xs.map (·.data.toList)).flatten.toArray⟩) ∧ Below w.heap.size w w' := by
  by_cases h0 : xs = []
  · subst h0
    refine (Try.strings_Join_none a c ⟨#[]⟩ w).mono ?_
    rintro e w' ⟨rfl, rfl⟩
    exact ⟨rfl, Below.refl _ _⟩
  · obtain rfl : a = some ⟨bk, o, none⟩ := by rcases ha with h | h; exact absurd h h0; exact h
    have hl : 0 < xs.length := List.length_pos_iff.2 h0
    have hb := block_lt_of_cell (hx 0 xs[0] (List.getElem?_eq_getElem hl))
    refine (Try.strings_Join bk o c xs ⟨#[]⟩ w hx hb (by omega) hcap ?_).mono ?_
    · rw [show (⟨#[]⟩ : ByteArray).data.toList = [] by rfl, join_flatten]; omega
    · rintro e w' ⟨rfl, hbel⟩
      refine ⟨?_, hbel⟩
      rw [show (⟨#[]⟩ : ByteArray).data.toList = [] by rfl, join_flatten]
set_option maxRecDepth 100000 in
set_option maxHeartbeats 400000 in
theorem things_idle (a0 a1 : Option Addr) (n0 c0 n1 c1 : Nat) (hm0 : n0 ≤ maxLen) (hm1 : n1 ≤ maxLen) (h : (n0 : Int) > 100 ∨ (n1 : Int) > 100) (w : World) :
    Calls Try.prog 5 #[.slice a0 n0 c0, .slice a1 n1 c1] w fun e w' => e = .returned (.bool true) ∧ Below w.heap.size w w' := by
  unfold maxLen at hm0 hm1
  by_cases h4 : (n0 : Int) > 100
  · go_enter Try.func5, Try.ntmps5
    go_wp2_with (go_at_call 8; refine (awake_any _).mono ?_; rintro e w1 ⟨rfl, hb⟩)
    go_ret
    exact ⟨rfl, hb⟩
  · have h5 : (n1 : Int) > 100 := by omega
    go_enter Try.func5, Try.ntmps5
    go_wp2_with (go_at_call 8; refine (awake_any _).mono ?_; rintro e w1 ⟨rfl, hb⟩)
    go_ret
    exact ⟨rfl, hb⟩
/-- The document's sum of several texts, and of several numbers' bytes. -/
def sumX (xs : List ByteArray) : Nat := Crc.add Crc.byte 0 (xs.map (·.data.toList)).flatten
def sumN (ns : List Nat) : Nat := Crc.add Crc.byte 0 (ns.map two).flatten
theorem keepCells {α : Type} {w W : World} {b o : Nat} {xs : List α} {f : α → Value} {Q : α → Prop} (hb : Below w.heap.size w W) (h : ∀ (j : Nat) (x : α), xs[j]? = some x → w.cell? ⟨b, o + j, none⟩ = some (f x) ∧ Q x) :
    ∀ (j : Nat) (x : α), xs[j]? = some x → W.cell? ⟨b, o + j, none⟩ = some (f x) ∧ Q x :=
  fun j x hj => ⟨by rw [hb.cell (p := ⟨b, o + j, none⟩) (block_lt_of_cell (h j x hj).1)]; exact (h j x hj).1, (h j x hj).2⟩
theorem keepRow {w W : World} {g : Nat} {o : Obj} (hb : Below w.heap.size w W) (h : w.heap[g]? = some o) : W.heap[g]? = some o :=
  (hb.block g (Array.getElem?_eq_some_iff.1 h).1).trans h
theorem allX (g : Nat) (a : Option Addr) (bk off c : Nat) (xs : List ByteArray) (hm : xs.length ≤ 100) (ha : xs = [] ∨ a = some ⟨bk, off, none⟩) (w : World) (hx : ∀ (j : Nat) (x : ByteArray), xs[j]? = some x → w.cell? ⟨bk, off + j, none⟩ = some (.string x) ∧ x.size ≤ maxLen) (hg : w.heap[g]? = some (.cells (tab Crc.byte) 25 (0, 0))) :
    Calls Try.prog 21 #[.agg #[.pointer (some ⟨g, 0, none⟩), .func (.func 17) #[] #[]], .slice a xs.length c] w fun e w' => e = .returned (.int .u32 (sumX xs : Nat)) ∧ Below w.heap.size w w' := by
  refine (all_id g a bk off c xs (by unfold maxLen; omega) ha w hx hg).mono ?_
  rintro e w' ⟨rfl, hb⟩
  exact ⟨ret_u32 (by rw [allSum_eq]; rfl), hb⟩
theorem allNone (g : Nat) (a : Option Addr) (bk off c : Nat) (xs : List ByteArray) (hm : xs.length ≤ 100) (ha : xs = [] ∨ a = some ⟨bk, off, none⟩) (w : World) (hx : ∀ (j : Nat) (x : ByteArray), xs[j]? = some x → w.cell? ⟨bk, off + j, none⟩ = some (.string x) ∧ x.size ≤ maxLen) (hg : w.heap[g]? = some (.cells (tab Crc.byte) 25 (0, 0))) :
    Calls Try.prog 21 #[.agg #[.pointer (some ⟨g, 0, none⟩), .nilFunc], .slice a xs.length c] w fun e w' => e = .returned (.int .u32 0) ∧ Below w.heap.size w w' := by
  refine (all_nil g a bk off c xs (by unfold maxLen; omega) ha w hx hg).mono ?_
  rintro e w' ⟨rfl, hb⟩
  refine ⟨ret_u32 ?_, hb⟩
  rw [allSum_eq, show (xs.map fun _ => ([] : List UInt8)).flatten = [] by simp, add_nil_text _ _ (by decide)]
  rfl
theorem allN (g : Nat) (a : Option Addr) (bk off c : Nat) (ns : List Nat) (hm : ns.length ≤ 100) (ha : ns = [] ∨ a = some ⟨bk, off, none⟩) (w : World) (hx : ∀ (j : Nat) (x : Nat), ns[j]? = some x → w.cell? ⟨bk, off + j, none⟩ = some (.int .u16 (x : Nat)) ∧ x < 65536) (hg : w.heap[g]? = some (.cells (tab Crc.byte) 25 (0, 0))) :
    Calls Try.prog 23 #[.agg #[.pointer (some ⟨g, 0, none⟩), .func (.func 18) #[] #[]], .slice a ns.length c] w fun e w' => e = .returned (.int .u32 (sumN ns : Nat)) ∧ Below w.heap.size w w' := by
  refine (all_two g a bk off c ns (by unfold maxLen; omega) ha w hx hg).mono ?_
  rintro e w' ⟨rfl, hb⟩
  exact ⟨ret_u32 (by rw [allSum_eq]; rfl), hb⟩
theorem ofNone (g : Nat) (s : ByteArray) (hl : s.size ≤ maxLen) (w : World) (hg : w.heap[g]? = some (.cells (tab Crc.byte) 25 (0, 0))) :
    Calls Try.prog 20 #[.agg #[.pointer (some ⟨g, 0, none⟩), .nilFunc], .string s] w fun e w' => e = .returned (.int .u32 0) ∧ Below w.heap.size w w' := by
  refine (of_nil g s hl w hg).mono ?_
  rintro e w' ⟨rfl, hb⟩
  exact ⟨ret_u32 (by rw [add_nil_text _ _ (by decide)]; rfl), hb⟩
theorem flat_le : ∀ (xs : List ByteArray), (∀ x ∈ xs, x.size ≤ 1000) → (xs.map (·.data.toList)).flatten.length ≤ 1000 * xs.length
  | [], _ => by simp
  | x :: l, h => by
    have h1 := flat_le l fun y hy => h y (List.mem_cons_of_mem _ hy)
    have h2 := h x List.mem_cons_self
    rw [List.map_cons, List.flatten_cons, List.length_append, List.length_cons]
    have h3 : x.data.toList.length = x.size := by simp
    omega
theorem refList (l : List UInt8) (h : l.length ≤ 100000) (w : World) :
    Calls Try.prog 14 #[.string ⟨l.toArray⟩] w fun e w' => e = .returned (.int .u32 (Crc.add Crc.byte 0 l : Nat)) ∧ w = w' :=
  refOf_any ⟨l.toArray⟩ (by show l.toArray.size ≤ maxLen; rw [List.size_toArray]; unfold maxLen; omega) w
theorem refX (xs : List ByteArray) (h : (xs.map (·.data.toList)).flatten.length ≤ 100000) (w : World) :
    Calls Try.prog 14 #[.string ⟨(xs.map (·.data.toList)).flatten.toArray⟩] w fun e w' => e = .returned (.int .u32 (sumX xs : Nat)) ∧ w = w' := by
  unfold sumX
  exact refList _ h w
theorem two_len : ∀ ns : List Nat, (ns.map two).flatten.length = 2 * ns.length
  | [] => rfl
  | x :: l => by rw [List.map_cons, List.flatten_cons, List.length_append, two_len l, List.length_cons]; show 2 + _ = _; omega
theorem refN (ns : List Nat) (h : ns.length ≤ 100) (w : World) :
    Calls Try.prog 14 #[.string ⟨(ns.map two).flatten.toArray⟩] w fun e w' => e = .returned (.int .u32 (sumN ns : Nat)) ∧ w = w' := by
  unfold sumN
  exact refList _ (by rw [two_len]; omega) w
/-- What stands behind the making of the summer over none. -/
theorem facts6 {wr w6 : World} {g6 b6 g3 : Nat} (hb : Below wr.heap.size wr w6) (hg : w6.heap[g6]? = some (.cells (tab Crc.byte) 25 (0, 0))) (h6 : wr.heap[b6]? = some (.cells #[.pointer (some ⟨g3, 0, none⟩), .func (.func 17) #[] #[]] 38 (0, 0))) :
    Hid (Below wr.heap.size wr (w6.alloc (.cells #[.pointer (some ⟨g6, 0, none⟩), .nilFunc] 38)) ∧ (w6.alloc (.cells #[.pointer (some ⟨g6, 0, none⟩), .nilFunc] 38)).heap[g6]? = some (.cells (tab Crc.byte) 25 (0, 0)) ∧
      (w6.alloc (.cells #[.pointer (some ⟨g6, 0, none⟩), .nilFunc] 38)).heap[w6.heap.size]? = some (.cells #[.pointer (some ⟨g6, 0, none⟩), .nilFunc] 38 (0, 0)) ∧
      (w6.alloc (.cells #[.pointer (some ⟨g6, 0, none⟩), .nilFunc] 38)).heap[b6]? = some (.cells #[.pointer (some ⟨g3, 0, none⟩), .func (.func 17) #[] #[]] 38 (0, 0))) :=
  Lib.hid ⟨hb.alloc hb.size _, (heap_old _ _ _ (Array.getElem?_eq_some_iff.1 hg).1).trans hg, heap_alloc_new _ _, keepRow (hb.alloc hb.size _) h6⟩
theorem facts9 {wr W6 w8 w9 : World} (h : Below wr.heap.size wr w8) (k : Below W6.heap.size W6 w8) (hb : Below w8.heap.size w8 w9) : Hid (Below wr.heap.size wr w9 ∧ Below W6.heap.size W6 w9) :=
  Lib.hid ⟨h.trans (hb.mono h.size), k.trans (hb.mono k.size)⟩
theorem cells38 {w : World} {b g : Nat} {f : Value} {t : TypeId} (h : w.heap[b]? = some (.cells #[.pointer (some ⟨g, 0, none⟩), f] t (0, 0))) :
    w.cell? ⟨b, 0, none⟩ = some (.pointer (some ⟨g, 0, none⟩)) ∧ w.cell? ⟨b, 1, none⟩ = some f :=
  ⟨by rw [cell_of_row _ _ _ _ _ _ h]; rfl, by rw [cell_of_row _ _ _ _ _ _ h]; rfl⟩
theorem two_sum : ∀ l : List Nat, (l.map (List.length ∘ two)).sum = 2 * l.length
  | [] => rfl
  | x :: l => by rw [List.map_cons, List.sum_cons, two_sum l, List.length_cons]; show 2 + 2 * l.length = _; omega
theorem two_take (l : List Nat) (k : Nat) (x : Nat) (h : l.length ≤ 100) : ((l.map (List.length ∘ two)).take k).sum + (two x).length ≤ 9223372036854775807 := by
  rw [← List.map_take, two_sum, List.length_take]
  show 2 * min k l.length + 2 ≤ _
  omega
set_option maxRecDepth 100000 in
set_option maxHeartbeats 1000000 in
theorem things_busy (a0 a1 : Option Addr) (b0 o0 c0 b1 o1 c1 : Nat) (xs : List ByteArray) (ns : List Nat) (hm0 : xs.length ≤ 100) (hm1 : ns.length ≤ 100)
    (ha0 : xs = [] ∨ a0 = some ⟨b0, o0, none⟩) (ha1 : ns = [] ∨ a1 = some ⟨b1, o1, none⟩) (hc0 : xs.length ≤ c0) (w : World)
    (hx : ∀ (j : Nat) (x : ByteArray), xs[j]? = some x → w.cell? ⟨b0, o0 + j, none⟩ = some (.string x) ∧ x.size ≤ maxLen)
    (hn : ∀ (j : Nat) (x : Nat), ns[j]? = some x → w.cell? ⟨b1, o1 + j, none⟩ = some (.int .u16 (x : Nat)) ∧ x < 65536) :
    Calls Try.prog 5 #[.slice a0 xs.length c0, .slice a1 ns.length c1] w fun e w' => e = .returned (.bool true) ∧ Below w.heap.size w w' := by
  have hd0 : decide (100 < (xs.length : Int)) = false := decide_eq_false (by omega)
  have hd1 : decide (100 < (ns.length : Int)) = false := decide_eq_false (by omega)
  have HX := Lib.hid hx
  have HN := Lib.hid hn
  have HA0 := Lib.hid ha0
  have HA1 := Lib.hid ha1
  have HC0 := Lib.hid hc0
  clear hx hn ha0 ha1 hc0
  go_enter Try.func5, Try.ntmps5
  go_wp2_with (first
    | (go_at_call 8; refine (awake_any _).mono ?_; rintro e w1 ⟨rfl, hb1⟩)
    | (go_at_call 9; refine (make_any _).mono ?_; rintro e w2 ⟨rfl, hb2⟩)
    | (refine wpList_store_row rfl 25 (.tmp 5) (.tmp 25) rfl w2.heap.size (tab Crc.byte) rfl rfl 25 zc (heap_alloc_new _ _) (by rw [tab_size]; exact info25) (by rw [tab_size, zc_size]) (tab_one _) ?_; rw [World.setRow_alloc_new])
    | (go_at_call 16; refine (over_id w2.heap.size _ (heap_alloc_new _ _)).mono ?_; rintro e w3 ⟨⟨v3, rfl, g3, rfl, hg3⟩, hb3⟩)
    | (go_at_call 19; refine (over_two w2.heap.size _ (by rw [heap_old _ _ _ (by have := hb3.size; simp at this; omega), hb3.block _ (by simp)]; exact heap_alloc_new _ _)).mono ?_; rintro e w4 ⟨⟨v4, rfl, g4, rfl, hg4⟩, hb4⟩))
  have s2 := hb2.size
  have s3 : w2.heap.size < w3.heap.size := by have := hb3.size; simp at this; omega
  have s4 : w3.heap.size < w4.heap.size := by have := hb4.size; simp at this; omega
  have HW : Hid (Below w.heap.size w (w4.alloc (.cells #[.pointer (some ⟨g4, 0, none⟩), .func (.func 18) #[] #[]] 45))) :=
    Lib.hid (((((hb1.trans (hb2.mono hb1.size)).alloc (by have := hb1.size; omega) _).trans (hb3.mono (by have := hb1.size; simp; omega))).alloc (by have := hb1.size; omega) _).trans (hb4.mono (by have := hb1.size; simp; omega)) |>.alloc (by have := hb1.size; omega) _)
  have H6 : Hid ((w4.alloc (.cells #[.pointer (some ⟨g4, 0, none⟩), .func (.func 18) #[] #[]] 45)).heap[w3.heap.size]? = some (.cells #[.pointer (some ⟨g3, 0, none⟩), .func (.func 17) #[] #[]] 38 (0, 0))) := by
    refine Lib.hid ?_
    rw [heap_old _ _ _ s4, hb4.block _ (by simp)]
    exact heap_alloc_new _ _
  have T6 : Hid ((w4.alloc (.cells #[.pointer (some ⟨g4, 0, none⟩), .func (.func 18) #[] #[]] 45)).heap[g3]? = some (.cells (tab Crc.byte) 25 (0, 0))) := by
    have hl := (Array.getElem?_eq_some_iff.1 hg3).1
    refine Lib.hid ?_
    rw [heap_old _ _ _ (by omega), hb4.block _ (by simp; omega), heap_old _ _ _ hl]
    exact hg3
  have H8 : Hid ((w4.alloc (.cells #[.pointer (some ⟨g4, 0, none⟩), .func (.func 18) #[] #[]] 45)).heap[w4.heap.size]? = some (.cells #[.pointer (some ⟨g4, 0, none⟩), .func (.func 18) #[] #[]] 45 (0, 0))) := Lib.hid (heap_alloc_new _ _)
  have T8 : Hid ((w4.alloc (.cells #[.pointer (some ⟨g4, 0, none⟩), .func (.func 18) #[] #[]] 45)).heap[g4]? = some (.cells (tab Crc.byte) 25 (0, 0))) := by
    have hl := (Array.getElem?_eq_some_iff.1 hg4).1
    refine Lib.hid ?_
    rw [heap_old _ _ _ hl]
    exact hg4
  clear s2 hb1 hb2 hb3 hb4 hg3 hg4 s3 s4
  revert HW H6 T6 H8 T8
  generalize w4.alloc (.cells #[.pointer (some ⟨g4, 0, none⟩), .func (.func 18) #[] #[]] 45) = W
  generalize w3.heap.size = b6
  generalize w4.heap.size = b8
  generalize w2.heap.size = b5
  intro HW H6 T6 H8 T8
  go_loopw [9, 31] (fun v i wr => ∃ k : Nat, k ≤ ns.length ∧ i = .int .i64 k ∧ v = .string ⟨((ns.map two).take k).flatten.toArray⟩ ∧ Below W.heap.size W wr) (fun _ i _ => ns.length - (intOf i).toNat)
  case atStart => exact ⟨0, by omega, rfl, rfl, Below.refl _ _⟩
  case round =>
    obtain ⟨k, hk, rfl, rfl, hW1⟩ := hrel
    by_cases hlt : k < ns.length
    · have hlt0 : decide ((k : Int) < (ns.length : Int)) = true := decide_eq_true (by omega)
      obtain rfl : a1 = some ⟨b1, o1, none⟩ := by
        rcases HA1.out with h | h
        · rw [h] at hlt; exact absurd hlt (Nat.not_lt_zero _)
        · exact h
      have HQ := Lib.hid (HN.out k ns[k] (List.getElem?_eq_getElem hlt))
      have hc : wr.cell? ⟨b1, o1 + k, none⟩ = some (.int .u16 (ns[k] : Nat)) := by
        have hlb := block_lt_of_cell HQ.out.1
        rw [hW1.cell (p := ⟨b1, o1 + k, none⟩) (Nat.lt_of_lt_of_le hlb HW.out.size), HW.out.cell (p := ⟨b1, o1 + k, none⟩) hlb]; exact HQ.out.1
      have hsz := two_take ns k ns[k] hm1
      have HSN := Lib.hid (take_snoc_map two ns k hlt)
      go_wp2_with (go_at_call 18; refine (two_any _ HQ.out.2 _).mono ?_; rintro e w5 ⟨rfl, hb5⟩)
      go_roundw
      case rel => exact ⟨k + 1, by omega, by go_num, by rw [HSN.out, ByteArray.mk_append_mk, List.flatten_append]; simp, hW1.trans (hb5.mono hW1.size)⟩
      case measure => simp [intOf]; omega
    · obtain rfl : k = ns.length := by omega
      rw [List.take_of_length_le (by simp)] at *
      go_wp2
      obtain ⟨wo, rfl⟩ : ∃ wo : World, wo = wr := ⟨_, rfl⟩
      have HR := Lib.hid hW1
      have HWr := Lib.hid (HW.out.trans (hW1.mono HW.out.size))
      clear hW1
      go_loopw [43] (fun i wr => ∃ k : Nat, k ≤ xs.length ∧ i = .int .i64 k ∧ Hid (∀ (j : Nat) (x : ByteArray), xs[j]? = some x → j < k → x.size ≤ 1000) ∧ Below wo.heap.size wo wr) (fun i _ => xs.length - (intOf i).toNat)
      case atStart => exact ⟨0, by omega, rfl, fun j x _ h => absurd h (Nat.not_lt_zero _), Below.refl _ _⟩
      case round =>
        obtain ⟨k, hk, rfl, HS, hW2⟩ := hrel
        have HBq := Lib.hid (HWr.out.trans (hW2.mono HWr.out.size))
        have HXq := Lib.hid (keepCells HBq.out HX.out)
        have HRq := Lib.hid (HR.out.trans (hW2.mono HR.out.size))
        have H6q := Lib.hid (keepRow HRq.out H6.out)
        have T6q := Lib.hid (keepRow HRq.out T6.out)
        by_cases hlt : k < xs.length
        · have hlt0 : decide ((k : Int) < (xs.length : Int)) = true := decide_eq_true (by omega)
          obtain rfl : a0 = some ⟨b0, o0, none⟩ := by
            rcases HA0.out with h | h
            · rw [h] at hlt; exact absurd hlt (Nat.not_lt_zero _)
            · exact h
          have HQ := Lib.hid (HXq.out k xs[k] (List.getElem?_eq_getElem hlt))
          have hc := HQ.out.1
          have hlen := HQ.out.2
          unfold maxLen at hlen
          have hq0 : wr.cell? ⟨b6, 0, none⟩ = some (.pointer (some ⟨g3, 0, none⟩)) := by rw [cell_of_row _ _ _ _ _ _ H6q.out]; rfl
          have hq1 : wr.cell? ⟨b6, 1, none⟩ = some (.func (.func 17) #[] #[]) := by rw [cell_of_row _ _ _ _ _ _ H6q.out]; rfl
          by_cases hbig : (xs[k].size : Int) > 1000
          · go_wp2
            go_ret
            exact ⟨rfl, HBq.out⟩
          · have hbig0 : decide (1000 < (xs[k].size : Int)) = false := decide_eq_false (by omega)
            go_wp2_with (first
              | (go_at_call 20; refine (of_id g3 xs[k] HQ.out.2 _ T6q.out).mono ?_; rintro e w5 ⟨rfl, hb5⟩)
              | (go_at_call 14; refine (refOf_any xs[k] HQ.out.2 _).mono ?_; rintro e w6 ⟨rfl, rfl⟩))
            go_roundw
            case rel =>
              refine ⟨k + 1, by omega, by go_num, ?_, hW2.trans (hb5.mono hW2.size)⟩
              intro j x hj hjk
              by_cases he : j = k
              · subst he
                rw [List.getElem?_eq_getElem hlt] at hj
                cases hj
                omega
              · exact HS.out j x hj (by omega)
            case measure => simp [intOf]; omega
        · obtain rfl : k = xs.length := by omega
          have HF := Lib.hid (show (xs.map (·.data.toList)).flatten.length ≤ 100000 by
            have := flat_le xs (fun x hx => by
              obtain ⟨j, hj, rfl⟩ := List.getElem_of_mem hx
              exact HS.out j _ (List.getElem?_eq_getElem hj) hj)
            omega)
          have H8r := Lib.hid (keepRow HRq.out H8.out)
          have T8r := Lib.hid (keepRow HRq.out T8.out)
          have HNr := Lib.hid (keepCells HBq.out HN.out)
          clear HR HWr HS
          go_wp2_with (first
            | (go_at_call 16; refine (over_nil _).mono ?_; rintro e w6 ⟨⟨v6, rfl, g6, rfl, hg6⟩, hb6⟩; have F6 := facts6 hb6 hg6 H6q.out; obtain ⟨c60, c61⟩ := cells38 F6.out.2.2.2)
            | (go_at_call_of 21 (Value.nilFunc); refine (allNone g6 a0 b0 o0 c0 xs hm0 HA0.out _ (keepCells F9.out.1 HXq.out) (keepRow F9.out.2 F6.out.2.1)).mono ?_; rintro e w10 ⟨rfl, hb10⟩; have F10 := facts9 F9.out.1 F9.out.2 hb10; obtain ⟨ca0, ca1⟩ := cells38 (keepRow F10.out.2 F6.out.2.2.1))
            | (go_at_call 21; refine (allX g3 a0 b0 o0 c0 xs hm0 HA0.out _ (keepCells F6.out.1 HXq.out) (keepRow F6.out.1 T6q.out)).mono ?_; rintro e w7 ⟨rfl, hb7⟩; have F7 := facts9 F6.out.1 (Below.refl _ _) hb7)
            | (go_at_call 22; refine (join_any a0 b0 o0 c0 xs _ HA0.out (fun j x h => (keepCells F7.out.1 HXq.out j x h).1) HC0.out hm0 HF.out).mono ?_; rintro e w8 ⟨rfl, hb8⟩; have F8 := facts9 F7.out.1 F7.out.2 hb8; obtain ⟨c80, c81⟩ := cells38 (keepRow F8.out.1 H8r.out))
            | (go_at_call_of 14 (two); refine (refN ns hm1 _).mono ?_; rintro e w12 ⟨rfl, rfl⟩)
            | (go_at_call 14; refine (refX xs HF.out _).mono ?_; rintro e w12 ⟨rfl, rfl⟩)
            | (go_at_call 23; refine (allN g4 a1 b1 o1 c1 ns hm1 HA1.out _ (keepCells F8.out.1 HNr.out) (keepRow F8.out.1 T8r.out)).mono ?_; rintro e w9 ⟨rfl, hb9⟩; have F9 := facts9 F8.out.1 F8.out.2 hb9; obtain ⟨c90, c91⟩ := cells38 (keepRow F9.out.2 F6.out.2.2.1))
            | (go_at_call 20; refine (ofNone g6 _ (by decide) _ (keepRow F10.out.2 F6.out.2.1)).mono ?_; rintro e w11 ⟨rfl, hb11⟩; have F11 := facts9 F10.out.1 F10.out.2 hb11))
          go_ret
          exact ⟨rfl, HBq.out.trans (F11.out.1.mono HBq.out.size)⟩
theorem things_walk (a0 a1 : Option Addr) (b0 o0 c0 b1 o1 c1 : Nat) (xs : List ByteArray) (ns : List Nat) (hm0 : xs.length ≤ maxLen) (hm1 : ns.length ≤ maxLen)
    (ha0 : xs = [] ∨ a0 = some ⟨b0, o0, none⟩) (ha1 : ns = [] ∨ a1 = some ⟨b1, o1, none⟩) (hc0 : xs.length ≤ c0) (w : World)
    (hx : ∀ (j : Nat) (x : ByteArray), xs[j]? = some x → w.cell? ⟨b0, o0 + j, none⟩ = some (.string x) ∧ x.size ≤ maxLen)
    (hn : ∀ (j : Nat) (x : Nat), ns[j]? = some x → w.cell? ⟨b1, o1 + j, none⟩ = some (.int .u16 (x : Nat)) ∧ x < 65536) :
    Calls Try.prog 5 #[.slice a0 xs.length c0, .slice a1 ns.length c1] w fun e w' => e = .returned (.bool true) ∧ Below w.heap.size w w' := by
  by_cases h : (xs.length : Int) > 100 ∨ (ns.length : Int) > 100
  · exact things_idle a0 a1 xs.length c0 ns.length c1 hm0 hm1 h w
  · exact things_busy a0 a1 b0 o0 c0 b1 o1 c1 xs ns (by omega) (by omega) ha0 ha1 hc0 w hx hn
end Go.Proofs.Ytghmpoahnkoppaa
