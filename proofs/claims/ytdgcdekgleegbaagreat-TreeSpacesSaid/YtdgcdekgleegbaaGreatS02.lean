/- Texts of one seat, merged. -/
import Derived.Test.YtdgcdekgleegbaaGreatS01
import Derived.Laws.EntriesVeiled
import Derived.BigQuiet
import Derived.Deep.QuietTactic
import Derived.Deep.RegionHeld3
import Derived.Defers
import Derived.Recover
import Derived.Deep.LoopGhost
set_option maxRecDepth 100000
set_option maxHeartbeats 4000000
set_option linter.unusedVariables false
/- The contracts of what lays one cell: first, putKey, putCell, and a shape's own functions. -/
namespace Go.Proofs.YtdgcdekgleegbaaGreat
open Go.RowKit
open Sl (Cl Kd)
theorem below_step {a b c : World} (h : Below a.heap.size a b) (k : Below b.heap.size b c) : Below a.heap.size a c := h.trans (k.mono h.size)
theorem below_off {w w1 : World} {o : Obj} (h : Below (w.alloc o).drew.heap.size (w.alloc o).drew w1) : Below w.heap.size w w1 :=
  (((Below.refl _ _).alloc (Nat.le_refl _) o).drew).trans (h.mono (by show w.heap.size ≤ (w.alloc o).heap.size; simp))
def aggC (c : Cl) : Value := .agg #[.string (str c.key), .string (str c.val), .int .u32 c.chain, .int .u32 c.long]
def aggK (k : Kd) : Value := .agg #[.string (str k.key), .int .u32 k.page]
theorem str_take (l : List UInt8) (n : Nat) : (str l).extract 0 (min l.length n) = str (l.take n) := by
  apply ByteArray.ext
  simp [str, ByteArray.data_extract, List.extract_toArray]
  rw [Nat.min_comm]
theorem ext_full (s : ByteArray) : s.extract 0 s.size = s := by
  apply ByteArray.ext
  simp
theorem str_whole (l : List UInt8) : (str l).extract 0 l.length = str l := by
  have := str_take l l.length
  rw [Nat.min_self, List.take_length] at this
  exact this
theorem first_any (l : List UInt8) (n : Nat) (w : World) :
    Calls Tryz.prog 129 #[.string (str l), .int .i64 n] w fun e w' => e = .returned (.string (str (l.take n))) ∧ w = w' := by
  rw [← str_take]
  have hs := str_size l
  rw [← hs]
  clear hs
  generalize str l = s
  by_cases h : s.size ≤ n
  · have h1 : (s.size : Int) ≤ n := by omega
    rw [Nat.min_eq_left h, ext_full]
    go_enter Tryz.func129, Tryz.ntmps129
    go_wp2
    go_ret
    exact ⟨rfl, rfl⟩
  · have h1 : ¬ (s.size : Int) ≤ n := by omega
    rw [Nat.min_eq_right (by omega)]
    go_enter Tryz.func129, Tryz.ntmps129
    go_wp2
    go_ret
    exact ⟨rfl, rfl⟩
theorem putKey_any (k : List UInt8) (w : World) :
    Calls Tryz.prog 127 #[.string (str k)] w fun e w' => e = .returned (.string (str (Sl.encKey k))) ∧ Below w.heap.size w w' := by
  have hz := big_size
  have hl : (k.take 255).length < 256 := by rw [List.length_take]; omega
  have H : Hid (str (Oc.big 1 (k.take 255).length) ++ str (k.take 255) = str (Sl.encKey k)) := by
    show _ = _
    rw [str_append]; unfold Sl.encKey; rw [List.length_take, Nat.min_comm]
  revert hl H
  generalize hk : k.take 255 = t
  have HK := Lib.hid hk
  clear hk
  intro hl H
  have HF := Lib.hid (fun W => HK.out ▸ first_any k 255 W)
  have ht := str_size t
  go_enter Tryz.func127, Tryz.ntmps127
  go_wp2_with (first
    | (go_at_call 129; refine (HF.out _).mono ?_; rintro e w1 ⟨rfl, rfl⟩)
    | (go_at_call 112; refine (one_at _ t.length (by first | omega | (rw [IntKind.wrap_u8]; omega)) hl _).mono ?_; rintro e w2 ⟨rfl, hb⟩))
  go_ret
  exact ⟨ret_string H.out, hb⟩
theorem wrap16_le (x : Nat) (h : x < 65536) : IntKind.u16.wrap (x : Int) = x := by rw [IntKind.wrap_u16]; omega
/-- The fields of a boxed branch's cell, and that nothing else of old has turned. -/
def InK (w : World) (g : Nat) (x0 x1 : Value) (w' : World) : Prop :=
  w'.cell? ⟨g, 0, none⟩ = some x0 ∧ w'.cell? ⟨g, 1, none⟩ = some x1 ∧ Below g w w'
theorem InK.step {w w1 w2 : World} {g : Nat} {x0 x1 : Value} (h : w1.cell? ⟨g, 0, none⟩ = some x0 ∧ w1.cell? ⟨g, 1, none⟩ = some x1 ∧ Below g w w1) (hb : Below w1.heap.size w1 w2) :
    w2.cell? ⟨g, 0, none⟩ = some x0 ∧ w2.cell? ⟨g, 1, none⟩ = some x1 ∧ Below g w w2 := by
  obtain ⟨h0, h1, h2⟩ := h
  have hlt := World.block_lt_of_cell? _ _ h0
  exact ⟨(hb.cell (p := ⟨g, 0, none⟩) hlt).trans h0, (hb.cell (p := ⟨g, 1, none⟩) hlt).trans h1, h2.trans (hb.mono (Nat.le_of_lt hlt))⟩
theorem InK.first (w : World) (x0 x1 : Value) (T : TypeId) :
    (w.alloc (.cells #[x0, x1] T)).drew.cell? ⟨w.heap.size, 0, none⟩ = some x0 ∧ (w.alloc (.cells #[x0, x1] T)).drew.cell? ⟨w.heap.size, 1, none⟩ = some x1 ∧ Below w.heap.size w (w.alloc (.cells #[x0, x1] T)).drew :=
  ⟨by simp, by simp, ((Below.refl _ _).alloc (Nat.le_refl _) _).drew⟩
theorem putKid_any (k : Kd) (hp : k.page < 4294967296) (w : World) :
    Calls Tryz.prog 168 #[aggK k] w fun e w' => e = .returned (.string (str (Sl.encK k))) ∧ Below w.heap.size w w' := by
  obtain ⟨n, hz, hn⟩ : ∃ n, (str (Sl.encKey k.key)).size = n ∧ n ≤ 256 := ⟨_, rfl, by rw [str_size, Sl.encKey_len]; omega⟩
  have hq : ¬ 9223372036854775807 < n + 4 := by omega
  have hz' := big_size
  have H : Hid (str (Sl.encKey k.key) ++ str (Oc.big 4 k.page) = str (Sl.encK k)) := by
    show _ = _
    rw [str_append]; rfl
  unfold aggK
  have HK := Lib.hid (fun W => putKey_any k.key W)
  have HP := Lib.hid (fun W => four_at k.page k.page rfl hp W)
  clear hp
  revert hz H HK HP
  generalize Sl.encKey k.key = ek
  generalize Sl.encK k = ekk
  generalize k.key = key
  generalize k.page = page
  intro hz H HK HP
  go_enter Tryz.func168, Tryz.ntmps168
  go_wp2_with fail
  go_region_held3 (fun w' => w'.cell? ⟨w.heap.size, 0, none⟩ = some (.string (str key)) ∧ w'.cell? ⟨w.heap.size, 1, none⟩ = some (.int .u32 page) ∧ Below w.heap.size w w')
    ((first | assumption | exact InK.step ‹_› hb | exact InK.first _ _ _ _))
    (first
    | (go_at_call 127; refine (HK.out _).mono ?_; rintro e w1 ⟨rfl, hb⟩)
    | (go_at_call 128; refine (HP.out _).mono ?_; rintro e w2 ⟨rfl, hb⟩))
  rename_i hS
  obtain ⟨_, _, hB⟩ := hS
  go_wp2
  go_ret
  exact ⟨ret_string H.out, hB⟩
theorem InC.step {w w1 w2 : World} {g : Nat} {x0 x1 x2 x3 : Value} (h : w1.cell? ⟨g, 0, none⟩ = some x0 ∧ w1.cell? ⟨g, 1, none⟩ = some x1 ∧ w1.cell? ⟨g, 2, none⟩ = some x2 ∧ w1.cell? ⟨g, 3, none⟩ = some x3 ∧ Below g w w1) (hb : Below w1.heap.size w1 w2) :
    w2.cell? ⟨g, 0, none⟩ = some x0 ∧ w2.cell? ⟨g, 1, none⟩ = some x1 ∧ w2.cell? ⟨g, 2, none⟩ = some x2 ∧ w2.cell? ⟨g, 3, none⟩ = some x3 ∧ Below g w w2 := by
  obtain ⟨h0, h1, h2, h3, h4⟩ := h
  have hlt := World.block_lt_of_cell? _ _ h0
  exact ⟨(hb.cell (p := ⟨g, 0, none⟩) hlt).trans h0, (hb.cell (p := ⟨g, 1, none⟩) hlt).trans h1, (hb.cell (p := ⟨g, 2, none⟩) hlt).trans h2, (hb.cell (p := ⟨g, 3, none⟩) hlt).trans h3, h4.trans (hb.mono (Nat.le_of_lt hlt))⟩
theorem InC.first (w : World) (x0 x1 x2 x3 : Value) (T : TypeId) :
    (w.alloc (.cells #[x0, x1, x2, x3] T)).drew.cell? ⟨w.heap.size, 0, none⟩ = some x0 ∧ (w.alloc (.cells #[x0, x1, x2, x3] T)).drew.cell? ⟨w.heap.size, 1, none⟩ = some x1 ∧ (w.alloc (.cells #[x0, x1, x2, x3] T)).drew.cell? ⟨w.heap.size, 2, none⟩ = some x2 ∧ (w.alloc (.cells #[x0, x1, x2, x3] T)).drew.cell? ⟨w.heap.size, 3, none⟩ = some x3 ∧ Below w.heap.size w (w.alloc (.cells #[x0, x1, x2, x3] T)).drew :=
  ⟨by simp, by simp, by simp, by simp, ((Below.refl _ _).alloc (Nat.le_refl _) _).drew⟩
theorem putChained_any (c : Cl) (h0 : c.chain ≠ 0) (hc : c.chain < 4294967296) (hl : c.long < 4294967296) (w : World) :
    Calls Tryz.prog 84 #[aggC c] w fun e w' => e = .returned (.string (str (Sl.encC c))) ∧ Below w.heap.size w w' := by
  obtain ⟨n, hz, hn⟩ : ∃ n, (str (Sl.encKey c.key)).size = n ∧ n ≤ 256 := ⟨_, rfl, by rw [str_size, Sl.encKey_len]; omega⟩
  have hq1 : ¬ 9223372036854775807 < n + 1 := by omega
  have hq2 : ¬ 9223372036854775807 < n + 1 + 4 := by omega
  have hq3 : ¬ 9223372036854775807 < n + 1 + 4 + 4 := by omega
  have hz' := big_size
  have hd : ((c.chain : Int) != 0) = true := by rw [bne_iff_ne]; omega
  have H : Hid (str (Sl.encKey c.key) ++ str (Oc.big 1 1) ++ str (Oc.big 4 c.chain) ++ str (Oc.big 4 c.long) = str (Sl.encC c)) := by
    show _ = _
    rw [str_append, str_append, str_append]; unfold Sl.encC; rw [if_pos h0]; simp
  unfold aggC
  have HK := Lib.hid (fun W => putKey_any c.key W)
  have HC := Lib.hid (fun W => four_at c.chain c.chain rfl hc W)
  have HL := Lib.hid (fun W => four_at c.long c.long rfl hl W)
  clear hc hl h0
  revert hz H HK HC HL hd
  generalize Sl.encKey c.key = ek
  generalize Sl.encC c = ekk
  generalize c.key = key
  generalize c.val = val
  generalize c.chain = chain
  generalize c.long = long
  intro hz hd H HK HC HL
  have HO := Lib.hid (fun W => one_at 1 1 rfl (by decide) W)
  go_enter Tryz.func84, Tryz.ntmps84
  go_wp2_with fail
  go_region_held3 (fun w' => w'.cell? ⟨w.heap.size, 0, none⟩ = some (.string (str key)) ∧ w'.cell? ⟨w.heap.size, 1, none⟩ = some (.string (str val)) ∧ w'.cell? ⟨w.heap.size, 2, none⟩ = some (.int .u32 chain) ∧ w'.cell? ⟨w.heap.size, 3, none⟩ = some (.int .u32 long) ∧ Below w.heap.size w w')
    ((first | assumption | exact InC.step ‹_› hb | exact InC.first _ _ _ _ _ _))
    (first
    | (go_at_call 127; refine (HK.out _).mono ?_; rintro e w1 ⟨rfl, hb⟩)
    | (go_at_call 112; refine (HO.out _).mono ?_; rintro e w1 ⟨rfl, hb⟩)
    | (go_at_call 128; with_reducible refine (HC.out _).mono ?_; rintro e w2 ⟨rfl, hb⟩)
    | (go_at_call 128; with_reducible refine (HL.out _).mono ?_; rintro e w2 ⟨rfl, hb⟩))
  rename_i hS
  obtain ⟨_, _, _, _, hB⟩ := hS
  go_wp2
  go_ret
  exact ⟨ret_string H.out, hB⟩
theorem putPlain_any (c : Cl) (h0 : c.chain = 0) (w : World) :
    Calls Tryz.prog 84 #[aggC c] w fun e w' => e = .returned (.string (str (Sl.encC c))) ∧ Below w.heap.size w w' := by
  obtain ⟨n, hz, hn⟩ : ∃ n, (str (Sl.encKey c.key)).size = n ∧ n ≤ 256 := ⟨_, rfl, by rw [str_size, Sl.encKey_len]; omega⟩
  have hz' := big_size
  have hlen : (c.val.take 65535).length < 65536 := by rw [List.length_take]; omega
  have hmin : (c.val.take 65535).length = min c.val.length 65535 := by rw [List.length_take, Nat.min_comm]
  have H : Hid (str (Sl.encKey c.key) ++ str (Oc.big 1 0) ++ str (Oc.big 2 (c.val.take 65535).length) ++ str (c.val.take 65535) = str (Sl.encC c)) := by
    show _ = _
    rw [str_append, str_append, str_append]; unfold Sl.encC; rw [if_neg (by omega), hmin]; simp
  unfold aggC
  have HK := Lib.hid (fun W => putKey_any c.key W)
  have HV := Lib.hid (fun W => first_any c.val 65535 W)
  clear hmin
  rw [h0]
  clear h0
  revert hz hlen H HK HV
  generalize Sl.encKey c.key = ek
  generalize Sl.encC c = ekk
  generalize c.val.take 65535 = v
  generalize c.key = key
  generalize c.val = val
  generalize c.long = long
  intro hz hlen H HK HV
  have hv := str_size v
  have HO := Lib.hid (fun W => one_at 0 0 rfl (by decide) W)
  go_enter Tryz.func84, Tryz.ntmps84
  go_wp2_with (first
    | (go_at_call 129; refine (HV.out _).mono ?_; rintro e w1 ⟨rfl, rfl⟩)
    | (go_at_call 127; refine (HK.out _).mono ?_; rintro e w2 ⟨rfl, hb2⟩)
    | (go_at_call 112; refine (HO.out _).mono ?_; rintro e w3 ⟨rfl, hb3⟩)
    | (go_at_call 93; refine (two_at _ v.length (by first | omega | (rw [IntKind.wrap_u16]; omega)) hlen _).mono ?_; rintro e w4 ⟨rfl, hb4⟩))
  go_ret
  exact ⟨ret_string H.out, below_step (below_step (below_step ((Below.refl _ _).alloc (Nat.le_refl _) _) hb2) hb3) hb4⟩
theorem putCell_any (c : Cl) (hc : c.chain < 4294967296) (hl : c.long < 4294967296) (w : World) :
    Calls Tryz.prog 84 #[aggC c] w fun e w' => e = .returned (.string (str (Sl.encC c))) ∧ Below w.heap.size w w' := by
  by_cases h0 : c.chain = 0
  · exact putPlain_any c h0 w
  · exact putChained_any c h0 hc hl w
theorem keyC_any (c : Cl) (w : World) :
    Calls Tryz.prog 86 #[aggC c] w fun e w' => e = .returned (.string (str c.key)) ∧ Below w.heap.size w w' := by
  unfold aggC
  go_enter Tryz.func86, Tryz.ntmps86
  go_wp2
  go_ret
  exact ⟨rfl, (Below.refl _ _).alloc (Nat.le_refl _) _⟩
theorem keyK_any (k : Kd) (w : World) :
    Calls Tryz.prog 170 #[aggK k] w fun e w' => e = .returned (.string (str k.key)) ∧ Below w.heap.size w w' := by
  unfold aggK
  go_enter Tryz.func170, Tryz.ntmps170
  go_wp2
  go_ret
  exact ⟨rfl, (Below.refl _ _).alloc (Nat.le_refl _) _⟩
theorem room_any (c : Cl) (w : World) :
    Calls Tryz.prog 88 #[aggC c] w fun e w' => e = .returned (.int .i64 (if c.chain ≠ 0 then 0 else 400 : Nat)) ∧ Below w.heap.size w w' := by
  by_cases h0 : c.chain = 0
  · rw [if_neg (by omega)]
    unfold aggC
    rw [h0]
    go_enter Tryz.func88, Tryz.ntmps88
    go_wp2
    go_ret
    exact ⟨rfl, (Below.refl _ _).alloc (Nat.le_refl _) _⟩
  · rw [if_pos h0]
    have hd : ((c.chain : Int) != 0) = true := by rw [bne_iff_ne]; omega
    unfold aggC
    go_enter Tryz.func88, Tryz.ntmps88
    go_wp2
    go_ret
    exact ⟨rfl, (Below.refl _ _).alloc (Nat.le_refl _) _⟩
theorem fitsC_any (c : Cl) (w : World) :
    Calls Tryz.prog 87 #[aggC c] w fun e w' => e = .returned (.bool (Sl.fitsC c)) ∧ Below w.heap.size w w' := by
  have HR := Lib.hid (fun W => room_any c W)
  have H : Hid (decide (c.val.length ≤ (if c.chain ≠ 0 then 0 else 400 : Nat)) = Sl.fitsC c) := rfl
  revert HR H
  generalize (if c.chain ≠ 0 then 0 else 400 : Nat) = r
  generalize Sl.fitsC c = fc
  intro HR H
  unfold aggC at HR ⊢
  have hs : ∀ l, (str l).size = l.length := str_size
  go_enter Tryz.func87, Tryz.ntmps87
  go_wp2_with fail
  go_region_held3 (fun w' => w'.cell? ⟨w.heap.size, 0, none⟩ = some (.string (str c.key)) ∧ w'.cell? ⟨w.heap.size, 1, none⟩ = some (.string (str c.val)) ∧ w'.cell? ⟨w.heap.size, 2, none⟩ = some (.int .u32 c.chain) ∧ w'.cell? ⟨w.heap.size, 3, none⟩ = some (.int .u32 c.long) ∧ Below w.heap.size w w')
    ((first | assumption | exact InC.step ‹_› hb | exact InC.first _ _ _ _ _ _))
    (first
    | (go_at_call 88; refine (HR.out _).mono ?_; rintro e w1 ⟨rfl, hb⟩))
  rename_i hS
  obtain ⟨_, _, _, _, hB⟩ := hS
  go_wp2
  go_ret
  exact ⟨congrArg (fun b => Ending.returned (.bool b)) H.out, hB⟩
def shpC : Value := .agg #[.func (.func 84) #[] #[], .func (.func 85) #[] #[], .func (.func 86) #[] #[], .func (.func 87) #[] #[]]
def shpK : Value := .agg #[.func (.func 168) #[] #[], .func (.func 169) #[] #[], .func (.func 170) #[] #[], .nilFunc]
def cdcC : Value := .agg #[.func (.func 84) #[] #[], .func (.func 85) #[] #[]]
def cdcK : Value := .agg #[.func (.func 168) #[] #[], .func (.func 169) #[] #[]]
theorem leaves_any (w : World) : Calls Tryz.prog 55 #[] w fun e w' => e = .returned shpC ∧ Below w.heap.size w w' := by
  go_enter Tryz.func55, Tryz.ntmps55
  go_wp2
  refine bodyPost_ret_by (v := shpC) ?_ rfl ⟨rfl, (Below.refl _ _).alloc (Nat.le_refl _) _⟩
  simp [shpC, results, Tryz.results55, go_sem]
theorem kids_any (w : World) : Calls Tryz.prog 145 #[] w fun e w' => e = .returned shpK ∧ Below w.heap.size w w' := by
  go_enter Tryz.func145, Tryz.ntmps145
  go_wp2
  refine bodyPost_ret_by (v := shpK) ?_ rfl ⟨rfl, (Below.refl _ _).alloc (Nat.le_refl _) _⟩
  simp [shpK, results, Tryz.results145, go_sem]
theorem wholeC_any (w : World) : Calls Tryz.prog 89 #[shpC] w fun e w' => e = .returned (.bool true) ∧ Below w.heap.size w w' := by
  unfold shpC
  have h1 : ∀ f w, (binOp .neq 113 (.func (.func f) #[] #[]) .nilFunc).run Tryz.prog w = .ok (.bool true) w := fun f w => by kernel_rfl
  have h2 : ∀ f w, (binOp .neq 114 (.func (.func f) #[] #[]) .nilFunc).run Tryz.prog w = .ok (.bool true) w := fun f w => by kernel_rfl
  go_enter Tryz.func89, Tryz.ntmps89
  go_wp2
  go_ret
  exact ⟨rfl, (Below.refl _ _).alloc (Nat.le_refl _) _⟩
theorem wholeK_any (w : World) : Calls Tryz.prog 180 #[shpK] w fun e w' => e = .returned (.bool true) ∧ Below w.heap.size w w' := by
  unfold shpK
  have h1 : ∀ f w, (binOp .neq 209 (.func (.func f) #[] #[]) .nilFunc).run Tryz.prog w = .ok (.bool true) w := fun f w => by kernel_rfl
  have h2 : ∀ f w, (binOp .neq 210 (.func (.func f) #[] #[]) .nilFunc).run Tryz.prog w = .ok (.bool true) w := fun f w => by kernel_rfl
  go_enter Tryz.func180, Tryz.ntmps180
  go_wp2
  go_ret
  exact ⟨rfl, (Below.refl _ _).alloc (Nat.le_refl _) _⟩
theorem codecC_any (w : World) : Calls Tryz.prog 95 #[shpC] w fun e w' => e = .returned cdcC ∧ Below w.heap.size w w' := by
  unfold shpC
  go_enter Tryz.func95, Tryz.ntmps95
  go_wp2
  refine bodyPost_ret_by (v := cdcC) ?_ rfl ⟨rfl, below_step ((Below.refl _ _).alloc (Nat.le_refl _) _) ((Below.refl _ _).alloc (Nat.le_refl _) _)⟩
  simp [cdcC, results, Tryz.results95, go_sem]
theorem codecK_any (w : World) : Calls Tryz.prog 181 #[shpK] w fun e w' => e = .returned cdcK ∧ Below w.heap.size w w' := by
  unfold shpK
  go_enter Tryz.func181, Tryz.ntmps181
  go_wp2
  refine bodyPost_ret_by (v := cdcK) ?_ rfl ⟨rfl, below_step ((Below.refl _ _).alloc (Nat.le_refl _) _) ((Below.refl _ _).alloc (Nat.le_refl _) _)⟩
  simp [cdcK, results, Tryz.results181, go_sem]
end Go.Proofs.YtdgcdekgleegbaaGreat
/- The contracts of a leaf's cell: its bytes and its key by the codec's and the shape's calls, its size. -/
namespace Go.Proofs.YtdgcdekgleegbaaGreat
open Go.RowKit
open Sl (Cl Kd)
theorem idleBytesC (p : Addr) (w : World) :
    CallsD Tryz.prog 139 #[.pointer (some p)] .returning w fun e u' w' => e = .returned (.tuple #[]) ∧ u' = .returning ∧ w' = w := by
  refine callsD_of_wpS Tryz.func139 rfl fun c₀ cs hu => ?_
  apply wpS_seq
  apply wpS_region
  simp [wpOpsS, go_sem, recoverD, hu, Tryz.ntmps139, Exit.thenS]
  refine wpS_cond (t := false) (by simp [Act.eval, Array.replicate]) ?_
  simp only [Bool.false_eq_true, if_false]
  refine wpS_of_wp (wp_skip ?_)
  cases c₀
  simp_all [bodyPostS, results, Tryz.results139]
theorem idleKeyC (p : Addr) (w : World) :
    CallsD Tryz.prog 154 #[.pointer (some p)] .returning w fun e u' w' => e = .returned (.tuple #[]) ∧ u' = .returning ∧ w' = w := by
  refine callsD_of_wpS Tryz.func154 rfl fun c₀ cs hu => ?_
  apply wpS_seq
  apply wpS_region
  simp [wpOpsS, go_sem, recoverD, hu, Tryz.ntmps154, Exit.thenS]
  refine wpS_cond (t := false) (by simp [Act.eval, Array.replicate]) ?_
  simp only [Bool.false_eq_true, if_false]
  refine wpS_of_wp (wp_skip ?_)
  cases c₀
  simp_all [bodyPostS, results, Tryz.results154]
theorem lt3 (w : World) (o1 o2 o3 : Obj) : w.heap.size + 1 + 1 < (((w.alloc o1).alloc o2).alloc o3).heap.size := by simp
theorem size2 (w : World) (o1 o2 : Obj) : ((w.alloc o1).alloc o2).heap.size = w.heap.size + 1 + 1 := by simp
theorem cell3 (w : World) (o1 o2 : Obj) (x : Value) (T : TypeId) : (((w.alloc o1).alloc o2).alloc (.cells #[x] T)).cell? ⟨w.heap.size + 1 + 1, 0, none⟩ = some x := by
  have := World.cell?_alloc_new ((w.alloc o1).alloc o2) #[x] T 0
  rw [size2] at this
  exact this
theorem below3 (w : World) (o1 o2 o3 : Obj) : Below w.heap.size w (((w.alloc o1).alloc o2).alloc o3) :=
  below_step (below_step ((Below.refl _ _).alloc (Nat.le_refl _) _) ((Below.refl _ _).alloc (Nat.le_refl _) _)) ((Below.refl _ _).alloc (Nat.le_refl _) _)
theorem bytesC_any (x : Cl) (hc : x.chain < 4294967296) (hl : x.long < 4294967296) (w : World) :
    Calls Tryz.prog 96 #[cdcC, aggC x] w fun e w' => e = .returned (.string (str (Sl.shC.enc x))) ∧ Below w.heap.size w w' := by
  have hmf : ∀ (fn : Fn) (first cap : Array Value) (w : World), (Instr.makeFunc fn first cap).run Tryz.prog w = .ok (.func fn first cap) w := fun _ _ _ _ => rfl
  have heq : ∀ w, (binOp .eql 113 (.func (.func 84) #[] #[]) .nilFunc).run Tryz.prog w = .ok (.bool false) w := fun w => by kernel_rfl
  have HP : Hid (∀ W, Calls Tryz.prog 84 #[aggC x] W fun e w' => e = .returned (.string (str (Sl.shC.enc x))) ∧ Below W.heap.size W w') := fun W => putCell_any x hc hl W
  generalize Sl.shC.enc x = ex at HP ⊢
  unfold aggC at HP ⊢
  unfold cdcC
  go_enter_defers Tryz.func96, Tryz.ntmps96
  go_wp2_with (go_at_call 84; refine (HP.out _).mono ?_; rintro e w1 ⟨rfl, hb⟩; have hc := hb.cell (p := ⟨w.heap.size + 1 + 1, 0, none⟩) (lt3 w _ _ _); have hz := hb.frozen (p := ⟨w.heap.size + 1 + 1, 0, none⟩) (lt3 w _ _ _))
  have hcs : (w1.setCell ⟨w.heap.size + 1 + 1, 0, none⟩ (.string (str ex))).cell? ⟨w.heap.size + 1 + 1, 0, none⟩ = some (.string (str ex)) := World.cell?_setCell_same _ _ _ (u := .string ⟨#[]⟩) (hc.trans (cell3 w _ _ _ 9))
  refine leaves_cons (f := 139) (args := #[.pointer (some ⟨w.heap.size + 1 + 1, 0, none⟩)]) (by simp) (by simp [go_sem]) ?_
  refine (idleBytesC ⟨w.heap.size + 1 + 1, 0, none⟩ _).mono ?_
  rintro e u' w'' ⟨rfl, rfl, rfl⟩
  simp [Leaves, settle, results, Tryz.results96, go_sem, hcs]
  exact below_step (below3 w _ _ _) hb |>.setCell (show w.heap.size ≤ w.heap.size + 1 + 1 by omega) _
theorem keyC2_any (x : Cl) (w : World) :
    Calls Tryz.prog 119 #[shpC, aggC x] w fun e w' => e = .returned (.string (str (Sl.shC.key x))) ∧ Below w.heap.size w w' := by
  have hmf : ∀ (fn : Fn) (first cap : Array Value) (w : World), (Instr.makeFunc fn first cap).run Tryz.prog w = .ok (.func fn first cap) w := fun _ _ _ _ => rfl
  have HP : Hid (∀ W, Calls Tryz.prog 86 #[aggC x] W fun e w' => e = .returned (.string (str (Sl.shC.key x))) ∧ Below W.heap.size W w') := fun W => keyC_any x W
  generalize Sl.shC.key x = ex at HP ⊢
  unfold aggC at HP ⊢
  unfold shpC
  go_enter_defers Tryz.func119, Tryz.ntmps119
  go_wp2_with (go_at_call 86; refine (HP.out _).mono ?_; rintro e w1 ⟨rfl, hb⟩; have hc := hb.cell (p := ⟨w.heap.size + 1 + 1, 0, none⟩) (lt3 w _ _ _); have hz := hb.frozen (p := ⟨w.heap.size + 1 + 1, 0, none⟩) (lt3 w _ _ _))
  have hcs : (w1.setCell ⟨w.heap.size + 1 + 1, 0, none⟩ (.string (str ex))).cell? ⟨w.heap.size + 1 + 1, 0, none⟩ = some (.string (str ex)) := World.cell?_setCell_same _ _ _ (u := .string ⟨#[]⟩) (hc.trans (cell3 w _ _ _ 9))
  refine leaves_cons (f := 154) (args := #[.pointer (some ⟨w.heap.size + 1 + 1, 0, none⟩)]) (by simp) (by simp [go_sem]) ?_
  refine (idleKeyC ⟨w.heap.size + 1 + 1, 0, none⟩ _).mono ?_
  rintro e u' w'' ⟨rfl, rfl, rfl⟩
  simp [Leaves, settle, results, Tryz.results119, go_sem, hcs]
  exact below_step (below3 w _ _ _) hb |>.setCell (show w.heap.size ≤ w.heap.size + 1 + 1 by omega) _
end Go.Proofs.YtdgcdekgleegbaaGreat
/- The contracts of a branch's cell: its bytes and its key by the codec's and the shape's calls, its size. -/
namespace Go.Proofs.YtdgcdekgleegbaaGreat
open Go.RowKit
open Sl (Cl Kd)
theorem idleBytesK (p : Addr) (w : World) :
    CallsD Tryz.prog 194 #[.pointer (some p)] .returning w fun e u' w' => e = .returned (.tuple #[]) ∧ u' = .returning ∧ w' = w := by
  refine callsD_of_wpS Tryz.func194 rfl fun c₀ cs hu => ?_
  apply wpS_seq
  apply wpS_region
  simp [wpOpsS, go_sem, recoverD, hu, Tryz.ntmps194, Exit.thenS]
  refine wpS_cond (t := false) (by simp [Act.eval, Array.replicate]) ?_
  simp only [Bool.false_eq_true, if_false]
  refine wpS_of_wp (wp_skip ?_)
  cases c₀
  simp_all [bodyPostS, results, Tryz.results194]
theorem idleKeyK (p : Addr) (w : World) :
    CallsD Tryz.prog 195 #[.pointer (some p)] .returning w fun e u' w' => e = .returned (.tuple #[]) ∧ u' = .returning ∧ w' = w := by
  refine callsD_of_wpS Tryz.func195 rfl fun c₀ cs hu => ?_
  apply wpS_seq
  apply wpS_region
  simp [wpOpsS, go_sem, recoverD, hu, Tryz.ntmps195, Exit.thenS]
  refine wpS_cond (t := false) (by simp [Act.eval, Array.replicate]) ?_
  simp only [Bool.false_eq_true, if_false]
  refine wpS_of_wp (wp_skip ?_)
  cases c₀
  simp_all [bodyPostS, results, Tryz.results195]

theorem bytesK_any (x : Kd) (hc : x.page < 4294967296) (w : World) :
    Calls Tryz.prog 182 #[cdcK, aggK x] w fun e w' => e = .returned (.string (str (Sl.shK.enc x))) ∧ Below w.heap.size w w' := by
  have hmf : ∀ (fn : Fn) (first cap : Array Value) (w : World), (Instr.makeFunc fn first cap).run Tryz.prog w = .ok (.func fn first cap) w := fun _ _ _ _ => rfl
  have heq : ∀ w, (binOp .eql 209 (.func (.func 168) #[] #[]) .nilFunc).run Tryz.prog w = .ok (.bool false) w := fun w => by kernel_rfl
  have HP : Hid (∀ W, Calls Tryz.prog 168 #[aggK x] W fun e w' => e = .returned (.string (str (Sl.shK.enc x))) ∧ Below W.heap.size W w') := fun W => putKid_any x hc W
  generalize Sl.shK.enc x = ex at HP ⊢
  unfold aggK at HP ⊢
  unfold cdcK
  go_enter_defers Tryz.func182, Tryz.ntmps182
  go_wp2_with (go_at_call 168; refine (HP.out _).mono ?_; rintro e w1 ⟨rfl, hb⟩; have hc := hb.cell (p := ⟨w.heap.size + 1 + 1, 0, none⟩) (lt3 w _ _ _); have hz := hb.frozen (p := ⟨w.heap.size + 1 + 1, 0, none⟩) (lt3 w _ _ _))
  have hcs : (w1.setCell ⟨w.heap.size + 1 + 1, 0, none⟩ (.string (str ex))).cell? ⟨w.heap.size + 1 + 1, 0, none⟩ = some (.string (str ex)) := World.cell?_setCell_same _ _ _ (u := .string ⟨#[]⟩) (hc.trans (cell3 w _ _ _ 9))
  refine leaves_cons (f := 194) (args := #[.pointer (some ⟨w.heap.size + 1 + 1, 0, none⟩)]) (by simp) (by simp [go_sem]) ?_
  refine (idleBytesK ⟨w.heap.size + 1 + 1, 0, none⟩ _).mono ?_
  rintro e u' w'' ⟨rfl, rfl, rfl⟩
  simp [Leaves, settle, results, Tryz.results182, go_sem, hcs]
  exact below_step (below3 w _ _ _) hb |>.setCell (show w.heap.size ≤ w.heap.size + 1 + 1 by omega) _
theorem keyK2_any (x : Kd) (w : World) :
    Calls Tryz.prog 185 #[shpK, aggK x] w fun e w' => e = .returned (.string (str (Sl.shK.key x))) ∧ Below w.heap.size w w' := by
  have hmf : ∀ (fn : Fn) (first cap : Array Value) (w : World), (Instr.makeFunc fn first cap).run Tryz.prog w = .ok (.func fn first cap) w := fun _ _ _ _ => rfl
  have HP : Hid (∀ W, Calls Tryz.prog 170 #[aggK x] W fun e w' => e = .returned (.string (str (Sl.shK.key x))) ∧ Below W.heap.size W w') := fun W => keyK_any x W
  generalize Sl.shK.key x = ex at HP ⊢
  unfold aggK at HP ⊢
  unfold shpK
  go_enter_defers Tryz.func185, Tryz.ntmps185
  go_wp2_with (go_at_call 170; refine (HP.out _).mono ?_; rintro e w1 ⟨rfl, hb⟩; have hc := hb.cell (p := ⟨w.heap.size + 1 + 1, 0, none⟩) (lt3 w _ _ _); have hz := hb.frozen (p := ⟨w.heap.size + 1 + 1, 0, none⟩) (lt3 w _ _ _))
  have hcs : (w1.setCell ⟨w.heap.size + 1 + 1, 0, none⟩ (.string (str ex))).cell? ⟨w.heap.size + 1 + 1, 0, none⟩ = some (.string (str ex)) := World.cell?_setCell_same _ _ _ (u := .string ⟨#[]⟩) (hc.trans (cell3 w _ _ _ 9))
  refine leaves_cons (f := 195) (args := #[.pointer (some ⟨w.heap.size + 1 + 1, 0, none⟩)]) (by simp) (by simp [go_sem]) ?_
  refine (idleKeyK ⟨w.heap.size + 1 + 1, 0, none⟩ _).mono ?_
  rintro e u' w'' ⟨rfl, rfl, rfl⟩
  simp [Leaves, settle, results, Tryz.results185, go_sem, hcs]
  exact below_step (below3 w _ _ _) hb |>.setCell (show w.heap.size ≤ w.heap.size + 1 + 1 by omega) _
end Go.Proofs.YtdgcdekgleegbaaGreat
/- Rows of a leaf's cells in memory; the contracts of Size and Sum. -/
namespace Go.Proofs.YtdgcdekgleegbaaGreat
open Go.RowKit
open Sl (Cl Kd)
def okC (x : Cl) : Prop := x.chain < 4294967296 ∧ x.long < 4294967296
def SlC (w : World) (v : Value) (l : List Cl) : Prop :=
  ∃ (a : Option Addr) (b o c : Nat), v = .slice a l.length c ∧ (l = [] ∨ a = some ⟨b, o, none⟩) ∧
    ∀ (j : Nat) x, l[j]? = some x → w.cell? ⟨b, o + j * 4, none⟩ = some (.string (str x.key)) ∧ w.cell? ⟨b, o + j * 4 + 1, none⟩ = some (.string (str x.val)) ∧ w.cell? ⟨b, o + j * 4 + 2, none⟩ = some (.int .u32 x.chain) ∧ w.cell? ⟨b, o + j * 4 + 3, none⟩ = some (.int .u32 x.long)
theorem SlC.below {w w' : World} {v : Value} {l : List Cl} (h : SlC w v l) (hb : Below w.heap.size w w') : SlC w' v l := by
  obtain ⟨a, b, o, c, hv, ha, hx⟩ := h
  refine ⟨a, b, o, c, hv, ha, fun j p hj => ?_⟩
  obtain ⟨h0, h1, h2, h3⟩ := hx j p hj
  have hlt := World.block_lt_of_cell? _ _ h0
  exact ⟨(hb.cell (p := ⟨b, o + j * 4, none⟩) hlt).trans h0, (hb.cell (p := ⟨b, o + j * 4 + 1, none⟩) hlt).trans h1, (hb.cell (p := ⟨b, o + j * 4 + 2, none⟩) hlt).trans h2, (hb.cell (p := ⟨b, o + j * 4 + 3, none⟩) hlt).trans h3⟩
theorem bytesC_ok (x : Cl) (hx : okC x) (w : World) : Calls Tryz.prog 96 #[cdcC, aggC x] w fun e w' => e = .returned (.string (str (Sl.shC.enc x))) ∧ Below w.heap.size w w' := bytesC_any x hx.1 hx.2 w
theorem In2C.step {w w1 w2 : World} {g h : Nat} {x0 x1 x2 x3 y0 y1 y2 y3 : Value} (H : w1.cell? ⟨g, 0, none⟩ = some x0 ∧ w1.cell? ⟨g, 1, none⟩ = some x1 ∧ w1.cell? ⟨g, 2, none⟩ = some x2 ∧ w1.cell? ⟨g, 3, none⟩ = some x3 ∧ w1.cell? ⟨h, 0, none⟩ = some y0 ∧ w1.cell? ⟨h, 1, none⟩ = some y1 ∧ w1.cell? ⟨h, 2, none⟩ = some y2 ∧ w1.cell? ⟨h, 3, none⟩ = some y3 ∧ Below g w w1) (hb : Below w1.heap.size w1 w2) : w2.cell? ⟨g, 0, none⟩ = some x0 ∧ w2.cell? ⟨g, 1, none⟩ = some x1 ∧ w2.cell? ⟨g, 2, none⟩ = some x2 ∧ w2.cell? ⟨g, 3, none⟩ = some x3 ∧ w2.cell? ⟨h, 0, none⟩ = some y0 ∧ w2.cell? ⟨h, 1, none⟩ = some y1 ∧ w2.cell? ⟨h, 2, none⟩ = some y2 ∧ w2.cell? ⟨h, 3, none⟩ = some y3 ∧ Below g w w2 := by
  obtain ⟨h0, h1, h2, h3, k0, k1, k2, k3, hB⟩ := H
  have hg := World.block_lt_of_cell? _ _ h0
  have hh := World.block_lt_of_cell? _ _ k0
  exact ⟨(hb.cell (p := ⟨g, 0, none⟩) hg).trans h0, (hb.cell (p := ⟨g, 1, none⟩) hg).trans h1, (hb.cell (p := ⟨g, 2, none⟩) hg).trans h2, (hb.cell (p := ⟨g, 3, none⟩) hg).trans h3, (hb.cell (p := ⟨h, 0, none⟩) hh).trans k0, (hb.cell (p := ⟨h, 1, none⟩) hh).trans k1, (hb.cell (p := ⟨h, 2, none⟩) hh).trans k2, (hb.cell (p := ⟨h, 3, none⟩) hh).trans k3, hB.trans (hb.mono (Nat.le_of_lt hg))⟩
theorem In2C.first {w w1 : World} {x0 x1 x2 x3 y0 y1 y2 y3 : Value} {T U : TypeId} (hb : Below ((w.alloc (.cells #[x0, x1, x2, x3] T)).alloc (.cells #[y0, y1, y2, y3] U)).heap.size ((w.alloc (.cells #[x0, x1, x2, x3] T)).alloc (.cells #[y0, y1, y2, y3] U)) w1) : w1.drew.cell? ⟨w.heap.size, 0, none⟩ = some x0 ∧ w1.drew.cell? ⟨w.heap.size, 1, none⟩ = some x1 ∧ w1.drew.cell? ⟨w.heap.size, 2, none⟩ = some x2 ∧ w1.drew.cell? ⟨w.heap.size, 3, none⟩ = some x3 ∧ w1.drew.cell? ⟨w.heap.size + 1, 0, none⟩ = some y0 ∧ w1.drew.cell? ⟨w.heap.size + 1, 1, none⟩ = some y1 ∧ w1.drew.cell? ⟨w.heap.size + 1, 2, none⟩ = some y2 ∧ w1.drew.cell? ⟨w.heap.size + 1, 3, none⟩ = some y3 ∧ Below w.heap.size w w1.drew := by
  have hz := size2 w (.cells #[x0, x1, x2, x3] T) (.cells #[y0, y1, y2, y3] U)
  rw [hz] at hb
  have hB : Below w.heap.size w w1 := ((((Below.refl _ _).alloc (Nat.le_refl _) (.cells #[x0, x1, x2, x3] T)).alloc (by simp) (.cells #[y0, y1, y2, y3] U))).trans (hb.mono (by omega))
  refine ⟨?_, ?_, ?_, ?_, ?_, ?_, ?_, ?_, hB.drew⟩
  · exact (hb.cell (p := ⟨w.heap.size, 0, none⟩) (by show w.heap.size < _; omega)).trans (by simp)
  · exact (hb.cell (p := ⟨w.heap.size, 1, none⟩) (by show w.heap.size < _; omega)).trans (by simp)
  · exact (hb.cell (p := ⟨w.heap.size, 2, none⟩) (by show w.heap.size < _; omega)).trans (by simp)
  · exact (hb.cell (p := ⟨w.heap.size, 3, none⟩) (by show w.heap.size < _; omega)).trans (by simp)
  · exact (hb.cell (p := ⟨w.heap.size + 1, 0, none⟩) (by show w.heap.size + 1 < _; omega)).trans (by have := World.cell?_alloc_new (w.alloc (.cells #[x0, x1, x2, x3] T)) #[y0, y1, y2, y3] U 0; rw [show (w.alloc (.cells #[x0, x1, x2, x3] T)).heap.size = w.heap.size + 1 by simp] at this; exact this)
  · exact (hb.cell (p := ⟨w.heap.size + 1, 1, none⟩) (by show w.heap.size + 1 < _; omega)).trans (by have := World.cell?_alloc_new (w.alloc (.cells #[x0, x1, x2, x3] T)) #[y0, y1, y2, y3] U 1; rw [show (w.alloc (.cells #[x0, x1, x2, x3] T)).heap.size = w.heap.size + 1 by simp] at this; exact this)
  · exact (hb.cell (p := ⟨w.heap.size + 1, 2, none⟩) (by show w.heap.size + 1 < _; omega)).trans (by have := World.cell?_alloc_new (w.alloc (.cells #[x0, x1, x2, x3] T)) #[y0, y1, y2, y3] U 2; rw [show (w.alloc (.cells #[x0, x1, x2, x3] T)).heap.size = w.heap.size + 1 by simp] at this; exact this)
  · exact (hb.cell (p := ⟨w.heap.size + 1, 3, none⟩) (by show w.heap.size + 1 < _; omega)).trans (by have := World.cell?_alloc_new (w.alloc (.cells #[x0, x1, x2, x3] T)) #[y0, y1, y2, y3] U 3; rw [show (w.alloc (.cells #[x0, x1, x2, x3] T)).heap.size = w.heap.size + 1 by simp] at this; exact this)
theorem sizeC_any (x : Cl) (hx : okC x) (w : World) :
    Calls Tryz.prog 137 #[shpC, aggC x] w fun e w' => e = .returned (.int .i64 (2 + (Sl.shC.enc x).length : Nat)) ∧ Below w.heap.size w w' := by
  have HB := Lib.hid (fun W => bytesC_ok x hx W)
  have HC := Lib.hid (fun W => codecC_any W)
  have HW := Lib.hid (fun W => wholeC_any W)
  have hlen : (Sl.shC.enc x).length ≤ 65794 := Sl.encC_len x
  have hs := str_size (Sl.shC.enc x)
  revert HB hlen hs
  generalize Sl.shC.enc x = ex
  intro HB hlen hs
  generalize hn : ex.length = n at *
  have HN := Lib.hid hn
  clear hn
  have hadd : (2 : Int) + n ≤ 9223372036854775807 := by omega
  have hwr : IntKind.i64.wrap (2 + (n : Int)) = 2 + n := IntWalk.i64_in _ (by omega)
  unfold cdcC at HB HC
  unfold shpC at HC HW ⊢
  unfold aggC at HB ⊢
  go_enter Tryz.func137, Tryz.ntmps137
  go_wp2_with (go_at_call 89; refine (HW.out _).mono ?_; rintro e w1 ⟨rfl, hb1⟩; have hF := Lib.hid (In2C.first hb1))
  go_region_held3 (fun w' => w'.cell? ⟨w.heap.size, 0, none⟩ = some (.func (.func 84) #[] #[]) ∧ w'.cell? ⟨w.heap.size, 1, none⟩ = some (.func (.func 85) #[] #[]) ∧ w'.cell? ⟨w.heap.size, 2, none⟩ = some (.func (.func 86) #[] #[]) ∧ w'.cell? ⟨w.heap.size, 3, none⟩ = some (.func (.func 87) #[] #[]) ∧ w'.cell? ⟨w.heap.size + 1, 0, none⟩ = some (.string (str x.key)) ∧ w'.cell? ⟨w.heap.size + 1, 1, none⟩ = some (.string (str x.val)) ∧ w'.cell? ⟨w.heap.size + 1, 2, none⟩ = some (.int .u32 x.chain) ∧ w'.cell? ⟨w.heap.size + 1, 3, none⟩ = some (.int .u32 x.long) ∧ Below w.heap.size w w')
    ((first | assumption | exact In2C.step ‹_› hb | exact hF.out))
    (first
    | (go_at_call 95; refine (HC.out _).mono ?_; rintro e w2 ⟨rfl, hb⟩)
    | (go_at_call 96; refine (HB.out _).mono ?_; rintro e w2 ⟨rfl, hb⟩))
  rename_i hS
  have hB := hS.2.2.2.2.2.2.2.2
  go_wp2
  go_ret
  exact ⟨ret_int (by omega), hB⟩
theorem box4C (w : World) (x0 x1 x2 x3 : Value) (T : TypeId) : (w.alloc (.cells #[x0, x1, x2, x3] T)).cell? ⟨w.heap.size, 0, none⟩ = some x0 ∧ (w.alloc (.cells #[x0, x1, x2, x3] T)).cell? ⟨w.heap.size, 1, none⟩ = some x1 ∧ (w.alloc (.cells #[x0, x1, x2, x3] T)).cell? ⟨w.heap.size, 2, none⟩ = some x2 ∧ (w.alloc (.cells #[x0, x1, x2, x3] T)).cell? ⟨w.heap.size, 3, none⟩ = some x3 :=
  ⟨by simp, by simp, by simp, by simp⟩
/-- The shape's box. -/
structure BxC (w : World) (g : Nat) : Prop where
  c0 : w.cell? ⟨g, 0, none⟩ = some (.func (.func 84) #[] #[])
  c1 : w.cell? ⟨g, 1, none⟩ = some (.func (.func 85) #[] #[])
  c2 : w.cell? ⟨g, 2, none⟩ = some (.func (.func 86) #[] #[])
  c3 : w.cell? ⟨g, 3, none⟩ = some (.func (.func 87) #[] #[])
theorem BxC.lt {w : World} {g : Nat} (h : BxC w g) : g < w.heap.size := World.block_lt_of_cell? _ _ h.c0
theorem BxC.below {w w' : World} {g B : Nat} (h : BxC w g) (hb : Below B w w') (hg : g < B) : BxC w' g :=
  ⟨(hb.cell (p := ⟨g, 0, none⟩) hg).trans h.c0, (hb.cell (p := ⟨g, 1, none⟩) hg).trans h.c1, (hb.cell (p := ⟨g, 2, none⟩) hg).trans h.c2, (hb.cell (p := ⟨g, 3, none⟩) hg).trans h.c3⟩
theorem BxC.new (w : World) : BxC (w.alloc (.cells #[.func (.func 84) #[] #[], .func (.func 85) #[] #[], .func (.func 86) #[] #[], .func (.func 87) #[] #[]] 117)) w.heap.size := ⟨by simp, by simp, by simp, by simp⟩
theorem BxC.alloc {w : World} {g : Nat} (h : BxC w g) (o : Obj) : BxC (w.alloc o) g := h.below ((Below.refl _ _).alloc (Nat.le_refl _) _) h.lt
theorem take_some {α : Type} (l : List α) (k : Nat) (h : k < l.length) : ∃ x, l[k]? = some x := ⟨_, List.getElem?_eq_getElem h⟩
theorem encC_le (l : List Cl) (k : Nat) (h : l.length ≤ 100000) : Sl.sum Sl.shC (l.take k) ≤ 6579600000 := by
  have h1 := Sl.sum_take Sl.shC l k
  have h2 := Sl.sum_le Sl.shC 65794 (fun x => Sl.encC_len x) l
  omega
set_option maxHeartbeats 1000000 in
set_option maxRecDepth 100000 in
theorem sumC_any (v : Value) (l : List Cl) (hll : l.length ≤ 100000) (hl : ∀ x ∈ l, okC x) (w : World) (hv : SlC w v l) :
    Calls Tryz.prog 91 #[shpC, v] w fun e w' => e = .returned (.int .i64 (Sl.sum Sl.shC l : Nat)) ∧ Below w.heap.size w w' := by
  have HL := Lib.hid hl
  have HV := Lib.hid hv
  obtain ⟨a, b, o, c, rfl, ha, hx⟩ := hv
  have HX := Lib.hid hx
  have HA := Lib.hid ha
  clear hl ha hx
  unfold shpC
  have HB0 := Lib.hid (BxC.new w)
  go_enter Tryz.func91, Tryz.ntmps91
  go_wp2
  have HW0 : Hid (Below w.heap.size w (w.alloc (.cells #[.func (.func 84) #[] #[], .func (.func 85) #[] #[], .func (.func 86) #[] #[], .func (.func 87) #[] #[]] 117))) := (Below.refl _ _).alloc (Nat.le_refl _) _
  revert HB0 HW0
  generalize (w.alloc (.cells #[.func (.func 84) #[] #[], .func (.func 85) #[] #[], .func (.func 86) #[] #[], .func (.func 87) #[] #[]] 117)) = w2
  generalize hg : w.heap.size = g
  have HG := Lib.hid hg
  clear hg
  intro HB0 HW0
  go_loopg [5, 10] l.length (fun n s i wr => ∃ k m : Nat, k ≤ l.length ∧ n = l.length - k ∧ i = .int .i64 k ∧ s = .int .i64 m ∧ Hid (m = Sl.sum Sl.shC (l.take k)) ∧ Hid (Below (g + 1) w2 wr))
  case atStart => exact ⟨0, 0, Nat.zero_le _, rfl, rfl, rfl, rfl, Below.refl _ _⟩
  case round =>
    obtain ⟨k, m, hk, rfl, rfl, rfl, HM, HB⟩ := hrel
    have hm : m ≤ 6579600000 := by rw [HM.out]; exact encC_le l k hll
    by_cases hlt : k < l.length
    · obtain ⟨x, hx⟩ := take_some l k hlt
      obtain ⟨e0, e1, e2, e3⟩ := HX.out k x hx
      have hblt : b < g := by have h1 := World.block_lt_of_cell? _ _ e0; rw [HG.out] at h1; exact h1
      have HWr := Lib.hid (HW0.out.trans (HB.out.mono (Nat.le_succ g)))
      have d0 := (HWr.out.cell (p := ⟨b, o + k * 4, none⟩) hblt).trans e0
      have d1 := (HWr.out.cell (p := ⟨b, o + k * 4 + 1, none⟩) hblt).trans e1
      have d2 := (HWr.out.cell (p := ⟨b, o + k * 4 + 2, none⟩) hblt).trans e2
      have d3 := (HWr.out.cell (p := ⟨b, o + k * 4 + 3, none⟩) hblt).trans e3
      have HR := Lib.hid (HB0.out.below HB.out (Nat.lt_succ_self g))
      have q0 := fun o1 => (HR.out.alloc o1).c0
      have q1 := fun o1 => (HR.out.alloc o1).c1
      have q2 := fun o1 => (HR.out.alloc o1).c2
      have q3 := fun o1 => (HR.out.alloc o1).c3
      obtain rfl : a = some ⟨b, o, none⟩ := by
        rcases HA.out with h | h
        · rw [h] at hlt; cases hlt
        · exact h
      have HS := Lib.hid ((congrArg (Sl.sum Sl.shC) (Sl.take_snoc' l k x hx)).trans (Sl.sum_snoc Sl.shC (l.take k) x))
      have HZ := Lib.hid (fun W => sizeC_any x (HL.out x (List.mem_of_getElem? hx)) W)
      have hz : (Sl.shC.enc x).length ≤ 65794 := Sl.encC_len x
      clear e0 e1 e2 e3 hx
      revert HS HZ hz
      generalize (Sl.shC.enc x).length = z
      intro HS HZ hz
      unfold shpC aggC at HZ
      go_wp2_with (go_at_call 137; refine (HZ.out _).mono ?_; rintro e w4 ⟨rfl, hb4⟩)
      have HB4 : Hid (Below (g + 1) w2 w4) := (HB.out.alloc (by have := HR.out.lt; omega) _).trans (hb4.mono (by have := HR.out.lt; simp; omega))
      clear hb4
      go_roundg (l.length - (k + 1))
      case measure => omega
      case rel => exact ⟨k + 1, m + (2 + z), by omega, rfl, by go_num, val_i64 (by omega), (by show _ = _; rw [HS.out, ← HM.out]), HB4⟩
    · obtain rfl : k = l.length := by omega
      rw [List.take_length] at HM
      go_wp2
      go_ret
      refine ⟨ret_int (by rw [HM.out]), ?_⟩
      rw [HG.out]
      exact HW0.out.trans (HB.out.mono (Nat.le_succ g))
end Go.Proofs.YtdgcdekgleegbaaGreat
