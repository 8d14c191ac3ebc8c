/- Texts of one seat, merged. -/
import Derived.Test.YtpkoehnjladpoaaE02
import Derived.Laws.EntriesVeiled
import Derived.BigQuiet
import Derived.Deep.QuietTactic
import Derived.Deep.RegionHeld3
import Derived.Defers
import Derived.Recover
set_option maxRecDepth 100000
set_option maxHeartbeats 4000000
set_option linter.unusedVariables false
/- The contracts of what lays one cell: first, putKey, putCell, and a shape's own functions. -/
namespace Go.Proofs.Ytpkoehnjladpoaa
open Go.RowKit
open Sl (Cl Kd)
theorem below_step {a b c : World} (h : Below a.heap.size a b) (k : Below b.heap.size b c) : Below a.heap.size a c := h.trans (k.mono h.size)
theorem below_off {w w1 : World} {o : Obj} (h : Below (w.alloc o).drew.heap.size (w.alloc o).drew w1) : Below w.heap.size w w1 :=
  (((Below.refl _ _).alloc (Nat.le_refl _) o).drew).trans (h.mono (by show w.heap.size ≤ (w.alloc o).heap.size; simp))
def aggC (c : Cl) : Value := .agg #[.string (str c.key), .string (str c.val), .int .u32 c.chain, .int .u32 c.long]
def aggK (k : Kd) : Value := .agg #[.string (str k.key), .int .u32 k.page]
theorem str_take (l : List UInt8) (n : Nat) : (str l).extract 0 (min l.length n) = str (l.take n) := by
  apply ByteArray.ext
  simp [str, ByteArray.data_extract, List.extract_toArray]
  rw [Nat.min_comm]
theorem ext_full (s : ByteArray) : s.extract 0 s.size = s := by
  apply ByteArray.ext
  simp
theorem str_whole (l : List UInt8) : (str l).extract 0 l.length = str l := by
  have := str_take l l.length
  rw [Nat.min_self, List.take_length] at this
  exact this
theorem first_any (l : List UInt8) (n : Nat) (w : World) :
    Calls Try.prog 132 #[.string (str l), .int .i64 n] w fun e w' => e = .returned (.string (str (l.take n))) ∧ w = w' := by
  rw [← str_take]
  have hs := str_size l
  rw [← hs]
  clear hs
  generalize str l = s
  by_cases h : s.size ≤ n
  · have h1 : (s.size : Int) ≤ n := by omega
    rw [Nat.min_eq_left h, ext_full]
    go_enter Try.func132, Try.ntmps132
    go_wp2
    go_ret
    exact ⟨rfl, rfl⟩
  · have h1 : ¬ (s.size : Int) ≤ n := by omega
    rw [Nat.min_eq_right (by omega)]
    go_enter Try.func132, Try.ntmps132
    go_wp2
    go_ret
    exact ⟨rfl, rfl⟩
theorem putKey_any (k : List UInt8) (w : World) :
    Calls Try.prog 112 #[.string (str k)] w fun e w' => e = .returned (.string (str (Sl.encKey k))) ∧ Below w.heap.size w w' := by
  have hz := big_size
  have hl : (k.take 255).length < 256 := by rw [List.length_take]; omega
  have H : Hid (str (Oc.big 1 (k.take 255).length) ++ str (k.take 255) = str (Sl.encKey k)) := by
    show _ = _
    rw [str_append]; unfold Sl.encKey; rw [List.length_take, Nat.min_comm]
  revert hl H
  generalize hk : k.take 255 = t
  have HK := Lib.hid hk
  clear hk
  intro hl H
  have HF := Lib.hid (fun W => HK.out ▸ first_any k 255 W)
  have ht := str_size t
  go_enter Try.func112, Try.ntmps112
  go_wp2_with (first
    | (go_at_call 132; refine (HF.out _).mono ?_; rintro e w1 ⟨rfl, rfl⟩)
    | (go_at_call 127; refine (one_at _ t.length (by first | omega | (rw [IntKind.wrap_u8]; omega)) hl _).mono ?_; rintro e w2 ⟨rfl, hb⟩))
  go_ret
  exact ⟨ret_string H.out, hb⟩
theorem wrap16_le (x : Nat) (h : x < 65536) : IntKind.u16.wrap (x : Int) = x := by rw [IntKind.wrap_u16]; omega
/-- The fields of a boxed branch's cell, and that nothing else of old has turned. -/
def InK (w : World) (g : Nat) (x0 x1 : Value) (w' : World) : Prop :=
  w'.cell? ⟨g, 0, none⟩ = some x0 ∧ w'.cell? ⟨g, 1, none⟩ = some x1 ∧ Below g w w'
theorem InK.step {w w1 w2 : World} {g : Nat} {x0 x1 : Value} (h : w1.cell? ⟨g, 0, none⟩ = some x0 ∧ w1.cell? ⟨g, 1, none⟩ = some x1 ∧ Below g w w1) (hb : Below w1.heap.size w1 w2) :
    w2.cell? ⟨g, 0, none⟩ = some x0 ∧ w2.cell? ⟨g, 1, none⟩ = some x1 ∧ Below g w w2 := by
  obtain ⟨h0, h1, h2⟩ := h
  have hlt := World.block_lt_of_cell? _ _ h0
  exact ⟨(hb.cell (p := ⟨g, 0, none⟩) hlt).trans h0, (hb.cell (p := ⟨g, 1, none⟩) hlt).trans h1, h2.trans (hb.mono (Nat.le_of_lt hlt))⟩
theorem InK.first (w : World) (x0 x1 : Value) (T : TypeId) :
    (w.alloc (.cells #[x0, x1] T)).drew.cell? ⟨w.heap.size, 0, none⟩ = some x0 ∧ (w.alloc (.cells #[x0, x1] T)).drew.cell? ⟨w.heap.size, 1, none⟩ = some x1 ∧ Below w.heap.size w (w.alloc (.cells #[x0, x1] T)).drew :=
  ⟨by simp, by simp, ((Below.refl _ _).alloc (Nat.le_refl _) _).drew⟩
theorem putKid_any (k : Kd) (hp : k.page < 4294967296) (w : World) :
    Calls Try.prog 111 #[aggK k] w fun e w' => e = .returned (.string (str (Sl.encK k))) ∧ Below w.heap.size w w' := by
  obtain ⟨n, hz, hn⟩ : ∃ n, (str (Sl.encKey k.key)).size = n ∧ n ≤ 256 := ⟨_, rfl, by rw [str_size, Sl.encKey_len]; omega⟩
  have hq : ¬ 9223372036854775807 < n + 4 := by omega
  have hz' := big_size
  have H : Hid (str (Sl.encKey k.key) ++ str (Oc.big 4 k.page) = str (Sl.encK k)) := by
    show _ = _
    rw [str_append]; rfl
  unfold aggK
  have HK := Lib.hid (fun W => putKey_any k.key W)
  have HP := Lib.hid (fun W => four_at k.page k.page rfl hp W)
  clear hp
  revert hz H HK HP
  generalize Sl.encKey k.key = ek
  generalize Sl.encK k = ekk
  generalize k.key = key
  generalize k.page = page
  intro hz H HK HP
  go_enter Try.func111, Try.ntmps111
  go_wp2_with fail
  go_region_held3 (fun w' => w'.cell? ⟨w.heap.size, 0, none⟩ = some (.string (str key)) ∧ w'.cell? ⟨w.heap.size, 1, none⟩ = some (.int .u32 page) ∧ Below w.heap.size w w')
    ((first | assumption | exact InK.step ‹_› hb | exact InK.first _ _ _ _))
    (first
    | (go_at_call 112; refine (HK.out _).mono ?_; rintro e w1 ⟨rfl, hb⟩)
    | (go_at_call 50; refine (HP.out _).mono ?_; rintro e w2 ⟨rfl, hb⟩))
  rename_i hS
  obtain ⟨_, _, hB⟩ := hS
  go_wp2
  go_ret
  exact ⟨ret_string H.out, hB⟩
theorem InC.step {w w1 w2 : World} {g : Nat} {x0 x1 x2 x3 : Value} (h : w1.cell? ⟨g, 0, none⟩ = some x0 ∧ w1.cell? ⟨g, 1, none⟩ = some x1 ∧ w1.cell? ⟨g, 2, none⟩ = some x2 ∧ w1.cell? ⟨g, 3, none⟩ = some x3 ∧ Below g w w1) (hb : Below w1.heap.size w1 w2) :
    w2.cell? ⟨g, 0, none⟩ = some x0 ∧ w2.cell? ⟨g, 1, none⟩ = some x1 ∧ w2.cell? ⟨g, 2, none⟩ = some x2 ∧ w2.cell? ⟨g, 3, none⟩ = some x3 ∧ Below g w w2 := by
  obtain ⟨h0, h1, h2, h3, h4⟩ := h
  have hlt := World.block_lt_of_cell? _ _ h0
  exact ⟨(hb.cell (p := ⟨g, 0, none⟩) hlt).trans h0, (hb.cell (p := ⟨g, 1, none⟩) hlt).trans h1, (hb.cell (p := ⟨g, 2, none⟩) hlt).trans h2, (hb.cell (p := ⟨g, 3, none⟩) hlt).trans h3, h4.trans (hb.mono (Nat.le_of_lt hlt))⟩
theorem InC.first (w : World) (x0 x1 x2 x3 : Value) (T : TypeId) :
    (w.alloc (.cells #[x0, x1, x2, x3] T)).drew.cell? ⟨w.heap.size, 0, none⟩ = some x0 ∧ (w.alloc (.cells #[x0, x1, x2, x3] T)).drew.cell? ⟨w.heap.size, 1, none⟩ = some x1 ∧ (w.alloc (.cells #[x0, x1, x2, x3] T)).drew.cell? ⟨w.heap.size, 2, none⟩ = some x2 ∧ (w.alloc (.cells #[x0, x1, x2, x3] T)).drew.cell? ⟨w.heap.size, 3, none⟩ = some x3 ∧ Below w.heap.size w (w.alloc (.cells #[x0, x1, x2, x3] T)).drew :=
  ⟨by simp, by simp, by simp, by simp, ((Below.refl _ _).alloc (Nat.le_refl _) _).drew⟩
theorem putChained_any (c : Cl) (h0 : c.chain ≠ 0) (hc : c.chain < 4294967296) (hl : c.long < 4294967296) (w : World) :
    Calls Try.prog 97 #[aggC c] w fun e w' => e = .returned (.string (str (Sl.encC c))) ∧ Below w.heap.size w w' := by
  obtain ⟨n, hz, hn⟩ : ∃ n, (str (Sl.encKey c.key)).size = n ∧ n ≤ 256 := ⟨_, rfl, by rw [str_size, Sl.encKey_len]; omega⟩
  have hq1 : ¬ 9223372036854775807 < n + 1 := by omega
  have hq2 : ¬ 9223372036854775807 < n + 1 + 4 := by omega
  have hq3 : ¬ 9223372036854775807 < n + 1 + 4 + 4 := by omega
  have hz' := big_size
  have hd : ((c.chain : Int) != 0) = true := by rw [bne_iff_ne]; omega
  have H : Hid (str (Sl.encKey c.key) ++ str (Oc.big 1 1) ++ str (Oc.big 4 c.chain) ++ str (Oc.big 4 c.long) = str (Sl.encC c)) := by
    show _ = _
    rw [str_append, str_append, str_append]; unfold Sl.encC; rw [if_pos h0]; simp
  unfold aggC
  have HK := Lib.hid (fun W => putKey_any c.key W)
  have HC := Lib.hid (fun W => four_at c.chain c.chain rfl hc W)
  have HL := Lib.hid (fun W => four_at c.long c.long rfl hl W)
  clear hc hl h0
  revert hz H HK HC HL hd
  generalize Sl.encKey c.key = ek
  generalize Sl.encC c = ekk
  generalize c.key = key
  generalize c.val = val
  generalize c.chain = chain
  generalize c.long = long
  intro hz hd H HK HC HL
  have HO := Lib.hid (fun W => one_at 1 1 rfl (by decide) W)
  go_enter Try.func97, Try.ntmps97
  go_wp2_with fail
  go_region_held3 (fun w' => w'.cell? ⟨w.heap.size, 0, none⟩ = some (.string (str key)) ∧ w'.cell? ⟨w.heap.size, 1, none⟩ = some (.string (str val)) ∧ w'.cell? ⟨w.heap.size, 2, none⟩ = some (.int .u32 chain) ∧ w'.cell? ⟨w.heap.size, 3, none⟩ = some (.int .u32 long) ∧ Below w.heap.size w w')
    ((first | assumption | exact InC.step ‹_› hb | exact InC.first _ _ _ _ _ _))
    (first
    | (go_at_call 112; refine (HK.out _).mono ?_; rintro e w1 ⟨rfl, hb⟩)
    | (go_at_call 127; refine (HO.out _).mono ?_; rintro e w1 ⟨rfl, hb⟩)
    | (go_at_call 50; with_reducible refine (HC.out _).mono ?_; rintro e w2 ⟨rfl, hb⟩)
    | (go_at_call 50; with_reducible refine (HL.out _).mono ?_; rintro e w2 ⟨rfl, hb⟩))
  rename_i hS
  obtain ⟨_, _, _, _, hB⟩ := hS
  go_wp2
  go_ret
  exact ⟨ret_string H.out, hB⟩
theorem putPlain_any (c : Cl) (h0 : c.chain = 0) (w : World) :
    Calls Try.prog 97 #[aggC c] w fun e w' => e = .returned (.string (str (Sl.encC c))) ∧ Below w.heap.size w w' := by
  obtain ⟨n, hz, hn⟩ : ∃ n, (str (Sl.encKey c.key)).size = n ∧ n ≤ 256 := ⟨_, rfl, by rw [str_size, Sl.encKey_len]; omega⟩
  have hz' := big_size
  have hlen : (c.val.take 65535).length < 65536 := by rw [List.length_take]; omega
  have hmin : (c.val.take 65535).length = min c.val.length 65535 := by rw [List.length_take, Nat.min_comm]
  have H : Hid (str (Sl.encKey c.key) ++ str (Oc.big 1 0) ++ str (Oc.big 2 (c.val.take 65535).length) ++ str (c.val.take 65535) = str (Sl.encC c)) := by
    show _ = _
    rw [str_append, str_append, str_append]; unfold Sl.encC; rw [if_neg (by omega), hmin]; simp
  unfold aggC
  have HK := Lib.hid (fun W => putKey_any c.key W)
  have HV := Lib.hid (fun W => first_any c.val 65535 W)
  clear hmin
  rw [h0]
  clear h0
  revert hz hlen H HK HV
  generalize Sl.encKey c.key = ek
  generalize Sl.encC c = ekk
  generalize c.val.take 65535 = v
  generalize c.key = key
  generalize c.val = val
  generalize c.long = long
  intro hz hlen H HK HV
  have hv := str_size v
  have HO := Lib.hid (fun W => one_at 0 0 rfl (by decide) W)
  go_enter Try.func97, Try.ntmps97
  go_wp2_with (first
    | (go_at_call 132; refine (HV.out _).mono ?_; rintro e w1 ⟨rfl, rfl⟩)
    | (go_at_call 112; refine (HK.out _).mono ?_; rintro e w2 ⟨rfl, hb2⟩)
    | (go_at_call 127; refine (HO.out _).mono ?_; rintro e w3 ⟨rfl, hb3⟩)
    | (go_at_call 90; refine (two_at _ v.length (by first | omega | (rw [IntKind.wrap_u16]; omega)) hlen _).mono ?_; rintro e w4 ⟨rfl, hb4⟩))
  go_ret
  exact ⟨ret_string H.out, below_step (below_step (below_step ((Below.refl _ _).alloc (Nat.le_refl _) _) hb2) hb3) hb4⟩
theorem putCell_any (c : Cl) (hc : c.chain < 4294967296) (hl : c.long < 4294967296) (w : World) :
    Calls Try.prog 97 #[aggC c] w fun e w' => e = .returned (.string (str (Sl.encC c))) ∧ Below w.heap.size w w' := by
  by_cases h0 : c.chain = 0
  · exact putPlain_any c h0 w
  · exact putChained_any c h0 hc hl w
theorem keyC_any (c : Cl) (w : World) :
    Calls Try.prog 99 #[aggC c] w fun e w' => e = .returned (.string (str c.key)) ∧ Below w.heap.size w w' := by
  unfold aggC
  go_enter Try.func99, Try.ntmps99
  go_wp2
  go_ret
  exact ⟨rfl, (Below.refl _ _).alloc (Nat.le_refl _) _⟩
theorem keyK_any (k : Kd) (w : World) :
    Calls Try.prog 114 #[aggK k] w fun e w' => e = .returned (.string (str k.key)) ∧ Below w.heap.size w w' := by
  unfold aggK
  go_enter Try.func114, Try.ntmps114
  go_wp2
  go_ret
  exact ⟨rfl, (Below.refl _ _).alloc (Nat.le_refl _) _⟩
theorem room_any (c : Cl) (w : World) :
    Calls Try.prog 101 #[aggC c] w fun e w' => e = .returned (.int .i64 (if c.chain ≠ 0 then 0 else 400 : Nat)) ∧ Below w.heap.size w w' := by
  by_cases h0 : c.chain = 0
  · rw [if_neg (by omega)]
    unfold aggC
    rw [h0]
    go_enter Try.func101, Try.ntmps101
    go_wp2
    go_ret
    exact ⟨rfl, (Below.refl _ _).alloc (Nat.le_refl _) _⟩
  · rw [if_pos h0]
    have hd : ((c.chain : Int) != 0) = true := by rw [bne_iff_ne]; omega
    unfold aggC
    go_enter Try.func101, Try.ntmps101
    go_wp2
    go_ret
    exact ⟨rfl, (Below.refl _ _).alloc (Nat.le_refl _) _⟩
theorem fitsC_any (c : Cl) (w : World) :
    Calls Try.prog 100 #[aggC c] w fun e w' => e = .returned (.bool (Sl.fitsC c)) ∧ Below w.heap.size w w' := by
  have HR := Lib.hid (fun W => room_any c W)
  have H : Hid (decide (c.val.length ≤ (if c.chain ≠ 0 then 0 else 400 : Nat)) = Sl.fitsC c) := rfl
  revert HR H
  generalize (if c.chain ≠ 0 then 0 else 400 : Nat) = r
  generalize Sl.fitsC c = fc
  intro HR H
  unfold aggC at HR ⊢
  have hs : ∀ l, (str l).size = l.length := str_size
  go_enter Try.func100, Try.ntmps100
  go_wp2_with fail
  go_region_held3 (fun w' => w'.cell? ⟨w.heap.size, 0, none⟩ = some (.string (str c.key)) ∧ w'.cell? ⟨w.heap.size, 1, none⟩ = some (.string (str c.val)) ∧ w'.cell? ⟨w.heap.size, 2, none⟩ = some (.int .u32 c.chain) ∧ w'.cell? ⟨w.heap.size, 3, none⟩ = some (.int .u32 c.long) ∧ Below w.heap.size w w')
    ((first | assumption | exact InC.step ‹_› hb | exact InC.first _ _ _ _ _ _))
    (first
    | (go_at_call 101; refine (HR.out _).mono ?_; rintro e w1 ⟨rfl, hb⟩))
  rename_i hS
  obtain ⟨_, _, _, _, hB⟩ := hS
  go_wp2
  go_ret
  exact ⟨congrArg (fun b => Ending.returned (.bool b)) H.out, hB⟩
def shpC : Value := .agg #[.func (.func 97) #[] #[], .func (.func 98) #[] #[], .func (.func 99) #[] #[], .func (.func 100) #[] #[]]
def shpK : Value := .agg #[.func (.func 111) #[] #[], .func (.func 113) #[] #[], .func (.func 114) #[] #[], .nilFunc]
def cdcC : Value := .agg #[.func (.func 97) #[] #[], .func (.func 98) #[] #[]]
def cdcK : Value := .agg #[.func (.func 111) #[] #[], .func (.func 113) #[] #[]]
theorem leaves_any (w : World) : Calls Try.prog 56 #[] w fun e w' => e = .returned shpC ∧ Below w.heap.size w w' := by
  go_enter Try.func56, Try.ntmps56
  go_wp2
  refine bodyPost_ret_by (v := shpC) ?_ rfl ⟨rfl, (Below.refl _ _).alloc (Nat.le_refl _) _⟩
  simp [shpC, results, Try.results56, go_sem]
theorem kids_any (w : World) : Calls Try.prog 65 #[] w fun e w' => e = .returned shpK ∧ Below w.heap.size w w' := by
  go_enter Try.func65, Try.ntmps65
  go_wp2
  refine bodyPost_ret_by (v := shpK) ?_ rfl ⟨rfl, (Below.refl _ _).alloc (Nat.le_refl _) _⟩
  simp [shpK, results, Try.results65, go_sem]
theorem wholeC_any (w : World) : Calls Try.prog 102 #[shpC] w fun e w' => e = .returned (.bool true) ∧ Below w.heap.size w w' := by
  unfold shpC
  have h1 : ∀ f w, (binOp .neq 106 (.func (.func f) #[] #[]) .nilFunc).run Try.prog w = .ok (.bool true) w := fun f w => by kernel_rfl
  have h2 : ∀ f w, (binOp .neq 107 (.func (.func f) #[] #[]) .nilFunc).run Try.prog w = .ok (.bool true) w := fun f w => by kernel_rfl
  go_enter Try.func102, Try.ntmps102
  go_wp2
  go_ret
  exact ⟨rfl, (Below.refl _ _).alloc (Nat.le_refl _) _⟩
theorem wholeK_any (w : World) : Calls Try.prog 144 #[shpK] w fun e w' => e = .returned (.bool true) ∧ Below w.heap.size w w' := by
  unfold shpK
  have h1 : ∀ f w, (binOp .neq 120 (.func (.func f) #[] #[]) .nilFunc).run Try.prog w = .ok (.bool true) w := fun f w => by kernel_rfl
  have h2 : ∀ f w, (binOp .neq 121 (.func (.func f) #[] #[]) .nilFunc).run Try.prog w = .ok (.bool true) w := fun f w => by kernel_rfl
  go_enter Try.func144, Try.ntmps144
  go_wp2
  go_ret
  exact ⟨rfl, (Below.refl _ _).alloc (Nat.le_refl _) _⟩
theorem codecC_any (w : World) : Calls Try.prog 164 #[shpC] w fun e w' => e = .returned cdcC ∧ Below w.heap.size w w' := by
  unfold shpC
  go_enter Try.func164, Try.ntmps164
  go_wp2
  refine bodyPost_ret_by (v := cdcC) ?_ rfl ⟨rfl, below_step ((Below.refl _ _).alloc (Nat.le_refl _) _) ((Below.refl _ _).alloc (Nat.le_refl _) _)⟩
  simp [cdcC, results, Try.results164, go_sem]
theorem codecK_any (w : World) : Calls Try.prog 166 #[shpK] w fun e w' => e = .returned cdcK ∧ Below w.heap.size w w' := by
  unfold shpK
  go_enter Try.func166, Try.ntmps166
  go_wp2
  refine bodyPost_ret_by (v := cdcK) ?_ rfl ⟨rfl, below_step ((Below.refl _ _).alloc (Nat.le_refl _) _) ((Below.refl _ _).alloc (Nat.le_refl _) _)⟩
  simp [cdcK, results, Try.results166, go_sem]
end Go.Proofs.Ytpkoehnjladpoaa
/- The contracts of a leaf's cell: its bytes and its key by the codec's and the shape's calls, its size. -/
namespace Go.Proofs.Ytpkoehnjladpoaa
open Go.RowKit
open Sl (Cl Kd)
theorem idleBytesC (p : Addr) (w : World) :
    CallsD Try.prog 179 #[.pointer (some p)] .returning w fun e u' w' => e = .returned (.tuple #[]) ∧ u' = .returning ∧ w' = w := by
  refine callsD_of_wpS Try.func179 rfl fun c₀ cs hu => ?_
  apply wpS_seq
  apply wpS_region
  simp [wpOpsS, go_sem, recoverD, hu, Try.ntmps179, Exit.thenS]
  refine wpS_cond (t := false) (by simp [Act.eval, Array.replicate]) ?_
  simp only [Bool.false_eq_true, if_false]
  refine wpS_of_wp (wp_skip ?_)
  cases c₀
  simp_all [bodyPostS, results, Try.results179]
theorem idleKeyC (p : Addr) (w : World) :
    CallsD Try.prog 141 #[.pointer (some p)] .returning w fun e u' w' => e = .returned (.tuple #[]) ∧ u' = .returning ∧ w' = w := by
  refine callsD_of_wpS Try.func141 rfl fun c₀ cs hu => ?_
  apply wpS_seq
  apply wpS_region
  simp [wpOpsS, go_sem, recoverD, hu, Try.ntmps141, Exit.thenS]
  refine wpS_cond (t := false) (by simp [Act.eval, Array.replicate]) ?_
  simp only [Bool.false_eq_true, if_false]
  refine wpS_of_wp (wp_skip ?_)
  cases c₀
  simp_all [bodyPostS, results, Try.results141]
theorem lt3 (w : World) (o1 o2 o3 : Obj) : w.heap.size + 1 + 1 < (((w.alloc o1).alloc o2).alloc o3).heap.size := by simp
theorem size2 (w : World) (o1 o2 : Obj) : ((w.alloc o1).alloc o2).heap.size = w.heap.size + 1 + 1 := by simp
theorem cell3 (w : World) (o1 o2 : Obj) (x : Value) (T : TypeId) : (((w.alloc o1).alloc o2).alloc (.cells #[x] T)).cell? ⟨w.heap.size + 1 + 1, 0, none⟩ = some x := by
  have := World.cell?_alloc_new ((w.alloc o1).alloc o2) #[x] T 0
  rw [size2] at this
  exact this
theorem below3 (w : World) (o1 o2 o3 : Obj) : Below w.heap.size w (((w.alloc o1).alloc o2).alloc o3) :=
  below_step (below_step ((Below.refl _ _).alloc (Nat.le_refl _) _) ((Below.refl _ _).alloc (Nat.le_refl _) _)) ((Below.refl _ _).alloc (Nat.le_refl _) _)
theorem bytesC_any (x : Cl) (hc : x.chain < 4294967296) (hl : x.long < 4294967296) (w : World) :
    Calls Try.prog 165 #[cdcC, aggC x] w fun e w' => e = .returned (.string (str (Sl.shC.enc x))) ∧ Below w.heap.size w w' := by
  have hmf : ∀ (fn : Fn) (first cap : Array Value) (w : World), (Instr.makeFunc fn first cap).run Try.prog w = .ok (.func fn first cap) w := fun _ _ _ _ => rfl
  have heq : ∀ w, (binOp .eql 106 (.func (.func 97) #[] #[]) .nilFunc).run Try.prog w = .ok (.bool false) w := fun w => by kernel_rfl
  have HP : Hid (∀ W, Calls Try.prog 97 #[aggC x] W fun e w' => e = .returned (.string (str (Sl.shC.enc x))) ∧ Below W.heap.size W w') := fun W => putCell_any x hc hl W
  generalize Sl.shC.enc x = ex at HP ⊢
  unfold aggC at HP ⊢
  unfold cdcC
  go_enter_defers Try.func165, Try.ntmps165
  go_wp2_with (go_at_call 97; refine (HP.out _).mono ?_; rintro e w1 ⟨rfl, hb⟩; have hc := hb.cell (p := ⟨w.heap.size + 1 + 1, 0, none⟩) (lt3 w _ _ _); have hz := hb.frozen (p := ⟨w.heap.size + 1 + 1, 0, none⟩) (lt3 w _ _ _))
  have hcs : (w1.setCell ⟨w.heap.size + 1 + 1, 0, none⟩ (.string (str ex))).cell? ⟨w.heap.size + 1 + 1, 0, none⟩ = some (.string (str ex)) := World.cell?_setCell_same _ _ _ (u := .string ⟨#[]⟩) (hc.trans (cell3 w _ _ _ 9))
  refine leaves_cons (f := 179) (args := #[.pointer (some ⟨w.heap.size + 1 + 1, 0, none⟩)]) (by simp) (by simp [go_sem]) ?_
  refine (idleBytesC ⟨w.heap.size + 1 + 1, 0, none⟩ _).mono ?_
  rintro e u' w'' ⟨rfl, rfl, rfl⟩
  simp [Leaves, settle, results, Try.results165, go_sem, hcs]
  exact below_step (below3 w _ _ _) hb |>.setCell (show w.heap.size ≤ w.heap.size + 1 + 1 by omega) _
theorem keyC2_any (x : Cl) (w : World) :
    Calls Try.prog 106 #[shpC, aggC x] w fun e w' => e = .returned (.string (str (Sl.shC.key x))) ∧ Below w.heap.size w w' := by
  have hmf : ∀ (fn : Fn) (first cap : Array Value) (w : World), (Instr.makeFunc fn first cap).run Try.prog w = .ok (.func fn first cap) w := fun _ _ _ _ => rfl
  have HP : Hid (∀ W, Calls Try.prog 99 #[aggC x] W fun e w' => e = .returned (.string (str (Sl.shC.key x))) ∧ Below W.heap.size W w') := fun W => keyC_any x W
  generalize Sl.shC.key x = ex at HP ⊢
  unfold aggC at HP ⊢
  unfold shpC
  go_enter_defers Try.func106, Try.ntmps106
  go_wp2_with (go_at_call 99; refine (HP.out _).mono ?_; rintro e w1 ⟨rfl, hb⟩; have hc := hb.cell (p := ⟨w.heap.size + 1 + 1, 0, none⟩) (lt3 w _ _ _); have hz := hb.frozen (p := ⟨w.heap.size + 1 + 1, 0, none⟩) (lt3 w _ _ _))
  have hcs : (w1.setCell ⟨w.heap.size + 1 + 1, 0, none⟩ (.string (str ex))).cell? ⟨w.heap.size + 1 + 1, 0, none⟩ = some (.string (str ex)) := World.cell?_setCell_same _ _ _ (u := .string ⟨#[]⟩) (hc.trans (cell3 w _ _ _ 9))
  refine leaves_cons (f := 141) (args := #[.pointer (some ⟨w.heap.size + 1 + 1, 0, none⟩)]) (by simp) (by simp [go_sem]) ?_
  refine (idleKeyC ⟨w.heap.size + 1 + 1, 0, none⟩ _).mono ?_
  rintro e u' w'' ⟨rfl, rfl, rfl⟩
  simp [Leaves, settle, results, Try.results106, go_sem, hcs]
  exact below_step (below3 w _ _ _) hb |>.setCell (show w.heap.size ≤ w.heap.size + 1 + 1 by omega) _
end Go.Proofs.Ytpkoehnjladpoaa
/- The contracts of a branch's cell: its bytes and its key by the codec's and the shape's calls, its size. -/
namespace Go.Proofs.Ytpkoehnjladpoaa
open Go.RowKit
open Sl (Cl Kd)
theorem idleBytesK (p : Addr) (w : World) :
    CallsD Try.prog 180 #[.pointer (some p)] .returning w fun e u' w' => e = .returned (.tuple #[]) ∧ u' = .returning ∧ w' = w := by
  refine callsD_of_wpS Try.func180 rfl fun c₀ cs hu => ?_
  apply wpS_seq
  apply wpS_region
  simp [wpOpsS, go_sem, recoverD, hu, Try.ntmps180, Exit.thenS]
  refine wpS_cond (t := false) (by simp [Act.eval, Array.replicate]) ?_
  simp only [Bool.false_eq_true, if_false]
  refine wpS_of_wp (wp_skip ?_)
  cases c₀
  simp_all [bodyPostS, results, Try.results180]
theorem idleKeyK (p : Addr) (w : World) :
    CallsD Try.prog 171 #[.pointer (some p)] .returning w fun e u' w' => e = .returned (.tuple #[]) ∧ u' = .returning ∧ w' = w := by
  refine callsD_of_wpS Try.func171 rfl fun c₀ cs hu => ?_
  apply wpS_seq
  apply wpS_region
  simp [wpOpsS, go_sem, recoverD, hu, Try.ntmps171, Exit.thenS]
  refine wpS_cond (t := false) (by simp [Act.eval, Array.replicate]) ?_
  simp only [Bool.false_eq_true, if_false]
  refine wpS_of_wp (wp_skip ?_)
  cases c₀
  simp_all [bodyPostS, results, Try.results171]

theorem bytesK_any (x : Kd) (hc : x.page < 4294967296) (w : World) :
    Calls Try.prog 167 #[cdcK, aggK x] w fun e w' => e = .returned (.string (str (Sl.shK.enc x))) ∧ Below w.heap.size w w' := by
  have hmf : ∀ (fn : Fn) (first cap : Array Value) (w : World), (Instr.makeFunc fn first cap).run Try.prog w = .ok (.func fn first cap) w := fun _ _ _ _ => rfl
  have heq : ∀ w, (binOp .eql 120 (.func (.func 111) #[] #[]) .nilFunc).run Try.prog w = .ok (.bool false) w := fun w => by kernel_rfl
  have HP : Hid (∀ W, Calls Try.prog 111 #[aggK x] W fun e w' => e = .returned (.string (str (Sl.shK.enc x))) ∧ Below W.heap.size W w') := fun W => putKid_any x hc W
  generalize Sl.shK.enc x = ex at HP ⊢
  unfold aggK at HP ⊢
  unfold cdcK
  go_enter_defers Try.func167, Try.ntmps167
  go_wp2_with (go_at_call 111; refine (HP.out _).mono ?_; rintro e w1 ⟨rfl, hb⟩; have hc := hb.cell (p := ⟨w.heap.size + 1 + 1, 0, none⟩) (lt3 w _ _ _); have hz := hb.frozen (p := ⟨w.heap.size + 1 + 1, 0, none⟩) (lt3 w _ _ _))
  have hcs : (w1.setCell ⟨w.heap.size + 1 + 1, 0, none⟩ (.string (str ex))).cell? ⟨w.heap.size + 1 + 1, 0, none⟩ = some (.string (str ex)) := World.cell?_setCell_same _ _ _ (u := .string ⟨#[]⟩) (hc.trans (cell3 w _ _ _ 9))
  refine leaves_cons (f := 180) (args := #[.pointer (some ⟨w.heap.size + 1 + 1, 0, none⟩)]) (by simp) (by simp [go_sem]) ?_
  refine (idleBytesK ⟨w.heap.size + 1 + 1, 0, none⟩ _).mono ?_
  rintro e u' w'' ⟨rfl, rfl, rfl⟩
  simp [Leaves, settle, results, Try.results167, go_sem, hcs]
  exact below_step (below3 w _ _ _) hb |>.setCell (show w.heap.size ≤ w.heap.size + 1 + 1 by omega) _
theorem keyK2_any (x : Kd) (w : World) :
    Calls Try.prog 147 #[shpK, aggK x] w fun e w' => e = .returned (.string (str (Sl.shK.key x))) ∧ Below w.heap.size w w' := by
  have hmf : ∀ (fn : Fn) (first cap : Array Value) (w : World), (Instr.makeFunc fn first cap).run Try.prog w = .ok (.func fn first cap) w := fun _ _ _ _ => rfl
  have HP : Hid (∀ W, Calls Try.prog 114 #[aggK x] W fun e w' => e = .returned (.string (str (Sl.shK.key x))) ∧ Below W.heap.size W w') := fun W => keyK_any x W
  generalize Sl.shK.key x = ex at HP ⊢
  unfold aggK at HP ⊢
  unfold shpK
  go_enter_defers Try.func147, Try.ntmps147
  go_wp2_with (go_at_call 114; refine (HP.out _).mono ?_; rintro e w1 ⟨rfl, hb⟩; have hc := hb.cell (p := ⟨w.heap.size + 1 + 1, 0, none⟩) (lt3 w _ _ _); have hz := hb.frozen (p := ⟨w.heap.size + 1 + 1, 0, none⟩) (lt3 w _ _ _))
  have hcs : (w1.setCell ⟨w.heap.size + 1 + 1, 0, none⟩ (.string (str ex))).cell? ⟨w.heap.size + 1 + 1, 0, none⟩ = some (.string (str ex)) := World.cell?_setCell_same _ _ _ (u := .string ⟨#[]⟩) (hc.trans (cell3 w _ _ _ 9))
  refine leaves_cons (f := 171) (args := #[.pointer (some ⟨w.heap.size + 1 + 1, 0, none⟩)]) (by simp) (by simp [go_sem]) ?_
  refine (idleKeyK ⟨w.heap.size + 1 + 1, 0, none⟩ _).mono ?_
  rintro e u' w'' ⟨rfl, rfl, rfl⟩
  simp [Leaves, settle, results, Try.results147, go_sem, hcs]
  exact below_step (below3 w _ _ _) hb |>.setCell (show w.heap.size ≤ w.heap.size + 1 + 1 by omega) _
end Go.Proofs.Ytpkoehnjladpoaa
