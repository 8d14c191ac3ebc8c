/- Texts of one seat, merged. -/
import Derived.Test.YtoekggbbkcmknaaGreatDoorB04
import Derived.Test.YtoekggbbkcmknaaGreatDoorRows
import Derived.ChangeArms
import Derived.LaidOnce
import Derived.MakeChecks
import Derived.Test.YtoekggbbkcmknaaGreatDoorB08
import Derived.Test.YtoekggbbkcmknaaGreatDoorB07
set_option maxRecDepth 100000
set_option maxHeartbeats 4000000
set_option linter.unusedVariables false
/- What is laid: the forms. -/
namespace Go.Proofs.YtoekggbbkcmknaaGreatDoor
open Go.ChangeShapes Go.WideShapes Go.RowKit
theorem gForms : Tryz.prog.globalNamed "taproot/command.forms" = some 0 := by kernel_rfl
theorem gFormsT : (Tryz.prog.globals[0]?).map (·.type) = some 99 := by kernel_rfl
theorem cells14 : Tryz.prog.cellsOf 99 = 14 := by kernel_rfl
theorem cells1 : Tryz.prog.cellsOf 9 = 1 := by kernel_rfl
theorem mapM_at {α β : Type} {f : α → Option β} : ∀ (l : List α) (xs : List β), l.mapM f = some xs → ∀ (i : Nat) (x : α), l[i]? = some x → ∃ y, xs[i]? = some y ∧ f x = some y
  | [], _, _, i, x, hx => by simp at hx
  | a :: l, xs, h, i, x, hx => by
    simp only [List.mapM_cons, Option.bind_eq_bind, Option.bind_eq_some_iff, Option.pure_def, Option.some.injEq] at h
    obtain ⟨y, hy, ys, hys, rfl⟩ := h
    cases i with
    | zero => simp at hx; subst hx; exact ⟨y, rfl, hy⟩
    | succ i => exact mapM_at l ys hys i x (by simpa using hx)
theorem strs14 {W : World} {fuel : Nat} {cs : List Value} {ds : List (DataW Unit)} {p : List MemPlace} (h : DataW.trod (fun _ => ()) Tryz.prog W 0 (fun _ => true) false fuel 99 cs = some (.agg ds, p)) :
    ∀ (i : Nat) (l : List UInt8), i < 14 → ds[i]? = some (.lit (.string l)) → cs[i]? = some (.string (str l)) := by
  cases fuel with
  | zero => simp [DataW.trod] at h
  | succ fuel =>
    simp only [DataW.trod, Tryz.underlying99, cells14, cells1] at h
    split at h
    · simp only [Option.map_eq_some_iff] at h
      obtain ⟨xs, hx, he⟩ := h
      intro i l hi hl
      obtain ⟨y, hy, ht⟩ := mapM_at _ _ hx i i (by simp [hi])
      obtain ⟨s, hc, rfl, -⟩ := DataW.trod_string Tryz.underlying9 ht
      have he1 : xs.map (·.1) = ds := by injection he with h1 _; injection h1
      rw [← he1, List.getElem?_map, hy] at hl
      simp only [Option.map_some, Option.some.injEq] at hl
      injection hl with hl
      injection hl with hl
      have h0 : ((cs.drop (i * 1)).take 1)[0]? = some (.string s) := by rw [hc]; rfl
      rw [List.getElem?_take_of_lt (by decide), List.getElem?_drop] at h0
      rw [show i = i * 1 + 0 by omega, h0, ← hl]
      rfl
    · cases h
theorem forms_of_trod {W : World} {fuel : Nat} {cs : Array Value} {p : List MemPlace} (hv : W.var? Tryz.prog "taproot/command.forms" = some cs)
    (h : DataW.trod (fun _ => ()) Tryz.prog W 0 (fun _ => true) false fuel 99 cs.toList = some (Rows.laid_taproot_command_forms, p)) : Forms W := by
  have hs := strs14 h
  intro k h1 h2
  have hc : ∀ (i : Nat) (l : List UInt8), cs.toList[i]? = some (.string (str l)) → W.cell? ⟨0, i, none⟩ = some (.string (str l)) := by
    intro i l hl
    have hi : i < cs.size := by have := (List.getElem?_eq_some_iff.1 hl).1; simpa using this
    rw [World.var?_cell gForms hv i]
    simpa using hl
  obtain ⟨j, rfl⟩ : ∃ j : Nat, k = j := ⟨k.toNat, by omega⟩
  have hj : j < 14 := by omega
  have hj1 : 1 ≤ j := by omega
  show W.cell? ⟨0, j, none⟩ = _
  match j, hj, hj1 with
  | 1, _, _ => exact hc _ _ (hs 1 _ (by decide) rfl)
  | 2, _, _ => exact hc _ _ (hs 2 _ (by decide) rfl)
  | 3, _, _ => exact hc _ _ (hs 3 _ (by decide) rfl)
  | 4, _, _ => exact hc _ _ (hs 4 _ (by decide) rfl)
  | 5, _, _ => exact hc _ _ (hs 5 _ (by decide) rfl)
  | 6, _, _ => exact hc _ _ (hs 6 _ (by decide) rfl)
  | 7, _, _ => exact hc _ _ (hs 7 _ (by decide) rfl)
  | 8, _, _ => exact hc _ _ (hs 8 _ (by decide) rfl)
  | 9, _, _ => exact hc _ _ (hs 9 _ (by decide) rfl)
  | 10, _, _ => exact hc _ _ (hs 10 _ (by decide) rfl)
  | 11, _, _ => exact hc _ _ (hs 11 _ (by decide) rfl)
  | 12, _, _ => exact hc _ _ (hs 12 _ (by decide) rfl)
  | 13, _, _ => exact hc _ _ (hs 13 _ (by decide) rfl)
theorem forms_of_laid1 {W : World} (h : laidMet Tryz.prog [("taproot/command.forms", Rows.laid_taproot_command_forms)] W) : Forms W := by
  obtain ⟨ps, ⟨g, t, cs, fuel, p, q, hg, ht, hvar, hd, _, _⟩, _⟩ := h
  obtain rfl := Option.some.inj (gForms.symm.trans hg)
  obtain rfl := Option.some.inj (gFormsT.symm.trans ht)
  exact forms_of_trod hvar hd
end Go.Proofs.YtoekggbbkcmknaaGreatDoor
/- The kinds and their names; what has no capitals is as strings.ToLower has it. -/
namespace Go.Proofs.YtoekggbbkcmknaaGreatDoor
open Go.RowKit
attribute [local go_sem] Oper.semAt_some
def nameL (k : Nat) : List UInt8 :=
  match k with
  | 1 => [100, 101, 99, 108, 97, 114, 101] | 2 => [100, 114, 111, 112] | 3 => [98, 105, 110, 100] | 4 => [117, 110, 98, 105, 110, 100] | 5 => [112, 117, 98, 108, 105, 115, 104]
  | 6 => [100, 101, 108, 105, 118, 101, 114] | 7 => [97, 99, 107] | 8 => [110, 97, 99, 107] | 9 => [101, 120, 116, 101, 110, 100] | 10 => [112, 117, 114, 103, 101]
  | 11 => [116, 105, 99, 107] | 12 => [115, 116, 97, 116] | 13 => [98, 114, 111, 119, 115, 101] | _ => []
/-- What the names are. -/
def Names (w : World) : Prop := ∀ k : Nat, 1 ≤ k → k ≤ 13 → w.cell? ⟨1, k, none⟩ = some (.string (str (nameL k)))
theorem Names.below {B : Nat} {w w' : World} (h : Names w) (hb : Below B w w') (h0 : 1 < B) : Names w' := fun k h1 h2 => (hb.cell (p := ⟨1, k, none⟩) h0).trans (h k h1 h2)
theorem Names.lt {w : World} (h : Names w) : 1 < w.heap.size := World.block_lt_of_cell? _ _ (h 1 (by decide) (by decide))
theorem gNames : Tryz.prog.globalNamed "taproot/command.names" = some 1 := by kernel_rfl
theorem gNamesT : (Tryz.prog.globals[1]?).map (·.type) = some 99 := by kernel_rfl
theorem names_of_trod {W : World} {fuel : Nat} {cs : Array Value} {p : List MemPlace} (hv : W.var? Tryz.prog "taproot/command.names" = some cs)
    (h : DataW.trod (fun _ => ()) Tryz.prog W 0 (fun _ => true) false fuel 99 cs.toList = some (Rows.laid_taproot_command_names, p)) : Names W := by
  have hs := strs14 h
  intro k h1 h2
  have hc : ∀ (i : Nat) (l : List UInt8), cs.toList[i]? = some (.string (str l)) → W.cell? ⟨1, i, none⟩ = some (.string (str l)) := by
    intro i l hl
    rw [World.var?_cell gNames hv i]
    simpa using hl
  have hj : k < 14 := by omega
  match k, hj, h1 with
  | 1, _, _ => exact hc _ _ (hs 1 _ (by decide) rfl)
  | 2, _, _ => exact hc _ _ (hs 2 _ (by decide) rfl)
  | 3, _, _ => exact hc _ _ (hs 3 _ (by decide) rfl)
  | 4, _, _ => exact hc _ _ (hs 4 _ (by decide) rfl)
  | 5, _, _ => exact hc _ _ (hs 5 _ (by decide) rfl)
  | 6, _, _ => exact hc _ _ (hs 6 _ (by decide) rfl)
  | 7, _, _ => exact hc _ _ (hs 7 _ (by decide) rfl)
  | 8, _, _ => exact hc _ _ (hs 8 _ (by decide) rfl)
  | 9, _, _ => exact hc _ _ (hs 9 _ (by decide) rfl)
  | 10, _, _ => exact hc _ _ (hs 10 _ (by decide) rfl)
  | 11, _, _ => exact hc _ _ (hs 11 _ (by decide) rfl)
  | 12, _, _ => exact hc _ _ (hs 12 _ (by decide) rfl)
  | 13, _, _ => exact hc _ _ (hs 13 _ (by decide) rfl)
theorem kinds_any (w : World) : Calls Tryz.prog 24 #[] w fun e w' => e = .returned (.func (.func 48) #[] #[]) ∧ w' = w := by
  go_enter Tryz.func24, Tryz.ntmps24
  go_wp2
  go_ret
  exact ⟨rfl, rfl⟩
def arK (k : Nat) : Array Value := #[.int .i64 ((k : Int) + 1), .string (str (nameL (k + 1)))]
def kinds : List Nat := List.range 13
theorem kinds_at (k : Nat) (h : k < 13) : kinds[k]? = some k := by simp [kinds, h]
theorem kinds_take (k : Nat) (h : k < 13) : kinds.take (k + 1) = kinds.take k ++ [k] := take_snocL (kinds_at k h)
set_option maxHeartbeats 4000000 in
theorem kinds1_in (n : Nat) (hn : 1 ≤ n) : SeqX arK n 48 #[] Names kinds := by
  intro lr J X W hG hJq hJa hY h0
  refine callsIn_of_wp Tryz.func48 rfl trivial ?_ rfl
  simp only [Tryz.ntmps48, List.size_toArray, List.length_cons, List.length_nil, Nat.reduceAdd, Nat.reduceSub, Array.replicate_succ, Array.replicate_zero, List.push_toArray, List.append_toArray, List.nil_append, List.cons_append]
  gi_wp2
  gi_loopg [2] 13 (fun g v2 wr => ∃ k : Nat, k ≤ 13 ∧ g = 13 - k ∧ v2 = .int .i64 ((k : Int) + 1) ∧ Hid (J (kinds.take k) wr))
  case atStart => exact ⟨0, Nat.zero_le _, rfl, rfl, h0⟩
  case round =>
    obtain ⟨k, hk, rfl, rfl, HJ⟩ := hrel
    by_cases hlt : k < 13
    · have HT := Lib.hid (kinds_take k hlt)
      have hpre : kinds.take k ++ [k] <+: kinds := by rw [← HT.out]; exact List.take_prefix _ _
      have HPRE := Lib.hid hpre
      have hc := (hG _ _ HJ.out) (k + 1) (by omega) (by omega)
      have hle : (k : Int) + 1 ≤ 13 := by omega
      have hi0 : (0 : Int) ≤ (k : Int) + 1 := by omega
      have hi1 : (k : Int) + 1 < 14 := by omega
      have hci : wr.cell? ⟨1, ((k : Int) + 1).toNat, none⟩ = some (.string (str (nameL (k + 1)))) := hc
      generalize hnm : str (nameL (k + 1)) = nm at hc hci
      clear hpre
      gi_upto_region 3 with fail
      obtain ⟨fn, tmps, assign, body, hy, hR⟩ := hY _ k _ HJ.out HPRE.out
      unfold arK at hy
      rw [hnm] at hy
      gi_wp2
      refine hR.mono ?_
      rintro e W3 (⟨rfl, h3⟩ | ⟨rfl, h3⟩)
      · have HJ3 := Lib.hid h3
        clear h3
        gi_wp2
        go_roundg (13 - (k + 1))
        case measure => omega
        case rel => exact ⟨k + 1, hlt, rfl, by go_num, by rw [HT.out]; exact HJ3⟩
      · have HX3 := Lib.hid h3
        clear h3
        gi_wp2
        exact bodyPost_ret (results_none rfl _ _ _) rfl ⟨⟨_, rfl⟩, .inr ⟨_, HX3.out⟩⟩
    · obtain rfl : k = 13 := by omega
      have HJ13 : Hid (J kinds wr) := HJ
      clear HJ
      gi_wp2
      go_end0
      exact ⟨⟨_, rfl⟩, .inl HJ13.out⟩
set_option maxHeartbeats 800000 in
theorem lower_any (s : ByteArray) (hs : s.size ≤ 1000) (hl : ∀ (i : Nat) (h : i < s.size), 97 ≤ (s[i]'h).toNat ∧ (s[i]'h).toNat ≤ 122) (w : World) :
    Calls Tryz.prog 25 #[.string s] w fun e w' => e = .returned (.string s) ∧ ∃ q, w' = w.drewN q := by
  have HL := Lib.hid hl
  clear hl
  go_enter Tryz.func25, Tryz.ntmps25
  go_wp2
  go_loopg [3, 4, 5] s.size (fun n v3 v4 v5 wr => ∃ k : Nat, k ≤ s.size ∧ n = s.size - k ∧ v3 = .bool true ∧ v4 = .bool false ∧ v5 = .int .i64 k ∧ ∃ q, wr = w.drewN q)
  case atStart => exact ⟨0, Nat.zero_le _, rfl, rfl, rfl, rfl, 0, rfl⟩
  case round =>
    obtain ⟨k, hk, rfl, rfl, rfl, rfl, q, rfl⟩ := hrel
    by_cases hlt : k < s.size
    · obtain ⟨h1, h2⟩ := HL.out k hlt
      have hi0 : (0 : Int) ≤ (k : Int) := by omega
      have hi1 : (k : Int) < (s.size : Int) := by omega
      have hix : ∀ w, (Instr.index 9 (.string s) (.int .i64 k)).run Tryz.prog w = .ok (.int .u8 ((s[k]'hlt).toNat : Nat)) w := fun w => by rw [run_index_string w 9 s .i64 k Tryz.underlying9]; simp [hlt]
      have hc1 : ¬ (128 : Int) ≤ ((s[k]'hlt).toNat : Int) := by omega
      have hc2 : (65 : Int) ≤ ((s[k]'hlt).toNat : Int) := by omega
      have hc3 : ¬ ((s[k]'hlt).toNat : Int) ≤ 90 := by omega
      have HC := Lib.hid hlt
      generalize (s[k]'hlt).toNat = c at hix hc1 hc2 hc3
      go_wp2
      go_roundg (s.size - (k + 1))
      case measure => omega
      case rel => exact ⟨k + 1, by omega, rfl, rfl, rfl, by go_num, q, rfl⟩
    · obtain rfl : k = s.size := by omega
      go_wp2
      go_ret
      exact ⟨rfl, q, rfl⟩
end Go.Proofs.YtoekggbbkcmknaaGreatDoor
/- Light. -/
namespace Go.Proofs.YtoekggbbkcmknaaGreatDoor
open Go.RowKit
attribute [local go_sem ↓] zeroC_eq newC_eq loadC_eq storeC_eq buildC_eq zeroR_eq newR_eq loadR_eq storeR_eq buildR_eq
attribute [local go_sem] run_zeroC run_newC run_buildC0 run_buildC1 run_neqC run_eqlC run_guardC run_zeroR run_newR run_buildR0 run_buildR1 run_neqR run_eqlR run_guardR
/-- The longest text. -/
def longest (c : Cm) : Nat := max (max (max (max (max (max (max c.qn.size c.qd.size) c.bx.size) c.bp.size) c.bq.size) c.ex.size) c.key.size) c.body.size
theorem max_step (a b : Nat) : (if (b : Int) > (a : Int) then (b : Int) else (a : Int)) = ((max a b : Nat) : Int) := by
  by_cases h : (b : Int) > (a : Int)
  · rw [if_pos h, Nat.max_eq_right (by omega)]
  · rw [if_neg h, Nat.max_eq_left (by omega)]
theorem run_max2n (a b : Nat) (w : World) : (Builtin.max2 (.int .i64 a) (.int .i64 b)).run Tryz.prog w = .ok (.int .i64 ((max a b : Nat) : Int)) w := by
  rw [← max_step]
  simp [Builtin.max2]
theorem run_max8 (ts : Array TypeId) (t : TypeId) (a b c d e f g h : Nat) (w : World) :
    (Builtin.max_ ts t #[.int .i64 a, .int .i64 b, .int .i64 c, .int .i64 d, .int .i64 e, .int .i64 f, .int .i64 g, .int .i64 h]).run Tryz.prog w = .ok (.int .i64 ((max (max (max (max (max (max (max a b) c) d) e) f) g) h : Nat) : Int)) w := by
  simp only [Builtin.max_, List.foldlM_cons, List.foldlM_nil, Sem.run_bind, run_max2n, Result.andThen_ok]
  simp
set_option maxHeartbeats 800000 in
theorem light_any (c : Cm) (w : World) : Calls Tryz.prog 8 #[c.agg] w fun e w' => e = .returned (.bool (decide (longest c ≤ 2000))) ∧ Below w.heap.size w w' := by
  obtain ⟨k0, k1, k2, k3, k4, k5, k6, k7, k8, k9, k10, k11, k12, k13, k14, k15, k16, k17⟩ := (BxC.newC w c).all
  have hm := run_max8 #[3, 3, 3, 3, 3, 3, 3, 3] 3 c.qn.size c.qd.size c.bx.size c.bp.size c.bq.size c.ex.size c.key.size c.body.size
  have hlg : longest c = max (max (max (max (max (max (max c.qn.size c.qd.size) c.bx.size) c.bp.size) c.bq.size) c.ex.size) c.key.size) c.body.size := rfl
  rw [← hlg] at hm
  clear hlg
  generalize longest c = m at hm ⊢
  by_cases h : m ≤ 2000
  · have hi : (m : Int) ≤ 2000 := by omega
    rw [decide_eq_true h]
    clear h
    go_enter Tryz.func8, Tryz.ntmps8
    go_wp2
    go_ret
    exact ⟨rfl, below_alloc' _ _⟩
  · have hi : ¬ (m : Int) ≤ 2000 := by omega
    rw [decide_eq_false h]
    clear h
    go_enter Tryz.func8, Tryz.ntmps8
    go_wp2
    go_ret
    exact ⟨rfl, below_alloc' _ _⟩
end Go.Proofs.YtoekggbbkcmknaaGreatDoor
/- What is read would be written so: plain mathematics. -/
namespace Go.Proofs.YtoekggbbkcmknaaGreatDoor
open Go.RowKit
theorem ext_take (s : ByteArray) (k : Nat) : (s.extract 0 k).data.toList = s.data.toList.take k := by
  rw [ByteArray.data_extract, Array.toList_extract]; simp [List.extract]
theorem ext_drop (s : ByteArray) (k : Nat) : (s.extract k s.size).data.toList = s.data.toList.drop k := by
  rw [ByteArray.data_extract, Array.toList_extract]
  show List.take (s.size - k) (List.drop k s.data.toList) = _
  exact List.take_of_length_le (by rw [List.length_drop]; exact Nat.le_refl _)
theorem zero_ok (k : Int) (h0 : -9223372036854775808 ≤ k) (h1 : k < 9223372036854775808) : (Cm.zero k).ok :=
  ⟨h0, h1, show (0 : Nat) < _ by decide, show (0 : Nat) < _ by decide, show (0 : Nat) < _ by decide, show _ ≤ (0 : Int) by decide, show (0 : Int) < _ by decide, show (0 : Nat) < _ by decide, show (0 : Nat) < _ by decide, show (0 : Nat) < _ by decide, show (0 : Nat) < _ by decide⟩
theorem tk_inv {s : ByteArray} {e : Int} {k : Nat} (h : (tk s e k).2.2 = 0) : e = 0 ∧ s.data.toList = (tk s e k).1.data.toList ++ (tk s e k).2.1.data.toList ∧ (tk s e k).1.data.toList.length = k := by
  unfold tk at h ⊢
  split at h
  · rename_i h1; exact absurd h h1
  · rename_i h1
    split at h
    · exact absurd h (show (3 : Int) ≠ 0 by decide)
    · rename_i h2
      rw [if_neg h1, if_neg h2]
      have hk : k ≤ s.size := by omega
      refine ⟨Classical.not_not.1 h1, ?_, ?_⟩
      · simp only [Int.toNat_natCast]; rw [ext_take, ext_drop]; exact (List.take_append_drop k s.data.toList).symm
      · simp only [Int.toNat_natCast]
        have : (s.extract 0 k).data.toList.length = (s.extract 0 k).size := rfl
        rw [this, ByteArray.size_extract]; omega
theorem num_inv {s : ByteArray} {e : Int} {k : Nat} (h : (tk s e k).2.2 = 0) : e = 0 ∧ s.data.toList = Oc.big k (Oc.val (tk s e k).1.data.toList) ++ (tk s e k).2.1.data.toList := by
  obtain ⟨h1, h2, h3⟩ := tk_inv h
  exact ⟨h1, by rw [Oc.big_val k _ h3]; exact h2⟩
theorem txt_inv {s : ByteArray} {e : Int} {most : Nat} (h : (txt s e most).2.2 = 0) : e = 0 ∧ s.data.toList = Sg.txb (txt s e most).1 ++ (txt s e most).2.1.data.toList ∧ (txt s e most).1.size ≤ most := by
  rw [txt_eq] at h ⊢
  rw [show (if (0 : Int) ≤ (most : Int) then (most : Int) else 0) = (most : Int) from if_pos (by omega)] at h ⊢
  split at h
  · rename_i h1
    have h3 : (if (tk s e 4).2.2 = 0 then (5 : Int) else (tk s e 4).2.2) = 0 := h
    split at h3
    · exact absurd h3 (by decide)
    · rename_i h2; exact absurd h3 h2
  · rename_i h1
    rw [if_neg h1]
    obtain ⟨a1, a2, a3⟩ := tk_inv h
    obtain ⟨b1, b2⟩ := num_inv (k := 4) a1
    have hsz : (tk (tk s e (4 : Nat)).2.1 (tk s e (4 : Nat)).2.2 (Oc.val (tk s e (4 : Nat)).1.data.toList)).1.size = Oc.val (tk s e (4 : Nat)).1.data.toList := a3
    refine ⟨b1, ?_, ?_⟩
    · unfold Sg.txb
      have hz : (tk (tk s e 4).2.1 (tk s e 4).2.2 (Oc.val (tk s e 4).1.data.toList)).1.size = Oc.val (tk s e 4).1.data.toList := hsz
      rw [hz, List.append_assoc]
      exact b2.trans (congrArg _ a2)
    · have hz : (tk (tk s e 4).2.1 (tk s e 4).2.2 (Oc.val (tk s e 4).1.data.toList)).1.size = Oc.val (tk s e 4).1.data.toList := hsz
      rw [hz]; omega
/-- What a part's reading tells, where it ends well. -/
structure Told (s : Sg) (T : Cm × ByteArray × Int) : Prop where
  e0 : T.2.2 = 0
  bytes : T.2.1.data.toList = s.enc (s.read T).1 ++ (s.read T).2.1.data.toList
  short : s.long (s.read T).1 = false
theorem told_tx {s : Sg} {T : Cm × ByteArray × Int} (f : Cm → ByteArray) (hr : ∀ T, s.read T = ((s.read T).1, (txt T.2.1 T.2.2 s.most).2.1, (txt T.2.1 T.2.2 s.most).2.2)) (hf : f (s.read T).1 = (txt T.2.1 T.2.2 s.most).1)
    (he : ∀ c, s.enc c = Sg.txb (f c)) (hl : ∀ c, s.long c = decide (s.most < (f c).size)) (h : (s.read T).2.2 = 0) : Told s T := by
  have h1 : (txt T.2.1 T.2.2 s.most).2.2 = 0 := by have := congrArg (fun x => x.2.2) (hr T); exact this.symm.trans h
  have h2 : (s.read T).2.1 = (txt T.2.1 T.2.2 s.most).2.1 := congrArg (fun x => x.2.1) (hr T)
  obtain ⟨a, b, c⟩ := txt_inv h1
  refine ⟨a, ?_, ?_⟩
  · rw [he, hf, h2]; exact b
  · rw [hl, hf]; exact decide_eq_false (by omega)
theorem told_num {s : Sg} {T : Cm × ByteArray × Int} (k : Nat) (f : Cm → Nat) (hr : ∀ T, s.read T = ((s.read T).1, (tk T.2.1 T.2.2 k).2.1, (tk T.2.1 T.2.2 k).2.2)) (hf : f (s.read T).1 = Oc.val (tk T.2.1 T.2.2 k).1.data.toList)
    (he : ∀ c, s.enc c = Oc.big k (f c)) (hl : ∀ c, s.long c = false) (h : (s.read T).2.2 = 0) : Told s T := by
  have h1 : (tk T.2.1 T.2.2 k).2.2 = 0 := by have := congrArg (fun x => x.2.2) (hr T); exact this.symm.trans h
  have h2 : (s.read T).2.1 = (tk T.2.1 T.2.2 k).2.1 := congrArg (fun x => x.2.1) (hr T)
  obtain ⟨a, b⟩ := num_inv h1
  exact ⟨a, by rw [he, hf, h2]; exact b, hl _⟩
theorem wrap_byte (n : Nat) (h : n < 256) : (IntKind.u8.wrap (n : Int)).toNat = n := by
  have hw : IntKind.u8.wrap (n : Int) = n := by unfold IntKind.wrap; simp [IntKind.signed, IntKind.bits]; omega
  rw [hw]; rfl
theorem sgTold (s : Sg) (T : Cm × ByteArray × Int) (h : (s.read T).2.2 = 0) : Told s T := by
  cases s
  case q => exact told_tx (s := .q) (·.qn) (fun _ => rfl) rfl (fun _ => rfl) (fun _ => rfl) h
  case d => exact told_tx (s := .d) (·.qd) (fun _ => rfl) rfl (fun _ => rfl) (fun _ => rfl) h
  case E => exact told_tx (s := .E) (·.bx) (fun _ => rfl) rfl (fun _ => rfl) (fun _ => rfl) h
  case P => exact told_tx (s := .P) (·.bp) (fun _ => rfl) rfl (fun _ => rfl) (fun _ => rfl) h
  case Q => exact told_tx (s := .Q) (·.bq) (fun _ => rfl) rfl (fun _ => rfl) (fun _ => rfl) h
  case e => exact told_tx (s := .e) (·.ex) (fun _ => rfl) rfl (fun _ => rfl) (fun _ => rfl) h
  case k => exact told_tx (s := .k) (·.key) (fun _ => rfl) rfl (fun _ => rfl) (fun _ => rfl) h
  case b => exact told_tx (s := .b) (·.body) (fun _ => rfl) rfl (fun _ => rfl) (fun _ => rfl) h
  case m => exact told_num (s := .m) 4 (·.most) (fun _ => rfl) rfl (fun _ => rfl) (fun _ => rfl) h
  case r => exact told_num (s := .r) 4 (·.tries) (fun _ => rfl) rfl (fun _ => rfl) (fun _ => rfl) h
  case l => exact told_num (s := .l) 8 (·.ttl) (fun _ => rfl) rfl (fun _ => rfl) (fun _ => rfl) h
  case i => exact told_num (s := .i) 8 (·.id) (fun _ => rfl) rfl (fun _ => rfl) (fun _ => rfl) h
  case o => exact told_num (s := .o) 8 (·.token) (fun _ => rfl) rfl (fun _ => rfl) (fun _ => rfl) h
  case n => exact told_num (s := .n) 8 (·.n) (fun _ => rfl) rfl (fun _ => rfl) (fun _ => rfl) h
  case t => exact told_num (s := .t) 8 (·.time) (fun _ => rfl) rfl (fun _ => rfl) (fun _ => rfl) h
  case K =>
    have hb : Oc.val (tk T.2.1 T.2.2 1).1.data.toList < 256 := vlt _ _ 1
    exact told_num (s := .K) 1 (fun c => (IntKind.u8.wrap c.bk).toNat) (fun _ => rfl) (wrap_byte _ hb) (fun _ => rfl) (fun _ => rfl) h
  case x =>
    have h1 : (if 1 < Oc.val (tk T.2.1 T.2.2 (1 : Nat)).1.data.toList then (if (tk T.2.1 T.2.2 (1 : Nat)).2.2 = 0 then 4 else (tk T.2.1 T.2.2 (1 : Nat)).2.2) else (tk T.2.1 T.2.2 (1 : Nat)).2.2) = 0 := h
    split at h1
    · split at h1
      · exact absurd h1 (by decide)
      · rename_i h2; exact absurd h1 h2
    · rename_i h2
      obtain ⟨a, b⟩ := num_inv h1
      refine ⟨a, ?_, rfl⟩
      show _ = Oc.big 1 (if decide (Oc.val (tk T.2.1 T.2.2 (1 : Nat)).1.data.toList = 1) then 1 else 0) ++ (tk T.2.1 T.2.2 (1 : Nat)).2.1.data.toList
      rw [b]
      congr 2
      have hx : ∀ n : Nat, ¬ 1 < n → n = if decide (n = 1) then 1 else 0 := by
        intro n hn
        by_cases h : n = 1
        · subst h; rfl
        · have : n = 0 := by omega
          subst this; rfl
      exact hx _ h2
/-- A reading of one part leaves the other parts. -/
theorem val_other {s u : Sg} (hne : s ≠ u) (T : Cm × ByteArray × Int) : s.val (u.read T).1 = s.val T.1 := by
  cases s <;> cases u <;> first | exact absurd rfl hne | rfl
theorem enc_val {s : Sg} {a b : Cm} (h : s.val a = s.val b) : s.enc a = s.enc b ∧ s.long a = s.long b ∧ ∀ z, s.hand z a = s.hand z b := by
  have tx : ∀ {x y : ByteArray}, Value.string x = .string y → x = y := fun h => by injection h
  have it : ∀ {k : IntKind} {x y : Int}, Value.int k x = .int k y → x = y := fun h => by injection h
  have nt : ∀ {k : IntKind} {x y : Nat}, Value.int k x = .int k y → x = y := fun h => by have := it h; omega
  have bt : ∀ {x y : Bool}, Value.bool x = .bool y → x = y := fun h => by injection h
  cases s
  case q => have e : a.qn = b.qn := tx h; simp only [Sg.enc, Sg.long, Sg.hand, e, and_self, implies_true]
  case d => have e : a.qd = b.qd := tx h; simp only [Sg.enc, Sg.long, Sg.hand, e, and_self, implies_true]
  case E => have e : a.bx = b.bx := tx h; simp only [Sg.enc, Sg.long, Sg.hand, e, and_self, implies_true]
  case P => have e : a.bp = b.bp := tx h; simp only [Sg.enc, Sg.long, Sg.hand, e, and_self, implies_true]
  case Q => have e : a.bq = b.bq := tx h; simp only [Sg.enc, Sg.long, Sg.hand, e, and_self, implies_true]
  case e => have e : a.ex = b.ex := tx h; simp only [Sg.enc, Sg.long, Sg.hand, e, and_self, implies_true]
  case k => have e : a.key = b.key := tx h; simp only [Sg.enc, Sg.long, Sg.hand, e, and_self, implies_true]
  case b => have e : a.body = b.body := tx h; simp only [Sg.enc, Sg.long, Sg.hand, e, and_self, implies_true]
  case m => have e : a.most = b.most := nt h; simp only [Sg.enc, Sg.long, Sg.hand, e, and_self, implies_true]
  case r => have e : a.tries = b.tries := nt h; simp only [Sg.enc, Sg.long, Sg.hand, e, and_self, implies_true]
  case l => have e : a.ttl = b.ttl := nt h; simp only [Sg.enc, Sg.long, Sg.hand, e, and_self, implies_true]
  case i => have e : a.id = b.id := nt h; simp only [Sg.enc, Sg.long, Sg.hand, e, and_self, implies_true]
  case o => have e : a.token = b.token := nt h; simp only [Sg.enc, Sg.long, Sg.hand, e, and_self, implies_true]
  case n => have e : a.n = b.n := nt h; simp only [Sg.enc, Sg.long, Sg.hand, e, and_self, implies_true]
  case t => have e : a.time = b.time := nt h; simp only [Sg.enc, Sg.long, Sg.hand, e, and_self, implies_true]
  case K => have e : a.bk = b.bk := it h; simp only [Sg.enc, Sg.long, Sg.hand, e, and_self, implies_true]
  case x => have e : a.dead = b.dead := bt h; simp only [Sg.enc, Sg.long, Sg.hand, e, and_self, implies_true]
theorem vals_other {s : Sg} : ∀ (l : List Sg) (_ : s ∉ l) (T : Cm × ByteArray × Int), s.val (readL l T).1 = s.val T.1
  | [], _, _ => rfl
  | u :: l, h, T => by
    show s.val (readL l (u.read T)).1 = _
    rw [vals_other l (fun hm => h (by simp [hm])) _, val_other (fun he => h (by simp [he])) T]
theorem val_hand (s : Sg) (z c : Cm) : s.val (s.hand z c) = s.val c := by cases s <;> rfl
theorem read_hand (s : Sg) (T : Cm × ByteArray × Int) : (s.read T).1 = s.hand T.1 (rd s T.2.1 T.2.2) := congrArg (·.1) (read_eq s T.1 T.2.1 T.2.2)
/-- What is read sign by sign. -/
theorem readL_inv : ∀ (l : List Sg) (_ : l.Nodup) (T : Cm × ByteArray × Int) (_ : (readL l T).2.2 = 0),
    T.2.2 = 0 ∧ T.2.1.data.toList = (l.flatMap fun s => s.enc (readL l T).1) ++ (readL l T).2.1.data.toList ∧ (∀ s ∈ l, s.long (readL l T).1 = false) ∧ (readL l T).1 = l.foldl (fun u s => s.hand u (readL l T).1) T.1
  | [], _, T, h => ⟨h, rfl, by simp, rfl⟩
  | s :: l, hn, T, h => by
    obtain ⟨hs, hn'⟩ := List.nodup_cons.1 hn
    have h' : (readL l (s.read T)).2.2 = 0 := h
    obtain ⟨a, b, c, d⟩ := readL_inv l hn' (s.read T) h'
    have ht := sgTold s T a
    have hv : s.val (readL l (s.read T)).1 = s.val (s.read T).1 := vals_other l hs _
    obtain ⟨e1, e2, e3⟩ := enc_val hv
    show _ ∧ T.2.1.data.toList = (List.flatMap (fun s' => s'.enc (readL l (s.read T)).1) (s :: l)) ++ (readL l (s.read T)).2.1.data.toList ∧ (∀ s' ∈ s :: l, s'.long (readL l (s.read T)).1 = false) ∧ (readL l (s.read T)).1 = List.foldl (fun u s' => s'.hand u (readL l (s.read T)).1) T.1 (s :: l)
    refine ⟨ht.e0, ?_, ?_, ?_⟩
    · rw [ht.bytes, b, List.flatMap_cons, List.append_assoc, e1]
    · intro s' hm
      rcases List.mem_cons.1 hm with rfl | hm
      · rw [e2]; exact ht.short
      · exact c s' hm
    · have h3 : s.hand T.1 (readL l (s.read T)).1 = (s.read T).1 := by
        rw [e3, read_hand]
        have h4 : s.val (s.hand T.1 (rd s T.2.1 T.2.2)) = s.val (rd s T.2.1 T.2.2) := val_hand _ _ _
        exact (enc_val h4).2.2 T.1
      rw [List.foldl_cons, h3]
      exact d
theorem form_nodup (k : Int) : (form k).Nodup := by
  unfold form
  repeat' split
  all_goals decide
theorem ok_read (s : Sg) (T : Cm × ByteArray × Int) (h : T.1.ok ∧ 0 ≤ T.1.bk ∧ T.1.bk ≤ 255) : (s.read T).1.ok ∧ 0 ≤ (s.read T).1.bk ∧ (s.read T).1.bk ≤ 255 := by
  obtain ⟨⟨h1, h2, h3, h4, h5, h6, h7, h8, h9, h10, h11⟩, g1, g2⟩ := h
  have v4 : ∀ s e, Oc.val (tk s e 4).1.data.toList < 4294967296 := fun s e => vlt s e 4
  have v8 : ∀ s e, Oc.val (tk s e 8).1.data.toList < 18446744073709551616 := fun s e => vlt s e 8
  have v1 : ∀ s e, Oc.val (tk s e 1).1.data.toList < 256 := fun s e => vlt s e 1
  cases s
  case m => exact ⟨⟨h1, h2, v4 _ _, h4, h5, h6, h7, h8, h9, h10, h11⟩, g1, g2⟩
  case l => exact ⟨⟨h1, h2, h3, v8 _ _, h5, h6, h7, h8, h9, h10, h11⟩, g1, g2⟩
  case r => exact ⟨⟨h1, h2, h3, h4, v4 _ _, h6, h7, h8, h9, h10, h11⟩, g1, g2⟩
  case i => exact ⟨⟨h1, h2, h3, h4, h5, h6, h7, v8 _ _, h9, h10, h11⟩, g1, g2⟩
  case o => exact ⟨⟨h1, h2, h3, h4, h5, h6, h7, h8, v8 _ _, h10, h11⟩, g1, g2⟩
  case n => exact ⟨⟨h1, h2, h3, h4, h5, h6, h7, h8, h9, v8 _ _, h11⟩, g1, g2⟩
  case t => exact ⟨⟨h1, h2, h3, h4, h5, h6, h7, h8, h9, h10, v8 _ _⟩, g1, g2⟩
  case K =>
    have hv := v1 T.2.1 T.2.2
    have hb : (Sg.K.read T).1.bk = ((Oc.val (tk T.2.1 T.2.2 1).1.data.toList : Nat) : Int) := rfl
    exact ⟨⟨h1, h2, h3, h4, h5, by rw [hb]; omega, by rw [hb]; omega, h8, h9, h10, h11⟩, by rw [hb]; omega, by rw [hb]; omega⟩
  all_goals exact ⟨⟨h1, h2, h3, h4, h5, h6, h7, h8, h9, h10, h11⟩, g1, g2⟩
theorem ok_readL : ∀ (l : List Sg) (T : Cm × ByteArray × Int) (_ : T.1.ok ∧ 0 ≤ T.1.bk ∧ T.1.bk ≤ 255), (readL l T).1.ok ∧ 0 ≤ (readL l T).1.bk ∧ (readL l T).1.bk ≤ 255
  | [], _, h => h
  | s :: l, T, h => ok_readL l (s.read T) (ok_read s T h)
theorem kind_readL : ∀ (l : List Sg) (T : Cm × ByteArray × Int), (readL l T).1.kind = T.1.kind
  | [], _ => rfl
  | s :: l, T => (kind_readL l (s.read T)).trans (by cases s <;> rfl)
/-- What is read is right, and what it would be written as. -/
theorem readR_inv (s : ByteArray) (h : (readR s 0).2.2 = 0) : (readR s 0).1.ok ∧ wrongC (readR s 0).1 = 0 ∧ s.data.toList = encC (readR s 0).1 ++ (readR s 0).2.1.data.toList := by
  have hv : Oc.val (tk s 0 (1 : Nat)).1.data.toList < 256 := vlt _ _ 1
  unfold readR at h ⊢
  simp only at h ⊢
  split at h
  · rename_i hk
    rw [if_pos hk]
    obtain ⟨a, b, c, d⟩ := readL_inv _ (form_nodup _) _ h
    obtain ⟨a1, a2⟩ := num_inv (k := 1) a
    have hkd := kind_readL (form ((Oc.val (tk s 0 1).1.data.toList : Nat) : Int)) (Cm.zero ((Oc.val (tk s 0 1).1.data.toList : Nat) : Int), (tk s 0 1).2.1, (tk s 0 1).2.2)
    have hok := ok_readL (form ((Oc.val (tk s 0 1).1.data.toList : Nat) : Int)) (Cm.zero ((Oc.val (tk s 0 1).1.data.toList : Nat) : Int), (tk s 0 1).2.1, (tk s 0 1).2.2)
      ⟨zero_ok _ (by omega) (by have : Oc.val (tk s 0 1).1.data.toList < 256 := hv; omega), show (0 : Int) ≤ 0 by decide, show (0 : Int) ≤ 255 by decide⟩
    generalize readL (form ((Oc.val (tk s 0 1).1.data.toList : Nat) : Int)) (Cm.zero ((Oc.val (tk s 0 1).1.data.toList : Nat) : Int), (tk s 0 1).2.1, (tk s 0 1).2.2) = R at b c d hkd hok ⊢
    have hkind : R.1.kind = ((Oc.val (tk s 0 (1 : Nat)).1.data.toList : Nat) : Int) := hkd
    obtain ⟨hok1, hok2, hok3⟩ := hok
    refine ⟨hok1, ?_, ?_⟩
    · unfold wrongC
      have hkn : known R.1.kind = true := by rw [hkind]; exact hk
      have htold : R.1 = told R.1 := by unfold told; rw [hkind]; exact d
      rw [if_neg (by rw [hkn]; decide), if_neg (by
        rintro (h1 | h1 | h1)
        · exact h1 htold
        · omega
        · omega), if_neg ?_]
      rw [hkind]
      simp only [List.any_eq_true, not_exists, not_and, Bool.not_eq_true]
      exact c
    · unfold encC
      rw [hkind, Int.toNat_natCast, List.append_assoc]
      exact a2.trans (congrArg _ b)
  · simp only at h
    split at h
    · exact absurd h (by decide)
    · rename_i h2; exact absurd h h2
/-- What Parse answers well is written as it was. -/
theorem parse_back (s : ByteArray) (h : (parseD s).2 = 0) : (parseD s).1.ok ∧ bytesC (parseD s).1 = (s, 0) := by
  unfold parseD at h ⊢
  simp only at h ⊢
  split at h
  · rename_i hf
    rw [if_pos hf]
    have h0 := fin_zero hf
    obtain ⟨h1, h2, h3⟩ := readR_inv s h0
    refine ⟨h1, ?_⟩
    unfold bytesC
    rw [if_pos h2]
    have hr : (readR s 0).2.1.data.toList = [] := by
      unfold fin at hf
      split at hf
      · exact absurd hf (by decide)
      · rename_i hx
        have hz : ¬ 0 < (readR s 0).2.1.size := fun hz => hx ⟨h0, hz⟩
        have hl : (readR s 0).2.1.data.toList.length = (readR s 0).2.1.size := rfl
        exact List.length_eq_zero_iff.1 (by omega)
    rw [hr, List.append_nil] at h3
    rw [← h3, str_eq]
  · rename_i hf; exact absurd h hf
end Go.Proofs.YtoekggbbkcmknaaGreatDoor
/- The chapter's example. -/
namespace Go.Proofs.YtoekggbbkcmknaaGreatDoor
open Go.RowKit
def exC : Cm := ⟨11, ⟨#[]⟩, 0, 0, 0, ⟨#[]⟩, ⟨#[]⟩, 0, ⟨#[]⟩, ⟨#[]⟩, ⟨#[]⟩, ⟨#[]⟩, ⟨#[]⟩, 0, 0, 0, 1, false⟩
theorem ex_ok : exC.ok := ⟨by decide, by decide, by decide, by decide, by decide, by decide, by decide, by decide, by decide, by decide, by decide⟩
theorem ex_bytes : bytesC exC = (⟨#[11, 0, 0, 0, 0, 0, 0, 0, 1]⟩, 0) := by decide +kernel
theorem ex_read : readG ⟨#[11, 0, 0, 0, 0, 0, 0, 0, 1]⟩ = (exC, 0) := by decide +kernel
theorem run_buildEx (w : World) : (buildC #[(0, .int .i64 11), (9, .int .u64 1)]).run Tryz.prog w = .ok exC.agg w := by
  unfold buildC
  simp [go_sem]
  rfl
attribute [local go_sem ↓] zeroC_eq newC_eq loadC_eq storeC_eq buildC_eq zeroR_eq newR_eq loadR_eq storeR_eq buildR_eq
attribute [local go_sem] run_zeroC run_newC run_buildC0 run_buildC1 run_neqC run_eqlC run_guardC run_zeroR run_newR run_buildR0 run_buildR1 run_neqR run_eqlR run_guardR
attribute [local go_sem ↓] bslC_eq bslR_eq
attribute [local go_sem] run_bslC run_bslR
attribute [local go_sem] run_buildEx
set_option maxHeartbeats 400000 in
theorem awake_any (w : World) (hF : Forms w) : Calls Tryz.prog 6 #[] w fun e w' => e = .returned (.bool true) ∧ Below w.heap.size w w' := by
  have HF := Lib.hid hF
  have HB := Lib.hid (fun W (hV : Forms W) => bytes_any exC ex_ok W hV)
  rw [ex_bytes] at HB
  have HP := Lib.hid (fun W (hV : Forms W) => parse_any ⟨#[11, 0, 0, 0, 0, 0, 0, 0, 1]⟩ W hV)
  rw [ex_read] at HP
  clear hF
  go_enter Tryz.func6, Tryz.ntmps6
  go_wp2_with (first
    | (go_at_call 10; refine (HB.out _ HF.out).mono ?_; rintro e w1 ⟨rfl, hb1⟩)
    | (go_at_call 13; refine (HP.out _ (HF.out.below hb1 HF.out.lt)).mono ?_; rintro e w2 ⟨rfl, hb2⟩; have hn := BxC.newC w2 (Cm.zero 0); have hst := run_storeC hn exC; obtain ⟨hn2, hu2⟩ := hn.stored exC; have k0 := hn2.cell 0 (.int .i64 11) rfl; have k16 := hn2.cell 16 (.int .u64 1) rfl))
  go_ret
  exact ⟨rfl, ((below_step hb1 hb2).alloc (below_step hb1 hb2).size _).trans (hu2.below (below_step hb1 hb2).size)⟩
end Go.Proofs.YtoekggbbkcmknaaGreatDoor
/- Any bytes: the law of reading. -/
namespace Go.Proofs.YtoekggbbkcmknaaGreatDoor
open Go.RowKit
attribute [local go_sem ↓] zeroC_eq newC_eq loadC_eq storeC_eq buildC_eq zeroR_eq newR_eq loadR_eq storeR_eq buildR_eq
attribute [local go_sem] run_zeroC run_newC run_buildC0 run_buildC1 run_neqC run_eqlC run_guardC run_zeroR run_newR run_buildR0 run_buildR1 run_neqR run_eqlR run_guardR
attribute [local go_sem ↓] bslC_eq bslR_eq
attribute [local go_sem] run_bslC run_bslR
theorem BxC.belowB {w w' : World} {g B : Nat} {c : Cm} (h : BxC w g c) (hb : Below B w w') (hlt : g < B) : BxC w' g c := by
  have hc : ∀ (j : Nat) v, c.vals[j]? = some v → w'.cell? ⟨g, j, none⟩ = some v := fun j v hv => (hb.cell (p := ⟨g, j, none⟩) hlt).trans (h.cell j v hv)
  exact ⟨World.block_lt_of_cell? _ _ (hc 0 _ rfl), hc, fun j hj => (hb.frozen (p := ⟨g, j, none⟩) hlt).trans (h.free j hj)⟩
theorem BxC.modN {w w' : World} {g b : Nat} {c : Cm} (h : BxC w g c) (m : Mod b w w') (hne : g ≠ b) : BxC w' g c := by
  have hc : ∀ (j : Nat) v, c.vals[j]? = some v → w'.cell? ⟨g, j, none⟩ = some v := fun j v hv => (m.cell (p := ⟨g, j, none⟩) h.lt hne).trans (h.cell j v hv)
  exact ⟨World.block_lt_of_cell? _ _ (hc 0 _ rfl), hc, fun j hj => (m.frozen (p := ⟨g, j, none⟩) h.lt hne).trans (h.free j hj)⟩
theorem stashC (w : World) (c : Cm) : (storeC ⟨w.heap.size, 0, none⟩ c.agg).run Tryz.prog (w.alloc (objC (Cm.zero 0))) = .ok () (setFrom (w.alloc (objC (Cm.zero 0))) w.heap.size 0 c.vals) ∧
    BxC (setFrom (w.alloc (objC (Cm.zero 0))) w.heap.size 0 c.vals) w.heap.size c ∧ Below w.heap.size w (setFrom (w.alloc (objC (Cm.zero 0))) w.heap.size 0 c.vals) := by
  have hn := BxC.newC w (Cm.zero 0)
  obtain ⟨h1, h2⟩ := hn.stored c
  exact ⟨run_storeC hn c, h1, ((Below.refl _ _).alloc (Nat.le_refl _) _).trans (h2.below (Nat.le_refl _))⟩
theorem stashR (w : World) (c : Cm) : (storeR ⟨w.heap.size, 0, none⟩ c.agg).run Tryz.prog (w.alloc (objR (Cm.zero 0))) = .ok () (setFrom (w.alloc (objR (Cm.zero 0))) w.heap.size 0 c.vals) ∧
    BxC (setFrom (w.alloc (objR (Cm.zero 0))) w.heap.size 0 c.vals) w.heap.size c ∧ Below w.heap.size w (setFrom (w.alloc (objR (Cm.zero 0))) w.heap.size 0 c.vals) := by
  have hn := BxC.newR w (Cm.zero 0)
  obtain ⟨h1, h2⟩ := hn.stored c
  exact ⟨run_storeR hn c, h1, ((Below.refl _ _).alloc (Nat.le_refl _) _).trans (h2.below (Nat.le_refl _))⟩
theorem stash2 (w : World) (c d : Cm) : (storeC ⟨w.heap.size, 0, none⟩ c.agg).run Tryz.prog ((w.alloc (objC (Cm.zero 0))).alloc (objR (Cm.zero 0))) = .ok () (setFrom ((w.alloc (objC (Cm.zero 0))).alloc (objR (Cm.zero 0))) w.heap.size 0 c.vals) ∧
    (storeR ⟨w.heap.size + 1, 0, none⟩ d.agg).run Tryz.prog (setFrom ((w.alloc (objC (Cm.zero 0))).alloc (objR (Cm.zero 0))) w.heap.size 0 c.vals) = .ok () (setFrom (setFrom ((w.alloc (objC (Cm.zero 0))).alloc (objR (Cm.zero 0))) w.heap.size 0 c.vals) (w.heap.size + 1) 0 d.vals) ∧
    BxC (setFrom (setFrom ((w.alloc (objC (Cm.zero 0))).alloc (objR (Cm.zero 0))) w.heap.size 0 c.vals) (w.heap.size + 1) 0 d.vals) w.heap.size c ∧
    BxC (setFrom (setFrom ((w.alloc (objC (Cm.zero 0))).alloc (objR (Cm.zero 0))) w.heap.size 0 c.vals) (w.heap.size + 1) 0 d.vals) (w.heap.size + 1) d ∧
    Below w.heap.size w (setFrom (setFrom ((w.alloc (objC (Cm.zero 0))).alloc (objR (Cm.zero 0))) w.heap.size 0 c.vals) (w.heap.size + 1) 0 d.vals) := by
  have hn := (BxC.newC w (Cm.zero 0)).alloc (objR (Cm.zero 0))
  have hm := BxC.newR (w.alloc (objC (Cm.zero 0))) (Cm.zero 0)
  rw [World.size_alloc] at hm
  obtain ⟨h1, h2⟩ := hn.stored c
  have hm := hm.upd h2 (by omega)
  obtain ⟨h3, h4⟩ := hm.stored d
  exact ⟨run_storeC hn c, run_storeR hm d, h1.upd h4 (by omega), h3, ((((Below.refl _ _).alloc (Nat.le_refl _) _).alloc (by simp) _).trans (h2.below (Nat.le_refl _))).trans (h4.below (by omega))⟩
def Hd (ga gb gx gy rb qb : Nat) (pc xc yc : Cm) (s2 : ByteArray) (e2 : Int) (u w : World) : Prop :=
  BxC w ga pc ∧ BxC w gb pc ∧ BxC w gx xc ∧ BxC w gy yc ∧ Rd w rb s2 e2 ∧ Rd w qb s2 e2 ∧ Below u.heap.size u w
section
variable {ga gb gx gy rb qb : Nat} {pc xc yc : Cm} {s2 : ByteArray} {e2 : Int} {u w w' : World}
theorem hdS (h : Hd ga gb gx gy rb qb pc xc yc s2 e2 u w) :
    (loadC ⟨ga, 0, none⟩).run Tryz.prog w = .ok pc.agg w ∧ (loadR ⟨gb, 0, none⟩).run Tryz.prog w = .ok pc.agg w ∧ (loadC ⟨gx, 0, none⟩).run Tryz.prog w = .ok xc.agg w ∧ (loadR ⟨gy, 0, none⟩).run Tryz.prog w = .ok yc.agg w ∧
    w.cell? ⟨qb, 0, none⟩ = some (.string s2) ∧ w.cell? ⟨qb, 1, none⟩ = some (.int .i64 e2) ∧ Hid (Hd ga gb gx gy rb qb pc xc yc s2 e2 u w) :=
  ⟨run_loadC h.1, run_loadR h.2.1, run_loadC h.2.2.1, run_loadR h.2.2.2.1, h.2.2.2.2.2.1.c0, h.2.2.2.2.2.1.c1, Lib.hid h⟩
theorem hdStep (h : Hd ga gb gx gy rb qb pc xc yc s2 e2 u w) (hb : Below w.heap.size w w') : Hd ga gb gx gy rb qb pc xc yc s2 e2 u w' := by
  obtain ⟨h1, h2, h3, h4, h5, h6, h7⟩ := h
  exact ⟨h1.belowB hb h1.lt, h2.belowB hb h2.lt, h3.belowB hb h3.lt, h4.belowB hb h4.lt, h5.below hb, h6.below hb, below_step h7 hb⟩
theorem sStep (h : (loadC ⟨ga, 0, none⟩).run Tryz.prog w = .ok pc.agg w ∧ (loadR ⟨gb, 0, none⟩).run Tryz.prog w = .ok pc.agg w ∧ (loadC ⟨gx, 0, none⟩).run Tryz.prog w = .ok xc.agg w ∧ (loadR ⟨gy, 0, none⟩).run Tryz.prog w = .ok yc.agg w ∧
    w.cell? ⟨qb, 0, none⟩ = some (.string s2) ∧ w.cell? ⟨qb, 1, none⟩ = some (.int .i64 e2) ∧ Hid (Hd ga gb gx gy rb qb pc xc yc s2 e2 u w)) (hb : Below w.heap.size w w') :
    (loadC ⟨ga, 0, none⟩).run Tryz.prog w' = .ok pc.agg w' ∧ (loadR ⟨gb, 0, none⟩).run Tryz.prog w' = .ok pc.agg w' ∧ (loadC ⟨gx, 0, none⟩).run Tryz.prog w' = .ok xc.agg w' ∧ (loadR ⟨gy, 0, none⟩).run Tryz.prog w' = .ok yc.agg w' ∧
    w'.cell? ⟨qb, 0, none⟩ = some (.string s2) ∧ w'.cell? ⟨qb, 1, none⟩ = some (.int .i64 e2) ∧ Hid (Hd ga gb gx gy rb qb pc xc yc s2 e2 u w') := hdS (hdStep h.2.2.2.2.2.2.out hb)
theorem errS (h : Hid (Hd ga gb gx gy rb qb pc xc yc s2 e2 u w)) :
    Calls Tryz.prog 22 #[.pointer (some ⟨rb, 0, none⟩)] w fun x w' => x = .returned (.int .i64 e2) ∧ w = w' := err_any rb s2 e2 w h.out.2.2.2.2.1
theorem leftS (h : Hid (Hd ga gb gx gy rb qb pc xc yc s2 e2 u w)) :
    Calls Tryz.prog 23 #[.pointer (some ⟨rb, 0, none⟩)] w fun x w' => x = .returned (.int .i64 s2.size) ∧ w = w' := left_any rb s2 e2 w h.out.2.2.2.2.1
theorem errT (h : (loadC ⟨ga, 0, none⟩).run Tryz.prog w = .ok pc.agg w ∧ (loadR ⟨gb, 0, none⟩).run Tryz.prog w = .ok pc.agg w ∧ (loadC ⟨gx, 0, none⟩).run Tryz.prog w = .ok xc.agg w ∧ (loadR ⟨gy, 0, none⟩).run Tryz.prog w = .ok yc.agg w ∧
    w.cell? ⟨qb, 0, none⟩ = some (.string s2) ∧ w.cell? ⟨qb, 1, none⟩ = some (.int .i64 e2) ∧ Hid (Hd ga gb gx gy rb qb pc xc yc s2 e2 u w)) :
    Calls Tryz.prog 22 #[.pointer (some ⟨rb, 0, none⟩)] w fun x w' => x = .returned (.int .i64 e2) ∧ w = w' := errS h.2.2.2.2.2.2
theorem leftT (h : (loadC ⟨ga, 0, none⟩).run Tryz.prog w = .ok pc.agg w ∧ (loadR ⟨gb, 0, none⟩).run Tryz.prog w = .ok pc.agg w ∧ (loadC ⟨gx, 0, none⟩).run Tryz.prog w = .ok xc.agg w ∧ (loadR ⟨gy, 0, none⟩).run Tryz.prog w = .ok yc.agg w ∧
    w.cell? ⟨qb, 0, none⟩ = some (.string s2) ∧ w.cell? ⟨qb, 1, none⟩ = some (.int .i64 e2) ∧ Hid (Hd ga gb gx gy rb qb pc xc yc s2 e2 u w)) :
    Calls Tryz.prog 23 #[.pointer (some ⟨rb, 0, none⟩)] w fun x w' => x = .returned (.int .i64 s2.size) ∧ w = w' := leftS h.2.2.2.2.2.2
end
theorem same2 (u v : Value) (l : List Cm) (hl : l.length ≤ 64) (w : World) (hu : SlG Cm.vals 18 w u l) (hv : SlG Cm.vals 18 w v l) :
    Calls Tryz.prog 20 #[u, v] w fun e w' => e = .returned (.bool true) ∧ Below w.heap.size w w' := by
  have h := same_any u v l l (by omega) w hu hv
  rwa [decide_eq_true rfl] at h
theorem rdMod {w w' : World} {b c : Nat} {s : ByteArray} {e : Int} (h : Rd w b s e) (m : Mod c w w') (hlt : b < w.heap.size) (hne : b ≠ c) : Rd w' b s e := by
  obtain ⟨c0, c1, f0, f1⟩ := h
  constructor
  · rw [m.cell hlt hne]; exact c0
  · rw [m.cell hlt hne]; exact c1
  · rw [m.frozen hlt hne]; exact f0
  · rw [m.frozen hlt hne]; exact f1
theorem getsD_len : ∀ (n : Nat) (s : ByteArray) (e : Int), (getsD n s e).1.length ≤ n
  | 0, _, _ => by simp [getsD]
  | n + 1, s, e => by
    by_cases h : e = 0
    · subst h
      rw [getsD_succ]
      have := getsD_len n (readR s 0).2.1 (readR s 0).2.2
      simp only [List.length_cons]
      omega
    · rw [getsD_bad _ _ _ h]; simp
theorem listD_len (s : ByteArray) : (listD s).1.length ≤ 64 := by
  unfold listD cntD
  simp only
  generalize tk s 0 4 = T
  by_cases h : 64 < Oc.val T.1.data.toList
  · rw [if_pos h, getsD_bad _ _ _ (by split <;> omega)]; simp
  · exact Nat.le_trans (getsD_len _ _ _) (by omega)
theorem lists (s : ByteArray) : ∃ (L : List Cm) (E : Int), L.length ≤ 64 ∧
    (∀ W, Forms W → Calls Tryz.prog 15 #[.string s] W fun e w' => ∃ v, e = .returned (.tuple #[v, .int .i64 E]) ∧ SlG Cm.vals 18 w' v L ∧ Below W.heap.size W w') ∧
    (∀ W, Calls Tryz.prog 16 #[.string s] W fun e w' => ∃ v, e = .returned (.tuple #[v, .int .i64 E]) ∧ SlG Cm.vals 18 w' v L ∧ Below W.heap.size W w') := by
  by_cases h0 : (listD s).2 = 0
  · have hlen : (listC s 64).1.length ≤ 64 ∨ 64 < (listC s 64).1.length := by omega
    rcases hlen with hlen | hlen
    · refine ⟨(listC s 64).1, 0, hlen, fun W hW => (parseBatch_any s W hW).mono ?_, fun W => (refParseBatch_any s W).mono ?_⟩
      · rintro e w' h
        cases h with
        | ok _ v he hs _ hb => exact ⟨v, he, hs, hb⟩
        | bad hz _ _ => exact absurd (by rw [list_err]; exact h0) hz
      · rintro e w' h
        cases h with
        | ok _ v he hs hb => exact ⟨v, he, by rw [list_ok s h0]; exact hs, hb⟩
        | bad hz _ _ => exact absurd h0 hz
    · exact absurd hlen (by rw [list_ok s h0]; have := listD_len s; omega)
  · refine ⟨[], (listD s).2, Nat.zero_le _, fun W hW => (parseBatch_any s W hW).mono ?_, fun W => (refParseBatch_any s W).mono ?_⟩
    · rintro e w' h
      cases h with
      | ok hz _ _ _ _ _ => exact absurd (by rw [← list_err]; exact hz) h0
      | bad _ he hb => exact ⟨_, by rw [he, list_err], SlG.nil _, hb⟩
    · rintro e w' h
      cases h with
      | ok hz _ _ _ _ => exact absurd hz h0
      | bad _ he hb => exact ⟨_, he, SlG.nil _, hb⟩
end Go.Proofs.YtoekggbbkcmknaaGreatDoor
