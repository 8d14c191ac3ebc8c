/- Rows of parts in memory; the contracts of less, Less, of a part's bytes and of Key. -/
import Derived.Test.YtfoijhofpjaldaaDoorEsc
import Derived.Test.YtfoijhofpjaldaaDoorAfterMath
import Derived.Deep.LoopGhost
import Derived.Deep.QuietTactic
import Derived.Deep.DeepMust
import Derived.Lib.Strings
set_option maxRecDepth 100000
set_option maxHeartbeats 4000000
set_option linter.unusedVariables false
namespace Go.Proofs.YtfoijhofpjaldaaDoor
open Go.RowKit
/-- A part as cells. -/
def cellsP (p : Ord.P) : List Value := [.bool p.t, .int .u64 p.n, .string (str p.s)]
def aggP (p : Ord.P) : Value := .agg #[.bool p.t, .int .u64 p.n, .string (str p.s)]
/-- A row of parts that a slice shows. -/
def Sl (w : World) (v : Value) (l : List Ord.P) : Prop :=
  ∃ (a : Option Addr) (b o c : Nat), v = .slice a l.length c ∧ (l = [] ∨ a = some ⟨b, o, none⟩) ∧
    ∀ (j : Nat) p, l[j]? = some p → w.cell? ⟨b, o + j * 3, none⟩ = some (.bool p.t) ∧ w.cell? ⟨b, o + j * 3 + 1, none⟩ = some (.int .u64 p.n) ∧ w.cell? ⟨b, o + j * 3 + 2, none⟩ = some (.string (str p.s))
theorem Sl.below {w w' : World} {v : Value} {l : List Ord.P} (h : Sl w v l) (hb : Below w.heap.size w w') : Sl w' v l := by
  obtain ⟨a, b, o, c, hv, ha, hx⟩ := h
  refine ⟨a, b, o, c, hv, ha, fun j p hj => ?_⟩
  obtain ⟨h0, h1, h2⟩ := hx j p hj
  have hlt := World.block_lt_of_cell? _ _ h0
  exact ⟨(hb.cell (p := ⟨b, o + j * 3, none⟩) hlt).trans h0, (hb.cell (p := ⟨b, o + j * 3 + 1, none⟩) hlt).trans h1, (hb.cell (p := ⟨b, o + j * 3 + 2, none⟩) hlt).trans h2⟩
theorem strP_any (s : List UInt8) (w : World) :
    Calls Tryd.prog 11 #[.string (str s)] w fun e w' => e = .returned (aggP ⟨true, 0, s⟩) ∧ Below w.heap.size w w' := by
  go_enter Tryd.func11, Tryd.ntmps11
  go_wp2
  refine bodyPost_ret_by (v := aggP ⟨true, 0, s⟩) ?_ rfl ⟨rfl, (Below.refl _ _).alloc (Nat.le_refl _) _⟩
  simp [results, Tryd.results11, go_sem, aggP]
theorem str_less (x y : List UInt8) : Op.bytesLess (str x).toList (str y).toList = Ord.less x y := by
  rw [Lib.toList_data, Lib.toList_data, str_data, str_data, op_less]
/-- The bytes of a part. -/
theorem replace_any (s : List UInt8) (m : Int) (w : World) (hs : s.length ≤ 400) (hm : w.cell? ⟨0, 0, none⟩ = some (.int .i64 m)) :
    Calls Tryd.prog 19 #[.string (str s), .string ⟨#[0]⟩, .string ⟨#[0, 255]⟩] w fun e w' => e = .returned (.string (str (Ord.esc s))) ∧ Below w.heap.size w w' := by
  have hc := countB_esc (str s)
  rw [str_size] at hc
  have h := Tryd.strings_ReplaceAll (str s) ⟨#[0]⟩ ⟨#[0, 255]⟩ m w (by rw [str_size]; omega) hm (by decide) (by
    rw [str_size, show (⟨#[0, 255]⟩ : ByteArray).size = 2 from rfl]; omega)
  rw [show (⟨#[0]⟩ : ByteArray).data.toList = [0] from rfl, show (⟨#[0, 255]⟩ : ByteArray).data.toList = [0, 255] from rfl, str_data, replaceAll_esc] at h
  exact h
theorem esc_size (s : List UInt8) (hs : s.length ≤ 400) : (str (Ord.esc s)).size ≤ 800 := by
  have := Ord.esc_length_ge s
  rw [str_size]; omega
theorem below_step {a b c : World} (h : Below a.heap.size a b) (k : Below b.heap.size b c) : Below a.heap.size a c := h.trans (k.mono h.size)
theorem below_off {w w1 : World} {o : Obj} (h : Below (w.alloc o).drew.heap.size (w.alloc o).drew w1) : Below w.heap.size w w1 :=
  (((Below.refl _ _).alloc (Nat.le_refl _) o).drew).trans (h.mono (by show w.heap.size ≤ (w.alloc o).heap.size; simp))
set_option maxHeartbeats 1000000 in
theorem bytes_any (p : Ord.P) (hn : p.n < 18446744073709551616) (hs : p.s.length ≤ 400) (m : Int) (w : World) (hm : w.cell? ⟨0, 0, none⟩ = some (.int .i64 m)) :
    Calls Tryd.prog 16 #[aggP p] w fun e w' => e = .returned (.string (str (Ord.pb p))) ∧ Below w.heap.size w w' := by
  obtain ⟨t, n, s⟩ := p
  simp only at hn hs
  have hz := big_size
  have h0 := World.block_lt_of_cell? _ _ hm
  cases t
  · have H : Hid (str (Oc.big 1 1) ++ str (Oc.big 8 n) = str (Ord.pb ⟨false, n, s⟩)) := by rw [str_append]; rfl
    unfold aggP
    go_enter Tryd.func16, Tryd.ntmps16
    go_wp2_with fail
    go_region_with (first
      | (go_at_call 17; refine (one_at 1 1 rfl (by decide) _).mono ?_; rintro e w1 ⟨rfl, hb1⟩; have hk := (hb1.cell (p := ⟨w.heap.size, 1, none⟩) (by simp)).trans (show _ = some (Value.int .u64 n) by simp))
      | (go_at_call 18; refine (eight_at _ n rfl hn _).mono ?_; rintro e w2 ⟨rfl, hb2⟩))
    all_goals
      (go_wp2
       go_ret
       exact ⟨ret_string H.out, below_step (below_off hb1) hb2⟩)
  · have H : Hid (str (Oc.big 1 2) ++ str (Ord.esc s) ++ ⟨#[0, 0]⟩ = str (Ord.pb ⟨true, n, s⟩)) := by
      rw [str_append, show (⟨#[0, 0]⟩ : ByteArray) = str [0, 0] from rfl, str_append]
      show _ = str (2 :: (Ord.esc s ++ [0, 0]))
      rfl
    have hze := esc_size s hs
    unfold aggP
    go_enter Tryd.func16, Tryd.ntmps16
    go_wp2_with fail
    go_region_with (first
      | (go_at_call 17; refine (one_at 2 2 rfl (by decide) _).mono ?_; rintro e w1 ⟨rfl, hb1⟩; have hk := (hb1.cell (p := ⟨w.heap.size, 2, none⟩) (by simp)).trans (show _ = some (Value.string (str s)) by simp); have hm1 := ((below_off hb1).cell (p := ⟨0, 0, none⟩) h0).trans hm)
      | (go_at_call 19; refine (replace_any s m _ hs hm1).mono ?_; rintro e w2 ⟨rfl, hb2⟩))
    all_goals
      (go_wp2
       go_ret
       exact ⟨ret_string H.out, below_step (below_off hb1) hb2⟩)
end Go.Proofs.YtfoijhofpjaldaaDoor
