/- The contracts of a summer's own text: of a text as it is, of a number's two bytes, of none. -/
import Derived.Test.YtghmpoahnkoppaaAwake
import Derived.Defers
import Derived.Recover
import Derived.Laws.IdiomStrings
namespace Go.Proofs.Ytghmpoahnkoppaa
open Go.RowKit
theorem idle31 (p : Addr) (w : World) :
    CallsD Try.prog 31 #[.pointer (some p)] .returning w fun e u' w' => e = .returned (.tuple #[]) ∧ u' = .returning ∧ w' = w := by
  refine callsD_of_wpS Try.func31 rfl fun c₀ cs hu => ?_
  apply wpS_seq
  apply wpS_region
  simp [wpOpsS, go_sem, recoverD, hu, Try.ntmps31, Exit.thenS]
  refine wpS_cond (t := false) (by simp [Act.eval, Array.replicate]) ?_
  simp only [Bool.false_eq_true, if_false]
  refine wpS_of_wp (wp_skip ?_)
  cases c₀
  simp_all [bodyPostS, results, Try.results31]
theorem id_any (s : ByteArray) (w : World) : Calls Try.prog 17 #[.string s] w fun e w' => e = .returned (.string s) ∧ w = w' := by
  go_enter Try.func17, Try.ntmps17
  go_wp2
  go_ret
  exact ⟨rfl, rfl⟩
theorem nil_nil (w : World) : (binOp .eql 36 .nilFunc .nilFunc).run Try.prog w = .ok (.bool true) w := by kernel_rfl
theorem func_nil (w : World) : (binOp .eql 36 (.func (.func 17) #[] #[]) .nilFunc).run Try.prog w = .ok (.bool false) w := by kernel_rfl
theorem text_nil (tp : Option Addr) (s : ByteArray) (w : World) :
    Calls Try.prog 26 #[.agg #[.pointer tp, .nilFunc], .string s] w fun e w' => e = .returned (.string ⟨#[]⟩) ∧ Below w.heap.size w w' := by
  have heq := nil_nil
  go_enter_defers Try.func26, Try.ntmps26
  go_wp2
  simp [bodyPostD, Leaves, results, Try.results26, go_sem]
  exact ((Below.refl _ _).alloc (Nat.le_refl _) _).alloc (by simp) _
theorem text_id (tp : Option Addr) (s : ByteArray) (w : World) :
    Calls Try.prog 26 #[.agg #[.pointer tp, .func (.func 17) #[] #[]], .string s] w fun e w' => e = .returned (.string s) ∧ Below w.heap.size w w' := by
  have hmf : ∀ (fn : Fn) (first cap : Array Value) (w : World), (Instr.makeFunc fn first cap).run Try.prog w = .ok (.func fn first cap) w := fun _ _ _ _ => rfl
  have heq := func_nil
  go_enter_defers Try.func26, Try.ntmps26
  go_wp2_with (go_at_call 17; refine (id_any _ _).mono ?_; rintro e w1 ⟨rfl, rfl⟩)
  refine leaves_cons (f := 31) (args := #[.pointer (some ⟨w.heap.size + 1, 0, none⟩)]) (by simp) (by simp [go_sem]) ?_
  refine (idle31 ⟨w.heap.size + 1, 0, none⟩ _).mono ?_
  rintro e u' w'' ⟨rfl, rfl, rfl⟩
  simp [Leaves, settle, results, Try.results26, go_sem]
  exact ((Below.refl _ _).alloc (Nat.le_refl _) _).alloc (by simp) _
theorem idle34 (p : Addr) (w : World) :
    CallsD Try.prog 34 #[.pointer (some p)] .returning w fun e u' w' => e = .returned (.tuple #[]) ∧ u' = .returning ∧ w' = w := by
  refine callsD_of_wpS Try.func34 rfl fun c₀ cs hu => ?_
  apply wpS_seq
  apply wpS_region
  simp [wpOpsS, go_sem, recoverD, hu, Try.ntmps34, Exit.thenS]
  refine wpS_cond (t := false) (by simp [Act.eval, Array.replicate]) ?_
  simp only [Bool.false_eq_true, if_false]
  refine wpS_of_wp (wp_skip ?_)
  cases c₀
  simp_all [bodyPostS, results, Try.results34]
def two (n : Nat) : List UInt8 := [UInt8.ofNat (n / 256), UInt8.ofNat (n % 256)]
theorem two_back (n : Nat) (h : n < 65536) (w : World) :
    (convert 42 9 (.slice (some ⟨w.heap.size, 0, none⟩) 2 2)).run Try.prog (w.alloc (.cells #[.int .u8 ((n : Int) / 256), .int .u8 ((n : Int) % 256)] 5))
      = .ok (.string ⟨(two n).toArray⟩) (w.alloc (.cells #[.int .u8 ((n : Int) / 256), .int .u8 ((n : Int) % 256)] 5)) := by
  refine run_convert_bytes_back (P := Try.prog) _ 42 9 5 ⟨w.heap.size, 0, none⟩ 2 (two n) Try.underlying42 Try.underlying5 Try.underlying9 ?_
  intro j hj
  have hj2 : j < 2 := hj
  rw [show (⟨w.heap.size, 0, none⟩ : Addr).add j = ⟨w.heap.size, j, none⟩ by unfold Addr.add; split <;> simp_all, cell_of_row _ _ _ _ _ _ (heap_alloc_new _ _)]
  have e : j = 0 ∨ j = 1 := by omega
  rcases e with rfl | rfl
  · simp only [two, List.getElem_cons_zero, UInt8.toNat_ofNat']
    rw [show n / 256 % 2 ^ 8 = n / 256 by omega]
    rfl
  · simp only [two, List.getElem_cons_succ, List.getElem_cons_zero, UInt8.toNat_ofNat']
    rw [show n % 256 % 2 ^ 8 = n % 256 by omega]
    rfl
theorem two_any (n : Nat) (h : n < 65536) (w : World) :
    Calls Try.prog 18 #[.int .u16 n] w fun e w' => e = .returned (.string ⟨(two n).toArray⟩) ∧ Below w.heap.size w w' := by
  have hb := two_back n h w
  go_enter Try.func18, Try.ntmps18
  go_wp2
  go_ret
  exact ⟨rfl, (Below.refl _ _).alloc (Nat.le_refl _) _⟩
theorem func_nil2 (w : World) : (binOp .eql 43 (.func (.func 18) #[] #[]) .nilFunc).run Try.prog w = .ok (.bool false) w := by kernel_rfl
theorem text_two (tp : Option Addr) (n : Nat) (h : n < 65536) (w : World) :
    Calls Try.prog 30 #[.agg #[.pointer tp, .func (.func 18) #[] #[]], .int .u16 n] w fun e w' => e = .returned (.string ⟨(two n).toArray⟩) ∧ Below w.heap.size w w' := by
  have hmf : ∀ (fn : Fn) (first cap : Array Value) (w : World), (Instr.makeFunc fn first cap).run Try.prog w = .ok (.func fn first cap) w := fun _ _ _ _ => rfl
  have heq := func_nil2
  go_enter_defers Try.func30, Try.ntmps30
  go_wp2_with (go_at_call 18; refine (two_any _ h _).mono ?_; rintro e w1 ⟨rfl, hb⟩; have hc := hb.cell (p := ⟨w.heap.size + 1, 0, none⟩) (by simp); have hz := hb.frozen (p := ⟨w.heap.size + 1, 0, none⟩) (by simp))
  have hcs : (w1.setCell ⟨w.heap.size + 1, 0, none⟩ (.string ⟨(two n).toArray⟩)).cell? ⟨w.heap.size + 1, 0, none⟩ = some (.string ⟨(two n).toArray⟩) := World.cell?_setCell_same _ _ _ (u := .string ⟨#[]⟩) (hc.trans (by simp))
  refine leaves_cons (f := 34) (args := #[.pointer (some ⟨w.heap.size + 1, 0, none⟩)]) (by simp) (by simp [go_sem]) ?_
  refine (idle34 ⟨w.heap.size + 1, 0, none⟩ _).mono ?_
  rintro e u' w'' ⟨rfl, rfl, rfl⟩
  simp [Leaves, settle, results, Try.results30, go_sem, hcs]
  exact ((((Below.refl _ _).alloc (Nat.le_refl _) _).alloc (by simp) _).trans (hb.mono (by simp; omega))).setCell (by simp) _
end Go.Proofs.Ytghmpoahnkoppaa
