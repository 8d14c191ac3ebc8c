/- The contracts of a codec's Bytes and get, at a pair's. -/
import Derived.Test.YtgkonmidgeanmaaCodec
import Derived.Defers
import Derived.Recover
namespace Go.Proofs.Ytgkonmidgeanmaa
open Go.RowKit
def cdc : Value := .agg #[.func (.func 41) #[] #[], .func (.func 42) #[] #[]]
theorem idle50 (p : Addr) (w : World) :
    CallsD Try.prog 50 #[.pointer (some p)] .returning w fun e u' w' => e = .returned (.tuple #[]) ∧ u' = .returning ∧ w' = w := by
  refine callsD_of_wpS Try.func50 rfl fun c₀ cs hu => ?_
  apply wpS_seq
  apply wpS_region
  simp [wpOpsS, go_sem, recoverD, hu, Try.ntmps50, Exit.thenS]
  refine wpS_cond (t := false) (by simp [Act.eval, Array.replicate]) ?_
  simp only [Bool.false_eq_true, if_false]
  refine wpS_of_wp (wp_skip ?_)
  cases c₀
  simp_all [bodyPostS, results, Try.results50]
theorem idle51 (p : Addr) (w : World) :
    CallsD Try.prog 51 #[.pointer (some p)] .returning w fun e u' w' => e = .returned (.tuple #[]) ∧ u' = .returning ∧ w' = w := by
  refine callsD_of_wpS Try.func51 rfl fun c₀ cs hu => ?_
  apply wpS_seq
  apply wpS_region
  simp [wpOpsS, go_sem, recoverD, hu, Try.ntmps51, Exit.thenS]
  refine wpS_cond (t := false) (by simp [Act.eval, Array.replicate]) ?_
  simp only [Bool.false_eq_true, if_false]
  refine wpS_of_wp (wp_skip ?_)
  cases c₀
  simp_all [bodyPostS, results, Try.results51]
theorem below_step' {a b c : World} (h : Below a.heap.size a b) (k : Below b.heap.size b c) : Below a.heap.size a c := below_step h k
theorem below3 (w : World) (o1 o2 o3 : Obj) : Below w.heap.size w (((w.alloc o1).alloc o2).alloc o3) :=
  below_step (below_step ((Below.refl _ _).alloc (Nat.le_refl _) _) ((Below.refl _ _).alloc (Nat.le_refl _) _)) ((Below.refl _ _).alloc (Nat.le_refl _) _)
theorem size2 (w : World) (o1 o2 : Obj) : ((w.alloc o1).alloc o2).heap.size = w.heap.size + 1 + 1 := by simp
theorem lt3 (w : World) (o1 o2 o3 : Obj) : w.heap.size + 1 + 1 < (((w.alloc o1).alloc o2).alloc o3).heap.size := by simp
theorem cell3 (w : World) (o1 o2 : Obj) (x : Value) (T : TypeId) : (((w.alloc o1).alloc o2).alloc (.cells #[x] T)).cell? ⟨w.heap.size + 1 + 1, 0, none⟩ = some x := by
  have := World.cell?_alloc_new ((w.alloc o1).alloc o2) #[x] T 0
  rw [size2] at this
  exact this
theorem blk3 {w w' : World} {o1 o2 : Obj} {b : Nat} (hm : Mod b (((w.alloc o1).alloc o2).alloc (.cells #[.int .u16 0, .string ⟨#[]⟩] 62)) w') (hne : w.heap.size + 1 + 1 ≠ b) :
    (w'.cell? ⟨w.heap.size + 1 + 1, 0, none⟩ = some (.int .u16 0) ∧ w'.cell? ⟨w.heap.size + 1 + 1, 1, none⟩ = some (.string ⟨#[]⟩)) ∧
      w'.frozen? ⟨w.heap.size + 1 + 1, 0, none⟩ = false ∧ w'.frozen? ⟨w.heap.size + 1 + 1, 1, none⟩ = false := by
  have := blk2 hm (by rw [size2]; exact hne)
  rwa [size2] at this
theorem func_nil55 (w : World) : (binOp .eql 55 (.func (.func 41) #[] #[]) .nilFunc).run Try.prog w = .ok (.bool false) w := by kernel_rfl
theorem bytes_any (p : Pr) (hn : p.n < 65536) (hs : p.s.length < 100000) (w : World) :
    Calls Try.prog 44 #[.agg #[.func (.func 41) #[] #[], .func (.func 42) #[] #[]], aggR p] w fun e w' => e = .returned (.string (str (enc p))) ∧ Below w.heap.size w w' := by
  have hmf : ∀ (fn : Fn) (first cap : Array Value) (w : World), (Instr.makeFunc fn first cap).run Try.prog w = .ok (.func fn first cap) w := fun _ _ _ _ => rfl
  have heq := func_nil55
  have HP := Lib.hid (fun W => put_any p hn hs W)
  unfold aggR at HP ⊢
  go_enter_defers Try.func44, Try.ntmps44
  go_wp2_with (go_at_call 41; refine (HP.out _).mono ?_; rintro e w1 ⟨rfl, hb⟩; have hc := hb.cell (p := ⟨w.heap.size + 1 + 1, 0, none⟩) (lt3 w _ _ _); have hz := hb.frozen (p := ⟨w.heap.size + 1 + 1, 0, none⟩) (lt3 w _ _ _))
  have hcs : (w1.setCell ⟨w.heap.size + 1 + 1, 0, none⟩ (.string (str (enc p)))).cell? ⟨w.heap.size + 1 + 1, 0, none⟩ = some (.string (str (enc p))) := World.cell?_setCell_same _ _ _ (u := .string ⟨#[]⟩) (hc.trans (cell3 w _ _ _ 9))
  refine leaves_cons (f := 50) (args := #[.pointer (some ⟨w.heap.size + 1 + 1, 0, none⟩)]) (by simp) (by simp [go_sem]) ?_
  refine (idle50 ⟨w.heap.size + 1 + 1, 0, none⟩ _).mono ?_
  rintro e u' w'' ⟨rfl, rfl, rfl⟩
  simp [Leaves, settle, results, Try.results44, go_sem, hcs]
  exact below_step' (below3 w _ _ _) hb |>.setCell (show w.heap.size ≤ w.heap.size + 1 + 1 by omega) _
set_option maxHeartbeats 1000000 in
theorem get_any (b : Nat) (s : ByteArray) (e : Int) (w : World) (h : Rd w b s e) :
    Calls Try.prog 46 #[.agg #[.func (.func 41) #[] #[], .func (.func 42) #[] #[]], .pointer (some ⟨b, 0, none⟩)] w fun x w' => x = .returned (aggR (getR s e).1) ∧ Rd w' b (getR s e).2.1 (getR s e).2.2 ∧ Mod b w w' := by
  have hmf : ∀ (fn : Fn) (first cap : Array Value) (w : World), (Instr.makeFunc fn first cap).run Try.prog w = .ok (.func fn first cap) w := fun _ _ _ _ => rfl
  have HR := Lib.hid h
  have HLT := Lib.hid h.lt
  have HNE : Hid (w.heap.size + 1 + 1 ≠ b) := fun he => by have := HLT.out; omega
  clear h
  have HG := Lib.hid (fun W (hW : Rd W b s e) => getFn_any b s e W hW)
  revert HG
  generalize getR s e = X
  obtain ⟨⟨n, t⟩, s1, e1⟩ := X
  intro HG
  unfold aggR at HG ⊢
  simp only at HG ⊢
  go_enter_defers Try.func46, Try.ntmps46
  go_wp2_with (go_at_call 42; go_loud (refine (HG.out _ (((HR.out.alloc _).alloc _).alloc _)).mono ?_; rintro e w1 ⟨rfl, hr1, hm1⟩; obtain ⟨⟨k0, k1⟩, f0, f1⟩ := blk3 hm1 HNE.out))
  obtain ⟨s0, s2⟩ := stored2 (v0 := .int .u16 (n : Nat)) (v1 := .string (str t)) k0 k1
  have hbe := stored2_below (w := w1) (v0 := .int .u16 (n : Nat)) (v1 := .string (str t)) (show w.heap.size ≤ w.heap.size + 1 + 1 by omega)
  refine leaves_cons (f := 51) (args := #[.pointer (some ⟨w.heap.size + 1, 0, none⟩)]) (by simp) (by simp [go_sem]) ?_
  refine (idle51 ⟨w.heap.size + 1, 0, none⟩ _).mono ?_
  rintro e u' w'' ⟨rfl, rfl, rfl⟩
  simp [Leaves, settle, results, Try.results46, go_sem, s0, s2]
  exact ⟨hr1.below' hbe HLT.out, (Mod.old (Mod.old (Mod.old hm1))).step' hbe⟩
end Go.Proofs.Ytgkonmidgeanmaa
