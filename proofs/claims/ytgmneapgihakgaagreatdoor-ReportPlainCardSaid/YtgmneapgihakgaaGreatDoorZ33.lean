/- Texts of one seat, merged. -/
import Derived.Test.YtgmneapgihakgaaGreatDoorZ29
import Derived.Test.YtgmneapgihakgaaGreatDoorZ24
import Derived.Test.YtgmneapgihakgaaGreatDoorZ21
import Derived.Test.YtgmneapgihakgaaGreatDoorZ31
import Derived.Test.YtgmneapgihakgaaGreatDoorZ32
import Derived.Test.YtgmneapgihakgaaGreatDoorZ25
set_option maxRecDepth 100000
set_option maxHeartbeats 4000000
set_option linter.unusedVariables false
/- report.Lines of Qu. -/
namespace Go.Proofs.YtgmneapgihakgaaGreatDoor
open Go.RowKit
def cvQu (m : Qu) : List Value := [.string m.nm, .int .u32 m.most, .int .u64 m.ttl, .int .u32 m.tries, .string m.dead]
theorem atQu {w : World} {b o : Nat} {l : List Qu} (h : CellsAt cvQu 5 w b o l) {k : Nat} {x : Qu} (hx : l[k]? = some x) : w.cell? ⟨b, o + k * 5, none⟩ = some (.string x.nm) ∧ w.cell? ⟨b, o + k * 5 + 1, none⟩ = some (.int .u32 x.most) ∧ w.cell? ⟨b, o + k * 5 + 2, none⟩ = some (.int .u64 x.ttl) ∧ w.cell? ⟨b, o + k * 5 + 3, none⟩ = some (.int .u32 x.tries) ∧ w.cell? ⟨b, o + k * 5 + 4, none⟩ = some (.string x.dead) :=
  ⟨h k x hx 0 _ rfl, h k x hx 1 _ rfl, h k x hx 2 _ rfl, h k x hx 3 _ rfl, h k x hx 4 _ rfl⟩
theorem idleLnQ (p : Addr) (w : World) :
    CallsD Tryz.prog 223 #[.pointer (some p)] .returning w fun e u' w' => e = .returned (.tuple #[]) ∧ u' = .returning ∧ w' = w := by
  refine callsD_of_wpS Tryz.func223 rfl fun c₀ cs hu => ?_
  apply wpS_seq
  apply wpS_region
  simp [wpOpsS, go_sem, recoverD, hu, Tryz.ntmps223, Exit.thenS]
  refine wpS_cond (t := false) (by simp [Act.eval, Array.replicate]) ?_
  simp only [Bool.false_eq_true, if_false]
  refine wpS_of_wp (wp_skip ?_)
  cases c₀
  simp_all [bodyPostS, results, Tryz.results223]
set_option maxHeartbeats 4000000 in
theorem linesQ_any (l : List Qu) (v : Value) (F : Qu → List UInt8) (w : World) (hv : SlV cvQu 5 w v l) (hlen : (linesF F l).length ≤ 100000000)
    (hf : ∀ x ∈ l, ∀ W, Below w.heap.size w W → Calls Tryz.prog 43 #[aggQ x] W fun e w' => e = .returned (.string (str (F x))) ∧ Below W.heap.size W w') :
    Calls Tryz.prog 137 #[v, .func (.func 43) #[] #[]] w fun e w' => e = .returned (.string (str (linesF F l))) ∧ Below w.heap.size w w' := by
  obtain ⟨a, b, o, c, rfl, _, _, ha, hx⟩ := hv.get
  clear hv
  have hmf : ∀ (fn : Fn) (first cap : Array Value) (w : World), (Instr.makeFunc fn first cap).run Tryz.prog w = .ok (.func fn first cap) w := fun _ _ _ _ => rfl
  have hne : ∀ W, (binOp .eql 110 (.func (.func 43) #[] #[]) .nilFunc).run Tryz.prog W = .ok (.bool false) W := fun W => by kernel_rfl
  have hll : l.length ≤ 100000000 := Nat.le_trans (linesF_len F l) hlen
  have HX := Lib.hid hx
  have HA := Lib.hid ha
  have HL := Lib.hid hlen
  have HF := Lib.hid hf
  have HST := Lib.hid (start2L w 9 (.string ⟨#[]⟩))
  clear hx ha hlen hf
  go_enter_defers Tryz.func137, Tryz.ntmps137
  go_upto_region 5 with fail
  revert HST
  generalize hg : w.heap.size = g
  generalize ((w.alloc (.cells #[.string ⟨#[]⟩] 9)).alloc (.cells #[.pointer none, .slice none 0 0] 209)) = w0
  intro HST
  have HG := Lib.hid hg
  have HB0 := Lib.hid HST.out.1
  have HW0 := Lib.hid HST.out.2.1
  have HE0 := Lib.hid HST.out.2.2
  have hgl : g + 1 < w0.heap.size := HW0.out.lt
  clear hg HST
  go_wp2
  go_loopg [13] l.length (fun n i wr => ∃ k : Nat, k ≤ l.length ∧ n = l.length - k ∧ i = .int .i64 (k : Nat) ∧ Hid (BX wr (g + 1) (g + 1) (linesF F (l.take k))) ∧ Hid (Boxed wr g 9 (.string ⟨#[]⟩)) ∧ Hid (Below g w wr))
  case atStart => exact ⟨0, Nat.zero_le _, rfl, rfl, HW0.out, HB0.out, HE0.out⟩
  case round =>
    obtain ⟨k, hk, rfl, rfl, HB, HC, HE⟩ := hrel
    by_cases hlt : k < l.length
    · obtain ⟨x, hx⟩ : ∃ x, l[k]? = some x := ⟨_, List.getElem?_eq_getElem hlt⟩
      obtain ⟨e0, e1, e2, e3, e4⟩ := atQu HX.out hx
      have hblt : b < g := by rw [← HG.out]; exact World.block_lt_of_cell? _ _ e0
      have f0 := (HE.out.cell (p := ⟨b, o + k * 5, none⟩) hblt).trans e0
      have f1 := (HE.out.cell (p := ⟨b, o + k * 5 + 1, none⟩) hblt).trans e1
      have f2 := (HE.out.cell (p := ⟨b, o + k * 5 + 2, none⟩) hblt).trans e2
      have f3 := (HE.out.cell (p := ⟨b, o + k * 5 + 3, none⟩) hblt).trans e3
      have f4 := (HE.out.cell (p := ⟨b, o + k * 5 + 4, none⟩) hblt).trans e4
      obtain rfl : a = some ⟨b, o, none⟩ := HA.out.resolve_left (by intro h; rw [h] at hlt; cases hlt)
      have HT := Lib.hid (linesF_take F hx)
      have HLE : Hid ((linesF F (l.take (k + 1))).length ≤ 100000000) := Nat.le_trans (linesF_le F l (k + 1)) HL.out
      have bA : Below g w (wr.alloc (.cells #[.string x.nm, .int .u32 x.most, .int .u64 x.ttl, .int .u32 x.tries, .string x.dead] 36)) := HE.out.alloc (Nat.le_of_lt HC.out.lt) _
      have HFX := Lib.hid (HF.out x (List.mem_of_getElem? hx) _ (by rw [HG.out]; exact bA))
      have HEA := Lib.hid bA
      have HBA : Hid (BX (wr.alloc (.cells #[.string x.nm, .int .u32 x.most, .int .u64 x.ttl, .int .u32 x.tries, .string x.dead] 36)) (g + 1) (g + 1) (linesF F (l.take k))) := HB.out.below ((Below.refl _ _).alloc (Nat.le_refl _) _)
      have HCA : Hid (Boxed (wr.alloc (.cells #[.string x.nm, .int .u32 x.most, .int .u64 x.ttl, .int .u32 x.tries, .string x.dead] 36)) g 9 (.string ⟨#[]⟩)) := HC.out.alloc _
      unfold aggQ at HFX
      have hl1 : Hid ((linesF F (l.take k)).length + (F x).length + 1 ≤ 100000000) := by have := HLE.out; rw [HT.out] at this; simp at this; show _ ≤ _; omega
      clear hx e0 e1 e2 e3 e4 hblt bA
      go_wp2_with (first
        | (go_at_call 43; refine HFX.out.mono ?_; rintro e w1 ⟨rfl, hb1⟩; have HB1 := Lib.hid (HBA.out.below hb1); have HC1 : Hid (Boxed w1 g 9 (.string ⟨#[]⟩)) := (hb1.block _ HCA.out.lt).trans HCA.out; have HE1 : Hid (Below g w w1) := HEA.out.trans (hb1.mono (Nat.le_of_lt HCA.out.lt)); clear hb1)
        | (go_at_call 116; refine (HB1.out.write (F x) (by have := hl1.out; omega)).mono ?_; rintro e w2 ⟨rfl, hb2, hw2⟩; have HB2 := Lib.hid hb2; have HC2 : Hid (Boxed w2 g 9 (.string ⟨#[]⟩)) := (hw2.block _ (Nat.lt_succ_self g)).trans HC1.out; have HE2 : Hid (Below g w w2) := HE1.out.trans (hw2.mono (Nat.le_succ g)); clear hb2 hw2)
        | (go_at_call 147; refine (HB2.out.byte 10 (by rw [List.length_append]; have := hl1.out; omega)).mono ?_; rintro e w3 ⟨rfl, hb3, hw3⟩; have HB3 := Lib.hid hb3; have HC3 : Hid (Boxed w3 g 9 (.string ⟨#[]⟩)) := (hw3.block _ (Nat.lt_succ_self g)).trans HC2.out; have HE3 : Hid (Below g w w3) := HE2.out.trans (hw3.mono (Nat.le_succ g)); clear hb3 hw3))
      go_roundg (l.length - (k + 1))
      case measure => omega
      case rel => exact ⟨k + 1, hlt, rfl, by go_num, by show BX _ _ _ _; rw [HT.out]; exact HB3.out, HC3.out, HE3.out⟩
    · obtain rfl : k = l.length := by omega
      have HB' : Hid (BX wr (g + 1) (g + 1) (linesF F l)) := by have := HB.out; rw [List.take_length] at this; exact this
      go_wp2_with (go_at_call 118; refine HB'.out.string.mono ?_; rintro e w1 ⟨rfl, hb1⟩; have x1 : Boxed w1 g 9 (.string ⟨#[]⟩) := (hb1.block _ (Nat.lt_succ_self g)).trans HC.out; have f1 := x1.frozen; have c1 := x1.cell; have HX1 := Lib.hid x1; have HE1 : Hid (Below g w w1) := HE.out.trans (hb1.mono (Nat.le_succ g)); clear hb1 x1)
      have xs : Boxed (w1.setCell ⟨g, 0, none⟩ (.string (str (linesF F l)))) g 9 (.string (str (linesF F l))) := HX1.out.set _
      have cs := xs.cell
      have HR : (results Tryz.f137 #[.slice a l.length c, .func (.func 43) #[] #[], undef, undef,
          .pointer (some ⟨g, 0, none⟩), .pointer (some ⟨g + 1, 0, none⟩), undef, u7,
          .func (.func 43) #[] #[], .bool false,
          .func (.func 223) #[] #[.pointer (some ⟨g, 0, none⟩)], .slice a l.length c,
          .int .i64 l.length, .int .i64 l.length, .bool false, u15, u16, u17, u18, u19,
          u20, u21, u22, .string (str (linesF F l))]).run Tryz.prog (w1.setCell ⟨g, 0, none⟩ (.string (str (linesF F l)))) = .ok (.string (str (linesF F l))) (w1.setCell ⟨g, 0, none⟩ (.string (str (linesF F l)))) := by
        simp [results, Tryz.results137, go_sem, cs]
      refine leaves_cons (f := 223) (args := #[.pointer (some ⟨g, 0, none⟩)]) (by simp) (by simp [go_sem]) ?_
      refine (idleLnQ _ _).mono ?_
      rintro e u' w'' ⟨rfl, rfl, rfl⟩
      exact ⟨_, HR, rfl, by rw [HG.out]; exact HE1.out.setCell (p := ⟨g, 0, none⟩) (Nat.le_refl _) _⟩
end Go.Proofs.YtgmneapgihakgaaGreatDoor
/- report.Lines of Bnd. -/
namespace Go.Proofs.YtgmneapgihakgaaGreatDoor
open Go.RowKit
def cvBn (m : Bnd) : List Value := [.string m.ex, .int .i64 m.kind, .string m.key, .string m.qu]
theorem atBn {w : World} {b o : Nat} {l : List Bnd} (h : CellsAt cvBn 4 w b o l) {k : Nat} {x : Bnd} (hx : l[k]? = some x) : w.cell? ⟨b, o + k * 4, none⟩ = some (.string x.ex) ∧ w.cell? ⟨b, o + k * 4 + 1, none⟩ = some (.int .i64 x.kind) ∧ w.cell? ⟨b, o + k * 4 + 2, none⟩ = some (.string x.key) ∧ w.cell? ⟨b, o + k * 4 + 3, none⟩ = some (.string x.qu) :=
  ⟨h k x hx 0 _ rfl, h k x hx 1 _ rfl, h k x hx 2 _ rfl, h k x hx 3 _ rfl⟩
theorem idleLnD (p : Addr) (w : World) :
    CallsD Tryz.prog 224 #[.pointer (some p)] .returning w fun e u' w' => e = .returned (.tuple #[]) ∧ u' = .returning ∧ w' = w := by
  refine callsD_of_wpS Tryz.func224 rfl fun c₀ cs hu => ?_
  apply wpS_seq
  apply wpS_region
  simp [wpOpsS, go_sem, recoverD, hu, Tryz.ntmps224, Exit.thenS]
  refine wpS_cond (t := false) (by simp [Act.eval, Array.replicate]) ?_
  simp only [Bool.false_eq_true, if_false]
  refine wpS_of_wp (wp_skip ?_)
  cases c₀
  simp_all [bodyPostS, results, Tryz.results224]
set_option maxHeartbeats 4000000 in
theorem linesD_any (l : List Bnd) (v : Value) (F : Bnd → List UInt8) (w : World) (hv : SlV cvBn 4 w v l) (hlen : (linesF F l).length ≤ 100000000)
    (hf : ∀ x ∈ l, ∀ W, Below w.heap.size w W → Calls Tryz.prog 139 #[aggB x] W fun e w' => e = .returned (.string (str (F x))) ∧ Below W.heap.size W w') :
    Calls Tryz.prog 138 #[v, .func (.func 139) #[] #[]] w fun e w' => e = .returned (.string (str (linesF F l))) ∧ Below w.heap.size w w' := by
  obtain ⟨a, b, o, c, rfl, _, _, ha, hx⟩ := hv.get
  clear hv
  have hmf : ∀ (fn : Fn) (first cap : Array Value) (w : World), (Instr.makeFunc fn first cap).run Tryz.prog w = .ok (.func fn first cap) w := fun _ _ _ _ => rfl
  have hne : ∀ W, (binOp .eql 231 (.func (.func 139) #[] #[]) .nilFunc).run Tryz.prog W = .ok (.bool false) W := fun W => by kernel_rfl
  have hll : l.length ≤ 100000000 := Nat.le_trans (linesF_len F l) hlen
  have HX := Lib.hid hx
  have HA := Lib.hid ha
  have HL := Lib.hid hlen
  have HF := Lib.hid hf
  have HST := Lib.hid (start2L w 9 (.string ⟨#[]⟩))
  clear hx ha hlen hf
  go_enter_defers Tryz.func138, Tryz.ntmps138
  go_upto_region 5 with fail
  revert HST
  generalize hg : w.heap.size = g
  generalize ((w.alloc (.cells #[.string ⟨#[]⟩] 9)).alloc (.cells #[.pointer none, .slice none 0 0] 209)) = w0
  intro HST
  have HG := Lib.hid hg
  have HB0 := Lib.hid HST.out.1
  have HW0 := Lib.hid HST.out.2.1
  have HE0 := Lib.hid HST.out.2.2
  have hgl : g + 1 < w0.heap.size := HW0.out.lt
  clear hg HST
  go_wp2
  go_loopg [13] l.length (fun n i wr => ∃ k : Nat, k ≤ l.length ∧ n = l.length - k ∧ i = .int .i64 (k : Nat) ∧ Hid (BX wr (g + 1) (g + 1) (linesF F (l.take k))) ∧ Hid (Boxed wr g 9 (.string ⟨#[]⟩)) ∧ Hid (Below g w wr))
  case atStart => exact ⟨0, Nat.zero_le _, rfl, rfl, HW0.out, HB0.out, HE0.out⟩
  case round =>
    obtain ⟨k, hk, rfl, rfl, HB, HC, HE⟩ := hrel
    by_cases hlt : k < l.length
    · obtain ⟨x, hx⟩ : ∃ x, l[k]? = some x := ⟨_, List.getElem?_eq_getElem hlt⟩
      obtain ⟨e0, e1, e2, e3⟩ := atBn HX.out hx
      have hblt : b < g := by rw [← HG.out]; exact World.block_lt_of_cell? _ _ e0
      have f0 := (HE.out.cell (p := ⟨b, o + k * 4, none⟩) hblt).trans e0
      have f1 := (HE.out.cell (p := ⟨b, o + k * 4 + 1, none⟩) hblt).trans e1
      have f2 := (HE.out.cell (p := ⟨b, o + k * 4 + 2, none⟩) hblt).trans e2
      have f3 := (HE.out.cell (p := ⟨b, o + k * 4 + 3, none⟩) hblt).trans e3
      obtain rfl : a = some ⟨b, o, none⟩ := HA.out.resolve_left (by intro h; rw [h] at hlt; cases hlt)
      have HT := Lib.hid (linesF_take F hx)
      have HLE : Hid ((linesF F (l.take (k + 1))).length ≤ 100000000) := Nat.le_trans (linesF_le F l (k + 1)) HL.out
      have bA : Below g w (wr.alloc (.cells #[.string x.ex, .int .i64 x.kind, .string x.key, .string x.qu] 38)) := HE.out.alloc (Nat.le_of_lt HC.out.lt) _
      have HFX := Lib.hid (HF.out x (List.mem_of_getElem? hx) _ (by rw [HG.out]; exact bA))
      have HEA := Lib.hid bA
      have HBA : Hid (BX (wr.alloc (.cells #[.string x.ex, .int .i64 x.kind, .string x.key, .string x.qu] 38)) (g + 1) (g + 1) (linesF F (l.take k))) := HB.out.below ((Below.refl _ _).alloc (Nat.le_refl _) _)
      have HCA : Hid (Boxed (wr.alloc (.cells #[.string x.ex, .int .i64 x.kind, .string x.key, .string x.qu] 38)) g 9 (.string ⟨#[]⟩)) := HC.out.alloc _
      unfold aggB at HFX
      have hl1 : Hid ((linesF F (l.take k)).length + (F x).length + 1 ≤ 100000000) := by have := HLE.out; rw [HT.out] at this; simp at this; show _ ≤ _; omega
      clear hx e0 e1 e2 e3 hblt bA
      go_wp2_with (first
        | (go_at_call 139; refine HFX.out.mono ?_; rintro e w1 ⟨rfl, hb1⟩; have HB1 := Lib.hid (HBA.out.below hb1); have HC1 : Hid (Boxed w1 g 9 (.string ⟨#[]⟩)) := (hb1.block _ HCA.out.lt).trans HCA.out; have HE1 : Hid (Below g w w1) := HEA.out.trans (hb1.mono (Nat.le_of_lt HCA.out.lt)); clear hb1)
        | (go_at_call 116; refine (HB1.out.write (F x) (by have := hl1.out; omega)).mono ?_; rintro e w2 ⟨rfl, hb2, hw2⟩; have HB2 := Lib.hid hb2; have HC2 : Hid (Boxed w2 g 9 (.string ⟨#[]⟩)) := (hw2.block _ (Nat.lt_succ_self g)).trans HC1.out; have HE2 : Hid (Below g w w2) := HE1.out.trans (hw2.mono (Nat.le_succ g)); clear hb2 hw2)
        | (go_at_call 147; refine (HB2.out.byte 10 (by rw [List.length_append]; have := hl1.out; omega)).mono ?_; rintro e w3 ⟨rfl, hb3, hw3⟩; have HB3 := Lib.hid hb3; have HC3 : Hid (Boxed w3 g 9 (.string ⟨#[]⟩)) := (hw3.block _ (Nat.lt_succ_self g)).trans HC2.out; have HE3 : Hid (Below g w w3) := HE2.out.trans (hw3.mono (Nat.le_succ g)); clear hb3 hw3))
      go_roundg (l.length - (k + 1))
      case measure => omega
      case rel => exact ⟨k + 1, hlt, rfl, by go_num, by show BX _ _ _ _; rw [HT.out]; exact HB3.out, HC3.out, HE3.out⟩
    · obtain rfl : k = l.length := by omega
      have HB' : Hid (BX wr (g + 1) (g + 1) (linesF F l)) := by have := HB.out; rw [List.take_length] at this; exact this
      go_wp2_with (go_at_call 118; refine HB'.out.string.mono ?_; rintro e w1 ⟨rfl, hb1⟩; have x1 : Boxed w1 g 9 (.string ⟨#[]⟩) := (hb1.block _ (Nat.lt_succ_self g)).trans HC.out; have f1 := x1.frozen; have c1 := x1.cell; have HX1 := Lib.hid x1; have HE1 : Hid (Below g w w1) := HE.out.trans (hb1.mono (Nat.le_succ g)); clear hb1 x1)
      have xs : Boxed (w1.setCell ⟨g, 0, none⟩ (.string (str (linesF F l)))) g 9 (.string (str (linesF F l))) := HX1.out.set _
      have cs := xs.cell
      have HR : (results Tryz.f138 #[.slice a l.length c, .func (.func 139) #[] #[], undef, undef,
          .pointer (some ⟨g, 0, none⟩), .pointer (some ⟨g + 1, 0, none⟩), undef, u7,
          .func (.func 139) #[] #[], .bool false,
          .func (.func 224) #[] #[.pointer (some ⟨g, 0, none⟩)], .slice a l.length c,
          .int .i64 l.length, .int .i64 l.length, .bool false, u15, u16, u17, u18, u19,
          u20, u21, u22, .string (str (linesF F l))]).run Tryz.prog (w1.setCell ⟨g, 0, none⟩ (.string (str (linesF F l)))) = .ok (.string (str (linesF F l))) (w1.setCell ⟨g, 0, none⟩ (.string (str (linesF F l)))) := by
        simp [results, Tryz.results138, go_sem, cs]
      refine leaves_cons (f := 224) (args := #[.pointer (some ⟨g, 0, none⟩)]) (by simp) (by simp [go_sem]) ?_
      refine (idleLnD _ _).mono ?_
      rintro e u' w'' ⟨rfl, rfl, rfl⟩
      exact ⟨_, HR, rfl, by rw [HG.out]; exact HE1.out.setCell (p := ⟨g, 0, none⟩) (Nat.le_refl _) _⟩
end Go.Proofs.YtgmneapgihakgaaGreatDoor
/- report.Lines of Ms. -/
namespace Go.Proofs.YtgmneapgihakgaaGreatDoor
open Go.RowKit
theorem idleLnM (p : Addr) (w : World) :
    CallsD Tryz.prog 226 #[.pointer (some p)] .returning w fun e u' w' => e = .returned (.tuple #[]) ∧ u' = .returning ∧ w' = w := by
  refine callsD_of_wpS Tryz.func226 rfl fun c₀ cs hu => ?_
  apply wpS_seq
  apply wpS_region
  simp [wpOpsS, go_sem, recoverD, hu, Tryz.ntmps226, Exit.thenS]
  refine wpS_cond (t := false) (by simp [Act.eval, Array.replicate]) ?_
  simp only [Bool.false_eq_true, if_false]
  refine wpS_of_wp (wp_skip ?_)
  cases c₀
  simp_all [bodyPostS, results, Tryz.results226]
set_option maxHeartbeats 4000000 in
theorem linesM_any (l : List Ms) (v : Value) (F : Ms → List UInt8) (w : World) (hv : SlV cvMs 5 w v l) (hlen : (linesF F l).length ≤ 100000000)
    (hf : ∀ x ∈ l, ∀ W, Below w.heap.size w W → Calls Tryz.prog 45 #[aggM x] W fun e w' => e = .returned (.string (str (F x))) ∧ Below W.heap.size W w') :
    Calls Tryz.prog 140 #[v, .func (.func 45) #[] #[]] w fun e w' => e = .returned (.string (str (linesF F l))) ∧ Below w.heap.size w w' := by
  obtain ⟨a, b, o, c, rfl, _, _, ha, hx⟩ := hv.get
  clear hv
  have hmf : ∀ (fn : Fn) (first cap : Array Value) (w : World), (Instr.makeFunc fn first cap).run Tryz.prog w = .ok (.func fn first cap) w := fun _ _ _ _ => rfl
  have hne : ∀ W, (binOp .eql 111 (.func (.func 45) #[] #[]) .nilFunc).run Tryz.prog W = .ok (.bool false) W := fun W => by kernel_rfl
  have hll : l.length ≤ 100000000 := Nat.le_trans (linesF_len F l) hlen
  have HX := Lib.hid hx
  have HA := Lib.hid ha
  have HL := Lib.hid hlen
  have HF := Lib.hid hf
  have HST := Lib.hid (start2L w 9 (.string ⟨#[]⟩))
  clear hx ha hlen hf
  go_enter_defers Tryz.func140, Tryz.ntmps140
  go_upto_region 5 with fail
  revert HST
  generalize hg : w.heap.size = g
  generalize ((w.alloc (.cells #[.string ⟨#[]⟩] 9)).alloc (.cells #[.pointer none, .slice none 0 0] 209)) = w0
  intro HST
  have HG := Lib.hid hg
  have HB0 := Lib.hid HST.out.1
  have HW0 := Lib.hid HST.out.2.1
  have HE0 := Lib.hid HST.out.2.2
  have hgl : g + 1 < w0.heap.size := HW0.out.lt
  clear hg HST
  go_wp2
  go_loopg [13] l.length (fun n i wr => ∃ k : Nat, k ≤ l.length ∧ n = l.length - k ∧ i = .int .i64 (k : Nat) ∧ Hid (BX wr (g + 1) (g + 1) (linesF F (l.take k))) ∧ Hid (Boxed wr g 9 (.string ⟨#[]⟩)) ∧ Hid (Below g w wr))
  case atStart => exact ⟨0, Nat.zero_le _, rfl, rfl, HW0.out, HB0.out, HE0.out⟩
  case round =>
    obtain ⟨k, hk, rfl, rfl, HB, HC, HE⟩ := hrel
    by_cases hlt : k < l.length
    · obtain ⟨x, hx⟩ : ∃ x, l[k]? = some x := ⟨_, List.getElem?_eq_getElem hlt⟩
      obtain ⟨e0, e1, e2, e3, e4⟩ := atMs HX.out hx
      have hblt : b < g := by rw [← HG.out]; exact World.block_lt_of_cell? _ _ e0
      have f0 := (HE.out.cell (p := ⟨b, o + k * 5, none⟩) hblt).trans e0
      have f1 := (HE.out.cell (p := ⟨b, o + k * 5 + 1, none⟩) hblt).trans e1
      have f2 := (HE.out.cell (p := ⟨b, o + k * 5 + 2, none⟩) hblt).trans e2
      have f3 := (HE.out.cell (p := ⟨b, o + k * 5 + 3, none⟩) hblt).trans e3
      have f4 := (HE.out.cell (p := ⟨b, o + k * 5 + 4, none⟩) hblt).trans e4
      obtain rfl : a = some ⟨b, o, none⟩ := HA.out.resolve_left (by intro h; rw [h] at hlt; cases hlt)
      have HT := Lib.hid (linesF_take F hx)
      have HLE : Hid ((linesF F (l.take (k + 1))).length ≤ 100000000) := Nat.le_trans (linesF_le F l (k + 1)) HL.out
      have bA : Below g w (wr.alloc (.cells #[.string x.qu, .int .u64 x.id, .int .u32 x.tries, .int .u64 x.expiry, .string x.body] 62)) := HE.out.alloc (Nat.le_of_lt HC.out.lt) _
      have HFX := Lib.hid (HF.out x (List.mem_of_getElem? hx) _ (by rw [HG.out]; exact bA))
      have HEA := Lib.hid bA
      have HBA : Hid (BX (wr.alloc (.cells #[.string x.qu, .int .u64 x.id, .int .u32 x.tries, .int .u64 x.expiry, .string x.body] 62)) (g + 1) (g + 1) (linesF F (l.take k))) := HB.out.below ((Below.refl _ _).alloc (Nat.le_refl _) _)
      have HCA : Hid (Boxed (wr.alloc (.cells #[.string x.qu, .int .u64 x.id, .int .u32 x.tries, .int .u64 x.expiry, .string x.body] 62)) g 9 (.string ⟨#[]⟩)) := HC.out.alloc _
      unfold aggM at HFX
      have hl1 : Hid ((linesF F (l.take k)).length + (F x).length + 1 ≤ 100000000) := by have := HLE.out; rw [HT.out] at this; simp at this; show _ ≤ _; omega
      clear hx e0 e1 e2 e3 e4 hblt bA
      go_wp2_with (first
        | (go_at_call 45; refine HFX.out.mono ?_; rintro e w1 ⟨rfl, hb1⟩; have HB1 := Lib.hid (HBA.out.below hb1); have HC1 : Hid (Boxed w1 g 9 (.string ⟨#[]⟩)) := (hb1.block _ HCA.out.lt).trans HCA.out; have HE1 : Hid (Below g w w1) := HEA.out.trans (hb1.mono (Nat.le_of_lt HCA.out.lt)); clear hb1)
        | (go_at_call 116; refine (HB1.out.write (F x) (by have := hl1.out; omega)).mono ?_; rintro e w2 ⟨rfl, hb2, hw2⟩; have HB2 := Lib.hid hb2; have HC2 : Hid (Boxed w2 g 9 (.string ⟨#[]⟩)) := (hw2.block _ (Nat.lt_succ_self g)).trans HC1.out; have HE2 : Hid (Below g w w2) := HE1.out.trans (hw2.mono (Nat.le_succ g)); clear hb2 hw2)
        | (go_at_call 147; refine (HB2.out.byte 10 (by rw [List.length_append]; have := hl1.out; omega)).mono ?_; rintro e w3 ⟨rfl, hb3, hw3⟩; have HB3 := Lib.hid hb3; have HC3 : Hid (Boxed w3 g 9 (.string ⟨#[]⟩)) := (hw3.block _ (Nat.lt_succ_self g)).trans HC2.out; have HE3 : Hid (Below g w w3) := HE2.out.trans (hw3.mono (Nat.le_succ g)); clear hb3 hw3))
      go_roundg (l.length - (k + 1))
      case measure => omega
      case rel => exact ⟨k + 1, hlt, rfl, by go_num, by show BX _ _ _ _; rw [HT.out]; exact HB3.out, HC3.out, HE3.out⟩
    · obtain rfl : k = l.length := by omega
      have HB' : Hid (BX wr (g + 1) (g + 1) (linesF F l)) := by have := HB.out; rw [List.take_length] at this; exact this
      go_wp2_with (go_at_call 118; refine HB'.out.string.mono ?_; rintro e w1 ⟨rfl, hb1⟩; have x1 : Boxed w1 g 9 (.string ⟨#[]⟩) := (hb1.block _ (Nat.lt_succ_self g)).trans HC.out; have f1 := x1.frozen; have c1 := x1.cell; have HX1 := Lib.hid x1; have HE1 : Hid (Below g w w1) := HE.out.trans (hb1.mono (Nat.le_succ g)); clear hb1 x1)
      have xs : Boxed (w1.setCell ⟨g, 0, none⟩ (.string (str (linesF F l)))) g 9 (.string (str (linesF F l))) := HX1.out.set _
      have cs := xs.cell
      have HR : (results Tryz.f140 #[.slice a l.length c, .func (.func 45) #[] #[], undef, undef,
          .pointer (some ⟨g, 0, none⟩), .pointer (some ⟨g + 1, 0, none⟩), undef, u7,
          .func (.func 45) #[] #[], .bool false,
          .func (.func 226) #[] #[.pointer (some ⟨g, 0, none⟩)], .slice a l.length c,
          .int .i64 l.length, .int .i64 l.length, .bool false, u15, u16, u17, u18, u19,
          u20, u21, u22, .string (str (linesF F l))]).run Tryz.prog (w1.setCell ⟨g, 0, none⟩ (.string (str (linesF F l)))) = .ok (.string (str (linesF F l))) (w1.setCell ⟨g, 0, none⟩ (.string (str (linesF F l)))) := by
        simp [results, Tryz.results140, go_sem, cs]
      refine leaves_cons (f := 226) (args := #[.pointer (some ⟨g, 0, none⟩)]) (by simp) (by simp [go_sem]) ?_
      refine (idleLnM _ _).mono ?_
      rintro e u' w'' ⟨rfl, rfl, rfl⟩
      exact ⟨_, HR, rfl, by rw [HG.out]; exact HE1.out.setCell (p := ⟨g, 0, none⟩) (Nat.le_refl _) _⟩
end Go.Proofs.YtgmneapgihakgaaGreatDoor
/- The whole of a dump, of pages and of a reply that fails. -/
namespace Go.Proofs.YtgmneapgihakgaaGreatDoor
open Go.RowKit
theorem linesF_most {α : Type} (F : α → List UInt8) (n : Nat) : ∀ l : List α, (∀ x ∈ l, (F x).length ≤ n) → (linesF F l).length ≤ l.length * (n + 1)
  | [], _ => by simp [linesF]
  | x :: t, h => by
    have h1 := linesF_most F n t (fun y hy => h y (by simp [hy]))
    have h2 := h x (by simp)
    have e : linesF F (x :: t) = F x ++ [10] ++ linesF F t := by simp [linesF]
    rw [e, List.length_cons, Nat.add_mul]
    simp only [List.length_append, List.length_cons, List.length_nil]
    omega
theorem unT_len (e : Nat) (h : e < 18446744073709551616) : (unT e).length ≤ 20 := by
  unfold unT
  split
  · simp
  · exact dec_len e h
theorem msT_len (m : Ms) (h : OkM m) : (msT m).length ≤ 30000 := by
  have a0 := quoteT_tx m.qu h.qu
  have hb := h.body
  have a1 := decI_len m.body.size (by omega) (by omega)
  have a2 := dec_len m.id h.id
  have a3 := unT_len m.expiry h.expiry
  have a4 := dec_len m.tries (by have := h.tries; omega)
  unfold msT
  simp only [List.length_append, List.length_cons, List.length_nil]; omega
theorem bnT_len (b : Bnd) (h : OkB b) : (bnT b).length ≤ 31000 := by
  have a0 := quoteT_tx b.ex h.ex
  have a1 := quoteT_tx b.key h.key
  have a2 := quoteT_tx b.qu h.qu
  have a3 := exT_len b.kind h.k0 h.k1
  unfold bnT
  simp only [List.length_append, List.length_cons, List.length_nil]; omega
def dumT (clock last : Nat) (lq : List Qu) (lb : List Bnd) (lm : List Ms) : List UInt8 := [99, 108, 111, 99, 107, 32] ++ dec clock ++ [32, 108, 97, 115, 116, 32] ++ dec last ++ [10] ++ linesF quT lq ++ linesF bnT lb ++ linesF msT lm
theorem dump_any (clock last : Nat) (vq vb vm : Value) (lq : List Qu) (lb : List Bnd) (lm : List Ms) (w : World) (ht : Tb w) (hc : clock < 18446744073709551616) (hl : last < 18446744073709551616) (hq : SlV cvQu 5 w vq lq) (hb : SlV cvBn 4 w vb lb) (hm : SlV cvMs 5 w vm lm)
    (oq : ∀ q ∈ lq, OkQ q) (ob : ∀ q ∈ lb, OkB q) (om : ∀ q ∈ lm, OkM q) (nq : lq.length ≤ 40) (nb : lb.length ≤ 40) (nm : lm.length ≤ 40) :
    Calls Tryz.prog 50 #[.agg #[.int .u64 clock, .int .u64 last, vq, vb, vm]] w fun e w' => e = .returned (.string (str (dumT clock last lq lb lm))) ∧ Below w.heap.size w w' := by
  have a0 := dec_len clock hc
  have a1 := dec_len last hl
  have a2 := linesF_most quT 30000 lq (fun x hx => quT_len x (oq x hx))
  have a3 := linesF_most bnT 31000 lb (fun x hx => bnT_len x (ob x hx))
  have a4 := linesF_most msT 30000 lm (fun x hx => msT_len x (om x hx))
  have b2 : lq.length * (30000 + 1) ≤ 40 * (30000 + 1) := Nat.mul_le_mul_right _ nq
  have b3 : lb.length * (31000 + 1) ≤ 40 * (31000 + 1) := Nat.mul_le_mul_right _ nb
  have b4 : lm.length * (30000 + 1) ≤ 40 * (30000 + 1) := Nat.mul_le_mul_right _ nm
  have st : ∀ {W W' W'' : World}, Below w.heap.size w W → Below W.heap.size W W' → Below w.heap.size w W' := fun h1 h2 => below_step h1 h2
  refine cat_dump clock last vq vb vm _ _ _ _ _ (by omega) (by omega) (by omega) (by omega) (by omega) w (fun W hW => nm64_any _ hc W (.inr (ht.below hW))) (fun W hW => nm64_any _ hl W (.inr (ht.below hW))) ?_ ?_ ?_
  · exact fun W hW => linesQ_any lq vq quT W (hq.below hW) (by omega) (fun x hx W' hW' => queue_line x (oq x hx) W' (ht.below (below_step hW hW')))
  · exact fun W hW => linesD_any lb vb bnT W (hb.below hW) (by omega) (fun x hx W' hW' => binding_line x (ob x hx) W' (ht.below (below_step hW hW')))
  · exact fun W hW => linesM_any lm vm msT W (hm.below hW) (by omega) (fun x hx W' hW' => message_line x (om x hx) W' (ht.below (below_step hW hW')))
def pagT (n0 n1 n2 n3 : Nat) (l4 l5 : List Nat) (pairs deep : Int) (bytes : Nat) : List UInt8 := [112, 97, 103, 101, 115, 58, 32, 116, 114, 101, 101, 32] ++ decI n0 ++ [44, 32, 99, 104, 97, 105, 110, 115, 32] ++ decI n1 ++ [44, 32, 108, 101, 100, 103, 101, 114, 32] ++ decI n2 ++ [44, 32, 102, 114, 101, 101, 32] ++ decI n3 ++ someT [44, 32, 108, 111, 115, 116] l4 ++ someT [44, 32, 116, 119, 105, 99, 101] l5 ++ [10] ++ [112, 97, 105, 114, 115, 58, 32] ++ decI pairs ++ [32, 111, 102, 32] ++ dec bytes ++ [32, 98, 121, 116, 101, 115, 44, 32] ++ decI deep ++ [32, 100, 101, 101, 112, 10]
theorem pages_any (a0 a1 a2 a3 a4 a5 : Option Addr) (n0 n1 n2 n3 k0 k1 k2 k3 k4 k5 : Nat) (l4 l5 : List Nat) (pairs deep : Int) (bytes : Nat) (w : World) (ht : Tb w)
    (h0 : n0 ≤ 200) (h1 : n1 ≤ 200) (h2 : n2 ≤ 200) (h3 : n3 ≤ 200) (h4 : l4.length ≤ 200) (h5 : l5.length ≤ 200) (b4 : ∀ n ∈ l4, n < 4294967296) (b5 : ∀ n ∈ l5, n < 4294967296)
    (p0 : -9223372036854775808 ≤ pairs) (p1 : pairs ≤ 9223372036854775807) (q0 : -9223372036854775808 ≤ deep) (q1 : deep ≤ 9223372036854775807) (hb : bytes < 18446744073709551616)
    (s4 : SlP (fun n : Nat => .int .u32 n) w (.slice a4 l4.length k4) l4) (s5 : SlP (fun n : Nat => .int .u32 n) w (.slice a5 l5.length k5) l5) :
    Calls Tryz.prog 52 #[.agg #[.slice a0 n0 k0, .slice a1 n1 k1, .slice a2 n2 k2, .slice a3 n3 k3, .slice a4 l4.length k4, .slice a5 l5.length k5, .int .i64 pairs, .int .u64 bytes, .int .i64 deep]] w fun e w' => e = .returned (.string (str (pagT n0 n1 n2 n3 l4 l5 pairs deep bytes))) ∧ Below w.heap.size w w' := by
  have below : ∀ {v : Value} {k : List Nat} {W : World}, SlP (fun n : Nat => .int .u32 n) w v k → Below w.heap.size w W → SlP (fun n : Nat => .int .u32 n) W v k := fun ⟨a, b, o, c, h1, h2, h3⟩ hb => ⟨a, b, o, c, h1, h2, fun j x hj => (hb.cell (p := ⟨b, o + j, none⟩) (World.block_lt_of_cell? _ _ (h3 j x hj))).trans (h3 j x hj)⟩
  have i0 := decI_len n0 (by omega) (by omega)
  have i1 := decI_len n1 (by omega) (by omega)
  have i2 := decI_len n2 (by omega) (by omega)
  have i3 := decI_len n3 (by omega) (by omega)
  have i4 := someT_len [44, 32, 108, 111, 115, 116] l4 (fun n hn => by have := b4 n hn; omega)
  have i5 := someT_len [44, 32, 116, 119, 105, 99, 101] l5 (fun n hn => by have := b5 n hn; omega)
  have i6 := decI_len pairs p0 p1
  have i7 := dec_len bytes hb
  have i8 := decI_len deep q0 q1
  simp only [List.length_cons, List.length_nil] at i4 i5
  exact cat_pages a0 a1 a2 a3 a4 a5 n0 n1 n2 n3 l4.length l5.length k0 k1 k2 k3 k4 k5 pairs deep bytes _ _ _ _ _ _ _ _ _ (by omega) (by omega) (by omega) (by omega) (by omega) (by omega) (by omega) (by omega) (by omega) w
    (fun W hW => nmI_any _ (by omega) (by omega) W (ht.below hW)) (fun W hW => nmI_any _ (by omega) (by omega) W (ht.below hW)) (fun W hW => nmI_any _ (by omega) (by omega) W (ht.below hW)) (fun W hW => nmI_any _ (by omega) (by omega) W (ht.below hW))
    (fun W hW => some32_any [44, 32, 108, 111, 115, 116] (by decide) l4 (by omega) b4 _ W (below s4 hW) (.inr (ht.below hW))) (fun W hW => some32_any [44, 32, 116, 119, 105, 99, 101] (by decide) l5 (by omega) b5 _ W (below s5 hW) (.inr (ht.below hW)))
    (fun W hW => nmI_any _ p0 p1 W (ht.below hW)) (fun W hW => nm64_any _ hb W (.inr (ht.below hW))) (fun W hW => nmI_any _ q0 q1 W (ht.below hW))
def errT (e : Int) : List UInt8 := [101, 114, 114, 111, 114, 32] ++ decI e
theorem reply_err (e : Int) (he : e ≠ 0) (e0 : -9223372036854775808 ≤ e) (e1 : e ≤ 9223372036854775807) (n : Nat) (vi vl vd vm : Value) (w : World) (ht : Tb w) :
    Calls Tryz.prog 47 #[.agg #[.int .i64 e, .int .u64 n, vi, vl, vd, vm]] w fun e' w' => e' = .returned (.string (str (errT e))) ∧ Below w.heap.size w w' := by
  have x0 := BoxL.new w #[.int .i64 e, .int .u64 n, vi, vl, vd, vm] 101
  have c0 := x0.cell (i := 0) (x := .int .i64 e) rfl
  have hb : Below w.heap.size w (w.alloc (.cells #[.int .i64 e, .int .u64 n, vi, vl, vd, vm] 101)) := (Below.refl _ _).alloc (Nat.le_refl _) _
  have H := Lib.hid (errno_any e e0 e1 _ (ht.below hb))
  have HB := Lib.hid hb
  have hne : (e != 0) = true := by simpa using he
  clear x0 hb ht e0 e1 he
  go_enter Tryz.func47, Tryz.ntmps47
  go_wp2_with (go_at_call 133; refine H.out.mono ?_; rintro e1 w1 ⟨rfl, hb1⟩)
  go_ret
  exact ⟨rfl, below_step HB.out hb1⟩
end Go.Proofs.YtgmneapgihakgaaGreatDoor
/- What bytes the texts have: plain ones, and an end of line behind each thing. -/
namespace Go.Proofs.YtgmneapgihakgaaGreatDoor
/-- Plain, within a line. -/
def Pl (l : List UInt8) : Prop := ∀ b ∈ l, 32 ≤ b.toNat ∧ b.toNat ≤ 126
theorem Pl.app {l m : List UInt8} (h : Pl l) (h2 : Pl m) : Pl (l ++ m) := fun b hb => (List.mem_append.1 hb).elim (h b) (h2 b)
theorem Pl.lit {l : List UInt8} (h : (l.all fun b => decide (32 ≤ b.toNat) && decide (b.toNat ≤ 126)) = true) : Pl l := fun b hb => by
  have := List.all_eq_true.1 h b hb
  simpa using this
theorem pl_dec (u : Nat) : Pl (dec u) := by
  unfold dec
  rw [Lib.decDigits_eq]
  intro b hb
  obtain ⟨t, _, rfl⟩ := List.mem_map.1 hb
  unfold Lib.dg
  rw [UInt8.toNat_ofNat']
  omega
theorem pl_decI (i : Int) : Pl (decI i) := by
  unfold decI Lib.itoa
  split
  · intro b hb
    rcases List.mem_cons.1 hb with rfl | hb
    · decide
    · exact pl_dec _ b hb
  · exact pl_dec _
theorem pl_hex (n : Nat) (h : n < 16) : 32 ≤ (hexD n).toNat ∧ (hexD n).toNat ≤ 126 := by
  unfold hexD
  rw [UInt8.toNat_ofNat']
  split <;> omega
theorem pl_quoteC (c : UInt8) : Pl (quoteC c) := by
  unfold quoteC
  split
  · rename_i h
    rcases h with rfl | rfl <;> exact Pl.lit (by decide)
  · split
    · exact Pl.lit (by decide)
    · split
      · have hc := c.toNat_lt
        refine ((Pl.lit (by decide)).app ?_).app ?_
        · intro b hb; simp at hb; subst hb; exact pl_hex _ (by omega)
        · intro b hb; simp at hb; subst hb; exact pl_hex _ (by omega)
      · rename_i h
        intro b hb
        simp at hb; subst hb
        have h1 : ¬ b.toNat < 32 := fun h' => h (.inl (UInt8.lt_iff_toNat_lt.2 h'))
        have h2 : ¬ 126 < b.toNat := fun h' => h (.inr (UInt8.lt_iff_toNat_lt.2 h'))
        omega
theorem pl_quote (s : List UInt8) : Pl (quoteT s) := by
  unfold quoteT
  refine ((Pl.lit (by decide)).app ?_).app (Pl.lit (by decide))
  intro b hb
  obtain ⟨c, _, hb⟩ := List.mem_flatMap.1 hb
  exact pl_quoteC c b hb
theorem pl_quT (q : Qu) : Pl (quT q) := by
  unfold quT
  exact (((((((((Pl.lit (by decide)).app (pl_quote _)).app (Pl.lit (by decide))).app (pl_dec _)).app (Pl.lit (by decide))).app (pl_dec _)).app (Pl.lit (by decide))).app (pl_dec _)).app (Pl.lit (by decide))).app (pl_quote _)
theorem pl_unT (e : Nat) : Pl (unT e) := by
  unfold unT
  split
  · exact Pl.lit (by decide)
  · exact pl_dec _
theorem pl_msT (m : Ms) : Pl (msT m) := by
  unfold msT
  exact ((((((((((Pl.lit (by decide)).app (pl_quote _)).app (Pl.lit (by decide))).app (pl_dec _)).app (Pl.lit (by decide))).app (pl_dec _)).app (Pl.lit (by decide))).app (pl_unT _)).app (Pl.lit (by decide))).app (pl_decI _)).app (Pl.lit (by decide))
theorem pl_exT (k : Int) : Pl (exT k) := by
  unfold exT
  split
  · exact Pl.lit (by decide)
  · split
    · exact Pl.lit (by decide)
    · split
      · exact Pl.lit (by decide)
      · exact (Pl.lit (by decide)).app (pl_decI _)
theorem pl_bnT (b : Bnd) : Pl (bnT b) := by
  unfold bnT
  exact (((((((Pl.lit (by decide)).app (pl_quote _)).app (Pl.lit (by decide))).app (pl_exT _)).app (Pl.lit (by decide))).app (pl_quote _)).app (Pl.lit (by decide))).app (pl_quote _)
theorem pl_joinTail (s : List UInt8) (hs : Pl s) (r : List (List UInt8)) (h : ∀ x ∈ r, Pl x) : Pl (Lib.joinTail s r) := by
  unfold Lib.joinTail
  intro b hb
  obtain ⟨y, hy, hb⟩ := List.mem_flatten.1 hb
  obtain ⟨x, hx, rfl⟩ := List.mem_map.1 hy
  exact (hs.app (h x hx)) b hb
theorem pl_join (s : List UInt8) (hs : Pl s) : ∀ r : List (List UInt8), (∀ x ∈ r, Pl x) → Pl (Lib.join r s)
  | [], _ => by rw [Lib.join_nil]; intro b hb; cases hb
  | x :: r, h => by
    rw [Lib.join_cons]
    exact (h x (by simp)).app (pl_joinTail s hs r (fun y hy => h y (by simp [hy])))
theorem pl_some (ah : List UInt8) (ha : Pl ah) (l : List Nat) : Pl (someT ah l) := by
  unfold someT
  split
  · intro b hb; cases hb
  · refine (((ha.app (Pl.lit (by decide))).app ?_)).app (Pl.lit (by decide))
    refine pl_join _ (Pl.lit (by decide)) _ ?_
    intro x hx
    obtain ⟨n, _, rfl⟩ := List.mem_map.1 hx
    exact pl_dec n
/-- Plain, or the end of a line; so many ends. -/
structure Ln (l : List UInt8) (n : Nat) : Prop where
  plain : ∀ b ∈ l, b.toNat = 10 ∨ (32 ≤ b.toNat ∧ b.toNat ≤ 126)
  count : l.count 10 = n
theorem Pl.ln {l : List UInt8} (h : Pl l) : Ln l 0 := ⟨fun b hb => .inr (h b hb), by
  rw [List.count_eq_zero]
  intro h10
  have := h 10 h10
  revert this; decide⟩
theorem Ln.app {l m : List UInt8} {a b : Nat} (h : Ln l a) (h2 : Ln m b) : Ln (l ++ m) (a + b) := ⟨fun x hx => (List.mem_append.1 hx).elim (h.plain x) (h2.plain x), by rw [List.count_append, h.count, h2.count]⟩
theorem ln10 : Ln [10] 1 := ⟨fun b hb => by simp at hb; subst hb; decide, by decide⟩
theorem ln_lines {α : Type} (F : α → List UInt8) (hF : ∀ x, Pl (F x)) : ∀ l : List α, Ln (linesF F l) l.length
  | [] => ⟨fun b hb => (by cases hb), rfl⟩
  | x :: t => by
    have e : linesF F (x :: t) = F x ++ [10] ++ linesF F t := by simp [linesF]
    rw [e]
    have := (((hF x).ln.app ln10).app (ln_lines F hF t))
    rwa [show 0 + 1 + t.length = (x :: t).length by simp; omega] at this
theorem ln_tail (F : Ms → List UInt8) (hF : ∀ x, Pl (F x)) : ∀ l : List Ms, Ln (tailF F l) l.length
  | [] => ⟨fun b hb => (by cases hb), rfl⟩
  | x :: t => by
    have e : tailF F (x :: t) = [10] ++ ([32, 32] ++ F x) ++ tailF F t := by simp [tailF]
    rw [e]
    have := ((ln10.app ((Pl.lit (l := [32, 32]) (by decide)).app (hF x)).ln).app (ln_tail F hF t))
    rwa [show 1 + 0 + t.length = (x :: t).length by simp; omega] at this
theorem ln_dum (clock last : Nat) (lq : List Qu) (lb : List Bnd) (lm : List Ms) : Ln (dumT clock last lq lb lm) (lq.length + lb.length + lm.length + 1) := by
  unfold dumT
  have h0 : Ln ([99, 108, 111, 99, 107, 32] ++ dec clock ++ [32, 108, 97, 115, 116, 32] ++ dec last) 0 := Pl.ln ((((Pl.lit (by decide)).app (pl_dec _)).app (Pl.lit (by decide))).app (pl_dec _))
  have := (((h0.app ln10).app (ln_lines quT pl_quT lq)).app (ln_lines bnT pl_bnT lb)).app (ln_lines msT pl_msT lm)
  rwa [show 0 + 1 + lq.length + lb.length + lm.length = lq.length + lb.length + lm.length + 1 by omega] at this
theorem ln_pag (n0 n1 n2 n3 : Nat) (l4 l5 : List Nat) (pairs deep : Int) (bytes : Nat) : Ln (pagT n0 n1 n2 n3 l4 l5 pairs deep bytes) 2 := by
  have e : pagT n0 n1 n2 n3 l4 l5 pairs deep bytes = ([112, 97, 103, 101, 115, 58, 32, 116, 114, 101, 101, 32] ++ decI n0 ++ [44, 32, 99, 104, 97, 105, 110, 115, 32] ++ decI n1 ++ [44, 32, 108, 101, 100, 103, 101, 114, 32] ++ decI n2 ++ [44, 32, 102, 114, 101, 101, 32] ++ decI n3 ++ someT [44, 32, 108, 111, 115, 116] l4 ++ someT [44, 32, 116, 119, 105, 99, 101] l5) ++ [10] ++ ([112, 97, 105, 114, 115, 58, 32] ++ decI pairs ++ [32, 111, 102, 32] ++ dec bytes ++ [32, 98, 121, 116, 101, 115, 44, 32] ++ decI deep ++ [32, 100, 101, 101, 112]) ++ [10] := by
    unfold pagT
    simp only [List.append_assoc]
    rfl
  rw [e]
  have h0 : Ln ([112, 97, 103, 101, 115, 58, 32, 116, 114, 101, 101, 32] ++ decI n0 ++ [44, 32, 99, 104, 97, 105, 110, 115, 32] ++ decI n1 ++ [44, 32, 108, 101, 100, 103, 101, 114, 32] ++ decI n2 ++ [44, 32, 102, 114, 101, 101, 32] ++ decI n3 ++ someT [44, 32, 108, 111, 115, 116] l4 ++ someT [44, 32, 116, 119, 105, 99, 101] l5) 0 :=
    Pl.ln ((((((((((Pl.lit (by decide)).app (pl_decI _)).app (Pl.lit (by decide))).app (pl_decI _)).app (Pl.lit (by decide))).app (pl_decI _)).app (Pl.lit (by decide))).app (pl_decI _)).app (pl_some _ (Pl.lit (by decide)) _)).app (pl_some _ (Pl.lit (by decide)) _))
  have h1 : Ln ([112, 97, 105, 114, 115, 58, 32] ++ decI pairs ++ [32, 111, 102, 32] ++ dec bytes ++ [32, 98, 121, 116, 101, 115, 44, 32] ++ decI deep ++ [32, 100, 101, 101, 112]) 0 :=
    Pl.ln (((((((Pl.lit (by decide)).app (pl_decI _)).app (Pl.lit (by decide))).app (pl_dec _)).app (Pl.lit (by decide))).app (pl_decI _)).app (Pl.lit (by decide)))
  exact ((h0.app ln10).app h1).app ln10
theorem ln_head (n : Nat) (ids lost dead : List Nat) : Ln (headT n ids lost dead) 0 := by
  unfold headT
  exact Pl.ln (((((Pl.lit (by decide)).app (pl_dec _)).app (pl_some _ (Pl.lit (by decide)) _)).app (pl_some _ (Pl.lit (by decide)) _)).app (pl_some _ (Pl.lit (by decide)) _))
theorem ln_reply (n : Nat) (ids lost dead : List Nat) (l : List Ms) : Ln (headT n ids lost dead ++ tailF msT l) l.length := by
  have := (ln_head n ids lost dead).app (ln_tail msT pl_msT l)
  rwa [Nat.zero_add] at this
theorem ln_err (e : Int) : Ln (errT e) 0 := Pl.ln ((Pl.lit (by decide)).app (pl_decI _))
end Go.Proofs.YtgmneapgihakgaaGreatDoor
