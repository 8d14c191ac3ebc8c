/- The contracts of a pair's codec: pairs, Put, Get. -/
import Derived.Test.YtgkonmidgeanmaaMod
import Derived.Laws.EntriesVeiled
import Derived.Test.YtgkonmidgeanmaaBuilder
namespace Go.Proofs.Ytgkonmidgeanmaa
open Go.RowKit
structure Pr where
  n : Nat
  s : List UInt8
def enc (p : Pr) : List UInt8 := Oc.big 2 p.n ++ (Oc.big 4 p.s.length ++ p.s)
def aggR (p : Pr) : Value := .agg #[.int .u16 p.n, .string (str p.s)]
theorem pairs_any (w : World) :
    Calls Try.prog 32 #[] w fun e w' => e = .returned (.agg #[.func (.func 41) #[] #[], .func (.func 42) #[] #[]]) ∧ Below w.heap.size w w' := by
  go_enter Try.func32, Try.ntmps32
  go_wp2
  refine bodyPost_ret_by (v := .agg #[.func (.func 41) #[] #[], .func (.func 42) #[] #[]]) ?_ rfl ⟨rfl, (Below.refl _ _).alloc (Nat.le_refl _) _⟩
  simp [results, Try.results32, go_sem]
theorem below_off {w w1 : World} {o : Obj} (h : Below (w.alloc o).drew.heap.size (w.alloc o).drew w1) : Below w.heap.size w w1 :=
  (((Below.refl _ _).alloc (Nat.le_refl _) o).drew).trans (h.mono (by show w.heap.size ≤ (w.alloc o).heap.size; simp))
theorem put_any (p : Pr) (hn : p.n < 65536) (hs : p.s.length < 100000) (w : World) :
    Calls Try.prog 41 #[aggR p] w fun e w' => e = .returned (.string (str (enc p))) ∧ Below w.heap.size w w' := by
  obtain ⟨n, s⟩ := p
  simp only at hn hs
  unfold aggR
  have hz := big_size
  have hs4 : (str s).size < 4294967296 := by rw [str_size]; omega
  have hzt : (str (Oc.big 4 (str s).size ++ (str s).data.toList)).size = 4 + s.length := by rw [str_size, List.length_append, Oc.big_length]; rfl
  have H : Hid (str (Oc.big 2 n) ++ str (Oc.big 4 (str s).size ++ (str s).data.toList) = str (enc ⟨n, s⟩)) := by show _ = _; rw [str_append]; rfl
  go_enter Try.func41, Try.ntmps41
  go_wp2_with fail
  go_region_with (first
    | (go_at_call 11; refine (two_at _ n rfl hn _).mono ?_; rintro e w1 ⟨rfl, hb1⟩; have hk := (hb1.cell (p := ⟨w.heap.size, 1, none⟩) (by simp)).trans (show _ = some (Value.string (str s)) by simp))
    | (go_at_call 14; refine (text_at _ hs4 _).mono ?_; rintro e w2 ⟨rfl, hb2⟩))
  all_goals
    (go_wp2
     go_ret
     exact ⟨ret_string H.out, below_step (below_off hb1) hb2⟩)
def getR (s : ByteArray) (e : Int) : Pr × ByteArray × Int :=
  let T := tk s e 2
  let X := txt T.2.1 T.2.2 100
  (⟨Oc.val T.1.data.toList, X.1.data.toList⟩, X.2.1, X.2.2)
theorem stored2 {w : World} {g : Nat} {x0 x1 v0 v1 : Value} (k0 : w.cell? ⟨g, 0, none⟩ = some x0) (k1 : w.cell? ⟨g, 1, none⟩ = some x1) :
    ((w.setCell ⟨g, 0, none⟩ v0).setCell ⟨g, 1, none⟩ v1).cell? ⟨g, 0, none⟩ = some v0 ∧ ((w.setCell ⟨g, 0, none⟩ v0).setCell ⟨g, 1, none⟩ v1).cell? ⟨g, 1, none⟩ = some v1 := by
  have ne01 : (⟨g, 1, none⟩ : Addr) ≠ ⟨g, 0, none⟩ := fun h => by cases h
  have a0 : (w.setCell ⟨g, 0, none⟩ v0).cell? ⟨g, 0, none⟩ = some v0 := World.cell?_setCell_same' _ _ _ (by rw [k0]; rfl)
  have a1 : (w.setCell ⟨g, 0, none⟩ v0).cell? ⟨g, 1, none⟩ = some x1 := by rw [World.cell?_setCell_other _ _ _ _ (fun h => ne01 h.symm), k1]
  refine ⟨?_, World.cell?_setCell_same' _ _ _ (by rw [a1]; rfl)⟩
  rw [World.cell?_setCell_other _ _ _ _ ne01, a0]
theorem stored2_below {w : World} {g B : Nat} {v0 v1 : Value} (hB : B ≤ g) : Below B w ((w.setCell ⟨g, 0, none⟩ v0).setCell ⟨g, 1, none⟩ v1) :=
  ((Below.refl B w).setCell (p := ⟨g, 0, none⟩) hB _).setCell (p := ⟨g, 1, none⟩) hB _
theorem blk2 {w w' : World} {b : Nat} (hm : Mod b (w.alloc (.cells #[.int .u16 0, .string ⟨#[]⟩] 62)) w') (hne : w.heap.size ≠ b) :
    (w'.cell? ⟨w.heap.size, 0, none⟩ = some (.int .u16 0) ∧ w'.cell? ⟨w.heap.size, 1, none⟩ = some (.string ⟨#[]⟩)) ∧
      w'.frozen? ⟨w.heap.size, 0, none⟩ = false ∧ w'.frozen? ⟨w.heap.size, 1, none⟩ = false := by
  have hl : w.heap.size < (w.alloc (.cells #[.int .u16 0, .string ⟨#[]⟩] 62)).heap.size := by simp
  refine ⟨⟨?_, ?_⟩, ?_, ?_⟩
  · rw [hm.cell (p := ⟨w.heap.size, 0, none⟩) hl hne]; simp
  · rw [hm.cell (p := ⟨w.heap.size, 1, none⟩) hl hne]; simp
  · rw [hm.frozen (p := ⟨w.heap.size, 0, none⟩) hl hne]; simp
  · rw [hm.frozen (p := ⟨w.heap.size, 1, none⟩) hl hne]; simp
theorem res42 {w : World} {g : Nat} {n : Int} {s : ByteArray} {tmps : Array Value} (ht : tmps[2]? = some (.pointer (some ⟨g, 0, none⟩)))
    (h0 : w.cell? ⟨g, 0, none⟩ = some (.int .u16 n)) (h1 : w.cell? ⟨g, 1, none⟩ = some (.string s)) :
    (results Try.f42 tmps).run Try.prog w = .ok (.agg #[.int .u16 n, .string s]) w := by
  simp [results, Try.results42, go_sem, ht, h0, h1]
theorem getFn_any (b : Nat) (s : ByteArray) (e : Int) (w : World) (h : Rd w b s e) :
    Calls Try.prog 42 #[.pointer (some ⟨b, 0, none⟩)] w fun x w' => x = .returned (aggR (getR s e).1) ∧ Rd w' b (getR s e).2.1 (getR s e).2.2 ∧ Mod b w w' := by
  have HR := Lib.hid h
  have HLT := Lib.hid h.lt
  have HNE : Hid (w.heap.size ≠ b) := fun he => by have := HLT.out; omega
  clear h
  unfold getR
  simp only
  have HT := Lib.hid (fun W (hW : Rd W b s e) => two_rd b s e W hW)
  revert HT
  generalize tk s e 2 = T
  intro HT
  have HX := Lib.hid (fun W (hW : Rd W b T.2.1 T.2.2) => text_rd b T.2.1 T.2.2 100 (by decide) W hW)
  revert HX
  generalize txt T.2.1 T.2.2 100 = X
  intro HX
  go_enter Try.func42, Try.ntmps42
  go_wp2_with (first
    | (go_at_call 17; refine (HT.out _ (HR.out.alloc _)).mono ?_; rintro x w1 ⟨rfl, hr1, hu1⟩)
    | (go_at_call 21; refine (HX.out _ hr1).mono ?_; rintro x w2 ⟨rfl, hr2, hu2⟩; have hm2 := Lib.hid (((Mod.refl b (w.alloc (.cells #[.int .u16 0, .string ⟨#[]⟩] 62))).upd hu1).upd hu2); obtain ⟨⟨k0, k1⟩, f0, f1⟩ := blk2 hm2.out HNE.out))
  obtain ⟨s0, s1⟩ := stored2 (v0 := .int .u16 (Oc.val T.1.data.toList : Nat)) (v1 := .string X.1) k0 k1
  have hbe := stored2_below (w := w2) (v0 := .int .u16 (Oc.val T.1.data.toList : Nat)) (v1 := .string X.1) (Nat.le_refl w.heap.size)
  exact bodyPost_ret_by (res42 rfl s0 s1) rfl ⟨rfl, hr2.below' hbe HLT.out, hm2.out.old.step' hbe⟩
end Go.Proofs.Ytgkonmidgeanmaa
