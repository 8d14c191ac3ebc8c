/- The document's own reading of records. -/
import Derived.Test.YtfoijhofpjaldaaRecI
set_option maxRecDepth 100000
set_option maxHeartbeats 4000000
set_option linter.unusedVariables false
namespace Go.Proofs.Ytfoijhofpjaldaa
open Go.RowKit
theorem tk_err (s : ByteArray) (e n : Int) (h : e ≠ 0) : tk s e n = (ByteArray.empty, s, e) := tk_bad s e n h
theorem txt_err (s : ByteArray) (e m : Int) (h : e ≠ 0) : (txt s e m).2 = (s, e) := by
  rw [txt_eq, tk_bad s e 4 h]
  simp only [if_neg h, tk_bad s e _ h]
  repeat (first | rfl | split)
theorem getQ_err (nm s : ByteArray) (e : Int) (h : e ≠ 0) : (getQ nm s e).2 = (s, e) := by
  unfold getQ
  simp only [tk_err s e _ h]
  exact txt_err s e 32 h
theorem getM_err (nm : ByteArray) (i : Nat) (s : ByteArray) (e : Int) (h : e ≠ 0) : (getM nm i s e).2 = (s, e) := by
  unfold getM
  simp only [tk_err s e _ h]
  exact txt_err s e 32768 h
theorem getU_err (s : ByteArray) (e : Int) (h : e ≠ 0) : (getU s e).2 = (s, e) := by
  unfold getU
  simp only [tk_err s e _ h]
def e1 (s : ByteArray) : Int := if Oc.val (tk s 0 1).1.data.toList = 1 then (tk s 0 1).2.2 else if (tk s 0 1).2.2 = 0 then 4 else (tk s 0 1).2.2
/-- What the document's own reading answers. -/
def refG {α : Type} (z : α) (get : ByteArray → Int → α × ByteArray × Int) (s : ByteArray) : α × Int :=
  let G := get (tk s 0 1).2.1 (e1 s)
  if fin G.2.1 G.2.2 = 0 then (G.1, 0) else (z, fin G.2.1 G.2.2)
theorem fin_err (s : ByteArray) (e : Int) (h : e ≠ 0) : fin s e = e := by unfold fin; rw [if_neg (fun hh => h hh.1)]
theorem refG_eq {α : Type} (z : α) (get : ByteArray → Int → α × ByteArray × Int) (hbad : ∀ s e, e ≠ 0 → (get s e).2 = (s, e)) (s : ByteArray) : refG z get s = readG z get s := by
  unfold refG readG verG e1
  simp only
  generalize tk s 0 1 = O
  by_cases hv : Oc.val O.1.data.toList = 1
  · rw [if_pos hv, if_pos hv]
    by_cases hf : (get O.2.1 O.2.2).2.2 = 0
    · rw [if_pos hf]
    · rw [if_neg hf]
      simp only
      rw [fin_err _ _ hf, if_neg hf, if_neg hf]
  · rw [if_neg hv, if_neg hv]
    have hx : (if O.2.2 = 0 then (4 : Int) else O.2.2) ≠ 0 := by split <;> first | decide | assumption
    revert hx
    generalize (if O.2.2 = 0 then (4 : Int) else O.2.2) = x
    intro hx
    have hg := hbad O.2.1 x hx
    simp only
    rw [hg]
    simp only
    rw [fin_err _ _ hx, if_neg hx, if_neg hx]
theorem Rd.set {w : World} {b g j : Nat} {s : ByteArray} {e : Int} {v : Value} (h : Rd w b s e) (hne : b ≠ g) : Rd (w.setCell ⟨g, j, none⟩ v) b s e := h.upd ((Upd.refl g w).setCell v) hne
theorem Bx5.other {w : World} {g k j : Nat} {x0 x1 x2 x3 x4 v : Value} (h : Bx5 w g x0 x1 x2 x3 x4) (hne : g ≠ k) : Bx5 (w.setCell ⟨k, j, none⟩ v) g x0 x1 x2 x3 x4 := h.upd ((Upd.refl k w).setCell v) hne
theorem setOther {w : World} {g i j : Nat} {v x : Value} (h : w.cell? ⟨g, i, none⟩ = some x) (hne : j ≠ i) : (w.setCell ⟨g, j, none⟩ v).cell? ⟨g, i, none⟩ = some x := by
  rw [World.cell?_setCell_other _ _ _ _ (fun e => hne (by cases e; rfl)), h]
theorem setSame {w : World} {g i : Nat} {v x : Value} (h : w.cell? ⟨g, i, none⟩ = some x) : (w.setCell ⟨g, i, none⟩ v).cell? ⟨g, i, none⟩ = some v := World.cell?_setCell_same' _ _ _ (by rw [h]; rfl)
theorem setFroz {w : World} {g i j : Nat} {v : Value} (h : w.frozen? ⟨g, i, none⟩ = false) : (w.setCell ⟨g, j, none⟩ v).frozen? ⟨g, i, none⟩ = false := by rw [World.frozen?_setCell, h]
theorem Bx5.set1 {w : World} {g : Nat} {x0 x1 x2 x3 x4 v : Value} (h : Bx5 w g x0 x1 x2 x3 x4) : Bx5 (w.setCell ⟨g, 1, none⟩ v) g x0 v x2 x3 x4 :=
  ⟨setOther h.c0 (by decide), setSame h.c1, setOther h.c2 (by decide), setOther h.c3 (by decide), setOther h.c4 (by decide), setFroz h.f0, setFroz h.f1, setFroz h.f2, setFroz h.f3, setFroz h.f4⟩
theorem Bx5.set2 {w : World} {g : Nat} {x0 x1 x2 x3 x4 v : Value} (h : Bx5 w g x0 x1 x2 x3 x4) : Bx5 (w.setCell ⟨g, 2, none⟩ v) g x0 x1 v x3 x4 :=
  ⟨setOther h.c0 (by decide), setOther h.c1 (by decide), setSame h.c2, setOther h.c3 (by decide), setOther h.c4 (by decide), setFroz h.f0, setFroz h.f1, setFroz h.f2, setFroz h.f3, setFroz h.f4⟩
theorem Bx5.set3 {w : World} {g : Nat} {x0 x1 x2 x3 x4 v : Value} (h : Bx5 w g x0 x1 x2 x3 x4) : Bx5 (w.setCell ⟨g, 3, none⟩ v) g x0 x1 x2 v x4 :=
  ⟨setOther h.c0 (by decide), setOther h.c1 (by decide), setOther h.c2 (by decide), setSame h.c3, setOther h.c4 (by decide), setFroz h.f0, setFroz h.f1, setFroz h.f2, setFroz h.f3, setFroz h.f4⟩
theorem Bx5.set4 {w : World} {g : Nat} {x0 x1 x2 x3 x4 v : Value} (h : Bx5 w g x0 x1 x2 x3 x4) : Bx5 (w.setCell ⟨g, 4, none⟩ v) g x0 x1 x2 x3 v :=
  ⟨setOther h.c0 (by decide), setOther h.c1 (by decide), setOther h.c2 (by decide), setOther h.c3 (by decide), setSame h.c4, setFroz h.f0, setFroz h.f1, setFroz h.f2, setFroz h.f3, setFroz h.f4⟩
theorem begin_any (s : ByteArray) (w : World) :
    Calls Try.prog 56 #[.string s] w fun e w' => e = .returned (.pointer (some ⟨w.heap.size, 0, none⟩)) ∧ Rd w' w.heap.size (tk s 0 1).2.1 (e1 s) ∧ Below w.heap.size w w' := by
  have HR : Hid (Rd (w.alloc (.cells #[.string s, .int .i64 0] 117)) w.heap.size s 0) := by constructor <;> simp
  have HW : Hid (Below w.heap.size w (w.alloc (.cells #[.string s, .int .i64 0] 117))) := (Below.refl _ _).alloc (Nat.le_refl _) _
  have HO := Lib.hid (fun W b (hW : Rd W b s 0) => num_any b s 0 1 (by decide) W hW)
  unfold e1
  revert HO
  generalize tk s 0 ((1 : Nat) : Int) = O
  intro HO
  have HF := Lib.hid (fun W b (hW : Rd W b O.2.1 O.2.2) => refFail_any b O.2.1 O.2.2 4 W hW)
  by_cases hv : Oc.val O.1.data.toList = 1
  · rw [if_pos hv]
    rw [hv] at HO
    clear hv
    go_enter Try.func56, Try.ntmps56
    go_wp2_with (first
      | (go_at_call 57; refine (HO.out _ _ HR.out).mono ?_; rintro x w1 ⟨rfl, hr1, hu1⟩))
    go_ret
    exact ⟨rfl, hr1, HW.out.trans (hu1.below (Nat.le_refl _))⟩
  · rw [if_neg hv]
    revert HO hv HF
    generalize Oc.val O.1.data.toList = v
    generalize hx : (if O.2.2 = 0 then (4 : Int) else O.2.2) = x4
    intro HO HF hv
    clear hx
    have hd : ((v : Int) != 1) = true := by rw [bne_iff_ne]; omega
    go_enter Try.func56, Try.ntmps56
    go_wp2_with (first
      | (go_at_call 57; refine (HO.out _ _ HR.out).mono ?_; rintro x w1 ⟨rfl, hr1, hu1⟩)
      | (go_at_call 86; refine (HF.out _ _ hr1).mono ?_; rintro x w2 ⟨rfl, hr2, hu2⟩))
    go_ret
    exact ⟨rfl, hr2, HW.out.trans ((hu1.trans hu2).below (Nat.le_refl _))⟩
theorem begin_at (s : ByteArray) (b : Nat) (w : World) (hb : w.heap.size = b) :
    Calls Try.prog 56 #[.string s] w fun e w' => e = .returned (.pointer (some ⟨b, 0, none⟩)) ∧ Rd w' b (tk s 0 1).2.1 (e1 s) ∧ Below w.heap.size w w' := by
  subst hb; exact begin_any s w
theorem wrapU32 (v : Nat) (h : v < 4294967296) : IntKind.u32.wrap (v : Int) = v := by rw [IntKind.wrap_u32]; omega
theorem val4_lt (s : ByteArray) (e : Int) : Oc.val (tk s e 4).1.data.toList < 4294967296 := Nat.lt_of_lt_of_le (Oc.val_lt _) (Nat.pow_le_pow_right (by omega) (tk_size s e 4))
theorem readCounter_any (s : ByteArray) (w : World) :
    Calls Try.prog 22 #[.string s] w fun e w' => e = .returned (.tuple #[.int .u64 ((readG 0 getU s).1 : Nat), .int .i64 (readG 0 getU s).2]) ∧ Below w.heap.size w w' := by
  rw [← refG_eq 0 getU getU_err s]
  have HB := Lib.hid (fun W => begin_any s W)
  unfold refG getU
  simp only
  revert HB
  generalize (tk s 0 1).2.1 = s1
  generalize e1 s = x1
  intro HB
  have HN := Lib.hid (fun W b (hW : Rd W b s1 x1) => num_any b s1 x1 8 (by decide) W hW)
  revert HN
  generalize tk s1 x1 ((8 : Nat) : Int) = A
  intro HN
  have HE := Lib.hid (fun W b (hW : Rd W b A.2.1 A.2.2) => refEnd_rd b A.2.1 A.2.2 W hW)
  revert HE
  generalize fin A.2.1 A.2.2 = y
  intro HE
  by_cases hf : y = 0
  · subst hf
    rw [if_pos rfl]
    go_enter Try.func22, Try.ntmps22
    go_wp2_with (first
      | (go_at_call 56; refine (HB.out _).mono ?_; rintro x w1 ⟨rfl, hr1, hb1⟩)
      | (go_at_call 57; refine (HN.out _ _ hr1).mono ?_; rintro x w2 ⟨rfl, hr2, hu2⟩)
      | (go_at_call 59; refine (HE.out _ _ hr2).mono ?_; rintro x w3 ⟨rfl, rfl⟩))
    go_ret2
    exact ⟨rfl, hb1.trans (hu2.below (Nat.le_refl _))⟩
  · have hf' : (y != 0) = true := by rw [bne_iff_ne]; exact hf
    rw [if_neg hf]
    go_enter Try.func22, Try.ntmps22
    go_wp2_with (first
      | (go_at_call 56; refine (HB.out _).mono ?_; rintro x w1 ⟨rfl, hr1, hb1⟩)
      | (go_at_call 57; refine (HN.out _ _ hr1).mono ?_; rintro x w2 ⟨rfl, hr2, hu2⟩)
      | (go_at_call 59; refine (HE.out _ _ hr2).mono ?_; rintro x w3 ⟨rfl, rfl⟩))
    go_ret2
    exact ⟨rfl, hb1.trans (hu2.below (Nat.le_refl _))⟩
end Go.Proofs.Ytfoijhofpjaldaa
