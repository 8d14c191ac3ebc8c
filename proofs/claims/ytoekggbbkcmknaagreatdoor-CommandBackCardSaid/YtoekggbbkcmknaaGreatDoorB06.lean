/- Texts of one seat, merged. -/
import Derived.Test.YtoekggbbkcmknaaGreatDoorB04
import Derived.Test.YtoekggbbkcmknaaGreatDoorB05
set_option maxRecDepth 100000
set_option maxHeartbeats 4000000
set_option linter.unusedVariables false
/- The document's Read, step by step. -/
namespace Go.Proofs.YtoekggbbkcmknaaGreatDoor
open Go.RowKit
theorem BxC.kind {w : World} {g : Nat} {c : Cm} (h : BxC w g c) (k : Int) : BxC (w.setCell ⟨g, 0, none⟩ (.int .i64 k)) g { c with kind := k } := by
  refine ⟨by simpa [World.setCell] using h.lt, fun j v hv => ?_, fun j hj => by rw [World.frozen?_setCell]; exact h.free j hj⟩
  cases j with
  | zero =>
    rw [World.cell?_setCell_same' _ _ _ (by rw [h.cell 0 _ rfl]; rfl)]
    exact hv
  | succ j =>
    rw [World.cell?_setCell_other _ _ _ _ (fun h => by injection h with h1 h2; omega)]
    exact h.cell (j + 1) v hv
theorem num1 (b : Nat) (s : ByteArray) (e : Int) (w : World) (h : Rd w b s e) :
    Calls Tryz.prog 41 #[.pointer (some ⟨b, 0, none⟩), .int .i64 1] w fun v w' => v = .returned (.int .u64 (Oc.val (tk s e 1).1.data.toList : Nat)) ∧ Rd w' b (tk s e 1).2.1 (tk s e 1).2.2 ∧ Upd b w w' := num_any b s e 1 (by decide) w h
theorem num4 (b : Nat) (s : ByteArray) (e : Int) (w : World) (h : Rd w b s e) :
    Calls Tryz.prog 41 #[.pointer (some ⟨b, 0, none⟩), .int .i64 4] w fun v w' => v = .returned (.int .u64 (Oc.val (tk s e 4).1.data.toList : Nat)) ∧ Rd w' b (tk s e 4).2.1 (tk s e 4).2.2 ∧ Upd b w w' := num_any b s e 4 (by decide) w h
theorem num8 (b : Nat) (s : ByteArray) (e : Int) (w : World) (h : Rd w b s e) :
    Calls Tryz.prog 41 #[.pointer (some ⟨b, 0, none⟩), .int .i64 8] w fun v w' => v = .returned (.int .u64 (Oc.val (tk s e 8).1.data.toList : Nat)) ∧ Rd w' b (tk s e 8).2.1 (tk s e 8).2.2 ∧ Upd b w w' := num_any b s e 8 (by decide) w h
theorem vlt (bs : ByteArray) (e : Int) (k : Nat) : Oc.val (tk bs e k).1.data.toList < 256 ^ k := Nat.lt_of_lt_of_le (Oc.val_lt _) (Nat.pow_le_pow_right (by omega) (tk_size bs e k))
theorem vlt32 (bs : ByteArray) (e : Int) : ((Oc.val (tk bs e 4).1.data.toList : Nat) : Int) < 4294967296 := by have h : Oc.val (tk bs e 4).1.data.toList < 4294967296 := vlt bs e 4; omega
theorem vlt8 (bs : ByteArray) (e : Int) : ((Oc.val (tk bs e 1).1.data.toList : Nat) : Int) < 256 := by have h : Oc.val (tk bs e 1).1.data.toList < 256 := vlt bs e 1; omega
theorem tk_err (bs : ByteArray) (e : Int) (h : (tk bs e 1).2.2 ≠ 0) : Oc.val (tk bs e 1).1.data.toList = 0 := by
  unfold tk at h ⊢
  split at h
  · rename_i h1; rw [if_pos h1]; rfl
  · rename_i h1
    rw [if_neg h1]
    split at h
    · rename_i h2; rw [if_pos h2]; rfl
    · exact absurd rfl h
/-- What a step of the document's Read leaves: the part's cell ahead of its store, and all behind it. -/
structure StR (w0 : World) (b g : Nat) (s : Sg) (T : Cm × ByteArray × Int) (w1 w2 : World) : Prop where
  k : w1.cell? ⟨g, s.off, none⟩ = some (s.val T.1)
  f : w1.frozen? ⟨g, s.off, none⟩ = false
  T1 : BxC w2 g (s.read T).1
  Z : BxC w2 w0.heap.size (Cm.zero 0)
  M : Mod b w0 w2
theorem stR {w0 W w1 : World} {b g : Nat} (s : Sg) {T : Cm × ByteArray × Int} (d : Cm) (hT : BxC W g T.1) (hZ : BxC W w0.heap.size (Cm.zero 0)) (hM : Mod b w0 W) (hg : g = w0.heap.size + 1) (hb : b < w0.heap.size) (hu : Upd b W w1) (hd : (s.read T).1 = s.hand T.1 d) :
    StR w0 b g s T w1 (w1.setCell ⟨g, s.off, none⟩ (s.val d)) := by
  have h1 := hT.upd hu (by omega)
  have hU : Upd g w1 (w1.setCell ⟨g, s.off, none⟩ (s.val d)) := (Upd.refl _ _).setCell _
  exact ⟨h1.cell _ _ (val_at s _), h1.free _ (off_lt s), by rw [hd]; exact h1.set s d, (hZ.upd hu (by omega)).upd hU (by omega), mod_upd' (hM.upd hu) (by omega) hU⟩
theorem st_q {w0 W w1 : World} {b g : Nat} {T : Cm × ByteArray × Int} (hT : BxC W g T.1) (hZ : BxC W w0.heap.size (Cm.zero 0)) (hM : Mod b w0 W) (hg : g = w0.heap.size + 1) (hb : b < w0.heap.size) (hr : Rd w1 b (txt T.2.1 T.2.2 32).2.1 (txt T.2.1 T.2.2 32).2.2) (hu : Upd b W w1) :
    (w1.cell? ⟨g, 1, none⟩ = some (.string T.1.qn) ∧ w1.frozen? ⟨g, 1, none⟩ = false) ∧ BxC (w1.setCell ⟨g, 1, none⟩ (.string (txt T.2.1 T.2.2 32).1)) g (Sg.q.read T).1 ∧ BxC (w1.setCell ⟨g, 1, none⟩ (.string (txt T.2.1 T.2.2 32).1)) w0.heap.size (Cm.zero 0) ∧ Mod b w0 (w1.setCell ⟨g, 1, none⟩ (.string (txt T.2.1 T.2.2 32).1)) ∧ Rd (w1.setCell ⟨g, 1, none⟩ (.string (txt T.2.1 T.2.2 32).1)) b (Sg.q.read T).2.1 (Sg.q.read T).2.2 := by
  have h := stR .q { Cm.zero 0 with qn := (txt T.2.1 T.2.2 32).1 } hT hZ hM hg hb hu rfl
  exact ⟨⟨h.k, h.f⟩, h.T1, h.Z, h.M, hr.upd ((Upd.refl g _).setCell _) (by omega)⟩
theorem st_d {w0 W w1 : World} {b g : Nat} {T : Cm × ByteArray × Int} (hT : BxC W g T.1) (hZ : BxC W w0.heap.size (Cm.zero 0)) (hM : Mod b w0 W) (hg : g = w0.heap.size + 1) (hb : b < w0.heap.size) (hr : Rd w1 b (txt T.2.1 T.2.2 32).2.1 (txt T.2.1 T.2.2 32).2.2) (hu : Upd b W w1) :
    (w1.cell? ⟨g, 5, none⟩ = some (.string T.1.qd) ∧ w1.frozen? ⟨g, 5, none⟩ = false) ∧ BxC (w1.setCell ⟨g, 5, none⟩ (.string (txt T.2.1 T.2.2 32).1)) g (Sg.d.read T).1 ∧ BxC (w1.setCell ⟨g, 5, none⟩ (.string (txt T.2.1 T.2.2 32).1)) w0.heap.size (Cm.zero 0) ∧ Mod b w0 (w1.setCell ⟨g, 5, none⟩ (.string (txt T.2.1 T.2.2 32).1)) ∧ Rd (w1.setCell ⟨g, 5, none⟩ (.string (txt T.2.1 T.2.2 32).1)) b (Sg.d.read T).2.1 (Sg.d.read T).2.2 := by
  have h := stR .d { Cm.zero 0 with qd := (txt T.2.1 T.2.2 32).1 } hT hZ hM hg hb hu rfl
  exact ⟨⟨h.k, h.f⟩, h.T1, h.Z, h.M, hr.upd ((Upd.refl g _).setCell _) (by omega)⟩
theorem st_E {w0 W w1 : World} {b g : Nat} {T : Cm × ByteArray × Int} (hT : BxC W g T.1) (hZ : BxC W w0.heap.size (Cm.zero 0)) (hM : Mod b w0 W) (hg : g = w0.heap.size + 1) (hb : b < w0.heap.size) (hr : Rd w1 b (txt T.2.1 T.2.2 32).2.1 (txt T.2.1 T.2.2 32).2.2) (hu : Upd b W w1) :
    (w1.cell? ⟨g, 6, none⟩ = some (.string T.1.bx) ∧ w1.frozen? ⟨g, 6, none⟩ = false) ∧ BxC (w1.setCell ⟨g, 6, none⟩ (.string (txt T.2.1 T.2.2 32).1)) g (Sg.E.read T).1 ∧ BxC (w1.setCell ⟨g, 6, none⟩ (.string (txt T.2.1 T.2.2 32).1)) w0.heap.size (Cm.zero 0) ∧ Mod b w0 (w1.setCell ⟨g, 6, none⟩ (.string (txt T.2.1 T.2.2 32).1)) ∧ Rd (w1.setCell ⟨g, 6, none⟩ (.string (txt T.2.1 T.2.2 32).1)) b (Sg.E.read T).2.1 (Sg.E.read T).2.2 := by
  have h := stR .E { Cm.zero 0 with bx := (txt T.2.1 T.2.2 32).1 } hT hZ hM hg hb hu rfl
  exact ⟨⟨h.k, h.f⟩, h.T1, h.Z, h.M, hr.upd ((Upd.refl g _).setCell _) (by omega)⟩
theorem st_P {w0 W w1 : World} {b g : Nat} {T : Cm × ByteArray × Int} (hT : BxC W g T.1) (hZ : BxC W w0.heap.size (Cm.zero 0)) (hM : Mod b w0 W) (hg : g = w0.heap.size + 1) (hb : b < w0.heap.size) (hr : Rd w1 b (txt T.2.1 T.2.2 512).2.1 (txt T.2.1 T.2.2 512).2.2) (hu : Upd b W w1) :
    (w1.cell? ⟨g, 8, none⟩ = some (.string T.1.bp) ∧ w1.frozen? ⟨g, 8, none⟩ = false) ∧ BxC (w1.setCell ⟨g, 8, none⟩ (.string (txt T.2.1 T.2.2 512).1)) g (Sg.P.read T).1 ∧ BxC (w1.setCell ⟨g, 8, none⟩ (.string (txt T.2.1 T.2.2 512).1)) w0.heap.size (Cm.zero 0) ∧ Mod b w0 (w1.setCell ⟨g, 8, none⟩ (.string (txt T.2.1 T.2.2 512).1)) ∧ Rd (w1.setCell ⟨g, 8, none⟩ (.string (txt T.2.1 T.2.2 512).1)) b (Sg.P.read T).2.1 (Sg.P.read T).2.2 := by
  have h := stR .P { Cm.zero 0 with bp := (txt T.2.1 T.2.2 512).1 } hT hZ hM hg hb hu rfl
  exact ⟨⟨h.k, h.f⟩, h.T1, h.Z, h.M, hr.upd ((Upd.refl g _).setCell _) (by omega)⟩
theorem st_Q {w0 W w1 : World} {b g : Nat} {T : Cm × ByteArray × Int} (hT : BxC W g T.1) (hZ : BxC W w0.heap.size (Cm.zero 0)) (hM : Mod b w0 W) (hg : g = w0.heap.size + 1) (hb : b < w0.heap.size) (hr : Rd w1 b (txt T.2.1 T.2.2 32).2.1 (txt T.2.1 T.2.2 32).2.2) (hu : Upd b W w1) :
    (w1.cell? ⟨g, 9, none⟩ = some (.string T.1.bq) ∧ w1.frozen? ⟨g, 9, none⟩ = false) ∧ BxC (w1.setCell ⟨g, 9, none⟩ (.string (txt T.2.1 T.2.2 32).1)) g (Sg.Q.read T).1 ∧ BxC (w1.setCell ⟨g, 9, none⟩ (.string (txt T.2.1 T.2.2 32).1)) w0.heap.size (Cm.zero 0) ∧ Mod b w0 (w1.setCell ⟨g, 9, none⟩ (.string (txt T.2.1 T.2.2 32).1)) ∧ Rd (w1.setCell ⟨g, 9, none⟩ (.string (txt T.2.1 T.2.2 32).1)) b (Sg.Q.read T).2.1 (Sg.Q.read T).2.2 := by
  have h := stR .Q { Cm.zero 0 with bq := (txt T.2.1 T.2.2 32).1 } hT hZ hM hg hb hu rfl
  exact ⟨⟨h.k, h.f⟩, h.T1, h.Z, h.M, hr.upd ((Upd.refl g _).setCell _) (by omega)⟩
theorem st_e {w0 W w1 : World} {b g : Nat} {T : Cm × ByteArray × Int} (hT : BxC W g T.1) (hZ : BxC W w0.heap.size (Cm.zero 0)) (hM : Mod b w0 W) (hg : g = w0.heap.size + 1) (hb : b < w0.heap.size) (hr : Rd w1 b (txt T.2.1 T.2.2 32).2.1 (txt T.2.1 T.2.2 32).2.2) (hu : Upd b W w1) :
    (w1.cell? ⟨g, 10, none⟩ = some (.string T.1.ex) ∧ w1.frozen? ⟨g, 10, none⟩ = false) ∧ BxC (w1.setCell ⟨g, 10, none⟩ (.string (txt T.2.1 T.2.2 32).1)) g (Sg.e.read T).1 ∧ BxC (w1.setCell ⟨g, 10, none⟩ (.string (txt T.2.1 T.2.2 32).1)) w0.heap.size (Cm.zero 0) ∧ Mod b w0 (w1.setCell ⟨g, 10, none⟩ (.string (txt T.2.1 T.2.2 32).1)) ∧ Rd (w1.setCell ⟨g, 10, none⟩ (.string (txt T.2.1 T.2.2 32).1)) b (Sg.e.read T).2.1 (Sg.e.read T).2.2 := by
  have h := stR .e { Cm.zero 0 with ex := (txt T.2.1 T.2.2 32).1 } hT hZ hM hg hb hu rfl
  exact ⟨⟨h.k, h.f⟩, h.T1, h.Z, h.M, hr.upd ((Upd.refl g _).setCell _) (by omega)⟩
theorem st_k {w0 W w1 : World} {b g : Nat} {T : Cm × ByteArray × Int} (hT : BxC W g T.1) (hZ : BxC W w0.heap.size (Cm.zero 0)) (hM : Mod b w0 W) (hg : g = w0.heap.size + 1) (hb : b < w0.heap.size) (hr : Rd w1 b (txt T.2.1 T.2.2 512).2.1 (txt T.2.1 T.2.2 512).2.2) (hu : Upd b W w1) :
    (w1.cell? ⟨g, 11, none⟩ = some (.string T.1.key) ∧ w1.frozen? ⟨g, 11, none⟩ = false) ∧ BxC (w1.setCell ⟨g, 11, none⟩ (.string (txt T.2.1 T.2.2 512).1)) g (Sg.k.read T).1 ∧ BxC (w1.setCell ⟨g, 11, none⟩ (.string (txt T.2.1 T.2.2 512).1)) w0.heap.size (Cm.zero 0) ∧ Mod b w0 (w1.setCell ⟨g, 11, none⟩ (.string (txt T.2.1 T.2.2 512).1)) ∧ Rd (w1.setCell ⟨g, 11, none⟩ (.string (txt T.2.1 T.2.2 512).1)) b (Sg.k.read T).2.1 (Sg.k.read T).2.2 := by
  have h := stR .k { Cm.zero 0 with key := (txt T.2.1 T.2.2 512).1 } hT hZ hM hg hb hu rfl
  exact ⟨⟨h.k, h.f⟩, h.T1, h.Z, h.M, hr.upd ((Upd.refl g _).setCell _) (by omega)⟩
theorem st_b {w0 W w1 : World} {b g : Nat} {T : Cm × ByteArray × Int} (hT : BxC W g T.1) (hZ : BxC W w0.heap.size (Cm.zero 0)) (hM : Mod b w0 W) (hg : g = w0.heap.size + 1) (hb : b < w0.heap.size) (hr : Rd w1 b (txt T.2.1 T.2.2 32768).2.1 (txt T.2.1 T.2.2 32768).2.2) (hu : Upd b W w1) :
    (w1.cell? ⟨g, 12, none⟩ = some (.string T.1.body) ∧ w1.frozen? ⟨g, 12, none⟩ = false) ∧ BxC (w1.setCell ⟨g, 12, none⟩ (.string (txt T.2.1 T.2.2 32768).1)) g (Sg.b.read T).1 ∧ BxC (w1.setCell ⟨g, 12, none⟩ (.string (txt T.2.1 T.2.2 32768).1)) w0.heap.size (Cm.zero 0) ∧ Mod b w0 (w1.setCell ⟨g, 12, none⟩ (.string (txt T.2.1 T.2.2 32768).1)) ∧ Rd (w1.setCell ⟨g, 12, none⟩ (.string (txt T.2.1 T.2.2 32768).1)) b (Sg.b.read T).2.1 (Sg.b.read T).2.2 := by
  have h := stR .b { Cm.zero 0 with body := (txt T.2.1 T.2.2 32768).1 } hT hZ hM hg hb hu rfl
  exact ⟨⟨h.k, h.f⟩, h.T1, h.Z, h.M, hr.upd ((Upd.refl g _).setCell _) (by omega)⟩
theorem st_m {w0 W w1 : World} {b g : Nat} {T : Cm × ByteArray × Int} (hT : BxC W g T.1) (hZ : BxC W w0.heap.size (Cm.zero 0)) (hM : Mod b w0 W) (hg : g = w0.heap.size + 1) (hb : b < w0.heap.size) (hr : Rd w1 b (tk T.2.1 T.2.2 4).2.1 (tk T.2.1 T.2.2 4).2.2) (hu : Upd b W w1) :
    (w1.cell? ⟨g, 2, none⟩ = some (.int .u32 T.1.most) ∧ w1.frozen? ⟨g, 2, none⟩ = false) ∧ BxC (w1.setCell ⟨g, 2, none⟩ (.int .u32 (Oc.val (tk T.2.1 T.2.2 4).1.data.toList : Nat))) g (Sg.m.read T).1 ∧ BxC (w1.setCell ⟨g, 2, none⟩ (.int .u32 (Oc.val (tk T.2.1 T.2.2 4).1.data.toList : Nat))) w0.heap.size (Cm.zero 0) ∧ Mod b w0 (w1.setCell ⟨g, 2, none⟩ (.int .u32 (Oc.val (tk T.2.1 T.2.2 4).1.data.toList : Nat))) ∧ Rd (w1.setCell ⟨g, 2, none⟩ (.int .u32 (Oc.val (tk T.2.1 T.2.2 4).1.data.toList : Nat))) b (Sg.m.read T).2.1 (Sg.m.read T).2.2 := by
  have h := stR .m { Cm.zero 0 with most := Oc.val (tk T.2.1 T.2.2 4).1.data.toList } hT hZ hM hg hb hu rfl
  exact ⟨⟨h.k, h.f⟩, h.T1, h.Z, h.M, hr.upd ((Upd.refl g _).setCell _) (by omega)⟩
theorem st_r {w0 W w1 : World} {b g : Nat} {T : Cm × ByteArray × Int} (hT : BxC W g T.1) (hZ : BxC W w0.heap.size (Cm.zero 0)) (hM : Mod b w0 W) (hg : g = w0.heap.size + 1) (hb : b < w0.heap.size) (hr : Rd w1 b (tk T.2.1 T.2.2 4).2.1 (tk T.2.1 T.2.2 4).2.2) (hu : Upd b W w1) :
    (w1.cell? ⟨g, 4, none⟩ = some (.int .u32 T.1.tries) ∧ w1.frozen? ⟨g, 4, none⟩ = false) ∧ BxC (w1.setCell ⟨g, 4, none⟩ (.int .u32 (Oc.val (tk T.2.1 T.2.2 4).1.data.toList : Nat))) g (Sg.r.read T).1 ∧ BxC (w1.setCell ⟨g, 4, none⟩ (.int .u32 (Oc.val (tk T.2.1 T.2.2 4).1.data.toList : Nat))) w0.heap.size (Cm.zero 0) ∧ Mod b w0 (w1.setCell ⟨g, 4, none⟩ (.int .u32 (Oc.val (tk T.2.1 T.2.2 4).1.data.toList : Nat))) ∧ Rd (w1.setCell ⟨g, 4, none⟩ (.int .u32 (Oc.val (tk T.2.1 T.2.2 4).1.data.toList : Nat))) b (Sg.r.read T).2.1 (Sg.r.read T).2.2 := by
  have h := stR .r { Cm.zero 0 with tries := Oc.val (tk T.2.1 T.2.2 4).1.data.toList } hT hZ hM hg hb hu rfl
  exact ⟨⟨h.k, h.f⟩, h.T1, h.Z, h.M, hr.upd ((Upd.refl g _).setCell _) (by omega)⟩
theorem st_l {w0 W w1 : World} {b g : Nat} {T : Cm × ByteArray × Int} (hT : BxC W g T.1) (hZ : BxC W w0.heap.size (Cm.zero 0)) (hM : Mod b w0 W) (hg : g = w0.heap.size + 1) (hb : b < w0.heap.size) (hr : Rd w1 b (tk T.2.1 T.2.2 8).2.1 (tk T.2.1 T.2.2 8).2.2) (hu : Upd b W w1) :
    (w1.cell? ⟨g, 3, none⟩ = some (.int .u64 T.1.ttl) ∧ w1.frozen? ⟨g, 3, none⟩ = false) ∧ BxC (w1.setCell ⟨g, 3, none⟩ (.int .u64 (Oc.val (tk T.2.1 T.2.2 8).1.data.toList : Nat))) g (Sg.l.read T).1 ∧ BxC (w1.setCell ⟨g, 3, none⟩ (.int .u64 (Oc.val (tk T.2.1 T.2.2 8).1.data.toList : Nat))) w0.heap.size (Cm.zero 0) ∧ Mod b w0 (w1.setCell ⟨g, 3, none⟩ (.int .u64 (Oc.val (tk T.2.1 T.2.2 8).1.data.toList : Nat))) ∧ Rd (w1.setCell ⟨g, 3, none⟩ (.int .u64 (Oc.val (tk T.2.1 T.2.2 8).1.data.toList : Nat))) b (Sg.l.read T).2.1 (Sg.l.read T).2.2 := by
  have h := stR .l { Cm.zero 0 with ttl := Oc.val (tk T.2.1 T.2.2 8).1.data.toList } hT hZ hM hg hb hu rfl
  exact ⟨⟨h.k, h.f⟩, h.T1, h.Z, h.M, hr.upd ((Upd.refl g _).setCell _) (by omega)⟩
theorem st_i {w0 W w1 : World} {b g : Nat} {T : Cm × ByteArray × Int} (hT : BxC W g T.1) (hZ : BxC W w0.heap.size (Cm.zero 0)) (hM : Mod b w0 W) (hg : g = w0.heap.size + 1) (hb : b < w0.heap.size) (hr : Rd w1 b (tk T.2.1 T.2.2 8).2.1 (tk T.2.1 T.2.2 8).2.2) (hu : Upd b W w1) :
    (w1.cell? ⟨g, 13, none⟩ = some (.int .u64 T.1.id) ∧ w1.frozen? ⟨g, 13, none⟩ = false) ∧ BxC (w1.setCell ⟨g, 13, none⟩ (.int .u64 (Oc.val (tk T.2.1 T.2.2 8).1.data.toList : Nat))) g (Sg.i.read T).1 ∧ BxC (w1.setCell ⟨g, 13, none⟩ (.int .u64 (Oc.val (tk T.2.1 T.2.2 8).1.data.toList : Nat))) w0.heap.size (Cm.zero 0) ∧ Mod b w0 (w1.setCell ⟨g, 13, none⟩ (.int .u64 (Oc.val (tk T.2.1 T.2.2 8).1.data.toList : Nat))) ∧ Rd (w1.setCell ⟨g, 13, none⟩ (.int .u64 (Oc.val (tk T.2.1 T.2.2 8).1.data.toList : Nat))) b (Sg.i.read T).2.1 (Sg.i.read T).2.2 := by
  have h := stR .i { Cm.zero 0 with id := Oc.val (tk T.2.1 T.2.2 8).1.data.toList } hT hZ hM hg hb hu rfl
  exact ⟨⟨h.k, h.f⟩, h.T1, h.Z, h.M, hr.upd ((Upd.refl g _).setCell _) (by omega)⟩
theorem st_o {w0 W w1 : World} {b g : Nat} {T : Cm × ByteArray × Int} (hT : BxC W g T.1) (hZ : BxC W w0.heap.size (Cm.zero 0)) (hM : Mod b w0 W) (hg : g = w0.heap.size + 1) (hb : b < w0.heap.size) (hr : Rd w1 b (tk T.2.1 T.2.2 8).2.1 (tk T.2.1 T.2.2 8).2.2) (hu : Upd b W w1) :
    (w1.cell? ⟨g, 14, none⟩ = some (.int .u64 T.1.token) ∧ w1.frozen? ⟨g, 14, none⟩ = false) ∧ BxC (w1.setCell ⟨g, 14, none⟩ (.int .u64 (Oc.val (tk T.2.1 T.2.2 8).1.data.toList : Nat))) g (Sg.o.read T).1 ∧ BxC (w1.setCell ⟨g, 14, none⟩ (.int .u64 (Oc.val (tk T.2.1 T.2.2 8).1.data.toList : Nat))) w0.heap.size (Cm.zero 0) ∧ Mod b w0 (w1.setCell ⟨g, 14, none⟩ (.int .u64 (Oc.val (tk T.2.1 T.2.2 8).1.data.toList : Nat))) ∧ Rd (w1.setCell ⟨g, 14, none⟩ (.int .u64 (Oc.val (tk T.2.1 T.2.2 8).1.data.toList : Nat))) b (Sg.o.read T).2.1 (Sg.o.read T).2.2 := by
  have h := stR .o { Cm.zero 0 with token := Oc.val (tk T.2.1 T.2.2 8).1.data.toList } hT hZ hM hg hb hu rfl
  exact ⟨⟨h.k, h.f⟩, h.T1, h.Z, h.M, hr.upd ((Upd.refl g _).setCell _) (by omega)⟩
theorem st_n {w0 W w1 : World} {b g : Nat} {T : Cm × ByteArray × Int} (hT : BxC W g T.1) (hZ : BxC W w0.heap.size (Cm.zero 0)) (hM : Mod b w0 W) (hg : g = w0.heap.size + 1) (hb : b < w0.heap.size) (hr : Rd w1 b (tk T.2.1 T.2.2 8).2.1 (tk T.2.1 T.2.2 8).2.2) (hu : Upd b W w1) :
    (w1.cell? ⟨g, 15, none⟩ = some (.int .u64 T.1.n) ∧ w1.frozen? ⟨g, 15, none⟩ = false) ∧ BxC (w1.setCell ⟨g, 15, none⟩ (.int .u64 (Oc.val (tk T.2.1 T.2.2 8).1.data.toList : Nat))) g (Sg.n.read T).1 ∧ BxC (w1.setCell ⟨g, 15, none⟩ (.int .u64 (Oc.val (tk T.2.1 T.2.2 8).1.data.toList : Nat))) w0.heap.size (Cm.zero 0) ∧ Mod b w0 (w1.setCell ⟨g, 15, none⟩ (.int .u64 (Oc.val (tk T.2.1 T.2.2 8).1.data.toList : Nat))) ∧ Rd (w1.setCell ⟨g, 15, none⟩ (.int .u64 (Oc.val (tk T.2.1 T.2.2 8).1.data.toList : Nat))) b (Sg.n.read T).2.1 (Sg.n.read T).2.2 := by
  have h := stR .n { Cm.zero 0 with n := Oc.val (tk T.2.1 T.2.2 8).1.data.toList } hT hZ hM hg hb hu rfl
  exact ⟨⟨h.k, h.f⟩, h.T1, h.Z, h.M, hr.upd ((Upd.refl g _).setCell _) (by omega)⟩
theorem st_t {w0 W w1 : World} {b g : Nat} {T : Cm × ByteArray × Int} (hT : BxC W g T.1) (hZ : BxC W w0.heap.size (Cm.zero 0)) (hM : Mod b w0 W) (hg : g = w0.heap.size + 1) (hb : b < w0.heap.size) (hr : Rd w1 b (tk T.2.1 T.2.2 8).2.1 (tk T.2.1 T.2.2 8).2.2) (hu : Upd b W w1) :
    (w1.cell? ⟨g, 16, none⟩ = some (.int .u64 T.1.time) ∧ w1.frozen? ⟨g, 16, none⟩ = false) ∧ BxC (w1.setCell ⟨g, 16, none⟩ (.int .u64 (Oc.val (tk T.2.1 T.2.2 8).1.data.toList : Nat))) g (Sg.t.read T).1 ∧ BxC (w1.setCell ⟨g, 16, none⟩ (.int .u64 (Oc.val (tk T.2.1 T.2.2 8).1.data.toList : Nat))) w0.heap.size (Cm.zero 0) ∧ Mod b w0 (w1.setCell ⟨g, 16, none⟩ (.int .u64 (Oc.val (tk T.2.1 T.2.2 8).1.data.toList : Nat))) ∧ Rd (w1.setCell ⟨g, 16, none⟩ (.int .u64 (Oc.val (tk T.2.1 T.2.2 8).1.data.toList : Nat))) b (Sg.t.read T).2.1 (Sg.t.read T).2.2 := by
  have h := stR .t { Cm.zero 0 with time := Oc.val (tk T.2.1 T.2.2 8).1.data.toList } hT hZ hM hg hb hu rfl
  exact ⟨⟨h.k, h.f⟩, h.T1, h.Z, h.M, hr.upd ((Upd.refl g _).setCell _) (by omega)⟩
theorem st_K {w0 W w1 : World} {b g : Nat} {T : Cm × ByteArray × Int} (hT : BxC W g T.1) (hZ : BxC W w0.heap.size (Cm.zero 0)) (hM : Mod b w0 W) (hg : g = w0.heap.size + 1) (hb : b < w0.heap.size) (hr : Rd w1 b (tk T.2.1 T.2.2 1).2.1 (tk T.2.1 T.2.2 1).2.2) (hu : Upd b W w1) :
    (w1.cell? ⟨g, 7, none⟩ = some (.int .i64 T.1.bk) ∧ w1.frozen? ⟨g, 7, none⟩ = false) ∧ BxC (w1.setCell ⟨g, 7, none⟩ (.int .i64 (Oc.val (tk T.2.1 T.2.2 1).1.data.toList : Nat))) g (Sg.K.read T).1 ∧ BxC (w1.setCell ⟨g, 7, none⟩ (.int .i64 (Oc.val (tk T.2.1 T.2.2 1).1.data.toList : Nat))) w0.heap.size (Cm.zero 0) ∧ Mod b w0 (w1.setCell ⟨g, 7, none⟩ (.int .i64 (Oc.val (tk T.2.1 T.2.2 1).1.data.toList : Nat))) ∧ Rd (w1.setCell ⟨g, 7, none⟩ (.int .i64 (Oc.val (tk T.2.1 T.2.2 1).1.data.toList : Nat))) b (Sg.K.read T).2.1 (Sg.K.read T).2.2 := by
  have h := stR .K { Cm.zero 0 with bk := (Oc.val (tk T.2.1 T.2.2 1).1.data.toList : Nat) } hT hZ hM hg hb hu rfl
  exact ⟨⟨h.k, h.f⟩, h.T1, h.Z, h.M, hr.upd ((Upd.refl g _).setCell _) (by omega)⟩
theorem st_x {w0 W w1 : World} {b g : Nat} {T : Cm × ByteArray × Int} (hT : BxC W g T.1) (hZ : BxC W w0.heap.size (Cm.zero 0)) (hM : Mod b w0 W) (hg : g = w0.heap.size + 1) (hb : b < w0.heap.size) (hr : Rd w1 b (tk T.2.1 T.2.2 1).2.1 (tk T.2.1 T.2.2 1).2.2) (hu : Upd b W w1) :
    (w1.cell? ⟨g, 17, none⟩ = some (.bool T.1.dead) ∧ w1.frozen? ⟨g, 17, none⟩ = false) ∧ BxC (w1.setCell ⟨g, 17, none⟩ (.bool (decide (Oc.val (tk T.2.1 T.2.2 1).1.data.toList = 1)))) g (Sg.x.read T).1 ∧ BxC (w1.setCell ⟨g, 17, none⟩ (.bool (decide (Oc.val (tk T.2.1 T.2.2 1).1.data.toList = 1)))) w0.heap.size (Cm.zero 0) ∧ Mod b w0 (w1.setCell ⟨g, 17, none⟩ (.bool (decide (Oc.val (tk T.2.1 T.2.2 1).1.data.toList = 1)))) ∧ Rd (w1.setCell ⟨g, 17, none⟩ (.bool (decide (Oc.val (tk T.2.1 T.2.2 1).1.data.toList = 1)))) b (tk T.2.1 T.2.2 1).2.1 (tk T.2.1 T.2.2 1).2.2 := by
  have h := stR .x { Cm.zero 0 with dead := decide (Oc.val (tk T.2.1 T.2.2 1).1.data.toList = 1) } hT hZ hM hg hb hu rfl
  exact ⟨⟨h.k, h.f⟩, h.T1, h.Z, h.M, hr.upd ((Upd.refl g _).setCell _) (by omega)⟩
/-- What there is ahead of a kind's parts. -/
theorem rr_start (k : Int) {w w1 : World} {b : Nat} {r : ByteArray} (hb : b < w.heap.size) (hr : Rd w1 b r 0) (hu : Upd b ((w.alloc (objR (Cm.zero 0))).alloc (objR (Cm.zero 0))) w1) :
    w1.cell? ⟨w.heap.size + 1, 0, none⟩ = some (.int .i64 0) ∧ w1.frozen? ⟨w.heap.size + 1, 0, none⟩ = false ∧ BxC (w1.setCell ⟨w.heap.size + 1, 0, none⟩ (.int .i64 k)) (w.heap.size + 1) (Cm.zero k) ∧ BxC (w1.setCell ⟨w.heap.size + 1, 0, none⟩ (.int .i64 k)) w.heap.size (Cm.zero 0) ∧ Mod b w (w1.setCell ⟨w.heap.size + 1, 0, none⟩ (.int .i64 k)) ∧ Rd (w1.setCell ⟨w.heap.size + 1, 0, none⟩ (.int .i64 k)) b r 0 := by
  have h1 := ((BxC.newR w (Cm.zero 0)).alloc (objR (Cm.zero 0))).upd hu (by omega)
  have h2 := BxC.newR (w.alloc (objR (Cm.zero 0))) (Cm.zero 0)
  rw [World.size_alloc] at h2
  have h2 := h2.upd hu (by omega)
  have hU : Upd (w.heap.size + 1) w1 (w1.setCell ⟨w.heap.size + 1, 0, none⟩ (.int .i64 k)) := (Upd.refl _ _).setCell _
  exact ⟨h2.cell 0 _ rfl, h2.free 0 (by decide), h2.kind k, h1.upd hU (by omega), mod_upd' ((((Mod.refl b w).alloc _).alloc _).upd hu) (by omega) hU, hr.upd hU (by omega)⟩
end Go.Proofs.YtoekggbbkcmknaaGreatDoor
/- The document's Read at some kinds. -/
namespace Go.Proofs.YtoekggbbkcmknaaGreatDoor
open Go.RowKit
attribute [local go_sem ↓] zeroC_eq newC_eq loadC_eq storeC_eq buildC_eq zeroR_eq newR_eq loadR_eq storeR_eq buildR_eq
attribute [local go_sem] run_zeroC run_newC run_buildC0 run_buildC1 run_neqC run_eqlC run_guardC run_zeroR run_newR run_buildR0 run_buildR1 run_neqR run_eqlR run_guardR
attribute [local go_sem ↓] bslC_eq bslR_eq
attribute [local go_sem] run_bslC run_bslR
set_option maxRecDepth 1000000
set_option maxHeartbeats 1500000 in
theorem refRead_1 (b : Nat) (bs : ByteArray) (e : Int) (w : World) (h : Rd w b bs e) (hk : Oc.val (tk bs e 1).1.data.toList = 1) (he : (tk bs e 1).2.2 = 0) :
    Calls Tryz.prog 19 #[.pointer (some ⟨b, 0, none⟩)] w fun x w' => x = .returned (readL (form 1) (Cm.zero 1, (tk bs e 1).2.1, 0)).1.agg ∧ Rd w' b (readL (form 1) (Cm.zero 1, (tk bs e 1).2.1, 0)).2.1 (readL (form 1) (Cm.zero 1, (tk bs e 1).2.1, 0)).2.2 ∧ Mod b w w' := by
  have hform : form 1 = [.q, .m, .l, .r, .d] := by decide
  rw [hform]
  simp only [readL, List.foldl_cons, List.foldl_nil]
  have HO := Lib.hid (num1 b bs e _ ((h.alloc (objR (Cm.zero 0))).alloc (objR (Cm.zero 0))))
  rw [hk, he] at HO
  have HLT := Lib.hid h.lt
  have HNE : Hid (True) := trivial
  clear h hform
  go_enter Tryz.func19, Tryz.ntmps19
  go_wp2_with (first
    | (go_at_call 47; refine (refText_rd b _ _ 32 (by decide) _ hR4).mono ?_; rintro x w6 ⟨rfl, hr, hu⟩; obtain ⟨⟨kc4, kf4⟩, hT5, hZ5, hM5, hR5⟩ := st_d (T := (Sg.r.read (Sg.l.read (Sg.m.read (Sg.q.read (Cm.zero 1, (tk bs e 1).2.1, (0 : Int))))))) hT4 hZ4 hM4 rfl HLT.out hr hu; have hl := run_loadR hT5; have hst := run_storeR hZ5 (Sg.d.read (Sg.r.read (Sg.l.read (Sg.m.read (Sg.q.read (Cm.zero 1, (tk bs e 1).2.1, (0 : Int))))))).1; obtain ⟨hz1, hz2⟩ := hZ5.stored (Sg.d.read (Sg.r.read (Sg.l.read (Sg.m.read (Sg.q.read (Cm.zero 1, (tk bs e 1).2.1, (0 : Int))))))).1; have hres := run_loadR hz1)
    | (go_at_call 41; refine (num4 b _ _ _ hR3).mono ?_; rintro x w5 ⟨rfl, hr, hu⟩; have hv3 := vlt32 (Sg.l.read (Sg.m.read (Sg.q.read (Cm.zero 1, (tk bs e 1).2.1, (0 : Int))))).2.1 (Sg.l.read (Sg.m.read (Sg.q.read (Cm.zero 1, (tk bs e 1).2.1, (0 : Int))))).2.2; obtain ⟨⟨kc3, kf3⟩, hT4, hZ4, hM4, hR4⟩ := st_r (T := (Sg.l.read (Sg.m.read (Sg.q.read (Cm.zero 1, (tk bs e 1).2.1, (0 : Int)))))) hT3 hZ3 hM3 rfl HLT.out hr hu)
    | (go_at_call 41; refine (num8 b _ _ _ hR2).mono ?_; rintro x w4 ⟨rfl, hr, hu⟩; obtain ⟨⟨kc2, kf2⟩, hT3, hZ3, hM3, hR3⟩ := st_l (T := (Sg.m.read (Sg.q.read (Cm.zero 1, (tk bs e 1).2.1, (0 : Int))))) hT2 hZ2 hM2 rfl HLT.out hr hu)
    | (go_at_call 41; refine (num4 b _ _ _ hR1).mono ?_; rintro x w3 ⟨rfl, hr, hu⟩; have hv1 := vlt32 (Sg.q.read (Cm.zero 1, (tk bs e 1).2.1, (0 : Int))).2.1 (Sg.q.read (Cm.zero 1, (tk bs e 1).2.1, (0 : Int))).2.2; obtain ⟨⟨kc1, kf1⟩, hT2, hZ2, hM2, hR2⟩ := st_m (T := (Sg.q.read (Cm.zero 1, (tk bs e 1).2.1, (0 : Int)))) hT1 hZ1 hM1 rfl HLT.out hr hu)
    | (go_at_call 47; refine (refText_rd b _ _ 32 (by decide) _ hR0).mono ?_; rintro x w2 ⟨rfl, hr, hu⟩; obtain ⟨⟨kc0, kf0⟩, hT1, hZ1, hM1, hR1⟩ := st_q (T := (Cm.zero 1, (tk bs e 1).2.1, (0 : Int))) hT0 hZ0 hM0 rfl HLT.out hr hu)
    | (go_at_call 41; refine (HO.out).mono ?_; rintro x w1 ⟨rfl, hr1, hu1⟩; obtain ⟨kc, kf, hT0, hZ0, hM0, hR0⟩ := rr_start 1 HLT.out hr1 hu1; have hb1 := hr1.c1; have hne1 := HNE.out))
  exact bodyPost_ret_by (resR Tryz.results19 _ rfl hres) rfl ⟨rfl, hR5.upd hz2 (by have := HLT.out; omega), mod_upd' hM5 (Nat.le_refl _) hz2⟩
set_option maxHeartbeats 1500000 in
theorem refRead_2 (b : Nat) (bs : ByteArray) (e : Int) (w : World) (h : Rd w b bs e) (hk : Oc.val (tk bs e 1).1.data.toList = 2) (he : (tk bs e 1).2.2 = 0) :
    Calls Tryz.prog 19 #[.pointer (some ⟨b, 0, none⟩)] w fun x w' => x = .returned (readL (form 2) (Cm.zero 2, (tk bs e 1).2.1, 0)).1.agg ∧ Rd w' b (readL (form 2) (Cm.zero 2, (tk bs e 1).2.1, 0)).2.1 (readL (form 2) (Cm.zero 2, (tk bs e 1).2.1, 0)).2.2 ∧ Mod b w w' := by
  have hform : form 2 = [.q] := by decide
  rw [hform]
  simp only [readL, List.foldl_cons, List.foldl_nil]
  have HO := Lib.hid (num1 b bs e _ ((h.alloc (objR (Cm.zero 0))).alloc (objR (Cm.zero 0))))
  rw [hk, he] at HO
  have HLT := Lib.hid h.lt
  have HNE : Hid (True) := trivial
  clear h hform
  go_enter Tryz.func19, Tryz.ntmps19
  go_wp2_with (first
    | (go_at_call 47; refine (refText_rd b _ _ 32 (by decide) _ hR0).mono ?_; rintro x w2 ⟨rfl, hr, hu⟩; obtain ⟨⟨kc0, kf0⟩, hT1, hZ1, hM1, hR1⟩ := st_q (T := (Cm.zero 2, (tk bs e 1).2.1, (0 : Int))) hT0 hZ0 hM0 rfl HLT.out hr hu; have hl := run_loadR hT1; have hst := run_storeR hZ1 (Sg.q.read (Cm.zero 2, (tk bs e 1).2.1, (0 : Int))).1; obtain ⟨hz1, hz2⟩ := hZ1.stored (Sg.q.read (Cm.zero 2, (tk bs e 1).2.1, (0 : Int))).1; have hres := run_loadR hz1)
    | (go_at_call 41; refine (HO.out).mono ?_; rintro x w1 ⟨rfl, hr1, hu1⟩; obtain ⟨kc, kf, hT0, hZ0, hM0, hR0⟩ := rr_start 2 HLT.out hr1 hu1; have hb1 := hr1.c1; have hne1 := HNE.out))
  exact bodyPost_ret_by (resR Tryz.results19 _ rfl hres) rfl ⟨rfl, hR1.upd hz2 (by have := HLT.out; omega), mod_upd' hM1 (Nat.le_refl _) hz2⟩
set_option maxHeartbeats 1500000 in
theorem refRead_3 (b : Nat) (bs : ByteArray) (e : Int) (w : World) (h : Rd w b bs e) (hk : Oc.val (tk bs e 1).1.data.toList = 3) (he : (tk bs e 1).2.2 = 0) :
    Calls Tryz.prog 19 #[.pointer (some ⟨b, 0, none⟩)] w fun x w' => x = .returned (readL (form 3) (Cm.zero 3, (tk bs e 1).2.1, 0)).1.agg ∧ Rd w' b (readL (form 3) (Cm.zero 3, (tk bs e 1).2.1, 0)).2.1 (readL (form 3) (Cm.zero 3, (tk bs e 1).2.1, 0)).2.2 ∧ Mod b w w' := by
  have hform : form 3 = [.E, .K, .P, .Q] := by decide
  rw [hform]
  simp only [readL, List.foldl_cons, List.foldl_nil]
  have HO := Lib.hid (num1 b bs e _ ((h.alloc (objR (Cm.zero 0))).alloc (objR (Cm.zero 0))))
  rw [hk, he] at HO
  have HLT := Lib.hid h.lt
  have HNE : Hid (True) := trivial
  clear h hform
  go_enter Tryz.func19, Tryz.ntmps19
  go_wp2_with (first
    | (go_at_call 47; refine (refText_rd b _ _ 32 (by decide) _ hR3).mono ?_; rintro x w5 ⟨rfl, hr, hu⟩; obtain ⟨⟨kc3, kf3⟩, hT4, hZ4, hM4, hR4⟩ := st_Q (T := (Sg.P.read (Sg.K.read (Sg.E.read (Cm.zero 3, (tk bs e 1).2.1, (0 : Int)))))) hT3 hZ3 hM3 rfl HLT.out hr hu; have hl := run_loadR hT4; have hst := run_storeR hZ4 (Sg.Q.read (Sg.P.read (Sg.K.read (Sg.E.read (Cm.zero 3, (tk bs e 1).2.1, (0 : Int)))))).1; obtain ⟨hz1, hz2⟩ := hZ4.stored (Sg.Q.read (Sg.P.read (Sg.K.read (Sg.E.read (Cm.zero 3, (tk bs e 1).2.1, (0 : Int)))))).1; have hres := run_loadR hz1)
    | (go_at_call 47; refine (refText_rd b _ _ 512 (by decide) _ hR2).mono ?_; rintro x w4 ⟨rfl, hr, hu⟩; obtain ⟨⟨kc2, kf2⟩, hT3, hZ3, hM3, hR3⟩ := st_P (T := (Sg.K.read (Sg.E.read (Cm.zero 3, (tk bs e 1).2.1, (0 : Int))))) hT2 hZ2 hM2 rfl HLT.out hr hu)
    | (go_at_call 41; refine (num1 b _ _ _ hR1).mono ?_; rintro x w3 ⟨rfl, hr, hu⟩; have hv1 := vlt8 (Sg.E.read (Cm.zero 3, (tk bs e 1).2.1, (0 : Int))).2.1 (Sg.E.read (Cm.zero 3, (tk bs e 1).2.1, (0 : Int))).2.2; obtain ⟨⟨kc1, kf1⟩, hT2, hZ2, hM2, hR2⟩ := st_K (T := (Sg.E.read (Cm.zero 3, (tk bs e 1).2.1, (0 : Int)))) hT1 hZ1 hM1 rfl HLT.out hr hu)
    | (go_at_call 47; refine (refText_rd b _ _ 32 (by decide) _ hR0).mono ?_; rintro x w2 ⟨rfl, hr, hu⟩; obtain ⟨⟨kc0, kf0⟩, hT1, hZ1, hM1, hR1⟩ := st_E (T := (Cm.zero 3, (tk bs e 1).2.1, (0 : Int))) hT0 hZ0 hM0 rfl HLT.out hr hu)
    | (go_at_call 41; refine (HO.out).mono ?_; rintro x w1 ⟨rfl, hr1, hu1⟩; obtain ⟨kc, kf, hT0, hZ0, hM0, hR0⟩ := rr_start 3 HLT.out hr1 hu1; have hb1 := hr1.c1; have hne1 := HNE.out))
  exact bodyPost_ret_by (resR Tryz.results19 _ rfl hres) rfl ⟨rfl, hR4.upd hz2 (by have := HLT.out; omega), mod_upd' hM4 (Nat.le_refl _) hz2⟩
end Go.Proofs.YtoekggbbkcmknaaGreatDoor
/- The document's Read at some kinds. -/
namespace Go.Proofs.YtoekggbbkcmknaaGreatDoor
open Go.RowKit
attribute [local go_sem ↓] zeroC_eq newC_eq loadC_eq storeC_eq buildC_eq zeroR_eq newR_eq loadR_eq storeR_eq buildR_eq
attribute [local go_sem] run_zeroC run_newC run_buildC0 run_buildC1 run_neqC run_eqlC run_guardC run_zeroR run_newR run_buildR0 run_buildR1 run_neqR run_eqlR run_guardR
attribute [local go_sem ↓] bslC_eq bslR_eq
attribute [local go_sem] run_bslC run_bslR
set_option maxRecDepth 1000000
set_option maxHeartbeats 1500000 in
theorem refRead_4 (b : Nat) (bs : ByteArray) (e : Int) (w : World) (h : Rd w b bs e) (hk : Oc.val (tk bs e 1).1.data.toList = 4) (he : (tk bs e 1).2.2 = 0) :
    Calls Tryz.prog 19 #[.pointer (some ⟨b, 0, none⟩)] w fun x w' => x = .returned (readL (form 4) (Cm.zero 4, (tk bs e 1).2.1, 0)).1.agg ∧ Rd w' b (readL (form 4) (Cm.zero 4, (tk bs e 1).2.1, 0)).2.1 (readL (form 4) (Cm.zero 4, (tk bs e 1).2.1, 0)).2.2 ∧ Mod b w w' := by
  have hform : form 4 = [.E, .K, .P, .Q] := by decide
  rw [hform]
  simp only [readL, List.foldl_cons, List.foldl_nil]
  have HO := Lib.hid (num1 b bs e _ ((h.alloc (objR (Cm.zero 0))).alloc (objR (Cm.zero 0))))
  rw [hk, he] at HO
  have HLT := Lib.hid h.lt
  have HNE : Hid (True) := trivial
  clear h hform
  go_enter Tryz.func19, Tryz.ntmps19
  go_wp2_with (first
    | (go_at_call 47; refine (refText_rd b _ _ 32 (by decide) _ hR3).mono ?_; rintro x w5 ⟨rfl, hr, hu⟩; obtain ⟨⟨kc3, kf3⟩, hT4, hZ4, hM4, hR4⟩ := st_Q (T := (Sg.P.read (Sg.K.read (Sg.E.read (Cm.zero 4, (tk bs e 1).2.1, (0 : Int)))))) hT3 hZ3 hM3 rfl HLT.out hr hu; have hl := run_loadR hT4; have hst := run_storeR hZ4 (Sg.Q.read (Sg.P.read (Sg.K.read (Sg.E.read (Cm.zero 4, (tk bs e 1).2.1, (0 : Int)))))).1; obtain ⟨hz1, hz2⟩ := hZ4.stored (Sg.Q.read (Sg.P.read (Sg.K.read (Sg.E.read (Cm.zero 4, (tk bs e 1).2.1, (0 : Int)))))).1; have hres := run_loadR hz1)
    | (go_at_call 47; refine (refText_rd b _ _ 512 (by decide) _ hR2).mono ?_; rintro x w4 ⟨rfl, hr, hu⟩; obtain ⟨⟨kc2, kf2⟩, hT3, hZ3, hM3, hR3⟩ := st_P (T := (Sg.K.read (Sg.E.read (Cm.zero 4, (tk bs e 1).2.1, (0 : Int))))) hT2 hZ2 hM2 rfl HLT.out hr hu)
    | (go_at_call 41; refine (num1 b _ _ _ hR1).mono ?_; rintro x w3 ⟨rfl, hr, hu⟩; have hv1 := vlt8 (Sg.E.read (Cm.zero 4, (tk bs e 1).2.1, (0 : Int))).2.1 (Sg.E.read (Cm.zero 4, (tk bs e 1).2.1, (0 : Int))).2.2; obtain ⟨⟨kc1, kf1⟩, hT2, hZ2, hM2, hR2⟩ := st_K (T := (Sg.E.read (Cm.zero 4, (tk bs e 1).2.1, (0 : Int)))) hT1 hZ1 hM1 rfl HLT.out hr hu)
    | (go_at_call 47; refine (refText_rd b _ _ 32 (by decide) _ hR0).mono ?_; rintro x w2 ⟨rfl, hr, hu⟩; obtain ⟨⟨kc0, kf0⟩, hT1, hZ1, hM1, hR1⟩ := st_E (T := (Cm.zero 4, (tk bs e 1).2.1, (0 : Int))) hT0 hZ0 hM0 rfl HLT.out hr hu)
    | (go_at_call 41; refine (HO.out).mono ?_; rintro x w1 ⟨rfl, hr1, hu1⟩; obtain ⟨kc, kf, hT0, hZ0, hM0, hR0⟩ := rr_start 4 HLT.out hr1 hu1; have hb1 := hr1.c1; have hne1 := HNE.out))
  exact bodyPost_ret_by (resR Tryz.results19 _ rfl hres) rfl ⟨rfl, hR4.upd hz2 (by have := HLT.out; omega), mod_upd' hM4 (Nat.le_refl _) hz2⟩
set_option maxHeartbeats 1500000 in
theorem refRead_5 (b : Nat) (bs : ByteArray) (e : Int) (w : World) (h : Rd w b bs e) (hk : Oc.val (tk bs e 1).1.data.toList = 5) (he : (tk bs e 1).2.2 = 0) :
    Calls Tryz.prog 19 #[.pointer (some ⟨b, 0, none⟩)] w fun x w' => x = .returned (readL (form 5) (Cm.zero 5, (tk bs e 1).2.1, 0)).1.agg ∧ Rd w' b (readL (form 5) (Cm.zero 5, (tk bs e 1).2.1, 0)).2.1 (readL (form 5) (Cm.zero 5, (tk bs e 1).2.1, 0)).2.2 ∧ Mod b w w' := by
  have hform : form 5 = [.e, .k, .b, .t] := by decide
  rw [hform]
  simp only [readL, List.foldl_cons, List.foldl_nil]
  have HO := Lib.hid (num1 b bs e _ ((h.alloc (objR (Cm.zero 0))).alloc (objR (Cm.zero 0))))
  rw [hk, he] at HO
  have HLT := Lib.hid h.lt
  have HNE : Hid (True) := trivial
  clear h hform
  go_enter Tryz.func19, Tryz.ntmps19
  go_wp2_with (first
    | (go_at_call 41; refine (num8 b _ _ _ hR3).mono ?_; rintro x w5 ⟨rfl, hr, hu⟩; obtain ⟨⟨kc3, kf3⟩, hT4, hZ4, hM4, hR4⟩ := st_t (T := (Sg.b.read (Sg.k.read (Sg.e.read (Cm.zero 5, (tk bs e 1).2.1, (0 : Int)))))) hT3 hZ3 hM3 rfl HLT.out hr hu; have hl := run_loadR hT4; have hst := run_storeR hZ4 (Sg.t.read (Sg.b.read (Sg.k.read (Sg.e.read (Cm.zero 5, (tk bs e 1).2.1, (0 : Int)))))).1; obtain ⟨hz1, hz2⟩ := hZ4.stored (Sg.t.read (Sg.b.read (Sg.k.read (Sg.e.read (Cm.zero 5, (tk bs e 1).2.1, (0 : Int)))))).1; have hres := run_loadR hz1)
    | (go_at_call 47; refine (refText_rd b _ _ 32768 (by decide) _ hR2).mono ?_; rintro x w4 ⟨rfl, hr, hu⟩; obtain ⟨⟨kc2, kf2⟩, hT3, hZ3, hM3, hR3⟩ := st_b (T := (Sg.k.read (Sg.e.read (Cm.zero 5, (tk bs e 1).2.1, (0 : Int))))) hT2 hZ2 hM2 rfl HLT.out hr hu)
    | (go_at_call 47; refine (refText_rd b _ _ 512 (by decide) _ hR1).mono ?_; rintro x w3 ⟨rfl, hr, hu⟩; obtain ⟨⟨kc1, kf1⟩, hT2, hZ2, hM2, hR2⟩ := st_k (T := (Sg.e.read (Cm.zero 5, (tk bs e 1).2.1, (0 : Int)))) hT1 hZ1 hM1 rfl HLT.out hr hu)
    | (go_at_call 47; refine (refText_rd b _ _ 32 (by decide) _ hR0).mono ?_; rintro x w2 ⟨rfl, hr, hu⟩; obtain ⟨⟨kc0, kf0⟩, hT1, hZ1, hM1, hR1⟩ := st_e (T := (Cm.zero 5, (tk bs e 1).2.1, (0 : Int))) hT0 hZ0 hM0 rfl HLT.out hr hu)
    | (go_at_call 41; refine (HO.out).mono ?_; rintro x w1 ⟨rfl, hr1, hu1⟩; obtain ⟨kc, kf, hT0, hZ0, hM0, hR0⟩ := rr_start 5 HLT.out hr1 hu1; have hb1 := hr1.c1; have hne1 := HNE.out))
  exact bodyPost_ret_by (resR Tryz.results19 _ rfl hres) rfl ⟨rfl, hR4.upd hz2 (by have := HLT.out; omega), mod_upd' hM4 (Nat.le_refl _) hz2⟩
set_option maxHeartbeats 1500000 in
theorem refRead_10 (b : Nat) (bs : ByteArray) (e : Int) (w : World) (h : Rd w b bs e) (hk : Oc.val (tk bs e 1).1.data.toList = 10) (he : (tk bs e 1).2.2 = 0) :
    Calls Tryz.prog 19 #[.pointer (some ⟨b, 0, none⟩)] w fun x w' => x = .returned (readL (form 10) (Cm.zero 10, (tk bs e 1).2.1, 0)).1.agg ∧ Rd w' b (readL (form 10) (Cm.zero 10, (tk bs e 1).2.1, 0)).2.1 (readL (form 10) (Cm.zero 10, (tk bs e 1).2.1, 0)).2.2 ∧ Mod b w w' := by
  have hform : form 10 = [.q] := by decide
  rw [hform]
  simp only [readL, List.foldl_cons, List.foldl_nil]
  have HO := Lib.hid (num1 b bs e _ ((h.alloc (objR (Cm.zero 0))).alloc (objR (Cm.zero 0))))
  rw [hk, he] at HO
  have HLT := Lib.hid h.lt
  have HNE : Hid (True) := trivial
  clear h hform
  go_enter Tryz.func19, Tryz.ntmps19
  go_wp2_with (first
    | (go_at_call 47; refine (refText_rd b _ _ 32 (by decide) _ hR0).mono ?_; rintro x w2 ⟨rfl, hr, hu⟩; obtain ⟨⟨kc0, kf0⟩, hT1, hZ1, hM1, hR1⟩ := st_q (T := (Cm.zero 10, (tk bs e 1).2.1, (0 : Int))) hT0 hZ0 hM0 rfl HLT.out hr hu; have hl := run_loadR hT1; have hst := run_storeR hZ1 (Sg.q.read (Cm.zero 10, (tk bs e 1).2.1, (0 : Int))).1; obtain ⟨hz1, hz2⟩ := hZ1.stored (Sg.q.read (Cm.zero 10, (tk bs e 1).2.1, (0 : Int))).1; have hres := run_loadR hz1)
    | (go_at_call 41; refine (HO.out).mono ?_; rintro x w1 ⟨rfl, hr1, hu1⟩; obtain ⟨kc, kf, hT0, hZ0, hM0, hR0⟩ := rr_start 10 HLT.out hr1 hu1; have hb1 := hr1.c1; have hne1 := HNE.out))
  exact bodyPost_ret_by (resR Tryz.results19 _ rfl hres) rfl ⟨rfl, hR1.upd hz2 (by have := HLT.out; omega), mod_upd' hM1 (Nat.le_refl _) hz2⟩
end Go.Proofs.YtoekggbbkcmknaaGreatDoor
/- The document's Read at some kinds. -/
namespace Go.Proofs.YtoekggbbkcmknaaGreatDoor
open Go.RowKit
attribute [local go_sem ↓] zeroC_eq newC_eq loadC_eq storeC_eq buildC_eq zeroR_eq newR_eq loadR_eq storeR_eq buildR_eq
attribute [local go_sem] run_zeroC run_newC run_buildC0 run_buildC1 run_neqC run_eqlC run_guardC run_zeroR run_newR run_buildR0 run_buildR1 run_neqR run_eqlR run_guardR
attribute [local go_sem ↓] bslC_eq bslR_eq
attribute [local go_sem] run_bslC run_bslR
set_option maxRecDepth 1000000
set_option maxHeartbeats 1500000 in
theorem refRead_6 (b : Nat) (bs : ByteArray) (e : Int) (w : World) (h : Rd w b bs e) (hk : Oc.val (tk bs e 1).1.data.toList = 6) (he : (tk bs e 1).2.2 = 0) :
    Calls Tryz.prog 19 #[.pointer (some ⟨b, 0, none⟩)] w fun x w' => x = .returned (readL (form 6) (Cm.zero 6, (tk bs e 1).2.1, 0)).1.agg ∧ Rd w' b (readL (form 6) (Cm.zero 6, (tk bs e 1).2.1, 0)).2.1 (readL (form 6) (Cm.zero 6, (tk bs e 1).2.1, 0)).2.2 ∧ Mod b w w' := by
  have hform : form 6 = [.q, .n, .t] := by decide
  rw [hform]
  simp only [readL, List.foldl_cons, List.foldl_nil]
  have HO := Lib.hid (num1 b bs e _ ((h.alloc (objR (Cm.zero 0))).alloc (objR (Cm.zero 0))))
  rw [hk, he] at HO
  have HLT := Lib.hid h.lt
  have HNE : Hid (True) := trivial
  clear h hform
  go_enter Tryz.func19, Tryz.ntmps19
  go_wp2_with (first
    | (go_at_call 41; refine (num8 b _ _ _ hR2).mono ?_; rintro x w4 ⟨rfl, hr, hu⟩; obtain ⟨⟨kc2, kf2⟩, hT3, hZ3, hM3, hR3⟩ := st_t (T := (Sg.n.read (Sg.q.read (Cm.zero 6, (tk bs e 1).2.1, (0 : Int))))) hT2 hZ2 hM2 rfl HLT.out hr hu; have hl := run_loadR hT3; have hst := run_storeR hZ3 (Sg.t.read (Sg.n.read (Sg.q.read (Cm.zero 6, (tk bs e 1).2.1, (0 : Int))))).1; obtain ⟨hz1, hz2⟩ := hZ3.stored (Sg.t.read (Sg.n.read (Sg.q.read (Cm.zero 6, (tk bs e 1).2.1, (0 : Int))))).1; have hres := run_loadR hz1)
    | (go_at_call 41; refine (num8 b _ _ _ hR1).mono ?_; rintro x w3 ⟨rfl, hr, hu⟩; obtain ⟨⟨kc1, kf1⟩, hT2, hZ2, hM2, hR2⟩ := st_n (T := (Sg.q.read (Cm.zero 6, (tk bs e 1).2.1, (0 : Int)))) hT1 hZ1 hM1 rfl HLT.out hr hu)
    | (go_at_call 47; refine (refText_rd b _ _ 32 (by decide) _ hR0).mono ?_; rintro x w2 ⟨rfl, hr, hu⟩; obtain ⟨⟨kc0, kf0⟩, hT1, hZ1, hM1, hR1⟩ := st_q (T := (Cm.zero 6, (tk bs e 1).2.1, (0 : Int))) hT0 hZ0 hM0 rfl HLT.out hr hu)
    | (go_at_call 41; refine (HO.out).mono ?_; rintro x w1 ⟨rfl, hr1, hu1⟩; obtain ⟨kc, kf, hT0, hZ0, hM0, hR0⟩ := rr_start 6 HLT.out hr1 hu1; have hb1 := hr1.c1; have hne1 := HNE.out))
  exact bodyPost_ret_by (resR Tryz.results19 _ rfl hres) rfl ⟨rfl, hR3.upd hz2 (by have := HLT.out; omega), mod_upd' hM3 (Nat.le_refl _) hz2⟩
set_option maxHeartbeats 1500000 in
theorem refRead_7 (b : Nat) (bs : ByteArray) (e : Int) (w : World) (h : Rd w b bs e) (hk : Oc.val (tk bs e 1).1.data.toList = 7) (he : (tk bs e 1).2.2 = 0) :
    Calls Tryz.prog 19 #[.pointer (some ⟨b, 0, none⟩)] w fun x w' => x = .returned (readL (form 7) (Cm.zero 7, (tk bs e 1).2.1, 0)).1.agg ∧ Rd w' b (readL (form 7) (Cm.zero 7, (tk bs e 1).2.1, 0)).2.1 (readL (form 7) (Cm.zero 7, (tk bs e 1).2.1, 0)).2.2 ∧ Mod b w w' := by
  have hform : form 7 = [.q, .i, .o] := by decide
  rw [hform]
  simp only [readL, List.foldl_cons, List.foldl_nil]
  have HO := Lib.hid (num1 b bs e _ ((h.alloc (objR (Cm.zero 0))).alloc (objR (Cm.zero 0))))
  rw [hk, he] at HO
  have HLT := Lib.hid h.lt
  have HNE : Hid (True) := trivial
  clear h hform
  go_enter Tryz.func19, Tryz.ntmps19
  go_wp2_with (first
    | (go_at_call 41; refine (num8 b _ _ _ hR2).mono ?_; rintro x w4 ⟨rfl, hr, hu⟩; obtain ⟨⟨kc2, kf2⟩, hT3, hZ3, hM3, hR3⟩ := st_o (T := (Sg.i.read (Sg.q.read (Cm.zero 7, (tk bs e 1).2.1, (0 : Int))))) hT2 hZ2 hM2 rfl HLT.out hr hu; have hl := run_loadR hT3; have hst := run_storeR hZ3 (Sg.o.read (Sg.i.read (Sg.q.read (Cm.zero 7, (tk bs e 1).2.1, (0 : Int))))).1; obtain ⟨hz1, hz2⟩ := hZ3.stored (Sg.o.read (Sg.i.read (Sg.q.read (Cm.zero 7, (tk bs e 1).2.1, (0 : Int))))).1; have hres := run_loadR hz1)
    | (go_at_call 41; refine (num8 b _ _ _ hR1).mono ?_; rintro x w3 ⟨rfl, hr, hu⟩; obtain ⟨⟨kc1, kf1⟩, hT2, hZ2, hM2, hR2⟩ := st_i (T := (Sg.q.read (Cm.zero 7, (tk bs e 1).2.1, (0 : Int)))) hT1 hZ1 hM1 rfl HLT.out hr hu)
    | (go_at_call 47; refine (refText_rd b _ _ 32 (by decide) _ hR0).mono ?_; rintro x w2 ⟨rfl, hr, hu⟩; obtain ⟨⟨kc0, kf0⟩, hT1, hZ1, hM1, hR1⟩ := st_q (T := (Cm.zero 7, (tk bs e 1).2.1, (0 : Int))) hT0 hZ0 hM0 rfl HLT.out hr hu)
    | (go_at_call 41; refine (HO.out).mono ?_; rintro x w1 ⟨rfl, hr1, hu1⟩; obtain ⟨kc, kf, hT0, hZ0, hM0, hR0⟩ := rr_start 7 HLT.out hr1 hu1; have hb1 := hr1.c1; have hne1 := HNE.out))
  exact bodyPost_ret_by (resR Tryz.results19 _ rfl hres) rfl ⟨rfl, hR3.upd hz2 (by have := HLT.out; omega), mod_upd' hM3 (Nat.le_refl _) hz2⟩
set_option maxHeartbeats 1500000 in
theorem refRead_11 (b : Nat) (bs : ByteArray) (e : Int) (w : World) (h : Rd w b bs e) (hk : Oc.val (tk bs e 1).1.data.toList = 11) (he : (tk bs e 1).2.2 = 0) :
    Calls Tryz.prog 19 #[.pointer (some ⟨b, 0, none⟩)] w fun x w' => x = .returned (readL (form 11) (Cm.zero 11, (tk bs e 1).2.1, 0)).1.agg ∧ Rd w' b (readL (form 11) (Cm.zero 11, (tk bs e 1).2.1, 0)).2.1 (readL (form 11) (Cm.zero 11, (tk bs e 1).2.1, 0)).2.2 ∧ Mod b w w' := by
  have hform : form 11 = [.t] := by decide
  rw [hform]
  simp only [readL, List.foldl_cons, List.foldl_nil]
  have HO := Lib.hid (num1 b bs e _ ((h.alloc (objR (Cm.zero 0))).alloc (objR (Cm.zero 0))))
  rw [hk, he] at HO
  have HLT := Lib.hid h.lt
  have HNE : Hid (True) := trivial
  clear h hform
  go_enter Tryz.func19, Tryz.ntmps19
  go_wp2_with (first
    | (go_at_call 41; refine (num8 b _ _ _ hR0).mono ?_; rintro x w2 ⟨rfl, hr, hu⟩; obtain ⟨⟨kc0, kf0⟩, hT1, hZ1, hM1, hR1⟩ := st_t (T := (Cm.zero 11, (tk bs e 1).2.1, (0 : Int))) hT0 hZ0 hM0 rfl HLT.out hr hu; have hl := run_loadR hT1; have hst := run_storeR hZ1 (Sg.t.read (Cm.zero 11, (tk bs e 1).2.1, (0 : Int))).1; obtain ⟨hz1, hz2⟩ := hZ1.stored (Sg.t.read (Cm.zero 11, (tk bs e 1).2.1, (0 : Int))).1; have hres := run_loadR hz1)
    | (go_at_call 41; refine (HO.out).mono ?_; rintro x w1 ⟨rfl, hr1, hu1⟩; obtain ⟨kc, kf, hT0, hZ0, hM0, hR0⟩ := rr_start 11 HLT.out hr1 hu1; have hb1 := hr1.c1; have hne1 := HNE.out))
  exact bodyPost_ret_by (resR Tryz.results19 _ rfl hres) rfl ⟨rfl, hR1.upd hz2 (by have := HLT.out; omega), mod_upd' hM1 (Nat.le_refl _) hz2⟩
end Go.Proofs.YtoekggbbkcmknaaGreatDoor
/- The document's Read at some kinds. -/
namespace Go.Proofs.YtoekggbbkcmknaaGreatDoor
open Go.RowKit
attribute [local go_sem ↓] zeroC_eq newC_eq loadC_eq storeC_eq buildC_eq zeroR_eq newR_eq loadR_eq storeR_eq buildR_eq
attribute [local go_sem] run_zeroC run_newC run_buildC0 run_buildC1 run_neqC run_eqlC run_guardC run_zeroR run_newR run_buildR0 run_buildR1 run_neqR run_eqlR run_guardR
attribute [local go_sem ↓] bslC_eq bslR_eq
attribute [local go_sem] run_bslC run_bslR
set_option maxRecDepth 1000000
set_option maxHeartbeats 1500000 in
theorem refRead_9 (b : Nat) (bs : ByteArray) (e : Int) (w : World) (h : Rd w b bs e) (hk : Oc.val (tk bs e 1).1.data.toList = 9) (he : (tk bs e 1).2.2 = 0) :
    Calls Tryz.prog 19 #[.pointer (some ⟨b, 0, none⟩)] w fun x w' => x = .returned (readL (form 9) (Cm.zero 9, (tk bs e 1).2.1, 0)).1.agg ∧ Rd w' b (readL (form 9) (Cm.zero 9, (tk bs e 1).2.1, 0)).2.1 (readL (form 9) (Cm.zero 9, (tk bs e 1).2.1, 0)).2.2 ∧ Mod b w w' := by
  have hform : form 9 = [.q, .i, .o, .t] := by decide
  rw [hform]
  simp only [readL, List.foldl_cons, List.foldl_nil]
  have HO := Lib.hid (num1 b bs e _ ((h.alloc (objR (Cm.zero 0))).alloc (objR (Cm.zero 0))))
  rw [hk, he] at HO
  have HLT := Lib.hid h.lt
  have HNE : Hid (True) := trivial
  clear h hform
  go_enter Tryz.func19, Tryz.ntmps19
  go_wp2_with (first
    | (go_at_call 41; refine (num8 b _ _ _ hR3).mono ?_; rintro x w5 ⟨rfl, hr, hu⟩; obtain ⟨⟨kc3, kf3⟩, hT4, hZ4, hM4, hR4⟩ := st_t (T := (Sg.o.read (Sg.i.read (Sg.q.read (Cm.zero 9, (tk bs e 1).2.1, (0 : Int)))))) hT3 hZ3 hM3 rfl HLT.out hr hu; have hl := run_loadR hT4; have hst := run_storeR hZ4 (Sg.t.read (Sg.o.read (Sg.i.read (Sg.q.read (Cm.zero 9, (tk bs e 1).2.1, (0 : Int)))))).1; obtain ⟨hz1, hz2⟩ := hZ4.stored (Sg.t.read (Sg.o.read (Sg.i.read (Sg.q.read (Cm.zero 9, (tk bs e 1).2.1, (0 : Int)))))).1; have hres := run_loadR hz1)
    | (go_at_call 41; refine (num8 b _ _ _ hR2).mono ?_; rintro x w4 ⟨rfl, hr, hu⟩; obtain ⟨⟨kc2, kf2⟩, hT3, hZ3, hM3, hR3⟩ := st_o (T := (Sg.i.read (Sg.q.read (Cm.zero 9, (tk bs e 1).2.1, (0 : Int))))) hT2 hZ2 hM2 rfl HLT.out hr hu)
    | (go_at_call 41; refine (num8 b _ _ _ hR1).mono ?_; rintro x w3 ⟨rfl, hr, hu⟩; obtain ⟨⟨kc1, kf1⟩, hT2, hZ2, hM2, hR2⟩ := st_i (T := (Sg.q.read (Cm.zero 9, (tk bs e 1).2.1, (0 : Int)))) hT1 hZ1 hM1 rfl HLT.out hr hu)
    | (go_at_call 47; refine (refText_rd b _ _ 32 (by decide) _ hR0).mono ?_; rintro x w2 ⟨rfl, hr, hu⟩; obtain ⟨⟨kc0, kf0⟩, hT1, hZ1, hM1, hR1⟩ := st_q (T := (Cm.zero 9, (tk bs e 1).2.1, (0 : Int))) hT0 hZ0 hM0 rfl HLT.out hr hu)
    | (go_at_call 41; refine (HO.out).mono ?_; rintro x w1 ⟨rfl, hr1, hu1⟩; obtain ⟨kc, kf, hT0, hZ0, hM0, hR0⟩ := rr_start 9 HLT.out hr1 hu1; have hb1 := hr1.c1; have hne1 := HNE.out))
  exact bodyPost_ret_by (resR Tryz.results19 _ rfl hres) rfl ⟨rfl, hR4.upd hz2 (by have := HLT.out; omega), mod_upd' hM4 (Nat.le_refl _) hz2⟩
end Go.Proofs.YtoekggbbkcmknaaGreatDoor
