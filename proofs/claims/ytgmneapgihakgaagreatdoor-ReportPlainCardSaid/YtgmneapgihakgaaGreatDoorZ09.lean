/- Texts of one seat, merged. -/
import Derived.Test.YtgmneapgihakgaaGreatDoorZ03
import Derived.Maps.OwnSet
import Derived.StringKeys
import Derived.WalkKit
import Derived.Below
import Derived.Lib.Hide
import Derived.Defers
import Derived.Recover
import Derived.RangeFuncNested
import Derived.Deep.DeepCutAuto
import Derived.Test.YtgmneapgihakgaaGreatDoorZ08
set_option maxRecDepth 100000
set_option maxHeartbeats 4000000
set_option linter.unusedVariables false
/- A map from texts to pairs, kept as a function. -/
namespace Go.Proofs.YtgmneapgihakgaaGreatDoor
open Go.RowKit Go.Maps Go.WideMaps
def heldP : Value → Option (DataW Value × List MemPlace) := fun v => some (.held v, [])
def zP : Value := .agg #[.string ⟨#[]⟩, .string ⟨#[]⟩]
def updS {α : Type} (f : List UInt8 → Option α) (k : List UInt8) (x : Option α) : List UInt8 → Option α := fun j => if j = k then x else f j
theorem updS_same {α : Type} (f : List UInt8 → Option α) (k : List UInt8) (x : Option α) : updS f k x k = x := if_pos rfl
theorem updS_other {α : Type} (f : List UInt8 → Option α) (k : List UInt8) (x : Option α) {j : List UInt8} (h : j ≠ k) : updS f k x j = f j := if_neg h
def MapS (w : World) (b n : Nat) (f : List UInt8 → Option Value) : Prop :=
  ∃ D : DataW Value, w.ownsMap Tryz.prog 9 heldP b n D ∧ ∀ k : List UInt8, Maps.has D (.string k) = (f k).isSome ∧ D.atKey (.string k) (.held zP) = .held ((f k).getD zP)
theorem keyS {k : List UInt8} (h : k.length ≤ maxLen) : keyOf Tryz.prog 9 (.string (str k)) = some (.string k) := keyOf_string_mk Tryz.underlying9 (s := str k) h
theorem lawS : Keyed Tryz.prog 9 := string_keyed Tryz.underlying9
theorem zeroP (w : World) : (zeroValue 73).run Tryz.prog w = .ok zP w := by kernel_rfl
theorem MapS.made (w : World) : MapS (w.alloc (.map #[] 0)) w.heap.size 0 (fun _ => none) := ⟨.map [], World.ownsMap_made _ _ _ _, fun k => ⟨rfl, rfl⟩⟩
theorem MapS.look {w : World} {b n : Nat} {f : List UInt8 → Option Value} (h : MapS w b n f) {k : List UInt8} (hk : k.length ≤ maxLen) : (Instr.lookup 132 (.map (some b)) (.string (str k)) false).run Tryz.prog w = .ok ((f k).getD zP) w := by
  obtain ⟨D, ho, hf⟩ := h
  obtain ⟨v, ps, hr, hv⟩ := ho.lookup lawS Tryz.underlying132 (zeroP w) (zd := .held zP) (zp := []) rfl (keyS hk)
  rw [(hf k).2] at hv
  simp [heldP] at hv
  rw [hr, hv.1]
theorem MapS.lookOk {w : World} {b n : Nat} {f : List UInt8 → Option Value} (h : MapS w b n f) {k : List UInt8} (hk : k.length ≤ maxLen) : (Instr.lookup 132 (.map (some b)) (.string (str k)) true).run Tryz.prog w = .ok (.tuple #[(f k).getD zP, .bool (f k).isSome]) w := by
  obtain ⟨D, ho, hf⟩ := h
  obtain ⟨v, ps, hr, hv⟩ := ho.look_ok lawS Tryz.underlying132 (zeroP w) (zd := .held zP) (zp := []) rfl (keyS hk)
  rw [(hf k).2] at hv
  simp [heldP] at hv
  rw [hr, hv.1, (hf k).1]
theorem litS_ne {j k : List UInt8} (h : j ≠ k) : Lit.string j ≠ Lit.string k := by
  intro e
  injection e with e
  exact h e
theorem MapS.store {w : World} {b n : Nat} {f : List UInt8 → Option Value} (h : MapS w b n f) {k : List UInt8} (hk : k.length ≤ maxLen) (hn : n < maxLen) (v : Value) :
    ∃ w', (Instr.mapUpdate 132 (.map (some b)) (.string (str k)) v).run Tryz.prog w = .ok () w' ∧ MapS w' b (n + 1) (updS f k (some v)) ∧ w.mapTurned w' b := by
  obtain ⟨D, ho, hf⟩ := h
  obtain ⟨w', hr, h1, h2⟩ := ho.store lawS Tryz.underlying132 hn (val := v) (keyS hk) (d := .held v) (ps := []) rfl
  refine ⟨w', hr, ⟨_, h1, fun j => ?_⟩, h2⟩
  by_cases hjk : j = k
  · subst hjk
    rw [updS_same, Maps.has_put_same ho.isMap (lawS.key (keyS hk)), Maps.atKey_put_same ho.isMap (lawS.key (keyS hk))]
    exact ⟨rfl, rfl⟩
  · rw [updS_other _ _ _ hjk, Maps.has_put_other (litS_ne hjk), Maps.atKey_put_other (litS_ne hjk)]
    exact hf j
theorem MapS.drop {w : World} {b n : Nat} {f : List UInt8 → Option Value} (h : MapS w b n f) {k : List UInt8} (hk : k.length ≤ maxLen) (ty : TypeId) :
    ∃ w', (Builtin.delete_ #[132, 9] ty #[.map (some b), .string (str k)]).run Tryz.prog w = .ok (.tuple #[]) w' ∧ MapS w' b n (updS f k none) ∧ w.mapTurned w' b := by
  obtain ⟨D, ho, hf⟩ := h
  obtain ⟨w', hr, h1, h2⟩ := ho.drop lawS Tryz.underlying132 (keyS hk) ty
  refine ⟨w', hr, ⟨_, h1, fun j => ?_⟩, h2⟩
  by_cases hjk : j = k
  · subst hjk
    rw [updS_same, Maps.has_del_same, Maps.atKey_del_same]
    exact ⟨rfl, rfl⟩
  · rw [updS_other _ _ _ hjk, Maps.has_del_other (litS_ne hjk), Maps.atKey_del_other (litS_ne hjk)]
    exact hf j
theorem MapS.lt {w : World} {b n : Nat} {f : List UInt8 → Option Value} (h : MapS w b n f) : b < w.heap.size := by
  obtain ⟨D, ho, _⟩ := h
  exact ho.lt
theorem MapS.kept {w w' : World} {b n : Nat} {f : List UInt8 → Option Value} (h : MapS w b n f) (hb : w'.heap[b]? = w.heap[b]?) : MapS w' b n f := by
  obtain ⟨D, ⟨es, clock, h0, h1⟩, hf⟩ := h
  exact ⟨D, ⟨es, clock, hb.trans h0, h1⟩, hf⟩
theorem MapS.same {w : World} {b n : Nat} {f g : List UInt8 → Option Value} (h : MapS w b n f) (e : ∀ k, f k = g k) : MapS w b n g := by
  obtain ⟨D, ho, hf⟩ := h
  exact ⟨D, ho, fun k => by rw [← e k]; exact hf k⟩
end Go.Proofs.YtgmneapgihakgaaGreatDoor
/- ask.Get, Put, Cut: the boxes of their answers; the deferred closures that find nothing to recover. -/
namespace Go.Proofs.YtgmneapgihakgaaGreatDoor
open Go.RowKit Go.Maps
/-- What a call leaves of the blocks from B on. -/
structure Upper (B : Nat) (W W' : World) : Prop where
  size : W.heap.size ≤ W'.heap.size
  same : ∀ k, B ≤ k → k < W.heap.size → W'.heap[k]? = W.heap[k]?
theorem Upper.box {B : Nat} {W W' : World} (h : Upper B W W') {k : Nat} {t : TypeId} {v : Value} (hb : Boxed W k t v) (hk : B ≤ k) : Boxed W' k t v := (h.same k hk hb.lt).trans hb
theorem Upper.of {B : Nat} {W W' : World} (h : Below W.heap.size W W') : Upper B W W' := ⟨h.size, fun k _ hk => h.block k hk⟩
theorem idleGet (p q r : Addr) (w : World) :
    CallsD Tryz.prog 174 #[.pointer (some p), .pointer (some q), .pointer (some r)] .returning w fun e u' w' => e = .returned (.tuple #[]) ∧ u' = .returning ∧ w' = w := by
  refine callsD_of_wpS Tryz.func174 rfl fun c₀ cs hu => ?_
  apply wpS_seq
  apply wpS_region
  simp [wpOpsS, go_sem, recoverD, hu, Tryz.ntmps174, Exit.thenS]
  refine wpS_cond (t := false) (by simp [Act.eval, Array.replicate]) ?_
  simp only [Bool.false_eq_true, if_false]
  refine wpS_of_wp (wp_skip ?_)
  cases c₀
  simp_all [bodyPostS, results, Tryz.results174]
/-- What Get answers, of what the getter answers. -/
def got (V : List UInt8) (th : Bool) (e : Int) : Value := if e = 0 ∧ th = true then .tuple #[.string (str V), .bool true, .int .i64 0] else .tuple #[.string (str []), .bool false, .int .i64 e]
theorem sets6 {B g : Nat} {w : World} {t0 t1 t2 : TypeId} {u0 u1 u2 : Value} (b0 : Boxed w g t0 u0) (b1 : Boxed w (g + 1) t1 u1) (b2 : Boxed w (g + 1 + 1) t2 u2) (hB : B ≤ g) (x0 x1 x2 y0 y1 y2 : Value) {w2 : World}
    (hw : w2 = (((((w.setCell ⟨g, 0, none⟩ x0).setCell ⟨g + 1, 0, none⟩ x1).setCell ⟨g + 1 + 1, 0, none⟩ x2).setCell ⟨g, 0, none⟩ y0).setCell ⟨g + 1, 0, none⟩ y1).setCell ⟨g + 1 + 1, 0, none⟩ y2) :
    w2.cell? ⟨g, 0, none⟩ = some y0 ∧ w2.cell? ⟨g + 1, 0, none⟩ = some y1 ∧ w2.cell? ⟨g + 1 + 1, 0, none⟩ = some y2 ∧ Below B w w2 := by
  subst hw
  have h01 : g ≠ g + 1 := by omega
  have h02 : g ≠ g + 1 + 1 := by omega
  have h12 : g + 1 ≠ g + 1 + 1 := by omega
  refine ⟨?_, ?_, ?_, ?_⟩
  · exact ((((((b0.set x0).other h01 x1).other h02 x2).set y0).other h01 y1).other h02 y2).cell
  · exact ((((((b1.other h01.symm x0).set x1).other h12 x2).other h01.symm y0).set y1).other h12 y2).cell
  · exact ((((((b2.other h02.symm x0).other h12.symm x1).set x2).other h02.symm y0).other h12.symm y1).set y2).cell
  · exact ((((((Below.refl B w).setCell (p := ⟨g, 0, none⟩) hB _).setCell (p := ⟨g + 1, 0, none⟩) (by simp; omega) _).setCell (p := ⟨g + 1 + 1, 0, none⟩) (by simp; omega) _).setCell (p := ⟨g, 0, none⟩) hB _).setCell (p := ⟨g + 1, 0, none⟩) (by simp; omega) _).setCell (p := ⟨g + 1 + 1, 0, none⟩) (by simp; omega) _
theorem start3 (w : World) (t0 t1 t2 : TypeId) (v0 v1 v2 : Value) : Boxed (((w.alloc (.cells #[v0] t0)).alloc (.cells #[v1] t1)).alloc (.cells #[v2] t2)) w.heap.size t0 v0 ∧ Boxed (((w.alloc (.cells #[v0] t0)).alloc (.cells #[v1] t1)).alloc (.cells #[v2] t2)) (w.heap.size + 1) t1 v1 ∧ Boxed (((w.alloc (.cells #[v0] t0)).alloc (.cells #[v1] t1)).alloc (.cells #[v2] t2)) (w.heap.size + 1 + 1) t2 v2 ∧ Below w.heap.size w (((w.alloc (.cells #[v0] t0)).alloc (.cells #[v1] t1)).alloc (.cells #[v2] t2)) := by
  refine ⟨((Boxed.new w _ _).alloc _).alloc _, ?_, ?_, (((Below.refl _ _).alloc (Nat.le_refl _) _).alloc (by simp) _).alloc (by simp; omega) _⟩
  · have := Boxed.new (w.alloc (.cells #[v0] t0)) t1 v1
    rw [World.size_alloc] at this
    exact this.alloc _
  · have := Boxed.new ((w.alloc (.cells #[v0] t0)).alloc (.cells #[v1] t1)) t2 v2
    rw [World.size_alloc, World.size_alloc] at this
    exact this
theorem mGet (p : Nat) (w : World) : (method 488 25 (.pointer (some ⟨p, 0, none⟩)) "Get").run Tryz.prog w = .ok (344, .pointer (some ⟨p, 0, none⟩)) w := by kernel_rfl
set_option maxHeartbeats 4000000 in
theorem aGet_shelf (p : Nat) (key V : List UInt8) (th : Bool) (e : Int) (w : World) (Q : World → Prop)
    (H : ∀ W, Below w.heap.size w W → Calls Tryz.prog 344 #[.pointer (some ⟨p, 0, none⟩), .string (str key)] W fun x W' => x = .returned (.tuple #[.string (str V), .bool th, .int .i64 e]) ∧ Q W' ∧ Upper w.heap.size W W') :
    Calls Tryz.prog 80 #[.iface 25 (.pointer (some ⟨p, 0, none⟩)), .string (str key)] w fun x w' => x = .returned (got V th e) ∧ ∃ W', Q W' ∧ Below w.heap.size W' w' := by
  have hmf : ∀ (fn : Fn) (first cap : Array Value) (w : World), (Instr.makeFunc fn first cap).run Tryz.prog w = .ok (.func fn first cap) w := fun _ _ _ _ => rfl
  have HH := Lib.hid H
  clear H
  have HST := Lib.hid (start3 w 9 4 43 (.string ⟨#[]⟩) (.bool false) (.int .i64 0))
  have hmeth := mGet p
  have HG : Hid (∀ (w1 : World) (y0 y1 y2 x0 x1 x2 u0 u1 u2 : Value) (w2 : World) (tm : Array Value), tm[4]? = some (.pointer (some ⟨w.heap.size, 0, none⟩)) → tm[5]? = some (.pointer (some ⟨w.heap.size + 1, 0, none⟩)) → tm[6]? = some (.pointer (some ⟨w.heap.size + 1 + 1, 0, none⟩)) →
      Boxed w1 w.heap.size 9 u0 → Boxed w1 (w.heap.size + 1) 4 u1 → Boxed w1 (w.heap.size + 1 + 1) 43 u2 → Q w1 → .tuple #[y0, y1, y2] = got V th e →
      (∃ X, X = ((((((w1.setCell ⟨w.heap.size, 0, none⟩ x0).setCell ⟨w.heap.size + 1, 0, none⟩ x1).setCell ⟨w.heap.size + 1 + 1, 0, none⟩ x2).setCell ⟨w.heap.size, 0, none⟩ y0).setCell ⟨w.heap.size + 1, 0, none⟩ y1).setCell ⟨w.heap.size + 1 + 1, 0, none⟩ y2) ∧ (w2 = X ∨ w2 = X.drew)) →
      Leaves Tryz.prog Tryz.f80 tm (fun x w' => x = .returned (got V th e) ∧ ∃ W', Q W' ∧ Below w.heap.size W' w') [] .returning w2) := by
    intro w1 y0 y1 y2 x0 x1 x2 u0 u1 u2 w2 tm ht4 ht5 ht6 b0 b1 b2 hq hg hw
    obtain ⟨X, hX, hw⟩ := hw
    obtain ⟨c0, c1, c2, hb⟩ := sets6 b0 b1 b2 (Nat.le_refl w.heap.size) x0 x1 x2 y0 y1 y2 hX
    clear hX
    obtain ⟨c0, c1, c2, hb2⟩ : w2.cell? ⟨w.heap.size, 0, none⟩ = some y0 ∧ w2.cell? ⟨w.heap.size + 1, 0, none⟩ = some y1 ∧ w2.cell? ⟨w.heap.size + 1 + 1, 0, none⟩ = some y2 ∧ Below w.heap.size w1 w2 := by
      rcases hw with rfl | rfl
      · exact ⟨c0, c1, c2, hb⟩
      · exact ⟨c0, c1, c2, hb.drew⟩
    clear hw hb
    have : (results Tryz.f80 tm).run Tryz.prog w2 = .ok (.tuple #[y0, y1, y2]) w2 := by
      simp [results, Tryz.results80, go_sem, ht4, ht5, ht6, c0, c1, c2]
    exact ⟨_, this, by rw [hg], w1, hq, hb2⟩
  by_cases he : e = 0
  · subst he
    cases th
    all_goals
      go_enter_defers Tryz.func80, Tryz.ntmps80
      go_wp2_with (go_at_call 344; (with_reducible refine (HH.out _ HST.out.2.2.2).mono ?_); rintro e w1 ⟨rfl, hq, hu⟩; have b0 := hu.box HST.out.1 (Nat.le_refl _); have b1 := hu.box HST.out.2.1 (by omega); have b2 := hu.box HST.out.2.2.1 (by omega); have HQ := Lib.hid hq; have c0 := b0.cell; have f0 := b0.frozen; have c1 := b1.cell; have f1 := b1.frozen; have c2 := b2.cell; have f2 := b2.frozen; have HB0 := Lib.hid b0; have HB1 := Lib.hid b1; have HB2 := Lib.hid b2; clear hq hu b0 b1 b2)
      first
        | (refine leaves_cons (f := 174) (args := #[.pointer (some ⟨w.heap.size, 0, none⟩), .pointer (some ⟨w.heap.size + 1, 0, none⟩), .pointer (some ⟨w.heap.size + 1 + 1, 0, none⟩)]) (by simp) (by simp [go_sem]) ?_
           refine (idleGet _ _ _ _).mono ?_
           rintro e u' w'' ⟨rfl, rfl, hw⟩
           exact HG.out _ _ _ _ _ _ _ _ _ _ _ _ rfl rfl rfl HB0.out HB1.out HB2.out HQ.out rfl ⟨_, hw, .inl rfl⟩)
        | (go_region
           go_wp2
           refine leaves_cons (f := 174) (args := #[.pointer (some ⟨w.heap.size, 0, none⟩), .pointer (some ⟨w.heap.size + 1, 0, none⟩), .pointer (some ⟨w.heap.size + 1 + 1, 0, none⟩)]) (by simp) (by simp [go_sem]) ?_
           refine (idleGet _ _ _ _).mono ?_
           rintro e u' w'' ⟨rfl, rfl, hw⟩
           exact HG.out _ _ _ _ _ _ _ _ _ _ _ _ rfl rfl rfl HB0.out HB1.out HB2.out HQ.out rfl ⟨_, rfl, .inr hw⟩)
  · have HE : Hid (got V th e = .tuple #[.string ⟨#[]⟩, .bool false, .int .i64 e]) := by show _ = _; unfold got; rw [if_neg (fun h => he h.1)]; rfl
    go_enter_defers Tryz.func80, Tryz.ntmps80
    go_wp2_with (go_at_call 344; (with_reducible refine (HH.out _ HST.out.2.2.2).mono ?_); rintro e w1 ⟨rfl, hq, hu⟩; have b0 := hu.box HST.out.1 (Nat.le_refl _); have b1 := hu.box HST.out.2.1 (by omega); have b2 := hu.box HST.out.2.2.1 (by omega); have HQ := Lib.hid hq; have c0 := b0.cell; have f0 := b0.frozen; have c1 := b1.cell; have f1 := b1.frozen; have c2 := b2.cell; have f2 := b2.frozen; have HB0 := Lib.hid b0; have HB1 := Lib.hid b1; have HB2 := Lib.hid b2; clear hq hu b0 b1 b2)
    go_region
    go_wp2
    refine leaves_cons (f := 174) (args := #[.pointer (some ⟨w.heap.size, 0, none⟩), .pointer (some ⟨w.heap.size + 1, 0, none⟩), .pointer (some ⟨w.heap.size + 1 + 1, 0, none⟩)]) (by simp) (by simp [go_sem]) ?_
    refine (idleGet _ _ _ _).mono ?_
    rintro e u' w'' ⟨rfl, rfl, hw⟩
    exact HG.out _ _ _ _ _ _ _ _ _ _ _ _ rfl rfl rfl HB0.out HB1.out HB2.out HQ.out HE.out.symm ⟨_, rfl, .inr hw⟩
end Go.Proofs.YtgmneapgihakgaaGreatDoor
/- A shelf: a set of keys, and a map from them to pairs; Get, Put. -/
namespace Go.Proofs.YtgmneapgihakgaaGreatDoor
open Go.RowKit Go.Sort Go.Maps
open Tx (Rise At Ord above)
/-- A pair as a value. -/
def prV (k x : Txt) : Value := .agg #[.string (str k), .string (str x)]
/-- What a shelf's map has. -/
def lookP (ks : List Txt) (f : Txt → Txt) : List UInt8 → Option Value := fun k => if k ∈ ks then some (prV k (f k)) else none
/-- A shelf: its box p, its set's sp, its map's block mb. -/
structure Sh (w : World) (p sp mb B n : Nat) (v : Value) (ks : List Txt) (f : Txt → Txt) : Prop where
  c0 : w.cell? ⟨p, 0, none⟩ = some (.pointer (some ⟨sp, 0, none⟩))
  c1 : w.cell? ⟨p, 1, none⟩ = some (.map (some mb))
  set : SetT w sp B v ks
  map : MapS w mb n (lookP ks f)
  ps : p ≠ sp
  pm : p ≠ mb
  sm : sp ≠ mb
  vp : v.ownBlock ≠ some p
  vm : v.ownBlock ≠ some mb
theorem Sh.below {w w' : World} {p sp mb B n : Nat} {v : Value} {ks : List Txt} {f : Txt → Txt} (h : Sh w p sp mb B n v ks f) (hb : Below w.heap.size w w') : Sh w' p sp mb B n v ks f := by
  have hp := World.block_lt_of_cell? _ _ h.c0
  exact ⟨(hb.cell (p := ⟨p, 0, none⟩) hp).trans h.c0, (hb.cell (p := ⟨p, 1, none⟩) hp).trans h.c1, h.set.below hb, h.map.kept (hb.block _ h.map.lt), h.ps, h.pm, h.sm, h.vp, h.vm⟩
theorem sh_not_nil (w : World) (q : Nat) : (binOp .eql 25 (.pointer (some ⟨q, 0, none⟩)) (.pointer none)).run Tryz.prog w = .ok (.bool false) w := by kernel_rfl
theorem map_not_nil (w : World) (q : Nat) : (binOp .eql 132 (.map (some q)) (.map none)).run Tryz.prog w = .ok (.bool false) w := by kernel_rfl
/-- What a shelf answers of a key. -/
def shV (ks : List Txt) (f : Txt → Txt) (k : Txt) : Txt := if k ∈ ks then f k else []
theorem shGet_any {w : World} {p sp mb B n : Nat} {v : Value} {ks : List Txt} {f : Txt → Txt} (h : Sh w p sp mb B n v ks f) (k : Txt) (hk : k.length ≤ maxLen) :
    Calls Tryz.prog 344 #[.pointer (some ⟨p, 0, none⟩), .string (str k)] w fun e w' => e = .returned (.tuple #[.string (str (shV ks f k)), .bool (decide (k ∈ ks)), .int .i64 0]) ∧ Below w.heap.size w w' := by
  have hl := h.map.lookOk hk
  have c1 := h.c1
  have hn := fun W => sh_not_nil W p
  clear h hk
  by_cases hm : k ∈ ks
  · rw [show lookP ks f k = some (prV k (f k)) from if_pos hm] at hl
    rw [show shV ks f k = f k from if_pos hm, decide_eq_true hm]
    have hl' : (Instr.lookup 132 (.map (some mb)) (.string (str k)) true).run Tryz.prog w = .ok (.tuple #[.agg #[.string (str k), .string (str (f k))], .bool true]) w := hl
    clear hl hm
    go_enter Tryz.func344, Tryz.ntmps344
    go_wp2_with fail
    go_ret3
    exact ⟨rfl, (Below.refl _ _).alloc (Nat.le_refl _) _⟩
  · rw [show lookP ks f k = none from if_neg hm] at hl
    rw [show shV ks f k = [] from if_neg hm, decide_eq_false hm]
    have hl' : (Instr.lookup 132 (.map (some mb)) (.string (str k)) true).run Tryz.prog w = .ok (.tuple #[.agg #[.string ⟨#[]⟩, .string ⟨#[]⟩], .bool false]) w := hl
    clear hl hm
    go_enter Tryz.func344, Tryz.ntmps344
    go_wp2_with fail
    go_ret3
    exact ⟨rfl, (Below.refl _ _).alloc (Nat.le_refl _) _⟩
/-- Of an older world all blocks stay but the set's box, its row, the map. -/
structure ShK (sp mb : Nat) (v : Value) (w w' : World) : Prop where
  size : w.heap.size ≤ w'.heap.size
  os : w'.os = w.os
  tape : w'.tape = w.tape
  output : w'.output = w.output
  keep : ∀ k, k ≠ sp → k ≠ mb → v.ownBlock ≠ some k → k < w.heap.size → w'.heap[k]? = w.heap[k]?
theorem SetK.turned {sp mb B : Nat} {v : Value} {w w1 w2 : World} (h : SetK sp B v w w1) (ht : w1.mapTurned w2 mb) : ShK sp mb v w w2 := by
  obtain ⟨h1, h2, h3, h4, h5⟩ := ht.grown
  exact ⟨Nat.le_trans h.size h4, h1.trans h.os, h2.trans h.tape, h3.trans h.output, fun k a b c d => (h5 k (Nat.lt_of_lt_of_le d h.size) (fun e => b (Option.some.inj e))).trans (h.keep k a c d)⟩
theorem ShK.below {sp mb B : Nat} {v : Value} {w w' : World} (h : ShK sp mb v w w') (hs : B ≤ sp) (hm : B ≤ mb) (hv : ∀ k, v.ownBlock = some k → B ≤ k) (hB : B ≤ w.heap.size) : Below B w w' :=
  ⟨h.os, h.tape, h.output, h.size, fun k hk => h.keep k (by omega) (by omega) (fun e => by have := hv k e; omega) (by omega)⟩
/-- What is there with one pair more. -/
theorem look_put {ks l' : List Txt} {f : Txt → Txt} {k x : Txt} (ha : addS ks k l') : ∀ j, updS (lookP ks f) k (some (prV k x)) j = lookP l' (fun j => if j = k then x else f j) j := fun j => by
  unfold lookP
  by_cases h : j = k
  · subst h
    rw [updS_same, if_pos ((ha.2.1 j).2 (.inl rfl))]; simp
  · rw [updS_other _ _ _ h]
    simp only [h, if_false]
    by_cases hj : j ∈ ks
    · rw [if_pos hj, if_pos ((ha.2.1 j).2 (.inr hj))]
    · rw [if_neg hj, if_neg (fun hm => by rcases (ha.2.1 j).1 hm with e | e; exact h e; exact hj e)]
theorem SetT.kept {w w' : World} {p B : Nat} {v : Value} {l : List Txt} (h : SetT w p B v l) (hp : w'.heap[p]? = w.heap[p]?) (hv : ∀ g, v.ownBlock = some g → w'.heap[g]? = w.heap[g]?) : SetT w' p B v l :=
  ⟨(cell_same hp 0).trans h.c0, (frozen_same hp 0).trans h.f0, h.row.keep hv, h.rise, h.ne⟩
set_option maxHeartbeats 4000000 in
theorem shPut_any {w : World} {p sp mb B n : Nat} {v : Value} {ks : List Txt} {f : Txt → Txt} (h : Sh w p sp mb B n v ks f) (hl : ks.length ≤ 90000) (hB : B ≤ w.heap.size) (hn : n < maxLen) (k x : Txt) (hk : k.length ≤ 255) (hx : x.length ≤ 65536) :
    Calls Tryz.prog 38 #[.pointer (some ⟨p, 0, none⟩), .string (str k), .string (str x)] w fun e w' => e = .returned (.int .i64 0) ∧ ∃ v' ks', Sh w' p sp mb B (n + 1) v' ks' (fun j => if j = k then x else f j) ∧ addS ks k ks' ∧ ShK sp mb v w w' ∧ (v'.ownBlock = v.ownBlock ∨ ∃ g, v'.ownBlock = some g ∧ w.heap.size ≤ g) := by
  have HS := Lib.hid h
  have c0 := h.c0
  have c1 := h.c1
  have hpl := World.block_lt_of_cell? _ _ c0
  have hn1 := fun W => sh_not_nil W p
  have hn2 := fun W => map_not_nil W mb
  have HA := Lib.hid (sxAdd_any h.set hl hB k)
  have hz1 : (str k).size = k.length := rfl
  have hz2 : (str x).size = x.length := rfl
  have h1 : ¬ (255 : Int) < (k.length : Int) := by omega
  have h2 : ¬ (65536 : Int) < (x.length : Int) := by omega
  have HPL := Lib.hid hpl
  clear h hpl
  go_enter Tryz.func38, Tryz.ntmps38
  go_upto_region 8 with (go_at_call 86; (with_reducible refine HA.out.mono ?_); rintro e w1 ⟨⟨b1, rfl⟩, v1, l1, hs1, ha1, hk1, ho1⟩; have HS1 := Lib.hid hs1; have HA1 := Lib.hid ha1; have HK1 := Lib.hid hk1; have HO1 := Lib.hid ho1; clear hs1 ha1 hk1 ho1)
  have hkp := HK1.out.keep p HS.out.ps HS.out.vp HPL.out
  have hkm := HK1.out.keep mb HS.out.sm.symm HS.out.vm HS.out.map.lt
  have d1 := (cell_same hkp 1).trans HS.out.c1
  obtain ⟨w2, hst, hm2, ht2⟩ := (HS.out.map.kept hkm).store (k := k) (by unfold maxLen; omega) hn (prV k x)
  have hst' : (Instr.mapUpdate 132 (.map (some mb)) (.string (str k)) (.agg #[.string (str k), .string (str x)])).run Tryz.prog w1 = .ok () w2 := hst
  have HM2 := Lib.hid hm2
  have HT2 := Lib.hid ht2
  clear hst hm2 ht2 hkp hkm
  go_wp2
  go_ret
  refine ⟨rfl, v1, l1, ?_, HA1.out, HK1.out.turned HT2.out, HO1.out⟩
  have hB2 : ∀ q, q ≠ mb → q < w1.heap.size → w2.heap[q]? = w1.heap[q]? := fun q hq hlt => by
    obtain ⟨_, _, _, _, h5⟩ := HT2.out.grown
    exact h5 q hlt (fun e => hq (Option.some.inj e))
  have sp1 := World.block_lt_of_cell? _ _ HS1.out.c0
  have p1 := World.block_lt_of_cell? _ _ d1
  have hvne : ∀ q, q < w.heap.size → v.ownBlock ≠ some q → v1.ownBlock ≠ some q := fun q hq hne e => by
    rcases HO1.out with ho | ⟨g, hg, hgs⟩
    · exact hne (ho ▸ e)
    · rw [hg] at e; cases e; omega
  have kp := hB2 p HS.out.pm p1
  refine ⟨(cell_same kp 0).trans ((cell_same (HK1.out.keep p HS.out.ps HS.out.vp HPL.out) 0).trans HS.out.c0), (cell_same kp 1).trans d1, HS1.out.kept (hB2 sp HS.out.sm sp1) (fun g hg => hB2 g (fun e => ?_) (HS1.out.row.lt hg).1), HM2.out.same (look_put HA1.out), HS.out.ps, HS.out.pm, HS.out.sm, hvne p HPL.out HS.out.vp, hvne mb HS.out.map.lt HS.out.vm⟩
  subst e
  exact hvne _ HS.out.map.lt HS.out.vm hg
end Go.Proofs.YtgmneapgihakgaaGreatDoor
/- Rows that are gone through one by one, whoever goes through them writing into blocks of their own: who may write what; a range over such a row. -/
namespace Go.Proofs.YtgmneapgihakgaaGreatDoor
open Go.RowKit
/-- Of an older world all blocks of a set are as they were. -/
structure Stays (C : Nat → Prop) (X Y : World) : Prop where
  os : Y.os = X.os
  tape : Y.tape = X.tape
  output : Y.output = X.output
  size : X.heap.size ≤ Y.heap.size
  same : ∀ k, C k → k < X.heap.size → Y.heap[k]? = X.heap[k]?
theorem Stays.refl (C : Nat → Prop) (X : World) : Stays C X X := ⟨rfl, rfl, rfl, Nat.le_refl _, fun _ _ _ => rfl⟩
theorem Stays.trans {C : Nat → Prop} {X Y Z : World} (h : Stays C X Y) (k : Stays C Y Z) : Stays C X Z :=
  ⟨k.os.trans h.os, k.tape.trans h.tape, k.output.trans h.output, Nat.le_trans h.size k.size, fun i hi hl => (k.same i hi (Nat.lt_of_lt_of_le hl h.size)).trans (h.same i hi hl)⟩
theorem Stays.sub {C C' : Nat → Prop} {X Y : World} (h : Stays C X Y) (hc : ∀ k, C' k → k < X.heap.size → C k) : Stays C' X Y := ⟨h.os, h.tape, h.output, h.size, fun k hk hl => h.same k (hc k hk hl) hl⟩
theorem Stays.drewN (C : Nat → Prop) (X : World) (q : Nat) : Stays C X (X.drewN q) := ⟨rfl, rfl, rfl, Nat.le_refl _, fun _ _ _ => rfl⟩
theorem Stays.below {C : Nat → Prop} {X Y : World} (h : Below X.heap.size X Y) : Stays C X Y := ⟨h.os, h.tape, h.output, h.size, fun k _ hl => h.block k hl⟩
theorem Stays.put {C : Nat → Prop} (X : World) (l : Nat) (o : Obj) (h : ¬ C l) : Stays C X (X.putObj l o) := ⟨rfl, rfl, rfl, by simp, fun k hk _ => World.putObj_heap_other (fun e => h (e ▸ hk))⟩
theorem Stays.alloc {C : Nat → Prop} (X : World) (o : Obj) : Stays C X (X.alloc o) := Stays.below ((Below.refl _ _).alloc (Nat.le_refl _) _)
theorem Stays.set {C : Nat → Prop} (X : World) (g i : Nat) (v : Value) (h : ¬ C g) : Stays C X (X.setCell ⟨g, i, none⟩ v) :=
  ⟨((Below.refl 0 X).setCell (Nat.zero_le _) v).os, rfl, ((Below.refl 0 X).setCell (Nat.zero_le _) v).output, by simp, fun k hk _ => RowKit.Below.heap_setCell X ⟨g, i, none⟩ v k (fun e => h (by have e2 : k = g := e; exact e2 ▸ hk))⟩
theorem Stays.boxed {C : Nat → Prop} {X Y : World} (h : Stays C X Y) {g : Nat} {t : TypeId} {v : Value} (hb : Boxed X g t v) (hg : C g) : Boxed Y g t v := (h.same g hg hb.lt).trans hb
/-- What a round leaves: more blocks of one's own, the others as they were. -/
structure Went (M M' : Nat → Prop) (X Y : World) : Prop where
  grow : ∀ k, M' k → M k ∨ X.heap.size ≤ k
  stays : Stays (fun k => ¬ M k) X Y
theorem Went.refl (M : Nat → Prop) (X : World) : Went M M X X := ⟨fun _ h => .inl h, Stays.refl _ _⟩
theorem Went.trans {M M' M'' : Nat → Prop} {X Y Z : World} (h : Went M M' X Y) (k : Went M' M'' Y Z) : Went M M'' X Z :=
  ⟨fun i hi => (k.grow i hi).elim (fun h1 => h.grow i h1) (fun h2 => .inr (Nat.le_trans h.stays.size h2)), ⟨k.stays.os.trans h.stays.os, k.stays.tape.trans h.stays.tape, k.stays.output.trans h.stays.output, Nat.le_trans h.stays.size k.stays.size, fun i hi hl => (k.stays.same i (fun hm => (h.grow i hm).elim hi (fun hx => absurd hl (Nat.not_lt.2 hx))) (Nat.lt_of_lt_of_le hl h.stays.size)).trans (h.stays.same i hi hl)⟩⟩
/-- A row, gone through by whoever writes but into blocks of their own. -/
def SeqF {α : Type} (encs : α → Array Value) (n : Nat) (g : Nat) (lb : Array Value) (G : World → Prop) (E : List α) : Prop :=
  ∀ (l : Nat) (J X : List α → (Nat → Prop) → World → Prop) (W : World) (M0 : Nat → Prop),
    (∀ pre M A B, J pre M A → Stays (fun k => M k ∨ k < W.heap.size) A B → J pre M B) →
    (∀ pre M A B, X pre M A → Stays (fun k => M k ∨ k < W.heap.size) A B → X pre M B) →
    (∀ pre M A, J pre M A → G A) →
    (∀ pre x M A, J pre M A → pre ++ [x] <+: E → YieldAt WF (n - 1) Tryz.prog l (encs x) A fun e A' => ∃ M', Went M M' A A' ∧ ((e = .returned (.bool true) ∧ J (pre ++ [x]) M' A') ∨ (e = .returned (.bool false) ∧ X (pre ++ [x]) M' A'))) →
    J [] M0 W → (∀ k, M0 k → k < W.heap.size) →
    CallsIn WF n Tryz.prog g (#[.func (.yield l) #[] #[]] ++ lb) W fun e W' => (∃ v, e = .returned v) ∧ Stays (fun k => ¬ M0 k) W W' ∧ ∃ M', (∀ k, M' k → M0 k ∨ W.heap.size ≤ k) ∧ (J E M' W' ∨ ∃ pre, X pre M' W')
/-- How a round's body may be left. -/
def goesF {α : Type} (I X : List α → (Nat → Prop) → World → Prop) (xs : List α) (M : Nat → Prop) (W : World) : Exit → Act → World → Prop
  | .normal, _, W' => ∃ M', Went M M' W W' ∧ I xs M' W'
  | .ret, _, W' => ∃ M', Went M M' W W' ∧ X xs M' W'
  | _, _, _ => False
/-- A round's yield goes into another round as it is. -/
theorem roundIn_any {m m' l l' : Nat} {f : FuncId} {tmps : Array Value} {assign body : Code} {w : World} {R : Ending → World → Prop} (h : RoundIn WF m Tryz.prog l f tmps assign body w R) : RoundIn (WF.inRound l') m' Tryz.prog l f tmps assign body w R :=
  ⟨h.1, fun c cs _ => h.2 c cs (fun d hd => by cases hd)⟩
set_option maxHeartbeats 4000000 in
/-- A range over a row whose body goes on or returns, and writes into blocks of its own. -/
theorem rangeF {α : Type} {encs : α → Array Value} {n : Nat} {g : Operand} {ps : Array Tmp} {assign body : Code} {Q : Exit → Act → World → Prop} {a : Act} {w : World} (h1 : 1 ≤ n) {gf : Nat} {lb : Array Value}
    (hg : a.eval g = .func (.func gf) #[] lb) (eg : ∀ args w, (callFunc gf args).run Tryz.prog w = .ok (.enter gf args) w) {G : World → Prop} {E : List α} (hseq : SeqF encs (n - 1) gf lb G E) (hps : ∀ x, (encs x).size = ps.size)
    (I X : List α → (Nat → Prop) → World → Prop) (M0 : Nat → Prop) (hM0 : ∀ k, M0 k → k < w.heap.size)
    (hI : ∀ pre M A B, I pre M A → Stays (fun k => M k ∨ k < w.heap.size) A B → I pre M B) (hX : ∀ pre M A B, X pre M A → Stays (fun k => M k ∨ k < w.heap.size) A B → X pre M B)
    (hIG : ∀ pre M A, I pre M A → G A) (h0 : I [] M0 w) (a₁ : α → Act)
    (hassign : ∀ (l : Nat) (x : α) (W : World) (K : Act → World → Prop), K (a₁ x) W →
      assign.wpIn (WF.inRound l) (n - 1 - 1) Tryz.prog (Exit.then K (fun _ _ _ => False)) { tmps := (ps.zip (encs x)).foldl (fun t (p, v) => t.setIfInBounds p v) a.tmps, defers := [] } W)
    (hbody : ∀ (l : Nat) (pre : List α) (x : α) (M : Nat → Prop) (W : World), I pre M W → w.heap.size ≤ W.heap.size → pre ++ [x] <+: E → body.wpIn (WF.inRound l) (n - 1 - 1) Tryz.prog (goesF I X (pre ++ [x]) M W) (a₁ x) W)
    (hdone : ∀ (D : Nat) (M : Nat → Prop) (W : World), w.heap.size ≤ D → ¬ M D → I E M W → Stays (fun k => ¬ M0 k) w W → (∀ k, M k → M0 k ∨ w.heap.size ≤ k) → W.heap[D]? = some (.deferred (some [])) → Q .normal { a with defers := { target := .collected D, args := #[] } :: a.defers } W)
    (hstop : ∀ (D : Nat) (pre : List α) (M : Nat → Prop) (W : World), w.heap.size ≤ D → ¬ M D → X pre M W → Stays (fun k => ¬ M0 k) w W → (∀ k, M k → M0 k ∨ w.heap.size ≤ k) → W.heap[D]? = some (.deferred (some [])) → (Code.ret).wpIn WF n Tryz.prog Q { a with defers := { target := .collected D, args := #[] } :: a.defers } W) :
    (Code.rangeFunc g ps assign body).wpIn WF n Tryz.prog Q a w := by
  refine wpIn_rangeFunc (fun fn hfn => ?_)
  rw [show WF.round = none from rfl]
  obtain ⟨lp, hlp⟩ : ∃ lp : LoopState → Option Code → Loop, lp = fun st pe => { state := st, pending := pe, fn, tmps := a.tmps, params := ps, assign, body, defers := w.heap.size } := ⟨_, rfl⟩
  obtain ⟨X0, hX0⟩ : ∃ X0, X0 = (w.alloc (.deferred (some []))).alloc (.loop (lp .ready none)) := ⟨_, rfl⟩
  have xl : X0.heap[w.heap.size + 1]? = some (.loop (lp .ready none)) := by
    rw [hX0]; have := heap_alloc_new (w.alloc (.deferred (some []))) (.loop (lp .ready none)); rwa [World.size_alloc] at this
  have xd : X0.heap[w.heap.size]? = some (.deferred (some [])) := by
    rw [hX0]; exact (Below.heap_alloc _ _ _ (by simp)).trans (heap_alloc_new w _)
  have xs : X0.heap.size = w.heap.size + 2 := by rw [hX0]; simp
  have xb : Below w.heap.size w X0 := by rw [hX0]; exact ((Below.refl _ _).alloc (Nat.le_refl _) _).alloc (by simp) _
  have xi : I [] M0 X0 := hI _ _ _ _ h0 (Stays.below xb)
  refine ⟨w.heap.size + 1, [{ target := .collected w.heap.size, args := #[] }], X0, { target := .fn (.func gf) lb, args := #[.func (.yield (w.heap.size + 1)) #[] #[]] }, X0, gf, #[.func (.yield (w.heap.size + 1)) #[] #[]] ++ lb, X0, ?_, ?_, fun _ _ => trivial, ?_, fun _ => h1, ?_⟩
  · rw [hX0, hlp]; exact run_enterLoop_outer _ _ _ _ _
  · simp only [resolve, hg]
    simp [go_sem]
  · simp [invoke, go_sem, eg]
  · -- a set of blocks without the record's two; with them
    let Mj : (Nat → Prop) → Nat → Prop := fun M k => M k ∨ k = w.heap.size ∨ k = w.heap.size + 1
    refine (hseq (w.heap.size + 1)
      (fun pre N A => ∃ M, (∀ k, N k ↔ Mj M k) ∧ I pre M A ∧ ¬ M w.heap.size ∧ ¬ M (w.heap.size + 1) ∧ A.heap[w.heap.size + 1]? = some (.loop (lp .ready none)) ∧ A.heap[w.heap.size]? = some (.deferred (some [])))
      (fun pre N A => ∃ M, (∀ k, N k ↔ Mj M k) ∧ X pre M A ∧ ¬ M w.heap.size ∧ ¬ M (w.heap.size + 1) ∧ A.heap[w.heap.size + 1]? = some (.loop (lp .done (some .ret))) ∧ A.heap[w.heap.size]? = some (.deferred (some [])))
      X0 (Mj M0) ?_ ?_ ?_ ?_ ⟨M0, fun _ => Iff.rfl, xi, fun h => Nat.lt_irrefl _ (hM0 _ h), fun h => by have := hM0 _ h; omega, xl, xd⟩ ?_).mono ?_
    · rintro pre N A B ⟨M, hN, hi, n1, n2, hl, hd⟩ hs
      have lt1 := (Array.getElem?_eq_some_iff.1 hl).1
      have lt0 := (Array.getElem?_eq_some_iff.1 hd).1
      exact ⟨M, hN, hI _ _ _ _ hi (hs.sub (fun k hk _ => hk.elim (fun h => .inl ((hN k).2 (.inl h))) (fun h => .inr (by omega)))), n1, n2, (hs.same _ (.inl ((hN _).2 (.inr (.inr rfl)))) lt1).trans hl, (hs.same _ (.inl ((hN _).2 (.inr (.inl rfl)))) lt0).trans hd⟩
    · rintro pre N A B ⟨M, hN, hi, n1, n2, hl, hd⟩ hs
      have lt1 := (Array.getElem?_eq_some_iff.1 hl).1
      have lt0 := (Array.getElem?_eq_some_iff.1 hd).1
      exact ⟨M, hN, hX _ _ _ _ hi (hs.sub (fun k hk _ => hk.elim (fun h => .inl ((hN k).2 (.inl h))) (fun h => .inr (by omega)))), n1, n2, (hs.same _ (.inl ((hN _).2 (.inr (.inr rfl)))) lt1).trans hl, (hs.same _ (.inl ((hN _).2 (.inr (.inl rfl)))) lt0).trans hd⟩
    · rintro pre N A ⟨M, _, hi, _⟩
      exact hIG _ _ _ hi
    · rintro pre x N A ⟨M, hN, hi, n1, n2, hl, hd⟩ hpre
      have lt1 := (Array.getElem?_eq_some_iff.1 hl).1
      have lt0 := (Array.getElem?_eq_some_iff.1 hd).1
      have hy := run_yield (P := Tryz.prog) (args := encs x) hl (by rw [hlp]; exact hps x)
      rw [hlp] at hy
      refine ⟨fn, _, assign, body, hy, roundIn_of_wpIn hfn (hassign _ x A _ ⟨_, run_beginRound hl (by rw [hlp]), ?_⟩)⟩
      obtain ⟨W2, hW2⟩ : ∃ W2, W2 = A.putObj (w.heap.size + 1) (.loop { lp .ready none with state := .busy }) := ⟨_, rfl⟩
      have hl2 : W2.heap[w.heap.size + 1]? = some (.loop { lp .ready none with state := .busy }) := by rw [hW2]; exact World.putObj_heap_same lt1
      have hd2 : W2.heap[w.heap.size]? = some (.deferred (some [])) := by rw [hW2]; exact (World.putObj_heap_other (by omega)).trans hd
      have sz2 : W2.heap.size = A.heap.size := by rw [hW2]; simp
      have s2 : ∀ C : Nat → Prop, ¬ C (w.heap.size + 1) → Stays C A W2 := fun C hC => by rw [hW2]; exact Stays.put _ _ _ hC
      have hi2 : I pre M W2 := hI _ _ _ _ hi (s2 _ (fun h => h.elim n2 (fun h => by omega)))
      rw [← hW2]
      refine wpIn_mono (hbody _ pre x M W2 hi2 (by omega) hpre) ?_
      -- behind the body
      have fin : ∀ (jump : Option Code) (M' : Nat → Prop) (W3 : World), Went M M' W2 W3 →
          (Instr.endRound (w.heap.size + 1) jump).run Tryz.prog W3 = .ok (.bool jump.isNone) (W3.putObj (w.heap.size + 1) (.loop (lp (if jump.isNone then .ready else .done) jump))) ∧
          ¬ M' w.heap.size ∧ ¬ M' (w.heap.size + 1) ∧ Stays (fun k => M' k ∨ k < w.heap.size) W3 (W3.putObj (w.heap.size + 1) (.loop (lp (if jump.isNone then .ready else .done) jump))) ∧
          (W3.putObj (w.heap.size + 1) (.loop (lp (if jump.isNone then .ready else .done) jump))).heap[w.heap.size + 1]? = some (.loop (lp (if jump.isNone then .ready else .done) jump)) ∧
          (W3.putObj (w.heap.size + 1) (.loop (lp (if jump.isNone then .ready else .done) jump))).heap[w.heap.size]? = some (.deferred (some [])) ∧
          Went N (Mj M') A (W3.putObj (w.heap.size + 1) (.loop (lp (if jump.isNone then .ready else .done) jump))) := fun jump M' W3 hw => by
        have m1 : ¬ M' w.heap.size := fun h => (hw.grow _ h).elim n1 (fun h => by omega)
        have m2 : ¬ M' (w.heap.size + 1) := fun h => (hw.grow _ h).elim n2 (fun h => by omega)
        have hl3 : W3.heap[w.heap.size + 1]? = some (.loop { lp .ready none with state := .busy }) := (hw.stays.same _ n2 (by omega)).trans hl2
        have hd3 : W3.heap[w.heap.size]? = some (.deferred (some [])) := (hw.stays.same _ n1 (by omega)).trans hd2
        have he := run_endRound (P := Tryz.prog) jump hl3
        rw [hlp] at he ⊢
        refine ⟨he, m1, m2, Stays.put _ _ _ (fun h => h.elim m2 (fun h => by omega)), World.putObj_heap_same (Array.getElem?_eq_some_iff.1 hl3).1, (World.putObj_heap_other (by omega)).trans hd3, ⟨fun k hk => ?_, ?_⟩⟩
        · rcases hk with hk | hk
          · exact (hw.grow k hk).elim (fun h => .inl ((hN k).2 (.inl h))) (fun h => .inr (by omega))
          · exact .inl ((hN k).2 (.inr hk))
        · have nN : ¬ ¬ N (w.heap.size + 1) := fun h => h ((hN _).2 (.inr (.inr rfl)))
          exact ((s2 _ nN).trans (hw.stays.sub (fun k hk _ hm => hk ((hN k).2 (.inl hm))))).trans (Stays.put _ _ _ nN)
      rintro e a3 W3 hp
      cases e with
      | normal =>
        obtain ⟨M', hw, hi3⟩ := hp
        obtain ⟨he, m1, m2, hs, g1, g2, hW⟩ := fin none M' W3 hw
        exact ⟨_, _, he, Mj M', hW, .inl ⟨rfl, M', fun _ => Iff.rfl, hI _ _ _ _ hi3 hs, m1, m2, g1, g2⟩⟩
      | ret =>
        obtain ⟨M', hw, hi3⟩ := hp
        obtain ⟨he, m1, m2, hs, g1, g2, hW⟩ := fin (some .ret) M' W3 hw
        exact ⟨_, _, he, Mj M', hW, .inr ⟨rfl, M', fun _ => Iff.rfl, hX _ _ _ _ hi3 hs, m1, m2, g1, g2⟩⟩
      | _ => exact hp.elim
    · intro k hk
      rcases hk with hk | hk | hk
      · have := hM0 k hk; omega
      · omega
      · omega
    · rintro e W2 ⟨⟨v, rfl⟩, hst, N, hgr, (⟨M, hN, hi, n1, n2, hl, hd⟩ | ⟨pre, M, hN, hi, n1, n2, hl, hd⟩)⟩
      · have lt1 := (Array.getElem?_eq_some_iff.1 hl).1
        have hfin : ∀ o, Stays (fun k => M k ∨ k < w.heap.size) W2 (W2.putObj (w.heap.size + 1) o) := fun o => Stays.put _ _ _ (fun h => h.elim n2 (fun h => by omega))
        have hall : ∀ o, Stays (fun k => ¬ M0 k) w (W2.putObj (w.heap.size + 1) o) := fun o =>
          ⟨hst.os.trans xb.os, hst.tape.trans xb.tape, hst.output.trans xb.output, by have := hst.size; simp; omega, fun k hk hlt => (World.putObj_heap_other (by omega)).trans ((hst.same k (fun hm => hm.elim hk (fun h => by omega)) (by omega)).trans (xb.block k hlt))⟩
        exact ⟨none, _, by have := run_endLoop (P := Tryz.prog) hl (by rw [hlp]; simp); rw [hlp] at this; exact this, hdone _ M _ (Nat.le_refl _) n1 (hI _ _ _ _ hi (hfin _)) (hall _) (fun k hk => (hgr k ((hN k).2 (.inl hk))).elim (fun h => h.elim .inl (fun h => .inr (by omega))) (fun h => .inr (by omega))) ((World.putObj_heap_other (by omega)).trans hd)⟩
      · have lt1 := (Array.getElem?_eq_some_iff.1 hl).1
        have hfin : ∀ o, Stays (fun k => M k ∨ k < w.heap.size) W2 (W2.putObj (w.heap.size + 1) o) := fun o => Stays.put _ _ _ (fun h => h.elim n2 (fun h => by omega))
        have hall : ∀ o, Stays (fun k => ¬ M0 k) w (W2.putObj (w.heap.size + 1) o) := fun o =>
          ⟨hst.os.trans xb.os, hst.tape.trans xb.tape, hst.output.trans xb.output, by have := hst.size; simp; omega, fun k hk hlt => (World.putObj_heap_other (by omega)).trans ((hst.same k (fun hm => hm.elim hk (fun h => by omega)) (by omega)).trans (xb.block k hlt))⟩
        exact ⟨some .ret, _, by have := run_endLoop (P := Tryz.prog) hl (by rw [hlp]; simp); rw [hlp] at this; exact this, hstop _ pre M _ (Nat.le_refl _) n1 (hX _ _ _ _ hi (hfin _)) (hall _) (fun k hk => (hgr k ((hN k).2 (.inl hk))).elim (fun h => h.elim .inl (fun h => .inr (by omega))) (fun h => .inr (by omega))) ((World.putObj_heap_other (by omega)).trans hd)⟩
end Go.Proofs.YtgmneapgihakgaaGreatDoor
