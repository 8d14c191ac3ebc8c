/- Records: a queue, a message, a number: what they are in memory and as bytes; the contracts of what lays them. -/
import Derived.Test.YtfoijhofpjaldaaMod
import Derived.Test.YtfoijhofpjaldaaWrites
import Derived.Laws.EntriesVeiled
import Derived.BigQuiet
import Derived.Deep.QuietTactic
import Derived.Deep.RegionHeld3
set_option maxRecDepth 100000
set_option maxHeartbeats 4000000
set_option linter.unusedVariables false
namespace Go.Proofs.Ytfoijhofpjaldaa
open Go.RowKit
structure Qu where
  nm : ByteArray
  most : Nat
  ttl : Nat
  tries : Nat
  dead : ByteArray
structure Ms where
  qu : ByteArray
  id : Nat
  tries : Nat
  expiry : Nat
  body : ByteArray
def Qu.ok (q : Qu) : Prop := q.most < 4294967296 ∧ q.ttl < 18446744073709551616 ∧ q.tries < 4294967296 ∧ q.dead.size < 100000
def Ms.ok (m : Ms) : Prop := m.tries < 4294967296 ∧ m.expiry < 18446744073709551616 ∧ m.body.size < 100000
def aggQ (q : Qu) : Value := .agg #[.string q.nm, .int .u32 q.most, .int .u64 q.ttl, .int .u32 q.tries, .string q.dead]
def aggM (m : Ms) : Value := .agg #[.string m.qu, .int .u64 m.id, .int .u32 m.tries, .int .u64 m.expiry, .string m.body]
def encQ (q : Qu) : List UInt8 := Oc.big 4 q.most ++ (Oc.big 8 q.ttl ++ (Oc.big 4 q.tries ++ (Oc.big 4 q.dead.size ++ q.dead.data.toList)))
def encM (m : Ms) : List UInt8 := Oc.big 4 m.tries ++ (Oc.big 8 m.expiry ++ (Oc.big 4 m.body.size ++ m.body.data.toList))
theorem below_off {w w1 : World} {o : Obj} (h : Below (w.alloc o).drew.heap.size (w.alloc o).drew w1) : Below w.heap.size w w1 :=
  (((Below.refl _ _).alloc (Nat.le_refl _) o).drew).trans (h.mono (by show w.heap.size ≤ (w.alloc o).heap.size; simp))
/-- The fields of a box of five cells, and that nothing else of old has turned. -/
theorem In5.step {w w1 w2 : World} {g : Nat} {x0 x1 x2 x3 x4 : Value} (h : w1.cell? ⟨g, 0, none⟩ = some x0 ∧ w1.cell? ⟨g, 1, none⟩ = some x1 ∧ w1.cell? ⟨g, 2, none⟩ = some x2 ∧ w1.cell? ⟨g, 3, none⟩ = some x3 ∧ w1.cell? ⟨g, 4, none⟩ = some x4 ∧ Below g w w1) (hb : Below w1.heap.size w1 w2) :
    w2.cell? ⟨g, 0, none⟩ = some x0 ∧ w2.cell? ⟨g, 1, none⟩ = some x1 ∧ w2.cell? ⟨g, 2, none⟩ = some x2 ∧ w2.cell? ⟨g, 3, none⟩ = some x3 ∧ w2.cell? ⟨g, 4, none⟩ = some x4 ∧ Below g w w2 := by
  obtain ⟨h0, h1, h2, h3, h4, h5⟩ := h
  have hlt := World.block_lt_of_cell? _ _ h0
  exact ⟨(hb.cell (p := ⟨g, 0, none⟩) hlt).trans h0, (hb.cell (p := ⟨g, 1, none⟩) hlt).trans h1, (hb.cell (p := ⟨g, 2, none⟩) hlt).trans h2, (hb.cell (p := ⟨g, 3, none⟩) hlt).trans h3, (hb.cell (p := ⟨g, 4, none⟩) hlt).trans h4, h5.trans (hb.mono (Nat.le_of_lt hlt))⟩
theorem In5.first (w : World) (x0 x1 x2 x3 x4 : Value) (T : TypeId) :
    (w.alloc (.cells #[x0, x1, x2, x3, x4] T)).drew.cell? ⟨w.heap.size, 0, none⟩ = some x0 ∧ (w.alloc (.cells #[x0, x1, x2, x3, x4] T)).drew.cell? ⟨w.heap.size, 1, none⟩ = some x1 ∧ (w.alloc (.cells #[x0, x1, x2, x3, x4] T)).drew.cell? ⟨w.heap.size, 2, none⟩ = some x2 ∧ (w.alloc (.cells #[x0, x1, x2, x3, x4] T)).drew.cell? ⟨w.heap.size, 3, none⟩ = some x3 ∧ (w.alloc (.cells #[x0, x1, x2, x3, x4] T)).drew.cell? ⟨w.heap.size, 4, none⟩ = some x4 ∧ Below w.heap.size w (w.alloc (.cells #[x0, x1, x2, x3, x4] T)).drew :=
  ⟨by simp, by simp, by simp, by simp, by simp, ((Below.refl _ _).alloc (Nat.le_refl _) _).drew⟩
theorem textz (s : ByteArray) : (str (Oc.big 4 s.size ++ s.data.toList)).size = 4 + s.size := by rw [str_size, List.length_append, Oc.big_length]; simp
theorem putQ_any (q : Qu) (hq : q.ok) (w : World) :
    Calls Try.prog 30 #[aggQ q] w fun e w' => e = .returned (.string (str (encQ q))) ∧ Below w.heap.size w w' := by
  obtain ⟨nm, a, b, c, s⟩ := q
  obtain ⟨ha, hb, hc, hs⟩ := hq
  simp only at ha hb hc hs
  have hz := big_size
  have hzt := textz s
  have hs4 : s.size < 4294967296 := by omega
  have hq1 : ¬ 9223372036854775807 < 16 + (4 + s.size) := by omega
  have HA := Lib.hid (fun W => four_at a a rfl ha W)
  have HB := Lib.hid (fun W => eight_at b b rfl hb W)
  have HC := Lib.hid (fun W => four_at c c rfl hc W)
  have HS := Lib.hid (fun W => text_at s hs4 W)
  have H : Hid (str (Oc.big 4 a) ++ str (Oc.big 8 b) ++ str (Oc.big 4 c) ++ str (Oc.big 4 s.size ++ s.data.toList) = str (encQ ⟨nm, a, b, c, s⟩)) := by
    show _ = _
    rw [str_append, str_append, str_append]; simp only [List.append_assoc]; rfl
  unfold aggQ
  clear ha hb hc hs4
  revert H HS
  generalize encQ ⟨nm, a, b, c, s⟩ = ex
  intro HS H
  go_enter Try.func30, Try.ntmps30
  go_wp2_with fail
  go_region_held3 (fun w' => w'.cell? ⟨w.heap.size, 0, none⟩ = some (.string nm) ∧ w'.cell? ⟨w.heap.size, 1, none⟩ = some (.int .u32 a) ∧ w'.cell? ⟨w.heap.size, 2, none⟩ = some (.int .u64 b) ∧ w'.cell? ⟨w.heap.size, 3, none⟩ = some (.int .u32 c) ∧ w'.cell? ⟨w.heap.size, 4, none⟩ = some (.string s) ∧ Below w.heap.size w w')
    ((first | assumption | exact In5.step ‹_› hb | exact In5.first _ _ _ _ _ _ _))
    (first
    | (go_at_call 31; with_reducible refine (HA.out _).mono ?_; rintro e w1 ⟨rfl, hb⟩)
    | (go_at_call 32; refine (HB.out _).mono ?_; rintro e w1 ⟨rfl, hb⟩)
    | (go_at_call 31; with_reducible refine (HC.out _).mono ?_; rintro e w2 ⟨rfl, hb⟩)
    | (go_at_call 33; refine (HS.out _).mono ?_; rintro e w2 ⟨rfl, hb⟩))
  rename_i hS
  obtain ⟨_, _, _, _, _, hB⟩ := hS
  go_wp2
  go_ret
  exact ⟨ret_string H.out, hB⟩
theorem putM_any (m : Ms) (hq : m.ok) (w : World) :
    Calls Try.prog 41 #[aggM m] w fun e w' => e = .returned (.string (str (encM m))) ∧ Below w.heap.size w w' := by
  obtain ⟨nm, i, a, b, s⟩ := m
  obtain ⟨ha, hb, hs⟩ := hq
  simp only at ha hb hs
  have hz := big_size
  have hzt := textz s
  have hs4 : s.size < 4294967296 := by omega
  have hq1 : ¬ 9223372036854775807 < 12 + (4 + s.size) := by omega
  have HA := Lib.hid (fun W => four_at a a rfl ha W)
  have HB := Lib.hid (fun W => eight_at b b rfl hb W)
  have HS := Lib.hid (fun W => text_at s hs4 W)
  have H : Hid (str (Oc.big 4 a) ++ str (Oc.big 8 b) ++ str (Oc.big 4 s.size ++ s.data.toList) = str (encM ⟨nm, i, a, b, s⟩)) := by
    show _ = _
    rw [str_append, str_append]; simp only [List.append_assoc]; rfl
  unfold aggM
  clear ha hb hs4
  revert H HS
  generalize encM ⟨nm, i, a, b, s⟩ = ex
  intro HS H
  go_enter Try.func41, Try.ntmps41
  go_wp2_with fail
  go_region_held3 (fun w' => w'.cell? ⟨w.heap.size, 0, none⟩ = some (.string nm) ∧ w'.cell? ⟨w.heap.size, 1, none⟩ = some (.int .u64 i) ∧ w'.cell? ⟨w.heap.size, 2, none⟩ = some (.int .u32 a) ∧ w'.cell? ⟨w.heap.size, 3, none⟩ = some (.int .u64 b) ∧ w'.cell? ⟨w.heap.size, 4, none⟩ = some (.string s) ∧ Below w.heap.size w w')
    ((first | assumption | exact In5.step ‹_› hb | exact In5.first _ _ _ _ _ _ _))
    (first
    | (go_at_call 31; refine (HA.out _).mono ?_; rintro e w1 ⟨rfl, hb⟩)
    | (go_at_call 32; refine (HB.out _).mono ?_; rintro e w1 ⟨rfl, hb⟩)
    | (go_at_call 33; refine (HS.out _).mono ?_; rintro e w2 ⟨rfl, hb⟩))
  rename_i hS
  obtain ⟨_, _, _, _, _, hB⟩ := hS
  go_wp2
  go_ret
  exact ⟨ret_string H.out, hB⟩
end Go.Proofs.Ytfoijhofpjaldaa
