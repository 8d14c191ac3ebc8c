/- Where a thing stands in a table. -/
import Derived.Test.YtpgaepilnbjhbaaLsCmp
import Derived.Defers
import Derived.Recover
set_option maxRecDepth 100000
set_option maxHeartbeats 4000000
set_option linter.unusedVariables false
namespace Go.Proofs.Ytpgaepilnbjhbaa
open Go.RowKit
open Ls (Txt Ln Ms sameL sameM Plc)
theorem idlePlcL (p q : Addr) (w : World) :
    CallsD Try.prog 46 #[.pointer (some p), .pointer (some q)] .returning w fun e u' w' => e = .returned (.tuple #[]) ∧ u' = .returning ∧ w' = w := by
  refine callsD_of_wpS Try.func46 rfl fun c₀ cs hu => ?_
  apply wpS_seq
  apply wpS_region
  simp [wpOpsS, go_sem, recoverD, hu, Try.ntmps46, Exit.thenS]
  refine wpS_cond (t := false) (by simp [Act.eval, Array.replicate]) ?_
  simp only [Bool.false_eq_true, if_false]
  refine wpS_of_wp (wp_skip ?_)
  cases c₀
  simp_all [bodyPostS, results, Try.results46]
inductive PlcOutL (x : Ln) (l : List Ln) (w : World) (e : Ending) (w' : World) : Prop
  | mk (k : Nat) (b : Bool) (he : e = .returned (.tuple #[.int .i64 k, .bool b])) (hp : Plc sameL x l k b) (hb : Below w.heap.size w w')
/-- The boxes of place. -/
structure PBL (g : Nat) (fn sl : Value) (x : Ln) (W : World) : Prop where
  t0 : W.cell? ⟨g, 0, none⟩ = some fn
  t1 : W.cell? ⟨g, 1, none⟩ = some sl
  k0 : W.cell? ⟨g + 1, 0, none⟩ = some (.string (str x.q))
  k1 : W.cell? ⟨g + 1, 1, none⟩ = some (.int .u64 x.id)
  a : Boxed W (g + 1 + 1) 3 (.int .i64 0)
  b : Boxed W (g + 1 + 1 + 1) 4 (.bool false)
theorem PBL.below {g : Nat} {fn sl : Value} {x : Ln} {W W' : World} (h : PBL g fn sl x W) (hb : Below W.heap.size W W') : PBL g fn sl x W' :=
  have c := fun (p : Addr) (v : Value) (h : W.cell? p = some v) => (hb.cell (p := p) (World.block_lt_of_cell? _ _ h)).trans h
  ⟨c _ _ h.t0, c _ _ h.t1, c _ _ h.k0, c _ _ h.k1, boxed_below h.a hb, boxed_below h.b hb⟩
abbrev pw0L (w : World) (fn sl : Value) (x : Ln) : World := (((w.alloc (.cells #[fn, sl] 27)).alloc (.cells #[.string (str x.q), .int .u64 x.id] 34)).alloc (.cells #[.int .i64 0] 3)).alloc (.cells #[.bool false] 4)
theorem pbL_start (w : World) (fn sl : Value) (x : Ln) : PBL w.heap.size fn sl x (pw0L w fn sl x) ∧ Below w.heap.size w (pw0L w fn sl x) := by
  have hB : ∀ (W : World) (o : Obj), Below W.heap.size W (W.alloc o) := fun W o => (Below.refl _ _).alloc (Nat.le_refl _) _
  have s1 : (w.alloc (.cells #[fn, sl] 27)).heap.size = w.heap.size + 1 := World.size_alloc _ _
  have h1 : Below (w.alloc (.cells #[fn, sl] 27)).heap.size (w.alloc (.cells #[fn, sl] 27)) (pw0L w fn sl x) := ((hB _ _).alloc (by simp) _).alloc (by simp <;> omega) _
  have h2 : Below ((w.alloc (.cells #[fn, sl] 27)).alloc (.cells #[.string (str x.q), .int .u64 x.id] 34)).heap.size ((w.alloc (.cells #[fn, sl] 27)).alloc (.cells #[.string (str x.q), .int .u64 x.id] 34)) (pw0L w fn sl x) := (hB _ _).alloc (by simp) _
  refine ⟨⟨?_, ?_, ?_, ?_, ?_, ?_⟩, ((((hB _ _).alloc (by simp) _).alloc (by simp <;> omega) _).alloc (by simp <;> omega) _)⟩
  · exact (h1.cell (p := ⟨w.heap.size, 0, none⟩) (by rw [s1]; simp)).trans (World.cell?_alloc_new w #[fn, sl] _ 0)
  · exact (h1.cell (p := ⟨w.heap.size, 1, none⟩) (by rw [s1]; simp)).trans (World.cell?_alloc_new w #[fn, sl] _ 1)
  · refine (h2.cell (p := ⟨w.heap.size + 1, 0, none⟩) (by simp)).trans ?_
    rw [← s1]; exact World.cell?_alloc_new _ #[.string (str x.q), .int .u64 x.id] _ 0
  · refine (h2.cell (p := ⟨w.heap.size + 1, 1, none⟩) (by simp)).trans ?_
    rw [← s1]; exact World.cell?_alloc_new _ #[.string (str x.q), .int .u64 x.id] _ 1
  · have := Boxed.new ((w.alloc (.cells #[fn, sl] 27)).alloc (.cells #[.string (str x.q), .int .u64 x.id] 34)) 3 (.int .i64 0)
    rw [World.size_alloc, World.size_alloc] at this
    exact this.alloc _
  · have := Boxed.new (((w.alloc (.cells #[fn, sl] 27)).alloc (.cells #[.string (str x.q), .int .u64 x.id] 34)).alloc (.cells #[.int .i64 0] 3)) 4 (.bool false)
    rw [World.size_alloc, World.size_alloc, World.size_alloc] at this
    exact this
theorem plcL_end {w W : World} {fn sl : Value} {x : Ln} {l : List Ln} {tm : Array Value} (k : Nat) (b : Bool) (h4 : tm[4]? = some (.pointer (some ⟨w.heap.size + 1 + 1, 0, none⟩))) (h5 : tm[5]? = some (.pointer (some ⟨w.heap.size + 1 + 1 + 1, 0, none⟩)))
    (hP : PBL w.heap.size fn sl x W) (hp : Plc sameL x l k b) (hb : Below w.heap.size w W) {W' : World} (hW : W' = (W.setCell ⟨w.heap.size + 1 + 1, 0, none⟩ (.int .i64 k)).setCell ⟨w.heap.size + 1 + 1 + 1, 0, none⟩ (.bool b)) :
    Leaves Try.prog Try.f31 tm (PlcOutL x l w) [] .returning W' := by
  subst hW
  have ca := ((hP.a.set (.int .i64 k)).other (by omega) (.bool b) (B' := w.heap.size + 1 + 1 + 1)).cell
  have cb := ((hP.b.other (by omega) (.int .i64 k) (B' := w.heap.size + 1 + 1)).set (.bool b)).cell
  refine ⟨.tuple #[.int .i64 k, .bool b], by simp [results, Try.results31, go_sem, h4, h5, ca, cb], k, b, rfl, hp, (hb.setCell (show w.heap.size ≤ w.heap.size + 1 + 1 by omega) _).setCell (show w.heap.size ≤ w.heap.size + 1 + 1 + 1 by omega) _⟩
set_option maxHeartbeats 4000000 in
theorem placeL_any (fn sl : Value) (l : List Ln) (x : Ln) (w : World) (hsl : SlG cL 3 w sl l) :
    Calls Try.prog 31 #[.agg #[fn, sl], .agg #[.string (str x.q), .int .u64 x.id]] w (PlcOutL x l w) := by
  have hmf : ∀ (fn : Fn) (first cap : Array Value) (w : World), (Instr.makeFunc fn first cap).run Try.prog w = .ok (.func fn first cap) w := fun _ _ _ _ => rfl
  obtain ⟨hs0, hs1⟩ := pbL_start w fn sl x
  have HS0 := Lib.hid hs0
  have HS1 := Lib.hid hs1
  have HSL := Lib.hid (hsl.below hs1)
  obtain ⟨a, b, o, c, rfl, hlc, hcm, ha0, ha, hx⟩ := HSL.out.get
  have HX := Lib.hid hx
  have HA := Lib.hid ha
  have hlm : l.length ≤ 9223372036854775807 := by unfold maxLen at hcm; omega
  have c0 := hs0.t0
  have c1 := hs0.t1
  clear hx ha hs0 hs1 hsl
  go_enter_defers Try.func31, Try.ntmps31
  go_wp2
  go_loopg [12] l.length (fun n i wr => ∃ k : Nat, k ≤ l.length ∧ n = l.length - k ∧ i = .int .i64 k ∧ Hid (∀ j e, j < k → l[j]? = some e → sameL e x = false) ∧ Hid (Below (pw0L w fn (.slice a l.length c) x).heap.size (pw0L w fn (.slice a l.length c) x) wr))
  case atStart => exact ⟨0, Nat.zero_le _, rfl, rfl, Lib.hid (fun j e h => by omega), Lib.hid (Below.refl _ _)⟩
  case round =>
    obtain ⟨k, hk, rfl, rfl, HN, HB⟩ := hrel
    have hp := HS0.out.below HB.out
    have HPB := Lib.hid hp
    have HW : Hid (Below w.heap.size w wr) := below_step HS1.out HB.out
    have ca := hp.a.cell
    have fa := hp.a.frozen
    have cb := hp.b.cell
    have fb := hp.b.frozen
    have ca2 := fun o => (hp.a.alloc o).cell
    have fa2 := fun o => (hp.a.alloc o).frozen
    have cb2 := fun o => (hp.b.alloc o).cell
    have fb2 := fun o => (hp.b.alloc o).frozen
    have k0 := hp.k0
    have k1 := hp.k1
    have k02 := cell_alloc hp.k0
    have k12 := cell_alloc hp.k1
    clear hp
    by_cases hlt : k < l.length
    · obtain ⟨e, he⟩ := some_atP hlt
      have hlc1 : ¬ c = 0 := by omega
      obtain rfl : a = some ⟨b, o, none⟩ := HA.out.resolve_left (fun h => hlc1 (ha0 h))
      obtain ⟨e0, e1, e2⟩ := at3 (HX.out.below rfl HB.out) he
      by_cases hq : e.q = x.q ∧ e.id = x.id
      · have hpl : Plc sameL x l k true := .there k e he (by simp [sameL, hq])
        have HPL := Lib.hid hpl
        rw [hq.1] at e0
        rw [hq.2] at e1
        have hs := str_same x.q
        clear he hpl hq
        go_wp2
        refine leaves_cons (f := 46) (args := #[.pointer (some ⟨w.heap.size + 1 + 1, 0, none⟩), .pointer (some ⟨w.heap.size + 1 + 1 + 1, 0, none⟩)]) (by simp) (by simp [go_sem]) ?_
        refine (idlePlcL _ _ _).mono ?_
        rintro e' u' w'' ⟨rfl, rfl, rfl⟩
        exact plcL_end k true rfl rfl (HPB.out.below ((Below.refl _ _).alloc (Nat.le_refl _) _)) HPL.out (HW.out.alloc HW.out.size _) rfl
      · have hn1 : ∀ j y, j < k + 1 → l[j]? = some y → sameL y x = false := fun j y hj hy => by
          by_cases hjk : j < k
          · exact HN.out j y hjk hy
          · obtain rfl : j = k := by omega
            rw [he] at hy; cases hy
            simp [sameL]; simpa using hq
        have HN1 := Lib.hid hn1
        have HB1 := Lib.hid (HB.out.alloc HB.out.size)
        clear he hn1
        by_cases hqq : e.q = x.q
        · have hid : ¬ (e.id : Int) = (x.id : Int) := fun h => hq ⟨hqq, by omega⟩
          rw [hqq] at e0
          have hs := str_same x.q
          clear hq hqq
          go_wp2
          go_roundg (l.length - (k + 1))
          case measure => omega
          case rel => exact ⟨k + 1, hlt, rfl, by go_num, HN1, Lib.hid (HB1.out _)⟩
        · have hs := str_ne hqq
          clear hq hqq
          go_wp2
          go_roundg (l.length - (k + 1))
          case measure => omega
          case rel => exact ⟨k + 1, hlt, rfl, by go_num, HN1, Lib.hid (HB1.out _)⟩
    · obtain rfl : k = l.length := by omega
      go_wp2
      refine leaves_cons (f := 46) (args := #[.pointer (some ⟨w.heap.size + 1 + 1, 0, none⟩), .pointer (some ⟨w.heap.size + 1 + 1 + 1, 0, none⟩)]) (by simp) (by simp [go_sem]) ?_
      refine (idlePlcL _ _ _).mono ?_
      rintro e' u' w'' ⟨rfl, rfl, rfl⟩
      exact plcL_end 0 false rfl rfl HPB.out (.none (Ls.none_of HN.out)) HW.out rfl
end Go.Proofs.Ytpgaepilnbjhbaa
