/- Texts of one seat, merged. -/
import Derived.Test.YtdgcdekgleegbaaGreatS17
import Derived.Test.YtdgcdekgleegbaaGreatS04
import Derived.Test.YtdgcdekgleegbaaGreatS16
import Derived.OwnWalk
set_option maxRecDepth 100000
set_option maxHeartbeats 4000000
set_option linter.unusedVariables false
/- A row of rows of cells that is handed in, opened. -/
namespace Go.Proofs.YtdgcdekgleegbaaGreat
open Go.ChangeShapes Go.WideShapes Go.ChangeAt Go.RowKit Go.Deep
open Sl (Cl Kd)
theorem cells_cls : Tryz.prog.cellsOf 29 = 1 := by kernel_rfl
/-- A row of rows: each row's value lies in one cell. -/
def SlR (w : World) (v : Value) (L : List (List Cl)) : Prop :=
  ∃ (a : Option Addr) (b o c : Nat), v = .slice a L.length c ∧ (L = [] ∨ a = some ⟨b, o, none⟩) ∧ ∀ (j : Nat) l, L[j]? = some l → ∃ x, w.cell? ⟨b, o + j, none⟩ = some x ∧ SlC w x l ∧ Cap x
theorem SlR.below {w w' : World} {v : Value} {L : List (List Cl)} (h : SlR w v L) (hb : Below w.heap.size w w') : SlR w' v L := by
  obtain ⟨a, b, o, c, hv, ha, hx⟩ := h
  refine ⟨a, b, o, c, hv, ha, fun j l hj => ?_⟩
  obtain ⟨x, h0, h1, h2⟩ := hx j l hj
  exact ⟨x, (hb.cell (p := ⟨b, o + j, none⟩) (World.block_lt_of_cell? _ _ h0)).trans h0, h1.below hb, h2⟩
theorem open_cells1 {H : Type} {enc : TypeId × Value → H} {W : World} {b1 fuel : Nat} {sp : Nat → Bool} {held : Bool} {cs : List Value} {y : DataW H × List MemPlace}
    (hf : DataW.trod enc Tryz.prog W b1 sp held fuel 29 cs = some y) :
    ∃ (v : Value) (l : List Cl), cs = [v] ∧ l.length ≤ maxLen ∧ (∀ x ∈ l, okC x) ∧ SlC W v l ∧ Cap v := by
  rcases open_slice Tryz.underlying29 hf with ⟨rfl, _⟩ | ⟨a, len, cap, m, n, D, Pl, rfl, _, hl, hm, hz, _, hcell⟩
  · exact ⟨_, [], rfl, Nat.zero_le _, fun p hp => by simp at hp, ⟨none, 0, 0, 0, rfl, .inl rfl, fun j p hj => by simp at hj⟩, none, 0, 0, Nat.le_refl _, Nat.zero_le _, fun _ => rfl⟩
  · have hcap : Cap (.slice (some a) len cap) := ⟨some a, len, cap, hl, hm, fun h => by cases h⟩
    have hlen : len ≤ m := by rw [hz]; split <;> omega
    have each : ∀ i, i < len → ∃ x : Cl, okC x ∧ W.cell? (a.add (i * 4)) = some (.string (str x.key)) ∧ W.cell? (a.add (i * 4 + 1)) = some (.string (str x.val)) ∧ W.cell? (a.add (i * 4 + 2)) = some (.int .u32 x.chain) ∧ W.cell? (a.add (i * 4 + 3)) = some (.int .u32 x.long) := by
      intro i hi
      obtain ⟨cs', h1, h2⟩ := hcell i (by omega)
      rw [cells42] at h1
      obtain ⟨_, hlen', hcc⟩ := World.cells?_some h1
      obtain ⟨xs, k, hk, hxy, _, hxl, hf'⟩ := DataW.trod_struct Tryz.underlying32 h2
      obtain ⟨v0, v1, v2, v3, rfl⟩ := list4 cs' hlen'
      obtain ⟨y0, y1, y2, y3, rfl⟩ := list4 xs hxl
      have g0 : DataW.trod enc Tryz.prog W b1 sp held k 9 ([v0, v1, v2, v3].drop 0 |>.take (Tryz.prog.cellsOf 9)) = some y0 := hf' 0 _ rfl
      have g1 : DataW.trod enc Tryz.prog W b1 sp held k 9 ([v0, v1, v2, v3].drop 1 |>.take (Tryz.prog.cellsOf 9)) = some y1 := hf' 1 _ rfl
      have g2 : DataW.trod enc Tryz.prog W b1 sp held k 28 ([v0, v1, v2, v3].drop 2 |>.take (Tryz.prog.cellsOf 28)) = some y2 := hf' 2 _ rfl
      have g3 : DataW.trod enc Tryz.prog W b1 sp held k 28 ([v0, v1, v2, v3].drop 3 |>.take (Tryz.prog.cellsOf 28)) = some y3 := hf' 3 _ rfl
      rw [cellsS.1] at g0 g1
      rw [cellsS.2] at g2 g3
      obtain ⟨s, hs, _, _⟩ := DataW.trod_string Tryz.underlying9 g0
      obtain ⟨t, ht, _, _⟩ := DataW.trod_string Tryz.underlying9 g1
      obtain ⟨q, hq, _, wq⟩ := DataW.trod_int Tryz.underlying28 g2
      obtain ⟨u, hu, _, wu⟩ := DataW.trod_int Tryz.underlying28 g3
      have c0 := hcc 0 (by omega)
      have c1 := hcc 1 (by omega)
      have c2 := hcc 2 (by omega)
      have c3 := hcc 3 (by omega)
      rw [add_add] at c0 c1 c2 c3
      have hs' : v0 = .string s := by simpa using hs
      have ht' : v1 = .string t := by simpa using ht
      have hq' : v2 = .int .u32 q := by simpa using hq
      have hu' : v3 = .int .u32 u := by simpa using hu
      obtain ⟨h3, h4⟩ := bounds_u32 wq
      obtain ⟨h5, h6⟩ := bounds_u32 wu
      obtain ⟨N, rfl⟩ := Int.eq_ofNat_of_zero_le h3
      obtain ⟨M, rfl⟩ := Int.eq_ofNat_of_zero_le h5
      refine ⟨⟨s.data.toList, t.data.toList, N, M⟩, ⟨by show N < _; omega, by show M < _; omega⟩, ?_, ?_, ?_, ?_⟩
      · rw [str_eq, ← hs']; simpa using c0
      · rw [str_eq, ← ht']; simpa using c1
      · rw [← hq']; simpa using c2
      · rw [← hu']; simpa using c3
    by_cases h0 : len = 0
    · subst h0
      exact ⟨_, [], rfl, Nat.zero_le _, fun p hp => by simp at hp, ⟨some a, 0, 0, cap, rfl, .inl rfl, fun j p hj => by simp at hj⟩, hcap⟩
    · obtain ⟨b, off, spot⟩ := a
      obtain ⟨p0, _, hsp, _⟩ := each 0 (by omega)
      have hspot : spot = none := by simpa [Addr.add] using World.cell?_spot hsp
      subst hspot
      obtain ⟨f, hfx⟩ := choose_lt each
      refine ⟨_, (List.range len).map f, rfl, by simp; omega, ?_, ⟨some ⟨b, off, none⟩, b, off, cap, by simp, .inr rfl, fun j p hj => ?_⟩, hcap⟩
      · intro p hp
        obtain ⟨i, hi, rfl⟩ := List.mem_map.1 hp
        exact (hfx i (List.mem_range.1 hi)).1
      · have hjl : j < len := by
          have := (List.getElem?_eq_some_iff.1 hj).1
          simpa using this
        simp [hjl] at hj
        subst hj
        obtain ⟨_, c0, c1, c2, c3⟩ := hfx j hjl
        rw [add_plain] at c0 c1 c2 c3
        refine ⟨c0, ?_, ?_, ?_⟩
        · rw [Nat.add_assoc]; exact c1
        · rw [Nat.add_assoc]; exact c2
        · rw [Nat.add_assoc]; exact c3
instance : Inhabited (Value × List Cl) := ⟨⟨.nilFunc, []⟩⟩
theorem open_rows {H : Type} {enc : TypeId × Value → H} {W : World} {r : Reach} {b0 b1 : Nat} {sp : Nat → Bool} {held : Bool} {v : Value} {d : DataW H} {p : List MemPlace}
    (hv : Value.okWide Tryz.prog W r b0 66 v) (h : DataW.Trod enc Tryz.prog W b1 sp held 66 v d p) :
    ∃ L : List (List Cl), L.length ≤ maxLen ∧ (∀ l ∈ L, ∀ x ∈ l, okC x) ∧ SlR W v L := by
  obtain ⟨a0, len, cap, rfl⟩ := okWide_slice Tryz.underlying66 hv
  obtain ⟨fuel, hf⟩ := h
  rcases open_slice Tryz.underlying66 hf with hcs | ⟨a, len', cap', m, n, D, Pl, hcs, _, hl, hm, hz, _, hcell⟩
  · have hcs := hcs.1
    simp [Value.cells] at hcs
    obtain ⟨rfl, rfl, rfl⟩ := hcs
    exact ⟨[], Nat.zero_le _, fun p hp => by simp at hp, none, 0, 0, 0, rfl, .inl rfl, fun j p hj => by simp at hj⟩
  · simp [Value.cells] at hcs
    obtain ⟨rfl, rfl, rfl⟩ := hcs
    have hlen : len ≤ m := by rw [hz]; split <;> omega
    have each : ∀ i, i < len → ∃ q : Value × List Cl, W.cell? (a.add i) = some q.1 ∧ (∀ x ∈ q.2, okC x) ∧ SlC W q.1 q.2 ∧ Cap q.1 := by
      intro i hi
      obtain ⟨cs', h1, h2⟩ := hcell i (by omega)
      rw [cells_cls, Nat.mul_one] at h1
      obtain ⟨_, hlen', hcc⟩ := World.cells?_some h1
      obtain ⟨x, l, rfl, _, hok, hs, hc⟩ := open_cells1 h2
      have c0 := hcc 0 (by omega)
      rw [add_add] at c0
      exact ⟨(x, l), by simpa using c0, hok, hs, hc⟩
    by_cases h0 : len = 0
    · subst h0
      exact ⟨[], Nat.zero_le _, fun p hp => by simp at hp, some a, 0, 0, cap, rfl, .inl rfl, fun j p hj => by simp at hj⟩
    · obtain ⟨b, off, spot⟩ := a
      obtain ⟨p0, hsp, _⟩ := each 0 (by omega)
      have hspot : spot = none := by simpa [Addr.add] using World.cell?_spot hsp
      subst hspot
      obtain ⟨f, hfx⟩ := choose_lt each
      refine ⟨(List.range len).map fun i => (f i).2, by simp; omega, ?_, some ⟨b, off, none⟩, b, off, cap, by simp, .inr rfl, fun j p hj => ?_⟩
      · intro p hp
        obtain ⟨i, hi, rfl⟩ := List.mem_map.1 hp
        exact (hfx i (List.mem_range.1 hi)).2.1
      · have hjl : j < len := by
          have := (List.getElem?_eq_some_iff.1 hj).1
          simpa using this
        simp [hjl] at hj
        subst hj
        obtain ⟨c0, _, c1, c2⟩ := hfx j hjl
        rw [add_plain] at c0
        exact ⟨_, c0, c1, c2⟩
end Go.Proofs.YtdgcdekgleegbaaGreat
/- A space in memory while a row beside it grows; the law's own question, whose a page is. -/
namespace Go.Proofs.YtdgcdekgleegbaaGreat
open Go.RowKit Go.Maps
open Sl (Cl Kd Nd Rn)
theorem ownsRow_grown {w w' : World} {B : Nat} {e : TypeId} {s : Nat} {v : Value} {n : Nat} {xs : List Value} {r : Option Nat} (h : w.ownsRow B e s v n xs) (hg : w.grownBy w' r) {T : TypeId} (hr : ∀ g, r = some g → BoxT w g T) (hT : T ≠ e) : w'.ownsRow B e s v n xs := by
  obtain ⟨h0, h1⟩ := h
  refine ⟨h0, ?_⟩
  rcases h1 with h1 | ⟨g, cap, cur, hv, hB, hc, h2, h3, h4, h5⟩
  · exact .inl h1
  · refine .inr ⟨g, cap, cur, hv, hB, ?_, h2, h3, h4, h5⟩
    rw [hg.block g (Array.getElem?_eq_some_iff.1 hc).1 (fun e2 => by
      obtain ⟨A, fr, hA⟩ := hr g e2.symm
      rw [hA] at hc
      injection hc with hc
      injection hc with _ h6 _
      exact hT h6)]
    exact hc
theorem Mem.grown {w w' : World} {p b B n made frozen : Nat} {F : Nat → Option Nd} {r : Option Nat} (h : Mem w p b B n made frozen F) (hg : w.grownBy w' r) {T : TypeId} (hr : ∀ g, r = some g → BoxT w g T) (h1 : T ≠ 32) (h2 : T ≠ 135) (hp : some p ≠ r) (hb : some b ≠ r) : Mem w' p b B n made frozen F := by
  have hpl := h.p_lt
  have hbl := h.b_lt
  obtain ⟨f, hm, k1, k2⟩ := h.map
  have c := fun i => World.cell?_of_block (a := ⟨p, i, none⟩) (hg.block p hpl hp)
  have fz := fun i => World.frozen?_of_block (a := ⟨p, i, none⟩) (hg.block p hpl hp)
  refine ⟨(c 0).trans h.c0, (c 1).trans h.c1, (c 2).trans h.c2, (fz 0).trans h.f0, (fz 1).trans h.f1, (fz 2).trans h.f2, ⟨f, hm.kept (hg.block b hbl hb), k1, fun k nd hk hF => ?_⟩, h.pB, h.bB, h.ne⟩
  obtain ⟨v, hv, vc, vk, he, hc, hkk⟩ := k2 k nd hk hF
  exact ⟨v, hv, vc, vk, he, ownsRow_grown hc hg hr h1, ownsRow_grown hkk hg hr h2⟩
theorem ownsRow_boxT {w : World} {B : Nat} {e : TypeId} {s : Nat} {v : Value} {n : Nat} {xs : List Value} (h : w.ownsRow B e s v n xs) : ∀ g, v.ownBlock = some g → BoxT w g e ∧ B ≤ g := by
  intro g hg
  rcases h.2 with ⟨rfl, _⟩ | ⟨g', cap, cur, rfl, hB, hc, _⟩
  · cases hg
  · obtain rfl : g' = g := Option.some.inj hg
    exact ⟨⟨cur, (0, 0), hc⟩, hB⟩
theorem infoU32 : (Tryz.prog.info? 28).map (fun i => (i.zero, i.size, i.bytes)) = some (some (.int .u32 0), 1, 4) := by kernel_rfl
/-- What the law asks: is the page its own? -/
def lawOwn (fz n x : Nat) : Bool := decide ((fz : Int) ≤ (x : Int) - 2) || decide (n ≤ fz)
theorem own_law {w : World} {t3 t4 : Nat} {a : Option Addr} {n c fz x : Nat} (h3 : w.cell? ⟨t3, 0, none⟩ = some (.slice a n c)) (h4 : w.cell? ⟨t4, 0, none⟩ = some (.int .u8 fz)) (hx : x < 4294967296) (hfz : fz < 256) :
    Calls Tryz.prog 28 #[.int .u32 x, .pointer (some ⟨t4, 0, none⟩), .pointer (some ⟨t3, 0, none⟩)] w fun e w' => e = .returned (.bool (lawOwn fz n x)) ∧ Below w.heap.size w w' := by
  have w1 : IntKind.i64.wrap (x : Int) = (x : Int) := by rw [IntKind.wrap_i64]; omega
  have w2 : IntKind.i64.wrap ((x : Int) - 2) = (x : Int) - 2 := by rw [IntKind.wrap_i64]; omega
  have w3 : IntKind.i64.wrap (fz : Int) = (fz : Int) := by rw [IntKind.wrap_i64]; omega
  have HO := Lib.hid (show lawOwn fz n x = (decide ((fz : Int) ≤ (x : Int) - 2) || decide (n ≤ fz)) from rfl)
  generalize lawOwn fz n x = r at HO ⊢
  by_cases hc : (fz : Int) ≤ (x : Int) - 2
  · have hr : r = true := by rw [HO.out, decide_eq_true hc]; rfl
    subst hr
    go_enter Tryz.func28, Tryz.ntmps28
    go_wp2
    go_ret
    exact ⟨rfl, Below.refl _ _⟩
  · by_cases hd : n ≤ fz
    · have hr : r = true := by rw [HO.out, decide_eq_true hd, Bool.or_true]
      have hd2 : (n : Int) ≤ (fz : Int) := by omega
      subst hr
      go_enter Tryz.func28, Tryz.ntmps28
      go_wp2
      go_ret
      exact ⟨rfl, Below.refl _ _⟩
    · have hr : r = false := by rw [HO.out, decide_eq_false hc, decide_eq_false hd]; rfl
      have hd2 : ¬ (n : Int) ≤ (fz : Int) := by omega
      subst hr
      go_enter Tryz.func28, Tryz.ntmps28
      go_wp2
      go_ret
      exact ⟨rfl, Below.refl _ _⟩
def frz (fz k : Nat) : Nat := if fz < k then fz else 0
theorem own_eq {fz T x : Nat} (h2 : 2 ≤ x) : lawOwn fz T x = decide (frz fz T + 2 ≤ x) := by
  unfold lawOwn frz
  by_cases h : fz < T
  · rw [if_pos h, decide_eq_false (show ¬ T ≤ fz by omega), Bool.or_false]
    congr 1; apply propext; omega
  · rw [if_neg h, decide_eq_true (show T ≤ fz by omega), Bool.or_true, decide_eq_true (by omega)]
def idsV (k : Nat) : List Value := (List.range k).map fun j => .int .u32 ((2 + j : Nat) : Int)
theorem idsV_succ (k : Nat) : idsV (k + 1) = idsV k ++ [.int .u32 ((2 + k : Nat) : Int)] := by simp [idsV, List.range_succ]
theorem idsV_at {k T : Nat} (h : k < T) : (idsV T)[k]? = some (.int .u32 ((2 + k : Nat) : Int)) := by simp [idsV, h]
/-- Where the law stands: its space, its row of pages. -/
structure St (w1 : World) (p m made fr : Nat) (F : Nat → Option Nd) (ids : Value) (T : Nat) (W : World) : Prop where
  mem : Mem W p w1.heap.size (p + 1) m made fr F
  row : W.ownsRow (p + 1) 28 1 ids T (idsV T)
  below : Below w1.heap.size w1 W
  hp : w1.heap.size < p
theorem St.step {w1 W W' : World} {p m made fr T : Nat} {F : Nat → Option Nd} {ids : Value} (h : St w1 p m made fr F ids T W) (hb : Below W.heap.size W W') : St w1 p m made fr F ids T W' :=
  ⟨h.mem.below hb, ownsRow_below h.row hb, h.below.trans (hb.mono h.below.size), h.hp⟩
theorem St.turn {w1 W W' : World} {p m m' made fr T : Nat} {F F' : Nat → Option Nd} {ids : Value} (h : St w1 p m made fr F ids T W) (hm : Mem W' p w1.heap.size (p + 1) m' made fr F') (ht : Two p w1.heap.size W W') : St w1 p m' made fr F' ids T W' :=
  ⟨hm, ownsRow_two h.row ht (Nat.lt_succ_self _) (Nat.lt_succ_of_lt h.hp), h.below.trans (ht.below (Nat.le_of_lt h.hp) (Nat.le_refl _) h.below.size), h.hp⟩
/-- The pages that are there when the first k of the row have been given up. -/
def Fw (L : List (List Cl)) (fr k : Nat) : Nat → Option Nd := fun x => if 2 ≤ x ∧ x < 2 + L.length ∧ (fr + 2 ≤ x → 2 + k ≤ x) then (L[x - 2]?).map (fun l => ⟨true, l, []⟩) else none
theorem Fw_at {L : List (List Cl)} {fr k : Nat} {l : List Cl} (h : L[k]? = some l) : Fw L fr k (2 + k) = some ⟨true, l, []⟩ := by
  have hk := (List.getElem?_eq_some_iff.1 h).1
  unfold Fw
  rw [if_pos ⟨by omega, by omega, fun _ => Nat.le_refl _⟩, show 2 + k - 2 = k by omega, h]; rfl
theorem Fw_own {L : List (List Cl)} {fr k : Nat} (h : fr + 2 ≤ 2 + k) (x : Option Nd) : upd (upd (Fw L fr k) (2 + k) x) (2 + k) none = Fw L fr (k + 1) := by
  funext y
  by_cases hy : y = 2 + k
  · subst hy
    rw [upd_same]
    unfold Fw
    rw [if_neg (fun h2 => by have := h2.2.2 h; omega)]
  · rw [upd_other _ _ _ hy, upd_other _ _ _ hy]
    unfold Fw
    by_cases hc : 2 ≤ y ∧ y < 2 + L.length ∧ (fr + 2 ≤ y → 2 + k ≤ y)
    · rw [if_pos hc, if_pos ⟨hc.1, hc.2.1, fun h3 => by have := hc.2.2 h3; omega⟩]
    · rw [if_neg hc, if_neg (fun h3 => hc ⟨h3.1, h3.2.1, fun h4 => by have := h3.2.2 h4; omega⟩)]
theorem Fw_old {L : List (List Cl)} {fr k : Nat} (h : ¬ fr + 2 ≤ 2 + k) : Fw L fr k = Fw L fr (k + 1) := by
  funext y
  unfold Fw
  by_cases hc : 2 ≤ y ∧ y < 2 + L.length ∧ (fr + 2 ≤ y → 2 + k ≤ y)
  · rw [if_pos hc, if_pos ⟨hc.1, hc.2.1, fun h3 => by have := hc.2.2 h3; omega⟩]
  · rw [if_neg hc, if_neg (fun h3 => hc ⟨h3.1, h3.2.1, fun h4 => by have := h3.2.2 h4; omega⟩)]
theorem step6' {w w1 w2 : World} {B : Nat} {p0 p1 p2 p3 p4 p5 : Addr} {x0 x1 x2 x3 x4 x5 : Value} (hB : B ≤ w.heap.size) (H : w1.cell? p0 = some x0 ∧ w1.cell? p1 = some x1 ∧ w1.cell? p2 = some x2 ∧ w1.cell? p3 = some x3 ∧ w1.cell? p4 = some x4 ∧ w1.cell? p5 = some x5 ∧ Below B w w1) (hb : Below w1.heap.size w1 w2) : w2.cell? p0 = some x0 ∧ w2.cell? p1 = some x1 ∧ w2.cell? p2 = some x2 ∧ w2.cell? p3 = some x3 ∧ w2.cell? p4 = some x4 ∧ w2.cell? p5 = some x5 ∧ Below B w w2 := by
  obtain ⟨h0, h1, h2, h3, h4, h5, hq⟩ := H
  have o : ∀ (q : Addr) (y : Value), w1.cell? q = some y → w2.cell? q = some y := fun q y h => (hb.cell (p := q) (World.block_lt_of_cell? _ _ h)).trans h
  exact ⟨o _ _ h0, o _ _ h1, o _ _ h2, o _ _ h3, o _ _ h4, o _ _ h5, hq.trans (hb.mono (Nat.le_trans hB hq.size))⟩
theorem last6' {w w1 : World} {B : Nat} {p0 p1 p2 p3 p4 p5 : Addr} {x0 x1 x2 x3 x4 x5 : Value} (H : w1.cell? p0 = some x0 ∧ w1.cell? p1 = some x1 ∧ w1.cell? p2 = some x2 ∧ w1.cell? p3 = some x3 ∧ w1.cell? p4 = some x4 ∧ w1.cell? p5 = some x5 ∧ Below B w w1) : Below B w w1 := H.2.2.2.2.2.2
end Go.Proofs.YtdgcdekgleegbaaGreat
