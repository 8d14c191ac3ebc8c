/- Texts of one seat, merged. -/
import Derived.Test.YtgmneapgihakgaaGreatDoorZ31
import Derived.Test.YtgmneapgihakgaaGreatDoorZ24
import Derived.Test.YtgmneapgihakgaaGreatDoorZ33
import Derived.Test.YtgmneapgihakgaaGreatDoorZ29
import Derived.Deep.RegionHeld3
set_option maxRecDepth 100000
set_option maxHeartbeats 4000000
set_option linter.unusedVariables false
/- What the laws go through: light, few (report's). -/
namespace Go.Proofs.YtgmneapgihakgaaGreatDoor
open Go.RowKit
structure LightR (l : List Ms) (n1 n2 n3 : Nat) : Prop where
  ms : ∀ m ∈ l, l.length ≤ 40 ∧ m.qu.size ≤ 400 ∧ m.body.size ≤ 2000
  i : n1 ≤ 100
  lo : n2 ≤ 100
  de : n3 ≤ 100
def mxI (a b : Int) : Int := if b > a then b else a
theorem mxI_le (a b c : Int) : mxI a b ≤ c ↔ a ≤ c ∧ b ≤ c := by
  unfold mxI
  split <;> omega
theorem max6 {P : Program} (t : Array TypeId) (u : TypeId) (x0 x1 x2 x3 x4 x5 : Int) (W : World) : (Builtin.max_ t u #[.int .i64 x0, .int .i64 x1, .int .i64 x2, .int .i64 x3, .int .i64 x4, .int .i64 x5]).run P W = .ok (.int .i64 (mxI (mxI (mxI (mxI (mxI x0 x1) x2) x3) x4) x5)) W := by
  simp [Builtin.max_, Builtin.max2, mxI]
theorem max3 {P : Program} (t : Array TypeId) (u : TypeId) (x0 x1 x2 : Int) (W : World) : (Builtin.max_ t u #[.int .i64 x0, .int .i64 x1, .int .i64 x2]).run P W = .ok (.int .i64 (mxI (mxI x0 x1) x2)) W := by
  simp [Builtin.max_, Builtin.max2, mxI]
set_option maxHeartbeats 4000000 in
theorem few_any (a0 a1 a2 a3 a4 a5 : Option Addr) (n0 n1 n2 n3 n4 n5 k0 k1 k2 k3 k4 k5 : Nat) (pairs deep : Int) (bytes : Nat) (w : World) :
    Calls Tryz.prog 42 #[.agg #[.slice a0 n0 k0, .slice a1 n1 k1, .slice a2 n2 k2, .slice a3 n3 k3, .slice a4 n4 k4, .slice a5 n5 k5, .int .i64 pairs, .int .u64 bytes, .int .i64 deep]] w
      fun e w' => Below w.heap.size w w' ∧ ((e = .returned (.bool false) ∧ ¬ (n0 ≤ 200 ∧ n1 ≤ 200 ∧ n2 ≤ 200 ∧ n3 ≤ 200 ∧ n4 ≤ 200 ∧ n5 ≤ 200)) ∨ (e = .returned (.bool true) ∧ n0 ≤ 200 ∧ n1 ≤ 200 ∧ n2 ≤ 200 ∧ n3 ≤ 200 ∧ n4 ≤ 200 ∧ n5 ≤ 200)) := by
  have x0 := BoxL.new w #[.slice a0 n0 k0, .slice a1 n1 k1, .slice a2 n2 k2, .slice a3 n3 k3, .slice a4 n4 k4, .slice a5 n5 k5, .int .i64 pairs, .int .u64 bytes, .int .i64 deep] 106
  have c0 := x0.cell (i := 0) (x := .slice a0 n0 k0) rfl
  have c1 := x0.cell (i := 1) (x := .slice a1 n1 k1) rfl
  have c2 := x0.cell (i := 2) (x := .slice a2 n2 k2) rfl
  have c3 := x0.cell (i := 3) (x := .slice a3 n3 k3) rfl
  have c4 := x0.cell (i := 4) (x := .slice a4 n4 k4) rfl
  have c5 := x0.cell (i := 5) (x := .slice a5 n5 k5) rfl
  clear x0
  have hmax := fun W => max6 (P := Tryz.prog) #[3, 3, 3, 3, 3, 3] 3 n0 n1 n2 n3 n4 n5 W
  have hle := mxI_le
  have HM : Hid ((mxI (mxI (mxI (mxI (mxI (n0 : Int) n1) n2) n3) n4) n5) ≤ 200 ↔ n0 ≤ 200 ∧ n1 ≤ 200 ∧ n2 ≤ 200 ∧ n3 ≤ 200 ∧ n4 ≤ 200 ∧ n5 ≤ 200) := by
    show _ ↔ _
    simp only [hle]
    omega
  clear hle
  generalize (mxI (mxI (mxI (mxI (mxI (n0 : Int) n1) n2) n3) n4) n5) = m at hmax HM
  by_cases hm : m ≤ 200
  · have HA := Lib.hid (HM.out.1 hm)
    go_enter Tryz.func42, Tryz.ntmps42
    go_wp2
    go_ret
    exact ⟨(Below.refl _ _).alloc (Nat.le_refl _) _, .inr ⟨rfl, HA.out⟩⟩
  · go_enter Tryz.func42, Tryz.ntmps42
    go_wp2
    go_ret
    exact ⟨(Below.refl _ _).alloc (Nat.le_refl _) _, .inl ⟨rfl, by have := HM.out; omega⟩⟩
set_option maxHeartbeats 4000000 in
theorem light_any (e : Int) (n n1 n2 n3 k1 k2 k3 : Nat) (a1 a2 a3 : Option Addr) (vm : Value) (l : List Ms) (w : World) (hm : SlV cvMs 5 w vm l) :
    Calls Tryz.prog 40 #[.agg #[.int .i64 e, .int .u64 n, .slice a1 n1 k1, .slice a2 n2 k2, .slice a3 n3 k3, vm]] w
      fun r w' => Below w.heap.size w w' ∧ ((r = .returned (.bool false) ∧ ¬ LightR l n1 n2 n3) ∨ (r = .returned (.bool true) ∧ LightR l n1 n2 n3)) := by
  obtain ⟨a, b, o, c, rfl, hlc, _, ha, hx⟩ := hm.get
  have HA := Lib.hid ha
  have HX := Lib.hid hx
  have hll : l.length ≤ maxLen := by omega
  have x0 := BoxL.new w #[.int .i64 e, .int .u64 n, .slice a1 n1 k1, .slice a2 n2 k2, .slice a3 n3 k3, .slice a l.length c] 101
  have X0 := Lib.hid x0
  have HB0 : Hid (Below w.heap.size w (w.alloc (.cells #[.int .i64 e, .int .u64 n, .slice a1 n1 k1, .slice a2 n2 k2, .slice a3 n3 k3, .slice a l.length c] 101))) := (Below.refl _ _).alloc (Nat.le_refl _) _
  have hmax := fun W => max3 (P := Tryz.prog) #[3, 3, 3] 3 n1 n2 n3 W
  have hle := mxI_le
  have HM : Hid (mxI (mxI (n1 : Int) n2) n3 ≤ 100 ↔ n1 ≤ 100 ∧ n2 ≤ 100 ∧ n3 ≤ 100) := by
    show _ ↔ _
    simp only [hle]
    omega
  clear hle
  generalize mxI (mxI (n1 : Int) n2) n3 = mm at hmax HM
  have c5 := x0.cell (i := 5) (x := .slice a l.length c) rfl
  clear x0 ha hx hm
  go_enter Tryz.func40, Tryz.ntmps40
  go_wp2
  go_loopg [8] l.length (fun k0 i wr => ∃ k : Nat, k ≤ l.length ∧ k0 = l.length - k ∧ i = .int .i64 (k : Nat) ∧ Hid (∀ m ∈ l.take k, l.length ≤ 40 ∧ m.qu.size ≤ 400 ∧ m.body.size ≤ 2000) ∧ Hid (Below w.heap.size w wr) ∧ Hid (BoxL wr w.heap.size 101 #[.int .i64 e, .int .u64 n, .slice a1 n1 k1, .slice a2 n2 k2, .slice a3 n3 k3, .slice a l.length c]))
  case atStart => exact ⟨0, Nat.zero_le _, rfl, rfl, by show ∀ m ∈ _, _; simp, HB0.out, X0.out⟩
  case round =>
    obtain ⟨k, hk, rfl, rfl, HS, HE, HX1⟩ := hrel
    by_cases hlt : k < l.length
    · obtain ⟨x, hx⟩ : ∃ x, l[k]? = some x := ⟨_, List.getElem?_eq_getElem hlt⟩
      obtain rfl : a = some ⟨b, o, none⟩ := HA.out.resolve_left (fun h => by rw [h] at hlt; cases hlt)
      obtain ⟨e0, e1, e2, e3, e4⟩ := atMs HX.out hx
      have hblt : b < w.heap.size := World.block_lt_of_cell? _ _ e0
      have f0 := (HE.out.cell (p := ⟨b, o + k * 5, none⟩) hblt).trans e0
      have f1 := (HE.out.cell (p := ⟨b, o + k * 5 + 1, none⟩) hblt).trans e1
      have f2 := (HE.out.cell (p := ⟨b, o + k * 5 + 2, none⟩) hblt).trans e2
      have f3 := (HE.out.cell (p := ⟨b, o + k * 5 + 3, none⟩) hblt).trans e3
      have f4 := (HE.out.cell (p := ⟨b, o + k * 5 + 4, none⟩) hblt).trans e4
      have XA := Lib.hid (HX1.out.alloc (.cells #[.string x.qu, .int .u64 x.id, .int .u32 x.tries, .int .u64 x.expiry, .string x.body] 62))
      have BA : Hid (Below w.heap.size w (wr.alloc (.cells #[.string x.qu, .int .u64 x.id, .int .u32 x.tries, .int .u64 x.expiry, .string x.body] 62))) := HE.out.alloc HE.out.size _
      have cx := XA.out.cell (i := 5) (x := .slice (some ⟨b, o, none⟩) l.length c) rfl
      have y0 := (BoxL.new wr #[.string x.qu, .int .u64 x.id, .int .u32 x.tries, .int .u64 x.expiry, .string x.body] 62).cell (i := 0) (x := .string x.qu) rfl
      have y4 := (BoxL.new wr #[.string x.qu, .int .u64 x.id, .int .u32 x.tries, .int .u64 x.expiry, .string x.body] 62).cell (i := 4) (x := .string x.body) rfl
      have HX' := Lib.hid hx
      clear hx e0 e1 e2 e3 e4 hblt
      by_cases g0 : (l.length : Int) > 40
      · go_wp2
        go_ret
        exact ⟨BA.out, .inl ⟨rfl, fun h => by have := h.ms x (List.mem_of_getElem? HX'.out); omega⟩⟩
      by_cases g1 : (x.qu.size : Int) > 400
      · go_wp2
        go_ret
        exact ⟨BA.out, .inl ⟨rfl, fun h => by have := h.ms x (List.mem_of_getElem? HX'.out); omega⟩⟩
      by_cases g2 : (x.body.size : Int) > 2000
      · go_wp2
        go_ret
        exact ⟨BA.out, .inl ⟨rfl, fun h => by have := h.ms x (List.mem_of_getElem? HX'.out); omega⟩⟩
      have HS' : Hid (∀ m ∈ l.take (k + 1), l.length ≤ 40 ∧ m.qu.size ≤ 400 ∧ m.body.size ≤ 2000) := by
        intro m hm
        rw [List.take_add_one, HX'.out] at hm
        rcases List.mem_append.1 hm with hm | hm
        · exact HS.out m hm
        · simp at hm; subst hm; omega
      go_wp2
      go_roundg (l.length - (k + 1))
      case measure => omega
      case rel => exact ⟨k + 1, hlt, rfl, by go_num, HS'.out, BA.out, XA.out⟩
    · obtain rfl : k = l.length := by omega
      have d2 := HX1.out.cell (i := 2) (x := .slice a1 n1 k1) rfl
      have d3 := HX1.out.cell (i := 3) (x := .slice a2 n2 k2) rfl
      have d4 := HX1.out.cell (i := 4) (x := .slice a3 n3 k3) rfl
      have HS2 : Hid (∀ m ∈ l, l.length ≤ 40 ∧ m.qu.size ≤ 400 ∧ m.body.size ≤ 2000) := by have := HS.out; rw [List.take_length] at this; exact this
      by_cases hm : mm ≤ 100
      · have HMM := Lib.hid (HM.out.1 hm)
        go_wp2
        go_ret
        exact ⟨HE.out, .inr ⟨rfl, HS2.out, HMM.out.1, HMM.out.2.1, HMM.out.2.2⟩⟩
      · go_wp2
        go_ret
        exact ⟨HE.out, .inl ⟨rfl, fun h => by have := HM.out.2 ⟨h.i, h.lo, h.de⟩; omega⟩⟩
end Go.Proofs.YtgmneapgihakgaaGreatDoor
/- What the laws go through: dump's Light. -/
namespace Go.Proofs.YtgmneapgihakgaaGreatDoor
open Go.RowKit
structure DLightR (lq : List Qu) (lb : List Bnd) (lm : List Ms) : Prop where
  q : ∀ q ∈ lq, lq.length + lb.length + lm.length ≤ 40 ∧ q.nm.size ≤ 400 ∧ q.dead.size ≤ 400
  b : ∀ q ∈ lb, lq.length + lb.length + lm.length ≤ 40 ∧ q.ex.size ≤ 400 ∧ q.key.size ≤ 400 ∧ q.qu.size ≤ 400
  m : ∀ q ∈ lm, lq.length + lb.length + lm.length ≤ 40 ∧ q.qu.size ≤ 400 ∧ q.body.size ≤ 1000
theorem max2L {P : Program} (t : Array TypeId) (u : TypeId) (x0 x1 : Int) (W : World) : (Builtin.max_ t u #[.int .i64 x0, .int .i64 x1]).run P W = .ok (.int .i64 (mxI x0 x1)) W := by
  simp [Builtin.max_, Builtin.max2, mxI]
set_option maxHeartbeats 8000000 in
theorem dlight_any (clock last : Nat) (vq vb vm : Value) (lq : List Qu) (lb : List Bnd) (lm : List Ms) (w : World) (hq : SlV cvQu 5 w vq lq) (hb : SlV cvBn 4 w vb lb) (hm : SlV cvMs 5 w vm lm) (hzq : lq.length ≤ 140737488351232) (hzb : lb.length ≤ 140737488351232) (hzm : lm.length ≤ 140737488351232) :
    Calls Tryz.prog 41 #[.agg #[.int .u64 clock, .int .u64 last, vq, vb, vm]] w
      fun r w' => Below w.heap.size w w' ∧ ((r = .returned (.bool false) ∧ ¬ DLightR lq lb lm) ∨ (r = .returned (.bool true) ∧ DLightR lq lb lm)) := by
  obtain ⟨aq, bq, oq, cq, rfl, hlcq, hmxq, haq, hxq⟩ := hq.get
  have HAq := Lib.hid haq
  have HXq := Lib.hid hxq
  obtain ⟨ab, bb, ob, cb, rfl, hlcb, hmxb, hab, hxb⟩ := hb.get
  have HAb := Lib.hid hab
  have HXb := Lib.hid hxb
  obtain ⟨am, bm, om, cm, rfl, hlcm, hmxm, ham, hxm⟩ := hm.get
  have HAm := Lib.hid ham
  have HXm := Lib.hid hxm
  have X0 := Lib.hid (BoxL.new w #[.int .u64 clock, .int .u64 last, .slice aq lq.length cq, .slice ab lb.length cb, .slice am lm.length cm] 103)
  have HB0 : Hid (Below w.heap.size w (w.alloc (.cells #[.int .u64 clock, .int .u64 last, .slice aq lq.length cq, .slice ab lb.length cb, .slice am lm.length cm] 103))) := (Below.refl _ _).alloc (Nat.le_refl _) _
  have hmax2 := fun x0 x1 W => max2L (P := Tryz.prog) #[3, 3] 3 x0 x1 W
  have hmax3 := fun x0 x1 x2 W => max3 (P := Tryz.prog) #[3, 3, 3] 3 x0 x1 x2 W
  have c2 := X0.out.cell (i := 2) (x := .slice aq lq.length cq) rfl
  have c3 := X0.out.cell (i := 3) (x := .slice ab lb.length cb) rfl
  have c4 := X0.out.cell (i := 4) (x := .slice am lm.length cm) rfl
  have hw1 : IntKind.i64.wrap ((lq.length : Int) + lb.length) = (lq.length : Int) + lb.length := by simp [IntKind.wrap, IntKind.bits, IntKind.signed]; omega
  have hw2 : IntKind.i64.wrap ((lq.length : Int) + lb.length + lm.length) = (lq.length : Int) + lb.length + lm.length := by simp [IntKind.wrap, IntKind.bits, IntKind.signed]; omega
  clear hlcq hmxq haq hxq hlcb hmxb hab hxb hlcm hmxm ham hxm hq hb hm
  go_enter Tryz.func41, Tryz.ntmps41
  go_wp2
  go_loopg [24] lq.length (fun k0 i wr => ∃ k : Nat, k ≤ lq.length ∧ k0 = lq.length - k ∧ i = .int .i64 (k : Nat) ∧ Hid (∀ q ∈ lq.take k, lq.length + lb.length + lm.length ≤ 40 ∧ q.nm.size ≤ 400 ∧ q.dead.size ≤ 400) ∧ Hid (Below w.heap.size w wr) ∧ Hid (BoxL wr w.heap.size 103 #[.int .u64 clock, .int .u64 last, .slice aq lq.length cq, .slice ab lb.length cb, .slice am lm.length cm]))
  case atStart => exact ⟨0, Nat.zero_le _, rfl, rfl, by show ∀ q ∈ _, _; simp, HB0.out, X0.out⟩
  case round =>
    obtain ⟨k, hk, rfl, rfl, HS, HE, HX1⟩ := hrel
    rename World => wr
    by_cases hlt : k < lq.length
    · obtain ⟨x, hx⟩ : ∃ x, lq[k]? = some x := ⟨_, List.getElem?_eq_getElem hlt⟩
      obtain rfl : aq = some ⟨bq, oq, none⟩ := HAq.out.resolve_left (fun h => by rw [h] at hlt; cases hlt)
      obtain ⟨e0, e1, e2, e3, e4⟩ := atQu HXq.out hx
      have hblt : bq < w.heap.size := World.block_lt_of_cell? _ _ e0
      have f0 := (HE.out.cell (p := ⟨bq, oq + k * 5, none⟩) hblt).trans e0
      have f1 := (HE.out.cell (p := ⟨bq, oq + k * 5 + 1, none⟩) hblt).trans e1
      have f2 := (HE.out.cell (p := ⟨bq, oq + k * 5 + 2, none⟩) hblt).trans e2
      have f3 := (HE.out.cell (p := ⟨bq, oq + k * 5 + 3, none⟩) hblt).trans e3
      have f4 := (HE.out.cell (p := ⟨bq, oq + k * 5 + 4, none⟩) hblt).trans e4
      have XA := Lib.hid (HX1.out.alloc (.cells #[.string x.nm, .int .u32 x.most, .int .u64 x.ttl, .int .u32 x.tries, .string x.dead] 36))
      have BA : Hid (Below w.heap.size w (wr.alloc (.cells #[.string x.nm, .int .u32 x.most, .int .u64 x.ttl, .int .u32 x.tries, .string x.dead] 36))) := HE.out.alloc HE.out.size _
      have XN := BoxL.new wr #[.string x.nm, .int .u32 x.most, .int .u64 x.ttl, .int .u32 x.tries, .string x.dead] 36
      have y0 := XN.cell (i := 0) (x := .string x.nm) rfl
      have y4 := XN.cell (i := 4) (x := .string x.dead) rfl
      have HX' := Lib.hid hx
      clear hx XN hblt e0 e1 e2 e3 e4
      by_cases g0 : (lq.length : Int) + lb.length + lm.length > 40
      · go_wp2
        go_ret
        exact ⟨BA.out, .inl ⟨rfl, fun h => by have := h.q x (List.mem_of_getElem? HX'.out); omega⟩⟩
      obtain ⟨mm, hmm⟩ : ∃ mm, mm = mxI (x.nm.size : Int) x.dead.size := ⟨_, rfl⟩
      have HMM := Lib.hid hmm
      have hmxx : ∀ W, (Builtin.max_ #[3, 3] 3 #[.int .i64 (x.nm.size : Int), .int .i64 (x.dead.size : Int)]).run Tryz.prog W = .ok (.int .i64 mm) W := fun W => by rw [hmm]; exact hmax2 _ _ W
      have HM2 := Lib.hid hmax2
      have HM3 := Lib.hid hmax3
      clear hmm hmax2 hmax3
      by_cases g1 : mm > 400
      · go_wp2
        go_ret
        exact ⟨BA.out, .inl ⟨rfl, fun h => by have q := h.q x (List.mem_of_getElem? HX'.out); have e := HMM.out; have : mm ≤ 400 := (by rw [e]; simp only [mxI_le]; omega); omega⟩⟩
      have HS' : Hid (∀ q ∈ lq.take (k + 1), lq.length + lb.length + lm.length ≤ 40 ∧ q.nm.size ≤ 400 ∧ q.dead.size ≤ 400) := by
        intro q hq
        rw [List.take_add_one, HX'.out] at hq
        rcases List.mem_append.1 hq with hq | hq
        · exact HS.out q hq
        · simp at hq; subst hq; have := HMM.out; have g2 : mm ≤ 400 := (by omega); rw [HMM.out] at g2; simp only [mxI_le] at g2; omega
      go_wp2
      go_roundg (lq.length - (k + 1))
      case measure => omega
      case rel => exact ⟨k + 1, hlt, rfl, by go_num, HS'.out, BA.out, XA.out⟩
    · obtain rfl : k = lq.length := by omega
      have HSq : Hid (∀ q ∈ lq, lq.length + lb.length + lm.length ≤ 40 ∧ q.nm.size ≤ 400 ∧ q.dead.size ≤ 400) := by have := HS.out; rw [List.take_length] at this; exact this
      have HEq := HE
      have HXqq := HX1
      clear HS HE HX1
      have d3 := HXqq.out.cell (i := 3) (x := .slice ab lb.length cb) rfl
      go_wp2
      go_loopg [44] lb.length (fun k0 i wr => ∃ k : Nat, k ≤ lb.length ∧ k0 = lb.length - k ∧ i = .int .i64 (k : Nat) ∧ Hid (∀ q ∈ lb.take k, lq.length + lb.length + lm.length ≤ 40 ∧ q.ex.size ≤ 400 ∧ q.key.size ≤ 400 ∧ q.qu.size ≤ 400) ∧ Hid (Below w.heap.size w wr) ∧ Hid (BoxL wr w.heap.size 103 #[.int .u64 clock, .int .u64 last, .slice aq lq.length cq, .slice ab lb.length cb, .slice am lm.length cm]))
      case atStart => exact ⟨0, Nat.zero_le _, rfl, rfl, by show ∀ q ∈ _, _; simp, HEq.out, HXqq.out⟩
      case round =>
        obtain ⟨k, hk, rfl, rfl, HS, HE, HX1⟩ := hrel
        rename World => wr
        by_cases hlt : k < lb.length
        · obtain ⟨x, hx⟩ : ∃ x, lb[k]? = some x := ⟨_, List.getElem?_eq_getElem hlt⟩
          obtain rfl : ab = some ⟨bb, ob, none⟩ := HAb.out.resolve_left (fun h => by rw [h] at hlt; cases hlt)
          obtain ⟨e0, e1, e2, e3⟩ := atBn HXb.out hx
          have hblt : bb < w.heap.size := World.block_lt_of_cell? _ _ e0
          have f0 := (HE.out.cell (p := ⟨bb, ob + k * 4, none⟩) hblt).trans e0
          have f1 := (HE.out.cell (p := ⟨bb, ob + k * 4 + 1, none⟩) hblt).trans e1
          have f2 := (HE.out.cell (p := ⟨bb, ob + k * 4 + 2, none⟩) hblt).trans e2
          have f3 := (HE.out.cell (p := ⟨bb, ob + k * 4 + 3, none⟩) hblt).trans e3
          have XA := Lib.hid (HX1.out.alloc (.cells #[.string x.ex, .int .i64 x.kind, .string x.key, .string x.qu] 38))
          have BA : Hid (Below w.heap.size w (wr.alloc (.cells #[.string x.ex, .int .i64 x.kind, .string x.key, .string x.qu] 38))) := HE.out.alloc HE.out.size _
          have XN := BoxL.new wr #[.string x.ex, .int .i64 x.kind, .string x.key, .string x.qu] 38
          have y0 := XN.cell (i := 0) (x := .string x.ex) rfl
          have y2 := XN.cell (i := 2) (x := .string x.key) rfl
          have y3 := XN.cell (i := 3) (x := .string x.qu) rfl
          have HX' := Lib.hid hx
          clear hx XN hblt e0 e1 e2 e3
          by_cases g0 : (lq.length : Int) + lb.length + lm.length > 40
          · go_wp2
            go_ret
            exact ⟨BA.out, .inl ⟨rfl, fun h => by have := h.b x (List.mem_of_getElem? HX'.out); omega⟩⟩
          obtain ⟨mm, hmm⟩ : ∃ mm, mm = mxI (mxI (x.ex.size : Int) x.key.size) x.qu.size := ⟨_, rfl⟩
          have HMM := Lib.hid hmm
          have hmxx : ∀ W, (Builtin.max_ #[3, 3, 3] 3 #[.int .i64 (x.ex.size : Int), .int .i64 (x.key.size : Int), .int .i64 (x.qu.size : Int)]).run Tryz.prog W = .ok (.int .i64 mm) W := fun W => by rw [hmm]; exact hmax3 _ _ _ W
          have HM2 := Lib.hid hmax2
          have HM3 := Lib.hid hmax3
          clear hmm hmax2 hmax3
          by_cases g1 : mm > 400
          · go_wp2
            go_ret
            exact ⟨BA.out, .inl ⟨rfl, fun h => by have q := h.b x (List.mem_of_getElem? HX'.out); have e := HMM.out; have : mm ≤ 400 := (by rw [e]; simp only [mxI_le]; omega); omega⟩⟩
          have HS' : Hid (∀ q ∈ lb.take (k + 1), lq.length + lb.length + lm.length ≤ 40 ∧ q.ex.size ≤ 400 ∧ q.key.size ≤ 400 ∧ q.qu.size ≤ 400) := by
            intro q hq
            rw [List.take_add_one, HX'.out] at hq
            rcases List.mem_append.1 hq with hq | hq
            · exact HS.out q hq
            · simp at hq; subst hq; have := HMM.out; have g2 : mm ≤ 400 := (by omega); rw [HMM.out] at g2; simp only [mxI_le] at g2; omega
          go_wp2
          go_roundg (lb.length - (k + 1))
          case measure => omega
          case rel => exact ⟨k + 1, hlt, rfl, by go_num, HS'.out, BA.out, XA.out⟩
        · obtain rfl : k = lb.length := by omega
          have HSb : Hid (∀ q ∈ lb, lq.length + lb.length + lm.length ≤ 40 ∧ q.ex.size ≤ 400 ∧ q.key.size ≤ 400 ∧ q.qu.size ≤ 400) := by have := HS.out; rw [List.take_length] at this; exact this
          have HEb := HE
          have HXbb := HX1
          clear HS HE HX1
          have d4 := HXbb.out.cell (i := 4) (x := .slice am lm.length cm) rfl
          go_wp2
          go_loopg [67] lm.length (fun k0 i wr => ∃ k : Nat, k ≤ lm.length ∧ k0 = lm.length - k ∧ i = .int .i64 (k : Nat) ∧ Hid (∀ q ∈ lm.take k, lq.length + lb.length + lm.length ≤ 40 ∧ q.qu.size ≤ 400 ∧ q.body.size ≤ 1000) ∧ Hid (Below w.heap.size w wr) ∧ Hid (BoxL wr w.heap.size 103 #[.int .u64 clock, .int .u64 last, .slice aq lq.length cq, .slice ab lb.length cb, .slice am lm.length cm]))
          case atStart => exact ⟨0, Nat.zero_le _, rfl, rfl, by show ∀ q ∈ _, _; simp, HEb.out, HXbb.out⟩
          case round =>
            obtain ⟨k, hk, rfl, rfl, HS, HE, HX1⟩ := hrel
            rename World => wr
            by_cases hlt : k < lm.length
            · obtain ⟨x, hx⟩ : ∃ x, lm[k]? = some x := ⟨_, List.getElem?_eq_getElem hlt⟩
              obtain rfl : am = some ⟨bm, om, none⟩ := HAm.out.resolve_left (fun h => by rw [h] at hlt; cases hlt)
              obtain ⟨e0, e1, e2, e3, e4⟩ := atMs HXm.out hx
              have hblt : bm < w.heap.size := World.block_lt_of_cell? _ _ e0
              have f0 := (HE.out.cell (p := ⟨bm, om + k * 5, none⟩) hblt).trans e0
              have f1 := (HE.out.cell (p := ⟨bm, om + k * 5 + 1, none⟩) hblt).trans e1
              have f2 := (HE.out.cell (p := ⟨bm, om + k * 5 + 2, none⟩) hblt).trans e2
              have f3 := (HE.out.cell (p := ⟨bm, om + k * 5 + 3, none⟩) hblt).trans e3
              have f4 := (HE.out.cell (p := ⟨bm, om + k * 5 + 4, none⟩) hblt).trans e4
              have XA := Lib.hid (HX1.out.alloc (.cells #[.string x.qu, .int .u64 x.id, .int .u32 x.tries, .int .u64 x.expiry, .string x.body] 62))
              have BA : Hid (Below w.heap.size w (wr.alloc (.cells #[.string x.qu, .int .u64 x.id, .int .u32 x.tries, .int .u64 x.expiry, .string x.body] 62))) := HE.out.alloc HE.out.size _
              have XN := BoxL.new wr #[.string x.qu, .int .u64 x.id, .int .u32 x.tries, .int .u64 x.expiry, .string x.body] 62
              have y0 := XN.cell (i := 0) (x := .string x.qu) rfl
              have y4 := XN.cell (i := 4) (x := .string x.body) rfl
              have HX' := Lib.hid hx
              clear hx XN hblt e0 e1 e2 e3 e4
              by_cases g0 : (lq.length : Int) + lb.length + lm.length > 40
              · go_wp2
                go_ret
                exact ⟨BA.out, .inl ⟨rfl, fun h => by have := h.m x (List.mem_of_getElem? HX'.out); omega⟩⟩
              by_cases g1 : (x.qu.size : Int) > 400
              · go_wp2
                go_ret
                exact ⟨BA.out, .inl ⟨rfl, fun h => by have := h.m x (List.mem_of_getElem? HX'.out); omega⟩⟩
              by_cases g2 : (x.body.size : Int) > 1000
              · go_wp2
                go_ret
                exact ⟨BA.out, .inl ⟨rfl, fun h => by have := h.m x (List.mem_of_getElem? HX'.out); omega⟩⟩
              have HS' : Hid (∀ q ∈ lm.take (k + 1), lq.length + lb.length + lm.length ≤ 40 ∧ q.qu.size ≤ 400 ∧ q.body.size ≤ 1000) := by
                intro q hq
                rw [List.take_add_one, HX'.out] at hq
                rcases List.mem_append.1 hq with hq | hq
                · exact HS.out q hq
                · simp at hq; subst hq; omega
              go_wp2
              go_roundg (lm.length - (k + 1))
              case measure => omega
              case rel => exact ⟨k + 1, hlt, rfl, by go_num, HS'.out, BA.out, XA.out⟩
            · obtain rfl : k = lm.length := by omega
              have HSm : Hid (∀ q ∈ lm, lq.length + lb.length + lm.length ≤ 40 ∧ q.qu.size ≤ 400 ∧ q.body.size ≤ 1000) := by have := HS.out; rw [List.take_length] at this; exact this
              have HEm := HE
              have HXmm := HX1
              clear HS HE HX1
              go_wp2
              go_ret
              exact ⟨HEm.out, .inr ⟨rfl, HSq.out, HSb.out, HSm.out⟩⟩
end Go.Proofs.YtgmneapgihakgaaGreatDoor
/- ReportPlain: what the law stands on. -/
namespace Go.Proofs.YtgmneapgihakgaaGreatDoor
open Go.RowKit
/-- A reply, a dump, a report as they lie. -/
structure Rpl where
  e : Int
  n : Nat
  ids : List Nat
  lost : List Nat
  dead : List Nat
  l : List Ms
structure Dmp where
  clock : Nat
  last : Nat
  q : List Qu
  b : List Bnd
  m : List Ms
structure Chk where
  n0 : Nat
  n1 : Nat
  n2 : Nat
  n3 : Nat
  l4 : List Nat
  l5 : List Nat
  pairs : Int
  bytes : Nat
  deep : Int
def bMs (m : Ms) : Prop := m.id < 18446744073709551616 ∧ m.tries < 4294967296 ∧ m.expiry < 18446744073709551616
def bQu (q : Qu) : Prop := q.most < 4294967296 ∧ q.ttl < 18446744073709551616 ∧ q.tries < 4294967296
def bBn (b : Bnd) : Prop := -9223372036854775808 ≤ b.kind ∧ b.kind ≤ 9223372036854775807
structure RplB (r : Rpl) : Prop where
  e0 : -9223372036854775808 ≤ r.e
  e1 : r.e ≤ 9223372036854775807
  n : r.n < 18446744073709551616
  ids : ∀ n ∈ r.ids, n < 18446744073709551616
  lost : ∀ n ∈ r.lost, n < 18446744073709551616
  dead : ∀ n ∈ r.dead, n < 18446744073709551616
  l : ∀ m ∈ r.l, bMs m
structure DmpB (d : Dmp) : Prop where
  c : d.clock < 18446744073709551616
  la : d.last < 18446744073709551616
  q : ∀ x ∈ d.q, bQu x
  b : ∀ x ∈ d.b, bBn x
  m : ∀ x ∈ d.m, bMs x
  zq : d.q.length ≤ 140737488351232
  zb : d.b.length ≤ 140737488351232
  zm : d.m.length ≤ 140737488351232
structure ChkB (c : Chk) : Prop where
  b4 : ∀ n ∈ c.l4, n < 4294967296
  b5 : ∀ n ∈ c.l5, n < 4294967296
  p0 : -9223372036854775808 ≤ c.pairs
  p1 : c.pairs ≤ 9223372036854775807
  q0 : -9223372036854775808 ≤ c.deep
  q1 : c.deep ≤ 9223372036854775807
  bytes : c.bytes < 18446744073709551616
def rplT (r : Rpl) : List UInt8 := if r.e = 0 then headT r.n r.ids r.lost r.dead ++ tailF msT r.l else errT r.e
theorem rpl_any (r : Rpl) (h : RplB r) (hl : LightR r.l r.ids.length r.lost.length r.dead.length) (vi vl vd vm : Value) (w : World) (ht : Tb w)
    (hi : SlP (fun n : Nat => .int .u64 n) w vi r.ids) (hlo : SlP (fun n : Nat => .int .u64 n) w vl r.lost) (hde : SlP (fun n : Nat => .int .u64 n) w vd r.dead) (hm : SlV cvMs 5 w vm r.l) :
    Calls Tryz.prog 47 #[.agg #[.int .i64 r.e, .int .u64 r.n, vi, vl, vd, vm]] w fun e w' => e = .returned (.string (str (rplT r))) ∧ Below w.heap.size w w' := by
  unfold rplT
  by_cases he : r.e = 0
  · rw [if_pos he, he]
    have hM : ∀ m ∈ r.l, OkM m := fun m hm => by
      have a := hl.ms m hm
      have b := h.l m hm
      exact ⟨by omega, a.2.2, b.1, b.2.1, b.2.2⟩
    have h40 : r.l.length ≤ 40 := by
      rcases hrl : r.l with _ | ⟨x, t⟩
      · simp
      · have := (hl.ms x (by rw [hrl]; simp)).1
        rw [hrl] at this; exact this
    have hlen : (tailF msT r.l).length ≤ r.l.length * 30003 := by
      have : ∀ l : List Ms, (∀ m ∈ l, OkM m) → (tailF msT l).length ≤ l.length * 30003 := by
        intro l
        induction l with
        | nil => intro _; simp [tailF]
        | cons x t ih =>
          intro hx
          have i1 := ih (fun y hy => hx y (by simp [hy]))
          have i2 := msT_len x (hx x (by simp))
          have e : tailF msT (x :: t) = [10, 32, 32] ++ msT x ++ tailF msT t := by simp [tailF]
          rw [e, List.length_cons, Nat.add_mul]
          simp only [List.length_append, List.length_cons, List.length_nil]
          omega
      exact this r.l hM
    have b40 : r.l.length * 30003 ≤ 40 * 30003 := Nat.mul_le_mul_right _ h40
    exact reply_ok msT r.n h.n r.ids r.lost r.dead vi vl vd vm r.l w hi hlo hde hm h.ids h.lost h.dead (by have := hl.i; omega) (by have := hl.lo; omega) (by have := hl.de; omega) (by omega) (by omega) (.inr ht) (fun m hm W hW => message_line m (hM m hm) W (ht.below hW))
  · rw [if_neg he]
    exact reply_err r.e he h.e0 h.e1 r.n vi vl vd vm w ht
def dmpT (d : Dmp) : List UInt8 := dumT d.clock d.last d.q d.b d.m
theorem dmp_any (d : Dmp) (h : DmpB d) (hl : DLightR d.q d.b d.m) (vq vb vm : Value) (w : World) (ht : Tb w) (hq : SlV cvQu 5 w vq d.q) (hb : SlV cvBn 4 w vb d.b) (hm : SlV cvMs 5 w vm d.m) :
    Calls Tryz.prog 50 #[.agg #[.int .u64 d.clock, .int .u64 d.last, vq, vb, vm]] w fun e w' => e = .returned (.string (str (dmpT d))) ∧ Below w.heap.size w w' := by
  refine dump_any d.clock d.last vq vb vm d.q d.b d.m w ht h.c h.la hq hb hm (fun x hx => ?_) (fun x hx => ?_) (fun x hx => ?_) ?_ ?_ ?_
  · have a := hl.q x hx; have b := h.q x hx; exact ⟨by omega, by omega, b.1, b.2.1, b.2.2⟩
  · have a := hl.b x hx; have b := h.b x hx; exact ⟨by omega, by omega, by omega, b.1, b.2⟩
  · have a := hl.m x hx; have b := h.m x hx; exact ⟨by omega, by omega, b.1, b.2.1, b.2.2⟩
  · rcases hd : d.q with _ | ⟨x, t⟩
    · simp
    · have := (hl.q x (by rw [hd]; simp)).1; rw [← hd]; omega
  · rcases hd : d.b with _ | ⟨x, t⟩
    · simp
    · have := (hl.b x (by rw [hd]; simp)).1; rw [← hd]; omega
  · rcases hd : d.m with _ | ⟨x, t⟩
    · simp
    · have := (hl.m x (by rw [hd]; simp)).1; rw [← hd]; omega
def FewR (c : Chk) : Prop := c.n0 ≤ 200 ∧ c.n1 ≤ 200 ∧ c.n2 ≤ 200 ∧ c.n3 ≤ 200 ∧ c.l4.length ≤ 200 ∧ c.l5.length ≤ 200
def chkT (c : Chk) : List UInt8 := pagT c.n0 c.n1 c.n2 c.n3 c.l4 c.l5 c.pairs c.deep c.bytes
theorem chk_any (c : Chk) (h : ChkB c) (hl : FewR c) (a0 a1 a2 a3 a4 a5 : Option Addr) (k0 k1 k2 k3 k4 k5 : Nat) (w : World) (ht : Tb w)
    (s4 : SlP (fun n : Nat => .int .u32 n) w (.slice a4 c.l4.length k4) c.l4) (s5 : SlP (fun n : Nat => .int .u32 n) w (.slice a5 c.l5.length k5) c.l5) :
    Calls Tryz.prog 52 #[.agg #[.slice a0 c.n0 k0, .slice a1 c.n1 k1, .slice a2 c.n2 k2, .slice a3 c.n3 k3, .slice a4 c.l4.length k4, .slice a5 c.l5.length k5, .int .i64 c.pairs, .int .u64 c.bytes, .int .i64 c.deep]] w fun e w' => e = .returned (.string (str (chkT c))) ∧ Below w.heap.size w w' :=
  pages_any a0 a1 a2 a3 a4 a5 c.n0 c.n1 c.n2 c.n3 k0 k1 k2 k3 k4 k5 c.l4 c.l5 c.pairs c.deep c.bytes w ht hl.1 hl.2.1 hl.2.2.1 hl.2.2.2.1 hl.2.2.2.2.1 hl.2.2.2.2.2 h.b4 h.b5 h.p0 h.p1 h.q0 h.q1 h.bytes s4 s5
theorem rplT_ln (r : Rpl) : Ln (rplT r) (if r.e = 0 then r.l.length else 0) := by
  unfold rplT
  split
  · exact ln_reply _ _ _ _ _
  · exact ln_err _
theorem slp_below {α : Type} {enc : α → Value} {v : Value} {k : List α} {w W : World} (h : SlP enc w v k) (hb : Below w.heap.size w W) : SlP enc W v k := by
  obtain ⟨a, b, o, c, h1, h2, h3⟩ := h
  exact ⟨a, b, o, c, h1, h2, fun j x hj => (hb.cell (p := ⟨b, o + j, none⟩) (World.block_lt_of_cell? _ _ (h3 j x hj))).trans (h3 j x hj)⟩
end Go.Proofs.YtgmneapgihakgaaGreatDoor
/- ReportPlain: where the law does not go through. -/
namespace Go.Proofs.YtgmneapgihakgaaGreatDoor
open Go.RowKit
theorem box3 (e : Int) (x1 x2 x3 x4 y0 y1 z0 z1 z2 z3 z4 z5 z6 z7 z8 : Value) (am aq ab an : Option Addr) (nm nq nb nn km kq kb kn : Nat) (w : World) : BoxL (((w.alloc (.cells #[.int .i64 e, x1, x2, x3, x4, .slice am nm km] 101)).alloc (.cells #[y0, y1, .slice aq nq kq, .slice ab nb kb, .slice an nn kn] 103)).alloc (.cells #[z0, z1, z2, z3, z4, z5, z6, z7, z8] 106)) w.heap.size 101 #[.int .i64 e, x1, x2, x3, x4, .slice am nm km] ∧ BoxL (((w.alloc (.cells #[.int .i64 e, x1, x2, x3, x4, .slice am nm km] 101)).alloc (.cells #[y0, y1, .slice aq nq kq, .slice ab nb kb, .slice an nn kn] 103)).alloc (.cells #[z0, z1, z2, z3, z4, z5, z6, z7, z8] 106)) (w.heap.size + 1) 103 #[y0, y1, .slice aq nq kq, .slice ab nb kb, .slice an nn kn] ∧ BoxL (((w.alloc (.cells #[.int .i64 e, x1, x2, x3, x4, .slice am nm km] 101)).alloc (.cells #[y0, y1, .slice aq nq kq, .slice ab nb kb, .slice an nn kn] 103)).alloc (.cells #[z0, z1, z2, z3, z4, z5, z6, z7, z8] 106)) (w.heap.size + 1 + 1) 106 #[z0, z1, z2, z3, z4, z5, z6, z7, z8] ∧ Below w.heap.size w (((w.alloc (.cells #[.int .i64 e, x1, x2, x3, x4, .slice am nm km] 101)).alloc (.cells #[y0, y1, .slice aq nq kq, .slice ab nb kb, .slice an nn kn] 103)).alloc (.cells #[z0, z1, z2, z3, z4, z5, z6, z7, z8] 106)) := by
  have a1 := BoxL.new w #[.int .i64 e, x1, x2, x3, x4, .slice am nm km] 101
  have a2 := a1.alloc (.cells #[y0, y1, .slice aq nq kq, .slice ab nb kb, .slice an nn kn] 103)
  have a3 := a2.alloc (.cells #[z0, z1, z2, z3, z4, z5, z6, z7, z8] 106)
  have b2 := BoxL.new (w.alloc (.cells #[.int .i64 e, x1, x2, x3, x4, .slice am nm km] 101)) #[y0, y1, .slice aq nq kq, .slice ab nb kb, .slice an nn kn] 103
  have b3 := b2.alloc (.cells #[z0, z1, z2, z3, z4, z5, z6, z7, z8] 106)
  have c3 := BoxL.new ((w.alloc (.cells #[.int .i64 e, x1, x2, x3, x4, .slice am nm km] 101)).alloc (.cells #[y0, y1, .slice aq nq kq, .slice ab nb kb, .slice an nn kn] 103)) #[z0, z1, z2, z3, z4, z5, z6, z7, z8] 106
  rw [World.size_alloc] at b3
  rw [World.size_alloc, World.size_alloc] at c3
  exact ⟨a3, b3, c3, (((Below.refl _ _).alloc (Nat.le_refl _) _).alloc (by simp) _).alloc (by simp; omega) _⟩
structure Inv3 (rx : Array Value) (ry : Array Value) (rz : Array Value) (w V : World) : Prop where
  x : BoxL V w.heap.size 101 rx
  y : BoxL V (w.heap.size + 1) 103 ry
  z : BoxL V (w.heap.size + 1 + 1) 106 rz
  b : Below w.heap.size w V
theorem Inv3.step {rx ry rz : Array Value} {w V V' : World} (h : Inv3 rx ry rz w V) (hb : Below V.heap.size V V') : Inv3 rx ry rz w V' := by
  obtain ⟨h0, h1, h2, h3⟩ := h
  exact ⟨h0.below hb h0.lt, h1.below hb h1.lt, h2.below hb h2.lt, below_step h3 hb⟩
set_option maxHeartbeats 8000000 in
theorem plain_no1 (e : Int) (x1 x2 x3 x4 y0 y1 z0 z1 z2 z3 z4 z5 z6 z7 z8 : Value) (am aq ab an : Option Addr) (nm nq nb nn km kq kb kn : Nat) (w : World)
    (HA : ∀ W, Below w.heap.size w W → Calls Tryz.prog 39 #[] W fun e w' => e = .returned (.bool true) ∧ Below W.heap.size W w')
    (HL : ∀ W, Below w.heap.size w W → Calls Tryz.prog 40 #[.agg #[.int .i64 e, x1, x2, x3, x4, .slice am nm km]] W fun e w' => e = .returned (.bool false) ∧ Below W.heap.size W w') :
    Calls Tryz.prog 8 #[.agg #[.int .i64 e, x1, x2, x3, x4, .slice am nm km], .agg #[y0, y1, .slice aq nq kq, .slice ab nb kb, .slice an nn kn], .agg #[z0, z1, z2, z3, z4, z5, z6, z7, z8]] w fun e w' => e = .returned (.bool true) ∧ Below w.heap.size w w' := by
  have H0 : Hid (Inv3 #[.int .i64 e, x1, x2, x3, x4, .slice am nm km] #[y0, y1, .slice aq nq kq, .slice ab nb kb, .slice an nn kn] #[z0, z1, z2, z3, z4, z5, z6, z7, z8] w (((w.alloc (.cells #[.int .i64 e, x1, x2, x3, x4, .slice am nm km] 101)).alloc (.cells #[y0, y1, .slice aq nq kq, .slice ab nb kb, .slice an nn kn] 103)).alloc (.cells #[z0, z1, z2, z3, z4, z5, z6, z7, z8] 106))) := by
    have h := box3 e x1 x2 x3 x4 y0 y1 z0 z1 z2 z3 z4 z5 z6 z7 z8 am aq ab an nm nq nb nn km kq kb kn w
    exact ⟨h.1, h.2.1, h.2.2.1, h.2.2.2⟩
  have HAA : Hid (∀ W, Below w.heap.size w W → Calls Tryz.prog 39 #[] W fun e w' => e = .returned (.bool true) ∧ Below W.heap.size W w') := HA
  have HLL := Lib.hid HL
  clear HA HL
  go_enter Tryz.func8, Tryz.ntmps8
  go_wp2_with (first
    | (go_at_call 39; (with_reducible refine (HAA.out _ H0.out.b).mono ?_); rintro _ w1 ⟨rfl, hb⟩; have H1 := Lib.hid (H0.out.step hb); clear hb; have r0 := (H1.out.x).cell (i := 0) (x := .int .i64 e) rfl; have r1 := (H1.out.x).cell (i := 1) (x := x1) rfl; have r2 := (H1.out.x).cell (i := 2) (x := x2) rfl; have r3 := (H1.out.x).cell (i := 3) (x := x3) rfl; have r4 := (H1.out.x).cell (i := 4) (x := x4) rfl; have r5 := (H1.out.x).cell (i := 5) (x := .slice am nm km) rfl)
    | (go_at_call 40; (with_reducible refine (HLL.out _ H1.out.b).mono ?_); rintro _ w2 ⟨rfl, hb⟩; have H2 := Lib.hid (H1.out.step hb); clear hb; skip))
  go_ret
  exact ⟨rfl, H2.out.b⟩
set_option maxHeartbeats 8000000 in
theorem plain_no2 (e : Int) (x1 x2 x3 x4 y0 y1 z0 z1 z2 z3 z4 z5 z6 z7 z8 : Value) (am aq ab an : Option Addr) (nm nq nb nn km kq kb kn : Nat) (w : World)
    (HA : ∀ W, Below w.heap.size w W → Calls Tryz.prog 39 #[] W fun e w' => e = .returned (.bool true) ∧ Below W.heap.size W w')
    (HL : ∀ W, Below w.heap.size w W → Calls Tryz.prog 40 #[.agg #[.int .i64 e, x1, x2, x3, x4, .slice am nm km]] W fun e w' => e = .returned (.bool true) ∧ Below W.heap.size W w')
    (HD : ∀ W, Below w.heap.size w W → Calls Tryz.prog 41 #[.agg #[y0, y1, .slice aq nq kq, .slice ab nb kb, .slice an nn kn]] W fun e w' => e = .returned (.bool false) ∧ Below W.heap.size W w') :
    Calls Tryz.prog 8 #[.agg #[.int .i64 e, x1, x2, x3, x4, .slice am nm km], .agg #[y0, y1, .slice aq nq kq, .slice ab nb kb, .slice an nn kn], .agg #[z0, z1, z2, z3, z4, z5, z6, z7, z8]] w fun e w' => e = .returned (.bool true) ∧ Below w.heap.size w w' := by
  have H0 : Hid (Inv3 #[.int .i64 e, x1, x2, x3, x4, .slice am nm km] #[y0, y1, .slice aq nq kq, .slice ab nb kb, .slice an nn kn] #[z0, z1, z2, z3, z4, z5, z6, z7, z8] w (((w.alloc (.cells #[.int .i64 e, x1, x2, x3, x4, .slice am nm km] 101)).alloc (.cells #[y0, y1, .slice aq nq kq, .slice ab nb kb, .slice an nn kn] 103)).alloc (.cells #[z0, z1, z2, z3, z4, z5, z6, z7, z8] 106))) := by
    have h := box3 e x1 x2 x3 x4 y0 y1 z0 z1 z2 z3 z4 z5 z6 z7 z8 am aq ab an nm nq nb nn km kq kb kn w
    exact ⟨h.1, h.2.1, h.2.2.1, h.2.2.2⟩
  have HAA : Hid (∀ W, Below w.heap.size w W → Calls Tryz.prog 39 #[] W fun e w' => e = .returned (.bool true) ∧ Below W.heap.size W w') := HA
  have HLL := Lib.hid HL
  have HDD := Lib.hid HD
  clear HA HL HD
  go_enter Tryz.func8, Tryz.ntmps8
  go_wp2_with (first
    | (go_at_call 39; (with_reducible refine (HAA.out _ H0.out.b).mono ?_); rintro _ w1 ⟨rfl, hb⟩; have H1 := Lib.hid (H0.out.step hb); clear hb; have r0 := (H1.out.x).cell (i := 0) (x := .int .i64 e) rfl; have r1 := (H1.out.x).cell (i := 1) (x := x1) rfl; have r2 := (H1.out.x).cell (i := 2) (x := x2) rfl; have r3 := (H1.out.x).cell (i := 3) (x := x3) rfl; have r4 := (H1.out.x).cell (i := 4) (x := x4) rfl; have r5 := (H1.out.x).cell (i := 5) (x := .slice am nm km) rfl)
    | (go_at_call 40; (with_reducible refine (HLL.out _ H1.out.b).mono ?_); rintro _ w2 ⟨rfl, hb⟩; have H2 := Lib.hid (H1.out.step hb); clear hb; have d0 := (H2.out.y).cell (i := 0) (x := y0) rfl; have d1 := (H2.out.y).cell (i := 1) (x := y1) rfl; have d2 := (H2.out.y).cell (i := 2) (x := .slice aq nq kq) rfl; have d3 := (H2.out.y).cell (i := 3) (x := .slice ab nb kb) rfl; have d4 := (H2.out.y).cell (i := 4) (x := .slice an nn kn) rfl)
    | (go_at_call 41; (with_reducible refine (HDD.out _ H2.out.b).mono ?_); rintro _ w3 ⟨rfl, hb⟩; have H3 := Lib.hid (H2.out.step hb); clear hb; skip))
  go_ret
  exact ⟨rfl, H3.out.b⟩
set_option maxHeartbeats 8000000 in
theorem plain_no3 (e : Int) (x1 x2 x3 x4 y0 y1 z0 z1 z2 z3 z4 z5 z6 z7 z8 : Value) (am aq ab an : Option Addr) (nm nq nb nn km kq kb kn : Nat) (w : World)
    (HA : ∀ W, Below w.heap.size w W → Calls Tryz.prog 39 #[] W fun e w' => e = .returned (.bool true) ∧ Below W.heap.size W w')
    (HL : ∀ W, Below w.heap.size w W → Calls Tryz.prog 40 #[.agg #[.int .i64 e, x1, x2, x3, x4, .slice am nm km]] W fun e w' => e = .returned (.bool true) ∧ Below W.heap.size W w')
    (HD : ∀ W, Below w.heap.size w W → Calls Tryz.prog 41 #[.agg #[y0, y1, .slice aq nq kq, .slice ab nb kb, .slice an nn kn]] W fun e w' => e = .returned (.bool true) ∧ Below W.heap.size W w')
    (HF : ∀ W, Below w.heap.size w W → Calls Tryz.prog 42 #[.agg #[z0, z1, z2, z3, z4, z5, z6, z7, z8]] W fun e w' => e = .returned (.bool false) ∧ Below W.heap.size W w') :
    Calls Tryz.prog 8 #[.agg #[.int .i64 e, x1, x2, x3, x4, .slice am nm km], .agg #[y0, y1, .slice aq nq kq, .slice ab nb kb, .slice an nn kn], .agg #[z0, z1, z2, z3, z4, z5, z6, z7, z8]] w fun e w' => e = .returned (.bool true) ∧ Below w.heap.size w w' := by
  have H0 : Hid (Inv3 #[.int .i64 e, x1, x2, x3, x4, .slice am nm km] #[y0, y1, .slice aq nq kq, .slice ab nb kb, .slice an nn kn] #[z0, z1, z2, z3, z4, z5, z6, z7, z8] w (((w.alloc (.cells #[.int .i64 e, x1, x2, x3, x4, .slice am nm km] 101)).alloc (.cells #[y0, y1, .slice aq nq kq, .slice ab nb kb, .slice an nn kn] 103)).alloc (.cells #[z0, z1, z2, z3, z4, z5, z6, z7, z8] 106))) := by
    have h := box3 e x1 x2 x3 x4 y0 y1 z0 z1 z2 z3 z4 z5 z6 z7 z8 am aq ab an nm nq nb nn km kq kb kn w
    exact ⟨h.1, h.2.1, h.2.2.1, h.2.2.2⟩
  have HAA : Hid (∀ W, Below w.heap.size w W → Calls Tryz.prog 39 #[] W fun e w' => e = .returned (.bool true) ∧ Below W.heap.size W w') := HA
  have HLL := Lib.hid HL
  have HDD := Lib.hid HD
  have HFF := Lib.hid HF
  clear HA HL HD HF
  go_enter Tryz.func8, Tryz.ntmps8
  go_wp2_with (first
    | (go_at_call 39; (with_reducible refine (HAA.out _ H0.out.b).mono ?_); rintro _ w1 ⟨rfl, hb⟩; have H1 := Lib.hid (H0.out.step hb); clear hb; have r0 := (H1.out.x).cell (i := 0) (x := .int .i64 e) rfl; have r1 := (H1.out.x).cell (i := 1) (x := x1) rfl; have r2 := (H1.out.x).cell (i := 2) (x := x2) rfl; have r3 := (H1.out.x).cell (i := 3) (x := x3) rfl; have r4 := (H1.out.x).cell (i := 4) (x := x4) rfl; have r5 := (H1.out.x).cell (i := 5) (x := .slice am nm km) rfl)
    | (go_at_call 40; (with_reducible refine (HLL.out _ H1.out.b).mono ?_); rintro _ w2 ⟨rfl, hb⟩; have H2 := Lib.hid (H1.out.step hb); clear hb; have d0 := (H2.out.y).cell (i := 0) (x := y0) rfl; have d1 := (H2.out.y).cell (i := 1) (x := y1) rfl; have d2 := (H2.out.y).cell (i := 2) (x := .slice aq nq kq) rfl; have d3 := (H2.out.y).cell (i := 3) (x := .slice ab nb kb) rfl; have d4 := (H2.out.y).cell (i := 4) (x := .slice an nn kn) rfl)
    | (go_at_call 41; (with_reducible refine (HDD.out _ H2.out.b).mono ?_); rintro _ w3 ⟨rfl, hb⟩; have H3 := Lib.hid (H2.out.step hb); clear hb; have c0 := (H3.out.z).cell (i := 0) (x := z0) rfl; have c1 := (H3.out.z).cell (i := 1) (x := z1) rfl; have c2 := (H3.out.z).cell (i := 2) (x := z2) rfl; have c3 := (H3.out.z).cell (i := 3) (x := z3) rfl; have c4 := (H3.out.z).cell (i := 4) (x := z4) rfl; have c5 := (H3.out.z).cell (i := 5) (x := z5) rfl; have c6 := (H3.out.z).cell (i := 6) (x := z6) rfl; have c7 := (H3.out.z).cell (i := 7) (x := z7) rfl; have c8 := (H3.out.z).cell (i := 8) (x := z8) rfl)
    | (go_at_call 42; (with_reducible refine (HFF.out _ H3.out.b).mono ?_); rintro _ w4 ⟨rfl, hb⟩; have H4 := Lib.hid (H3.out.step hb); clear hb; skip))
  go_ret
  exact ⟨rfl, H4.out.b⟩
end Go.Proofs.YtgmneapgihakgaaGreatDoor
