/- The contract of Less, and of the laws' own example. -/
import Derived.Test.YtgkonmidgeanmaaDoorKey
import Derived.Deep.RegionWith
import Derived.Deep.DeepCutAuto
import Derived.Deep.CutRange
namespace Go.Proofs.YtgkonmidgeanmaaDoor
open Go.RowKit
theorem Sl.nil (w : World) : Sl w (.slice none 0 0) [] := ⟨none, 0, 0, 0, rfl, .inl rfl, fun j p hj => by simp at hj⟩
theorem Sl.one (w : World) (p : Ord.P) (T : TypeId) : Sl (w.alloc (.cells #[.bool p.t, .int .u64 p.n, .string (str p.s)] T)) (.slice (some ⟨w.heap.size, 0, none⟩) 1 1) [p] := by
  refine ⟨_, w.heap.size, 0, 1, rfl, .inr rfl, fun j q hj => ?_⟩
  match j, hj with
  | 0, hj =>
    simp at hj
    subst hj
    refine ⟨?_, ?_, ?_⟩ <;> simp
theorem lessR_cons (p q : Ord.P) (l m : List Ord.P) : Ord.lessR (p :: l) (q :: m) = if Ord.lessP p q then true else if Ord.lessP q p then false else Ord.lessR l m := rfl
theorem drop_cons (l : List Ord.P) (k : Nat) (p : Ord.P) (h : l[k]? = some p) : l.drop k = p :: l.drop (k + 1) := by
  obtain ⟨hk, he⟩ := List.getElem?_eq_some_iff.1 h
  rw [List.drop_eq_getElem_cons hk, he]
theorem lessR_end (l m : List Ord.P) (k : Nat) (hk : k = min l.length m.length) : Ord.lessR (l.drop k) (m.drop k) = decide ((l.length : Int) < (m.length : Int)) := by
  rcases Nat.lt_or_ge l.length m.length with h | h
  · have h1 : l.drop k = [] := List.drop_of_length_le (by omega)
    rw [h1]
    cases hm : m.drop k with
    | nil => have := congrArg List.length hm; rw [List.length_drop] at this; simp at this; omega
    | cons a x => simp [Ord.lessR]; omega
  · have h1 : m.drop k = [] := List.drop_of_length_le (by omega)
    rw [h1]
    have h2 : ¬ ((l.length : Int) < (m.length : Int)) := by omega
    rw [decide_eq_false h2]
    cases l.drop k <;> rfl
set_option maxHeartbeats 2000000 in
set_option maxRecDepth 100000 in
theorem lessRow_any (v u : Value) (l r : List Ord.P) (hll : l.length ≤ 1000) (_hlr : r.length ≤ 1000) (w : World) (hv : Sl w v l) (hu : Sl w u r) :
    Calls Tryd.prog 18 #[v, u] w fun e w' => e = .returned (.bool (Ord.lessR l r)) ∧ Below w.heap.size w w' := by
  obtain ⟨a, b, o, c, rfl, ha, hx⟩ := hv
  obtain ⟨a', b', o', c', rfl, ha', hx'⟩ := hu
  have HX := Lib.hid hx
  have HA := Lib.hid ha
  have HX' := Lib.hid hx'
  have HA' := Lib.hid ha'
  clear ha hx ha' hx'
  obtain ⟨z, hz⟩ : ∃ z : Nat, z = min l.length r.length := ⟨_, rfl⟩
  have hmin : min (l.length : Int) (r.length : Int) = (z : Int) := by omega
  have HZ := Lib.hid hz
  clear hz
  go_enter Tryd.func18, Tryd.ntmps18
  go_wp2
  go_loopg [11] z (fun g i wr => ∃ k : Nat, k ≤ z ∧ g = z - k ∧ i = .int .i64 k ∧ Hid (Ord.lessR l r = Ord.lessR (l.drop k) (r.drop k)) ∧ Hid (Below w.heap.size w wr))
  case atStart => exact ⟨0, Nat.zero_le _, rfl, rfl, by rw [List.drop_zero, List.drop_zero]; rfl, Below.refl _ _⟩
  case round =>
    obtain ⟨k, hk, rfl, rfl, HK, HB⟩ := hrel
    by_cases hlt : k < z
    · have hlt1 : k < l.length := by have := HZ.out; omega
      have hlt2 : k < r.length := by have := HZ.out; omega
      have hk1 : (k : Int) < (l.length : Int) := by omega
      have hk2 : (k : Int) < (r.length : Int) := by omega
      obtain ⟨p, hp⟩ : ∃ p, l[k]? = some p := ⟨_, List.getElem?_eq_getElem hlt1⟩
      obtain ⟨q, hq⟩ : ∃ q, r[k]? = some q := ⟨_, List.getElem?_eq_getElem hlt2⟩
      obtain ⟨e0, e1, e2⟩ := HX.out k p hp
      obtain ⟨f0, f1, f2⟩ := HX'.out k q hq
      have hb1 : b < w.heap.size := World.block_lt_of_cell? _ _ e0
      have hb2 : b' < w.heap.size := World.block_lt_of_cell? _ _ f0
      obtain rfl : a = some ⟨b, o, none⟩ := by
        rcases HA.out with h | h
        · rw [h] at hlt1; cases hlt1
        · exact h
      obtain rfl : a' = some ⟨b', o', none⟩ := by
        rcases HA'.out with h | h
        · rw [h] at hlt2; cases hlt2
        · exact h
      have HD : Hid (∀ W, Below w.heap.size w W → (W.cell? ⟨b, o + k * 3, none⟩ = some (.bool p.t) ∧ W.cell? ⟨b, o + k * 3 + 1, none⟩ = some (.int .u64 p.n) ∧ W.cell? ⟨b, o + k * 3 + 2, none⟩ = some (.string (str p.s))) ∧
          (W.cell? ⟨b', o' + k * 3, none⟩ = some (.bool q.t) ∧ W.cell? ⟨b', o' + k * 3 + 1, none⟩ = some (.int .u64 q.n) ∧ W.cell? ⟨b', o' + k * 3 + 2, none⟩ = some (.string (str q.s)))) := fun W hW =>
        ⟨⟨(hW.cell (p := ⟨b, o + k * 3, none⟩) hb1).trans e0, (hW.cell (p := ⟨b, o + k * 3 + 1, none⟩) hb1).trans e1, (hW.cell (p := ⟨b, o + k * 3 + 2, none⟩) hb1).trans e2⟩,
          (hW.cell (p := ⟨b', o' + k * 3, none⟩) hb2).trans f0, (hW.cell (p := ⟨b', o' + k * 3 + 1, none⟩) hb2).trans f1, (hW.cell (p := ⟨b', o' + k * 3 + 2, none⟩) hb2).trans f2⟩
      clear e0 e1 e2 f0 f1 f2
      obtain ⟨⟨d0, d1, d2⟩, g0, g1, g2⟩ := HD.out wr HB.out
      have HN : Hid (Ord.lessR l r = if Ord.lessP p q then true else if Ord.lessP q p then false else Ord.lessR (l.drop (k + 1)) (r.drop (k + 1))) := by
        show Ord.lessR l r = _
        rw [HK.out, drop_cons l k p hp, drop_cons r k q hq, lessR_cons]
      clear hp hq
      have HC1 : Hid (∀ W, Calls Tryd.prog 34 #[.agg #[.bool p.t, .int .u64 p.n, .string (str p.s)], .agg #[.bool q.t, .int .u64 q.n, .string (str q.s)]] W fun e w' => e = .returned (.bool (Ord.lessP p q)) ∧ Below W.heap.size W w') := fun W => less_any p q W
      have HC2 : Hid (∀ W, Calls Tryd.prog 34 #[.agg #[.bool q.t, .int .u64 q.n, .string (str q.s)], .agg #[.bool p.t, .int .u64 p.n, .string (str p.s)]] W fun e w' => e = .returned (.bool (Ord.lessP q p)) ∧ Below W.heap.size W w') := fun W => less_any q p W
      revert HN HC1 HC2
      generalize Ord.lessP p q = x
      generalize Ord.lessP q p = y
      intro HN HC1 HC2
      go_upto_region 4 with fail
      go_cut [22] (fun s wx => s = .bool x ∧ Hid (Below w.heap.size w wx))
      case first =>
        go_region_with (go_at_call 34; refine (HC1.out _).mono ?_; rintro e w1 ⟨rfl, hb1⟩)
        all_goals (go_wp2_with fail; go_meet; exact ⟨rfl, HB.out.drew.trans (hb1.mono HB.out.size)⟩)
      case rest =>
        obtain ⟨rfl, HB1⟩ := hcut
        obtain ⟨⟨d0, d1, d2⟩, g0, g1, g2⟩ := HD.out wc HB1.out
        cases x
        · go_upto_region 6 with fail
          go_cut [31] (fun s wx => s = .bool y ∧ Hid (Below w.heap.size w wx))
          case first =>
            go_region_with (go_at_call 34; refine (HC2.out _).mono ?_; rintro e w1 ⟨rfl, hb1⟩)
            all_goals (go_wp2_with fail; go_meet; exact ⟨rfl, HB1.out.drew.trans (hb1.mono HB1.out.size)⟩)
          case rest =>
            obtain ⟨rfl, HB2⟩ := hcut
            cases y
            · go_wp2
              go_roundg (z - (k + 1))
              case measure => omega
              case rel => exact ⟨k + 1, by omega, rfl, by go_num, by rw [HN.out]; rfl, HB2⟩
            · go_wp2
              go_ret
              exact ⟨ret_bool (by rw [HN.out]; rfl), HB2.out⟩
        · go_wp2
          go_ret
          exact ⟨ret_bool (by rw [HN.out]; rfl), HB1.out⟩
    · obtain rfl : k = z := by omega
      have HE := Lib.hid (lessR_end l r k HZ.out)
      go_wp2
      go_ret
      refine ⟨ret_bool ?_, HB.out⟩
      rw [HK.out, HE.out]
      exact decide_eq_decide.2 Int.ofNat_lt.symm
end Go.Proofs.YtgkonmidgeanmaaDoor
