/- Rows of parts that a call makes itself; the contracts of light, plain and same. -/
import Derived.Test.YtgkonmidgeanmaaDoorAwake
import Derived.OwnWalk
import Derived.Laws.OwnMore
namespace Go.Proofs.YtgkonmidgeanmaaDoor
open Go.RowKit
theorem info41 : (Tryd.prog.info? 41).map (fun i => (i.zero, i.size, i.bytes)) = some (some (.agg #[.bool false, .int .u64 0, .string ByteArray.empty]), 3, 32) := by kernel_rfl
theorem flat_at : ∀ (l : List Ord.P) (j i : Nat) (p : Ord.P), l[j]? = some p → i < 3 → (l.flatMap cellsP)[j * 3 + i]? = (cellsP p)[i]?
  | [], j, i, p, h, _ => by simp at h
  | q :: l, 0, i, p, h, hi => by
    simp at h
    subst h
    rw [List.flatMap_cons, List.getElem?_append_left (by simp [cellsP]; omega)]
    simp
  | q :: l, j + 1, i, p, h, hi => by
    rw [List.flatMap_cons, List.getElem?_append_right (by simp [cellsP]; omega)]
    rw [show (j + 1) * 3 + i - (cellsP q).length = j * 3 + i by simp [cellsP]; omega]
    exact flat_at l j i p (by simpa using h) hi
theorem flat_length (l : List Ord.P) : (l.flatMap cellsP).length = l.length * 3 := by
  induction l with
  | nil => rfl
  | cons p l ih => rw [List.flatMap_cons, List.length_append, ih]; simp [cellsP]; omega
/-- A row that the call owns shows its parts. -/
theorem Sl.own {w : World} {B : Nat} {e : TypeId} {v : Value} {l : List Ord.P} (h : w.ownsRow B e 3 v l.length (l.flatMap cellsP)) : Sl w v l := by
  have hw := h
  obtain ⟨_, h1⟩ := h
  rcases h1 with ⟨rfl, h0⟩ | ⟨g, cap, cur, rfl, _⟩
  · obtain rfl : l = [] := List.length_eq_zero_iff.1 h0
    exact Sl.nil w
  · refine ⟨_, g, 0, cap, rfl, .inr rfl, fun j p hj => ?_⟩
    have hlt := (List.getElem?_eq_some_iff.1 hj).1
    have c := fun i (hi : i < 3) => (hw.cellAt (j * 3 + i) (by omega)).trans (flat_at l j i p hj hi)
    refine ⟨?_, ?_, ?_⟩
    · have := c 0 (by omega); simpa [cellsP] using this
    · have := c 1 (by omega); simpa [cellsP, Nat.add_assoc] using this
    · have := c 2 (by omega); simpa [cellsP, Nat.add_assoc] using this
theorem own_below {w w' : World} {B B' : Nat} {e : TypeId} {s : Nat} {v : Value} {n : Nat} {xs : List Value} (h : w.ownsRow B e s v n xs) (hb : Below B' w w') (hB : w.heap.size ≤ B') : w'.ownsRow B e s v n xs := by
  obtain ⟨h0, h1⟩ := h
  refine ⟨h0, ?_⟩
  rcases h1 with h1 | ⟨g, cap, cur, hv, hg, hh, rest⟩
  · exact .inl h1
  · have hlt : g < w.heap.size := by
      rcases Nat.lt_or_ge g w.heap.size with h' | h'
      · exact h'
      · rw [Array.getElem?_eq_none h'] at hh; cases hh
    exact .inr ⟨g, cap, cur, hv, hg, by rw [hb.block g (by omega), hh], rest⟩
inductive LightOut (l : List Ord.P) (w : World) (e : Ending) (w' : World) : Prop
  | mk (x : Bool) (he : e = .returned (.bool x)) (hx : x = true → l.length ≤ 40 ∧ ∀ p ∈ l, p.s.length ≤ 400) (hb : Below w.heap.size w w')
inductive RowOut (l : List Ord.P) (w : World) (e : Ending) (w' : World) : Prop
  | mk (a : Option Addr) (n c : Nat) (hn : n = l.length) (hc : n ≤ c) (he : e = .returned (.slice a n c)) (hs : Sl w' (.slice a n c) l) (hb : Below w.heap.size w w')
set_option maxHeartbeats 1000000 in
theorem light_any (v : Value) (l : List Ord.P) (hll : l.length ≤ maxLen) (w : World) (hv : Sl w v l) :
    Calls Tryd.prog 8 #[v] w fun e w' => LightOut l w e w' := by
  unfold maxLen at hll
  obtain ⟨a, b, o, c, rfl, ha, hx⟩ := hv
  have HX := Lib.hid hx
  have HA := Lib.hid ha
  clear ha hx
  go_enter Tryd.func8, Tryd.ntmps8
  go_wp2
  go_loopg [7] l.length (fun g i wr => ∃ k : Nat, k ≤ l.length ∧ g = l.length - k ∧ i = .int .i64 k ∧ Hid (0 < k → l.length ≤ 40) ∧ Hid (∀ p ∈ l.take k, p.s.length ≤ 400) ∧ Hid (Below w.heap.size w wr))
  case atStart => exact ⟨0, Nat.zero_le _, rfl, rfl, (fun h => absurd h (by omega)), (fun p hp => by simp at hp), Below.refl _ _⟩
  case round =>
    obtain ⟨k, hk, rfl, rfl, HK, HP, HB⟩ := hrel
    by_cases hlt : k < l.length
    · obtain ⟨p, hp⟩ : ∃ p, l[k]? = some p := ⟨_, List.getElem?_eq_getElem hlt⟩
      obtain ⟨e0, e1, e2⟩ := HX.out k p hp
      have hblt : b < w.heap.size := World.block_lt_of_cell? _ _ e0
      have d0 := (HB.out.cell (p := ⟨b, o + k * 3, none⟩) hblt).trans e0
      have d1 := (HB.out.cell (p := ⟨b, o + k * 3 + 1, none⟩) hblt).trans e1
      have d2 := (HB.out.cell (p := ⟨b, o + k * 3 + 2, none⟩) hblt).trans e2
      obtain rfl : a = some ⟨b, o, none⟩ := by
        rcases HA.out with h | h
        · rw [h] at hlt; cases hlt
        · exact h
      clear e0 e1 e2
      have HT : Hid (p.s.length ≤ 400 → ∀ q ∈ l.take (k + 1), q.s.length ≤ 400) := by
        intro h q hq
        obtain ⟨hk', he⟩ := List.getElem?_eq_some_iff.1 hp
        rw [List.take_succ_eq_append_getElem hk', List.mem_append] at hq
        rcases hq with hq | hq
        · exact HP.out q hq
        · simp at hq; subst hq; rw [he]; exact h
      clear hp
      have hz : (str p.s).size = p.s.length := rfl
      by_cases h40 : (l.length : Int) > 40
      · go_wp2
        go_ret
        exact .mk false rfl (fun h => by cases h) (HB.out.alloc HB.out.size _)
      · by_cases h400 : (p.s.length : Int) > 400
        · go_wp2
          go_ret
          exact .mk false rfl (fun h => by cases h) (HB.out.alloc HB.out.size _)
        · go_wp2
          go_roundg (l.length - (k + 1))
          case measure => omega
          case rel => exact ⟨k + 1, by omega, rfl, by go_num, (fun _ => by omega), HT.out (by omega), HB.out.alloc HB.out.size _⟩
    · obtain rfl : k = l.length := by omega
      go_wp2
      go_ret
      refine .mk true rfl (fun _ => ⟨?_, ?_⟩) HB.out
      · rcases Nat.eq_zero_or_pos l.length with h | h
        · omega
        · exact HK.out h
      · have := HP.out
        rw [List.take_length] at this
        exact this
theorem flat_one (p : Ord.P) : List.flatMap cellsP [p] = cellsP p := by simp
theorem plain_snoc (l : List Ord.P) (k : Nat) (p : Ord.P) (h : l[k]? = some p) : (l.take (k + 1)).map Ord.P.plain = (l.take k).map Ord.P.plain ++ [p.plain] := by
  obtain ⟨hk, he⟩ := List.getElem?_eq_some_iff.1 h
  rw [List.take_succ_eq_append_getElem hk, List.map_append, he]; rfl
set_option maxHeartbeats 1000000 in
theorem plain_any (v : Value) (l : List Ord.P) (hll : l.length ≤ 1000) (w : World) (hv : Sl w v l) :
    Calls Tryd.prog 19 #[v] w fun e w' => RowOut (l.map Ord.P.plain) w e w' := by
  obtain ⟨i0, hi, hz0, hz1, hz2⟩ := info_parts info41
  obtain ⟨a, b, o, c, rfl, ha, hx⟩ := hv
  have HX := Lib.hid hx
  have HA := Lib.hid ha
  clear ha hx
  go_enter Tryd.func19, Tryd.ntmps19
  go_wp2
  go_loopg [3, 8] l.length (fun g s i wr => ∃ (k : Nat), k ≤ l.length ∧ g = l.length - k ∧ i = .int .i64 k ∧ Hid (wr.ownsRow w.heap.size 41 3 s k (((l.take k).map Ord.P.plain).flatMap cellsP)) ∧ Hid (Below w.heap.size w wr))
  case atStart => exact ⟨0, Nat.zero_le _, rfl, rfl, World.ownsRow_nil _ _ _ _, Below.refl _ _⟩
  case round =>
    obtain ⟨k, hk, rfl, rfl, HO, HB⟩ := hrel
    have hsz := HB.out.size
    by_cases hlt : k < l.length
    · obtain ⟨p, hp⟩ : ∃ p, l[k]? = some p := ⟨_, List.getElem?_eq_getElem hlt⟩
      obtain ⟨e0, e1, e2⟩ := HX.out k p hp
      have hblt : b < w.heap.size := World.block_lt_of_cell? _ _ e0
      have d0 := (HB.out.cell (p := ⟨b, o + k * 3, none⟩) hblt).trans e0
      have d1 := (HB.out.cell (p := ⟨b, o + k * 3 + 1, none⟩) hblt).trans e1
      have d2 := (HB.out.cell (p := ⟨b, o + k * 3 + 2, none⟩) hblt).trans e2
      obtain rfl : a = some ⟨b, o, none⟩ := by
        rcases HA.out with h | h
        · rw [h] at hlt; cases hlt
        · exact h
      clear e0 e1 e2
      have HS := Lib.hid (plain_snoc l k p hp)
      clear hp
      obtain ⟨t, n, s⟩ := p
      simp only at d0 d1 d2
      cases t
      · go_wp2_with (at_builtin; refine wpList_append_own _ rfl _ _ 22 rfl w.heap.size 41 i0 _ 3 32 Tryd.underlying22 hi hz0 hz1 hz2 rfl (by decide) _ k _ rfl ((HO.out.alloc _).alloc _) ⟨wr.heap.size + 1, 0, none⟩ 1 1 (cellsP ⟨false, n, []⟩) rfl rfl ?c1 ?c2 ?c3 ?c4 ?c5 ?_)
        case c1 => exact fun j u h => h
        case c2 => intro u hu; simp [cellsP] at hu; rcases hu with rfl | rfl | rfl <;> rfl
        case c3 => unfold maxLen; omega
        case c4 => omega
        case c5 => omega
        intro v' w1 hown' hgrow _
        have HO' : Hid (w1.ownsRow w.heap.size 41 3 v' (k + 1) (((l.take (k + 1)).map Ord.P.plain).flatMap cellsP)) := by
          show w1.ownsRow w.heap.size 41 3 v' (k + 1) (((l.take (k + 1)).map Ord.P.plain).flatMap cellsP)
          rw [HS.out, List.flatMap_append, flat_one, List.map_take]
          exact hown'
        have HB' : Hid (Below w.heap.size w w1) := ((HB.out.alloc hsz _).alloc (by simp; omega) _).grown hgrow (by simp; omega) (fun g hg => (HO.out.lt g hg).1)
        clear hown' hgrow
        go_wp2
        go_roundg (l.length - (k + 1))
        case measure => omega
        case rel => exact ⟨k + 1, by omega, rfl, by go_num, HO', HB'⟩
      · go_wp2_with (at_builtin; refine wpList_append_own _ rfl _ _ 22 rfl w.heap.size 41 i0 _ 3 32 Tryd.underlying22 hi hz0 hz1 hz2 rfl (by decide) _ k _ rfl ((HO.out.alloc _).alloc _) ⟨wr.heap.size + 1, 0, none⟩ 1 1 (cellsP ⟨true, 0, s⟩) rfl rfl ?c1 ?c2 ?c3 ?c4 ?c5 ?_)
        case c1 => exact fun j u h => h
        case c2 => intro u hu; simp [cellsP] at hu; rcases hu with rfl | rfl | rfl <;> rfl
        case c3 => unfold maxLen; omega
        case c4 => omega
        case c5 => omega
        intro v' w1 hown' hgrow _
        have HO' : Hid (w1.ownsRow w.heap.size 41 3 v' (k + 1) (((l.take (k + 1)).map Ord.P.plain).flatMap cellsP)) := by
          show w1.ownsRow w.heap.size 41 3 v' (k + 1) (((l.take (k + 1)).map Ord.P.plain).flatMap cellsP)
          rw [HS.out, List.flatMap_append, flat_one, List.map_take]
          exact hown'
        have HB' : Hid (Below w.heap.size w w1) := ((HB.out.alloc hsz _).alloc (by simp; omega) _).grown hgrow (by simp; omega) (fun g hg => (HO.out.lt g hg).1)
        clear hown' hgrow
        go_wp2
        go_roundg (l.length - (k + 1))
        case measure => omega
        case rel => exact ⟨k + 1, by omega, rfl, by go_num, HO', HB'⟩
    · obtain rfl : k = l.length := by omega
      have HS : Hid (Sl wr u3 (l.map Ord.P.plain)) := by
        have := HO.out
        rw [List.take_length] at this
        exact Sl.own (by rw [List.length_map]; exact this)
      obtain ⟨a1, c1, hc1, rfl⟩ : ∃ a1 c1, l.length ≤ c1 ∧ u3 = .slice a1 l.length c1 := by
        rcases HO.out.2 with ⟨h, h0⟩ | ⟨g, cap, cur, h, _, _, hc, _⟩
        · exact ⟨none, 0, by omega, by rw [h, h0]⟩
        · exact ⟨_, cap, hc, h⟩
      go_wp2
      go_ret
      exact .mk a1 l.length c1 (by simp) hc1 rfl HS.out HB.out
inductive SameOut (l r : List Ord.P) (w : World) (e : Ending) (w' : World) : Prop
  | mk (x : Bool) (he : e = .returned (.bool x)) (hx : x = true ↔ l = r) (hb : Below w.heap.size w w')
theorem same_next (l r : List Ord.P) (k : Nat) (p q : Ord.P) (hp : l[k]? = some p) (hq : r[k]? = some q) (h : l.take k = r.take k) (he : p = q) : l.take (k + 1) = r.take (k + 1) := by
  obtain ⟨h1, h2⟩ := List.getElem?_eq_some_iff.1 hp
  obtain ⟨h3, h4⟩ := List.getElem?_eq_some_iff.1 hq
  rw [List.take_succ_eq_append_getElem h1, List.take_succ_eq_append_getElem h3, h, h2, h4, he]
set_option maxHeartbeats 2000000 in
theorem same_any (v u : Value) (l r : List Ord.P) (hll : l.length ≤ 1000) (hlr : r.length ≤ maxLen) (w : World) (hv : Sl w v l) (hu : Sl w u r) :
    Calls Tryd.prog 21 #[v, u] w fun e w' => SameOut l r w e w' := by
  unfold maxLen at hlr
  obtain ⟨a, b, o, c, rfl, ha, hx⟩ := hv
  obtain ⟨a', b', o', c', rfl, ha', hx'⟩ := hu
  have HX := Lib.hid hx
  have HA := Lib.hid ha
  have HX' := Lib.hid hx'
  have HA' := Lib.hid ha'
  clear ha hx ha' hx'
  by_cases hlen : l.length = r.length
  · have hlenI : ((l.length : Int) != (r.length : Int)) = false := by rw [bne_eq_false_iff_eq]; omega
    have HLEN := Lib.hid hlen
    clear hlen
    go_enter Tryd.func21, Tryd.ntmps21
    go_wp2
    go_loopg [13] l.length (fun g i wr => ∃ (k : Nat), k ≤ l.length ∧ g = l.length - k ∧ i = .int .i64 k ∧ Hid (l.take k = r.take k) ∧ Hid (Below w.heap.size w wr))
    case atStart => exact ⟨0, Nat.zero_le _, rfl, rfl, rfl, Below.refl _ _⟩
    case round =>
      obtain ⟨k, hk, rfl, rfl, HK, HB⟩ := hrel
      by_cases hlt : k < l.length
      · have hlt2 : k < r.length := by have := HLEN.out; omega
        have hk1 : (k : Int) < (l.length : Int) := by omega
        have hk2 : (k : Int) < (r.length : Int) := by omega
        obtain ⟨p, hp⟩ : ∃ p, l[k]? = some p := ⟨_, List.getElem?_eq_getElem hlt⟩
        obtain ⟨q, hq⟩ : ∃ q, r[k]? = some q := ⟨_, List.getElem?_eq_getElem hlt2⟩
        obtain ⟨e0, e1, e2⟩ := HX.out k p hp
        obtain ⟨f0, f1, f2⟩ := HX'.out k q hq
        have hb1 : b < w.heap.size := World.block_lt_of_cell? _ _ e0
        have hb2 : b' < w.heap.size := World.block_lt_of_cell? _ _ f0
        obtain rfl : a = some ⟨b, o, none⟩ := by
          rcases HA.out with h | h
          · rw [h] at hlt; cases hlt
          · exact h
        obtain rfl : a' = some ⟨b', o', none⟩ := by
          rcases HA'.out with h | h
          · rw [h] at hlt2; cases hlt2
          · exact h
        have d0 := (HB.out.cell (p := ⟨b, o + k * 3, none⟩) hb1).trans e0
        have d1 := (HB.out.cell (p := ⟨b, o + k * 3 + 1, none⟩) hb1).trans e1
        have d2 := (HB.out.cell (p := ⟨b, o + k * 3 + 2, none⟩) hb1).trans e2
        have g0 := (HB.out.cell (p := ⟨b', o' + k * 3, none⟩) hb2).trans f0
        have g1 := (HB.out.cell (p := ⟨b', o' + k * 3 + 1, none⟩) hb2).trans f1
        have g2 := (HB.out.cell (p := ⟨b', o' + k * 3 + 2, none⟩) hb2).trans f2
        clear e0 e1 e2 f0 f1 f2
        have HN := Lib.hid (same_next l r k p q hp hq)
        have HNE : Hid (p ≠ q → l ≠ r) := fun h e => by subst e; rw [hp] at hq; exact h (Option.some.inj hq)
        clear hp hq
        obtain ⟨t, n, s⟩ := p
        obtain ⟨t', n', s'⟩ := q
        simp only at d0 d1 d2 g0 g1 g2
        by_cases h1 : t = t'
        · subst h1
          by_cases h2 : (n : Int) = (n' : Int)
          · obtain rfl : n = n' := by omega
            by_cases h3 : (str s).toList = (str s').toList
            · obtain rfl : s = s' := by rw [Lib.toList_data, Lib.toList_data, str_data, str_data] at h3; exact h3
              go_wp2_with fail
              go_region
              all_goals
                (go_wp2
                 go_roundg (l.length - (k + 1))
                 case measure => omega
                 case rel => exact ⟨k + 1, by omega, rfl, by go_num, by first | exact HN.out HK.out rfl | exact HN.out HK.out trivial, HB.out.drew⟩)
            · have HE : Hid (l ≠ r) := HNE.out (fun h => h3 (by cases h; rfl))
              go_wp2_with fail
              go_region
              all_goals
                (go_wp2
                 go_ret
                 exact .mk false rfl ⟨(fun h => by cases h), (fun h => absurd h HE.out)⟩ HB.out.drew)
          · have HE : Hid (l ≠ r) := HNE.out (fun h => h2 (by cases h; rfl))
            go_wp2_with fail
            go_region
            all_goals
              (go_wp2
               go_ret
               exact .mk false rfl ⟨(fun h => by cases h), (fun h => absurd h HE.out)⟩ HB.out.drew)
        · have HE : Hid (l ≠ r) := HNE.out (fun h => h1 (by cases h; rfl))
          go_wp2_with fail
          go_region
          all_goals
            (go_wp2
             go_ret
             exact .mk false rfl ⟨(fun h => by cases h), (fun h => absurd h HE.out)⟩ HB.out.drew)
      · obtain rfl : k = l.length := by omega
        go_wp2
        go_ret
        have := HK.out
        rw [List.take_length, HLEN.out, List.take_length] at this
        exact .mk true rfl (by simp [this]) HB.out
  · have hlenI : ((l.length : Int) != (r.length : Int)) = true := by rw [bne_iff_ne]; omega
    go_enter Tryd.func21, Tryd.ntmps21
    go_wp2
    go_ret
    exact .mk false rfl ⟨(fun h => by cases h), (fun h => by rw [h] at hlen; exact absurd rfl hlen)⟩ (Below.refl _ _)
theorem Sl.take {w : World} {a : Option Addr} {n c : Nat} {l : List Ord.P} (h : Sl w (.slice a n c) l) (k : Nat) (hk : k ≤ l.length) : Sl w (.slice a k c) (l.take k) := by
  obtain ⟨a', b, o, c', hv, ha, hx⟩ := h
  cases hv
  refine ⟨a, b, o, c, by rw [List.length_take, Nat.min_eq_left hk], ?_, fun j p hj => ?_⟩
  · rcases ha with h | h
    · subst h; exact .inl (by simp)
    · exact .inr h
  · have hlt : j < k := by
      have := (List.getElem?_eq_some_iff.1 hj).1
      rw [List.length_take] at this
      omega
    rw [List.getElem?_take_of_lt hlt] at hj
    exact hx j p hj
end Go.Proofs.YtgkonmidgeanmaaDoor
