/- The contract of the document's own Less. -/
import Derived.Test.YtgkonmidgeanmaaDoorRefs2
import Derived.Test.YtgkonmidgeanmaaDoorKeepsLaw
namespace Go.Proofs.YtgkonmidgeanmaaDoor
open Go.RowKit
theorem cell_al (w : World) (o : Obj) (p : Addr) (h : p.block < w.heap.size) : (w.alloc o).cell? p = w.cell? p := World.cell?_alloc_old _ _ _ (Nat.ne_of_lt h)
theorem cell_al2 (w : World) (o1 o2 : Obj) (p : Addr) (h : p.block < w.heap.size) : ((w.alloc o1).alloc o2).cell? p = w.cell? p := by
  rw [cell_al _ _ _ (by simp; omega), cell_al _ _ _ h]
set_option maxHeartbeats 4000000 in
set_option maxRecDepth 100000 in
theorem refLess_any (v u : Value) (l r : List Ord.P) (hll : l.length ≤ 1000) (_hlr : r.length ≤ 1000) (w : World) (hv : Sl w v l) (hu : Sl w u r)
    (hol : ∀ p ∈ l, p.ok) (hor : ∀ p ∈ r, p.ok) :
    Calls Tryd.prog 20 #[v, u] w fun e w' => e = .returned (.bool (Ord.lessR l r)) ∧ Below w.heap.size w w' := by
  obtain ⟨a, b, o, c, rfl, ha, hx⟩ := hv
  obtain ⟨a', b', o', c', rfl, ha', hx'⟩ := hu
  have HX := Lib.hid hx
  have HA := Lib.hid ha
  have HX' := Lib.hid hx'
  have HA' := Lib.hid ha'
  have HOL := Lib.hid hol
  have HOR := Lib.hid hor
  clear ha hx ha' hx' hol hor
  obtain ⟨z, hz⟩ : ∃ z : Nat, z = min l.length r.length := ⟨_, rfl⟩
  have HZ := Lib.hid hz
  clear hz
  go_enter Tryd.func20, Tryd.ntmps20
  go_wp2
  go_loopg [5] z (fun g i wr => ∃ k : Nat, k ≤ z ∧ g = z - k ∧ i = .int .i64 k ∧ Hid (Ord.lessR l r = Ord.lessR (l.drop k) (r.drop k)) ∧ Hid (Below w.heap.size w wr))
  case atStart => exact ⟨0, Nat.zero_le _, rfl, rfl, by rw [List.drop_zero, List.drop_zero]; rfl, Below.refl _ _⟩
  case round =>
    obtain ⟨k, hk, rfl, rfl, HK, HB⟩ := hrel
    have hsz := HB.out.size
    by_cases hlt : k < z
    · have hlt1 : k < l.length := by have := HZ.out; omega
      have hlt2 : k < r.length := by have := HZ.out; omega
      have hk1 : (k : Int) < (l.length : Int) := by omega
      have hk2 : (k : Int) < (r.length : Int) := by omega
      obtain ⟨p, hp⟩ : ∃ p, l[k]? = some p := ⟨_, List.getElem?_eq_getElem hlt1⟩
      obtain ⟨q, hq⟩ : ∃ q, r[k]? = some q := ⟨_, List.getElem?_eq_getElem hlt2⟩
      obtain ⟨e0, e1, e2⟩ := HX.out k p hp
      obtain ⟨f0, f1, f2⟩ := HX'.out k q hq
      have hb1 : b < w.heap.size := World.block_lt_of_cell? _ _ e0
      have hb2 : b' < w.heap.size := World.block_lt_of_cell? _ _ f0
      obtain rfl : a = some ⟨b, o, none⟩ := by
        rcases HA.out with h | h
        · rw [h] at hlt1; cases hlt1
        · exact h
      obtain rfl : a' = some ⟨b', o', none⟩ := by
        rcases HA'.out with h | h
        · rw [h] at hlt2; cases hlt2
        · exact h
      have d0 := (HB.out.cell (p := ⟨b, o + k * 3, none⟩) hb1).trans e0
      have d1 := (HB.out.cell (p := ⟨b, o + k * 3 + 1, none⟩) hb1).trans e1
      have d2 := (HB.out.cell (p := ⟨b, o + k * 3 + 2, none⟩) hb1).trans e2
      have g0 := (HB.out.cell (p := ⟨b', o' + k * 3, none⟩) hb2).trans f0
      have g1 := (HB.out.cell (p := ⟨b', o' + k * 3 + 1, none⟩) hb2).trans f1
      have g2 := (HB.out.cell (p := ⟨b', o' + k * 3 + 2, none⟩) hb2).trans f2
      clear e0 e1 e2 f0 f1 f2
      have hw1 : b < wr.heap.size := by omega
      have hw2 : b' < wr.heap.size := by omega
      have HN : Hid (Ord.lessR l r = if Ord.lessP p q then true else if Ord.lessP q p then false else Ord.lessR (l.drop (k + 1)) (r.drop (k + 1))) := by
        show Ord.lessR l r = _
        rw [HK.out, drop_cons l k p hp, drop_cons r k q hq, lessR_cons]
      have HPO := Lib.hid (HOL.out p (List.mem_of_getElem? hp))
      have HQO := Lib.hid (HOR.out q (List.mem_of_getElem? hq))
      clear hp hq
      go_upto_region 4 with fail
      go_cut [6, 7] (fun s t wx => ∃ g h : Nat, s = .pointer (some ⟨g, 0, none⟩) ∧ t = .pointer (some ⟨h, 0, none⟩) ∧ (wx.cell? ⟨g, 0, none⟩ = some (.bool p.t) ∧ wx.cell? ⟨g, 1, none⟩ = some (.int .u64 p.n) ∧ wx.cell? ⟨g, 2, none⟩ = some (.string (str p.s))) ∧
        (wx.cell? ⟨h, 0, none⟩ = some (.bool q.t) ∧ wx.cell? ⟨h, 1, none⟩ = some (.int .u64 q.n) ∧ wx.cell? ⟨h, 2, none⟩ = some (.string (str q.s))) ∧ Hid (Below w.heap.size w wx))
      case first =>
        have d0' := fun o1 => (cell_al wr o1 ⟨b, o + k * 3, none⟩ hw1).trans d0
        have d1' := fun o1 => (cell_al wr o1 ⟨b, o + k * 3 + 1, none⟩ hw1).trans d1
        have d2' := fun o1 => (cell_al wr o1 ⟨b, o + k * 3 + 2, none⟩ hw1).trans d2
        have g0' := fun o1 => (cell_al wr o1 ⟨b', o' + k * 3, none⟩ hw2).trans g0
        have g1' := fun o1 => (cell_al wr o1 ⟨b', o' + k * 3 + 1, none⟩ hw2).trans g1
        have g2' := fun o1 => (cell_al wr o1 ⟨b', o' + k * 3 + 2, none⟩ hw2).trans g2
        have d0'' := fun o1 o2 => (cell_al2 wr o1 o2 ⟨b, o + k * 3, none⟩ hw1).trans d0
        have d1'' := fun o1 o2 => (cell_al2 wr o1 o2 ⟨b, o + k * 3 + 1, none⟩ hw1).trans d1
        have d2'' := fun o1 o2 => (cell_al2 wr o1 o2 ⟨b, o + k * 3 + 2, none⟩ hw1).trans d2
        have g0'' := fun o1 o2 => (cell_al2 wr o1 o2 ⟨b', o' + k * 3, none⟩ hw2).trans g0
        have g1'' := fun o1 o2 => (cell_al2 wr o1 o2 ⟨b', o' + k * 3 + 1, none⟩ hw2).trans g1
        have g2'' := fun o1 o2 => (cell_al2 wr o1 o2 ⟨b', o' + k * 3 + 2, none⟩ hw2).trans g2
        go_region
        all_goals
          (go_wp2_with fail
           go_meet
           exact ⟨_, _, rfl, rfl, ⟨by simp, by simp, by simp⟩, ⟨by simp, by simp, by simp⟩, ((HB.out.alloc hsz _).alloc (by simp; omega) _).drew⟩)
      case rest =>
        obtain ⟨g, h, rfl, rfl, ⟨x0, x1, x2⟩, ⟨y0, y1, y2⟩, HB1⟩ := hcut
        have HEQ : Hid (p = q → Ord.lessR l r = Ord.lessR (l.drop (k + 1)) (r.drop (k + 1))) := by
          intro he
          rw [HN.out, he, Ord.lessP_self]; rfl
        have HNE : Hid (p ≠ q → Ord.lessR l r = Ord.lessP p q) := by
          intro he
          rw [HN.out]
          rcases Ord.lessP_three HPO.out.1 HQO.out.1 with h | h | h
          · rw [h]; rfl
          · rw [h, Ord.lessP_not HPO.out.2 HQO.out.2 h]; rfl
          · exact absurd h he
        clear HN d0 d1 d2 g0 g1 g2
        obtain ⟨t, n, s⟩ := p
        obtain ⟨t', n', s'⟩ := q
        simp only at x0 x1 x2 y0 y1 y2
        cases t <;> cases t'
        · have hs : s = [] := by have := HPO.out.1; simp [Ord.P.plain] at this; exact this
          have hs' : s' = [] := by have := HQO.out.1; simp [Ord.P.plain] at this; exact this
          subst hs
          subst hs'
          by_cases hn : (n : Int) = (n' : Int)
          · obtain rfl : n = n' := by omega
            go_wp2
            go_roundg (z - (k + 1))
            case measure => omega
            case rel => exact ⟨k + 1, by omega, rfl, by go_num, by first | exact HEQ.out rfl | exact HEQ.out trivial, HB1⟩
          · have hn' : ((n : Int) != (n' : Int)) = true := by rw [bne_iff_ne]; exact hn
            have HR := Lib.hid (HNE.out (fun h => hn (by cases h; rfl)))
            go_wp2
            go_ret
            refine ⟨ret_bool ?_, HB1.out⟩
            rw [HR.out]
            simp [Ord.lessP]
        · have HR := Lib.hid (HNE.out (fun h => by cases h))
          go_wp2
          go_ret
          exact ⟨ret_bool (by rw [HR.out]; rfl), HB1.out⟩
        · have HR := Lib.hid (HNE.out (fun h => by cases h))
          go_wp2
          go_ret
          exact ⟨ret_bool (by rw [HR.out]; rfl), HB1.out⟩
        · have hs : n = 0 := by have := HPO.out.1; simp [Ord.P.plain] at this; exact this.symm
          have hs' : n' = 0 := by have := HQO.out.1; simp [Ord.P.plain] at this; exact this.symm
          subst hs
          subst hs'
          by_cases h3 : (str s).toList = (str s').toList
          · obtain rfl : s = s' := by rw [Lib.toList_data, Lib.toList_data, str_data, str_data] at h3; exact h3
            clear h3
            go_wp2
            go_roundg (z - (k + 1))
            case measure => omega
            case rel => exact ⟨k + 1, by omega, rfl, by go_num, by first | exact HEQ.out rfl | exact HEQ.out trivial, HB1⟩
          · have HR := Lib.hid (HNE.out (fun h => h3 (by cases h; rfl)))
            have h4 : ((str s).toList == (str s').toList) = false := by rw [beq_eq_false_iff_ne]; exact h3
            have h5 : ((str s).toList != (str s').toList) = true := by rw [bne_iff_ne]; exact h3
            clear h3
            go_wp2
            go_ret
            refine ⟨ret_bool ?_, HB1.out⟩
            rw [HR.out, str_less]
            simp [Ord.lessP]
    · obtain rfl : k = z := by omega
      have HE := Lib.hid (lessR_end l r k HZ.out)
      by_cases hk1 : (k : Int) < (l.length : Int)
      · have hk2 : ¬ (k : Int) < (r.length : Int) := by have := HZ.out; omega
        go_wp2
        go_ret
        refine ⟨ret_bool ?_, HB.out⟩
        rw [HK.out, HE.out]
        exact decide_eq_decide.2 Int.ofNat_lt.symm
      · go_wp2
        go_ret
        refine ⟨ret_bool ?_, HB.out⟩
        rw [HK.out, HE.out]
        exact decide_eq_decide.2 Int.ofNat_lt.symm
end Go.Proofs.YtgkonmidgeanmaaDoor
