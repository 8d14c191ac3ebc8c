/- The contract of ReadList, at a pair's codec. -/
import Derived.Test.YtgkonmidgeanmaaReadFn
namespace Go.Proofs.Ytgkonmidgeanmaa
open Go.RowKit
def cellsR (p : Pr) : List Value := [.int .u16 p.n, .string (str p.s)]
theorem info62 : (Try.prog.info? 62).map (fun i => (i.zero, i.size, i.bytes)) = some (some (.agg #[.int .u16 0, .string ByteArray.empty]), 2, 24) := by kernel_rfl
theorem flat_atR : ∀ (l : List Pr) (j i : Nat) (p : Pr), l[j]? = some p → i < 2 → (l.flatMap cellsR)[j * 2 + i]? = (cellsR p)[i]?
  | [], j, i, p, h, _ => by simp at h
  | q :: l, 0, i, p, h, hi => by
    simp at h
    subst h
    rw [List.flatMap_cons, List.getElem?_append_left (by simp [cellsR]; omega)]
    simp
  | q :: l, j + 1, i, p, h, hi => by
    rw [List.flatMap_cons, List.getElem?_append_right (by simp [cellsR]; omega)]
    rw [show (j + 1) * 2 + i - (cellsR q).length = j * 2 + i by simp [cellsR]; omega]
    exact flat_atR l j i p (by simpa using h) hi
theorem flat_lenR (l : List Pr) : (l.flatMap cellsR).length = l.length * 2 := by
  induction l with
  | nil => rfl
  | cons p l ih => rw [List.flatMap_cons, List.length_append, ih]; simp [cellsR]; omega
theorem flat_oneR (p : Pr) : [p].flatMap cellsR = cellsR p := by simp
theorem SlR.nil (w : World) : SlR w (.slice none 0 0) [] := ⟨none, 0, 0, 0, rfl, .inl rfl, fun j p h => by simp at h⟩
theorem SlR.own {w : World} {B : Nat} {e : TypeId} {v : Value} {l : List Pr} (h : w.ownsRow B e 2 v l.length (l.flatMap cellsR)) : SlR w v l := by
  have hw := h
  obtain ⟨_, h1⟩ := h
  rcases h1 with ⟨rfl, h0⟩ | ⟨g, cap, cur, rfl, _⟩
  · obtain rfl : l = [] := List.length_eq_zero_iff.1 h0
    exact SlR.nil w
  · refine ⟨_, g, 0, cap, rfl, .inr rfl, fun j p hj => ?_⟩
    have hlt := (List.getElem?_eq_some_iff.1 hj).1
    have c := fun i (hi : i < 2) => (hw.cellAt (j * 2 + i) (by omega)).trans (flat_atR l j i p hj hi)
    refine ⟨?_, ?_⟩
    · have := c 0 (by omega); simpa [cellsR] using this
    · have := c 1 (by omega); simpa [cellsR, Nat.add_assoc] using this
theorem cellsR_new (w : World) (n : Int) (s : ByteArray) (T : TypeId) : ∀ (j : Nat) u, ([Value.int .u16 n, .string s] : List Value)[j]? = some u →
    (w.alloc (.cells #[.int .u16 n, .string s] T)).cell? ((⟨w.heap.size, 0, none⟩ : Addr).add j) = some u := by
  intro j u hj
  match j, hj with
  | 0, hj => simp at hj; subst hj; simp [Addr.add]
  | 1, hj => simp at hj; subst hj; simp [Addr.add]
  | (j + 2), hj => simp at hj
theorem cellsR_one (p : Pr) : ∀ u ∈ cellsR p, u.oneCell' = true := by
  intro u hu
  simp [cellsR] at hu
  rcases hu with rfl | rfl <;> rfl
/-- k pairs, one behind the other, as long as no error is there. -/
def getsR : Nat → ByteArray → Int → List Pr × ByteArray × Int
  | 0, s, e => ([], s, e)
  | k + 1, s, e => if e ≠ 0 then ([], s, e) else ((getR s e).1 :: (getsR k (getR s e).2.1 (getR s e).2.2).1, (getsR k (getR s e).2.1 (getR s e).2.2).2)
theorem getsR_bad (k : Nat) (s : ByteArray) (e : Int) (h : e ≠ 0) : getsR k s e = ([], s, e) := by
  cases k with
  | zero => rfl
  | succ k => unfold getsR; rw [if_pos h]
theorem getsR_succ (k : Nat) (s : ByteArray) : getsR (k + 1) s 0 = ((getR s 0).1 :: (getsR k (getR s 0).2.1 (getR s 0).2.2).1, (getsR k (getR s 0).2.1 (getR s 0).2.2).2) := by
  rw [getsR, if_neg (by decide)]
def listR (s : ByteArray) (most : Int) : List Pr × Int :=
  ((getsR (cnt s 0 most 6).1 (cnt s 0 most 6).2.1 (cnt s 0 most 6).2.2).1, fin (getsR (cnt s 0 most 6).1 (cnt s 0 most 6).2.1 (cnt s 0 most 6).2.2).2.1 (getsR (cnt s 0 most 6).1 (cnt s 0 most 6).2.1 (cnt s 0 most 6).2.2).2.2)
theorem cnt_lt (s : ByteArray) (e most x : Int) : (cnt s e most x).1 < 4294967296 := by
  have hv := Nat.lt_of_lt_of_le (Oc.val_lt (tk s e 4).1.data.toList) (Nat.pow_le_pow_right (by omega) (tk_size s e 4))
  unfold cnt
  have hv' : Oc.val (tk s e 4).1.data.toList < 4294967296 := Nat.lt_of_lt_of_le hv (by decide)
  dsimp only
  generalize Oc.val (tk s e 4).1.data.toList = n at hv'
  by_cases h : (n : Int) > (if 0 ≤ most then most else 0)
  · rw [if_pos h]; exact Nat.succ_pos _
  · rw [if_neg h]; exact hv'
inductive ListOut (s : ByteArray) (most : Int) (w : World) (e : Ending) (w' : World) : Prop
  | ok (h0 : (listR s most).2 = 0) (v : Value) (he : e = .returned (.tuple #[v, .int .i64 0])) (hs : SlR w' v (listR s most).1) (hb : Below w.heap.size w w')
  | bad (h0 : (listR s most).2 ≠ 0) (he : e = .returned (.tuple #[.slice none 0 0, .int .i64 (listR s most).2])) (hb : Below w.heap.size w w')
structure R1 (w : World) (g : Nat) : Prop where
  c0 : w.cell? ⟨g, 0, none⟩ = some (.func (.func 41) #[] #[])
  c1 : w.cell? ⟨g, 1, none⟩ = some (.func (.func 42) #[] #[])
theorem R1.lt {w : World} {g : Nat} (h : R1 w g) : g < w.heap.size := World.block_lt_of_cell? _ _ h.c0
theorem R1.below {w w' : World} {g B : Nat} (h : R1 w g) (hb : Below B w w') (hg : g < B) : R1 w' g := ⟨(hb.cell (p := ⟨g, 0, none⟩) hg).trans h.c0, (hb.cell (p := ⟨g, 1, none⟩) hg).trans h.c1⟩
theorem R1.mod {w w' : World} {g b : Nat} (h : R1 w g) (hb : Mod b w w') (hg : g ≠ b) : R1 w' g := ⟨(hb.cell (p := ⟨g, 0, none⟩) h.lt hg).trans h.c0, (hb.cell (p := ⟨g, 1, none⟩) h.lt hg).trans h.c1⟩
theorem R1.upd {w w' : World} {g b : Nat} (h : R1 w g) (hb : Upd b w w') (hg : g ≠ b) : R1 w' g := h.mod ((Mod.refl b w).upd hb) hg
theorem R1.new (w : World) : R1 (w.alloc (.cells #[.func (.func 41) #[] #[], .func (.func 42) #[] #[]] 58)) w.heap.size := ⟨by simp, by simp⟩
set_option maxHeartbeats 4000000 in
set_option maxRecDepth 100000 in
theorem readList_any (s : ByteArray) (most : Int) (hm : most < 9223372036854775808) (w : World) :
    Calls Try.prog 34 #[.agg #[.func (.func 41) #[] #[], .func (.func 42) #[] #[]], .string s, .int .i64 most] w fun e w' => ListOut s most w e w' := by
  have heq := func_nil56
  obtain ⟨i0, hi, hz0, hz1, hz2⟩ := info_parts info62
  have H0 := Lib.hid (R1.new w)
  obtain ⟨b, hb⟩ : ∃ b, b = w.heap.size + 1 := ⟨_, rfl⟩
  have HBE := Lib.hid hb
  clear hb
  have HC := Lib.hid (fun W (hW : Rd W b s 0) => count_any b s 0 most 6 hm W hW)
  have HN := Lib.hid (cnt_lt s 0 most 6)
  have HX : Hid (∀ C, C = cnt s 0 most 6 → listR s most = ((getsR C.1 C.2.1 C.2.2).1, fin (getsR C.1 C.2.1 C.2.2).2.1 (getsR C.1 C.2.1 C.2.2).2.2)) := fun C h => by subst h; rfl
  replace HX := Lib.hid (HX.out _ rfl)
  revert HC HN HX
  generalize cnt s 0 most 6 = C
  obtain ⟨N, s1, e1⟩ := C
  intro HC HN HX
  simp only at HC HX
  go_enter Try.func34, Try.ntmps34
  go_wp2_with (first
      | (go_at_call 16; refine (over_at _ b _ (by rw [size1, HBE.out])).mono ?_; rintro e w1 ⟨rfl, hr1, hb1⟩; have HR1 := Lib.hid (H0.out.below hb1 (by rw [size1]; omega)); have q0 := HR1.out.c0; have q1 := HR1.out.c1)
      | (go_at_call 40; refine (HC.out _ hr1).mono ?_; rintro e w2 ⟨rfl, hr2, hu2⟩))
  have HB2 : Hid (Below w.heap.size w w2) := (below_step ((Below.refl _ _).alloc (Nat.le_refl _) _) hb1).trans (hu2.below (by rw [HBE.out]; omega))
  have HR2 := Lib.hid (HR1.out.upd hu2 (by rw [HBE.out]; omega))
  have HD2 := Lib.hid hr2
  have HLT := Lib.hid hr2.lt
  clear q0 q1 HR1 hr1 hr2 hb1 hu2
  go_loopg [10, 11] N (fun g v i wr => ∃ (k : Nat) (l : List Pr) (t : ByteArray) (f : Int), k ≤ N ∧ g = N - k ∧ i = .int .i64 k ∧ l.length = k ∧
    Hid (getsR N s1 e1 = (l ++ (getsR (N - k) t f).1, (getsR (N - k) t f).2)) ∧ Hid (Rd wr b t f) ∧ Hid (R1 wr w.heap.size) ∧
    Hid (wr.ownsRow w2.heap.size 62 2 v l.length (l.flatMap cellsR)) ∧ Hid (Below w.heap.size w wr) ∧ Hid (w2.heap.size ≤ wr.heap.size))
  case atStart => exact ⟨0, [], s1, e1, Nat.zero_le _, rfl, rfl, rfl, rfl, HD2.out, HR2.out, World.ownsRow_nil _ _ _ _, HB2.out, Nat.le_refl _⟩
  case round =>
    obtain ⟨k, l, t, f, hk, rfl, rfl, rfl, HGE, HRd, HR, HO, HB, HS⟩ := hrel
    have hNN := HN.out
    by_cases hgo : l.length < N ∧ f = 0
    · obtain ⟨hlt, rfl⟩ := hgo
      rw [show N - l.length = N - (l.length + 1) + 1 by omega, getsR_succ] at HGE
      have HGT := Lib.hid (fun W (hW : Rd W b t 0) => get_any b t 0 W hW)
      revert HGT HGE
      generalize getR t 0 = X
      obtain ⟨⟨n, u⟩, t', f'⟩ := X
      intro HGE HGT
      unfold aggR at HGT
      simp only at HGT HGE
      have q0 := HR.out.c0
      have q1 := HR.out.c1
      go_wp2_with (first
        | (go_at_call 31; refine (err_any _ _ _ _ HRd.out).mono ?_; rintro e w4 ⟨rfl, rfl⟩)
        | (go_at_call 46; refine (HGT.out _ HRd.out).mono ?_; rintro e w3 ⟨rfl, hr3, hm3⟩)
        | (at_builtin; refine wpList_append_own _ rfl _ _ 60 rfl w2.heap.size 62 i0 _ 2 24 Try.underlying60 hi hz0 hz1 hz2 rfl (by decide) _ l.length _ rfl ((own_mod HO.out hm3 HLT.out).alloc _) ⟨w3.heap.size, 0, none⟩ 1 1 (cellsR ⟨n, u⟩) rfl rfl ?p1 ?p2 ?p3 ?p4 ?p5 ?_))
      case p1 => exact cellsR_new w3 n (str u) 62
      case p2 => exact cellsR_one _
      case p3 => unfold maxLen; omega
      case p4 => omega
      case p5 => have h1 := HS.out; have h2 := hm3.size; simp; omega
      intro v' w4 hown' hgrow _
      have hs3 : w2.heap.size ≤ w3.heap.size := Nat.le_trans HS.out hm3.size
      have HO4 : Hid (w4.ownsRow w2.heap.size 62 2 v' (l ++ [(⟨n, u⟩ : Pr)]).length ((l ++ [(⟨n, u⟩ : Pr)]).flatMap cellsR)) := by
        show w4.ownsRow _ _ _ _ _ _
        rw [List.flatMap_append, flat_oneR, List.length_append]; exact hown'
      have HB34 : Hid (Below w2.heap.size w3 w4) := ((Below.refl _ _).alloc hs3 _).grown hgrow (by simp; omega) (fun g hg => (HO.out.lt g hg).1)
      have HB3 : Hid (Below w.heap.size w w3) := HB.out.trans (hm3.below (by rw [HBE.out]; omega) HB.out.size)
      have HR4 : Hid (R1 w4 w.heap.size) := (HR.out.mod hm3 (by rw [HBE.out]; omega)).below HB34.out (by have := HLT.out; rw [HBE.out] at this; omega)
      have HD4 : Hid (Rd w4 b t' f') := hr3.below' HB34.out HLT.out
      clear hown' hgrow hm3 hr3
      go_wp2
      go_roundg (N - (l.length + 1))
      case measure => omega
      case rel =>
        refine ⟨l.length + 1, l ++ [⟨n, u⟩], t', f', by omega, rfl, by go_num, by simp, ?_, HD4, HR4, HO4, HB3.out.trans (HB34.out.mono HB2.out.size), Nat.le_trans hs3 HB34.out.size⟩
        show _ = _
        rw [HGE.out]
        simp
    · have HEQ : Hid (getsR N s1 e1 = (l, t, f)) := by
        show _ = _
        rw [HGE.out]
        by_cases hf : f = 0
        · obtain hk0 : N - l.length = 0 := by have := fun h => hgo ⟨h, hf⟩; omega
          rw [hk0]; simp [getsR]
        · rw [getsR_bad _ _ _ hf]; simp
      have HXE : Hid (listR s most = (l, fin t f)) := by
        show _ = _
        rw [HX.out, HEQ.out]
      have HFT := Lib.hid (end_rd b t f _ HRd.out)
      clear HGE
      obtain ⟨a1, c1, rfl⟩ : ∃ a1 c1, u10 = .slice a1 l.length c1 := by
        rcases HO.out.2 with ⟨h, h0⟩ | ⟨g, cap, cur, h, _⟩
        · exact ⟨none, 0, by rw [h, h0]⟩
        · exact ⟨_, cap, h⟩
      by_cases hlt : l.length < N
      · have hf : f ≠ 0 := fun h => hgo ⟨hlt, h⟩
        have hf' : (f == 0) = false := by rw [beq_eq_false_iff_ne]; exact hf
        (by_cases hz : fin t f = 0
         · rw [hz] at HXE HFT
           go_wp2_with (first
             | (go_at_call 31; refine (err_any _ _ _ _ HRd.out).mono ?_; rintro e w4 ⟨rfl, rfl⟩)
             | (go_at_call 27; refine HFT.out.mono ?_; rintro e w4 ⟨rfl, rfl⟩))
           go_ret2
           exact .ok (by rw [HXE.out]) _ rfl (by rw [HXE.out]; exact SlR.own HO.out) HB.out
         · have hz' : (fin t f != 0) = true := by rw [bne_iff_ne]; exact hz
           revert HFT HXE hz hz'
           generalize fin t f = z
           intro HXE HFT hz hz'
           go_wp2_with (first
             | (go_at_call 31; refine (err_any _ _ _ _ HRd.out).mono ?_; rintro e w4 ⟨rfl, rfl⟩)
             | (go_at_call 27; refine HFT.out.mono ?_; rintro e w4 ⟨rfl, rfl⟩))
           go_ret2
           exact .bad (by rw [HXE.out]; exact hz) (by rw [HXE.out]; rfl) HB.out)
      · (by_cases hz : fin t f = 0
         · rw [hz] at HXE HFT
           go_wp2_with (first
             | (go_at_call 31; refine (err_any _ _ _ _ HRd.out).mono ?_; rintro e w4 ⟨rfl, rfl⟩)
             | (go_at_call 27; refine HFT.out.mono ?_; rintro e w4 ⟨rfl, rfl⟩))
           go_ret2
           exact .ok (by rw [HXE.out]) _ rfl (by rw [HXE.out]; exact SlR.own HO.out) HB.out
         · have hz' : (fin t f != 0) = true := by rw [bne_iff_ne]; exact hz
           revert HFT HXE hz hz'
           generalize fin t f = z
           intro HXE HFT hz hz'
           go_wp2_with (first
             | (go_at_call 31; refine (err_any _ _ _ _ HRd.out).mono ?_; rintro e w4 ⟨rfl, rfl⟩)
             | (go_at_call 27; refine HFT.out.mono ?_; rintro e w4 ⟨rfl, rfl⟩))
           go_ret2
           exact .bad (by rw [HXE.out]; exact hz) (by rw [HXE.out]; rfl) HB.out)
end Go.Proofs.Ytgkonmidgeanmaa
