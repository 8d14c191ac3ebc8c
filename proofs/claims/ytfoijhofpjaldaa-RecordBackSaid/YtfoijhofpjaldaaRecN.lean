/- The contract of ReadList, at a versioned number's codec. -/
import Derived.Test.YtfoijhofpjaldaaRecL
import Derived.Laws.OwnMore
set_option maxRecDepth 100000
set_option maxHeartbeats 4000000
set_option linter.unusedVariables false
namespace Go.Proofs.Ytfoijhofpjaldaa
open Go.RowKit
def cellN (n : Nat) : Value := .int .u16 n
theorem info16 : (Try.prog.info? 61).map (fun i => (i.zero, i.size, i.bytes)) = some (some (.int .u16 0), 1, 2) := by kernel_rfl
theorem SlW.nil (w : World) : SlW w (.slice none 0 0) [] := ⟨none, 0, 0, 0, rfl, .inl rfl, fun j p h => by simp at h⟩
theorem SlW.own {w : World} {B : Nat} {e : TypeId} {v : Value} {l : List Nat} (h : w.ownsRow B e 1 v l.length (l.map cellN)) : SlW w v l := by
  have hw := h
  obtain ⟨_, h1⟩ := h
  rcases h1 with ⟨rfl, h0⟩ | ⟨g, cap, cur, rfl, _⟩
  · obtain rfl : l = [] := List.length_eq_zero_iff.1 h0
    exact SlW.nil w
  · refine ⟨_, g, 0, cap, rfl, .inr rfl, fun j p hj => ?_⟩
    have hlt := (List.getElem?_eq_some_iff.1 hj).1
    have c := (hw.cellAt j (by omega)).trans (show _ = some (cellN p) by rw [List.getElem?_map, hj]; rfl)
    simpa [cellN] using c
theorem cellN_new (w : World) (n : Nat) (T : TypeId) : ∀ (j : Nat) u, ([cellN n] : List Value)[j]? = some u →
    (w.alloc (.cells #[.int .u16 n] T)).cell? ((⟨w.heap.size, 0, none⟩ : Addr).add j) = some u := by
  intro j u hj
  match j, hj with
  | 0, hj => simp at hj; subst hj; simp [Addr.add, cellN]
  | (j + 1), hj => simp at hj
theorem cellN_one (n : Nat) : ∀ u ∈ [cellN n], u.oneCell' = true := by
  intro u hu
  simp at hu
  subst hu
  rfl
/-- k numbers, one behind the other, as long as no error is there. -/
def getsG (get : ByteArray → Int → Nat × ByteArray × Int) : Nat → ByteArray → Int → List Nat × ByteArray × Int
  | 0, s, e => ([], s, e)
  | k + 1, s, e => if e ≠ 0 then ([], s, e) else ((get s e).1 :: (getsG get k (get s e).2.1 (get s e).2.2).1, (getsG get k (get s e).2.1 (get s e).2.2).2)
theorem getsG_bad (get : ByteArray → Int → Nat × ByteArray × Int) (k : Nat) (s : ByteArray) (e : Int) (h : e ≠ 0) : getsG get k s e = ([], s, e) := by
  cases k with
  | zero => rfl
  | succ k => unfold getsG; rw [if_pos h]
theorem getsG_succ (get : ByteArray → Int → Nat × ByteArray × Int) (k : Nat) (s : ByteArray) : getsG get (k + 1) s 0 = ((get s 0).1 :: (getsG get k (get s 0).2.1 (get s 0).2.2).1, (getsG get k (get s 0).2.1 (get s 0).2.2).2) := by
  rw [getsG, if_neg (by decide)]
def listG (get : ByteArray → Int → Nat × ByteArray × Int) (s : ByteArray) (most : Int) : List Nat × Int :=
  ((getsG get (cnt s 0 most 6).1 (cnt s 0 most 6).2.1 (cnt s 0 most 6).2.2).1, fin (getsG get (cnt s 0 most 6).1 (cnt s 0 most 6).2.1 (cnt s 0 most 6).2.2).2.1 (getsG get (cnt s 0 most 6).1 (cnt s 0 most 6).2.1 (cnt s 0 most 6).2.2).2.2)
theorem cntG_lt (s : ByteArray) (e most x : Int) : (cnt s e most x).1 < 4294967296 := by
  have hv := Nat.lt_of_lt_of_le (Oc.val_lt (tk s e 4).1.data.toList) (Nat.pow_le_pow_right (by omega) (tk_size s e 4))
  unfold cnt
  have hv' : Oc.val (tk s e 4).1.data.toList < 4294967296 := Nat.lt_of_lt_of_le hv (by decide)
  dsimp only
  generalize Oc.val (tk s e 4).1.data.toList = n at hv'
  by_cases h : (n : Int) > (if 0 ≤ most then most else 0)
  · rw [if_pos h]; exact Nat.succ_pos _
  · rw [if_neg h]; exact hv'
inductive ListW (s : ByteArray) (most : Int) (w : World) (e : Ending) (w' : World) : Prop
  | ok (h0 : (listG (verG 0 getW) s most).2 = 0) (v : Value) (he : e = .returned (.tuple #[v, .int .i64 0])) (hs : SlW w' v (listG (verG 0 getW) s most).1) (hb : Below w.heap.size w w')
  | bad (h0 : (listG (verG 0 getW) s most).2 ≠ 0) (he : e = .returned (.tuple #[.slice none 0 0, .int .i64 (listG (verG 0 getW) s most).2])) (hb : Below w.heap.size w w')
theorem Cd2.upd {w w' : World} {g b : Nat} {pv gv : Value} (h : Cd2 w g pv gv) (hm : Upd b w w') (hne : g ≠ b) : Cd2 w' g pv gv := h.keep (hm.block g hne)
set_option maxHeartbeats 4000000 in
theorem readListW_any (cv : Value) (s : ByteArray) (most : Int) (hm : most < 9223372036854775808) (w : World) (hc : CdW w cv) :
    Calls Try.prog 28 #[cv, .string s, .int .i64 most] w fun e w' => ListW s most w e w' := by
  obtain ⟨ca, cg, rfl, hca, hcg, _⟩ := hc
  have HGL : Hid (cg < w.heap.size) := World.block_lt_of_cell? _ _ hcg
  have HGW0 : Hid (∀ W, Below w.heap.size w W → ∀ b, w.heap.size ≤ b → Gv0 W b cg (.func (.func 25) #[] #[])) := fun W hW b hb => ⟨(hW.cell (World.block_lt_of_cell? _ _ hcg)).trans hcg, by have := HGL.out; omega⟩
  clear hca hcg
  have heq : ∀ w, (binOp .eql 63 (.func (.func 64) #[] #[.pointer (some ⟨cg, 0, none⟩)]) .nilFunc).run Try.prog w = .ok (.bool false) w := fun w => by kernel_rfl
  obtain ⟨i0, hi, hz0, hz1, hz2⟩ := info_parts info16
  have H0 := Lib.hid (Cd2.new w (.func (.func 62) #[] #[.pointer (some ⟨ca, 0, none⟩)]) (.func (.func 64) #[] #[.pointer (some ⟨cg, 0, none⟩)]) 65)
  obtain ⟨b, hb⟩ : ∃ b, b = w.heap.size + 1 := ⟨_, rfl⟩
  have HBE := Lib.hid hb
  clear hb
  have HC := Lib.hid (fun W (hW : Rd W b s 0) => count_any b s 0 most 6 hm W hW)
  have HN := Lib.hid (cntG_lt s 0 most 6)
  have HX : Hid (∀ C, C = cnt s 0 most 6 → listG (verG 0 getW) s most = ((getsG (verG 0 getW) C.1 C.2.1 C.2.2).1, fin (getsG (verG 0 getW) C.1 C.2.1 C.2.2).2.1 (getsG (verG 0 getW) C.1 C.2.1 C.2.2).2.2)) := fun C h => by subst h; rfl
  replace HX := Lib.hid (HX.out _ rfl)
  revert HC HN HX
  generalize cnt s 0 most 6 = C
  obtain ⟨N, s1, e1⟩ := C
  intro HC HN HX
  simp only at HC HX
  go_enter Try.func28, Try.ntmps28
  go_wp2_with (first
      | (go_at_call 53; refine (over_at _ b _ (by rw [size1, HBE.out])).mono ?_; rintro e w1 ⟨rfl, hr1, hb1⟩; have HR1 := Lib.hid (H0.out.below hb1); have q0 := HR1.out.c0; have q1 := HR1.out.c1)
      | (go_at_call 71; refine (HC.out _ hr1).mono ?_; rintro e w2 ⟨rfl, hr2, hu2⟩))
  have HB2 : Hid (Below w.heap.size w w2) := (below_step ((Below.refl _ _).alloc (Nat.le_refl _) _) hb1).trans (hu2.below (by rw [HBE.out]; omega))
  have HR2 := Lib.hid (HR1.out.upd hu2 (by rw [HBE.out]; omega))
  have HD2 := Lib.hid hr2
  have HLT := Lib.hid hr2.lt
  clear q0 q1 HR1 hr1 hr2 hb1 hu2
  go_loopg [10, 11] N (fun g v i wr => ∃ (k : Nat) (l : List Nat) (t : ByteArray) (f : Int), k ≤ N ∧ g = N - k ∧ i = .int .i64 k ∧ l.length = k ∧
    Hid (getsG (verG 0 getW) N s1 e1 = (l ++ (getsG (verG 0 getW) (N - k) t f).1, (getsG (verG 0 getW) (N - k) t f).2)) ∧ Hid (Rd wr b t f) ∧ Hid (Cd2 wr w.heap.size (.func (.func 62) #[] #[.pointer (some ⟨ca, 0, none⟩)]) (.func (.func 64) #[] #[.pointer (some ⟨cg, 0, none⟩)])) ∧
    Hid (wr.ownsRow w2.heap.size 61 1 v l.length (l.map cellN)) ∧ Hid (Below w.heap.size w wr) ∧ Hid (w2.heap.size ≤ wr.heap.size))
  case atStart => exact ⟨0, [], s1, e1, Nat.zero_le _, rfl, rfl, rfl, rfl, HD2.out, HR2.out, World.ownsRow_nil _ _ _ _, HB2.out, Nat.le_refl _⟩
  case round =>
    obtain ⟨k, l, t, f, hk, rfl, rfl, rfl, HGE, HRd, HR, HO, HB, HS⟩ := hrel
    have hNN := HN.out
    by_cases hgo : l.length < N ∧ f = 0
    · obtain ⟨hlt, rfl⟩ := hgo
      rw [show N - l.length = N - (l.length + 1) + 1 by omega, getsG_succ] at HGE
      have HGT := Lib.hid (fun W (hW : Rd W b t 0) hV => getW_any (.func (.func 62) #[] #[.pointer (some ⟨ca, 0, none⟩)]) b cg t 0 W hW hV)
      have HGW := Lib.hid (HGW0.out wr HB.out b (by rw [HBE.out]; omega))
      revert HGT HGE
      generalize verG 0 getW t 0 = X
      obtain ⟨n, t', f'⟩ := X
      intro HGE HGT
      simp only at HGT HGE
      have q0 := HR.out.c0
      have q1 := HR.out.c1
      go_wp2_with (first
        | (go_at_call 67; refine (err_any _ _ _ _ HRd.out).mono ?_; rintro e w4 ⟨rfl, rfl⟩)
        | (go_at_call 69; refine (HGT.out _ HRd.out HGW.out).mono ?_; rintro e w3 ⟨rfl, hr3, hm3⟩)
        | (at_builtin; refine wpList_append_own _ rfl _ _ 71 rfl w2.heap.size 61 i0 _ 1 2 Try.underlying71 hi hz0 hz1 hz2 rfl (by decide) _ l.length _ rfl ((own_mod HO.out hm3 HLT.out).alloc _) ⟨w3.heap.size, 0, none⟩ 1 1 [cellN n] rfl rfl ?p1 ?p2 ?p3 ?p4 ?p5 ?_))
      case p1 => exact cellN_new w3 n 61
      case p2 => exact cellN_one _
      case p3 => unfold maxLen; omega
      case p4 => omega
      case p5 => have h1 := HS.out; have h2 := hm3.size; simp; omega
      intro v' w4 hown' hgrow _
      have hs3 : w2.heap.size ≤ w3.heap.size := Nat.le_trans HS.out hm3.size
      have HO4 : Hid (w4.ownsRow w2.heap.size 61 1 v' (l ++ [n]).length ((l ++ [n]).map cellN)) := by
        show w4.ownsRow _ _ _ _ _ _
        rw [List.map_append, List.length_append]; exact hown'
      have HB34 : Hid (Below w2.heap.size w3 w4) := ((Below.refl _ _).alloc hs3 _).grown hgrow (by simp; omega) (fun g hg => (HO.out.lt g hg).1)
      have HB3 : Hid (Below w.heap.size w w3) := HB.out.trans (hm3.below (by rw [HBE.out]; omega) HB.out.size)
      have HR4 : Hid (Cd2 w4 w.heap.size (.func (.func 62) #[] #[.pointer (some ⟨ca, 0, none⟩)]) (.func (.func 64) #[] #[.pointer (some ⟨cg, 0, none⟩)])) := (HR.out.mod hm3 (by rw [HBE.out]; omega)).keep (HB34.out.block _ (by have := HLT.out; rw [HBE.out] at this; omega))
      have HD4 : Hid (Rd w4 b t' f') := hr3.below' HB34.out HLT.out
      clear hown' hgrow hm3 hr3
      go_wp2
      go_roundg (N - (l.length + 1))
      case measure => omega
      case rel =>
        refine ⟨l.length + 1, l ++ [n], t', f', by omega, rfl, by go_num, by simp, ?_, HD4, HR4, HO4, HB3.out.trans (HB34.out.mono HB2.out.size), Nat.le_trans hs3 HB34.out.size⟩
        show _ = _
        rw [HGE.out]
        simp
    · have HEQ : Hid (getsG (verG 0 getW) N s1 e1 = (l, t, f)) := by
        show _ = _
        rw [HGE.out]
        by_cases hf : f = 0
        · obtain hk0 : N - l.length = 0 := by have := fun h => hgo ⟨h, hf⟩; omega
          rw [hk0]; simp [getsG]
        · rw [getsG_bad _ _ _ _ hf]; simp
      have HXE : Hid (listG (verG 0 getW) s most = (l, fin t f)) := by
        show _ = _
        rw [HX.out, HEQ.out]
      have HFT := Lib.hid (end_rd b t f _ HRd.out)
      clear HGE
      obtain ⟨a1, c1, rfl⟩ : ∃ a1 c1, u10 = .slice a1 l.length c1 := by
        rcases HO.out.2 with ⟨h, h0⟩ | ⟨g, cap, cur, h, _⟩
        · exact ⟨none, 0, by rw [h, h0]⟩
        · exact ⟨_, cap, h⟩
      by_cases hlt : l.length < N
      · have hf : f ≠ 0 := fun h => hgo ⟨hlt, h⟩
        have hf' : (f == 0) = false := by rw [beq_eq_false_iff_ne]; exact hf
        (by_cases hz : fin t f = 0
         · rw [hz] at HXE HFT
           go_wp2_with (first
             | (go_at_call 67; refine (err_any _ _ _ _ HRd.out).mono ?_; rintro e w4 ⟨rfl, rfl⟩)
             | (go_at_call 55; refine HFT.out.mono ?_; rintro e w4 ⟨rfl, rfl⟩))
           go_ret2
           exact .ok (by rw [HXE.out]) _ rfl (by rw [HXE.out]; exact SlW.own HO.out) HB.out
         · have hz' : (fin t f != 0) = true := by rw [bne_iff_ne]; exact hz
           revert HFT HXE hz hz'
           generalize fin t f = z
           intro HXE HFT hz hz'
           go_wp2_with (first
             | (go_at_call 67; refine (err_any _ _ _ _ HRd.out).mono ?_; rintro e w4 ⟨rfl, rfl⟩)
             | (go_at_call 55; refine HFT.out.mono ?_; rintro e w4 ⟨rfl, rfl⟩))
           go_ret2
           exact .bad (by rw [HXE.out]; exact hz) (by rw [HXE.out]; rfl) HB.out)
      · (by_cases hz : fin t f = 0
         · rw [hz] at HXE HFT
           go_wp2_with (first
             | (go_at_call 67; refine (err_any _ _ _ _ HRd.out).mono ?_; rintro e w4 ⟨rfl, rfl⟩)
             | (go_at_call 55; refine HFT.out.mono ?_; rintro e w4 ⟨rfl, rfl⟩))
           go_ret2
           exact .ok (by rw [HXE.out]) _ rfl (by rw [HXE.out]; exact SlW.own HO.out) HB.out
         · have hz' : (fin t f != 0) = true := by rw [bne_iff_ne]; exact hz
           revert HFT HXE hz hz'
           generalize fin t f = z
           intro HXE HFT hz hz'
           go_wp2_with (first
             | (go_at_call 67; refine (err_any _ _ _ _ HRd.out).mono ?_; rintro e w4 ⟨rfl, rfl⟩)
             | (go_at_call 55; refine HFT.out.mono ?_; rintro e w4 ⟨rfl, rfl⟩))
           go_ret2
           exact .bad (by rw [HXE.out]; exact hz) (by rw [HXE.out]; rfl) HB.out)
end Go.Proofs.Ytfoijhofpjaldaa
