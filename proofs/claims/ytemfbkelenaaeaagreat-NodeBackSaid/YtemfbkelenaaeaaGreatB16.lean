/- Texts of one seat, merged. -/
import Derived.Test.YtemfbkelenaaeaaGreatB05
import Derived.Test.YtemfbkelenaaeaaGreatB15
import Derived.Test.YtemfbkelenaaeaaGreatB04
import Derived.Test.YtemfbkelenaaeaaGreatB10
import Derived.Test.YtemfbkelenaaeaaGreatB14
import Derived.Test.YtemfbkelenaaeaaGreatB12
set_option maxRecDepth 100000
set_option maxHeartbeats 4000000
set_option linter.unusedVariables false
/- The contract of the program's Read, at a leaf's cells. -/

namespace Go.Proofs.YtemfbkelenaaeaaGreat
open Go.RowKit
open Sl (Cl Kd)
inductive PReadC (s : List UInt8) (n : Int) (w : World) (e : Ending) (w' : World) : Prop
  | bad (h : ∀ m, 0 ≤ n → ¬ Canon true s n.toNat m) (he : e = .returned (.tuple #[.slice none 0 0, .int .i64 4])) (hb : Below w.heap.size w w')
  | ord (l : List Cl) (h0 : 0 ≤ n) (h : Canon true s n.toNat (l)) (hr : Sl.right Sl.shC l ≠ 0) (he : e = .returned (.tuple #[.slice none 0 0, .int .i64 (Sl.right Sl.shC l)])) (hb : Below w.heap.size w w')
  | ok (l : List Cl) (h0 : 0 ≤ n) (h : Canon true s n.toNat (l)) (hr : Sl.right Sl.shC l = 0) (v : Value) (he : e = .returned (.tuple #[v, .int .i64 0])) (hv : SlC w' v l) (hq : Cap v) (hb : Below w.heap.size w w')
theorem make_cellsC (c : Nat) (h : c ≤ 30000) (W : World) : (Instr.makeSlice 22 (.int .i64 c) (.int .i64 c)).run Tryz.prog W = .ok (.slice (some ⟨W.heap.size, 0, none⟩) c c) (W.alloc (.cells (madeCells #[.string ⟨#[]⟩, .string ⟨#[]⟩, .int .u32 0, .int .u32 0] (c * 4)) 52)) := by
  obtain ⟨i, hi, hz, hs, hb⟩ := info_parts info42
  have := run_makeSlice (P := Tryz.prog) W 22 52 i _ Tryz.underlying22 hi hz .i64 .i64 c c (by omega) (by omega) (by rw [hs]; omega) (by rw [hb]; omega) (by omega)
  rw [this, hs]
  simp only [Int.toNat_natCast]
  rfl
theorem made_rowC (w : World) (c : Nat) (h : c ≤ 30000) :
    (w.alloc (.cells (madeCells #[.string ⟨#[]⟩, .string ⟨#[]⟩, .int .u32 0, .int .u32 0] (c * 4)) 52)).ownsRow w.heap.size 52 4 (.slice (some ⟨w.heap.size, 0, none⟩) c c) c (madeCells #[.string ⟨#[]⟩, .string ⟨#[]⟩, .int .u32 0, .int .u32 0] (c * 4)).toList := by
  have hsz := size_madeCells #[.string ⟨#[]⟩, .string ⟨#[]⟩, .int .u32 0, .int .u32 0] (c * 4)
  generalize madeCells #[.string ⟨#[]⟩, .string ⟨#[]⟩, .int .u32 0, .int .u32 0] (c * 4) = M at hsz ⊢
  refine ⟨by simp [hsz], .inr ⟨w.heap.size, c, M, rfl, Nat.le_refl _, heap_alloc_new w _, Nat.le_refl _, by unfold maxLen; omega, hsz, ?_⟩⟩
  rw [List.take_of_length_le (by rw [Array.length_toList]; omega)]
theorem flatlC (l : List Cl) : (l.flatMap cellsC).length = l.length * 4 := by
  induction l with
  | nil => rfl
  | cons y l ih => rw [List.flatMap_cons, List.length_append, ih, cellsC_len, List.length_cons]; omega
theorem snoc_get {α : Type} (L : List α) (x y : α) (i : Nat) (h : (L ++ [x])[i]? = some y) : L[i]? = some y ∨ i = L.length ∧ y = x := by
  rcases Nat.lt_trichotomy i L.length with h1 | h1 | h1
  · rw [List.getElem?_append_left h1] at h; exact .inl h
  · subst h1; rw [List.getElem?_append_right (Nat.le_refl _)] at h; simp at h; exact .inr ⟨rfl, h.symm⟩
  · have := (List.getElem?_eq_some_iff.1 h).1; simp at this; omega
/-- The stores of one cell, into a row that has room. -/
theorem storedC {w : World} {g c : Nat} {l : List Cl} {zs : List Value} (h : w.ownsRow g 52 4 (.slice (some ⟨g, 0, none⟩) c c) c (l.flatMap cellsC ++ zs)) (hz : zs.length = (c - l.length) * 4) (hl : l.length < c) (x : Cl) :
    ∃ zt, zt.length = (c - (l.length + 1)) * 4 ∧ (((((w.setCell ⟨g, l.length * 4, none⟩ (.string (str x.key))).setCell ⟨g, l.length * 4 + 1, none⟩ (.string (str x.val))).setCell ⟨g, l.length * 4 + 2, none⟩ (.int .u32 x.chain)).setCell ⟨g, l.length * 4 + 3, none⟩ (.int .u32 x.long))).ownsRow g 52 4 (.slice (some ⟨g, 0, none⟩) c c) c ((l ++ [x]).flatMap cellsC ++ zt) := by
  have hfl := flatlC l
  obtain ⟨zt, hzt, hze⟩ : ∃ zt, zt.length = (c - (l.length + 1)) * 4 ∧ ∃ a0 a1 a2 a3, zs = a0 :: a1 :: a2 :: a3 :: zt := by
    refine ⟨zs.drop 4, by rw [List.length_drop, hz]; omega, ?_⟩
    have h4 : 4 ≤ zs.length := by rw [hz]; omega
    match zs, h4 with
    | a0 :: a1 :: a2 :: a3 :: zt, _ => exact ⟨a0, a1, a2, a3, rfl⟩
  obtain ⟨a0, a1, a2, a3, rfl⟩ := hze
  refine ⟨zt, hzt, ?_⟩
  have hst := ((((h.stored (l.length * 4) (.string (str x.key))).1.stored (l.length * 4 + 1) (.string (str x.val))).1.stored (l.length * 4 + 2) (.int .u32 x.chain)).1.stored (l.length * 4 + 3) (.int .u32 x.long)).1
  rw [List.flatMap_append, List.flatMap_cons, List.flatMap_nil, List.append_nil, List.append_assoc]
  have hls : (((((l.flatMap cellsC ++ a0 :: a1 :: a2 :: a3 :: zt).set (l.length * 4) (.string (str x.key))).set (l.length * 4 + 1) (.string (str x.val))).set (l.length * 4 + 2) (.int .u32 x.chain)).set (l.length * 4 + 3) (.int .u32 x.long)) = l.flatMap cellsC ++ (cellsC x ++ zt) := by
    rw [List.set_append_right _ _ (by rw [hfl]; omega), show l.length * 4 - (l.flatMap cellsC).length = 0 by rw [hfl]; omega]
    rw [List.set_append_right _ _ (by rw [hfl]; omega), show l.length * 4 + 1 - (l.flatMap cellsC).length = 1 by rw [hfl]; omega]
    rw [List.set_append_right _ _ (by rw [hfl]; omega), show l.length * 4 + 2 - (l.flatMap cellsC).length = 2 by rw [hfl]; omega]
    rw [List.set_append_right _ _ (by rw [hfl]; omega), show l.length * 4 + 3 - (l.flatMap cellsC).length = 3 by rw [hfl]; omega]
    rfl
  rw [← hls]
  exact hst
set_option maxHeartbeats 8000000 in
set_option maxRecDepth 100000 in
theorem readC_any (s : List UInt8) (hs : s.length ≤ 60000) (n : Int) (w : World) :
    Calls Tryz.prog 33 #[shpC, .string (str s), .int .i64 n] w (PReadC s n w) := by
  have hsz := str_size s
  have HB0 := Lib.hid (BxC.new w)
  have HW0 : Hid (Below w.heap.size w (w.alloc (.cells #[.func (.func 53) #[] #[], .func (.func 54) #[] #[], .func (.func 55) #[] #[], .func (.func 56) #[] #[]] 66))) := (Below.refl _ _).alloc (Nat.le_refl _) _
  have HWh := Lib.hid (fun W => wholeC_any W)
  have HCU := Lib.hid (fun W => cut_any s (by omega) n W)
  have HCD := Lib.hid (fun W => codecC_any W)
  have HMa := Lib.hid (fun v (l : List Cl) hll W (hW : SlC W v l) => mayC_any v l hll W hW)
  unfold shpC at HWh HCD HMa ⊢
  go_enter Tryz.func33, Tryz.ntmps33
  go_wp2_with (first
    | (go_at_call 58; refine (HWh.out _).mono ?_; rintro e w1 ⟨rfl, hb1⟩; have HB1 := Lib.hid (below_step HW0.out hb1); have HR1 := Lib.hid (HB0.out.below hb1 HB0.out.lt))
    | (go_at_call 80; refine (HCU.out _).mono ?_))
  rintro e w2 (⟨hbad, rfl, hb2⟩ | ⟨hgood, v, rfl, hv, hb2⟩)
  · have HBAD : Hid (∀ m, 0 ≤ n → ¬ Canon true s n.toNat m) := fun m h0 h => hbad (by have := h.cut hs; rwa [Int.toNat_of_nonneg h0] at this)
    have HB2 := Lib.hid (below_step HB1.out hb2)
    clear hbad hb1 hb2
    go_wp2
    go_ret2
    exact .bad HBAD.out rfl HB2.out
  · obtain ⟨c, rfl⟩ : ∃ c : Nat, n = c := ⟨n.toNat, by have := hgood.1; omega⟩
    rw [Int.toNat_natCast] at hv
    have hc : c ≤ 30000 := by have := hgood.2.1; omega
    have HGD := Lib.hid hgood
    have HB2 := Lib.hid (below_step HB1.out hb2)
    have HR2 := Lib.hid (HR1.out.below hb2 HR1.out.lt)
    have hlp : (pieces s c).length = c := by simp [pieces]
    obtain ⟨a, b, o, cp, rfl, ha, hx⟩ := hv
    rw [hlp]
    have HA : Hid (0 < c → a = some ⟨b, o, none⟩) := fun h0 => by
      rcases ha with h | h
      · rw [h] at hlp; simp at hlp; omega
      · exact h
    have HX : Hid (∀ j, j < c → w2.cell? ⟨b, o + j, none⟩ = some (.string (str (pieceAt s c j)))) := fun j hj => hx j _ (by unfold pieces; rw [List.getElem?_map, List.getElem?_range hj]; rfl)
    have hmk := fun W => make_cellsC c hc W
    have hcn : (c : Int) ≤ 30000 := by omega
    have HO0 := Lib.hid (made_rowC w2 c hc)
    have HB3 : Hid (Below w2.heap.size w2 (w2.alloc (.cells (madeCells #[.string ⟨#[]⟩, .string ⟨#[]⟩, .int .u32 0, .int .u32 0] (c * 4)) 52))) := (Below.refl _ _).alloc (Nat.le_refl _) _
    clear hgood hb1 hb2 ha hx hlp
    go_wp2_with fail
    clear hmk
    have HGL : Hid (w.heap.size < w2.heap.size) := HR2.out.lt
    have HR3 := Lib.hid (HR2.out.below HB3.out HR2.out.lt)
    have HZ0 : Hid ((madeCells #[.string ⟨#[]⟩, .string ⟨#[]⟩, .int .u32 0, .int .u32 0] (c * 4)).toList.length = (c - 0) * 4) := by show _ = _; rw [Array.length_toList, size_madeCells, Nat.sub_zero]
    have HG3 : Hid (w2.heap.size ≤ (w2.alloc (.cells (madeCells #[.string ⟨#[]⟩, .string ⟨#[]⟩, .int .u32 0, .int .u32 0] (c * 4)) 52)).heap.size) := by show _ ≤ _; simp
    have HBS : Hid (0 < c → b < w2.heap.size) := fun h0 => World.block_lt_of_cell? _ _ (HX.out 0 h0)
    revert HO0 HB3 HR3 HG3 HZ0
    generalize (madeCells #[.string ⟨#[]⟩, .string ⟨#[]⟩, .int .u32 0, .int .u32 0] (c * 4)).toList = zs0
    generalize (w2.alloc (.cells (madeCells #[.string ⟨#[]⟩, .string ⟨#[]⟩, .int .u32 0, .int .u32 0] (c * 4)) 52)) = w3
    intro HO0 HB3 HR3 HZ0 HG3
    obtain ⟨g, hg⟩ : ∃ g, g = w2.heap.size := ⟨_, rfl⟩
    have HGE := Lib.hid hg
    rw [← hg] at HO0 HB3 HGL HG3 HBS ⊢
    clear hg
    have HW3 : Hid (Below w.heap.size w w3) := HB2.out.trans (HB3.out.mono (Nat.le_of_lt HGL.out))
    go_loopg [32] c (fun n i wr => ∃ (l : List Cl) (zs : List Value), l.length ≤ c ∧ n = c - l.length ∧ i = .int .i64 l.length ∧ Hid (∀ x ∈ l, canR true x) ∧ Hid (∀ i x, (l)[i]? = some x → pieceAt s c i = (Sl.shR true).enc x) ∧ Hid (zs.length = (c - l.length) * 4) ∧ Hid (wr.ownsRow g 52 4 (.slice (some ⟨g, 0, none⟩) c c) c (l.flatMap cellsC ++ zs)) ∧ Hid (Below g w3 wr))
    case atStart => exact ⟨[], zs0, Nat.zero_le _, rfl, rfl, fun x hx => by simp at hx, fun i x hx => by simp at hx, HZ0.out, HO0.out, Below.refl _ _⟩
    case round =>
      obtain ⟨l, zs, hk, rfl, rfl, HC, HP, HZ, HO, HB⟩ := hrel
      clear HO0 HZ0
      by_cases hlt : l.length < c
      · have hlt' : (l.length : Int) < c := by omega
        obtain rfl := HA.out (by omega)
        have hbg := HBS.out (by omega)
        have d0 := (HB.out.cell (p := ⟨b, o + l.length, none⟩) hbg).trans ((HB3.out.cell (p := ⟨b, o + l.length, none⟩) (HGE.out ▸ hbg)).trans (HX.out l.length hlt))
        have HR := Lib.hid (HR3.out.below HB.out HGL.out)
        have q0 := HR.out.c0
        have q1 := HR.out.c1
        have q2 := HR.out.c2
        have q3 := HR.out.c3
        have HRD := Lib.hid (fun W => rdC_any (str (pieceAt s c l.length)) W)
        clear hbg
        have HGr : Hid (g ≤ wr.heap.size) := Nat.le_trans HG3.out HB.out.size
        by_cases he : (rdC (str (pieceAt s c l.length))).2 = 0
        · obtain ⟨hcan, hpe⟩ := rdC_good _ he
          have HBY : Hid (∀ W, Calls Tryz.prog 64 #[cdcC, aggC (rdC (str (pieceAt s c l.length))).1] W fun e w' => e = .returned (.string (str (pieceAt s c l.length))) ∧ Below W.heap.size W w') := fun W => by
            have := bytesC_ok (rdC (str (pieceAt s c l.length))).1 ⟨hcan.2.1, hcan.2.2.1⟩ W
            rw [show Sl.shC.enc (rdC (str (pieceAt s c l.length))).1 = pieceAt s c l.length from hpe.symm] at this
            exact this
          have HPE := Lib.hid hpe
          have HCAN := Lib.hid hcan
          clear hpe hcan
          have hps := str_size (pieceAt s c l.length)
          have hpb := str_beq (rfl : pieceAt s c l.length = pieceAt s c l.length)
          generalize rdC (str (pieceAt s c l.length)) = X at he HBY HPE HCAN HRD
          obtain ⟨x, e0⟩ := X
          simp only at he HBY HPE HCAN HRD
          subst he
          generalize hp : pieceAt s c l.length = p at d0 HRD HBY HPE hps hpb
          have HPP := Lib.hid hp
          clear hp
          unfold cdcC at HBY HCD HRD
          unfold aggC at HBY HRD
          go_wp2_with (first
            | (go_at_call 81; refine (HRD.out _).mono ?_; rintro e w5 ⟨rfl, hb5⟩; have HB5 := Lib.hid (below_step hb4 hb5))
            | (go_at_call 63; refine (HCD.out _).mono ?_; rintro e w4 ⟨rfl, hb4⟩))
          have HR5 := Lib.hid ((HR.out.below HB5.out HR.out.lt).alloc (.cells #[.string (str x.key), .string (str x.val), .int .u32 x.chain, .int .u32 x.long] 52))
          have hF : Hid ((w5.alloc (.cells #[.string (str x.key), .string (str x.val), .int .u32 x.chain, .int .u32 x.long] 52)).drew.cell? ⟨w.heap.size, 0, none⟩ = some (.func (.func 53) #[] #[]) ∧ (w5.alloc (.cells #[.string (str x.key), .string (str x.val), .int .u32 x.chain, .int .u32 x.long] 52)).drew.cell? ⟨w.heap.size, 1, none⟩ = some (.func (.func 54) #[] #[]) ∧ (w5.alloc (.cells #[.string (str x.key), .string (str x.val), .int .u32 x.chain, .int .u32 x.long] 52)).drew.cell? ⟨w.heap.size, 2, none⟩ = some (.func (.func 55) #[] #[]) ∧ (w5.alloc (.cells #[.string (str x.key), .string (str x.val), .int .u32 x.chain, .int .u32 x.long] 52)).drew.cell? ⟨w.heap.size, 3, none⟩ = some (.func (.func 56) #[] #[]) ∧ (w5.alloc (.cells #[.string (str x.key), .string (str x.val), .int .u32 x.chain, .int .u32 x.long] 52)).drew.cell? ⟨w5.heap.size, 0, none⟩ = some (.string (str x.key)) ∧ (w5.alloc (.cells #[.string (str x.key), .string (str x.val), .int .u32 x.chain, .int .u32 x.long] 52)).drew.cell? ⟨w5.heap.size, 1, none⟩ = some (.string (str x.val)) ∧ (w5.alloc (.cells #[.string (str x.key), .string (str x.val), .int .u32 x.chain, .int .u32 x.long] 52)).drew.cell? ⟨w5.heap.size, 2, none⟩ = some (.int .u32 x.chain) ∧ (w5.alloc (.cells #[.string (str x.key), .string (str x.val), .int .u32 x.chain, .int .u32 x.long] 52)).drew.cell? ⟨w5.heap.size, 3, none⟩ = some (.int .u32 x.long) ∧ Below wr.heap.size wr (w5.alloc (.cells #[.string (str x.key), .string (str x.val), .int .u32 x.chain, .int .u32 x.long] 52)).drew) := ⟨HR5.out.c0, HR5.out.c1, HR5.out.c2, HR5.out.c3, by simp, by simp, by simp, by simp, ((HB5.out.alloc HB5.out.size _).drew)⟩
          clear hb4 hb5 q0 q1 q2 q3 d0
          go_region_held3 (fun w' => w'.cell? ⟨w.heap.size, 0, none⟩ = some (.func (.func 53) #[] #[]) ∧ w'.cell? ⟨w.heap.size, 1, none⟩ = some (.func (.func 54) #[] #[]) ∧ w'.cell? ⟨w.heap.size, 2, none⟩ = some (.func (.func 55) #[] #[]) ∧ w'.cell? ⟨w.heap.size, 3, none⟩ = some (.func (.func 56) #[] #[]) ∧ w'.cell? ⟨w5.heap.size, 0, none⟩ = some (.string (str x.key)) ∧ w'.cell? ⟨w5.heap.size, 1, none⟩ = some (.string (str x.val)) ∧ w'.cell? ⟨w5.heap.size, 2, none⟩ = some (.int .u32 x.chain) ∧ w'.cell? ⟨w5.heap.size, 3, none⟩ = some (.int .u32 x.long) ∧ Below wr.heap.size wr w')
            ((first | assumption | exact step8 (Nat.le_refl _) ‹_› hb | exact hF.out))
            (first
            | (go_at_call 63; with_reducible refine (HCD.out _).mono ?_; rintro e w6 ⟨rfl, hb⟩)
            | (go_at_call 64; with_reducible refine (HBY.out _).mono ?_; rintro e w6 ⟨rfl, hb⟩))
          rename_i hS
          have HS := Lib.hid hS
          clear hF
          have HO6 := Lib.hid (own_below HO.out HS.out.2.2.2.2.2.2.2.2 (Nat.le_refl _))
          have HB6 : Hid (Below g w3 w6) := HB.out.trans (HS.out.2.2.2.2.2.2.2.2.mono HGr.out)
          have hfl := flatlC l
          have hzl := HZ.out
          obtain ⟨z0, ck0⟩ : ∃ z, w6.cell? ⟨g, l.length * 4, none⟩ = some z := ⟨_, (HO6.out.cellAt (l.length * 4) (by omega)).trans (List.getElem?_eq_getElem (by rw [List.length_append, hfl, hzl]; omega))⟩
          have fz0 := HO6.out.frozenAt (l.length * 4)
          obtain ⟨z1, ck1⟩ : ∃ z, w6.cell? ⟨g, l.length * 4 + 1, none⟩ = some z := ⟨_, (HO6.out.cellAt (l.length * 4 + 1) (by omega)).trans (List.getElem?_eq_getElem (by rw [List.length_append, hfl, hzl]; omega))⟩
          have fz1 := HO6.out.frozenAt (l.length * 4 + 1)
          obtain ⟨z2, ck2⟩ : ∃ z, w6.cell? ⟨g, l.length * 4 + 2, none⟩ = some z := ⟨_, (HO6.out.cellAt (l.length * 4 + 2) (by omega)).trans (List.getElem?_eq_getElem (by rw [List.length_append, hfl, hzl]; omega))⟩
          have fz2 := HO6.out.frozenAt (l.length * 4 + 2)
          obtain ⟨z3, ck3⟩ : ∃ z, w6.cell? ⟨g, l.length * 4 + 3, none⟩ = some z := ⟨_, (HO6.out.cellAt (l.length * 4 + 3) (by omega)).trans (List.getElem?_eq_getElem (by rw [List.length_append, hfl, hzl]; omega))⟩
          have fz3 := HO6.out.frozenAt (l.length * 4 + 3)
          clear hfl hzl
          go_wp2
          obtain ⟨zt, hzt, HO7⟩ := storedC HO6.out HZ.out hlt x
          have HB7 : Hid (Below g w3 (((((w6.setCell ⟨g, l.length * 4, none⟩ (.string (str x.key))).setCell ⟨g, l.length * 4 + 1, none⟩ (.string (str x.val))).setCell ⟨g, l.length * 4 + 2, none⟩ (.int .u32 x.chain)).setCell ⟨g, l.length * 4 + 3, none⟩ (.int .u32 x.long)))) := ((((HB6.out.setCell (p := ⟨g, l.length * 4, none⟩) (Nat.le_refl _) _).setCell (p := ⟨g, l.length * 4 + 1, none⟩) (Nat.le_refl _) _).setCell (p := ⟨g, l.length * 4 + 2, none⟩) (Nat.le_refl _) _).setCell (p := ⟨g, l.length * 4 + 3, none⟩) (Nat.le_refl _) _)
          have HZ7 := Lib.hid hzt
          have HO8 := Lib.hid HO7
          have HC7 : Hid (∀ y ∈ (l ++ [x]), canR true y) := fun y hy => by
            rcases List.mem_append.1 hy with h | h
            · exact HC.out y h
            · simp at h; subst h; exact HCAN.out
          have HP7 : Hid (∀ i y, ((l ++ [x]))[i]? = some y → pieceAt s c i = (Sl.shR true).enc y) := fun i y h => by
            rcases snoc_get _ _ _ _ h with h | ⟨h, h2⟩
            · exact HP.out i y h
            · subst h; subst h2; exact HPP.out.trans HPE.out
          clear hzt HO7
          go_roundg (c - (l.length + 1))
          case measure => omega
          case rel =>
            exact ⟨l ++ [x], zt, by rw [List.length_append]; exact hlt, by rw [List.length_append]; rfl, by rw [List.length_append]; go_num, HC7, HP7, by show _ = _; rw [List.length_append]; exact HZ7.out, HO8, HB7⟩
        · have HBAD : Hid (∀ m, (0 : Int) ≤ (c : Int) → ¬ Canon true s ((c : Int)).toNat m) := fun m _ h => by
            have h' : Canon true s c m := h
            obtain ⟨y, hy, _, hym⟩ := drop_at m l.length (by rw [h'.1]; exact hlt)
            have hp := h'.piece hs _ y hy
            have hc' := h'.2.1 y hym
            rw [hp] at he
            exact he (by rw [show (Sl.shR true).enc y = Sl.encC y from rfl, rdC_app y hc'])
          have HWr : Hid (Below w.heap.size w wr) := HW3.out.trans (HB.out.mono (Nat.le_of_lt HGL.out))
          have hd : ((rdC (str (pieceAt s c l.length))).2 != 0) = true := by rw [bne_iff_ne]; exact he
          clear he
          generalize rdC (str (pieceAt s c l.length)) = X at hd HRD
          obtain ⟨x, e0⟩ := X
          simp only at hd HRD
          generalize pieceAt s c l.length = p at d0 HRD
          unfold cdcC at HCD HRD
          unfold aggC at HRD
          go_wp2_with (first
            | (go_at_call 81; refine (HRD.out _).mono ?_; rintro e w5 ⟨rfl, hb5⟩; have HB5 := Lib.hid (below_step hb4 hb5))
            | (go_at_call 63; refine (HCD.out _).mono ?_; rintro e w4 ⟨rfl, hb4⟩))
          have HB6 : Hid (Below w.heap.size w (w5.alloc (.cells #[.string (str x.key), .string (str x.val), .int .u32 x.chain, .int .u32 x.long] 52))) := (HWr.out.trans (HB5.out.mono HWr.out.size)).alloc (Nat.le_trans HWr.out.size HB5.out.size) _
          clear hb4 hb5 q0 q1 q2 q3 d0
          go_quiet (fail)
          go_wp2
          go_ret2
          exact .bad HBAD.out rfl (below_drewN HB6.out _)
      · obtain rfl : c = l.length := by omega
        have hz0 : zs = [] := List.length_eq_zero_iff.1 (by have := HZ.out; rw [Nat.sub_self, Nat.zero_mul] at this; exact this)
        subst hz0
        rw [List.append_nil] at HO
        have HV := Lib.hid (SlC.own HO.out)
        have HCN : Hid (Canon true s ((l.length : Int)).toNat (l)) := canon_of_cut HGD.out (l) (by first | rfl | exact List.length_map ..) HC.out HP.out
        have HWr : Hid (Below w.heap.size w wr) := HW3.out.trans (HB.out.mono (Nat.le_of_lt HGL.out))
        have HMv := Lib.hid (fun W hW => HMa.out (.slice (some ⟨g, 0, none⟩) l.length l.length) l (by omega) W hW)
        have HR := Lib.hid (HR3.out.below HB.out HGL.out)
        have q0 := HR.out.c0
        have q1 := HR.out.c1
        have q2 := HR.out.c2
        have q3 := HR.out.c3
        have hnl : ¬ (l.length : Int) < l.length := by omega
        by_cases hr : Sl.right Sl.shC l = 0
        · have HRR := Lib.hid hr
          rw [hr] at HMv
          clear hr
          go_wp2_with (go_at_call 59; refine (HMv.out _ HV.out).mono ?_; rintro e w4 ⟨rfl, hb4⟩)
          go_ret2
          exact .ok l (Int.natCast_nonneg _) HCN.out HRR.out _ rfl (HV.out.below hb4) (ownsRow_cap HO.out) (below_step HWr.out hb4)
        · have HRR := Lib.hid hr
          have hd : (Sl.right Sl.shC l != 0) = true := by rw [bne_iff_ne]; exact hr
          clear hr
          go_wp2_with (go_at_call 59; refine (HMv.out _ HV.out).mono ?_; rintro e w4 ⟨rfl, hb4⟩)
          go_ret2
          exact .ord l (Int.natCast_nonneg _) HCN.out HRR.out rfl (below_step HWr.out hb4)
end Go.Proofs.YtemfbkelenaaeaaGreat
/- The contract of the program's Read, at a branch's cells. -/

namespace Go.Proofs.YtemfbkelenaaeaaGreat
open Go.RowKit
open Sl (Cl Kd)
inductive PReadK (s : List UInt8) (n : Int) (w : World) (e : Ending) (w' : World) : Prop
  | bad (h : ∀ m, 0 ≤ n → ¬ Canon false s n.toNat m) (he : e = .returned (.tuple #[.slice none 0 0, .int .i64 4])) (hb : Below w.heap.size w w')
  | ord (l : List Kd) (h0 : 0 ≤ n) (h : Canon false s n.toNat ((l.map toC))) (hr : Sl.right Sl.shK l ≠ 0) (he : e = .returned (.tuple #[.slice none 0 0, .int .i64 (Sl.right Sl.shK l)])) (hb : Below w.heap.size w w')
  | ok (l : List Kd) (h0 : 0 ≤ n) (h : Canon false s n.toNat ((l.map toC))) (hr : Sl.right Sl.shK l = 0) (v : Value) (he : e = .returned (.tuple #[v, .int .i64 0])) (hv : SlK w' v l) (hq : Cap v) (hb : Below w.heap.size w w')
theorem make_cellsK (c : Nat) (h : c ≤ 30000) (W : World) : (Instr.makeSlice 30 (.int .i64 c) (.int .i64 c)).run Tryz.prog W = .ok (.slice (some ⟨W.heap.size, 0, none⟩) c c) (W.alloc (.cells (madeCells #[.string ⟨#[]⟩, .int .u32 0] (c * 2)) 78)) := by
  obtain ⟨i, hi, hz, hs, hb⟩ := info_parts info47
  have := run_makeSlice (P := Tryz.prog) W 30 78 i _ Tryz.underlying30 hi hz .i64 .i64 c c (by omega) (by omega) (by rw [hs]; omega) (by rw [hb]; omega) (by omega)
  rw [this, hs]
  simp only [Int.toNat_natCast]
  rfl
theorem made_rowK (w : World) (c : Nat) (h : c ≤ 30000) :
    (w.alloc (.cells (madeCells #[.string ⟨#[]⟩, .int .u32 0] (c * 2)) 78)).ownsRow w.heap.size 78 2 (.slice (some ⟨w.heap.size, 0, none⟩) c c) c (madeCells #[.string ⟨#[]⟩, .int .u32 0] (c * 2)).toList := by
  have hsz := size_madeCells #[.string ⟨#[]⟩, .int .u32 0] (c * 2)
  generalize madeCells #[.string ⟨#[]⟩, .int .u32 0] (c * 2) = M at hsz ⊢
  refine ⟨by simp [hsz], .inr ⟨w.heap.size, c, M, rfl, Nat.le_refl _, heap_alloc_new w _, Nat.le_refl _, by unfold maxLen; omega, hsz, ?_⟩⟩
  rw [List.take_of_length_le (by rw [Array.length_toList]; omega)]
theorem flatlK (l : List Kd) : (l.flatMap cellsK).length = l.length * 2 := by
  induction l with
  | nil => rfl
  | cons y l ih => rw [List.flatMap_cons, List.length_append, ih, cellsK_len, List.length_cons]; omega
/-- The stores of one cell, into a row that has room. -/
theorem storedK {w : World} {g c : Nat} {l : List Kd} {zs : List Value} (h : w.ownsRow g 78 2 (.slice (some ⟨g, 0, none⟩) c c) c (l.flatMap cellsK ++ zs)) (hz : zs.length = (c - l.length) * 2) (hl : l.length < c) (x : Kd) :
    ∃ zt, zt.length = (c - (l.length + 1)) * 2 ∧ (((w.setCell ⟨g, l.length * 2, none⟩ (.string (str x.key))).setCell ⟨g, l.length * 2 + 1, none⟩ (.int .u32 x.page))).ownsRow g 78 2 (.slice (some ⟨g, 0, none⟩) c c) c ((l ++ [x]).flatMap cellsK ++ zt) := by
  have hfl := flatlK l
  obtain ⟨zt, hzt, hze⟩ : ∃ zt, zt.length = (c - (l.length + 1)) * 2 ∧ ∃ a0 a1, zs = a0 :: a1 :: zt := by
    refine ⟨zs.drop 2, by rw [List.length_drop, hz]; omega, ?_⟩
    have h4 : 2 ≤ zs.length := by rw [hz]; omega
    match zs, h4 with
    | a0 :: a1 :: zt, _ => exact ⟨a0, a1, rfl⟩
  obtain ⟨a0, a1, rfl⟩ := hze
  refine ⟨zt, hzt, ?_⟩
  have hst := ((h.stored (l.length * 2) (.string (str x.key))).1.stored (l.length * 2 + 1) (.int .u32 x.page)).1
  rw [List.flatMap_append, List.flatMap_cons, List.flatMap_nil, List.append_nil, List.append_assoc]
  have hls : (((l.flatMap cellsK ++ a0 :: a1 :: zt).set (l.length * 2) (.string (str x.key))).set (l.length * 2 + 1) (.int .u32 x.page)) = l.flatMap cellsK ++ (cellsK x ++ zt) := by
    rw [List.set_append_right _ _ (by rw [hfl]; omega), show l.length * 2 - (l.flatMap cellsK).length = 0 by rw [hfl]; omega]
    rw [List.set_append_right _ _ (by rw [hfl]; omega), show l.length * 2 + 1 - (l.flatMap cellsK).length = 1 by rw [hfl]; omega]
    rfl
  rw [← hls]
  exact hst
set_option maxHeartbeats 8000000 in
set_option maxRecDepth 100000 in
theorem readK_any (s : List UInt8) (hs : s.length ≤ 60000) (n : Int) (w : World) :
    Calls Tryz.prog 35 #[shpK, .string (str s), .int .i64 n] w (PReadK s n w) := by
  have hsz := str_size s
  have HB0 := Lib.hid (BxK.new w)
  have HW0 : Hid (Below w.heap.size w (w.alloc (.cells #[.func (.func 68) #[] #[], .func (.func 71) #[] #[], .func (.func 72) #[] #[], .nilFunc] 74))) := (Below.refl _ _).alloc (Nat.le_refl _) _
  have HWh := Lib.hid (fun W => wholeK_any W)
  have HCU := Lib.hid (fun W => cut_any s (by omega) n W)
  have HCD := Lib.hid (fun W => codecK_any W)
  have HMa := Lib.hid (fun v (l : List Kd) hll W (hW : SlK W v l) => mayK_any v l hll W hW)
  unfold shpK at HWh HCD HMa ⊢
  go_enter Tryz.func35, Tryz.ntmps35
  go_wp2_with (first
    | (go_at_call 73; refine (HWh.out _).mono ?_; rintro e w1 ⟨rfl, hb1⟩; have HB1 := Lib.hid (below_step HW0.out hb1); have HR1 := Lib.hid (HB0.out.below hb1 HB0.out.lt))
    | (go_at_call 80; refine (HCU.out _).mono ?_))
  rintro e w2 (⟨hbad, rfl, hb2⟩ | ⟨hgood, v, rfl, hv, hb2⟩)
  · have HBAD : Hid (∀ m, 0 ≤ n → ¬ Canon false s n.toNat m) := fun m h0 h => hbad (by have := h.cut hs; rwa [Int.toNat_of_nonneg h0] at this)
    have HB2 := Lib.hid (below_step HB1.out hb2)
    clear hbad hb1 hb2
    go_wp2
    go_ret2
    exact .bad HBAD.out rfl HB2.out
  · obtain ⟨c, rfl⟩ : ∃ c : Nat, n = c := ⟨n.toNat, by have := hgood.1; omega⟩
    rw [Int.toNat_natCast] at hv
    have hc : c ≤ 30000 := by have := hgood.2.1; omega
    have HGD := Lib.hid hgood
    have HB2 := Lib.hid (below_step HB1.out hb2)
    have HR2 := Lib.hid (HR1.out.below hb2 HR1.out.lt)
    have hlp : (pieces s c).length = c := by simp [pieces]
    obtain ⟨a, b, o, cp, rfl, ha, hx⟩ := hv
    rw [hlp]
    have HA : Hid (0 < c → a = some ⟨b, o, none⟩) := fun h0 => by
      rcases ha with h | h
      · rw [h] at hlp; simp at hlp; omega
      · exact h
    have HX : Hid (∀ j, j < c → w2.cell? ⟨b, o + j, none⟩ = some (.string (str (pieceAt s c j)))) := fun j hj => hx j _ (by unfold pieces; rw [List.getElem?_map, List.getElem?_range hj]; rfl)
    have hmk := fun W => make_cellsK c hc W
    have hcn : (c : Int) ≤ 30000 := by omega
    have HO0 := Lib.hid (made_rowK w2 c hc)
    have HB3 : Hid (Below w2.heap.size w2 (w2.alloc (.cells (madeCells #[.string ⟨#[]⟩, .int .u32 0] (c * 2)) 78))) := (Below.refl _ _).alloc (Nat.le_refl _) _
    clear hgood hb1 hb2 ha hx hlp
    go_wp2_with fail
    clear hmk
    have HGL : Hid (w.heap.size < w2.heap.size) := HR2.out.lt
    have HR3 := Lib.hid (HR2.out.below HB3.out HR2.out.lt)
    have HZ0 : Hid ((madeCells #[.string ⟨#[]⟩, .int .u32 0] (c * 2)).toList.length = (c - 0) * 2) := by show _ = _; rw [Array.length_toList, size_madeCells, Nat.sub_zero]
    have HG3 : Hid (w2.heap.size ≤ (w2.alloc (.cells (madeCells #[.string ⟨#[]⟩, .int .u32 0] (c * 2)) 78)).heap.size) := by show _ ≤ _; simp
    have HBS : Hid (0 < c → b < w2.heap.size) := fun h0 => World.block_lt_of_cell? _ _ (HX.out 0 h0)
    revert HO0 HB3 HR3 HG3 HZ0
    generalize (madeCells #[.string ⟨#[]⟩, .int .u32 0] (c * 2)).toList = zs0
    generalize (w2.alloc (.cells (madeCells #[.string ⟨#[]⟩, .int .u32 0] (c * 2)) 78)) = w3
    intro HO0 HB3 HR3 HZ0 HG3
    obtain ⟨g, hg⟩ : ∃ g, g = w2.heap.size := ⟨_, rfl⟩
    have HGE := Lib.hid hg
    rw [← hg] at HO0 HB3 HGL HG3 HBS ⊢
    clear hg
    have HW3 : Hid (Below w.heap.size w w3) := HB2.out.trans (HB3.out.mono (Nat.le_of_lt HGL.out))
    go_loopg [32] c (fun n i wr => ∃ (l : List Kd) (zs : List Value), l.length ≤ c ∧ n = c - l.length ∧ i = .int .i64 l.length ∧ Hid (∀ x ∈ (l.map toC), canR false x) ∧ Hid (∀ i x, ((l.map toC))[i]? = some x → pieceAt s c i = (Sl.shR false).enc x) ∧ Hid (zs.length = (c - l.length) * 2) ∧ Hid (wr.ownsRow g 78 2 (.slice (some ⟨g, 0, none⟩) c c) c (l.flatMap cellsK ++ zs)) ∧ Hid (Below g w3 wr))
    case atStart => exact ⟨[], zs0, Nat.zero_le _, rfl, rfl, fun x hx => by simp at hx, fun i x hx => by simp at hx, HZ0.out, HO0.out, Below.refl _ _⟩
    case round =>
      obtain ⟨l, zs, hk, rfl, rfl, HC, HP, HZ, HO, HB⟩ := hrel
      clear HO0 HZ0
      by_cases hlt : l.length < c
      · have hlt' : (l.length : Int) < c := by omega
        obtain rfl := HA.out (by omega)
        have hbg := HBS.out (by omega)
        have d0 := (HB.out.cell (p := ⟨b, o + l.length, none⟩) hbg).trans ((HB3.out.cell (p := ⟨b, o + l.length, none⟩) (HGE.out ▸ hbg)).trans (HX.out l.length hlt))
        have HR := Lib.hid (HR3.out.below HB.out HGL.out)
        have q0 := HR.out.c0
        have q1 := HR.out.c1
        have q2 := HR.out.c2
        have q3 := HR.out.c3
        have HRD := Lib.hid (fun W => rdK_any (str (pieceAt s c l.length)) W)
        clear hbg
        have HGr : Hid (g ≤ wr.heap.size) := Nat.le_trans HG3.out HB.out.size
        by_cases he : (rdK (str (pieceAt s c l.length))).2 = 0
        · obtain ⟨hcan, hpe⟩ := rdK_good _ he
          have HBY : Hid (∀ W, Calls Tryz.prog 76 #[cdcK, aggK (rdK (str (pieceAt s c l.length))).1] W fun e w' => e = .returned (.string (str (pieceAt s c l.length))) ∧ Below W.heap.size W w') := fun W => by
            have := bytesK_ok (rdK (str (pieceAt s c l.length))).1 hcan.2 W
            rw [show Sl.shK.enc (rdK (str (pieceAt s c l.length))).1 = pieceAt s c l.length from hpe.symm] at this
            exact this
          have HPE := Lib.hid hpe
          have HCAN := Lib.hid hcan
          clear hpe hcan
          have hps := str_size (pieceAt s c l.length)
          have hpb := str_beq (rfl : pieceAt s c l.length = pieceAt s c l.length)
          generalize rdK (str (pieceAt s c l.length)) = X at he HBY HPE HCAN HRD
          obtain ⟨x, e0⟩ := X
          simp only at he HBY HPE HCAN HRD
          subst he
          generalize hp : pieceAt s c l.length = p at d0 HRD HBY HPE hps hpb
          have HPP := Lib.hid hp
          clear hp
          unfold cdcK at HBY HCD HRD
          unfold aggK at HBY HRD
          go_wp2_with (first
            | (go_at_call 82; refine (HRD.out _).mono ?_; rintro e w5 ⟨rfl, hb5⟩; have HB5 := Lib.hid (below_step hb4 hb5))
            | (go_at_call 75; refine (HCD.out _).mono ?_; rintro e w4 ⟨rfl, hb4⟩))
          have HR5 := Lib.hid ((HR.out.below HB5.out HR.out.lt).alloc (.cells #[.string (str x.key), .int .u32 x.page] 78))
          have hF : Hid ((w5.alloc (.cells #[.string (str x.key), .int .u32 x.page] 78)).drew.cell? ⟨w.heap.size, 0, none⟩ = some (.func (.func 68) #[] #[]) ∧ (w5.alloc (.cells #[.string (str x.key), .int .u32 x.page] 78)).drew.cell? ⟨w.heap.size, 1, none⟩ = some (.func (.func 71) #[] #[]) ∧ (w5.alloc (.cells #[.string (str x.key), .int .u32 x.page] 78)).drew.cell? ⟨w.heap.size, 2, none⟩ = some (.func (.func 72) #[] #[]) ∧ (w5.alloc (.cells #[.string (str x.key), .int .u32 x.page] 78)).drew.cell? ⟨w.heap.size, 3, none⟩ = some (.nilFunc) ∧ (w5.alloc (.cells #[.string (str x.key), .int .u32 x.page] 78)).drew.cell? ⟨w5.heap.size, 0, none⟩ = some (.string (str x.key)) ∧ (w5.alloc (.cells #[.string (str x.key), .int .u32 x.page] 78)).drew.cell? ⟨w5.heap.size, 1, none⟩ = some (.int .u32 x.page) ∧ Below wr.heap.size wr (w5.alloc (.cells #[.string (str x.key), .int .u32 x.page] 78)).drew) := ⟨HR5.out.c0, HR5.out.c1, HR5.out.c2, HR5.out.c3, by simp, by simp, ((HB5.out.alloc HB5.out.size _).drew)⟩
          clear hb4 hb5 q0 q1 q2 q3 d0
          go_region_held3 (fun w' => w'.cell? ⟨w.heap.size, 0, none⟩ = some (.func (.func 68) #[] #[]) ∧ w'.cell? ⟨w.heap.size, 1, none⟩ = some (.func (.func 71) #[] #[]) ∧ w'.cell? ⟨w.heap.size, 2, none⟩ = some (.func (.func 72) #[] #[]) ∧ w'.cell? ⟨w.heap.size, 3, none⟩ = some (.nilFunc) ∧ w'.cell? ⟨w5.heap.size, 0, none⟩ = some (.string (str x.key)) ∧ w'.cell? ⟨w5.heap.size, 1, none⟩ = some (.int .u32 x.page) ∧ Below wr.heap.size wr w')
            ((first | assumption | exact step6 (Nat.le_refl _) ‹_› hb | exact hF.out))
            (first
            | (go_at_call 75; with_reducible refine (HCD.out _).mono ?_; rintro e w6 ⟨rfl, hb⟩)
            | (go_at_call 76; with_reducible refine (HBY.out _).mono ?_; rintro e w6 ⟨rfl, hb⟩))
          rename_i hS
          have HS := Lib.hid hS
          clear hF
          have HO6 := Lib.hid (own_below HO.out HS.out.2.2.2.2.2.2 (Nat.le_refl _))
          have HB6 : Hid (Below g w3 w6) := HB.out.trans (HS.out.2.2.2.2.2.2.mono HGr.out)
          have hfl := flatlK l
          have hzl := HZ.out
          obtain ⟨z0, ck0⟩ : ∃ z, w6.cell? ⟨g, l.length * 2, none⟩ = some z := ⟨_, (HO6.out.cellAt (l.length * 2) (by omega)).trans (List.getElem?_eq_getElem (by rw [List.length_append, hfl, hzl]; omega))⟩
          have fz0 := HO6.out.frozenAt (l.length * 2)
          obtain ⟨z1, ck1⟩ : ∃ z, w6.cell? ⟨g, l.length * 2 + 1, none⟩ = some z := ⟨_, (HO6.out.cellAt (l.length * 2 + 1) (by omega)).trans (List.getElem?_eq_getElem (by rw [List.length_append, hfl, hzl]; omega))⟩
          have fz1 := HO6.out.frozenAt (l.length * 2 + 1)
          clear hfl hzl
          go_wp2
          obtain ⟨zt, hzt, HO7⟩ := storedK HO6.out HZ.out hlt x
          have HB7 : Hid (Below g w3 (((w6.setCell ⟨g, l.length * 2, none⟩ (.string (str x.key))).setCell ⟨g, l.length * 2 + 1, none⟩ (.int .u32 x.page)))) := ((HB6.out.setCell (p := ⟨g, l.length * 2, none⟩) (Nat.le_refl _) _).setCell (p := ⟨g, l.length * 2 + 1, none⟩) (Nat.le_refl _) _)
          have HZ7 := Lib.hid hzt
          have HO8 := Lib.hid HO7
          have HC7 : Hid (∀ y ∈ ((l ++ [x]).map toC), canR false y) := fun y hy => by
            rw [List.map_append] at hy
            rcases List.mem_append.1 hy with h | h
            · exact HC.out y h
            · simp at h; subst h; exact ⟨HCAN.out.1, HCAN.out.2, rfl, rfl⟩
          have HP7 : Hid (∀ i y, (((l ++ [x]).map toC))[i]? = some y → pieceAt s c i = (Sl.shR false).enc y) := fun i y h => by
            rw [List.map_append] at h
            rcases snoc_get _ _ _ _ h with h | ⟨h, h2⟩
            · exact HP.out i y h
            · rw [List.length_map] at h
              subst h; subst h2; exact HPP.out.trans HPE.out
          clear hzt HO7
          go_roundg (c - (l.length + 1))
          case measure => omega
          case rel =>
            exact ⟨l ++ [x], zt, by rw [List.length_append]; exact hlt, by rw [List.length_append]; rfl, by rw [List.length_append]; go_num, HC7, HP7, by show _ = _; rw [List.length_append]; exact HZ7.out, HO8, HB7⟩
        · have HBAD : Hid (∀ m, (0 : Int) ≤ (c : Int) → ¬ Canon false s ((c : Int)).toNat m) := fun m _ h => by
            have h' : Canon false s c m := h
            obtain ⟨y, hy, _, hym⟩ := drop_at m l.length (by rw [h'.1]; exact hlt)
            have hp := h'.piece hs _ y hy
            have hc' := h'.2.1 y hym
            rw [hp] at he
            exact he (by rw [show (Sl.shR false).enc y = Sl.encK ⟨y.key, y.chain⟩ from rfl, rdK_app ⟨y.key, y.chain⟩ ⟨hc'.1, hc'.2.1⟩])
          have HWr : Hid (Below w.heap.size w wr) := HW3.out.trans (HB.out.mono (Nat.le_of_lt HGL.out))
          have hd : ((rdK (str (pieceAt s c l.length))).2 != 0) = true := by rw [bne_iff_ne]; exact he
          clear he
          generalize rdK (str (pieceAt s c l.length)) = X at hd HRD
          obtain ⟨x, e0⟩ := X
          simp only at hd HRD
          generalize pieceAt s c l.length = p at d0 HRD
          unfold cdcK at HCD HRD
          unfold aggK at HRD
          go_wp2_with (first
            | (go_at_call 82; refine (HRD.out _).mono ?_; rintro e w5 ⟨rfl, hb5⟩; have HB5 := Lib.hid (below_step hb4 hb5))
            | (go_at_call 75; refine (HCD.out _).mono ?_; rintro e w4 ⟨rfl, hb4⟩))
          have HB6 : Hid (Below w.heap.size w (w5.alloc (.cells #[.string (str x.key), .int .u32 x.page] 78))) := (HWr.out.trans (HB5.out.mono HWr.out.size)).alloc (Nat.le_trans HWr.out.size HB5.out.size) _
          clear hb4 hb5 q0 q1 q2 q3 d0
          go_quiet (fail)
          go_wp2
          go_ret2
          exact .bad HBAD.out rfl (below_drewN HB6.out _)
      · obtain rfl : c = l.length := by omega
        have hz0 : zs = [] := List.length_eq_zero_iff.1 (by have := HZ.out; rw [Nat.sub_self, Nat.zero_mul] at this; exact this)
        subst hz0
        rw [List.append_nil] at HO
        have HV := Lib.hid (SlK.own HO.out)
        have HCN : Hid (Canon false s ((l.length : Int)).toNat ((l.map toC))) := canon_of_cut HGD.out ((l.map toC)) (by first | rfl | exact List.length_map ..) HC.out HP.out
        have HWr : Hid (Below w.heap.size w wr) := HW3.out.trans (HB.out.mono (Nat.le_of_lt HGL.out))
        have HMv := Lib.hid (fun W hW => HMa.out (.slice (some ⟨g, 0, none⟩) l.length l.length) l (by omega) W hW)
        have HR := Lib.hid (HR3.out.below HB.out HGL.out)
        have q0 := HR.out.c0
        have q1 := HR.out.c1
        have q2 := HR.out.c2
        have q3 := HR.out.c3
        have hnl : ¬ (l.length : Int) < l.length := by omega
        by_cases hr : Sl.right Sl.shK l = 0
        · have HRR := Lib.hid hr
          rw [hr] at HMv
          clear hr
          go_wp2_with (go_at_call 74; refine (HMv.out _ HV.out).mono ?_; rintro e w4 ⟨rfl, hb4⟩)
          go_ret2
          exact .ok l (Int.natCast_nonneg _) HCN.out HRR.out _ rfl (HV.out.below hb4) (ownsRow_cap HO.out) (below_step HWr.out hb4)
        · have HRR := Lib.hid hr
          have hd : (Sl.right Sl.shK l != 0) = true := by rw [bne_iff_ne]; exact hr
          clear hr
          go_wp2_with (go_at_call 74; refine (HMv.out _ HV.out).mono ?_; rintro e w4 ⟨rfl, hb4⟩)
          go_ret2
          exact .ord l (Int.natCast_nonneg _) HCN.out HRR.out rfl (below_step HWr.out hb4)
end Go.Proofs.YtemfbkelenaaeaaGreat
