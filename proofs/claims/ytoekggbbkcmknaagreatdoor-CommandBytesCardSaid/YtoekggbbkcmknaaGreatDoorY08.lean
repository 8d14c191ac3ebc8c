/- Texts of one seat, merged. -/
import Derived.Test.YtoekggbbkcmknaaGreatDoorY07
import Derived.Lib.AppendZeros
import Derived.Test.YtoekggbbkcmknaaGreatDoorY01
import Derived.Test.YtoekggbbkcmknaaGreatDoorY06
set_option maxRecDepth 100000
set_option maxHeartbeats 4000000
set_option linter.unusedVariables false
/- The document's ParseBatch. -/
namespace Go.Proofs.YtoekggbbkcmknaaGreatDoor
open Go.RowKit
attribute [local go_sem ↓] zeroC_eq newC_eq loadC_eq storeC_eq buildC_eq zeroR_eq newR_eq loadR_eq storeR_eq buildR_eq
attribute [local go_sem] run_zeroC run_newC run_buildC0 run_buildC1 run_neqC run_eqlC run_guardC run_zeroR run_newR run_buildR0 run_buildR1 run_neqR run_eqlR run_guardR
attribute [local go_sem ↓] bslC_eq bslR_eq
attribute [local go_sem] run_bslC run_bslR
inductive ListOutD (s : ByteArray) (w : World) (e : Ending) (w' : World) : Prop
  | ok (h0 : (listD s).2 = 0) (v : Value) (he : e = .returned (.tuple #[v, .int .i64 0])) (hs : SlG Cm.vals 18 w' v (listD s).1) (hb : Below w.heap.size w w')
  | bad (h0 : (listD s).2 ≠ 0) (he : e = .returned (.tuple #[.slice none 0 0, .int .i64 (listD s).2])) (hb : Below w.heap.size w w')
set_option maxRecDepth 1000000
set_option maxHeartbeats 1000000 in
theorem refParseBatch_any (s : ByteArray) (w : World) :
    Calls Tryz.prog 16 #[.string s] w fun e w' => ListOutD s w e w' := by
  have HRD := Lib.hid (rdNew w s)
  have HC := Lib.hid (num4 _ s 0 _ HRD.out)
  have hvn := vlt32 s 0
  have HB0 := Lib.hid ((Below.refl w.heap.size w).alloc (Nat.le_refl _) (.cells #[.string s, .int .i64 0] 56))
  have HX : Hid (listD s = ((getsD (cntD s).1 (cntD s).2.1 (cntD s).2.2).1, fin (getsD (cntD s).1 (cntD s).2.1 (cntD s).2.2).2.1 (getsD (cntD s).1 (cntD s).2.1 (cntD s).2.2).2.2)) := rfl
  unfold cntD at HX
  simp only at HX
  revert HC HX hvn
  generalize tk s 0 4 = T
  obtain ⟨tb, s1, e0⟩ := T
  simp only
  generalize Oc.val tb.data.toList = N
  intro HC hvn HX
  by_cases h64 : 64 < N
  · have hg : (64 : Int) < (N : Int) := by omega
    have HFL := Lib.hid (fun W (hW : Rd W w.heap.size s1 e0) => refFail_any w.heap.size s1 e0 6 W hW)
    rw [if_pos h64] at HX
    generalize hx : (if e0 = 0 then (6 : Int) else e0) = e1 at HX HFL
    have he1 : e1 ≠ 0 := by rw [← hx]; split <;> omega
    clear hx h64
    rw [getsD_bad _ _ _ he1] at HX
    have hbad : (e1 == 0) = false := by rw [beq_eq_false_iff_ne]; exact he1
    have hfin : fin s1 e1 = e1 := by unfold fin; rw [if_neg (fun h => he1 h.1)]
    have HXE : Hid ((listD s).2 = e1) := by show _ = _; rw [HX.out]; exact hfin
    have hnz : (e1 != 0) = true := by rw [bne_iff_ne]; exact he1
    go_enter Tryz.func16, Tryz.ntmps16
    go_wp2_with (first
      | (go_at_call 42; refine (HFL.out _ hr1).mono ?_; rintro x w2 ⟨rfl, hr2, hu2⟩)
      | (go_at_call 41; refine (HC.out).mono ?_; rintro x w1 ⟨rfl, hr1, hu1⟩))
    have hb2 := hr2.c1
    have HR2 := Lib.hid hr2
    have HE := Lib.hid (refEnd_rd w.heap.size s1 e1 w2 hr2)
    rw [hfin] at HE
    have HBB := Lib.hid ((HB0.out.trans (hu1.below (Nat.le_refl _))).trans (hu2.below (Nat.le_refl _)))
    have HNE := Lib.hid he1
    clear hr1 hr2 hu1 hu2 he1 hfin
    go_loopg [6, 7] 0 (fun g v i wr => v = .slice none 0 0 ∧ i = .int .u64 0 ∧ wr = w2)
    case atStart => exact ⟨rfl, rfl, rfl⟩
    case round =>
      obtain ⟨rfl, rfl, rfl⟩ := hrel
      have hp : (0 : Int) < (N : Int) := by omega
      clear hg hvn
      go_wp2_with (go_at_call 39; refine HE.out.mono ?_; rintro x w4 ⟨rfl, rfl⟩)
      all_goals first
        | (go_ret2; exact .bad (by rw [HXE.out]; exact HNE.out) (by rw [HXE.out]; rfl) HBB.out)
        | trace_state
  · rw [if_neg h64] at HX
    have hg : decide ((64 : Int) < (N : Int)) = false := decide_eq_false (by omega)
    have HN64 := Lib.hid (show N ≤ 64 by omega)
    clear h64
    go_enter Tryz.func16, Tryz.ntmps16
    go_wp2_with (go_at_call 41; refine (HC.out).mono ?_; rintro x w1 ⟨rfl, hr1, hu1⟩)
    have HD2 := Lib.hid hr1
    have HB2 := Lib.hid (HB0.out.trans (hu1.below (Nat.le_refl _)))
    have HLT := Lib.hid hr1.lt
    clear hr1 hu1
    go_loopg [6, 7] N (fun g v i wr => ∃ (k : Nat) (l : List Cm) (t : ByteArray) (f : Int), k ≤ N ∧ g = N - k ∧ i = .int .u64 k ∧ l.length = k ∧
      Hid (getsD N s1 e0 = (l ++ (getsD (N - k) t f).1, (getsD (N - k) t f).2)) ∧ Hid (Rd wr w.heap.size t f) ∧
      Hid (RowG Cm.vals 18 40 wr w1.heap.size v l) ∧ Hid (Below w.heap.size w wr) ∧ Hid (w1.heap.size ≤ wr.heap.size))
    case atStart => exact ⟨0, [], s1, e0, Nat.zero_le _, rfl, rfl, rfl, rfl, HD2.out, RowG.nil _ _ _ _ _, HB2.out, Nat.le_refl _⟩
    case round =>
      obtain ⟨k, l, t, f, hk, rfl, rfl, rfl, HGE, HRd, HO, HB, HS⟩ := hrel
      have hb := HRd.out.c1
      by_cases hgo : l.length < N ∧ f = 0
      · obtain ⟨hlt, rfl⟩ := hgo
        rw [show N - l.length = N - (l.length + 1) + 1 by omega, getsD_succ] at HGE
        have HGT := Lib.hid (fun W (hW : Rd W w.heap.size t 0) => refRead_any w.heap.size t 0 W hW)
        revert HGT HGE
        generalize readR t 0 = X
        obtain ⟨xc, t', f'⟩ := X
        intro HGE HGT
        simp only at HGT HGE
        go_wp2_with (first
          | (go_at_call 19; refine (HGT.out _ HRd.out).mono ?_; rintro e w3 ⟨rfl, hr3, hm3⟩)
          | (at_builtin; obtain ⟨v', w4, hrun, hO4, hgrow, hB34, _⟩ := app1 (W := w3) encV appR (by decide) _ xc 0 (Nat.le_trans HS.out hm3.size) (RowG.mod HO.out hm3 HLT.out) (by have := HN64.out; omega) (Cm.vals xc).toArray rfl _ rfl; refine Lib.wpList_append_run _ rfl _ _ _ _ rfl _ _ rfl rfl _ _ hrun ?_; have HK := Lib.hid (And.intro hO4 hB34)))
        have hB4 : Below w1.heap.size w3 w4 := HK.out.2
        have hs3 : w1.heap.size ≤ w3.heap.size := Nat.le_trans HS.out hm3.size
        have HO4 := Lib.hid HK.out.1
        have HB34 := Lib.hid hB4
        have HB3 : Hid (Below w.heap.size w w3) := HB.out.trans (hm3.below (Nat.le_refl _) HB.out.size)
        have HD4 : Hid (Rd w4 w.heap.size t' f') := hr3.below' HB34.out HLT.out
        clear hB4 hgrow hm3 hr3 hrun hO4 hB34
        go_wp2
        go_roundg (N - (l.length + 1))
        case measure => omega
        case rel =>
          have hN := HN64.out
          refine ⟨l.length + 1, l ++ [xc], t', f', by omega, rfl, by go_num, by simp, ?_, HD4, HO4, HB3.out.trans (HB34.out.mono HB2.out.size), Nat.le_trans hs3 HB34.out.size⟩
          show _ = _
          rw [HGE.out]
          simp
      · have HEQ : Hid (getsD N s1 e0 = (l, t, f)) := by
          show _ = _
          rw [HGE.out]
          by_cases hf : f = 0
          · obtain hk0 : N - l.length = 0 := by have := fun h => hgo ⟨h, hf⟩; omega
            rw [hk0]; simp [getsD]
          · rw [getsD_bad _ _ _ hf]; simp
        have HXE : Hid (listD s = (l, fin t f)) := by
          show _ = _
          rw [HX.out, HEQ.out]
        have HFT := Lib.hid (fun W (hW : Rd W w.heap.size t f) => refEnd_rd w.heap.size t f W hW)
        clear HGE
        obtain ⟨a1, c1, rfl⟩ := RowG.slice HO.out
        by_cases hlt : l.length < N
        · have hf : f ≠ 0 := fun h => hgo ⟨hlt, h⟩
          have hf' : (f == 0) = false := by rw [beq_eq_false_iff_ne]; exact hf
          by_cases hz : fin t f = 0
          · exact absurd (fin_zero hz) hf
          · have hz' : (fin t f != 0) = true := by rw [bne_iff_ne]; exact hz
            revert HFT HXE hz hz'
            generalize fin t f = z
            intro HXE HFT hz hz'
            go_wp2_with (go_at_call 39; refine (HFT.out _ HRd.out).mono ?_; rintro e w4 ⟨rfl, rfl⟩)
            go_ret2
            exact .bad (by rw [HXE.out]; exact hz) (by rw [HXE.out]; rfl) HB.out
        · by_cases hz : fin t f = 0
          · rw [hz] at HXE HFT
            go_wp2_with (go_at_call 39; refine (HFT.out _ HRd.out).mono ?_; rintro e w4 ⟨rfl, rfl⟩)
            go_ret2
            exact .ok (by rw [HXE.out]) _ rfl (by rw [HXE.out]; exact RowG.sl encV HO.out) HB.out
          · have hz' : (fin t f != 0) = true := by rw [bne_iff_ne]; exact hz
            revert HFT HXE hz hz'
            generalize fin t f = z
            intro HXE HFT hz hz'
            go_wp2_with (go_at_call 39; refine (HFT.out _ HRd.out).mono ?_; rintro e w4 ⟨rfl, rfl⟩)
            go_ret2
            exact .bad (by rw [HXE.out]; exact hz) (by rw [HXE.out]; rfl) HB.out
end Go.Proofs.YtoekggbbkcmknaaGreatDoor
/- What a reader takes of bytes laid one behind the other. -/
namespace Go.Proofs.YtoekggbbkcmknaaGreatDoor
open Go.RowKit
theorem str_extract (l m : List UInt8) : (str (l ++ m)).extract 0 l.length = str l := by
  apply ByteArray.ext
  simp [str]
theorem str_extract' (l m : List UInt8) : (str (l ++ m)).extract l.length (str (l ++ m)).size = str m := by
  rw [str_size, List.length_append]
  apply ByteArray.ext
  simp [str]
theorem tk_str (l m : List UInt8) (k : Nat) (h : l.length = k) : tk (str (l ++ m)) 0 k = (str l, str m, 0) := by
  subst h
  rw [tk_ok _ _ (by rw [str_size, List.length_append]; omega), str_extract, str_extract']
theorem txt_str (l m : List UInt8) (most : Nat) (h : l.length < 4294967296) (hm : l.length ≤ most) : txt (str (Oc.big 4 l.length ++ (l ++ m))) 0 most = (str l, str m, 0) := by
  rw [txt_eq]
  have h4 : tk (str (Oc.big 4 l.length ++ (l ++ m))) 0 4 = (str (Oc.big 4 l.length), str (l ++ m), 0) := tk_str _ _ 4 (Oc.big_length _ _)
  rw [h4, str_data, Oc.val_big 4 _ h, if_neg (by rw [if_pos (by omega)]; omega)]
  exact tk_str l m l.length rfl
end Go.Proofs.YtoekggbbkcmknaaGreatDoor
/- What is written is read as it was; what is read would be written so: plain mathematics. -/
namespace Go.Proofs.YtoekggbbkcmknaaGreatDoor
open Go.RowKit
/-- Bytes and what follows them. -/
def ok4 (c : Cm) : Prop := c.qn.size < 4294967296 ∧ c.qd.size < 4294967296
theorem txt_back (t : ByteArray) (m : List UInt8) (most : Nat) (hm : t.size ≤ most) (h4 : most < 4294967296) : txt (str (Sg.txb t ++ m)) 0 most = (t, str m, 0) := by
  unfold Sg.txb
  rw [List.append_assoc]
  exact txt_str t.data.toList m most (Nat.lt_of_le_of_lt hm h4) hm
theorem tk_back (k n : Nat) (m : List UInt8) (h : n < 256 ^ k) : Oc.val (tk (str (Oc.big k n ++ m)) 0 k).1.data.toList = n ∧ (tk (str (Oc.big k n ++ m)) 0 k).2.1 = str m ∧ (tk (str (Oc.big k n ++ m)) 0 k).2.2 = 0 := by
  rw [tk_str (Oc.big k n) m k (Oc.big_length _ _)]
  exact ⟨by rw [str_data, Oc.val_big k n h], rfl, rfl⟩
theorem cm3 {a a' : Cm} {b b' : ByteArray} {e e' : Int} (h1 : a = a') (h2 : b = b') (h3 : e = e') : ((a, b, e) : Cm × ByteArray × Int) = (a', b', e') := by rw [h1, h2, h3]
theorem sg_back (s : Sg) (z c : Cm) (hok : c.ok) (h0 : 0 ≤ c.bk) (h255 : c.bk ≤ 255) (hl : s.long c = false) (m : List UInt8) :
    s.read (z, str (s.enc c ++ m), 0) = (s.hand z c, str m, 0) := by
  have tx : ∀ (t : ByteArray) (n : Nat), decide (n < t.size) = false → n < 4294967296 → txt (str (Sg.txb t ++ m)) 0 n = (t, str m, 0) := fun t n h1 h2 => txt_back t m n (Nat.le_of_not_lt (of_decide_eq_false h1)) h2
  cases s
  case q => have h := tx c.qn Sg.q.most hl (by decide); simp only [Sg.read, Sg.enc, h, Sg.hand]
  case d => have h := tx c.qd Sg.d.most hl (by decide); simp only [Sg.read, Sg.enc, h, Sg.hand]
  case E => have h := tx c.bx Sg.E.most hl (by decide); simp only [Sg.read, Sg.enc, h, Sg.hand]
  case P => have h := tx c.bp Sg.P.most hl (by decide); simp only [Sg.read, Sg.enc, h, Sg.hand]
  case Q => have h := tx c.bq Sg.Q.most hl (by decide); simp only [Sg.read, Sg.enc, h, Sg.hand]
  case e => have h := tx c.ex Sg.e.most hl (by decide); simp only [Sg.read, Sg.enc, h, Sg.hand]
  case k => have h := tx c.key Sg.k.most hl (by decide); simp only [Sg.read, Sg.enc, h, Sg.hand]
  case b => have h := tx c.body Sg.b.most hl (by decide); simp only [Sg.read, Sg.enc, h, Sg.hand]
  case m => obtain ⟨h1, h2, h3⟩ := tk_back 4 c.most m (by have := hok.most; simpa using this); exact cm3 (congrArg (fun n => ({ z with most := n } : Cm)) h1) h2 h3
  case r => obtain ⟨h1, h2, h3⟩ := tk_back 4 c.tries m (by have := hok.tries; simpa using this); exact cm3 (congrArg (fun n => ({ z with tries := n } : Cm)) h1) h2 h3
  case l => obtain ⟨h1, h2, h3⟩ := tk_back 8 c.ttl m (by have := hok.ttl; simpa using this); exact cm3 (congrArg (fun n => ({ z with ttl := n } : Cm)) h1) h2 h3
  case i => obtain ⟨h1, h2, h3⟩ := tk_back 8 c.id m (by have := hok.id; simpa using this); exact cm3 (congrArg (fun n => ({ z with id := n } : Cm)) h1) h2 h3
  case o => obtain ⟨h1, h2, h3⟩ := tk_back 8 c.token m (by have := hok.token; simpa using this); exact cm3 (congrArg (fun n => ({ z with token := n } : Cm)) h1) h2 h3
  case n => obtain ⟨h1, h2, h3⟩ := tk_back 8 c.n m (by have := hok.n; simpa using this); exact cm3 (congrArg (fun n => ({ z with n := n } : Cm)) h1) h2 h3
  case t => obtain ⟨h1, h2, h3⟩ := tk_back 8 c.time m (by have := hok.time; simpa using this); exact cm3 (congrArg (fun n => ({ z with time := n } : Cm)) h1) h2 h3
  case K =>
    have hw : IntKind.u8.wrap c.bk = c.bk := by unfold IntKind.wrap; simp [IntKind.signed, IntKind.bits]; omega
    obtain ⟨h1, h2, h3⟩ := tk_back 1 (IntKind.u8.wrap c.bk).toNat m (by rw [hw]; omega)
    refine cm3 (congrArg (fun n : Int => ({ z with bk := n } : Cm)) ?_) h2 h3
    have h1' : ((Oc.val (tk (str (Oc.big 1 (IntKind.u8.wrap c.bk).toNat ++ m)) 0 (1 : Nat)).1.data.toList : Nat) : Int) = (((IntKind.u8.wrap c.bk).toNat : Nat) : Int) := congrArg _ h1
    refine h1'.trans ?_
    rw [hw]; omega
  case x =>
    obtain ⟨h1, h2, h3⟩ := tk_back 1 (if c.dead then 1 else 0) m (by split <;> decide)
    have hle : ¬ 1 < Oc.val (tk (str (Oc.big 1 (if c.dead then 1 else 0) ++ m)) 0 (1 : Nat)).1.data.toList := by
      intro h; have := h1 ▸ h; split at this <;> omega
    refine cm3 (congrArg (fun n => ({ z with dead := n } : Cm)) ?_) h2 ((if_neg hle).trans h3)
    show decide (Oc.val (tk (str (Oc.big 1 (if c.dead then 1 else 0) ++ m)) 0 (1 : Nat)).1.data.toList = 1) = c.dead
    rw [show Oc.val (tk (str (Oc.big 1 (if c.dead then 1 else 0) ++ m)) 0 (1 : Nat)).1.data.toList = (if c.dead then 1 else 0) from h1]
    cases c.dead <;> rfl
theorem sgs_back (c : Cm) (hok : c.ok) (h0 : 0 ≤ c.bk) (h255 : c.bk ≤ 255) : ∀ (l : List Sg) (z : Cm) (_ : ∀ s ∈ l, s.long c = false) (m : List UInt8),
    readL l (z, str ((l.flatMap fun s => s.enc c) ++ m), 0) = (l.foldl (fun t s => s.hand t c) z, str m, 0)
  | [], _, _, _ => rfl
  | s :: l, z, h, m => by
    show readL l (s.read (z, str (((s :: l).flatMap fun s => s.enc c) ++ m), 0)) = _
    rw [List.flatMap_cons, List.append_assoc, sg_back s z c hok h0 h255 (h s (by simp))]
    exact sgs_back c hok h0 h255 l _ (fun t' ht => h t' (by simp [ht])) m
/-- What is written is read as it was. -/
theorem readR_back (c : Cm) (hok : c.ok) (hw : wrongC c = 0) (m : List UInt8) : readR (str (encC c ++ m)) 0 = (c, str m, 0) := by
  obtain ⟨⟨hk1, hk2⟩, ht, h0, h255, hl⟩ := fine_iff hw
  unfold readR encC
  rw [List.append_assoc]
  obtain ⟨h1, h2, h3⟩ := tk_back 1 c.kind.toNat ((form c.kind).flatMap (fun s => s.enc c) ++ m) (by omega)
  have h1' : Oc.val (tk (str (Oc.big 1 c.kind.toNat ++ ((form c.kind).flatMap (fun s => s.enc c) ++ m))) 0 1).1.data.toList = c.kind.toNat := h1
  have h2' : (tk (str (Oc.big 1 c.kind.toNat ++ ((form c.kind).flatMap (fun s => s.enc c) ++ m))) 0 1).2.1 = _ := h2
  have h3' : (tk (str (Oc.big 1 c.kind.toNat ++ ((form c.kind).flatMap (fun s => s.enc c) ++ m))) 0 1).2.2 = 0 := h3
  simp only
  rw [h1', h2', h3', Int.toNat_of_nonneg (by omega), if_pos (known_iff.2 ⟨hk1, hk2⟩), sgs_back c hok h0 h255 _ _ hl m]
  unfold told at ht
  rw [← ht]
/-- Several, one behind the other. -/
theorem getsD_back (m : List UInt8) : ∀ (l : List Cm) (_ : ∀ c ∈ l, c.ok ∧ wrongC c = 0), getsD l.length (str (l.flatMap encC ++ m)) 0 = (l, str m, 0)
  | [], _ => rfl
  | c :: l, h => by
    obtain ⟨h1, h2⟩ := h c (by simp)
    rw [List.length_cons, getsD_succ, List.flatMap_cons, List.append_assoc, readR_back c h1 h2]
    simp only
    rw [getsD_back m l (fun d hd => h d (by simp [hd]))]
/-- What Batch makes. -/
def batchB (l : List Cm) : ByteArray := str (Oc.big 4 l.length ++ l.flatMap encC)
theorem listD_back (l : List Cm) (hl : l.length ≤ 64) (h : ∀ c ∈ l, c.ok ∧ wrongC c = 0) : listD (batchB l) = (l, 0) := by
  unfold listD cntD batchB
  obtain ⟨h1, h2, h3⟩ := tk_back 4 l.length (l.flatMap encC) (by omega)
  have h1' : Oc.val (tk (str (Oc.big 4 l.length ++ l.flatMap encC)) 0 4).1.data.toList = l.length := h1
  have h2' : (tk (str (Oc.big 4 l.length ++ l.flatMap encC)) 0 4).2.1 = _ := h2
  have h3' : (tk (str (Oc.big 4 l.length ++ l.flatMap encC)) 0 4).2.2 = 0 := h3
  simp only
  rw [h1', h2', h3', if_neg (by omega)]
  have hg := getsD_back [] l h
  rw [List.append_nil] at hg
  rw [hg]
  rfl
theorem batch_back (l : List Cm) (hl : l.length ≤ 64) (h : ∀ c ∈ l, c.ok ∧ wrongC c = 0) : (listC (batchB l) 64) = (l, 0) := by
  have h0 := listD_back l hl h
  have h1 := list_err (batchB l)
  have h2 := list_ok (batchB l) (by rw [h0])
  rw [h0] at h1 h2
  exact Prod.ext h2 h1
end Go.Proofs.YtoekggbbkcmknaaGreatDoor
/- What is read would be written so: plain mathematics. -/
namespace Go.Proofs.YtoekggbbkcmknaaGreatDoor
open Go.RowKit
theorem ext_take (s : ByteArray) (k : Nat) : (s.extract 0 k).data.toList = s.data.toList.take k := by
  rw [ByteArray.data_extract, Array.toList_extract]; simp [List.extract]
theorem ext_drop (s : ByteArray) (k : Nat) : (s.extract k s.size).data.toList = s.data.toList.drop k := by
  rw [ByteArray.data_extract, Array.toList_extract]
  show List.take (s.size - k) (List.drop k s.data.toList) = _
  exact List.take_of_length_le (by rw [List.length_drop]; exact Nat.le_refl _)
theorem zero_ok (k : Int) (h0 : -9223372036854775808 ≤ k) (h1 : k < 9223372036854775808) : (Cm.zero k).ok :=
  ⟨h0, h1, show (0 : Nat) < _ by decide, show (0 : Nat) < _ by decide, show (0 : Nat) < _ by decide, show _ ≤ (0 : Int) by decide, show (0 : Int) < _ by decide, show (0 : Nat) < _ by decide, show (0 : Nat) < _ by decide, show (0 : Nat) < _ by decide, show (0 : Nat) < _ by decide⟩
theorem tk_inv {s : ByteArray} {e : Int} {k : Nat} (h : (tk s e k).2.2 = 0) : e = 0 ∧ s.data.toList = (tk s e k).1.data.toList ++ (tk s e k).2.1.data.toList ∧ (tk s e k).1.data.toList.length = k := by
  unfold tk at h ⊢
  split at h
  · rename_i h1; exact absurd h h1
  · rename_i h1
    split at h
    · exact absurd h (show (3 : Int) ≠ 0 by decide)
    · rename_i h2
      rw [if_neg h1, if_neg h2]
      have hk : k ≤ s.size := by omega
      refine ⟨Classical.not_not.1 h1, ?_, ?_⟩
      · simp only [Int.toNat_natCast]; rw [ext_take, ext_drop]; exact (List.take_append_drop k s.data.toList).symm
      · simp only [Int.toNat_natCast]
        have : (s.extract 0 k).data.toList.length = (s.extract 0 k).size := rfl
        rw [this, ByteArray.size_extract]; omega
theorem num_inv {s : ByteArray} {e : Int} {k : Nat} (h : (tk s e k).2.2 = 0) : e = 0 ∧ s.data.toList = Oc.big k (Oc.val (tk s e k).1.data.toList) ++ (tk s e k).2.1.data.toList := by
  obtain ⟨h1, h2, h3⟩ := tk_inv h
  exact ⟨h1, by rw [Oc.big_val k _ h3]; exact h2⟩
theorem txt_inv {s : ByteArray} {e : Int} {most : Nat} (h : (txt s e most).2.2 = 0) : e = 0 ∧ s.data.toList = Sg.txb (txt s e most).1 ++ (txt s e most).2.1.data.toList ∧ (txt s e most).1.size ≤ most := by
  rw [txt_eq] at h ⊢
  rw [show (if (0 : Int) ≤ (most : Int) then (most : Int) else 0) = (most : Int) from if_pos (by omega)] at h ⊢
  split at h
  · rename_i h1
    have h3 : (if (tk s e 4).2.2 = 0 then (5 : Int) else (tk s e 4).2.2) = 0 := h
    split at h3
    · exact absurd h3 (by decide)
    · rename_i h2; exact absurd h3 h2
  · rename_i h1
    rw [if_neg h1]
    obtain ⟨a1, a2, a3⟩ := tk_inv h
    obtain ⟨b1, b2⟩ := num_inv (k := 4) a1
    have hsz : (tk (tk s e (4 : Nat)).2.1 (tk s e (4 : Nat)).2.2 (Oc.val (tk s e (4 : Nat)).1.data.toList)).1.size = Oc.val (tk s e (4 : Nat)).1.data.toList := a3
    refine ⟨b1, ?_, ?_⟩
    · unfold Sg.txb
      have hz : (tk (tk s e 4).2.1 (tk s e 4).2.2 (Oc.val (tk s e 4).1.data.toList)).1.size = Oc.val (tk s e 4).1.data.toList := hsz
      rw [hz, List.append_assoc]
      exact b2.trans (congrArg _ a2)
    · have hz : (tk (tk s e 4).2.1 (tk s e 4).2.2 (Oc.val (tk s e 4).1.data.toList)).1.size = Oc.val (tk s e 4).1.data.toList := hsz
      rw [hz]; omega
/-- What a part's reading tells, where it ends well. -/
structure Told (s : Sg) (T : Cm × ByteArray × Int) : Prop where
  e0 : T.2.2 = 0
  bytes : T.2.1.data.toList = s.enc (s.read T).1 ++ (s.read T).2.1.data.toList
  short : s.long (s.read T).1 = false
theorem told_tx {s : Sg} {T : Cm × ByteArray × Int} (f : Cm → ByteArray) (hr : ∀ T, s.read T = ((s.read T).1, (txt T.2.1 T.2.2 s.most).2.1, (txt T.2.1 T.2.2 s.most).2.2)) (hf : f (s.read T).1 = (txt T.2.1 T.2.2 s.most).1)
    (he : ∀ c, s.enc c = Sg.txb (f c)) (hl : ∀ c, s.long c = decide (s.most < (f c).size)) (h : (s.read T).2.2 = 0) : Told s T := by
  have h1 : (txt T.2.1 T.2.2 s.most).2.2 = 0 := by have := congrArg (fun x => x.2.2) (hr T); exact this.symm.trans h
  have h2 : (s.read T).2.1 = (txt T.2.1 T.2.2 s.most).2.1 := congrArg (fun x => x.2.1) (hr T)
  obtain ⟨a, b, c⟩ := txt_inv h1
  refine ⟨a, ?_, ?_⟩
  · rw [he, hf, h2]; exact b
  · rw [hl, hf]; exact decide_eq_false (by omega)
theorem told_num {s : Sg} {T : Cm × ByteArray × Int} (k : Nat) (f : Cm → Nat) (hr : ∀ T, s.read T = ((s.read T).1, (tk T.2.1 T.2.2 k).2.1, (tk T.2.1 T.2.2 k).2.2)) (hf : f (s.read T).1 = Oc.val (tk T.2.1 T.2.2 k).1.data.toList)
    (he : ∀ c, s.enc c = Oc.big k (f c)) (hl : ∀ c, s.long c = false) (h : (s.read T).2.2 = 0) : Told s T := by
  have h1 : (tk T.2.1 T.2.2 k).2.2 = 0 := by have := congrArg (fun x => x.2.2) (hr T); exact this.symm.trans h
  have h2 : (s.read T).2.1 = (tk T.2.1 T.2.2 k).2.1 := congrArg (fun x => x.2.1) (hr T)
  obtain ⟨a, b⟩ := num_inv h1
  exact ⟨a, by rw [he, hf, h2]; exact b, hl _⟩
theorem wrap_byte (n : Nat) (h : n < 256) : (IntKind.u8.wrap (n : Int)).toNat = n := by
  have hw : IntKind.u8.wrap (n : Int) = n := by unfold IntKind.wrap; simp [IntKind.signed, IntKind.bits]; omega
  rw [hw]; rfl
theorem sgTold (s : Sg) (T : Cm × ByteArray × Int) (h : (s.read T).2.2 = 0) : Told s T := by
  cases s
  case q => exact told_tx (s := .q) (·.qn) (fun _ => rfl) rfl (fun _ => rfl) (fun _ => rfl) h
  case d => exact told_tx (s := .d) (·.qd) (fun _ => rfl) rfl (fun _ => rfl) (fun _ => rfl) h
  case E => exact told_tx (s := .E) (·.bx) (fun _ => rfl) rfl (fun _ => rfl) (fun _ => rfl) h
  case P => exact told_tx (s := .P) (·.bp) (fun _ => rfl) rfl (fun _ => rfl) (fun _ => rfl) h
  case Q => exact told_tx (s := .Q) (·.bq) (fun _ => rfl) rfl (fun _ => rfl) (fun _ => rfl) h
  case e => exact told_tx (s := .e) (·.ex) (fun _ => rfl) rfl (fun _ => rfl) (fun _ => rfl) h
  case k => exact told_tx (s := .k) (·.key) (fun _ => rfl) rfl (fun _ => rfl) (fun _ => rfl) h
  case b => exact told_tx (s := .b) (·.body) (fun _ => rfl) rfl (fun _ => rfl) (fun _ => rfl) h
  case m => exact told_num (s := .m) 4 (·.most) (fun _ => rfl) rfl (fun _ => rfl) (fun _ => rfl) h
  case r => exact told_num (s := .r) 4 (·.tries) (fun _ => rfl) rfl (fun _ => rfl) (fun _ => rfl) h
  case l => exact told_num (s := .l) 8 (·.ttl) (fun _ => rfl) rfl (fun _ => rfl) (fun _ => rfl) h
  case i => exact told_num (s := .i) 8 (·.id) (fun _ => rfl) rfl (fun _ => rfl) (fun _ => rfl) h
  case o => exact told_num (s := .o) 8 (·.token) (fun _ => rfl) rfl (fun _ => rfl) (fun _ => rfl) h
  case n => exact told_num (s := .n) 8 (·.n) (fun _ => rfl) rfl (fun _ => rfl) (fun _ => rfl) h
  case t => exact told_num (s := .t) 8 (·.time) (fun _ => rfl) rfl (fun _ => rfl) (fun _ => rfl) h
  case K =>
    have hb : Oc.val (tk T.2.1 T.2.2 1).1.data.toList < 256 := vlt _ _ 1
    exact told_num (s := .K) 1 (fun c => (IntKind.u8.wrap c.bk).toNat) (fun _ => rfl) (wrap_byte _ hb) (fun _ => rfl) (fun _ => rfl) h
  case x =>
    have h1 : (if 1 < Oc.val (tk T.2.1 T.2.2 (1 : Nat)).1.data.toList then (if (tk T.2.1 T.2.2 (1 : Nat)).2.2 = 0 then 4 else (tk T.2.1 T.2.2 (1 : Nat)).2.2) else (tk T.2.1 T.2.2 (1 : Nat)).2.2) = 0 := h
    split at h1
    · split at h1
      · exact absurd h1 (by decide)
      · rename_i h2; exact absurd h1 h2
    · rename_i h2
      obtain ⟨a, b⟩ := num_inv h1
      refine ⟨a, ?_, rfl⟩
      show _ = Oc.big 1 (if decide (Oc.val (tk T.2.1 T.2.2 (1 : Nat)).1.data.toList = 1) then 1 else 0) ++ (tk T.2.1 T.2.2 (1 : Nat)).2.1.data.toList
      rw [b]
      congr 2
      have hx : ∀ n : Nat, ¬ 1 < n → n = if decide (n = 1) then 1 else 0 := by
        intro n hn
        by_cases h : n = 1
        · subst h; rfl
        · have : n = 0 := by omega
          subst this; rfl
      exact hx _ h2
/-- A reading of one part leaves the other parts. -/
theorem val_other {s u : Sg} (hne : s ≠ u) (T : Cm × ByteArray × Int) : s.val (u.read T).1 = s.val T.1 := by
  cases s <;> cases u <;> first | exact absurd rfl hne | rfl
theorem enc_val {s : Sg} {a b : Cm} (h : s.val a = s.val b) : s.enc a = s.enc b ∧ s.long a = s.long b ∧ ∀ z, s.hand z a = s.hand z b := by
  have tx : ∀ {x y : ByteArray}, Value.string x = .string y → x = y := fun h => by injection h
  have it : ∀ {k : IntKind} {x y : Int}, Value.int k x = .int k y → x = y := fun h => by injection h
  have nt : ∀ {k : IntKind} {x y : Nat}, Value.int k x = .int k y → x = y := fun h => by have := it h; omega
  have bt : ∀ {x y : Bool}, Value.bool x = .bool y → x = y := fun h => by injection h
  cases s
  case q => have e : a.qn = b.qn := tx h; simp only [Sg.enc, Sg.long, Sg.hand, e, and_self, implies_true]
  case d => have e : a.qd = b.qd := tx h; simp only [Sg.enc, Sg.long, Sg.hand, e, and_self, implies_true]
  case E => have e : a.bx = b.bx := tx h; simp only [Sg.enc, Sg.long, Sg.hand, e, and_self, implies_true]
  case P => have e : a.bp = b.bp := tx h; simp only [Sg.enc, Sg.long, Sg.hand, e, and_self, implies_true]
  case Q => have e : a.bq = b.bq := tx h; simp only [Sg.enc, Sg.long, Sg.hand, e, and_self, implies_true]
  case e => have e : a.ex = b.ex := tx h; simp only [Sg.enc, Sg.long, Sg.hand, e, and_self, implies_true]
  case k => have e : a.key = b.key := tx h; simp only [Sg.enc, Sg.long, Sg.hand, e, and_self, implies_true]
  case b => have e : a.body = b.body := tx h; simp only [Sg.enc, Sg.long, Sg.hand, e, and_self, implies_true]
  case m => have e : a.most = b.most := nt h; simp only [Sg.enc, Sg.long, Sg.hand, e, and_self, implies_true]
  case r => have e : a.tries = b.tries := nt h; simp only [Sg.enc, Sg.long, Sg.hand, e, and_self, implies_true]
  case l => have e : a.ttl = b.ttl := nt h; simp only [Sg.enc, Sg.long, Sg.hand, e, and_self, implies_true]
  case i => have e : a.id = b.id := nt h; simp only [Sg.enc, Sg.long, Sg.hand, e, and_self, implies_true]
  case o => have e : a.token = b.token := nt h; simp only [Sg.enc, Sg.long, Sg.hand, e, and_self, implies_true]
  case n => have e : a.n = b.n := nt h; simp only [Sg.enc, Sg.long, Sg.hand, e, and_self, implies_true]
  case t => have e : a.time = b.time := nt h; simp only [Sg.enc, Sg.long, Sg.hand, e, and_self, implies_true]
  case K => have e : a.bk = b.bk := it h; simp only [Sg.enc, Sg.long, Sg.hand, e, and_self, implies_true]
  case x => have e : a.dead = b.dead := bt h; simp only [Sg.enc, Sg.long, Sg.hand, e, and_self, implies_true]
theorem vals_other {s : Sg} : ∀ (l : List Sg) (_ : s ∉ l) (T : Cm × ByteArray × Int), s.val (readL l T).1 = s.val T.1
  | [], _, _ => rfl
  | u :: l, h, T => by
    show s.val (readL l (u.read T)).1 = _
    rw [vals_other l (fun hm => h (by simp [hm])) _, val_other (fun he => h (by simp [he])) T]
theorem val_hand (s : Sg) (z c : Cm) : s.val (s.hand z c) = s.val c := by cases s <;> rfl
theorem read_hand (s : Sg) (T : Cm × ByteArray × Int) : (s.read T).1 = s.hand T.1 (rd s T.2.1 T.2.2) := congrArg (·.1) (read_eq s T.1 T.2.1 T.2.2)
/-- What is read sign by sign. -/
theorem readL_inv : ∀ (l : List Sg) (_ : l.Nodup) (T : Cm × ByteArray × Int) (_ : (readL l T).2.2 = 0),
    T.2.2 = 0 ∧ T.2.1.data.toList = (l.flatMap fun s => s.enc (readL l T).1) ++ (readL l T).2.1.data.toList ∧ (∀ s ∈ l, s.long (readL l T).1 = false) ∧ (readL l T).1 = l.foldl (fun u s => s.hand u (readL l T).1) T.1
  | [], _, T, h => ⟨h, rfl, by simp, rfl⟩
  | s :: l, hn, T, h => by
    obtain ⟨hs, hn'⟩ := List.nodup_cons.1 hn
    have h' : (readL l (s.read T)).2.2 = 0 := h
    obtain ⟨a, b, c, d⟩ := readL_inv l hn' (s.read T) h'
    have ht := sgTold s T a
    have hv : s.val (readL l (s.read T)).1 = s.val (s.read T).1 := vals_other l hs _
    obtain ⟨e1, e2, e3⟩ := enc_val hv
    show _ ∧ T.2.1.data.toList = (List.flatMap (fun s' => s'.enc (readL l (s.read T)).1) (s :: l)) ++ (readL l (s.read T)).2.1.data.toList ∧ (∀ s' ∈ s :: l, s'.long (readL l (s.read T)).1 = false) ∧ (readL l (s.read T)).1 = List.foldl (fun u s' => s'.hand u (readL l (s.read T)).1) T.1 (s :: l)
    refine ⟨ht.e0, ?_, ?_, ?_⟩
    · rw [ht.bytes, b, List.flatMap_cons, List.append_assoc, e1]
    · intro s' hm
      rcases List.mem_cons.1 hm with rfl | hm
      · rw [e2]; exact ht.short
      · exact c s' hm
    · have h3 : s.hand T.1 (readL l (s.read T)).1 = (s.read T).1 := by
        rw [e3, read_hand]
        have h4 : s.val (s.hand T.1 (rd s T.2.1 T.2.2)) = s.val (rd s T.2.1 T.2.2) := val_hand _ _ _
        exact (enc_val h4).2.2 T.1
      rw [List.foldl_cons, h3]
      exact d
theorem form_nodup (k : Int) : (form k).Nodup := by
  unfold form
  repeat' split
  all_goals decide
theorem ok_read (s : Sg) (T : Cm × ByteArray × Int) (h : T.1.ok ∧ 0 ≤ T.1.bk ∧ T.1.bk ≤ 255) : (s.read T).1.ok ∧ 0 ≤ (s.read T).1.bk ∧ (s.read T).1.bk ≤ 255 := by
  obtain ⟨⟨h1, h2, h3, h4, h5, h6, h7, h8, h9, h10, h11⟩, g1, g2⟩ := h
  have v4 : ∀ s e, Oc.val (tk s e 4).1.data.toList < 4294967296 := fun s e => vlt s e 4
  have v8 : ∀ s e, Oc.val (tk s e 8).1.data.toList < 18446744073709551616 := fun s e => vlt s e 8
  have v1 : ∀ s e, Oc.val (tk s e 1).1.data.toList < 256 := fun s e => vlt s e 1
  cases s
  case m => exact ⟨⟨h1, h2, v4 _ _, h4, h5, h6, h7, h8, h9, h10, h11⟩, g1, g2⟩
  case l => exact ⟨⟨h1, h2, h3, v8 _ _, h5, h6, h7, h8, h9, h10, h11⟩, g1, g2⟩
  case r => exact ⟨⟨h1, h2, h3, h4, v4 _ _, h6, h7, h8, h9, h10, h11⟩, g1, g2⟩
  case i => exact ⟨⟨h1, h2, h3, h4, h5, h6, h7, v8 _ _, h9, h10, h11⟩, g1, g2⟩
  case o => exact ⟨⟨h1, h2, h3, h4, h5, h6, h7, h8, v8 _ _, h10, h11⟩, g1, g2⟩
  case n => exact ⟨⟨h1, h2, h3, h4, h5, h6, h7, h8, h9, v8 _ _, h11⟩, g1, g2⟩
  case t => exact ⟨⟨h1, h2, h3, h4, h5, h6, h7, h8, h9, h10, v8 _ _⟩, g1, g2⟩
  case K =>
    have hv := v1 T.2.1 T.2.2
    have hb : (Sg.K.read T).1.bk = ((Oc.val (tk T.2.1 T.2.2 1).1.data.toList : Nat) : Int) := rfl
    exact ⟨⟨h1, h2, h3, h4, h5, by rw [hb]; omega, by rw [hb]; omega, h8, h9, h10, h11⟩, by rw [hb]; omega, by rw [hb]; omega⟩
  all_goals exact ⟨⟨h1, h2, h3, h4, h5, h6, h7, h8, h9, h10, h11⟩, g1, g2⟩
theorem ok_readL : ∀ (l : List Sg) (T : Cm × ByteArray × Int) (_ : T.1.ok ∧ 0 ≤ T.1.bk ∧ T.1.bk ≤ 255), (readL l T).1.ok ∧ 0 ≤ (readL l T).1.bk ∧ (readL l T).1.bk ≤ 255
  | [], _, h => h
  | s :: l, T, h => ok_readL l (s.read T) (ok_read s T h)
theorem kind_readL : ∀ (l : List Sg) (T : Cm × ByteArray × Int), (readL l T).1.kind = T.1.kind
  | [], _ => rfl
  | s :: l, T => (kind_readL l (s.read T)).trans (by cases s <;> rfl)
/-- What is read is right, and what it would be written as. -/
theorem readR_inv (s : ByteArray) (h : (readR s 0).2.2 = 0) : (readR s 0).1.ok ∧ wrongC (readR s 0).1 = 0 ∧ s.data.toList = encC (readR s 0).1 ++ (readR s 0).2.1.data.toList := by
  have hv : Oc.val (tk s 0 (1 : Nat)).1.data.toList < 256 := vlt _ _ 1
  unfold readR at h ⊢
  simp only at h ⊢
  split at h
  · rename_i hk
    rw [if_pos hk]
    obtain ⟨a, b, c, d⟩ := readL_inv _ (form_nodup _) _ h
    obtain ⟨a1, a2⟩ := num_inv (k := 1) a
    have hkd := kind_readL (form ((Oc.val (tk s 0 1).1.data.toList : Nat) : Int)) (Cm.zero ((Oc.val (tk s 0 1).1.data.toList : Nat) : Int), (tk s 0 1).2.1, (tk s 0 1).2.2)
    have hok := ok_readL (form ((Oc.val (tk s 0 1).1.data.toList : Nat) : Int)) (Cm.zero ((Oc.val (tk s 0 1).1.data.toList : Nat) : Int), (tk s 0 1).2.1, (tk s 0 1).2.2)
      ⟨zero_ok _ (by omega) (by have : Oc.val (tk s 0 1).1.data.toList < 256 := hv; omega), show (0 : Int) ≤ 0 by decide, show (0 : Int) ≤ 255 by decide⟩
    generalize readL (form ((Oc.val (tk s 0 1).1.data.toList : Nat) : Int)) (Cm.zero ((Oc.val (tk s 0 1).1.data.toList : Nat) : Int), (tk s 0 1).2.1, (tk s 0 1).2.2) = R at b c d hkd hok ⊢
    have hkind : R.1.kind = ((Oc.val (tk s 0 (1 : Nat)).1.data.toList : Nat) : Int) := hkd
    obtain ⟨hok1, hok2, hok3⟩ := hok
    refine ⟨hok1, ?_, ?_⟩
    · unfold wrongC
      have hkn : known R.1.kind = true := by rw [hkind]; exact hk
      have htold : R.1 = told R.1 := by unfold told; rw [hkind]; exact d
      rw [if_neg (by rw [hkn]; decide), if_neg (by
        rintro (h1 | h1 | h1)
        · exact h1 htold
        · omega
        · omega), if_neg ?_]
      rw [hkind]
      simp only [List.any_eq_true, not_exists, not_and, Bool.not_eq_true]
      exact c
    · unfold encC
      rw [hkind, Int.toNat_natCast, List.append_assoc]
      exact a2.trans (congrArg _ b)
  · simp only at h
    split at h
    · exact absurd h (by decide)
    · rename_i h2; exact absurd h h2
/-- What Parse answers well is written as it was. -/
theorem parse_back (s : ByteArray) (h : (parseD s).2 = 0) : (parseD s).1.ok ∧ bytesC (parseD s).1 = (s, 0) := by
  unfold parseD at h ⊢
  simp only at h ⊢
  split at h
  · rename_i hf
    rw [if_pos hf]
    have h0 := fin_zero hf
    obtain ⟨h1, h2, h3⟩ := readR_inv s h0
    refine ⟨h1, ?_⟩
    unfold bytesC
    rw [if_pos h2]
    have hr : (readR s 0).2.1.data.toList = [] := by
      unfold fin at hf
      split at hf
      · exact absurd hf (by decide)
      · rename_i hx
        have hz : ¬ 0 < (readR s 0).2.1.size := fun hz => hx ⟨h0, hz⟩
        have hl : (readR s 0).2.1.data.toList.length = (readR s 0).2.1.size := rfl
        exact List.length_eq_zero_iff.1 (by omega)
    rw [hr, List.append_nil] at h3
    rw [← h3, str_eq]
  · rename_i hf; exact absurd h hf
end Go.Proofs.YtoekggbbkcmknaaGreatDoor
/- What is wrong with a command, as the document has it: plain mathematics. -/
namespace Go.Proofs.YtoekggbbkcmknaaGreatDoor
open Go.RowKit
theorem hand_other {s u : Sg} (hne : s ≠ u) (z c : Cm) : s.val (u.hand z c) = s.val z := by
  cases s <;> cases u <;> first | exact absurd rfl hne | rfl
theorem hands_other {s : Sg} (c : Cm) : ∀ (l : List Sg) (_ : s ∉ l) (z : Cm), s.val (l.foldl (fun t u => u.hand t c) z) = s.val z
  | [], _, _ => rfl
  | u :: l, h, z => by
    rw [List.foldl_cons, hands_other c l (fun hm => h (by simp [hm])) _, hand_other (fun he => h (by simp [he])) z c]
theorem long_form {c : Cm} (h : c = told c) (s : Sg) (hs : s.long c = true) : s ∈ form c.kind := by
  by_cases hm : s ∈ form c.kind
  · exact hm
  · have h1 : s.val (told c) = s.val (Cm.zero c.kind) := hands_other c _ hm _
    rw [← h] at h1
    have h2 := (enc_val h1).2.1
    rw [h2] at hs
    have h9 : s.long (Cm.zero c.kind) = false := by cases s <;> rfl
    rw [h9] at hs
    cases hs
theorem bytes4 {c : Cm} (hk : 1 ≤ c.kind ∧ c.kind ≤ 13) (h : c ≠ told c ∨ c.bk < 0 ∨ 255 < c.bk) : bytesC c = (⟨#[]⟩, 4) := by
  have hw : wrongC c = 4 := by unfold wrongC; rw [if_neg (by rw [known_iff.2 hk]; decide), if_pos h]
  unfold bytesC; rw [if_neg (by rw [hw]; decide), hw]
theorem bytes5 {c : Cm} (hk : 1 ≤ c.kind ∧ c.kind ≤ 13) (h : c = told c) (h0 : 0 ≤ c.bk) (h1 : c.bk ≤ 255) (s : Sg) (hs : s.long c = true) : bytesC c = (⟨#[]⟩, 5) := by
  have hw : wrongC c = 5 := by
    unfold wrongC
    rw [if_neg (by rw [known_iff.2 hk]; decide), if_neg (by rintro (h2 | h2 | h2); exact h2 h; all_goals omega), if_pos (List.any_eq_true.2 ⟨s, long_form h s hs, hs⟩)]
  unfold bytesC; rw [if_neg (by rw [hw]; decide), hw]
theorem bytes0 {c : Cm} (hk : 1 ≤ c.kind ∧ c.kind ≤ 13) (h : c = told c) (h0 : 0 ≤ c.bk) (h1 : c.bk ≤ 255) (hs : ∀ s : Sg, s.long c = false) : bytesC c = (str (encC c), 0) := by
  have hw : wrongC c = 0 := by
    unfold wrongC
    rw [if_neg (by rw [known_iff.2 hk]; decide), if_neg (by rintro (h2 | h2 | h2); exact h2 h; all_goals omega), if_neg ?_]
    simp only [List.any_eq_true, not_exists, not_and, Bool.not_eq_true]
    exact fun s _ => hs s
  unfold bytesC; rw [if_pos hw]
/-- The five names. -/
def five (c : Cm) : List ByteArray := [c.qn, c.qd, c.bx, c.bq, c.ex]
theorem five_long {c : Cm} (hk : 1 ≤ c.kind ∧ c.kind ≤ 13) (h : c = told c) (h0 : 0 ≤ c.bk) (h1 : c.bk ≤ 255) (k : Nat) (t : ByteArray) (ht : (five c)[k]? = some t) (hl : 32 < t.size) : bytesC c = (⟨#[]⟩, 5) := by
  have hd : decide (32 < t.size) = true := decide_eq_true hl
  match k, ht with
  | 0, ht => obtain rfl : c.qn = t := Option.some.inj ht; exact bytes5 hk h h0 h1 .q hd
  | 1, ht => obtain rfl : c.qd = t := Option.some.inj ht; exact bytes5 hk h h0 h1 .d hd
  | 2, ht => obtain rfl : c.bx = t := Option.some.inj ht; exact bytes5 hk h h0 h1 .E hd
  | 3, ht => obtain rfl : c.bq = t := Option.some.inj ht; exact bytes5 hk h h0 h1 .Q hd
  | 4, ht => obtain rfl : c.ex = t := Option.some.inj ht; exact bytes5 hk h h0 h1 .e hd
  | k + 5, ht => simp [five] at ht
theorem five_cells (X : World) (c : Cm) (T : TypeId) (k : Nat) (t : ByteArray) (h : (five c)[k]? = some t) : (X.alloc (.cells #[.string c.qn, .string c.qd, .string c.bx, .string c.bq, .string c.ex] T)).cell? ⟨X.heap.size, k, none⟩ = some (.string t) := by
  have h1 := BxV.new X #[.string c.qn, .string c.qd, .string c.bx, .string c.bq, .string c.ex] T
  refine h1.cell k _ ?_
  show ((five c).map Value.string)[k]? = _
  rw [List.getElem?_map, h]
  rfl
theorem all_short {c : Cm} (hf : ∀ (k : Nat) t, (five c)[k]? = some t → t.size ≤ 32) (hk : c.key.size ≤ 512) (hp : c.bp.size ≤ 512) (hb : c.body.size ≤ 32768) : ∀ s : Sg, s.long c = false := by
  intro s
  cases s
  case q => exact decide_eq_false (by have := hf 0 _ rfl; omega)
  case d => exact decide_eq_false (by have := hf 1 _ rfl; omega)
  case E => exact decide_eq_false (by have := hf 2 _ rfl; omega)
  case Q => exact decide_eq_false (by have := hf 3 _ rfl; omega)
  case e => exact decide_eq_false (by have := hf 4 _ rfl; omega)
  case P => exact decide_eq_false (by omega)
  case k => exact decide_eq_false (by omega)
  case b => exact decide_eq_false (by omega)
  all_goals rfl
end Go.Proofs.YtoekggbbkcmknaaGreatDoor
