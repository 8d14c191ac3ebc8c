/- Texts of one seat, merged. -/
import Derived.Test.YtoekggbbkcmknaaGreatDoorP05
import Derived.Deep.LoopGhost
import Derived.Lib.SliceRun
import Derived.Lib.AppendZeros
set_option maxRecDepth 100000
set_option maxHeartbeats 4000000
set_option linter.unusedVariables false
/- The codec's Bytes; Bytes. -/
namespace Go.Proofs.YtoekggbbkcmknaaGreatDoor
open Go.RowKit
theorem resBy {w : World} {g : Nat} {t : ByteArray} {tmps : Array Value} (hp : tmps[4]? = some (.pointer (some ⟨g, 0, none⟩))) (hc : w.cell? ⟨g, 0, none⟩ = some (.string t)) :
    (results Tryz.f34 tmps).run Tryz.prog w = .ok (.string t) w := by
  simp [results, Tryz.results34, go_sem, hp, hc]
attribute [local go_sem ↓] zeroC_eq newC_eq loadC_eq storeC_eq buildC_eq zeroR_eq newR_eq loadR_eq storeR_eq buildR_eq
attribute [local go_sem] run_zeroC run_newC run_buildC0 run_buildC1 run_neqC run_eqlC run_guardC run_zeroR run_newR run_buildR0 run_buildR1 run_neqR run_eqlR run_guardR
attribute [local go_sem ↓] bslC_eq bslR_eq
attribute [local go_sem] run_bslC run_bslR
def fine (c : Cm) : Prop := wrongC c = 0
theorem fine_iff {c : Cm} (h : wrongC c = 0) : (1 ≤ c.kind ∧ c.kind ≤ 13) ∧ c = told c ∧ 0 ≤ c.bk ∧ c.bk ≤ 255 ∧ ∀ s ∈ form c.kind, s.long c = false := by
  unfold wrongC at h
  split at h
  · cases h
  · rename_i h1
    split at h
    · cases h
    · rename_i h2
      split at h
      · cases h
      · rename_i h3
        refine ⟨known_iff.1 (by simpa using h1), Classical.not_not.1 fun h => h2 (.inl h), ?_, ?_, fun s hs => ?_⟩
        · exact Int.not_lt.1 fun h => h2 (.inr (.inl h))
        · exact Int.not_lt.1 fun h => h2 (.inr (.inr h))
        · cases hl : s.long c with
          | false => rfl
          | true => exact absurd (List.any_eq_true.2 ⟨s, hs, hl⟩) h3
def bytesC (c : Cm) : ByteArray × Int := if wrongC c = 0 then (str (encC c), 0) else (⟨#[]⟩, wrongC c)
set_option maxHeartbeats 800000 in
theorem cBytes_any (c : Cm) (hok : c.ok) (hw : wrongC c = 0) (w : World) (hF : Forms w) :
    Calls Tryz.prog 34 #[(.agg #[.func (.func 58) #[] #[], .func (.func 18) #[] #[]] : Value), c.agg] w fun e w' => e = .returned (.string (str (encC c))) ∧ Below w.heap.size w w' := by
  have hmf : ∀ (fn : Fn) (first cap : Array Value) (w : World), (Instr.makeFunc fn first cap).run Tryz.prog w = .ok (.func fn first cap) w := fun _ _ _ _ => rfl
  have heq := func_nilB
  obtain ⟨hk, -, -, -, hl⟩ := fine_iff hw
  have HP := Lib.hid (fun W (hV : Forms W) => put_any c hk hok hl W hV)
  have HF := Lib.hid hF
  clear hw hk hl hF hok
  revert HP
  generalize str (encC c) = bt
  intro HP
  have hld : (loadC ⟨w.heap.size + 1, 0, none⟩).run Tryz.prog (((w.alloc (.cells #[.func (.func 58) #[] #[], .func (.func 18) #[] #[]] 87)).alloc (objC c)).alloc (.cells #[.string ⟨#[]⟩] 9)) = .ok c.agg (((w.alloc (.cells #[.func (.func 58) #[] #[], .func (.func 18) #[] #[]] 87)).alloc (objC c)).alloc (.cells #[.string ⟨#[]⟩] 9)) := by
    have h := (BxC.newC (w.alloc (.cells #[.func (.func 58) #[] #[], .func (.func 18) #[] #[]] 87)) c).alloc (.cells #[.string ⟨#[]⟩] 9)
    rw [World.size_alloc] at h
    exact run_loadC h
  go_enter_defers Tryz.func34, Tryz.ntmps34
  go_wp2_with (go_at_call 58; refine (HP.out _ (((HF.out.alloc _).alloc _).alloc _)).mono ?_; rintro e w1 ⟨rfl, hb⟩; have hc := hb.cell (p := ⟨w.heap.size + 1 + 1, 0, none⟩) (lt3 w _ _ _); have hz := hb.frozen (p := ⟨w.heap.size + 1 + 1, 0, none⟩) (lt3 w _ _ _))
  have hcs : (w1.setCell ⟨w.heap.size + 1 + 1, 0, none⟩ (.string bt)).cell? ⟨w.heap.size + 1 + 1, 0, none⟩ = some (.string bt) := World.cell?_setCell_same _ _ _ (u := .string ⟨#[]⟩) (hc.trans (cell3 w _ _ _ 9))
  refine leaves_cons (f := 59) (args := #[.pointer (some ⟨w.heap.size + 1 + 1, 0, none⟩)]) (by simp) (by simp [go_sem]) ?_
  refine (idleB ⟨w.heap.size + 1 + 1, 0, none⟩ _).mono ?_
  rintro e u' w'' ⟨rfl, rfl, rfl⟩
  simp [Leaves, settle]
  exact ⟨_, resBy rfl hcs, rfl, below_step' (below3 w _ _ _) hb |>.setCell (show w.heap.size ≤ w.heap.size + 1 + 1 by omega) _⟩
set_option maxHeartbeats 800000 in
theorem bytes_any (c : Cm) (hok : c.ok) (w : World) (hF : Forms w) :
    Calls Tryz.prog 10 #[c.agg] w fun e w' => e = .returned (.tuple #[.string (bytesC c).1, .int .i64 (bytesC c).2]) ∧ Below w.heap.size w w' := by
  have HW := Lib.hid (fun W (hV : Forms W) => wrong_any c W hV)
  have HF0 := Lib.hid (hF.alloc (objC c))
  have hl0 := run_loadC (BxC.newC w c)
  have HC0 := Lib.hid (BxC.newC w c)
  have HB0 := Lib.hid ((Below.refl w.heap.size w).alloc (Nat.le_refl _) (objC c))
  clear hF
  unfold bytesC
  by_cases hw : wrongC c = 0
  · rw [if_pos hw]
    have HBY := Lib.hid (fun W (hV : Forms W) => cBytes_any c hok hw W hV)
    rw [hw] at HW
    clear hw
    go_enter Tryz.func10, Tryz.ntmps10
    go_wp2_with (go_at_call 32; refine (HW.out _ HF0.out).mono ?_; rintro e w1 ⟨rfl, hb1⟩; have HS0 := Lib.hid (heldW0 (HC0.out.below hb1) (HF0.out.below hb1 HF0.out.lt)))
    go_region_held3 (fun w' => (loadC ⟨w.heap.size, 0, none⟩).run Tryz.prog w' = .ok c.agg w' ∧ w'.cell? ⟨w.heap.size, 7, none⟩ = some (.int .i64 c.bk) ∧ BxC w' w.heap.size c ∧ Forms w' ∧ Below w1.heap.size w1 w')
      ((first | assumption | exact HS0.out | exact heldWd HS0.out | exact heldW ‹_› hb | exact heldWd ‹_›))
      (first
        | (go_at_call 33; (with_reducible refine (codec_any _).mono ?_); rintro e w2 ⟨rfl, hb⟩)
        | (go_at_call 34; (with_reducible refine (HBY.out _ ?_).mono ?_); (next => exact heldForms (w0 := w1) (g := w.heap.size) (c := c) ‹_›); rintro e w2 ⟨rfl, hb⟩))
    rename_i hS
    have hx := hS.2.2.2.2
    clear hS
    go_wp2
    go_ret2
    exact ⟨rfl, HB0.out.trans ((hb1.trans (hx.mono hb1.size)).mono (by simp))⟩
  · rw [if_neg hw]
    have hw' : (wrongC c != 0) = true := by rw [bne_iff_ne]; exact hw
    clear hw
    revert HW hw'
    generalize wrongC c = x
    intro HW hw'
    go_enter Tryz.func10, Tryz.ntmps10
    go_wp2_with (go_at_call 32; refine (HW.out _ HF0.out).mono ?_; rintro e w1 ⟨rfl, hb1⟩)
    go_ret2
    exact ⟨rfl, HB0.out.trans (hb1.mono (by simp))⟩
end Go.Proofs.YtoekggbbkcmknaaGreatDoor
/- The chapter's example. -/
namespace Go.Proofs.YtoekggbbkcmknaaGreatDoor
open Go.RowKit
def exC : Cm := ⟨11, ⟨#[]⟩, 0, 0, 0, ⟨#[]⟩, ⟨#[]⟩, 0, ⟨#[]⟩, ⟨#[]⟩, ⟨#[]⟩, ⟨#[]⟩, ⟨#[]⟩, 0, 0, 0, 1, false⟩
theorem ex_ok : exC.ok := ⟨by decide, by decide, by decide, by decide, by decide, by decide, by decide, by decide, by decide, by decide, by decide⟩
theorem ex_bytes : bytesC exC = (⟨#[11, 0, 0, 0, 0, 0, 0, 0, 1]⟩, 0) := by decide +kernel
theorem ex_read : readG ⟨#[11, 0, 0, 0, 0, 0, 0, 0, 1]⟩ = (exC, 0) := by decide +kernel
theorem run_buildEx (w : World) : (buildC #[(0, .int .i64 11), (9, .int .u64 1)]).run Tryz.prog w = .ok exC.agg w := by
  unfold buildC
  simp [go_sem]
  rfl
attribute [local go_sem ↓] zeroC_eq newC_eq loadC_eq storeC_eq buildC_eq zeroR_eq newR_eq loadR_eq storeR_eq buildR_eq
attribute [local go_sem] run_zeroC run_newC run_buildC0 run_buildC1 run_neqC run_eqlC run_guardC run_zeroR run_newR run_buildR0 run_buildR1 run_neqR run_eqlR run_guardR
attribute [local go_sem ↓] bslC_eq bslR_eq
attribute [local go_sem] run_bslC run_bslR
attribute [local go_sem] run_buildEx
set_option maxHeartbeats 400000 in
theorem awake_any (w : World) (hF : Forms w) : Calls Tryz.prog 6 #[] w fun e w' => e = .returned (.bool true) ∧ Below w.heap.size w w' := by
  have HF := Lib.hid hF
  have HB := Lib.hid (fun W (hV : Forms W) => bytes_any exC ex_ok W hV)
  rw [ex_bytes] at HB
  have HP := Lib.hid (fun W (hV : Forms W) => parse_any ⟨#[11, 0, 0, 0, 0, 0, 0, 0, 1]⟩ W hV)
  rw [ex_read] at HP
  clear hF
  go_enter Tryz.func6, Tryz.ntmps6
  go_wp2_with (first
    | (go_at_call 10; refine (HB.out _ HF.out).mono ?_; rintro e w1 ⟨rfl, hb1⟩)
    | (go_at_call 13; refine (HP.out _ (HF.out.below hb1 HF.out.lt)).mono ?_; rintro e w2 ⟨rfl, hb2⟩; have hn := BxC.newC w2 (Cm.zero 0); have hst := run_storeC hn exC; obtain ⟨hn2, hu2⟩ := hn.stored exC; have k0 := hn2.cell 0 (.int .i64 11) rfl; have k16 := hn2.cell 16 (.int .u64 1) rfl))
  go_ret
  exact ⟨rfl, ((below_step hb1 hb2).alloc (below_step hb1 hb2).size _).trans (hu2.below (below_step hb1 hb2).size)⟩
end Go.Proofs.YtoekggbbkcmknaaGreatDoor
/- The codec's ReadList; ParseBatch. -/
namespace Go.Proofs.YtoekggbbkcmknaaGreatDoor
open Go.RowKit
attribute [local go_sem ↓] zeroC_eq newC_eq loadC_eq storeC_eq buildC_eq zeroR_eq newR_eq loadR_eq storeR_eq buildR_eq
attribute [local go_sem] run_zeroC run_newC run_buildC0 run_buildC1 run_neqC run_eqlC run_guardC run_zeroR run_newR run_buildR0 run_buildR1 run_neqR run_eqlR run_guardR
attribute [local go_sem ↓] bslC_eq bslR_eq
attribute [local go_sem] run_bslC run_bslR
/-- k pairs, one behind the other, as long as no error is there. -/
def getsC : Nat → ByteArray → Int → List Cm × ByteArray × Int
  | 0, s, e => ([], s, e)
  | k + 1, s, e => if e ≠ 0 then ([], s, e) else ((readC s e).1 :: (getsC k (readC s e).2.1 (readC s e).2.2).1, (getsC k (readC s e).2.1 (readC s e).2.2).2)
theorem getsC_bad (k : Nat) (s : ByteArray) (e : Int) (h : e ≠ 0) : getsC k s e = ([], s, e) := by
  cases k with
  | zero => rfl
  | succ k => unfold getsC; rw [if_pos h]
theorem getsC_succ (k : Nat) (s : ByteArray) : getsC (k + 1) s 0 = ((readC s 0).1 :: (getsC k (readC s 0).2.1 (readC s 0).2.2).1, (getsC k (readC s 0).2.1 (readC s 0).2.2).2) := by
  rw [getsC, if_neg (by decide)]
def listC (s : ByteArray) (most : Int) : List Cm × Int :=
  ((getsC (cnt s 0 most 6).1 (cnt s 0 most 6).2.1 (cnt s 0 most 6).2.2).1, fin (getsC (cnt s 0 most 6).1 (cnt s 0 most 6).2.1 (cnt s 0 most 6).2.2).2.1 (getsC (cnt s 0 most 6).1 (cnt s 0 most 6).2.1 (cnt s 0 most 6).2.2).2.2)
theorem cnt_lt (s : ByteArray) (e most x : Int) : (cnt s e most x).1 < 4294967296 := by
  have hv := Nat.lt_of_lt_of_le (Oc.val_lt (tk s e 4).1.data.toList) (Nat.pow_le_pow_right (by omega) (tk_size s e 4))
  unfold cnt
  have hv' : Oc.val (tk s e 4).1.data.toList < 4294967296 := Nat.lt_of_lt_of_le hv (by decide)
  dsimp only
  generalize Oc.val (tk s e 4).1.data.toList = n at hv'
  by_cases h : (n : Int) > (if 0 ≤ most then most else 0)
  · rw [if_pos h]; exact Nat.succ_pos _
  · rw [if_neg h]; exact hv'
theorem cnt_le (s : ByteArray) (most : Int) (hm : most ≤ 64) : (cnt s 0 most 6).1 ≤ 64 := by
  unfold cnt
  dsimp only
  generalize Oc.val (tk s 0 4).1.data.toList = n
  by_cases h : (n : Int) > (if 0 ≤ most then most else 0)
  · rw [if_pos h]; exact Nat.zero_le _
  · rw [if_neg h]
    show n ≤ 64
    split at h <;> omega
inductive ListOut (s : ByteArray) (most : Int) (w : World) (e : Ending) (w' : World) : Prop
  | ok (h0 : (listC s most).2 = 0) (v : Value) (he : e = .returned (.tuple #[v, .int .i64 0])) (hs : SlG Cm.vals 18 w' v (listC s most).1) (hl : (listC s most).1.length ≤ 64) (hb : Below w.heap.size w w')
  | bad (h0 : (listC s most).2 ≠ 0) (he : e = .returned (.tuple #[.slice none 0 0, .int .i64 (listC s most).2])) (hb : Below w.heap.size w w')
structure R1 (w : World) (g : Nat) : Prop where
  c0 : w.cell? ⟨g, 0, none⟩ = some (.func (.func 58) #[] #[])
  c1 : w.cell? ⟨g, 1, none⟩ = some (.func (.func 18) #[] #[])
  fm : Forms w
  lt : g < w.heap.size
  ps : 0 < g
theorem R1.keep {w w' : World} {g : Nat} (h : R1 w g) (h0 : w'.heap[0]? = w.heap[0]?) (hg : w'.heap[g]? = w.heap[g]?) (hs : w.heap.size ≤ w'.heap.size) : R1 w' g := by
  have c : ∀ o, w'.cell? ⟨g, o, none⟩ = w.cell? ⟨g, o, none⟩ := fun o => World.cell?_of_block (w := w) hg
  exact ⟨(c _).trans h.c0, (c _).trans h.c1, h.fm.keep h0, Nat.lt_of_lt_of_le h.lt hs, h.ps⟩
theorem R1.below {w w' : World} {g B : Nat} (h : R1 w g) (hb : Below B w w') (hg : g < B) : R1 w' g := h.keep (hb.block 0 (by omega)) (hb.block g hg) hb.size
theorem R1.mod {w w' : World} {g b : Nat} (h : R1 w g) (hb : Mod b w w') (hg : g < b) : R1 w' g := h.keep (hb.block 0 h.fm.lt (by omega)) (hb.block g h.lt (by omega)) hb.size
theorem R1.upd {w w' : World} {g b : Nat} (h : R1 w g) (hb : Upd b w w') (hg : g < b) : R1 w' g := h.mod ((Mod.refl b w).upd hb) hg
theorem R1.new (w : World) (hF : Forms w) : R1 (w.alloc (.cells #[.func (.func 58) #[] #[], .func (.func 18) #[] #[]] 87)) w.heap.size := ⟨by simp, by simp, hF.alloc _, by simp, hF.lt⟩
set_option maxHeartbeats 4000000 in
set_option maxRecDepth 100000 in
theorem readList_any (s : ByteArray) (most : Int) (hm : most < 9223372036854775808) (hmn : most ≤ 64) (w : World) (hF : Forms w) :
    Calls Tryz.prog 40 #[.agg #[.func (.func 58) #[] #[], .func (.func 18) #[] #[]], .string s, .int .i64 most] w fun e w' => ListOut s most w e w' := by
  have heq := func_nilG
  have H0 := Lib.hid (R1.new w hF)
  obtain ⟨b, hb⟩ : ∃ b, b = w.heap.size + 1 := ⟨_, rfl⟩
  have HBE := Lib.hid hb
  clear hb
  have HC := Lib.hid (fun W (hW : Rd W b s 0) => count_any b s 0 most 6 hm W hW)
  have HN := Lib.hid (cnt_lt s 0 most 6)
  have HN64 := Lib.hid (cnt_le s most hmn)
  have HX : Hid (∀ C, C = cnt s 0 most 6 → listC s most = ((getsC C.1 C.2.1 C.2.2).1, fin (getsC C.1 C.2.1 C.2.2).2.1 (getsC C.1 C.2.1 C.2.2).2.2)) := fun C h => by subst h; rfl
  replace HX := Lib.hid (HX.out _ rfl)
  revert HC HN HN64 HX
  generalize cnt s 0 most 6 = C
  obtain ⟨N, s1, e1⟩ := C
  intro HC HN HN64 HX
  simp only at HC HX HN64
  go_enter Tryz.func40, Tryz.ntmps40
  go_wp2_with (first
      | (go_at_call 17; refine (over_at _ b _ (by rw [size1, HBE.out])).mono ?_; rintro e w1 ⟨rfl, hr1, hb1⟩; have HR1 := Lib.hid (H0.out.below hb1 (by rw [size1]; omega)); have q0 := HR1.out.c0; have q1 := HR1.out.c1)
      | (go_at_call 63; refine (HC.out _ hr1).mono ?_; rintro e w2 ⟨rfl, hr2, hu2⟩))
  have HB2 : Hid (Below w.heap.size w w2) := (below_step ((Below.refl _ _).alloc (Nat.le_refl _) _) hb1).trans (hu2.below (by rw [HBE.out]; omega))
  have HR2 := Lib.hid (HR1.out.upd hu2 (by rw [HBE.out]; omega))
  have HD2 := Lib.hid hr2
  have HLT := Lib.hid hr2.lt
  clear q0 q1 HR1 hr1 hr2 hb1 hu2
  go_loopg [10, 11] N (fun g v i wr => ∃ (k : Nat) (l : List Cm) (t : ByteArray) (f : Int), k ≤ N ∧ g = N - k ∧ i = .int .i64 k ∧ l.length = k ∧
    Hid (getsC N s1 e1 = (l ++ (getsC (N - k) t f).1, (getsC (N - k) t f).2)) ∧ Hid (Rd wr b t f) ∧ Hid (R1 wr w.heap.size) ∧
    Hid (RowG Cm.vals 18 32 wr w2.heap.size v l) ∧ Hid (Below w.heap.size w wr) ∧ Hid (w2.heap.size ≤ wr.heap.size))
  case atStart => exact ⟨0, [], s1, e1, Nat.zero_le _, rfl, rfl, rfl, rfl, HD2.out, HR2.out, RowG.nil _ _ _ _ _, HB2.out, Nat.le_refl _⟩
  case round =>
    obtain ⟨k, l, t, f, hk, rfl, rfl, rfl, HGE, HRd, HR, HO, HB, HS⟩ := hrel
    have hNN := HN.out
    by_cases hgo : l.length < N ∧ f = 0
    · obtain ⟨hlt, rfl⟩ := hgo
      rw [show N - l.length = N - (l.length + 1) + 1 by omega, getsC_succ] at HGE
      have HGT := Lib.hid (fun W (hW : Rd W b t 0) (hV : Forms W) => get_any b t 0 W hW hV (by rw [HBE.out]; omega))
      revert HGT HGE
      generalize readC t 0 = X
      obtain ⟨xc, t', f'⟩ := X
      intro HGE HGT
      simp only at HGT HGE
      have q0 := HR.out.c0
      have q1 := HR.out.c1
      go_wp2_with (first
        | (go_at_call 22; refine (err_any _ _ _ _ HRd.out).mono ?_; rintro e w4 ⟨rfl, rfl⟩)
        | (go_at_call 61; refine (HGT.out _ HRd.out HR.out.fm).mono ?_; rintro e w3 ⟨rfl, hr3, hm3⟩)
        | (at_builtin; (obtain ⟨v', w4, hrun, hO4, hgrow, hB34, _⟩ := app1 (W := w3) encV appC (by decide) _ xc 0 (Nat.le_trans HS.out hm3.size) (RowG.mod HO.out hm3 HLT.out) (by have := HN64.out; omega) (Cm.vals xc).toArray rfl _ rfl; refine Lib.wpList_append_run _ rfl _ _ _ _ rfl _ _ rfl rfl _ _ hrun ?_; have HK := Lib.hid (And.intro hO4 hB34))))
      have hB4 : Below w2.heap.size w3 w4 := HK.out.2
      have hs3 : w2.heap.size ≤ w3.heap.size := Nat.le_trans HS.out hm3.size
      have HO4 := Lib.hid HK.out.1
      have HB34 := Lib.hid hB4
      have HB3 : Hid (Below w.heap.size w w3) := HB.out.trans (hm3.below (by rw [HBE.out]; omega) HB.out.size)
      have HR4 : Hid (R1 w4 w.heap.size) := (HR.out.mod hm3 (by rw [HBE.out]; omega)).below HB34.out (by have := HLT.out; rw [HBE.out] at this; omega)
      have HD4 : Hid (Rd w4 b t' f') := hr3.below' HB34.out HLT.out
      clear hB4 hgrow hm3 hr3 hrun hO4 hB34
      go_wp2
      go_roundg (N - (l.length + 1))
      case measure => omega
      case rel =>
        refine ⟨l.length + 1, l ++ [xc], t', f', by omega, rfl, by go_num, by simp, ?_, HD4, HR4, HO4, HB3.out.trans (HB34.out.mono HB2.out.size), Nat.le_trans hs3 HB34.out.size⟩
        show _ = _
        rw [HGE.out]
        simp
    · have HEQ : Hid (getsC N s1 e1 = (l, t, f)) := by
        show _ = _
        rw [HGE.out]
        by_cases hf : f = 0
        · obtain hk0 : N - l.length = 0 := by have := fun h => hgo ⟨h, hf⟩; omega
          rw [hk0]; simp [getsC]
        · rw [getsC_bad _ _ _ hf]; simp
      have HXE : Hid (listC s most = (l, fin t f)) := by
        show _ = _
        rw [HX.out, HEQ.out]
      have HFT := Lib.hid (end_rd b t f _ HRd.out)
      clear HGE
      obtain ⟨a1, c1, rfl⟩ : ∃ a1 c1, u10 = .slice a1 l.length c1 := by
        rcases HO.out.2 with ⟨h, h0⟩ | ⟨g, cap, cur, h, _⟩
        · exact ⟨none, 0, by rw [h, h0]⟩
        · exact ⟨_, cap, h⟩
      by_cases hlt : l.length < N
      · have hf : f ≠ 0 := fun h => hgo ⟨hlt, h⟩
        have hf' : (f == 0) = false := by rw [beq_eq_false_iff_ne]; exact hf
        (by_cases hz : fin t f = 0
         · rw [hz] at HXE HFT
           go_wp2_with (first
             | (go_at_call 22; refine (err_any _ _ _ _ HRd.out).mono ?_; rintro e w4 ⟨rfl, rfl⟩)
             | (go_at_call 62; refine HFT.out.mono ?_; rintro e w4 ⟨rfl, rfl⟩))
           go_ret2
           exact .ok (by rw [HXE.out]) _ rfl (by rw [HXE.out]; exact RowG.sl encV HO.out) (by rw [HXE.out]; exact Nat.le_trans hk HN64.out) HB.out
         · have hz' : (fin t f != 0) = true := by rw [bne_iff_ne]; exact hz
           revert HFT HXE hz hz'
           generalize fin t f = z
           intro HXE HFT hz hz'
           go_wp2_with (first
             | (go_at_call 22; refine (err_any _ _ _ _ HRd.out).mono ?_; rintro e w4 ⟨rfl, rfl⟩)
             | (go_at_call 62; refine HFT.out.mono ?_; rintro e w4 ⟨rfl, rfl⟩))
           go_ret2
           exact .bad (by rw [HXE.out]; exact hz) (by rw [HXE.out]; rfl) HB.out)
      · (by_cases hz : fin t f = 0
         · rw [hz] at HXE HFT
           go_wp2_with (first
             | (go_at_call 22; refine (err_any _ _ _ _ HRd.out).mono ?_; rintro e w4 ⟨rfl, rfl⟩)
             | (go_at_call 62; refine HFT.out.mono ?_; rintro e w4 ⟨rfl, rfl⟩))
           go_ret2
           exact .ok (by rw [HXE.out]) _ rfl (by rw [HXE.out]; exact RowG.sl encV HO.out) (by rw [HXE.out]; exact Nat.le_trans hk HN64.out) HB.out
         · have hz' : (fin t f != 0) = true := by rw [bne_iff_ne]; exact hz
           revert HFT HXE hz hz'
           generalize fin t f = z
           intro HXE HFT hz hz'
           go_wp2_with (first
             | (go_at_call 22; refine (err_any _ _ _ _ HRd.out).mono ?_; rintro e w4 ⟨rfl, rfl⟩)
             | (go_at_call 62; refine HFT.out.mono ?_; rintro e w4 ⟨rfl, rfl⟩))
           go_ret2
           exact .bad (by rw [HXE.out]; exact hz) (by rw [HXE.out]; rfl) HB.out)
end Go.Proofs.YtoekggbbkcmknaaGreatDoor
/- ParseBatch; rows of the document's commands; whether two are the same. -/
namespace Go.Proofs.YtoekggbbkcmknaaGreatDoor
open Go.RowKit
attribute [local go_sem ↓] zeroC_eq newC_eq loadC_eq storeC_eq buildC_eq zeroR_eq newR_eq loadR_eq storeR_eq buildR_eq
attribute [local go_sem] run_zeroC run_newC run_buildC0 run_buildC1 run_neqC run_eqlC run_guardC run_zeroR run_newR run_buildR0 run_buildR1 run_neqR run_eqlR run_guardR
attribute [local go_sem ↓] bslC_eq bslR_eq
attribute [local go_sem] run_bslC run_bslR
theorem below_drewN' {B : Nat} {w w' : World} (h : Below B w w') (q : Nat) : Below B w (w'.drewN q) := ⟨h.os, h.tape, h.output, h.size, h.block⟩
theorem below_alloc' (w : World) (o : Obj) : Below w.heap.size w (w.alloc o) := (Below.refl _ _).alloc (Nat.le_refl _) o
theorem run_loadAtC {w : World} {b o k : Nat} {l : List Cm} {x : Cm} (h : CellsAt Cm.vals 18 w b o l) (hx : l[k]? = some x) : (loadC ⟨b, o + k * 18, none⟩).run Tryz.prog w = .ok x.agg w := by
  obtain ⟨i, hq, hs⟩ := info_size sizeC
  have hl : (loadCells ⟨b, o + k * 18, none⟩ x.vals.length).run Tryz.prog w = .ok x.vals.toArray w :=
    run_loadCells_list (P := Tryz.prog) w ⟨b, o + k * 18, none⟩ x.vals (fun j v hv => by rw [add_plain']; exact h k x hx j v hv)
  have hl' : (loadCells ⟨b, o + k * 18, none⟩ 18).run Tryz.prog w = .ok x.vals.toArray w := hl
  have hagg : (isAgg 32).run Tryz.prog w = .ok true w := by
    unfold isAgg
    rw [Sem.run_bind, run_underlying Tryz.underlying32 w]
    simp
  unfold loadC loadVar
  simp only [Sem.run_bind, hagg, Result.andThen_ok, if_true, sizeOf, typeInfo]
  simp [hs, hl', hq]
  rfl
theorem run_loadAtR {w : World} {b o k : Nat} {l : List Cm} {x : Cm} (h : CellsAt Cm.vals 18 w b o l) (hx : l[k]? = some x) : (loadR ⟨b, o + k * 18, none⟩).run Tryz.prog w = .ok x.agg w := by
  obtain ⟨i, hq, hs⟩ := info_size sizeR
  have hl : (loadCells ⟨b, o + k * 18, none⟩ x.vals.length).run Tryz.prog w = .ok x.vals.toArray w :=
    run_loadCells_list (P := Tryz.prog) w ⟨b, o + k * 18, none⟩ x.vals (fun j v hv => by rw [add_plain']; exact h k x hx j v hv)
  have hl' : (loadCells ⟨b, o + k * 18, none⟩ 18).run Tryz.prog w = .ok x.vals.toArray w := hl
  have hagg : (isAgg 40).run Tryz.prog w = .ok true w := by
    unfold isAgg
    rw [Sem.run_bind, run_underlying Tryz.underlying40 w]
    simp
  unfold loadR loadVar
  simp only [Sem.run_bind, hagg, Result.andThen_ok, if_true, sizeOf, typeInfo]
  simp [hs, hl', hq]
  rfl
set_option maxHeartbeats 800000 in
theorem parseBatch_any (s : ByteArray) (w : World) (hF : Forms w) :
    Calls Tryz.prog 15 #[.string s] w fun e w' => ListOut s 64 w e w' := by
  have HF := Lib.hid hF
  have HR := Lib.hid (fun W (hW : Forms W) => readList_any s 64 (by decide) (by decide) W hW)
  clear hF
  by_cases h0 : (listC s 64).2 = 0
  · go_enter Tryz.func15, Tryz.ntmps15
    go_wp2_with (first
      | (go_at_call 33; refine (codec_any _).mono ?_; rintro e w1 ⟨rfl, hb1⟩)
      | (go_at_call 40; refine (HR.out _ (HF.out.below hb1 HF.out.lt)).mono ?_; intro e w2 ho; rcases ho with ⟨_, v, rfl, hs, hl, hb2⟩ | ⟨h1, _, _⟩; rotate_left; exact absurd h0 h1))
    go_ret2
    exact .ok h0 _ rfl hs hl (below_step hb1 hb2)
  · go_enter Tryz.func15, Tryz.ntmps15
    go_wp2_with (first
      | (go_at_call 33; refine (codec_any _).mono ?_; rintro e w1 ⟨rfl, hb1⟩)
      | (go_at_call 40; refine (HR.out _ (HF.out.below hb1 HF.out.lt)).mono ?_; intro e w2 ho; rcases ho with ⟨h1, _, _, _, _, _⟩ | ⟨_, rfl, hb2⟩; exact absurd h1 h0))
    go_ret2
    exact .bad h0 rfl (below_step hb1 hb2)
set_option maxHeartbeats 800000 in
theorem to_any (v : Value) (l : List Cm) (hl : l.length ≤ 70) (w : World) (hv : SlG Cm.vals 18 w v l) :
    Calls Tryz.prog 21 #[v] w fun e w' => ∃ v', e = .returned v' ∧ RowG Cm.vals 18 40 w' w.heap.size v' l ∧ Below w.heap.size w w' := by
  obtain ⟨a, b, o, c, rfl, hlc, _, ha0, ha, hx⟩ := hv.get
  have HX := Lib.hid hx
  have HL := Lib.hid hl
  have HA : Hid (l ≠ [] → a = some ⟨b, o, none⟩) := by
    intro hne
    rcases ha with h | h
    · have := ha0 h
      exact absurd (List.length_eq_zero_iff.1 (by omega)) hne
    · exact h
  clear hv hx ha ha0 hlc
  go_enter Tryz.func21, Tryz.ntmps21
  go_wp2
  go_loopg [3, 8] l.length (fun n r i wr => ∃ k : Nat, k ≤ l.length ∧ n = l.length - k ∧ i = .int .i64 k ∧ Hid (RowG Cm.vals 18 40 wr w.heap.size r (l.take k)) ∧ Hid (Below w.heap.size w wr))
  case atStart => exact ⟨0, Nat.zero_le _, rfl, rfl, RowG.nil _ _ _ _ _, Below.refl _ _⟩
  case round =>
    obtain ⟨k, hk, rfl, rfl, HO, HB⟩ := hrel
    by_cases hlt : k < l.length
    · obtain ⟨x, hx⟩ : ∃ x, l[k]? = some x := ⟨_, List.getElem?_eq_getElem hlt⟩
      have hC := run_loadAtC (HX.out.below rfl HB.out) hx
      obtain rfl := HA.out (by intro h; rw [h] at hlt; cases hlt)
      have hn2 := BxC.newC wr (Cm.zero 0)
      have hst1 := run_storeC hn2 x
      obtain ⟨hn3, hu3⟩ := hn2.stored x
      have hld := run_loadC hn3
      have HX2 := Lib.hid (take_snocL hx)
      have HU := Lib.hid hu3
      have hsz3 := hu3.size
      have HSZ := Lib.hid hsz3
      have hB3 := (((below_alloc' wr (objC (Cm.zero 0))).mono HB.out.size)).trans (hu3.below HB.out.size)
      have HB3 := Lib.hid hB3
      have HO3 := Lib.hid (((HO.out.alloc (objC (Cm.zero 0)))).keep (fun g hg => hu3.block g (by have := (HO.out.lt g hg).2; omega)))
      have HTL := Lib.hid (show (l.take k).length ≤ 300000 by rw [List.length_take]; have := HL.out; omega)
      have HBS := Lib.hid (show w.heap.size ≤ (setFrom (wr.alloc (objC (Cm.zero 0))) wr.heap.size 0 x.vals).heap.size by rw [HSZ.out]; have := HB.out.size; simp; omega)
      clear hx hn2 hn3 hu3 hsz3 hB3
      go_wp2_with (at_builtin; obtain ⟨v', w4, hrun, hO4, hgrow, hB4, _⟩ := app1 (W := setFrom (wr.alloc (objC (Cm.zero 0))) wr.heap.size 0 x.vals) encV appR (by decide) _ x 0 HBS.out HO3.out HTL.out (Cm.vals x).toArray rfl _ rfl; refine Lib.wpList_append_run _ rfl _ _ _ _ rfl _ _ rfl rfl _ _ hrun ?_; have HK := Lib.hid (And.intro hO4 hB4))
      go_roundg (l.length - (k + 1))
      case measure => omega
      case rel =>
        have hO4' := HK.out.1
        have hL70 := HL.out
        rw [← HX2.out] at hO4'
        exact ⟨k + 1, by omega, rfl, by go_num, hO4', (HB.out.trans HB3.out).trans HK.out.2⟩
    · obtain rfl : k = l.length := by omega
      rw [List.take_length] at HO
      go_wp2
      go_ret
      exact ⟨_, rfl, HO.out, HB.out⟩
set_option maxHeartbeats 800000 in
theorem same_any (u v : Value) (l m : List Cm) (hl : l.length ≤ 300) (w : World) (hu : SlG Cm.vals 18 w u l) (hv : SlG Cm.vals 18 w v m) :
    Calls Tryz.prog 20 #[u, v] w fun e w' => e = .returned (.bool (decide (l = m))) ∧ Below w.heap.size w w' := by
  obtain ⟨a1, b1, o1, c1, rfl, hlc1, _, ha01, ha1, hx1⟩ := hu.get
  obtain ⟨a2, b2, o2, c2, rfl, hlc2, _, ha02, ha2, hx2⟩ := hv.get
  have HX1 := Lib.hid hx1
  have HX2 := Lib.hid hx2
  have HA1 : Hid (l ≠ [] → a1 = some ⟨b1, o1, none⟩) := by
    intro hne
    rcases ha1 with h | h
    · have := ha01 h
      exact absurd (List.length_eq_zero_iff.1 (by omega)) hne
    · exact h
  have HA2 : Hid (m ≠ [] → a2 = some ⟨b2, o2, none⟩) := by
    intro hne
    rcases ha2 with h | h
    · have := ha02 h
      exact absurd (List.length_eq_zero_iff.1 (by omega)) hne
    · exact h
  clear hu hv hx1 hx2 ha1 ha2 ha01 ha02 hlc1 hlc2
  by_cases hn : l.length = m.length
  · have hl2 : m.length ≤ 300 := by omega
    generalize hr : decide (l = m) = r
    have HR := Lib.hid hr
    have HN := Lib.hid hn
    clear hr
    have hne : ((l.length : Int) != (m.length : Int)) = false := by rw [bne_eq_false_iff_eq]; omega
    clear hn
    go_enter Tryz.func20, Tryz.ntmps20
    go_wp2
    go_loopg [13] l.length (fun n i wr => ∃ k : Nat, k ≤ l.length ∧ n = l.length - k ∧ i = .int .i64 k ∧ Hid (l.take k = m.take k) ∧ Hid (∃ q, wr = w.drewN q))
    case atStart => exact ⟨0, Nat.zero_le _, rfl, rfl, rfl, 0, rfl⟩
    case round =>
      obtain ⟨k, hk, rfl, rfl, HE, HW⟩ := hrel
      obtain ⟨q, rfl⟩ := HW.out
      by_cases hlt : k < l.length
      · obtain ⟨x, hx⟩ : ∃ x, l[k]? = some x := ⟨_, List.getElem?_eq_getElem hlt⟩
        obtain ⟨y, hy⟩ : ∃ y, m[k]? = some y := ⟨_, List.getElem?_eq_getElem (by rw [← HN.out]; exact hlt)⟩
        have hC1 := fun n => run_loadAtR (w := w.drewN n) (HX1.out.below rfl (below_drewN' (Below.refl _ _) n)) hx
        have hC2 := fun n => run_loadAtR (w := w.drewN n) (HX2.out.below rfl (below_drewN' (Below.refl _ _) n)) hy
        obtain rfl := HA1.out (by intro h; rw [h] at hlt; cases hlt)
        obtain rfl := HA2.out (by intro h; rw [h] at hy; cases hy)
        have hlt2 : k < m.length := by rw [← HN.out]; exact hlt
        have hi1 : (k : Int) < l.length := by omega
        have hi2 : (k : Int) < m.length := by omega
        have hi0 : (0 : Int) ≤ k := by omega
        rcases Classical.em (x = y) with hxy | hxy
        · have hd : decide (x = y) = true := decide_eq_true hxy
          go_wp2
          go_quiet (fail)
          go_wp2
          go_roundg (l.length - (k + 1))
          case measure => omega
          case rel =>
            refine ⟨k + 1, by omega, rfl, by go_num, ?_, ?_⟩
            · show _ = _
              rw [take_snocL hx, take_snocL hy, HE.out, hxy]
            · exact ⟨_, rfl⟩
        · have hd : decide (x = y) = false := decide_eq_false hxy
          go_wp2
          go_quiet (fail)
          go_wp2
          go_ret
          have h1 : decide (l = m) = false := decide_eq_false (fun h => by
            subst h
            rw [hx] at hy
            exact hxy (Option.some.inj hy))
          have h2 := HR.out
          rw [h1] at h2
          subst h2
          exact ⟨rfl, below_drewN' (below_drewN' (Below.refl _ _) _) _⟩
      · obtain rfl : k = l.length := by omega
        have h1 : decide (l = m) = true := by
          apply decide_eq_true
          have := HE.out
          rwa [List.take_length, HN.out, List.take_length] at this
        have h2 := HR.out
        rw [h1] at h2
        subst h2
        go_wp2
        go_ret
        exact ⟨rfl, below_drewN' (Below.refl _ _) _⟩
  · rw [decide_eq_false (fun h => hn (by rw [h]))]
    have hne : ((l.length : Int) != (m.length : Int)) = true := by rw [bne_iff_ne]; omega
    go_enter Tryz.func20, Tryz.ntmps20
    go_wp2
    go_ret
    exact ⟨rfl, Below.refl _ _⟩
end Go.Proofs.YtoekggbbkcmknaaGreatDoor
/- The document's Read, step by step. -/
namespace Go.Proofs.YtoekggbbkcmknaaGreatDoor
open Go.RowKit
theorem BxC.kind {w : World} {g : Nat} {c : Cm} (h : BxC w g c) (k : Int) : BxC (w.setCell ⟨g, 0, none⟩ (.int .i64 k)) g { c with kind := k } := by
  refine ⟨by simpa [World.setCell] using h.lt, fun j v hv => ?_, fun j hj => by rw [World.frozen?_setCell]; exact h.free j hj⟩
  cases j with
  | zero =>
    rw [World.cell?_setCell_same' _ _ _ (by rw [h.cell 0 _ rfl]; rfl)]
    exact hv
  | succ j =>
    rw [World.cell?_setCell_other _ _ _ _ (fun h => by injection h with h1 h2; omega)]
    exact h.cell (j + 1) v hv
theorem num1 (b : Nat) (s : ByteArray) (e : Int) (w : World) (h : Rd w b s e) :
    Calls Tryz.prog 41 #[.pointer (some ⟨b, 0, none⟩), .int .i64 1] w fun v w' => v = .returned (.int .u64 (Oc.val (tk s e 1).1.data.toList : Nat)) ∧ Rd w' b (tk s e 1).2.1 (tk s e 1).2.2 ∧ Upd b w w' := num_any b s e 1 (by decide) w h
theorem num4 (b : Nat) (s : ByteArray) (e : Int) (w : World) (h : Rd w b s e) :
    Calls Tryz.prog 41 #[.pointer (some ⟨b, 0, none⟩), .int .i64 4] w fun v w' => v = .returned (.int .u64 (Oc.val (tk s e 4).1.data.toList : Nat)) ∧ Rd w' b (tk s e 4).2.1 (tk s e 4).2.2 ∧ Upd b w w' := num_any b s e 4 (by decide) w h
theorem num8 (b : Nat) (s : ByteArray) (e : Int) (w : World) (h : Rd w b s e) :
    Calls Tryz.prog 41 #[.pointer (some ⟨b, 0, none⟩), .int .i64 8] w fun v w' => v = .returned (.int .u64 (Oc.val (tk s e 8).1.data.toList : Nat)) ∧ Rd w' b (tk s e 8).2.1 (tk s e 8).2.2 ∧ Upd b w w' := num_any b s e 8 (by decide) w h
theorem vlt (bs : ByteArray) (e : Int) (k : Nat) : Oc.val (tk bs e k).1.data.toList < 256 ^ k := Nat.lt_of_lt_of_le (Oc.val_lt _) (Nat.pow_le_pow_right (by omega) (tk_size bs e k))
theorem vlt32 (bs : ByteArray) (e : Int) : ((Oc.val (tk bs e 4).1.data.toList : Nat) : Int) < 4294967296 := by have h : Oc.val (tk bs e 4).1.data.toList < 4294967296 := vlt bs e 4; omega
theorem vlt8 (bs : ByteArray) (e : Int) : ((Oc.val (tk bs e 1).1.data.toList : Nat) : Int) < 256 := by have h : Oc.val (tk bs e 1).1.data.toList < 256 := vlt bs e 1; omega
theorem tk_err (bs : ByteArray) (e : Int) (h : (tk bs e 1).2.2 ≠ 0) : Oc.val (tk bs e 1).1.data.toList = 0 := by
  unfold tk at h ⊢
  split at h
  · rename_i h1; rw [if_pos h1]; rfl
  · rename_i h1
    rw [if_neg h1]
    split at h
    · rename_i h2; rw [if_pos h2]; rfl
    · exact absurd rfl h
/-- What a step of the document's Read leaves: the part's cell ahead of its store, and all behind it. -/
structure StR (w0 : World) (b g : Nat) (s : Sg) (T : Cm × ByteArray × Int) (w1 w2 : World) : Prop where
  k : w1.cell? ⟨g, s.off, none⟩ = some (s.val T.1)
  f : w1.frozen? ⟨g, s.off, none⟩ = false
  T1 : BxC w2 g (s.read T).1
  Z : BxC w2 w0.heap.size (Cm.zero 0)
  M : Mod b w0 w2
theorem stR {w0 W w1 : World} {b g : Nat} (s : Sg) {T : Cm × ByteArray × Int} (d : Cm) (hT : BxC W g T.1) (hZ : BxC W w0.heap.size (Cm.zero 0)) (hM : Mod b w0 W) (hg : g = w0.heap.size + 1) (hb : b < w0.heap.size) (hu : Upd b W w1) (hd : (s.read T).1 = s.hand T.1 d) :
    StR w0 b g s T w1 (w1.setCell ⟨g, s.off, none⟩ (s.val d)) := by
  have h1 := hT.upd hu (by omega)
  have hU : Upd g w1 (w1.setCell ⟨g, s.off, none⟩ (s.val d)) := (Upd.refl _ _).setCell _
  exact ⟨h1.cell _ _ (val_at s _), h1.free _ (off_lt s), by rw [hd]; exact h1.set s d, (hZ.upd hu (by omega)).upd hU (by omega), mod_upd' (hM.upd hu) (by omega) hU⟩
theorem st_q {w0 W w1 : World} {b g : Nat} {T : Cm × ByteArray × Int} (hT : BxC W g T.1) (hZ : BxC W w0.heap.size (Cm.zero 0)) (hM : Mod b w0 W) (hg : g = w0.heap.size + 1) (hb : b < w0.heap.size) (hr : Rd w1 b (txt T.2.1 T.2.2 32).2.1 (txt T.2.1 T.2.2 32).2.2) (hu : Upd b W w1) :
    (w1.cell? ⟨g, 1, none⟩ = some (.string T.1.qn) ∧ w1.frozen? ⟨g, 1, none⟩ = false) ∧ BxC (w1.setCell ⟨g, 1, none⟩ (.string (txt T.2.1 T.2.2 32).1)) g (Sg.q.read T).1 ∧ BxC (w1.setCell ⟨g, 1, none⟩ (.string (txt T.2.1 T.2.2 32).1)) w0.heap.size (Cm.zero 0) ∧ Mod b w0 (w1.setCell ⟨g, 1, none⟩ (.string (txt T.2.1 T.2.2 32).1)) ∧ Rd (w1.setCell ⟨g, 1, none⟩ (.string (txt T.2.1 T.2.2 32).1)) b (Sg.q.read T).2.1 (Sg.q.read T).2.2 := by
  have h := stR .q { Cm.zero 0 with qn := (txt T.2.1 T.2.2 32).1 } hT hZ hM hg hb hu rfl
  exact ⟨⟨h.k, h.f⟩, h.T1, h.Z, h.M, hr.upd ((Upd.refl g _).setCell _) (by omega)⟩
theorem st_d {w0 W w1 : World} {b g : Nat} {T : Cm × ByteArray × Int} (hT : BxC W g T.1) (hZ : BxC W w0.heap.size (Cm.zero 0)) (hM : Mod b w0 W) (hg : g = w0.heap.size + 1) (hb : b < w0.heap.size) (hr : Rd w1 b (txt T.2.1 T.2.2 32).2.1 (txt T.2.1 T.2.2 32).2.2) (hu : Upd b W w1) :
    (w1.cell? ⟨g, 5, none⟩ = some (.string T.1.qd) ∧ w1.frozen? ⟨g, 5, none⟩ = false) ∧ BxC (w1.setCell ⟨g, 5, none⟩ (.string (txt T.2.1 T.2.2 32).1)) g (Sg.d.read T).1 ∧ BxC (w1.setCell ⟨g, 5, none⟩ (.string (txt T.2.1 T.2.2 32).1)) w0.heap.size (Cm.zero 0) ∧ Mod b w0 (w1.setCell ⟨g, 5, none⟩ (.string (txt T.2.1 T.2.2 32).1)) ∧ Rd (w1.setCell ⟨g, 5, none⟩ (.string (txt T.2.1 T.2.2 32).1)) b (Sg.d.read T).2.1 (Sg.d.read T).2.2 := by
  have h := stR .d { Cm.zero 0 with qd := (txt T.2.1 T.2.2 32).1 } hT hZ hM hg hb hu rfl
  exact ⟨⟨h.k, h.f⟩, h.T1, h.Z, h.M, hr.upd ((Upd.refl g _).setCell _) (by omega)⟩
theorem st_E {w0 W w1 : World} {b g : Nat} {T : Cm × ByteArray × Int} (hT : BxC W g T.1) (hZ : BxC W w0.heap.size (Cm.zero 0)) (hM : Mod b w0 W) (hg : g = w0.heap.size + 1) (hb : b < w0.heap.size) (hr : Rd w1 b (txt T.2.1 T.2.2 32).2.1 (txt T.2.1 T.2.2 32).2.2) (hu : Upd b W w1) :
    (w1.cell? ⟨g, 6, none⟩ = some (.string T.1.bx) ∧ w1.frozen? ⟨g, 6, none⟩ = false) ∧ BxC (w1.setCell ⟨g, 6, none⟩ (.string (txt T.2.1 T.2.2 32).1)) g (Sg.E.read T).1 ∧ BxC (w1.setCell ⟨g, 6, none⟩ (.string (txt T.2.1 T.2.2 32).1)) w0.heap.size (Cm.zero 0) ∧ Mod b w0 (w1.setCell ⟨g, 6, none⟩ (.string (txt T.2.1 T.2.2 32).1)) ∧ Rd (w1.setCell ⟨g, 6, none⟩ (.string (txt T.2.1 T.2.2 32).1)) b (Sg.E.read T).2.1 (Sg.E.read T).2.2 := by
  have h := stR .E { Cm.zero 0 with bx := (txt T.2.1 T.2.2 32).1 } hT hZ hM hg hb hu rfl
  exact ⟨⟨h.k, h.f⟩, h.T1, h.Z, h.M, hr.upd ((Upd.refl g _).setCell _) (by omega)⟩
theorem st_P {w0 W w1 : World} {b g : Nat} {T : Cm × ByteArray × Int} (hT : BxC W g T.1) (hZ : BxC W w0.heap.size (Cm.zero 0)) (hM : Mod b w0 W) (hg : g = w0.heap.size + 1) (hb : b < w0.heap.size) (hr : Rd w1 b (txt T.2.1 T.2.2 512).2.1 (txt T.2.1 T.2.2 512).2.2) (hu : Upd b W w1) :
    (w1.cell? ⟨g, 8, none⟩ = some (.string T.1.bp) ∧ w1.frozen? ⟨g, 8, none⟩ = false) ∧ BxC (w1.setCell ⟨g, 8, none⟩ (.string (txt T.2.1 T.2.2 512).1)) g (Sg.P.read T).1 ∧ BxC (w1.setCell ⟨g, 8, none⟩ (.string (txt T.2.1 T.2.2 512).1)) w0.heap.size (Cm.zero 0) ∧ Mod b w0 (w1.setCell ⟨g, 8, none⟩ (.string (txt T.2.1 T.2.2 512).1)) ∧ Rd (w1.setCell ⟨g, 8, none⟩ (.string (txt T.2.1 T.2.2 512).1)) b (Sg.P.read T).2.1 (Sg.P.read T).2.2 := by
  have h := stR .P { Cm.zero 0 with bp := (txt T.2.1 T.2.2 512).1 } hT hZ hM hg hb hu rfl
  exact ⟨⟨h.k, h.f⟩, h.T1, h.Z, h.M, hr.upd ((Upd.refl g _).setCell _) (by omega)⟩
theorem st_Q {w0 W w1 : World} {b g : Nat} {T : Cm × ByteArray × Int} (hT : BxC W g T.1) (hZ : BxC W w0.heap.size (Cm.zero 0)) (hM : Mod b w0 W) (hg : g = w0.heap.size + 1) (hb : b < w0.heap.size) (hr : Rd w1 b (txt T.2.1 T.2.2 32).2.1 (txt T.2.1 T.2.2 32).2.2) (hu : Upd b W w1) :
    (w1.cell? ⟨g, 9, none⟩ = some (.string T.1.bq) ∧ w1.frozen? ⟨g, 9, none⟩ = false) ∧ BxC (w1.setCell ⟨g, 9, none⟩ (.string (txt T.2.1 T.2.2 32).1)) g (Sg.Q.read T).1 ∧ BxC (w1.setCell ⟨g, 9, none⟩ (.string (txt T.2.1 T.2.2 32).1)) w0.heap.size (Cm.zero 0) ∧ Mod b w0 (w1.setCell ⟨g, 9, none⟩ (.string (txt T.2.1 T.2.2 32).1)) ∧ Rd (w1.setCell ⟨g, 9, none⟩ (.string (txt T.2.1 T.2.2 32).1)) b (Sg.Q.read T).2.1 (Sg.Q.read T).2.2 := by
  have h := stR .Q { Cm.zero 0 with bq := (txt T.2.1 T.2.2 32).1 } hT hZ hM hg hb hu rfl
  exact ⟨⟨h.k, h.f⟩, h.T1, h.Z, h.M, hr.upd ((Upd.refl g _).setCell _) (by omega)⟩
theorem st_e {w0 W w1 : World} {b g : Nat} {T : Cm × ByteArray × Int} (hT : BxC W g T.1) (hZ : BxC W w0.heap.size (Cm.zero 0)) (hM : Mod b w0 W) (hg : g = w0.heap.size + 1) (hb : b < w0.heap.size) (hr : Rd w1 b (txt T.2.1 T.2.2 32).2.1 (txt T.2.1 T.2.2 32).2.2) (hu : Upd b W w1) :
    (w1.cell? ⟨g, 10, none⟩ = some (.string T.1.ex) ∧ w1.frozen? ⟨g, 10, none⟩ = false) ∧ BxC (w1.setCell ⟨g, 10, none⟩ (.string (txt T.2.1 T.2.2 32).1)) g (Sg.e.read T).1 ∧ BxC (w1.setCell ⟨g, 10, none⟩ (.string (txt T.2.1 T.2.2 32).1)) w0.heap.size (Cm.zero 0) ∧ Mod b w0 (w1.setCell ⟨g, 10, none⟩ (.string (txt T.2.1 T.2.2 32).1)) ∧ Rd (w1.setCell ⟨g, 10, none⟩ (.string (txt T.2.1 T.2.2 32).1)) b (Sg.e.read T).2.1 (Sg.e.read T).2.2 := by
  have h := stR .e { Cm.zero 0 with ex := (txt T.2.1 T.2.2 32).1 } hT hZ hM hg hb hu rfl
  exact ⟨⟨h.k, h.f⟩, h.T1, h.Z, h.M, hr.upd ((Upd.refl g _).setCell _) (by omega)⟩
theorem st_k {w0 W w1 : World} {b g : Nat} {T : Cm × ByteArray × Int} (hT : BxC W g T.1) (hZ : BxC W w0.heap.size (Cm.zero 0)) (hM : Mod b w0 W) (hg : g = w0.heap.size + 1) (hb : b < w0.heap.size) (hr : Rd w1 b (txt T.2.1 T.2.2 512).2.1 (txt T.2.1 T.2.2 512).2.2) (hu : Upd b W w1) :
    (w1.cell? ⟨g, 11, none⟩ = some (.string T.1.key) ∧ w1.frozen? ⟨g, 11, none⟩ = false) ∧ BxC (w1.setCell ⟨g, 11, none⟩ (.string (txt T.2.1 T.2.2 512).1)) g (Sg.k.read T).1 ∧ BxC (w1.setCell ⟨g, 11, none⟩ (.string (txt T.2.1 T.2.2 512).1)) w0.heap.size (Cm.zero 0) ∧ Mod b w0 (w1.setCell ⟨g, 11, none⟩ (.string (txt T.2.1 T.2.2 512).1)) ∧ Rd (w1.setCell ⟨g, 11, none⟩ (.string (txt T.2.1 T.2.2 512).1)) b (Sg.k.read T).2.1 (Sg.k.read T).2.2 := by
  have h := stR .k { Cm.zero 0 with key := (txt T.2.1 T.2.2 512).1 } hT hZ hM hg hb hu rfl
  exact ⟨⟨h.k, h.f⟩, h.T1, h.Z, h.M, hr.upd ((Upd.refl g _).setCell _) (by omega)⟩
theorem st_b {w0 W w1 : World} {b g : Nat} {T : Cm × ByteArray × Int} (hT : BxC W g T.1) (hZ : BxC W w0.heap.size (Cm.zero 0)) (hM : Mod b w0 W) (hg : g = w0.heap.size + 1) (hb : b < w0.heap.size) (hr : Rd w1 b (txt T.2.1 T.2.2 32768).2.1 (txt T.2.1 T.2.2 32768).2.2) (hu : Upd b W w1) :
    (w1.cell? ⟨g, 12, none⟩ = some (.string T.1.body) ∧ w1.frozen? ⟨g, 12, none⟩ = false) ∧ BxC (w1.setCell ⟨g, 12, none⟩ (.string (txt T.2.1 T.2.2 32768).1)) g (Sg.b.read T).1 ∧ BxC (w1.setCell ⟨g, 12, none⟩ (.string (txt T.2.1 T.2.2 32768).1)) w0.heap.size (Cm.zero 0) ∧ Mod b w0 (w1.setCell ⟨g, 12, none⟩ (.string (txt T.2.1 T.2.2 32768).1)) ∧ Rd (w1.setCell ⟨g, 12, none⟩ (.string (txt T.2.1 T.2.2 32768).1)) b (Sg.b.read T).2.1 (Sg.b.read T).2.2 := by
  have h := stR .b { Cm.zero 0 with body := (txt T.2.1 T.2.2 32768).1 } hT hZ hM hg hb hu rfl
  exact ⟨⟨h.k, h.f⟩, h.T1, h.Z, h.M, hr.upd ((Upd.refl g _).setCell _) (by omega)⟩
theorem st_m {w0 W w1 : World} {b g : Nat} {T : Cm × ByteArray × Int} (hT : BxC W g T.1) (hZ : BxC W w0.heap.size (Cm.zero 0)) (hM : Mod b w0 W) (hg : g = w0.heap.size + 1) (hb : b < w0.heap.size) (hr : Rd w1 b (tk T.2.1 T.2.2 4).2.1 (tk T.2.1 T.2.2 4).2.2) (hu : Upd b W w1) :
    (w1.cell? ⟨g, 2, none⟩ = some (.int .u32 T.1.most) ∧ w1.frozen? ⟨g, 2, none⟩ = false) ∧ BxC (w1.setCell ⟨g, 2, none⟩ (.int .u32 (Oc.val (tk T.2.1 T.2.2 4).1.data.toList : Nat))) g (Sg.m.read T).1 ∧ BxC (w1.setCell ⟨g, 2, none⟩ (.int .u32 (Oc.val (tk T.2.1 T.2.2 4).1.data.toList : Nat))) w0.heap.size (Cm.zero 0) ∧ Mod b w0 (w1.setCell ⟨g, 2, none⟩ (.int .u32 (Oc.val (tk T.2.1 T.2.2 4).1.data.toList : Nat))) ∧ Rd (w1.setCell ⟨g, 2, none⟩ (.int .u32 (Oc.val (tk T.2.1 T.2.2 4).1.data.toList : Nat))) b (Sg.m.read T).2.1 (Sg.m.read T).2.2 := by
  have h := stR .m { Cm.zero 0 with most := Oc.val (tk T.2.1 T.2.2 4).1.data.toList } hT hZ hM hg hb hu rfl
  exact ⟨⟨h.k, h.f⟩, h.T1, h.Z, h.M, hr.upd ((Upd.refl g _).setCell _) (by omega)⟩
theorem st_r {w0 W w1 : World} {b g : Nat} {T : Cm × ByteArray × Int} (hT : BxC W g T.1) (hZ : BxC W w0.heap.size (Cm.zero 0)) (hM : Mod b w0 W) (hg : g = w0.heap.size + 1) (hb : b < w0.heap.size) (hr : Rd w1 b (tk T.2.1 T.2.2 4).2.1 (tk T.2.1 T.2.2 4).2.2) (hu : Upd b W w1) :
    (w1.cell? ⟨g, 4, none⟩ = some (.int .u32 T.1.tries) ∧ w1.frozen? ⟨g, 4, none⟩ = false) ∧ BxC (w1.setCell ⟨g, 4, none⟩ (.int .u32 (Oc.val (tk T.2.1 T.2.2 4).1.data.toList : Nat))) g (Sg.r.read T).1 ∧ BxC (w1.setCell ⟨g, 4, none⟩ (.int .u32 (Oc.val (tk T.2.1 T.2.2 4).1.data.toList : Nat))) w0.heap.size (Cm.zero 0) ∧ Mod b w0 (w1.setCell ⟨g, 4, none⟩ (.int .u32 (Oc.val (tk T.2.1 T.2.2 4).1.data.toList : Nat))) ∧ Rd (w1.setCell ⟨g, 4, none⟩ (.int .u32 (Oc.val (tk T.2.1 T.2.2 4).1.data.toList : Nat))) b (Sg.r.read T).2.1 (Sg.r.read T).2.2 := by
  have h := stR .r { Cm.zero 0 with tries := Oc.val (tk T.2.1 T.2.2 4).1.data.toList } hT hZ hM hg hb hu rfl
  exact ⟨⟨h.k, h.f⟩, h.T1, h.Z, h.M, hr.upd ((Upd.refl g _).setCell _) (by omega)⟩
theorem st_l {w0 W w1 : World} {b g : Nat} {T : Cm × ByteArray × Int} (hT : BxC W g T.1) (hZ : BxC W w0.heap.size (Cm.zero 0)) (hM : Mod b w0 W) (hg : g = w0.heap.size + 1) (hb : b < w0.heap.size) (hr : Rd w1 b (tk T.2.1 T.2.2 8).2.1 (tk T.2.1 T.2.2 8).2.2) (hu : Upd b W w1) :
    (w1.cell? ⟨g, 3, none⟩ = some (.int .u64 T.1.ttl) ∧ w1.frozen? ⟨g, 3, none⟩ = false) ∧ BxC (w1.setCell ⟨g, 3, none⟩ (.int .u64 (Oc.val (tk T.2.1 T.2.2 8).1.data.toList : Nat))) g (Sg.l.read T).1 ∧ BxC (w1.setCell ⟨g, 3, none⟩ (.int .u64 (Oc.val (tk T.2.1 T.2.2 8).1.data.toList : Nat))) w0.heap.size (Cm.zero 0) ∧ Mod b w0 (w1.setCell ⟨g, 3, none⟩ (.int .u64 (Oc.val (tk T.2.1 T.2.2 8).1.data.toList : Nat))) ∧ Rd (w1.setCell ⟨g, 3, none⟩ (.int .u64 (Oc.val (tk T.2.1 T.2.2 8).1.data.toList : Nat))) b (Sg.l.read T).2.1 (Sg.l.read T).2.2 := by
  have h := stR .l { Cm.zero 0 with ttl := Oc.val (tk T.2.1 T.2.2 8).1.data.toList } hT hZ hM hg hb hu rfl
  exact ⟨⟨h.k, h.f⟩, h.T1, h.Z, h.M, hr.upd ((Upd.refl g _).setCell _) (by omega)⟩
theorem st_i {w0 W w1 : World} {b g : Nat} {T : Cm × ByteArray × Int} (hT : BxC W g T.1) (hZ : BxC W w0.heap.size (Cm.zero 0)) (hM : Mod b w0 W) (hg : g = w0.heap.size + 1) (hb : b < w0.heap.size) (hr : Rd w1 b (tk T.2.1 T.2.2 8).2.1 (tk T.2.1 T.2.2 8).2.2) (hu : Upd b W w1) :
    (w1.cell? ⟨g, 13, none⟩ = some (.int .u64 T.1.id) ∧ w1.frozen? ⟨g, 13, none⟩ = false) ∧ BxC (w1.setCell ⟨g, 13, none⟩ (.int .u64 (Oc.val (tk T.2.1 T.2.2 8).1.data.toList : Nat))) g (Sg.i.read T).1 ∧ BxC (w1.setCell ⟨g, 13, none⟩ (.int .u64 (Oc.val (tk T.2.1 T.2.2 8).1.data.toList : Nat))) w0.heap.size (Cm.zero 0) ∧ Mod b w0 (w1.setCell ⟨g, 13, none⟩ (.int .u64 (Oc.val (tk T.2.1 T.2.2 8).1.data.toList : Nat))) ∧ Rd (w1.setCell ⟨g, 13, none⟩ (.int .u64 (Oc.val (tk T.2.1 T.2.2 8).1.data.toList : Nat))) b (Sg.i.read T).2.1 (Sg.i.read T).2.2 := by
  have h := stR .i { Cm.zero 0 with id := Oc.val (tk T.2.1 T.2.2 8).1.data.toList } hT hZ hM hg hb hu rfl
  exact ⟨⟨h.k, h.f⟩, h.T1, h.Z, h.M, hr.upd ((Upd.refl g _).setCell _) (by omega)⟩
theorem st_o {w0 W w1 : World} {b g : Nat} {T : Cm × ByteArray × Int} (hT : BxC W g T.1) (hZ : BxC W w0.heap.size (Cm.zero 0)) (hM : Mod b w0 W) (hg : g = w0.heap.size + 1) (hb : b < w0.heap.size) (hr : Rd w1 b (tk T.2.1 T.2.2 8).2.1 (tk T.2.1 T.2.2 8).2.2) (hu : Upd b W w1) :
    (w1.cell? ⟨g, 14, none⟩ = some (.int .u64 T.1.token) ∧ w1.frozen? ⟨g, 14, none⟩ = false) ∧ BxC (w1.setCell ⟨g, 14, none⟩ (.int .u64 (Oc.val (tk T.2.1 T.2.2 8).1.data.toList : Nat))) g (Sg.o.read T).1 ∧ BxC (w1.setCell ⟨g, 14, none⟩ (.int .u64 (Oc.val (tk T.2.1 T.2.2 8).1.data.toList : Nat))) w0.heap.size (Cm.zero 0) ∧ Mod b w0 (w1.setCell ⟨g, 14, none⟩ (.int .u64 (Oc.val (tk T.2.1 T.2.2 8).1.data.toList : Nat))) ∧ Rd (w1.setCell ⟨g, 14, none⟩ (.int .u64 (Oc.val (tk T.2.1 T.2.2 8).1.data.toList : Nat))) b (Sg.o.read T).2.1 (Sg.o.read T).2.2 := by
  have h := stR .o { Cm.zero 0 with token := Oc.val (tk T.2.1 T.2.2 8).1.data.toList } hT hZ hM hg hb hu rfl
  exact ⟨⟨h.k, h.f⟩, h.T1, h.Z, h.M, hr.upd ((Upd.refl g _).setCell _) (by omega)⟩
theorem st_n {w0 W w1 : World} {b g : Nat} {T : Cm × ByteArray × Int} (hT : BxC W g T.1) (hZ : BxC W w0.heap.size (Cm.zero 0)) (hM : Mod b w0 W) (hg : g = w0.heap.size + 1) (hb : b < w0.heap.size) (hr : Rd w1 b (tk T.2.1 T.2.2 8).2.1 (tk T.2.1 T.2.2 8).2.2) (hu : Upd b W w1) :
    (w1.cell? ⟨g, 15, none⟩ = some (.int .u64 T.1.n) ∧ w1.frozen? ⟨g, 15, none⟩ = false) ∧ BxC (w1.setCell ⟨g, 15, none⟩ (.int .u64 (Oc.val (tk T.2.1 T.2.2 8).1.data.toList : Nat))) g (Sg.n.read T).1 ∧ BxC (w1.setCell ⟨g, 15, none⟩ (.int .u64 (Oc.val (tk T.2.1 T.2.2 8).1.data.toList : Nat))) w0.heap.size (Cm.zero 0) ∧ Mod b w0 (w1.setCell ⟨g, 15, none⟩ (.int .u64 (Oc.val (tk T.2.1 T.2.2 8).1.data.toList : Nat))) ∧ Rd (w1.setCell ⟨g, 15, none⟩ (.int .u64 (Oc.val (tk T.2.1 T.2.2 8).1.data.toList : Nat))) b (Sg.n.read T).2.1 (Sg.n.read T).2.2 := by
  have h := stR .n { Cm.zero 0 with n := Oc.val (tk T.2.1 T.2.2 8).1.data.toList } hT hZ hM hg hb hu rfl
  exact ⟨⟨h.k, h.f⟩, h.T1, h.Z, h.M, hr.upd ((Upd.refl g _).setCell _) (by omega)⟩
theorem st_t {w0 W w1 : World} {b g : Nat} {T : Cm × ByteArray × Int} (hT : BxC W g T.1) (hZ : BxC W w0.heap.size (Cm.zero 0)) (hM : Mod b w0 W) (hg : g = w0.heap.size + 1) (hb : b < w0.heap.size) (hr : Rd w1 b (tk T.2.1 T.2.2 8).2.1 (tk T.2.1 T.2.2 8).2.2) (hu : Upd b W w1) :
    (w1.cell? ⟨g, 16, none⟩ = some (.int .u64 T.1.time) ∧ w1.frozen? ⟨g, 16, none⟩ = false) ∧ BxC (w1.setCell ⟨g, 16, none⟩ (.int .u64 (Oc.val (tk T.2.1 T.2.2 8).1.data.toList : Nat))) g (Sg.t.read T).1 ∧ BxC (w1.setCell ⟨g, 16, none⟩ (.int .u64 (Oc.val (tk T.2.1 T.2.2 8).1.data.toList : Nat))) w0.heap.size (Cm.zero 0) ∧ Mod b w0 (w1.setCell ⟨g, 16, none⟩ (.int .u64 (Oc.val (tk T.2.1 T.2.2 8).1.data.toList : Nat))) ∧ Rd (w1.setCell ⟨g, 16, none⟩ (.int .u64 (Oc.val (tk T.2.1 T.2.2 8).1.data.toList : Nat))) b (Sg.t.read T).2.1 (Sg.t.read T).2.2 := by
  have h := stR .t { Cm.zero 0 with time := Oc.val (tk T.2.1 T.2.2 8).1.data.toList } hT hZ hM hg hb hu rfl
  exact ⟨⟨h.k, h.f⟩, h.T1, h.Z, h.M, hr.upd ((Upd.refl g _).setCell _) (by omega)⟩
theorem st_K {w0 W w1 : World} {b g : Nat} {T : Cm × ByteArray × Int} (hT : BxC W g T.1) (hZ : BxC W w0.heap.size (Cm.zero 0)) (hM : Mod b w0 W) (hg : g = w0.heap.size + 1) (hb : b < w0.heap.size) (hr : Rd w1 b (tk T.2.1 T.2.2 1).2.1 (tk T.2.1 T.2.2 1).2.2) (hu : Upd b W w1) :
    (w1.cell? ⟨g, 7, none⟩ = some (.int .i64 T.1.bk) ∧ w1.frozen? ⟨g, 7, none⟩ = false) ∧ BxC (w1.setCell ⟨g, 7, none⟩ (.int .i64 (Oc.val (tk T.2.1 T.2.2 1).1.data.toList : Nat))) g (Sg.K.read T).1 ∧ BxC (w1.setCell ⟨g, 7, none⟩ (.int .i64 (Oc.val (tk T.2.1 T.2.2 1).1.data.toList : Nat))) w0.heap.size (Cm.zero 0) ∧ Mod b w0 (w1.setCell ⟨g, 7, none⟩ (.int .i64 (Oc.val (tk T.2.1 T.2.2 1).1.data.toList : Nat))) ∧ Rd (w1.setCell ⟨g, 7, none⟩ (.int .i64 (Oc.val (tk T.2.1 T.2.2 1).1.data.toList : Nat))) b (Sg.K.read T).2.1 (Sg.K.read T).2.2 := by
  have h := stR .K { Cm.zero 0 with bk := (Oc.val (tk T.2.1 T.2.2 1).1.data.toList : Nat) } hT hZ hM hg hb hu rfl
  exact ⟨⟨h.k, h.f⟩, h.T1, h.Z, h.M, hr.upd ((Upd.refl g _).setCell _) (by omega)⟩
theorem st_x {w0 W w1 : World} {b g : Nat} {T : Cm × ByteArray × Int} (hT : BxC W g T.1) (hZ : BxC W w0.heap.size (Cm.zero 0)) (hM : Mod b w0 W) (hg : g = w0.heap.size + 1) (hb : b < w0.heap.size) (hr : Rd w1 b (tk T.2.1 T.2.2 1).2.1 (tk T.2.1 T.2.2 1).2.2) (hu : Upd b W w1) :
    (w1.cell? ⟨g, 17, none⟩ = some (.bool T.1.dead) ∧ w1.frozen? ⟨g, 17, none⟩ = false) ∧ BxC (w1.setCell ⟨g, 17, none⟩ (.bool (decide (Oc.val (tk T.2.1 T.2.2 1).1.data.toList = 1)))) g (Sg.x.read T).1 ∧ BxC (w1.setCell ⟨g, 17, none⟩ (.bool (decide (Oc.val (tk T.2.1 T.2.2 1).1.data.toList = 1)))) w0.heap.size (Cm.zero 0) ∧ Mod b w0 (w1.setCell ⟨g, 17, none⟩ (.bool (decide (Oc.val (tk T.2.1 T.2.2 1).1.data.toList = 1)))) ∧ Rd (w1.setCell ⟨g, 17, none⟩ (.bool (decide (Oc.val (tk T.2.1 T.2.2 1).1.data.toList = 1)))) b (tk T.2.1 T.2.2 1).2.1 (tk T.2.1 T.2.2 1).2.2 := by
  have h := stR .x { Cm.zero 0 with dead := decide (Oc.val (tk T.2.1 T.2.2 1).1.data.toList = 1) } hT hZ hM hg hb hu rfl
  exact ⟨⟨h.k, h.f⟩, h.T1, h.Z, h.M, hr.upd ((Upd.refl g _).setCell _) (by omega)⟩
/-- What there is ahead of a kind's parts. -/
theorem rr_start (k : Int) {w w1 : World} {b : Nat} {r : ByteArray} (hb : b < w.heap.size) (hr : Rd w1 b r 0) (hu : Upd b ((w.alloc (objR (Cm.zero 0))).alloc (objR (Cm.zero 0))) w1) :
    w1.cell? ⟨w.heap.size + 1, 0, none⟩ = some (.int .i64 0) ∧ w1.frozen? ⟨w.heap.size + 1, 0, none⟩ = false ∧ BxC (w1.setCell ⟨w.heap.size + 1, 0, none⟩ (.int .i64 k)) (w.heap.size + 1) (Cm.zero k) ∧ BxC (w1.setCell ⟨w.heap.size + 1, 0, none⟩ (.int .i64 k)) w.heap.size (Cm.zero 0) ∧ Mod b w (w1.setCell ⟨w.heap.size + 1, 0, none⟩ (.int .i64 k)) ∧ Rd (w1.setCell ⟨w.heap.size + 1, 0, none⟩ (.int .i64 k)) b r 0 := by
  have h1 := ((BxC.newR w (Cm.zero 0)).alloc (objR (Cm.zero 0))).upd hu (by omega)
  have h2 := BxC.newR (w.alloc (objR (Cm.zero 0))) (Cm.zero 0)
  rw [World.size_alloc] at h2
  have h2 := h2.upd hu (by omega)
  have hU : Upd (w.heap.size + 1) w1 (w1.setCell ⟨w.heap.size + 1, 0, none⟩ (.int .i64 k)) := (Upd.refl _ _).setCell _
  exact ⟨h2.cell 0 _ rfl, h2.free 0 (by decide), h2.kind k, h1.upd hU (by omega), mod_upd' ((((Mod.refl b w).alloc _).alloc _).upd hu) (by omega) hU, hr.upd hU (by omega)⟩
end Go.Proofs.YtoekggbbkcmknaaGreatDoor
