/- Texts of one seat, merged. -/
import Derived.Test.YtoekggbbkcmknaaGreatDoorY08
import Derived.Test.YtoekggbbkcmknaaGreatDoorY05
import Derived.Deep.LoopGhost
import Derived.RangeFuncNested
import Derived.RangeFuncBound
import Derived.RangeFuncCalls
import Derived.RangeFuncLeaves
import Derived.RangeFuncBox
import Derived.Shelf.Abstract
import Derived.Shelf.RegionOpen
import Derived.WalkKit
import Derived.OwnWalkIn
import Derived.TacticsInMore
import Derived.LoopNIn
import Derived.LoopIn
import Derived.Sort.LoopGhostIn
import Derived.RangeFuncWrites
import Derived.Sort.CutIn
import Derived.Test.YtoekggbbkcmknaaGreatDoorY04
import Derived.Test.YtoekggbbkcmknaaGreatDoorRows
import Derived.ChangeArms
import Derived.LaidOnce
import Derived.MakeChecks
import Derived.Shelf.Strings.Repeat
import Derived.Test.YtoekggbbkcmknaaGreatDoorProg
import Derived.Test.YtoekggbbkcmknaaGreatDoorY09
import Derived.Test.YtoekggbbkcmknaaGreatDoorY10
import Derived.Test.YtoekggbbkcmknaaGreatDoorY11
import Derived.Test.YtoekggbbkcmknaaGreatDoorY12
import Derived.Test.YtoekggbbkcmknaaGreatDoorY13
import Derived.Deep.RegionHeld3
import Derived.Lib.AppendZeros
import Derived.Lib.SliceRun
import Derived.Test.YtoekggbbkcmknaaGreatDoorY06
set_option maxRecDepth 100000
set_option maxHeartbeats 4000000
set_option linter.unusedVariables false
/- The codec's List; Batch. -/
namespace Go.Proofs.YtoekggbbkcmknaaGreatDoor
open Go.RowKit
attribute [local go_sem ↓] zeroC_eq newC_eq loadC_eq storeC_eq buildC_eq zeroR_eq newR_eq loadR_eq storeR_eq buildR_eq
attribute [local go_sem] run_zeroC run_newC run_buildC0 run_buildC1 run_neqC run_eqlC run_guardC run_zeroR run_newR run_buildR0 run_buildR1 run_neqR run_eqlR run_guardR
attribute [local go_sem ↓] bslC_eq bslR_eq
attribute [local go_sem] run_bslC run_bslR
theorem encC_le (c : Cm) (hw : wrongC c = 0) : (encC c).length ≤ 163861 := by
  obtain ⟨_, _, _, _, hl⟩ := fine_iff hw
  have h1 := encL_le c (form c.kind) hl
  have h2 := form_le c.kind
  unfold encC
  rw [List.length_append, Oc.big_length]
  omega
theorem encCs_le : ∀ (l : List Cm), (∀ c ∈ l, wrongC c = 0) → (l.flatMap encC).length ≤ 163861 * l.length
  | [], _ => Nat.zero_le _
  | c :: l, h => by
    rw [List.flatMap_cons, List.length_append, List.length_cons]
    have h1 := encC_le c (h c (by simp))
    have h2 := encCs_le l (fun d hd => h d (by simp [hd]))
    omega
theorem encCs_snoc (l : List Cm) (k : Nat) (p : Cm) (h : l[k]? = some p) : (l.take (k + 1)).flatMap encC = (l.take k).flatMap encC ++ encC p := by
  rw [take_snocL h, List.flatMap_append]; simp
set_option maxHeartbeats 2000000 in
set_option maxRecDepth 100000 in
theorem cList_any (v : Value) (l : List Cm) (hll : l.length ≤ 64) (hl : ∀ c ∈ l, c.ok ∧ wrongC c = 0) (w : World) (hF : Forms w) (hv : SlW w v l) :
    Calls Tryz.prog 37 #[(.agg #[.func (.func 58) #[] #[], .func (.func 18) #[] #[]] : Value), v] w fun e w' => e = .returned (.string (batchB l)) ∧ Below w.heap.size w w' := by
  obtain ⟨a, b, o, c, rfl, hA, hx⟩ := hv.get
  have HA := Lib.hid hA
  have HL := Lib.hid hl
  have HX := Lib.hid hx
  have HF := Lib.hid hF
  clear hl hx hv hA hF
  have hlu : l.length < 4294967296 := by omega
  go_enter Tryz.func37, Tryz.ntmps37
  go_wp2_with (first
    | (go_at_call 60; refine (four_at _ l.length (by omega) hlu _).mono ?_; rintro e w1 ⟨rfl, hb1⟩)
    | (go_at_call 29; refine (writeString_any (w.heap.size + 1) (w.heap.size + 1) [] _ _ (builder_below (builder2 w _) hb1 (Nat.le_refl _)) (by rw [big_size]; simp) (by have := hb1.size; simp at this; omega)).mono ?_; rintro e w2 ⟨rfl, hbld, hb2⟩))
  have hsz0 : w.heap.size + 1 < w1.heap.size := by have := hb1.size; simp at this; omega
  have hBW : Below w.heap.size w w1 := ((((Below.refl _ _).alloc (Nat.le_refl _) _).alloc (by simp) _)).trans (hb1.mono (by simp; omega))
  have HB2 := Lib.hid (hBW.trans (hb2.mono (by omega)))
  have HS2 : Hid (w.heap.size + 1 < w2.heap.size) := Nat.lt_of_lt_of_le hsz0 hb2.size
  have HC : Hid (w2.cell? ⟨w.heap.size, 0, none⟩ = some (.func (.func 58) #[] #[]) ∧ w2.cell? ⟨w.heap.size, 1, none⟩ = some (.func (.func 18) #[] #[])) := by
    have h1 := box2 w (.func (.func 58) #[] #[]) (.func (.func 18) #[] #[]) 87 0 (.cells #[.pointer none, .slice none 0 0] 77)
    have k := fun i => (hb2.cell (p := ⟨w.heap.size, i, none⟩) (by show w.heap.size < w.heap.size + 1; omega)).trans (hb1.cell (p := ⟨w.heap.size, i, none⟩) (by show w.heap.size < _; simp; omega))
    exact ⟨(k 0).trans h1.1, (k 1).trans h1.2.1⟩
  have HBL : Hid (Lib.IsBuilder 77 5 (w.heap.size + 1) (w.heap.size + 1) (Lib.byteCells (Oc.big 4 l.length)) w2) := by
    have := hbld
    rw [strCells_str, List.nil_append] at this
    exact .inr this
  have HF2 := Lib.hid (HF.out.below HB2.out HF.out.lt)
  clear hbld hb1 hb2 hBW HF hsz0
  generalize hg : w.heap.size = g at HB2 HS2 HC HBL ⊢
  have HG := Lib.hid hg
  clear hg
  go_loopg [15] l.length (fun n i wr => ∃ k : Nat, k ≤ l.length ∧ n = l.length - k ∧ i = .int .i64 k ∧ Hid (Lib.IsBuilder 77 5 (g + 1) (g + 1) (Lib.byteCells (Oc.big 4 l.length ++ (l.take k).flatMap encC)) wr) ∧ Hid (Below (g + 1) w2 wr))
  case atStart => exact ⟨0, Nat.zero_le _, rfl, rfl, by simpa using HBL, Below.refl _ _⟩
  case round =>
    obtain ⟨k, hk, rfl, rfl, HBd, HB⟩ := hrel
    have hgr : g + 1 < wr.heap.size := Nat.lt_of_lt_of_le HS2.out HB.out.size
    by_cases hlt : k < l.length
    · obtain ⟨p, hp⟩ : ∃ p, l[k]? = some p := ⟨_, List.getElem?_eq_getElem hlt⟩
      obtain ⟨hpo, hpw⟩ := HL.out p (List.mem_of_getElem? hp)
      have hxr := HX.out.below HG.out.symm (HB2.out.trans (HB.out.mono (Nat.le_succ g)))
      have hC := run_loadAtC hxr hp
      obtain rfl := HA.out (by intro h; rw [h] at hlt; cases hlt)
      have hn2 := BxC.newC wr (Cm.zero 0)
      have hst1 := run_storeC hn2 p
      obtain ⟨hn3, hu3⟩ := hn2.stored p
      have hld := run_loadC hn3
      have hbw : Below wr.heap.size wr (setFrom (wr.alloc (objC (Cm.zero 0))) wr.heap.size 0 p.vals) := (below_alloc' wr (objC (Cm.zero 0))).trans (hu3.below (Nat.le_refl _))
      have q0 := ((HB.out.cell (p := ⟨g, 0, none⟩) (Nat.lt_succ_self g)).trans HC.out.1)
      have q1 := ((HB.out.cell (p := ⟨g, 1, none⟩) (Nat.lt_succ_self g)).trans HC.out.2)
      have q2 := (hbw.cell (p := ⟨g, 0, none⟩) (by show g < _; omega)).trans q0
      have q3 := (hbw.cell (p := ⟨g, 1, none⟩) (by show g < _; omega)).trans q1
      have HS := Lib.hid (encCs_snoc l k p hp)
      have HLEN := Lib.hid (encCs_le (l.take k) (fun q hq => (HL.out q (List.mem_of_mem_take hq)).2))
      have HPL := Lib.hid (encC_le p hpw)
      have HFW := Lib.hid ((HF2.out.below HB.out (by omega)).below hbw (by omega))
      have HBW := Lib.hid hbw
      have HGR := Lib.hid hgr
      have HBY := Lib.hid (fun W (hV : Forms W) => cBytes_any p hpo hpw W hV)
      clear hxr hn2 hn3 hu3 hbw q0 q1 hp hpo hpw hgr
      go_wp2_with (first
        | (go_at_call 34; refine (HBY.out _ HFW.out).mono ?_; rintro e w4 ⟨rfl, hb4⟩)
        | (go_at_call 29; refine (writeString_any (g + 1) (g + 1) _ _ _ (builder_below (builder_below HBd.out HBW.out (Nat.le_refl _)) hb4 (Nat.le_refl _)) ?_ ?_).mono ?_))
      case refine_1 =>
        rw [byteCells_len, str_size, List.length_append, Oc.big_length]
        have := HLEN.out
        have := HPL.out
        rw [List.length_take] at *
        omega
      case refine_2 => have := hb4.size; have := HBW.out.size; have := HGR.out; omega
      rintro e w5 ⟨rfl, hbld, hb5⟩
      have HBd5 : Hid (Lib.IsBuilder 77 5 (g + 1) (g + 1) (Lib.byteCells (Oc.big 4 l.length ++ (l.take (k + 1)).flatMap encC)) w5) := by
        rw [strCells_str, byteCells_app, List.append_assoc, ← HS.out] at hbld
        exact .inr hbld
      have HB5 : Hid (Below (g + 1) w2 w5) := ((HB.out.trans (HBW.out.mono (by have := HGR.out; omega))).trans (hb4.mono (by have := HBW.out.size; have := HGR.out; omega))).trans hb5
      clear hbld hb4 hb5
      go_wp2
      go_roundg (l.length - (k + 1))
      case measure => omega
      case rel => exact ⟨k + 1, by omega, rfl, by go_num, HBd5, HB5⟩
    · obtain rfl : k = l.length := by omega
      rw [List.take_length] at HBd
      go_wp2_with (go_at_call 31; refine (Tryz.Builder_String_any (g + 1) (g + 1) _ _ HBd.out (by omega)).mono ?_; rintro e w6 ⟨rfl, hb6⟩)
      go_ret
      exact ⟨rfl, by rw [HG.out]; exact (HB2.out.trans (HB.out.mono (Nat.le_succ g))).trans (hb6.mono (Nat.le_succ g))⟩
/-- What is wrong first. -/
def firstW : List Cm → Int
  | [] => 0
  | c :: l => if wrongC c = 0 then firstW l else wrongC c
theorem firstW_zero : ∀ (l : List Cm), firstW l = 0 → ∀ c ∈ l, wrongC c = 0
  | [], _, c, hc => by cases hc
  | d :: l, h, c, hc => by
    unfold firstW at h
    split at h
    · rename_i h0
      rcases List.mem_cons.1 hc with rfl | hc
      · exact h0
      · exact firstW_zero l h c hc
    · rename_i h0; exact absurd h h0
theorem firstW_at : ∀ (l : List Cm) (k : Nat) (c : Cm), l[k]? = some c → (∀ d ∈ l.take k, wrongC d = 0) → wrongC c ≠ 0 → firstW l = wrongC c
  | d :: l, 0, c, h, _, hc => by
    simp at h; subst h
    unfold firstW; rw [if_neg hc]
  | d :: l, k + 1, c, h, h0, hc => by
    unfold firstW
    rw [if_pos (h0 d (by simp))]
    exact firstW_at l k c (by simpa using h) (fun e he => h0 e (by simp [he])) hc
theorem firstW_all : ∀ (l : List Cm), (∀ c ∈ l, wrongC c = 0) → firstW l = 0
  | [], _ => rfl
  | c :: l, h => by unfold firstW; rw [if_pos (h c (by simp))]; exact firstW_all l (fun d hd => h d (by simp [hd]))
def batchR (l : List Cm) : ByteArray × Int := if 64 < l.length then (⟨#[]⟩, 6) else if firstW l = 0 then (batchB l, 0) else (⟨#[]⟩, firstW l)
set_option maxHeartbeats 2000000 in
set_option maxRecDepth 100000 in
theorem batch_any (v : Value) (l : List Cm) (hl : ∀ c ∈ l, c.ok) (w : World) (hF : Forms w) (hv : SlW w v l) :
    Calls Tryz.prog 12 #[v] w fun e w' => e = .returned (.tuple #[.string (batchR l).1, .int .i64 (batchR l).2]) ∧ Below w.heap.size w w' := by
  have HV := Lib.hid hv
  obtain ⟨a, b, o, c, rfl, hA, hx⟩ := hv.get
  have HA := Lib.hid hA
  have HL := Lib.hid hl
  have HX := Lib.hid hx
  have HF := Lib.hid hF
  clear hl hx hv hA hF
  by_cases h64 : 64 < l.length
  · have hr : batchR l = (⟨#[]⟩, 6) := by unfold batchR; rw [if_pos h64]
    rw [hr]
    have hg : (64 : Int) < (l.length : Int) := by omega
    clear hr h64
    go_enter Tryz.func12, Tryz.ntmps12
    go_wp2
    go_ret2
    exact ⟨rfl, Below.refl _ _⟩
  · have hg : decide ((64 : Int) < (l.length : Int)) = false := decide_eq_false (by omega)
    generalize hr : batchR l = R
    have HR := Lib.hid hr
    have H64 := Lib.hid h64
    clear hr h64
    go_enter Tryz.func12, Tryz.ntmps12
    go_wp2
    go_loopg [12] l.length (fun n i wr => ∃ k : Nat, k ≤ l.length ∧ n = l.length - k ∧ i = .int .i64 k ∧ Hid (∀ c ∈ l.take k, wrongC c = 0) ∧ Hid (Below w.heap.size w wr))
    case atStart => exact ⟨0, Nat.zero_le _, rfl, rfl, by intro c hc; simp at hc, Below.refl _ _⟩
    case round =>
      obtain ⟨k, hk, rfl, rfl, HE, HB⟩ := hrel
      by_cases hlt : k < l.length
      · obtain ⟨p, hp⟩ : ∃ p, l[k]? = some p := ⟨_, List.getElem?_eq_getElem hlt⟩
        have hC := run_loadAtC (HX.out.below rfl HB.out) hp
        obtain rfl := HA.out (by intro h; rw [h] at hlt; cases hlt)
        have hn2 := BxC.newC wr (Cm.zero 0)
        have hst1 := run_storeC hn2 p
        obtain ⟨hn3, hu3⟩ := hn2.stored p
        have hld := run_loadC hn3
        have HBW := Lib.hid ((below_alloc' wr (objC (Cm.zero 0))).trans (hu3.below (Nat.le_refl _)))
        have HFW := Lib.hid ((HF.out.below HB.out HF.out.lt).below HBW.out (HF.out.below HB.out HF.out.lt).lt)
        have HW := Lib.hid (fun W (hV : Forms W) => wrong_any p W hV)
        have HP := Lib.hid hp
        have hk64 : k < 64 := by have := H64.out; omega
        clear hn2 hn3 hu3 hp
        by_cases hw : wrongC p = 0
        · have HW0 := Lib.hid hw
          rw [hw] at HW
          clear hw
          go_wp2_with (go_at_call 32; refine (HW.out _ HFW.out).mono ?_; rintro e w1 ⟨rfl, hb1⟩)
          go_roundg (l.length - (k + 1))
          case measure => omega
          case rel =>
            have h64 := H64.out
            refine ⟨k + 1, by omega, rfl, by go_num, ?_, ((HB.out.trans (HBW.out.mono HB.out.size)).trans (hb1.mono (by have := HB.out.size; have := HBW.out.size; omega)))⟩
            intro c hc
            rw [take_snocL HP.out] at hc
            rcases List.mem_append.1 hc with hc | hc
            · exact HE.out c hc
            · simp at hc; subst hc; exact HW0.out
        · have hne : (wrongC p != 0) = true := by rw [bne_iff_ne]; exact hw
          have HR2 : Hid (R = (⟨#[]⟩, wrongC p)) := by
            have h1 := firstW_at l k p HP.out HE.out hw
            have h2 := HR.out
            unfold batchR at h2
            rw [if_neg H64.out, h1, if_neg hw] at h2
            exact h2.symm
          clear hw
          generalize wrongC p = x at HW hne HR2
          go_wp2_with (go_at_call 32; refine (HW.out _ HFW.out).mono ?_; rintro e w1 ⟨rfl, hb1⟩)
          go_ret2
          rw [HR2.out]
          exact ⟨rfl, ((HB.out.trans (HBW.out.mono HB.out.size)).trans (hb1.mono (by have := HB.out.size; have := HBW.out.size; omega)))⟩
      · obtain rfl : k = l.length := by omega
        rw [List.take_length] at HE
        have HR2 : Hid (R = (batchB l, 0)) := by
          have h2 := HR.out
          unfold batchR at h2
          rw [if_neg H64.out, if_pos (firstW_all l HE.out)] at h2
          exact h2.symm
        have HCL := Lib.hid (fun W (hV : Forms W) (hs : SlW W (.slice a l.length c) l) => cList_any _ l (by have := H64.out; omega) (fun c hc => ⟨HL.out c hc, HE.out c hc⟩) W hV hs)
        have HFW := Lib.hid (HF.out.below HB.out HF.out.lt)
        have HVW := Lib.hid (HV.out.below HB.out)
        generalize batchB l = y at HCL HR2
        go_wp2_with (first
          | (go_at_call 33; refine (codec_any _).mono ?_; rintro e w1 ⟨rfl, hb1⟩)
          | (go_at_call 37; (with_reducible refine (HCL.out _ (HFW.out.below hb1 HFW.out.lt) (HVW.out.below hb1)).mono ?_); rintro e w2 ⟨rfl, hb2⟩))
        go_ret2
        rw [HR2.out]
        exact ⟨rfl, HB.out.trans ((below_step hb1 hb2).mono HB.out.size)⟩
end Go.Proofs.YtoekggbbkcmknaaGreatDoor
/- A range over a row of things whose rounds make memory, and may leave. -/
namespace Go.Proofs.YtoekggbbkcmknaaGreatDoor
open Go.RowKit
attribute [local go_sem] Oper.semAt_some
abbrev WF : Fence := Fence.wide
/-- What goes through a row of things, each of which a round takes or leaves at. -/
def SeqX {α : Type} (ar : α → Array Value) (n : Nat) (g : Nat) (lb : Array Value) (G : World → Prop) (E : List α) : Prop :=
  ∀ (l : Nat) (J X : List α → World → Prop) (W : World), (∀ pre W, J pre W → G W) → (∀ pre W q, J pre W → J pre (W.drewN q)) → (∀ pre W o, J pre W → J pre (W.alloc o)) →
    (∀ pre x W, J pre W → pre ++ [x] <+: E → YieldAt WF (n - 1) Tryz.prog l (ar x) W fun e W' => (e = .returned (.bool true) ∧ J (pre ++ [x]) W') ∨ (e = .returned (.bool false) ∧ X (pre ++ [x]) W')) → J [] W →
    CallsIn WF n Tryz.prog g (#[.func (.yield l) #[] #[]] ++ lb) W fun e W' => (∃ v, e = .returned v) ∧ (J E W' ∨ ∃ pre, X pre W')
/-- How a round's body may be left: it goes on, or leaves by this way. -/
def goesX {α : Type} (lv : Exit) (B : Nat) (I X : List α → World → Prop) (xs : List α) (W : World) (e : Exit) (_ : Act) (W' : World) : Prop :=
  (e = .normal ∧ KeepsFrom B W W' ∧ I xs W') ∨ (e = lv ∧ KeepsFrom B W W' ∧ X xs W')
/-- A range over a row of things. -/
theorem rangeX {α : Type} {ar : α → Array Value} {n : Nat} {g : Operand} {ps : Array Tmp} {assign body : Code} {Q : Exit → Act → World → Prop} {a : Act} {w : World} (h1 : 1 ≤ n) {gf : Nat} {lb : Array Value}
    (hg : a.eval g = .func (.func gf) #[] lb) (eg : ∀ args w, (callFunc gf args).run Tryz.prog w = .ok (.enter gf args) w) {G : World → Prop} {E : List α} (hseq : SeqX ar (n - 1) gf lb G E) (hps : ∀ x, (ar x).size = ps.size)
    (lv : Exit) (pc : Code) (hlv : (lv = .ret ∧ pc = .ret) ∨ ∃ id, lv = .exit id ∧ pc = .exit id)
    (I X : List α → World → Prop) (hI : OwnFrom w.heap.size I) (hX : OwnFrom w.heap.size X) (hIG : ∀ pre W, I pre W → G W) (hIq : ∀ pre W q, I pre W → I pre (W.drewN q)) (h0 : I [] w) (a₁ : α → World → Act) (wa : α → World → World) (hwa : ∀ x W, wa x W = W ∨ ∃ o, wa x W = W.alloc o)
    (hassign : ∀ (l : Nat) (x : α) (W : World) (K : Act → World → Prop), K (a₁ x W) (wa x W) →
      assign.wpIn (WF.inRound l) (n - 1 - 1) Tryz.prog (Exit.then K (fun _ _ _ => False)) { tmps := (ps.zip (ar x)).foldl (fun t (p, v) => t.setIfInBounds p v) a.tmps, defers := [] } W)
    (hbody : ∀ (l : Nat) (pre : List α) (x : α) (W W2 : World), (∃ k o, W2 = (wa x W).putObj k o ∧ k < W.heap.size ∧ w.heap.size ≤ k ∧ o.isCells = false) → I pre W2 → pre ++ [x] <+: E → body.wpIn (WF.inRound l) (n - 1 - 1) Tryz.prog (goesX lv w.heap.size I X (pre ++ [x]) W2) (a₁ x W) W2)
    (hdone : ∀ (D : Nat) (W : World), w.heap.size ≤ D → I E W → W.heap[D]? = some (.deferred (some [])) → Q .normal { a with defers := { target := .collected D, args := #[] } :: a.defers } W)
    (hstop : ∀ (D : Nat) (pre : List α) (W : World), w.heap.size ≤ D → X pre W → W.heap[D]? = some (.deferred (some [])) → pc.wpIn WF n Tryz.prog Q { a with defers := { target := .collected D, args := #[] } :: a.defers } W) :
    (Code.rangeFunc g ps assign body).wpIn WF n Tryz.prog Q a w := by
  refine wpIn_rangeFunc (fun fn hfn => ?_)
  rw [show WF.round = none from rfl]
  obtain ⟨lp, hlp⟩ : ∃ lp : LoopState → Option Code → Loop, lp = fun st pe => { state := st, pending := pe, fn, tmps := a.tmps, params := ps, assign, body, defers := w.heap.size } := ⟨_, rfl⟩
  obtain ⟨X0, hX0⟩ : ∃ X0, X0 = (w.alloc (.deferred (some []))).alloc (.loop (lp .ready none)) := ⟨_, rfl⟩
  have xl : X0.heap[w.heap.size + 1]? = some (.loop (lp .ready none)) := by
    rw [hX0]; have := heap_alloc_new (w.alloc (.deferred (some []))) (.loop (lp .ready none)); rwa [World.size_alloc] at this
  have xd : X0.heap[w.heap.size]? = some (.deferred (some [])) := by
    rw [hX0]; exact (Below.heap_alloc _ _ _ (by simp)).trans (heap_alloc_new w _)
  have xs : w.heap.size ≤ X0.heap.size := by rw [hX0]; simp; omega
  have xi : I [] X0 := by rw [hX0]; exact hI.alloc _ (hI.alloc _ h0)
  refine ⟨w.heap.size + 1, [{ target := .collected w.heap.size, args := #[] }], X0, { target := .fn (.func gf) lb, args := #[.func (.yield (w.heap.size + 1)) #[] #[]] }, X0, gf, #[.func (.yield (w.heap.size + 1)) #[] #[]] ++ lb, X0, ?_, ?_, fun _ _ => trivial, ?_, fun _ => h1, ?_⟩
  · rw [hX0, hlp]; exact run_enterLoop_outer _ _ _ _ _
  · simp only [resolve, hg]
    simp [go_sem]
  · simp [invoke, go_sem, eg]
  · have hold : ∀ (W : World) (o : Obj) (k : Nat) (v : Obj), W.heap[k]? = some v → (W.alloc o).heap[k]? = some v := fun W o k v h => (Below.heap_alloc W o k (Array.getElem?_eq_some_iff.1 h).1).trans h
    refine (hseq (w.heap.size + 1) (fun pre W => I pre W ∧ W.heap[w.heap.size + 1]? = some (.loop (lp .ready none)) ∧ W.heap[w.heap.size]? = some (.deferred (some [])))
      (fun pre W => X pre W ∧ W.heap[w.heap.size + 1]? = some (.loop (lp .done (some pc))) ∧ W.heap[w.heap.size]? = some (.deferred (some []))) X0 (fun pre W h => hIG pre W h.1) (fun pre W q h => ⟨hIq pre W q h.1, h.2⟩) (fun pre W o h => ⟨hI.alloc _ h.1, hold _ _ _ _ h.2.1, hold _ _ _ _ h.2.2⟩) ?_ ⟨xi, xl, xd⟩).mono ?_
    · rintro pre x W ⟨hi, hl, hk⟩ hlen
      have hlt : w.heap.size + 1 < W.heap.size := (Array.getElem?_eq_some_iff.1 hl).1
      have hy := run_yield (P := Tryz.prog) (args := ar x) hl (by rw [hlp]; exact hps x)
      rw [hlp] at hy
      obtain ⟨Wa, hWa⟩ : ∃ Wa, Wa = wa x W := ⟨_, rfl⟩
      obtain ⟨hai, hal, hak, has⟩ : I pre Wa ∧ Wa.heap[w.heap.size + 1]? = some (.loop (lp .ready none)) ∧ Wa.heap[w.heap.size]? = some (.deferred (some [])) ∧ W.heap.size ≤ Wa.heap.size := by
        rw [hWa]
        rcases hwa x W with h | ⟨o, h⟩
        · rw [h]; exact ⟨hi, hl, hk, Nat.le_refl _⟩
        · rw [h]; exact ⟨hI.alloc _ hi, hold _ _ _ _ hl, hold _ _ _ _ hk, by simp⟩
      refine ⟨fn, _, assign, body, hy, roundIn_of_wpIn hfn (hassign _ x W _ ⟨_, run_beginRound (by rw [← hWa]; exact hal) (by rw [hlp]), ?_⟩)⟩
      obtain ⟨W2, hW2⟩ : ∃ W2, W2 = Wa.putObj (w.heap.size + 1) (.loop { lp .ready none with state := .busy }) := ⟨_, rfl⟩
      have hl2 : W2.heap[w.heap.size + 1]? = some (.loop { lp .ready none with state := .busy }) := by rw [hW2]; exact World.putObj_heap_same (Nat.lt_of_lt_of_le hlt has)
      have hk2 : W2.heap[w.heap.size]? = some (.deferred (some [])) := by rw [hW2]; exact (World.putObj_heap_other (by omega)).trans hak
      have hi2 : I pre W2 := by rw [hW2]; exact hI.putObj _ hai (by omega) hal rfl
      rw [← hWa, ← hW2]
      refine wpIn_mono (hbody _ pre x W W2 ⟨w.heap.size + 1, _, by rw [hW2, hWa], hlt, by omega, rfl⟩ hi2 hlen) ?_
      rintro e a3 W3 hp
      rcases hp with ⟨rfl, hk3, hi3⟩ | ⟨rfl, hk3, hi3⟩
      · have hl3 := hk3.same _ _ (by omega) hl2 rfl
        have he := run_endRound (P := Tryz.prog) none hl3
        rw [hlp] at he hl3
        refine ⟨_, _, he, .inl ⟨rfl, hI.putObj _ hi3 (by omega) hl3 rfl, ?_, (World.putObj_heap_other (by omega)).trans (hk3.same _ _ (Nat.le_refl _) hk2 rfl)⟩⟩
        rw [hlp]; exact World.putObj_heap_same (Array.getElem?_eq_some_iff.1 hl3).1
      · have hl3 := hk3.same _ _ (by omega) hl2 rfl
        have he := run_endRound (P := Tryz.prog) (some pc) hl3
        have hX3 := hX.putObj (.loop (lp .done (some pc))) hi3 (Nat.le_succ w.heap.size) hl3 rfl
        rw [hlp] at he
        have hK3 : (W3.putObj (w.heap.size + 1) (.loop (lp .done (some pc)))).heap[w.heap.size]? = some (.deferred (some [])) := (World.putObj_heap_other (by omega)).trans (hk3.same _ _ (Nat.le_refl _) hk2 rfl)
        have hL3 : (W3.putObj (w.heap.size + 1) (.loop (lp .done (some pc)))).heap[w.heap.size + 1]? = some (.loop (lp .done (some pc))) := World.putObj_heap_same (Array.getElem?_eq_some_iff.1 hl3).1
        rw [hlp] at hX3 hK3 hL3
        rcases hlv with ⟨rfl, rfl⟩ | ⟨id, rfl, rfl⟩
        · exact ⟨_, _, he, .inr ⟨rfl, hX3, by rw [hlp]; exact hL3, hK3⟩⟩
        · exact ⟨_, _, he, .inr ⟨rfl, hX3, by rw [hlp]; exact hL3, hK3⟩⟩
    · rintro e W2 ⟨⟨v, rfl⟩, ⟨hi, hl, hk⟩ | ⟨pre, hi, hl, hk⟩⟩
      · exact ⟨none, _, by have := run_endLoop (P := Tryz.prog) hl (by rw [hlp]; simp); rw [hlp] at this; exact this, hdone _ _ (Nat.le_refl _) (hI.putObj _ hi (by omega) hl rfl) ((World.putObj_heap_other (by omega)).trans hk)⟩
      · exact ⟨some pc, _, by have := run_endLoop (P := Tryz.prog) hl (by rw [hlp]; simp); rw [hlp] at this; exact this, hstop _ pre _ (Nat.le_refl _) (hX.putObj _ hi (by omega) hl rfl) ((World.putObj_heap_other (by omega)).trans hk)⟩
end Go.Proofs.YtoekggbbkcmknaaGreatDoor
/- What is laid: the forms. -/
namespace Go.Proofs.YtoekggbbkcmknaaGreatDoor
open Go.ChangeShapes Go.WideShapes Go.RowKit
theorem gForms : Tryz.prog.globalNamed "taproot/command.forms" = some 0 := by kernel_rfl
theorem gFormsT : (Tryz.prog.globals[0]?).map (·.type) = some 99 := by kernel_rfl
theorem cells14 : Tryz.prog.cellsOf 99 = 14 := by kernel_rfl
theorem cells1 : Tryz.prog.cellsOf 9 = 1 := by kernel_rfl
theorem mapM_at {α β : Type} {f : α → Option β} : ∀ (l : List α) (xs : List β), l.mapM f = some xs → ∀ (i : Nat) (x : α), l[i]? = some x → ∃ y, xs[i]? = some y ∧ f x = some y
  | [], _, _, i, x, hx => by simp at hx
  | a :: l, xs, h, i, x, hx => by
    simp only [List.mapM_cons, Option.bind_eq_bind, Option.bind_eq_some_iff, Option.pure_def, Option.some.injEq] at h
    obtain ⟨y, hy, ys, hys, rfl⟩ := h
    cases i with
    | zero => simp at hx; subst hx; exact ⟨y, rfl, hy⟩
    | succ i => exact mapM_at l ys hys i x (by simpa using hx)
theorem strs14 {W : World} {fuel : Nat} {cs : List Value} {ds : List (DataW Unit)} {p : List MemPlace} (h : DataW.trod (fun _ => ()) Tryz.prog W 0 (fun _ => true) false fuel 99 cs = some (.agg ds, p)) :
    ∀ (i : Nat) (l : List UInt8), i < 14 → ds[i]? = some (.lit (.string l)) → cs[i]? = some (.string (str l)) := by
  cases fuel with
  | zero => simp [DataW.trod] at h
  | succ fuel =>
    simp only [DataW.trod, Tryz.underlying99, cells14, cells1] at h
    split at h
    · simp only [Option.map_eq_some_iff] at h
      obtain ⟨xs, hx, he⟩ := h
      intro i l hi hl
      obtain ⟨y, hy, ht⟩ := mapM_at _ _ hx i i (by simp [hi])
      obtain ⟨s, hc, rfl, -⟩ := DataW.trod_string Tryz.underlying9 ht
      have he1 : xs.map (·.1) = ds := by injection he with h1 _; injection h1
      rw [← he1, List.getElem?_map, hy] at hl
      simp only [Option.map_some, Option.some.injEq] at hl
      injection hl with hl
      injection hl with hl
      have h0 : ((cs.drop (i * 1)).take 1)[0]? = some (.string s) := by rw [hc]; rfl
      rw [List.getElem?_take_of_lt (by decide), List.getElem?_drop] at h0
      rw [show i = i * 1 + 0 by omega, h0, ← hl]
      rfl
    · cases h
theorem forms_of_trod {W : World} {fuel : Nat} {cs : Array Value} {p : List MemPlace} (hv : W.var? Tryz.prog "taproot/command.forms" = some cs)
    (h : DataW.trod (fun _ => ()) Tryz.prog W 0 (fun _ => true) false fuel 99 cs.toList = some (Rows.laid_taproot_command_forms, p)) : Forms W := by
  have hs := strs14 h
  intro k h1 h2
  have hc : ∀ (i : Nat) (l : List UInt8), cs.toList[i]? = some (.string (str l)) → W.cell? ⟨0, i, none⟩ = some (.string (str l)) := by
    intro i l hl
    have hi : i < cs.size := by have := (List.getElem?_eq_some_iff.1 hl).1; simpa using this
    rw [World.var?_cell gForms hv i]
    simpa using hl
  obtain ⟨j, rfl⟩ : ∃ j : Nat, k = j := ⟨k.toNat, by omega⟩
  have hj : j < 14 := by omega
  have hj1 : 1 ≤ j := by omega
  show W.cell? ⟨0, j, none⟩ = _
  match j, hj, hj1 with
  | 1, _, _ => exact hc _ _ (hs 1 _ (by decide) rfl)
  | 2, _, _ => exact hc _ _ (hs 2 _ (by decide) rfl)
  | 3, _, _ => exact hc _ _ (hs 3 _ (by decide) rfl)
  | 4, _, _ => exact hc _ _ (hs 4 _ (by decide) rfl)
  | 5, _, _ => exact hc _ _ (hs 5 _ (by decide) rfl)
  | 6, _, _ => exact hc _ _ (hs 6 _ (by decide) rfl)
  | 7, _, _ => exact hc _ _ (hs 7 _ (by decide) rfl)
  | 8, _, _ => exact hc _ _ (hs 8 _ (by decide) rfl)
  | 9, _, _ => exact hc _ _ (hs 9 _ (by decide) rfl)
  | 10, _, _ => exact hc _ _ (hs 10 _ (by decide) rfl)
  | 11, _, _ => exact hc _ _ (hs 11 _ (by decide) rfl)
  | 12, _, _ => exact hc _ _ (hs 12 _ (by decide) rfl)
  | 13, _, _ => exact hc _ _ (hs 13 _ (by decide) rfl)
theorem forms_of_laid1 {W : World} (h : laidMet Tryz.prog [("taproot/command.forms", Rows.laid_taproot_command_forms)] W) : Forms W := by
  obtain ⟨ps, ⟨g, t, cs, fuel, p, q, hg, ht, hvar, hd, _, _⟩, _⟩ := h
  obtain rfl := Option.some.inj (gForms.symm.trans hg)
  obtain rfl := Option.some.inj (gFormsT.symm.trans ht)
  exact forms_of_trod hvar hd
end Go.Proofs.YtoekggbbkcmknaaGreatDoor
/- The kinds and their names; what has no capitals is as strings.ToLower has it. -/
namespace Go.Proofs.YtoekggbbkcmknaaGreatDoor
open Go.RowKit
attribute [local go_sem] Oper.semAt_some
def nameL (k : Nat) : List UInt8 :=
  match k with
  | 1 => [100, 101, 99, 108, 97, 114, 101] | 2 => [100, 114, 111, 112] | 3 => [98, 105, 110, 100] | 4 => [117, 110, 98, 105, 110, 100] | 5 => [112, 117, 98, 108, 105, 115, 104]
  | 6 => [100, 101, 108, 105, 118, 101, 114] | 7 => [97, 99, 107] | 8 => [110, 97, 99, 107] | 9 => [101, 120, 116, 101, 110, 100] | 10 => [112, 117, 114, 103, 101]
  | 11 => [116, 105, 99, 107] | 12 => [115, 116, 97, 116] | 13 => [98, 114, 111, 119, 115, 101] | _ => []
/-- What the names are. -/
def Names (w : World) : Prop := ∀ k : Nat, 1 ≤ k → k ≤ 13 → w.cell? ⟨1, k, none⟩ = some (.string (str (nameL k)))
theorem Names.below {B : Nat} {w w' : World} (h : Names w) (hb : Below B w w') (h0 : 1 < B) : Names w' := fun k h1 h2 => (hb.cell (p := ⟨1, k, none⟩) h0).trans (h k h1 h2)
theorem Names.lt {w : World} (h : Names w) : 1 < w.heap.size := World.block_lt_of_cell? _ _ (h 1 (by decide) (by decide))
theorem gNames : Tryz.prog.globalNamed "taproot/command.names" = some 1 := by kernel_rfl
theorem gNamesT : (Tryz.prog.globals[1]?).map (·.type) = some 99 := by kernel_rfl
theorem names_of_trod {W : World} {fuel : Nat} {cs : Array Value} {p : List MemPlace} (hv : W.var? Tryz.prog "taproot/command.names" = some cs)
    (h : DataW.trod (fun _ => ()) Tryz.prog W 0 (fun _ => true) false fuel 99 cs.toList = some (Rows.laid_taproot_command_names, p)) : Names W := by
  have hs := strs14 h
  intro k h1 h2
  have hc : ∀ (i : Nat) (l : List UInt8), cs.toList[i]? = some (.string (str l)) → W.cell? ⟨1, i, none⟩ = some (.string (str l)) := by
    intro i l hl
    rw [World.var?_cell gNames hv i]
    simpa using hl
  have hj : k < 14 := by omega
  match k, hj, h1 with
  | 1, _, _ => exact hc _ _ (hs 1 _ (by decide) rfl)
  | 2, _, _ => exact hc _ _ (hs 2 _ (by decide) rfl)
  | 3, _, _ => exact hc _ _ (hs 3 _ (by decide) rfl)
  | 4, _, _ => exact hc _ _ (hs 4 _ (by decide) rfl)
  | 5, _, _ => exact hc _ _ (hs 5 _ (by decide) rfl)
  | 6, _, _ => exact hc _ _ (hs 6 _ (by decide) rfl)
  | 7, _, _ => exact hc _ _ (hs 7 _ (by decide) rfl)
  | 8, _, _ => exact hc _ _ (hs 8 _ (by decide) rfl)
  | 9, _, _ => exact hc _ _ (hs 9 _ (by decide) rfl)
  | 10, _, _ => exact hc _ _ (hs 10 _ (by decide) rfl)
  | 11, _, _ => exact hc _ _ (hs 11 _ (by decide) rfl)
  | 12, _, _ => exact hc _ _ (hs 12 _ (by decide) rfl)
  | 13, _, _ => exact hc _ _ (hs 13 _ (by decide) rfl)
theorem kinds_any (w : World) : Calls Tryz.prog 24 #[] w fun e w' => e = .returned (.func (.func 48) #[] #[]) ∧ w' = w := by
  go_enter Tryz.func24, Tryz.ntmps24
  go_wp2
  go_ret
  exact ⟨rfl, rfl⟩
def arK (k : Nat) : Array Value := #[.int .i64 ((k : Int) + 1), .string (str (nameL (k + 1)))]
def kinds : List Nat := List.range 13
theorem kinds_at (k : Nat) (h : k < 13) : kinds[k]? = some k := by simp [kinds, h]
theorem kinds_take (k : Nat) (h : k < 13) : kinds.take (k + 1) = kinds.take k ++ [k] := take_snocL (kinds_at k h)
set_option maxHeartbeats 4000000 in
theorem kinds1_in (n : Nat) (hn : 1 ≤ n) : SeqX arK n 48 #[] Names kinds := by
  intro lr J X W hG hJq hJa hY h0
  refine callsIn_of_wp Tryz.func48 rfl trivial ?_ rfl
  simp only [Tryz.ntmps48, List.size_toArray, List.length_cons, List.length_nil, Nat.reduceAdd, Nat.reduceSub, Array.replicate_succ, Array.replicate_zero, List.push_toArray, List.append_toArray, List.nil_append, List.cons_append]
  gi_wp2
  gi_loopg [2] 13 (fun g v2 wr => ∃ k : Nat, k ≤ 13 ∧ g = 13 - k ∧ v2 = .int .i64 ((k : Int) + 1) ∧ Hid (J (kinds.take k) wr))
  case atStart => exact ⟨0, Nat.zero_le _, rfl, rfl, h0⟩
  case round =>
    obtain ⟨k, hk, rfl, rfl, HJ⟩ := hrel
    by_cases hlt : k < 13
    · have HT := Lib.hid (kinds_take k hlt)
      have hpre : kinds.take k ++ [k] <+: kinds := by rw [← HT.out]; exact List.take_prefix _ _
      have HPRE := Lib.hid hpre
      have hc := (hG _ _ HJ.out) (k + 1) (by omega) (by omega)
      have hle : (k : Int) + 1 ≤ 13 := by omega
      have hi0 : (0 : Int) ≤ (k : Int) + 1 := by omega
      have hi1 : (k : Int) + 1 < 14 := by omega
      have hci : wr.cell? ⟨1, ((k : Int) + 1).toNat, none⟩ = some (.string (str (nameL (k + 1)))) := hc
      generalize hnm : str (nameL (k + 1)) = nm at hc hci
      clear hpre
      gi_upto_region 3 with fail
      obtain ⟨fn, tmps, assign, body, hy, hR⟩ := hY _ k _ HJ.out HPRE.out
      unfold arK at hy
      rw [hnm] at hy
      gi_wp2
      refine hR.mono ?_
      rintro e W3 (⟨rfl, h3⟩ | ⟨rfl, h3⟩)
      · have HJ3 := Lib.hid h3
        clear h3
        gi_wp2
        go_roundg (13 - (k + 1))
        case measure => omega
        case rel => exact ⟨k + 1, hlt, rfl, by go_num, by rw [HT.out]; exact HJ3⟩
      · have HX3 := Lib.hid h3
        clear h3
        gi_wp2
        exact bodyPost_ret (results_none rfl _ _ _) rfl ⟨⟨_, rfl⟩, .inr ⟨_, HX3.out⟩⟩
    · obtain rfl : k = 13 := by omega
      have HJ13 : Hid (J kinds wr) := HJ
      clear HJ
      gi_wp2
      go_end0
      exact ⟨⟨_, rfl⟩, .inl HJ13.out⟩
set_option maxHeartbeats 800000 in
theorem lower_any (s : ByteArray) (hs : s.size ≤ 1000) (hl : ∀ (i : Nat) (h : i < s.size), 97 ≤ (s[i]'h).toNat ∧ (s[i]'h).toNat ≤ 122) (w : World) :
    Calls Tryz.prog 25 #[.string s] w fun e w' => e = .returned (.string s) ∧ ∃ q, w' = w.drewN q := by
  have HL := Lib.hid hl
  clear hl
  go_enter Tryz.func25, Tryz.ntmps25
  go_wp2
  go_loopg [3, 4, 5] s.size (fun n v3 v4 v5 wr => ∃ k : Nat, k ≤ s.size ∧ n = s.size - k ∧ v3 = .bool true ∧ v4 = .bool false ∧ v5 = .int .i64 k ∧ ∃ q, wr = w.drewN q)
  case atStart => exact ⟨0, Nat.zero_le _, rfl, rfl, rfl, rfl, 0, rfl⟩
  case round =>
    obtain ⟨k, hk, rfl, rfl, rfl, rfl, q, rfl⟩ := hrel
    by_cases hlt : k < s.size
    · obtain ⟨h1, h2⟩ := HL.out k hlt
      have hi0 : (0 : Int) ≤ (k : Int) := by omega
      have hi1 : (k : Int) < (s.size : Int) := by omega
      have hix : ∀ w, (Instr.index 9 (.string s) (.int .i64 k)).run Tryz.prog w = .ok (.int .u8 ((s[k]'hlt).toNat : Nat)) w := fun w => by rw [run_index_string w 9 s .i64 k Tryz.underlying9]; simp [hlt]
      have hc1 : ¬ (128 : Int) ≤ ((s[k]'hlt).toNat : Int) := by omega
      have hc2 : (65 : Int) ≤ ((s[k]'hlt).toNat : Int) := by omega
      have hc3 : ¬ ((s[k]'hlt).toNat : Int) ≤ 90 := by omega
      have HC := Lib.hid hlt
      generalize (s[k]'hlt).toNat = c at hix hc1 hc2 hc3
      go_wp2
      go_roundg (s.size - (k + 1))
      case measure => omega
      case rel => exact ⟨k + 1, by omega, rfl, rfl, rfl, by go_num, q, rfl⟩
    · obtain rfl : k = s.size := by omega
      go_wp2
      go_ret
      exact ⟨rfl, q, rfl⟩
end Go.Proofs.YtoekggbbkcmknaaGreatDoor
/- Light. -/
namespace Go.Proofs.YtoekggbbkcmknaaGreatDoor
open Go.RowKit
attribute [local go_sem ↓] zeroC_eq newC_eq loadC_eq storeC_eq buildC_eq zeroR_eq newR_eq loadR_eq storeR_eq buildR_eq
attribute [local go_sem] run_zeroC run_newC run_buildC0 run_buildC1 run_neqC run_eqlC run_guardC run_zeroR run_newR run_buildR0 run_buildR1 run_neqR run_eqlR run_guardR
/-- The longest text. -/
def longest (c : Cm) : Nat := max (max (max (max (max (max (max c.qn.size c.qd.size) c.bx.size) c.bp.size) c.bq.size) c.ex.size) c.key.size) c.body.size
theorem max_step (a b : Nat) : (if (b : Int) > (a : Int) then (b : Int) else (a : Int)) = ((max a b : Nat) : Int) := by
  by_cases h : (b : Int) > (a : Int)
  · rw [if_pos h, Nat.max_eq_right (by omega)]
  · rw [if_neg h, Nat.max_eq_left (by omega)]
theorem run_max2n (a b : Nat) (w : World) : (Builtin.max2 (.int .i64 a) (.int .i64 b)).run Tryz.prog w = .ok (.int .i64 ((max a b : Nat) : Int)) w := by
  rw [← max_step]
  simp [Builtin.max2]
theorem run_max8 (ts : Array TypeId) (t : TypeId) (a b c d e f g h : Nat) (w : World) :
    (Builtin.max_ ts t #[.int .i64 a, .int .i64 b, .int .i64 c, .int .i64 d, .int .i64 e, .int .i64 f, .int .i64 g, .int .i64 h]).run Tryz.prog w = .ok (.int .i64 ((max (max (max (max (max (max (max a b) c) d) e) f) g) h : Nat) : Int)) w := by
  simp only [Builtin.max_, List.foldlM_cons, List.foldlM_nil, Sem.run_bind, run_max2n, Result.andThen_ok]
  simp
set_option maxHeartbeats 800000 in
theorem light_any (c : Cm) (w : World) : Calls Tryz.prog 8 #[c.agg] w fun e w' => e = .returned (.bool (decide (longest c ≤ 2000))) ∧ Below w.heap.size w w' := by
  obtain ⟨k0, k1, k2, k3, k4, k5, k6, k7, k8, k9, k10, k11, k12, k13, k14, k15, k16, k17⟩ := (BxC.newC w c).all
  have hm := run_max8 #[3, 3, 3, 3, 3, 3, 3, 3] 3 c.qn.size c.qd.size c.bx.size c.bp.size c.bq.size c.ex.size c.key.size c.body.size
  have hlg : longest c = max (max (max (max (max (max (max c.qn.size c.qd.size) c.bx.size) c.bp.size) c.bq.size) c.ex.size) c.key.size) c.body.size := rfl
  rw [← hlg] at hm
  clear hlg
  generalize longest c = m at hm ⊢
  by_cases h : m ≤ 2000
  · have hi : (m : Int) ≤ 2000 := by omega
    rw [decide_eq_true h]
    clear h
    go_enter Tryz.func8, Tryz.ntmps8
    go_wp2
    go_ret
    exact ⟨rfl, below_alloc' _ _⟩
  · have hi : ¬ (m : Int) ≤ 2000 := by omega
    rw [decide_eq_false h]
    clear h
    go_enter Tryz.func8, Tryz.ntmps8
    go_wp2
    go_ret
    exact ⟨rfl, below_alloc' _ _⟩
end Go.Proofs.YtoekggbbkcmknaaGreatDoor
/- The library's contract for strings.Repeat, laid at this program's numbers by the guide's own tool. -/
namespace Go.Proofs
open Go.Shelf
def Tryz.lays105_ren : Go.Shelf.Ren := ⟨fun | 105 => 9 | 212 => 26 | 99 => 27 | 165 => 28 | 166 => 29 | 170 => 30 | 169 => 31 | 263 => 52 | 264 => 53 | 206 => 54 | 240 => 55 | 241 => 56 | 276 => 97 | 277 => 98 | n => n, fun | 9 => 9 | 3 => 3 | 4 => 4 | 20 => 20 | 0 => 0 | 46 => 71 | 109 => 72 | 5 => 5 | 72 => 77 | 76 => 81 | 51 => 26 | 146 => 113 | 53 => 25 | 148 => 115 | 70 => 75 | 37 => 70 | 75 => 80 | 127 => 117 | 164 => 144 | 80 => 83 | n => n, fun | n => n⟩
theorem Tryz.lays105 : Go.Proofs.Lays.n105 Tryz.prog Tryz.lays105_ren := {
  mixed := by kernel_rfl
  f99 := Tryz.func27.trans (congrArg some (by kernel_rfl))
  f105 := Tryz.func9.trans (congrArg some (by kernel_rfl))
  f165 := Tryz.func28.trans (congrArg some (by kernel_rfl))
  f166 := Tryz.func29.trans (congrArg some (by kernel_rfl))
  f169 := Tryz.func31.trans (congrArg some (by kernel_rfl))
  f170 := Tryz.func30.trans (congrArg some (by kernel_rfl))
  f206 := Tryz.func54.trans (congrArg some (by kernel_rfl))
  f212 := Tryz.func26.trans (congrArg some (by kernel_rfl))
  f240 := Tryz.func55.trans (congrArg some (by kernel_rfl))
  f241 := Tryz.func56.trans (congrArg some (by kernel_rfl))
  f263 := Tryz.func52.trans (congrArg some (by kernel_rfl))
  f264 := Tryz.func53.trans (congrArg some (by kernel_rfl))
  f276 := Tryz.func97.trans (congrArg some (by kernel_rfl))
  f277 := Tryz.func98.trans (congrArg some (by kernel_rfl))
  t0 := Tryz.underlying0
  a0 := Tryz.isAgg0
  z0 := Tryz.sizeOf0
  v0 := Tryz.zeroValue0
  t3 := Tryz.underlying3
  a3 := Tryz.isAgg3
  z3 := Tryz.sizeOf3
  v3 := Tryz.zeroValue3
  t4 := Tryz.underlying4
  a4 := Tryz.isAgg4
  z4 := Tryz.sizeOf4
  v4 := Tryz.zeroValue4
  t5 := Tryz.underlying5
  a5 := Tryz.isAgg5
  z5 := Tryz.sizeOf5
  v5 := Tryz.zeroValue5
  t9 := Tryz.underlying9
  a9 := Tryz.isAgg9
  z9 := Tryz.sizeOf9
  v9 := Tryz.zeroValue9
  t20 := Tryz.underlying20
  a20 := Tryz.isAgg20
  z20 := Tryz.sizeOf20
  v20 := Tryz.zeroValue20
  t37 := Tryz.underlying70
  a37 := Tryz.isAgg70
  z37 := Tryz.sizeOf70
  v37 := Tryz.zeroValue70
  t46 := Tryz.underlying71
  a46 := Tryz.isAgg71
  z46 := Tryz.sizeOf71
  v46 := Tryz.zeroValue71
  t51 := Tryz.underlying26
  a51 := Tryz.isAgg26
  z51 := Tryz.sizeOf26
  v51 := Tryz.zeroValue26
  t53 := Tryz.underlying25
  a53 := Tryz.isAgg25
  z53 := Tryz.sizeOf25
  v53 := Tryz.zeroValue25
  t70 := Tryz.underlying75
  a70 := Tryz.isAgg75
  z70 := Tryz.sizeOf75
  v70 := Tryz.zeroValue75
  t72 := Tryz.underlying77
  a72 := Tryz.isAgg77
  z72 := Tryz.sizeOf77
  v72 := Tryz.zeroValue77
  t75 := Tryz.underlying80
  a75 := Tryz.isAgg80
  z75 := Tryz.sizeOf80
  v75 := Tryz.zeroValue80
  t76 := Tryz.underlying81
  a76 := Tryz.isAgg81
  z76 := Tryz.sizeOf81
  v76 := Tryz.zeroValue81
  t109 := Tryz.underlying72
  a109 := Tryz.isAgg72
  z109 := Tryz.sizeOf72
  v109 := Tryz.zeroValue72
  t127 := Tryz.underlying117
  a127 := Tryz.isAgg117
  z127 := Tryz.sizeOf117
  v127 := Tryz.zeroValue117
  t146 := Tryz.underlying113
  a146 := Tryz.isAgg113
  z146 := Tryz.sizeOf113
  v146 := Tryz.zeroValue113
  t148 := Tryz.underlying115
  a148 := Tryz.isAgg115
  z148 := Tryz.sizeOf115
  v148 := Tryz.zeroValue115
  t164 := Tryz.underlying144
  a164 := Tryz.isAgg144
  z164 := Tryz.sizeOf144
  v164 := Tryz.zeroValue144 }
theorem Tryz.Builder_Extra_105 : Builder.Extra Tryz.prog Tryz.lays105_ren := {
  sizeBuilder := by kernel_rfl
  liesBuilder := by kernel_rfl
  t5 := Tryz.underlying5
  a5 := Tryz.isAgg5
  z5 := Tryz.sizeOf5
  v5 := Tryz.zeroValue5
  infoByte := by kernel_rfl
  cellsByte := by kernel_rfl
  sizeByte := by kernel_rfl
  neB5 := by decide }
open Go.RowKit Go.Lib in
theorem Tryz.strings_Repeat_main (s : ByteArray) (c : Nat) (w : World) (hc2 : 2 ≤ c) (hc : c ≤ 9223372036854775807) (hlen : s.size * c ≤ 140737488355328) (h0 : 0 < s.size) :
    Calls Tryz.prog 9 #[.string s, .int .i64 c] w fun e w' => e = .returned (.string ⟨(Lib.repeatL s.data.toList c).toArray⟩) ∧ Below w.heap.size w w' := Any.strings_Repeat_main Tryz.lays105 Tryz.Builder_Extra_105 s c w hc2 hc hlen h0
open Go.RowKit Go.Lib in
theorem Tryz.strings_Repeat_zero (s : ByteArray) (w : World) :
    Calls Tryz.prog 9 #[.string s, .int .i64 0] w fun e w' => e = .returned (.string ⟨#[]⟩) ∧ w' = w := Any.strings_Repeat_zero Tryz.lays105 s w
open Go.RowKit Go.Lib in
theorem Tryz.strings_Repeat_one (s : ByteArray) (w : World) :
    Calls Tryz.prog 9 #[.string s, .int .i64 1] w fun e w' => e = .returned (.string s) ∧ w' = w := Any.strings_Repeat_one Tryz.lays105 s w
open Go.RowKit Go.Lib in
theorem Tryz.strings_Repeat_empty (s : ByteArray) (c : Nat) (w : World) (hc2 : 2 ≤ c) (hc : c ≤ 9223372036854775807) (h0 : s.size = 0) :
    Calls Tryz.prog 9 #[.string s, .int .i64 c] w fun e w' => e = .returned (.string ⟨#[]⟩) ∧ w' = w := Any.strings_Repeat_empty Tryz.lays105 s c w hc2 hc h0
open Go.RowKit Go.Lib in
theorem Tryz.strings_Repeat_negative (s : ByteArray) (c : Int) (w : World) (hc : c < 0) :
    Calls Tryz.prog 9 #[.string s, .int .i64 c] w fun e w' => e = .panicked [{ v := repeatPanic Tryz.lays105_ren "strings: negative Repeat count", recovered := false }] ∧ w' = w := Any.strings_Repeat_negative Tryz.lays105 s c w hc
open Go.RowKit Go.Lib in
theorem Tryz.strings_Repeat_overflow (s : ByteArray) (c : Nat) (w : World) (hc : c ≤ 9223372036854775807) (hs : s.size ≤ 9223372036854775807) (hbig : 9223372036854775807 < s.size * c) :
    Calls Tryz.prog 9 #[.string s, .int .i64 c] w fun e w' => e = .panicked [{ v := repeatPanic Tryz.lays105_ren "strings: Repeat output length overflow", recovered := false }] ∧ w' = w := Any.strings_Repeat_overflow Tryz.lays105 s c w hc hs hbig
open Go.RowKit Go.Lib in
theorem Tryz.strings_Repeat (s : ByteArray) (c : Nat) (w : World) (hc : c ≤ 9223372036854775807) (hlen : s.size * c ≤ 140737488355328) :
    Calls Tryz.prog 9 #[.string s, .int .i64 c] w fun e w' => e = .returned (.string ⟨(Lib.repeatL s.data.toList c).toArray⟩) ∧ Below w.heap.size w w' := Any.strings_Repeat Tryz.lays105 Tryz.Builder_Extra_105 s c w hc hlen
end Go.Proofs
/- The law of the bytes: what it wants. -/
namespace Go.Proofs.YtoekggbbkcmknaaGreatDoor
open Go.RowKit
theorem refBytes_all (c : Cm) (hok : c.ok) (hlt : Lt4 c) (w : World) :
    Calls Tryz.prog 11 #[c.agg] w fun e w' => e = .returned (.tuple #[.string (bytesC c).1, .int .i64 (bytesC c).2]) ∧ Below w.heap.size w w' := by
  by_cases hk : 1 ≤ c.kind ∧ c.kind ≤ 13
  · by_cases hA : c.kind ≤ 4
    · exact refBytes_A c hok hlt (by omega) w
    · by_cases hB : c.kind ≤ 6
      · exact refBytes_B c hok hlt (by omega) w
      · by_cases hD : c.kind ≤ 8
        · exact refBytes_D c hok hlt (by omega) w
        · by_cases hC : c.kind ≤ 11
          · exact refBytes_C c hok hlt (by omega) w
          · exact refBytes_E c hok hlt (by omega) w
  · have hw : wrongC c = 11 := by
      unfold wrongC
      rw [if_pos ?_]
      cases h : known c.kind with
      | false => rfl
      | true => exact absurd (known_iff.1 h) hk
    have h := refBytes_none c hk w
    unfold bytesC
    rw [if_neg (by rw [hw]; decide), hw]
    exact h
theorem bytes_wrong (c : Cm) : (bytesC c).2 = wrongC c := by
  unfold bytesC
  split
  · rename_i h; exact h.symm
  · rfl
theorem bytes_le (c : Cm) : (bytesC c).1.size ≤ 163861 := by
  unfold bytesC
  split
  · rename_i h; exact encC_le c h
  · exact Nat.zero_le _
def byL (c : Cm) : List UInt8 := (bytesC c).1.data.toList
theorem byL_len (c : Cm) : (byL c).length ≤ 163861 := bytes_le c
theorem byLs_le : ∀ (l : List Cm), (l.flatMap byL).length ≤ 163861 * l.length
  | [] => Nat.zero_le _
  | c :: l => by
    rw [List.flatMap_cons, List.length_append, List.length_cons]
    have h1 := byL_len c
    have h2 := byLs_le l
    omega
theorem byL_ok {c : Cm} (h : wrongC c = 0) : byL c = encC c := by unfold byL bytesC; rw [if_pos h]; rfl
theorem byLs_ok : ∀ (l : List Cm), firstW l = 0 → l.flatMap byL = l.flatMap encC
  | [], _ => rfl
  | c :: l, h => by
    have hc := firstW_zero (c :: l) h
    rw [List.flatMap_cons, List.flatMap_cons, byL_ok (hc c (by simp)), byLs_ok l (firstW_all l (fun d hd => hc d (by simp [hd])))]
theorem firstW_snoc : ∀ (l : List Cm) (c : Cm), firstW (l ++ [c]) = if firstW l = 0 then wrongC c else firstW l
  | [], c => by
    show (if wrongC c = 0 then 0 else wrongC c) = wrongC c
    split
    · rename_i h; exact h.symm
    · rfl
  | d :: l, c => by
    show (if wrongC d = 0 then firstW (l ++ [c]) else wrongC d) = if (if wrongC d = 0 then firstW l else wrongC d) = 0 then wrongC c else (if wrongC d = 0 then firstW l else wrongC d)
    by_cases h : wrongC d = 0
    · rw [if_pos h, if_pos h, firstW_snoc l c]
    · rw [if_neg h, if_neg h, if_neg h]
theorem repeat_at (x : Int) (N : Nat) (hx : x = N) (hN : N ≤ 100000) (W : World) :
    Calls Tryz.prog 9 #[.string ⟨#[97]⟩, .int .i64 x] W fun e w' => e = .returned (.string (str (Lib.repeatL [97] N))) ∧ Below W.heap.size W w' := by
  subst hx
  exact Tryz.strings_Repeat ⟨#[97]⟩ N W (by omega) (by rw [show (ByteArray.mk #[97]).size = 1 from rfl]; omega)
theorem repeat_size (N : Nat) : (str (Lib.repeatL [97] N)).size = N := by
  rw [str_size]
  have := Lib.repeatL_length [97] N
  simpa using this
/-- The command whose body is as long as may be. -/
def modC (more : Nat) (c : Cm) : Cm := { c with body := str (Lib.repeatL [97] (32766 + more % 4)) }
def modL (more : Nat) : List Cm → List Cm
  | [] => []
  | c :: l => if 0 < more then modC more c :: l else c :: l
theorem modL_cons (more : Nat) (c : Cm) (l : List Cm) : modL more (c :: l) = if 0 < more then modC more c :: l else c :: l := rfl
theorem modL_len (more : Nat) (l : List Cm) : (modL more l).length = l.length := by
  cases l with
  | nil => rfl
  | cons c l => rw [modL_cons]; split <;> rfl
theorem modL_zero (l : List Cm) : modL 0 l = l := by
  cases l with
  | nil => rfl
  | cons c l => rfl
theorem modL_at (more k : Nat) (l : List Cm) (x : Cm) (h : l[k]? = some x) : (modL more l)[k]? = some (if k = 0 ∧ 0 < more then modC more x else x) := by
  cases l with
  | nil => simp at h
  | cons c l =>
    cases k with
    | zero =>
      simp at h
      subst h
      rw [modL_cons]
      by_cases hm : 0 < more
      · rw [if_pos hm, if_pos ⟨rfl, hm⟩]; rfl
      · rw [if_neg hm, if_neg (fun h => hm h.2)]; rfl
    | succ k =>
      rw [if_neg (by omega)]
      rw [modL_cons]
      split
      · simpa using h
      · simpa using h
theorem modC_ok {more : Nat} {c : Cm} (h : c.ok) : (modC more c).ok := ⟨h.kind0, h.kind1, h.most, h.ttl, h.tries, h.bk0, h.bk1, h.id, h.token, h.n, h.time⟩
theorem modL_ok {more : Nat} {l : List Cm} (h : ∀ c ∈ l, c.ok) : ∀ c ∈ modL more l, c.ok := by
  intro c hc
  cases l with
  | nil => cases hc
  | cons d l =>
    rw [modL_cons] at hc
    split at hc
    · rcases List.mem_cons.1 hc with rfl | hc
      · exact modC_ok (h d (by simp))
      · exact h c (by simp [hc])
    · exact h c hc
theorem lt4_of {c : Cm} (h : longest c ≤ 2000) : Lt4 c := by
  unfold longest at h
  constructor <;> omega
theorem lt4_mod {more : Nat} {c : Cm} (h : longest c ≤ 2000) : Lt4 (modC more c) := by
  have h1 := lt4_of h
  exact ⟨h1.qn, h1.qd, h1.bx, h1.bp, h1.bq, h1.ex, h1.key, by show (str (Lib.repeatL [97] (32766 + more % 4))).size ≤ 40000; rw [repeat_size]; omega⟩
theorem row_one (W : World) (y : Cm) : RowG Cm.vals 18 32 (W.alloc (objC y)) W.heap.size (.slice (some ⟨W.heap.size, 0, none⟩) 1 1) [y] := by
  refine ⟨rfl, .inr ⟨W.heap.size, 1, y.vals.toArray, rfl, Nat.le_refl _, World.alloc_heap_new W _, Nat.le_refl _, by unfold maxLen; omega, rfl, ?_⟩⟩
  simp [Cm.vals]
end Go.Proofs.YtoekggbbkcmknaaGreatDoor
/- A row of commands from its second on, behind another first one. -/
namespace Go.Proofs.YtoekggbbkcmknaaGreatDoor
open Go.RowKit
/-- append in a region that draws: by its run. -/
theorem step_append_run {P : Program} {ops : Array Oper} {o : Oper} {a : Act} {w : World} {K : Act → World → Prop} {Q : Exit → Act → World → Prop} {E : Prop}
    (hg : o.guard = none) (s x : Operand) (t : TypeId) (hop : o.op = Op.call { callee := Callee.builtin Builtin.append, args := #[s, x], argTypes := #[t, t] })
    (vs vx : Value) (hs : a.eval s = vs) (hx : a.eval x = vx) (v' : Value) (w' : World) (hr : (Builtin.append_ #[t, t] o.type #[vs, vx]).run P w = .ok v' w') (hK : K (a.put o.dst v') w') :
    if Region.wanted o (yielded ops a.tmps) = true then Oper.wp P o a w K Q else E := by
  rw [if_pos (by simp [Region.wanted, hg])]
  exact Lib.wp_append_run w s x t t hop vs vx hs hx v' w' hr hK
theorem slice_tail (b o n c : Nat) (h1 : 1 ≤ n) (h2 : n ≤ c) (W : World) :
    (Instr.slice 22 (.slice (some ⟨b, o, none⟩) n c) (some (.int .i64 1)) none none).run Tryz.prog W = .ok (.slice (some ⟨b, if c = 1 then o else o + 18, none⟩) (n - 1) (c - 1)) W := by
  have hi1 : (1 : Int) ≤ (n : Int) := by omega
  by_cases hc : c = 1
  · subst hc
    rw [if_pos rfl]
    simp [go_sem, hi1]
  · rw [if_neg hc]
    simp [go_sem, hi1]
    exact hc
/-- The row whose first thing is another. -/
theorem put_first (W : World) (y : Cm) (l : List Cm) (b o c : Nat) (h1 : 1 ≤ l.length) (h2 : l.length ≤ c) (h3 : c ≤ maxLen) (hl : l.length ≤ 70) (hx : CellsAt Cm.vals 18 W b o l) (V : World) (hV : V = (W.alloc (objC y)).drew ∨ V = (W.drew).alloc (objC y)) :
    ∃ v' W5, (Builtin.append_ #[22, 22] 22 #[.slice (some ⟨W.heap.size, 0, none⟩) 1 1, .slice (some ⟨b, if c = 1 then o else o + 18, none⟩) (l.length - 1) (c - 1)]).run Tryz.prog V = .ok v' W5 ∧ SlW W5 v' (y :: l.drop 1) ∧ Below W.heap.size W W5 := by
  have hVB : Below W.heap.size W V := by
    rcases hV with rfl | rfl
    · exact (below_alloc' W (objC y)).trans ⟨rfl, rfl, rfl, Nat.le_refl _, fun _ _ => rfl⟩
    · exact ((Below.refl W.heap.size W).drew).alloc (Nat.le_refl _) _
  have hVs : V.heap.size = W.heap.size + 1 := by rcases hV with rfl | rfl <;> simp
  have hrow : RowG Cm.vals 18 32 V W.heap.size (.slice (some ⟨W.heap.size, 0, none⟩) 1 1) [y] := by
    rcases hV with rfl | rfl
    · exact (row_one W y).keep (fun g _ => rfl)
    · exact row_one W.drew y
  have hsl : SlG Cm.vals 18 V (.slice (some ⟨b, if c = 1 then o else o + 18, none⟩) (l.length - 1) (c - 1)) (l.drop 1) := by
    have hx2 := hx.below rfl hVB
    have hg : SlG Cm.vals 18 V (.slice (some ⟨b, o, none⟩) l.length c) l := ⟨_, b, o, c, rfl, h2, h3, (fun h => by cases h), .inr rfl, hx2⟩
    obtain ⟨t1, t2⟩ := hg.tail 1 h1
    by_cases hc : c = 1
    · rw [if_pos hc]; exact t2 hc
    · rw [if_neg hc]; exact t1
  obtain ⟨v', W5, hr, hR, hgr, hB, _⟩ := appS encV appC (by decide) _ (l.drop 1) 22 (by rw [hVs]; omega) hrow hsl (by simp) (by simp; omega)
  exact ⟨v', W5, hr, (RowG.sl encV hR).w, hVB.trans hB⟩
end Go.Proofs.YtoekggbbkcmknaaGreatDoor
/- The chapter's example. -/
namespace Go.Proofs.YtoekggbbkcmknaaGreatDoor
open Go.RowKit
def exC : Cm := ⟨11, ⟨#[]⟩, 0, 0, 0, ⟨#[]⟩, ⟨#[]⟩, 0, ⟨#[]⟩, ⟨#[]⟩, ⟨#[]⟩, ⟨#[]⟩, ⟨#[]⟩, 0, 0, 0, 1, false⟩
theorem ex_ok : exC.ok := ⟨by decide, by decide, by decide, by decide, by decide, by decide, by decide, by decide, by decide, by decide, by decide⟩
theorem ex_bytes : bytesC exC = (⟨#[11, 0, 0, 0, 0, 0, 0, 0, 1]⟩, 0) := by decide +kernel
theorem ex_read : readG ⟨#[11, 0, 0, 0, 0, 0, 0, 0, 1]⟩ = (exC, 0) := by decide +kernel
theorem run_buildEx (w : World) : (buildC #[(0, .int .i64 11), (9, .int .u64 1)]).run Tryz.prog w = .ok exC.agg w := by
  unfold buildC
  simp [go_sem]
  rfl
attribute [local go_sem ↓] zeroC_eq newC_eq loadC_eq storeC_eq buildC_eq zeroR_eq newR_eq loadR_eq storeR_eq buildR_eq
attribute [local go_sem] run_zeroC run_newC run_buildC0 run_buildC1 run_neqC run_eqlC run_guardC run_zeroR run_newR run_buildR0 run_buildR1 run_neqR run_eqlR run_guardR
attribute [local go_sem ↓] bslC_eq bslR_eq
attribute [local go_sem] run_bslC run_bslR
attribute [local go_sem] run_buildEx
set_option maxHeartbeats 400000 in
theorem awake_any (w : World) (hF : Forms w) : Calls Tryz.prog 6 #[] w fun e w' => e = .returned (.bool true) ∧ Below w.heap.size w w' := by
  have HF := Lib.hid hF
  have HB := Lib.hid (fun W (hV : Forms W) => bytes_any exC ex_ok W hV)
  rw [ex_bytes] at HB
  have HP := Lib.hid (fun W (hV : Forms W) => parse_any ⟨#[11, 0, 0, 0, 0, 0, 0, 0, 1]⟩ W hV)
  rw [ex_read] at HP
  clear hF
  go_enter Tryz.func6, Tryz.ntmps6
  go_wp2_with (first
    | (go_at_call 10; refine (HB.out _ HF.out).mono ?_; rintro e w1 ⟨rfl, hb1⟩)
    | (go_at_call 13; refine (HP.out _ (HF.out.below hb1 HF.out.lt)).mono ?_; rintro e w2 ⟨rfl, hb2⟩; have hn := BxC.newC w2 (Cm.zero 0); have hst := run_storeC hn exC; obtain ⟨hn2, hu2⟩ := hn.stored exC; have k0 := hn2.cell 0 (.int .i64 11) rfl; have k16 := hn2.cell 16 (.int .u64 1) rfl))
  go_ret
  exact ⟨rfl, ((below_step hb1 hb2).alloc (below_step hb1 hb2).size _).trans (hu2.below (below_step hb1 hb2).size)⟩
end Go.Proofs.YtoekggbbkcmknaaGreatDoor
