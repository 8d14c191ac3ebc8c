/- Texts of one seat, merged. -/
import Derived.Test.YtoekggbbkcmknaaGreatDoorY02
set_option maxRecDepth 100000
set_option maxHeartbeats 4000000
set_option linter.unusedVariables false
/- What is called for a part: its bytes, its reading. -/
namespace Go.Proofs.YtoekggbbkcmknaaGreatDoor
open Go.RowKit
/-- What a reading leaves in a part. -/
def rd (s : Sg) (bs : ByteArray) (e : Int) : Cm := (s.read (Cm.zero 0, bs, e)).1
theorem read_eq (s : Sg) (c : Cm) (bs : ByteArray) (e : Int) : s.read (c, bs, e) = (s.hand c (rd s bs e), (s.read (Cm.zero 0, bs, e)).2.1, (s.read (Cm.zero 0, bs, e)).2.2) := by cases s <;> rfl
theorem putKind_any (c : Cm) (w : World) :
    Calls Tryz.prog 77 #[.int .i64 c.bk] w fun e w' => e = .returned (.string (str (Sg.K.enc c))) ∧ Below w.heap.size w w' := by
  have hk : (0 : Int) ≤ IntKind.u8.wrap c.bk ∧ IntKind.u8.wrap c.bk < 256 := by rw [IntKind.wrap_u8]; omega
  have H := Lib.hid (fun W => one_at (IntKind.u8.wrap c.bk) (IntKind.u8.wrap c.bk).toNat (by omega) (by omega) W)
  show Calls _ _ _ _ fun e w' => e = .returned (.string (str (Oc.big 1 (IntKind.u8.wrap c.bk).toNat))) ∧ _
  revert H
  generalize (IntKind.u8.wrap c.bk).toNat = kn
  intro H
  clear hk
  go_enter Tryz.func77, Tryz.ntmps77
  go_wp2_with (go_at_call 99; refine (H.out _).mono ?_; rintro e w1 ⟨rfl, hb⟩)
  go_ret
  exact ⟨rfl, hb⟩
theorem putBool_any (c : Cm) (w : World) :
    Calls Tryz.prog 90 #[.bool c.dead] w fun e w' => e = .returned (.string (str (Sg.x.enc c))) ∧ Below w.heap.size w w' := by
  have H1 := Lib.hid (fun W => one_at 1 1 rfl (by decide) W)
  have H0 := Lib.hid (fun W => one_at 0 0 rfl (by decide) W)
  show Calls _ _ _ _ fun e w' => e = .returned (.string (str (Oc.big 1 (if c.dead then 1 else 0)))) ∧ _
  generalize c.dead = d
  cases d
  · go_enter Tryz.func90, Tryz.ntmps90
    go_wp2_with (go_at_call 99; refine (H0.out _).mono ?_; rintro e w1 ⟨rfl, hb⟩)
    go_ret
    exact ⟨rfl, hb⟩
  · go_enter Tryz.func90, Tryz.ntmps90
    go_wp2_with (go_at_call 99; refine (H1.out _).mono ?_; rintro e w1 ⟨rfl, hb⟩)
    go_ret
    exact ⟨rfl, hb⟩
theorem getKind_any (b : Nat) (bs : ByteArray) (e : Int) (w : World) (h : Rd w b bs e) :
    Calls Tryz.prog 78 #[.pointer (some ⟨b, 0, none⟩)] w fun v w' => v = .returned (.int .i64 (Oc.val (tk bs e 1).1.data.toList : Nat)) ∧ Rd w' b (tk bs e 1).2.1 (tk bs e 1).2.2 ∧ Upd b w w' := by
  have hv := Nat.lt_of_lt_of_le (Oc.val_lt (tk bs e 1).1.data.toList) (Nat.pow_le_pow_right (by omega) (tk_size bs e 1))
  have H := Lib.hid (one_rd b bs e w h)
  revert hv H
  generalize tk bs e 1 = T
  generalize Oc.val T.1.data.toList = v
  intro hv H
  go_enter Tryz.func78, Tryz.ntmps78
  go_wp2_with (go_at_call 43; refine H.out.mono ?_; rintro e w1 ⟨rfl, hr, hu⟩)
  go_ret
  exact ⟨rfl, hr, hu⟩
theorem getBool_any (b : Nat) (bs : ByteArray) (e : Int) (w : World) (h : Rd w b bs e) :
    Calls Tryz.prog 91 #[.pointer (some ⟨b, 0, none⟩)] w fun v w' => v = .returned (.bool (decide (Oc.val (tk bs e 1).1.data.toList = 1))) ∧ Rd w' b (tk bs e 1).2.1 (if 1 < Oc.val (tk bs e 1).1.data.toList then (if (tk bs e 1).2.2 = 0 then 4 else (tk bs e 1).2.2) else (tk bs e 1).2.2) ∧ Upd b w w' := by
  have hv := Nat.lt_of_lt_of_le (Oc.val_lt (tk bs e 1).1.data.toList) (Nat.pow_le_pow_right (by omega) (tk_size bs e 1))
  have H := Lib.hid (one_rd b bs e w h)
  have HF := Lib.hid (fun W (hW : Rd W b (tk bs e 1).2.1 (tk bs e 1).2.2) => fail_any b _ _ 4 W hW)
  revert hv H HF
  generalize tk bs e 1 = T
  generalize Oc.val T.1.data.toList = v
  intro hv H HF
  generalize hx : (if T.2.2 = 0 then (4 : Int) else T.2.2) = x at HF ⊢
  clear hx
  by_cases h1 : 1 < v
  · have h1' : ¬ v = 1 := by omega
    rw [if_pos h1, decide_eq_false h1']
    have hi : ((v : Int) == 1) = false := by rw [beq_eq_false_iff_ne]; omega
    have hg : (1 : Int) < v := by omega
    clear h1 h1'
    go_enter Tryz.func91, Tryz.ntmps91
    go_wp2_with (first
      | (go_at_call 43; refine H.out.mono ?_; rintro e w1 ⟨rfl, hr, hu⟩)
      | (go_at_call 45; refine (HF.out _ hr).mono ?_; rintro e w2 ⟨rfl, hr2, hu2⟩))
    go_ret
    exact ⟨rfl, hr2, hu.trans hu2⟩
  · rw [if_neg h1]
    have hg : ¬ (1 : Int) < v := by omega
    have hd : ((v : Int) == 1) = decide (v = 1) := by
      by_cases h2 : v = 1
      · subst h2; rfl
      · rw [decide_eq_false h2, beq_eq_false_iff_ne]; omega
    clear h1
    rw [← hd]
    clear hd
    go_enter Tryz.func91, Tryz.ntmps91
    go_wp2_with (go_at_call 43; refine H.out.mono ?_; rintro e w1 ⟨rfl, hr, hu⟩)
    go_ret
    exact ⟨rfl, hr, hu⟩
theorem text1_any (b m : Nat) (bs : ByteArray) (e most : Int) (hm : most < 9223372036854775808) (w : World) (hc : w.cell? ⟨m, 0, none⟩ = some (.int .i64 most)) (h : Rd w b bs e) :
    Calls Tryz.prog 106 #[.pointer (some ⟨b, 0, none⟩), .pointer (some ⟨m, 0, none⟩)] w fun v w' => v = .returned (.string (txt bs e most).1) ∧ Rd w' b (txt bs e most).2.1 (txt bs e most).2.2 ∧ Upd b w w' := by
  have H := Lib.hid (text_rd b bs e most hm w h)
  clear h
  revert H
  generalize txt bs e most = T
  intro H
  go_enter Tryz.func106, Tryz.ntmps106
  go_wp2_with (go_at_call 107; refine H.out.mono ?_; rintro e w1 ⟨rfl, hr, hu⟩)
  go_ret
  exact ⟨rfl, hr, hu⟩
/-- A text's part tells whether it is too long. -/
theorem text2_any (f : FuncId) (s : Sg) (hf : AtF f s) (a m g : Nat) (most : Int) (c : Cm) (t : ByteArray) (w : World) (ha : w.cell? ⟨a, 0, none⟩ = some (.func (.func f) #[] #[])) (hm : w.cell? ⟨m, 0, none⟩ = some (.int .i64 most))
    (h : w.cell? ⟨g, s.off, none⟩ = some (.string t)) :
    Calls Tryz.prog 108 #[.pointer (some ⟨g, 0, none⟩), .pointer (some ⟨a, 0, none⟩), .pointer (some ⟨m, 0, none⟩)] w fun e w' => e = .returned (.bool (decide (most < (t.size : Int)))) ∧ Below w.heap.size w w' := by
  obtain ⟨hen, hcl⟩ := hf
  unfold Ent at hen
  go_enter Tryz.func108, Tryz.ntmps108
  go_wp2
  go_region_with ((with_reducible refine (hcl _ _).mono ?_); rintro e w1 ⟨rfl, rfl⟩)
  all_goals
    go_wp2
    go_ret
    exact ⟨ret_bool (by first | rfl | simp), (Below.refl _ _).drew⟩
end Go.Proofs.YtoekggbbkcmknaaGreatDoor
/- What a part is, and that field gives it. -/
namespace Go.Proofs.YtoekggbbkcmknaaGreatDoor
open Go.RowKit
attribute [local go_sem] store_fn store_nil
/-- From block B on all that was there is as it was. -/
def Stay (B : Nat) (w W : World) : Prop := ∀ k, B ≤ k → k < w.heap.size → W.heap[k]? = w.heap[k]?
theorem Stay.refl (B : Nat) (w : World) : Stay B w w := fun _ _ _ => rfl
theorem Stay.heap {B : Nat} {w W : World} (hh : W.heap = w.heap) : Stay B w W := fun _ _ _ => by rw [hh]
theorem Stay.low {B B' : Nat} {w W : World} (h : Stay B' w W) (hb : B' ≤ B) : Stay B w W := fun k hk hl => h k (Nat.le_trans hb hk) hl
theorem Stay.then {B : Nat} {w W V : World} (h : Stay B w W) (hh : V.heap = W.heap) : Stay B w V := fun k hk hl => by rw [hh]; exact h k hk hl
theorem Stay.trans {B : Nat} {w W V : World} (h : Stay B w W) (hs : w.heap.size ≤ W.heap.size) (k : Stay B W V) : Stay B w V := fun i hi hl => (k i hi (Nat.lt_of_lt_of_le hl hs)).trans (h i hi hl)
def HandF (s : Sg) (B : Nat) (w : World) (f : FuncId) (cs : Array Value) : Prop := ∀ (W : World) (g1 g2 : Nat) (c1 c2 : Cm), Stay B w W → BxC W g1 c1 → BxC W g2 c2 →
  Calls Tryz.prog f (#[.pointer (some ⟨g1, 0, none⟩), .pointer (some ⟨g2, 0, none⟩)] ++ cs) W fun e w' => e = .returned (.tuple #[]) ∧ BxC w' g1 (s.hand c1 c2) ∧ Upd g1 W w'
def LongF (s : Sg) (B : Nat) (w : World) (f : FuncId) (cs : Array Value) : Prop := ∀ (W : World) (g : Nat) (c : Cm), Stay B w W → BxC W g c →
  Calls Tryz.prog f (#[.pointer (some ⟨g, 0, none⟩)] ++ cs) W fun e w' => e = .returned (.bool (s.long c)) ∧ Below W.heap.size W w'
def PutF (s : Sg) (B : Nat) (w : World) (f : FuncId) (cs : Array Value) : Prop := ∀ (W : World) (g : Nat) (c : Cm), Stay B w W → BxC W g c → c.ok → s.long c = false →
  Calls Tryz.prog f (#[.pointer (some ⟨g, 0, none⟩)] ++ cs) W fun e w' => e = .returned (.string (str (s.enc c))) ∧ Below W.heap.size W w'
def GetF (s : Sg) (B : Nat) (w : World) (f : FuncId) (cs : Array Value) : Prop := ∀ (W : World) (g b : Nat) (c : Cm) (bs : ByteArray) (e : Int), Stay B w W → BxC W g c → Rd W b bs e → g ≠ b →
  Calls Tryz.prog f (#[.pointer (some ⟨g, 0, none⟩), .pointer (some ⟨b, 0, none⟩)] ++ cs) W fun x w' => x = .returned (.tuple #[]) ∧ BxC w' g (s.read (c, bs, e)).1 ∧ Rd w' b (s.read (c, bs, e)).2.1 (s.read (c, bs, e)).2.2 ∧ OffL [g, b] W w'
/-- A part's value, in a world. -/
def PartV (P : Value) (s : Sg) (B : Nat) (w : World) : Prop := ∃ (fh fl fp fg : FuncId) (ch cl cp cg : Array Value), P = .agg #[.func (.func fh) #[] ch, .func (.func fl) #[] cl, .func (.func fp) #[] cp, .func (.func fg) #[] cg] ∧
  (Ent fh ∧ Ent fl ∧ Ent fp ∧ Ent fg) ∧ HandF s B w fh ch ∧ LongF s B w fl cl ∧ PutF s B w fp cp ∧ GetF s B w fg cg
theorem PartV.move {P : Value} {s : Sg} {B B' : Nat} {w w' : World} (h : PartV P s B w) (hB : B' ≤ B) (hs : w.heap.size ≤ w'.heap.size) (hw : Stay B w w') : PartV P s B' w' := by
  obtain ⟨fh, fl, fp, fg, ch, cl, cp, cg, rfl, he, h1, h2, h3, h4⟩ := h
  have st : ∀ {W}, Stay B' w' W → Stay B w W := fun h => hw.trans hs (h.low hB)
  exact ⟨fh, fl, fp, fg, ch, cl, cp, cg, rfl, he, fun W g1 g2 c1 c2 hh => h1 W g1 g2 c1 c2 (st hh), fun W g c hh => h2 W g c (st hh), fun W g c hh => h3 W g c (st hh), fun W g b c bs e hh => h4 W g b c bs e (st hh)⟩
theorem cellS {B : Nat} {w W : World} {p : Addr} {v : Value} (hh : Stay B w W) (hB : B ≤ p.block) (h : w.cell? p = some v) : W.cell? p = some v := by rw [World.cell?_of_block (w := w) (hh p.block hB (World.block_lt_of_cell? _ _ h))]; exact h
theorem cellH {w W : World} {p : Addr} {v : Value} (hh : W.heap = w.heap) (h : w.cell? p = some v) : W.cell? p = some v := by rw [World.cell?_of_block (w := w) (by rw [hh])]; exact h
theorem Rd.heap {w W : World} {b : Nat} {bs : ByteArray} {e : Int} (h : Rd w b bs e) (hh : W.heap = w.heap) : Rd W b bs e :=
  ⟨cellH hh h.c0, cellH hh h.c1, by rw [World.frozen?_of_block (w := w) (by rw [hh])]; exact h.f0, by rw [World.frozen?_of_block (w := w) (by rw [hh])]; exact h.f1⟩
theorem entS1 : Ent 124 := ent Tryz.func124 (by kernel_rfl) (by kernel_rfl)
theorem entS2 : Ent 125 := ent Tryz.func125 (by kernel_rfl) (by kernel_rfl)
theorem entS3 : Ent 126 := ent Tryz.func126 (by kernel_rfl) (by kernel_rfl)
theorem entS4 : Ent 127 := ent Tryz.func127 (by kernel_rfl) (by kernel_rfl)
theorem noS (g : Nat) (w : World) : Calls Tryz.prog 125 #[.pointer (some ⟨g, 0, none⟩)] w fun e w' => e = .returned (.bool false) ∧ Below w.heap.size w w' := by
  go_enter Tryz.func125, Tryz.ntmps125
  go_wp2
  go_ret
  exact ⟨rfl, Below.refl _ _⟩
/-- What a part of this type is, but for its length. -/
theorem partS {f fp fg : FuncId} {cg : Array Value} {s : Sg} {a p q B : Nat} {w : World} (hf : AtF f s) (hp : Ent fp) (hg : Ent fg) (hs : ∀ c, ∃ t : ByteArray, s.val c = .string t)
    (hput : ∀ (W : World) (c : Cm), c.ok → s.long c = false → Calls Tryz.prog fp #[s.val c] W fun e w' => e = .returned (.string (str (s.enc c))) ∧ Below W.heap.size W w')
    (hget : ∀ (W : World) (b : Nat) (bs : ByteArray) (e : Int), Stay B w W → Rd W b bs e → Calls Tryz.prog fg (#[.pointer (some ⟨b, 0, none⟩)] ++ cg) W fun x w' => x = .returned (s.val (rd s bs e)) ∧ Rd w' b (s.read (Cm.zero 0, bs, e)).2.1 (s.read (Cm.zero 0, bs, e)).2.2 ∧ Upd b W w')
    (hBa : B ≤ a) (hBp : B ≤ p) (hBq : B ≤ q) (ha : w.cell? ⟨a, 0, none⟩ = some (.func (.func f) #[] #[])) (hpc : w.cell? ⟨p, 0, none⟩ = some (.func (.func fp) #[] #[])) (hq : w.cell? ⟨q, 0, none⟩ = some (.func (.func fg) #[] cg)) :
    HandF s B w 124 #[.pointer (some ⟨a, 0, none⟩)] ∧ PutF s B w 126 #[.pointer (some ⟨p, 0, none⟩), .pointer (some ⟨a, 0, none⟩)] ∧ GetF s B w 127 #[.pointer (some ⟨q, 0, none⟩), .pointer (some ⟨a, 0, none⟩)] := by
  refine ⟨fun W g1 g2 c1 c2 hh h1 h2 => ?_, fun W g c hh h hok hl => ?_, fun W g b c bs e hh h hr hne => ?_⟩
  · exact handS f s hf a g1 g2 c1 c2 W (cellS hh hBa ha) h1 h2 (hs c2)
  · exact putS f s hf a p fp g c W (cellS hh hBa ha) (cellS hh hBp hpc) h (hs c) hp (fun W' => hput W' c hok hl)
  · rw [read_eq]
    exact getS f s hf a q fg cg g b c (rd s bs e) _ _ W (cellS hh hBa ha) (cellS hh hBq hq) h hne (hs _) hg (fun W' hW => hget W' b bs e (hh.then hW) (hr.heap hW))
theorem entI1 : Ent 113 := ent Tryz.func113 (by kernel_rfl) (by kernel_rfl)
theorem entI2 : Ent 114 := ent Tryz.func114 (by kernel_rfl) (by kernel_rfl)
theorem entI3 : Ent 115 := ent Tryz.func115 (by kernel_rfl) (by kernel_rfl)
theorem entI4 : Ent 116 := ent Tryz.func116 (by kernel_rfl) (by kernel_rfl)
theorem noI (g : Nat) (w : World) : Calls Tryz.prog 114 #[.pointer (some ⟨g, 0, none⟩)] w fun e w' => e = .returned (.bool false) ∧ Below w.heap.size w w' := by
  go_enter Tryz.func114, Tryz.ntmps114
  go_wp2
  go_ret
  exact ⟨rfl, Below.refl _ _⟩
/-- What a part of this type is, but for its length. -/
theorem partI {f fp fg : FuncId} {cg : Array Value} {s : Sg} {a p q B : Nat} {w : World} (hf : AtF f s) (hp : Ent fp) (hg : Ent fg) (hs : ∀ c, ∃ t : Int, s.val c = .int .i64 t)
    (hput : ∀ (W : World) (c : Cm), c.ok → s.long c = false → Calls Tryz.prog fp #[s.val c] W fun e w' => e = .returned (.string (str (s.enc c))) ∧ Below W.heap.size W w')
    (hget : ∀ (W : World) (b : Nat) (bs : ByteArray) (e : Int), Stay B w W → Rd W b bs e → Calls Tryz.prog fg (#[.pointer (some ⟨b, 0, none⟩)] ++ cg) W fun x w' => x = .returned (s.val (rd s bs e)) ∧ Rd w' b (s.read (Cm.zero 0, bs, e)).2.1 (s.read (Cm.zero 0, bs, e)).2.2 ∧ Upd b W w')
    (hBa : B ≤ a) (hBp : B ≤ p) (hBq : B ≤ q) (ha : w.cell? ⟨a, 0, none⟩ = some (.func (.func f) #[] #[])) (hpc : w.cell? ⟨p, 0, none⟩ = some (.func (.func fp) #[] #[])) (hq : w.cell? ⟨q, 0, none⟩ = some (.func (.func fg) #[] cg)) :
    HandF s B w 113 #[.pointer (some ⟨a, 0, none⟩)] ∧ PutF s B w 115 #[.pointer (some ⟨p, 0, none⟩), .pointer (some ⟨a, 0, none⟩)] ∧ GetF s B w 116 #[.pointer (some ⟨q, 0, none⟩), .pointer (some ⟨a, 0, none⟩)] := by
  refine ⟨fun W g1 g2 c1 c2 hh h1 h2 => ?_, fun W g c hh h hok hl => ?_, fun W g b c bs e hh h hr hne => ?_⟩
  · exact handI f s hf a g1 g2 c1 c2 W (cellS hh hBa ha) h1 h2 (hs c2)
  · exact putI f s hf a p fp g c W (cellS hh hBa ha) (cellS hh hBp hpc) h (hs c) hp (fun W' => hput W' c hok hl)
  · rw [read_eq]
    exact getI f s hf a q fg cg g b c (rd s bs e) _ _ W (cellS hh hBa ha) (cellS hh hBq hq) h hne (hs _) hg (fun W' hW => hget W' b bs e (hh.then hW) (hr.heap hW))
theorem entB1 : Ent 117 := ent Tryz.func117 (by kernel_rfl) (by kernel_rfl)
theorem entB2 : Ent 118 := ent Tryz.func118 (by kernel_rfl) (by kernel_rfl)
theorem entB3 : Ent 119 := ent Tryz.func119 (by kernel_rfl) (by kernel_rfl)
theorem entB4 : Ent 120 := ent Tryz.func120 (by kernel_rfl) (by kernel_rfl)
theorem noB (g : Nat) (w : World) : Calls Tryz.prog 118 #[.pointer (some ⟨g, 0, none⟩)] w fun e w' => e = .returned (.bool false) ∧ Below w.heap.size w w' := by
  go_enter Tryz.func118, Tryz.ntmps118
  go_wp2
  go_ret
  exact ⟨rfl, Below.refl _ _⟩
/-- What a part of this type is, but for its length. -/
theorem partB {f fp fg : FuncId} {cg : Array Value} {s : Sg} {a p q B : Nat} {w : World} (hf : AtF f s) (hp : Ent fp) (hg : Ent fg) (hs : ∀ c, ∃ t : Bool, s.val c = .bool t)
    (hput : ∀ (W : World) (c : Cm), c.ok → s.long c = false → Calls Tryz.prog fp #[s.val c] W fun e w' => e = .returned (.string (str (s.enc c))) ∧ Below W.heap.size W w')
    (hget : ∀ (W : World) (b : Nat) (bs : ByteArray) (e : Int), Stay B w W → Rd W b bs e → Calls Tryz.prog fg (#[.pointer (some ⟨b, 0, none⟩)] ++ cg) W fun x w' => x = .returned (s.val (rd s bs e)) ∧ Rd w' b (s.read (Cm.zero 0, bs, e)).2.1 (s.read (Cm.zero 0, bs, e)).2.2 ∧ Upd b W w')
    (hBa : B ≤ a) (hBp : B ≤ p) (hBq : B ≤ q) (ha : w.cell? ⟨a, 0, none⟩ = some (.func (.func f) #[] #[])) (hpc : w.cell? ⟨p, 0, none⟩ = some (.func (.func fp) #[] #[])) (hq : w.cell? ⟨q, 0, none⟩ = some (.func (.func fg) #[] cg)) :
    HandF s B w 117 #[.pointer (some ⟨a, 0, none⟩)] ∧ PutF s B w 119 #[.pointer (some ⟨p, 0, none⟩), .pointer (some ⟨a, 0, none⟩)] ∧ GetF s B w 120 #[.pointer (some ⟨q, 0, none⟩), .pointer (some ⟨a, 0, none⟩)] := by
  refine ⟨fun W g1 g2 c1 c2 hh h1 h2 => ?_, fun W g c hh h hok hl => ?_, fun W g b c bs e hh h hr hne => ?_⟩
  · exact handB f s hf a g1 g2 c1 c2 W (cellS hh hBa ha) h1 h2 (hs c2)
  · exact putB f s hf a p fp g c W (cellS hh hBa ha) (cellS hh hBp hpc) h (hs c) hp (fun W' => hput W' c hok hl)
  · rw [read_eq]
    exact getB f s hf a q fg cg g b c (rd s bs e) _ _ W (cellS hh hBa ha) (cellS hh hBq hq) h hne (hs _) hg (fun W' hW => hget W' b bs e (hh.then hW) (hr.heap hW))
theorem entW1 : Ent 128 := ent Tryz.func128 (by kernel_rfl) (by kernel_rfl)
theorem entW2 : Ent 129 := ent Tryz.func129 (by kernel_rfl) (by kernel_rfl)
theorem entW3 : Ent 130 := ent Tryz.func130 (by kernel_rfl) (by kernel_rfl)
theorem entW4 : Ent 131 := ent Tryz.func131 (by kernel_rfl) (by kernel_rfl)
theorem noW (g : Nat) (w : World) : Calls Tryz.prog 129 #[.pointer (some ⟨g, 0, none⟩)] w fun e w' => e = .returned (.bool false) ∧ Below w.heap.size w w' := by
  go_enter Tryz.func129, Tryz.ntmps129
  go_wp2
  go_ret
  exact ⟨rfl, Below.refl _ _⟩
/-- What a part of this type is, but for its length. -/
theorem partW {f fp fg : FuncId} {cg : Array Value} {s : Sg} {a p q B : Nat} {w : World} (hf : AtF f s) (hp : Ent fp) (hg : Ent fg) (hs : ∀ c, ∃ t : Int, s.val c = .int .u32 t)
    (hput : ∀ (W : World) (c : Cm), c.ok → s.long c = false → Calls Tryz.prog fp #[s.val c] W fun e w' => e = .returned (.string (str (s.enc c))) ∧ Below W.heap.size W w')
    (hget : ∀ (W : World) (b : Nat) (bs : ByteArray) (e : Int), Stay B w W → Rd W b bs e → Calls Tryz.prog fg (#[.pointer (some ⟨b, 0, none⟩)] ++ cg) W fun x w' => x = .returned (s.val (rd s bs e)) ∧ Rd w' b (s.read (Cm.zero 0, bs, e)).2.1 (s.read (Cm.zero 0, bs, e)).2.2 ∧ Upd b W w')
    (hBa : B ≤ a) (hBp : B ≤ p) (hBq : B ≤ q) (ha : w.cell? ⟨a, 0, none⟩ = some (.func (.func f) #[] #[])) (hpc : w.cell? ⟨p, 0, none⟩ = some (.func (.func fp) #[] #[])) (hq : w.cell? ⟨q, 0, none⟩ = some (.func (.func fg) #[] cg)) :
    HandF s B w 128 #[.pointer (some ⟨a, 0, none⟩)] ∧ PutF s B w 130 #[.pointer (some ⟨p, 0, none⟩), .pointer (some ⟨a, 0, none⟩)] ∧ GetF s B w 131 #[.pointer (some ⟨q, 0, none⟩), .pointer (some ⟨a, 0, none⟩)] := by
  refine ⟨fun W g1 g2 c1 c2 hh h1 h2 => ?_, fun W g c hh h hok hl => ?_, fun W g b c bs e hh h hr hne => ?_⟩
  · exact handW f s hf a g1 g2 c1 c2 W (cellS hh hBa ha) h1 h2 (hs c2)
  · exact putW f s hf a p fp g c W (cellS hh hBa ha) (cellS hh hBp hpc) h (hs c) hp (fun W' => hput W' c hok hl)
  · rw [read_eq]
    exact getW f s hf a q fg cg g b c (rd s bs e) _ _ W (cellS hh hBa ha) (cellS hh hBq hq) h hne (hs _) hg (fun W' hW => hget W' b bs e (hh.then hW) (hr.heap hW))
theorem entD1 : Ent 132 := ent Tryz.func132 (by kernel_rfl) (by kernel_rfl)
theorem entD2 : Ent 133 := ent Tryz.func133 (by kernel_rfl) (by kernel_rfl)
theorem entD3 : Ent 134 := ent Tryz.func134 (by kernel_rfl) (by kernel_rfl)
theorem entD4 : Ent 135 := ent Tryz.func135 (by kernel_rfl) (by kernel_rfl)
theorem noD (g : Nat) (w : World) : Calls Tryz.prog 133 #[.pointer (some ⟨g, 0, none⟩)] w fun e w' => e = .returned (.bool false) ∧ Below w.heap.size w w' := by
  go_enter Tryz.func133, Tryz.ntmps133
  go_wp2
  go_ret
  exact ⟨rfl, Below.refl _ _⟩
/-- What a part of this type is, but for its length. -/
theorem partD {f fp fg : FuncId} {cg : Array Value} {s : Sg} {a p q B : Nat} {w : World} (hf : AtF f s) (hp : Ent fp) (hg : Ent fg) (hs : ∀ c, ∃ t : Int, s.val c = .int .u64 t)
    (hput : ∀ (W : World) (c : Cm), c.ok → s.long c = false → Calls Tryz.prog fp #[s.val c] W fun e w' => e = .returned (.string (str (s.enc c))) ∧ Below W.heap.size W w')
    (hget : ∀ (W : World) (b : Nat) (bs : ByteArray) (e : Int), Stay B w W → Rd W b bs e → Calls Tryz.prog fg (#[.pointer (some ⟨b, 0, none⟩)] ++ cg) W fun x w' => x = .returned (s.val (rd s bs e)) ∧ Rd w' b (s.read (Cm.zero 0, bs, e)).2.1 (s.read (Cm.zero 0, bs, e)).2.2 ∧ Upd b W w')
    (hBa : B ≤ a) (hBp : B ≤ p) (hBq : B ≤ q) (ha : w.cell? ⟨a, 0, none⟩ = some (.func (.func f) #[] #[])) (hpc : w.cell? ⟨p, 0, none⟩ = some (.func (.func fp) #[] #[])) (hq : w.cell? ⟨q, 0, none⟩ = some (.func (.func fg) #[] cg)) :
    HandF s B w 132 #[.pointer (some ⟨a, 0, none⟩)] ∧ PutF s B w 134 #[.pointer (some ⟨p, 0, none⟩), .pointer (some ⟨a, 0, none⟩)] ∧ GetF s B w 135 #[.pointer (some ⟨q, 0, none⟩), .pointer (some ⟨a, 0, none⟩)] := by
  refine ⟨fun W g1 g2 c1 c2 hh h1 h2 => ?_, fun W g c hh h hok hl => ?_, fun W g b c bs e hh h hr hne => ?_⟩
  · exact handD f s hf a g1 g2 c1 c2 W (cellS hh hBa ha) h1 h2 (hs c2)
  · exact putD f s hf a p fp g c W (cellS hh hBa ha) (cellS hh hBp hpc) h (hs c) hp (fun W' => hput W' c hok hl)
  · rw [read_eq]
    exact getD f s hf a q fg cg g b c (rd s bs e) _ _ W (cellS hh hBa ha) (cellS hh hBq hq) h hne (hs _) hg (fun W' hW => hget W' b bs e (hh.then hW) (hr.heap hW))
end Go.Proofs.YtoekggbbkcmknaaGreatDoor
/- Each part's value as its maker gives it. -/
set_option maxHeartbeats 200000
namespace Go.Proofs.YtoekggbbkcmknaaGreatDoor
set_option maxHeartbeats 200000
open Go.RowKit
attribute [local go_sem] store_fn store_nil
theorem entText1 : Ent 106 := ent Tryz.func106 (by kernel_rfl) (by kernel_rfl)
theorem entText2 : Ent 108 := ent Tryz.func108 (by kernel_rfl) (by kernel_rfl)
theorem entText : Ent 105 := ent Tryz.func105 (by kernel_rfl) (by kernel_rfl)
theorem entFour : Ent 60 := ent Tryz.func60 (by kernel_rfl) (by kernel_rfl)
theorem entEight : Ent 111 := ent Tryz.func111 (by kernel_rfl) (by kernel_rfl)
theorem entRFour : Ent 102 := ent Tryz.func102 (by kernel_rfl) (by kernel_rfl)
theorem entREight : Ent 112 := ent Tryz.func112 (by kernel_rfl) (by kernel_rfl)
theorem entPutKind : Ent 77 := ent Tryz.func77 (by kernel_rfl) (by kernel_rfl)
theorem entGetKind : Ent 78 := ent Tryz.func78 (by kernel_rfl) (by kernel_rfl)
theorem entPutBool : Ent 90 := ent Tryz.func90 (by kernel_rfl) (by kernel_rfl)
theorem entGetBool : Ent 91 := ent Tryz.func91 (by kernel_rfl) (by kernel_rfl)
/-- The parts that are texts. -/
structure IsText (s : Sg) (tx : Cm → ByteArray) : Prop where
  val : ∀ c, s.val c = .string (tx c)
  enc : ∀ c, s.enc c = Sg.txb (tx c)
  long : ∀ c, s.long c = decide (s.most < (tx c).size)
  most : s.most ≤ 32768
  rdv : ∀ bs e, s.val (rd s bs e) = .string (txt bs e s.most).1
  rd1 : ∀ bs e, (s.read (Cm.zero 0, bs, e)).2.1 = (txt bs e s.most).2.1
  rd2 : ∀ bs e, (s.read (Cm.zero 0, bs, e)).2.2 = (txt bs e s.most).2.2
theorem isT_q : IsText .q Cm.qn := ⟨fun _ => rfl, fun _ => rfl, fun _ => rfl, by decide, fun _ _ => rfl, fun _ _ => rfl, fun _ _ => rfl⟩
theorem isT_d : IsText .d Cm.qd := ⟨fun _ => rfl, fun _ => rfl, fun _ => rfl, by decide, fun _ _ => rfl, fun _ _ => rfl, fun _ _ => rfl⟩
theorem isT_E : IsText .E Cm.bx := ⟨fun _ => rfl, fun _ => rfl, fun _ => rfl, by decide, fun _ _ => rfl, fun _ _ => rfl, fun _ _ => rfl⟩
theorem isT_P : IsText .P Cm.bp := ⟨fun _ => rfl, fun _ => rfl, fun _ => rfl, by decide, fun _ _ => rfl, fun _ _ => rfl, fun _ _ => rfl⟩
theorem isT_Q : IsText .Q Cm.bq := ⟨fun _ => rfl, fun _ => rfl, fun _ => rfl, by decide, fun _ _ => rfl, fun _ _ => rfl, fun _ _ => rfl⟩
theorem isT_e : IsText .e Cm.ex := ⟨fun _ => rfl, fun _ => rfl, fun _ => rfl, by decide, fun _ _ => rfl, fun _ _ => rfl, fun _ _ => rfl⟩
theorem isT_k : IsText .k Cm.key := ⟨fun _ => rfl, fun _ => rfl, fun _ => rfl, by decide, fun _ _ => rfl, fun _ _ => rfl, fun _ _ => rfl⟩
theorem isT_b : IsText .b Cm.body := ⟨fun _ => rfl, fun _ => rfl, fun _ => rfl, by decide, fun _ _ => rfl, fun _ _ => rfl, fun _ _ => rfl⟩
theorem textPart {s : Sg} {tx : Cm → ByteArray} (hs : IsText s tx) {f : FuncId} (hf : AtF f s) (w : World) :
    Calls Tryz.prog 66 #[.int .i64 s.most, .func (.func f) #[] #[]] w fun e w' => ∃ P, e = .returned P ∧ PartV P s w.heap.size w' ∧ Below w.heap.size w w' := by
  refine (text_any f s.most w).mono ?_
  rintro e w' ⟨a, p, q, ⟨la, lp, lq⟩, rfl, hm, hat, ha, hp, hq, hb⟩
  obtain ⟨h1, h2, h3⟩ := partS (s := s) (B := w.heap.size) hf entText entText1 (fun c => ⟨_, hs.val c⟩)
    (fun W c hok hl => by
      rw [hs.val, hs.enc]
      rw [hs.long] at hl
      have := hs.most
      have := of_decide_eq_false hl
      exact text_at _ (by omega) W)
    (fun W b bs e hW hr => by
      rw [hs.rdv, hs.rd1, hs.rd2]
      have := hs.most
      exact text1_any b _ bs e s.most (by omega) W (cellS hW (Nat.le_refl _) hm) hr) la lp lq ha hp hq
  refine ⟨_, rfl, ⟨_, _, _, _, _, _, _, _, rfl, ⟨entS1, entText2, entS3, entS4⟩, h1, fun W g c hW hc => ?_, h2, h3⟩, hb⟩
  have hcell := hc.cell s.off _ (val_at s c)
  rw [hs.val] at hcell
  refine (text2_any f s hf _ _ g s.most c (tx c) W (cellS hW (Nat.le_succ _) hat) (cellS hW (Nat.le_refl _) hm) hcell).mono ?_
  rintro e w2 ⟨rfl, hb2⟩
  refine ⟨ret_bool ?_, hb2⟩
  rw [hs.long]
  apply decide_eq_decide.2
  omega
/-- The parts that are numbers of four bytes, of eight. -/
structure IsNum (s : Sg) (k : Nat) (I : IntKind) (nx : Cm → Nat) : Prop where
  val : ∀ c, s.val c = .int I (nx c)
  enc : ∀ c, s.enc c = Oc.big k (nx c)
  long : ∀ c, s.long c = false
  bound : ∀ c, c.ok → nx c < 256 ^ k
  rdv : ∀ bs e, s.val (rd s bs e) = .int I (Oc.val (tk bs e k).1.data.toList : Nat)
  rd1 : ∀ bs e, (s.read (Cm.zero 0, bs, e)).2.1 = (tk bs e k).2.1
  rd2 : ∀ bs e, (s.read (Cm.zero 0, bs, e)).2.2 = (tk bs e k).2.2
theorem isN_m : IsNum .m 4 .u32 Cm.most := ⟨fun _ => rfl, fun _ => rfl, fun _ => rfl, fun _ h => h.most, fun _ _ => rfl, fun _ _ => rfl, fun _ _ => rfl⟩
theorem isN_r : IsNum .r 4 .u32 Cm.tries := ⟨fun _ => rfl, fun _ => rfl, fun _ => rfl, fun _ h => h.tries, fun _ _ => rfl, fun _ _ => rfl, fun _ _ => rfl⟩
theorem isN_l : IsNum .l 8 .u64 Cm.ttl := ⟨fun _ => rfl, fun _ => rfl, fun _ => rfl, fun _ h => h.ttl, fun _ _ => rfl, fun _ _ => rfl, fun _ _ => rfl⟩
theorem isN_i : IsNum .i 8 .u64 Cm.id := ⟨fun _ => rfl, fun _ => rfl, fun _ => rfl, fun _ h => h.id, fun _ _ => rfl, fun _ _ => rfl, fun _ _ => rfl⟩
theorem isN_o : IsNum .o 8 .u64 Cm.token := ⟨fun _ => rfl, fun _ => rfl, fun _ => rfl, fun _ h => h.token, fun _ _ => rfl, fun _ _ => rfl, fun _ _ => rfl⟩
theorem isN_n : IsNum .n 8 .u64 Cm.n := ⟨fun _ => rfl, fun _ => rfl, fun _ => rfl, fun _ h => h.n, fun _ _ => rfl, fun _ _ => rfl, fun _ _ => rfl⟩
theorem isN_t : IsNum .t 8 .u64 Cm.time := ⟨fun _ => rfl, fun _ => rfl, fun _ => rfl, fun _ h => h.time, fun _ _ => rfl, fun _ _ => rfl, fun _ _ => rfl⟩
theorem four_part {s : Sg} {nx : Cm → Nat} (hs : IsNum s 4 .u32 nx) {f : FuncId} (hf : AtF f s) (w : World) :
    Calls Tryz.prog 109 #[.func (.func f) #[] #[], .func (.func 60) #[] #[], .func (.func 102) #[] #[]] w fun e w' => ∃ P, e = .returned P ∧ PartV P s w.heap.size w' ∧ Below w.heap.size w w' := by
  refine (sizedW_any f _ _ _ w).mono ?_
  rintro e w' ⟨rfl, ha, hp, hq, hb⟩
  obtain ⟨h1, h2, h3⟩ := partW (s := s) hf entFour entRFour (fun c => ⟨_, hs.val c⟩) (fun W c hok hl => by rw [hs.val, hs.enc]; exact four_at _ _ rfl (hs.bound c hok) W)
    (fun W b bs e _ hr => by rw [hs.rdv, hs.rd1, hs.rd2]; exact four_rd b bs e W hr) (Nat.le_refl w.heap.size) (Nat.le_succ _) (by omega) ha hp hq
  exact ⟨_, rfl, ⟨_, _, _, _, _, _, _, _, rfl, ⟨entW1, entW2, entW3, entW4⟩, h1, fun W g c _ _ => by rw [hs.long]; exact noW g W, h2, h3⟩, hb⟩
theorem eight_part {s : Sg} {nx : Cm → Nat} (hs : IsNum s 8 .u64 nx) {f : FuncId} (hf : AtF f s) (w : World) :
    Calls Tryz.prog 110 #[.func (.func f) #[] #[], .func (.func 111) #[] #[], .func (.func 112) #[] #[]] w fun e w' => ∃ P, e = .returned P ∧ PartV P s w.heap.size w' ∧ Below w.heap.size w w' := by
  refine (sizedD_any f _ _ _ w).mono ?_
  rintro e w' ⟨rfl, ha, hp, hq, hb⟩
  obtain ⟨h1, h2, h3⟩ := partD (s := s) hf entEight entREight (fun c => ⟨_, hs.val c⟩) (fun W c hok hl => by rw [hs.val, hs.enc]; exact eight_at _ _ rfl (hs.bound c hok) W)
    (fun W b bs e _ hr => by rw [hs.rdv, hs.rd1, hs.rd2]; exact eight_rd b bs e W hr) (Nat.le_refl w.heap.size) (Nat.le_succ _) (by omega) ha hp hq
  exact ⟨_, rfl, ⟨_, _, _, _, _, _, _, _, rfl, ⟨entD1, entD2, entD3, entD4⟩, h1, fun W g c _ _ => by rw [hs.long]; exact noD g W, h2, h3⟩, hb⟩
theorem kind_part (w : World) :
    Calls Tryz.prog 75 #[.func (.func 76) #[] #[], .func (.func 77) #[] #[], .func (.func 78) #[] #[]] w fun e w' => ∃ P, e = .returned P ∧ PartV P .K w.heap.size w' ∧ Below w.heap.size w w' := by
  refine (sizedI_any _ _ _ _ w).mono ?_
  rintro e w' ⟨rfl, ha, hp, hq, hb⟩
  obtain ⟨h1, h2, h3⟩ := partI (s := .K) at_K entPutKind entGetKind (fun c => ⟨_, rfl⟩) (fun W c _ _ => putKind_any c W) (fun W b bs e _ hr => by
      rw [show Sg.K.val (rd .K bs e) = .int .i64 (Oc.val (tk bs e 1).1.data.toList : Nat) from rfl, show (Sg.K.read (Cm.zero 0, bs, e)).2.1 = (tk bs e 1).2.1 from rfl, show (Sg.K.read (Cm.zero 0, bs, e)).2.2 = (tk bs e 1).2.2 from rfl]
      exact getKind_any b bs e W hr) (Nat.le_refl w.heap.size) (Nat.le_succ _) (by omega) ha hp hq
  exact ⟨_, rfl, ⟨_, _, _, _, _, _, _, _, rfl, ⟨entI1, entI2, entI3, entI4⟩, h1, fun W g c _ _ => noI g W, h2, h3⟩, hb⟩
theorem bool_part (w : World) :
    Calls Tryz.prog 88 #[.func (.func 89) #[] #[], .func (.func 90) #[] #[], .func (.func 91) #[] #[]] w fun e w' => ∃ P, e = .returned P ∧ PartV P .x w.heap.size w' ∧ Below w.heap.size w w' := by
  refine (sizedB_any _ _ _ _ w).mono ?_
  rintro e w' ⟨rfl, ha, hp, hq, hb⟩
  obtain ⟨h1, h2, h3⟩ := partB (s := .x) at_x entPutBool entGetBool (fun c => ⟨_, rfl⟩) (fun W c _ _ => putBool_any c W) (fun W b bs e _ hr => by
      rw [show Sg.x.val (rd .x bs e) = .bool (decide (Oc.val (tk bs e 1).1.data.toList = 1)) from rfl, show (Sg.x.read (Cm.zero 0, bs, e)).2.1 = (tk bs e 1).2.1 from rfl, show (Sg.x.read (Cm.zero 0, bs, e)).2.2 = (if 1 < Oc.val (tk bs e 1).1.data.toList then (if (tk bs e 1).2.2 = 0 then 4 else (tk bs e 1).2.2) else (tk bs e 1).2.2) from rfl]
      exact getBool_any b bs e W hr) (Nat.le_refl w.heap.size) (Nat.le_succ _) (by omega) ha hp hq
  exact ⟨_, rfl, ⟨_, _, _, _, _, _, _, _, rfl, ⟨entB1, entB2, entB3, entB4⟩, h1, fun W g c _ _ => noB g W, h2, h3⟩, hb⟩
end Go.Proofs.YtoekggbbkcmknaaGreatDoor
/- field, at each part's letter. -/
namespace Go.Proofs.YtoekggbbkcmknaaGreatDoor
open Go.RowKit
attribute [local go_sem] store_fn store_nil
theorem stored_part {w w1 : World} {s : Sg} {fh fl fp fg : FuncId} {ch cl cp cg : Array Value} {O : Obj} (hb : Below (w.alloc O).heap.size (w.alloc O) w1) (HB : BxV w1 w.heap.size [.nilFunc, .nilFunc, .nilFunc, .nilFunc])
    (hP : PartV (.agg #[.func (.func fh) #[] ch, .func (.func fl) #[] cl, .func (.func fp) #[] cp, .func (.func fg) #[] cg]) s (w.alloc O).heap.size w1) :
    BxV (setFrom w1 w.heap.size 0 [.func (.func fh) #[] ch, .func (.func fl) #[] cl, .func (.func fp) #[] cp, .func (.func fg) #[] cg]) w.heap.size [.func (.func fh) #[] ch, .func (.func fl) #[] cl, .func (.func fp) #[] cp, .func (.func fg) #[] cg] ∧
    PartV (.agg #[.func (.func fh) #[] ch, .func (.func fl) #[] cl, .func (.func fp) #[] cp, .func (.func fg) #[] cg]) s w.heap.size (setFrom w1 w.heap.size 0 [.func (.func fh) #[] ch, .func (.func fl) #[] cl, .func (.func fp) #[] cp, .func (.func fg) #[] cg]) ∧
    Below w.heap.size w (setFrom w1 w.heap.size 0 [.func (.func fh) #[] ch, .func (.func fl) #[] cl, .func (.func fp) #[] cp, .func (.func fg) #[] cg]) := by
  have hu := setFrom_upd w.heap.size [.func (.func fh) #[] ch, .func (.func fl) #[] cl, .func (.func fp) #[] cp, .func (.func fg) #[] cg] w1 0
  refine ⟨HB.set rfl, hP.move (by simp) (Nat.le_of_eq hu.size.symm) (fun k hk _ => hu.block k (by simp at hk; omega)), ?_⟩
  exact (((Below.refl _ _).alloc (Nat.le_refl _) O).trans (hb.mono (by simp))).trans (hu.below (Nat.le_refl _))
theorem four_any {s : Sg} {nx : Cm → Nat} (hs : IsNum s 4 .u32 nx) {f : FuncId} (hf : AtF f s) (w : World) :
    Calls Tryz.prog 68 #[.func (.func f) #[] #[]] w fun e w' => ∃ P, e = .returned P ∧ PartV P s w.heap.size w' ∧ Below w.heap.size w w' := by
  go_enter Tryz.func68, Tryz.ntmps68
  go_wp2_with (go_at_call 109; refine (four_part hs hf _).mono ?_; rintro e w1 ⟨P, rfl, ⟨fh, fl, fp, fg, ch, cl, cp, cg, rfl, hP⟩, hb⟩; have HB := Lib.hid ((BxV.new w #[.nilFunc, .nilFunc, .nilFunc, .nilFunc] 105).below' hb (by simp)); have c0 := HB.out.at0 0 _ rfl; have c1 := HB.out.at0 1 _ rfl; have c2 := HB.out.at0 2 _ rfl; have c3 := HB.out.at0 3 _ rfl)
  obtain ⟨hv, hp, hB⟩ := stored_part hb HB.out ⟨_, _, _, _, _, _, _, _, rfl, hP⟩
  simp only [setFrom, Nat.zero_add, Nat.reduceAdd] at hv hp hB
  have z0 := (hv.at0 0 _ rfl).1
  have z1 := (hv.at0 1 _ rfl).1
  have z2 := (hv.at0 2 _ rfl).1
  have z3 := (hv.at0 3 _ rfl).1
  exact bodyPost_ret_by (v := .agg #[.func (.func fh) #[] ch, .func (.func fl) #[] cl, .func (.func fp) #[] cp, .func (.func fg) #[] cg]) (by simp [results, Tryz.results68, go_sem, z0, z1, z2, z3]) rfl ⟨_, rfl, hp, hB⟩
theorem eight_any {s : Sg} {nx : Cm → Nat} (hs : IsNum s 8 .u64 nx) {f : FuncId} (hf : AtF f s) (w : World) :
    Calls Tryz.prog 70 #[.func (.func f) #[] #[]] w fun e w' => ∃ P, e = .returned P ∧ PartV P s w.heap.size w' ∧ Below w.heap.size w w' := by
  go_enter Tryz.func70, Tryz.ntmps70
  go_wp2_with (go_at_call 110; refine (eight_part hs hf _).mono ?_; rintro e w1 ⟨P, rfl, ⟨fh, fl, fp, fg, ch, cl, cp, cg, rfl, hP⟩, hb⟩; have HB := Lib.hid ((BxV.new w #[.nilFunc, .nilFunc, .nilFunc, .nilFunc] 105).below' hb (by simp)); have c0 := HB.out.at0 0 _ rfl; have c1 := HB.out.at0 1 _ rfl; have c2 := HB.out.at0 2 _ rfl; have c3 := HB.out.at0 3 _ rfl)
  obtain ⟨hv, hp, hB⟩ := stored_part hb HB.out ⟨_, _, _, _, _, _, _, _, rfl, hP⟩
  simp only [setFrom, Nat.zero_add, Nat.reduceAdd] at hv hp hB
  have z0 := (hv.at0 0 _ rfl).1
  have z1 := (hv.at0 1 _ rfl).1
  have z2 := (hv.at0 2 _ rfl).1
  have z3 := (hv.at0 3 _ rfl).1
  exact bodyPost_ret_by (v := .agg #[.func (.func fh) #[] ch, .func (.func fl) #[] cl, .func (.func fp) #[] cp, .func (.func fg) #[] cg]) (by simp [results, Tryz.results70, go_sem, z0, z1, z2, z3]) rfl ⟨_, rfl, hp, hB⟩
end Go.Proofs.YtoekggbbkcmknaaGreatDoor
/- field at some letters. -/
namespace Go.Proofs.YtoekggbbkcmknaaGreatDoor
open Go.RowKit
attribute [local go_sem] store_fn store_nil
theorem field_q (w : World) : Calls Tryz.prog 46 #[.int .i32 113] w fun e w' => ∃ P, e = .returned P ∧ PartV P .q w.heap.size w' ∧ Below w.heap.size w w' := by
  go_enter Tryz.func46, Tryz.ntmps46
  go_wp2_with (go_at_call 66; refine (textPart isT_q at_q _).mono ?_; rintro e w1 ⟨P, rfl, ⟨fh, fl, fp, fg, ch, cl, cp, cg, rfl, hP⟩, hb⟩; have HB := Lib.hid ((BxV.new w #[.nilFunc, .nilFunc, .nilFunc, .nilFunc] 105).below' hb (by simp)); have c0 := HB.out.at0 0 _ rfl; have c1 := HB.out.at0 1 _ rfl; have c2 := HB.out.at0 2 _ rfl; have c3 := HB.out.at0 3 _ rfl)
  obtain ⟨hv, hp, hB⟩ := stored_part hb HB.out ⟨_, _, _, _, _, _, _, _, rfl, hP⟩
  simp only [setFrom, Nat.zero_add, Nat.reduceAdd] at hv hp hB
  have z0 := (hv.at0 0 _ rfl).1
  have z1 := (hv.at0 1 _ rfl).1
  have z2 := (hv.at0 2 _ rfl).1
  have z3 := (hv.at0 3 _ rfl).1
  exact bodyPost_ret_by (v := .agg #[.func (.func fh) #[] ch, .func (.func fl) #[] cl, .func (.func fp) #[] cp, .func (.func fg) #[] cg]) (by simp [results, Tryz.results46, go_sem, z0, z1, z2, z3]) rfl ⟨_, rfl, hp, hB⟩
theorem field_m (w : World) : Calls Tryz.prog 46 #[.int .i32 109] w fun e w' => ∃ P, e = .returned P ∧ PartV P .m w.heap.size w' ∧ Below w.heap.size w w' := by
  go_enter Tryz.func46, Tryz.ntmps46
  go_wp2_with (go_at_call 68; refine (four_any isN_m at_m _).mono ?_; rintro e w1 ⟨P, rfl, ⟨fh, fl, fp, fg, ch, cl, cp, cg, rfl, hP⟩, hb⟩; have HB := Lib.hid ((BxV.new w #[.nilFunc, .nilFunc, .nilFunc, .nilFunc] 105).below' hb (by simp)); have c0 := HB.out.at0 0 _ rfl; have c1 := HB.out.at0 1 _ rfl; have c2 := HB.out.at0 2 _ rfl; have c3 := HB.out.at0 3 _ rfl)
  obtain ⟨hv, hp, hB⟩ := stored_part hb HB.out ⟨_, _, _, _, _, _, _, _, rfl, hP⟩
  simp only [setFrom, Nat.zero_add, Nat.reduceAdd] at hv hp hB
  have z0 := (hv.at0 0 _ rfl).1
  have z1 := (hv.at0 1 _ rfl).1
  have z2 := (hv.at0 2 _ rfl).1
  have z3 := (hv.at0 3 _ rfl).1
  exact bodyPost_ret_by (v := .agg #[.func (.func fh) #[] ch, .func (.func fl) #[] cl, .func (.func fp) #[] cp, .func (.func fg) #[] cg]) (by simp [results, Tryz.results46, go_sem, z0, z1, z2, z3]) rfl ⟨_, rfl, hp, hB⟩
theorem field_l (w : World) : Calls Tryz.prog 46 #[.int .i32 108] w fun e w' => ∃ P, e = .returned P ∧ PartV P .l w.heap.size w' ∧ Below w.heap.size w w' := by
  go_enter Tryz.func46, Tryz.ntmps46
  go_wp2_with (go_at_call 70; refine (eight_any isN_l at_l _).mono ?_; rintro e w1 ⟨P, rfl, ⟨fh, fl, fp, fg, ch, cl, cp, cg, rfl, hP⟩, hb⟩; have HB := Lib.hid ((BxV.new w #[.nilFunc, .nilFunc, .nilFunc, .nilFunc] 105).below' hb (by simp)); have c0 := HB.out.at0 0 _ rfl; have c1 := HB.out.at0 1 _ rfl; have c2 := HB.out.at0 2 _ rfl; have c3 := HB.out.at0 3 _ rfl)
  obtain ⟨hv, hp, hB⟩ := stored_part hb HB.out ⟨_, _, _, _, _, _, _, _, rfl, hP⟩
  simp only [setFrom, Nat.zero_add, Nat.reduceAdd] at hv hp hB
  have z0 := (hv.at0 0 _ rfl).1
  have z1 := (hv.at0 1 _ rfl).1
  have z2 := (hv.at0 2 _ rfl).1
  have z3 := (hv.at0 3 _ rfl).1
  exact bodyPost_ret_by (v := .agg #[.func (.func fh) #[] ch, .func (.func fl) #[] cl, .func (.func fp) #[] cp, .func (.func fg) #[] cg]) (by simp [results, Tryz.results46, go_sem, z0, z1, z2, z3]) rfl ⟨_, rfl, hp, hB⟩
theorem field_r (w : World) : Calls Tryz.prog 46 #[.int .i32 114] w fun e w' => ∃ P, e = .returned P ∧ PartV P .r w.heap.size w' ∧ Below w.heap.size w w' := by
  go_enter Tryz.func46, Tryz.ntmps46
  go_wp2_with (go_at_call 68; refine (four_any isN_r at_r _).mono ?_; rintro e w1 ⟨P, rfl, ⟨fh, fl, fp, fg, ch, cl, cp, cg, rfl, hP⟩, hb⟩; have HB := Lib.hid ((BxV.new w #[.nilFunc, .nilFunc, .nilFunc, .nilFunc] 105).below' hb (by simp)); have c0 := HB.out.at0 0 _ rfl; have c1 := HB.out.at0 1 _ rfl; have c2 := HB.out.at0 2 _ rfl; have c3 := HB.out.at0 3 _ rfl)
  obtain ⟨hv, hp, hB⟩ := stored_part hb HB.out ⟨_, _, _, _, _, _, _, _, rfl, hP⟩
  simp only [setFrom, Nat.zero_add, Nat.reduceAdd] at hv hp hB
  have z0 := (hv.at0 0 _ rfl).1
  have z1 := (hv.at0 1 _ rfl).1
  have z2 := (hv.at0 2 _ rfl).1
  have z3 := (hv.at0 3 _ rfl).1
  exact bodyPost_ret_by (v := .agg #[.func (.func fh) #[] ch, .func (.func fl) #[] cl, .func (.func fp) #[] cp, .func (.func fg) #[] cg]) (by simp [results, Tryz.results46, go_sem, z0, z1, z2, z3]) rfl ⟨_, rfl, hp, hB⟩
theorem field_d (w : World) : Calls Tryz.prog 46 #[.int .i32 100] w fun e w' => ∃ P, e = .returned P ∧ PartV P .d w.heap.size w' ∧ Below w.heap.size w w' := by
  go_enter Tryz.func46, Tryz.ntmps46
  go_wp2_with (go_at_call 66; refine (textPart isT_d at_d _).mono ?_; rintro e w1 ⟨P, rfl, ⟨fh, fl, fp, fg, ch, cl, cp, cg, rfl, hP⟩, hb⟩; have HB := Lib.hid ((BxV.new w #[.nilFunc, .nilFunc, .nilFunc, .nilFunc] 105).below' hb (by simp)); have c0 := HB.out.at0 0 _ rfl; have c1 := HB.out.at0 1 _ rfl; have c2 := HB.out.at0 2 _ rfl; have c3 := HB.out.at0 3 _ rfl)
  obtain ⟨hv, hp, hB⟩ := stored_part hb HB.out ⟨_, _, _, _, _, _, _, _, rfl, hP⟩
  simp only [setFrom, Nat.zero_add, Nat.reduceAdd] at hv hp hB
  have z0 := (hv.at0 0 _ rfl).1
  have z1 := (hv.at0 1 _ rfl).1
  have z2 := (hv.at0 2 _ rfl).1
  have z3 := (hv.at0 3 _ rfl).1
  exact bodyPost_ret_by (v := .agg #[.func (.func fh) #[] ch, .func (.func fl) #[] cl, .func (.func fp) #[] cp, .func (.func fg) #[] cg]) (by simp [results, Tryz.results46, go_sem, z0, z1, z2, z3]) rfl ⟨_, rfl, hp, hB⟩
theorem field_E (w : World) : Calls Tryz.prog 46 #[.int .i32 69] w fun e w' => ∃ P, e = .returned P ∧ PartV P .E w.heap.size w' ∧ Below w.heap.size w w' := by
  go_enter Tryz.func46, Tryz.ntmps46
  go_wp2_with (go_at_call 66; refine (textPart isT_E at_E _).mono ?_; rintro e w1 ⟨P, rfl, ⟨fh, fl, fp, fg, ch, cl, cp, cg, rfl, hP⟩, hb⟩; have HB := Lib.hid ((BxV.new w #[.nilFunc, .nilFunc, .nilFunc, .nilFunc] 105).below' hb (by simp)); have c0 := HB.out.at0 0 _ rfl; have c1 := HB.out.at0 1 _ rfl; have c2 := HB.out.at0 2 _ rfl; have c3 := HB.out.at0 3 _ rfl)
  obtain ⟨hv, hp, hB⟩ := stored_part hb HB.out ⟨_, _, _, _, _, _, _, _, rfl, hP⟩
  simp only [setFrom, Nat.zero_add, Nat.reduceAdd] at hv hp hB
  have z0 := (hv.at0 0 _ rfl).1
  have z1 := (hv.at0 1 _ rfl).1
  have z2 := (hv.at0 2 _ rfl).1
  have z3 := (hv.at0 3 _ rfl).1
  exact bodyPost_ret_by (v := .agg #[.func (.func fh) #[] ch, .func (.func fl) #[] cl, .func (.func fp) #[] cp, .func (.func fg) #[] cg]) (by simp [results, Tryz.results46, go_sem, z0, z1, z2, z3]) rfl ⟨_, rfl, hp, hB⟩
end Go.Proofs.YtoekggbbkcmknaaGreatDoor
/- field at some letters. -/
namespace Go.Proofs.YtoekggbbkcmknaaGreatDoor
open Go.RowKit
attribute [local go_sem] store_fn store_nil
theorem field_K (w : World) : Calls Tryz.prog 46 #[.int .i32 75] w fun e w' => ∃ P, e = .returned P ∧ PartV P .K w.heap.size w' ∧ Below w.heap.size w w' := by
  go_enter Tryz.func46, Tryz.ntmps46
  go_wp2_with (go_at_call 75; refine (kind_part _).mono ?_; rintro e w1 ⟨P, rfl, ⟨fh, fl, fp, fg, ch, cl, cp, cg, rfl, hP⟩, hb⟩; have HB := Lib.hid ((BxV.new w #[.nilFunc, .nilFunc, .nilFunc, .nilFunc] 105).below' hb (by simp)); have c0 := HB.out.at0 0 _ rfl; have c1 := HB.out.at0 1 _ rfl; have c2 := HB.out.at0 2 _ rfl; have c3 := HB.out.at0 3 _ rfl)
  obtain ⟨hv, hp, hB⟩ := stored_part hb HB.out ⟨_, _, _, _, _, _, _, _, rfl, hP⟩
  simp only [setFrom, Nat.zero_add, Nat.reduceAdd] at hv hp hB
  have z0 := (hv.at0 0 _ rfl).1
  have z1 := (hv.at0 1 _ rfl).1
  have z2 := (hv.at0 2 _ rfl).1
  have z3 := (hv.at0 3 _ rfl).1
  exact bodyPost_ret_by (v := .agg #[.func (.func fh) #[] ch, .func (.func fl) #[] cl, .func (.func fp) #[] cp, .func (.func fg) #[] cg]) (by simp [results, Tryz.results46, go_sem, z0, z1, z2, z3]) rfl ⟨_, rfl, hp, hB⟩
theorem field_P (w : World) : Calls Tryz.prog 46 #[.int .i32 80] w fun e w' => ∃ P, e = .returned P ∧ PartV P .P w.heap.size w' ∧ Below w.heap.size w w' := by
  go_enter Tryz.func46, Tryz.ntmps46
  go_wp2_with (go_at_call 66; refine (textPart isT_P at_P _).mono ?_; rintro e w1 ⟨P, rfl, ⟨fh, fl, fp, fg, ch, cl, cp, cg, rfl, hP⟩, hb⟩; have HB := Lib.hid ((BxV.new w #[.nilFunc, .nilFunc, .nilFunc, .nilFunc] 105).below' hb (by simp)); have c0 := HB.out.at0 0 _ rfl; have c1 := HB.out.at0 1 _ rfl; have c2 := HB.out.at0 2 _ rfl; have c3 := HB.out.at0 3 _ rfl)
  obtain ⟨hv, hp, hB⟩ := stored_part hb HB.out ⟨_, _, _, _, _, _, _, _, rfl, hP⟩
  simp only [setFrom, Nat.zero_add, Nat.reduceAdd] at hv hp hB
  have z0 := (hv.at0 0 _ rfl).1
  have z1 := (hv.at0 1 _ rfl).1
  have z2 := (hv.at0 2 _ rfl).1
  have z3 := (hv.at0 3 _ rfl).1
  exact bodyPost_ret_by (v := .agg #[.func (.func fh) #[] ch, .func (.func fl) #[] cl, .func (.func fp) #[] cp, .func (.func fg) #[] cg]) (by simp [results, Tryz.results46, go_sem, z0, z1, z2, z3]) rfl ⟨_, rfl, hp, hB⟩
theorem field_Q (w : World) : Calls Tryz.prog 46 #[.int .i32 81] w fun e w' => ∃ P, e = .returned P ∧ PartV P .Q w.heap.size w' ∧ Below w.heap.size w w' := by
  go_enter Tryz.func46, Tryz.ntmps46
  go_wp2_with (go_at_call 66; refine (textPart isT_Q at_Q _).mono ?_; rintro e w1 ⟨P, rfl, ⟨fh, fl, fp, fg, ch, cl, cp, cg, rfl, hP⟩, hb⟩; have HB := Lib.hid ((BxV.new w #[.nilFunc, .nilFunc, .nilFunc, .nilFunc] 105).below' hb (by simp)); have c0 := HB.out.at0 0 _ rfl; have c1 := HB.out.at0 1 _ rfl; have c2 := HB.out.at0 2 _ rfl; have c3 := HB.out.at0 3 _ rfl)
  obtain ⟨hv, hp, hB⟩ := stored_part hb HB.out ⟨_, _, _, _, _, _, _, _, rfl, hP⟩
  simp only [setFrom, Nat.zero_add, Nat.reduceAdd] at hv hp hB
  have z0 := (hv.at0 0 _ rfl).1
  have z1 := (hv.at0 1 _ rfl).1
  have z2 := (hv.at0 2 _ rfl).1
  have z3 := (hv.at0 3 _ rfl).1
  exact bodyPost_ret_by (v := .agg #[.func (.func fh) #[] ch, .func (.func fl) #[] cl, .func (.func fp) #[] cp, .func (.func fg) #[] cg]) (by simp [results, Tryz.results46, go_sem, z0, z1, z2, z3]) rfl ⟨_, rfl, hp, hB⟩
theorem field_e (w : World) : Calls Tryz.prog 46 #[.int .i32 101] w fun e w' => ∃ P, e = .returned P ∧ PartV P .e w.heap.size w' ∧ Below w.heap.size w w' := by
  go_enter Tryz.func46, Tryz.ntmps46
  go_wp2_with (go_at_call 66; refine (textPart isT_e at_e _).mono ?_; rintro e w1 ⟨P, rfl, ⟨fh, fl, fp, fg, ch, cl, cp, cg, rfl, hP⟩, hb⟩; have HB := Lib.hid ((BxV.new w #[.nilFunc, .nilFunc, .nilFunc, .nilFunc] 105).below' hb (by simp)); have c0 := HB.out.at0 0 _ rfl; have c1 := HB.out.at0 1 _ rfl; have c2 := HB.out.at0 2 _ rfl; have c3 := HB.out.at0 3 _ rfl)
  obtain ⟨hv, hp, hB⟩ := stored_part hb HB.out ⟨_, _, _, _, _, _, _, _, rfl, hP⟩
  simp only [setFrom, Nat.zero_add, Nat.reduceAdd] at hv hp hB
  have z0 := (hv.at0 0 _ rfl).1
  have z1 := (hv.at0 1 _ rfl).1
  have z2 := (hv.at0 2 _ rfl).1
  have z3 := (hv.at0 3 _ rfl).1
  exact bodyPost_ret_by (v := .agg #[.func (.func fh) #[] ch, .func (.func fl) #[] cl, .func (.func fp) #[] cp, .func (.func fg) #[] cg]) (by simp [results, Tryz.results46, go_sem, z0, z1, z2, z3]) rfl ⟨_, rfl, hp, hB⟩
theorem field_k (w : World) : Calls Tryz.prog 46 #[.int .i32 107] w fun e w' => ∃ P, e = .returned P ∧ PartV P .k w.heap.size w' ∧ Below w.heap.size w w' := by
  go_enter Tryz.func46, Tryz.ntmps46
  go_wp2_with (go_at_call 66; refine (textPart isT_k at_k _).mono ?_; rintro e w1 ⟨P, rfl, ⟨fh, fl, fp, fg, ch, cl, cp, cg, rfl, hP⟩, hb⟩; have HB := Lib.hid ((BxV.new w #[.nilFunc, .nilFunc, .nilFunc, .nilFunc] 105).below' hb (by simp)); have c0 := HB.out.at0 0 _ rfl; have c1 := HB.out.at0 1 _ rfl; have c2 := HB.out.at0 2 _ rfl; have c3 := HB.out.at0 3 _ rfl)
  obtain ⟨hv, hp, hB⟩ := stored_part hb HB.out ⟨_, _, _, _, _, _, _, _, rfl, hP⟩
  simp only [setFrom, Nat.zero_add, Nat.reduceAdd] at hv hp hB
  have z0 := (hv.at0 0 _ rfl).1
  have z1 := (hv.at0 1 _ rfl).1
  have z2 := (hv.at0 2 _ rfl).1
  have z3 := (hv.at0 3 _ rfl).1
  exact bodyPost_ret_by (v := .agg #[.func (.func fh) #[] ch, .func (.func fl) #[] cl, .func (.func fp) #[] cp, .func (.func fg) #[] cg]) (by simp [results, Tryz.results46, go_sem, z0, z1, z2, z3]) rfl ⟨_, rfl, hp, hB⟩
theorem field_b (w : World) : Calls Tryz.prog 46 #[.int .i32 98] w fun e w' => ∃ P, e = .returned P ∧ PartV P .b w.heap.size w' ∧ Below w.heap.size w w' := by
  go_enter Tryz.func46, Tryz.ntmps46
  go_wp2_with (go_at_call 66; refine (textPart isT_b at_b _).mono ?_; rintro e w1 ⟨P, rfl, ⟨fh, fl, fp, fg, ch, cl, cp, cg, rfl, hP⟩, hb⟩; have HB := Lib.hid ((BxV.new w #[.nilFunc, .nilFunc, .nilFunc, .nilFunc] 105).below' hb (by simp)); have c0 := HB.out.at0 0 _ rfl; have c1 := HB.out.at0 1 _ rfl; have c2 := HB.out.at0 2 _ rfl; have c3 := HB.out.at0 3 _ rfl)
  obtain ⟨hv, hp, hB⟩ := stored_part hb HB.out ⟨_, _, _, _, _, _, _, _, rfl, hP⟩
  simp only [setFrom, Nat.zero_add, Nat.reduceAdd] at hv hp hB
  have z0 := (hv.at0 0 _ rfl).1
  have z1 := (hv.at0 1 _ rfl).1
  have z2 := (hv.at0 2 _ rfl).1
  have z3 := (hv.at0 3 _ rfl).1
  exact bodyPost_ret_by (v := .agg #[.func (.func fh) #[] ch, .func (.func fl) #[] cl, .func (.func fp) #[] cp, .func (.func fg) #[] cg]) (by simp [results, Tryz.results46, go_sem, z0, z1, z2, z3]) rfl ⟨_, rfl, hp, hB⟩
end Go.Proofs.YtoekggbbkcmknaaGreatDoor
/- field at some letters. -/
namespace Go.Proofs.YtoekggbbkcmknaaGreatDoor
open Go.RowKit
attribute [local go_sem] store_fn store_nil
theorem field_i (w : World) : Calls Tryz.prog 46 #[.int .i32 105] w fun e w' => ∃ P, e = .returned P ∧ PartV P .i w.heap.size w' ∧ Below w.heap.size w w' := by
  go_enter Tryz.func46, Tryz.ntmps46
  go_wp2_with (go_at_call 70; refine (eight_any isN_i at_i _).mono ?_; rintro e w1 ⟨P, rfl, ⟨fh, fl, fp, fg, ch, cl, cp, cg, rfl, hP⟩, hb⟩; have HB := Lib.hid ((BxV.new w #[.nilFunc, .nilFunc, .nilFunc, .nilFunc] 105).below' hb (by simp)); have c0 := HB.out.at0 0 _ rfl; have c1 := HB.out.at0 1 _ rfl; have c2 := HB.out.at0 2 _ rfl; have c3 := HB.out.at0 3 _ rfl)
  obtain ⟨hv, hp, hB⟩ := stored_part hb HB.out ⟨_, _, _, _, _, _, _, _, rfl, hP⟩
  simp only [setFrom, Nat.zero_add, Nat.reduceAdd] at hv hp hB
  have z0 := (hv.at0 0 _ rfl).1
  have z1 := (hv.at0 1 _ rfl).1
  have z2 := (hv.at0 2 _ rfl).1
  have z3 := (hv.at0 3 _ rfl).1
  exact bodyPost_ret_by (v := .agg #[.func (.func fh) #[] ch, .func (.func fl) #[] cl, .func (.func fp) #[] cp, .func (.func fg) #[] cg]) (by simp [results, Tryz.results46, go_sem, z0, z1, z2, z3]) rfl ⟨_, rfl, hp, hB⟩
theorem field_o (w : World) : Calls Tryz.prog 46 #[.int .i32 111] w fun e w' => ∃ P, e = .returned P ∧ PartV P .o w.heap.size w' ∧ Below w.heap.size w w' := by
  go_enter Tryz.func46, Tryz.ntmps46
  go_wp2_with (go_at_call 70; refine (eight_any isN_o at_o _).mono ?_; rintro e w1 ⟨P, rfl, ⟨fh, fl, fp, fg, ch, cl, cp, cg, rfl, hP⟩, hb⟩; have HB := Lib.hid ((BxV.new w #[.nilFunc, .nilFunc, .nilFunc, .nilFunc] 105).below' hb (by simp)); have c0 := HB.out.at0 0 _ rfl; have c1 := HB.out.at0 1 _ rfl; have c2 := HB.out.at0 2 _ rfl; have c3 := HB.out.at0 3 _ rfl)
  obtain ⟨hv, hp, hB⟩ := stored_part hb HB.out ⟨_, _, _, _, _, _, _, _, rfl, hP⟩
  simp only [setFrom, Nat.zero_add, Nat.reduceAdd] at hv hp hB
  have z0 := (hv.at0 0 _ rfl).1
  have z1 := (hv.at0 1 _ rfl).1
  have z2 := (hv.at0 2 _ rfl).1
  have z3 := (hv.at0 3 _ rfl).1
  exact bodyPost_ret_by (v := .agg #[.func (.func fh) #[] ch, .func (.func fl) #[] cl, .func (.func fp) #[] cp, .func (.func fg) #[] cg]) (by simp [results, Tryz.results46, go_sem, z0, z1, z2, z3]) rfl ⟨_, rfl, hp, hB⟩
theorem field_n (w : World) : Calls Tryz.prog 46 #[.int .i32 110] w fun e w' => ∃ P, e = .returned P ∧ PartV P .n w.heap.size w' ∧ Below w.heap.size w w' := by
  go_enter Tryz.func46, Tryz.ntmps46
  go_wp2_with (go_at_call 70; refine (eight_any isN_n at_n _).mono ?_; rintro e w1 ⟨P, rfl, ⟨fh, fl, fp, fg, ch, cl, cp, cg, rfl, hP⟩, hb⟩; have HB := Lib.hid ((BxV.new w #[.nilFunc, .nilFunc, .nilFunc, .nilFunc] 105).below' hb (by simp)); have c0 := HB.out.at0 0 _ rfl; have c1 := HB.out.at0 1 _ rfl; have c2 := HB.out.at0 2 _ rfl; have c3 := HB.out.at0 3 _ rfl)
  obtain ⟨hv, hp, hB⟩ := stored_part hb HB.out ⟨_, _, _, _, _, _, _, _, rfl, hP⟩
  simp only [setFrom, Nat.zero_add, Nat.reduceAdd] at hv hp hB
  have z0 := (hv.at0 0 _ rfl).1
  have z1 := (hv.at0 1 _ rfl).1
  have z2 := (hv.at0 2 _ rfl).1
  have z3 := (hv.at0 3 _ rfl).1
  exact bodyPost_ret_by (v := .agg #[.func (.func fh) #[] ch, .func (.func fl) #[] cl, .func (.func fp) #[] cp, .func (.func fg) #[] cg]) (by simp [results, Tryz.results46, go_sem, z0, z1, z2, z3]) rfl ⟨_, rfl, hp, hB⟩
theorem field_t (w : World) : Calls Tryz.prog 46 #[.int .i32 116] w fun e w' => ∃ P, e = .returned P ∧ PartV P .t w.heap.size w' ∧ Below w.heap.size w w' := by
  go_enter Tryz.func46, Tryz.ntmps46
  go_wp2_with (go_at_call 70; refine (eight_any isN_t at_t _).mono ?_; rintro e w1 ⟨P, rfl, ⟨fh, fl, fp, fg, ch, cl, cp, cg, rfl, hP⟩, hb⟩; have HB := Lib.hid ((BxV.new w #[.nilFunc, .nilFunc, .nilFunc, .nilFunc] 105).below' hb (by simp)); have c0 := HB.out.at0 0 _ rfl; have c1 := HB.out.at0 1 _ rfl; have c2 := HB.out.at0 2 _ rfl; have c3 := HB.out.at0 3 _ rfl)
  obtain ⟨hv, hp, hB⟩ := stored_part hb HB.out ⟨_, _, _, _, _, _, _, _, rfl, hP⟩
  simp only [setFrom, Nat.zero_add, Nat.reduceAdd] at hv hp hB
  have z0 := (hv.at0 0 _ rfl).1
  have z1 := (hv.at0 1 _ rfl).1
  have z2 := (hv.at0 2 _ rfl).1
  have z3 := (hv.at0 3 _ rfl).1
  exact bodyPost_ret_by (v := .agg #[.func (.func fh) #[] ch, .func (.func fl) #[] cl, .func (.func fp) #[] cp, .func (.func fg) #[] cg]) (by simp [results, Tryz.results46, go_sem, z0, z1, z2, z3]) rfl ⟨_, rfl, hp, hB⟩
theorem field_x (w : World) : Calls Tryz.prog 46 #[.int .i32 120] w fun e w' => ∃ P, e = .returned P ∧ PartV P .x w.heap.size w' ∧ Below w.heap.size w w' := by
  go_enter Tryz.func46, Tryz.ntmps46
  go_wp2_with (go_at_call 88; refine (bool_part _).mono ?_; rintro e w1 ⟨P, rfl, ⟨fh, fl, fp, fg, ch, cl, cp, cg, rfl, hP⟩, hb⟩; have HB := Lib.hid ((BxV.new w #[.nilFunc, .nilFunc, .nilFunc, .nilFunc] 105).below' hb (by simp)); have c0 := HB.out.at0 0 _ rfl; have c1 := HB.out.at0 1 _ rfl; have c2 := HB.out.at0 2 _ rfl; have c3 := HB.out.at0 3 _ rfl)
  obtain ⟨hv, hp, hB⟩ := stored_part hb HB.out ⟨_, _, _, _, _, _, _, _, rfl, hP⟩
  simp only [setFrom, Nat.zero_add, Nat.reduceAdd] at hv hp hB
  have z0 := (hv.at0 0 _ rfl).1
  have z1 := (hv.at0 1 _ rfl).1
  have z2 := (hv.at0 2 _ rfl).1
  have z3 := (hv.at0 3 _ rfl).1
  exact bodyPost_ret_by (v := .agg #[.func (.func fh) #[] ch, .func (.func fl) #[] cl, .func (.func fp) #[] cp, .func (.func fg) #[] cg]) (by simp [results, Tryz.results46, go_sem, z0, z1, z2, z3]) rfl ⟨_, rfl, hp, hB⟩
end Go.Proofs.YtoekggbbkcmknaaGreatDoor
/- field at any part's letter. -/
namespace Go.Proofs.YtoekggbbkcmknaaGreatDoor
open Go.RowKit
def scode : Sg → Int
  | .q => 113
  | .m => 109
  | .l => 108
  | .r => 114
  | .d => 100
  | .E => 69
  | .K => 75
  | .P => 80
  | .Q => 81
  | .e => 101
  | .k => 107
  | .b => 98
  | .i => 105
  | .o => 111
  | .n => 110
  | .t => 116
  | .x => 120
theorem field_any (s : Sg) (w : World) : Calls Tryz.prog 46 #[.int .i32 (scode s)] w fun e w' => ∃ P, e = .returned P ∧ PartV P s w.heap.size w' ∧ Below w.heap.size w w' := by
  cases s
  · exact field_q w
  · exact field_m w
  · exact field_l w
  · exact field_r w
  · exact field_d w
  · exact field_E w
  · exact field_K w
  · exact field_P w
  · exact field_Q w
  · exact field_e w
  · exact field_k w
  · exact field_b w
  · exact field_i w
  · exact field_o w
  · exact field_n w
  · exact field_t w
  · exact field_x w
end Go.Proofs.YtoekggbbkcmknaaGreatDoor
