/- Texts of one seat, merged. -/
import Derived.Test.YtgmneapgihakgaaGreatDoorZ14
import Derived.Test.YtgmneapgihakgaaGreatDoorZ18
import Derived.Test.YtgmneapgihakgaaGreatDoorZ17
import Derived.Test.YtgmneapgihakgaaGreatDoorRows
import Derived.Deep.RegionWith
import Derived.Deep.DeepCutAuto
import Derived.Deep.CutRange
set_option maxRecDepth 100000
set_option maxHeartbeats 4000000
set_option linter.unusedVariables false
/- The keys of queues and counters, of any name. -/
namespace Go.Proofs.YtgmneapgihakgaaGreatDoor
open Go.RowKit Go.Sort Go.Maps
def kS (l : List Ord.P) : List UInt8 := if (Ord.key l).length ≤ 255 then Ord.key l else []
def kE (l : List Ord.P) : Int := if (Ord.key l).length ≤ 255 then 0 else 5
theorem keyOut_eq (l : List Ord.P) : keyOut l = .tuple #[.string (str (kS l)), .int .i64 (kE l)] := by
  unfold keyOut kS kE
  split <;> rfl
def pS (s : List UInt8) : Ord.P := ⟨true, 0, s⟩
theorem Sl.two' (w : World) (p q : Ord.P) (T : TypeId) : Sl (w.alloc (.cells #[.bool p.t, .int .u64 p.n, .string (str p.s), .bool q.t, .int .u64 q.n, .string (str q.s)] T)) (.slice (some ⟨w.heap.size, 0, none⟩) 2 2) [p, q] := by
  refine ⟨_, w.heap.size, 0, 2, rfl, .inr rfl, fun j r hj => ?_⟩
  match j, hj with
  | 0, hj => simp at hj; subst hj; refine ⟨?_, ?_, ?_⟩ <;> simp
  | 1, hj => simp at hj; subst hj; refine ⟨?_, ?_, ?_⟩ <;> simp
  | (j + 2), hj => simp at hj
theorem keyTwo (a b : List UInt8) (ha : a.length ≤ 400) (hb : b.length ≤ 400) (m : Int) (W : World) (hm : W.cell? ⟨0, 0, none⟩ = some (.int .i64 m)) (T : TypeId) :
    Calls Tryz.prog 125 #[.slice (some ⟨W.heap.size, 0, none⟩) 2 2] (W.alloc (.cells #[.bool true, .int .u64 0, .string (str a), .bool true, .int .u64 0, .string (str b)] T)) fun e w' => e = .returned (.tuple #[.string (str (kS [pS a, pS b])), .int .i64 (kE [pS a, pS b])]) ∧ Below W.heap.size W w' := by
  have h0 := World.block_lt_of_cell? _ _ hm
  have h1 := key_any _ [pS a, pS b] (by simp) m _ (Sl.two' W (pS a) (pS b) T) (by intro p hp; simp at hp; rcases hp with rfl | rfl; exact ⟨by simp [pS], ha⟩; exact ⟨by simp [pS], hb⟩) (((Below.refl _ _).alloc (Nat.le_refl _) _ |>.cell (p := ⟨0, 0, none⟩) h0).trans hm)
  rw [keyOut_eq] at h1
  exact h1.mono fun e w' h => ⟨h.1, below_step ((Below.refl _ _).alloc (Nat.le_refl _) _) h.2⟩
theorem skeyQ_any (nm : List UInt8) (hn : nm.length ≤ 400) (m : Int) (w : World) (hm : w.cell? ⟨0, 0, none⟩ = some (.int .i64 m)) :
    Calls Tryz.prog 77 #[.string (str nm)] w fun e w' => e = .returned (.tuple #[.string (str (kS [pS [113], pS nm])), .int .i64 (kE [pS [113], pS nm])]) ∧ Below w.heap.size w w' := by
  have h0 := World.block_lt_of_cell? _ _ hm
  have HM : Hid (∀ W, Below w.heap.size w W → W.cell? ⟨0, 0, none⟩ = some (.int .i64 m)) := fun W hW => (hW.cell (p := ⟨0, 0, none⟩) h0).trans hm
  have HN := Lib.hid hn
  have hs1 := fun W => strP_any [113] W
  have hs2 := fun W => strP_any nm W
  unfold aggP at hs1 hs2
  have H1 : Hid (∀ W, Calls Tryz.prog 103 #[.string ⟨#[113]⟩] W fun e w' => e = .returned (.agg #[.bool true, .int .u64 0, .string ⟨#[113]⟩]) ∧ Below W.heap.size W w') := hs1
  have H2 : Hid (∀ W, Calls Tryz.prog 103 #[.string (str nm)] W fun e w' => e = .returned (.agg #[.bool true, .int .u64 0, .string (str nm)]) ∧ Below W.heap.size W w') := hs2
  have HK : Hid (∀ W T, W.cell? ⟨0, 0, none⟩ = some (.int .i64 m) → Calls Tryz.prog 125 #[.slice (some ⟨W.heap.size, 0, none⟩) 2 2] (W.alloc (.cells #[.bool true, .int .u64 0, .string ⟨#[113]⟩, .bool true, .int .u64 0, .string (str nm)] T)) fun e w' => e = .returned (.tuple #[.string (str (kS [pS [113], pS nm])), .int .i64 (kE [pS [113], pS nm])]) ∧ Below W.heap.size W w') := fun W T h => keyTwo [113] nm (by decide) hn m W h T
  clear hs1 hs2 hm h0 hn
  go_enter Tryz.func77, Tryz.ntmps77
  go_wp2_with (first
    | (go_at_call 125; refine (HK.out _ _ (HM.out _ (below_step hb1 hb2))).mono ?_; rintro e w3 ⟨rfl, hb3⟩)
    | (go_at_call 103; have tok := hb1; refine (H2.out _).mono ?_; rintro e w2 ⟨rfl, hb2⟩)
    | (go_at_call 103; refine (H1.out _).mono ?_; rintro e w1 ⟨rfl, hb1⟩))
  go_ret2
  exact ⟨rfl, below_step (below_step hb1 hb2) hb3⟩
theorem skeyC_any (nm : List UInt8) (hn : nm.length ≤ 400) (m : Int) (w : World) (hm : w.cell? ⟨0, 0, none⟩ = some (.int .i64 m)) :
    Calls Tryz.prog 159 #[.string (str nm)] w fun e w' => e = .returned (.tuple #[.string (str (kS [pS [99], pS nm])), .int .i64 (kE [pS [99], pS nm])]) ∧ Below w.heap.size w w' := by
  have h0 := World.block_lt_of_cell? _ _ hm
  have HM : Hid (∀ W, Below w.heap.size w W → W.cell? ⟨0, 0, none⟩ = some (.int .i64 m)) := fun W hW => (hW.cell (p := ⟨0, 0, none⟩) h0).trans hm
  have HN := Lib.hid hn
  have hs1 := fun W => strP_any [99] W
  have hs2 := fun W => strP_any nm W
  unfold aggP at hs1 hs2
  have H1 : Hid (∀ W, Calls Tryz.prog 103 #[.string ⟨#[99]⟩] W fun e w' => e = .returned (.agg #[.bool true, .int .u64 0, .string ⟨#[99]⟩]) ∧ Below W.heap.size W w') := hs1
  have H2 : Hid (∀ W, Calls Tryz.prog 103 #[.string (str nm)] W fun e w' => e = .returned (.agg #[.bool true, .int .u64 0, .string (str nm)]) ∧ Below W.heap.size W w') := hs2
  have HK : Hid (∀ W T, W.cell? ⟨0, 0, none⟩ = some (.int .i64 m) → Calls Tryz.prog 125 #[.slice (some ⟨W.heap.size, 0, none⟩) 2 2] (W.alloc (.cells #[.bool true, .int .u64 0, .string ⟨#[99]⟩, .bool true, .int .u64 0, .string (str nm)] T)) fun e w' => e = .returned (.tuple #[.string (str (kS [pS [99], pS nm])), .int .i64 (kE [pS [99], pS nm])]) ∧ Below W.heap.size W w') := fun W T h => keyTwo [99] nm (by decide) hn m W h T
  clear hs1 hs2 hm h0 hn
  go_enter Tryz.func159, Tryz.ntmps159
  go_wp2_with (first
    | (go_at_call 125; refine (HK.out _ _ (HM.out _ (below_step hb1 hb2))).mono ?_; rintro e w3 ⟨rfl, hb3⟩)
    | (go_at_call 103; have tok := hb1; refine (H2.out _).mono ?_; rintro e w2 ⟨rfl, hb2⟩)
    | (go_at_call 103; refine (H1.out _).mono ?_; rintro e w1 ⟨rfl, hb1⟩))
  go_ret2
  exact ⟨rfl, below_step (below_step hb1 hb2) hb3⟩
end Go.Proofs.YtgmneapgihakgaaGreatDoor
/- find and Find of a queue, over a shelf. -/
namespace Go.Proofs.YtgmneapgihakgaaGreatDoor
open Go.RowKit Go.Sort Go.Maps
def zQ0 : Qu := ⟨⟨#[]⟩, 0, 0, 0, ⟨#[]⟩⟩
def fRes (th : Bool) (q : Qu) (re : Int) : Qu × Bool × Int := if th = false then (zQ0, false, 0) else if re ≠ 0 then (zQ0, false, re) else (q, true, 0)
theorem tgOut_res (th : Bool) (q : Qu) (re : Int) : tgOut (.agg #[.string ⟨#[]⟩, .int .u32 0, .int .u64 0, .int .u32 0, .string ⟨#[]⟩]) (aggQ q) th 0 re = .tuple #[aggQ (fRes th q re).1, .bool (fRes th q re).2.1, .int .i64 (fRes th q re).2.2] := by
  unfold tgOut fRes
  cases th
  · rfl
  · by_cases h : re = 0
    · subst h; rfl
    · simp [h]; rfl
def kQ (nm : Txt) : Txt := Ord.key [pS [113], pS nm]
/-- What find answers. -/
def findOut (ks : List Txt) (f : Txt → Txt) (nm : Txt) : Qu × Bool × Int := if (kQ nm).length ≤ 255 then fRes (decide (kQ nm ∈ ks)) (readG zQ (getQ (str nm)) (str (shV ks f (kQ nm)))).1 (readG zQ (getQ (str nm)) (str (shV ks f (kQ nm)))).2 else (zQ0, false, 0)
theorem rrFi {w : World} {g : Nat} {x0 x1 x2 x3 x4 : Value} {b : Bool} {e : Int} {tmps : Array Value} (ht : tmps[4]? = some (.pointer (some ⟨g, 0, none⟩))) (h7 : tmps[5]? = some (.bool b)) (h8 : tmps[6]? = some (.int .i64 e)) (hx : BoxL w g 36 #[x0, x1, x2, x3, x4]) :
    (results Tryz.f74 tmps).run Tryz.prog w = .ok (.tuple #[.agg #[x0, x1, x2, x3, x4], .bool b, .int .i64 e]) w := by
  have h0 := hx.cell (i := 0) rfl
  have h1 := hx.cell (i := 1) rfl
  have h2 := hx.cell (i := 2) rfl
  have h3 := hx.cell (i := 3) rfl
  have h4 := hx.cell (i := 4) rfl
  simp [results, Tryz.results74, go_sem, ht, h7, h8, h0, h1, h2, h3, h4]
theorem rrFI {w : World} {g : Nat} {x0 x1 x2 x3 x4 : Value} {e : Int} {tmps : Array Value} (ht : tmps[4]? = some (.pointer (some ⟨g, 0, none⟩))) (h8 : tmps[5]? = some (.int .i64 e)) (hx : BoxL w g 36 #[x0, x1, x2, x3, x4]) :
    (results Tryz.f15 tmps).run Tryz.prog w = .ok (.tuple #[.agg #[x0, x1, x2, x3, x4], .int .i64 e]) w := by
  have h0 := hx.cell (i := 0) rfl
  have h1 := hx.cell (i := 1) rfl
  have h2 := hx.cell (i := 2) rfl
  have h3 := hx.cell (i := 3) rfl
  have h4 := hx.cell (i := 4) rfl
  simp [results, Tryz.results15, go_sem, ht, h8, h0, h1, h2, h3, h4]
set_option maxHeartbeats 4000000 in
theorem find_any {N : Nat} {M : Nat → Prop} {w : World} {p : Nat} {ks : List Txt} {f : Txt → Txt} (h : ShW N M w p ks f) (nm : Txt) (hn : nm.length ≤ 400) (m : Int) (hm : w.cell? ⟨0, 0, none⟩ = some (.int .i64 m)) :
    Calls Tryz.prog 74 #[.iface 25 (.pointer (some ⟨p, 0, none⟩)), .string (str nm)] w fun e w' => e = .returned (.tuple #[aggQ (findOut ks f nm).1, .bool (findOut ks f nm).2.1, .int .i64 (findOut ks f nm).2.2]) ∧ Below w.heap.size w w' := by
  have h00 := World.block_lt_of_cell? _ _ hm
  have hmf : ∀ (fn : Fn) (first cap : Array Value) (w : World), (Instr.makeFunc fn first cap).run Tryz.prog w = .ok (.func fn first cap) w := fun _ _ _ _ => rfl
  have bA : Below w.heap.size w (w.alloc (.cells #[.string ⟨#[]⟩, .int .u32 0, .int .u64 0, .int .u32 0, .string ⟨#[]⟩] 36)) := (Below.refl _ _).alloc (Nat.le_refl _) _
  have HX := Lib.hid (BoxL.new w #[.string ⟨#[]⟩, .int .u32 0, .int .u64 0, .int .u32 0, .string ⟨#[]⟩] 36)
  have HK := Lib.hid (skeyQ_any nm hn m (w.alloc (.cells #[.string ⟨#[]⟩, .int .u32 0, .int .u64 0, .int .u32 0, .string ⟨#[]⟩] 36)) ((bA.cell (p := ⟨0, 0, none⟩) h00).trans hm))
  have HA := Lib.hid bA
  have HQ := Lib.hid (fun W => queues_any (str nm) W)
  clear bA hm h00
  unfold findOut
  by_cases hk : (kQ nm).length ≤ 255
  · rw [if_pos hk]
    have e1 : kS [pS [113], pS nm] = kQ nm := if_pos hk
    have e2 : kE [pS [113], pS nm] = 0 := if_pos hk
    rw [e1, e2] at HK
    have HT : Hid (∀ W cd, Below w.heap.size w W → CdQ W cd (str nm) → Calls Tryz.prog 169 #[.iface 25 (.pointer (some ⟨p, 0, none⟩)), .string (str (kQ nm)), .func (.func 170) #[cd] #[]] W fun e W' => e = .returned (tgOut (.agg #[.string ⟨#[]⟩, .int .u32 0, .int .u64 0, .int .u32 0, .string ⟨#[]⟩]) (aggQ (readG zQ (getQ (str nm)) (str (shV ks f (kQ nm)))).1) (decide (kQ nm ∈ ks)) 0 (readG zQ (getQ (str nm)) (str (shV ks f (kQ nm)))).2) ∧ Below W.heap.size W W') := fun W cd hb hc =>
      thingQ_any _ (kQ nm) (shV ks f (kQ nm)) _ 0 cd _ _ W (fun W' hb' => askGet_any (h.below (below_step hb hb')) (kQ nm) (by unfold maxLen; omega)) (fun W' hb' => (hc.below hb').read _) (.inl rfl)
    clear e1 e2 h
    generalize hr : readG zQ (getQ (str nm)) (str (shV ks f (kQ nm))) = rr at HT ⊢
    clear hr
    rw [tgOut_res] at HT
    generalize fRes (decide (kQ nm ∈ ks)) rr.1 rr.2 = r at HT ⊢
    obtain ⟨q, b, e⟩ := r
    unfold aggQ at HT ⊢
    simp only at HT ⊢
    go_enter Tryz.func74, Tryz.ntmps74
    go_wp2_with (first
      | (go_at_call 77; refine HK.out.mono ?_; rintro e1 w1 ⟨rfl, hb1⟩)
      | (go_at_call 89; refine (HQ.out _).mono ?_; rintro e2 w2 ⟨cd, rfl, hcd, hb2⟩)
      | (go_at_call 169; refine (HT.out _ _ (below_step HA.out (below_step hb1 hb2)) hcd).mono ?_; rintro e3 w3 ⟨rfl, hb3⟩; have x1 := ((HX.out.below hb1 HX.out.lt).below hb2 (HX.out.below hb1 HX.out.lt).lt).below hb3 ((HX.out.below hb1 HX.out.lt).below hb2 (HX.out.below hb1 HX.out.lt).lt).lt; have f1 := x1.frozen; have q0 := x1.cell (i := 0) rfl; have q1 := x1.cell (i := 1) rfl; have q2 := x1.cell (i := 2) rfl; have q3 := x1.cell (i := 3) rfl; have q4 := x1.cell (i := 4) rfl))
    have xs := (((((x1.set 0 (.string q.nm)).set 1 (.int .u32 q.most)).set 2 (.int .u64 q.ttl)).set 3 (.int .u32 q.tries)).set 4 (.string q.dead))
    exact bodyPost_ret_by (rrFi rfl rfl rfl xs) rfl ⟨rfl, below_sets (below_step HA.out (below_step (below_step hb1 hb2) hb3)) (Nat.le_refl _)⟩
  · rw [if_neg hk]
    have e1 : kS [pS [113], pS nm] = [] := if_neg hk
    have e2 : kE [pS [113], pS nm] = 5 := if_neg hk
    rw [e1, e2] at HK
    clear e1 e2 h hk
    go_enter Tryz.func74, Tryz.ntmps74
    go_wp2_with (go_at_call 77; refine HK.out.mono ?_; rintro e1 w1 ⟨rfl, hb1⟩; have x1 := HX.out.below hb1 HX.out.lt; have f1 := x1.frozen; have q0 := x1.cell (i := 0) rfl; have q1 := x1.cell (i := 1) rfl; have q2 := x1.cell (i := 2) rfl; have q3 := x1.cell (i := 3) rfl; have q4 := x1.cell (i := 4) rfl)
    have xs := (((((x1.set 0 (.string ⟨#[]⟩)).set 1 (.int .u32 0)).set 2 (.int .u64 0)).set 3 (.int .u32 0)).set 4 (.string ⟨#[]⟩))
    exact bodyPost_ret_by (rrFi rfl rfl rfl xs) rfl ⟨rfl, below_sets (below_step HA.out hb1) (Nat.le_refl _)⟩
/-- What Find tells: with what find answers, none where it isn't there. -/
def fiE (b : Bool) (e : Int) : Int := if e = 0 ∧ b = false then 21 else e
set_option maxHeartbeats 4000000 in
theorem Find_any {N : Nat} {M : Nat → Prop} {w : World} {p : Nat} {ks : List Txt} {f : Txt → Txt} (h : ShW N M w p ks f) (nm : Txt) (hn : nm.length ≤ 400) (m : Int) (hm : w.cell? ⟨0, 0, none⟩ = some (.int .i64 m)) :
    Calls Tryz.prog 15 #[.iface 25 (.pointer (some ⟨p, 0, none⟩)), .string (str nm)] w fun e w' => e = .returned (.tuple #[aggQ (findOut ks f nm).1, .int .i64 (fiE (findOut ks f nm).2.1 (findOut ks f nm).2.2)]) ∧ Below w.heap.size w w' := by
  have h00 := World.block_lt_of_cell? _ _ hm
  have bA : Below w.heap.size w (w.alloc (.cells #[.string ⟨#[]⟩, .int .u32 0, .int .u64 0, .int .u32 0, .string ⟨#[]⟩] 36)) := (Below.refl _ _).alloc (Nat.le_refl _) _
  have HX := Lib.hid (BoxL.new w #[.string ⟨#[]⟩, .int .u32 0, .int .u64 0, .int .u32 0, .string ⟨#[]⟩] 36)
  have HF := Lib.hid (find_any (h.below bA) nm hn m ((bA.cell (p := ⟨0, 0, none⟩) h00).trans hm))
  have HA := Lib.hid bA
  clear bA hm h00 h
  revert HF
  generalize findOut ks f nm = r
  intro HF
  obtain ⟨q, b, e⟩ := r
  unfold aggQ at HF ⊢
  simp only at HF ⊢
  have fin : ∀ e' w1, Below (w.alloc (.cells #[.string ⟨#[]⟩, .int .u32 0, .int .u64 0, .int .u32 0, .string ⟨#[]⟩] 36)).heap.size (w.alloc (.cells #[.string ⟨#[]⟩, .int .u32 0, .int .u64 0, .int .u32 0, .string ⟨#[]⟩] 36)) w1 → Hid (BoxL (w1.alloc (.cells #[.string q.nm, .int .u32 q.most, .int .u64 q.ttl, .int .u32 q.tries, .string q.dead] 36)) w.heap.size 36 #[.string ⟨#[]⟩, .int .u32 0, .int .u64 0, .int .u32 0, .string ⟨#[]⟩] ∧ Below w.heap.size w (w1.alloc (.cells #[.string q.nm, .int .u32 q.most, .int .u64 q.ttl, .int .u32 q.tries, .string q.dead] 36)) ∧ fiE b e = e') → fiE b e = e' := fun _ _ _ h => h.out.2.2
  clear fin
  by_cases he : e = 0
  · subst he
    cases b
    all_goals
      go_enter Tryz.func15, Tryz.ntmps15
      go_wp2_with (go_at_call 74; refine HF.out.mono ?_; rintro e1 w1 ⟨rfl, hb1⟩; have x0 := HX.out.below hb1 HX.out.lt; have x1 := x0.alloc (.cells #[.string q.nm, .int .u32 q.most, .int .u64 q.ttl, .int .u32 q.tries, .string q.dead] 36); have f1 := x1.frozen; have q0 := x1.cell (i := 0) rfl; have q1 := x1.cell (i := 1) rfl; have q2 := x1.cell (i := 2) rfl; have q3 := x1.cell (i := 3) rfl; have q4 := x1.cell (i := 4) rfl)
      have xs := (((((x1.set 0 (.string q.nm)).set 1 (.int .u32 q.most)).set 2 (.int .u64 q.ttl)).set 3 (.int .u32 q.tries)).set 4 (.string q.dead))
      exact bodyPost_ret_by (rrFI rfl rfl xs) rfl ⟨rfl, below_sets ((below_step HA.out hb1).trans (((Below.refl _ _).alloc (Nat.le_refl _) _).mono (below_step HA.out hb1).size)) (Nat.le_refl _)⟩
  · have hb : (e != 0) = true := by simpa using he
    have hb' : (e == 0) = false := by simpa using he
    have e2 : fiE b e = e := by unfold fiE; rw [if_neg (fun h => he h.1)]
    rw [e2]
    clear he e2
    go_enter Tryz.func15, Tryz.ntmps15
    go_wp2_with (go_at_call 74; refine HF.out.mono ?_; rintro e1 w1 ⟨rfl, hb1⟩; have x0 := HX.out.below hb1 HX.out.lt; have x1 := x0.alloc (.cells #[.string q.nm, .int .u32 q.most, .int .u64 q.ttl, .int .u32 q.tries, .string q.dead] 36); have f1 := x1.frozen; have q0 := x1.cell (i := 0) rfl; have q1 := x1.cell (i := 1) rfl; have q2 := x1.cell (i := 2) rfl; have q3 := x1.cell (i := 3) rfl; have q4 := x1.cell (i := 4) rfl)
    have xs := (((((x1.set 0 (.string q.nm)).set 1 (.int .u32 q.most)).set 2 (.int .u64 q.ttl)).set 3 (.int .u32 q.tries)).set 4 (.string q.dead))
    exact bodyPost_ret_by (rrFI rfl rfl xs) rfl ⟨rfl, below_sets ((below_step HA.out hb1).trans (((Below.refl _ _).alloc (Nat.le_refl _) _).mono (below_step HA.out hb1).size)) (Nat.le_refl _)⟩
end Go.Proofs.YtgmneapgihakgaaGreatDoor
/- Next: a counter's next number, over a shelf. -/
namespace Go.Proofs.YtgmneapgihakgaaGreatDoor
open Go.RowKit Go.Sort Go.Maps
def kC (nm : Txt) : Txt := Ord.key [pS [99], pS nm]
def uRes (th : Bool) (n : Nat) (re : Int) : Nat × Bool × Int := if th = false then (0, false, 0) else if re ≠ 0 then (0, false, re) else (n, true, 0)
theorem tgOut_resU (th : Bool) (n : Nat) (re : Int) : tgOut (.int .u64 0) (.int .u64 n) th 0 re = .tuple #[.int .u64 (uRes th n re).1, .bool (uRes th n re).2.1, .int .i64 (uRes th n re).2.2] := by
  unfold tgOut uRes
  cases th
  · rfl
  · by_cases h : re = 0
    · subst h; rfl
    · simp [h]
/-- What stands under a counter's key. -/
def cntOut (ks : List Txt) (f : Txt → Txt) (nm : Txt) : Nat × Bool × Int := uRes (decide (kC nm ∈ ks)) (readG 0 getU (str (shV ks f (kC nm)))).1 (readG 0 getU (str (shV ks f (kC nm)))).2
theorem big8_len (n : Nat) : (1 :: Oc.big 8 n).length ≤ 65536 := by rw [List.length_cons, Oc.big_length]; decide
set_option maxHeartbeats 4000000 in
theorem next_long {w : World} (sv : Value) (nm : Txt) (hn : nm.length ≤ 400) (m : Int) (hm : w.cell? ⟨0, 0, none⟩ = some (.int .i64 m)) (hk : ¬ (kC nm).length ≤ 255) :
    Calls Tryz.prog 67 #[sv, .string (str nm)] w fun e w' => e = .returned (.tuple #[.int .u64 0, .int .i64 5]) ∧ Below w.heap.size w w' := by
  have HK := Lib.hid (skeyC_any nm hn m w hm)
  have e1 : kS [pS [99], pS nm] = [] := if_neg hk
  have e2 : kE [pS [99], pS nm] = 5 := if_neg hk
  rw [e1, e2] at HK
  clear e1 e2 hm hk
  go_enter Tryz.func67, Tryz.ntmps67
  go_wp2_with (go_at_call 159; refine HK.out.mono ?_; rintro e w1 ⟨rfl, hb1⟩)
  go_ret2
  exact ⟨rfl, hb1⟩
set_option maxHeartbeats 4000000 in
theorem next_any {N : Nat} {M : Nat → Prop} {w : World} {p : Nat} {ks : List Txt} {f : Txt → Txt} (h : ShW N M w p ks f) (hN : N ≤ 80000) (nm : Txt) (hn : nm.length ≤ 400) (m : Int) (hm : w.cell? ⟨0, 0, none⟩ = some (.int .i64 m)) (hk : (kC nm).length ≤ 255) (hlt : (cntOut ks f nm).1 < 18446744073709551616) :
    Calls Tryz.prog 67 #[.iface 25 (.pointer (some ⟨p, 0, none⟩)), .string (str nm)] w fun e w' =>
      (((cntOut ks f nm).2.2 ≠ 0 ∧ e = .returned (.tuple #[.int .u64 0, .int .i64 (cntOut ks f nm).2.2]) ∧ Below w.heap.size w w')
      ∨ ((cntOut ks f nm).2.2 = 0 ∧ (cntOut ks f nm).1 = 18446744073709551615 ∧ e = .returned (.tuple #[.int .u64 0, .int .i64 8]) ∧ Below w.heap.size w w')
      ∨ ((cntOut ks f nm).2.2 = 0 ∧ (cntOut ks f nm).1 < 18446744073709551615 ∧ e = .returned (.tuple #[.int .u64 ((cntOut ks f nm).1 + 1 : Nat), .int .i64 0]) ∧ ∃ M' ks', addS ks (kC nm) ks' ∧ ShW (N + 1) M' w' p ks' (putF f (kC nm) (1 :: Oc.big 8 ((cntOut ks f nm).1 + 1))) ∧ Went M M' w w')) := by
  have hmf : ∀ (fn : Fn) (first cap : Array Value) (w : World), (Instr.makeFunc fn first cap).run Tryz.prog w = .ok (.func fn first cap) w := fun _ _ _ _ => rfl
  have HK := Lib.hid (skeyC_any nm hn m w hm)
  have e1 : kS [pS [99], pS nm] = kC nm := if_pos hk
  have e2 : kE [pS [99], pS nm] = 0 := if_pos hk
  rw [e1, e2] at HK
  have HU := Lib.hid (fun W => counters_any W)
  have HKL := Lib.hid hk
  have HT : Hid (∀ W cd, Below w.heap.size w W → CdU W cd → Calls Tryz.prog 160 #[.iface 25 (.pointer (some ⟨p, 0, none⟩)), .string (str (kC nm)), .func (.func 162) #[cd] #[]] W fun e W' => e = .returned (.tuple #[.int .u64 (cntOut ks f nm).1, .bool (cntOut ks f nm).2.1, .int .i64 (cntOut ks f nm).2.2]) ∧ Below W.heap.size W W') := fun W cd hb hc => by
    unfold cntOut
    rw [← tgOut_resU]
    exact thingU_any _ (kC nm) (shV ks f (kC nm)) _ 0 cd _ _ W (askGet_any (h.below hb) (kC nm) (by unfold maxLen; omega)) (fun W' hb' => VerU.read (hc.below hb') _) (.inl rfl)
  have HP : Hid (∀ W x, Below w.heap.size w W → x.length ≤ 65536 → Calls Tryz.prog 81 #[.iface 25 (.pointer (some ⟨p, 0, none⟩)), .string (str (kC nm)), .string (str x)] W fun e w' => e = .returned (.int .i64 0) ∧ ∃ M' ks', addS ks (kC nm) ks' ∧ ShW (N + 1) M' w' p ks' (putF f (kC nm) x) ∧ Went M M' w w') := fun W x hb hx =>
    (askPut_any (h.below hb) hN (kC nm) x hk hx).mono (fun e w' ⟨h1, M', ks', h2, h3, h4⟩ => ⟨h1, M', ks', h2, h3, h4.pre hb⟩)
  clear e1 e2 hm hk h
  revert HT hlt
  generalize cntOut ks f nm = r
  intro hlt HT
  obtain ⟨c, b, e⟩ := r
  simp only at HT hlt ⊢
  by_cases he : e = 0
  · subst he
    by_cases hc : c = 18446744073709551615
    · subst hc
      go_enter Tryz.func67, Tryz.ntmps67
      go_wp2_with (first
        | (go_at_call 159; refine HK.out.mono ?_; rintro e1 w1 ⟨rfl, hb1⟩)
        | (go_at_call 161; refine (HU.out _).mono ?_; rintro e2 w2 ⟨cd, rfl, hcd, hb2⟩)
        | (go_at_call 160; refine (HT.out _ _ (below_step hb1 hb2) hcd).mono ?_; rintro e3 w3 ⟨rfl, hb3⟩))
      go_ret2
      exact .inr (.inl ⟨by trivial, by trivial, by trivial, below_step (below_step hb1 hb2) hb3⟩)
    · have hb : ((c : Int) == 18446744073709551615) = false := by simp; omega
      have HC : Hid (c < 18446744073709551615) := by show _ < _; omega
      have hw : IntKind.u64.wrap ((c : Int) + 1) = ((c + 1 : Nat) : Int) := by simp [IntKind.wrap, IntKind.bits, IntKind.signed]; omega
      have HUB := Lib.hid (fun W v (hv : CdU W v) => VerU.bytes hv (c + 1) (by omega))
      have HC1 := Lib.hid hc
      clear hc
      go_enter Tryz.func67, Tryz.ntmps67
      go_wp2_with (first
        | (go_at_call 81; refine (HP.out _ _ (below_step (below_step (below_step (below_step hb1 hb2) hb3) hb4) hb5) (big8_len _)).mono ?_; rintro e6 w6 ⟨rfl, hq⟩; have HQ := Lib.hid hq; clear hq)
        | (go_at_call 159; refine HK.out.mono ?_; rintro e1 w1 ⟨rfl, hb1⟩)
        | (go_at_call 163; refine (HUB.out _ _ hcd4).mono ?_; rintro e5 w5 ⟨rfl, hb5⟩)
        | (go_at_call 161; have tok := hb3; refine (HU.out _).mono ?_; rintro e4 w4 ⟨cd4, rfl, hcd4, hb4⟩)
        | (go_at_call 161; refine (HU.out _).mono ?_; rintro e2 w2 ⟨cd, rfl, hcd, hb2⟩)
        | (go_at_call 160; refine (HT.out _ _ (below_step hb1 hb2) hcd).mono ?_; rintro e3 w3 ⟨rfl, hb3⟩))
      go_ret2
      exact .inr (.inr ⟨by trivial, HC.out, by trivial, HQ.out⟩)
  · have hb : (e != 0) = true := by simpa using he
    have HE := Lib.hid he
    clear he
    go_enter Tryz.func67, Tryz.ntmps67
    go_wp2_with (first
      | (go_at_call 159; refine HK.out.mono ?_; rintro e1 w1 ⟨rfl, hb1⟩)
      | (go_at_call 161; refine (HU.out _).mono ?_; rintro e2 w2 ⟨cd, rfl, hcd, hb2⟩)
      | (go_at_call 160; refine (HT.out _ _ (below_step hb1 hb2) hcd).mono ?_; rintro e3 w3 ⟨rfl, hb3⟩))
    go_ret2
    exact .inl ⟨HE.out, rfl, below_step (below_step hb1 hb2) hb3⟩
end Go.Proofs.YtgmneapgihakgaaGreatDoor
/- Words of a text, whether a pattern means a key, and that the way by the last # alone tells just that. -/
namespace Go.Proofs.YtgmneapgihakgaaGreatDoor.Tp
abbrev Txt := List UInt8
/-- The parts of a text between its points. -/
def parts : Txt → List Txt
  | [] => [[]]
  | c :: t => if c = 46 then [] :: parts t else match parts t with
    | [] => [[c]]
    | h :: r => (c :: h) :: r
def words (s : Txt) : List Txt := if s = [] then [] else parts s
theorem parts_ne : ∀ s, parts s ≠ []
  | [] => by simp [parts]
  | c :: t => by
    unfold parts
    split
    · simp
    · split <;> simp
/-- What stands ahead of a point, behind it, and is there one? -/
def hd (s : Txt) : Txt := s.takeWhile (fun c => c != 46)
def tl (s : Txt) : Txt := (s.dropWhile (fun c => c != 46)).drop 1
def pt (s : Txt) : Bool := s.contains 46
theorem parts_step : ∀ s, parts s = hd s :: (if pt s then parts (tl s) else [])
  | [] => by simp [parts, hd, pt]
  | c :: t => by
    have ih := parts_step t
    by_cases hc : c = 46
    · subst hc
      simp [parts, hd, pt, tl]
    · have h1 : (c != 46) = true := by simpa using hc
      have e1 : hd (c :: t) = c :: hd t := by simp [hd, h1]
      have e2 : tl (c :: t) = tl t := by simp [tl, h1]
      have e3 : pt (c :: t) = pt t := by
        unfold pt; simp [Ne.symm hc]
      rw [parts, if_neg hc, ih, e1, e2, e3]
theorem parts_len : ∀ s, (parts s).length ≤ s.length + 1
  | [] => by simp [parts]
  | c :: t => by
    have ih := parts_len t
    unfold parts
    split
    · simp; omega
    · split
      · simp
      · rename_i h r e; rw [e] at ih; simp at ih ⊢; omega
theorem words_len (s : Txt) : (words s).length ≤ s.length + 1 := by
  unfold words
  split
  · simp
  · exact parts_len s
theorem parts_sum : ∀ s, ∀ x ∈ parts s, x.length ≤ s.length
  | [], x, h => by simp [parts] at h; simp [h]
  | c :: t, x, h => by
    have ih := parts_sum t
    unfold parts at h
    split at h
    · rcases List.mem_cons.1 h with rfl | h
      · simp
      · have := ih x h; simp; omega
    · split at h
      · simp at h; subst h; simp
      · rename_i e
        rcases List.mem_cons.1 h with rfl | h
        · have := ih _ (by rw [e]; exact List.mem_cons_self ..); simp; omega
        · have := ih x (by rw [e]; exact List.mem_cons_of_mem _ h); simp; omega
theorem words_sum (s : Txt) : ∀ x ∈ words s, x.length ≤ s.length := fun x h => by
  unfold words at h; split at h
  · simp at h
  · exact parts_sum s x h
/-- Parts of a row that goes on behind a beginning of its first. -/
def onto (w : Txt) (l : List Txt) : List Txt := match l with
  | [] => [w]
  | h :: r => (w ++ h) :: r
theorem onto_point (w : Txt) (t : Txt) : onto w (parts (46 :: t)) = w :: onto [] (parts t) := by
  have := parts_ne t
  rw [parts, if_pos rfl]
  simp only [onto, List.append_nil]
  cases h : parts t with
  | nil => exact absurd h this
  | cons a r => rfl
theorem onto_other (w : Txt) (c : UInt8) (t : Txt) (h : c ≠ 46) : onto w (parts (c :: t)) = onto (w ++ [c]) (parts t) := by
  have := parts_ne t
  rw [parts, if_neg h]
  cases h : parts t with
  | nil => exact absurd h this
  | cons a r => simp [onto]
theorem onto_nil (w : Txt) : onto w (parts []) = [w] := by simp [parts, onto]
theorem onto_none (s : Txt) : onto [] (parts s) = parts s := by
  have := parts_ne s
  cases h : parts s with
  | nil => exact absurd h this
  | cons a r => rfl
/-- Parts of two texts with a point between. -/
theorem parts_join : ∀ (a b : Txt), parts (a ++ 46 :: b) = parts a ++ parts b
  | [], b => by simp [parts]
  | c :: t, b => by
    have ih := parts_join t b
    by_cases hc : c = 46
    · simp [parts, hc, ih]
    · rw [List.cons_append, parts, if_neg hc, ih, parts, if_neg hc]
      have := parts_ne t
      cases h : parts t with
      | nil => exact absurd h this
      | cons x r => rfl
theorem words_of_ne {s : Txt} (h : s ≠ []) : words s = parts s := by unfold words; rw [if_neg h]
theorem words_nil : words [] = [] := by simp [words]
abbrev STAR : Txt := [42]
abbrev HASH : Txt := [35]
/-- Whether a pattern's words mean a key's. -/
def mt : List Txt → List Txt → Bool
  | [], k => k.isEmpty
  | p :: ps, k => if p = HASH then (List.range (k.length + 1)).any (fun i => mt ps (k.drop i)) else match k with
    | [] => false
    | x :: xs => (p == STAR || p == x) && mt ps xs
theorem mt_hash1 (ps k : List Txt) : mt (HASH :: ps) k = (List.range (k.length + 1)).any (fun i => mt ps (k.drop i)) := by
  cases k <;> rfl
theorem mt_hash (ps k : List Txt) : mt (HASH :: ps) k = true ↔ ∃ i, i ≤ k.length ∧ mt ps (k.drop i) = true := by
  rw [mt_hash1, List.any_eq_true]
  constructor
  · rintro ⟨i, hi, h⟩; exact ⟨i, by have := List.mem_range.1 hi; omega, h⟩
  · rintro ⟨i, hi, h⟩; exact ⟨i, List.mem_range.2 (by omega), h⟩
theorem mt_one {p x : Txt} {ps xs : List Txt} (hp : p ≠ HASH) : mt (p :: ps) (x :: xs) = ((p == STAR || p == x) && mt ps xs) := by
  rw [mt, if_neg hp]
theorem mt_none {p : Txt} {ps : List Txt} (hp : p ≠ HASH) : mt (p :: ps) [] = false := by
  rw [mt, if_neg hp]
theorem mt_nil (k : List Txt) : mt [] k = k.isEmpty := rfl
/-- A row without # takes as many words as it has. -/
theorem mt_run : ∀ (a b k : List Txt), (∀ x ∈ a, x ≠ HASH) → mt (a ++ b) k = true → a.length ≤ k.length ∧ mt b (k.drop a.length) = true
  | [], b, k, _, h => ⟨Nat.zero_le _, by simpa using h⟩
  | p :: a, b, k, hn, h => by
    have hp := hn p (List.mem_cons_self ..)
    cases k with
    | nil => rw [List.cons_append, mt_none hp] at h; cases h
    | cons x xs =>
      rw [List.cons_append, mt_one hp, Bool.and_eq_true] at h
      have := mt_run a b xs (fun y hy => hn y (List.mem_cons_of_mem _ hy)) h.2
      exact ⟨by simp; omega, by simpa using this.2⟩
/-- What the way holds: the pattern from 'at' on against the key from i on, or, of the last #, one word more at least. -/
structure Way (p k : List Txt) (at' i last taken : Nat) : Prop where
  hat : at' ≤ p.length
  hi : i ≤ k.length
  ht : taken ≤ i
  low : last ≤ at'
  none : last = 0 → (mt p k = mt (p.drop at') (k.drop i))
  hash : last ≠ 0 → p[last - 1]? = some HASH ∧ i - taken = at' - last ∧ (∀ j x, last ≤ j → j < at' → p[j]? = some x → x ≠ HASH) ∧ (mt p k = true ↔ mt (p.drop at') (k.drop i) = true ∨ ∃ j, taken < j ∧ j ≤ k.length ∧ mt (p.drop last) (k.drop j) = true)
theorem Way.start (p k : List Txt) : Way p k 0 0 0 0 :=
  ⟨Nat.zero_le _, Nat.zero_le _, Nat.le_refl _, Nat.le_refl _, fun _ => by simp, fun h => absurd rfl h⟩
theorem drop_at {l : List Txt} {i : Nat} {x : Txt} (h : l[i]? = some x) : l.drop i = x :: l.drop (i + 1) := by
  have hl := (List.getElem?_eq_some_iff.1 h).1
  rw [List.drop_eq_getElem_cons hl, (List.getElem?_eq_some_iff.1 h).2]
/-- The words from 'last' to 'at' go on with those from 'at' on. -/
theorem drop_mid {l : List Txt} {a b : Nat} (h : a ≤ b) : l.drop a = (l.drop a).take (b - a) ++ l.drop b := by
  have e : l.drop b = (l.drop a).drop (b - a) := by rw [List.drop_drop]; congr 1; omega
  rw [e, List.take_append_drop]
theorem Way.mid {p k : List Txt} {at' i last taken : Nat} (h : Way p k at' i last taken) (h0 : last ≠ 0) {j : Nat} (hm : mt (p.drop last) (k.drop j) = true) :
    j + (at' - last) ≤ k.length ∨ k.length < j ∧ at' = last := by
  have hh := h.hash h0
  rw [drop_mid h.low] at hm
  have := mt_run _ _ _ (fun x hx => by
    obtain ⟨m, hm⟩ := List.mem_iff_getElem?.1 hx
    have hl := (List.getElem?_eq_some_iff.1 hm).1
    rw [List.length_take] at hl
    rw [List.getElem?_take_of_lt (by omega), List.getElem?_drop] at hm
    exact hh.2.2.1 (last + m) x (by omega) (by omega) hm) hm
  have hl := this.1
  rw [List.length_take, List.length_drop, List.length_drop] at hl
  have := h.hat
  by_cases hj : k.length < j
  · exact .inr ⟨hj, by have := h.low; omega⟩
  · left; omega
theorem Way.midm {p k : List Txt} {at' i last taken : Nat} (h : Way p k at' i last taken) (h0 : last ≠ 0) {j : Nat} (hm : mt (p.drop last) (k.drop j) = true) :
    mt (p.drop at') (k.drop (j + (at' - last))) = true := by
  have hh := h.hash h0
  rw [drop_mid h.low] at hm
  have := mt_run _ _ _ (fun x hx => by
    obtain ⟨m, hm⟩ := List.mem_iff_getElem?.1 hx
    have hl := (List.getElem?_eq_some_iff.1 hm).1
    rw [List.length_take] at hl
    rw [List.getElem?_take_of_lt (by omega), List.getElem?_drop] at hm
    exact hh.2.2.1 (last + m) x (by omega) (by omega) hm) hm
  have h2 := this.2
  have := h.hat
  rw [List.length_take, List.length_drop, show min (at' - last) (p.length - last) = at' - last by omega, List.drop_drop] at h2
  exact h2
/-- At a #. -/
theorem Way.atHash {p k : List Txt} {at' i last taken : Nat} (h : Way p k at' i last taken) (hp : p[at']? = some HASH) : Way p k (at' + 1) i (at' + 1) i := by
  have hl := (List.getElem?_eq_some_iff.1 hp).1
  refine ⟨by omega, h.hi, Nat.le_refl _, Nat.le_refl _, fun e => by omega, fun _ => ⟨hp, by omega, fun j x h1 h2 => by omega, ?_⟩⟩
  have key : mt (p.drop at') (k.drop i) = true ↔ (mt (p.drop (at' + 1)) (k.drop i) = true ∨ ∃ j, i < j ∧ j ≤ k.length ∧ mt (p.drop (at' + 1)) (k.drop j) = true) := by
    rw [drop_at hp, mt_hash]
    constructor
    · rintro ⟨m, hm, hx⟩
      rw [List.drop_drop] at hx
      rw [List.length_drop] at hm
      cases m with
      | zero => left; simpa using hx
      | succ m => exact .inr ⟨i + (m + 1), by omega, by have := h.hi; omega, hx⟩
    · rintro (hx | ⟨j, h1, h2, hx⟩)
      · exact ⟨0, Nat.zero_le _, by simpa using hx⟩
      · exact ⟨j - i, by rw [List.length_drop]; omega, by rw [List.drop_drop, show i + (j - i) = j by omega]; exact hx⟩
  by_cases h0 : last = 0
  · rw [h.none h0, key]
  · have hh := h.hash h0
    rw [hh.2.2.2, key]
    constructor
    · rintro (hx | ⟨j, h1, h2, hx⟩)
      · exact hx
      · have hr := h.midm h0 hx
        have hroom := h.mid h0 hx
        rw [drop_at hp, mt_hash] at hr
        obtain ⟨m, hm, hr⟩ := hr
        rw [List.drop_drop] at hr
        rw [List.length_drop] at hm
        have e := hh.2.1
        have := h.ht
        exact .inr ⟨j + (at' - last) + m, by omega, by omega, hr⟩
    · exact fun hx => .inl hx
theorem Way.one {p k : List Txt} {at' i last taken : Nat} (h : Way p k at' i last taken) {x y : Txt} (hp : p[at']? = some x) (hk : k[i]? = some y) (hn : x ≠ HASH) (hx : x = STAR ∨ x = y) : Way p k (at' + 1) (i + 1) last taken := by
  have hl := (List.getElem?_eq_some_iff.1 hp).1
  have hl2 := (List.getElem?_eq_some_iff.1 hk).1
  have e : mt (p.drop at') (k.drop i) = mt (p.drop (at' + 1)) (k.drop (i + 1)) := by
    rw [drop_at hp, drop_at hk, mt_one hn]
    have : (x == STAR || x == y) = true := by rcases hx with h | h <;> simp [h]
    rw [this, Bool.true_and]
  have := h.ht
  have := h.low
  refine ⟨by omega, by omega, by omega, by omega, fun h0 => by rw [h.none h0, e], fun h0 => ?_⟩
  have hh := h.hash h0
  refine ⟨hh.1, by omega, fun j z h1 h2 hz => ?_, by rw [hh.2.2.2, e]⟩
  by_cases hj : j < at'
  · exact hh.2.2.1 j z h1 hj hz
  · obtain rfl : j = at' := by omega
    rw [hp] at hz; cases hz; exact hn
/-- Where words don't fit. -/
theorem Way.stuck {p k : List Txt} {at' i last taken : Nat} (_h : Way p k at' i last taken) (hi : i < k.length) (hbad : at' = p.length ∨ ∃ x y, p[at']? = some x ∧ k[i]? = some y ∧ x ≠ HASH ∧ x ≠ STAR ∧ x ≠ y) : mt (p.drop at') (k.drop i) = false := by
  have hk : k[i]? = some k[i] := List.getElem?_eq_getElem hi
  rcases hbad with rfl | ⟨x, y, h1, h2, h3, h4, h5⟩
  · rw [List.drop_eq_nil_of_le (Nat.le_refl _), mt_nil, drop_at hk]; rfl
  · rw [drop_at h1, drop_at h2, mt_one h3]
    have : (x == STAR || x == y) = false := by simp [h4, h5]
    rw [this, Bool.false_and]
theorem Way.more {p k : List Txt} {at' i last taken : Nat} (h : Way p k at' i last taken) (h0 : last ≠ 0) (hi : i < k.length) (hbad : at' = p.length ∨ ∃ x y, p[at']? = some x ∧ k[i]? = some y ∧ x ≠ HASH ∧ x ≠ STAR ∧ x ≠ y) : Way p k last (taken + 1) last (taken + 1) := by
  have hb := h.stuck hi hbad
  have hh := h.hash h0
  have := h.ht
  have := h.low
  have := h.hat
  refine ⟨by omega, by omega, Nat.le_refl _, Nat.le_refl _, fun e => absurd e h0, fun _ => ⟨hh.1, by omega, fun j x h1 h2 => by omega, ?_⟩⟩
  rw [hh.2.2.2, hb]
  constructor
  · rintro (hx | ⟨j, h1, h2, hx⟩)
    · cases hx
    · by_cases e : j = taken + 1
      · subst e; exact .inl hx
      · exact .inr ⟨j, by omega, h2, hx⟩
  · rintro (hx | ⟨j, h1, h2, hx⟩)
    · exact .inr ⟨taken + 1, by omega, by omega, hx⟩
    · exact .inr ⟨j, by omega, h2, hx⟩
theorem Way.no {p k : List Txt} {at' i taken : Nat} (h : Way p k at' i 0 taken) (hi : i < k.length) (hbad : at' = p.length ∨ ∃ x y, p[at']? = some x ∧ k[i]? = some y ∧ x ≠ HASH ∧ x ≠ STAR ∧ x ≠ y) : mt p k = false := by
  rw [h.none rfl, h.stuck hi hbad]
/-- Of no word: just what is # all along. -/
theorem mt_empty : ∀ p : List Txt, mt p [] = p.all (fun x => decide (x = HASH))
  | [] => rfl
  | x :: t => by
    by_cases hx : x = HASH
    · subst hx
      rw [mt, if_pos rfl]
      simp [mt_empty t]
    · rw [mt_none hx]; simp [hx]
theorem Way.done {p k : List Txt} {at' last taken : Nat} (h : Way p k at' k.length last taken) : mt p k = (p.drop at').all (fun x => decide (x = HASH)) := by
  rw [← mt_empty]
  have e : k.drop k.length = [] := by simp
  by_cases h0 : last = 0
  · rw [h.none h0, e]
  · have hh := h.hash h0
    rw [e] at hh
    rw [Bool.eq_iff_iff, hh.2.2.2]
    constructor
    · rintro (hx | ⟨j, h1, h2, hx⟩)
      · exact hx
      · exfalso
        have := h.mid h0 hx
        have := h.ht
        have := hh.2.1
        omega
    · exact fun hx => .inl hx
/-- What is left of # alone, step by step. -/
theorem all_hash {p : List Txt} {j : Nat} (h : p[j]? = some HASH) : (p.drop j).all (fun x => decide (x = HASH)) = (p.drop (j + 1)).all (fun x => decide (x = HASH)) := by
  rw [drop_at h]; simp
theorem all_other {p : List Txt} {j : Nat} {x : Txt} (h : p[j]? = some x) (hx : x ≠ HASH) : (p.drop j).all (fun x => decide (x = HASH)) = false := by
  rw [drop_at h]; simp [hx]
theorem all_end (p : List Txt) : (p.drop p.length).all (fun x => decide (x = HASH)) = true := by simp
/-- Names. -/
def plainB (b : UInt8) : Bool := decide (97 ≤ b ∧ b ≤ 122) || decide (65 ≤ b ∧ b ≤ 90) || decide (48 ≤ b ∧ b ≤ 57) || decide (b = 45) || decide (b = 95)
def nameB (s : Txt) : Bool := decide (s ≠ []) && decide (s.length ≤ 32) && s.all plainB
def keyB (s : Txt) : Bool := decide ((words s).length ≤ 8) && (words s).all nameB
def wordB (w : Txt) : Bool := decide (w = STAR) || decide (w = HASH) || nameB w
def patB (s : Txt) : Bool := decide ((words s).length ≤ 8) && (words s).all wordB
theorem name_not {w : Txt} (h : nameB w = true) : w ≠ HASH ∧ w ≠ STAR := by
  constructor <;> (rintro rfl; revert h; decide)
/-- A key matches itself. -/
theorem mt_self : ∀ k : List Txt, (∀ x ∈ k, x ≠ HASH) → mt k k = true
  | [], _ => rfl
  | x :: t, h => by
    rw [mt_one (h x (List.mem_cons_self ..)), mt_self t (fun y hy => h y (List.mem_cons_of_mem _ hy))]
    simp
theorem mt_hashes (k : List Txt) : mt [HASH] k = true := (mt_hash [] k).2 ⟨k.length, Nat.le_refl _, by simp [mt_nil]⟩
theorem star_ne : STAR ≠ HASH := by decide
theorem mt_stars : ∀ (n : Nat) (k : List Txt), mt (List.replicate n STAR) k = decide (k.length = n)
  | 0, k => by cases k <;> rfl
  | n + 1, [] => by rw [List.replicate_succ, mt_none star_ne]; simp
  | n + 1, x :: t => by rw [List.replicate_succ, mt_one star_ne, mt_stars n t]; simp
theorem mt_ahead {p k : List Txt} (h : mt p k = true) : mt (HASH :: p) k = true := (mt_hash p k).2 ⟨0, Nat.zero_le _, by simpa using h⟩
theorem mt_behind : ∀ (p k : List Txt), mt p k = true → mt (p ++ [HASH]) k = true
  | [], k, h => by
    rw [mt_nil] at h
    have : k = [] := by simpa using h
    subst this
    exact mt_hashes []
  | x :: t, k, h => by
    by_cases hx : x = HASH
    · subst hx
      obtain ⟨i, hi, hm⟩ := (mt_hash _ _).1 h
      exact (mt_hash _ _).2 ⟨i, hi, mt_behind _ _ hm⟩
    · cases k with
      | nil => rw [mt_none hx] at h; cases h
      | cons y ys =>
        rw [mt_one hx, Bool.and_eq_true] at h
        rw [List.cons_append, mt_one hx, h.1, Bool.true_and]
        exact mt_behind _ _ h.2
theorem words_behind {s : Txt} (h : s ≠ []) : words (s ++ [46, 35]) = words s ++ [HASH] := by
  rw [words_of_ne h, words_of_ne (by simp), show s ++ [46, 35] = s ++ 46 :: [35] from rfl, parts_join]
  rfl
theorem words_ahead {s : Txt} (h : s ≠ []) : words (35 :: 46 :: s) = HASH :: words s := by
  rw [words_of_ne h, words_of_ne (by simp), show (35 : UInt8) :: 46 :: s = [35] ++ 46 :: s from rfl, parts_join]
  rfl
theorem words_hash : words [35] = [HASH] := by rfl
/-- The stars. -/
def stars : Nat → Txt
  | 0 => []
  | n + 1 => stars n ++ [46, 42]
theorem stars_len : ∀ n, (stars n).length = 2 * n
  | 0 => rfl
  | n + 1 => by simp [stars, stars_len n]; omega
theorem stars_cons : ∀ n, stars (n + 1) = 46 :: 42 :: stars n
  | 0 => rfl
  | n + 1 => by
    show stars (n + 1) ++ [46, 42] = 46 :: 42 :: (stars n ++ [46, 42])
    rw [stars_cons n]; rfl
theorem parts_stars : ∀ n, parts (42 :: stars n) = List.replicate (n + 1) STAR
  | 0 => rfl
  | n + 1 => by
    rw [stars_cons, show (42 : UInt8) :: 46 :: 42 :: stars n = [42] ++ 46 :: (42 :: stars n) from rfl, parts_join, parts_stars n]
    rfl
/-- Without their first point. -/
def strs (n : Nat) : Txt := (stars n).drop 1
theorem strs_succ (n : Nat) : strs (n + 1) = 42 :: stars n := by rw [strs, stars_cons]; rfl
theorem words_strs (n : Nat) : words (strs n) = List.replicate n STAR := by
  cases n with
  | zero => rfl
  | succ n => rw [strs_succ, words_of_ne (by simp), parts_stars]
theorem words_strs_more (n : Nat) (h : n ≠ 0) : words (strs n ++ [46, 42]) = List.replicate (n + 1) STAR := by
  cases n with
  | zero => exact absurd rfl h
  | succ n =>
    rw [strs_succ, List.cons_append, show stars n ++ [46, 42] = stars (n + 1) from rfl, words_of_ne (by simp), parts_stars]
theorem words_zero {s : Txt} (h : (words s).length = 0) : s = [] := by
  unfold words at h
  split at h
  · assumption
  · have := parts_ne s
    exact absurd (List.length_eq_zero_iff.1 h) this
end Go.Proofs.YtgmneapgihakgaaGreatDoor.Tp
/- The contract of Less, and of the laws' own example. -/
namespace Go.Proofs.YtgmneapgihakgaaGreatDoor
open Go.RowKit
theorem Sl.nil (w : World) : Sl w (.slice none 0 0) [] := ⟨none, 0, 0, 0, rfl, .inl rfl, fun j p hj => by simp at hj⟩
theorem Sl.one (w : World) (p : Ord.P) (T : TypeId) : Sl (w.alloc (.cells #[.bool p.t, .int .u64 p.n, .string (str p.s)] T)) (.slice (some ⟨w.heap.size, 0, none⟩) 1 1) [p] := by
  refine ⟨_, w.heap.size, 0, 1, rfl, .inr rfl, fun j q hj => ?_⟩
  match j, hj with
  | 0, hj =>
    simp at hj
    subst hj
    refine ⟨?_, ?_, ?_⟩ <;> simp
theorem lessR_cons (p q : Ord.P) (l m : List Ord.P) : Ord.lessR (p :: l) (q :: m) = if Ord.lessP p q then true else if Ord.lessP q p then false else Ord.lessR l m := rfl
theorem drop_cons (l : List Ord.P) (k : Nat) (p : Ord.P) (h : l[k]? = some p) : l.drop k = p :: l.drop (k + 1) := by
  obtain ⟨hk, he⟩ := List.getElem?_eq_some_iff.1 h
  rw [List.drop_eq_getElem_cons hk, he]
theorem lessR_end (l m : List Ord.P) (k : Nat) (hk : k = min l.length m.length) : Ord.lessR (l.drop k) (m.drop k) = decide ((l.length : Int) < (m.length : Int)) := by
  rcases Nat.lt_or_ge l.length m.length with h | h
  · have h1 : l.drop k = [] := List.drop_of_length_le (by omega)
    rw [h1]
    cases hm : m.drop k with
    | nil => have := congrArg List.length hm; rw [List.length_drop] at this; simp at this; omega
    | cons a x => simp [Ord.lessR]; omega
  · have h1 : m.drop k = [] := List.drop_of_length_le (by omega)
    rw [h1]
    have h2 : ¬ ((l.length : Int) < (m.length : Int)) := by omega
    rw [decide_eq_false h2]
    cases l.drop k <;> rfl
end Go.Proofs.YtgmneapgihakgaaGreatDoor
