/- Texts of one seat, merged. -/
import Derived.Test.YtgmneapgihakgaaGreatDoorZ13
import Derived.Sort.CutIn
import Derived.Test.YtgmneapgihakgaaGreatDoorZ11
import Derived.Deep.DeepMust
import Derived.Test.YtgmneapgihakgaaGreatDoorZ08
set_option maxRecDepth 100000
set_option maxHeartbeats 4000000
set_option linter.unusedVariables false
/- ask.Things over a shelf: what its pairs tell, one by one, up to the first error. -/
namespace Go.Proofs.YtgmneapgihakgaaGreatDoor
open Go.RowKit Go.Sort Go.Maps
open Tx (Rise At Ord above)
attribute [local go_sem] Oper.semAt_some
def teQ (x : Qu × Int) : Array Value := #[aggQ x.1, .int .i64 x.2]
structure ThGQ (p sp mb B nn b1 b2 b3 b4 : Nat) (v : Value) (ks : List Txt) (f : Txt → Txt) (fr up : Txt) (Gd : World → Prop) (A : World) : Prop where
  sh : Sh A p sp mb B nn v ks f
  c1 : A.cell? ⟨b1, 0, none⟩ = some (.iface 25 (.pointer (some ⟨p, 0, none⟩)))
  c2 : A.cell? ⟨b2, 0, none⟩ = some (.string (str fr))
  c3 : A.cell? ⟨b3, 0, none⟩ = some (.string (str up))
  c4 : A.cell? ⟨b4, 0, none⟩ = some (.func (.func 165) #[] #[])
  gd : Gd A
set_option maxHeartbeats 8000000 in
theorem things1Q (n : Nat) (hn : 8 ≤ n) (p sp mb B nn b1 b2 b3 b4 : Nat) (v : Value) (ks : List Txt) (f : Txt → Txt) (fr up : Txt) (hks : ks.length ≤ 100000) (hkl : ∀ k ∈ ks, k.length ≤ maxLen) (rd : Txt × Txt → Qu × Int) (Gd : World → Prop) (hGd : ∀ A A', Gd A → Below A.heap.size A A' → Gd A')
    (hrd : ∀ x ∈ between ks f fr up, ∀ A, Gd A → Calls Tryz.prog 165 #[prV x.1 x.2] A fun e A' => e = .returned (.tuple #[aggQ (rd x).1, .int .i64 (rd x).2]) ∧ Below A.heap.size A A') :
    SeqB teQ n 240 #[.pointer (some ⟨b1, 0, none⟩), .pointer (some ⟨b2, 0, none⟩), .pointer (some ⟨b3, 0, none⟩), .pointer (some ⟨b4, 0, none⟩)] (ThGQ p sp mb B nn b1 b2 b3 b4 v ks f fr up Gd) (upE ⟨⟨#[]⟩, 0, 0, 0, ⟨#[]⟩⟩ ((between ks f fr up).map rd)) := by
  intro l J X W M0 hB hJ hX hG hY h0 hM0
  have h1n : 1 ≤ n := by omega
  have HG0 := Lib.hid (hG _ _ _ h0)
  have c1 := HG0.out.c1
  have c2 := HG0.out.c2
  have c3 := HG0.out.c3
  have HB1 : Hid (b1 < W.heap.size ∧ b2 < W.heap.size ∧ b3 < W.heap.size) := ⟨World.block_lt_of_cell? _ _ c1, World.block_lt_of_cell? _ _ c2, World.block_lt_of_cell? _ _ c3⟩
  obtain ⟨l1, l2, l3⟩ := HB1.out
  obtain ⟨E, hE⟩ : ∃ E, E = upE ⟨⟨#[]⟩, 0, 0, 0, ⟨#[]⟩⟩ ((between ks f fr up).map rd) := ⟨_, rfl⟩
  rw [← hE] at hY ⊢
  have HE := Lib.hid hE
  clear hE
  refine callsIn_of_wp_marks Tryz.func240 rfl trivial ?_ rfl
  simp only [Tryz.ntmps240, List.size_toArray, List.length_cons, List.length_nil, Nat.reduceAdd, Nat.reduceSub, Array.replicate_succ, Array.replicate_zero, List.push_toArray, List.append_toArray, List.nil_append, List.cons_append]
  refine (wpIn_wide (n := n)).2 ?_
  obtain ⟨Q, hQ⟩ : ∃ Q, Q = bodyPostM WF n Tryz.prog Tryz.f240 (fun e W' => (∃ v, e = .returned v) ∧ Stays (fun k => ¬ M0 k) W W' ∧ ∃ M', (∀ k, M' k → M0 k ∨ W.heap.size ≤ k) ∧ (J E M' W' ∨ ∃ pre, X pre M' W')) := ⟨_, rfl⟩
  rw [← hQ]
  have HQ := Lib.hid hQ
  clear hQ
  have bA : Below W.heap.size W (W.alloc (.cells #[.func (.yield l) #[] #[]] 318)) := (Below.refl _ _).alloc (Nat.le_refl _) _
  have e1 := (bA.cell (p := ⟨b1, 0, none⟩) l1).trans c1
  have e2 := (bA.cell (p := ⟨b2, 0, none⟩) l2).trans c2
  have e3 := (bA.cell (p := ⟨b3, 0, none⟩) l3).trans c3
  clear bA
  go_wp2_with (go_at_call 171; (refine (aRange_any _ _ _ _).mono ?_); rintro e wF ⟨rfl, T, hwF⟩)
  have HF : Hid (TI W l p fr up J rd [] M0 wF ∧ wF.heap.size = W.heap.size + 4 ∧ Below W.heap.size W wF) := ti_start hJ h0 hM0 hwF
  rw [← hwF]
  clear hwF
  refine (wpIn_wide (n := n)).1 ?_
  have hzF := HF.out.2.1
  refine rangeA (n := n) h1n (gf := 243) (lb := #[.pointer (some ⟨W.heap.size + 1, 0, none⟩), .pointer (some ⟨W.heap.size + 1 + 1, 0, none⟩), .pointer (some ⟨W.heap.size + 1 + 1 + 1, 0, none⟩)]) rfl (fun args w => by kernel_rfl)
    (aRange1F (n - 1) (by omega) p sp mb B nn _ _ _ v ks f fr up hks hkl) (fun x => rfl)
    (TI W l p fr up J rd) (fun pre M A => J E M A ∨ ∃ pre', X pre' M A) M0 (fun k hk => by have := hM0 k hk; omega)
    (fun pre M A B h hs => h.stays hJ hzF hs) (fun pre M A B h hs => h.elim (fun h => .inl (hJ _ _ _ _ h (hs.sub (fun k hk _ => hk.elim .inl (fun h => .inr (by omega)))))) (fun ⟨q, h⟩ => .inr ⟨q, hX _ _ _ _ h (hs.sub (fun k hk _ => hk.elim .inl (fun h => .inr (by omega))))⟩))
    (fun pre M A h => ⟨(hG _ _ _ h.j).sh, h.c1, h.c2, h.c3⟩)
    HF.out.1
    (fun x a' A => ∃ bx, PBox (W.heap.size + 6) bx x A ∧ a' = { tmps := #[.func (.yield l) #[] #[], .pointer (some ⟨b1, 0, none⟩), .pointer (some ⟨b2, 0, none⟩), .pointer (some ⟨b3, 0, none⟩), .pointer (some ⟨b4, 0, none⟩), .pointer (some ⟨W.heap.size, 0, none⟩), .pointer (some ⟨bx, 0, none⟩), .int .i64 0, undef, undef,
      .iface 25 (.pointer (some ⟨p, 0, none⟩)), .string (str fr), .string (str up), .func (.func 243) #[] #[.pointer (some ⟨W.heap.size + 1, 0, none⟩), .pointer (some ⟨W.heap.size + 1 + 1, 0, none⟩), .pointer (some ⟨W.heap.size + 1 + 1 + 1, 0, none⟩)], prV x.1 x.2, .int .i64 0, undef, undef, undef, undef, undef, undef, undef, undef, undef, undef, undef, undef, undef, undef, undef, undef, undef, undef, undef, undef], defers := [] })
    (fun x a' A B ⟨bx, h, e⟩ hs => ⟨bx, ⟨h.lo, (cell_same (hs.same bx (by have := h.lo; omega) (World.block_lt_of_cell? _ _ h.c0)) 0).trans h.c0, (cell_same (hs.same bx (by have := h.lo; omega) (World.block_lt_of_cell? _ _ h.c0)) 1).trans h.c1⟩, e⟩) ?assign ?body ?done ?stop
  case assign =>
    intro l' x A K hsz hK
    have HK := Lib.hid hK
    clear hK
    unfold encP prV
    gi_wp2
    exact HK.out _ _ ((Below.refl _ _).alloc (Nat.le_refl _) _) ⟨_, ⟨by omega, World.cell?_alloc_new A _ _ 0, World.cell?_alloc_new A _ _ 1⟩, rfl⟩
  case body =>
    rintro l' pre x M a' A hI ⟨bx, hbx, rfl⟩ hsz hpre
    have hbd : ∀ k, M k → k < A.heap.size := hB _ _ _ hI.j
    have HI := Lib.hid hI
    have HBD := Lib.hid hbd
    have HPR := Lib.hid hpre
    have hgx := hG _ _ _ hI.j
    have hbl := World.block_lt_of_cell? _ _ hbx.c0
    obtain ⟨A2, hA2⟩ : ∃ A2, A2 = (A.alloc (.cells #[.string ⟨#[]⟩, .int .u32 0, .int .u64 0, .int .u32 0, .string ⟨#[]⟩] 36)).alloc (.cells #[.string ⟨#[]⟩, .int .u32 0, .int .u64 0, .int .u32 0, .string ⟨#[]⟩] 36) := ⟨_, rfl⟩
    have HA2 := Lib.hid hA2
    have b2 : Below A.heap.size A A2 := by rw [hA2]; exact ((Below.refl _ _).alloc (Nat.le_refl _) _).alloc (by simp) _
    have x2 : BoxL A2 A.heap.size 36 #[.string ⟨#[]⟩, .int .u32 0, .int .u64 0, .int .u32 0, .string ⟨#[]⟩] := by rw [hA2]; exact (BoxL.new A _ _).alloc _
    have y2 : BoxL A2 (A.heap.size + 1) 36 #[.string ⟨#[]⟩, .int .u32 0, .int .u64 0, .int .u32 0, .string ⟨#[]⟩] := by rw [hA2]; have := BoxL.new (A.alloc (.cells #[.string ⟨#[]⟩, .int .u32 0, .int .u64 0, .int .u32 0, .string ⟨#[]⟩] 36)) #[.string ⟨#[]⟩, .int .u32 0, .int .u64 0, .int .u32 0, .string ⟨#[]⟩] 36; rw [World.size_alloc] at this; exact this
    have k1 := (b2.cell (p := ⟨b4, 0, none⟩) (World.block_lt_of_cell? _ _ hgx.c4)).trans hgx.c4
    have k2 := (b2.cell (p := ⟨bx, 0, none⟩) hbl).trans hbx.c0
    have k3 := (b2.cell (p := ⟨bx, 1, none⟩) hbl).trans hbx.c1
    have HR := Lib.hid (hrd x (HPR.out.mem (by simp)) A2 (hGd _ _ hgx.gd b2))
    have HX2 := Lib.hid x2
    have HY2 := Lib.hid y2
    have HB2 := Lib.hid b2
    have ky := HI.out.y
    have hyl := World.block_lt_of_cell? _ _ ky
    have HYL := Lib.hid hyl
    clear hI hbd hpre hgx hbl x2 y2 b2 hyl hbx
    unfold prV at HR
    unfold prV
    unfold aggQ at HR
    by_cases he : (rd x).2 = 0
    · have HEr := Lib.hid he
      rw [he] at HR
      clear he
      rw [hA2] at k1 k2 k3 HR
      gi_wp2
      refine ⟨trivial, fun h => (by cases h), (callsIn_any (m := 0) (callsIn_wide.2 HR.out)).mono ?_⟩
      rintro e W3 ⟨rfl, hb3⟩
      rw [← HA2.out] at hb3
      have x3 := HX2.out.below hb3 HX2.out.lt
      have f3 := x3.frozen
      have q0 := x3.cell (i := 0) rfl
      have q1 := x3.cell (i := 1) rfl
      have q2 := x3.cell (i := 2) rfl
      have q3 := x3.cell (i := 3) rfl
      have q4 := x3.cell (i := 4) rfl
      obtain ⟨W4, hW4⟩ : ∃ W4, W4 = (((((W3.setCell ⟨A.heap.size, 0, none⟩ (.string (rd x).1.nm)).setCell ⟨A.heap.size, 1, none⟩ (.int .u32 (rd x).1.most)).setCell ⟨A.heap.size, 2, none⟩ (.int .u64 (rd x).1.ttl)).setCell ⟨A.heap.size, 3, none⟩ (.int .u32 (rd x).1.tries)).setCell ⟨A.heap.size, 4, none⟩ (.string (rd x).1.dead)) := ⟨_, rfl⟩
      have x4 : BoxL W4 A.heap.size 36 #[.string (rd x).1.nm, .int .u32 (rd x).1.most, .int .u64 (rd x).1.ttl, .int .u32 (rd x).1.tries, .string (rd x).1.dead] := by rw [hW4]; exact (((((x3.set 0 _).set 1 _).set 2 _).set 3 _).set 4 _)
      have HX4 := Lib.hid x4
      have s4 : Stays (fun k => k < A.heap.size) A W4 := by
        refine (Stays.below HB2.out).trans ((Stays.below hb3).sub (fun k hk _ => hk) |>.trans ?_)
        rw [hW4]
        exact ((((((Stays.refl (fun k => k < A.heap.size) _).trans (Stays.set _ _ _ _ (fun h => Nat.lt_irrefl _ h))).trans (Stays.set _ _ _ _ (fun h => Nat.lt_irrefl _ h))).trans (Stays.set _ _ _ _ (fun h => Nat.lt_irrefl _ h))).trans (Stays.set _ _ _ _ (fun h => Nat.lt_irrefl _ h))).trans (Stays.set _ _ _ _ (fun h => Nat.lt_irrefl _ h)))
      have HS4 := Lib.hid s4
      have HJ4 : Hid (J (pre.map rd) M W4) := hJ _ _ _ _ HI.out.j (s4.sub (fun k hk _ => hk.elim (HBD.out k) (fun h => by have := HI.out.size; omega)))
      obtain ⟨fn, tmps, assign, body, hyy, hRr⟩ := hY _ _ M W4 HJ4.out (by rw [HE.out]; exact th_next HI.out.ok HEr.out HPR.out)
      have HRr := Lib.hid hRr
      have ky4 := (cell_same (s4.same _ HYL.out HYL.out) 0).trans ky
      unfold teQ aggQ at hyy
      rw [HEr.out] at hyy
      have r0 := x4.cell (i := 0) rfl
      have r1 := x4.cell (i := 1) rfl
      have r2 := x4.cell (i := 2) rfl
      have r3 := x4.cell (i := 3) rfl
      have r4 := x4.cell (i := 4) rfl
      clear x3 hb3 hRr s4 x4
      rw [hW4] at hyy ky4 HRr r0 r1 r2 r3 r4
      have HW4 := Lib.hid hW4
      clear hW4
      gi_wp2
      refine ⟨fun h => (by cases h), (roundIn_any HRr.out).mono ?_⟩
      rintro e5 A5 ⟨M5, hw5, (⟨rfl, hJ5⟩ | ⟨rfl, hX5⟩)⟩
      · rw [← HW4.out] at hw5
        have HW5 := Lib.hid (th_went HS4.out hw5)
        have HJ5 := Lib.hid hJ5
        clear hw5 hJ5
        gi_wp2
        exact ⟨M5, HW5.out, HI.out.next HW5.out HJ5.out HEr.out⟩
      · rw [← HW4.out] at hw5
        have HW5 := Lib.hid (th_went HS4.out hw5)
        have HX5 := Lib.hid hX5
        clear hw5 hX5
        gi_wp2
        exact ⟨M5, HW5.out, .inr ⟨_, HX5.out⟩⟩
    · have HEr := Lib.hid he
      have HST : Hid (upE ⟨⟨#[]⟩, 0, 0, 0, ⟨#[]⟩⟩ ((between ks f fr up).map rd) = pre.map rd ++ [(⟨⟨#[]⟩, 0, 0, 0, ⟨#[]⟩⟩, (rd x).2)]) := th_stop HI.out.ok he HPR.out
      obtain ⟨ev, hev⟩ : ∃ ev, ev = (rd x).2 := ⟨_, rfl⟩
      rw [← hev] at HR he HST
      clear hev
      have hb : (ev != 0) = true := by simpa using he
      have HNE := Lib.hid he
      clear he
      rw [hA2] at k1 k2 k3 HR
      gi_wp2
      refine ⟨trivial, fun h => (by cases h), (callsIn_any (m := 0) (callsIn_wide.2 HR.out)).mono ?_⟩
      rintro e W3 ⟨rfl, hb3⟩
      rw [← HA2.out] at hb3
      have x3 := HX2.out.below hb3 HX2.out.lt
      have y3 := HY2.out.below hb3 HY2.out.lt
      have f3 := x3.frozen
      have q0 := x3.cell (i := 0) rfl
      have q1 := x3.cell (i := 1) rfl
      have q2 := x3.cell (i := 2) rfl
      have q3 := x3.cell (i := 3) rfl
      have q4 := x3.cell (i := 4) rfl
      obtain ⟨W4, hW4⟩ : ∃ W4, W4 = (((((W3.setCell ⟨A.heap.size, 0, none⟩ (.string (rd x).1.nm)).setCell ⟨A.heap.size, 1, none⟩ (.int .u32 (rd x).1.most)).setCell ⟨A.heap.size, 2, none⟩ (.int .u64 (rd x).1.ttl)).setCell ⟨A.heap.size, 3, none⟩ (.int .u32 (rd x).1.tries)).setCell ⟨A.heap.size, 4, none⟩ (.string (rd x).1.dead)) := ⟨_, rfl⟩
      have x4 : BoxL W4 A.heap.size 36 #[.string (rd x).1.nm, .int .u32 (rd x).1.most, .int .u64 (rd x).1.ttl, .int .u32 (rd x).1.tries, .string (rd x).1.dead] := by rw [hW4]; exact (((((x3.set 0 _).set 1 _).set 2 _).set 3 _).set 4 _)
      have y4 : BoxL W4 (A.heap.size + 1) 36 #[.string ⟨#[]⟩, .int .u32 0, .int .u64 0, .int .u32 0, .string ⟨#[]⟩] := by rw [hW4]; exact (((((y3.other (by omega) 0 _).other (by omega) 1 _).other (by omega) 2 _).other (by omega) 3 _).other (by omega) 4 _)
      have f4 := x4.frozen
      have r0 := x4.cell (i := 0) rfl
      have r1 := x4.cell (i := 1) rfl
      have r2 := x4.cell (i := 2) rfl
      have r3 := x4.cell (i := 3) rfl
      have r4 := x4.cell (i := 4) rfl
      have z0 := y4.cell (i := 0) rfl
      have z1 := y4.cell (i := 1) rfl
      have z2 := y4.cell (i := 2) rfl
      have z3 := y4.cell (i := 3) rfl
      have z4 := y4.cell (i := 4) rfl
      obtain ⟨W5, hW5⟩ : ∃ W5, W5 = (((((W4.setCell ⟨A.heap.size, 0, none⟩ (.string ⟨#[]⟩)).setCell ⟨A.heap.size, 1, none⟩ (.int .u32 0)).setCell ⟨A.heap.size, 2, none⟩ (.int .u64 0)).setCell ⟨A.heap.size, 3, none⟩ (.int .u32 0)).setCell ⟨A.heap.size, 4, none⟩ (.string ⟨#[]⟩)) := ⟨_, rfl⟩
      have x5 : BoxL W5 A.heap.size 36 #[.string ⟨#[]⟩, .int .u32 0, .int .u64 0, .int .u32 0, .string ⟨#[]⟩] := by rw [hW5]; exact (((((x4.set 0 _).set 1 _).set 2 _).set 3 _).set 4 _)
      have s4 : Stays (fun k => k < A.heap.size) A W5 := by
        refine (Stays.below HB2.out).trans ((Stays.below hb3).sub (fun k hk _ => hk) |>.trans ?_)
        rw [hW5, hW4]
        exact (((((((((((Stays.refl (fun k => k < A.heap.size) _).trans (Stays.set _ _ _ _ (fun h => Nat.lt_irrefl _ h))).trans (Stays.set _ _ _ _ (fun h => Nat.lt_irrefl _ h))).trans (Stays.set _ _ _ _ (fun h => Nat.lt_irrefl _ h))).trans (Stays.set _ _ _ _ (fun h => Nat.lt_irrefl _ h))).trans (Stays.set _ _ _ _ (fun h => Nat.lt_irrefl _ h))).trans (Stays.set _ _ _ _ (fun h => Nat.lt_irrefl _ h))).trans (Stays.set _ _ _ _ (fun h => Nat.lt_irrefl _ h))).trans (Stays.set _ _ _ _ (fun h => Nat.lt_irrefl _ h))).trans (Stays.set _ _ _ _ (fun h => Nat.lt_irrefl _ h))).trans (Stays.set _ _ _ _ (fun h => Nat.lt_irrefl _ h)))
      have HS4 := Lib.hid s4
      have HJ4 : Hid (J (pre.map rd) M W5) := hJ _ _ _ _ HI.out.j (s4.sub (fun k hk _ => hk.elim (HBD.out k) (fun h => by have := HI.out.size; omega)))
      obtain ⟨fn, tmps, assign, body, hyy, hRr⟩ := hY _ (⟨⟨#[]⟩, 0, 0, 0, ⟨#[]⟩⟩, ev) M W5 HJ4.out (by rw [HE.out, HST.out]; exact List.prefix_rfl)
      have HRr := Lib.hid hRr
      have ky4 := (cell_same (s4.same _ HYL.out HYL.out) 0).trans ky
      have hyy2 : (Instr.yield l #[.agg #[.string ⟨#[]⟩, .int .u32 0, .int .u64 0, .int .u32 0, .string ⟨#[]⟩], .int .i64 ev]).run Tryz.prog W5 = _ := hyy
      clear hyy
      have u0 := x5.cell (i := 0) rfl
      have u1 := x5.cell (i := 1) rfl
      have u2 := x5.cell (i := 2) rfl
      have u3 := x5.cell (i := 3) rfl
      have u4 := x5.cell (i := 4) rfl
      clear x3 y3 hb3 hRr s4 x4 y4 x5
      have HW4 := Lib.hid hW4
      have HW5e := Lib.hid hW5
      clear hW4 hW5
      gi_upto_region 7 with (fail)
      rw [← HW4.out]
      clear HR f3 HG0 q0 q1 q2 q3 q4
      gi_upto_region 9 with (fail)
      rw [← HW5e.out]
      clear f4 r0 r1 r2 r3 r4 z0 z1 z2 z3 z4
      gi_wp2
      refine ⟨fun h => (by cases h), (roundIn_any HRr.out).mono ?_⟩
      rintro e5 A5 ⟨M5, hw5, (⟨rfl, hJ5⟩ | ⟨rfl, hX5⟩)⟩
      · have HW5 := Lib.hid (th_went HS4.out hw5)
        have HJ5 : Hid (J E M5 A5) := by show J E M5 A5; rw [HE.out, HST.out]; exact hJ5
        clear hw5 hJ5
        gi_wp2
        exact ⟨M5, HW5.out, .inl HJ5.out⟩
      · have HW5 := Lib.hid (th_went HS4.out hw5)
        have HX5 := Lib.hid hX5
        clear hw5 hX5
        gi_wp2
        exact ⟨M5, HW5.out, .inr ⟨_, HX5.out⟩⟩
  case done =>
    intro D M W' hD hMD hI hst hgr hK
    have HI := Lib.hid hI
    have HK := Lib.hid hK
    clear hI hK
    gi_wp2
    rw [HQ.out]
    refine ⟨by simp, .inl ⟨_, _, rfl, run_takeDeferred HK.out, ?_⟩⟩
    refine ⟨_, results_none rfl _ _ _, ⟨_, rfl⟩, stays_putNew (stays_two HF.out.2.2 hst (fun k hk _ => hk)) (by omega) _, M, fun k hk => (hgr k hk).elim .inl (fun h => .inr (by omega)), .inl ?_⟩
    rw [HE.out, th_all HI.out.ok]
    exact hJ _ _ _ _ HI.out.j (Stays.put _ _ _ (fun h => h.elim hMD (fun h => by omega)))
  case stop =>
    intro D pre M W' hD hMD hX' hst hgr hK
    have HI := Lib.hid hX'
    have HK := Lib.hid hK
    clear hX' hK
    gi_wp2
    rw [HQ.out]
    refine ⟨by simp, .inl ⟨_, _, rfl, run_takeDeferred HK.out, ?_⟩⟩
    refine ⟨_, results_none rfl _ _ _, ⟨_, rfl⟩, stays_putNew (stays_two HF.out.2.2 hst (fun k hk _ => hk)) (by omega) _, M, fun k hk => (hgr k hk).elim .inl (fun h => .inr (by omega)), ?_⟩
    exact HI.out.elim (fun h => .inl (hJ _ _ _ _ h (Stays.put _ _ _ (fun h => h.elim hMD (fun h => by omega))))) (fun ⟨q, h⟩ => .inr ⟨q, hX _ _ _ _ h (Stays.put _ _ _ (fun h => h.elim hMD (fun h => by omega)))⟩)
end Go.Proofs.YtgmneapgihakgaaGreatDoor
/- A shelf's Cut; New. -/
namespace Go.Proofs.YtgmneapgihakgaaGreatDoor
open Go.RowKit Go.Sort Go.Maps
open Tx (Rise At Ord above)
theorem sxRemove_tell {w : World} {p B : Nat} {v : Value} {l : List Txt} (h : SetT w p B v l) (hl : l.length ≤ 90000) (x : Txt) :
    Calls Tryz.prog 345 #[.pointer (some ⟨p, 0, none⟩), .string (str x)] w fun e w' => e = .returned (.bool (decide (x ∈ l))) ∧ ∃ v' l', SetT w' p B v' l' ∧ remS l x l' ∧ SetK p B v w w' ∧ (v'.ownBlock = v.ownBlock ∨ ∃ g, v'.ownBlock = some g ∧ w.heap.size ≤ g) := by
  have HP := Lib.hid (sxPlace_any h (by omega) x)
  have HS := Lib.hid h
  obtain ⟨a, c, rfl⟩ := h.row.slice
  clear h
  go_enter Tryz.func345, Tryz.ntmps345
  go_upto_region 2 with (go_at_call 179; refine HP.out.mono ?_; rintro e w1 ⟨k, rfl, hat, q, rfl⟩; have HAT := Lib.hid hat; clear hat)
  have hk := HAT.out.le
  by_cases hx : l[k]? = some x
  · rw [decide_eq_true hx]
    have HX := Lib.hid hx
    have hkl := (List.getElem?_eq_some_iff.1 hx).1
    clear hx
    have c0 : (w.drewN q).cell? ⟨p, 0, none⟩ = some (.slice a l.length c) := (HS.out.drewN q).c0
    have f0 : (w.drewN q).frozen? ⟨p, 0, none⟩ = false := (HS.out.drewN q).f0
    obtain ⟨g, cap, hgc⟩ : ∃ g cap, (Value.slice a l.length c) = .slice (some ⟨g, 0, none⟩) l.length cap := by
      rcases HS.out.row.open with ⟨_, h⟩ | ⟨g, cap, _, h, _⟩
      · rw [h] at hkl; cases hkl
      · exact ⟨g, cap, h⟩
    cases hgc
    have HD := Lib.hid (sxDel_any B g c k l (w.drewN q) hkl (HS.out.drewN q).row)
    have HLT := Lib.hid (World.block_lt_of_cell? _ _ HS.out.c0)
    have hlt := HLT.out
    go_wp2_with (go_at_call 346; refine HD.out.mono ?_; rintro e w2 ⟨v2, rfl, hg2, hi2⟩; have HI2 := Lib.hid hi2; have HG2 := Lib.hid hg2; obtain ⟨a2, c2, rfl⟩ := hi2.row.slice; have hw2p : w2.heap[p]? = w.heap[p]? := hi2.keep p HS.out.ne hlt; have c2p : w2.cell? ⟨p, 0, none⟩ = some (.slice (some ⟨g, 0, none⟩) l.length c) := (cell_same hw2p 0).trans HS.out.c0; have f2p : w2.frozen? ⟨p, 0, none⟩ = false := (frozen_same hw2p 0).trans HS.out.f0; have HWP := Lib.hid hw2p; clear hi2 hw2p hg2)
    go_ret
    have hin : x ∈ l := (HAT.out.mem sord HS.out.rise).2 HX.out
    refine ⟨by rw [decide_eq_true hin]; rfl, _, Tx.del l k, HS.out.stored HWP.out HI2.out.row (Tx.del_rise k HS.out.rise) (fun e => HS.out.ne (by rw [← e, HG2.out]; rfl)), ⟨Tx.del_rise k HS.out.rise, fun y => Tx.del_mem sord HS.out.rise HX.out, by rw [del_len hkl]; omega⟩, ?_, HI2.out.at'⟩
    exact SetK.stored (w := w) (B := B) (p := p) (v := .slice (some ⟨g, 0, none⟩) l.length c) HI2.out.below.size HI2.out.below.os HI2.out.below.tape HI2.out.below.output (fun k hv hk' => HI2.out.keep k hv hk') _
  · rw [decide_eq_false hx]
    have HX := Lib.hid hx
    clear hx
    go_wp2
    go_ret
    have hin : x ∉ l := fun h => HX.out ((HAT.out.mem sord HS.out.rise).1 h)
    exact ⟨by rw [decide_eq_false hin]; rfl, _, l, HS.out.drewN q, ⟨HS.out.rise, fun y => ⟨fun h => ⟨fun e => HX.out ((HAT.out.mem sord HS.out.rise).1 (e ▸ h)), h⟩, fun h => h.2⟩, by omega⟩, ⟨Nat.le_refl _, rfl, rfl, rfl, fun _ _ _ _ => rfl⟩, .inl rfl⟩

/-- What is there without a key. -/
theorem look_cut {ks l' : List Txt} {f : Txt → Txt} {k : Txt} (ha : remS ks k l') : ∀ j, updS (lookP ks f) k none j = lookP l' f j := fun j => by
  unfold lookP
  by_cases h : j = k
  · subst h
    rw [updS_same, if_neg (fun hm => ((ha.2.1 j).1 hm).1 rfl)]
  · rw [updS_other _ _ _ h]
    by_cases hj : j ∈ ks
    · rw [if_pos hj, if_pos ((ha.2.1 j).2 ⟨h, hj⟩)]
    · rw [if_neg hj, if_neg (fun hm => hj ((ha.2.1 j).1 hm).2)]
theorem ShK.afterMap {sp mb B : Nat} {v : Value} {w w1 w2 : World} (ht : w.mapTurned w1 mb) (h : SetK sp B v w1 w2) : ShK sp mb v w w2 := by
  obtain ⟨h1, h2, h3, h4, h5⟩ := ht.grown
  exact ⟨Nat.le_trans h4 h.size, h.os.trans h1, h.tape.trans h2, h.output.trans h3, fun k a b c d => (h.keep k a c (Nat.lt_of_lt_of_le d h4)).trans (h5 k d (fun e => b (Option.some.inj e)))⟩
set_option maxHeartbeats 4000000 in
theorem shCut_any {w : World} {p sp mb B n : Nat} {v : Value} {ks : List Txt} {f : Txt → Txt} (h : Sh w p sp mb B n v ks f) (hl : ks.length ≤ 90000) (k : Txt) (hk : k.length ≤ maxLen) :
    Calls Tryz.prog 343 #[.pointer (some ⟨p, 0, none⟩), .string (str k)] w fun e w' => e = .returned (.tuple #[.bool (decide (k ∈ ks)), .int .i64 0]) ∧ ∃ v' ks', Sh w' p sp mb B n v' ks' f ∧ remS ks k ks' ∧ ShK sp mb v w w' ∧ (v'.ownBlock = v.ownBlock ∨ ∃ g, v'.ownBlock = some g ∧ w.heap.size ≤ g) := by
  have HS := Lib.hid h
  have c0 := h.c0
  have c1 := h.c1
  have hpl := World.block_lt_of_cell? _ _ c0
  have hn1 := fun W => sh_not_nil W p
  obtain ⟨w1, hdr, hm1, ht1⟩ := h.map.drop hk 0
  have hdel : ∀ ty, (Builtin.delete_ #[132, 9] ty #[.map (some mb), .string (str k)]).run Tryz.prog w = .ok (.tuple #[]) w1 := fun ty => hdr
  have hg : ∀ q, q ≠ mb → q < w.heap.size → w1.heap[q]? = w.heap[q]? := fun q hq hlt => by
    obtain ⟨_, _, _, _, h5⟩ := ht1.grown
    exact h5 q hlt (fun e => hq (Option.some.inj e))
  have sp0 := World.block_lt_of_cell? _ _ h.set.c0
  have hset : SetT w1 sp B v ks := h.set.kept (hg sp h.sm sp0) (fun g hg' => hg g (fun e => h.vm (e ▸ hg')) (h.set.row.lt hg').1)
  have d0 := (cell_same (hg p h.pm hpl) 0).trans c0
  have HA := Lib.hid (sxRemove_tell hset hl k)
  have HM1 := Lib.hid hm1
  have HT1 := Lib.hid ht1
  have HG := Lib.hid hg
  have HPL := Lib.hid hpl
  clear h hpl hdr hm1 ht1 hg sp0 hset
  go_enter Tryz.func343, Tryz.ntmps343
  go_wp2_with (go_at_call 345; (with_reducible refine HA.out.mono ?_); rintro e w2 ⟨rfl, v1, l1, hs1, ha1, hk1, ho1⟩; have HS1 := Lib.hid hs1; have HA1 := Lib.hid ha1; have HK1 := Lib.hid hk1; have HO1 := Lib.hid ho1; clear hs1 ha1 hk1 ho1)
  go_ret2
  have hsz : w.heap.size ≤ w1.heap.size := by
    obtain ⟨_, _, _, h4, _⟩ := HT1.out.grown
    exact h4
  have ho : v1.ownBlock = v.ownBlock ∨ ∃ g, v1.ownBlock = some g ∧ w.heap.size ≤ g := HO1.out.imp id (fun ⟨g, h1, h2⟩ => ⟨g, h1, Nat.le_trans hsz h2⟩)
  refine ⟨rfl, v1, l1, ?_, HA1.out, ShK.afterMap HT1.out HK1.out, ho⟩
  have hvne : ∀ q, q < w.heap.size → v.ownBlock ≠ some q → v1.ownBlock ≠ some q := fun q hq hne e => by
    rcases ho with ho | ⟨g, hg, hgs⟩
    · exact hne (ho ▸ e)
    · rw [hg] at e; cases e; omega
  have hml := HS.out.map.lt
  have kp := (HK1.out.keep p HS.out.ps HS.out.vp (Nat.lt_of_lt_of_le HPL.out hsz)).trans (HG.out p HS.out.pm HPL.out)
  exact ⟨(cell_same kp 0).trans HS.out.c0, (cell_same kp 1).trans HS.out.c1, HS1.out, (HM1.out.kept (HK1.out.keep mb HS.out.sm.symm HS.out.vm (Nat.lt_of_lt_of_le hml hsz))).same (look_cut HA1.out), HS.out.ps, HS.out.pm, HS.out.sm, hvne p HPL.out HS.out.vp, hvne mb hml HS.out.vm⟩
end Go.Proofs.YtgmneapgihakgaaGreatDoor
/- A shelf's New, of no pairs. -/
namespace Go.Proofs.YtgmneapgihakgaaGreatDoor
open Go.RowKit Go.Sort Go.Maps
open Tx (Rise At Ord above)
set_option maxHeartbeats 4000000 in
theorem shNew0 (w : World) (f : Txt → Txt) :
    Calls Tryz.prog 12 #[.slice none 0 0] w fun e w' => ∃ p sp mb B v, e = .returned (.pointer (some ⟨p, 0, none⟩)) ∧ Sh w' p sp mb B 0 v [] f ∧ Below w.heap.size w w' ∧ w.heap.size ≤ B ∧ w.heap.size ≤ p ∧ w.heap.size ≤ sp ∧ w.heap.size ≤ mb ∧ B ≤ w'.heap.size := by
  have hmx : Tryz.prog.follows .mixedOrders = true := by kernel_rfl
  obtain ⟨i0, hi, hz0, hz1, hz2⟩ := info_parts infoS
  have hmake : (Instr.makeSlice 52 (.int .i64 0) (.int .i64 0)).run Tryz.prog w = .ok (.slice (some ⟨w.heap.size, 0, none⟩) 0 0) (w.alloc (.cells #[] 9)) := by
    have := run_makeSlice (P := Tryz.prog) w 52 9 i0 _ Tryz.underlying52 hi hz0 .i64 .i64 0 0 (by omega) (by omega) (by simp) (by simp) (by omega)
    rw [this, show Int.toNat 0 = 0 from rfl, Nat.zero_mul, Array.eq_empty_of_size_eq_zero (size_madeCells _ 0)]
  have hmm := @run_makeMap Tryz.prog
  obtain ⟨W1, hW1⟩ : ∃ W1, W1 = (w.alloc (.cells #[] 9)).alloc (.map #[] 0) := ⟨_, rfl⟩
  have HO := Lib.hid (sxOf_any (.slice (some ⟨w.heap.size, 0, none⟩) 0 0) [] (by simp) W1 ⟨_, w.heap.size, 0, 0, rfl, .inl rfl, fun j x hj => by simp at hj⟩)
  have HB1 : Hid (Below w.heap.size w W1) := by rw [hW1]; exact ((Below.refl _ _).alloc (Nat.le_refl _) _).alloc (by simp) _
  have HM1 : Hid (MapS W1 (w.heap.size + 1) 0 (lookP [] f)) := by
    have := MapS.made (w.alloc (.cells #[] 9))
    rw [World.size_alloc, ← hW1] at this
    exact this.same (fun k => rfl)
  have HS1 : Hid (W1.heap.size = w.heap.size + 2) := by rw [hW1]; show _ = _; simp
  clear hi hz0 hz1 hz2
  go_enter Tryz.func12, Tryz.ntmps12
  go_wp2
  rw [← hW1]
  clear hW1
  go_loopg [13] 0 (fun n i wr => n = 0 ∧ i = .int .i64 0 ∧ Hid (wr = W1))
  case atStart => exact ⟨rfl, rfl, rfl⟩
  case round =>
    obtain ⟨rfl, rfl, hwr⟩ := hrel
    rw [hwr.out]
    go_wp2_with (go_at_call 60; refine HO.out.mono ?_; rintro e w2 ⟨q, v2, rfl, hq, hs2, hb2⟩)
    go_ret
    have hd : dd [] = [] := by unfold dd; rw [show srt [] = [] from List.mergeSort_nil]; rfl
    rw [hd] at hs2
    have hs := HS1.out
    have q2 : q < w2.heap.size := World.block_lt_of_cell? _ _ hs2.c0
    have hmb : (w.heap.size + 1) < W1.heap.size := by omega
    have hx := fun o => (((RowKit.Below.refl w2.heap.size w2).alloc (Nat.le_refl _) o))
    refine ⟨w2.heap.size, q, w.heap.size + 1, W1.heap.size, v2, rfl, ⟨World.cell?_alloc_new w2 _ _ 0, World.cell?_alloc_new w2 _ _ 1, hs2.below (hx _), ((HM1.out.kept (hb2.block _ hmb))).kept ((hx _).block _ (Nat.lt_of_lt_of_le hmb hb2.size)), by omega, by have := hb2.size; omega, by omega, fun e => ?_, fun e => ?_⟩, ?_, by omega, by have := hb2.size; omega, by omega, by omega, by have := hb2.size; simp; omega⟩
    · exact absurd (hs2.row.lt e).1 (Nat.lt_irrefl _)
    · have := (hs2.row.lt e).2
      omega
    · exact (HB1.out.trans (hb2.mono (by omega))).alloc (by have := hb2.size; omega) _
end Go.Proofs.YtgmneapgihakgaaGreatDoor
/- A shelf, whatever blocks it owns: what stays is told by them; ask's Get and Put. -/
namespace Go.Proofs.YtgmneapgihakgaaGreatDoor
open Go.RowKit Go.Sort Go.Maps
open Tx (Rise At Ord above)
/-- A shelf at p that owns the blocks M. -/
structure ShW (N : Nat) (M : Nat → Prop) (w : World) (p : Nat) (ks : List Txt) (f : Txt → Txt) : Prop where
  ex : ∃ sp mb B n v, Sh w p sp mb B n v ks f ∧ (∀ k, M k ↔ k = p ∨ k = sp ∨ k = mb ∨ v.ownBlock = some k) ∧ n ≤ N ∧ ks.length ≤ N ∧ B ≤ w.heap.size ∧ p < w.heap.size
  kl : ∀ k ∈ ks, k.length ≤ 255
theorem ShW.lt {N : Nat} {M : Nat → Prop} {w : World} {p : Nat} {ks : List Txt} {f : Txt → Txt} (h : ShW N M w p ks f) : ∀ k, M k → k < w.heap.size := fun k hk => by
  obtain ⟨sp, mb, B, n, v, hs, hM, _, _, _, hp⟩ := h.ex
  rcases (hM k).1 hk with rfl | rfl | rfl | e
  · exact hp
  · exact World.block_lt_of_cell? _ _ hs.set.c0
  · exact hs.map.lt
  · exact (hs.set.row.lt e).1
theorem ShW.below {N : Nat} {M : Nat → Prop} {w w' : World} {p : Nat} {ks : List Txt} {f : Txt → Txt} (h : ShW N M w p ks f) (hb : Below w.heap.size w w') : ShW N M w' p ks f := by
  obtain ⟨sp, mb, B, n, v, hs, hM, h1, h2, h3, hp⟩ := h.ex
  exact ⟨⟨sp, mb, B, n, v, hs.below hb, hM, h1, h2, Nat.le_trans h3 hb.size, Nat.lt_of_lt_of_le hp hb.size⟩, h.kl⟩
theorem Sh.stays {w w' : World} {p sp mb B n : Nat} {v : Value} {ks : List Txt} {f : Txt → Txt} (h : Sh w p sp mb B n v ks f) (hp : w'.heap[p]? = w.heap[p]?) (hs : w'.heap[sp]? = w.heap[sp]?) (hm : w'.heap[mb]? = w.heap[mb]?) (hv : ∀ g, v.ownBlock = some g → w'.heap[g]? = w.heap[g]?) : Sh w' p sp mb B n v ks f :=
  ⟨(cell_same hp 0).trans h.c0, (cell_same hp 1).trans h.c1, h.set.kept hs hv, h.map.kept hm, h.ps, h.pm, h.sm, h.vp, h.vm⟩
/-- It stands where its own blocks stand. -/
theorem ShW.stays {N : Nat} {M C : Nat → Prop} {w w' : World} {p : Nat} {ks : List Txt} {f : Txt → Txt} (h : ShW N M w p ks f) (hs : Stays C w w') (hC : ∀ k, M k → C k) : ShW N M w' p ks f := by
  have hl := h.lt
  obtain ⟨sp, mb, B, n, v, hh, hM, h1, h2, h3, hp⟩ := h.ex
  have hk : ∀ k, M k → w'.heap[k]? = w.heap[k]? := fun k hm => hs.same k (hC k hm) (hl k hm)
  exact ⟨⟨sp, mb, B, n, v, hh.stays (hk _ ((hM _).2 (.inl rfl))) (hk _ ((hM _).2 (.inr (.inl rfl)))) (hk _ ((hM _).2 (.inr (.inr (.inl rfl))))) (fun g hg => hk _ ((hM _).2 (.inr (.inr (.inr hg))))), hM, h1, h2, Nat.le_trans h3 hs.size, Nat.lt_of_lt_of_le hp hs.size⟩, h.kl⟩
theorem askGet_any {N : Nat} {M : Nat → Prop} {w : World} {p : Nat} {ks : List Txt} {f : Txt → Txt} (h : ShW N M w p ks f) (k : Txt) (hk : k.length ≤ maxLen) :
    Calls Tryz.prog 80 #[.iface 25 (.pointer (some ⟨p, 0, none⟩)), .string (str k)] w fun e w' => e = .returned (got (shV ks f k) (decide (k ∈ ks)) 0) ∧ Below w.heap.size w w' := by
  obtain ⟨sp, mb, B, n, v, hs, _⟩ := h.ex
  refine (aGet_shelf p k (shV ks f k) (decide (k ∈ ks)) 0 w (fun W => Below w.heap.size w W) (fun W hW => ?_)).mono ?_
  · refine (shGet_any (hs.below hW) k hk).mono ?_
    rintro e W' ⟨rfl, hb⟩
    exact ⟨rfl, hW.trans (hb.mono hW.size), ⟨hb.size, fun k _ hk => hb.block k hk⟩⟩
  · rintro e w' ⟨rfl, W', h1, h2⟩
    exact ⟨rfl, h1.trans h2⟩
theorem ShK.went {N n : Nat} {M M' : Nat → Prop} {w w' : World} {p sp mb : Nat} {v v' : Value} (hM : ∀ k, M k ↔ k = p ∨ k = sp ∨ k = mb ∨ v.ownBlock = some k) (hM' : ∀ k, M' k ↔ k = p ∨ k = sp ∨ k = mb ∨ v'.ownBlock = some k) (hk : ShK sp mb v w w') (ho : v'.ownBlock = v.ownBlock ∨ ∃ g, v'.ownBlock = some g ∧ w.heap.size ≤ g) : Went M M' w w' := by
  refine ⟨fun k h => ?_, ⟨hk.os, hk.tape, hk.output, hk.size, fun k h hl => hk.keep k (fun e => h ((hM k).2 (.inr (.inl e)))) (fun e => h ((hM k).2 (.inr (.inr (.inl e))))) (fun e => h ((hM k).2 (.inr (.inr (.inr e))))) hl⟩⟩
  rcases (hM' k).1 h with e | e | e | e
  · exact .inl ((hM k).2 (.inl e))
  · exact .inl ((hM k).2 (.inr (.inl e)))
  · exact .inl ((hM k).2 (.inr (.inr (.inl e))))
  · rcases ho with h1 | ⟨g, h1, h2⟩
    · exact .inl ((hM k).2 (.inr (.inr (.inr (h1 ▸ e)))))
    · rw [h1] at e; cases e; exact .inr h2
theorem Went.pre {M M' : Nat → Prop} {w W W' : World} (hb : Below w.heap.size w W) (h : Went M M' W W') : Went M M' w W' :=
  ⟨fun k hk => (h.grow k hk).imp id (fun h => Nat.le_trans hb.size h), (Stays.below hb).trans h.stays⟩
theorem Went.post {M M' : Nat → Prop} {w W W' : World} (h : Went M M' w W) (hb : Below w.heap.size W W') : Went M M' w W' :=
  ⟨h.grow, ⟨hb.os.trans h.stays.os, hb.tape.trans h.stays.tape, hb.output.trans h.stays.output, Nat.le_trans h.stays.size hb.size, fun k hk hl => (hb.block k hl).trans (h.stays.same k hk hl)⟩⟩
/-- What stands under a key that is put. -/
def putF (f : Txt → Txt) (k x : Txt) : Txt → Txt := fun j => if j = k then x else f j
theorem askPut_any {N : Nat} {M : Nat → Prop} {w : World} {p : Nat} {ks : List Txt} {f : Txt → Txt} (h : ShW N M w p ks f) (hN : N ≤ 80000) (k x : Txt) (hk : k.length ≤ 255) (hx : x.length ≤ 65536) :
    Calls Tryz.prog 81 #[.iface 25 (.pointer (some ⟨p, 0, none⟩)), .string (str k), .string (str x)] w fun e w' => e = .returned (.int .i64 0) ∧ ∃ M' ks', addS ks k ks' ∧ ShW (N + 1) M' w' p ks' (putF f k x) ∧ Went M M' w w' := by
  obtain ⟨sp, mb, B, n, v, hs, hM, h1, h2, h3, hp⟩ := h.ex
  refine (aPut_shelf p k x 0 w (fun W => ∃ M' ks', addS ks k ks' ∧ ShW (N + 1) M' W p ks' (putF f k x) ∧ Went M M' w W ∧ ∀ q, M' q → q ≠ w.heap.size) (fun W hW hz => ?_)).mono ?_
  · refine (shPut_any (hs.below hW) (by omega) (Nat.le_trans h3 hW.size) (by unfold maxLen; omega) k x hk hx).mono ?_
    rintro e W' ⟨rfl, v', ks', hs', ha, hk', ho⟩
    have hw := ShK.went (N := N) (n := n) hM (fun k => Iff.rfl) hk' ho
    have hlt : ∀ q, M q → q < w.heap.size := h.lt
    refine ⟨rfl, ⟨_, ks', ha, ⟨⟨sp, mb, B, n + 1, v', hs', fun k => Iff.rfl, by omega, by have := ha.2.2; omega, Nat.le_trans h3 (Nat.le_trans hW.size hk'.size), Nat.lt_of_lt_of_le hp (Nat.le_trans hW.size hk'.size)⟩, fun j hj => ?_⟩, hw.pre hW, fun q hq e => ?_⟩, ⟨hk'.size, fun j hj hl => ?_⟩⟩
    · rcases (ha.2.1 j).1 hj with rfl | e
      · exact hk
      · exact h.kl j e
    · rcases hw.grow q hq with h | h
      · have := hlt q h; omega
      · omega
    · exact hw.stays.same j (fun hm => by have := hlt j hm; omega) hl
  · rintro e w' ⟨rfl, W', ⟨M', ks', ha, hw, hwent, hne⟩, hb⟩
    refine ⟨rfl, M', ks', ha, hw.stays hb hne, ⟨hwent.grow, ⟨hb.os.trans hwent.stays.os, hb.tape.trans hwent.stays.tape, hb.output.trans hwent.stays.output, Nat.le_trans hwent.stays.size hb.size, fun k hk hl => (hb.same k (by omega) (Nat.lt_of_lt_of_le hl hwent.stays.size)).trans (hwent.stays.same k hk hl)⟩⟩⟩
end Go.Proofs.YtgmneapgihakgaaGreatDoor
