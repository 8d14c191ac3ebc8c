/- Texts of one seat, merged. -/
import Derived.Test.YtgmneapgihakgaaGreatDoorZ13
import Derived.Sort.CutIn
import Derived.Test.YtgmneapgihakgaaGreatDoorZ23
import Derived.Test.YtgmneapgihakgaaGreatDoorZ21
import Derived.Test.YtgmneapgihakgaaGreatDoorZ03
import Derived.Test.YtgmneapgihakgaaGreatDoorZ20
import Derived.Laws.AppendOwnNone
set_option maxRecDepth 100000
set_option maxHeartbeats 4000000
set_option linter.unusedVariables false
/- ask.Things over a shelf: what its pairs tell, one by one, up to the first error. -/
namespace Go.Proofs.YtgmneapgihakgaaGreatDoor
open Go.RowKit Go.Sort Go.Maps
open Tx (Rise At Ord above)
attribute [local go_sem] Oper.semAt_some
def teM (x : Ms × Int) : Array Value := #[aggM x.1, .int .i64 x.2]
structure ThGM (p sp mb B nn b1 b2 b3 b4 : Nat) (v : Value) (ks : List Txt) (f : Txt → Txt) (fr up : Txt) (Gd : World → Prop) (A : World) : Prop where
  sh : Sh A p sp mb B nn v ks f
  c1 : A.cell? ⟨b1, 0, none⟩ = some (.iface 25 (.pointer (some ⟨p, 0, none⟩)))
  c2 : A.cell? ⟨b2, 0, none⟩ = some (.string (str fr))
  c3 : A.cell? ⟨b3, 0, none⟩ = some (.string (str up))
  c4 : A.cell? ⟨b4, 0, none⟩ = some (.func (.func 110) #[] #[])
  gd : Gd A
set_option maxHeartbeats 8000000 in
theorem things1M (n : Nat) (hn : 8 ≤ n) (p sp mb B nn b1 b2 b3 b4 : Nat) (v : Value) (ks : List Txt) (f : Txt → Txt) (fr up : Txt) (hks : ks.length ≤ 100000) (hkl : ∀ k ∈ ks, k.length ≤ maxLen) (rd : Txt × Txt → Ms × Int) (Gd : World → Prop) (hGd : ∀ A A', Gd A → Below A.heap.size A A' → Gd A')
    (hrd : ∀ x ∈ between ks f fr up, ∀ A, Gd A → Calls Tryz.prog 110 #[prV x.1 x.2] A fun e A' => e = .returned (.tuple #[aggM (rd x).1, .int .i64 (rd x).2]) ∧ Below A.heap.size A A') :
    SeqB teM n 208 #[.pointer (some ⟨b1, 0, none⟩), .pointer (some ⟨b2, 0, none⟩), .pointer (some ⟨b3, 0, none⟩), .pointer (some ⟨b4, 0, none⟩)] (ThGM p sp mb B nn b1 b2 b3 b4 v ks f fr up Gd) (upE zM0 ((between ks f fr up).map rd)) := by
  intro l J X W M0 hB hJ hX hG hY h0 hM0
  have h1n : 1 ≤ n := by omega
  have HG0 := Lib.hid (hG _ _ _ h0)
  have c1 := HG0.out.c1
  have c2 := HG0.out.c2
  have c3 := HG0.out.c3
  have HB1 : Hid (b1 < W.heap.size ∧ b2 < W.heap.size ∧ b3 < W.heap.size) := ⟨World.block_lt_of_cell? _ _ c1, World.block_lt_of_cell? _ _ c2, World.block_lt_of_cell? _ _ c3⟩
  obtain ⟨l1, l2, l3⟩ := HB1.out
  obtain ⟨E, hE⟩ : ∃ E, E = upE zM0 ((between ks f fr up).map rd) := ⟨_, rfl⟩
  rw [← hE] at hY ⊢
  have HE := Lib.hid hE
  clear hE
  refine callsIn_of_wp_marks Tryz.func208 rfl trivial ?_ rfl
  simp only [Tryz.ntmps208, List.size_toArray, List.length_cons, List.length_nil, Nat.reduceAdd, Nat.reduceSub, Array.replicate_succ, Array.replicate_zero, List.push_toArray, List.append_toArray, List.nil_append, List.cons_append]
  refine (wpIn_wide (n := n)).2 ?_
  obtain ⟨Q, hQ⟩ : ∃ Q, Q = bodyPostM WF n Tryz.prog Tryz.f208 (fun e W' => (∃ v, e = .returned v) ∧ Stays (fun k => ¬ M0 k) W W' ∧ ∃ M', (∀ k, M' k → M0 k ∨ W.heap.size ≤ k) ∧ (J E M' W' ∨ ∃ pre, X pre M' W')) := ⟨_, rfl⟩
  rw [← hQ]
  have HQ := Lib.hid hQ
  clear hQ
  have bA : Below W.heap.size W (W.alloc (.cells #[.func (.yield l) #[] #[]] 197)) := (Below.refl _ _).alloc (Nat.le_refl _) _
  have e1 := (bA.cell (p := ⟨b1, 0, none⟩) l1).trans c1
  have e2 := (bA.cell (p := ⟨b2, 0, none⟩) l2).trans c2
  have e3 := (bA.cell (p := ⟨b3, 0, none⟩) l3).trans c3
  clear bA
  go_wp2_with (go_at_call 171; (refine (aRange_any _ _ _ _).mono ?_); rintro e wF ⟨rfl, T, hwF⟩)
  have HF : Hid (TI W l p fr up J rd [] M0 wF ∧ wF.heap.size = W.heap.size + 4 ∧ Below W.heap.size W wF) := ti_start hJ h0 hM0 hwF
  rw [← hwF]
  clear hwF
  refine (wpIn_wide (n := n)).1 ?_
  have hzF := HF.out.2.1
  refine rangeA (n := n) h1n (gf := 243) (lb := #[.pointer (some ⟨W.heap.size + 1, 0, none⟩), .pointer (some ⟨W.heap.size + 1 + 1, 0, none⟩), .pointer (some ⟨W.heap.size + 1 + 1 + 1, 0, none⟩)]) rfl (fun args w => by kernel_rfl)
    (aRange1F (n - 1) (by omega) p sp mb B nn _ _ _ v ks f fr up hks hkl) (fun x => rfl)
    (TI W l p fr up J rd) (fun pre M A => J E M A ∨ ∃ pre', X pre' M A) M0 (fun k hk => by have := hM0 k hk; omega)
    (fun pre M A B h hs => h.stays hJ hzF hs) (fun pre M A B h hs => h.elim (fun h => .inl (hJ _ _ _ _ h (hs.sub (fun k hk _ => hk.elim .inl (fun h => .inr (by omega)))))) (fun ⟨q, h⟩ => .inr ⟨q, hX _ _ _ _ h (hs.sub (fun k hk _ => hk.elim .inl (fun h => .inr (by omega))))⟩))
    (fun pre M A h => ⟨(hG _ _ _ h.j).sh, h.c1, h.c2, h.c3⟩)
    HF.out.1
    (fun x a' A => ∃ bx, PBox (W.heap.size + 6) bx x A ∧ a' = { tmps := #[.func (.yield l) #[] #[], .pointer (some ⟨b1, 0, none⟩), .pointer (some ⟨b2, 0, none⟩), .pointer (some ⟨b3, 0, none⟩), .pointer (some ⟨b4, 0, none⟩), .pointer (some ⟨W.heap.size, 0, none⟩), .pointer (some ⟨bx, 0, none⟩), .int .i64 0, undef, undef,
      .iface 25 (.pointer (some ⟨p, 0, none⟩)), .string (str fr), .string (str up), .func (.func 243) #[] #[.pointer (some ⟨W.heap.size + 1, 0, none⟩), .pointer (some ⟨W.heap.size + 1 + 1, 0, none⟩), .pointer (some ⟨W.heap.size + 1 + 1 + 1, 0, none⟩)], prV x.1 x.2, .int .i64 0, undef, undef, undef, undef, undef, undef, undef, undef, undef, undef, undef, undef, undef, undef, undef, undef, undef, undef, undef, undef], defers := [] })
    (fun x a' A B ⟨bx, h, e⟩ hs => ⟨bx, ⟨h.lo, (cell_same (hs.same bx (by have := h.lo; omega) (World.block_lt_of_cell? _ _ h.c0)) 0).trans h.c0, (cell_same (hs.same bx (by have := h.lo; omega) (World.block_lt_of_cell? _ _ h.c0)) 1).trans h.c1⟩, e⟩) ?assign ?body ?done ?stop
  case assign =>
    intro l' x A K hsz hK
    have HK := Lib.hid hK
    clear hK
    unfold encP prV
    gi_wp2
    exact HK.out _ _ ((Below.refl _ _).alloc (Nat.le_refl _) _) ⟨_, ⟨by omega, World.cell?_alloc_new A _ _ 0, World.cell?_alloc_new A _ _ 1⟩, rfl⟩
  case body =>
    rintro l' pre x M a' A hI ⟨bx, hbx, rfl⟩ hsz hpre
    have hbd : ∀ k, M k → k < A.heap.size := hB _ _ _ hI.j
    have HI := Lib.hid hI
    have HBD := Lib.hid hbd
    have HPR := Lib.hid hpre
    have hgx := hG _ _ _ hI.j
    have hbl := World.block_lt_of_cell? _ _ hbx.c0
    obtain ⟨A2, hA2⟩ : ∃ A2, A2 = (A.alloc (.cells #[.string ⟨#[]⟩, .int .u64 0, .int .u32 0, .int .u64 0, .string ⟨#[]⟩] 62)).alloc (.cells #[.string ⟨#[]⟩, .int .u64 0, .int .u32 0, .int .u64 0, .string ⟨#[]⟩] 62) := ⟨_, rfl⟩
    have HA2 := Lib.hid hA2
    have b2 : Below A.heap.size A A2 := by rw [hA2]; exact ((Below.refl _ _).alloc (Nat.le_refl _) _).alloc (by simp) _
    have x2 : BoxL A2 A.heap.size 62 #[.string ⟨#[]⟩, .int .u64 0, .int .u32 0, .int .u64 0, .string ⟨#[]⟩] := by rw [hA2]; exact (BoxL.new A _ _).alloc _
    have y2 : BoxL A2 (A.heap.size + 1) 62 #[.string ⟨#[]⟩, .int .u64 0, .int .u32 0, .int .u64 0, .string ⟨#[]⟩] := by rw [hA2]; have := BoxL.new (A.alloc (.cells #[.string ⟨#[]⟩, .int .u64 0, .int .u32 0, .int .u64 0, .string ⟨#[]⟩] 62)) #[.string ⟨#[]⟩, .int .u64 0, .int .u32 0, .int .u64 0, .string ⟨#[]⟩] 62; rw [World.size_alloc] at this; exact this
    have k1 := (b2.cell (p := ⟨b4, 0, none⟩) (World.block_lt_of_cell? _ _ hgx.c4)).trans hgx.c4
    have k2 := (b2.cell (p := ⟨bx, 0, none⟩) hbl).trans hbx.c0
    have k3 := (b2.cell (p := ⟨bx, 1, none⟩) hbl).trans hbx.c1
    have HR := Lib.hid (hrd x (HPR.out.mem (by simp)) A2 (hGd _ _ hgx.gd b2))
    have HX2 := Lib.hid x2
    have HY2 := Lib.hid y2
    have HB2 := Lib.hid b2
    have ky := HI.out.y
    have hyl := World.block_lt_of_cell? _ _ ky
    have HYL := Lib.hid hyl
    clear hI hbd hpre hgx hbl x2 y2 b2 hyl hbx
    unfold prV at HR
    unfold prV
    unfold aggM at HR
    by_cases he : (rd x).2 = 0
    · have HEr := Lib.hid he
      rw [he] at HR
      clear he
      rw [hA2] at k1 k2 k3 HR
      gi_wp2
      refine ⟨trivial, fun h => (by cases h), (callsIn_any (m := 0) (callsIn_wide.2 HR.out)).mono ?_⟩
      rintro e W3 ⟨rfl, hb3⟩
      rw [← HA2.out] at hb3
      have x3 := HX2.out.below hb3 HX2.out.lt
      have f3 := x3.frozen
      have q0 := x3.cell (i := 0) rfl
      have q1 := x3.cell (i := 1) rfl
      have q2 := x3.cell (i := 2) rfl
      have q3 := x3.cell (i := 3) rfl
      have q4 := x3.cell (i := 4) rfl
      obtain ⟨W4, hW4⟩ : ∃ W4, W4 = (((((W3.setCell ⟨A.heap.size, 0, none⟩ (.string (rd x).1.qu)).setCell ⟨A.heap.size, 1, none⟩ (.int .u64 (rd x).1.id)).setCell ⟨A.heap.size, 2, none⟩ (.int .u32 (rd x).1.tries)).setCell ⟨A.heap.size, 3, none⟩ (.int .u64 (rd x).1.expiry)).setCell ⟨A.heap.size, 4, none⟩ (.string (rd x).1.body)) := ⟨_, rfl⟩
      have x4 : BoxL W4 A.heap.size 62 #[.string (rd x).1.qu, .int .u64 (rd x).1.id, .int .u32 (rd x).1.tries, .int .u64 (rd x).1.expiry, .string (rd x).1.body] := by rw [hW4]; exact (((((x3.set 0 _).set 1 _).set 2 _).set 3 _).set 4 _)
      have HX4 := Lib.hid x4
      have s4 : Stays (fun k => k < A.heap.size) A W4 := by
        refine (Stays.below HB2.out).trans ((Stays.below hb3).sub (fun k hk _ => hk) |>.trans ?_)
        rw [hW4]
        exact ((((((Stays.refl (fun k => k < A.heap.size) _).trans (Stays.set _ _ _ _ (fun h => Nat.lt_irrefl _ h))).trans (Stays.set _ _ _ _ (fun h => Nat.lt_irrefl _ h))).trans (Stays.set _ _ _ _ (fun h => Nat.lt_irrefl _ h))).trans (Stays.set _ _ _ _ (fun h => Nat.lt_irrefl _ h))).trans (Stays.set _ _ _ _ (fun h => Nat.lt_irrefl _ h)))
      have HS4 := Lib.hid s4
      have HJ4 : Hid (J (pre.map rd) M W4) := hJ _ _ _ _ HI.out.j (s4.sub (fun k hk _ => hk.elim (HBD.out k) (fun h => by have := HI.out.size; omega)))
      obtain ⟨fn, tmps, assign, body, hyy, hRr⟩ := hY _ _ M W4 HJ4.out (by rw [HE.out]; exact th_next HI.out.ok HEr.out HPR.out)
      have HRr := Lib.hid hRr
      have ky4 := (cell_same (s4.same _ HYL.out HYL.out) 0).trans ky
      unfold teM aggM at hyy
      rw [HEr.out] at hyy
      have r0 := x4.cell (i := 0) rfl
      have r1 := x4.cell (i := 1) rfl
      have r2 := x4.cell (i := 2) rfl
      have r3 := x4.cell (i := 3) rfl
      have r4 := x4.cell (i := 4) rfl
      clear x3 hb3 hRr s4 x4
      rw [hW4] at hyy ky4 HRr r0 r1 r2 r3 r4
      have HW4 := Lib.hid hW4
      clear hW4
      gi_wp2
      refine ⟨fun h => (by cases h), (roundIn_any HRr.out).mono ?_⟩
      rintro e5 A5 ⟨M5, hw5, (⟨rfl, hJ5⟩ | ⟨rfl, hX5⟩)⟩
      · rw [← HW4.out] at hw5
        have HW5 := Lib.hid (th_went HS4.out hw5)
        have HJ5 := Lib.hid hJ5
        clear hw5 hJ5
        gi_wp2
        exact ⟨M5, HW5.out, HI.out.next HW5.out HJ5.out HEr.out⟩
      · rw [← HW4.out] at hw5
        have HW5 := Lib.hid (th_went HS4.out hw5)
        have HX5 := Lib.hid hX5
        clear hw5 hX5
        gi_wp2
        exact ⟨M5, HW5.out, .inr ⟨_, HX5.out⟩⟩
    · have HEr := Lib.hid he
      have HST : Hid (upE zM0 ((between ks f fr up).map rd) = pre.map rd ++ [(zM0, (rd x).2)]) := th_stop HI.out.ok he HPR.out
      obtain ⟨ev, hev⟩ : ∃ ev, ev = (rd x).2 := ⟨_, rfl⟩
      rw [← hev] at HR he HST
      clear hev
      have hb : (ev != 0) = true := by simpa using he
      have HNE := Lib.hid he
      clear he
      rw [hA2] at k1 k2 k3 HR
      gi_wp2
      refine ⟨trivial, fun h => (by cases h), (callsIn_any (m := 0) (callsIn_wide.2 HR.out)).mono ?_⟩
      rintro e W3 ⟨rfl, hb3⟩
      rw [← HA2.out] at hb3
      have x3 := HX2.out.below hb3 HX2.out.lt
      have y3 := HY2.out.below hb3 HY2.out.lt
      have f3 := x3.frozen
      have q0 := x3.cell (i := 0) rfl
      have q1 := x3.cell (i := 1) rfl
      have q2 := x3.cell (i := 2) rfl
      have q3 := x3.cell (i := 3) rfl
      have q4 := x3.cell (i := 4) rfl
      obtain ⟨W4, hW4⟩ : ∃ W4, W4 = (((((W3.setCell ⟨A.heap.size, 0, none⟩ (.string (rd x).1.qu)).setCell ⟨A.heap.size, 1, none⟩ (.int .u64 (rd x).1.id)).setCell ⟨A.heap.size, 2, none⟩ (.int .u32 (rd x).1.tries)).setCell ⟨A.heap.size, 3, none⟩ (.int .u64 (rd x).1.expiry)).setCell ⟨A.heap.size, 4, none⟩ (.string (rd x).1.body)) := ⟨_, rfl⟩
      have x4 : BoxL W4 A.heap.size 62 #[.string (rd x).1.qu, .int .u64 (rd x).1.id, .int .u32 (rd x).1.tries, .int .u64 (rd x).1.expiry, .string (rd x).1.body] := by rw [hW4]; exact (((((x3.set 0 _).set 1 _).set 2 _).set 3 _).set 4 _)
      have y4 : BoxL W4 (A.heap.size + 1) 62 #[.string ⟨#[]⟩, .int .u64 0, .int .u32 0, .int .u64 0, .string ⟨#[]⟩] := by rw [hW4]; exact (((((y3.other (by omega) 0 _).other (by omega) 1 _).other (by omega) 2 _).other (by omega) 3 _).other (by omega) 4 _)
      have f4 := x4.frozen
      have r0 := x4.cell (i := 0) rfl
      have r1 := x4.cell (i := 1) rfl
      have r2 := x4.cell (i := 2) rfl
      have r3 := x4.cell (i := 3) rfl
      have r4 := x4.cell (i := 4) rfl
      have z0 := y4.cell (i := 0) rfl
      have z1 := y4.cell (i := 1) rfl
      have z2 := y4.cell (i := 2) rfl
      have z3 := y4.cell (i := 3) rfl
      have z4 := y4.cell (i := 4) rfl
      obtain ⟨W5, hW5⟩ : ∃ W5, W5 = (((((W4.setCell ⟨A.heap.size, 0, none⟩ (.string ⟨#[]⟩)).setCell ⟨A.heap.size, 1, none⟩ (.int .u64 0)).setCell ⟨A.heap.size, 2, none⟩ (.int .u32 0)).setCell ⟨A.heap.size, 3, none⟩ (.int .u64 0)).setCell ⟨A.heap.size, 4, none⟩ (.string ⟨#[]⟩)) := ⟨_, rfl⟩
      have x5 : BoxL W5 A.heap.size 62 #[.string ⟨#[]⟩, .int .u64 0, .int .u32 0, .int .u64 0, .string ⟨#[]⟩] := by rw [hW5]; exact (((((x4.set 0 _).set 1 _).set 2 _).set 3 _).set 4 _)
      have s4 : Stays (fun k => k < A.heap.size) A W5 := by
        refine (Stays.below HB2.out).trans ((Stays.below hb3).sub (fun k hk _ => hk) |>.trans ?_)
        rw [hW5, hW4]
        exact (((((((((((Stays.refl (fun k => k < A.heap.size) _).trans (Stays.set _ _ _ _ (fun h => Nat.lt_irrefl _ h))).trans (Stays.set _ _ _ _ (fun h => Nat.lt_irrefl _ h))).trans (Stays.set _ _ _ _ (fun h => Nat.lt_irrefl _ h))).trans (Stays.set _ _ _ _ (fun h => Nat.lt_irrefl _ h))).trans (Stays.set _ _ _ _ (fun h => Nat.lt_irrefl _ h))).trans (Stays.set _ _ _ _ (fun h => Nat.lt_irrefl _ h))).trans (Stays.set _ _ _ _ (fun h => Nat.lt_irrefl _ h))).trans (Stays.set _ _ _ _ (fun h => Nat.lt_irrefl _ h))).trans (Stays.set _ _ _ _ (fun h => Nat.lt_irrefl _ h))).trans (Stays.set _ _ _ _ (fun h => Nat.lt_irrefl _ h)))
      have HS4 := Lib.hid s4
      have HJ4 : Hid (J (pre.map rd) M W5) := hJ _ _ _ _ HI.out.j (s4.sub (fun k hk _ => hk.elim (HBD.out k) (fun h => by have := HI.out.size; omega)))
      obtain ⟨fn, tmps, assign, body, hyy, hRr⟩ := hY _ (zM0, ev) M W5 HJ4.out (by rw [HE.out, HST.out]; exact List.prefix_rfl)
      have HRr := Lib.hid hRr
      have ky4 := (cell_same (s4.same _ HYL.out HYL.out) 0).trans ky
      have hyy2 : (Instr.yield l #[.agg #[.string ⟨#[]⟩, .int .u64 0, .int .u32 0, .int .u64 0, .string ⟨#[]⟩], .int .i64 ev]).run Tryz.prog W5 = _ := hyy
      clear hyy
      have u0 := x5.cell (i := 0) rfl
      have u1 := x5.cell (i := 1) rfl
      have u2 := x5.cell (i := 2) rfl
      have u3 := x5.cell (i := 3) rfl
      have u4 := x5.cell (i := 4) rfl
      clear x3 y3 hb3 hRr s4 x4 y4 x5
      have HW4 := Lib.hid hW4
      have HW5e := Lib.hid hW5
      clear hW4 hW5
      gi_upto_region 7 with (fail)
      rw [← HW4.out]
      clear HR f3 HG0 q0 q1 q2 q3 q4
      gi_upto_region 9 with (fail)
      rw [← HW5e.out]
      clear f4 r0 r1 r2 r3 r4 z0 z1 z2 z3 z4
      gi_wp2
      refine ⟨fun h => (by cases h), (roundIn_any HRr.out).mono ?_⟩
      rintro e5 A5 ⟨M5, hw5, (⟨rfl, hJ5⟩ | ⟨rfl, hX5⟩)⟩
      · have HW5 := Lib.hid (th_went HS4.out hw5)
        have HJ5 : Hid (J E M5 A5) := by show J E M5 A5; rw [HE.out, HST.out]; exact hJ5
        clear hw5 hJ5
        gi_wp2
        exact ⟨M5, HW5.out, .inl HJ5.out⟩
      · have HW5 := Lib.hid (th_went HS4.out hw5)
        have HX5 := Lib.hid hX5
        clear hw5 hX5
        gi_wp2
        exact ⟨M5, HW5.out, .inr ⟨_, HX5.out⟩⟩
  case done =>
    intro D M W' hD hMD hI hst hgr hK
    have HI := Lib.hid hI
    have HK := Lib.hid hK
    clear hI hK
    gi_wp2
    rw [HQ.out]
    refine ⟨by simp, .inl ⟨_, _, rfl, run_takeDeferred HK.out, ?_⟩⟩
    refine ⟨_, results_none rfl _ _ _, ⟨_, rfl⟩, stays_putNew (stays_two HF.out.2.2 hst (fun k hk _ => hk)) (by omega) _, M, fun k hk => (hgr k hk).elim .inl (fun h => .inr (by omega)), .inl ?_⟩
    rw [HE.out, th_all HI.out.ok]
    exact hJ _ _ _ _ HI.out.j (Stays.put _ _ _ (fun h => h.elim hMD (fun h => by omega)))
  case stop =>
    intro D pre M W' hD hMD hX' hst hgr hK
    have HI := Lib.hid hX'
    have HK := Lib.hid hK
    clear hX' hK
    gi_wp2
    rw [HQ.out]
    refine ⟨by simp, .inl ⟨_, _, rfl, run_takeDeferred HK.out, ?_⟩⟩
    refine ⟨_, results_none rfl _ _ _, ⟨_, rfl⟩, stays_putNew (stays_two HF.out.2.2 hst (fun k hk _ => hk)) (by omega) _, M, fun k hk => (hgr k hk).elim .inl (fun h => .inr (by omega)), ?_⟩
    exact HI.out.elim (fun h => .inl (hJ _ _ _ _ h (Stays.put _ _ _ (fun h => h.elim hMD (fun h => by omega))))) (fun ⟨q, h⟩ => .inr ⟨q, hX _ _ _ _ h (Stays.put _ _ _ (fun h => h.elim hMD (fun h => by omega)))⟩)
end Go.Proofs.YtgmneapgihakgaaGreatDoor
/- ask.Things over a shelf: what its pairs tell, one by one, up to the first error. -/
namespace Go.Proofs.YtgmneapgihakgaaGreatDoor
open Go.RowKit Go.Sort Go.Maps
open Tx (Rise At Ord above)
attribute [local go_sem] Oper.semAt_some
structure ThGD (p sp mb B nn b1 b2 b3 b4 b5 : Nat) (v : Value) (ks : List Txt) (f : Txt → Txt) (fr up : Txt) (Gd : World → Prop) (A : World) : Prop where
  sh : Sh A p sp mb B nn v ks f
  c1 : A.cell? ⟨b1, 0, none⟩ = some (.iface 25 (.pointer (some ⟨p, 0, none⟩)))
  c2 : A.cell? ⟨b2, 0, none⟩ = some (.string (str fr))
  c3 : A.cell? ⟨b3, 0, none⟩ = some (.string (str up))
  c4 : A.cell? ⟨b4, 0, none⟩ = some (.func (.func 111) #[] #[.pointer (some ⟨b5, 0, none⟩)])
  gd : Gd A
set_option maxHeartbeats 8000000 in
theorem things1D (n : Nat) (hn : 8 ≤ n) (p sp mb B nn b1 b2 b3 b4 b5 : Nat) (v : Value) (ks : List Txt) (f : Txt → Txt) (fr up : Txt) (hks : ks.length ≤ 100000) (hkl : ∀ k ∈ ks, k.length ≤ maxLen) (rd : Txt × Txt → Ms × Int) (Gd : World → Prop) (hGd : ∀ A A', Gd A → Below A.heap.size A A' → Gd A')
    (hrd : ∀ x ∈ between ks f fr up, ∀ A, Gd A → Calls Tryz.prog 111 #[prV x.1 x.2, .pointer (some ⟨b5, 0, none⟩)] A fun e A' => e = .returned (.tuple #[aggM (rd x).1, .int .i64 (rd x).2]) ∧ Below A.heap.size A A') :
    SeqB teM n 208 #[.pointer (some ⟨b1, 0, none⟩), .pointer (some ⟨b2, 0, none⟩), .pointer (some ⟨b3, 0, none⟩), .pointer (some ⟨b4, 0, none⟩)] (ThGD p sp mb B nn b1 b2 b3 b4 b5 v ks f fr up Gd) (upE zM0 ((between ks f fr up).map rd)) := by
  intro l J X W M0 hB hJ hX hG hY h0 hM0
  have h1n : 1 ≤ n := by omega
  have HG0 := Lib.hid (hG _ _ _ h0)
  have c1 := HG0.out.c1
  have c2 := HG0.out.c2
  have c3 := HG0.out.c3
  have HB1 : Hid (b1 < W.heap.size ∧ b2 < W.heap.size ∧ b3 < W.heap.size) := ⟨World.block_lt_of_cell? _ _ c1, World.block_lt_of_cell? _ _ c2, World.block_lt_of_cell? _ _ c3⟩
  obtain ⟨l1, l2, l3⟩ := HB1.out
  obtain ⟨E, hE⟩ : ∃ E, E = upE zM0 ((between ks f fr up).map rd) := ⟨_, rfl⟩
  rw [← hE] at hY ⊢
  have HE := Lib.hid hE
  clear hE
  refine callsIn_of_wp_marks Tryz.func208 rfl trivial ?_ rfl
  simp only [Tryz.ntmps208, List.size_toArray, List.length_cons, List.length_nil, Nat.reduceAdd, Nat.reduceSub, Array.replicate_succ, Array.replicate_zero, List.push_toArray, List.append_toArray, List.nil_append, List.cons_append]
  refine (wpIn_wide (n := n)).2 ?_
  obtain ⟨Q, hQ⟩ : ∃ Q, Q = bodyPostM WF n Tryz.prog Tryz.f208 (fun e W' => (∃ v, e = .returned v) ∧ Stays (fun k => ¬ M0 k) W W' ∧ ∃ M', (∀ k, M' k → M0 k ∨ W.heap.size ≤ k) ∧ (J E M' W' ∨ ∃ pre, X pre M' W')) := ⟨_, rfl⟩
  rw [← hQ]
  have HQ := Lib.hid hQ
  clear hQ
  have bA : Below W.heap.size W (W.alloc (.cells #[.func (.yield l) #[] #[]] 197)) := (Below.refl _ _).alloc (Nat.le_refl _) _
  have e1 := (bA.cell (p := ⟨b1, 0, none⟩) l1).trans c1
  have e2 := (bA.cell (p := ⟨b2, 0, none⟩) l2).trans c2
  have e3 := (bA.cell (p := ⟨b3, 0, none⟩) l3).trans c3
  clear bA
  go_wp2_with (go_at_call 171; (refine (aRange_any _ _ _ _).mono ?_); rintro e wF ⟨rfl, T, hwF⟩)
  have HF : Hid (TI W l p fr up J rd [] M0 wF ∧ wF.heap.size = W.heap.size + 4 ∧ Below W.heap.size W wF) := ti_start hJ h0 hM0 hwF
  rw [← hwF]
  clear hwF
  refine (wpIn_wide (n := n)).1 ?_
  have hzF := HF.out.2.1
  refine rangeA (n := n) h1n (gf := 243) (lb := #[.pointer (some ⟨W.heap.size + 1, 0, none⟩), .pointer (some ⟨W.heap.size + 1 + 1, 0, none⟩), .pointer (some ⟨W.heap.size + 1 + 1 + 1, 0, none⟩)]) rfl (fun args w => by kernel_rfl)
    (aRange1F (n - 1) (by omega) p sp mb B nn _ _ _ v ks f fr up hks hkl) (fun x => rfl)
    (TI W l p fr up J rd) (fun pre M A => J E M A ∨ ∃ pre', X pre' M A) M0 (fun k hk => by have := hM0 k hk; omega)
    (fun pre M A B h hs => h.stays hJ hzF hs) (fun pre M A B h hs => h.elim (fun h => .inl (hJ _ _ _ _ h (hs.sub (fun k hk _ => hk.elim .inl (fun h => .inr (by omega)))))) (fun ⟨q, h⟩ => .inr ⟨q, hX _ _ _ _ h (hs.sub (fun k hk _ => hk.elim .inl (fun h => .inr (by omega))))⟩))
    (fun pre M A h => ⟨(hG _ _ _ h.j).sh, h.c1, h.c2, h.c3⟩)
    HF.out.1
    (fun x a' A => ∃ bx, PBox (W.heap.size + 6) bx x A ∧ a' = { tmps := #[.func (.yield l) #[] #[], .pointer (some ⟨b1, 0, none⟩), .pointer (some ⟨b2, 0, none⟩), .pointer (some ⟨b3, 0, none⟩), .pointer (some ⟨b4, 0, none⟩), .pointer (some ⟨W.heap.size, 0, none⟩), .pointer (some ⟨bx, 0, none⟩), .int .i64 0, undef, undef,
      .iface 25 (.pointer (some ⟨p, 0, none⟩)), .string (str fr), .string (str up), .func (.func 243) #[] #[.pointer (some ⟨W.heap.size + 1, 0, none⟩), .pointer (some ⟨W.heap.size + 1 + 1, 0, none⟩), .pointer (some ⟨W.heap.size + 1 + 1 + 1, 0, none⟩)], prV x.1 x.2, .int .i64 0, undef, undef, undef, undef, undef, undef, undef, undef, undef, undef, undef, undef, undef, undef, undef, undef, undef, undef, undef, undef], defers := [] })
    (fun x a' A B ⟨bx, h, e⟩ hs => ⟨bx, ⟨h.lo, (cell_same (hs.same bx (by have := h.lo; omega) (World.block_lt_of_cell? _ _ h.c0)) 0).trans h.c0, (cell_same (hs.same bx (by have := h.lo; omega) (World.block_lt_of_cell? _ _ h.c0)) 1).trans h.c1⟩, e⟩) ?assign ?body ?done ?stop
  case assign =>
    intro l' x A K hsz hK
    have HK := Lib.hid hK
    clear hK
    unfold encP prV
    gi_wp2
    exact HK.out _ _ ((Below.refl _ _).alloc (Nat.le_refl _) _) ⟨_, ⟨by omega, World.cell?_alloc_new A _ _ 0, World.cell?_alloc_new A _ _ 1⟩, rfl⟩
  case body =>
    rintro l' pre x M a' A hI ⟨bx, hbx, rfl⟩ hsz hpre
    have hbd : ∀ k, M k → k < A.heap.size := hB _ _ _ hI.j
    have HI := Lib.hid hI
    have HBD := Lib.hid hbd
    have HPR := Lib.hid hpre
    have hgx := hG _ _ _ hI.j
    have hbl := World.block_lt_of_cell? _ _ hbx.c0
    obtain ⟨A2, hA2⟩ : ∃ A2, A2 = (A.alloc (.cells #[.string ⟨#[]⟩, .int .u64 0, .int .u32 0, .int .u64 0, .string ⟨#[]⟩] 62)).alloc (.cells #[.string ⟨#[]⟩, .int .u64 0, .int .u32 0, .int .u64 0, .string ⟨#[]⟩] 62) := ⟨_, rfl⟩
    have HA2 := Lib.hid hA2
    have b2 : Below A.heap.size A A2 := by rw [hA2]; exact ((Below.refl _ _).alloc (Nat.le_refl _) _).alloc (by simp) _
    have x2 : BoxL A2 A.heap.size 62 #[.string ⟨#[]⟩, .int .u64 0, .int .u32 0, .int .u64 0, .string ⟨#[]⟩] := by rw [hA2]; exact (BoxL.new A _ _).alloc _
    have y2 : BoxL A2 (A.heap.size + 1) 62 #[.string ⟨#[]⟩, .int .u64 0, .int .u32 0, .int .u64 0, .string ⟨#[]⟩] := by rw [hA2]; have := BoxL.new (A.alloc (.cells #[.string ⟨#[]⟩, .int .u64 0, .int .u32 0, .int .u64 0, .string ⟨#[]⟩] 62)) #[.string ⟨#[]⟩, .int .u64 0, .int .u32 0, .int .u64 0, .string ⟨#[]⟩] 62; rw [World.size_alloc] at this; exact this
    have k1 := (b2.cell (p := ⟨b4, 0, none⟩) (World.block_lt_of_cell? _ _ hgx.c4)).trans hgx.c4
    have k2 := (b2.cell (p := ⟨bx, 0, none⟩) hbl).trans hbx.c0
    have k3 := (b2.cell (p := ⟨bx, 1, none⟩) hbl).trans hbx.c1
    have HR := Lib.hid (hrd x (HPR.out.mem (by simp)) A2 (hGd _ _ hgx.gd b2))
    have HX2 := Lib.hid x2
    have HY2 := Lib.hid y2
    have HB2 := Lib.hid b2
    have ky := HI.out.y
    have hyl := World.block_lt_of_cell? _ _ ky
    have HYL := Lib.hid hyl
    clear hI hbd hpre hgx hbl x2 y2 b2 hyl hbx
    unfold prV at HR
    unfold prV
    unfold aggM at HR
    by_cases he : (rd x).2 = 0
    · have HEr := Lib.hid he
      rw [he] at HR
      clear he
      rw [hA2] at k1 k2 k3 HR
      gi_wp2
      refine ⟨trivial, fun h => (by cases h), (callsIn_any (m := 0) (callsIn_wide.2 HR.out)).mono ?_⟩
      rintro e W3 ⟨rfl, hb3⟩
      rw [← HA2.out] at hb3
      have x3 := HX2.out.below hb3 HX2.out.lt
      have f3 := x3.frozen
      have q0 := x3.cell (i := 0) rfl
      have q1 := x3.cell (i := 1) rfl
      have q2 := x3.cell (i := 2) rfl
      have q3 := x3.cell (i := 3) rfl
      have q4 := x3.cell (i := 4) rfl
      obtain ⟨W4, hW4⟩ : ∃ W4, W4 = (((((W3.setCell ⟨A.heap.size, 0, none⟩ (.string (rd x).1.qu)).setCell ⟨A.heap.size, 1, none⟩ (.int .u64 (rd x).1.id)).setCell ⟨A.heap.size, 2, none⟩ (.int .u32 (rd x).1.tries)).setCell ⟨A.heap.size, 3, none⟩ (.int .u64 (rd x).1.expiry)).setCell ⟨A.heap.size, 4, none⟩ (.string (rd x).1.body)) := ⟨_, rfl⟩
      have x4 : BoxL W4 A.heap.size 62 #[.string (rd x).1.qu, .int .u64 (rd x).1.id, .int .u32 (rd x).1.tries, .int .u64 (rd x).1.expiry, .string (rd x).1.body] := by rw [hW4]; exact (((((x3.set 0 _).set 1 _).set 2 _).set 3 _).set 4 _)
      have HX4 := Lib.hid x4
      have s4 : Stays (fun k => k < A.heap.size) A W4 := by
        refine (Stays.below HB2.out).trans ((Stays.below hb3).sub (fun k hk _ => hk) |>.trans ?_)
        rw [hW4]
        exact ((((((Stays.refl (fun k => k < A.heap.size) _).trans (Stays.set _ _ _ _ (fun h => Nat.lt_irrefl _ h))).trans (Stays.set _ _ _ _ (fun h => Nat.lt_irrefl _ h))).trans (Stays.set _ _ _ _ (fun h => Nat.lt_irrefl _ h))).trans (Stays.set _ _ _ _ (fun h => Nat.lt_irrefl _ h))).trans (Stays.set _ _ _ _ (fun h => Nat.lt_irrefl _ h)))
      have HS4 := Lib.hid s4
      have HJ4 : Hid (J (pre.map rd) M W4) := hJ _ _ _ _ HI.out.j (s4.sub (fun k hk _ => hk.elim (HBD.out k) (fun h => by have := HI.out.size; omega)))
      obtain ⟨fn, tmps, assign, body, hyy, hRr⟩ := hY _ _ M W4 HJ4.out (by rw [HE.out]; exact th_next HI.out.ok HEr.out HPR.out)
      have HRr := Lib.hid hRr
      have ky4 := (cell_same (s4.same _ HYL.out HYL.out) 0).trans ky
      unfold teM aggM at hyy
      rw [HEr.out] at hyy
      have r0 := x4.cell (i := 0) rfl
      have r1 := x4.cell (i := 1) rfl
      have r2 := x4.cell (i := 2) rfl
      have r3 := x4.cell (i := 3) rfl
      have r4 := x4.cell (i := 4) rfl
      clear x3 hb3 hRr s4 x4
      rw [hW4] at hyy ky4 HRr r0 r1 r2 r3 r4
      have HW4 := Lib.hid hW4
      clear hW4
      gi_wp2
      refine ⟨fun h => (by cases h), (roundIn_any HRr.out).mono ?_⟩
      rintro e5 A5 ⟨M5, hw5, (⟨rfl, hJ5⟩ | ⟨rfl, hX5⟩)⟩
      · rw [← HW4.out] at hw5
        have HW5 := Lib.hid (th_went HS4.out hw5)
        have HJ5 := Lib.hid hJ5
        clear hw5 hJ5
        gi_wp2
        exact ⟨M5, HW5.out, HI.out.next HW5.out HJ5.out HEr.out⟩
      · rw [← HW4.out] at hw5
        have HW5 := Lib.hid (th_went HS4.out hw5)
        have HX5 := Lib.hid hX5
        clear hw5 hX5
        gi_wp2
        exact ⟨M5, HW5.out, .inr ⟨_, HX5.out⟩⟩
    · have HEr := Lib.hid he
      have HST : Hid (upE zM0 ((between ks f fr up).map rd) = pre.map rd ++ [(zM0, (rd x).2)]) := th_stop HI.out.ok he HPR.out
      obtain ⟨ev, hev⟩ : ∃ ev, ev = (rd x).2 := ⟨_, rfl⟩
      rw [← hev] at HR he HST
      clear hev
      have hb : (ev != 0) = true := by simpa using he
      have HNE := Lib.hid he
      clear he
      rw [hA2] at k1 k2 k3 HR
      gi_wp2
      refine ⟨trivial, fun h => (by cases h), (callsIn_any (m := 0) (callsIn_wide.2 HR.out)).mono ?_⟩
      rintro e W3 ⟨rfl, hb3⟩
      rw [← HA2.out] at hb3
      have x3 := HX2.out.below hb3 HX2.out.lt
      have y3 := HY2.out.below hb3 HY2.out.lt
      have f3 := x3.frozen
      have q0 := x3.cell (i := 0) rfl
      have q1 := x3.cell (i := 1) rfl
      have q2 := x3.cell (i := 2) rfl
      have q3 := x3.cell (i := 3) rfl
      have q4 := x3.cell (i := 4) rfl
      obtain ⟨W4, hW4⟩ : ∃ W4, W4 = (((((W3.setCell ⟨A.heap.size, 0, none⟩ (.string (rd x).1.qu)).setCell ⟨A.heap.size, 1, none⟩ (.int .u64 (rd x).1.id)).setCell ⟨A.heap.size, 2, none⟩ (.int .u32 (rd x).1.tries)).setCell ⟨A.heap.size, 3, none⟩ (.int .u64 (rd x).1.expiry)).setCell ⟨A.heap.size, 4, none⟩ (.string (rd x).1.body)) := ⟨_, rfl⟩
      have x4 : BoxL W4 A.heap.size 62 #[.string (rd x).1.qu, .int .u64 (rd x).1.id, .int .u32 (rd x).1.tries, .int .u64 (rd x).1.expiry, .string (rd x).1.body] := by rw [hW4]; exact (((((x3.set 0 _).set 1 _).set 2 _).set 3 _).set 4 _)
      have y4 : BoxL W4 (A.heap.size + 1) 62 #[.string ⟨#[]⟩, .int .u64 0, .int .u32 0, .int .u64 0, .string ⟨#[]⟩] := by rw [hW4]; exact (((((y3.other (by omega) 0 _).other (by omega) 1 _).other (by omega) 2 _).other (by omega) 3 _).other (by omega) 4 _)
      have f4 := x4.frozen
      have r0 := x4.cell (i := 0) rfl
      have r1 := x4.cell (i := 1) rfl
      have r2 := x4.cell (i := 2) rfl
      have r3 := x4.cell (i := 3) rfl
      have r4 := x4.cell (i := 4) rfl
      have z0 := y4.cell (i := 0) rfl
      have z1 := y4.cell (i := 1) rfl
      have z2 := y4.cell (i := 2) rfl
      have z3 := y4.cell (i := 3) rfl
      have z4 := y4.cell (i := 4) rfl
      obtain ⟨W5, hW5⟩ : ∃ W5, W5 = (((((W4.setCell ⟨A.heap.size, 0, none⟩ (.string ⟨#[]⟩)).setCell ⟨A.heap.size, 1, none⟩ (.int .u64 0)).setCell ⟨A.heap.size, 2, none⟩ (.int .u32 0)).setCell ⟨A.heap.size, 3, none⟩ (.int .u64 0)).setCell ⟨A.heap.size, 4, none⟩ (.string ⟨#[]⟩)) := ⟨_, rfl⟩
      have x5 : BoxL W5 A.heap.size 62 #[.string ⟨#[]⟩, .int .u64 0, .int .u32 0, .int .u64 0, .string ⟨#[]⟩] := by rw [hW5]; exact (((((x4.set 0 _).set 1 _).set 2 _).set 3 _).set 4 _)
      have s4 : Stays (fun k => k < A.heap.size) A W5 := by
        refine (Stays.below HB2.out).trans ((Stays.below hb3).sub (fun k hk _ => hk) |>.trans ?_)
        rw [hW5, hW4]
        exact (((((((((((Stays.refl (fun k => k < A.heap.size) _).trans (Stays.set _ _ _ _ (fun h => Nat.lt_irrefl _ h))).trans (Stays.set _ _ _ _ (fun h => Nat.lt_irrefl _ h))).trans (Stays.set _ _ _ _ (fun h => Nat.lt_irrefl _ h))).trans (Stays.set _ _ _ _ (fun h => Nat.lt_irrefl _ h))).trans (Stays.set _ _ _ _ (fun h => Nat.lt_irrefl _ h))).trans (Stays.set _ _ _ _ (fun h => Nat.lt_irrefl _ h))).trans (Stays.set _ _ _ _ (fun h => Nat.lt_irrefl _ h))).trans (Stays.set _ _ _ _ (fun h => Nat.lt_irrefl _ h))).trans (Stays.set _ _ _ _ (fun h => Nat.lt_irrefl _ h))).trans (Stays.set _ _ _ _ (fun h => Nat.lt_irrefl _ h)))
      have HS4 := Lib.hid s4
      have HJ4 : Hid (J (pre.map rd) M W5) := hJ _ _ _ _ HI.out.j (s4.sub (fun k hk _ => hk.elim (HBD.out k) (fun h => by have := HI.out.size; omega)))
      obtain ⟨fn, tmps, assign, body, hyy, hRr⟩ := hY _ (zM0, ev) M W5 HJ4.out (by rw [HE.out, HST.out]; exact List.prefix_rfl)
      have HRr := Lib.hid hRr
      have ky4 := (cell_same (s4.same _ HYL.out HYL.out) 0).trans ky
      have hyy2 : (Instr.yield l #[.agg #[.string ⟨#[]⟩, .int .u64 0, .int .u32 0, .int .u64 0, .string ⟨#[]⟩], .int .i64 ev]).run Tryz.prog W5 = _ := hyy
      clear hyy
      have u0 := x5.cell (i := 0) rfl
      have u1 := x5.cell (i := 1) rfl
      have u2 := x5.cell (i := 2) rfl
      have u3 := x5.cell (i := 3) rfl
      have u4 := x5.cell (i := 4) rfl
      clear x3 y3 hb3 hRr s4 x4 y4 x5
      have HW4 := Lib.hid hW4
      have HW5e := Lib.hid hW5
      clear hW4 hW5
      gi_upto_region 7 with (fail)
      rw [← HW4.out]
      clear HR f3 HG0 q0 q1 q2 q3 q4
      gi_upto_region 9 with (fail)
      rw [← HW5e.out]
      clear f4 r0 r1 r2 r3 r4 z0 z1 z2 z3 z4
      gi_wp2
      refine ⟨fun h => (by cases h), (roundIn_any HRr.out).mono ?_⟩
      rintro e5 A5 ⟨M5, hw5, (⟨rfl, hJ5⟩ | ⟨rfl, hX5⟩)⟩
      · have HW5 := Lib.hid (th_went HS4.out hw5)
        have HJ5 : Hid (J E M5 A5) := by show J E M5 A5; rw [HE.out, HST.out]; exact hJ5
        clear hw5 hJ5
        gi_wp2
        exact ⟨M5, HW5.out, .inl HJ5.out⟩
      · have HW5 := Lib.hid (th_went HS4.out hw5)
        have HX5 := Lib.hid hX5
        clear hw5 hX5
        gi_wp2
        exact ⟨M5, HW5.out, .inr ⟨_, HX5.out⟩⟩
  case done =>
    intro D M W' hD hMD hI hst hgr hK
    have HI := Lib.hid hI
    have HK := Lib.hid hK
    clear hI hK
    gi_wp2
    rw [HQ.out]
    refine ⟨by simp, .inl ⟨_, _, rfl, run_takeDeferred HK.out, ?_⟩⟩
    refine ⟨_, results_none rfl _ _ _, ⟨_, rfl⟩, stays_putNew (stays_two HF.out.2.2 hst (fun k hk _ => hk)) (by omega) _, M, fun k hk => (hgr k hk).elim .inl (fun h => .inr (by omega)), .inl ?_⟩
    rw [HE.out, th_all HI.out.ok]
    exact hJ _ _ _ _ HI.out.j (Stays.put _ _ _ (fun h => h.elim hMD (fun h => by omega)))
  case stop =>
    intro D pre M W' hD hMD hX' hst hgr hK
    have HI := Lib.hid hX'
    have HK := Lib.hid hK
    clear hX' hK
    gi_wp2
    rw [HQ.out]
    refine ⟨by simp, .inl ⟨_, _, rfl, run_takeDeferred HK.out, ?_⟩⟩
    refine ⟨_, results_none rfl _ _ _, ⟨_, rfl⟩, stays_putNew (stays_two HF.out.2.2 hst (fun k hk _ => hk)) (by omega) _, M, fun k hk => (hgr k hk).elim .inl (fun h => .inr (by omega)), ?_⟩
    exact HI.out.elim (fun h => .inl (hJ _ _ _ _ h (Stays.put _ _ _ (fun h => h.elim hMD (fun h => by omega))))) (fun ⟨q, h⟩ => .inr ⟨q, hX _ _ _ _ h (Stays.put _ _ _ (fun h => h.elim hMD (fun h => by omega)))⟩)
end Go.Proofs.YtgmneapgihakgaaGreatDoor
/- The contract of the document's own Parts. -/
namespace Go.Proofs.YtgmneapgihakgaaGreatDoor
open Go.RowKit
theorem refNum_any (n : Nat) (W : World) :
    Calls Tryz.prog 216 #[.int .u64 n] W fun e w' => e = .returned (.agg #[.bool false, .int .u64 n, .string ⟨#[]⟩]) ∧ Below W.heap.size W w' := by
  go_enter Tryz.func216, Tryz.ntmps216
  go_wp2
  refine bodyPost_ret_by (v := aggP ⟨false, n, []⟩) ?_ rfl ⟨rfl, (Below.refl _ _).alloc (Nat.le_refl _) _⟩
  simp [results, Tryz.results216, go_sem, aggP, str]
theorem refStr_any (t : List UInt8) (W : World) :
    Calls Tryz.prog 215 #[.string (str t)] W fun e w' => e = .returned (.agg #[.bool true, .int .u64 0, .string (str t)]) ∧ Below W.heap.size W w' := by
  go_enter Tryz.func215, Tryz.ntmps215
  go_wp2
  refine bodyPost_ret_by (v := aggP ⟨true, 0, t⟩) ?_ rfl ⟨rfl, (Below.refl _ _).alloc (Nat.le_refl _) _⟩
  simp [results, Tryz.results215, go_sem, aggP]
theorem slice_nine (K : List UInt8) (i : Nat) (h : i + 9 ≤ K.length) (W : World) :
    (Instr.slice 9 (.string (str K)) (some (.int .i64 ((i : Int) + 1))) (some (.int .i64 ((i : Int) + 9))) none).run Tryz.prog W = .ok (.string (str ((K.drop (i + 1)).take 8))) W := by
  rw [run_slice_string W 9 (str K) .i64 .i64 _ _ Tryz.underlying9 (by omega) (by omega) (by rw [str_size]; omega)]
  congr 2
  rw [show ((i : Int) + 1).toNat = i + 1 by omega, show ((i : Int) + 9).toNat = i + 9 by omega]
  apply ByteArray.ext
  simp only [str]
  rw [ByteArray.data_extract]
  apply Array.ext'
  simp [List.take_drop]
theorem drop_atL (K : List UInt8) (i : Nat) (c : UInt8) (h : K[i]? = some c) : K.drop i = c :: K.drop (i + 1) := by
  obtain ⟨hk, he⟩ := List.getElem?_eq_some_iff.1 h
  rw [List.drop_eq_getElem_cons hk, he]
theorem info43' : (Tryz.prog.info? 305).map (fun i => (i.zero, i.size, i.bytes)) = some (some (.agg #[.bool false, .int .u64 0, .string ByteArray.empty]), 3, 32) := info43
theorem fwd_key (K : List UInt8) (l : List Ord.P) (i : Nat) (p : Ord.P) (R' : List UInt8) (hK : K = Ord.key l ++ K.drop i) (hp : Ord.pt (K.drop i) = some (p, R')) : K = Ord.key (l ++ [p]) ++ R' := by
  obtain ⟨hpe, _⟩ := Ord.pt_some _ _ _ hp
  rw [Ord.key_append, List.append_assoc]
  show K = Ord.key l ++ (Ord.key [p] ++ R')
  rw [show Ord.key [p] = Ord.pb p by simp [Ord.key], ← hpe]
  exact hK
theorem ok_snoc (l : List Ord.P) (p : Ord.P) (hl : ∀ q ∈ l, q.ok) (hp : p.ok) : ∀ q ∈ l ++ [p], q.ok := by
  intro q hq
  rcases List.mem_append.1 hq with h | h
  · exact hl q h
  · simp at h; subst h; exact hp
theorem cellsP_at (w : World) (p : Ord.P) (T : TypeId) : ∀ (j : Nat) u, (cellsP p)[j]? = some u →
    (w.alloc (.cells #[.bool p.t, .int .u64 p.n, .string (str p.s)] T)).cell? ((⟨w.heap.size, 0, none⟩ : Addr).add j) = some u := by
  intro j u hj
  unfold cellsP at hj
  match j, hj with
  | 0, hj => simp at hj; subst hj; simp [Addr.add]
  | 1, hj => simp at hj; subst hj; simp [Addr.add]
  | 2, hj => simp at hj; subst hj; simp [Addr.add]
  | (j + 3), hj => simp at hj
theorem index_at (K : List UInt8) (j : Nat) (d : UInt8) (h : K[j]? = some d) (x : Int) (hx : x = j) (W : World) :
    (Instr.index 9 (.string (str K)) (.int .i64 x)).run Tryz.prog W = .ok (.int .u8 d.toNat) W := by
  subst hx
  have hj := (List.getElem?_eq_some_iff.1 h).1
  rw [run_index_string W 9 (str K) .i64 j Tryz.underlying9, dif_pos ⟨by omega, by rw [str_size]; omega⟩]
  have hs := str_at K j d h (by rw [str_size]; exact hj)
  congr 3
theorem own_upd' {w w' : World} {b B : Nat} {e : TypeId} {s : Nat} {v : Value} {n : Nat} {xs : List Value} {o : Obj} (h : (w.alloc o).ownsRow B e s v n xs) (u : Upd b (w.alloc o) w') (hv : v.ownBlock ≠ some b) : w'.ownsRow B e s v n xs := by
  obtain ⟨h0, h1⟩ := h
  refine ⟨h0, ?_⟩
  rcases h1 with h1 | ⟨g, cap, cur, rfl, hg, hh, rest⟩
  · exact .inl h1
  · exact .inr ⟨g, cap, cur, rfl, hg, by rw [u.block g (fun he => hv (by rw [he]; rfl)), hh], rest⟩
end Go.Proofs.YtgmneapgihakgaaGreatDoor
/- The contracts of a key's row: Str, Queue of the example, light, Under. -/
namespace Go.Proofs.YtgmneapgihakgaaGreatDoor
open Go.RowKit
theorem Sl.two (w : World) (p q : Ord.P) (T : TypeId) : Sl (w.alloc (.cells #[.bool p.t, .int .u64 p.n, .string (str p.s), .bool q.t, .int .u64 q.n, .string (str q.s)] T)) (.slice (some ⟨w.heap.size, 0, none⟩) 2 2) [p, q] := by
  refine ⟨_, w.heap.size, 0, 2, rfl, .inr rfl, fun j r hj => ?_⟩
  match j, hj with
  | 0, hj => simp at hj; subst hj; refine ⟨?_, ?_, ?_⟩ <;> simp
  | 1, hj => simp at hj; subst hj; refine ⟨?_, ?_, ?_⟩ <;> simp
  | (j + 2), hj => simp at hj
theorem queueEx : keyOut [⟨true, 0, [113]⟩, ⟨true, 0, [97]⟩] = .tuple #[.string ⟨#[2, 113, 0, 0, 2, 97, 0, 0]⟩, .int .i64 0] := by
  rw [keyOut_ok _ (by decide)]; rfl
theorem keyEx2 (m : Int) (W : World) (hm : W.cell? ⟨0, 0, none⟩ = some (.int .i64 m)) (T : TypeId) :
    Calls Tryz.prog 125 #[.slice (some ⟨W.heap.size, 0, none⟩) 2 2] (W.alloc (.cells #[.bool true, .int .u64 0, .string ⟨#[113]⟩, .bool true, .int .u64 0, .string ⟨#[97]⟩] T)) fun e w' => e = .returned (.tuple #[.string ⟨#[2, 113, 0, 0, 2, 97, 0, 0]⟩, .int .i64 0]) ∧ Below W.heap.size W w' := by
  have h0 := World.block_lt_of_cell? _ _ hm
  have h1 := key_any _ [⟨true, 0, [113]⟩, ⟨true, 0, [97]⟩] (by decide) m _ (Sl.two W ⟨true, 0, [113]⟩ ⟨true, 0, [97]⟩ T) (by intro p hp; simp at hp; rcases hp with rfl | rfl <;> decide) (((Below.refl _ _).alloc (Nat.le_refl _) _ |>.cell (p := ⟨0, 0, none⟩) h0).trans hm)
  rw [queueEx] at h1
  exact h1.mono fun e w' h => ⟨h.1, below_step ((Below.refl _ _).alloc (Nat.le_refl _) _) h.2⟩
theorem queueEx_any (m : Int) (w : World) (hm : w.cell? ⟨0, 0, none⟩ = some (.int .i64 m)) :
    Calls Tryz.prog 77 #[.string ⟨#[97]⟩] w fun e w' => e = .returned (.tuple #[.string ⟨#[2, 113, 0, 0, 2, 97, 0, 0]⟩, .int .i64 0]) ∧ Below w.heap.size w w' := by
  have h0 := World.block_lt_of_cell? _ _ hm
  have HM : Hid (∀ W, Below w.heap.size w W → W.cell? ⟨0, 0, none⟩ = some (.int .i64 m)) := fun W hW => (hW.cell (p := ⟨0, 0, none⟩) h0).trans hm
  have hs1 := fun W => strP_any [113] W
  have hs2 := fun W => strP_any [97] W
  unfold aggP at hs1 hs2
  have H1 : Hid (∀ W, Calls Tryz.prog 103 #[.string ⟨#[113]⟩] W fun e w' => e = .returned (.agg #[.bool true, .int .u64 0, .string ⟨#[113]⟩]) ∧ Below W.heap.size W w') := hs1
  have H2 : Hid (∀ W, Calls Tryz.prog 103 #[.string ⟨#[97]⟩] W fun e w' => e = .returned (.agg #[.bool true, .int .u64 0, .string ⟨#[97]⟩]) ∧ Below W.heap.size W w') := hs2
  clear hs1 hs2 hm h0
  go_enter Tryz.func77, Tryz.ntmps77
  go_wp2_with (first
    | (go_at_call 125; refine (keyEx2 m _ (HM.out _ (below_step hb1 hb2)) _).mono ?_; rintro e w3 ⟨rfl, hb3⟩)
    | (go_at_call 103; have tok := hb1; refine (H2.out _).mono ?_; rintro e w2 ⟨rfl, hb2⟩)
    | (go_at_call 103; refine (H1.out _).mono ?_; rintro e w1 ⟨rfl, hb1⟩))
  go_ret2
  exact ⟨rfl, below_step (below_step hb1 hb2) hb3⟩
/-- A row of texts that a slice shows. -/
def Sls (w : World) (v : Value) (l : List ByteArray) : Prop :=
  ∃ b o c : Nat, v = .slice (some ⟨b, o, none⟩) l.length c ∧ ∀ (j : Nat) s, l[j]? = some s → w.cell? ⟨b, o + j, none⟩ = some (.string s)
end Go.Proofs.YtgmneapgihakgaaGreatDoor
