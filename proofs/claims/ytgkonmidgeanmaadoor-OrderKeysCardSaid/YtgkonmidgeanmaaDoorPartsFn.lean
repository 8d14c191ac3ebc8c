/- The contract of Parts. -/
import Derived.Test.YtgkonmidgeanmaaDoorPartFn
namespace Go.Proofs.YtgkonmidgeanmaaDoor
open Go.RowKit
inductive PartsOut (K : List UInt8) (w : World) (e : Ending) (w' : World) : Prop
  | ok (l : List Ord.P) (hl : ∀ p ∈ l, p.ok) (hK : K = Ord.key l) (h255 : K.length ≤ 255) (a : Option Addr) (n c : Nat) (hn : n = l.length) (he : e = .returned (.tuple #[.slice a n c, .int .i64 0])) (hs : Sl w' (.slice a n c) l) (hb : Below w.heap.size w w')
  | bad (hno : K.length ≤ 255 → ∀ l, (∀ p ∈ l, p.ok) → K ≠ Ord.key l) (he : e = .returned (.tuple #[.slice none 0 0, .int .i64 20])) (hb : Below w.heap.size w w')
theorem own_mod {w w' : World} {b B : Nat} {e : TypeId} {s : Nat} {v : Value} {n : Nat} {xs : List Value} (h : w.ownsRow B e s v n xs) (m : Mod b w w') (hb : b < B) : w'.ownsRow B e s v n xs := by
  obtain ⟨h0, h1⟩ := h
  refine ⟨h0, ?_⟩
  rcases h1 with h1 | ⟨g, cap, cur, hv, hg, hh, rest⟩
  · exact .inl h1
  · have hlt : g < w.heap.size := by
      rcases Nat.lt_or_ge g w.heap.size with h' | h'
      · exact h'
      · rw [Array.getElem?_eq_none h'] at hh; cases hh
    exact .inr ⟨g, cap, cur, hv, hg, by rw [m.block g hlt (by omega), hh], rest⟩
theorem key_len (l : List Ord.P) : l.length ≤ (Ord.key l).length := by
  induction l with
  | nil => exact Nat.le_refl _
  | cons p l ih =>
    rw [Ord.key_cons, List.length_append, List.length_cons]
    have := List.length_pos_iff.2 (Ord.pb_ne p)
    omega
theorem cellsP_new (w : World) (p : Ord.P) (o : Obj) (T : TypeId) : ∀ (j : Nat) u, (cellsP p)[j]? = some u →
    ((w.alloc o).alloc (.cells #[.bool p.t, .int .u64 p.n, .string (str p.s)] T)).cell? ((⟨w.heap.size + 1, 0, none⟩ : Addr).add j) = some u := by
  intro j u hj
  unfold cellsP at hj
  match j, hj with
  | 0, hj => simp at hj; subst hj; simp [Addr.add]
  | 1, hj => simp at hj; subst hj; simp [Addr.add]
  | 2, hj => simp at hj; subst hj; simp [Addr.add]
  | (j + 3), hj => simp at hj
theorem cellsP_one (p : Ord.P) : ∀ u ∈ cellsP p, u.oneCell' = true := by
  intro u hu
  simp [cellsP] at hu
  rcases hu with rfl | rfl | rfl <;> rfl
theorem nil_str : str [] = ⟨#[]⟩ := rfl
set_option maxHeartbeats 4000000 in
set_option maxRecDepth 100000 in
theorem parts_any (K : List UInt8) (hK : K.length ≤ 1000) (w : World) :
    Calls Tryd.prog 12 #[.string (str K)] w fun e w' => PartsOut K w e w' := by
  obtain ⟨i0, hi, hz0, hz1, hz2⟩ := info_parts info41
  have hsz : (str K).size = K.length := rfl
  by_cases h255 : (K.length : Int) > 255
  · go_enter Tryd.func12, Tryd.ntmps12
    go_wp2
    go_ret2
    exact .bad (fun h => by omega) rfl (Below.refl _ _)
  · go_enter Tryd.func12, Tryd.ntmps12
    go_wp2_with (go_at_call 26; refine (over_any _ _).mono ?_; rintro e w1 ⟨rfl, hr1, hb1⟩)
    have HR1 := Lib.hid hr1
    have HB1 := Lib.hid hb1
    have HLT := Lib.hid hr1.lt
    clear hr1 hb1
    go_loopg [4] K.length (fun g v wr => ∃ (l : List Ord.P) (R : List UInt8), Hid (∀ p ∈ l, p.ok) ∧ Hid (K = Ord.key l ++ R) ∧ g = R.length ∧ Hid (Rd wr w.heap.size (str R) 0) ∧
      Hid (wr.ownsRow w1.heap.size 41 3 v l.length (l.flatMap cellsP)) ∧ Hid (Below w.heap.size w wr) ∧ Hid (w1.heap.size ≤ wr.heap.size))
    case atStart => exact ⟨[], K, (fun p hp => by simp at hp), rfl, rfl, HR1.out, World.ownsRow_nil _ _ _ _, HB1.out, Nat.le_refl _⟩
    case round =>
      obtain ⟨l, R, HL, HK, rfl, HRd, HO, HB, HS⟩ := hrel
      have hlk : l.length ≤ 255 := by
        have h1 := key_len l
        have h2 := congrArg List.length HK.out
        rw [List.length_append] at h2
        omega
      have hrk : R.length ≤ 1000 := by
        have h2 := congrArg List.length HK.out
        rw [List.length_append] at h2
        omega
      cases R with
      | nil =>
        obtain ⟨a1, c1, rfl⟩ : ∃ a1 c1, u4 = .slice a1 l.length c1 := by
          rcases HO.out.2 with ⟨h, h0⟩ | ⟨g, cap, cur, h, _⟩
          · exact ⟨none, 0, by rw [h, h0]⟩
          · exact ⟨_, cap, h⟩
        go_wp2_with (go_at_call 27; refine (left_str _ [] 0 _ HRd.out).mono ?_; rintro e w2 ⟨rfl, rfl⟩)
        go_ret2
        exact .ok l HL.out (by have := HK.out; rwa [List.append_nil] at this) (by omega) a1 _ c1 rfl rfl (Sl.own HO.out) HB.out
      | cons x R =>
        have hr1000 : R.length ≤ 1000 := by simp at hrk; omega
        go_wp2_with (first
          | (go_at_call 27; refine (left_str _ (x :: R) 0 _ HRd.out).mono ?_; rintro e w2 ⟨rfl, rfl⟩)
          | (go_at_call 28; refine (part_any w.heap.size x R hr1000 _ HRd.out).mono ?_))
        rintro e w3 (⟨p, R', hp, rfl, hr, hm⟩ | ⟨hp, p, rfl, s, y, hr, hy, hm⟩)
        · have HB3 : Hid (Below w.heap.size w w3) := HB.out.trans (hm.below (Nat.le_refl _) HB.out.size)
          unfold aggP
          go_wp2_with (first
            | (go_at_call 29; refine (err_any _ _ _ _ (hr.alloc _)).mono ?_; rintro e w4 ⟨rfl, rfl⟩)
            | (at_builtin; refine wpList_append_own _ rfl _ _ 22 rfl w1.heap.size 41 i0 _ 3 32 Tryd.underlying22 hi hz0 hz1 hz2 rfl (by decide) _ l.length _ rfl (((own_mod HO.out hm HLT.out).alloc _).alloc _) ⟨w3.heap.size + 1, 0, none⟩ 1 1 (cellsP p) rfl rfl ?c1 ?c2 ?c3 ?c4 ?c5 ?_))
          case c1 => exact cellsP_new w3 p _ 41
          case c2 => exact cellsP_one p
          case c3 => unfold maxLen; omega
          case c4 => omega
          case c5 => have h1 := HS.out; have h2 := hm.size; simp; omega
          intro v' w4 hown' hgrow _
          have hs3 : w1.heap.size ≤ w3.heap.size := Nat.le_trans HS.out hm.size
          have HO4 : Hid (w4.ownsRow w1.heap.size 41 3 v' (l ++ [p]).length ((l ++ [p]).flatMap cellsP)) := by
            show w4.ownsRow _ _ _ _ _ _
            rw [List.flatMap_append, flat_one, List.length_append]; exact hown'
          have HB4 : Hid (Below w1.heap.size w3 w4) := (((Below.refl _ _).alloc hs3 _).alloc (by simp; omega) _).grown hgrow (by simp; omega) (fun g hg => (HO.out.lt g hg).1)
          clear hown' hgrow
          obtain ⟨hpe, hpo⟩ := Ord.pt_some _ _ _ hp
          have HK4 : Hid (K = Ord.key (l ++ [p]) ++ R') := by
            show K = _
            rw [HK.out, hpe, Ord.key_append, Ord.key_cons]
            simp [Ord.key]
          have HL4 : Hid (∀ q ∈ l ++ [p], q.ok) := by
            intro q hq
            rcases List.mem_append.1 hq with h | h
            · exact HL.out q h
            · simp at h; subst h; exact hpo
          have HD : Hid (R'.length < (x :: R).length) := by
            show _ < _
            rw [hpe, List.length_append]
            have := List.length_pos_iff.2 (Ord.pb_ne p)
            omega
          go_wp2
          go_roundg R'.length
          case measure => exact HD.out
          case rel => exact ⟨l ++ [p], R', HL4, HK4, rfl, hr.below' HB4.out HLT.out, HO4, HB3.out.trans (HB4.out.mono HB1.out.size), Nat.le_trans hs3 HB4.out.size⟩
        · have hy' : (y != 0) = true := by rw [bne_iff_ne]; exact hy
          have HB3 : Hid (Below w.heap.size w w3) := HB.out.trans (hm.below (Nat.le_refl _) HB.out.size)
          have HNO : Hid (∀ m, (∀ p ∈ m, p.ok) → K ≠ Ord.key m) := by
            intro m hmm
            rw [HK.out]
            exact Ord.no_row l HL.out (x :: R) (by simp) hp m hmm
          unfold aggP
          go_wp2_with (go_at_call 29; refine (err_any _ _ _ _ (hr.alloc _)).mono ?_; rintro e w4 ⟨rfl, rfl⟩)
          go_ret2
          exact .bad (fun _ => HNO.out) rfl (HB3.out.alloc HB3.out.size _)
end Go.Proofs.YtgkonmidgeanmaaDoor
