/- The contracts of the functions that read keys: unescaped, part. -/
import Derived.Test.YtgkonmidgeanmaaDoorRowed
import Derived.Test.YtgkonmidgeanmaaDoorReader
import Derived.Test.YtgkonmidgeanmaaDoorUn
namespace Go.Proofs.YtgkonmidgeanmaaDoor
open Go.RowKit
/-- Of what was there nothing has turned but block b. -/
structure Mod (b : Nat) (w w' : World) : Prop where
  os : w'.os = w.os
  tape : w'.tape = w.tape
  output : w'.output = w.output
  size : w.heap.size ≤ w'.heap.size
  block : ∀ k, k < w.heap.size → k ≠ b → w'.heap[k]? = w.heap[k]?
theorem Mod.refl (b : Nat) (w : World) : Mod b w w := ⟨rfl, rfl, rfl, Nat.le_refl _, fun _ _ _ => rfl⟩
theorem Mod.trans {b : Nat} {u v w : World} (h : Mod b u v) (k : Mod b v w) : Mod b u w :=
  ⟨k.os.trans h.os, k.tape.trans h.tape, k.output.trans h.output, Nat.le_trans h.size k.size, fun i hi hne => (k.block i (Nat.lt_of_lt_of_le hi h.size) hne).trans (h.block i hi hne)⟩
theorem Mod.upd {b : Nat} {u v w : World} (h : Mod b u v) (k : Upd b v w) : Mod b u w :=
  h.trans ⟨k.os, k.tape, k.output, Nat.le_of_eq k.size.symm, fun i _ hne => k.block i hne⟩
theorem Mod.step {b : Nat} {u v w : World} (h : Mod b u v) (k : Below v.heap.size v w) : Mod b u w :=
  h.trans ⟨k.os, k.tape, k.output, k.size, fun i hi _ => k.block i hi⟩
theorem Mod.alloc {b : Nat} {u v : World} (h : Mod b u v) (o : Obj) : Mod b u (v.alloc o) := h.step ((Below.refl _ _).alloc (Nat.le_refl _) _)
theorem Mod.below {b B : Nat} {w w' : World} (h : Mod b w w') (hb : B ≤ b) (hB : B ≤ w.heap.size) : Below B w w' :=
  ⟨h.os, h.tape, h.output, h.size, fun k hk => h.block k (by omega) (by omega)⟩
theorem Mod.cell {b : Nat} {w w' : World} (h : Mod b w w') {p : Addr} (hp : p.block < w.heap.size) (hne : p.block ≠ b) : w'.cell? p = w.cell? p := World.cell?_of_block (w := w) (h.block p.block hp hne)
theorem Mod.frozen {b : Nat} {w w' : World} (h : Mod b w w') {p : Addr} (hp : p.block < w.heap.size) (hne : p.block ≠ b) : w'.frozen? p = w.frozen? p := World.frozen?_of_block (w := w) (h.block p.block hp hne)
theorem Rd.alloc {w : World} {b : Nat} {s : ByteArray} {e : Int} (h : Rd w b s e) (o : Obj) : Rd (w.alloc o) b s e := h.below ((Below.refl _ _).alloc (Nat.le_refl _) _)
theorem Rd.lt {w : World} {b : Nat} {s : ByteArray} {e : Int} (h : Rd w b s e) : b < w.heap.size := World.block_lt_of_cell? _ _ h.c0
theorem tk_str (l m : List UInt8) (k : Nat) (h : l.length = k) : tk (str (l ++ m)) 0 k = (str l, str m, 0) := by
  subst h
  have e0 : (str (l ++ m)).extract 0 l.length = str l := by apply ByteArray.ext; simp [str]
  have e1 : (str (l ++ m)).extract l.length (str (l ++ m)).size = str m := by rw [str_size, List.length_append]; apply ByteArray.ext; simp [str]
  rw [tk_ok _ _ (by rw [str_size, List.length_append]; omega), e0, e1]
theorem one_cons (b : Nat) (c : UInt8) (R : List UInt8) (w : World) (h : Rd w b (str (c :: R)) 0) :
    Calls Tryd.prog 38 #[.pointer (some ⟨b, 0, none⟩)] w fun v w' => v = .returned (.int .u8 c.toNat) ∧ Rd w' b (str R) 0 ∧ Upd b w w' := by
  have := one_rd b _ 0 w h
  rw [show tk (str (c :: R)) 0 1 = (str [c], str R, 0) from tk_str [c] R 1 rfl, str_data, show Oc.val [c] = c.toNat by simp [Oc.val]] at this
  exact this
theorem one_nil (b : Nat) (w : World) (h : Rd w b (str []) 0) :
    Calls Tryd.prog 38 #[.pointer (some ⟨b, 0, none⟩)] w fun v w' => v = .returned (.int .u8 0) ∧ Rd w' b (str []) 3 ∧ Upd b w w' := by
  have := one_rd b _ 0 w h
  rw [tk_short (str []) 1 (by rw [str_size]; simp)] at this
  exact this
theorem one_err (b : Nat) (s : ByteArray) (e : Int) (w : World) (h : Rd w b s e) (he : e ≠ 0) :
    Calls Tryd.prog 38 #[.pointer (some ⟨b, 0, none⟩)] w fun v w' => v = .returned (.int .u8 0) ∧ Rd w' b s e ∧ Upd b w w' := by
  have := one_rd b s e w h
  rw [tk_bad s e 1 he] at this
  exact this
theorem eight_ok (b : Nat) (R : List UInt8) (h8 : 8 ≤ R.length) (w : World) (h : Rd w b (str R) 0) :
    Calls Tryd.prog 39 #[.pointer (some ⟨b, 0, none⟩)] w fun v w' => v = .returned (.int .u64 (Oc.val (R.take 8) : Nat)) ∧ Rd w' b (str (R.drop 8)) 0 ∧ Upd b w w' := by
  have := eight_rd b _ 0 w h
  have e : tk (str R) 0 8 = (str (R.take 8), str (R.drop 8), 0) := by
    have := tk_str (R.take 8) (R.drop 8) 8 (by rw [List.length_take]; omega)
    rwa [List.take_append_drop] at this
  rw [e, str_data] at this
  exact this
theorem eight_short (b : Nat) (R : List UInt8) (h8 : ¬ 8 ≤ R.length) (w : World) (h : Rd w b (str R) 0) :
    Calls Tryd.prog 39 #[.pointer (some ⟨b, 0, none⟩)] w fun v w' => v = .returned (.int .u64 0) ∧ Rd w' b (str R) 3 ∧ Upd b w w' := by
  have := eight_rd b _ 0 w h
  rw [tk_short (str R) 8 (by rw [str_size]; omega)] at this
  exact this
theorem Mod.step' {b : Nat} {u v w : World} (h : Mod b u v) (k : Below u.heap.size v w) : Mod b u w :=
  ⟨k.os.trans h.os, k.tape.trans h.tape, k.output.trans h.output, Nat.le_trans h.size k.size, fun i hi hne => (k.block i hi).trans (h.block i hi hne)⟩
theorem Rd.below' {w w' : World} {b B : Nat} {s : ByteArray} {e : Int} (h : Rd w b s e) (hb : Below B w w') (hlt : b < B) : Rd w' b s e := by
  have hB := hb.block b hlt
  exact ⟨(World.cell?_of_block (w := w) hB).trans h.c0, (World.cell?_of_block (w := w) hB).trans h.c1, (World.frozen?_of_block (w := w) hB).trans h.f0, (World.frozen?_of_block (w := w) hB).trans h.f1⟩
theorem own_upd {w w' : World} {b B : Nat} {e : TypeId} {s : Nat} {v : Value} {n : Nat} {xs : List Value} (h : w.ownsRow B e s v n xs) (u : Upd b w w') (hb : b < B) : w'.ownsRow B e s v n xs := by
  obtain ⟨h0, h1⟩ := h
  refine ⟨h0, ?_⟩
  rcases h1 with h1 | ⟨g, cap, cur, hv, hg, hh, rest⟩
  · exact .inl h1
  · exact .inr ⟨g, cap, cur, hv, hg, by rw [u.block g (by omega), hh], rest⟩
theorem one_zero (b : Nat) (R : List UInt8) (w : World) (h : Rd w b (str (0 :: R)) 0) :
    Calls Tryd.prog 38 #[.pointer (some ⟨b, 0, none⟩)] w fun v w' => v = .returned (.int .u8 0) ∧ Rd w' b (str R) 0 ∧ Upd b w w' := one_cons b 0 R w h
theorem one_255 (b : Nat) (R : List UInt8) (w : World) (h : Rd w b (str (255 :: R)) 0) :
    Calls Tryd.prog 38 #[.pointer (some ⟨b, 0, none⟩)] w fun v w' => v = .returned (.int .u8 255) ∧ Rd w' b (str R) 0 ∧ Upd b w w' := one_cons b 255 R w h
theorem fail_20 (b : Nat) (s : ByteArray) (w : World) (h : Rd w b s 0) :
    Calls Tryd.prog 41 #[.pointer (some ⟨b, 0, none⟩), .int .i64 20] w fun v w' => v = .returned (.tuple #[]) ∧ Rd w' b s 20 ∧ Upd b w w' := fail_any b s 0 20 w h
theorem pre_snoc (t : List UInt8) (c : UInt8) (o : Option (List UInt8 × List UInt8)) : (o.map (fun x => (c :: x.1, x.2))).map (Ord.pre t) = o.map (Ord.pre (t ++ [c])) := by
  cases o <;> simp [Ord.pre]
inductive UnOut (R : List UInt8) (b : Nat) (w : World) (e : Ending) (w' : World) : Prop
  | ok (t R' : List UInt8) (h : Ord.un R = some (t, R')) (he : e = .returned (.string (str t))) (hr : Rd w' b (str R') 0) (hm : Mod b w w')
  | bad (h : Ord.un R = none) (t : List UInt8) (he : e = .returned (.string (str t))) (s : ByteArray) (x : Int) (hr : Rd w' b s x) (hx : x ≠ 0) (hm : Mod b w w')
theorem info5 : (Tryd.prog.info? 5).map (fun i => (i.zero, i.size, i.bytes)) = some (some (.int .u8 0), 1, 1) := by kernel_rfl
def bytesV (t : List UInt8) : List Value := t.map (fun c => .int .u8 (c.toNat : Int))
theorem bytesV_snoc (t : List UInt8) (c : UInt8) : bytesV (t ++ [c]) = bytesV t ++ [.int .u8 (c.toNat : Int)] := by simp [bytesV]
theorem cell_new (w : World) (x : Value) (T : TypeId) : ∀ (j : Nat) u, [x][j]? = some u → (w.alloc (.cells #[x] T)).cell? ((⟨w.heap.size, 0, none⟩ : Addr).add j) = some u := by
  intro j u hj
  match j, hj with
  | 0, hj => simp at hj; subst hj; simp [Addr.add]
  | (j + 1), hj => simp at hj
theorem own_back {w : World} {B : Nat} {v : Value} {t : List UInt8} (h : w.ownsRow B 5 1 v t.length (bytesV t)) :
    (convert 70 9 v).run Tryd.prog w = .ok (.string (str t)) w := by
  have hw := h
  obtain ⟨_, h1⟩ := h
  rcases h1 with ⟨rfl, h0⟩ | ⟨g, cap, cur, rfl, _⟩
  · obtain rfl : t = [] := List.length_eq_zero_iff.1 h0
    exact (show (convert 70 9 (.slice none 0 0)).run Tryd.prog w = .ok (.string (str [])) w by kernel_rfl)
  · exact run_convert_bytes_back (P := Tryd.prog) w 70 9 5 ⟨g, 0, none⟩ cap t Tryd.underlying70 Tryd.underlying5 Tryd.underlying9 (by
      intro j hj
      rw [show (⟨g, 0, none⟩ : Addr).add j = ⟨g, j, none⟩ by unfold Addr.add; split <;> simp_all]
      rw [hw.cellAt j (by omega)]
      simp [bytesV, hj])
set_option maxHeartbeats 2000000 in
set_option maxRecDepth 100000 in
theorem unescaped_any (b : Nat) (R : List UInt8) (hR : R.length ≤ 1000) (w : World) (h : Rd w b (str R) 0) :
    Calls Tryd.prog 40 #[.pointer (some ⟨b, 0, none⟩)] w fun e w' => UnOut R b w e w' := by
  obtain ⟨i0, hi, hz0, hz1, hz2⟩ := info_parts info5
  have HR := Lib.hid h
  have HLT := Lib.hid h.lt
  clear h
  go_enter Tryd.func40, Tryd.ntmps40
  go_wp2
  go_loopg [3] (R.length + 2) (fun g v wr => ∃ (t : List UInt8), Hid (t.length ≤ 1001) ∧ Hid (wr.ownsRow w.heap.size 5 1 v t.length (bytesV t)) ∧ Hid (Mod b w wr) ∧
    ((∃ R', Hid (Rd wr b (str R') 0) ∧ Hid (Ord.un R = (Ord.un R').map (Ord.pre t)) ∧ g = R'.length + 2 ∧ Hid (t.length + R'.length ≤ 1000)) ∨ (∃ (s : ByteArray) (x : Int), Hid (Rd wr b s x) ∧ Hid (x ≠ 0) ∧ Hid (Ord.un R = none) ∧ g = 1)))
  case atStart => exact ⟨[], Nat.zero_le _, World.ownsRow_nil _ _ _ _, Mod.refl _ _, .inl ⟨R, HR, by show Ord.un R = _; cases Ord.un R <;> rfl, rfl, by show 0 + R.length ≤ 1000; omega⟩⟩
  case round =>
    obtain ⟨t, HT, HO, HM, hcase⟩ := hrel
    have hsz := HM.out.size
    have HT2 : Hid ((t.length + 1) * 1 ≤ 140737488355328) := by show _ ≤ _; have := HT.out; omega
    rcases hcase with ⟨R', HRd, HU, hg, HL⟩ | ⟨s, x, HRd, HX, HU, hg⟩
    · subst hg
      cases R' with
      | nil =>
        have HN : Hid (Ord.un R = none) := by show _ = _; rw [HU.out, Ord.un_nil]; rfl
        go_wp2_with (go_at_call 38; first
          | (refine (one_nil b _ HRd.out).mono ?_; rintro e w1 ⟨rfl, hr1, hu1⟩)
          | (refine (one_err b _ 3 _ hr1 (by decide)).mono ?_; rintro e w2 ⟨rfl, hr2, hu2⟩; have hbk := own_back (own_upd (own_upd HO.out hu1 HLT.out) hu2 HLT.out)))
        go_ret
        exact .bad HN.out t rfl _ 3 hr2 (by decide) ((HM.out.upd hu1).upd hu2)
      | cons c R' =>
        by_cases hc : c = 0
        · subst hc
          cases R' with
          | nil =>
            have HN : Hid (Ord.un R = none) := by show _ = _; rw [HU.out, Ord.un_zero]; rfl
            go_wp2_with (go_at_call 38; first
              | (refine (one_zero b _ _ HRd.out).mono ?_; rintro e w1 ⟨rfl, hr1, hu1⟩)
              | (refine (one_nil b _ hr1).mono ?_; rintro e w2 ⟨rfl, hr2, hu2⟩; have hbk := own_back (own_upd (own_upd HO.out hu1 HLT.out) hu2 HLT.out)))
            go_ret
            exact .bad HN.out t rfl _ 3 hr2 (by decide) ((HM.out.upd hu1).upd hu2)
          | cons d R' =>
            by_cases hd : d = 0
            · subst hd
              have HN : Hid (Ord.un R = some (t, R')) := by show _ = _; rw [HU.out, Ord.un_end]; simp [Ord.pre]
              go_wp2_with (go_at_call 38; first
                | (refine (one_zero b _ _ HRd.out).mono ?_; rintro e w1 ⟨rfl, hr1, hu1⟩)
                | (refine (one_zero b _ _ hr1).mono ?_; rintro e w2 ⟨rfl, hr2, hu2⟩; have hbk := own_back (own_upd (own_upd HO.out hu1 HLT.out) hu2 HLT.out)))
              go_ret
              exact .ok t R' HN.out rfl hr2 ((HM.out.upd hu1).upd hu2)
            · by_cases hd2 : d = 255
              · subst hd2
                have HN : Hid (Ord.un R = (Ord.un R').map (Ord.pre (t ++ [0]))) := by show _ = _; rw [HU.out, Ord.un_go, pre_snoc]
                go_wp2_with (first
                  | (go_at_call 38; first
                    | (refine (one_zero b _ _ HRd.out).mono ?_; rintro e w1 ⟨rfl, hr1, hu1⟩)
                    | (refine (one_255 b _ _ hr1).mono ?_; rintro e w2 ⟨rfl, hr2, hu2⟩; have hO2 := Lib.hid (own_upd (own_upd HO.out hu1 HLT.out) hu2 HLT.out)))
                  | (at_builtin; refine wpList_append_own _ rfl _ _ 70 rfl w.heap.size 5 i0 _ 1 1 Tryd.underlying70 hi hz0 hz1 hz2 rfl (by decide) _ t.length _ rfl (hO2.out.alloc _) ⟨w2.heap.size, 0, none⟩ 1 1 [.int .u8 0] rfl rfl ?c1 ?c2 ?c3 ?c4 ?c5 ?_))
                case c1 => exact cell_new _ _ _
                case c2 => intro u hu; simp at hu; subst hu; rfl
                case c3 => unfold maxLen; have := HT.out; omega
                case c4 => exact HT2.out
                case c5 => simp; have := ((HM.out.upd hu1).upd hu2).size; omega
                intro v' w3 hown' hgrow _
                have HB3 : Hid (Below w.heap.size w2 w3) := ((Below.refl _ _).alloc (((HM.out.upd hu1).upd hu2).size) _).grown hgrow (by simp; have := ((HM.out.upd hu1).upd hu2).size; omega) (fun g hg => (hO2.out.lt g hg).1)
                have HO3 : Hid (w3.ownsRow w.heap.size 5 1 v' (t ++ [0]).length (bytesV (t ++ [0]))) := by
                  show w3.ownsRow _ _ _ _ _ _
                  rw [bytesV_snoc, List.length_append]; exact hown'
                clear hown' hgrow
                go_wp2
                go_roundg (R'.length + 2)
                case measure => simp
                case rel => exact ⟨t ++ [0], by show _ ≤ _; have := HL.out; simp at this ⊢; omega, HO3, (((HM.out.upd hu1).upd hu2).step' HB3.out), .inl ⟨R', hr2.below' HB3.out HLT.out, HN, rfl, by show _ ≤ _; have := HL.out; simp at this ⊢; omega⟩⟩
              · have HN : Hid (Ord.un R = none) := by show _ = _; rw [HU.out, Ord.un_bad hd hd2]; rfl
                have hd' : ((d.toNat : Int) == 0) = false := by
                  rw [beq_eq_false_iff_ne]; intro h; exact hd (UInt8.toNat_inj.1 (by show d.toNat = 0; omega))
                have hd2' : ((d.toNat : Int) == 255) = false := by
                  rw [beq_eq_false_iff_ne]; intro h; exact hd2 (UInt8.toNat_inj.1 (by show d.toNat = 255; omega))
                go_wp2_with (first
                  | (go_at_call 38; first
                    | (refine (one_zero b _ _ HRd.out).mono ?_; rintro e w1 ⟨rfl, hr1, hu1⟩)
                    | (refine (one_cons b _ _ _ hr1).mono ?_; rintro e w2 ⟨rfl, hr2, hu2⟩))
                  | (go_at_call 41; refine (fail_20 b _ _ hr2).mono ?_; rintro e w4 ⟨rfl, hr4, hu4⟩; have hO2 := Lib.hid (own_upd (own_upd (own_upd HO.out hu1 HLT.out) hu2 HLT.out) hu4 HLT.out))
                  | (at_builtin; refine wpList_append_own _ rfl _ _ 70 rfl w.heap.size 5 i0 _ 1 1 Tryd.underlying70 hi hz0 hz1 hz2 rfl (by decide) _ t.length _ rfl (hO2.out.alloc _) ⟨w4.heap.size, 0, none⟩ 1 1 [.int .u8 0] rfl rfl ?c1 ?c2 ?c3 ?c4 ?c5 ?_))
                case c1 => exact cell_new _ _ _
                case c2 => intro u hu; simp at hu; subst hu; rfl
                case c3 => unfold maxLen; have := HT.out; omega
                case c4 => exact HT2.out
                case c5 => simp; have := (((HM.out.upd hu1).upd hu2).upd hu4).size; omega
                intro v' w3 hown' hgrow _
                have HB3 : Hid (Below w.heap.size w4 w3) := ((Below.refl _ _).alloc ((((HM.out.upd hu1).upd hu2).upd hu4).size) _).grown hgrow (by simp; have := (((HM.out.upd hu1).upd hu2).upd hu4).size; omega) (fun g hg => (hO2.out.lt g hg).1)
                have HO3 : Hid (w3.ownsRow w.heap.size 5 1 v' (t ++ [0]).length (bytesV (t ++ [0]))) := by
                  show w3.ownsRow _ _ _ _ _ _
                  rw [bytesV_snoc, List.length_append]; exact hown'
                clear hown' hgrow
                go_wp2
                go_roundg 1
                case measure => simp
                case rel => exact ⟨t ++ [0], by show _ ≤ _; have := HL.out; simp at this ⊢; omega, HO3, ((((HM.out.upd hu1).upd hu2).upd hu4).step' HB3.out), .inr ⟨_, 20, hr4.below' HB3.out HLT.out, by show (20 : Int) ≠ 0; decide, HN, rfl⟩⟩
        · have HN : Hid (Ord.un R = (Ord.un R').map (Ord.pre (t ++ [c]))) := by show _ = _; rw [HU.out, Ord.un_cons hc, pre_snoc]
          have hc' : ((c.toNat : Int) == 0) = false := by
            rw [beq_eq_false_iff_ne]; intro h; exact hc (UInt8.toNat_inj.1 (by show c.toNat = 0; omega))
          go_wp2_with (first
            | (go_at_call 38; refine (one_cons b _ _ _ HRd.out).mono ?_; rintro e w1 ⟨rfl, hr1, hu1⟩; have hO2 := Lib.hid (own_upd HO.out hu1 HLT.out))
            | (at_builtin; refine wpList_append_own _ rfl _ _ 70 rfl w.heap.size 5 i0 _ 1 1 Tryd.underlying70 hi hz0 hz1 hz2 rfl (by decide) _ t.length _ rfl (hO2.out.alloc _) ⟨w1.heap.size, 0, none⟩ 1 1 [.int .u8 (c.toNat : Int)] rfl rfl ?c1 ?c2 ?c3 ?c4 ?c5 ?_))
          case c1 => exact cell_new _ _ _
          case c2 => intro u hu; simp at hu; subst hu; rfl
          case c3 => unfold maxLen; have := HT.out; omega
          case c4 => exact HT2.out
          case c5 => simp; have := (HM.out.upd hu1).size; omega
          intro v' w3 hown' hgrow _
          have HB3 : Hid (Below w.heap.size w1 w3) := ((Below.refl _ _).alloc ((HM.out.upd hu1).size) _).grown hgrow (by simp; have := (HM.out.upd hu1).size; omega) (fun g hg => (hO2.out.lt g hg).1)
          have HO3 : Hid (w3.ownsRow w.heap.size 5 1 v' (t ++ [c]).length (bytesV (t ++ [c]))) := by
            show w3.ownsRow _ _ _ _ _ _
            rw [bytesV_snoc, List.length_append]; exact hown'
          clear hown' hgrow
          go_wp2
          go_roundg (R'.length + 2)
          case measure => simp
          case rel => exact ⟨t ++ [c], by show _ ≤ _; have := HL.out; simp at this ⊢; omega, HO3, ((HM.out.upd hu1).step' HB3.out), .inl ⟨R', hr1.below' HB3.out HLT.out, HN, rfl, by show _ ≤ _; have := HL.out; simp at this ⊢; omega⟩⟩
    · subst hg
      go_wp2_with (go_at_call 38; first
        | (refine (one_err b s x _ HRd.out HX.out).mono ?_; rintro e w1 ⟨rfl, hr1, hu1⟩)
        | (refine (one_err b s x _ hr1 HX.out).mono ?_; rintro e w2 ⟨rfl, hr2, hu2⟩; have hbk := own_back (own_upd (own_upd HO.out hu1 HLT.out) hu2 HLT.out)))
      go_ret
      exact .bad HU.out t rfl s x hr2 HX.out ((HM.out.upd hu1).upd hu2)
end Go.Proofs.YtgkonmidgeanmaaDoor
