/- Texts of one seat, merged. -/
import Derived.Test.YtgmneapgihakgaaGreatDoorZ19
import Derived.Test.YtgmneapgihakgaaGreatDoorZ15
import Derived.OwnWalk
import Derived.Laws.OwnMore
import Derived.Test.YtgmneapgihakgaaGreatDoorZ18
import Derived.Test.YtgmneapgihakgaaGreatDoorZ03
set_option maxRecDepth 100000
set_option maxHeartbeats 4000000
set_option linter.unusedVariables false
/- The contract of the laws' own example. -/
namespace Go.Proofs.YtgmneapgihakgaaGreatDoor
open Go.RowKit
theorem keyOut_example : keyOut [⟨false, 1, []⟩] = .tuple #[.string ⟨#[1, 0, 0, 0, 0, 0, 0, 0, 1]⟩, .int .i64 0] := by
  rw [keyOut_ok _ (by decide)]; rfl
theorem keyExample (w1 W : World) (m : Int) (hW : W = w1.alloc (.cells #[.bool false, .int .u64 1, .string ⟨#[]⟩] 192)) (hm : w1.cell? ⟨0, 0, none⟩ = some (.int .i64 m)) :
    Calls Tryz.prog 125 #[.slice (some ⟨w1.heap.size, 0, none⟩) 1 1] W fun e w' => e = .returned (.tuple #[.string ⟨#[1, 0, 0, 0, 0, 0, 0, 0, 1]⟩, .int .i64 0]) ∧ Below W.heap.size W w' := by
  subst hW
  have := key_any _ [⟨false, 1, []⟩] (by decide) m _ (Sl.one w1 ⟨false, 1, []⟩ 192) (by intro p hp; simp at hp; subst hp; decide) (((Below.refl _ _).alloc (Nat.le_refl _) _ |>.cell (p := ⟨0, 0, none⟩) (World.block_lt_of_cell? _ _ hm)).trans hm)
  rw [keyOut_example] at this
  exact this
end Go.Proofs.YtgmneapgihakgaaGreatDoor
/- Rows of parts that a call makes itself; the contracts of light, plain and same. -/
namespace Go.Proofs.YtgmneapgihakgaaGreatDoor
set_option linter.unnecessarySimpa false
open Go.RowKit
theorem info41 : (Tryz.prog.info? 192).map (fun i => (i.zero, i.size, i.bytes)) = some (some (.agg #[.bool false, .int .u64 0, .string ByteArray.empty]), 3, 32) := by kernel_rfl
theorem oflat_at : ∀ (l : List Ord.P) (j i : Nat) (p : Ord.P), l[j]? = some p → i < 3 → (l.flatMap cellsP)[j * 3 + i]? = (cellsP p)[i]?
  | [], j, i, p, h, _ => by simp at h
  | q :: l, 0, i, p, h, hi => by
    simp at h
    subst h
    rw [List.flatMap_cons, List.getElem?_append_left (by simp [cellsP]; omega)]
    simp
  | q :: l, j + 1, i, p, h, hi => by
    rw [List.flatMap_cons, List.getElem?_append_right (by simp [cellsP]; omega)]
    rw [show (j + 1) * 3 + i - (cellsP q).length = j * 3 + i by simp [cellsP]; omega]
    exact oflat_at l j i p (by simpa using h) hi
theorem flat_length (l : List Ord.P) : (l.flatMap cellsP).length = l.length * 3 := by
  induction l with
  | nil => rfl
  | cons p l ih => rw [List.flatMap_cons, List.length_append, ih]; simp [cellsP]; omega
/-- A row that the call owns shows its parts. -/
theorem Sl.own {w : World} {B : Nat} {e : TypeId} {v : Value} {l : List Ord.P} (h : w.ownsRow B e 3 v l.length (l.flatMap cellsP)) : Sl w v l := by
  have hw := h
  obtain ⟨_, h1⟩ := h
  rcases h1 with ⟨rfl, h0⟩ | ⟨g, cap, cur, rfl, _⟩
  · obtain rfl : l = [] := List.length_eq_zero_iff.1 h0
    exact Sl.nil w
  · refine ⟨_, g, 0, cap, rfl, .inr rfl, fun j p hj => ?_⟩
    have hlt := (List.getElem?_eq_some_iff.1 hj).1
    have c := fun i (hi : i < 3) => (hw.cellAt (j * 3 + i) (by omega)).trans (oflat_at l j i p hj hi)
    refine ⟨?_, ?_, ?_⟩
    · have := c 0 (by omega); simpa [cellsP] using this
    · have := c 1 (by omega); simpa [cellsP, Nat.add_assoc] using this
    · have := c 2 (by omega); simpa [cellsP, Nat.add_assoc] using this
inductive LightOut (l : List Ord.P) (w : World) (e : Ending) (w' : World) : Prop
  | mk (x : Bool) (he : e = .returned (.bool x)) (hx : x = true → l.length ≤ 40 ∧ ∀ p ∈ l, p.s.length ≤ 400) (hb : Below w.heap.size w w')
inductive RowOut (l : List Ord.P) (w : World) (e : Ending) (w' : World) : Prop
  | mk (a : Option Addr) (n c : Nat) (hn : n = l.length) (hc : n ≤ c) (he : e = .returned (.slice a n c)) (hs : Sl w' (.slice a n c) l) (hb : Below w.heap.size w w')
theorem flat_one (p : Ord.P) : List.flatMap cellsP [p] = cellsP p := by simp
theorem plain_snoc (l : List Ord.P) (k : Nat) (p : Ord.P) (h : l[k]? = some p) : (l.take (k + 1)).map Ord.P.plain = (l.take k).map Ord.P.plain ++ [p.plain] := by
  obtain ⟨hk, he⟩ := List.getElem?_eq_some_iff.1 h
  rw [List.take_succ_eq_append_getElem hk, List.map_append, he]; rfl
inductive SameOut (l r : List Ord.P) (w : World) (e : Ending) (w' : World) : Prop
  | mk (x : Bool) (he : e = .returned (.bool x)) (hx : x = true ↔ l = r) (hb : Below w.heap.size w w')
theorem same_next (l r : List Ord.P) (k : Nat) (p q : Ord.P) (hp : l[k]? = some p) (hq : r[k]? = some q) (h : l.take k = r.take k) (he : p = q) : l.take (k + 1) = r.take (k + 1) := by
  obtain ⟨h1, h2⟩ := List.getElem?_eq_some_iff.1 hp
  obtain ⟨h3, h4⟩ := List.getElem?_eq_some_iff.1 hq
  rw [List.take_succ_eq_append_getElem h1, List.take_succ_eq_append_getElem h3, h, h2, h4, he]
theorem Sl.take {w : World} {a : Option Addr} {n c : Nat} {l : List Ord.P} (h : Sl w (.slice a n c) l) (k : Nat) (hk : k ≤ l.length) : Sl w (.slice a k c) (l.take k) := by
  obtain ⟨a', b, o, c', hv, ha, hx⟩ := h
  cases hv
  refine ⟨a, b, o, c, by rw [List.length_take, Nat.min_eq_left hk], ?_, fun j p hj => ?_⟩
  · rcases ha with h | h
    · subst h; exact .inl (by simp)
    · exact .inr h
  · have hlt : j < k := by
      have := (List.getElem?_eq_some_iff.1 hj).1
      rw [List.length_take] at this
      omega
    rw [List.getElem?_take_of_lt hlt] at hj
    exact hx j p hj
end Go.Proofs.YtgmneapgihakgaaGreatDoor
/- Plain facts on reading keys: a text up to its end, a part, a row; nothing of the program. -/
namespace Go.Proofs.YtgmneapgihakgaaGreatDoor
namespace Ord
open Oc
def un : List UInt8 → Option (List UInt8 × List UInt8)
  | [] => none
  | c :: R => if c = 0 then (match R with
      | [] => none
      | d :: R' => if d = 0 then some ([], R') else if d = 255 then (un R').map (fun x => (0 :: x.1, x.2)) else none) else (un R).map (fun x => (c :: x.1, x.2))
theorem un_cons {c : UInt8} (h : c ≠ 0) (R : List UInt8) : un (c :: R) = (un R).map (fun x => (c :: x.1, x.2)) := by rw [un.eq_def]; simp only [if_neg h]
theorem un_nil : un [] = none := by rw [un]
theorem un_zero : un [0] = none := by rw [un, if_pos rfl]
theorem un_end (R : List UInt8) : un (0 :: 0 :: R) = some ([], R) := by rw [un, if_pos rfl]; rfl
theorem un_go (R : List UInt8) : un (0 :: 255 :: R) = (un R).map (fun x => (0 :: x.1, x.2)) := by rw [un, if_pos rfl]; rfl
theorem un_bad {d : UInt8} (h0 : d ≠ 0) (h1 : d ≠ 255) (R : List UInt8) : un (0 :: d :: R) = none := by rw [un, if_pos rfl]; simp [h0, h1]
def pre (t : List UInt8) (x : List UInt8 × List UInt8) : List UInt8 × List UInt8 := (t ++ x.1, x.2)
theorem un_esc : ∀ (t R : List UInt8), un (esc t ++ R) = (un R).map (pre t)
  | [], R => by
    show un R = _
    cases un R <;> rfl
  | b :: t, R => by
    have ih := un_esc t R
    by_cases hb : b = 0
    · subst hb
      show un (0 :: 255 :: (esc t ++ R)) = _
      rw [un_go, ih]
      cases un R <;> rfl
    · rw [show esc (b :: t) = b :: esc t by simp [esc, hb]]
      show un (b :: (esc t ++ R)) = _
      rw [un_cons hb, ih]
      cases un R <;> rfl
theorem un_text (t R : List UInt8) : un (esc t ++ 0 :: 0 :: R) = some (t, R) := by
  rw [un_esc, un_end]
  simp [pre]
theorem un_some : ∀ (R t R' : List UInt8), un R = some (t, R') → R = esc t ++ 0 :: 0 :: R'
  | [], t, R', h => by rw [un_nil] at h; cases h
  | [c], t, R', h => by
    by_cases hc : c = 0
    · subst hc; rw [un_zero] at h; cases h
    · rw [un_cons hc, un_nil] at h; cases h
  | c :: d :: R, t, R', h => by
    by_cases hc : c = 0
    · subst hc
      by_cases h0 : d = 0
      · subst h0
        rw [un_end] at h
        cases h; rfl
      · by_cases h1 : d = 255
        · subst h1
          rw [un_go] at h
          cases hu : un R with
          | none => rw [hu] at h; cases h
          | some x =>
            rw [hu] at h
            cases h
            have := un_some R x.1 x.2 hu
            show 0 :: 255 :: R = _
            rw [this]
            simp [esc]
        · rw [un_bad h0 h1] at h; cases h
    · rw [un_cons hc] at h
      cases hu : un (d :: R) with
      | none => rw [hu] at h; cases h
      | some x =>
        rw [hu] at h
        cases h
        have := un_some (d :: R) x.1 x.2 hu
        rw [this]
        simp [esc, hc]
def pt : List UInt8 → Option (P × List UInt8)
  | [] => none
  | c :: R => if c = 1 then (if 8 ≤ R.length then some (⟨false, val (R.take 8), []⟩, R.drop 8) else none) else if c = 2 then (un R).map (fun x => (⟨true, 0, x.1⟩, x.2)) else none
theorem pt_pb (p : P) (hp : p.ok) (R : List UInt8) : pt (pb p ++ R) = some (p, R) := by
  obtain ⟨h1, h2⟩ := hp
  obtain ⟨t, n, s⟩ := p
  cases t
  · have hs : [] = s := by simpa [P.plain] using h1
    subst hs
    simp only at h2
    show pt (1 :: (big 8 n ++ R)) = _
    have hl := big_length 8 n
    simp only [pt, if_true]
    rw [if_pos (by rw [List.length_append]; omega), List.take_append_of_le_length (by omega), List.take_of_length_le (by omega), val_big 8 n h2, List.drop_append_of_le_length (by omega), List.drop_of_length_le (by omega)]
    rfl
  · have hn : 0 = n := by simpa [P.plain] using h1
    subst hn
    show pt (2 :: ((esc s ++ [0, 0]) ++ R)) = _
    simp only [pt]
    rw [if_neg (by decide), if_pos trivial, List.append_assoc]
    show (un (esc s ++ 0 :: 0 :: R)).map _ = _
    rw [un_text]
    rfl
theorem pt_some (R : List UInt8) (p : P) (R' : List UInt8) (h : pt R = some (p, R')) : R = pb p ++ R' ∧ p.ok := by
  cases R with
  | nil => cases h
  | cons c R =>
    simp only [pt] at h
    by_cases h1 : c = 1
    · subst h1
      rw [if_pos rfl] at h
      by_cases h8 : 8 ≤ R.length
      · rw [if_pos h8] at h
        cases h
        have hl : (R.take 8).length = 8 := by rw [List.length_take]; omega
        refine ⟨?_, ?_, ?_⟩
        · show 1 :: R = 1 :: big 8 (val (R.take 8)) ++ R.drop 8
          rw [big_val 8 _ hl]
          simp
        · rfl
        · show val (R.take 8) < _
          have := val_lt (R.take 8)
          rw [hl] at this
          exact this
      · rw [if_neg h8] at h; cases h
    · rw [if_neg h1] at h
      by_cases h2 : c = 2
      · subst h2
        rw [if_pos rfl] at h
        cases hu : un R with
        | none => rw [hu] at h; cases h
        | some x =>
          rw [hu] at h
          cases h
          refine ⟨?_, rfl, (show 0 < 18446744073709551616 by decide)⟩
          show 2 :: R = 2 :: (esc x.1 ++ [0, 0]) ++ x.2
          rw [un_some R x.1 x.2 hu]
          simp
      · rw [if_neg h2] at h; cases h
/-- Where no part begins behind a row that was read, the whole is the key of no row. -/
theorem no_row (l : List P) (hl : ∀ p ∈ l, p.ok) (R : List UInt8) (hR : R ≠ []) (hp : pt R = none) : ∀ m, (∀ p ∈ m, p.ok) → key l ++ R ≠ key m := by
  intro m hm he
  have hpre : key l <+: key m := ⟨R, he⟩
  obtain ⟨x, rfl⟩ := (keeps l m hl hm).2.2.1 hpre
  rw [key_append, List.append_cancel_left_eq] at he
  cases x with
  | nil => exact hR he
  | cons p x =>
    rw [key_cons] at he
    rw [he, pt_pb p (hm p (by simp))] at hp
    cases hp
theorem key_inj (l m : List P) (hl : ∀ p ∈ l, p.ok) (hm : ∀ p ∈ m, p.ok) (h : key l = key m) : l = m := (keeps l m hl hm).2.1.1 h
end Ord
end Go.Proofs.YtgmneapgihakgaaGreatDoor
/- The contracts of the functions that read keys: unescaped, part. -/
namespace Go.Proofs.YtgmneapgihakgaaGreatDoor
open Go.RowKit
theorem o1_cons (b : Nat) (c : UInt8) (R : List UInt8) (w : World) (h : Rd w b (str (c :: R)) 0) :
    Calls Tryz.prog 260 #[.pointer (some ⟨b, 0, none⟩)] w fun v w' => v = .returned (.int .u8 c.toNat) ∧ Rd w' b (str R) 0 ∧ Upd b w w' := by
  have := one_rd b _ 0 w h
  rw [show tk (str (c :: R)) 0 1 = (str [c], str R, 0) from tk_str [c] R 1 rfl, str_data, show Oc.val [c] = c.toNat by simp [Oc.val]] at this
  exact this
theorem one_nil (b : Nat) (w : World) (h : Rd w b (str []) 0) :
    Calls Tryz.prog 260 #[.pointer (some ⟨b, 0, none⟩)] w fun v w' => v = .returned (.int .u8 0) ∧ Rd w' b (str []) 3 ∧ Upd b w w' := by
  have := one_rd b _ 0 w h
  rw [tk_short (str []) 1 (by rw [str_size]; simp)] at this
  exact this
theorem one_err (b : Nat) (s : ByteArray) (e : Int) (w : World) (h : Rd w b s e) (he : e ≠ 0) :
    Calls Tryz.prog 260 #[.pointer (some ⟨b, 0, none⟩)] w fun v w' => v = .returned (.int .u8 0) ∧ Rd w' b s e ∧ Upd b w w' := by
  have := one_rd b s e w h
  rw [tk_bad s e 1 he] at this
  exact this
theorem eight_ok (b : Nat) (R : List UInt8) (h8 : 8 ≤ R.length) (w : World) (h : Rd w b (str R) 0) :
    Calls Tryz.prog 191 #[.pointer (some ⟨b, 0, none⟩)] w fun v w' => v = .returned (.int .u64 (Oc.val (R.take 8) : Nat)) ∧ Rd w' b (str (R.drop 8)) 0 ∧ Upd b w w' := by
  have := eight_rd b _ 0 w h
  have e : tk (str R) 0 8 = (str (R.take 8), str (R.drop 8), 0) := by
    have := tk_str (R.take 8) (R.drop 8) 8 (by rw [List.length_take]; omega)
    rwa [List.take_append_drop] at this
  rw [e, str_data] at this
  exact this
theorem eight_short (b : Nat) (R : List UInt8) (h8 : ¬ 8 ≤ R.length) (w : World) (h : Rd w b (str R) 0) :
    Calls Tryz.prog 191 #[.pointer (some ⟨b, 0, none⟩)] w fun v w' => v = .returned (.int .u64 0) ∧ Rd w' b (str R) 3 ∧ Upd b w w' := by
  have := eight_rd b _ 0 w h
  rw [tk_short (str R) 8 (by rw [str_size]; omega)] at this
  exact this
theorem one_zero (b : Nat) (R : List UInt8) (w : World) (h : Rd w b (str (0 :: R)) 0) :
    Calls Tryz.prog 260 #[.pointer (some ⟨b, 0, none⟩)] w fun v w' => v = .returned (.int .u8 0) ∧ Rd w' b (str R) 0 ∧ Upd b w w' := o1_cons b 0 R w h
theorem one_255 (b : Nat) (R : List UInt8) (w : World) (h : Rd w b (str (255 :: R)) 0) :
    Calls Tryz.prog 260 #[.pointer (some ⟨b, 0, none⟩)] w fun v w' => v = .returned (.int .u8 255) ∧ Rd w' b (str R) 0 ∧ Upd b w w' := o1_cons b 255 R w h
theorem fail_20 (b : Nat) (s : ByteArray) (w : World) (h : Rd w b s 0) :
    Calls Tryz.prog 261 #[.pointer (some ⟨b, 0, none⟩), .int .i64 20] w fun v w' => v = .returned (.tuple #[]) ∧ Rd w' b s 20 ∧ Upd b w w' := fail_any b s 0 20 w h
theorem pre_snoc (t : List UInt8) (c : UInt8) (o : Option (List UInt8 × List UInt8)) : (o.map (fun x => (c :: x.1, x.2))).map (Ord.pre t) = o.map (Ord.pre (t ++ [c])) := by
  cases o <;> simp [Ord.pre]
inductive UnOut (R : List UInt8) (b : Nat) (w : World) (e : Ending) (w' : World) : Prop
  | ok (t R' : List UInt8) (h : Ord.un R = some (t, R')) (he : e = .returned (.string (str t))) (hr : Rd w' b (str R') 0) (hm : Mod b w w')
  | bad (h : Ord.un R = none) (t : List UInt8) (he : e = .returned (.string (str t))) (s : ByteArray) (x : Int) (hr : Rd w' b s x) (hx : x ≠ 0) (hm : Mod b w w')
theorem info5 : (Tryz.prog.info? 5).map (fun i => (i.zero, i.size, i.bytes)) = some (some (.int .u8 0), 1, 1) := by kernel_rfl
def bytesV (t : List UInt8) : List Value := t.map (fun c => .int .u8 (c.toNat : Int))
theorem bytesV_snoc (t : List UInt8) (c : UInt8) : bytesV (t ++ [c]) = bytesV t ++ [.int .u8 (c.toNat : Int)] := by simp [bytesV]
theorem cell_new (w : World) (x : Value) (T : TypeId) : ∀ (j : Nat) u, [x][j]? = some u → (w.alloc (.cells #[x] T)).cell? ((⟨w.heap.size, 0, none⟩ : Addr).add j) = some u := by
  intro j u hj
  match j, hj with
  | 0, hj => simp at hj; subst hj; simp [Addr.add]
  | (j + 1), hj => simp at hj
theorem own_back {w : World} {B : Nat} {v : Value} {t : List UInt8} (h : w.ownsRow B 5 1 v t.length (bytesV t)) :
    (convert 125 9 v).run Tryz.prog w = .ok (.string (str t)) w := by
  have hw := h
  obtain ⟨_, h1⟩ := h
  rcases h1 with ⟨rfl, h0⟩ | ⟨g, cap, cur, rfl, _⟩
  · obtain rfl : t = [] := List.length_eq_zero_iff.1 h0
    exact (show (convert 125 9 (.slice none 0 0)).run Tryz.prog w = .ok (.string (str [])) w by kernel_rfl)
  · exact run_convert_bytes_back (P := Tryz.prog) w 125 9 5 ⟨g, 0, none⟩ cap t Tryz.underlying125 Tryz.underlying5 Tryz.underlying9 (by
      intro j hj
      rw [show (⟨g, 0, none⟩ : Addr).add j = ⟨g, j, none⟩ by unfold Addr.add; split <;> simp_all]
      rw [hw.cellAt j (by omega)]
      simp [bytesV, hj])
set_option maxHeartbeats 2000000 in
set_option maxRecDepth 100000 in
theorem unescaped_any (b : Nat) (R : List UInt8) (hR : R.length ≤ 1000) (w : World) (h : Rd w b (str R) 0) :
    Calls Tryz.prog 266 #[.pointer (some ⟨b, 0, none⟩)] w fun e w' => UnOut R b w e w' := by
  obtain ⟨i0, hi, hz0, hz1, hz2⟩ := info_parts info5
  have HR := Lib.hid h
  have HLT := Lib.hid h.lt
  clear h
  go_enter Tryz.func266, Tryz.ntmps266
  go_wp2
  go_loopg [3] (R.length + 2) (fun g v wr => ∃ (t : List UInt8), Hid (t.length ≤ 1001) ∧ Hid (wr.ownsRow w.heap.size 5 1 v t.length (bytesV t)) ∧ Hid (Mod b w wr) ∧
    ((∃ R', Hid (Rd wr b (str R') 0) ∧ Hid (Ord.un R = (Ord.un R').map (Ord.pre t)) ∧ g = R'.length + 2 ∧ Hid (t.length + R'.length ≤ 1000)) ∨ (∃ (s : ByteArray) (x : Int), Hid (Rd wr b s x) ∧ Hid (x ≠ 0) ∧ Hid (Ord.un R = none) ∧ g = 1)))
  case atStart => exact ⟨[], Nat.zero_le _, World.ownsRow_nil _ _ _ _, Mod.refl _ _, .inl ⟨R, HR, by show Ord.un R = _; cases Ord.un R <;> rfl, rfl, by show 0 + R.length ≤ 1000; omega⟩⟩
  case round =>
    obtain ⟨t, HT, HO, HM, hcase⟩ := hrel
    have hsz := HM.out.size
    have HT2 : Hid ((t.length + 1) * 1 ≤ 140737488355328) := by show _ ≤ _; have := HT.out; omega
    rcases hcase with ⟨R', HRd, HU, hg, HL⟩ | ⟨s, x, HRd, HX, HU, hg⟩
    · subst hg
      cases R' with
      | nil =>
        have HN : Hid (Ord.un R = none) := by show _ = _; rw [HU.out, Ord.un_nil]; rfl
        go_wp2_with (go_at_call 260; first
          | (refine (one_nil b _ HRd.out).mono ?_; rintro e w1 ⟨rfl, hr1, hu1⟩)
          | (refine (one_err b _ 3 _ hr1 (by decide)).mono ?_; rintro e w2 ⟨rfl, hr2, hu2⟩; have hbk := own_back (own_upd (own_upd HO.out hu1 HLT.out) hu2 HLT.out)))
        go_ret
        exact .bad HN.out t rfl _ 3 hr2 (by decide) ((HM.out.upd hu1).upd hu2)
      | cons c R' =>
        by_cases hc : c = 0
        · subst hc
          cases R' with
          | nil =>
            have HN : Hid (Ord.un R = none) := by show _ = _; rw [HU.out, Ord.un_zero]; rfl
            go_wp2_with (go_at_call 260; first
              | (refine (one_zero b _ _ HRd.out).mono ?_; rintro e w1 ⟨rfl, hr1, hu1⟩)
              | (refine (one_nil b _ hr1).mono ?_; rintro e w2 ⟨rfl, hr2, hu2⟩; have hbk := own_back (own_upd (own_upd HO.out hu1 HLT.out) hu2 HLT.out)))
            go_ret
            exact .bad HN.out t rfl _ 3 hr2 (by decide) ((HM.out.upd hu1).upd hu2)
          | cons d R' =>
            by_cases hd : d = 0
            · subst hd
              have HN : Hid (Ord.un R = some (t, R')) := by show _ = _; rw [HU.out, Ord.un_end]; simp [Ord.pre]
              go_wp2_with (go_at_call 260; first
                | (refine (one_zero b _ _ HRd.out).mono ?_; rintro e w1 ⟨rfl, hr1, hu1⟩)
                | (refine (one_zero b _ _ hr1).mono ?_; rintro e w2 ⟨rfl, hr2, hu2⟩; have hbk := own_back (own_upd (own_upd HO.out hu1 HLT.out) hu2 HLT.out)))
              go_ret
              exact .ok t R' HN.out rfl hr2 ((HM.out.upd hu1).upd hu2)
            · by_cases hd2 : d = 255
              · subst hd2
                have HN : Hid (Ord.un R = (Ord.un R').map (Ord.pre (t ++ [0]))) := by show _ = _; rw [HU.out, Ord.un_go, pre_snoc]
                go_wp2_with (first
                  | (go_at_call 260; first
                    | (refine (one_zero b _ _ HRd.out).mono ?_; rintro e w1 ⟨rfl, hr1, hu1⟩)
                    | (refine (one_255 b _ _ hr1).mono ?_; rintro e w2 ⟨rfl, hr2, hu2⟩; have hO2 := Lib.hid (own_upd (own_upd HO.out hu1 HLT.out) hu2 HLT.out)))
                  | (at_builtin; refine wpList_append_own _ rfl _ _ 125 rfl w.heap.size 5 i0 _ 1 1 Tryz.underlying125 hi hz0 hz1 hz2 rfl (by decide) _ t.length _ rfl (hO2.out.alloc _) ⟨w2.heap.size, 0, none⟩ 1 1 [.int .u8 0] rfl rfl ?c1 ?c2 ?c3 ?c4 ?c5 ?_))
                case c1 => exact cell_new _ _ _
                case c2 => intro u hu; simp at hu; subst hu; rfl
                case c3 => unfold maxLen; have := HT.out; omega
                case c4 => exact HT2.out
                case c5 => simp; have := ((HM.out.upd hu1).upd hu2).size; omega
                intro v' w3 hown' hgrow _
                have HB3 : Hid (Below w.heap.size w2 w3) := ((Below.refl _ _).alloc (((HM.out.upd hu1).upd hu2).size) _).grown hgrow (by simp; have := ((HM.out.upd hu1).upd hu2).size; omega) (fun g hg => (hO2.out.lt g hg).1)
                have HO3 : Hid (w3.ownsRow w.heap.size 5 1 v' (t ++ [0]).length (bytesV (t ++ [0]))) := by
                  show w3.ownsRow _ _ _ _ _ _
                  rw [bytesV_snoc, List.length_append]; exact hown'
                clear hown' hgrow
                go_wp2
                go_roundg (R'.length + 2)
                case measure => simp
                case rel => exact ⟨t ++ [0], by show _ ≤ _; have := HL.out; simp at this ⊢; omega, HO3, (((HM.out.upd hu1).upd hu2).step' HB3.out), .inl ⟨R', hr2.below' HB3.out HLT.out, HN, rfl, by show _ ≤ _; have := HL.out; simp at this ⊢; omega⟩⟩
              · have HN : Hid (Ord.un R = none) := by show _ = _; rw [HU.out, Ord.un_bad hd hd2]; rfl
                have hd' : ((d.toNat : Int) == 0) = false := by
                  rw [beq_eq_false_iff_ne]; intro h; exact hd (UInt8.toNat_inj.1 (by show d.toNat = 0; omega))
                have hd2' : ((d.toNat : Int) == 255) = false := by
                  rw [beq_eq_false_iff_ne]; intro h; exact hd2 (UInt8.toNat_inj.1 (by show d.toNat = 255; omega))
                go_wp2_with (first
                  | (go_at_call 260; first
                    | (refine (one_zero b _ _ HRd.out).mono ?_; rintro e w1 ⟨rfl, hr1, hu1⟩)
                    | (refine (o1_cons b _ _ _ hr1).mono ?_; rintro e w2 ⟨rfl, hr2, hu2⟩))
                  | (go_at_call 261; refine (fail_20 b _ _ hr2).mono ?_; rintro e w4 ⟨rfl, hr4, hu4⟩; have hO2 := Lib.hid (own_upd (own_upd (own_upd HO.out hu1 HLT.out) hu2 HLT.out) hu4 HLT.out))
                  | (at_builtin; refine wpList_append_own _ rfl _ _ 125 rfl w.heap.size 5 i0 _ 1 1 Tryz.underlying125 hi hz0 hz1 hz2 rfl (by decide) _ t.length _ rfl (hO2.out.alloc _) ⟨w4.heap.size, 0, none⟩ 1 1 [.int .u8 0] rfl rfl ?c1 ?c2 ?c3 ?c4 ?c5 ?_))
                case c1 => exact cell_new _ _ _
                case c2 => intro u hu; simp at hu; subst hu; rfl
                case c3 => unfold maxLen; have := HT.out; omega
                case c4 => exact HT2.out
                case c5 => simp; have := (((HM.out.upd hu1).upd hu2).upd hu4).size; omega
                intro v' w3 hown' hgrow _
                have HB3 : Hid (Below w.heap.size w4 w3) := ((Below.refl _ _).alloc ((((HM.out.upd hu1).upd hu2).upd hu4).size) _).grown hgrow (by simp; have := (((HM.out.upd hu1).upd hu2).upd hu4).size; omega) (fun g hg => (hO2.out.lt g hg).1)
                have HO3 : Hid (w3.ownsRow w.heap.size 5 1 v' (t ++ [0]).length (bytesV (t ++ [0]))) := by
                  show w3.ownsRow _ _ _ _ _ _
                  rw [bytesV_snoc, List.length_append]; exact hown'
                clear hown' hgrow
                go_wp2
                go_roundg 1
                case measure => simp
                case rel => exact ⟨t ++ [0], by show _ ≤ _; have := HL.out; simp at this ⊢; omega, HO3, ((((HM.out.upd hu1).upd hu2).upd hu4).step' HB3.out), .inr ⟨_, 20, hr4.below' HB3.out HLT.out, by show (20 : Int) ≠ 0; decide, HN, rfl⟩⟩
        · have HN : Hid (Ord.un R = (Ord.un R').map (Ord.pre (t ++ [c]))) := by show _ = _; rw [HU.out, Ord.un_cons hc, pre_snoc]
          have hc' : ((c.toNat : Int) == 0) = false := by
            rw [beq_eq_false_iff_ne]; intro h; exact hc (UInt8.toNat_inj.1 (by show c.toNat = 0; omega))
          go_wp2_with (first
            | (go_at_call 260; refine (o1_cons b _ _ _ HRd.out).mono ?_; rintro e w1 ⟨rfl, hr1, hu1⟩; have hO2 := Lib.hid (own_upd HO.out hu1 HLT.out))
            | (at_builtin; refine wpList_append_own _ rfl _ _ 125 rfl w.heap.size 5 i0 _ 1 1 Tryz.underlying125 hi hz0 hz1 hz2 rfl (by decide) _ t.length _ rfl (hO2.out.alloc _) ⟨w1.heap.size, 0, none⟩ 1 1 [.int .u8 (c.toNat : Int)] rfl rfl ?c1 ?c2 ?c3 ?c4 ?c5 ?_))
          case c1 => exact cell_new _ _ _
          case c2 => intro u hu; simp at hu; subst hu; rfl
          case c3 => unfold maxLen; have := HT.out; omega
          case c4 => exact HT2.out
          case c5 => simp; have := (HM.out.upd hu1).size; omega
          intro v' w3 hown' hgrow _
          have HB3 : Hid (Below w.heap.size w1 w3) := ((Below.refl _ _).alloc ((HM.out.upd hu1).size) _).grown hgrow (by simp; have := (HM.out.upd hu1).size; omega) (fun g hg => (hO2.out.lt g hg).1)
          have HO3 : Hid (w3.ownsRow w.heap.size 5 1 v' (t ++ [c]).length (bytesV (t ++ [c]))) := by
            show w3.ownsRow _ _ _ _ _ _
            rw [bytesV_snoc, List.length_append]; exact hown'
          clear hown' hgrow
          go_wp2
          go_roundg (R'.length + 2)
          case measure => simp
          case rel => exact ⟨t ++ [c], by show _ ≤ _; have := HL.out; simp at this ⊢; omega, HO3, ((HM.out.upd hu1).step' HB3.out), .inl ⟨R', hr1.below' HB3.out HLT.out, HN, rfl, by show _ ≤ _; have := HL.out; simp at this ⊢; omega⟩⟩
    · subst hg
      go_wp2_with (go_at_call 260; first
        | (refine (one_err b s x _ HRd.out HX.out).mono ?_; rintro e w1 ⟨rfl, hr1, hu1⟩)
        | (refine (one_err b s x _ hr1 HX.out).mono ?_; rintro e w2 ⟨rfl, hr2, hu2⟩; have hbk := own_back (own_upd (own_upd HO.out hu1 HLT.out) hu2 HLT.out)))
      go_ret
      exact .bad HU.out t rfl s x hr2 HX.out ((HM.out.upd hu1).upd hu2)
end Go.Proofs.YtgmneapgihakgaaGreatDoor
/- The contract of the function that reads the next part. -/
namespace Go.Proofs.YtgmneapgihakgaaGreatDoor
open Go.RowKit
inductive PartOut (R : List UInt8) (b : Nat) (w : World) (e : Ending) (w' : World) : Prop
  | ok (p : Ord.P) (R' : List UInt8) (h : Ord.pt R = some (p, R')) (he : e = .returned (aggP p)) (hr : Rd w' b (str R') 0) (hm : Mod b w w')
  | bad (h : Ord.pt R = none) (p : Ord.P) (he : e = .returned (aggP p)) (s : ByteArray) (x : Int) (hr : Rd w' b s x) (hx : x ≠ 0) (hm : Mod b w w')
theorem left_str (b : Nat) (R : List UInt8) (e : Int) (w : World) (h : Rd w b (str R) e) :
    Calls Tryz.prog 204 #[.pointer (some ⟨b, 0, none⟩)] w fun x w' => x = .returned (.int .i64 R.length) ∧ w = w' := left_any b _ e w h
theorem blk {w w' : World} {b : Nat} (hm : Mod b (w.alloc (.cells #[.bool false, .int .u64 0, .string ⟨#[]⟩] 192)) w') (hne : w.heap.size ≠ b) :
    (w'.cell? ⟨w.heap.size, 0, none⟩ = some (.bool false) ∧ w'.cell? ⟨w.heap.size, 1, none⟩ = some (.int .u64 0) ∧ w'.cell? ⟨w.heap.size, 2, none⟩ = some (.string ⟨#[]⟩)) ∧
      w'.frozen? ⟨w.heap.size, 0, none⟩ = false ∧ w'.frozen? ⟨w.heap.size, 1, none⟩ = false ∧ w'.frozen? ⟨w.heap.size, 2, none⟩ = false := by
  have hl : w.heap.size < (w.alloc (.cells #[.bool false, .int .u64 0, .string ⟨#[]⟩] 192)).heap.size := by simp
  refine ⟨⟨?_, ?_, ?_⟩, ?_, ?_, ?_⟩
  · rw [hm.cell (p := ⟨w.heap.size, 0, none⟩) hl hne]; simp
  · rw [hm.cell (p := ⟨w.heap.size, 1, none⟩) hl hne]; simp
  · rw [hm.cell (p := ⟨w.heap.size, 2, none⟩) hl hne]; simp
  · rw [hm.frozen (p := ⟨w.heap.size, 0, none⟩) hl hne]; simp
  · rw [hm.frozen (p := ⟨w.heap.size, 1, none⟩) hl hne]; simp
  · rw [hm.frozen (p := ⟨w.heap.size, 2, none⟩) hl hne]; simp
theorem stored {w : World} {g : Nat} {x0 x1 x2 v0 v1 v2 : Value} (k0 : w.cell? ⟨g, 0, none⟩ = some x0) (k1 : w.cell? ⟨g, 1, none⟩ = some x1) (k2 : w.cell? ⟨g, 2, none⟩ = some x2) :
    (((w.setCell ⟨g, 0, none⟩ v0).setCell ⟨g, 1, none⟩ v1).setCell ⟨g, 2, none⟩ v2).cell? ⟨g, 0, none⟩ = some v0 ∧
    (((w.setCell ⟨g, 0, none⟩ v0).setCell ⟨g, 1, none⟩ v1).setCell ⟨g, 2, none⟩ v2).cell? ⟨g, 1, none⟩ = some v1 ∧
    (((w.setCell ⟨g, 0, none⟩ v0).setCell ⟨g, 1, none⟩ v1).setCell ⟨g, 2, none⟩ v2).cell? ⟨g, 2, none⟩ = some v2 := by
  have ne01 : (⟨g, 1, none⟩ : Addr) ≠ ⟨g, 0, none⟩ := fun h => by cases h
  have ne02 : (⟨g, 2, none⟩ : Addr) ≠ ⟨g, 0, none⟩ := fun h => by cases h
  have ne12 : (⟨g, 2, none⟩ : Addr) ≠ ⟨g, 1, none⟩ := fun h => by cases h
  have a0 : (w.setCell ⟨g, 0, none⟩ v0).cell? ⟨g, 0, none⟩ = some v0 := World.cell?_setCell_same' _ _ _ (by rw [k0]; rfl)
  have a1 : (w.setCell ⟨g, 0, none⟩ v0).cell? ⟨g, 1, none⟩ = some x1 := by rw [World.cell?_setCell_other _ _ _ _ (fun h => ne01 h.symm), k1]
  have a2 : (w.setCell ⟨g, 0, none⟩ v0).cell? ⟨g, 2, none⟩ = some x2 := by rw [World.cell?_setCell_other _ _ _ _ (fun h => ne02 h.symm), k2]
  have b1 : ((w.setCell ⟨g, 0, none⟩ v0).setCell ⟨g, 1, none⟩ v1).cell? ⟨g, 1, none⟩ = some v1 := World.cell?_setCell_same' _ _ _ (by rw [a1]; rfl)
  have b2 : ((w.setCell ⟨g, 0, none⟩ v0).setCell ⟨g, 1, none⟩ v1).cell? ⟨g, 2, none⟩ = some x2 := by rw [World.cell?_setCell_other _ _ _ _ (fun h => ne12 h.symm), a2]
  refine ⟨?_, ?_, World.cell?_setCell_same' _ _ _ (by rw [b2]; rfl)⟩
  · rw [World.cell?_setCell_other _ _ _ _ ne02, World.cell?_setCell_other _ _ _ _ ne01, a0]
  · rw [World.cell?_setCell_other _ _ _ _ ne12, b1]
theorem stored_below {w : World} {g B : Nat} {v0 v1 v2 : Value} (hB : B ≤ g) : Below B w (((w.setCell ⟨g, 0, none⟩ v0).setCell ⟨g, 1, none⟩ v1).setCell ⟨g, 2, none⟩ v2) :=
  (((Below.refl B w).setCell (p := ⟨g, 0, none⟩) hB _).setCell (p := ⟨g, 1, none⟩) hB _).setCell (p := ⟨g, 2, none⟩) hB _
theorem res28 {w : World} {g : Nat} {t : Bool} {n : Int} {s : ByteArray} {tmps : Array Value} (ht : tmps[2]? = some (.pointer (some ⟨g, 0, none⟩)))
    (h0 : w.cell? ⟨g, 0, none⟩ = some (.bool t)) (h1 : w.cell? ⟨g, 1, none⟩ = some (.int .u64 n)) (h2 : w.cell? ⟨g, 2, none⟩ = some (.string s)) :
    (results Tryz.f205 tmps).run Tryz.prog w = .ok (.agg #[.bool t, .int .u64 n, .string s]) w := by
  simp [results, Tryz.results205, go_sem, ht, h0, h1, h2]
set_option maxHeartbeats 2000000 in
set_option maxRecDepth 100000 in
theorem part_any (b : Nat) (c : UInt8) (R : List UInt8) (hR : R.length ≤ 1000) (w : World) (h : Rd w b (str (c :: R)) 0) :
    Calls Tryz.prog 205 #[.pointer (some ⟨b, 0, none⟩)] w fun e w' => PartOut (c :: R) b w e w' := by
  have HR := Lib.hid h
  have HLT := Lib.hid h.lt
  have HNE : Hid (w.heap.size ≠ b) := fun e => by have := HLT.out; omega
  clear h
  by_cases h1 : c = 1
  · subst h1
    by_cases h8 : 8 ≤ R.length
    · have HN : Hid (Ord.pt (1 :: R) = some (⟨false, Oc.val (R.take 8), []⟩, R.drop 8)) := by
        show _ = _
        simp only [Ord.pt, if_true]
        rw [if_pos h8]
      have HNU : Hid (∀ W, Calls Tryz.prog 104 #[.int .u64 (Oc.val (R.take 8) : Nat)] W fun e w' => e = .returned (.agg #[.bool false, .int .u64 (Oc.val (R.take 8) : Nat), .string ⟨#[]⟩]) ∧ Below W.heap.size W w') := fun W => num_any (Oc.val (R.take 8)) W
      go_enter Tryz.func205, Tryz.ntmps205
      go_wp2_with (first
        | (go_at_call 260; refine (o1_cons b 1 R _ (HR.out.alloc _)).mono ?_; rintro e w1 ⟨rfl, hr1, hu1⟩)
        | (go_at_call 191; refine (eight_ok b R h8 _ hr1).mono ?_; rintro e w2 ⟨rfl, hr2, hu2⟩)
        | (go_at_call 104; refine (HNU.out _).mono ?_; rintro e w3 ⟨rfl, hb3⟩; have hm3 := Lib.hid ((((Mod.refl b (w.alloc (.cells #[.bool false, .int .u64 0, .string ⟨#[]⟩] 192))).upd hu1).upd hu2).step hb3); obtain ⟨⟨k0, k1, k2⟩, f0, f1, f2⟩ := blk hm3.out HNE.out))
      obtain ⟨s0, s1, s2⟩ := stored (v0 := .bool false) (v1 := .int .u64 (Oc.val (R.take 8) : Nat)) (v2 := .string ⟨#[]⟩) k0 k1 k2
      have hbe := stored_below (w := w3) (v0 := .bool false) (v1 := .int .u64 (Oc.val (R.take 8) : Nat)) (v2 := .string ⟨#[]⟩) (Nat.le_refl w.heap.size)
      refine bodyPost_ret_by (res28 rfl s0 s1 s2) rfl ?_
      exact .ok _ _ HN.out rfl ((hr2.below hb3).below' hbe HLT.out) (hm3.out.old.step' hbe)
    · have HN : Hid (Ord.pt (1 :: R) = none) := by
        show _ = _
        simp only [Ord.pt, if_true]
        rw [if_neg h8]
      have HNU : Hid (∀ W, Calls Tryz.prog 104 #[.int .u64 0] W fun e w' => e = .returned (.agg #[.bool false, .int .u64 0, .string ⟨#[]⟩]) ∧ Below W.heap.size W w') := fun W => num_any 0 W
      go_enter Tryz.func205, Tryz.ntmps205
      go_wp2_with (first
        | (go_at_call 260; refine (o1_cons b 1 R _ (HR.out.alloc _)).mono ?_; rintro e w1 ⟨rfl, hr1, hu1⟩)
        | (go_at_call 191; refine (eight_short b R h8 _ hr1).mono ?_; rintro e w2 ⟨rfl, hr2, hu2⟩)
        | (go_at_call 104; refine (HNU.out _).mono ?_; rintro e w3 ⟨rfl, hb3⟩; have hm3 := Lib.hid ((((Mod.refl b (w.alloc (.cells #[.bool false, .int .u64 0, .string ⟨#[]⟩] 192))).upd hu1).upd hu2).step hb3); obtain ⟨⟨k0, k1, k2⟩, f0, f1, f2⟩ := blk hm3.out HNE.out))
      obtain ⟨s0, s1, s2⟩ := stored (v0 := .bool false) (v1 := .int .u64 0) (v2 := .string ⟨#[]⟩) k0 k1 k2
      have hbe := stored_below (w := w3) (v0 := .bool false) (v1 := .int .u64 0) (v2 := .string ⟨#[]⟩) (Nat.le_refl w.heap.size)
      refine bodyPost_ret_by (res28 rfl s0 s1 s2) rfl ?_
      exact .bad HN.out ⟨false, 0, []⟩ rfl _ 3 ((hr2.below hb3).below' hbe HLT.out) (by decide) (hm3.out.old.step' hbe)
  · have h1' : ((c.toNat : Int) == 1) = false := by
      rw [beq_eq_false_iff_ne]; intro h; exact h1 (UInt8.toNat_inj.1 (by show c.toNat = 1; omega))
    by_cases h2 : c = 2
    · subst h2
      have HNS : Hid (∀ t W, Calls Tryz.prog 103 #[.string (str t)] W fun e w' => e = .returned (.agg #[.bool true, .int .u64 0, .string (str t)]) ∧ Below W.heap.size W w') := fun t W => strP_any t W
      go_enter Tryz.func205, Tryz.ntmps205
      go_wp2_with (first
        | (go_at_call 260; refine (o1_cons b 2 R _ (HR.out.alloc _)).mono ?_; rintro e w1 ⟨rfl, hr1, hu1⟩)
        | (go_at_call 266; refine (unescaped_any b R hR _ hr1).mono ?_))
      intro e w2 hun
      obtain ⟨t, he, hm2⟩ : ∃ t, e = .returned (.string (str t)) ∧ Mod b w1 w2 := by
        rcases hun with ⟨t, R', h, he, hr, hm⟩ | ⟨h, t, he, s, x, hr, hx, hm⟩
        · exact ⟨t, he, hm⟩
        · exact ⟨t, he, hm⟩
      subst he
      have HUN := Lib.hid hun
      clear hun
      go_wp2_with (go_at_call 103; refine (HNS.out _ _).mono ?_; rintro e w3 ⟨rfl, hb3⟩; have hm3 := Lib.hid ((((Mod.refl b (w.alloc (.cells #[.bool false, .int .u64 0, .string ⟨#[]⟩] 192))).upd hu1).trans hm2).step hb3); obtain ⟨⟨k0, k1, k2⟩, f0, f1, f2⟩ := blk hm3.out HNE.out)
      obtain ⟨s0, s1, s2⟩ := stored (v0 := .bool true) (v1 := .int .u64 0) (v2 := .string (str t)) k0 k1 k2
      have hbe := stored_below (w := w3) (v0 := .bool true) (v1 := .int .u64 0) (v2 := .string (str t)) (Nat.le_refl w.heap.size)
      refine bodyPost_ret_by (res28 rfl s0 s1 s2) rfl ?_
      rcases HUN.out with ⟨t', R', h, he, hr, hm⟩ | ⟨h, t', he, s, x, hr, hx, hm⟩
      · have : str t = str t' := by cases he; rfl
        have ht : t = t' := by rw [← str_data t, this, str_data]
        subst ht
        refine .ok ⟨true, 0, t⟩ R' ?_ rfl ((hr.below hb3).below' hbe HLT.out) (hm3.out.old.step' hbe)
        simp only [Ord.pt]
        rw [if_neg (by decide), if_pos trivial, h]; rfl
      · refine .bad ?_ ⟨true, 0, t⟩ rfl s x ((hr.below hb3).below' hbe HLT.out) hx (hm3.out.old.step' hbe)
        simp only [Ord.pt]
        rw [if_neg (by decide), if_pos trivial, h]; rfl
    · have h2' : ((c.toNat : Int) == 2) = false := by
        rw [beq_eq_false_iff_ne]; intro h; exact h2 (UInt8.toNat_inj.1 (by show c.toNat = 2; omega))
      have HN : Hid (Ord.pt (c :: R) = none) := by
        show _ = _
        simp only [Ord.pt]
        rw [if_neg h1, if_neg h2]
      go_enter Tryz.func205, Tryz.ntmps205
      go_wp2_with (first
        | (go_at_call 260; refine (o1_cons b c R _ (HR.out.alloc _)).mono ?_; rintro e w1 ⟨rfl, hr1, hu1⟩)
        | (go_at_call 261; refine (fail_20 b _ _ hr1).mono ?_; rintro e w3 ⟨rfl, hr3, hu3⟩; have hm3 := Lib.hid (((Mod.refl b (w.alloc (.cells #[.bool false, .int .u64 0, .string ⟨#[]⟩] 192))).upd hu1).upd hu3); obtain ⟨⟨k0, k1, k2⟩, f0, f1, f2⟩ := blk hm3.out HNE.out))
      obtain ⟨s0, s1, s2⟩ := stored (v0 := .bool false) (v1 := .int .u64 0) (v2 := .string ⟨#[]⟩) k0 k1 k2
      have hbe := stored_below (w := w3) (v0 := .bool false) (v1 := .int .u64 0) (v2 := .string ⟨#[]⟩) (Nat.le_refl w.heap.size)
      refine bodyPost_ret_by (res28 rfl s0 s1 s2) rfl ?_
      exact .bad HN.out ⟨false, 0, []⟩ rfl _ 20 (hr3.below' hbe HLT.out) (by decide) (hm3.out.old.step' hbe)
end Go.Proofs.YtgmneapgihakgaaGreatDoor
/- The contract of Parts. -/
namespace Go.Proofs.YtgmneapgihakgaaGreatDoor
open Go.RowKit
inductive PartsOut (K : List UInt8) (w : World) (e : Ending) (w' : World) : Prop
  | ok (l : List Ord.P) (hl : ∀ p ∈ l, p.ok) (hK : K = Ord.key l) (h255 : K.length ≤ 255) (a : Option Addr) (n c : Nat) (hn : n = l.length) (he : e = .returned (.tuple #[.slice a n c, .int .i64 0])) (hs : Sl w' (.slice a n c) l) (hb : Below w.heap.size w w')
  | bad (hno : K.length ≤ 255 → ∀ l, (∀ p ∈ l, p.ok) → K ≠ Ord.key l) (he : e = .returned (.tuple #[.slice none 0 0, .int .i64 20])) (hb : Below w.heap.size w w')
theorem key_len (l : List Ord.P) : l.length ≤ (Ord.key l).length := by
  induction l with
  | nil => exact Nat.le_refl _
  | cons p l ih =>
    rw [Ord.key_cons, List.length_append, List.length_cons]
    have := List.length_pos_iff.2 (Ord.pb_ne p)
    omega
theorem cellsP_new (w : World) (p : Ord.P) (o : Obj) (T : TypeId) : ∀ (j : Nat) u, (cellsP p)[j]? = some u →
    ((w.alloc o).alloc (.cells #[.bool p.t, .int .u64 p.n, .string (str p.s)] T)).cell? ((⟨w.heap.size + 1, 0, none⟩ : Addr).add j) = some u := by
  intro j u hj
  unfold cellsP at hj
  match j, hj with
  | 0, hj => simp at hj; subst hj; simp [Addr.add]
  | 1, hj => simp at hj; subst hj; simp [Addr.add]
  | 2, hj => simp at hj; subst hj; simp [Addr.add]
  | (j + 3), hj => simp at hj
theorem cellsP_one (p : Ord.P) : ∀ u ∈ cellsP p, u.oneCell' = true := by
  intro u hu
  simp [cellsP] at hu
  rcases hu with rfl | rfl | rfl <;> rfl
theorem nil_str : str [] = ⟨#[]⟩ := rfl
set_option maxHeartbeats 4000000 in
set_option maxRecDepth 100000 in
theorem parts_any (K : List UInt8) (hK : K.length ≤ 1000) (w : World) :
    Calls Tryz.prog 101 #[.string (str K)] w fun e w' => PartsOut K w e w' := by
  obtain ⟨i0, hi, hz0, hz1, hz2⟩ := info_parts info41
  have hsz : (str K).size = K.length := rfl
  by_cases h255 : (K.length : Int) > 255
  · go_enter Tryz.func101, Tryz.ntmps101
    go_wp2
    go_ret2
    exact .bad (fun h => by omega) rfl (Below.refl _ _)
  · go_enter Tryz.func101, Tryz.ntmps101
    go_wp2_with (go_at_call 203; refine (over_any _ _).mono ?_; rintro e w1 ⟨rfl, hr1, hb1⟩)
    have HR1 := Lib.hid hr1
    have HB1 := Lib.hid hb1
    have HLT := Lib.hid hr1.lt
    clear hr1 hb1
    go_loopg [4] K.length (fun g v wr => ∃ (l : List Ord.P) (R : List UInt8), Hid (∀ p ∈ l, p.ok) ∧ Hid (K = Ord.key l ++ R) ∧ g = R.length ∧ Hid (Rd wr w.heap.size (str R) 0) ∧
      Hid (wr.ownsRow w1.heap.size 192 3 v l.length (l.flatMap cellsP)) ∧ Hid (Below w.heap.size w wr) ∧ Hid (w1.heap.size ≤ wr.heap.size))
    case atStart => exact ⟨[], K, (fun p hp => by simp at hp), rfl, rfl, HR1.out, World.ownsRow_nil _ _ _ _, HB1.out, Nat.le_refl _⟩
    case round =>
      obtain ⟨l, R, HL, HK, rfl, HRd, HO, HB, HS⟩ := hrel
      have hlk : l.length ≤ 255 := by
        have h1 := key_len l
        have h2 := congrArg List.length HK.out
        rw [List.length_append] at h2
        omega
      have hrk : R.length ≤ 1000 := by
        have h2 := congrArg List.length HK.out
        rw [List.length_append] at h2
        omega
      cases R with
      | nil =>
        obtain ⟨a1, c1, rfl⟩ : ∃ a1 c1, u4 = .slice a1 l.length c1 := by
          rcases HO.out.2 with ⟨h, h0⟩ | ⟨g, cap, cur, h, _⟩
          · exact ⟨none, 0, by rw [h, h0]⟩
          · exact ⟨_, cap, h⟩
        go_wp2_with (go_at_call 204; refine (left_str _ [] 0 _ HRd.out).mono ?_; rintro e w2 ⟨rfl, rfl⟩)
        go_ret2
        exact .ok l HL.out (by have := HK.out; rwa [List.append_nil] at this) (by omega) a1 _ c1 rfl rfl (Sl.own HO.out) HB.out
      | cons x R =>
        have hr1000 : R.length ≤ 1000 := by simp at hrk; omega
        go_wp2_with (first
          | (go_at_call 204; refine (left_str _ (x :: R) 0 _ HRd.out).mono ?_; rintro e w2 ⟨rfl, rfl⟩)
          | (go_at_call 205; refine (part_any w.heap.size x R hr1000 _ HRd.out).mono ?_))
        rintro e w3 (⟨p, R', hp, rfl, hr, hm⟩ | ⟨hp, p, rfl, s, y, hr, hy, hm⟩)
        · have HB3 : Hid (Below w.heap.size w w3) := HB.out.trans (hm.below (Nat.le_refl _) HB.out.size)
          unfold aggP
          go_wp2_with (first
            | (go_at_call 206; refine (err_any _ _ _ _ (hr.alloc _)).mono ?_; rintro e w4 ⟨rfl, rfl⟩)
            | (at_builtin; refine wpList_append_own _ rfl _ _ 187 rfl w1.heap.size 192 i0 _ 3 32 Tryz.underlying187 hi hz0 hz1 hz2 rfl (by decide) _ l.length _ rfl (((own_mod HO.out hm HLT.out).alloc _).alloc _) ⟨w3.heap.size + 1, 0, none⟩ 1 1 (cellsP p) rfl rfl ?c1 ?c2 ?c3 ?c4 ?c5 ?_))
          case c1 => exact cellsP_new w3 p _ 192
          case c2 => exact cellsP_one p
          case c3 => unfold maxLen; omega
          case c4 => omega
          case c5 => have h1 := HS.out; have h2 := hm.size; simp; omega
          intro v' w4 hown' hgrow _
          have hs3 : w1.heap.size ≤ w3.heap.size := Nat.le_trans HS.out hm.size
          have HO4 : Hid (w4.ownsRow w1.heap.size 192 3 v' (l ++ [p]).length ((l ++ [p]).flatMap cellsP)) := by
            show w4.ownsRow _ _ _ _ _ _
            rw [List.flatMap_append, flat_one, List.length_append]; exact hown'
          have HB4 : Hid (Below w1.heap.size w3 w4) := (((Below.refl _ _).alloc hs3 _).alloc (by simp; omega) _).grown hgrow (by simp; omega) (fun g hg => (HO.out.lt g hg).1)
          clear hown' hgrow
          obtain ⟨hpe, hpo⟩ := Ord.pt_some _ _ _ hp
          have HK4 : Hid (K = Ord.key (l ++ [p]) ++ R') := by
            show K = _
            rw [HK.out, hpe, Ord.key_append, Ord.key_cons]
            simp [Ord.key]
          have HL4 : Hid (∀ q ∈ l ++ [p], q.ok) := by
            intro q hq
            rcases List.mem_append.1 hq with h | h
            · exact HL.out q h
            · simp at h; subst h; exact hpo
          have HD : Hid (R'.length < (x :: R).length) := by
            show _ < _
            rw [hpe, List.length_append]
            have := List.length_pos_iff.2 (Ord.pb_ne p)
            omega
          go_wp2
          go_roundg R'.length
          case measure => exact HD.out
          case rel => exact ⟨l ++ [p], R', HL4, HK4, rfl, hr.below' HB4.out HLT.out, HO4, HB3.out.trans (HB4.out.mono HB1.out.size), Nat.le_trans hs3 HB4.out.size⟩
        · have hy' : (y != 0) = true := by rw [bne_iff_ne]; exact hy
          have HB3 : Hid (Below w.heap.size w w3) := HB.out.trans (hm.below (Nat.le_refl _) HB.out.size)
          have HNO : Hid (∀ m, (∀ p ∈ m, p.ok) → K ≠ Ord.key m) := by
            intro m hmm
            rw [HK.out]
            exact Ord.no_row l HL.out (x :: R) (by simp) hp m hmm
          unfold aggP
          go_wp2_with (go_at_call 206; refine (err_any _ _ _ _ (hr.alloc _)).mono ?_; rintro e w4 ⟨rfl, rfl⟩)
          go_ret2
          exact .bad (fun _ => HNO.out) rfl (HB3.out.alloc HB3.out.size _)
end Go.Proofs.YtgmneapgihakgaaGreatDoor
