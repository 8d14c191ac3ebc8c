/- The contracts of the functions that read keys: unescaped, part. -/
import Derived.Test.YtfoijhofpjaldaaDoorRowed
import Derived.Test.YtfoijhofpjaldaaDoorReader
import Derived.Test.YtfoijhofpjaldaaDoorUn
set_option maxRecDepth 100000
set_option maxHeartbeats 4000000
set_option linter.unusedVariables false
namespace Go.Proofs.YtfoijhofpjaldaaDoor
open Go.RowKit
/-- Of what was there nothing has turned but block b. -/
structure Mod (b : Nat) (w w' : World) : Prop where
  os : w'.os = w.os
  tape : w'.tape = w.tape
  output : w'.output = w.output
  size : w.heap.size ≤ w'.heap.size
  block : ∀ k, k < w.heap.size → k ≠ b → w'.heap[k]? = w.heap[k]?
theorem Mod.refl (b : Nat) (w : World) : Mod b w w := ⟨rfl, rfl, rfl, Nat.le_refl _, fun _ _ _ => rfl⟩
theorem Mod.trans {b : Nat} {u v w : World} (h : Mod b u v) (k : Mod b v w) : Mod b u w :=
  ⟨k.os.trans h.os, k.tape.trans h.tape, k.output.trans h.output, Nat.le_trans h.size k.size, fun i hi hne => (k.block i (Nat.lt_of_lt_of_le hi h.size) hne).trans (h.block i hi hne)⟩
theorem Mod.upd {b : Nat} {u v w : World} (h : Mod b u v) (k : Upd b v w) : Mod b u w :=
  h.trans ⟨k.os, k.tape, k.output, Nat.le_of_eq k.size.symm, fun i _ hne => k.block i hne⟩
theorem Mod.step {b : Nat} {u v w : World} (h : Mod b u v) (k : Below v.heap.size v w) : Mod b u w :=
  h.trans ⟨k.os, k.tape, k.output, k.size, fun i hi _ => k.block i hi⟩
theorem Mod.alloc {b : Nat} {u v : World} (h : Mod b u v) (o : Obj) : Mod b u (v.alloc o) := h.step ((Below.refl _ _).alloc (Nat.le_refl _) _)
theorem Mod.below {b B : Nat} {w w' : World} (h : Mod b w w') (hb : B ≤ b) (hB : B ≤ w.heap.size) : Below B w w' :=
  ⟨h.os, h.tape, h.output, h.size, fun k hk => h.block k (by omega) (by omega)⟩
theorem Mod.cell {b : Nat} {w w' : World} (h : Mod b w w') {p : Addr} (hp : p.block < w.heap.size) (hne : p.block ≠ b) : w'.cell? p = w.cell? p := World.cell?_of_block (w := w) (h.block p.block hp hne)
theorem Mod.frozen {b : Nat} {w w' : World} (h : Mod b w w') {p : Addr} (hp : p.block < w.heap.size) (hne : p.block ≠ b) : w'.frozen? p = w.frozen? p := World.frozen?_of_block (w := w) (h.block p.block hp hne)
theorem Rd.alloc {w : World} {b : Nat} {s : ByteArray} {e : Int} (h : Rd w b s e) (o : Obj) : Rd (w.alloc o) b s e := h.below ((Below.refl _ _).alloc (Nat.le_refl _) _)
theorem Rd.lt {w : World} {b : Nat} {s : ByteArray} {e : Int} (h : Rd w b s e) : b < w.heap.size := World.block_lt_of_cell? _ _ h.c0
theorem tk_str (l m : List UInt8) (k : Nat) (h : l.length = k) : tk (str (l ++ m)) 0 k = (str l, str m, 0) := by
  subst h
  have e0 : (str (l ++ m)).extract 0 l.length = str l := by apply ByteArray.ext; simp [str]
  have e1 : (str (l ++ m)).extract l.length (str (l ++ m)).size = str m := by rw [str_size, List.length_append]; apply ByteArray.ext; simp [str]
  rw [tk_ok _ _ (by rw [str_size, List.length_append]; omega), e0, e1]
theorem Mod.step' {b : Nat} {u v w : World} (h : Mod b u v) (k : Below u.heap.size v w) : Mod b u w :=
  ⟨k.os.trans h.os, k.tape.trans h.tape, k.output.trans h.output, Nat.le_trans h.size k.size, fun i hi hne => (k.block i hi).trans (h.block i hi hne)⟩
theorem Rd.below' {w w' : World} {b B : Nat} {s : ByteArray} {e : Int} (h : Rd w b s e) (hb : Below B w w') (hlt : b < B) : Rd w' b s e := by
  have hB := hb.block b hlt
  exact ⟨(World.cell?_of_block (w := w) hB).trans h.c0, (World.cell?_of_block (w := w) hB).trans h.c1, (World.frozen?_of_block (w := w) hB).trans h.f0, (World.frozen?_of_block (w := w) hB).trans h.f1⟩
theorem own_upd {w w' : World} {b B : Nat} {e : TypeId} {s : Nat} {v : Value} {n : Nat} {xs : List Value} (h : w.ownsRow B e s v n xs) (u : Upd b w w') (hb : b < B) : w'.ownsRow B e s v n xs := by
  obtain ⟨h0, h1⟩ := h
  refine ⟨h0, ?_⟩
  rcases h1 with h1 | ⟨g, cap, cur, hv, hg, hh, rest⟩
  · exact .inl h1
  · exact .inr ⟨g, cap, cur, hv, hg, by rw [u.block g (by omega), hh], rest⟩
theorem pre_snoc (t : List UInt8) (c : UInt8) (o : Option (List UInt8 × List UInt8)) : (o.map (fun x => (c :: x.1, x.2))).map (Ord.pre t) = o.map (Ord.pre (t ++ [c])) := by
  cases o <;> simp [Ord.pre]
inductive UnOut (R : List UInt8) (b : Nat) (w : World) (e : Ending) (w' : World) : Prop
  | ok (t R' : List UInt8) (h : Ord.un R = some (t, R')) (he : e = .returned (.string (str t))) (hr : Rd w' b (str R') 0) (hm : Mod b w w')
  | bad (h : Ord.un R = none) (t : List UInt8) (he : e = .returned (.string (str t))) (s : ByteArray) (x : Int) (hr : Rd w' b s x) (hx : x ≠ 0) (hm : Mod b w w')
theorem info5 : (Tryd.prog.info? 5).map (fun i => (i.zero, i.size, i.bytes)) = some (some (.int .u8 0), 1, 1) := by kernel_rfl
def bytesV (t : List UInt8) : List Value := t.map (fun c => .int .u8 (c.toNat : Int))
theorem bytesV_snoc (t : List UInt8) (c : UInt8) : bytesV (t ++ [c]) = bytesV t ++ [.int .u8 (c.toNat : Int)] := by simp [bytesV]
theorem cell_new (w : World) (x : Value) (T : TypeId) : ∀ (j : Nat) u, [x][j]? = some u → (w.alloc (.cells #[x] T)).cell? ((⟨w.heap.size, 0, none⟩ : Addr).add j) = some u := by
  intro j u hj
  match j, hj with
  | 0, hj => simp at hj; subst hj; simp [Addr.add]
  | (j + 1), hj => simp at hj
theorem own_back {w : World} {B : Nat} {v : Value} {t : List UInt8} (h : w.ownsRow B 5 1 v t.length (bytesV t)) :
    (convert 49 9 v).run Tryd.prog w = .ok (.string (str t)) w := by
  have hw := h
  obtain ⟨_, h1⟩ := h
  rcases h1 with ⟨rfl, h0⟩ | ⟨g, cap, cur, rfl, _⟩
  · obtain rfl : t = [] := List.length_eq_zero_iff.1 h0
    exact (show (convert 49 9 (.slice none 0 0)).run Tryd.prog w = .ok (.string (str [])) w by kernel_rfl)
  · exact run_convert_bytes_back (P := Tryd.prog) w 49 9 5 ⟨g, 0, none⟩ cap t Tryd.underlying49 Tryd.underlying5 Tryd.underlying9 (by
      intro j hj
      rw [show (⟨g, 0, none⟩ : Addr).add j = ⟨g, j, none⟩ by unfold Addr.add; split <;> simp_all]
      rw [hw.cellAt j (by omega)]
      simp [bytesV, hj])
end Go.Proofs.YtfoijhofpjaldaaDoor
