/- The contract of the document's own Parts. -/
import Derived.Test.YtfoijhofpjaldaaDoorRefKey
import Derived.Test.YtfoijhofpjaldaaDoorRefs
set_option maxRecDepth 100000
set_option maxHeartbeats 4000000
set_option linter.unusedVariables false
namespace Go.Proofs.YtfoijhofpjaldaaDoor
open Go.RowKit
theorem refStr_any (t : List UInt8) (W : World) :
    Calls Tryd.prog 6 #[.string (str t)] W fun e w' => e = .returned (.agg #[.bool true, .int .u64 0, .string (str t)]) ∧ Below W.heap.size W w' := by
  go_enter Tryd.func6, Tryd.ntmps6
  go_wp2
  refine bodyPost_ret_by (v := aggP ⟨true, 0, t⟩) ?_ rfl ⟨rfl, (Below.refl _ _).alloc (Nat.le_refl _) _⟩
  simp [results, Tryd.results6, go_sem, aggP]
theorem slice_nine (K : List UInt8) (i : Nat) (h : i + 9 ≤ K.length) (W : World) :
    (Instr.slice 9 (.string (str K)) (some (.int .i64 ((i : Int) + 1))) (some (.int .i64 ((i : Int) + 9))) none).run Tryd.prog W = .ok (.string (str ((K.drop (i + 1)).take 8))) W := by
  rw [run_slice_string W 9 (str K) .i64 .i64 _ _ Tryd.underlying9 (by omega) (by omega) (by rw [str_size]; omega)]
  congr 2
  rw [show ((i : Int) + 1).toNat = i + 1 by omega, show ((i : Int) + 9).toNat = i + 9 by omega]
  apply ByteArray.ext
  simp only [str]
  rw [ByteArray.data_extract]
  apply Array.ext'
  simp [List.take_drop]
theorem drop_atL (K : List UInt8) (i : Nat) (c : UInt8) (h : K[i]? = some c) : K.drop i = c :: K.drop (i + 1) := by
  obtain ⟨hk, he⟩ := List.getElem?_eq_some_iff.1 h
  rw [List.drop_eq_getElem_cons hk, he]
theorem info43' : (Tryd.prog.info? 27).map (fun i => (i.zero, i.size, i.bytes)) = some (some (.agg #[.bool false, .int .u64 0, .string ByteArray.empty]), 3, 32) := info43
theorem fwd_key (K : List UInt8) (l : List Ord.P) (i : Nat) (p : Ord.P) (R' : List UInt8) (hK : K = Ord.key l ++ K.drop i) (hp : Ord.pt (K.drop i) = some (p, R')) : K = Ord.key (l ++ [p]) ++ R' := by
  obtain ⟨hpe, _⟩ := Ord.pt_some _ _ _ hp
  rw [Ord.key_append, List.append_assoc]
  show K = Ord.key l ++ (Ord.key [p] ++ R')
  rw [show Ord.key [p] = Ord.pb p by simp [Ord.key], ← hpe]
  exact hK
theorem ok_snoc (l : List Ord.P) (p : Ord.P) (hl : ∀ q ∈ l, q.ok) (hp : p.ok) : ∀ q ∈ l ++ [p], q.ok := by
  intro q hq
  rcases List.mem_append.1 hq with h | h
  · exact hl q h
  · simp at h; subst h; exact hp
theorem cellsP_at (w : World) (p : Ord.P) (T : TypeId) : ∀ (j : Nat) u, (cellsP p)[j]? = some u →
    (w.alloc (.cells #[.bool p.t, .int .u64 p.n, .string (str p.s)] T)).cell? ((⟨w.heap.size, 0, none⟩ : Addr).add j) = some u := by
  intro j u hj
  unfold cellsP at hj
  match j, hj with
  | 0, hj => simp at hj; subst hj; simp [Addr.add]
  | 1, hj => simp at hj; subst hj; simp [Addr.add]
  | 2, hj => simp at hj; subst hj; simp [Addr.add]
  | (j + 3), hj => simp at hj
theorem index_at (K : List UInt8) (j : Nat) (d : UInt8) (h : K[j]? = some d) (x : Int) (hx : x = j) (W : World) :
    (Instr.index 9 (.string (str K)) (.int .i64 x)).run Tryd.prog W = .ok (.int .u8 d.toNat) W := by
  subst hx
  have hj := (List.getElem?_eq_some_iff.1 h).1
  rw [run_index_string W 9 (str K) .i64 j Tryd.underlying9, dif_pos ⟨by omega, by rw [str_size]; omega⟩]
  have hs := str_at K j d h (by rw [str_size]; exact hj)
  congr 3
theorem own_upd' {w w' : World} {b B : Nat} {e : TypeId} {s : Nat} {v : Value} {n : Nat} {xs : List Value} {o : Obj} (h : (w.alloc o).ownsRow B e s v n xs) (u : Upd b (w.alloc o) w') (hv : v.ownBlock ≠ some b) : w'.ownsRow B e s v n xs := by
  obtain ⟨h0, h1⟩ := h
  refine ⟨h0, ?_⟩
  rcases h1 with h1 | ⟨g, cap, cur, rfl, hg, hh, rest⟩
  · exact .inl h1
  · exact .inr ⟨g, cap, cur, rfl, hg, by rw [u.block g (fun he => hv (by rw [he]; rfl)), hh], rest⟩
end Go.Proofs.YtfoijhofpjaldaaDoor
