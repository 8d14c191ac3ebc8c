/- Texts of one seat, merged. -/
import Derived.Test.YtpkoehnjladpoaaE05
import Derived.Deep.AppendLies
import Derived.Maps.AppendAt
import Derived.Test.YtpkoehnjladpoaaE02
import Derived.Lib.SliceRun
set_option maxRecDepth 100000
set_option maxHeartbeats 4000000
set_option linter.unusedVariables false
/- Rows of one's own, and rows that can be cut. -/
namespace Go.Proofs.Ytpkoehnjladpoaa
open Go.RowKit
open Sl (Cl Kd)
/-- A slice whose room is in order. -/
inductive Cap : Value → Prop
  | mk (a : Option Addr) (n c : Nat) (h : n ≤ c) (hm : c ≤ maxLen) (h0 : a = none → c = 0) : Cap (.slice a n c)
theorem ownsRow_below {w w' : World} {B : Nat} {e : TypeId} {s : Nat} {v : Value} {n : Nat} {xs : List Value} (h : w.ownsRow B e s v n xs) (hb : Below w.heap.size w w') : w'.ownsRow B e s v n xs := by
  obtain ⟨h0, h1⟩ := h
  refine ⟨h0, ?_⟩
  rcases h1 with h1 | ⟨g, cap, cur, hv, hB, hg, h2, h3, h4, h5⟩
  · exact .inl h1
  · refine .inr ⟨g, cap, cur, hv, hB, ?_, h2, h3, h4, h5⟩
    have hlt : g < w.heap.size := (Array.getElem?_eq_some_iff.1 hg).1
    rw [hb.block g hlt]; exact hg
theorem ownsRow_cap {w : World} {B : Nat} {e : TypeId} {s : Nat} {v : Value} {n : Nat} {xs : List Value} (h : w.ownsRow B e s v n xs) : Cap v := by
  obtain ⟨_, h1⟩ := h
  rcases h1 with ⟨rfl, _⟩ | ⟨g, cap, cur, rfl, _, _, h2, h3, _⟩
  · exact ⟨none, 0, 0, Nat.le_refl _, Nat.zero_le _, fun _ => rfl⟩
  · exact ⟨_, n, cap, h2, h3, fun h => by cases h⟩
def RowC (w : World) (B : Nat) (v : Value) (l : List Cl) : Prop := w.ownsRow B 42 4 v l.length (l.flatMap cellsC)
def RowK (w : World) (B : Nat) (v : Value) (l : List Kd) : Prop := w.ownsRow B 52 2 v l.length (l.flatMap cellsK)
theorem RowC.below {w w' : World} {B : Nat} {v : Value} {l : List Cl} (h : RowC w B v l) (hb : Below w.heap.size w w') : RowC w' B v l := ownsRow_below h hb
theorem RowK.below {w w' : World} {B : Nat} {v : Value} {l : List Kd} (h : RowK w B v l) (hb : Below w.heap.size w w') : RowK w' B v l := ownsRow_below h hb
theorem RowC.cap {w : World} {B : Nat} {v : Value} {l : List Cl} (h : RowC w B v l) : Cap v := ownsRow_cap h
theorem RowK.cap {w : World} {B : Nat} {v : Value} {l : List Kd} (h : RowK w B v l) : Cap v := ownsRow_cap h
theorem RowC.sl {w : World} {B : Nat} {v : Value} {l : List Cl} (h : RowC w B v l) : SlC w v l := SlC.own h
theorem RowK.sl {w : World} {B : Nat} {v : Value} {l : List Kd} (h : RowK w B v l) : SlK w v l := SlK.own h
theorem ownsRow_base {w : World} {B B' : Nat} {e : TypeId} {s : Nat} {v : Value} {n : Nat} {xs : List Value} (h : w.ownsRow B e s v n xs) (hb : B' ≤ B) : w.ownsRow B' e s v n xs := by
  obtain ⟨h0, h1⟩ := h
  refine ⟨h0, ?_⟩
  rcases h1 with h1 | ⟨g, cap, cur, hv, hB, hg, h2, h3, h4, h5⟩
  · exact .inl h1
  · exact .inr ⟨g, cap, cur, hv, Nat.le_trans hb hB, hg, h2, h3, h4, h5⟩
theorem RowC.base {w : World} {B B' : Nat} {v : Value} {l : List Cl} (h : RowC w B v l) (hb : B' ≤ B) : RowC w B' v l := ownsRow_base h hb
theorem RowK.base {w : World} {B B' : Nat} {v : Value} {l : List Kd} (h : RowK w B v l) (hb : B' ≤ B) : RowK w B' v l := ownsRow_base h hb
theorem RowC.set {w : World} {B : Nat} {v : Value} {l : List Cl} (h : RowC w B v l) {a : Addr} (ha : a.block < B) (u : Value) : RowC (w.setCell a u) B v l := ownsRow_setCell_below h ha u
theorem RowK.set {w : World} {B : Nat} {v : Value} {l : List Kd} (h : RowK w B v l) {a : Addr} (ha : a.block < B) (u : Value) : RowK (w.setCell a u) B v l := ownsRow_setCell_below h ha u
theorem ownsRow_keep {w w' : World} {B B' : Nat} {e : TypeId} {s : Nat} {v : Value} {n : Nat} {xs : List Value} (h : w.ownsRow B e s v n xs) (hlo : ∀ k, v.ownBlock = some k → k < B') (hb : Below B' w w') : w'.ownsRow B e s v n xs := by
  obtain ⟨h0, h1⟩ := h
  refine ⟨h0, ?_⟩
  rcases h1 with h1 | ⟨g, cap, cur, hv, hB, hg, h2, h3, h4, h5⟩
  · exact .inl h1
  · refine .inr ⟨g, cap, cur, hv, hB, ?_, h2, h3, h4, h5⟩
    rw [hb.block g (hlo g (by rw [hv]; rfl))]; exact hg
theorem RowC.keep {w w' : World} {B B' : Nat} {v : Value} {l : List Cl} (h : RowC w B v l) (hlo : ∀ k, v.ownBlock = some k → k < B') (hb : Below B' w w') : RowC w' B v l := ownsRow_keep h hlo hb
theorem RowK.keep {w w' : World} {B B' : Nat} {v : Value} {l : List Kd} (h : RowK w B v l) (hlo : ∀ k, v.ownBlock = some k → k < B') (hb : Below B' w w') : RowK w' B v l := ownsRow_keep h hlo hb
theorem RowC.lo {w : World} {B : Nat} {v : Value} {l : List Cl} (h : RowC w B v l) : ∀ k, v.ownBlock = some k → k < w.heap.size := fun k hk => (World.ownsRow.lt h k hk).2
theorem RowK.lo {w : World} {B : Nat} {v : Value} {l : List Kd} (h : RowK w B v l) : ∀ k, v.ownBlock = some k → k < w.heap.size := fun k hk => (World.ownsRow.lt h k hk).2
theorem last6 {w w1 : World} {B : Nat} {p0 p1 p2 p3 p4 p5 : Addr} {x0 x1 x2 x3 x4 x5 : Value} (H : w1.cell? p0 = some x0 ∧ w1.cell? p1 = some x1 ∧ w1.cell? p2 = some x2 ∧ w1.cell? p3 = some x3 ∧ w1.cell? p4 = some x4 ∧ w1.cell? p5 = some x5 ∧ Below B w w1) : Below B w w1 := H.2.2.2.2.2.2
/-- The answer is a row of the call's own. -/
inductive OwnC (l : List Cl) (w : World) (e : Ending) (w' : World) : Prop
  | mk (v : Value) (he : e = .returned v) (hr : RowC w' w.heap.size v l) (hb : Below w.heap.size w w')
inductive OwnK (l : List Kd) (w : World) (e : Ending) (w' : World) : Prop
  | mk (v : Value) (he : e = .returned v) (hr : RowK w' w.heap.size v l) (hb : Below w.heap.size w w')
theorem add_plain' (b o j : Nat) : (⟨b, o, none⟩ : Addr).add j = ⟨b, o + j, none⟩ := by
  unfold Addr.add; split <;> simp_all
theorem flat_split {α : Type} (f : α → List Value) (s : Nat) (hs : 0 < s) (hf : ∀ x, (f x).length = s) (l : List α) (j : Nat) (u : Value) (h : (l.flatMap f)[j]? = some u) :
    ∃ i r x, l[i]? = some x ∧ r < s ∧ j = i * s + r ∧ (f x)[r]? = some u := by
  have hj : j < l.length * s := by rw [← flat_len f s hf]; exact (List.getElem?_eq_some_iff.1 h).1
  have hi : j / s < l.length := by rw [Nat.div_lt_iff_lt_mul hs]; exact hj
  have hd : j = j / s * s + j % s := by rw [Nat.mul_comm]; exact (Nat.div_add_mod j s).symm
  have hr : j % s < s := Nat.mod_lt _ hs
  refine ⟨j / s, j % s, l[j / s], List.getElem?_eq_getElem hi, hr, hd, ?_⟩
  have := flat_at f s hf l (j / s) (j % s) _ (List.getElem?_eq_getElem hi) hr
  rw [← hd, h] at this
  exact this.symm
theorem SlC.flat {w : World} {b o : Nat} {l : List Cl} (hx : ∀ (j : Nat) x, l[j]? = some x → w.cell? ⟨b, o + j * 4, none⟩ = some (.string (str x.key)) ∧ w.cell? ⟨b, o + j * 4 + 1, none⟩ = some (.string (str x.val)) ∧ w.cell? ⟨b, o + j * 4 + 2, none⟩ = some (.int .u32 x.chain) ∧ w.cell? ⟨b, o + j * 4 + 3, none⟩ = some (.int .u32 x.long)) :
    ∀ j u, (l.flatMap cellsC)[j]? = some u → w.cell? ((⟨b, o, none⟩ : Addr).add j) = some u := by
  intro j u hj
  obtain ⟨i, r, x, hi, hr, rfl, hu⟩ := flat_split cellsC 4 (by decide) cellsC_len l j u hj
  obtain ⟨h0, h1, h2, h3⟩ := hx i x hi
  rw [add_plain', ← Nat.add_assoc]
  match r, hr, hu with
  | 0, _, hu => simp [cellsC] at hu; rw [← hu]; exact h0
  | 1, _, hu => simp [cellsC] at hu; rw [← hu]; exact h1
  | 2, _, hu => simp [cellsC] at hu; rw [← hu]; exact h2
  | 3, _, hu => simp [cellsC] at hu; rw [← hu]; exact h3
theorem SlK.flat {w : World} {b o : Nat} {l : List Kd} (hx : ∀ (j : Nat) x, l[j]? = some x → w.cell? ⟨b, o + j * 2, none⟩ = some (.string (str x.key)) ∧ w.cell? ⟨b, o + j * 2 + 1, none⟩ = some (.int .u32 x.page)) :
    ∀ j u, (l.flatMap cellsK)[j]? = some u → w.cell? ((⟨b, o, none⟩ : Addr).add j) = some u := by
  intro j u hj
  obtain ⟨i, r, x, hi, hr, rfl, hu⟩ := flat_split cellsK 2 (by decide) cellsK_len l j u hj
  obtain ⟨h0, h1⟩ := hx i x hi
  rw [add_plain', ← Nat.add_assoc]
  match r, hr, hu with
  | 0, _, hu => simp [cellsK] at hu; rw [← hu]; exact h0
  | 1, _, hu => simp [cellsK] at hu; rw [← hu]; exact h1
theorem flat_oneC (l : List Cl) : ∀ u ∈ l.flatMap cellsC, u.oneCell' = true := by
  intro u hu
  obtain ⟨x, _, h⟩ := List.mem_flatMap.1 hu
  exact cellsC_one x u h
theorem flat_oneK (l : List Kd) : ∀ u ∈ l.flatMap cellsK, u.oneCell' = true := by
  intro u hu
  obtain ⟨x, _, h⟩ := List.mem_flatMap.1 hu
  exact cellsK_one x u h
end Go.Proofs.Ytpkoehnjladpoaa
/- Rows of frames and of pages' numbers in memory. -/
namespace Go.Proofs.Ytpkoehnjladpoaa
open Go.RowKit
open Ch (Fr)
def cellsF (f : Fr) : List Value := [.int .u8 4, .int .u16 f.count, .int .u32 f.id, .int .u64 f.tx, .string (str f.body)]
theorem cellsF_len (f : Fr) : (cellsF f).length = 5 := rfl
theorem cellsF_one (f : Fr) : ∀ u ∈ cellsF f, u.oneCell' = true := by
  intro u hu
  simp [cellsF] at hu
  rcases hu with rfl | rfl | rfl | rfl | rfl <;> rfl
def SlU (w : World) (v : Value) (l : List Nat) : Prop :=
  ∃ (a : Option Addr) (b o c : Nat), v = .slice a l.length c ∧ (l = [] ∨ a = some ⟨b, o, none⟩) ∧ ∀ (j : Nat) x, l[j]? = some x → w.cell? ⟨b, o + j, none⟩ = some (.int .u32 x)
theorem SlU.below {w w' : World} {v : Value} {l : List Nat} (h : SlU w v l) (hb : Below w.heap.size w w') : SlU w' v l := by
  obtain ⟨a, b, o, c, hv, ha, hx⟩ := h
  refine ⟨a, b, o, c, hv, ha, fun j x hj => ?_⟩
  have h0 := hx j x hj
  exact (hb.cell (p := ⟨b, o + j, none⟩) (World.block_lt_of_cell? _ _ h0)).trans h0
def RowF (T : TypeId) (w : World) (B : Nat) (v : Value) (l : List Fr) : Prop := w.ownsRow B T 5 v l.length (l.flatMap cellsF)
theorem RowF.below {T : TypeId} {w w' : World} {B : Nat} {v : Value} {l : List Fr} (h : RowF T w B v l) (hb : Below w.heap.size w w') : RowF T w' B v l := ownsRow_below h hb
theorem infoF : (Try.prog.info? 37).map (fun i => (i.zero, i.size, i.bytes)) = some (some (.agg #[.int .u8 0, .int .u16 0, .int .u32 0, .int .u64 0, .string ByteArray.empty]), 5, 32) := by kernel_rfl
theorem infoR : (Try.prog.info? 36).map (fun i => (i.zero, i.size, i.bytes)) = some (some (.agg #[.int .u8 0, .int .u16 0, .int .u32 0, .int .u64 0, .string ByteArray.empty]), 5, 32) := by kernel_rfl
def zeroF : Array Value := #[.int .u8 0, .int .u16 0, .int .u32 0, .int .u64 0, .string ⟨#[]⟩]
theorem make_frames (c : Nat) (h : c ≤ 30000) (W : World) : (Instr.makeSlice 26 (.int .i64 c) (.int .i64 c)).run Try.prog W = .ok (.slice (some ⟨W.heap.size, 0, none⟩) c c) (W.alloc (.cells (madeCells zeroF (c * 5)) 37)) := by
  obtain ⟨i, hi, hz, hs, hb⟩ := info_parts infoF
  have := run_makeSlice (P := Try.prog) W 26 37 i _ Try.underlying26 hi hz .i64 .i64 c c (by omega) (by omega) (by rw [hs]; omega) (by rw [hb]; omega) (by omega)
  rw [this, hs]
  simp only [Int.toNat_natCast]
  rfl
theorem made_rowF (w : World) (c : Nat) (h : c ≤ 30000) :
    (w.alloc (.cells (madeCells zeroF (c * 5)) 37)).ownsRow w.heap.size 37 5 (.slice (some ⟨w.heap.size, 0, none⟩) c c) c (madeCells zeroF (c * 5)).toList := by
  have hsz := size_madeCells zeroF (c * 5)
  generalize madeCells zeroF (c * 5) = M at hsz ⊢
  refine ⟨by simp [hsz], .inr ⟨w.heap.size, c, M, rfl, Nat.le_refl _, heap_alloc_new w _, Nat.le_refl _, by unfold maxLen; omega, hsz, ?_⟩⟩
  rw [List.take_of_length_le (by rw [Array.length_toList]; omega)]
theorem flatlF (l : List Fr) : (l.flatMap cellsF).length = l.length * 5 := flat_len _ _ cellsF_len _
theorem storedF {w : World} {g c : Nat} {l : List Fr} {zs : List Value} (h : w.ownsRow g 37 5 (.slice (some ⟨g, 0, none⟩) c c) c (l.flatMap cellsF ++ zs)) (hz : zs.length = (c - l.length) * 5) (hl : l.length < c) (x : Fr) :
    ∃ zt, zt.length = (c - (l.length + 1)) * 5 ∧ (((((w.setCell ⟨g, l.length * 5, none⟩ (.int .u8 4)).setCell ⟨g, l.length * 5 + 1, none⟩ (.int .u16 x.count)).setCell ⟨g, l.length * 5 + 2, none⟩ (.int .u32 x.id)).setCell ⟨g, l.length * 5 + 3, none⟩ (.int .u64 x.tx)).setCell ⟨g, l.length * 5 + 4, none⟩ (.string (str x.body))).ownsRow g 37 5 (.slice (some ⟨g, 0, none⟩) c c) c ((l ++ [x]).flatMap cellsF ++ zt) := by
  have hfl := flatlF l
  obtain ⟨zt, hzt, hze⟩ : ∃ zt, zt.length = (c - (l.length + 1)) * 5 ∧ ∃ a0 a1 a2 a3 a4, zs = a0 :: a1 :: a2 :: a3 :: a4 :: zt := by
    refine ⟨zs.drop 5, by rw [List.length_drop, hz]; omega, ?_⟩
    have h4 : 5 ≤ zs.length := by rw [hz]; omega
    match zs, h4 with
    | a0 :: a1 :: a2 :: a3 :: a4 :: zt, _ => exact ⟨a0, a1, a2, a3, a4, rfl⟩
  obtain ⟨a0, a1, a2, a3, a4, rfl⟩ := hze
  refine ⟨zt, hzt, ?_⟩
  have hst := (((((h.stored (l.length * 5) (.int .u8 4)).1.stored (l.length * 5 + 1) (.int .u16 x.count)).1.stored (l.length * 5 + 2) (.int .u32 x.id)).1.stored (l.length * 5 + 3) (.int .u64 x.tx)).1.stored (l.length * 5 + 4) (.string (str x.body))).1
  rw [List.flatMap_append, List.flatMap_cons, List.flatMap_nil, List.append_nil, List.append_assoc]
  have hls : ((((((l.flatMap cellsF ++ a0 :: a1 :: a2 :: a3 :: a4 :: zt).set (l.length * 5) (.int .u8 4)).set (l.length * 5 + 1) (.int .u16 x.count)).set (l.length * 5 + 2) (.int .u32 x.id)).set (l.length * 5 + 3) (.int .u64 x.tx)).set (l.length * 5 + 4) (.string (str x.body))) = l.flatMap cellsF ++ (cellsF x ++ zt) := by
    rw [List.set_append_right _ _ (by rw [hfl]; omega), show l.length * 5 - (l.flatMap cellsF).length = 0 by rw [hfl]; omega]
    rw [List.set_append_right _ _ (by rw [hfl]; omega), show l.length * 5 + 1 - (l.flatMap cellsF).length = 1 by rw [hfl]; omega]
    rw [List.set_append_right _ _ (by rw [hfl]; omega), show l.length * 5 + 2 - (l.flatMap cellsF).length = 2 by rw [hfl]; omega]
    rw [List.set_append_right _ _ (by rw [hfl]; omega), show l.length * 5 + 3 - (l.flatMap cellsF).length = 3 by rw [hfl]; omega]
    rw [List.set_append_right _ _ (by rw [hfl]; omega), show l.length * 5 + 4 - (l.flatMap cellsF).length = 4 by rw [hfl]; omega]
    rfl
  rw [← hls]
  exact hst
/-- What both functions answer. -/
inductive FrOut (T : TypeId) (ids : List Nat) (tx : Nat) (s : List UInt8) (w : World) (e : Ending) (w' : World) : Prop
  | bad (h : Ch.err ids s ≠ 0) (he : e = .returned (.tuple #[.slice none 0 0, .int .i64 (Ch.err ids s)])) (hb : Below w.heap.size w w')
  | ok (v : Value) (h : Ch.err ids s = 0) (he : e = .returned (.tuple #[v, .int .i64 0])) (hv : RowF T w' w.heap.size v (Ch.frs ids tx s ids.length)) (hb : Below w.heap.size w w')
end Go.Proofs.Ytpkoehnjladpoaa
