/- The contract of Read, at a pair's codec. -/
import Derived.Test.YtgkonmidgeanmaaList
namespace Go.Proofs.Ytgkonmidgeanmaa
open Go.RowKit
structure R3 (w : World) (g : Nat) : Prop where
  c0 : w.cell? ⟨g, 0, none⟩ = some (.func (.func 41) #[] #[])
  c1 : w.cell? ⟨g, 1, none⟩ = some (.func (.func 42) #[] #[])
  r0 : w.cell? ⟨g + 1, 0, none⟩ = some (.int .u16 0)
  r1 : w.cell? ⟨g + 1, 1, none⟩ = some (.string ⟨#[]⟩)
  f0 : w.frozen? ⟨g + 1, 0, none⟩ = false
  f1 : w.frozen? ⟨g + 1, 1, none⟩ = false
  n0 : w.cell? ⟨g + 1 + 1, 0, none⟩ = some (.int .u16 0)
  n1 : w.cell? ⟨g + 1 + 1, 1, none⟩ = some (.string ⟨#[]⟩)
  lt : g + 1 + 1 < w.heap.size
theorem R3.keep {w w' : World} {g : Nat} (h : R3 w g) (hk : ∀ k, k ≤ g + 1 + 1 → w'.heap[k]? = w.heap[k]?) (hs : w.heap.size ≤ w'.heap.size) : R3 w' g := by
  have c : ∀ b o, b ≤ g + 1 + 1 → w'.cell? ⟨b, o, none⟩ = w.cell? ⟨b, o, none⟩ := fun b o hb => World.cell?_of_block (w := w) (hk b hb)
  have f : ∀ b o, b ≤ g + 1 + 1 → w'.frozen? ⟨b, o, none⟩ = w.frozen? ⟨b, o, none⟩ := fun b o hb => World.frozen?_of_block (w := w) (hk b hb)
  exact ⟨(c _ _ (by omega)).trans h.c0, (c _ _ (by omega)).trans h.c1, (c _ _ (by omega)).trans h.r0, (c _ _ (by omega)).trans h.r1, (f _ _ (by omega)).trans h.f0, (f _ _ (by omega)).trans h.f1, (c _ _ (by omega)).trans h.n0, (c _ _ (by omega)).trans h.n1, Nat.lt_of_lt_of_le h.lt hs⟩
theorem R3.below {w w' : World} {g : Nat} (h : R3 w g) (hb : Below w.heap.size w w') : R3 w' g := h.keep (fun k hk => hb.block k (by have := h.lt; omega)) hb.size
theorem R3.mod {w w' : World} {g b : Nat} (h : R3 w g) (hm : Mod b w w') (hb : g + 1 + 1 < b) : R3 w' g := h.keep (fun k hk => hm.block k (by have := h.lt; omega) (by omega)) hm.size
theorem R3.alloc {w : World} {g : Nat} (h : R3 w g) (o : Obj) : R3 (w.alloc o) g := h.below ((Below.refl _ _).alloc (Nat.le_refl _) _)
theorem size1 (w : World) (o : Obj) : (w.alloc o).heap.size = w.heap.size + 1 := by simp
theorem size3 (w : World) (o1 o2 o3 : Obj) : (((w.alloc o1).alloc o2).alloc o3).heap.size = w.heap.size + 1 + 1 + 1 := by rw [size1, size2]
theorem R3.new (w : World) : R3 (((w.alloc (.cells #[.func (.func 41) #[] #[], .func (.func 42) #[] #[]] 58)).alloc (.cells #[.int .u16 0, .string ⟨#[]⟩] 62)).alloc (.cells #[.int .u16 0, .string ⟨#[]⟩] 62)) w.heap.size := by
  have o1 : ∀ (W : World) (o : Obj) (b i : Nat), b < W.heap.size → (W.alloc o).cell? ⟨b, i, none⟩ = W.cell? ⟨b, i, none⟩ := fun W o b i h => World.cell?_alloc_old W o ⟨b, i, none⟩ (Nat.ne_of_lt h)
  have p1 : ∀ (W : World) (o : Obj) (b i : Nat), b < W.heap.size → (W.alloc o).frozen? ⟨b, i, none⟩ = W.frozen? ⟨b, i, none⟩ := fun W o b i h => World.frozen?_alloc_old W o ⟨b, i, none⟩ (Nat.ne_of_lt h)
  have n1 : ∀ (W : World) (c : Array Value) (t : TypeId) (b i : Nat), b = W.heap.size → (W.alloc (.cells c t)).cell? ⟨b, i, none⟩ = c[i]? := fun W c t b i h => by subst h; exact World.cell?_alloc_new W c t i
  have q1 : ∀ (W : World) (c : Array Value) (t : TypeId) (b i : Nat), b = W.heap.size → (W.alloc (.cells c t)).frozen? ⟨b, i, none⟩ = false := fun W c t b i h => by subst h; exact World.frozen?_alloc_new W c t i
  constructor
  · rw [o1 _ _ _ _ (by rw [size2]; omega), o1 _ _ _ _ (by rw [size1]; omega), n1 _ _ _ _ _ rfl]; rfl
  · rw [o1 _ _ _ _ (by rw [size2]; omega), o1 _ _ _ _ (by rw [size1]; omega), n1 _ _ _ _ _ rfl]; rfl
  · rw [o1 _ _ _ _ (by rw [size2]; omega), n1 _ _ _ _ _ (by rw [size1])]; rfl
  · rw [o1 _ _ _ _ (by rw [size2]; omega), n1 _ _ _ _ _ (by rw [size1])]; rfl
  · rw [p1 _ _ _ _ (by rw [size2]; omega), q1 _ _ _ _ _ (by rw [size1])]
  · rw [p1 _ _ _ _ (by rw [size2]; omega), q1 _ _ _ _ _ (by rw [size1])]
  · rw [n1 _ _ _ _ _ (by rw [size2])]; rfl
  · rw [n1 _ _ _ _ _ (by rw [size2])]; rfl
  · rw [size3]; omega
theorem over_at (s : ByteArray) (b : Nat) (w : World) (hb : w.heap.size = b) :
    Calls Try.prog 16 #[.string s] w fun e w' => e = .returned (.pointer (some ⟨b, 0, none⟩)) ∧ Rd w' b s 0 ∧ Below w.heap.size w w' := by
  subst hb; exact over_any s w
/-- What Read answers of any bytes. -/
def readR (s : ByteArray) : Pr × Int :=
  let G := getR s 0
  if fin G.2.1 G.2.2 = 0 then (G.1, 0) else (⟨0, []⟩, fin G.2.1 G.2.2)
theorem res35 {w : World} {g : Nat} {n : Int} {s : ByteArray} {e : Int} {tmps : Array Value} (ht : tmps[4]? = some (.pointer (some ⟨g, 0, none⟩))) (h5 : tmps[5]? = some (.int .i64 e))
    (h0 : w.cell? ⟨g, 0, none⟩ = some (.int .u16 n)) (h1 : w.cell? ⟨g, 1, none⟩ = some (.string s)) :
    (results Try.f35 tmps).run Try.prog w = .ok (.tuple #[.agg #[.int .u16 n, .string s], .int .i64 e]) w := by
  simp [results, Try.results35, go_sem, ht, h0, h1, h5]
theorem func_nil56 (w : World) : (binOp .eql 56 (.func (.func 42) #[] #[]) .nilFunc).run Try.prog w = .ok (.bool false) w := by kernel_rfl
set_option maxHeartbeats 1000000 in
theorem read_any (s : ByteArray) (w : World) :
    Calls Try.prog 35 #[.agg #[.func (.func 41) #[] #[], .func (.func 42) #[] #[]], .string s] w fun x w' => x = .returned (.tuple #[aggR (readR s).1, .int .i64 (readR s).2]) ∧ Below w.heap.size w w' := by
  have heq := func_nil56
  have H0 := Lib.hid (R3.new w)
  have HG := Lib.hid (fun b W (hW : Rd W b s 0) => get_any b s 0 W hW)
  unfold readR
  revert HG
  generalize getR s 0 = X
  obtain ⟨⟨n, t⟩, s1, e1⟩ := X
  intro HG
  simp only at HG ⊢
  have HE := Lib.hid (fun b W (hW : Rd W b s1 e1) => end_rd b s1 e1 W hW)
  revert HE
  generalize fin s1 e1 = f
  intro HE
  unfold aggR at HG ⊢
  simp only at HG
  by_cases hf : f = 0
  · subst hf
    rw [if_pos rfl]
    obtain ⟨b, hb⟩ : ∃ b, b = w.heap.size + 1 + 1 + 1 := ⟨_, rfl⟩
    have HBE := Lib.hid hb
    clear hb
    go_enter Try.func35, Try.ntmps35
    go_wp2_with (first
      | (go_at_call 16; refine (over_at _ b _ (by rw [size3, HBE.out])).mono ?_; rintro e w1 ⟨rfl, hr1, hb1⟩; have HR1 := Lib.hid (H0.out.below hb1); have q0 := HR1.out.c0; have q1 := HR1.out.c1)
      | (go_at_call 46; refine (HG.out _ _ hr1).mono ?_; rintro e w2 ⟨rfl, hr2, hm2⟩; have HR2 := Lib.hid ((HR1.out.mod hm2 (by rw [HBE.out]; omega)).alloc (.cells #[.int .u16 n, .string (str t)] 62)))
      | (go_at_call 27; refine (HE.out _ _ (hr2.alloc _)).mono ?_; rintro e w3 ⟨rfl, rfl⟩; have k0 := HR2.out.r0; have k1 := HR2.out.r1; have f0 := HR2.out.f0; have f1 := HR2.out.f1))
    obtain ⟨s0, s1⟩ := stored2 (v0 := .int .u16 (n : Nat)) (v1 := .string (str t)) k0 k1
    have hW1 := below_step (below3 w _ _ _) hb1
    have hW2 := hW1.trans (hm2.below (by rw [HBE.out]; omega) hW1.size)
    exact bodyPost_ret_by (res35 rfl rfl s0 s1) rfl ⟨rfl, (hW2.alloc hW2.size _).trans (stored2_below (show w.heap.size ≤ w.heap.size + 1 by omega))⟩
  · have hf' : (f != 0) = true := by rw [bne_iff_ne]; exact hf
    rw [if_neg hf]
    obtain ⟨b, hb⟩ : ∃ b, b = w.heap.size + 1 + 1 + 1 := ⟨_, rfl⟩
    have HBE := Lib.hid hb
    clear hb
    go_enter Try.func35, Try.ntmps35
    go_wp2_with (first
      | (go_at_call 16; refine (over_at _ b _ (by rw [size3, HBE.out])).mono ?_; rintro e w1 ⟨rfl, hr1, hb1⟩; have HR1 := Lib.hid (H0.out.below hb1); have q0 := HR1.out.c0; have q1 := HR1.out.c1)
      | (go_at_call 46; refine (HG.out _ _ hr1).mono ?_; rintro e w2 ⟨rfl, hr2, hm2⟩; have HR2 := Lib.hid ((HR1.out.mod hm2 (by rw [HBE.out]; omega)).alloc (.cells #[.int .u16 n, .string (str t)] 62)))
      | (go_at_call 27; refine (HE.out _ _ (hr2.alloc _)).mono ?_; rintro e w3 ⟨rfl, rfl⟩; have k0 := HR2.out.r0; have k1 := HR2.out.r1; have f0 := HR2.out.f0; have f1 := HR2.out.f1; have m0 := HR2.out.n0; have m1 := HR2.out.n1))
    obtain ⟨s0, s1⟩ := stored2 (v0 := .int .u16 0) (v1 := .string ⟨#[]⟩) k0 k1
    have hW1 := below_step (below3 w _ _ _) hb1
    have hW2 := hW1.trans (hm2.below (by rw [HBE.out]; omega) hW1.size)
    exact bodyPost_ret_by (res35 rfl rfl s0 s1) rfl ⟨rfl, (hW2.alloc hW2.size _).trans (stored2_below (show w.heap.size ≤ w.heap.size + 1 by omega))⟩
end Go.Proofs.Ytgkonmidgeanmaa
