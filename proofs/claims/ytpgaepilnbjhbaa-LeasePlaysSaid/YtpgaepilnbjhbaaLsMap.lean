/- A map from texts to times, kept as a function, and how many it has. -/
import Derived.Test.YtpgaepilnbjhbaaLsKeep
import Derived.Maps.OwnSet
import Derived.StringKeys
set_option maxRecDepth 100000
set_option maxHeartbeats 4000000
set_option linter.unusedVariables false
namespace Go.Proofs.Ytpgaepilnbjhbaa
open Go.RowKit Go.Maps Go.WideMaps
open Ls (Txt Ln Ms)
def heldU : Value → Option (DataW Value × List MemPlace) := fun v => some (.held v, [])
def zU : Value := .int .u64 0
def uV (n : Nat) : Value := .int .u64 n
/-- A map's entries as a function; how many. -/
def MapN (w : World) (b n : Nat) (f : Txt → Option Nat) (c : Nat) : Prop :=
  ∃ D : DataW Value, w.ownsMap Try.prog 9 heldU b n D ∧ Tidy D ∧ Maps.size D = c ∧ ∀ k : Txt, Maps.has D (.string k) = (f k).isSome ∧ D.atKey (.string k) (.held zU) = .held (((f k).map uV).getD zU)
theorem keyS {k : Txt} (h : k.length ≤ maxLen) : keyOf Try.prog 9 (.string (str k)) = some (.string k) := keyOf_string_mk Try.underlying9 (s := str k) h
theorem lawS : Keyed Try.prog 9 := string_keyed Try.underlying9
theorem zeroU (w : World) : (zeroValue 32).run Try.prog w = .ok zU w := by kernel_rfl
theorem MapN.made (w : World) : MapN (w.alloc (.map #[] 0)) w.heap.size 0 (fun _ => none) 0 := ⟨.map [], World.ownsMap_made _ _ _ _, tidy_empty, rfl, fun k => ⟨rfl, rfl⟩⟩
theorem MapN.lookOk {w : World} {b n : Nat} {f : Txt → Option Nat} {c : Nat} (h : MapN w b n f c) {k : Txt} (hk : k.length ≤ maxLen) : (Instr.lookup 64 (.map (some b)) (.string (str k)) true).run Try.prog w = .ok (.tuple #[((f k).map uV).getD zU, .bool (f k).isSome]) w := by
  obtain ⟨D, ho, _, _, hf⟩ := h
  obtain ⟨v, ps, hr, hv⟩ := ho.look_ok lawS Try.underlying64 (zeroU w) (zd := .held zU) (zp := []) rfl (keyS hk)
  rw [(hf k).2] at hv
  simp [heldU] at hv
  rw [hr, hv.1, (hf k).1]
theorem litS_ne {j k : Txt} (h : j ≠ k) : Lit.string j ≠ Lit.string k := by
  intro e
  injection e with e
  exact h e
theorem MapN.store {w : World} {b n : Nat} {f : Txt → Option Nat} {c : Nat} (h : MapN w b n f c) {k : Txt} (hk : k.length ≤ maxLen) (hn : n < maxLen) (t : Nat) :
    ∃ w', (Instr.mapUpdate 64 (.map (some b)) (.string (str k)) (uV t)).run Try.prog w = .ok () w' ∧ MapN w' b (n + 1) (fun j => if j = k then some t else f j) (if (f k).isSome then c else c + 1) ∧ w.mapTurned w' b := by
  obtain ⟨D, ho, ht, hs, hf⟩ := h
  obtain ⟨w', hr, h1, h2⟩ := ho.store lawS Try.underlying64 hn (val := uV t) (keyS hk) (d := .held (uV t)) (ps := []) rfl
  refine ⟨w', hr, ⟨_, h1, ht.put (lawS.key (keyS hk)) _, ?_, fun j => ?_⟩, h2⟩
  · rw [size_put ht, (hf k).1, hs]
  · by_cases hjk : j = k
    · subst hjk
      simp only [if_true]
      rw [Maps.has_put_same ho.isMap (lawS.key (keyS hk)), Maps.atKey_put_same ho.isMap (lawS.key (keyS hk))]
      exact ⟨rfl, rfl⟩
    · simp only [if_neg hjk]
      rw [Maps.has_put_other (litS_ne hjk), Maps.atKey_put_other (litS_ne hjk)]
      exact hf j
theorem MapN.len {w : World} {b n : Nat} {f : Txt → Option Nat} {c : Nat} (h : MapN w b n f c) (ty : TypeId) : (Builtin.len_ #[64] ty #[.map (some b)]).run Try.prog w = .ok (.int .i64 c) w := by
  obtain ⟨D, ho, _, hs, _⟩ := h
  rw [ho.len Try.underlying64 ty, hs]
theorem MapN.lt {w : World} {b n : Nat} {f : Txt → Option Nat} {c : Nat} (h : MapN w b n f c) : b < w.heap.size := by
  obtain ⟨D, ho, _⟩ := h
  exact ho.lt
theorem MapN.kept {w w' : World} {b n : Nat} {f : Txt → Option Nat} {c : Nat} (h : MapN w b n f c) (hb : w'.heap[b]? = w.heap[b]?) : MapN w' b n f c := by
  obtain ⟨D, ⟨es, clock, h0, h1⟩, hf⟩ := h
  exact ⟨D, ⟨es, clock, hb.trans h0, h1⟩, hf⟩
end Go.Proofs.Ytpgaepilnbjhbaa
