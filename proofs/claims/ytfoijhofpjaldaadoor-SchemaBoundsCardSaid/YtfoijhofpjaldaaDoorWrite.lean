/- The contracts of the functions that write numbers and texts as bytes. -/
import Derived.Test.YtfoijhofpjaldaaDoorRows
import Derived.Test.YtfoijhofpjaldaaDoorMath
import Derived.WalkKit
import Derived.WalkLawsBesides
import Derived.Below
import Derived.Lib.Hide
import Derived.Laws.IdiomStrings
import Derived.RegionTactic
import Derived.Deep.RegionWith
set_option maxRecDepth 100000
set_option maxHeartbeats 4000000
set_option linter.unusedVariables false
namespace Go.Proofs.YtfoijhofpjaldaaDoor
open Go.RowKit
def str (l : List UInt8) : ByteArray := ⟨l.toArray⟩
theorem str_data (l : List UInt8) : (str l).data.toList = l := rfl
theorem str_size (l : List UInt8) : (str l).size = l.length := rfl
theorem str_append (l m : List UInt8) : str l ++ str m = str (l ++ m) := by
  apply ByteArray.ext
  simp [str]
theorem str_eq (s : ByteArray) : str s.data.toList = s := rfl
theorem ret_string {a b : ByteArray} (h : a = b) : Ending.returned (.string a) = .returned (.string b) := by rw [h]
theorem one_back (n : Nat) (h : n < 256) (w : World) :
    (convert 49 9 (.slice (some ⟨w.heap.size, 0, none⟩) 1 1)).run Tryd.prog (w.alloc (.cells #[.int .u8 n] 5)) = .ok (.string (str (Oc.big 1 n))) (w.alloc (.cells #[.int .u8 n] 5)) := by
  have hback := run_convert_bytes_back (P := Tryd.prog) (w.alloc (.cells #[.int .u8 n] 5)) 49 9 5 ⟨w.heap.size, 0, none⟩ 1 (Oc.big 1 n) Tryd.underlying49 Tryd.underlying5 Tryd.underlying9 (by
    intro j hj
    rw [Oc.big_length] at hj
    obtain rfl : j = 0 := by omega
    have e : (Oc.big 1 n)[0].toNat = n := by
      show (UInt8.ofNat (n % 256)).toNat = n
      rw [UInt8.toNat_ofNat']; omega
    refine Eq.trans (b := some (.int .u8 (n : Int))) ?_ (congrArg (fun x : Nat => some (Value.int .u8 (x : Int))) e.symm)
    rw [show (⟨w.heap.size, 0, none⟩ : Addr).add 0 = ⟨w.heap.size, 0, none⟩ from rfl]
    simp)
  exact hback
theorem one_any (n : Nat) (h : n < 256) (w : World) :
    Calls Tryd.prog 17 #[.int .u8 n] w fun e w' => e = .returned (.string (str (Oc.big 1 n))) ∧ Below w.heap.size w w' := by
  have hb := one_back n h
  go_enter Tryd.func17, Tryd.ntmps17
  go_wp2
  go_ret
  exact ⟨rfl, (Below.refl _ _).alloc (Nat.le_refl _) _⟩
theorem one_at (x : Int) (n : Nat) (hx : x = n) (h : n < 256) (w : World) :
    Calls Tryd.prog 17 #[.int .u8 x] w fun e w' => e = .returned (.string (str (Oc.big 1 n))) ∧ Below w.heap.size w w' := by
  subst hx; exact one_any n h w
theorem big_size (k n : Nat) : (str (Oc.big k n)).size = k := by rw [str_size, Oc.big_length]
theorem two_at (x : Int) (n : Nat) (hx : x = n) (h : n < 65536) (w : World) :
    Calls Tryd.prog 22 #[.int .u16 x] w fun e w' => e = .returned (.string (str (Oc.big 2 n))) ∧ Below w.heap.size w w' := by
  subst hx
  have hs := big_size
  have H : Hid (str (Oc.big 1 (n / 256)) ++ str (Oc.big 1 (n % 256)) = str (Oc.big 2 n)) := by
    show _ = str (Oc.big (1 + 1) n)
    rw [str_append, Oc.big_add 1 1, ← Oc.big_mod 1 n]
  go_enter Tryd.func22, Tryd.ntmps22
  go_wp2_with (go_at_call 17; first
    | (refine (one_at _ (n / 256) (by omega) (by omega) _).mono ?_; rintro e w1 ⟨rfl, hb1⟩)
    | (refine (one_at _ (n % 256) (by omega) (by omega) _).mono ?_; rintro e w2 ⟨rfl, hb2⟩))
  go_ret
  exact ⟨ret_string H.out, hb1.trans (hb2.mono hb1.size)⟩
theorem four_at (x : Int) (n : Nat) (hx : x = n) (h : n < 4294967296) (w : World) :
    Calls Tryd.prog 20 #[.int .u32 x] w fun e w' => e = .returned (.string (str (Oc.big 4 n))) ∧ Below w.heap.size w w' := by
  subst hx
  have hs := big_size
  have H : Hid (str (Oc.big 2 (n / 65536)) ++ str (Oc.big 2 (n % 65536)) = str (Oc.big 4 n)) := by
    show _ = str (Oc.big (2 + 2) n)
    rw [str_append, Oc.big_add 2 2, ← Oc.big_mod 2 n]
  go_enter Tryd.func20, Tryd.ntmps20
  go_wp2_with (go_at_call 22; first
    | (refine (two_at _ (n / 65536) (by omega) (by omega) _).mono ?_; rintro e w1 ⟨rfl, hb1⟩)
    | (refine (two_at _ (n % 65536) (by rw [IntKind.wrap_u16]; omega) (by omega) _).mono ?_; rintro e w2 ⟨rfl, hb2⟩))
  go_ret
  exact ⟨ret_string H.out, hb1.trans (hb2.mono hb1.size)⟩
theorem eight_at (x : Int) (n : Nat) (hx : x = n) (h : n < 18446744073709551616) (w : World) :
    Calls Tryd.prog 18 #[.int .u64 x] w fun e w' => e = .returned (.string (str (Oc.big 8 n))) ∧ Below w.heap.size w w' := by
  subst hx
  have hs := big_size
  have H : Hid (str (Oc.big 4 (n / 4294967296)) ++ str (Oc.big 4 (n % 4294967296)) = str (Oc.big 8 n)) := by
    show _ = str (Oc.big (4 + 4) n)
    rw [str_append, Oc.big_add 4 4, ← Oc.big_mod 4 n]
  go_enter Tryd.func18, Tryd.ntmps18
  go_wp2_with (go_at_call 20; first
    | (refine (four_at _ (n / 4294967296) (by omega) (by omega) _).mono ?_; rintro e w1 ⟨rfl, hb1⟩)
    | (refine (four_at _ (n % 4294967296) (by omega) (by omega) _).mono ?_; rintro e w2 ⟨rfl, hb2⟩))
  go_ret
  exact ⟨ret_string H.out, hb1.trans (hb2.mono hb1.size)⟩
end Go.Proofs.YtfoijhofpjaldaaDoor
