/- What a reader takes of bytes laid one behind the other. -/
import Derived.Test.YtfoijhofpjaldaaRefs
set_option maxRecDepth 100000
set_option maxHeartbeats 4000000
set_option linter.unusedVariables false
namespace Go.Proofs.Ytfoijhofpjaldaa
open Go.RowKit
theorem str_extract (l m : List UInt8) : (str (l ++ m)).extract 0 l.length = str l := by
  apply ByteArray.ext
  simp [str]
theorem str_extract' (l m : List UInt8) : (str (l ++ m)).extract l.length (str (l ++ m)).size = str m := by
  rw [str_size, List.length_append]
  apply ByteArray.ext
  simp [str]
theorem tk_str (l m : List UInt8) (k : Nat) (h : l.length = k) : tk (str (l ++ m)) 0 k = (str l, str m, 0) := by
  subst h
  rw [tk_ok _ _ (by rw [str_size, List.length_append]; omega), str_extract, str_extract']
theorem txt_str (l m : List UInt8) (most : Nat) (h : l.length < 4294967296) (hm : l.length ≤ most) : txt (str (Oc.big 4 l.length ++ (l ++ m))) 0 most = (str l, str m, 0) := by
  rw [txt_eq]
  have h4 : tk (str (Oc.big 4 l.length ++ (l ++ m))) 0 4 = (str (Oc.big 4 l.length), str (l ++ m), 0) := tk_str _ _ 4 (Oc.big_length _ _)
  rw [h4, str_data, Oc.val_big 4 _ h, if_neg (by rw [if_pos (by omega)]; omega)]
  exact tk_str l m l.length rfl
end Go.Proofs.Ytfoijhofpjaldaa
