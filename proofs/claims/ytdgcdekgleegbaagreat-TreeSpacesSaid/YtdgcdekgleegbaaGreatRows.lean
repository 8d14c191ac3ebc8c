/-
  No cell of these rows narrows 'for every input' (looked for: loops, veiled, ifaces, maps, wideKeys, modest, calm, conditions, laid).
  DERIVED. THE GIVEN ROWS OF THIS SEAT. 5 by the template 'for every input the law returns true; each argument reads behind the call as it read before'; 0 by the template 'total and deterministic' (their statements: YtdgcdekgleegbaaGreatTotals.lean).
  GIVEN WITH THE SEED: the statements are not yours to turn. If you find one false, say at which input.
  Laid BY PROGRAM, IN A SANDBOX (cutbox-rows.mjs): the forced cells as the released guide's own fill.sh prints them over the translation 3639b85bfbecbae7… (all of the seat's roots in one cut). By AI agents, Wed Nov 11 2026. No macro, syntax, notation, axiom, sorry.
-/
import Derived.Test.YtdgcdekgleegbaaGreatChecked
import GoSem.Claim
import GoSem.ClaimJoined
import GoSem.ClaimMapViews
import Derived.JoinedTies
import Derived.KernelRfl
namespace Go.Proofs.YtdgcdekgleegbaaGreat
/- THE CELL 'sum', in the pinned program and in every row, IS THE sha256 OF THE DUMP (.gsa) THAT YtdgcdekgleegbaaGreatProg.lean LOADS. Nothing in Lean hashes anything: it is a label: what it is worth is what the hold of that sum in a sandbox is worth. -/
noncomputable def Tryz.pinned : Pinned := { name := "ytdgcdekgleegbaagreat", sum := "3639b85bfbecbae7718e788fc168e956d93af3e2008475a530e198094e10e59c", checked := Tryz.checked }
namespace Rows
def none {H : Type} : Left H := { results := [], args := [] }

/-- 'taprootlaw12.TreePlays': WHATEVER THE INPUT: true; the input reads as it did. -/
def treePlaysSpec : ChangeSpec := { name := "treePlays", fn := fun _ => fun
  | [d] => { results := [.lit (.bool true)], args := [d] }
  | _ => none }
def treePlaysRow : OpenClaim := { program := "ytdgcdekgleegbaagreat", sum := "3639b85bfbecbae7718e788fc168e956d93af3e2008475a530e198094e10e59c", func := "taproot/taprootlaw12.TreePlays", spec := "treePlays", inPlace := ["internal/abi.NoEscape", "internal/bytealg.abigen_runtime_cmpstring", "slices.overlaps[taproot/api.Cell]", "slices.overlaps[taproot/slots.Kid]"], unfollowed := true, recurses := true, apart := false }
def TreePlaysSaid : Prop := treePlaysRow.holds Tryz.pinned (OpenSpec.ofChange treePlaysSpec)

/-- ITS FALSE NEIGHBOUR: 'it returns false'. Refute it at one input. -/
def treePlaysWrong : ChangeSpec := { name := "treePlays", fn := fun _ => fun
  | [d] => { results := [.lit (.bool false)], args := [d] }
  | _ => none }
def TreePlaysWrongFalsely : Prop := treePlaysRow.holds Tryz.pinned (OpenSpec.ofChange treePlaysWrong)

/-- 'taprootlaw12.TreeMany': WHATEVER THE INPUT: true; the input reads as it did. -/
def treeManySpec : ChangeSpec := { name := "treeMany", fn := fun _ => fun
  | [d1, d2, d3, d4] => { results := [.lit (.bool true)], args := [d1, d2, d3, d4] }
  | _ => none }
def treeManyRow : OpenClaim := { program := "ytdgcdekgleegbaagreat", sum := "3639b85bfbecbae7718e788fc168e956d93af3e2008475a530e198094e10e59c", func := "taproot/taprootlaw12.TreeMany", spec := "treeMany", inPlace := ["internal/abi.NoEscape", "internal/bytealg.abigen_runtime_cmpstring", "slices.overlaps[taproot/api.Cell]", "slices.overlaps[taproot/slots.Kid]"], unfollowed := true, recurses := true, apart := false }
def TreeManySaid : Prop := treeManyRow.holds Tryz.pinned (OpenSpec.ofChange treeManySpec)

/-- ITS FALSE NEIGHBOUR: 'it returns false'. Refute it at one input. -/
def treeManyWrong : ChangeSpec := { name := "treeMany", fn := fun _ => fun
  | [d1, d2, d3, d4] => { results := [.lit (.bool false)], args := [d1, d2, d3, d4] }
  | _ => none }
def TreeManyWrongFalsely : Prop := treeManyRow.holds Tryz.pinned (OpenSpec.ofChange treeManyWrong)

/-- 'taprootlaw12.TreeSpaces': WHATEVER THE INPUT: true; the input reads as it did. -/
def treeSpacesSpec : ChangeSpec := { name := "treeSpaces", fn := fun _ => fun
  | [d1, d2, d3] => { results := [.lit (.bool true)], args := [d1, d2, d3] }
  | _ => none }
def treeSpacesRow : OpenClaim := { program := "ytdgcdekgleegbaagreat", sum := "3639b85bfbecbae7718e788fc168e956d93af3e2008475a530e198094e10e59c", func := "taproot/taprootlaw12.TreeSpaces", spec := "treeSpaces", inPlace := ["internal/abi.NoEscape", "internal/bytealg.abigen_runtime_cmpstring", "slices.overlaps[taproot/api.Cell]", "slices.overlaps[taproot/slots.Kid]"], unfollowed := true, recurses := true, apart := false }
def TreeSpacesSaid : Prop := treeSpacesRow.holds Tryz.pinned (OpenSpec.ofChange treeSpacesSpec)

/-- ITS FALSE NEIGHBOUR: 'it returns false'. Refute it at one input. -/
def treeSpacesWrong : ChangeSpec := { name := "treeSpaces", fn := fun _ => fun
  | [d1, d2, d3] => { results := [.lit (.bool false)], args := [d1, d2, d3] }
  | _ => none }
def TreeSpacesWrongFalsely : Prop := treeSpacesRow.holds Tryz.pinned (OpenSpec.ofChange treeSpacesWrong)

/-- 'taprootlaw13.CursorRows': WHATEVER THE INPUT: true; the input reads as it did. -/
def cursorRowsSpec : ChangeSpec := { name := "cursorRows", fn := fun _ => fun
  | [d1, d2, d3, d4] => { results := [.lit (.bool true)], args := [d1, d2, d3, d4] }
  | _ => none }
def cursorRowsRow : OpenClaim := { program := "ytdgcdekgleegbaagreat", sum := "3639b85bfbecbae7718e788fc168e956d93af3e2008475a530e198094e10e59c", func := "taproot/taprootlaw13.CursorRows", spec := "cursorRows", inPlace := ["internal/abi.NoEscape", "internal/bytealg.abigen_runtime_cmpstring", "slices.overlaps[taproot/api.Cell]", "slices.overlaps[taproot/slots.Kid]"], unfollowed := true, recurses := true, apart := false }
def CursorRowsSaid : Prop := cursorRowsRow.holds Tryz.pinned (OpenSpec.ofChange cursorRowsSpec)

/-- ITS FALSE NEIGHBOUR: 'it returns false'. Refute it at one input. -/
def cursorRowsWrong : ChangeSpec := { name := "cursorRows", fn := fun _ => fun
  | [d1, d2, d3, d4] => { results := [.lit (.bool false)], args := [d1, d2, d3, d4] }
  | _ => none }
def CursorRowsWrongFalsely : Prop := cursorRowsRow.holds Tryz.pinned (OpenSpec.ofChange cursorRowsWrong)

/-- 'taprootlaw13.CursorTouch': WHATEVER THE INPUT: true; the input reads as it did. -/
def cursorTouchSpec : ChangeSpec := { name := "cursorTouch", fn := fun _ => fun
  | [d1, d2, d3, d4] => { results := [.lit (.bool true)], args := [d1, d2, d3, d4] }
  | _ => none }
def cursorTouchRow : OpenClaim := { program := "ytdgcdekgleegbaagreat", sum := "3639b85bfbecbae7718e788fc168e956d93af3e2008475a530e198094e10e59c", func := "taproot/taprootlaw13.CursorTouch", spec := "cursorTouch", inPlace := ["internal/abi.NoEscape", "internal/bytealg.abigen_runtime_cmpstring", "slices.overlaps[taproot/api.Cell]", "slices.overlaps[taproot/slots.Kid]"], unfollowed := true, recurses := true, apart := false }
def CursorTouchSaid : Prop := cursorTouchRow.holds Tryz.pinned (OpenSpec.ofChange cursorTouchSpec)

/-- ITS FALSE NEIGHBOUR: 'it returns false'. Refute it at one input. -/
def cursorTouchWrong : ChangeSpec := { name := "cursorTouch", fn := fun _ => fun
  | [d1, d2, d3, d4] => { results := [.lit (.bool false)], args := [d1, d2, d3, d4] }
  | _ => none }
def CursorTouchWrongFalsely : Prop := cursorTouchRow.holds Tryz.pinned (OpenSpec.ofChange cursorTouchWrong)

/- THE SECOND FORM. 'bulk': how many values and letters a reading holds, each counted each time it is reached (what is shared counts as often as it is met; a slice's spare places count too). A statement '..UptoSaid' is the law's where the arguments, and the package variables that the reading takes, are together of bulk at most 1048576: NARROWER than '..Said'. Prove '..Said' where nothing that the law and all that it calls make is longer than what came in: it says more and counts as full. Else prove '..UptoSaid'. A law counts once. -/
mutual
def uptoBulk {H : Type} : DataW H → Nat
  | .lit (.string bytes) => bytes.length + 1
  | .lit _ => 1
  | .nil => 1
  | .ptr d => uptoBulk d + 1
  | .slice elems spare => uptoBulkAll elems + uptoBulkAll spare + 1
  | .agg parts => uptoBulkAll parts + 1
  | .iface _ d => uptoBulk d + 1
  | .map entries => uptoBulkEntries entries + 1
  | .held _ => 1
def uptoBulkAll {H : Type} : List (DataW H) → Nat
  | [] => 0
  | d :: r => uptoBulk d + uptoBulkAll r
def uptoBulkEntries {H : Type} : List (Lit × DataW H) → Nat
  | [] => 0
  | x :: r => uptoBulkEntry x + uptoBulkEntries r
def uptoBulkEntry {H : Type} : Lit × DataW H → Nat
  | (.string bytes, d) => bytes.length + uptoBulk d + 1
  | (_, d) => uptoBulk d + 1
 end
def uptoSmall : (H : Type) → List (DataW H) → Bool := fun _ ds => decide (uptoBulkAll ds ≤ 1048576)
def OpenSpec.upto (s : _root_.Go.ChangeSpec) : _root_.Go.OpenSpec := { _root_.Go.OpenSpec.ofChange s with cond := some uptoSmall }

/-- 'taprootlaw12.TreePlays', WHERE WHAT IT READS IS OF BULK AT MOST 1048576: true; the input reads as it did. -/
def treePlaysUptoRow : OpenClaim := { program := "ytdgcdekgleegbaagreat", sum := "3639b85bfbecbae7718e788fc168e956d93af3e2008475a530e198094e10e59c", func := "taproot/taprootlaw12.TreePlays", spec := "treePlays", inPlace := ["internal/abi.NoEscape", "internal/bytealg.abigen_runtime_cmpstring", "slices.overlaps[taproot/api.Cell]", "slices.overlaps[taproot/slots.Kid]"], unfollowed := true, recurses := true, apart := false, narrowed := true }
def TreePlaysUptoSaid : Prop := treePlaysUptoRow.holds Tryz.pinned (OpenSpec.upto treePlaysSpec)

/-- 'taprootlaw12.TreeMany', WHERE WHAT IT READS IS OF BULK AT MOST 1048576: true; the input reads as it did. -/
def treeManyUptoRow : OpenClaim := { program := "ytdgcdekgleegbaagreat", sum := "3639b85bfbecbae7718e788fc168e956d93af3e2008475a530e198094e10e59c", func := "taproot/taprootlaw12.TreeMany", spec := "treeMany", inPlace := ["internal/abi.NoEscape", "internal/bytealg.abigen_runtime_cmpstring", "slices.overlaps[taproot/api.Cell]", "slices.overlaps[taproot/slots.Kid]"], unfollowed := true, recurses := true, apart := false, narrowed := true }
def TreeManyUptoSaid : Prop := treeManyUptoRow.holds Tryz.pinned (OpenSpec.upto treeManySpec)

/-- 'taprootlaw12.TreeSpaces', WHERE WHAT IT READS IS OF BULK AT MOST 1048576: true; the input reads as it did. -/
def treeSpacesUptoRow : OpenClaim := { program := "ytdgcdekgleegbaagreat", sum := "3639b85bfbecbae7718e788fc168e956d93af3e2008475a530e198094e10e59c", func := "taproot/taprootlaw12.TreeSpaces", spec := "treeSpaces", inPlace := ["internal/abi.NoEscape", "internal/bytealg.abigen_runtime_cmpstring", "slices.overlaps[taproot/api.Cell]", "slices.overlaps[taproot/slots.Kid]"], unfollowed := true, recurses := true, apart := false, narrowed := true }
def TreeSpacesUptoSaid : Prop := treeSpacesUptoRow.holds Tryz.pinned (OpenSpec.upto treeSpacesSpec)

/-- 'taprootlaw13.CursorRows', WHERE WHAT IT READS IS OF BULK AT MOST 1048576: true; the input reads as it did. -/
def cursorRowsUptoRow : OpenClaim := { program := "ytdgcdekgleegbaagreat", sum := "3639b85bfbecbae7718e788fc168e956d93af3e2008475a530e198094e10e59c", func := "taproot/taprootlaw13.CursorRows", spec := "cursorRows", inPlace := ["internal/abi.NoEscape", "internal/bytealg.abigen_runtime_cmpstring", "slices.overlaps[taproot/api.Cell]", "slices.overlaps[taproot/slots.Kid]"], unfollowed := true, recurses := true, apart := false, narrowed := true }
def CursorRowsUptoSaid : Prop := cursorRowsUptoRow.holds Tryz.pinned (OpenSpec.upto cursorRowsSpec)

/-- 'taprootlaw13.CursorTouch', WHERE WHAT IT READS IS OF BULK AT MOST 1048576: true; the input reads as it did. -/
def cursorTouchUptoRow : OpenClaim := { program := "ytdgcdekgleegbaagreat", sum := "3639b85bfbecbae7718e788fc168e956d93af3e2008475a530e198094e10e59c", func := "taproot/taprootlaw13.CursorTouch", spec := "cursorTouch", inPlace := ["internal/abi.NoEscape", "internal/bytealg.abigen_runtime_cmpstring", "slices.overlaps[taproot/api.Cell]", "slices.overlaps[taproot/slots.Kid]"], unfollowed := true, recurses := true, apart := false, narrowed := true }
def CursorTouchUptoSaid : Prop := cursorTouchUptoRow.holds Tryz.pinned (OpenSpec.upto cursorTouchSpec)

end Rows
end Go.Proofs.YtdgcdekgleegbaaGreat
