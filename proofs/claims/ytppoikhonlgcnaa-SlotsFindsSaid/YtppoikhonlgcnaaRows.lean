/-
  No cell of these rows narrows 'for every input' (looked for: loops, veiled, ifaces, maps, wideKeys, modest, calm, conditions, laid).
  DERIVED. THE GIVEN ROWS OF THIS SEAT. 4 by the template 'for every input the law returns true; each argument reads behind the call as it read before'; 0 by the template 'total and deterministic' (their statements: YtppoikhonlgcnaaTotals.lean).
  GIVEN WITH THE SEED: the statements are not yours to turn. If you find one false, say at which input.
  Laid BY PROGRAM, IN A SANDBOX (cutbox-rows.mjs): the forced cells as the released guide's own fill.sh prints them over the translation 9ab6b87affa6c137… (all of the seat's roots in one cut). By AI agents, Wed Nov 11 2026. No macro, syntax, notation, axiom, sorry.
-/
import Derived.Test.YtppoikhonlgcnaaChecked
import GoSem.Claim
import GoSem.ClaimJoined
import GoSem.ClaimMapViews
import Derived.JoinedTies
import Derived.KernelRfl
namespace Go.Proofs.Ytppoikhonlgcnaa
/- THE CELL 'sum', in the pinned program and in every row, IS THE sha256 OF THE DUMP (.gsa) THAT YtppoikhonlgcnaaProg.lean LOADS. Nothing in Lean hashes anything: it is a label: what it is worth is what the hold of that sum in a sandbox is worth. -/
noncomputable def Try.pinned : Pinned := { name := "ytppoikhonlgcnaa", sum := "9ab6b87affa6c137eb0eb382ebeadc39411a1fe9d14859cb08e61760017f0554", checked := Try.checked }
namespace Rows
def none {H : Type} : Left H := { results := [], args := [] }

/-- 'taprootlaw06.SlotsLays': WHATEVER THE INPUT: true; the input reads as it did. -/
def slotsLaysSpec : ChangeSpec := { name := "slotsLays", fn := fun _ => fun
  | [d] => { results := [.lit (.bool true)], args := [d] }
  | _ => none }
def slotsLaysRow : OpenClaim := { program := "ytppoikhonlgcnaa", sum := "9ab6b87affa6c137eb0eb382ebeadc39411a1fe9d14859cb08e61760017f0554", func := "taproot/taprootlaw06.SlotsLays", spec := "slotsLays", inPlace := ["internal/abi.NoEscape"], unfollowed := true, recurses := true, apart := false }
def SlotsLaysSaid : Prop := slotsLaysRow.holds Try.pinned (OpenSpec.ofChange slotsLaysSpec)

/-- ITS FALSE NEIGHBOUR: 'it returns false'. Refute it at one input. -/
def slotsLaysWrong : ChangeSpec := { name := "slotsLays", fn := fun _ => fun
  | [d] => { results := [.lit (.bool false)], args := [d] }
  | _ => none }
def SlotsLaysWrongFalsely : Prop := slotsLaysRow.holds Try.pinned (OpenSpec.ofChange slotsLaysWrong)

/-- 'taprootlaw06.SlotsReads': WHATEVER THE INPUT: true; the input reads as it did. -/
def slotsReadsSpec : ChangeSpec := { name := "slotsReads", fn := fun _ => fun
  | [d1, d2, d3] => { results := [.lit (.bool true)], args := [d1, d2, d3] }
  | _ => none }
def slotsReadsRow : OpenClaim := { program := "ytppoikhonlgcnaa", sum := "9ab6b87affa6c137eb0eb382ebeadc39411a1fe9d14859cb08e61760017f0554", func := "taproot/taprootlaw06.SlotsReads", spec := "slotsReads", inPlace := ["internal/abi.NoEscape", "internal/bytealg.abigen_runtime_cmpstring"], unfollowed := true, recurses := true, apart := false }
def SlotsReadsSaid : Prop := slotsReadsRow.holds Try.pinned (OpenSpec.ofChange slotsReadsSpec)

/-- ITS FALSE NEIGHBOUR: 'it returns false'. Refute it at one input. -/
def slotsReadsWrong : ChangeSpec := { name := "slotsReads", fn := fun _ => fun
  | [d1, d2, d3] => { results := [.lit (.bool false)], args := [d1, d2, d3] }
  | _ => none }
def SlotsReadsWrongFalsely : Prop := slotsReadsRow.holds Try.pinned (OpenSpec.ofChange slotsReadsWrong)

/-- 'taprootlaw06.SlotsBack': WHATEVER THE INPUT: true; the input reads as it did. -/
def slotsBackSpec : ChangeSpec := { name := "slotsBack", fn := fun _ => fun
  | [d1, d2, d3] => { results := [.lit (.bool true)], args := [d1, d2, d3] }
  | _ => none }
def slotsBackRow : OpenClaim := { program := "ytppoikhonlgcnaa", sum := "9ab6b87affa6c137eb0eb382ebeadc39411a1fe9d14859cb08e61760017f0554", func := "taproot/taprootlaw06.SlotsBack", spec := "slotsBack", inPlace := ["internal/abi.NoEscape"], unfollowed := true, recurses := true, apart := false }
def SlotsBackSaid : Prop := slotsBackRow.holds Try.pinned (OpenSpec.ofChange slotsBackSpec)

/-- ITS FALSE NEIGHBOUR: 'it returns false'. Refute it at one input. -/
def slotsBackWrong : ChangeSpec := { name := "slotsBack", fn := fun _ => fun
  | [d1, d2, d3] => { results := [.lit (.bool false)], args := [d1, d2, d3] }
  | _ => none }
def SlotsBackWrongFalsely : Prop := slotsBackRow.holds Try.pinned (OpenSpec.ofChange slotsBackWrong)

/-- 'taprootlaw06.SlotsFinds': WHATEVER THE INPUT: true; the input reads as it did. -/
def slotsFindsSpec : ChangeSpec := { name := "slotsFinds", fn := fun _ => fun
  | [d1, d2] => { results := [.lit (.bool true)], args := [d1, d2] }
  | _ => none }
def slotsFindsRow : OpenClaim := { program := "ytppoikhonlgcnaa", sum := "9ab6b87affa6c137eb0eb382ebeadc39411a1fe9d14859cb08e61760017f0554", func := "taproot/taprootlaw06.SlotsFinds", spec := "slotsFinds", inPlace := ["internal/abi.NoEscape", "internal/bytealg.abigen_runtime_cmpstring"], unfollowed := true, recurses := true, apart := false }
def SlotsFindsSaid : Prop := slotsFindsRow.holds Try.pinned (OpenSpec.ofChange slotsFindsSpec)

/-- ITS FALSE NEIGHBOUR: 'it returns false'. Refute it at one input. -/
def slotsFindsWrong : ChangeSpec := { name := "slotsFinds", fn := fun _ => fun
  | [d1, d2] => { results := [.lit (.bool false)], args := [d1, d2] }
  | _ => none }
def SlotsFindsWrongFalsely : Prop := slotsFindsRow.holds Try.pinned (OpenSpec.ofChange slotsFindsWrong)

/- THE SECOND FORM. 'bulk': how many values and letters a reading holds, each counted each time it is reached (what is shared counts as often as it is met; a slice's spare places count too). A statement '..UptoSaid' is the law's where the arguments, and the package variables that the reading takes, are together of bulk at most 1048576: NARROWER than '..Said'. Prove '..Said' where nothing that the law and all that it calls make is longer than what came in: it says more and counts as full. Else prove '..UptoSaid'. A law counts once. -/
mutual
def uptoBulk {H : Type} : DataW H → Nat
  | .lit (.string bytes) => bytes.length + 1
  | .lit _ => 1
  | .nil => 1
  | .ptr d => uptoBulk d + 1
  | .slice elems spare => uptoBulkAll elems + uptoBulkAll spare + 1
  | .agg parts => uptoBulkAll parts + 1
  | .iface _ d => uptoBulk d + 1
  | .map entries => uptoBulkEntries entries + 1
  | .held _ => 1
def uptoBulkAll {H : Type} : List (DataW H) → Nat
  | [] => 0
  | d :: r => uptoBulk d + uptoBulkAll r
def uptoBulkEntries {H : Type} : List (Lit × DataW H) → Nat
  | [] => 0
  | x :: r => uptoBulkEntry x + uptoBulkEntries r
def uptoBulkEntry {H : Type} : Lit × DataW H → Nat
  | (.string bytes, d) => bytes.length + uptoBulk d + 1
  | (_, d) => uptoBulk d + 1
 end
def uptoSmall : (H : Type) → List (DataW H) → Bool := fun _ ds => decide (uptoBulkAll ds ≤ 1048576)
def OpenSpec.upto (s : _root_.Go.ChangeSpec) : _root_.Go.OpenSpec := { _root_.Go.OpenSpec.ofChange s with cond := some uptoSmall }

/-- 'taprootlaw06.SlotsLays', WHERE WHAT IT READS IS OF BULK AT MOST 1048576: true; the input reads as it did. -/
def slotsLaysUptoRow : OpenClaim := { program := "ytppoikhonlgcnaa", sum := "9ab6b87affa6c137eb0eb382ebeadc39411a1fe9d14859cb08e61760017f0554", func := "taproot/taprootlaw06.SlotsLays", spec := "slotsLays", inPlace := ["internal/abi.NoEscape"], unfollowed := true, recurses := true, apart := false, narrowed := true }
def SlotsLaysUptoSaid : Prop := slotsLaysUptoRow.holds Try.pinned (OpenSpec.upto slotsLaysSpec)

/-- 'taprootlaw06.SlotsReads', WHERE WHAT IT READS IS OF BULK AT MOST 1048576: true; the input reads as it did. -/
def slotsReadsUptoRow : OpenClaim := { program := "ytppoikhonlgcnaa", sum := "9ab6b87affa6c137eb0eb382ebeadc39411a1fe9d14859cb08e61760017f0554", func := "taproot/taprootlaw06.SlotsReads", spec := "slotsReads", inPlace := ["internal/abi.NoEscape", "internal/bytealg.abigen_runtime_cmpstring"], unfollowed := true, recurses := true, apart := false, narrowed := true }
def SlotsReadsUptoSaid : Prop := slotsReadsUptoRow.holds Try.pinned (OpenSpec.upto slotsReadsSpec)

/-- 'taprootlaw06.SlotsBack', WHERE WHAT IT READS IS OF BULK AT MOST 1048576: true; the input reads as it did. -/
def slotsBackUptoRow : OpenClaim := { program := "ytppoikhonlgcnaa", sum := "9ab6b87affa6c137eb0eb382ebeadc39411a1fe9d14859cb08e61760017f0554", func := "taproot/taprootlaw06.SlotsBack", spec := "slotsBack", inPlace := ["internal/abi.NoEscape"], unfollowed := true, recurses := true, apart := false, narrowed := true }
def SlotsBackUptoSaid : Prop := slotsBackUptoRow.holds Try.pinned (OpenSpec.upto slotsBackSpec)

/-- 'taprootlaw06.SlotsFinds', WHERE WHAT IT READS IS OF BULK AT MOST 1048576: true; the input reads as it did. -/
def slotsFindsUptoRow : OpenClaim := { program := "ytppoikhonlgcnaa", sum := "9ab6b87affa6c137eb0eb382ebeadc39411a1fe9d14859cb08e61760017f0554", func := "taproot/taprootlaw06.SlotsFinds", spec := "slotsFinds", inPlace := ["internal/abi.NoEscape", "internal/bytealg.abigen_runtime_cmpstring"], unfollowed := true, recurses := true, apart := false, narrowed := true }
def SlotsFindsUptoSaid : Prop := slotsFindsUptoRow.holds Try.pinned (OpenSpec.upto slotsFindsSpec)

end Rows
end Go.Proofs.Ytppoikhonlgcnaa
