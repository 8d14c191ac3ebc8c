/-
  NARROWER THAN 'FOR EVERY INPUT', by the rows' own cells (each row's printed sentence says how): CommandBytes: laid · CommandParses: laid · CommandBack: laid.
  DERIVED. THE GIVEN ROWS OF THIS SEAT. 3 by the template 'for every input the law returns true; each argument reads behind the call as it read before'; 0 by the template 'total and deterministic' (their statements: YtoekggbbkcmknaaGreatDoorTotals.lean).
  GIVEN WITH THE SEED: the statements are not yours to turn. If you find one false, say at which input.
  Laid BY PROGRAM, IN A SANDBOX (cutbox-rows.mjs): the forced cells as the released guide's own fill.sh prints them over the translation 76adef1f65f85b1c… (all of the seat's roots in one cut). By AI agents, Wed Nov 11 2026. No macro, syntax, notation, axiom, sorry.
-/
import Derived.Test.YtoekggbbkcmknaaGreatDoorChecked
import GoSem.PinnedTables
import GoSem.Claim
import GoSem.ClaimJoined
import GoSem.ClaimMapViews
import Derived.JoinedTies
import Derived.KernelRfl
namespace Go.Proofs.YtoekggbbkcmknaaGreatDoor
/- THE CELL 'sum', in the pinned program and in every row, IS THE sha256 OF THE DUMP (.gsa) THAT YtoekggbbkcmknaaGreatDoorProg.lean LOADS. Nothing in Lean hashes anything: it is a label: what it is worth is what the hold of that sum in a sandbox is worth. -/
noncomputable def Tryz.pinned : Pinned := { name := "ytoekggbbkcmknaagreatdoor", sum := "76adef1f65f85b1c4f3506f055e0aa7928547892cff6a591c6113616f91e4dc5", checked := Tryz.checked }
namespace Rows
def none {H : Type} : Left H := { results := [], args := [] }

/- WHAT THE LISTED PACKAGE-LEVEL VARIABLES READ AS WHEN THE CALL BEGINS. Each datum BY PROGRAM (the guide's laid-datum.mjs) off the statement by which the dump's own 'gosem.cut.vars' lays the variable. In a bare row this is a premise. The card (YtoekggbbkcmknaaGreatDoorCards.lean) ties it to the program's text. -/
def laid_taproot_command_forms {H : Type} : DataW H := .agg [.lit (.string []), .lit (.string [113, 109, 108, 114, 100]), .lit (.string [113]), .lit (.string [69, 75, 80, 81]), .lit (.string [69, 75, 80, 81]), .lit (.string [101, 107, 98, 116]), .lit (.string [113, 110, 116]), .lit (.string [113, 105, 111]), .lit (.string [113, 105, 111, 120]), .lit (.string [113, 105, 111, 116]), .lit (.string [113]), .lit (.string [116]), .lit (.string [113]), .lit (.string [113, 105, 110])]
def laid_unicode_utf8_acceptRanges {H : Type} : DataW H := .agg [.agg [.lit (.int .u8 128), .lit (.int .u8 191)], .agg [.lit (.int .u8 160), .lit (.int .u8 191)], .agg [.lit (.int .u8 128), .lit (.int .u8 159)], .agg [.lit (.int .u8 144), .lit (.int .u8 191)], .agg [.lit (.int .u8 128), .lit (.int .u8 143)], .agg [.lit (.int .u8 0), .lit (.int .u8 0)], .agg [.lit (.int .u8 0), .lit (.int .u8 0)], .agg [.lit (.int .u8 0), .lit (.int .u8 0)], .agg [.lit (.int .u8 0), .lit (.int .u8 0)], .agg [.lit (.int .u8 0), .lit (.int .u8 0)], .agg [.lit (.int .u8 0), .lit (.int .u8 0)], .agg [.lit (.int .u8 0), .lit (.int .u8 0)], .agg [.lit (.int .u8 0), .lit (.int .u8 0)], .agg [.lit (.int .u8 0), .lit (.int .u8 0)], .agg [.lit (.int .u8 0), .lit (.int .u8 0)], .agg [.lit (.int .u8 0), .lit (.int .u8 0)]]
def laid_taproot_command_names {H : Type} : DataW H := .agg [.lit (.string []), .lit (.string [100, 101, 99, 108, 97, 114, 101]), .lit (.string [100, 114, 111, 112]), .lit (.string [98, 105, 110, 100]), .lit (.string [117, 110, 98, 105, 110, 100]), .lit (.string [112, 117, 98, 108, 105, 115, 104]), .lit (.string [100, 101, 108, 105, 118, 101, 114]), .lit (.string [97, 99, 107]), .lit (.string [110, 97, 99, 107]), .lit (.string [101, 120, 116, 101, 110, 100]), .lit (.string [112, 117, 114, 103, 101]), .lit (.string [116, 105, 99, 107]), .lit (.string [115, 116, 97, 116]), .lit (.string [98, 114, 111, 119, 115, 101])]
/-- One of Go's own tables, pinned by name: the form's constant. -/
def laid_unicode_CaseRanges : DataW Unit := Go.Pinned.caseRanges
/-- One of Go's own tables, pinned by name: the form's constant. -/
def laid_unicode_utf8_first : DataW Unit := Go.Pinned.utf8First

/-- 'taprootlaw24.CommandBytes': WHATEVER THE INPUT: true; the input reads as it did. -/
def commandBytesSpec : ChangeSpec := { name := "commandBytes", fn := fun _ => fun
  | [d1, d2] => { results := [.lit (.bool true)], args := [d1, d2] }
  | _ => none }
def commandBytesRow : OpenClaim := { program := "ytoekggbbkcmknaagreatdoor", sum := "76adef1f65f85b1c4f3506f055e0aa7928547892cff6a591c6113616f91e4dc5", func := "taproot/taprootlaw24.CommandBytes", spec := "commandBytes", inPlace := ["internal/abi.NoEscape", "internal/bytealg.MakeNoZero"], unfollowed := true, recurses := true, named := ["taproot/command.forms"], apart := false, laid := [("taproot/command.forms", laid_taproot_command_forms)] }
def CommandBytesSaid : Prop := commandBytesRow.holds Tryz.pinned (OpenSpec.ofChange commandBytesSpec)

/-- ITS FALSE NEIGHBOUR: 'it returns false'. Refute it at one input. -/
def commandBytesWrong : ChangeSpec := { name := "commandBytes", fn := fun _ => fun
  | [d1, d2] => { results := [.lit (.bool false)], args := [d1, d2] }
  | _ => none }
def CommandBytesWrongFalsely : Prop := commandBytesRow.holds Tryz.pinned (OpenSpec.ofChange commandBytesWrong)

/-- 'taprootlaw24.CommandParses': WHATEVER THE INPUT: true; the input reads as it did. -/
def commandParsesSpec : ChangeSpec := { name := "commandParses", fn := fun _ => fun
  | [d] => { results := [.lit (.bool true)], args := [d] }
  | _ => none }
def commandParsesRow : OpenClaim := { program := "ytoekggbbkcmknaagreatdoor", sum := "76adef1f65f85b1c4f3506f055e0aa7928547892cff6a591c6113616f91e4dc5", func := "taproot/taprootlaw24.CommandParses", spec := "commandParses", inPlace := ["internal/abi.NoEscape"], unfollowed := true, recurses := true, named := ["taproot/command.forms"], apart := false, laid := [("taproot/command.forms", laid_taproot_command_forms)] }
def CommandParsesSaid : Prop := commandParsesRow.holds Tryz.pinned (OpenSpec.ofChange commandParsesSpec)

/-- ITS FALSE NEIGHBOUR: 'it returns false'. Refute it at one input. -/
def commandParsesWrong : ChangeSpec := { name := "commandParses", fn := fun _ => fun
  | [d] => { results := [.lit (.bool false)], args := [d] }
  | _ => none }
def CommandParsesWrongFalsely : Prop := commandParsesRow.holds Tryz.pinned (OpenSpec.ofChange commandParsesWrong)

/-- 'taprootlaw24.CommandBack': WHATEVER THE INPUT: true; the input reads as it did. -/
def commandBackSpec : ChangeSpec := { name := "commandBack", fn := fun _ => fun
  | [d1, d2] => { results := [.lit (.bool true)], args := [d1, d2] }
  | _ => none }
def commandBackRow : OpenClaim := { program := "ytoekggbbkcmknaagreatdoor", sum := "76adef1f65f85b1c4f3506f055e0aa7928547892cff6a591c6113616f91e4dc5", func := "taproot/taprootlaw24.CommandBack", spec := "commandBack", inPlace := ["internal/abi.NoEscape", "internal/bytealg.MakeNoZero"], unfollowed := true, recurses := true, named := ["taproot/command.forms", "taproot/command.names", "unicode/utf8.first", "unicode/utf8.acceptRanges", "unicode.CaseRanges"], apart := false, laid := [("unicode/utf8.acceptRanges", laid_unicode_utf8_acceptRanges), ("taproot/command.names", laid_taproot_command_names), ("taproot/command.forms", laid_taproot_command_forms), ("unicode.CaseRanges", laid_unicode_CaseRanges), ("unicode/utf8.first", laid_unicode_utf8_first)] }
def CommandBackSaid : Prop := commandBackRow.holds Tryz.pinned (OpenSpec.ofChange commandBackSpec)

/-- ITS FALSE NEIGHBOUR: 'it returns false'. Refute it at one input. -/
def commandBackWrong : ChangeSpec := { name := "commandBack", fn := fun _ => fun
  | [d1, d2] => { results := [.lit (.bool false)], args := [d1, d2] }
  | _ => none }
def CommandBackWrongFalsely : Prop := commandBackRow.holds Tryz.pinned (OpenSpec.ofChange commandBackWrong)

/- THE SECOND FORM. 'bulk': how many values and letters a reading holds, each counted each time it is reached (what is shared counts as often as it is met; a slice's spare places count too). A statement '..UptoSaid' is the law's where the arguments, and the package variables that the reading takes, are together of bulk at most 1048576: NARROWER than '..Said'. Prove '..Said' where nothing that the law and all that it calls make is longer than what came in: it says more and counts as full. Else prove '..UptoSaid'. A law counts once. -/
mutual
def uptoBulk {H : Type} : DataW H → Nat
  | .lit (.string bytes) => bytes.length + 1
  | .lit _ => 1
  | .nil => 1
  | .ptr d => uptoBulk d + 1
  | .slice elems spare => uptoBulkAll elems + uptoBulkAll spare + 1
  | .agg parts => uptoBulkAll parts + 1
  | .iface _ d => uptoBulk d + 1
  | .map entries => uptoBulkEntries entries + 1
  | .held _ => 1
def uptoBulkAll {H : Type} : List (DataW H) → Nat
  | [] => 0
  | d :: r => uptoBulk d + uptoBulkAll r
def uptoBulkEntries {H : Type} : List (Lit × DataW H) → Nat
  | [] => 0
  | x :: r => uptoBulkEntry x + uptoBulkEntries r
def uptoBulkEntry {H : Type} : Lit × DataW H → Nat
  | (.string bytes, d) => bytes.length + uptoBulk d + 1
  | (_, d) => uptoBulk d + 1
 end
def uptoSmall : (H : Type) → List (DataW H) → Bool := fun _ ds => decide (uptoBulkAll ds ≤ 1048576)
def OpenSpec.upto (s : _root_.Go.ChangeSpec) : _root_.Go.OpenSpec := { _root_.Go.OpenSpec.ofChange s with cond := some uptoSmall }

/-- 'taprootlaw24.CommandBytes', WHERE WHAT IT READS IS OF BULK AT MOST 1048576: true; the input reads as it did. -/
def commandBytesUptoRow : OpenClaim := { program := "ytoekggbbkcmknaagreatdoor", sum := "76adef1f65f85b1c4f3506f055e0aa7928547892cff6a591c6113616f91e4dc5", func := "taproot/taprootlaw24.CommandBytes", spec := "commandBytes", inPlace := ["internal/abi.NoEscape", "internal/bytealg.MakeNoZero"], unfollowed := true, recurses := true, named := ["taproot/command.forms"], apart := false, laid := [("taproot/command.forms", laid_taproot_command_forms)], narrowed := true }
def CommandBytesUptoSaid : Prop := commandBytesUptoRow.holds Tryz.pinned (OpenSpec.upto commandBytesSpec)

/-- 'taprootlaw24.CommandParses', WHERE WHAT IT READS IS OF BULK AT MOST 1048576: true; the input reads as it did. -/
def commandParsesUptoRow : OpenClaim := { program := "ytoekggbbkcmknaagreatdoor", sum := "76adef1f65f85b1c4f3506f055e0aa7928547892cff6a591c6113616f91e4dc5", func := "taproot/taprootlaw24.CommandParses", spec := "commandParses", inPlace := ["internal/abi.NoEscape"], unfollowed := true, recurses := true, named := ["taproot/command.forms"], apart := false, laid := [("taproot/command.forms", laid_taproot_command_forms)], narrowed := true }
def CommandParsesUptoSaid : Prop := commandParsesUptoRow.holds Tryz.pinned (OpenSpec.upto commandParsesSpec)

/-- 'taprootlaw24.CommandBack', WHERE WHAT IT READS IS OF BULK AT MOST 1048576: true; the input reads as it did. -/
def commandBackUptoRow : OpenClaim := { program := "ytoekggbbkcmknaagreatdoor", sum := "76adef1f65f85b1c4f3506f055e0aa7928547892cff6a591c6113616f91e4dc5", func := "taproot/taprootlaw24.CommandBack", spec := "commandBack", inPlace := ["internal/abi.NoEscape", "internal/bytealg.MakeNoZero"], unfollowed := true, recurses := true, named := ["taproot/command.forms", "taproot/command.names", "unicode/utf8.first", "unicode/utf8.acceptRanges", "unicode.CaseRanges"], apart := false, laid := [("unicode/utf8.acceptRanges", laid_unicode_utf8_acceptRanges), ("taproot/command.names", laid_taproot_command_names), ("taproot/command.forms", laid_taproot_command_forms), ("unicode.CaseRanges", laid_unicode_CaseRanges), ("unicode/utf8.first", laid_unicode_utf8_first)], narrowed := true }
def CommandBackUptoSaid : Prop := commandBackUptoRow.holds Tryz.pinned (OpenSpec.upto commandBackSpec)

end Rows
end Go.Proofs.YtoekggbbkcmknaaGreatDoor
