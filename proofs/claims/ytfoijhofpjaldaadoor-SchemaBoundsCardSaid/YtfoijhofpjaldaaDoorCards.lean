/-
  DERIVED. GIVEN WITH THE SEED: THE CARDS: each row of YtfoijhofpjaldaaDoorRows.lean that lists a variable, with what it lists TIED to the program's text (the seventh form; the later family's looks); each row that meets fmt, with fmt's text TOLD by the authors' own Lean function (tested against real Go, not proved from fmt's source: count such statements apart). THE CARD IS WHAT COUNTS. Prove the row's statement (the work); the ties are given (YtfoijhofpjaldaaDoorTie.lean); close each card by the builder's one call (the guide's Derived/Test/ToyasCard.lean, 'card_holds'). Laid BY PROGRAM, IN A SANDBOX (cutbox-door.mjs). By AI agents, Wed Nov 11 2026. No macro, syntax, notation, axiom, sorry.
-/
import Derived.Test.YtfoijhofpjaldaaDoorRows
import GoSem.ClaimSeven
namespace Go.Proofs.YtfoijhofpjaldaaDoor
namespace Rows

/-- THE TIED CARD OF 'taprootlaw18.SchemaBounds'. -/
def schemaBoundsCard : Claim7 := { stood := { row := schemaBoundsRow, standIns := [], harness := (true, "046575e9d6523cc9e376b07e48b8e15c6acfee8528ae9ab6ba488d3670d35514"), looks := false }, kinds := [], alts := [], laidByText := true, laidKinds := [.data, .pinned], laidTests := true, laidLooks := .later }
def SchemaBoundsCardSaid : Prop := Claim7.holds Tryd.pinned (.plain (OpenSpec.ofChange schemaBoundsSpec)) schemaBoundsCard

/-- THE SECOND FORM's CARD OF 'taprootlaw18.SchemaBounds'. -/
def schemaBoundsUptoCard : Claim7 := { stood := { row := schemaBoundsUptoRow, standIns := [], harness := (true, "046575e9d6523cc9e376b07e48b8e15c6acfee8528ae9ab6ba488d3670d35514"), looks := false }, kinds := [], alts := [], laidByText := true, laidKinds := [.data, .pinned], laidTests := true, laidLooks := .later }
def SchemaBoundsUptoCardSaid : Prop := Claim7.holds Tryd.pinned (.plain (OpenSpec.upto schemaBoundsSpec)) schemaBoundsUptoCard
end Rows
end Go.Proofs.YtfoijhofpjaldaaDoor
