/-
  DERIVED. GIVEN WITH THE SEED: THE CARDS: each row of YtdghhffknfkcaaaGreatDoorRows.lean that lists a variable, with what it lists TIED to the program's text (the seventh form; the later family's looks); each row that meets fmt, with fmt's text TOLD by the authors' own Lean function (tested against real Go, not proved from fmt's source: count such statements apart). THE CARD IS WHAT COUNTS. Prove the row's statement (the work); the ties are given (YtdghhffknfkcaaaGreatDoorTie.lean); close each card by the builder's one call (the guide's Derived/Test/ToyasCard.lean, 'card_holds'). Laid BY PROGRAM, IN A SANDBOX (cutbox-door.mjs). By AI agents, Wed Nov 11 2026. No macro, syntax, notation, axiom, sorry.
-/
import Derived.Test.YtdghhffknfkcaaaGreatDoorRows
import GoSem.ClaimSeven
namespace Go.Proofs.YtdghhffknfkcaaaGreatDoor
namespace Rows

/-- THE TIED CARD OF 'taprootlaw21.RegistryPlays'. -/
def registryPlaysCard : Claim7 := { stood := { row := registryPlaysRow, standIns := [], harness := (true, "001393a862b43c9ef6ac355f73487ca34bf9e497a5f6c1c554225c1cc5e10233"), looks := false }, kinds := [], alts := [], laidByText := true, laidKinds := [.data, .pinned], laidTests := true, laidLooks := .later }
def RegistryPlaysCardSaid : Prop := Claim7.holds Tryz.pinned (.plain (OpenSpec.ofChange registryPlaysSpec)) registryPlaysCard

/-- THE TIED CARD OF 'taprootlaw21.RegistryFails'. -/
def registryFailsCard : Claim7 := { stood := { row := registryFailsRow, standIns := [], harness := (true, "001393a862b43c9ef6ac355f73487ca34bf9e497a5f6c1c554225c1cc5e10233"), looks := false }, kinds := [], alts := [], laidByText := true, laidKinds := [.data, .pinned], laidTests := true, laidLooks := .later }
def RegistryFailsCardSaid : Prop := Claim7.holds Tryz.pinned (.plain (OpenSpec.ofChange registryFailsSpec)) registryFailsCard

/-- THE TIED CARD OF 'taprootlaw21.RegistryBroken'. -/
def registryBrokenCard : Claim7 := { stood := { row := registryBrokenRow, standIns := [], harness := (true, "001393a862b43c9ef6ac355f73487ca34bf9e497a5f6c1c554225c1cc5e10233"), looks := false }, kinds := [], alts := [], laidByText := true, laidKinds := [.data, .pinned], laidTests := true, laidLooks := .later }
def RegistryBrokenCardSaid : Prop := Claim7.holds Tryz.pinned (.plain (OpenSpec.ofChange registryBrokenSpec)) registryBrokenCard

/-- THE SECOND FORM's CARD OF 'taprootlaw21.RegistryPlays'. -/
def registryPlaysUptoCard : Claim7 := { stood := { row := registryPlaysUptoRow, standIns := [], harness := (true, "001393a862b43c9ef6ac355f73487ca34bf9e497a5f6c1c554225c1cc5e10233"), looks := false }, kinds := [], alts := [], laidByText := true, laidKinds := [.data, .pinned], laidTests := true, laidLooks := .later }
def RegistryPlaysUptoCardSaid : Prop := Claim7.holds Tryz.pinned (.plain (OpenSpec.upto registryPlaysSpec)) registryPlaysUptoCard

/-- THE SECOND FORM's CARD OF 'taprootlaw21.RegistryFails'. -/
def registryFailsUptoCard : Claim7 := { stood := { row := registryFailsUptoRow, standIns := [], harness := (true, "001393a862b43c9ef6ac355f73487ca34bf9e497a5f6c1c554225c1cc5e10233"), looks := false }, kinds := [], alts := [], laidByText := true, laidKinds := [.data, .pinned], laidTests := true, laidLooks := .later }
def RegistryFailsUptoCardSaid : Prop := Claim7.holds Tryz.pinned (.plain (OpenSpec.upto registryFailsSpec)) registryFailsUptoCard

/-- THE SECOND FORM's CARD OF 'taprootlaw21.RegistryBroken'. -/
def registryBrokenUptoCard : Claim7 := { stood := { row := registryBrokenUptoRow, standIns := [], harness := (true, "001393a862b43c9ef6ac355f73487ca34bf9e497a5f6c1c554225c1cc5e10233"), looks := false }, kinds := [], alts := [], laidByText := true, laidKinds := [.data, .pinned], laidTests := true, laidLooks := .later }
def RegistryBrokenUptoCardSaid : Prop := Claim7.holds Tryz.pinned (.plain (OpenSpec.upto registryBrokenSpec)) registryBrokenUptoCard
end Rows
end Go.Proofs.YtdghhffknfkcaaaGreatDoor
