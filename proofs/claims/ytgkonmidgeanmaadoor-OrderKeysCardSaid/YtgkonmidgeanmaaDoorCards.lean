/-
  DERIVED. GIVEN WITH THE SEED: THE CARDS: each row of YtgkonmidgeanmaaDoorRows.lean that lists a variable, with what it lists TIED to the program's text (the seventh form; the later family's looks); each row that meets fmt, with fmt's text TOLD by the authors' own Lean function (tested against real Go, not proved from fmt's source: count such statements apart). THE CARD IS WHAT COUNTS. Prove the row's statement (the work); the ties are given (YtgkonmidgeanmaaDoorTie.lean); close each card by the builder's one call (the guide's Derived/Test/ToyasCard.lean, 'card_holds'). Laid BY PROGRAM, IN A SANDBOX (cutbox-door.mjs). By AI agents, Wed Nov 11 2026. No macro, syntax, notation, axiom, sorry.
-/
import Derived.Test.YtgkonmidgeanmaaDoorRows
import GoSem.ClaimSeven
namespace Go.Proofs.YtgkonmidgeanmaaDoor
namespace Rows

/-- THE TIED CARD OF 'taprootlaw04.OrderKeys'. -/
def orderKeysCard : Claim7 := { stood := { row := orderKeysRow, standIns := [], harness := (true, "77633d7ce6e4ed960f360690b3d5843d1962f13b6e1db2236e2307813babe2d4"), looks := false }, kinds := [], alts := [], laidByText := true, laidKinds := [.data, .pinned], laidTests := true, laidLooks := .later }
def OrderKeysCardSaid : Prop := Claim7.holds Tryd.pinned (.plain (OpenSpec.ofChange orderKeysSpec)) orderKeysCard

/-- THE TIED CARD OF 'taprootlaw04.OrderKeeps'. -/
def orderKeepsCard : Claim7 := { stood := { row := orderKeepsRow, standIns := [], harness := (true, "77633d7ce6e4ed960f360690b3d5843d1962f13b6e1db2236e2307813babe2d4"), looks := false }, kinds := [], alts := [], laidByText := true, laidKinds := [.data, .pinned], laidTests := true, laidLooks := .later }
def OrderKeepsCardSaid : Prop := Claim7.holds Tryd.pinned (.plain (OpenSpec.ofChange orderKeepsSpec)) orderKeepsCard

/-- THE TIED CARD OF 'taprootlaw04.OrderBack'. -/
def orderBackCard : Claim7 := { stood := { row := orderBackRow, standIns := [], harness := (true, "77633d7ce6e4ed960f360690b3d5843d1962f13b6e1db2236e2307813babe2d4"), looks := false }, kinds := [], alts := [], laidByText := true, laidKinds := [.data, .pinned], laidTests := true, laidLooks := .later }
def OrderBackCardSaid : Prop := Claim7.holds Tryd.pinned (.plain (OpenSpec.ofChange orderBackSpec)) orderBackCard

/-- THE TIED CARD OF 'taprootlaw04.OrderAfter'. -/
def orderAfterCard : Claim7 := { stood := { row := orderAfterRow, standIns := [], harness := (true, "77633d7ce6e4ed960f360690b3d5843d1962f13b6e1db2236e2307813babe2d4"), looks := false }, kinds := [], alts := [], laidByText := true, laidKinds := [.data, .pinned], laidTests := true, laidLooks := .later }
def OrderAfterCardSaid : Prop := Claim7.holds Tryd.pinned (.plain (OpenSpec.ofChange orderAfterSpec)) orderAfterCard

/-- THE SECOND FORM's CARD OF 'taprootlaw04.OrderKeys'. -/
def orderKeysUptoCard : Claim7 := { stood := { row := orderKeysUptoRow, standIns := [], harness := (true, "77633d7ce6e4ed960f360690b3d5843d1962f13b6e1db2236e2307813babe2d4"), looks := false }, kinds := [], alts := [], laidByText := true, laidKinds := [.data, .pinned], laidTests := true, laidLooks := .later }
def OrderKeysUptoCardSaid : Prop := Claim7.holds Tryd.pinned (.plain (OpenSpec.upto orderKeysSpec)) orderKeysUptoCard

/-- THE SECOND FORM's CARD OF 'taprootlaw04.OrderKeeps'. -/
def orderKeepsUptoCard : Claim7 := { stood := { row := orderKeepsUptoRow, standIns := [], harness := (true, "77633d7ce6e4ed960f360690b3d5843d1962f13b6e1db2236e2307813babe2d4"), looks := false }, kinds := [], alts := [], laidByText := true, laidKinds := [.data, .pinned], laidTests := true, laidLooks := .later }
def OrderKeepsUptoCardSaid : Prop := Claim7.holds Tryd.pinned (.plain (OpenSpec.upto orderKeepsSpec)) orderKeepsUptoCard

/-- THE SECOND FORM's CARD OF 'taprootlaw04.OrderBack'. -/
def orderBackUptoCard : Claim7 := { stood := { row := orderBackUptoRow, standIns := [], harness := (true, "77633d7ce6e4ed960f360690b3d5843d1962f13b6e1db2236e2307813babe2d4"), looks := false }, kinds := [], alts := [], laidByText := true, laidKinds := [.data, .pinned], laidTests := true, laidLooks := .later }
def OrderBackUptoCardSaid : Prop := Claim7.holds Tryd.pinned (.plain (OpenSpec.upto orderBackSpec)) orderBackUptoCard

/-- THE SECOND FORM's CARD OF 'taprootlaw04.OrderAfter'. -/
def orderAfterUptoCard : Claim7 := { stood := { row := orderAfterUptoRow, standIns := [], harness := (true, "77633d7ce6e4ed960f360690b3d5843d1962f13b6e1db2236e2307813babe2d4"), looks := false }, kinds := [], alts := [], laidByText := true, laidKinds := [.data, .pinned], laidTests := true, laidLooks := .later }
def OrderAfterUptoCardSaid : Prop := Claim7.holds Tryd.pinned (.plain (OpenSpec.upto orderAfterSpec)) orderAfterUptoCard
end Rows
end Go.Proofs.YtgkonmidgeanmaaDoor
