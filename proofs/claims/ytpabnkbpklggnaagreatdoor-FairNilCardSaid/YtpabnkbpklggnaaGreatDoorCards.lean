/-
  DERIVED. GIVEN WITH THE SEED: THE CARDS: each row of YtpabnkbpklggnaaGreatDoorRows.lean that lists a variable, with what it lists TIED to the program's text (the seventh form; the later family's looks); each row that meets fmt, with fmt's text TOLD by the authors' own Lean function (tested against real Go, not proved from fmt's source: count such statements apart). THE CARD IS WHAT COUNTS. Prove the row's statement (the work); the ties are given (YtpabnkbpklggnaaGreatDoorTie.lean); close each card by the builder's one call (the guide's Derived/Test/ToyasCard.lean, 'card_holds'). Laid BY PROGRAM, IN A SANDBOX (cutbox-door.mjs). By AI agents, Wed Nov 11 2026. No macro, syntax, notation, axiom, sorry.
-/
import Derived.Test.YtpabnkbpklggnaaGreatDoorRows
import GoSem.ClaimSeven
namespace Go.Proofs.YtpabnkbpklggnaaGreatDoor
namespace Rows

/-- THE TIED CARD OF 'donjonlaw16.MachineNil'. -/
def machineNilCard : Claim7 := { stood := { row := machineNilRow, standIns := [], harness := (true, "3cb853ec7356d66d9e7fd679bdf500da3988b3af3eee1484d27d034a876eaea5"), looks := true }, kinds := [], alts := [], laidByText := true, laidKinds := [.data, .data, .data], laidTests := true, laidLooks := .later }
def MachineNilCardSaid : Prop := Claim7.holds Tryz.pinned (.plain (OpenSpec.ofChange machineNilSpec)) machineNilCard

/-- THE TIED CARD OF 'donjonlaw19.FairNil'. -/
def fairNilCard : Claim7 := { stood := { row := fairNilRow, standIns := [], harness := (true, "3cb853ec7356d66d9e7fd679bdf500da3988b3af3eee1484d27d034a876eaea5"), looks := true }, kinds := [], alts := [], laidByText := true, laidKinds := [.data, .data, .data], laidTests := true, laidLooks := .later }
def FairNilCardSaid : Prop := Claim7.holds Tryz.pinned (.plain (OpenSpec.ofChange fairNilSpec)) fairNilCard

/-- THE TIED CARD OF 'donjonlaw20.ScriptEvent'. -/
def scriptEventCard : Claim7 := { stood := { row := scriptEventRow, standIns := [], harness := (true, "3cb853ec7356d66d9e7fd679bdf500da3988b3af3eee1484d27d034a876eaea5"), looks := true }, kinds := [], alts := [], laidByText := true, laidKinds := [.data, .data, .data, .data, .sentinel, .sentinel, .data, .data, .data, .data, .pinned], laidTests := true, laidLooks := .later }
def ScriptEventCardSaid : Prop := Claim7.holds Tryz.pinned (.plain (OpenSpec.ofChange scriptEventSpec)) scriptEventCard

/-- THE SECOND FORM's CARD OF 'donjonlaw16.MachineNil'. -/
def machineNilUptoCard : Claim7 := { stood := { row := machineNilUptoRow, standIns := [], harness := (true, "3cb853ec7356d66d9e7fd679bdf500da3988b3af3eee1484d27d034a876eaea5"), looks := true }, kinds := [], alts := [], laidByText := true, laidKinds := [.data, .data, .data], laidTests := true, laidLooks := .later }
def MachineNilUptoCardSaid : Prop := Claim7.holds Tryz.pinned (.plain (OpenSpec.upto machineNilSpec)) machineNilUptoCard

/-- THE SECOND FORM's CARD OF 'donjonlaw19.FairNil'. -/
def fairNilUptoCard : Claim7 := { stood := { row := fairNilUptoRow, standIns := [], harness := (true, "3cb853ec7356d66d9e7fd679bdf500da3988b3af3eee1484d27d034a876eaea5"), looks := true }, kinds := [], alts := [], laidByText := true, laidKinds := [.data, .data, .data], laidTests := true, laidLooks := .later }
def FairNilUptoCardSaid : Prop := Claim7.holds Tryz.pinned (.plain (OpenSpec.upto fairNilSpec)) fairNilUptoCard

/-- THE SECOND FORM's CARD OF 'donjonlaw20.ScriptEvent'. -/
def scriptEventUptoCard : Claim7 := { stood := { row := scriptEventUptoRow, standIns := [], harness := (true, "3cb853ec7356d66d9e7fd679bdf500da3988b3af3eee1484d27d034a876eaea5"), looks := true }, kinds := [], alts := [], laidByText := true, laidKinds := [.data, .data, .data, .data, .sentinel, .sentinel, .data, .data, .data, .data, .pinned], laidTests := true, laidLooks := .later }
def ScriptEventUptoCardSaid : Prop := Claim7.holds Tryz.pinned (.plain (OpenSpec.upto scriptEventSpec)) scriptEventUptoCard
end Rows
end Go.Proofs.YtpabnkbpklggnaaGreatDoor
