/-
  DERIVED. GIVEN WITH THE SEED: THE CARDS: each row of YtpabnkbpklggnaaDoorRows.lean that lists a variable, with what it lists TIED to the program's text (the seventh form; the later family's looks); each row that meets fmt, with fmt's text TOLD by the authors' own Lean function (tested against real Go, not proved from fmt's source: count such statements apart). THE CARD IS WHAT COUNTS. Prove the row's statement (the work); the ties are given (YtpabnkbpklggnaaDoorTie.lean); close each card by the builder's one call (the guide's Derived/Test/ToyasCard.lean, 'card_holds'). Laid BY PROGRAM, IN A SANDBOX (cutbox-door.mjs). By AI agents, Wed Nov 11 2026. No macro, syntax, notation, axiom, sorry.
-/
import Derived.Test.YtpabnkbpklggnaaDoorRows
import GoSem.ClaimSeven
namespace Go.Proofs.YtpabnkbpklggnaaDoor
namespace Rows

/-- THE TIED CARD OF 'donjonlaw03.NoteChecks'. -/
def noteChecksCard : Claim7 := { stood := { row := noteChecksRow, standIns := [], harness := (true, "5de2c5eddbe5a34ef72771f6316356ddcacecbdd7e8d56e1140209cd774f6e0a"), looks := false }, kinds := [], alts := [], laidByText := true, laidKinds := [.data, .data, .data, .data], laidTests := true, laidLooks := .later }
def NoteChecksCardSaid : Prop := Claim7.holds Tryd.pinned (.plain (OpenSpec.ofChange noteChecksSpec)) noteChecksCard

/-- THE TIED CARD OF 'donjonlaw03.NotePrints'. -/
def notePrintsCard : Claim7 := { stood := { row := notePrintsRow, standIns := [], harness := (true, "5de2c5eddbe5a34ef72771f6316356ddcacecbdd7e8d56e1140209cd774f6e0a"), looks := false }, kinds := [], alts := [], laidByText := true, laidKinds := [.data, .data, .data, .data], laidTests := true, laidLooks := .later }
def NotePrintsCardSaid : Prop := Claim7.holds Tryd.pinned (.plain (OpenSpec.ofChange notePrintsSpec)) notePrintsCard

/-- THE TIED CARD OF 'donjonlaw03.NoteOne'. -/
def noteOneCard : Claim7 := { stood := { row := noteOneRow, standIns := [], harness := (true, "5de2c5eddbe5a34ef72771f6316356ddcacecbdd7e8d56e1140209cd774f6e0a"), looks := false }, kinds := [], alts := [], laidByText := true, laidKinds := [.data, .data, .data, .data], laidTests := true, laidLooks := .later }
def NoteOneCardSaid : Prop := Claim7.holds Tryd.pinned (.plain (OpenSpec.ofChange noteOneSpec)) noteOneCard

/-- THE TIED CARD OF 'donjonlaw03.NoteMore'. -/
def noteMoreCard : Claim7 := { stood := { row := noteMoreRow, standIns := [], harness := (true, "5de2c5eddbe5a34ef72771f6316356ddcacecbdd7e8d56e1140209cd774f6e0a"), looks := false }, kinds := [], alts := [], laidByText := true, laidKinds := [.data, .data, .data, .data], laidTests := true, laidLooks := .later }
def NoteMoreCardSaid : Prop := Claim7.holds Tryd.pinned (.plain (OpenSpec.ofChange noteMoreSpec)) noteMoreCard

/-- THE TIED CARD OF 'donjonlaw13.CacheNil'. -/
def cacheNilCard : Claim7 := { stood := { row := cacheNilRow, standIns := [], harness := (true, "5de2c5eddbe5a34ef72771f6316356ddcacecbdd7e8d56e1140209cd774f6e0a"), looks := false }, kinds := [], alts := [], laidByText := true, laidKinds := [.data], laidTests := true, laidLooks := .later }
def CacheNilCardSaid : Prop := Claim7.holds Tryd.pinned (.plain (OpenSpec.ofChange cacheNilSpec)) cacheNilCard

/-- THE SECOND FORM's CARD OF 'donjonlaw03.NoteChecks'. -/
def noteChecksUptoCard : Claim7 := { stood := { row := noteChecksUptoRow, standIns := [], harness := (true, "5de2c5eddbe5a34ef72771f6316356ddcacecbdd7e8d56e1140209cd774f6e0a"), looks := false }, kinds := [], alts := [], laidByText := true, laidKinds := [.data, .data, .data, .data], laidTests := true, laidLooks := .later }
def NoteChecksUptoCardSaid : Prop := Claim7.holds Tryd.pinned (.plain (OpenSpec.upto noteChecksSpec)) noteChecksUptoCard

/-- THE SECOND FORM's CARD OF 'donjonlaw03.NotePrints'. -/
def notePrintsUptoCard : Claim7 := { stood := { row := notePrintsUptoRow, standIns := [], harness := (true, "5de2c5eddbe5a34ef72771f6316356ddcacecbdd7e8d56e1140209cd774f6e0a"), looks := false }, kinds := [], alts := [], laidByText := true, laidKinds := [.data, .data, .data, .data], laidTests := true, laidLooks := .later }
def NotePrintsUptoCardSaid : Prop := Claim7.holds Tryd.pinned (.plain (OpenSpec.upto notePrintsSpec)) notePrintsUptoCard

/-- THE SECOND FORM's CARD OF 'donjonlaw03.NoteOne'. -/
def noteOneUptoCard : Claim7 := { stood := { row := noteOneUptoRow, standIns := [], harness := (true, "5de2c5eddbe5a34ef72771f6316356ddcacecbdd7e8d56e1140209cd774f6e0a"), looks := false }, kinds := [], alts := [], laidByText := true, laidKinds := [.data, .data, .data, .data], laidTests := true, laidLooks := .later }
def NoteOneUptoCardSaid : Prop := Claim7.holds Tryd.pinned (.plain (OpenSpec.upto noteOneSpec)) noteOneUptoCard

/-- THE SECOND FORM's CARD OF 'donjonlaw03.NoteMore'. -/
def noteMoreUptoCard : Claim7 := { stood := { row := noteMoreUptoRow, standIns := [], harness := (true, "5de2c5eddbe5a34ef72771f6316356ddcacecbdd7e8d56e1140209cd774f6e0a"), looks := false }, kinds := [], alts := [], laidByText := true, laidKinds := [.data, .data, .data, .data], laidTests := true, laidLooks := .later }
def NoteMoreUptoCardSaid : Prop := Claim7.holds Tryd.pinned (.plain (OpenSpec.upto noteMoreSpec)) noteMoreUptoCard

/-- THE SECOND FORM's CARD OF 'donjonlaw13.CacheNil'. -/
def cacheNilUptoCard : Claim7 := { stood := { row := cacheNilUptoRow, standIns := [], harness := (true, "5de2c5eddbe5a34ef72771f6316356ddcacecbdd7e8d56e1140209cd774f6e0a"), looks := false }, kinds := [], alts := [], laidByText := true, laidKinds := [.data], laidTests := true, laidLooks := .later }
def CacheNilUptoCardSaid : Prop := Claim7.holds Tryd.pinned (.plain (OpenSpec.upto cacheNilSpec)) cacheNilUptoCard
end Rows
end Go.Proofs.YtpabnkbpklggnaaDoor
