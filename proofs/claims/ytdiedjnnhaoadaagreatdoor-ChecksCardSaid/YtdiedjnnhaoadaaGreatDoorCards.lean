/-
  DERIVED. GIVEN WITH THE SEED: THE CARDS: each row of YtdiedjnnhaoadaaGreatDoorRows.lean that lists a variable, with what it lists TIED to the program's text (the seventh form; the later family's looks); each row that meets fmt, with fmt's text TOLD by the authors' own Lean function (tested against real Go, not proved from fmt's source: count such statements apart). THE CARD IS WHAT COUNTS. Prove the row's statement (the work); the ties are given (YtdiedjnnhaoadaaGreatDoorTie.lean); close each card by the builder's one call (the guide's Derived/Test/ToyasCard.lean, 'card_holds'). Laid BY PROGRAM, IN A SANDBOX (cutbox-door.mjs). By AI agents, Wed Nov 11 2026. No macro, syntax, notation, axiom, sorry.
-/
import Derived.Test.YtdiedjnnhaoadaaGreatDoorRows
import GoSem.ClaimSeven
namespace Go.Proofs.YtdiedjnnhaoadaaGreatDoor
namespace Rows

/-- THE TIED CARD OF 'raceslaw.Checks'. -/
def checksCard : Claim7 := { stood := { row := checksRow, standIns := [], harness := (true, "79a2ac11b9f2b886b55a5ae52ebd50fdfb12c1fd20a731ee5cde0e655e70b7aa"), looks := false }, kinds := [], alts := [], laidByText := true, laidKinds := [.data, .data, .data], laidTests := true, laidLooks := .later }
def ChecksCardSaid : Prop := Claim7.holds Tryz.pinned (.plain (OpenSpec.ofChange checksSpec)) checksCard

/-- THE TIED CARD OF 'raceslaw.Plays'. -/
def playsCard : Claim7 := { stood := { row := playsRow, standIns := [], harness := (true, "79a2ac11b9f2b886b55a5ae52ebd50fdfb12c1fd20a731ee5cde0e655e70b7aa"), looks := false }, kinds := [], alts := [], laidByText := true, laidKinds := [.data, .data, .data], laidTests := true, laidLooks := .later }
def PlaysCardSaid : Prop := Claim7.holds Tryz.pinned (.plain (OpenSpec.ofChange playsSpec)) playsCard

/-- THE TIED CARD OF 'raceslaw.Counts'. -/
def countsCard : Claim7 := { stood := { row := countsRow, standIns := [], harness := (true, "79a2ac11b9f2b886b55a5ae52ebd50fdfb12c1fd20a731ee5cde0e655e70b7aa"), looks := false }, kinds := [], alts := [], laidByText := true, laidKinds := [.data, .data, .data], laidTests := true, laidLooks := .later }
def CountsCardSaid : Prop := Claim7.holds Tryz.pinned (.plain (OpenSpec.ofChange countsSpec)) countsCard

/-- THE TIED CARD OF 'raceskeep.Offered'. -/
def offeredCard : Claim7 := { stood := { row := offeredRow, standIns := [], harness := (true, "79a2ac11b9f2b886b55a5ae52ebd50fdfb12c1fd20a731ee5cde0e655e70b7aa"), looks := false }, kinds := [], alts := [], laidByText := true, laidKinds := [.data, .data, .data], laidTests := true, laidLooks := .later }
def OfferedCardSaid : Prop := Claim7.holds Tryz.pinned (.plain (OpenSpec.ofChange offeredSpec)) offeredCard

/-- THE TIED CARD OF 'raceskeep.Worth'. -/
def worthCard : Claim7 := { stood := { row := worthRow, standIns := [], harness := (true, "79a2ac11b9f2b886b55a5ae52ebd50fdfb12c1fd20a731ee5cde0e655e70b7aa"), looks := false }, kinds := [], alts := [], laidByText := true, laidKinds := [.data, .data, .data], laidTests := true, laidLooks := .later }
def WorthCardSaid : Prop := Claim7.holds Tryz.pinned (.plain (OpenSpec.ofChange worthSpec)) worthCard

/-- THE TIED CARD OF 'raceskeep.Deep'. -/
def deepCard : Claim7 := { stood := { row := deepRow, standIns := [], harness := (true, "79a2ac11b9f2b886b55a5ae52ebd50fdfb12c1fd20a731ee5cde0e655e70b7aa"), looks := false }, kinds := [], alts := [], laidByText := true, laidKinds := [.data, .data, .data], laidTests := true, laidLooks := .later }
def DeepCardSaid : Prop := Claim7.holds Tryz.pinned (.plain (OpenSpec.ofChange deepSpec)) deepCard

/-- THE SECOND FORM's CARD OF 'raceslaw.Checks'. -/
def checksUptoCard : Claim7 := { stood := { row := checksUptoRow, standIns := [], harness := (true, "79a2ac11b9f2b886b55a5ae52ebd50fdfb12c1fd20a731ee5cde0e655e70b7aa"), looks := false }, kinds := [], alts := [], laidByText := true, laidKinds := [.data, .data, .data], laidTests := true, laidLooks := .later }
def ChecksUptoCardSaid : Prop := Claim7.holds Tryz.pinned (.plain (OpenSpec.upto checksSpec)) checksUptoCard

/-- THE SECOND FORM's CARD OF 'raceslaw.Plays'. -/
def playsUptoCard : Claim7 := { stood := { row := playsUptoRow, standIns := [], harness := (true, "79a2ac11b9f2b886b55a5ae52ebd50fdfb12c1fd20a731ee5cde0e655e70b7aa"), looks := false }, kinds := [], alts := [], laidByText := true, laidKinds := [.data, .data, .data], laidTests := true, laidLooks := .later }
def PlaysUptoCardSaid : Prop := Claim7.holds Tryz.pinned (.plain (OpenSpec.upto playsSpec)) playsUptoCard

/-- THE SECOND FORM's CARD OF 'raceslaw.Counts'. -/
def countsUptoCard : Claim7 := { stood := { row := countsUptoRow, standIns := [], harness := (true, "79a2ac11b9f2b886b55a5ae52ebd50fdfb12c1fd20a731ee5cde0e655e70b7aa"), looks := false }, kinds := [], alts := [], laidByText := true, laidKinds := [.data, .data, .data], laidTests := true, laidLooks := .later }
def CountsUptoCardSaid : Prop := Claim7.holds Tryz.pinned (.plain (OpenSpec.upto countsSpec)) countsUptoCard

/-- THE SECOND FORM's CARD OF 'raceskeep.Offered'. -/
def offeredUptoCard : Claim7 := { stood := { row := offeredUptoRow, standIns := [], harness := (true, "79a2ac11b9f2b886b55a5ae52ebd50fdfb12c1fd20a731ee5cde0e655e70b7aa"), looks := false }, kinds := [], alts := [], laidByText := true, laidKinds := [.data, .data, .data], laidTests := true, laidLooks := .later }
def OfferedUptoCardSaid : Prop := Claim7.holds Tryz.pinned (.plain (OpenSpec.upto offeredSpec)) offeredUptoCard

/-- THE SECOND FORM's CARD OF 'raceskeep.Worth'. -/
def worthUptoCard : Claim7 := { stood := { row := worthUptoRow, standIns := [], harness := (true, "79a2ac11b9f2b886b55a5ae52ebd50fdfb12c1fd20a731ee5cde0e655e70b7aa"), looks := false }, kinds := [], alts := [], laidByText := true, laidKinds := [.data, .data, .data], laidTests := true, laidLooks := .later }
def WorthUptoCardSaid : Prop := Claim7.holds Tryz.pinned (.plain (OpenSpec.upto worthSpec)) worthUptoCard

/-- THE SECOND FORM's CARD OF 'raceskeep.Deep'. -/
def deepUptoCard : Claim7 := { stood := { row := deepUptoRow, standIns := [], harness := (true, "79a2ac11b9f2b886b55a5ae52ebd50fdfb12c1fd20a731ee5cde0e655e70b7aa"), looks := false }, kinds := [], alts := [], laidByText := true, laidKinds := [.data, .data, .data], laidTests := true, laidLooks := .later }
def DeepUptoCardSaid : Prop := Claim7.holds Tryz.pinned (.plain (OpenSpec.upto deepSpec)) deepUptoCard
end Rows
end Go.Proofs.YtdiedjnnhaoadaaGreatDoor
