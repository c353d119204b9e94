/-
  DERIVED. GIVEN WITH THE SEED: THE CARDS: each row of YtmfcpbhdggonfaaGreatDoorRows.lean that lists a variable, with what it lists TIED to the program's text (the seventh form; the later family's looks); each row that meets fmt, with fmt's text TOLD by the authors' own Lean function (tested against real Go, not proved from fmt's source: count such statements apart). THE CARD IS WHAT COUNTS. Prove the row's statement (the work); the ties are given (YtmfcpbhdggonfaaGreatDoorTie.lean); close each card by the builder's one call (the guide's Derived/Test/ToyasCard.lean, 'card_holds'). Laid BY PROGRAM, IN A SANDBOX (cutbox-door.mjs). By AI agents, Wed Nov 11 2026. No macro, syntax, notation, axiom, sorry.
-/
import Derived.Test.YtmfcpbhdggonfaaGreatDoorRows
import GoSem.ClaimSeven
namespace Go.Proofs.YtmfcpbhdggonfaaGreatDoor
namespace Rows

/-- THE TIED CARD OF 'raceslaw.Checks'. -/
def checksCard : Claim7 := { stood := { row := checksRow, standIns := [], harness := (true, "c030c66d81e8a4891b9001d63545467c7254431f91fe18a25a98b9e7e9bc1390"), looks := false }, kinds := [], alts := [], laidByText := true, laidKinds := [.data, .data, .data], laidTests := true, laidLooks := .later }
def ChecksCardSaid : Prop := Claim7.holds Tryz.pinned (.plain (OpenSpec.ofChange checksSpec)) checksCard

/-- THE TIED CARD OF 'raceslaw.Plays'. -/
def playsCard : Claim7 := { stood := { row := playsRow, standIns := [], harness := (true, "c030c66d81e8a4891b9001d63545467c7254431f91fe18a25a98b9e7e9bc1390"), looks := false }, kinds := [], alts := [], laidByText := true, laidKinds := [.data, .data, .data], laidTests := true, laidLooks := .later }
def PlaysCardSaid : Prop := Claim7.holds Tryz.pinned (.plain (OpenSpec.ofChange playsSpec)) playsCard

/-- THE TIED CARD OF 'raceslaw.Counts'. -/
def countsCard : Claim7 := { stood := { row := countsRow, standIns := [], harness := (true, "c030c66d81e8a4891b9001d63545467c7254431f91fe18a25a98b9e7e9bc1390"), looks := false }, kinds := [], alts := [], laidByText := true, laidKinds := [.data, .data, .data], laidTests := true, laidLooks := .later }
def CountsCardSaid : Prop := Claim7.holds Tryz.pinned (.plain (OpenSpec.ofChange countsSpec)) countsCard

/-- THE TIED CARD OF 'raceslaw.Searches'. -/
def searchesCard : Claim7 := { stood := { row := searchesRow, standIns := [], harness := (true, "c030c66d81e8a4891b9001d63545467c7254431f91fe18a25a98b9e7e9bc1390"), looks := false }, kinds := [], alts := [], laidByText := true, laidKinds := [.data, .data, .data], laidTests := true, laidLooks := .later }
def SearchesCardSaid : Prop := Claim7.holds Tryz.pinned (.plain (OpenSpec.ofChange searchesSpec)) searchesCard

/-- THE TIED CARD OF 'raceslaw.All'. -/
def allCard : Claim7 := { stood := { row := allRow, standIns := [], harness := (true, "c030c66d81e8a4891b9001d63545467c7254431f91fe18a25a98b9e7e9bc1390"), looks := false }, kinds := [], alts := [], laidByText := true, laidKinds := [.data, .data, .data], laidTests := true, laidLooks := .later }
def AllCardSaid : Prop := Claim7.holds Tryz.pinned (.plain (OpenSpec.ofChange allSpec)) allCard

/-- THE TIED CARD OF 'raceskeep.Caught'. -/
def caughtCard : Claim7 := { stood := { row := caughtRow, standIns := [], harness := (true, "c030c66d81e8a4891b9001d63545467c7254431f91fe18a25a98b9e7e9bc1390"), looks := false }, kinds := [], alts := [], laidByText := true, laidKinds := [.data, .data, .data], laidTests := true, laidLooks := .later }
def CaughtCardSaid : Prop := Claim7.holds Tryz.pinned (.plain (OpenSpec.ofChange caughtSpec)) caughtCard

/-- THE TIED CARD OF 'raceskeep.Offered'. -/
def offeredCard : Claim7 := { stood := { row := offeredRow, standIns := [], harness := (true, "c030c66d81e8a4891b9001d63545467c7254431f91fe18a25a98b9e7e9bc1390"), looks := false }, kinds := [], alts := [], laidByText := true, laidKinds := [.data, .data, .data], laidTests := true, laidLooks := .later }
def OfferedCardSaid : Prop := Claim7.holds Tryz.pinned (.plain (OpenSpec.ofChange offeredSpec)) offeredCard

/-- THE TIED CARD OF 'raceskeep.Guarded'. -/
def guardedCard : Claim7 := { stood := { row := guardedRow, standIns := [], harness := (true, "c030c66d81e8a4891b9001d63545467c7254431f91fe18a25a98b9e7e9bc1390"), looks := false }, kinds := [], alts := [], laidByText := true, laidKinds := [.data, .data, .data], laidTests := true, laidLooks := .later }
def GuardedCardSaid : Prop := Claim7.holds Tryz.pinned (.plain (OpenSpec.ofChange guardedSpec)) guardedCard

/-- THE TIED CARD OF 'raceskeep.Rings'. -/
def ringsCard : Claim7 := { stood := { row := ringsRow, standIns := [], harness := (true, "c030c66d81e8a4891b9001d63545467c7254431f91fe18a25a98b9e7e9bc1390"), looks := false }, kinds := [], alts := [], laidByText := true, laidKinds := [.data, .data, .data], laidTests := true, laidLooks := .later }
def RingsCardSaid : Prop := Claim7.holds Tryz.pinned (.plain (OpenSpec.ofChange ringsSpec)) ringsCard

/-- THE TIED CARD OF 'raceskeep.Wider'. -/
def widerCard : Claim7 := { stood := { row := widerRow, standIns := [], harness := (true, "c030c66d81e8a4891b9001d63545467c7254431f91fe18a25a98b9e7e9bc1390"), looks := false }, kinds := [], alts := [], laidByText := true, laidKinds := [.data, .data, .data], laidTests := true, laidLooks := .later }
def WiderCardSaid : Prop := Claim7.holds Tryz.pinned (.plain (OpenSpec.ofChange widerSpec)) widerCard

/-- THE TIED CARD OF 'raceskeep.Worth'. -/
def worthCard : Claim7 := { stood := { row := worthRow, standIns := [], harness := (true, "c030c66d81e8a4891b9001d63545467c7254431f91fe18a25a98b9e7e9bc1390"), looks := false }, kinds := [], alts := [], laidByText := true, laidKinds := [.data, .data, .data], laidTests := true, laidLooks := .later }
def WorthCardSaid : Prop := Claim7.holds Tryz.pinned (.plain (OpenSpec.ofChange worthSpec)) worthCard

/-- THE TIED CARD OF 'raceskeep.Deep'. -/
def deepCard : Claim7 := { stood := { row := deepRow, standIns := [], harness := (true, "c030c66d81e8a4891b9001d63545467c7254431f91fe18a25a98b9e7e9bc1390"), looks := false }, kinds := [], alts := [], laidByText := true, laidKinds := [.data, .data, .data], laidTests := true, laidLooks := .later }
def DeepCardSaid : Prop := Claim7.holds Tryz.pinned (.plain (OpenSpec.ofChange deepSpec)) deepCard

/-- THE SECOND FORM's CARD OF 'raceslaw.Checks'. -/
def checksUptoCard : Claim7 := { stood := { row := checksUptoRow, standIns := [], harness := (true, "c030c66d81e8a4891b9001d63545467c7254431f91fe18a25a98b9e7e9bc1390"), looks := false }, kinds := [], alts := [], laidByText := true, laidKinds := [.data, .data, .data], laidTests := true, laidLooks := .later }
def ChecksUptoCardSaid : Prop := Claim7.holds Tryz.pinned (.plain (OpenSpec.upto checksSpec)) checksUptoCard

/-- THE SECOND FORM's CARD OF 'raceslaw.Plays'. -/
def playsUptoCard : Claim7 := { stood := { row := playsUptoRow, standIns := [], harness := (true, "c030c66d81e8a4891b9001d63545467c7254431f91fe18a25a98b9e7e9bc1390"), looks := false }, kinds := [], alts := [], laidByText := true, laidKinds := [.data, .data, .data], laidTests := true, laidLooks := .later }
def PlaysUptoCardSaid : Prop := Claim7.holds Tryz.pinned (.plain (OpenSpec.upto playsSpec)) playsUptoCard

/-- THE SECOND FORM's CARD OF 'raceslaw.Counts'. -/
def countsUptoCard : Claim7 := { stood := { row := countsUptoRow, standIns := [], harness := (true, "c030c66d81e8a4891b9001d63545467c7254431f91fe18a25a98b9e7e9bc1390"), looks := false }, kinds := [], alts := [], laidByText := true, laidKinds := [.data, .data, .data], laidTests := true, laidLooks := .later }
def CountsUptoCardSaid : Prop := Claim7.holds Tryz.pinned (.plain (OpenSpec.upto countsSpec)) countsUptoCard

/-- THE SECOND FORM's CARD OF 'raceslaw.Searches'. -/
def searchesUptoCard : Claim7 := { stood := { row := searchesUptoRow, standIns := [], harness := (true, "c030c66d81e8a4891b9001d63545467c7254431f91fe18a25a98b9e7e9bc1390"), looks := false }, kinds := [], alts := [], laidByText := true, laidKinds := [.data, .data, .data], laidTests := true, laidLooks := .later }
def SearchesUptoCardSaid : Prop := Claim7.holds Tryz.pinned (.plain (OpenSpec.upto searchesSpec)) searchesUptoCard

/-- THE SECOND FORM's CARD OF 'raceslaw.All'. -/
def allUptoCard : Claim7 := { stood := { row := allUptoRow, standIns := [], harness := (true, "c030c66d81e8a4891b9001d63545467c7254431f91fe18a25a98b9e7e9bc1390"), looks := false }, kinds := [], alts := [], laidByText := true, laidKinds := [.data, .data, .data], laidTests := true, laidLooks := .later }
def AllUptoCardSaid : Prop := Claim7.holds Tryz.pinned (.plain (OpenSpec.upto allSpec)) allUptoCard

/-- THE SECOND FORM's CARD OF 'raceskeep.Caught'. -/
def caughtUptoCard : Claim7 := { stood := { row := caughtUptoRow, standIns := [], harness := (true, "c030c66d81e8a4891b9001d63545467c7254431f91fe18a25a98b9e7e9bc1390"), looks := false }, kinds := [], alts := [], laidByText := true, laidKinds := [.data, .data, .data], laidTests := true, laidLooks := .later }
def CaughtUptoCardSaid : Prop := Claim7.holds Tryz.pinned (.plain (OpenSpec.upto caughtSpec)) caughtUptoCard

/-- THE SECOND FORM's CARD OF 'raceskeep.Offered'. -/
def offeredUptoCard : Claim7 := { stood := { row := offeredUptoRow, standIns := [], harness := (true, "c030c66d81e8a4891b9001d63545467c7254431f91fe18a25a98b9e7e9bc1390"), looks := false }, kinds := [], alts := [], laidByText := true, laidKinds := [.data, .data, .data], laidTests := true, laidLooks := .later }
def OfferedUptoCardSaid : Prop := Claim7.holds Tryz.pinned (.plain (OpenSpec.upto offeredSpec)) offeredUptoCard

/-- THE SECOND FORM's CARD OF 'raceskeep.Guarded'. -/
def guardedUptoCard : Claim7 := { stood := { row := guardedUptoRow, standIns := [], harness := (true, "c030c66d81e8a4891b9001d63545467c7254431f91fe18a25a98b9e7e9bc1390"), looks := false }, kinds := [], alts := [], laidByText := true, laidKinds := [.data, .data, .data], laidTests := true, laidLooks := .later }
def GuardedUptoCardSaid : Prop := Claim7.holds Tryz.pinned (.plain (OpenSpec.upto guardedSpec)) guardedUptoCard

/-- THE SECOND FORM's CARD OF 'raceskeep.Rings'. -/
def ringsUptoCard : Claim7 := { stood := { row := ringsUptoRow, standIns := [], harness := (true, "c030c66d81e8a4891b9001d63545467c7254431f91fe18a25a98b9e7e9bc1390"), looks := false }, kinds := [], alts := [], laidByText := true, laidKinds := [.data, .data, .data], laidTests := true, laidLooks := .later }
def RingsUptoCardSaid : Prop := Claim7.holds Tryz.pinned (.plain (OpenSpec.upto ringsSpec)) ringsUptoCard

/-- THE SECOND FORM's CARD OF 'raceskeep.Wider'. -/
def widerUptoCard : Claim7 := { stood := { row := widerUptoRow, standIns := [], harness := (true, "c030c66d81e8a4891b9001d63545467c7254431f91fe18a25a98b9e7e9bc1390"), looks := false }, kinds := [], alts := [], laidByText := true, laidKinds := [.data, .data, .data], laidTests := true, laidLooks := .later }
def WiderUptoCardSaid : Prop := Claim7.holds Tryz.pinned (.plain (OpenSpec.upto widerSpec)) widerUptoCard

/-- THE SECOND FORM's CARD OF 'raceskeep.Worth'. -/
def worthUptoCard : Claim7 := { stood := { row := worthUptoRow, standIns := [], harness := (true, "c030c66d81e8a4891b9001d63545467c7254431f91fe18a25a98b9e7e9bc1390"), looks := false }, kinds := [], alts := [], laidByText := true, laidKinds := [.data, .data, .data], laidTests := true, laidLooks := .later }
def WorthUptoCardSaid : Prop := Claim7.holds Tryz.pinned (.plain (OpenSpec.upto worthSpec)) worthUptoCard

/-- THE SECOND FORM's CARD OF 'raceskeep.Deep'. -/
def deepUptoCard : Claim7 := { stood := { row := deepUptoRow, standIns := [], harness := (true, "c030c66d81e8a4891b9001d63545467c7254431f91fe18a25a98b9e7e9bc1390"), looks := false }, kinds := [], alts := [], laidByText := true, laidKinds := [.data, .data, .data], laidTests := true, laidLooks := .later }
def DeepUptoCardSaid : Prop := Claim7.holds Tryz.pinned (.plain (OpenSpec.upto deepSpec)) deepUptoCard
end Rows
end Go.Proofs.YtmfcpbhdggonfaaGreatDoor
