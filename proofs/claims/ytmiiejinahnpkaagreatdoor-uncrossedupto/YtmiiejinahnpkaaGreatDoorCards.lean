/-
  DERIVED. GIVEN WITH THE SEED: THE CARDS: each row of YtmiiejinahnpkaaGreatDoorRows.lean that lists a variable, with what it lists TIED to the program's text (the seventh form; the later family's looks); each row that meets fmt, with fmt's text TOLD by the authors' own Lean function (tested against real Go, not proved from fmt's source: count such statements apart). THE CARD IS WHAT COUNTS. Prove the row's statement (the work); the ties are given (YtmiiejinahnpkaaGreatDoorTie.lean); close each card by the builder's one call (the guide's Derived/Test/ToyasCard.lean, 'card_holds'). Laid BY PROGRAM, IN A SANDBOX (cutbox-door.mjs). By AI agents, Wed Nov 11 2026. No macro, syntax, notation, axiom, sorry.
-/
import Derived.Test.YtmiiejinahnpkaaGreatDoorRows
import GoSem.ClaimSeven
namespace Go.Proofs.YtmiiejinahnpkaaGreatDoor
namespace Rows

/-- THE TIED CARD OF 'outcrylaw.Coded'. -/
def codedCard : Claim7 := { stood := { row := codedRow, standIns := [], harness := (true, "a0c72fbeb071846c2daab4295e476ab52d74046b3dc4babd5654fb85d3ad3645"), looks := true }, kinds := [], alts := [], laidByText := true, laidKinds := [.data], laidTests := true, laidLooks := .later }
def CodedCardSaid : Prop := Claim7.holds Tryz.pinned (.plain (OpenSpec.ofChange codedSpec)) codedCard

/-- THE TIED CARD OF 'outcrylaw.Calls'. -/
def callsCard : Claim7 := { stood := { row := callsRow, standIns := [], harness := (true, "a0c72fbeb071846c2daab4295e476ab52d74046b3dc4babd5654fb85d3ad3645"), looks := true }, kinds := [], alts := [], laidByText := true, laidKinds := [.data], laidTests := true, laidLooks := .later }
def CallsCardSaid : Prop := Claim7.holds Tryz.pinned (.plain (OpenSpec.ofChange callsSpec)) callsCard

/-- THE TIED CARD OF 'outcrylaw.Played'. -/
def playedCard : Claim7 := { stood := { row := playedRow, standIns := [], harness := (true, "a0c72fbeb071846c2daab4295e476ab52d74046b3dc4babd5654fb85d3ad3645"), looks := true }, kinds := [], alts := [], laidByText := true, laidKinds := [.data], laidTests := true, laidLooks := .later }
def PlayedCardSaid : Prop := Claim7.holds Tryz.pinned (.plain (OpenSpec.ofChange playedSpec)) playedCard

/-- THE TIED CARD OF 'outcrykeep.Codes'. -/
def codesCard : Claim7 := { stood := { row := codesRow, standIns := [], harness := (true, "a0c72fbeb071846c2daab4295e476ab52d74046b3dc4babd5654fb85d3ad3645"), looks := true }, kinds := [], alts := [], laidByText := true, laidKinds := [.data], laidTests := true, laidLooks := .later }
def CodesCardSaid : Prop := Claim7.holds Tryz.pinned (.plain (OpenSpec.ofChange codesSpec)) codesCard

/-- THE TIED CARD OF 'outcrykeep.Audit'. -/
def auditCard : Claim7 := { stood := { row := auditRow, standIns := [], harness := (true, "a0c72fbeb071846c2daab4295e476ab52d74046b3dc4babd5654fb85d3ad3645"), looks := true }, kinds := [], alts := [], laidByText := true, laidKinds := [.data], laidTests := true, laidLooks := .later }
def AuditCardSaid : Prop := Claim7.holds Tryz.pinned (.plain (OpenSpec.ofChange auditSpec)) auditCard

/-- THE TIED CARD OF 'outcrykeep.Refused'. -/
def refusedCard : Claim7 := { stood := { row := refusedRow, standIns := [], harness := (true, "a0c72fbeb071846c2daab4295e476ab52d74046b3dc4babd5654fb85d3ad3645"), looks := true }, kinds := [], alts := [], laidByText := true, laidKinds := [.data], laidTests := true, laidLooks := .later }
def RefusedCardSaid : Prop := Claim7.holds Tryz.pinned (.plain (OpenSpec.ofChange refusedSpec)) refusedCard

/-- THE TIED CARD OF 'outcrykeep.Apart'. -/
def apartCard : Claim7 := { stood := { row := apartRow, standIns := [], harness := (true, "a0c72fbeb071846c2daab4295e476ab52d74046b3dc4babd5654fb85d3ad3645"), looks := true }, kinds := [], alts := [], laidByText := true, laidKinds := [.data], laidTests := true, laidLooks := .later }
def ApartCardSaid : Prop := Claim7.holds Tryz.pinned (.plain (OpenSpec.ofChange apartSpec)) apartCard

/-- THE TIED CARD OF 'outcrykeep.Uncrossed'. -/
def uncrossedCard : Claim7 := { stood := { row := uncrossedRow, standIns := [], harness := (true, "a0c72fbeb071846c2daab4295e476ab52d74046b3dc4babd5654fb85d3ad3645"), looks := true }, kinds := [], alts := [], laidByText := true, laidKinds := [.data], laidTests := true, laidLooks := .later }
def UncrossedCardSaid : Prop := Claim7.holds Tryz.pinned (.plain (OpenSpec.ofChange uncrossedSpec)) uncrossedCard

/-- THE TIED CARD OF 'outcrykeep.Ticks'. -/
def ticksCard : Claim7 := { stood := { row := ticksRow, standIns := [], harness := (true, "a0c72fbeb071846c2daab4295e476ab52d74046b3dc4babd5654fb85d3ad3645"), looks := true }, kinds := [], alts := [], laidByText := true, laidKinds := [.data], laidTests := true, laidLooks := .later }
def TicksCardSaid : Prop := Claim7.holds Tryz.pinned (.plain (OpenSpec.ofChange ticksSpec)) ticksCard

/-- THE TIED CARD OF 'outcrylaw.All'. -/
def allCard : Claim7 := { stood := { row := allRow, standIns := [], harness := (true, "a0c72fbeb071846c2daab4295e476ab52d74046b3dc4babd5654fb85d3ad3645"), looks := true }, kinds := [], alts := [], laidByText := true, laidKinds := [.data], laidTests := true, laidLooks := .later }
def AllCardSaid : Prop := Claim7.holds Tryz.pinned (.plain (OpenSpec.ofChange allSpec)) allCard

/-- THE SECOND FORM's CARD OF 'outcrylaw.Coded'. -/
def codedUptoCard : Claim7 := { stood := { row := codedUptoRow, standIns := [], harness := (true, "a0c72fbeb071846c2daab4295e476ab52d74046b3dc4babd5654fb85d3ad3645"), looks := true }, kinds := [], alts := [], laidByText := true, laidKinds := [.data], laidTests := true, laidLooks := .later }
def CodedUptoCardSaid : Prop := Claim7.holds Tryz.pinned (.plain (OpenSpec.upto codedSpec)) codedUptoCard

/-- THE SECOND FORM's CARD OF 'outcrylaw.Calls'. -/
def callsUptoCard : Claim7 := { stood := { row := callsUptoRow, standIns := [], harness := (true, "a0c72fbeb071846c2daab4295e476ab52d74046b3dc4babd5654fb85d3ad3645"), looks := true }, kinds := [], alts := [], laidByText := true, laidKinds := [.data], laidTests := true, laidLooks := .later }
def CallsUptoCardSaid : Prop := Claim7.holds Tryz.pinned (.plain (OpenSpec.upto callsSpec)) callsUptoCard

/-- THE SECOND FORM's CARD OF 'outcrylaw.Played'. -/
def playedUptoCard : Claim7 := { stood := { row := playedUptoRow, standIns := [], harness := (true, "a0c72fbeb071846c2daab4295e476ab52d74046b3dc4babd5654fb85d3ad3645"), looks := true }, kinds := [], alts := [], laidByText := true, laidKinds := [.data], laidTests := true, laidLooks := .later }
def PlayedUptoCardSaid : Prop := Claim7.holds Tryz.pinned (.plain (OpenSpec.upto playedSpec)) playedUptoCard

/-- THE SECOND FORM's CARD OF 'outcrykeep.Codes'. -/
def codesUptoCard : Claim7 := { stood := { row := codesUptoRow, standIns := [], harness := (true, "a0c72fbeb071846c2daab4295e476ab52d74046b3dc4babd5654fb85d3ad3645"), looks := true }, kinds := [], alts := [], laidByText := true, laidKinds := [.data], laidTests := true, laidLooks := .later }
def CodesUptoCardSaid : Prop := Claim7.holds Tryz.pinned (.plain (OpenSpec.upto codesSpec)) codesUptoCard

/-- THE SECOND FORM's CARD OF 'outcrykeep.Audit'. -/
def auditUptoCard : Claim7 := { stood := { row := auditUptoRow, standIns := [], harness := (true, "a0c72fbeb071846c2daab4295e476ab52d74046b3dc4babd5654fb85d3ad3645"), looks := true }, kinds := [], alts := [], laidByText := true, laidKinds := [.data], laidTests := true, laidLooks := .later }
def AuditUptoCardSaid : Prop := Claim7.holds Tryz.pinned (.plain (OpenSpec.upto auditSpec)) auditUptoCard

/-- THE SECOND FORM's CARD OF 'outcrykeep.Refused'. -/
def refusedUptoCard : Claim7 := { stood := { row := refusedUptoRow, standIns := [], harness := (true, "a0c72fbeb071846c2daab4295e476ab52d74046b3dc4babd5654fb85d3ad3645"), looks := true }, kinds := [], alts := [], laidByText := true, laidKinds := [.data], laidTests := true, laidLooks := .later }
def RefusedUptoCardSaid : Prop := Claim7.holds Tryz.pinned (.plain (OpenSpec.upto refusedSpec)) refusedUptoCard

/-- THE SECOND FORM's CARD OF 'outcrykeep.Apart'. -/
def apartUptoCard : Claim7 := { stood := { row := apartUptoRow, standIns := [], harness := (true, "a0c72fbeb071846c2daab4295e476ab52d74046b3dc4babd5654fb85d3ad3645"), looks := true }, kinds := [], alts := [], laidByText := true, laidKinds := [.data], laidTests := true, laidLooks := .later }
def ApartUptoCardSaid : Prop := Claim7.holds Tryz.pinned (.plain (OpenSpec.upto apartSpec)) apartUptoCard

/-- THE SECOND FORM's CARD OF 'outcrykeep.Uncrossed'. -/
def uncrossedUptoCard : Claim7 := { stood := { row := uncrossedUptoRow, standIns := [], harness := (true, "a0c72fbeb071846c2daab4295e476ab52d74046b3dc4babd5654fb85d3ad3645"), looks := true }, kinds := [], alts := [], laidByText := true, laidKinds := [.data], laidTests := true, laidLooks := .later }
def UncrossedUptoCardSaid : Prop := Claim7.holds Tryz.pinned (.plain (OpenSpec.upto uncrossedSpec)) uncrossedUptoCard

/-- THE SECOND FORM's CARD OF 'outcrykeep.Ticks'. -/
def ticksUptoCard : Claim7 := { stood := { row := ticksUptoRow, standIns := [], harness := (true, "a0c72fbeb071846c2daab4295e476ab52d74046b3dc4babd5654fb85d3ad3645"), looks := true }, kinds := [], alts := [], laidByText := true, laidKinds := [.data], laidTests := true, laidLooks := .later }
def TicksUptoCardSaid : Prop := Claim7.holds Tryz.pinned (.plain (OpenSpec.upto ticksSpec)) ticksUptoCard

/-- THE SECOND FORM's CARD OF 'outcrylaw.All'. -/
def allUptoCard : Claim7 := { stood := { row := allUptoRow, standIns := [], harness := (true, "a0c72fbeb071846c2daab4295e476ab52d74046b3dc4babd5654fb85d3ad3645"), looks := true }, kinds := [], alts := [], laidByText := true, laidKinds := [.data], laidTests := true, laidLooks := .later }
def AllUptoCardSaid : Prop := Claim7.holds Tryz.pinned (.plain (OpenSpec.upto allSpec)) allUptoCard
end Rows
end Go.Proofs.YtmiiejinahnpkaaGreatDoor
