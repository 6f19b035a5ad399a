/-
  DERIVED. GIVEN WITH THE SEED: THE CARDS: each row of YtokaoplkodihnaaGreatDoorRows.lean that lists a variable, with what it lists TIED to the program's text (the seventh form; the later family's looks); each row that meets fmt, with fmt's text TOLD by the authors' own Lean function (tested against real Go, not proved from fmt's source: count such statements apart). THE CARD IS WHAT COUNTS. Prove the row's statement (the work); the ties are given (YtokaoplkodihnaaGreatDoorTie.lean); close each card by the builder's one call (the guide's Derived/Test/ToyasCard.lean, 'card_holds'). Laid BY PROGRAM, IN A SANDBOX (cutbox-door.mjs). By AI agents, Wed Nov 11 2026. No macro, syntax, notation, axiom, sorry.
-/
import Derived.Test.YtokaoplkodihnaaGreatDoorRows
import GoSem.ClaimSeven
namespace Go.Proofs.YtokaoplkodihnaaGreatDoor
namespace Rows

/-- THE TIED CARD OF 'outcrylaw.Coded'. -/
def codedCard : Claim7 := { stood := { row := codedRow, standIns := [], harness := (true, "f3fb2635510cb683ef5151428a543ecc11afeb08a148911ca2549101e68c0526"), looks := true }, kinds := [], alts := [], laidByText := true, laidKinds := [.data], laidTests := true, laidLooks := .later }
def CodedCardSaid : Prop := Claim7.holds Tryz.pinned (.plain (OpenSpec.ofChange codedSpec)) codedCard

/-- THE TIED CARD OF 'outcrylaw.Calls'. -/
def callsCard : Claim7 := { stood := { row := callsRow, standIns := [], harness := (true, "f3fb2635510cb683ef5151428a543ecc11afeb08a148911ca2549101e68c0526"), looks := true }, kinds := [], alts := [], laidByText := true, laidKinds := [.data], laidTests := true, laidLooks := .later }
def CallsCardSaid : Prop := Claim7.holds Tryz.pinned (.plain (OpenSpec.ofChange callsSpec)) callsCard

/-- THE TIED CARD OF 'outcrylaw.Played'. -/
def playedCard : Claim7 := { stood := { row := playedRow, standIns := [], harness := (true, "f3fb2635510cb683ef5151428a543ecc11afeb08a148911ca2549101e68c0526"), looks := true }, kinds := [], alts := [], laidByText := true, laidKinds := [.data], laidTests := true, laidLooks := .later }
def PlayedCardSaid : Prop := Claim7.holds Tryz.pinned (.plain (OpenSpec.ofChange playedSpec)) playedCard

/-- THE TIED CARD OF 'outcrylaw.All'. -/
def allCard : Claim7 := { stood := { row := allRow, standIns := [], harness := (true, "f3fb2635510cb683ef5151428a543ecc11afeb08a148911ca2549101e68c0526"), looks := true }, kinds := [], alts := [], laidByText := true, laidKinds := [.data], laidTests := true, laidLooks := .later }
def AllCardSaid : Prop := Claim7.holds Tryz.pinned (.plain (OpenSpec.ofChange allSpec)) allCard

/-- THE SECOND FORM's CARD OF 'outcrylaw.Coded'. -/
def codedUptoCard : Claim7 := { stood := { row := codedUptoRow, standIns := [], harness := (true, "f3fb2635510cb683ef5151428a543ecc11afeb08a148911ca2549101e68c0526"), looks := true }, kinds := [], alts := [], laidByText := true, laidKinds := [.data], laidTests := true, laidLooks := .later }
def CodedUptoCardSaid : Prop := Claim7.holds Tryz.pinned (.plain (OpenSpec.upto codedSpec)) codedUptoCard

/-- THE SECOND FORM's CARD OF 'outcrylaw.Calls'. -/
def callsUptoCard : Claim7 := { stood := { row := callsUptoRow, standIns := [], harness := (true, "f3fb2635510cb683ef5151428a543ecc11afeb08a148911ca2549101e68c0526"), looks := true }, kinds := [], alts := [], laidByText := true, laidKinds := [.data], laidTests := true, laidLooks := .later }
def CallsUptoCardSaid : Prop := Claim7.holds Tryz.pinned (.plain (OpenSpec.upto callsSpec)) callsUptoCard

/-- THE SECOND FORM's CARD OF 'outcrylaw.Played'. -/
def playedUptoCard : Claim7 := { stood := { row := playedUptoRow, standIns := [], harness := (true, "f3fb2635510cb683ef5151428a543ecc11afeb08a148911ca2549101e68c0526"), looks := true }, kinds := [], alts := [], laidByText := true, laidKinds := [.data], laidTests := true, laidLooks := .later }
def PlayedUptoCardSaid : Prop := Claim7.holds Tryz.pinned (.plain (OpenSpec.upto playedSpec)) playedUptoCard

/-- THE SECOND FORM's CARD OF 'outcrylaw.All'. -/
def allUptoCard : Claim7 := { stood := { row := allUptoRow, standIns := [], harness := (true, "f3fb2635510cb683ef5151428a543ecc11afeb08a148911ca2549101e68c0526"), looks := true }, kinds := [], alts := [], laidByText := true, laidKinds := [.data], laidTests := true, laidLooks := .later }
def AllUptoCardSaid : Prop := Claim7.holds Tryz.pinned (.plain (OpenSpec.upto allSpec)) allUptoCard
end Rows
end Go.Proofs.YtokaoplkodihnaaGreatDoor
