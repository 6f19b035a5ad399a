/-
  NARROWER THAN 'FOR EVERY INPUT', by the rows' own cells (each row's printed sentence says how): Coded: laid · Calls: laid · Played: laid · Codes: laid · Audit: laid · Refused: laid · Apart: laid · Uncrossed: laid · Ticks: laid · All: laid.
  DERIVED. THE GIVEN ROWS OF THIS SEAT. 10 by the template 'for every input the law returns true; each argument reads behind the call as it read before'; 0 by the template 'total and deterministic' (their statements: YtmiiejinahnpkaaGreatDoorTotals.lean).
  GIVEN WITH THE SEED: the statements are not yours to turn. If you find one false, say at which input.
  Laid BY PROGRAM, IN A SANDBOX (cutbox-rows.mjs): the forced cells as the released guide's own fill.sh prints them over the translation 628abdaf0a009e9d… (all of the seat's roots in one cut). By AI agents, Wed Nov 11 2026. No macro, syntax, notation, axiom, sorry.
-/
import Derived.Test.YtmiiejinahnpkaaGreatDoorChecked
import GoSem.Claim
import GoSem.ClaimJoined
import GoSem.ClaimMapViews
import Derived.JoinedTies
import Derived.KernelRfl
namespace Go.Proofs.YtmiiejinahnpkaaGreatDoor
/- THE CELL 'sum', in the pinned program and in every row, IS THE sha256 OF THE DUMP (.gsa) THAT YtmiiejinahnpkaaGreatDoorProg.lean LOADS. Nothing in Lean hashes anything: it is a label: what it is worth is what the hold of that sum in a sandbox is worth. -/
noncomputable def Tryz.pinned : Pinned := { name := "ytmiiejinahnpkaagreatdoor", sum := "628abdaf0a009e9d6167458a4bfc2d82e5b3707132764ce66318b917673224ce", checked := Tryz.checked }
namespace Rows
def none {H : Type} : Left H := { results := [], args := [] }

/- WHAT THE LISTED PACKAGE-LEVEL VARIABLES READ AS WHEN THE CALL BEGINS. Each datum BY PROGRAM (the guide's laid-datum.mjs) off the statement by which the dump's own 'gosem.cut.vars' lays the variable. In a bare row this is a premise. The card (YtmiiejinahnpkaaGreatDoorCards.lean) ties it to the program's text. -/
def laid_outcry_wire_layouts {H : Type} : DataW H := .agg [.nil, .slice [.lit (.int .i64 0), .lit (.int .i64 4)] [], .slice [.lit (.int .i64 0), .lit (.int .i64 1)] [], .slice [.lit (.int .i64 2), .lit (.int .i64 3), .lit (.int .i64 4), .lit (.int .i64 5)] [], .slice [.lit (.int .i64 0), .lit (.int .i64 4)] [], .slice [.lit (.int .i64 0), .lit (.int .i64 4)] [], .slice [.lit (.int .i64 5), .lit (.int .i64 4), .lit (.int .i64 6)] [], .slice [.lit (.int .i64 5), .lit (.int .i64 4), .lit (.int .i64 6)] [], .slice [.lit (.int .i64 7)] []]

/-- 'outcrylaw.Coded': WHATEVER THE INPUT: true; the input reads as it did. -/
def codedSpec : ChangeSpec := { name := "coded", fn := fun _ => fun
  | [d] => { results := [.lit (.bool true)], args := [d] }
  | _ => none }
def codedRow : OpenClaim := { program := "ytmiiejinahnpkaagreatdoor", sum := "628abdaf0a009e9d6167458a4bfc2d82e5b3707132764ce66318b917673224ce", func := "outcry/outcrylaw.Coded", spec := "coded", inPlace := ["slices.overlaps[*outcry/book.Order]"], unfollowed := true, recurses := true, named := ["outcry/wire.layouts"], apart := false, laid := [("outcry/wire.layouts", laid_outcry_wire_layouts)] }
def CodedSaid : Prop := codedRow.holds Tryz.pinned (OpenSpec.ofChange codedSpec)

/-- ITS FALSE NEIGHBOUR: 'it returns false'. Refute it at one input. -/
def codedWrong : ChangeSpec := { name := "coded", fn := fun _ => fun
  | [d] => { results := [.lit (.bool false)], args := [d] }
  | _ => none }
def CodedWrongFalsely : Prop := codedRow.holds Tryz.pinned (OpenSpec.ofChange codedWrong)

/-- 'outcrylaw.Calls': WHATEVER THE INPUT: true; the input reads as it did. -/
def callsSpec : ChangeSpec := { name := "calls", fn := fun _ => fun
  | [d1, d2] => { results := [.lit (.bool true)], args := [d1, d2] }
  | _ => none }
def callsRow : OpenClaim := { program := "ytmiiejinahnpkaagreatdoor", sum := "628abdaf0a009e9d6167458a4bfc2d82e5b3707132764ce66318b917673224ce", func := "outcry/outcrylaw.Calls", spec := "calls", inPlace := ["slices.overlaps[*outcry/book.Order]"], unfollowed := true, recurses := true, named := ["outcry/wire.layouts"], apart := false, laid := [("outcry/wire.layouts", laid_outcry_wire_layouts)] }
def CallsSaid : Prop := callsRow.holds Tryz.pinned (OpenSpec.ofChange callsSpec)

/-- ITS FALSE NEIGHBOUR: 'it returns false'. Refute it at one input. -/
def callsWrong : ChangeSpec := { name := "calls", fn := fun _ => fun
  | [d1, d2] => { results := [.lit (.bool false)], args := [d1, d2] }
  | _ => none }
def CallsWrongFalsely : Prop := callsRow.holds Tryz.pinned (OpenSpec.ofChange callsWrong)

/-- 'outcrylaw.Played': WHATEVER THE INPUT: true; the input reads as it did. -/
def playedSpec : ChangeSpec := { name := "played", fn := fun _ => fun
  | [d1, d2] => { results := [.lit (.bool true)], args := [d1, d2] }
  | _ => none }
def playedRow : OpenClaim := { program := "ytmiiejinahnpkaagreatdoor", sum := "628abdaf0a009e9d6167458a4bfc2d82e5b3707132764ce66318b917673224ce", func := "outcry/outcrylaw.Played", spec := "played", inPlace := ["slices.overlaps[*outcry/book.Order]"], unfollowed := true, recurses := true, named := ["outcry/wire.layouts"], apart := false, laid := [("outcry/wire.layouts", laid_outcry_wire_layouts)] }
def PlayedSaid : Prop := playedRow.holds Tryz.pinned (OpenSpec.ofChange playedSpec)

/-- ITS FALSE NEIGHBOUR: 'it returns false'. Refute it at one input. -/
def playedWrong : ChangeSpec := { name := "played", fn := fun _ => fun
  | [d1, d2] => { results := [.lit (.bool false)], args := [d1, d2] }
  | _ => none }
def PlayedWrongFalsely : Prop := playedRow.holds Tryz.pinned (OpenSpec.ofChange playedWrong)

/-- 'outcrykeep.Codes': WHATEVER THE INPUT: true; the input reads as it did. -/
def codesSpec : ChangeSpec := { name := "codes", fn := fun _ => fun
  | [d1, d2] => { results := [.lit (.bool true)], args := [d1, d2] }
  | _ => none }
def codesRow : OpenClaim := { program := "ytmiiejinahnpkaagreatdoor", sum := "628abdaf0a009e9d6167458a4bfc2d82e5b3707132764ce66318b917673224ce", func := "outcry/outcrykeep.Codes", spec := "codes", inPlace := ["slices.overlaps[*outcry/book.Order]"], unfollowed := true, recurses := true, named := ["outcry/wire.layouts"], apart := false, laid := [("outcry/wire.layouts", laid_outcry_wire_layouts)] }
def CodesSaid : Prop := codesRow.holds Tryz.pinned (OpenSpec.ofChange codesSpec)

/-- ITS FALSE NEIGHBOUR: 'it returns false'. Refute it at one input. -/
def codesWrong : ChangeSpec := { name := "codes", fn := fun _ => fun
  | [d1, d2] => { results := [.lit (.bool false)], args := [d1, d2] }
  | _ => none }
def CodesWrongFalsely : Prop := codesRow.holds Tryz.pinned (OpenSpec.ofChange codesWrong)

/-- 'outcrykeep.Audit': WHATEVER THE INPUT: true; the input reads as it did. -/
def auditSpec : ChangeSpec := { name := "audit", fn := fun _ => fun
  | [d1, d2] => { results := [.lit (.bool true)], args := [d1, d2] }
  | _ => none }
def auditRow : OpenClaim := { program := "ytmiiejinahnpkaagreatdoor", sum := "628abdaf0a009e9d6167458a4bfc2d82e5b3707132764ce66318b917673224ce", func := "outcry/outcrykeep.Audit", spec := "audit", inPlace := ["slices.overlaps[*outcry/book.Order]"], unfollowed := true, recurses := true, named := ["outcry/wire.layouts"], apart := false, laid := [("outcry/wire.layouts", laid_outcry_wire_layouts)] }
def AuditSaid : Prop := auditRow.holds Tryz.pinned (OpenSpec.ofChange auditSpec)

/-- ITS FALSE NEIGHBOUR: 'it returns false'. Refute it at one input. -/
def auditWrong : ChangeSpec := { name := "audit", fn := fun _ => fun
  | [d1, d2] => { results := [.lit (.bool false)], args := [d1, d2] }
  | _ => none }
def AuditWrongFalsely : Prop := auditRow.holds Tryz.pinned (OpenSpec.ofChange auditWrong)

/-- 'outcrykeep.Refused': WHATEVER THE INPUT: true; the input reads as it did. -/
def refusedSpec : ChangeSpec := { name := "refused", fn := fun _ => fun
  | [d1, d2] => { results := [.lit (.bool true)], args := [d1, d2] }
  | _ => none }
def refusedRow : OpenClaim := { program := "ytmiiejinahnpkaagreatdoor", sum := "628abdaf0a009e9d6167458a4bfc2d82e5b3707132764ce66318b917673224ce", func := "outcry/outcrykeep.Refused", spec := "refused", inPlace := ["slices.overlaps[*outcry/book.Order]"], unfollowed := true, recurses := true, named := ["outcry/wire.layouts"], apart := false, laid := [("outcry/wire.layouts", laid_outcry_wire_layouts)] }
def RefusedSaid : Prop := refusedRow.holds Tryz.pinned (OpenSpec.ofChange refusedSpec)

/-- ITS FALSE NEIGHBOUR: 'it returns false'. Refute it at one input. -/
def refusedWrong : ChangeSpec := { name := "refused", fn := fun _ => fun
  | [d1, d2] => { results := [.lit (.bool false)], args := [d1, d2] }
  | _ => none }
def RefusedWrongFalsely : Prop := refusedRow.holds Tryz.pinned (OpenSpec.ofChange refusedWrong)

/-- 'outcrykeep.Apart': WHATEVER THE INPUT: true; the input reads as it did. -/
def apartSpec : ChangeSpec := { name := "apart", fn := fun _ => fun
  | [d1, d2] => { results := [.lit (.bool true)], args := [d1, d2] }
  | _ => none }
def apartRow : OpenClaim := { program := "ytmiiejinahnpkaagreatdoor", sum := "628abdaf0a009e9d6167458a4bfc2d82e5b3707132764ce66318b917673224ce", func := "outcry/outcrykeep.Apart", spec := "apart", inPlace := ["slices.overlaps[*outcry/book.Order]"], unfollowed := true, recurses := true, named := ["outcry/wire.layouts"], apart := false, laid := [("outcry/wire.layouts", laid_outcry_wire_layouts)] }
def ApartSaid : Prop := apartRow.holds Tryz.pinned (OpenSpec.ofChange apartSpec)

/-- ITS FALSE NEIGHBOUR: 'it returns false'. Refute it at one input. -/
def apartWrong : ChangeSpec := { name := "apart", fn := fun _ => fun
  | [d1, d2] => { results := [.lit (.bool false)], args := [d1, d2] }
  | _ => none }
def ApartWrongFalsely : Prop := apartRow.holds Tryz.pinned (OpenSpec.ofChange apartWrong)

/-- 'outcrykeep.Uncrossed': WHATEVER THE INPUT: true; the input reads as it did. -/
def uncrossedSpec : ChangeSpec := { name := "uncrossed", fn := fun _ => fun
  | [d1, d2, d3] => { results := [.lit (.bool true)], args := [d1, d2, d3] }
  | _ => none }
def uncrossedRow : OpenClaim := { program := "ytmiiejinahnpkaagreatdoor", sum := "628abdaf0a009e9d6167458a4bfc2d82e5b3707132764ce66318b917673224ce", func := "outcry/outcrykeep.Uncrossed", spec := "uncrossed", inPlace := ["slices.overlaps[*outcry/book.Order]"], unfollowed := true, recurses := true, named := ["outcry/wire.layouts"], apart := false, laid := [("outcry/wire.layouts", laid_outcry_wire_layouts)] }
def UncrossedSaid : Prop := uncrossedRow.holds Tryz.pinned (OpenSpec.ofChange uncrossedSpec)

/-- ITS FALSE NEIGHBOUR: 'it returns false'. Refute it at one input. -/
def uncrossedWrong : ChangeSpec := { name := "uncrossed", fn := fun _ => fun
  | [d1, d2, d3] => { results := [.lit (.bool false)], args := [d1, d2, d3] }
  | _ => none }
def UncrossedWrongFalsely : Prop := uncrossedRow.holds Tryz.pinned (OpenSpec.ofChange uncrossedWrong)

/-- 'outcrykeep.Ticks': WHATEVER THE INPUT: true; the input reads as it did. -/
def ticksSpec : ChangeSpec := { name := "ticks", fn := fun _ => fun
  | [d1, d2, d3] => { results := [.lit (.bool true)], args := [d1, d2, d3] }
  | _ => none }
def ticksRow : OpenClaim := { program := "ytmiiejinahnpkaagreatdoor", sum := "628abdaf0a009e9d6167458a4bfc2d82e5b3707132764ce66318b917673224ce", func := "outcry/outcrykeep.Ticks", spec := "ticks", inPlace := ["slices.overlaps[*outcry/book.Order]"], unfollowed := true, recurses := true, named := ["outcry/wire.layouts"], apart := false, laid := [("outcry/wire.layouts", laid_outcry_wire_layouts)] }
def TicksSaid : Prop := ticksRow.holds Tryz.pinned (OpenSpec.ofChange ticksSpec)

/-- ITS FALSE NEIGHBOUR: 'it returns false'. Refute it at one input. -/
def ticksWrong : ChangeSpec := { name := "ticks", fn := fun _ => fun
  | [d1, d2, d3] => { results := [.lit (.bool false)], args := [d1, d2, d3] }
  | _ => none }
def TicksWrongFalsely : Prop := ticksRow.holds Tryz.pinned (OpenSpec.ofChange ticksWrong)

/-- 'outcrylaw.All': WHATEVER THE INPUT: true; the input reads as it did. -/
def allSpec : ChangeSpec := { name := "all", fn := fun _ => fun
  | [d1, d2, d3] => { results := [.lit (.bool true)], args := [d1, d2, d3] }
  | _ => none }
def allRow : OpenClaim := { program := "ytmiiejinahnpkaagreatdoor", sum := "628abdaf0a009e9d6167458a4bfc2d82e5b3707132764ce66318b917673224ce", func := "outcry/outcrylaw.All", spec := "all", inPlace := ["slices.overlaps[*outcry/book.Order]"], unfollowed := true, recurses := true, named := ["outcry/wire.layouts"], apart := false, laid := [("outcry/wire.layouts", laid_outcry_wire_layouts)] }
def AllSaid : Prop := allRow.holds Tryz.pinned (OpenSpec.ofChange allSpec)

/-- ITS FALSE NEIGHBOUR: 'it returns false'. Refute it at one input. -/
def allWrong : ChangeSpec := { name := "all", fn := fun _ => fun
  | [d1, d2, d3] => { results := [.lit (.bool false)], args := [d1, d2, d3] }
  | _ => none }
def AllWrongFalsely : Prop := allRow.holds Tryz.pinned (OpenSpec.ofChange allWrong)

/- THE SECOND FORM. 'bulk': how many values and letters a reading holds, each counted each time it is reached (what is shared counts as often as it is met; a slice's spare places count too). A statement '..UptoSaid' is the law's where the arguments, and the package variables that the reading takes, are together of bulk at most 1048576: NARROWER than '..Said'. Prove '..Said' where nothing that the law and all that it calls make is longer than what came in: it says more and counts as full. Else prove '..UptoSaid'. A law counts once. -/
mutual
def uptoBulk {H : Type} : DataW H → Nat
  | .lit (.string bytes) => bytes.length + 1
  | .lit _ => 1
  | .nil => 1
  | .ptr d => uptoBulk d + 1
  | .slice elems spare => uptoBulkAll elems + uptoBulkAll spare + 1
  | .agg parts => uptoBulkAll parts + 1
  | .iface _ d => uptoBulk d + 1
  | .map entries => uptoBulkEntries entries + 1
  | .held _ => 1
def uptoBulkAll {H : Type} : List (DataW H) → Nat
  | [] => 0
  | d :: r => uptoBulk d + uptoBulkAll r
def uptoBulkEntries {H : Type} : List (Lit × DataW H) → Nat
  | [] => 0
  | x :: r => uptoBulkEntry x + uptoBulkEntries r
def uptoBulkEntry {H : Type} : Lit × DataW H → Nat
  | (.string bytes, d) => bytes.length + uptoBulk d + 1
  | (_, d) => uptoBulk d + 1
 end
def uptoSmall : (H : Type) → List (DataW H) → Bool := fun _ ds => decide (uptoBulkAll ds ≤ 1048576)
def OpenSpec.upto (s : _root_.Go.ChangeSpec) : _root_.Go.OpenSpec := { _root_.Go.OpenSpec.ofChange s with cond := some uptoSmall }

/-- 'outcrylaw.Coded', WHERE WHAT IT READS IS OF BULK AT MOST 1048576: true; the input reads as it did. -/
def codedUptoRow : OpenClaim := { program := "ytmiiejinahnpkaagreatdoor", sum := "628abdaf0a009e9d6167458a4bfc2d82e5b3707132764ce66318b917673224ce", func := "outcry/outcrylaw.Coded", spec := "coded", inPlace := ["slices.overlaps[*outcry/book.Order]"], unfollowed := true, recurses := true, named := ["outcry/wire.layouts"], apart := false, laid := [("outcry/wire.layouts", laid_outcry_wire_layouts)], narrowed := true }
def CodedUptoSaid : Prop := codedUptoRow.holds Tryz.pinned (OpenSpec.upto codedSpec)

/-- 'outcrylaw.Calls', WHERE WHAT IT READS IS OF BULK AT MOST 1048576: true; the input reads as it did. -/
def callsUptoRow : OpenClaim := { program := "ytmiiejinahnpkaagreatdoor", sum := "628abdaf0a009e9d6167458a4bfc2d82e5b3707132764ce66318b917673224ce", func := "outcry/outcrylaw.Calls", spec := "calls", inPlace := ["slices.overlaps[*outcry/book.Order]"], unfollowed := true, recurses := true, named := ["outcry/wire.layouts"], apart := false, laid := [("outcry/wire.layouts", laid_outcry_wire_layouts)], narrowed := true }
def CallsUptoSaid : Prop := callsUptoRow.holds Tryz.pinned (OpenSpec.upto callsSpec)

/-- 'outcrylaw.Played', WHERE WHAT IT READS IS OF BULK AT MOST 1048576: true; the input reads as it did. -/
def playedUptoRow : OpenClaim := { program := "ytmiiejinahnpkaagreatdoor", sum := "628abdaf0a009e9d6167458a4bfc2d82e5b3707132764ce66318b917673224ce", func := "outcry/outcrylaw.Played", spec := "played", inPlace := ["slices.overlaps[*outcry/book.Order]"], unfollowed := true, recurses := true, named := ["outcry/wire.layouts"], apart := false, laid := [("outcry/wire.layouts", laid_outcry_wire_layouts)], narrowed := true }
def PlayedUptoSaid : Prop := playedUptoRow.holds Tryz.pinned (OpenSpec.upto playedSpec)

/-- 'outcrykeep.Codes', WHERE WHAT IT READS IS OF BULK AT MOST 1048576: true; the input reads as it did. -/
def codesUptoRow : OpenClaim := { program := "ytmiiejinahnpkaagreatdoor", sum := "628abdaf0a009e9d6167458a4bfc2d82e5b3707132764ce66318b917673224ce", func := "outcry/outcrykeep.Codes", spec := "codes", inPlace := ["slices.overlaps[*outcry/book.Order]"], unfollowed := true, recurses := true, named := ["outcry/wire.layouts"], apart := false, laid := [("outcry/wire.layouts", laid_outcry_wire_layouts)], narrowed := true }
def CodesUptoSaid : Prop := codesUptoRow.holds Tryz.pinned (OpenSpec.upto codesSpec)

/-- 'outcrykeep.Audit', WHERE WHAT IT READS IS OF BULK AT MOST 1048576: true; the input reads as it did. -/
def auditUptoRow : OpenClaim := { program := "ytmiiejinahnpkaagreatdoor", sum := "628abdaf0a009e9d6167458a4bfc2d82e5b3707132764ce66318b917673224ce", func := "outcry/outcrykeep.Audit", spec := "audit", inPlace := ["slices.overlaps[*outcry/book.Order]"], unfollowed := true, recurses := true, named := ["outcry/wire.layouts"], apart := false, laid := [("outcry/wire.layouts", laid_outcry_wire_layouts)], narrowed := true }
def AuditUptoSaid : Prop := auditUptoRow.holds Tryz.pinned (OpenSpec.upto auditSpec)

/-- 'outcrykeep.Refused', WHERE WHAT IT READS IS OF BULK AT MOST 1048576: true; the input reads as it did. -/
def refusedUptoRow : OpenClaim := { program := "ytmiiejinahnpkaagreatdoor", sum := "628abdaf0a009e9d6167458a4bfc2d82e5b3707132764ce66318b917673224ce", func := "outcry/outcrykeep.Refused", spec := "refused", inPlace := ["slices.overlaps[*outcry/book.Order]"], unfollowed := true, recurses := true, named := ["outcry/wire.layouts"], apart := false, laid := [("outcry/wire.layouts", laid_outcry_wire_layouts)], narrowed := true }
def RefusedUptoSaid : Prop := refusedUptoRow.holds Tryz.pinned (OpenSpec.upto refusedSpec)

/-- 'outcrykeep.Apart', WHERE WHAT IT READS IS OF BULK AT MOST 1048576: true; the input reads as it did. -/
def apartUptoRow : OpenClaim := { program := "ytmiiejinahnpkaagreatdoor", sum := "628abdaf0a009e9d6167458a4bfc2d82e5b3707132764ce66318b917673224ce", func := "outcry/outcrykeep.Apart", spec := "apart", inPlace := ["slices.overlaps[*outcry/book.Order]"], unfollowed := true, recurses := true, named := ["outcry/wire.layouts"], apart := false, laid := [("outcry/wire.layouts", laid_outcry_wire_layouts)], narrowed := true }
def ApartUptoSaid : Prop := apartUptoRow.holds Tryz.pinned (OpenSpec.upto apartSpec)

/-- 'outcrykeep.Uncrossed', WHERE WHAT IT READS IS OF BULK AT MOST 1048576: true; the input reads as it did. -/
def uncrossedUptoRow : OpenClaim := { program := "ytmiiejinahnpkaagreatdoor", sum := "628abdaf0a009e9d6167458a4bfc2d82e5b3707132764ce66318b917673224ce", func := "outcry/outcrykeep.Uncrossed", spec := "uncrossed", inPlace := ["slices.overlaps[*outcry/book.Order]"], unfollowed := true, recurses := true, named := ["outcry/wire.layouts"], apart := false, laid := [("outcry/wire.layouts", laid_outcry_wire_layouts)], narrowed := true }
def UncrossedUptoSaid : Prop := uncrossedUptoRow.holds Tryz.pinned (OpenSpec.upto uncrossedSpec)

/-- 'outcrykeep.Ticks', WHERE WHAT IT READS IS OF BULK AT MOST 1048576: true; the input reads as it did. -/
def ticksUptoRow : OpenClaim := { program := "ytmiiejinahnpkaagreatdoor", sum := "628abdaf0a009e9d6167458a4bfc2d82e5b3707132764ce66318b917673224ce", func := "outcry/outcrykeep.Ticks", spec := "ticks", inPlace := ["slices.overlaps[*outcry/book.Order]"], unfollowed := true, recurses := true, named := ["outcry/wire.layouts"], apart := false, laid := [("outcry/wire.layouts", laid_outcry_wire_layouts)], narrowed := true }
def TicksUptoSaid : Prop := ticksUptoRow.holds Tryz.pinned (OpenSpec.upto ticksSpec)

/-- 'outcrylaw.All', WHERE WHAT IT READS IS OF BULK AT MOST 1048576: true; the input reads as it did. -/
def allUptoRow : OpenClaim := { program := "ytmiiejinahnpkaagreatdoor", sum := "628abdaf0a009e9d6167458a4bfc2d82e5b3707132764ce66318b917673224ce", func := "outcry/outcrylaw.All", spec := "all", inPlace := ["slices.overlaps[*outcry/book.Order]"], unfollowed := true, recurses := true, named := ["outcry/wire.layouts"], apart := false, laid := [("outcry/wire.layouts", laid_outcry_wire_layouts)], narrowed := true }
def AllUptoSaid : Prop := allUptoRow.holds Tryz.pinned (OpenSpec.upto allSpec)

end Rows
end Go.Proofs.YtmiiejinahnpkaaGreatDoor
