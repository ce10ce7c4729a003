/-
  NARROWER THAN 'FOR EVERY INPUT', by the rows' own cells (each row's printed sentence says how): Survives: laid · Compacts: laid · All: laid.
  DERIVED. THE GIVEN ROWS OF THIS SEAT. 3 by the template 'for every input the law returns true; each argument reads behind the call as it read before'; 0 by the template 'total and deterministic' (their statements: YtdajolpoiffimabGreatDoorTotals.lean).
  GIVEN WITH THE SEED: the statements are not yours to turn. If you find one false, say at which input.
  Laid BY PROGRAM, IN A SANDBOX (cutbox-rows.mjs): the forced cells as the released guide's own fill.sh prints them over the translation 5ea8e56b203e7c21… (all of the seat's roots in one cut). By AI agents, Wed Nov 11 2026. No macro, syntax, notation, axiom, sorry.
-/
import Derived.Test.YtdajolpoiffimabGreatDoorChecked
import GoSem.Claim
import GoSem.ClaimJoined
import GoSem.ClaimMapViews
import Derived.JoinedTies
import Derived.KernelRfl
namespace Go.Proofs.YtdajolpoiffimabGreatDoor
/- THE CELL 'sum', in the pinned program and in every row, IS THE sha256 OF THE DUMP (.gsa) THAT YtdajolpoiffimabGreatDoorProg.lean LOADS. Nothing in Lean hashes anything: it is a label: what it is worth is what the hold of that sum in a sandbox is worth. -/
noncomputable def Tryz.pinned : Pinned := { name := "ytdajolpoiffimabgreatdoor", sum := "5ea8e56b203e7c21472efbd81e8092f2e493704293e24ba762b71fb95df21f36", checked := Tryz.checked }
namespace Rows
def none {H : Type} : Left H := { results := [], args := [] }

/- WHAT THE LISTED PACKAGE-LEVEL VARIABLES READ AS WHEN THE CALL BEGINS. Each datum BY PROGRAM (the guide's laid-datum.mjs) off the statement by which the dump's own 'gosem.cut.vars' lays the variable. In a bare row this is a premise. The card (YtdajolpoiffimabGreatDoorCards.lean) ties it to the program's text. -/
def laid_bellman_calendar_monthLengths {H : Type} : DataW H := .agg [.lit (.int .i64 31), .lit (.int .i64 28), .lit (.int .i64 31), .lit (.int .i64 30), .lit (.int .i64 31), .lit (.int .i64 30), .lit (.int .i64 31), .lit (.int .i64 31), .lit (.int .i64 30), .lit (.int .i64 31), .lit (.int .i64 30), .lit (.int .i64 31)]
def laid_bellman_crontab_leastValues {H : Type} : DataW H := .agg [.lit (.int .i64 0), .lit (.int .i64 0), .lit (.int .i64 1), .lit (.int .i64 1), .lit (.int .i64 0)]
def laid_bellman_crontab_greatestValues {H : Type} : DataW H := .agg [.lit (.int .i64 59), .lit (.int .i64 23), .lit (.int .i64 31), .lit (.int .i64 12), .lit (.int .i64 6)]

/-- 'bellmankeep.Survives': WHATEVER THE INPUT: true; the input reads as it did. -/
def survivesSpec : ChangeSpec := { name := "survives", fn := fun _ => fun
  | [d1, d2, d3, d4] => { results := [.lit (.bool true)], args := [d1, d2, d3, d4] }
  | _ => none }
def survivesRow : OpenClaim := { program := "ytdajolpoiffimabgreatdoor", sum := "5ea8e56b203e7c21472efbd81e8092f2e493704293e24ba762b71fb95df21f36", func := "bellman/bellmankeep.Survives", spec := "survives", named := ["bellman/crontab.leastValues", "bellman/crontab.greatestValues", "bellman/calendar.monthLengths"], apart := false, laid := [("bellman/calendar.monthLengths", laid_bellman_calendar_monthLengths), ("bellman/crontab.leastValues", laid_bellman_crontab_leastValues), ("bellman/crontab.greatestValues", laid_bellman_crontab_greatestValues)] }
def SurvivesSaid : Prop := survivesRow.holds Tryz.pinned (OpenSpec.ofChange survivesSpec)

/-- ITS FALSE NEIGHBOUR: 'it returns false'. Refute it at one input. -/
def survivesWrong : ChangeSpec := { name := "survives", fn := fun _ => fun
  | [d1, d2, d3, d4] => { results := [.lit (.bool false)], args := [d1, d2, d3, d4] }
  | _ => none }
def SurvivesWrongFalsely : Prop := survivesRow.holds Tryz.pinned (OpenSpec.ofChange survivesWrong)

/-- 'bellmankeep.Compacts': WHATEVER THE INPUT: true; the input reads as it did. -/
def compactsSpec : ChangeSpec := { name := "compacts", fn := fun _ => fun
  | [d1, d2, d3] => { results := [.lit (.bool true)], args := [d1, d2, d3] }
  | _ => none }
def compactsRow : OpenClaim := { program := "ytdajolpoiffimabgreatdoor", sum := "5ea8e56b203e7c21472efbd81e8092f2e493704293e24ba762b71fb95df21f36", func := "bellman/bellmankeep.Compacts", spec := "compacts", named := ["bellman/crontab.leastValues", "bellman/crontab.greatestValues", "bellman/calendar.monthLengths"], apart := false, laid := [("bellman/calendar.monthLengths", laid_bellman_calendar_monthLengths), ("bellman/crontab.leastValues", laid_bellman_crontab_leastValues), ("bellman/crontab.greatestValues", laid_bellman_crontab_greatestValues)] }
def CompactsSaid : Prop := compactsRow.holds Tryz.pinned (OpenSpec.ofChange compactsSpec)

/-- ITS FALSE NEIGHBOUR: 'it returns false'. Refute it at one input. -/
def compactsWrong : ChangeSpec := { name := "compacts", fn := fun _ => fun
  | [d1, d2, d3] => { results := [.lit (.bool false)], args := [d1, d2, d3] }
  | _ => none }
def CompactsWrongFalsely : Prop := compactsRow.holds Tryz.pinned (OpenSpec.ofChange compactsWrong)

/-- 'bellmanlaw.All': WHATEVER THE INPUT: true; the input reads as it did. -/
def allSpec : ChangeSpec := { name := "all", fn := fun _ => fun
  | [d1, d2, d3] => { results := [.lit (.bool true)], args := [d1, d2, d3] }
  | _ => none }
def allRow : OpenClaim := { program := "ytdajolpoiffimabgreatdoor", sum := "5ea8e56b203e7c21472efbd81e8092f2e493704293e24ba762b71fb95df21f36", func := "bellman/bellmanlaw.All", spec := "all", recurses := true, named := ["bellman/crontab.leastValues", "bellman/crontab.greatestValues", "bellman/calendar.monthLengths"], apart := false, laid := [("bellman/calendar.monthLengths", laid_bellman_calendar_monthLengths), ("bellman/crontab.leastValues", laid_bellman_crontab_leastValues), ("bellman/crontab.greatestValues", laid_bellman_crontab_greatestValues)] }
def AllSaid : Prop := allRow.holds Tryz.pinned (OpenSpec.ofChange allSpec)

/-- ITS FALSE NEIGHBOUR: 'it returns false'. Refute it at one input. -/
def allWrong : ChangeSpec := { name := "all", fn := fun _ => fun
  | [d1, d2, d3] => { results := [.lit (.bool false)], args := [d1, d2, d3] }
  | _ => none }
def AllWrongFalsely : Prop := allRow.holds Tryz.pinned (OpenSpec.ofChange allWrong)

/- THE SECOND FORM. 'bulk': how many values and letters a reading holds, each counted each time it is reached (what is shared counts as often as it is met; a slice's spare places count too). A statement '..UptoSaid' is the law's where the arguments, and the package variables that the reading takes, are together of bulk at most 1048576: NARROWER than '..Said'. Prove '..Said' where nothing that the law and all that it calls make is longer than what came in: it says more and counts as full. Else prove '..UptoSaid'. A law counts once. -/
mutual
def uptoBulk {H : Type} : DataW H → Nat
  | .lit (.string bytes) => bytes.length + 1
  | .lit _ => 1
  | .nil => 1
  | .ptr d => uptoBulk d + 1
  | .slice elems spare => uptoBulkAll elems + uptoBulkAll spare + 1
  | .agg parts => uptoBulkAll parts + 1
  | .iface _ d => uptoBulk d + 1
  | .map entries => uptoBulkEntries entries + 1
  | .held _ => 1
def uptoBulkAll {H : Type} : List (DataW H) → Nat
  | [] => 0
  | d :: r => uptoBulk d + uptoBulkAll r
def uptoBulkEntries {H : Type} : List (Lit × DataW H) → Nat
  | [] => 0
  | x :: r => uptoBulkEntry x + uptoBulkEntries r
def uptoBulkEntry {H : Type} : Lit × DataW H → Nat
  | (.string bytes, d) => bytes.length + uptoBulk d + 1
  | (_, d) => uptoBulk d + 1
 end
def uptoSmall : (H : Type) → List (DataW H) → Bool := fun _ ds => decide (uptoBulkAll ds ≤ 1048576)
def OpenSpec.upto (s : _root_.Go.ChangeSpec) : _root_.Go.OpenSpec := { _root_.Go.OpenSpec.ofChange s with cond := some uptoSmall }

/-- 'bellmankeep.Survives', WHERE WHAT IT READS IS OF BULK AT MOST 1048576: true; the input reads as it did. -/
def survivesUptoRow : OpenClaim := { program := "ytdajolpoiffimabgreatdoor", sum := "5ea8e56b203e7c21472efbd81e8092f2e493704293e24ba762b71fb95df21f36", func := "bellman/bellmankeep.Survives", spec := "survives", named := ["bellman/crontab.leastValues", "bellman/crontab.greatestValues", "bellman/calendar.monthLengths"], apart := false, laid := [("bellman/calendar.monthLengths", laid_bellman_calendar_monthLengths), ("bellman/crontab.leastValues", laid_bellman_crontab_leastValues), ("bellman/crontab.greatestValues", laid_bellman_crontab_greatestValues)], narrowed := true }
def SurvivesUptoSaid : Prop := survivesUptoRow.holds Tryz.pinned (OpenSpec.upto survivesSpec)

/-- 'bellmankeep.Compacts', WHERE WHAT IT READS IS OF BULK AT MOST 1048576: true; the input reads as it did. -/
def compactsUptoRow : OpenClaim := { program := "ytdajolpoiffimabgreatdoor", sum := "5ea8e56b203e7c21472efbd81e8092f2e493704293e24ba762b71fb95df21f36", func := "bellman/bellmankeep.Compacts", spec := "compacts", named := ["bellman/crontab.leastValues", "bellman/crontab.greatestValues", "bellman/calendar.monthLengths"], apart := false, laid := [("bellman/calendar.monthLengths", laid_bellman_calendar_monthLengths), ("bellman/crontab.leastValues", laid_bellman_crontab_leastValues), ("bellman/crontab.greatestValues", laid_bellman_crontab_greatestValues)], narrowed := true }
def CompactsUptoSaid : Prop := compactsUptoRow.holds Tryz.pinned (OpenSpec.upto compactsSpec)

/-- 'bellmanlaw.All', WHERE WHAT IT READS IS OF BULK AT MOST 1048576: true; the input reads as it did. -/
def allUptoRow : OpenClaim := { program := "ytdajolpoiffimabgreatdoor", sum := "5ea8e56b203e7c21472efbd81e8092f2e493704293e24ba762b71fb95df21f36", func := "bellman/bellmanlaw.All", spec := "all", recurses := true, named := ["bellman/crontab.leastValues", "bellman/crontab.greatestValues", "bellman/calendar.monthLengths"], apart := false, laid := [("bellman/calendar.monthLengths", laid_bellman_calendar_monthLengths), ("bellman/crontab.leastValues", laid_bellman_crontab_leastValues), ("bellman/crontab.greatestValues", laid_bellman_crontab_greatestValues)], narrowed := true }
def AllUptoSaid : Prop := allUptoRow.holds Tryz.pinned (OpenSpec.upto allSpec)

end Rows
end Go.Proofs.YtdajolpoiffimabGreatDoor
