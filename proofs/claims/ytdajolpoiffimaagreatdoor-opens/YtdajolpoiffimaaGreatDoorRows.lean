/-
  NARROWER THAN 'FOR EVERY INPUT', by the rows' own cells (each row's printed sentence says how): Ticks: laid · Talks: laid · Opens: laid · Held: laid · Once: laid.
  DERIVED. THE GIVEN ROWS OF THIS SEAT. 5 by the template 'for every input the law returns true; each argument reads behind the call as it read before'; 0 by the template 'total and deterministic' (their statements: YtdajolpoiffimaaGreatDoorTotals.lean).
  GIVEN WITH THE SEED: the statements are not yours to turn. If you find one false, say at which input.
  Laid BY PROGRAM, IN A SANDBOX (cutbox-rows.mjs): the forced cells as the released guide's own fill.sh prints them over the translation bf90a333bfb521b4… (all of the seat's roots in one cut). By AI agents, Wed Nov 11 2026. No macro, syntax, notation, axiom, sorry.
-/
import Derived.Test.YtdajolpoiffimaaGreatDoorChecked
import GoSem.Claim
import GoSem.ClaimJoined
import GoSem.ClaimMapViews
import Derived.JoinedTies
import Derived.KernelRfl
namespace Go.Proofs.YtdajolpoiffimaaGreatDoor
/- THE CELL 'sum', in the pinned program and in every row, IS THE sha256 OF THE DUMP (.gsa) THAT YtdajolpoiffimaaGreatDoorProg.lean LOADS. Nothing in Lean hashes anything: it is a label: what it is worth is what the hold of that sum in a sandbox is worth. -/
noncomputable def Tryz.pinned : Pinned := { name := "ytdajolpoiffimaagreatdoor", sum := "bf90a333bfb521b4c824f4b1dfe7ca928b17f55c579131a47627e55fd1f06edb", checked := Tryz.checked }
namespace Rows
def none {H : Type} : Left H := { results := [], args := [] }

/- WHAT THE LISTED PACKAGE-LEVEL VARIABLES READ AS WHEN THE CALL BEGINS. Each datum BY PROGRAM (the guide's laid-datum.mjs) off the statement by which the dump's own 'gosem.cut.vars' lays the variable. In a bare row this is a premise. The card (YtdajolpoiffimaaGreatDoorCards.lean) ties it to the program's text. -/
def laid_bellman_calendar_monthLengths {H : Type} : DataW H := .agg [.lit (.int .i64 31), .lit (.int .i64 28), .lit (.int .i64 31), .lit (.int .i64 30), .lit (.int .i64 31), .lit (.int .i64 30), .lit (.int .i64 31), .lit (.int .i64 31), .lit (.int .i64 30), .lit (.int .i64 31), .lit (.int .i64 30), .lit (.int .i64 31)]
def laid_bellman_crontab_leastValues {H : Type} : DataW H := .agg [.lit (.int .i64 0), .lit (.int .i64 0), .lit (.int .i64 1), .lit (.int .i64 1), .lit (.int .i64 0)]
def laid_bellman_crontab_greatestValues {H : Type} : DataW H := .agg [.lit (.int .i64 59), .lit (.int .i64 23), .lit (.int .i64 31), .lit (.int .i64 12), .lit (.int .i64 6)]

/-- 'bellmanlaw.Ticks': WHATEVER THE INPUT: true; the input reads as it did. -/
def ticksSpec : ChangeSpec := { name := "ticks", fn := fun _ => fun
  | [d1, d2, d3] => { results := [.lit (.bool true)], args := [d1, d2, d3] }
  | _ => none }
def ticksRow : OpenClaim := { program := "ytdajolpoiffimaagreatdoor", sum := "bf90a333bfb521b4c824f4b1dfe7ca928b17f55c579131a47627e55fd1f06edb", func := "bellman/bellmanlaw.Ticks", spec := "ticks", recurses := true, named := ["bellman/crontab.leastValues", "bellman/crontab.greatestValues", "bellman/calendar.monthLengths"], apart := false, laid := [("bellman/calendar.monthLengths", laid_bellman_calendar_monthLengths), ("bellman/crontab.leastValues", laid_bellman_crontab_leastValues), ("bellman/crontab.greatestValues", laid_bellman_crontab_greatestValues)] }
def TicksSaid : Prop := ticksRow.holds Tryz.pinned (OpenSpec.ofChange ticksSpec)

/-- ITS FALSE NEIGHBOUR: 'it returns false'. Refute it at one input. -/
def ticksWrong : ChangeSpec := { name := "ticks", fn := fun _ => fun
  | [d1, d2, d3] => { results := [.lit (.bool false)], args := [d1, d2, d3] }
  | _ => none }
def TicksWrongFalsely : Prop := ticksRow.holds Tryz.pinned (OpenSpec.ofChange ticksWrong)

/-- 'bellmanlaw.Talks': WHATEVER THE INPUT: true; the input reads as it did. -/
def talksSpec : ChangeSpec := { name := "talks", fn := fun _ => fun
  | [d1, d2, d3] => { results := [.lit (.bool true)], args := [d1, d2, d3] }
  | _ => none }
def talksRow : OpenClaim := { program := "ytdajolpoiffimaagreatdoor", sum := "bf90a333bfb521b4c824f4b1dfe7ca928b17f55c579131a47627e55fd1f06edb", func := "bellman/bellmanlaw.Talks", spec := "talks", recurses := true, named := ["bellman/crontab.leastValues", "bellman/crontab.greatestValues", "bellman/calendar.monthLengths"], apart := false, laid := [("bellman/calendar.monthLengths", laid_bellman_calendar_monthLengths), ("bellman/crontab.leastValues", laid_bellman_crontab_leastValues), ("bellman/crontab.greatestValues", laid_bellman_crontab_greatestValues)] }
def TalksSaid : Prop := talksRow.holds Tryz.pinned (OpenSpec.ofChange talksSpec)

/-- ITS FALSE NEIGHBOUR: 'it returns false'. Refute it at one input. -/
def talksWrong : ChangeSpec := { name := "talks", fn := fun _ => fun
  | [d1, d2, d3] => { results := [.lit (.bool false)], args := [d1, d2, d3] }
  | _ => none }
def TalksWrongFalsely : Prop := talksRow.holds Tryz.pinned (OpenSpec.ofChange talksWrong)

/-- 'bellmanlaw.Opens': WHATEVER THE INPUT: true; the input reads as it did. -/
def opensSpec : ChangeSpec := { name := "opens", fn := fun _ => fun
  | [d1, d2, d3] => { results := [.lit (.bool true)], args := [d1, d2, d3] }
  | _ => none }
def opensRow : OpenClaim := { program := "ytdajolpoiffimaagreatdoor", sum := "bf90a333bfb521b4c824f4b1dfe7ca928b17f55c579131a47627e55fd1f06edb", func := "bellman/bellmanlaw.Opens", spec := "opens", recurses := true, named := ["bellman/crontab.leastValues", "bellman/crontab.greatestValues", "bellman/calendar.monthLengths"], apart := false, laid := [("bellman/calendar.monthLengths", laid_bellman_calendar_monthLengths), ("bellman/crontab.leastValues", laid_bellman_crontab_leastValues), ("bellman/crontab.greatestValues", laid_bellman_crontab_greatestValues)] }
def OpensSaid : Prop := opensRow.holds Tryz.pinned (OpenSpec.ofChange opensSpec)

/-- ITS FALSE NEIGHBOUR: 'it returns false'. Refute it at one input. -/
def opensWrong : ChangeSpec := { name := "opens", fn := fun _ => fun
  | [d1, d2, d3] => { results := [.lit (.bool false)], args := [d1, d2, d3] }
  | _ => none }
def OpensWrongFalsely : Prop := opensRow.holds Tryz.pinned (OpenSpec.ofChange opensWrong)

/-- 'bellmankeep.Held': WHATEVER THE INPUT: true; the input reads as it did. -/
def heldSpec : ChangeSpec := { name := "held", fn := fun _ => fun
  | [d1, d2] => { results := [.lit (.bool true)], args := [d1, d2] }
  | _ => none }
def heldRow : OpenClaim := { program := "ytdajolpoiffimaagreatdoor", sum := "bf90a333bfb521b4c824f4b1dfe7ca928b17f55c579131a47627e55fd1f06edb", func := "bellman/bellmankeep.Held", spec := "held", named := ["bellman/crontab.leastValues", "bellman/crontab.greatestValues", "bellman/calendar.monthLengths"], apart := false, laid := [("bellman/calendar.monthLengths", laid_bellman_calendar_monthLengths), ("bellman/crontab.leastValues", laid_bellman_crontab_leastValues), ("bellman/crontab.greatestValues", laid_bellman_crontab_greatestValues)] }
def HeldSaid : Prop := heldRow.holds Tryz.pinned (OpenSpec.ofChange heldSpec)

/-- ITS FALSE NEIGHBOUR: 'it returns false'. Refute it at one input. -/
def heldWrong : ChangeSpec := { name := "held", fn := fun _ => fun
  | [d1, d2] => { results := [.lit (.bool false)], args := [d1, d2] }
  | _ => none }
def HeldWrongFalsely : Prop := heldRow.holds Tryz.pinned (OpenSpec.ofChange heldWrong)

/-- 'bellmankeep.Once': WHATEVER THE INPUT: true; the input reads as it did. -/
def onceSpec : ChangeSpec := { name := "once", fn := fun _ => fun
  | [d1, d2] => { results := [.lit (.bool true)], args := [d1, d2] }
  | _ => none }
def onceRow : OpenClaim := { program := "ytdajolpoiffimaagreatdoor", sum := "bf90a333bfb521b4c824f4b1dfe7ca928b17f55c579131a47627e55fd1f06edb", func := "bellman/bellmankeep.Once", spec := "once", named := ["bellman/crontab.leastValues", "bellman/crontab.greatestValues", "bellman/calendar.monthLengths"], apart := false, laid := [("bellman/calendar.monthLengths", laid_bellman_calendar_monthLengths), ("bellman/crontab.leastValues", laid_bellman_crontab_leastValues), ("bellman/crontab.greatestValues", laid_bellman_crontab_greatestValues)] }
def OnceSaid : Prop := onceRow.holds Tryz.pinned (OpenSpec.ofChange onceSpec)

/-- ITS FALSE NEIGHBOUR: 'it returns false'. Refute it at one input. -/
def onceWrong : ChangeSpec := { name := "once", fn := fun _ => fun
  | [d1, d2] => { results := [.lit (.bool false)], args := [d1, d2] }
  | _ => none }
def OnceWrongFalsely : Prop := onceRow.holds Tryz.pinned (OpenSpec.ofChange onceWrong)

/- THE SECOND FORM. 'bulk': how many values and letters a reading holds, each counted each time it is reached (what is shared counts as often as it is met; a slice's spare places count too). A statement '..UptoSaid' is the law's where the arguments, and the package variables that the reading takes, are together of bulk at most 1048576: NARROWER than '..Said'. Prove '..Said' where nothing that the law and all that it calls make is longer than what came in: it says more and counts as full. Else prove '..UptoSaid'. A law counts once. -/
mutual
def uptoBulk {H : Type} : DataW H → Nat
  | .lit (.string bytes) => bytes.length + 1
  | .lit _ => 1
  | .nil => 1
  | .ptr d => uptoBulk d + 1
  | .slice elems spare => uptoBulkAll elems + uptoBulkAll spare + 1
  | .agg parts => uptoBulkAll parts + 1
  | .iface _ d => uptoBulk d + 1
  | .map entries => uptoBulkEntries entries + 1
  | .held _ => 1
def uptoBulkAll {H : Type} : List (DataW H) → Nat
  | [] => 0
  | d :: r => uptoBulk d + uptoBulkAll r
def uptoBulkEntries {H : Type} : List (Lit × DataW H) → Nat
  | [] => 0
  | x :: r => uptoBulkEntry x + uptoBulkEntries r
def uptoBulkEntry {H : Type} : Lit × DataW H → Nat
  | (.string bytes, d) => bytes.length + uptoBulk d + 1
  | (_, d) => uptoBulk d + 1
 end
def uptoSmall : (H : Type) → List (DataW H) → Bool := fun _ ds => decide (uptoBulkAll ds ≤ 1048576)
def OpenSpec.upto (s : _root_.Go.ChangeSpec) : _root_.Go.OpenSpec := { _root_.Go.OpenSpec.ofChange s with cond := some uptoSmall }

/-- 'bellmanlaw.Ticks', WHERE WHAT IT READS IS OF BULK AT MOST 1048576: true; the input reads as it did. -/
def ticksUptoRow : OpenClaim := { program := "ytdajolpoiffimaagreatdoor", sum := "bf90a333bfb521b4c824f4b1dfe7ca928b17f55c579131a47627e55fd1f06edb", func := "bellman/bellmanlaw.Ticks", spec := "ticks", recurses := true, named := ["bellman/crontab.leastValues", "bellman/crontab.greatestValues", "bellman/calendar.monthLengths"], apart := false, laid := [("bellman/calendar.monthLengths", laid_bellman_calendar_monthLengths), ("bellman/crontab.leastValues", laid_bellman_crontab_leastValues), ("bellman/crontab.greatestValues", laid_bellman_crontab_greatestValues)], narrowed := true }
def TicksUptoSaid : Prop := ticksUptoRow.holds Tryz.pinned (OpenSpec.upto ticksSpec)

/-- 'bellmanlaw.Talks', WHERE WHAT IT READS IS OF BULK AT MOST 1048576: true; the input reads as it did. -/
def talksUptoRow : OpenClaim := { program := "ytdajolpoiffimaagreatdoor", sum := "bf90a333bfb521b4c824f4b1dfe7ca928b17f55c579131a47627e55fd1f06edb", func := "bellman/bellmanlaw.Talks", spec := "talks", recurses := true, named := ["bellman/crontab.leastValues", "bellman/crontab.greatestValues", "bellman/calendar.monthLengths"], apart := false, laid := [("bellman/calendar.monthLengths", laid_bellman_calendar_monthLengths), ("bellman/crontab.leastValues", laid_bellman_crontab_leastValues), ("bellman/crontab.greatestValues", laid_bellman_crontab_greatestValues)], narrowed := true }
def TalksUptoSaid : Prop := talksUptoRow.holds Tryz.pinned (OpenSpec.upto talksSpec)

/-- 'bellmanlaw.Opens', WHERE WHAT IT READS IS OF BULK AT MOST 1048576: true; the input reads as it did. -/
def opensUptoRow : OpenClaim := { program := "ytdajolpoiffimaagreatdoor", sum := "bf90a333bfb521b4c824f4b1dfe7ca928b17f55c579131a47627e55fd1f06edb", func := "bellman/bellmanlaw.Opens", spec := "opens", recurses := true, named := ["bellman/crontab.leastValues", "bellman/crontab.greatestValues", "bellman/calendar.monthLengths"], apart := false, laid := [("bellman/calendar.monthLengths", laid_bellman_calendar_monthLengths), ("bellman/crontab.leastValues", laid_bellman_crontab_leastValues), ("bellman/crontab.greatestValues", laid_bellman_crontab_greatestValues)], narrowed := true }
def OpensUptoSaid : Prop := opensUptoRow.holds Tryz.pinned (OpenSpec.upto opensSpec)

/-- 'bellmankeep.Held', WHERE WHAT IT READS IS OF BULK AT MOST 1048576: true; the input reads as it did. -/
def heldUptoRow : OpenClaim := { program := "ytdajolpoiffimaagreatdoor", sum := "bf90a333bfb521b4c824f4b1dfe7ca928b17f55c579131a47627e55fd1f06edb", func := "bellman/bellmankeep.Held", spec := "held", named := ["bellman/crontab.leastValues", "bellman/crontab.greatestValues", "bellman/calendar.monthLengths"], apart := false, laid := [("bellman/calendar.monthLengths", laid_bellman_calendar_monthLengths), ("bellman/crontab.leastValues", laid_bellman_crontab_leastValues), ("bellman/crontab.greatestValues", laid_bellman_crontab_greatestValues)], narrowed := true }
def HeldUptoSaid : Prop := heldUptoRow.holds Tryz.pinned (OpenSpec.upto heldSpec)

/-- 'bellmankeep.Once', WHERE WHAT IT READS IS OF BULK AT MOST 1048576: true; the input reads as it did. -/
def onceUptoRow : OpenClaim := { program := "ytdajolpoiffimaagreatdoor", sum := "bf90a333bfb521b4c824f4b1dfe7ca928b17f55c579131a47627e55fd1f06edb", func := "bellman/bellmankeep.Once", spec := "once", named := ["bellman/crontab.leastValues", "bellman/crontab.greatestValues", "bellman/calendar.monthLengths"], apart := false, laid := [("bellman/calendar.monthLengths", laid_bellman_calendar_monthLengths), ("bellman/crontab.leastValues", laid_bellman_crontab_leastValues), ("bellman/crontab.greatestValues", laid_bellman_crontab_greatestValues)], narrowed := true }
def OnceUptoSaid : Prop := onceUptoRow.holds Tryz.pinned (OpenSpec.upto onceSpec)

end Rows
end Go.Proofs.YtdajolpoiffimaaGreatDoor
