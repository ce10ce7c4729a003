/-
  NARROWER THAN 'FOR EVERY INPUT', by the rows' own cells (each row's printed sentence says how): Dates: laid · Tabs: laid · Calendar: laid · Counted: laid · Hears: laid · Later: laid.
  DERIVED. THE GIVEN ROWS OF THIS SEAT. 6 by the template 'for every input the law returns true; each argument reads behind the call as it read before'; 0 by the template 'total and deterministic' (their statements: YtdajolpoiffimaaDoorTotals.lean).
  GIVEN WITH THE SEED: the statements are not yours to turn. If you find one false, say at which input.
  Laid BY PROGRAM, IN A SANDBOX (cutbox-rows.mjs): the forced cells as the released guide's own fill.sh prints them over the translation 61fa6bd41ad68086… (all of the seat's roots in one cut). By AI agents, Wed Nov 11 2026. No macro, syntax, notation, axiom, sorry.
-/
import Derived.Test.YtdajolpoiffimaaDoorChecked
import GoSem.Claim
import GoSem.ClaimJoined
import GoSem.ClaimMapViews
import Derived.JoinedTies
import Derived.KernelRfl
namespace Go.Proofs.YtdajolpoiffimaaDoor
/- THE CELL 'sum', in the pinned program and in every row, IS THE sha256 OF THE DUMP (.gsa) THAT YtdajolpoiffimaaDoorProg.lean LOADS. Nothing in Lean hashes anything: it is a label: what it is worth is what the hold of that sum in a sandbox is worth. -/
noncomputable def Tryd.pinned : Pinned := { name := "ytdajolpoiffimaadoor", sum := "61fa6bd41ad68086b38fca3093c535ff346ad074ef1a58a56a8176b577da6906", checked := Tryd.checked }
namespace Rows
def none {H : Type} : Left H := { results := [], args := [] }

/- WHAT THE LISTED PACKAGE-LEVEL VARIABLES READ AS WHEN THE CALL BEGINS. Each datum BY PROGRAM (the guide's laid-datum.mjs) off the statement by which the dump's own 'gosem.cut.vars' lays the variable. In a bare row this is a premise. The card (YtdajolpoiffimaaDoorCards.lean) ties it to the program's text. -/
def laid_bellman_calendar_monthLengths {H : Type} : DataW H := .agg [.lit (.int .i64 31), .lit (.int .i64 28), .lit (.int .i64 31), .lit (.int .i64 30), .lit (.int .i64 31), .lit (.int .i64 30), .lit (.int .i64 31), .lit (.int .i64 31), .lit (.int .i64 30), .lit (.int .i64 31), .lit (.int .i64 30), .lit (.int .i64 31)]
def laid_bellman_crontab_leastValues {H : Type} : DataW H := .agg [.lit (.int .i64 0), .lit (.int .i64 0), .lit (.int .i64 1), .lit (.int .i64 1), .lit (.int .i64 0)]
def laid_bellman_crontab_greatestValues {H : Type} : DataW H := .agg [.lit (.int .i64 59), .lit (.int .i64 23), .lit (.int .i64 31), .lit (.int .i64 12), .lit (.int .i64 6)]

/-- 'bellmanlaw.Dates': WHATEVER THE INPUT: true; the input reads as it did. -/
def datesSpec : ChangeSpec := { name := "dates", fn := fun _ => fun
  | [d1, d2] => { results := [.lit (.bool true)], args := [d1, d2] }
  | _ => none }
def datesRow : OpenClaim := { program := "ytdajolpoiffimaadoor", sum := "61fa6bd41ad68086b38fca3093c535ff346ad074ef1a58a56a8176b577da6906", func := "bellman/bellmanlaw.Dates", spec := "dates", named := ["bellman/calendar.monthLengths"], apart := false, laid := [("bellman/calendar.monthLengths", laid_bellman_calendar_monthLengths)] }
def DatesSaid : Prop := datesRow.holds Tryd.pinned (OpenSpec.ofChange datesSpec)

/-- ITS FALSE NEIGHBOUR: 'it returns false'. Refute it at one input. -/
def datesWrong : ChangeSpec := { name := "dates", fn := fun _ => fun
  | [d1, d2] => { results := [.lit (.bool false)], args := [d1, d2] }
  | _ => none }
def DatesWrongFalsely : Prop := datesRow.holds Tryd.pinned (OpenSpec.ofChange datesWrong)

/-- 'bellmanlaw.Tabs': WHATEVER THE INPUT: true; the input reads as it did. -/
def tabsSpec : ChangeSpec := { name := "tabs", fn := fun _ => fun
  | [d1, d2, d3] => { results := [.lit (.bool true)], args := [d1, d2, d3] }
  | _ => none }
def tabsRow : OpenClaim := { program := "ytdajolpoiffimaadoor", sum := "61fa6bd41ad68086b38fca3093c535ff346ad074ef1a58a56a8176b577da6906", func := "bellman/bellmanlaw.Tabs", spec := "tabs", named := ["bellman/crontab.leastValues", "bellman/crontab.greatestValues", "bellman/calendar.monthLengths"], apart := false, laid := [("bellman/calendar.monthLengths", laid_bellman_calendar_monthLengths), ("bellman/crontab.leastValues", laid_bellman_crontab_leastValues), ("bellman/crontab.greatestValues", laid_bellman_crontab_greatestValues)] }
def TabsSaid : Prop := tabsRow.holds Tryd.pinned (OpenSpec.ofChange tabsSpec)

/-- ITS FALSE NEIGHBOUR: 'it returns false'. Refute it at one input. -/
def tabsWrong : ChangeSpec := { name := "tabs", fn := fun _ => fun
  | [d1, d2, d3] => { results := [.lit (.bool false)], args := [d1, d2, d3] }
  | _ => none }
def TabsWrongFalsely : Prop := tabsRow.holds Tryd.pinned (OpenSpec.ofChange tabsWrong)

/-- 'bellmankeep.Calendar': WHATEVER THE INPUT: true; the input reads as it did. -/
def calendarSpec : ChangeSpec := { name := "calendar", fn := fun _ => fun
  | [d] => { results := [.lit (.bool true)], args := [d] }
  | _ => none }
def calendarRow : OpenClaim := { program := "ytdajolpoiffimaadoor", sum := "61fa6bd41ad68086b38fca3093c535ff346ad074ef1a58a56a8176b577da6906", func := "bellman/bellmankeep.Calendar", spec := "calendar", named := ["bellman/calendar.monthLengths"], apart := false, laid := [("bellman/calendar.monthLengths", laid_bellman_calendar_monthLengths)] }
def CalendarSaid : Prop := calendarRow.holds Tryd.pinned (OpenSpec.ofChange calendarSpec)

/-- ITS FALSE NEIGHBOUR: 'it returns false'. Refute it at one input. -/
def calendarWrong : ChangeSpec := { name := "calendar", fn := fun _ => fun
  | [d] => { results := [.lit (.bool false)], args := [d] }
  | _ => none }
def CalendarWrongFalsely : Prop := calendarRow.holds Tryd.pinned (OpenSpec.ofChange calendarWrong)

/-- 'bellmankeep.Counted': WHATEVER THE INPUT: true; the input reads as it did. -/
def countedSpec : ChangeSpec := { name := "counted", fn := fun _ => fun
  | [d1, d2] => { results := [.lit (.bool true)], args := [d1, d2] }
  | _ => none }
def countedRow : OpenClaim := { program := "ytdajolpoiffimaadoor", sum := "61fa6bd41ad68086b38fca3093c535ff346ad074ef1a58a56a8176b577da6906", func := "bellman/bellmankeep.Counted", spec := "counted", named := ["bellman/crontab.leastValues", "bellman/crontab.greatestValues", "bellman/calendar.monthLengths"], apart := false, laid := [("bellman/calendar.monthLengths", laid_bellman_calendar_monthLengths), ("bellman/crontab.leastValues", laid_bellman_crontab_leastValues), ("bellman/crontab.greatestValues", laid_bellman_crontab_greatestValues)] }
def CountedSaid : Prop := countedRow.holds Tryd.pinned (OpenSpec.ofChange countedSpec)

/-- ITS FALSE NEIGHBOUR: 'it returns false'. Refute it at one input. -/
def countedWrong : ChangeSpec := { name := "counted", fn := fun _ => fun
  | [d1, d2] => { results := [.lit (.bool false)], args := [d1, d2] }
  | _ => none }
def CountedWrongFalsely : Prop := countedRow.holds Tryd.pinned (OpenSpec.ofChange countedWrong)

/-- 'bellmankeep.Hears': WHATEVER THE INPUT: true; the input reads as it did. -/
def hearsSpec : ChangeSpec := { name := "hears", fn := fun _ => fun
  | [d1, d2] => { results := [.lit (.bool true)], args := [d1, d2] }
  | _ => none }
def hearsRow : OpenClaim := { program := "ytdajolpoiffimaadoor", sum := "61fa6bd41ad68086b38fca3093c535ff346ad074ef1a58a56a8176b577da6906", func := "bellman/bellmankeep.Hears", spec := "hears", named := ["bellman/crontab.leastValues", "bellman/crontab.greatestValues", "bellman/calendar.monthLengths"], apart := false, laid := [("bellman/calendar.monthLengths", laid_bellman_calendar_monthLengths), ("bellman/crontab.leastValues", laid_bellman_crontab_leastValues), ("bellman/crontab.greatestValues", laid_bellman_crontab_greatestValues)] }
def HearsSaid : Prop := hearsRow.holds Tryd.pinned (OpenSpec.ofChange hearsSpec)

/-- ITS FALSE NEIGHBOUR: 'it returns false'. Refute it at one input. -/
def hearsWrong : ChangeSpec := { name := "hears", fn := fun _ => fun
  | [d1, d2] => { results := [.lit (.bool false)], args := [d1, d2] }
  | _ => none }
def HearsWrongFalsely : Prop := hearsRow.holds Tryd.pinned (OpenSpec.ofChange hearsWrong)

/-- 'bellmankeep.Later': WHATEVER THE INPUT: true; the input reads as it did. -/
def laterSpec : ChangeSpec := { name := "later", fn := fun _ => fun
  | [d1, d2] => { results := [.lit (.bool true)], args := [d1, d2] }
  | _ => none }
def laterRow : OpenClaim := { program := "ytdajolpoiffimaadoor", sum := "61fa6bd41ad68086b38fca3093c535ff346ad074ef1a58a56a8176b577da6906", func := "bellman/bellmankeep.Later", spec := "later", named := ["bellman/crontab.leastValues", "bellman/crontab.greatestValues", "bellman/calendar.monthLengths"], apart := false, laid := [("bellman/calendar.monthLengths", laid_bellman_calendar_monthLengths), ("bellman/crontab.leastValues", laid_bellman_crontab_leastValues), ("bellman/crontab.greatestValues", laid_bellman_crontab_greatestValues)] }
def LaterSaid : Prop := laterRow.holds Tryd.pinned (OpenSpec.ofChange laterSpec)

/-- ITS FALSE NEIGHBOUR: 'it returns false'. Refute it at one input. -/
def laterWrong : ChangeSpec := { name := "later", fn := fun _ => fun
  | [d1, d2] => { results := [.lit (.bool false)], args := [d1, d2] }
  | _ => none }
def LaterWrongFalsely : Prop := laterRow.holds Tryd.pinned (OpenSpec.ofChange laterWrong)

/- THE SECOND FORM. 'bulk': how many values and letters a reading holds, each counted each time it is reached (what is shared counts as often as it is met; a slice's spare places count too). A statement '..UptoSaid' is the law's where the arguments, and the package variables that the reading takes, are together of bulk at most 1048576: NARROWER than '..Said'. Prove '..Said' where nothing that the law and all that it calls make is longer than what came in: it says more and counts as full. Else prove '..UptoSaid'. A law counts once. -/
mutual
def uptoBulk {H : Type} : DataW H → Nat
  | .lit (.string bytes) => bytes.length + 1
  | .lit _ => 1
  | .nil => 1
  | .ptr d => uptoBulk d + 1
  | .slice elems spare => uptoBulkAll elems + uptoBulkAll spare + 1
  | .agg parts => uptoBulkAll parts + 1
  | .iface _ d => uptoBulk d + 1
  | .map entries => uptoBulkEntries entries + 1
  | .held _ => 1
def uptoBulkAll {H : Type} : List (DataW H) → Nat
  | [] => 0
  | d :: r => uptoBulk d + uptoBulkAll r
def uptoBulkEntries {H : Type} : List (Lit × DataW H) → Nat
  | [] => 0
  | x :: r => uptoBulkEntry x + uptoBulkEntries r
def uptoBulkEntry {H : Type} : Lit × DataW H → Nat
  | (.string bytes, d) => bytes.length + uptoBulk d + 1
  | (_, d) => uptoBulk d + 1
 end
def uptoSmall : (H : Type) → List (DataW H) → Bool := fun _ ds => decide (uptoBulkAll ds ≤ 1048576)
def OpenSpec.upto (s : _root_.Go.ChangeSpec) : _root_.Go.OpenSpec := { _root_.Go.OpenSpec.ofChange s with cond := some uptoSmall }

/-- 'bellmanlaw.Dates', WHERE WHAT IT READS IS OF BULK AT MOST 1048576: true; the input reads as it did. -/
def datesUptoRow : OpenClaim := { program := "ytdajolpoiffimaadoor", sum := "61fa6bd41ad68086b38fca3093c535ff346ad074ef1a58a56a8176b577da6906", func := "bellman/bellmanlaw.Dates", spec := "dates", named := ["bellman/calendar.monthLengths"], apart := false, laid := [("bellman/calendar.monthLengths", laid_bellman_calendar_monthLengths)], narrowed := true }
def DatesUptoSaid : Prop := datesUptoRow.holds Tryd.pinned (OpenSpec.upto datesSpec)

/-- 'bellmanlaw.Tabs', WHERE WHAT IT READS IS OF BULK AT MOST 1048576: true; the input reads as it did. -/
def tabsUptoRow : OpenClaim := { program := "ytdajolpoiffimaadoor", sum := "61fa6bd41ad68086b38fca3093c535ff346ad074ef1a58a56a8176b577da6906", func := "bellman/bellmanlaw.Tabs", spec := "tabs", named := ["bellman/crontab.leastValues", "bellman/crontab.greatestValues", "bellman/calendar.monthLengths"], apart := false, laid := [("bellman/calendar.monthLengths", laid_bellman_calendar_monthLengths), ("bellman/crontab.leastValues", laid_bellman_crontab_leastValues), ("bellman/crontab.greatestValues", laid_bellman_crontab_greatestValues)], narrowed := true }
def TabsUptoSaid : Prop := tabsUptoRow.holds Tryd.pinned (OpenSpec.upto tabsSpec)

/-- 'bellmankeep.Calendar', WHERE WHAT IT READS IS OF BULK AT MOST 1048576: true; the input reads as it did. -/
def calendarUptoRow : OpenClaim := { program := "ytdajolpoiffimaadoor", sum := "61fa6bd41ad68086b38fca3093c535ff346ad074ef1a58a56a8176b577da6906", func := "bellman/bellmankeep.Calendar", spec := "calendar", named := ["bellman/calendar.monthLengths"], apart := false, laid := [("bellman/calendar.monthLengths", laid_bellman_calendar_monthLengths)], narrowed := true }
def CalendarUptoSaid : Prop := calendarUptoRow.holds Tryd.pinned (OpenSpec.upto calendarSpec)

/-- 'bellmankeep.Counted', WHERE WHAT IT READS IS OF BULK AT MOST 1048576: true; the input reads as it did. -/
def countedUptoRow : OpenClaim := { program := "ytdajolpoiffimaadoor", sum := "61fa6bd41ad68086b38fca3093c535ff346ad074ef1a58a56a8176b577da6906", func := "bellman/bellmankeep.Counted", spec := "counted", named := ["bellman/crontab.leastValues", "bellman/crontab.greatestValues", "bellman/calendar.monthLengths"], apart := false, laid := [("bellman/calendar.monthLengths", laid_bellman_calendar_monthLengths), ("bellman/crontab.leastValues", laid_bellman_crontab_leastValues), ("bellman/crontab.greatestValues", laid_bellman_crontab_greatestValues)], narrowed := true }
def CountedUptoSaid : Prop := countedUptoRow.holds Tryd.pinned (OpenSpec.upto countedSpec)

/-- 'bellmankeep.Hears', WHERE WHAT IT READS IS OF BULK AT MOST 1048576: true; the input reads as it did. -/
def hearsUptoRow : OpenClaim := { program := "ytdajolpoiffimaadoor", sum := "61fa6bd41ad68086b38fca3093c535ff346ad074ef1a58a56a8176b577da6906", func := "bellman/bellmankeep.Hears", spec := "hears", named := ["bellman/crontab.leastValues", "bellman/crontab.greatestValues", "bellman/calendar.monthLengths"], apart := false, laid := [("bellman/calendar.monthLengths", laid_bellman_calendar_monthLengths), ("bellman/crontab.leastValues", laid_bellman_crontab_leastValues), ("bellman/crontab.greatestValues", laid_bellman_crontab_greatestValues)], narrowed := true }
def HearsUptoSaid : Prop := hearsUptoRow.holds Tryd.pinned (OpenSpec.upto hearsSpec)

/-- 'bellmankeep.Later', WHERE WHAT IT READS IS OF BULK AT MOST 1048576: true; the input reads as it did. -/
def laterUptoRow : OpenClaim := { program := "ytdajolpoiffimaadoor", sum := "61fa6bd41ad68086b38fca3093c535ff346ad074ef1a58a56a8176b577da6906", func := "bellman/bellmankeep.Later", spec := "later", named := ["bellman/crontab.leastValues", "bellman/crontab.greatestValues", "bellman/calendar.monthLengths"], apart := false, laid := [("bellman/calendar.monthLengths", laid_bellman_calendar_monthLengths), ("bellman/crontab.leastValues", laid_bellman_crontab_leastValues), ("bellman/crontab.greatestValues", laid_bellman_crontab_greatestValues)], narrowed := true }
def LaterUptoSaid : Prop := laterUptoRow.holds Tryd.pinned (OpenSpec.upto laterSpec)

end Rows
end Go.Proofs.YtdajolpoiffimaaDoor
