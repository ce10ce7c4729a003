/-
  DERIVED. GIVEN WITH THE SEED: THE PROGRAM's TIES (one call each: nine closed facts by the kernel) AND EACH ROW's TIE, after the 31st guide's Derived/Test/Toyas{Tie, Card}.lean. No idea stands in it: it is a product of the set-up. Laid BY PROGRAM, IN A SANDBOX (cutbox-door.mjs). By AI agents, Wed Nov 11 2026. No macro, syntax, notation, axiom, sorry.
-/
import Derived.Test.YtdajolpoiffimaaDoorRows
import Derived.LaidByTextLater
import Derived.SevenTiedAt
import Derived.LaidSub
import Derived.LaidOnce
namespace Go.Proofs.YtdajolpoiffimaaDoor
open Go
set_option maxRecDepth 100000
theorem seatTie1 : Tryd.prog.laidByTextLater [("bellman/calendar.monthLengths", Rows.laid_bellman_calendar_monthLengths), ("bellman/crontab.leastValues", Rows.laid_bellman_crontab_leastValues), ("bellman/crontab.greatestValues", Rows.laid_bellman_crontab_greatestValues)] [.data, .data, .data] true :=
  Program.laidByTextLater_by_one 24 8 13 (by kernel_rfl) (by kernel_rfl) (by kernel_rfl) (by kernel_rfl) (by kernel_rfl) (by kernel_rfl) (fun _ _ => by kernel_rfl)
theorem noOwnUnsafe : Tryd.pinned.checked.prog.headLifts.contains "ownunsafe" = false := by kernel_rfl
theorem tie : Tryd.prog.laidByTextLater [("bellman/calendar.monthLengths", Rows.laid_bellman_calendar_monthLengths)] [.data] true :=
  Program.laidByTextLater.sub seatTie1 ["bellman/calendar.monthLengths"] (by kernel_rfl) (by kernel_rfl)
theorem dates_row_tie : Rows.datesRow.laidByTextAt .later Tryd.pinned [.data] true :=
  OpenClaim.laidByTextAt_later rfl rfl tie noOwnUnsafe
theorem calendar_row_tie : Rows.calendarRow.laidByTextAt .later Tryd.pinned [.data] true :=
  OpenClaim.laidByTextAt_later rfl rfl tie noOwnUnsafe
theorem tie2 : Tryd.prog.laidByTextLater [("bellman/calendar.monthLengths", Rows.laid_bellman_calendar_monthLengths), ("bellman/crontab.leastValues", Rows.laid_bellman_crontab_leastValues), ("bellman/crontab.greatestValues", Rows.laid_bellman_crontab_greatestValues)] [.data, .data, .data] true :=
  Program.laidByTextLater.sub seatTie1 ["bellman/calendar.monthLengths", "bellman/crontab.leastValues", "bellman/crontab.greatestValues"] (by kernel_rfl) (by kernel_rfl)
theorem tabs_row_tie : Rows.tabsRow.laidByTextAt .later Tryd.pinned [.data, .data, .data] true :=
  OpenClaim.laidByTextAt_later rfl rfl tie2 noOwnUnsafe
theorem counted_row_tie : Rows.countedRow.laidByTextAt .later Tryd.pinned [.data, .data, .data] true :=
  OpenClaim.laidByTextAt_later rfl rfl tie2 noOwnUnsafe
theorem hears_row_tie : Rows.hearsRow.laidByTextAt .later Tryd.pinned [.data, .data, .data] true :=
  OpenClaim.laidByTextAt_later rfl rfl tie2 noOwnUnsafe
theorem later_row_tie : Rows.laterRow.laidByTextAt .later Tryd.pinned [.data, .data, .data] true :=
  OpenClaim.laidByTextAt_later rfl rfl tie2 noOwnUnsafe
theorem datesUpto_row_tie : Rows.datesUptoRow.laidByTextAt .later Tryd.pinned [.data] true :=
  OpenClaim.laidByTextAt_later rfl rfl tie noOwnUnsafe
theorem tabsUpto_row_tie : Rows.tabsUptoRow.laidByTextAt .later Tryd.pinned [.data, .data, .data] true :=
  OpenClaim.laidByTextAt_later rfl rfl tie2 noOwnUnsafe
theorem calendarUpto_row_tie : Rows.calendarUptoRow.laidByTextAt .later Tryd.pinned [.data] true :=
  OpenClaim.laidByTextAt_later rfl rfl tie noOwnUnsafe
theorem countedUpto_row_tie : Rows.countedUptoRow.laidByTextAt .later Tryd.pinned [.data, .data, .data] true :=
  OpenClaim.laidByTextAt_later rfl rfl tie2 noOwnUnsafe
theorem hearsUpto_row_tie : Rows.hearsUptoRow.laidByTextAt .later Tryd.pinned [.data, .data, .data] true :=
  OpenClaim.laidByTextAt_later rfl rfl tie2 noOwnUnsafe
theorem laterUpto_row_tie : Rows.laterUptoRow.laidByTextAt .later Tryd.pinned [.data, .data, .data] true :=
  OpenClaim.laidByTextAt_later rfl rfl tie2 noOwnUnsafe
end Go.Proofs.YtdajolpoiffimaaDoor
