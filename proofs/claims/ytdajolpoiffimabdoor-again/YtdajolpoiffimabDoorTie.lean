/-
  DERIVED. GIVEN WITH THE SEED: THE PROGRAM's TIES (one call each: nine closed facts by the kernel) AND EACH ROW's TIE, after the 31st guide's Derived/Test/Toyas{Tie, Card}.lean. No idea stands in it: it is a product of the set-up. Laid BY PROGRAM, IN A SANDBOX (cutbox-door.mjs). By AI agents, Wed Nov 11 2026. No macro, syntax, notation, axiom, sorry.
-/
import Derived.Test.YtdajolpoiffimabDoorRows
import Derived.LaidByTextLater
import Derived.SevenTiedAt
import Derived.LaidSub
import Derived.LaidOnce
namespace Go.Proofs.YtdajolpoiffimabDoor
open Go
set_option maxRecDepth 100000
theorem seatTie1 : Tryd.prog.laidByTextLater [("bellman/calendar.monthLengths", Rows.laid_bellman_calendar_monthLengths), ("bellman/crontab.leastValues", Rows.laid_bellman_crontab_leastValues), ("bellman/crontab.greatestValues", Rows.laid_bellman_crontab_greatestValues)] [.data, .data, .data] true :=
  Program.laidByTextLater_by_one 24 8 13 (by kernel_rfl) (by kernel_rfl) (by kernel_rfl) (by kernel_rfl) (by kernel_rfl) (by kernel_rfl) (fun _ _ => by kernel_rfl)
theorem noOwnUnsafe : Tryd.pinned.checked.prog.headLifts.contains "ownunsafe" = false := by kernel_rfl
theorem tie : Tryd.prog.laidByTextLater [("bellman/calendar.monthLengths", Rows.laid_bellman_calendar_monthLengths), ("bellman/crontab.leastValues", Rows.laid_bellman_crontab_leastValues), ("bellman/crontab.greatestValues", Rows.laid_bellman_crontab_greatestValues)] [.data, .data, .data] true :=
  Program.laidByTextLater.sub seatTie1 ["bellman/calendar.monthLengths", "bellman/crontab.leastValues", "bellman/crontab.greatestValues"] (by kernel_rfl) (by kernel_rfl)
theorem again_row_tie : Rows.againRow.laidByTextAt .later Tryd.pinned [.data, .data, .data] true :=
  OpenClaim.laidByTextAt_later rfl rfl tie noOwnUnsafe
theorem againUpto_row_tie : Rows.againUptoRow.laidByTextAt .later Tryd.pinned [.data, .data, .data] true :=
  OpenClaim.laidByTextAt_later rfl rfl tie noOwnUnsafe
end Go.Proofs.YtdajolpoiffimabDoor
