/-
  DERIVED. GIVEN WITH THE SEED: THE CARDS: each row of YtdajolpoiffimaaDoorRows.lean that lists a variable, with what it lists TIED to the program's text (the seventh form; the later family's looks); each row that meets fmt, with fmt's text TOLD by the authors' own Lean function (tested against real Go, not proved from fmt's source: count such statements apart). THE CARD IS WHAT COUNTS. Prove the row's statement (the work); the ties are given (YtdajolpoiffimaaDoorTie.lean); close each card by the builder's one call (the guide's Derived/Test/ToyasCard.lean, 'card_holds'). Laid BY PROGRAM, IN A SANDBOX (cutbox-door.mjs). By AI agents, Wed Nov 11 2026. No macro, syntax, notation, axiom, sorry.
-/
import Derived.Test.YtdajolpoiffimaaDoorRows
import GoSem.ClaimSeven
namespace Go.Proofs.YtdajolpoiffimaaDoor
namespace Rows

/-- THE TIED CARD OF 'bellmanlaw.Dates'. -/
def datesCard : Claim7 := { stood := { row := datesRow, standIns := [], harness := (true, "fb77071e395eaf2d5083b41689b91762cb4dbc6957b1200ab90834fa6363e760"), looks := false }, kinds := [], alts := [], laidByText := true, laidKinds := [.data], laidTests := true, laidLooks := .later }
def DatesCardSaid : Prop := Claim7.holds Tryd.pinned (.plain (OpenSpec.ofChange datesSpec)) datesCard

/-- THE TIED CARD OF 'bellmanlaw.Tabs'. -/
def tabsCard : Claim7 := { stood := { row := tabsRow, standIns := [], harness := (true, "fb77071e395eaf2d5083b41689b91762cb4dbc6957b1200ab90834fa6363e760"), looks := false }, kinds := [], alts := [], laidByText := true, laidKinds := [.data, .data, .data], laidTests := true, laidLooks := .later }
def TabsCardSaid : Prop := Claim7.holds Tryd.pinned (.plain (OpenSpec.ofChange tabsSpec)) tabsCard

/-- THE TIED CARD OF 'bellmankeep.Calendar'. -/
def calendarCard : Claim7 := { stood := { row := calendarRow, standIns := [], harness := (true, "fb77071e395eaf2d5083b41689b91762cb4dbc6957b1200ab90834fa6363e760"), looks := false }, kinds := [], alts := [], laidByText := true, laidKinds := [.data], laidTests := true, laidLooks := .later }
def CalendarCardSaid : Prop := Claim7.holds Tryd.pinned (.plain (OpenSpec.ofChange calendarSpec)) calendarCard

/-- THE TIED CARD OF 'bellmankeep.Counted'. -/
def countedCard : Claim7 := { stood := { row := countedRow, standIns := [], harness := (true, "fb77071e395eaf2d5083b41689b91762cb4dbc6957b1200ab90834fa6363e760"), looks := false }, kinds := [], alts := [], laidByText := true, laidKinds := [.data, .data, .data], laidTests := true, laidLooks := .later }
def CountedCardSaid : Prop := Claim7.holds Tryd.pinned (.plain (OpenSpec.ofChange countedSpec)) countedCard

/-- THE TIED CARD OF 'bellmankeep.Hears'. -/
def hearsCard : Claim7 := { stood := { row := hearsRow, standIns := [], harness := (true, "fb77071e395eaf2d5083b41689b91762cb4dbc6957b1200ab90834fa6363e760"), looks := false }, kinds := [], alts := [], laidByText := true, laidKinds := [.data, .data, .data], laidTests := true, laidLooks := .later }
def HearsCardSaid : Prop := Claim7.holds Tryd.pinned (.plain (OpenSpec.ofChange hearsSpec)) hearsCard

/-- THE TIED CARD OF 'bellmankeep.Later'. -/
def laterCard : Claim7 := { stood := { row := laterRow, standIns := [], harness := (true, "fb77071e395eaf2d5083b41689b91762cb4dbc6957b1200ab90834fa6363e760"), looks := false }, kinds := [], alts := [], laidByText := true, laidKinds := [.data, .data, .data], laidTests := true, laidLooks := .later }
def LaterCardSaid : Prop := Claim7.holds Tryd.pinned (.plain (OpenSpec.ofChange laterSpec)) laterCard

/-- THE SECOND FORM's CARD OF 'bellmanlaw.Dates'. -/
def datesUptoCard : Claim7 := { stood := { row := datesUptoRow, standIns := [], harness := (true, "fb77071e395eaf2d5083b41689b91762cb4dbc6957b1200ab90834fa6363e760"), looks := false }, kinds := [], alts := [], laidByText := true, laidKinds := [.data], laidTests := true, laidLooks := .later }
def DatesUptoCardSaid : Prop := Claim7.holds Tryd.pinned (.plain (OpenSpec.upto datesSpec)) datesUptoCard

/-- THE SECOND FORM's CARD OF 'bellmanlaw.Tabs'. -/
def tabsUptoCard : Claim7 := { stood := { row := tabsUptoRow, standIns := [], harness := (true, "fb77071e395eaf2d5083b41689b91762cb4dbc6957b1200ab90834fa6363e760"), looks := false }, kinds := [], alts := [], laidByText := true, laidKinds := [.data, .data, .data], laidTests := true, laidLooks := .later }
def TabsUptoCardSaid : Prop := Claim7.holds Tryd.pinned (.plain (OpenSpec.upto tabsSpec)) tabsUptoCard

/-- THE SECOND FORM's CARD OF 'bellmankeep.Calendar'. -/
def calendarUptoCard : Claim7 := { stood := { row := calendarUptoRow, standIns := [], harness := (true, "fb77071e395eaf2d5083b41689b91762cb4dbc6957b1200ab90834fa6363e760"), looks := false }, kinds := [], alts := [], laidByText := true, laidKinds := [.data], laidTests := true, laidLooks := .later }
def CalendarUptoCardSaid : Prop := Claim7.holds Tryd.pinned (.plain (OpenSpec.upto calendarSpec)) calendarUptoCard

/-- THE SECOND FORM's CARD OF 'bellmankeep.Counted'. -/
def countedUptoCard : Claim7 := { stood := { row := countedUptoRow, standIns := [], harness := (true, "fb77071e395eaf2d5083b41689b91762cb4dbc6957b1200ab90834fa6363e760"), looks := false }, kinds := [], alts := [], laidByText := true, laidKinds := [.data, .data, .data], laidTests := true, laidLooks := .later }
def CountedUptoCardSaid : Prop := Claim7.holds Tryd.pinned (.plain (OpenSpec.upto countedSpec)) countedUptoCard

/-- THE SECOND FORM's CARD OF 'bellmankeep.Hears'. -/
def hearsUptoCard : Claim7 := { stood := { row := hearsUptoRow, standIns := [], harness := (true, "fb77071e395eaf2d5083b41689b91762cb4dbc6957b1200ab90834fa6363e760"), looks := false }, kinds := [], alts := [], laidByText := true, laidKinds := [.data, .data, .data], laidTests := true, laidLooks := .later }
def HearsUptoCardSaid : Prop := Claim7.holds Tryd.pinned (.plain (OpenSpec.upto hearsSpec)) hearsUptoCard

/-- THE SECOND FORM's CARD OF 'bellmankeep.Later'. -/
def laterUptoCard : Claim7 := { stood := { row := laterUptoRow, standIns := [], harness := (true, "fb77071e395eaf2d5083b41689b91762cb4dbc6957b1200ab90834fa6363e760"), looks := false }, kinds := [], alts := [], laidByText := true, laidKinds := [.data, .data, .data], laidTests := true, laidLooks := .later }
def LaterUptoCardSaid : Prop := Claim7.holds Tryd.pinned (.plain (OpenSpec.upto laterSpec)) laterUptoCard
end Rows
end Go.Proofs.YtdajolpoiffimaaDoor
