/-
  DERIVED. GIVEN WITH THE SEED: THE CARDS: each row of YtdajolpoiffimaaGreatDoorRows.lean that lists a variable, with what it lists TIED to the program's text (the seventh form; the later family's looks); each row that meets fmt, with fmt's text TOLD by the authors' own Lean function (tested against real Go, not proved from fmt's source: count such statements apart). THE CARD IS WHAT COUNTS. Prove the row's statement (the work); the ties are given (YtdajolpoiffimaaGreatDoorTie.lean); close each card by the builder's one call (the guide's Derived/Test/ToyasCard.lean, 'card_holds'). Laid BY PROGRAM, IN A SANDBOX (cutbox-door.mjs). By AI agents, Wed Nov 11 2026. No macro, syntax, notation, axiom, sorry.
-/
import Derived.Test.YtdajolpoiffimaaGreatDoorRows
import GoSem.ClaimSeven
namespace Go.Proofs.YtdajolpoiffimaaGreatDoor
namespace Rows

/-- THE TIED CARD OF 'bellmanlaw.Ticks'. -/
def ticksCard : Claim7 := { stood := { row := ticksRow, standIns := [], harness := (true, "b68605781b68aa283970348f2887b3951aa1cdaf749307a6aaccd2278dfe4faa"), looks := false }, kinds := [], alts := [], laidByText := true, laidKinds := [.data, .data, .data], laidTests := true, laidLooks := .later }
def TicksCardSaid : Prop := Claim7.holds Tryz.pinned (.plain (OpenSpec.ofChange ticksSpec)) ticksCard

/-- THE TIED CARD OF 'bellmanlaw.Talks'. -/
def talksCard : Claim7 := { stood := { row := talksRow, standIns := [], harness := (true, "b68605781b68aa283970348f2887b3951aa1cdaf749307a6aaccd2278dfe4faa"), looks := false }, kinds := [], alts := [], laidByText := true, laidKinds := [.data, .data, .data], laidTests := true, laidLooks := .later }
def TalksCardSaid : Prop := Claim7.holds Tryz.pinned (.plain (OpenSpec.ofChange talksSpec)) talksCard

/-- THE TIED CARD OF 'bellmanlaw.Opens'. -/
def opensCard : Claim7 := { stood := { row := opensRow, standIns := [], harness := (true, "b68605781b68aa283970348f2887b3951aa1cdaf749307a6aaccd2278dfe4faa"), looks := false }, kinds := [], alts := [], laidByText := true, laidKinds := [.data, .data, .data], laidTests := true, laidLooks := .later }
def OpensCardSaid : Prop := Claim7.holds Tryz.pinned (.plain (OpenSpec.ofChange opensSpec)) opensCard

/-- THE TIED CARD OF 'bellmankeep.Held'. -/
def heldCard : Claim7 := { stood := { row := heldRow, standIns := [], harness := (true, "b68605781b68aa283970348f2887b3951aa1cdaf749307a6aaccd2278dfe4faa"), looks := false }, kinds := [], alts := [], laidByText := true, laidKinds := [.data, .data, .data], laidTests := true, laidLooks := .later }
def HeldCardSaid : Prop := Claim7.holds Tryz.pinned (.plain (OpenSpec.ofChange heldSpec)) heldCard

/-- THE TIED CARD OF 'bellmankeep.Once'. -/
def onceCard : Claim7 := { stood := { row := onceRow, standIns := [], harness := (true, "b68605781b68aa283970348f2887b3951aa1cdaf749307a6aaccd2278dfe4faa"), looks := false }, kinds := [], alts := [], laidByText := true, laidKinds := [.data, .data, .data], laidTests := true, laidLooks := .later }
def OnceCardSaid : Prop := Claim7.holds Tryz.pinned (.plain (OpenSpec.ofChange onceSpec)) onceCard

/-- THE SECOND FORM's CARD OF 'bellmanlaw.Ticks'. -/
def ticksUptoCard : Claim7 := { stood := { row := ticksUptoRow, standIns := [], harness := (true, "b68605781b68aa283970348f2887b3951aa1cdaf749307a6aaccd2278dfe4faa"), looks := false }, kinds := [], alts := [], laidByText := true, laidKinds := [.data, .data, .data], laidTests := true, laidLooks := .later }
def TicksUptoCardSaid : Prop := Claim7.holds Tryz.pinned (.plain (OpenSpec.upto ticksSpec)) ticksUptoCard

/-- THE SECOND FORM's CARD OF 'bellmanlaw.Talks'. -/
def talksUptoCard : Claim7 := { stood := { row := talksUptoRow, standIns := [], harness := (true, "b68605781b68aa283970348f2887b3951aa1cdaf749307a6aaccd2278dfe4faa"), looks := false }, kinds := [], alts := [], laidByText := true, laidKinds := [.data, .data, .data], laidTests := true, laidLooks := .later }
def TalksUptoCardSaid : Prop := Claim7.holds Tryz.pinned (.plain (OpenSpec.upto talksSpec)) talksUptoCard

/-- THE SECOND FORM's CARD OF 'bellmanlaw.Opens'. -/
def opensUptoCard : Claim7 := { stood := { row := opensUptoRow, standIns := [], harness := (true, "b68605781b68aa283970348f2887b3951aa1cdaf749307a6aaccd2278dfe4faa"), looks := false }, kinds := [], alts := [], laidByText := true, laidKinds := [.data, .data, .data], laidTests := true, laidLooks := .later }
def OpensUptoCardSaid : Prop := Claim7.holds Tryz.pinned (.plain (OpenSpec.upto opensSpec)) opensUptoCard

/-- THE SECOND FORM's CARD OF 'bellmankeep.Held'. -/
def heldUptoCard : Claim7 := { stood := { row := heldUptoRow, standIns := [], harness := (true, "b68605781b68aa283970348f2887b3951aa1cdaf749307a6aaccd2278dfe4faa"), looks := false }, kinds := [], alts := [], laidByText := true, laidKinds := [.data, .data, .data], laidTests := true, laidLooks := .later }
def HeldUptoCardSaid : Prop := Claim7.holds Tryz.pinned (.plain (OpenSpec.upto heldSpec)) heldUptoCard

/-- THE SECOND FORM's CARD OF 'bellmankeep.Once'. -/
def onceUptoCard : Claim7 := { stood := { row := onceUptoRow, standIns := [], harness := (true, "b68605781b68aa283970348f2887b3951aa1cdaf749307a6aaccd2278dfe4faa"), looks := false }, kinds := [], alts := [], laidByText := true, laidKinds := [.data, .data, .data], laidTests := true, laidLooks := .later }
def OnceUptoCardSaid : Prop := Claim7.holds Tryz.pinned (.plain (OpenSpec.upto onceSpec)) onceUptoCard
end Rows
end Go.Proofs.YtdajolpoiffimaaGreatDoor
