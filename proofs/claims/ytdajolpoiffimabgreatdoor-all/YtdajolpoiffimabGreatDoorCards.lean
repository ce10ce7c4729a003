/-
  DERIVED. GIVEN WITH THE SEED: THE CARDS: each row of YtdajolpoiffimabGreatDoorRows.lean that lists a variable, with what it lists TIED to the program's text (the seventh form; the later family's looks); each row that meets fmt, with fmt's text TOLD by the authors' own Lean function (tested against real Go, not proved from fmt's source: count such statements apart). THE CARD IS WHAT COUNTS. Prove the row's statement (the work); the ties are given (YtdajolpoiffimabGreatDoorTie.lean); close each card by the builder's one call (the guide's Derived/Test/ToyasCard.lean, 'card_holds'). Laid BY PROGRAM, IN A SANDBOX (cutbox-door.mjs). By AI agents, Wed Nov 11 2026. No macro, syntax, notation, axiom, sorry.
-/
import Derived.Test.YtdajolpoiffimabGreatDoorRows
import GoSem.ClaimSeven
namespace Go.Proofs.YtdajolpoiffimabGreatDoor
namespace Rows

/-- THE TIED CARD OF 'bellmankeep.Survives'. -/
def survivesCard : Claim7 := { stood := { row := survivesRow, standIns := [], harness := (true, "2ae79583681e27e8da45beb49ae99237af1e0c8c5056f2b32bad8172a9112a7b"), looks := false }, kinds := [], alts := [], laidByText := true, laidKinds := [.data, .data, .data], laidTests := true, laidLooks := .later }
def SurvivesCardSaid : Prop := Claim7.holds Tryz.pinned (.plain (OpenSpec.ofChange survivesSpec)) survivesCard

/-- THE TIED CARD OF 'bellmankeep.Compacts'. -/
def compactsCard : Claim7 := { stood := { row := compactsRow, standIns := [], harness := (true, "2ae79583681e27e8da45beb49ae99237af1e0c8c5056f2b32bad8172a9112a7b"), looks := false }, kinds := [], alts := [], laidByText := true, laidKinds := [.data, .data, .data], laidTests := true, laidLooks := .later }
def CompactsCardSaid : Prop := Claim7.holds Tryz.pinned (.plain (OpenSpec.ofChange compactsSpec)) compactsCard

/-- THE TIED CARD OF 'bellmanlaw.All'. -/
def allCard : Claim7 := { stood := { row := allRow, standIns := [], harness := (true, "2ae79583681e27e8da45beb49ae99237af1e0c8c5056f2b32bad8172a9112a7b"), looks := false }, kinds := [], alts := [], laidByText := true, laidKinds := [.data, .data, .data], laidTests := true, laidLooks := .later }
def AllCardSaid : Prop := Claim7.holds Tryz.pinned (.plain (OpenSpec.ofChange allSpec)) allCard

/-- THE SECOND FORM's CARD OF 'bellmankeep.Survives'. -/
def survivesUptoCard : Claim7 := { stood := { row := survivesUptoRow, standIns := [], harness := (true, "2ae79583681e27e8da45beb49ae99237af1e0c8c5056f2b32bad8172a9112a7b"), looks := false }, kinds := [], alts := [], laidByText := true, laidKinds := [.data, .data, .data], laidTests := true, laidLooks := .later }
def SurvivesUptoCardSaid : Prop := Claim7.holds Tryz.pinned (.plain (OpenSpec.upto survivesSpec)) survivesUptoCard

/-- THE SECOND FORM's CARD OF 'bellmankeep.Compacts'. -/
def compactsUptoCard : Claim7 := { stood := { row := compactsUptoRow, standIns := [], harness := (true, "2ae79583681e27e8da45beb49ae99237af1e0c8c5056f2b32bad8172a9112a7b"), looks := false }, kinds := [], alts := [], laidByText := true, laidKinds := [.data, .data, .data], laidTests := true, laidLooks := .later }
def CompactsUptoCardSaid : Prop := Claim7.holds Tryz.pinned (.plain (OpenSpec.upto compactsSpec)) compactsUptoCard

/-- THE SECOND FORM's CARD OF 'bellmanlaw.All'. -/
def allUptoCard : Claim7 := { stood := { row := allUptoRow, standIns := [], harness := (true, "2ae79583681e27e8da45beb49ae99237af1e0c8c5056f2b32bad8172a9112a7b"), looks := false }, kinds := [], alts := [], laidByText := true, laidKinds := [.data, .data, .data], laidTests := true, laidLooks := .later }
def AllUptoCardSaid : Prop := Claim7.holds Tryz.pinned (.plain (OpenSpec.upto allSpec)) allUptoCard
end Rows
end Go.Proofs.YtdajolpoiffimabGreatDoor
