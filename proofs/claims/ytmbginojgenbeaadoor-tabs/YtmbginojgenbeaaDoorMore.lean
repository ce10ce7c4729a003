/-
  A date in a block of its own, carried along.
-/
import Derived.Test.YtmbginojgenbeaaDoorCalDate
namespace Go.Proofs.YtmbginojgenbeaaDoor
open Go.RowKit

/-- A date lies in a block of its own. -/
def DateAt (w : World) (b : Nat) (y m d h i k : Int) : Prop :=
  w.cell? ⟨b, 0, none⟩ = some (.int .i64 y) ∧ w.cell? ⟨b, 1, none⟩ = some (.int .i64 m) ∧ w.cell? ⟨b, 2, none⟩ = some (.int .i64 d) ∧
  w.cell? ⟨b, 3, none⟩ = some (.int .i64 h) ∧ w.cell? ⟨b, 4, none⟩ = some (.int .i64 i) ∧ w.cell? ⟨b, 5, none⟩ = some (.int .i64 k)
theorem DateAt.later {w w' : World} {b : Nat} {y m d h i k : Int} (a : DateAt w b y m d h i k) (hb : Below w.heap.size w w') : DateAt w' b y m d h i k :=
  ⟨cell_later hb a.1, cell_later hb a.2.1, cell_later hb a.2.2.1, cell_later hb a.2.2.2.1, cell_later hb a.2.2.2.2.1, cell_later hb a.2.2.2.2.2⟩
theorem DateAt.new (w : World) (y m d h i k : Int) (t : TypeId) : DateAt (w.alloc (.cells #[.int .i64 y, .int .i64 m, .int .i64 d, .int .i64 h, .int .i64 i, .int .i64 k] t)) w.heap.size y m d h i k := by
  simp [DateAt, go_sem]
theorem below_alloc (w : World) (o : Obj) : Below w.heap.size w (w.alloc o) := (Below.refl _ _).alloc (Nat.le_refl _) _

end Go.Proofs.YtmbginojgenbeaaDoor
