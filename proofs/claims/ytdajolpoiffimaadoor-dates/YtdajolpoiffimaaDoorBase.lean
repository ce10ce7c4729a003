/-
  What the statements' proofs share: the table of the months, a date that comes in, a world for the witness.
-/
import Derived.Test.YtdajolpoiffimaaDoorRows
import Derived.Test.YtdajolpoiffimaaDoorCalDate
import Derived.ProofKit
import Derived.OpenShut
import Derived.Deep.DeepHandedRow
import Derived.Lib.LaidTab
namespace Go.Proofs.YtdajolpoiffimaaDoor
open Go.ChangeShapes Go.WideShapes Go.ChangeAt Go.RowKit

theorem own : ownKnob Tryd.prog.godebug = none := by kernel_rfl
theorem laidOut : laidOutB Tryd.prog = true := by kernel_rfl
theorem gTab : Tryd.prog.globalNamed "bellman/calendar.monthLengths" = some 0 := by kernel_rfl
theorem gTabType : (Tryd.prog.globals[0]?).map (·.type) = some 162 := by kernel_rfl
theorem cellsTab : Tryd.prog.cellsOf 162 = 12 := by kernel_rfl
theorem cellsInt : Tryd.prog.cellsOf 3 = 1 := by kernel_rfl
theorem cellsDate : Tryd.prog.cellsOf 23 = 6 := by kernel_rfl

theorem tab_of {W : World} (h : Lib.TabIs Tryd.prog W "bellman/calendar.monthLengths" .i64 [31, 28, 31, 30, 31, 30, 31, 31, 30, 31, 30, 31]) : Tab W := by
  intro m m1 m2
  have : m = 1 ∨ m = 2 ∨ m = 3 ∨ m = 4 ∨ m = 5 ∨ m = 6 ∨ m = 7 ∨ m = 8 ∨ m = 9 ∨ m = 10 ∨ m = 11 ∨ m = 12 := by omega
  rcases this with rfl | rfl | rfl | rfl | rfl | rfl | rfl | rfl | rfl | rfl | rfl | rfl
  · exact h.cell gTab 0 (by decide)
  · exact h.cell gTab 1 (by decide)
  · exact h.cell gTab 2 (by decide)
  · exact h.cell gTab 3 (by decide)
  · exact h.cell gTab 4 (by decide)
  · exact h.cell gTab 5 (by decide)
  · exact h.cell gTab 6 (by decide)
  · exact h.cell gTab 7 (by decide)
  · exact h.cell gTab 8 (by decide)
  · exact h.cell gTab 9 (by decide)
  · exact h.cell gTab 10 (by decide)
  · exact h.cell gTab 11 (by decide)

theorem six {α : Type} {cs : Array α} (h : cs.size = 6) : ∃ a b c d e f, cs = #[a, b, c, d, e, f] := by
  obtain ⟨l⟩ := cs
  match l, h with
  | [a, b, c, d, e, f], _ => exact ⟨a, b, c, d, e, f, rfl⟩
theorem someAt {α : Type} {xs : List α} {n i : Nat} (h : xs.length = n) (hi : i < n) : ∃ x, xs[i]? = some x := ⟨xs[i], by simp⟩

set_option maxRecDepth 10000 in
/-- A date that comes in is six numbers. -/
theorem open_date {H : Type} {enc : TypeId × Value → H} {w : World} {r : Reach} {b0 base : Nat} {spare : Nat → Bool} {held : Bool} {v : Value} {x : DataW H} {p : List MemPlace}
    (hv : Value.okWide Tryd.prog w r b0 23 v) (h : DataW.Trod enc Tryd.prog w base spare held 23 v x p) : ∃ y m d h' i k : Int, v = dateV y m d h' i k := by
  obtain ⟨cs, rfl, hsz⟩ := okWide_struct Tryd.underlying23 hv
  obtain ⟨c0, c1, c2, c3, c4, c5, rfl⟩ := six (hsz.trans cellsDate)
  obtain ⟨fuel, hf⟩ := h
  obtain ⟨xs, n, _, _, _, hlen, hfld⟩ := DataW.trod_struct Tryd.underlying23 hf
  have q : ∀ (j : Nat) (c : Value) (y : DataW H × List MemPlace), DataW.trod enc Tryd.prog w base spare held n 3 [c] = some y → ∃ z : Int, c = .int .i64 z := by
    intro j c y hy
    obtain ⟨z, e, _, _⟩ := DataW.trod_int Tryd.underlying3 hy
    exact ⟨z, by simpa using e⟩
  obtain ⟨x0, e0⟩ := someAt hlen (i := 0) (by decide)
  obtain ⟨x1, e1⟩ := someAt hlen (i := 1) (by decide)
  obtain ⟨x2, e2⟩ := someAt hlen (i := 2) (by decide)
  obtain ⟨x3, e3⟩ := someAt hlen (i := 3) (by decide)
  obtain ⟨x4, e4⟩ := someAt hlen (i := 4) (by decide)
  obtain ⟨x5, e5⟩ := someAt hlen (i := 5) (by decide)
  have h0 := hfld 0 _ rfl
  have h1 := hfld 1 _ rfl
  have h2 := hfld 2 _ rfl
  have h3 := hfld 3 _ rfl
  have h4 := hfld 4 _ rfl
  have h5 := hfld 5 _ rfl
  simp only [Value.cells] at h0 h1 h2 h3 h4 h5
  obtain ⟨a, rfl⟩ := q 0 c0 x0 (h0.trans e0)
  obtain ⟨b, rfl⟩ := q 1 c1 x1 (h1.trans e1)
  obtain ⟨c, rfl⟩ := q 2 c2 x2 (h2.trans e2)
  obtain ⟨d, rfl⟩ := q 3 c3 x3 (h3.trans e3)
  obtain ⟨e, rfl⟩ := q 4 c4 x4 (h4.trans e4)
  obtain ⟨f, rfl⟩ := q 5 c5 x5 (h5.trans e5)
  exact ⟨a, b, c, d, e, f, rfl⟩

end Go.Proofs.YtdajolpoiffimaaDoor
