/-
  What all walks share: endings, a date in memory, texts in memory.
-/
import Derived.Test.YtdajolpoiffimaaDoorRows
import Derived.Test.YtdajolpoiffimaaDoorMath
import Derived.Test.YtdajolpoiffimaaDoorLin
import Derived.WalkKit
import Derived.WalkSpells
import Derived.WalkLawsBesides
import Derived.Deep.QuietTactic
import Derived.BigQuiet
import Derived.Deep.AppendLies
namespace Go.Proofs.YtdajolpoiffimaaDoor
open Go.RowKit

theorem ret_int {k : IntKind} {a b : Int} (h : a = b) : Ending.returned (.int k a) = .returned (.int k b) := by rw [h]

theorem ret_bool' {a b : Bool} (h : a = b) : Ending.returned (.bool a) = .returned (.bool b) := by rw [h]
theorem ret_int' {k : IntKind} {a b : Int} (h : a = b) : Ending.returned (.int k a) = .returned (.int k b) := by rw [h]

theorem ret_three {a b : ByteArray} {c : Bool} {a' b' : ByteArray} {c' : Bool} (h : a' = a ∧ b' = b ∧ c' = c) : Ending.returned (.tuple #[.string a, .string b, .bool c]) = .returned (.tuple #[.string a', .string b', .bool c']) := by
  obtain ⟨rfl, rfl, rfl⟩ := h; rfl
theorem ret_numok {a b : Int} {c d : Bool} (h : a = b ∧ c = d) : Ending.returned (.tuple #[.int .i64 a, .bool c]) = .returned (.tuple #[.int .i64 b, .bool d]) := by
  obtain ⟨rfl, rfl⟩ := h; rfl

/-- A date, as a value. -/
abbrev dateV (y m d h i k : Int) : Value := .agg #[.int .i64 y, .int .i64 m, .int .i64 d, .int .i64 h, .int .i64 i, .int .i64 k]

theorem bcell {W w1 : World} (hb : Below W.heap.size W w1) : (∀ b o, b < W.heap.size → w1.cell? ⟨b, o, none⟩ = W.cell? ⟨b, o, none⟩) ∧ (∀ b o, b < W.heap.size → w1.frozen? ⟨b, o, none⟩ = W.frozen? ⟨b, o, none⟩) :=
  ⟨fun b o h => hb.cell (p := ⟨b, o, none⟩) h, fun b o h => hb.frozen (p := ⟨b, o, none⟩) h⟩

/-- A date lies in a block of its own. -/
def DateAt (w : World) (b : Nat) (y m d h i k : Int) : Prop :=
  w.cell? ⟨b, 0, none⟩ = some (.int .i64 y) ∧ w.cell? ⟨b, 1, none⟩ = some (.int .i64 m) ∧ w.cell? ⟨b, 2, none⟩ = some (.int .i64 d) ∧
  w.cell? ⟨b, 3, none⟩ = some (.int .i64 h) ∧ w.cell? ⟨b, 4, none⟩ = some (.int .i64 i) ∧ w.cell? ⟨b, 5, none⟩ = some (.int .i64 k)
theorem DateAt.later {w w' : World} {b : Nat} {y m d h i k : Int} (a : DateAt w b y m d h i k) (hb : Below w.heap.size w w') : DateAt w' b y m d h i k :=
  ⟨cell_later hb a.1, cell_later hb a.2.1, cell_later hb a.2.2.1, cell_later hb a.2.2.2.1, cell_later hb a.2.2.2.2.1, cell_later hb a.2.2.2.2.2⟩
theorem DateAt.new (w : World) (y m d h i k : Int) (t : TypeId) : DateAt (w.alloc (.cells #[.int .i64 y, .int .i64 m, .int .i64 d, .int .i64 h, .int .i64 i, .int .i64 k] t)) w.heap.size y m d h i k := by
  simp [DateAt, go_sem]
theorem below_alloc (w : World) (o : Obj) : Below w.heap.size w (w.alloc o) := (Below.refl _ _).alloc (Nat.le_refl _) _

/-- The element type's row: a string. -/
theorem infoStr : (Tryd.prog.info? 9).map (fun i => (i.zero, i.size, i.bytes)) = some (some (.string ByteArray.empty), 1, 16) := by kernel_rfl

theorem ret_slice {a : Option Addr} {n m cap : Nat} (h : n = m) : Ending.returned (.slice a n cap) = .returned (.slice a m cap) := by rw [h]

/-- Texts lie one behind the other. -/
def StrsAt (w : World) (b : Nat) (L : List ByteArray) : Prop := ∀ k (h : k < L.length), w.cell? ⟨b, k, none⟩ = some (.string L[k])
theorem StrsAt.later {w w' : World} {b : Nat} {L : List ByteArray} (a : StrsAt w b L) (hb : Below w.heap.size w w') : StrsAt w' b L := fun k h => cell_later hb (a k h)
theorem strs_of_own {w : World} {base g n cap : Nat} {e : TypeId} {L : List ByteArray} (h : w.ownsRow base e 1 (.slice (some ⟨g, 0, none⟩) n cap) n (L.map Value.string)) (hn : n = L.length) : StrsAt w g L := by
  intro k hk
  have := h.cellAt k (by omega)
  rw [this]; simp [hk]

theorem ownsRow_drewN {w : World} {base : Nat} {e : TypeId} {size : Nat} {v : Value} {n : Nat} {xs : List Value} (h : w.ownsRow base e size v n xs) (k : Nat) : (w.drewN k).ownsRow base e size v n xs := h
/-- How long a text in a slot is; whether there is more. -/
def strSize : Value → Nat | .string y => y.size | _ => 0
def boolSize : Value → Nat | .bool true => 1 | _ => 0
theorem own_below {w w' : World} {base : Nat} {e : TypeId} {size : Nat} {v : Value} {n : Nat} {xs : List Value} (h : w.ownsRow base e size v n xs) (hb : Below w.heap.size w w') : w'.ownsRow base e size v n xs := by
  refine ⟨h.1, ?_⟩
  rcases h.2 with h2 | ⟨g, cap, cur, hv, hbase, hg, h3⟩
  · exact Or.inl h2
  · refine Or.inr ⟨g, cap, cur, hv, hbase, ?_, h3⟩
    have hlt : g < w.heap.size := by
      rcases Nat.lt_or_ge g w.heap.size with h | h
      · exact h
      · rw [Array.getElem?_eq_none h] at hg; cases hg
    rw [hb.block g hlt]; exact hg
end Go.Proofs.YtdajolpoiffimaaDoor
