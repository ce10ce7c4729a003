/-
  Rows in memory: a slice and the cells that it holds.
-/
import Derived.Test.YtdajolpoiffimaaDoorRBase
namespace Go.Proofs.YtdajolpoiffimaaDoor
open Go.RowKit

/-- A slice of n elements, whose cells are these. -/
def RowAt (w : World) (v : Value) (n : Nat) (cells : List Value) : Prop :=
  (v = .slice none 0 0 ∧ n = 0 ∧ cells = []) ∨ ∃ b off cap, v = .slice (some ⟨b, off, none⟩) n cap ∧ n ≤ cap ∧ ∀ j (h : j < cells.length), w.cell? ⟨b, off + j, none⟩ = some cells[j]
theorem RowAt.later {w w' : World} {v : Value} {n : Nat} {cells : List Value} (a : RowAt w v n cells) (hb : Below w.heap.size w w') : RowAt w' v n cells := by
  rcases a with a | ⟨b, off, cap, e, h, c⟩
  · exact Or.inl a
  · exact Or.inr ⟨b, off, cap, e, h, fun j hj => cell_later hb (c j hj)⟩
theorem RowAt.nil (w : World) : RowAt w (.slice none 0 0) 0 [] := Or.inl ⟨rfl, rfl, rfl⟩
theorem RowAt.form {w : World} {v : Value} {n : Nat} {cells : List Value} (a : RowAt w v n cells) : ∃ ad cap, v = .slice ad n cap ∧ n ≤ cap := by
  rcases a with ⟨e, h, _⟩ | ⟨b, off, cap, e, h, _⟩
  · subst h; exact ⟨none, 0, e, Nat.le_refl _⟩
  · exact ⟨_, cap, e, h⟩
theorem RowAt.some' {w : World} {v : Value} {n : Nat} {cells : List Value} (a : RowAt w v n cells) (h : 0 < n) : ∃ b off cap, v = .slice (some ⟨b, off, none⟩) n cap ∧ n ≤ cap ∧ ∀ j (h : j < cells.length), w.cell? ⟨b, off + j, none⟩ = some cells[j] := by
  rcases a with ⟨_, h', _⟩ | a
  · omega
  · exact a
theorem RowAt.of_own {w : World} {base : Nat} {e : TypeId} {size : Nat} {v : Value} {n : Nat} {cells : List Value} (a : w.ownsRow base e size v n cells) : RowAt w v n cells := by
  have hl := a.1
  rcases a.2 with ⟨rfl, rfl⟩ | ⟨g, cap, cur, rfl, hge, hg, hc, _⟩
  · exact Or.inl ⟨rfl, rfl, List.eq_nil_of_length_eq_zero (by omega)⟩
  · refine Or.inr ⟨g, 0, cap, rfl, hc, fun j hj => ?_⟩
    have := a.cellAt j (by omega)
    rw [Nat.zero_add, this]; simp [hj]
/-- The cells of a list of elements, k each. -/
theorem flat_len {α : Type} (f : α → List Value) (k : Nat) (hf : ∀ x, (f x).length = k) (L : List α) : (L.flatMap f).length = L.length * k := by
  induction L with
  | nil => simp
  | cons a r ih => rw [List.flatMap_cons, List.length_append, hf, ih, List.length_cons, Nat.succ_mul]; omega
theorem flat_at {α : Type} (f : α → List Value) (k : Nat) (hf : ∀ x, (f x).length = k) (L : List α) (i : Nat) (hi : i < L.length) (j : Nat) (hj : j < k) : (L.flatMap f)[i * k + j]? = (f L[i])[j]? := by
  induction L generalizing i with
  | nil => simp at hi
  | cons a r ih =>
    rw [List.flatMap_cons]
    cases i with
    | zero => rw [Nat.zero_mul, Nat.zero_add, List.getElem?_append_left (by rw [hf]; exact hj)]; rfl
    | succ i =>
      rw [List.getElem?_append_right (by rw [hf, Nat.succ_mul]; omega), hf, show (i + 1) * k + j - k = i * k + j by rw [Nat.succ_mul]; omega]
      exact ih i (by simpa using hi)
theorem RowAt.cell {α : Type} {f : α → List Value} {k : Nat} (hf : ∀ x, (f x).length = k) {w : World} {L : List α} {b off : Nat} (c : ∀ j (h : j < (L.flatMap f).length), w.cell? ⟨b, off + j, none⟩ = some (L.flatMap f)[j]) (i : Nat) (hi : i < L.length) (j : Nat) (hj : j < k) : w.cell? ⟨b, off + (i * k + j), none⟩ = (f L[i])[j]? := by
  have hl : i * k + j < (L.flatMap f).length := by
    rw [flat_len f k hf]
    calc i * k + j < i * k + k := by omega
      _ = (i + 1) * k := by rw [Nat.succ_mul]
      _ ≤ L.length * k := Nat.mul_le_mul_right k hi
  rw [c _ hl, ← flat_at f k hf L i hi j hj, List.getElem?_eq_getElem hl]
/-- A row whose block is one of elements of this type. -/
def TRow (w : World) (e : TypeId) (v : Value) (n : Nat) (cells : List Value) : Prop :=
  RowAt w v n cells ∧ ∀ b off n' cap, v = .slice (some ⟨b, off, none⟩) n' cap → ∃ cur fr, w.heap[b]? = some (.cells cur e fr)
theorem heap_lt {w : World} {b : Nat} {o : Obj} (h : w.heap[b]? = some o) : b < w.heap.size := by
  rcases Nat.lt_or_ge b w.heap.size with c | c
  · exact c
  · rw [Array.getElem?_eq_none c] at h; cases h
theorem TRow.later {w w' : World} {e : TypeId} {v : Value} {n : Nat} {cells : List Value} (h : TRow w e v n cells) (hb : Below w.heap.size w w') : TRow w' e v n cells := by
  refine ⟨h.1.later hb, fun b off n' cap hv => ?_⟩
  obtain ⟨cur, fr, hc⟩ := h.2 b off n' cap hv
  exact ⟨cur, fr, (hb.block b (heap_lt hc)).trans hc⟩
theorem TRow.of_own {w : World} {base : Nat} {e : TypeId} {size : Nat} {v : Value} {n : Nat} {cells : List Value} (a : w.ownsRow base e size v n cells) : TRow w e v n cells := by
  refine ⟨RowAt.of_own a, fun b off n' cap hv => ?_⟩
  rcases a.2 with ⟨rfl, _⟩ | ⟨g, cap, cur, rfl, _, hg, _⟩
  · cases hv
  · cases hv; exact ⟨_, _, hg⟩
/-- Another row, of another type, has grown. -/
theorem TRow.grown {w w' : World} {e e' : TypeId} {v v' : Value} {n n' base size : Nat} {cells cells' : List Value} (h : TRow w e v n cells) (ho : w.ownsRow base e' size v' n' cells') (hg : w.grownBy w' v'.ownBlock) (hne : e ≠ e') : TRow w' e v n cells := by
  have far : ∀ b off m cap, v = .slice (some ⟨b, off, none⟩) m cap → some b ≠ v'.ownBlock := by
    intro b off m cap hv hb
    obtain ⟨cur, fr, hc⟩ := h.2 b off m cap hv
    rcases ho.2 with ⟨rfl, _⟩ | ⟨g, cap', cur', rfl, _, hg', _⟩
    · cases hb
    · have : b = g := by simpa [Value.ownBlock] using hb
      subst this
      rw [hc] at hg'; cases hg'; exact hne rfl
  refine ⟨?_, fun b off m cap hv => ?_⟩
  · rcases h.1 with a | ⟨b, off, cap, hv, hle, hc⟩
    · exact Or.inl a
    · exact Or.inr ⟨b, off, cap, hv, hle, fun j hj => hg.cell (hc j hj) (far b off n cap hv)⟩
  · obtain ⟨cur, fr, hc⟩ := h.2 b off m cap hv
    exact ⟨cur, fr, (hg.block b (heap_lt hc) (far b off m cap hv)).trans hc⟩
/-- A cell of a block of another type is written. -/
theorem TRow.setCell {w : World} {e e' : TypeId} {v : Value} {n g o : Nat} {cells : List Value} {cur : Array Value} {fr : Nat × Nat} (h : TRow w e v n cells) (hg : w.heap[g]? = some (.cells cur e' fr)) (hne : e ≠ e') (u : Value) : TRow (w.setCell ⟨g, o, none⟩ u) e v n cells := by
  have far : ∀ b off m cap, v = .slice (some ⟨b, off, none⟩) m cap → b ≠ g := by
    intro b off m cap hv hb
    obtain ⟨cur', fr', hc⟩ := h.2 b off m cap hv
    subst hb
    rw [hc] at hg; cases hg; exact hne rfl
  refine ⟨?_, fun b off m cap hv => ?_⟩
  · rcases h.1 with a | ⟨b, off, cap, hv, hle, hc⟩
    · exact Or.inl a
    · refine Or.inr ⟨b, off, cap, hv, hle, fun j hj => ?_⟩
      rw [World.cell?_setCell_other _ _ _ _ (by have := far b off n cap hv; simp)]; exact hc j hj
  · obtain ⟨cur', fr', hc⟩ := h.2 b off m cap hv
    exact ⟨cur', fr', (Below.heap_setCell _ _ _ _ (far b off m cap hv)).trans hc⟩
theorem TRow.nil (w : World) (e : TypeId) : TRow w e (.slice none 0 0) 0 [] := ⟨RowAt.nil w, fun _ _ _ _ h => by cases h⟩
theorem TRow.form {w : World} {e : TypeId} {v : Value} {n : Nat} {cells : List Value} (a : TRow w e v n cells) : ∃ ad cap, v = .slice ad n cap ∧ n ≤ cap := a.1.form
/-- A block of cells of this type. -/
def Typed (w : World) (g : Nat) (e : TypeId) : Prop := ∃ cur fr, w.heap[g]? = some (.cells cur e fr)
theorem Typed.lt {w : World} {g : Nat} {e : TypeId} (h : Typed w g e) : g < w.heap.size := by obtain ⟨_, _, h⟩ := h; exact heap_lt h
theorem Typed.new (w : World) (cs : Array Value) (e : TypeId) : Typed (w.alloc (.cells cs e)) w.heap.size e := ⟨cs, (0, 0), by show (w.heap.push (.cells cs e))[w.heap.size]? = _; simp⟩
theorem Typed.below {w w' : World} {g n : Nat} {e : TypeId} (h : Typed w g e) (hg : g < n) (hb : Below n w w') : Typed w' g e := by
  obtain ⟨cur, fr, h⟩ := h; exact ⟨cur, fr, (hb.block g hg).trans h⟩
theorem Typed.later {w w' : World} {g : Nat} {e : TypeId} (h : Typed w g e) (hb : Below w.heap.size w w') : Typed w' g e := h.below h.lt hb
theorem Typed.setCell {w : World} {g : Nat} {e : TypeId} (h : Typed w g e) (p o : Nat) (u : Value) : Typed (w.setCell ⟨p, o, none⟩ u) g e := by
  obtain ⟨cur, fr, h⟩ := h
  by_cases hp : g = p
  · subst hp
    refine ⟨cur.setIfInBounds o u, fr, ?_⟩
    simp [World.setCell, Array.getElem?_modify, h]
  · exact ⟨cur, fr, (Below.heap_setCell _ _ _ _ hp).trans h⟩
theorem TRow.set {w : World} {e e' : TypeId} {v : Value} {n g : Nat} {cells : List Value} (h : TRow w e v n cells) (hg : Typed w g e') (hne : e ≠ e') (o : Nat) (u : Value) : TRow (w.setCell ⟨g, o, none⟩ u) e v n cells := by
  obtain ⟨cur, fr, hg⟩ := hg; exact h.setCell hg hne u
theorem grow_of_below {w w' : World} (hb : Below w.heap.size w w') (r : Option Nat) : w.grownBy w' r := ⟨hb.os, hb.tape, hb.output, hb.size, fun k hk _ => hb.block k hk⟩
theorem grow_trans {w w1 w2 : World} {r : Option Nat} (h1 : w.grownBy w1 r) (h2 : w1.grownBy w2 r) : w.grownBy w2 r :=
  ⟨h2.os.trans h1.os, h2.tape.trans h1.tape, h2.output.trans h1.output, Nat.le_trans h1.size h2.size, fun k hk hn => (h2.block k (Nat.lt_of_lt_of_le hk h1.size) hn).trans (h1.block k hk hn)⟩
theorem grow_refl (w : World) (r : Option Nat) : w.grownBy w r := ⟨rfl, rfl, rfl, Nat.le_refl _, fun _ _ _ => rfl⟩
theorem grow_set {w w1 : World} {B : Nat} (h : w.grownBy w1 (some B)) (j : Nat) (u : Value) : w.grownBy (w1.setCell ⟨B, j, none⟩ u) (some B) :=
  grow_trans h ⟨rfl, rfl, rfl, by simp [World.setCell], fun k _ hn => Below.heap_setCell _ _ _ _ (fun e => hn (by simpa using congrArg some e))⟩

end Go.Proofs.YtdajolpoiffimaaDoor
