/-
  The walk over the program's readLine.
-/
import Derived.Test.YtmbginojgenbeaaDoorTabRead
import Derived.Test.YtmbginojgenbeaaDoorTabLine
import Derived.Deep.RegionHeld3
import Derived.Deep.DrawnRows
namespace Go.Proofs.YtmbginojgenbeaaDoor
open Go.RowKit
attribute [local go_sem ↓] Go.wp_at_zero Go.wp_at_succ

/-- The bounds of the fields lie in memory. -/
def TabLH (w : World) : Prop := ∀ j : Nat, j < 5 → w.cell? ⟨1, j, none⟩ = some (.int .i64 (lo j)) ∧ w.cell? ⟨2, j, none⟩ = some (.int .i64 (hi j))
theorem TabLH.later {w w' : World} (h : TabLH w) (hb : Below w.heap.size w w') : TabLH w' := fun j hj => ⟨cell_later hb (h j hj).1, cell_later hb (h j hj).2⟩
/-- A piece of a line. -/
def pt (s : ByteArray) (i : Nat) : ByteArray := (Txt.pcs 32 s).getD i ByteArray.empty
theorem pt_eq {s : ByteArray} {i : Nat} (h : i < (Txt.pcs 32 s).length) : (Txt.pcs 32 s)[i] = pt s i := by simp [pt, h]
/-- A field's slice. -/
def fv (s : ByteArray) (bb cc : Nat → Nat) (i : Nat) : Value := .slice (some ⟨bb i, 0, none⟩) (Txt.pcs 44 (pt s i)).length (cc i)

/-- What a cell of an empty line holds. -/
def zc (j : Nat) : Value := if j % 2 = 0 then .bool false else .slice none 0 0
/-- What holds while a line is read. -/
structure LInv (w wr : World) (b LB : Nat) (s : ByteArray) (k : Nat) (bb cc : Nat → Nat) : Prop where
  strs : StrsAt wr b (Txt.pcs 32 s)
  tabs : TabLH wr
  res : ∀ j, j < 10 → wr.cell? ⟨w.heap.size, j, none⟩ = some (zc j) ∧ wr.frozen? ⟨w.heap.size, j, none⟩ = false
  ln1 : ∀ j, j < k → wr.cell? ⟨LB, j * 2, none⟩ = some (.bool (Txt.opn (pt s j))) ∧ wr.cell? ⟨LB, j * 2 + 1, none⟩ = some (fv s bb cc j)
  ln2 : ∀ j, k ≤ j → j < 5 → wr.cell? ⟨LB, j * 2, none⟩ = some (.bool false) ∧ wr.cell? ⟨LB, j * 2 + 1, none⟩ = some (.slice none 0 0)
  lnf : ∀ j, j < 10 → wr.frozen? ⟨LB, j, none⟩ = false
  prt : ∀ j : Nat, j < k → LB < bb j ∧ (Txt.pcs 44 (pt s j)).length ≤ cc j ∧ PartsAt wr (bb j) (lo j) (hi j) (Txt.pcs 44 (pt s j))
  bel : Below w.heap.size w wr
  hR : w.heap.size < b
  hb : b < LB
  hL : LB < wr.heap.size
  h2 : 2 < w.heap.size
theorem LInv.below {w wr w' : World} {b LB k : Nat} {s : ByteArray} {bb cc : Nat → Nat} (h : LInv w wr b LB s k bb cc) (q : Below wr.heap.size wr w') : LInv w w' b LB s k bb cc := by
  have h1 := h.hR; have h3 := h.hb; have h4 := h.hL; have h5 := h.bel.size
  exact ⟨h.strs.later q, h.tabs.later q, fun j hj => ⟨cell_later q (h.res j hj).1, (q.frozen (by simp; omega)).trans (h.res j hj).2⟩,
    fun j hj => ⟨cell_later q (h.ln1 j hj).1, cell_later q (h.ln1 j hj).2⟩, fun j h6 hj => ⟨cell_later q (h.ln2 j h6 hj).1, cell_later q (h.ln2 j h6 hj).2⟩,
    fun j hj => (q.frozen (by simpa using h4)).trans (h.lnf j hj), fun j hj => ⟨(h.prt j hj).1, (h.prt j hj).2.1, (h.prt j hj).2.2.later q⟩, h.bel.trans (q.mono h5), h.hR, h.hb, Nat.lt_of_lt_of_le h4 q.size, h.h2⟩
/-- One more field is stored. -/
theorem LInv.store {w wr : World} {b LB k b' c' : Nat} {s : ByteArray} {bb cc : Nat → Nat} (h : LInv w wr b LB s k bb cc) (hk : k < 5) (hb' : LB < b') (hc' : (Txt.pcs 44 (pt s k)).length ≤ c') (hP : PartsAt wr b' (lo k) (hi k) (Txt.pcs 44 (pt s k))) :
    LInv w ((wr.setCell ⟨LB, k * 2, none⟩ (.bool (Txt.opn (pt s k)))).setCell ⟨LB, k * 2 + 1, none⟩ (.slice (some ⟨b', 0, none⟩) (Txt.pcs 44 (pt s k)).length c')) b LB s (k + 1) (fun j => if j = k then b' else bb j) (fun j => if j = k then c' else cc j) := by
  have h1 := h.hR; have h3 := h.hb; have h4 := h.hL; have h5 := h.bel.size; have h6 := h.h2
  have oth : ∀ (v1 v2 : Value) (a j : Nat) (u : Value), ¬ (a = LB ∧ (j = k * 2 ∨ j = k * 2 + 1)) → wr.cell? ⟨a, j, none⟩ = some u → ((wr.setCell ⟨LB, k * 2, none⟩ v1).setCell ⟨LB, k * 2 + 1, none⟩ v2).cell? ⟨a, j, none⟩ = some u := by
    intro v1 v2 a j u hne hc
    rw [World.cell?_setCell_other _ _ _ _ (by simp; omega), World.cell?_setCell_other _ _ _ _ (by simp; omega)]; exact hc
  have parts : ∀ (v1 v2 : Value) (x : Nat) (l g : Int) (L : List ByteArray), LB < x → PartsAt wr x l g L → PartsAt ((wr.setCell ⟨LB, k * 2, none⟩ v1).setCell ⟨LB, k * 2 + 1, none⟩ v2) x l g L := by
    intro v1 v2 x l g L hx hp j hj
    obtain ⟨p0, p1, p2⟩ := hp j hj
    exact ⟨oth _ _ _ _ _ (by omega) p0, oth _ _ _ _ _ (by omega) p1, oth _ _ _ _ _ (by omega) p2⟩
  have z := h.ln2 k (Nat.le_refl _) hk
  refine ⟨fun j hj => oth _ _ _ _ _ (by omega) (h.strs j hj), fun j hj => ⟨oth _ _ _ _ _ (by omega) (h.tabs j hj).1, oth _ _ _ _ _ (by omega) (h.tabs j hj).2⟩, ?_, ?_, ?_, ?_, ?_, ?_, h.hR, h.hb, ?_, h.h2⟩
  · intro j hj
    exact ⟨oth _ _ _ _ _ (by omega) (h.res j hj).1, by rw [World.frozen?_setCell, World.frozen?_setCell]; exact (h.res j hj).2⟩
  · intro j hj
    by_cases e : j = k
    · subst e
      refine ⟨?_, ?_⟩
      · rw [World.cell?_setCell_other _ _ _ _ (by simp)]
        exact World.cell?_setCell_same' _ _ _ (by rw [z.1]; rfl)
      · rw [World.cell?_setCell_same' _ _ _ (by rw [World.cell?_setCell_other _ _ _ _ (by simp), z.2]; rfl)]
        simp [fv]
    · have hj' : j < k := by omega
      refine ⟨oth _ _ _ _ _ (by omega) (h.ln1 j hj').1, ?_⟩
      have : fv s (fun j => if j = k then b' else bb j) (fun j => if j = k then c' else cc j) j = fv s bb cc j := by simp [fv, e]
      rw [this]
      exact oth _ _ _ _ _ (by omega) (h.ln1 j hj').2
  · intro j h7 hj
    exact ⟨oth _ _ _ _ _ (by omega) (h.ln2 j (by omega) hj).1, oth _ _ _ _ _ (by omega) (h.ln2 j (by omega) hj).2⟩
  · intro j hj
    rw [World.frozen?_setCell, World.frozen?_setCell]; exact h.lnf j hj
  · intro j hj
    by_cases e : j = k
    · subst e
      simp only [if_true]
      exact ⟨hb', hc', parts _ _ _ _ _ _ hb' hP⟩
    · have hj' : j < k := by omega
      simp only [e, if_false]
      exact ⟨(h.prt j hj').1, (h.prt j hj').2.1, parts _ _ _ _ _ _ (h.prt j hj').1 (h.prt j hj').2.2⟩
  · exact (h.bel.setCell (by simp; omega) _).setCell (by simp; omega) _
  · simp [World.setCell]; omega

/-- What the drawn statement leaves: the field that was read, in a block q of its own. -/
def Flat (l g : Int) (f : ByteArray) (wr W : World) (q : Nat) (o : Bool) (ad : Option Addr) (n c : Nat) (ok : Bool) : Prop :=
  Below wr.heap.size wr W ∧ W.cell? ⟨q, 0, none⟩ = some (.bool o) ∧ W.cell? ⟨q, 1, none⟩ = some (.slice ad n c) ∧ FieldF l g f wr.heap.size W o ad n c ok
theorem FieldF.mono {l g : Int} {f : ByteArray} {h h' : Nat} {w w' : World} {o : Bool} {ad : Option Addr} {n c : Nat} {ok : Bool} (a : FieldF l g f h w o ad n c ok) (hh : h' ≤ h) (hp : ∀ x L, h ≤ x → PartsAt w x l g L → PartsAt w' x l g L) : FieldF l g f h' w' o ad n c ok := by
  rcases a with ⟨h1, h2, h3, b, h4, h5, h6, h7, h8⟩ | h
  · exact Or.inl ⟨h1, h2, h3, b, h4, h5, Nat.le_trans hh h6, h7, hp _ _ h6 h8⟩
  · exact Or.inr h
theorem flat1 {l g : Int} {f : ByteArray} {wr w2 : World} {o : Bool} {ad : Option Addr} {n c : Nat} {ok : Bool} (h : FieldF l g f wr.drew.heap.size w2 o ad n c ok) (hb : Below wr.drew.heap.size wr.drew w2) (t : TypeId) :
    Flat l g f wr (w2.alloc (.cells #[.bool o, .slice ad n c] t)) w2.heap.size o ad n c ok := by
  have hb' : Below wr.heap.size wr w2 := (Below.refl _ _).drew.trans hb
  refine ⟨hb'.alloc hb'.size _, by simp [go_sem], by simp [go_sem], ?_⟩
  exact h.mono (Nat.le_refl _) (fun x L _ hp => hp.later (below_alloc _ _))
theorem flat2 {l g : Int} {f : ByteArray} {wr w2 : World} {o : Bool} {ad : Option Addr} {n c : Nat} {ok : Bool} {t : TypeId} (h : FieldF l g f (wr.alloc (.cells #[.bool false, .slice none 0 0] t)).drew.heap.size w2 o ad n c ok)
    (hb : Below (wr.alloc (.cells #[.bool false, .slice none 0 0] t)).drew.heap.size (wr.alloc (.cells #[.bool false, .slice none 0 0] t)).drew w2) :
    Flat l g f wr ((w2.setCell ⟨wr.heap.size, 0, none⟩ (.bool o)).setCell ⟨wr.heap.size, 1, none⟩ (.slice ad n c)) wr.heap.size o ad n c ok := by
  have hz : (wr.alloc (.cells #[.bool false, .slice none 0 0] t)).drew.heap.size = wr.heap.size + 1 := by simp
  have hb' : Below wr.heap.size wr w2 := ((below_alloc wr _).drew).trans (hb.mono (by omega))
  have k0 : w2.cell? ⟨wr.heap.size, 0, none⟩ = some (.bool false) := cell_later hb (by simp [go_sem])
  have k1 : w2.cell? ⟨wr.heap.size, 1, none⟩ = some (.slice none 0 0) := cell_later hb (by simp [go_sem])
  refine ⟨(hb'.setCell (by simp) _).setCell (by simp) _, ?_, ?_, ?_⟩
  · rw [World.cell?_setCell_other _ _ _ _ (by simp)]
    exact World.cell?_setCell_same' _ _ _ (by rw [k0]; rfl)
  · exact World.cell?_setCell_same' _ _ _ (by rw [World.cell?_setCell_other _ _ _ _ (by simp), k1]; rfl)
  · refine h.mono (by omega) (fun x L hx hp j hj => ?_)
    rw [hz] at hx
    obtain ⟨p0, p1, p2⟩ := hp j hj
    refine ⟨?_, ?_, ?_⟩
    · rw [World.cell?_setCell_other _ _ _ _ (by first | (simp; done) | (simp; omega)), World.cell?_setCell_other _ _ _ _ (by first | (simp; done) | (simp; omega))]; exact p0
    · rw [World.cell?_setCell_other _ _ _ _ (by first | (simp; done) | (simp; omega)), World.cell?_setCell_other _ _ _ _ (by first | (simp; done) | (simp; omega))]; exact p1
    · rw [World.cell?_setCell_other _ _ _ _ (by first | (simp; done) | (simp; omega)), World.cell?_setCell_other _ _ _ _ (by first | (simp; done) | (simp; omega))]; exact p2
end Go.Proofs.YtmbginojgenbeaaDoor
