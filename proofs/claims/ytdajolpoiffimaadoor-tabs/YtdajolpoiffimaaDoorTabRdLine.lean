/-
  The walk over the program's readLine.
-/
import Derived.Test.YtdajolpoiffimaaDoorTabRead
import Derived.Test.YtdajolpoiffimaaDoorRBase
import Derived.Test.YtdajolpoiffimaaDoorTabOpt2
import Derived.Deep.RegionHeld3
import Derived.Deep.DrawnRows
import Derived.Deep.CutRange
namespace Go.Proofs.YtdajolpoiffimaaDoor
open Go.RowKit

attribute [local go_sem ↓] Go.wp_at_zero Go.wp_at_succ

/-- The bounds of the fields lie in memory. -/
def TabLH (w : World) : Prop := ∀ j : Nat, j < 5 → w.cell? ⟨1, j, none⟩ = some (.int .i64 (lo j)) ∧ w.cell? ⟨2, j, none⟩ = some (.int .i64 (hi j))
theorem TabLH.later {w w' : World} (h : TabLH w) (hb : Below w.heap.size w w') : TabLH w' := fun j hj => ⟨cell_later hb (h j hj).1, cell_later hb (h j hj).2⟩
/-- A field's slice. -/
def fv (s : ByteArray) (bb cc : Nat → Nat) (i : Nat) : Value := .slice (some ⟨bb i, 0, none⟩) (Txt.pcs 44 (pt s i)).length (cc i)

/-- What a cell of an empty line holds. -/
def zc : Nat → Value
  | 0 => .bool false | 2 => .bool false | 4 => .bool false | 6 => .bool false | 8 => .bool false | 10 => .bool false
  | 11 => .int .u8 0 | 12 => .int .i64 0 | _ => .slice none 0 0
/-- What holds while a line is read. -/
structure LInv (w wr : World) (b LB : Nat) (s : ByteArray) (k : Nat) (bb cc : Nat → Nat) : Prop where
  strs : StrsAt wr b (Txt.pcs 32 s)
  tabs : TabLH wr
  res : ∀ j, j < 14 → wr.cell? ⟨w.heap.size, j, none⟩ = some (zc j) ∧ wr.frozen? ⟨w.heap.size, j, none⟩ = false
  ln1 : ∀ j, j < k → wr.cell? ⟨LB, j * 2, none⟩ = some (.bool (Txt.opn (pt s j))) ∧ wr.cell? ⟨LB, j * 2 + 1, none⟩ = some (fv s bb cc j)
  ln2 : ∀ j, k ≤ j → j < 5 → wr.cell? ⟨LB, j * 2, none⟩ = some (.bool false) ∧ wr.cell? ⟨LB, j * 2 + 1, none⟩ = some (.slice none 0 0)
  ln3 : ∀ j, 10 ≤ j → j < 14 → wr.cell? ⟨LB, j, none⟩ = some (zc j)
  lnf : ∀ j, j < 14 → wr.frozen? ⟨LB, j, none⟩ = false
  prt : ∀ j : Nat, j < k → LB < bb j ∧ (Txt.pcs 44 (pt s j)).length ≤ cc j ∧ PartsAt wr (bb j) (lo j) (hi j) (Txt.pcs 44 (pt s j))
  bel : Below w.heap.size w wr
  hR : w.heap.size < b
  hb : b < LB
  hL : LB < wr.heap.size
  h2 : 1 < w.heap.size ∧ 2 < w.heap.size
theorem LInv.below {w wr w' : World} {b LB k : Nat} {s : ByteArray} {bb cc : Nat → Nat} (h : LInv w wr b LB s k bb cc) (q : Below wr.heap.size wr w') : LInv w w' b LB s k bb cc := by
  have h1 := h.hR; have h3 := h.hb; have h4 := h.hL; have h5 := h.bel.size
  exact ⟨h.strs.later q, h.tabs.later q, fun j hj => ⟨cell_later q (h.res j hj).1, (q.frozen (by simp; omega)).trans (h.res j hj).2⟩,
    fun j hj => ⟨cell_later q (h.ln1 j hj).1, cell_later q (h.ln1 j hj).2⟩, fun j h6 hj => ⟨cell_later q (h.ln2 j h6 hj).1, cell_later q (h.ln2 j h6 hj).2⟩, fun j h6 hj => cell_later q (h.ln3 j h6 hj),
    fun j hj => (q.frozen (by simpa using h4)).trans (h.lnf j hj), fun j hj => ⟨(h.prt j hj).1, (h.prt j hj).2.1, (h.prt j hj).2.2.later q⟩, h.bel.trans (q.mono h5), h.hR, h.hb, Nat.lt_of_lt_of_le h4 q.size, h.h2⟩
/-- One more field is stored. -/
theorem LInv.store {w wr : World} {b LB k b' c' : Nat} {s : ByteArray} {bb cc : Nat → Nat} (h : LInv w wr b LB s k bb cc) (hk : k < 5) (hb' : LB < b') (hc' : (Txt.pcs 44 (pt s k)).length ≤ c') (hP : PartsAt wr b' (lo k) (hi k) (Txt.pcs 44 (pt s k))) :
    LInv w ((wr.setCell ⟨LB, k * 2, none⟩ (.bool (Txt.opn (pt s k)))).setCell ⟨LB, k * 2 + 1, none⟩ (.slice (some ⟨b', 0, none⟩) (Txt.pcs 44 (pt s k)).length c')) b LB s (k + 1) (fun j => if j = k then b' else bb j) (fun j => if j = k then c' else cc j) := by
  have h1 := h.hR; have h3 := h.hb; have h4 := h.hL; have h5 := h.bel.size; have h6 := h.h2
  have oth : ∀ (v1 v2 : Value) (a j : Nat) (u : Value), ¬ (a = LB ∧ (j = k * 2 ∨ j = k * 2 + 1)) → wr.cell? ⟨a, j, none⟩ = some u → ((wr.setCell ⟨LB, k * 2, none⟩ v1).setCell ⟨LB, k * 2 + 1, none⟩ v2).cell? ⟨a, j, none⟩ = some u := by
    intro v1 v2 a j u hne hc
    rw [World.cell?_setCell_other _ _ _ _ (by simp; omega), World.cell?_setCell_other _ _ _ _ (by simp; omega)]; exact hc
  have parts : ∀ (v1 v2 : Value) (x : Nat) (l g : Int) (L : List ByteArray), LB < x → PartsAt wr x l g L → PartsAt ((wr.setCell ⟨LB, k * 2, none⟩ v1).setCell ⟨LB, k * 2 + 1, none⟩ v2) x l g L := by
    intro v1 v2 x l g L hx hp j hj
    obtain ⟨p0, p1, p2⟩ := hp j hj
    exact ⟨oth _ _ _ _ _ (by omega) p0, oth _ _ _ _ _ (by omega) p1, oth _ _ _ _ _ (by omega) p2⟩
  have z := h.ln2 k (Nat.le_refl _) hk
  refine ⟨fun j hj => oth _ _ _ _ _ (by omega) (h.strs j hj), fun j hj => ⟨oth _ _ _ _ _ (by omega) (h.tabs j hj).1, oth _ _ _ _ _ (by omega) (h.tabs j hj).2⟩, ?_, ?_, ?_, fun j h6 hj => oth _ _ _ _ _ (by omega) (h.ln3 j h6 hj), ?_, ?_, ?_, h.hR, h.hb, ?_, h.h2⟩
  · intro j hj
    exact ⟨oth _ _ _ _ _ (by omega) (h.res j hj).1, by rw [World.frozen?_setCell, World.frozen?_setCell]; exact (h.res j hj).2⟩
  · intro j hj
    by_cases e : j = k
    · subst e
      refine ⟨?_, ?_⟩
      · rw [World.cell?_setCell_other _ _ _ _ (by simp)]
        exact World.cell?_setCell_same' _ _ _ (by rw [z.1]; rfl)
      · rw [World.cell?_setCell_same' _ _ _ (by rw [World.cell?_setCell_other _ _ _ _ (by simp), z.2]; rfl)]
        simp [fv]
    · have hj' : j < k := by omega
      refine ⟨oth _ _ _ _ _ (by omega) (h.ln1 j hj').1, ?_⟩
      have : fv s (fun j => if j = k then b' else bb j) (fun j => if j = k then c' else cc j) j = fv s bb cc j := by simp [fv, e]
      rw [this]
      exact oth _ _ _ _ _ (by omega) (h.ln1 j hj').2
  · intro j h7 hj
    exact ⟨oth _ _ _ _ _ (by omega) (h.ln2 j (by omega) hj).1, oth _ _ _ _ _ (by omega) (h.ln2 j (by omega) hj).2⟩
  · intro j hj
    rw [World.frozen?_setCell, World.frozen?_setCell]; exact h.lnf j hj
  · intro j hj
    by_cases e : j = k
    · subst e
      simp only [if_true]
      exact ⟨hb', hc', parts _ _ _ _ _ _ hb' hP⟩
    · have hj' : j < k := by omega
      simp only [e, if_false]
      exact ⟨(h.prt j hj').1, (h.prt j hj').2.1, parts _ _ _ _ _ _ (h.prt j hj').1 (h.prt j hj').2.2⟩
  · exact (h.bel.setCell (by simp; omega) _).setCell (by simp; omega) _
  · simp [World.setCell]; omega

/-- A step's cells. -/
def spC (x : ByteArray) : List Value := [.bool (sayB x), .string (x.extract 1 x.size)]
theorem spC_len (x : ByteArray) : (spC x).length = 2 := rfl
theorem spC_one (x : ByteArray) : ∀ u ∈ spC x, u.oneCell' = true := by intro u hu; simp [spC] at hu; rcases hu with rfl | rfl <;> rfl
/-- The steps of a line. -/
def stps (s : ByteArray) : List ByteArray := (Txt.pcs 32 s).drop 6
theorem stps_len (s : ByteArray) : (stps s).length = (Txt.pcs 32 s).length - 6 := by simp [stps]
theorem stps_at {s : ByteArray} {n : Nat} (h : n < (stps s).length) : (stps s)[n] = (Txt.pcs 32 s)[6 + n]'(by rw [stps_len] at h; omega) := by simp [stps]
theorem info_step : (Tryd.prog.info? 169).map (fun i => (i.zero, i.size, i.bytes)) = some (some (.agg #[.bool false, .string ByteArray.empty]), 2, 24) := by kernel_rfl
/-- What holds while the steps are read. -/
structure SInv (w wr : World) (b LB base : Nat) (s : ByteArray) (n : Nat) (bb cc : Nat → Nat) (v : Value) : Prop where
  strs : StrsAt wr b (Txt.pcs 32 s)
  res : ∀ j, j < 14 → wr.cell? ⟨w.heap.size, j, none⟩ = some (zc j) ∧ wr.frozen? ⟨w.heap.size, j, none⟩ = false
  ln1 : ∀ j, j < 5 → wr.cell? ⟨LB, j * 2, none⟩ = some (.bool (Txt.opn (pt s j))) ∧ wr.cell? ⟨LB, j * 2 + 1, none⟩ = some (fv s bb cc j)
  o0 : wr.cell? ⟨LB, 10, none⟩ = some (.bool (obt (pt s 5) 0 == 120))
  o1 : wr.cell? ⟨LB, 11, none⟩ = some (.int .u8 (obt (pt s 5) 1))
  o2 : wr.cell? ⟨LB, 12, none⟩ = some (.int .i64 (obt (pt s 5) 2 - 48))
  o3 : wr.cell? ⟨LB, 13, none⟩ = some v
  lnf : ∀ j, j < 14 → wr.frozen? ⟨LB, j, none⟩ = false
  prt : ∀ j : Nat, j < 5 → LB < bb j ∧ bb j < base ∧ (Txt.pcs 44 (pt s j)).length ≤ cc j ∧ PartsAt wr (bb j) (lo j) (hi j) (Txt.pcs 44 (pt s j))
  own : wr.ownsRow base 169 2 v n (((stps s).take n).flatMap spC)
  bel : Below w.heap.size w wr
  hR : w.heap.size < b
  hb : b < LB
  hL : LB < base
  hbase : base ≤ wr.heap.size
theorem SInv.below {w wr w' : World} {b LB base n : Nat} {s : ByteArray} {bb cc : Nat → Nat} {v : Value} (h : SInv w wr b LB base s n bb cc v) (q : Below wr.heap.size wr w') : SInv w w' b LB base s n bb cc v := by
  have h1 := h.hR; have h3 := h.hb; have h4 := h.hL; have h5 := h.bel.size; have h6 := h.hbase
  exact ⟨h.strs.later q, fun j hj => ⟨cell_later q (h.res j hj).1, (q.frozen (by simp; omega)).trans (h.res j hj).2⟩,
    fun j hj => ⟨cell_later q (h.ln1 j hj).1, cell_later q (h.ln1 j hj).2⟩, cell_later q h.o0, cell_later q h.o1, cell_later q h.o2, cell_later q h.o3,
    fun j hj => (q.frozen (by simp; omega)).trans (h.lnf j hj), fun j hj => ⟨(h.prt j hj).1, (h.prt j hj).2.1, (h.prt j hj).2.2.1, (h.prt j hj).2.2.2.later q⟩, own_below h.own q, h.bel.trans (q.mono h5), h.hR, h.hb, h.hL, Nat.le_trans h.hbase q.size⟩
theorem SInv.far {w wr w2 : World} {b LB base n : Nat} {s : ByteArray} {bb cc : Nat → Nat} {v : Value} (h : SInv w wr b LB base s n bb cc v) (hg : wr.grownBy w2 v.ownBlock) : Below base wr w2 :=
  (Below.refl _ _).grown hg h.hbase (fun k e => (h.own.lt k e).1)
theorem SInv.app {w wr w2 : World} {b LB base n : Nat} {s : ByteArray} {bb cc : Nat → Nat} {v v' : Value} (h : SInv w wr b LB base s n bb cc v) (hg : wr.grownBy w2 v.ownBlock) (ho : w2.ownsRow base 169 2 v' (n + 1) (((stps s).take (n + 1)).flatMap spC)) :
    SInv w (w2.setCell ⟨LB, 13, none⟩ v') b LB base s (n + 1) bb cc v' := by
  have k := h.far hg
  have h1 := h.hR; have h3 := h.hb; have h4 := h.hL; have h5 := h.bel.size; have h6 := h.hbase
  have cell : ∀ (a j : Nat) (u : Value), a < base → ¬ (a = LB ∧ j = 13) → wr.cell? ⟨a, j, none⟩ = some u → (w2.setCell ⟨LB, 13, none⟩ v').cell? ⟨a, j, none⟩ = some u := by
    intro a j u ha hne hc
    rw [World.cell?_setCell_other _ _ _ _ (by first | (simp; done) | (simp; omega)), k.cell (p := ⟨a, j, none⟩) ha]; exact hc
  have fro : ∀ (a j : Nat), a < base → (w2.setCell ⟨LB, 13, none⟩ v').frozen? ⟨a, j, none⟩ = wr.frozen? ⟨a, j, none⟩ := by
    intro a j ha
    rw [World.frozen?_setCell, k.frozen (p := ⟨a, j, none⟩) ha]
  refine ⟨fun j hj => cell _ _ _ (by omega) (by omega) (h.strs j hj), fun j hj => ⟨cell _ _ _ (by omega) (by omega) (h.res j hj).1, (fro _ _ (by omega)).trans (h.res j hj).2⟩, fun j hj => ⟨cell _ _ _ h4 (by omega) (h.ln1 j hj).1, cell _ _ _ h4 (by omega) (h.ln1 j hj).2⟩,
    cell _ _ _ h4 (by omega) h.o0, cell _ _ _ h4 (by omega) h.o1, cell _ _ _ h4 (by omega) h.o2, ?_, fun j hj => (fro _ _ h4).trans (h.lnf j hj), fun j hj => ?_, ownsRow_setCell_below ho (by simp; omega) _, ?_, h.hR, h.hb, h.hL, ?_⟩
  · exact World.cell?_setCell_same' _ _ _ (by rw [k.cell (p := ⟨LB, 13, none⟩) (by simpa using h4), h.o3]; rfl)
  · obtain ⟨p1, p2, p3, p4⟩ := h.prt j hj
    refine ⟨p1, p2, p3, fun t ht => ?_⟩
    obtain ⟨q0, q1, q2⟩ := p4 t ht
    exact ⟨cell _ _ _ p2 (by omega) q0, cell _ _ _ p2 (by omega) q1, cell _ _ _ p2 (by omega) q2⟩
  · exact (h.bel.trans (k.mono (by omega))).setCell (by simp; omega) _
  · have := hg.size; simp [World.setCell]; omega
/-- The fields are read, the options stored: the steps begin. -/
theorem SInv.start {w wr : World} {b LB : Nat} {s : ByteArray} {bb cc : Nat → Nat} (h : LInv w wr b LB s 5 bb cc) {x : Bool} {c k : Int} (hx : x = (obt (pt s 5) 0 == 120)) (hc : c = obt (pt s 5) 1) (hk : k = obt (pt s 5) 2 - 48) :
    SInv w (((wr.setCell ⟨LB, 10, none⟩ (.bool x)).setCell ⟨LB, 11, none⟩ (.int .u8 c)).setCell ⟨LB, 12, none⟩ (.int .i64 k)) b LB wr.heap.size s 0 bb cc (.slice none 0 0) := by
  subst hx hc hk
  have h1 := h.hR; have h3 := h.hb; have h4 := h.hL; have h5 := h.bel.size
  generalize hx : (Value.bool (obt (pt s 5) 0 == 120)) = u0
  generalize hc : (Value.int .u8 (obt (pt s 5) 1)) = u1
  generalize hk : (Value.int .i64 (obt (pt s 5) 2 - 48)) = u2
  have oth : ∀ (a j : Nat) (u : Value), ¬ (a = LB ∧ (j = 10 ∨ j = 11 ∨ j = 12)) → wr.cell? ⟨a, j, none⟩ = some u → (((wr.setCell ⟨LB, 10, none⟩ u0).setCell ⟨LB, 11, none⟩ u1).setCell ⟨LB, 12, none⟩ u2).cell? ⟨a, j, none⟩ = some u := by
    intro a j u hne hc
    rw [World.cell?_setCell_other _ _ _ _ (by simp; omega), World.cell?_setCell_other _ _ _ _ (by simp; omega), World.cell?_setCell_other _ _ _ _ (by simp; omega)]; exact hc
  have z10 := h.ln3 10 (by decide) (by decide)
  have z11 := h.ln3 11 (by decide) (by decide)
  have z12 := h.ln3 12 (by decide) (by decide)
  refine ⟨fun j hj => oth _ _ _ (by omega) (h.strs j hj), fun j hj => ⟨oth _ _ _ (by omega) (h.res j hj).1, by rw [World.frozen?_setCell, World.frozen?_setCell, World.frozen?_setCell]; exact (h.res j hj).2⟩,
    fun j hj => ⟨oth _ _ _ (by omega) (h.ln1 j hj).1, oth _ _ _ (by omega) (h.ln1 j hj).2⟩, ?_, ?_, ?_, oth _ _ _ (by omega) (h.ln3 13 (by decide) (by decide)), ?_, ?_, World.ownsRow_nil _ _ _ _, ?_, h.hR, h.hb, h.hL, by simp [World.setCell]⟩
  · rw [World.cell?_setCell_other _ _ _ _ (by simp), World.cell?_setCell_other _ _ _ _ (by simp), World.cell?_setCell_same' _ _ _ (by rw [z10]; rfl), hx]
  · rw [World.cell?_setCell_other _ _ _ _ (by simp), World.cell?_setCell_same' _ _ _ (by rw [World.cell?_setCell_other _ _ _ _ (by simp), z11]; rfl), hc]
  · rw [World.cell?_setCell_same' _ _ _ (by rw [World.cell?_setCell_other _ _ _ _ (by simp), World.cell?_setCell_other _ _ _ _ (by simp), z12]; rfl), hk]
  · intro j hj
    rw [World.frozen?_setCell, World.frozen?_setCell, World.frozen?_setCell]; exact h.lnf j hj
  · intro j hj
    obtain ⟨p1, p2, p3⟩ := h.prt j hj
    refine ⟨p1, ?_, p2, fun t ht => ?_⟩
    · exact World.block_lt_of_cell? _ _ (p3 0 (Txt.pcs_ne _ _)).1
    · obtain ⟨q0, q1, q2⟩ := p3 t ht
      exact ⟨oth _ _ _ (by omega) q0, oth _ _ _ (by omega) q1, oth _ _ _ (by omega) q2⟩
  · exact ((h.bel.setCell (by simp; omega) _).setCell (by simp; omega) _).setCell (by simp; omega) _

/-- What the drawn statement leaves: the field that was read, in a block q of its own. -/
def Flat (l g : Int) (f : ByteArray) (wr W : World) (q : Nat) (o : Bool) (ad : Option Addr) (n c : Nat) (ok : Bool) : Prop :=
  Below wr.heap.size wr W ∧ W.cell? ⟨q, 0, none⟩ = some (.bool o) ∧ W.cell? ⟨q, 1, none⟩ = some (.slice ad n c) ∧ FieldF l g f wr.heap.size W o ad n c ok
theorem FieldF.mono {l g : Int} {f : ByteArray} {h h' : Nat} {w w' : World} {o : Bool} {ad : Option Addr} {n c : Nat} {ok : Bool} (a : FieldF l g f h w o ad n c ok) (hh : h' ≤ h) (hp : ∀ x L, h ≤ x → PartsAt w x l g L → PartsAt w' x l g L) : FieldF l g f h' w' o ad n c ok := by
  rcases a with ⟨h1, h2, h3, b, h4, h5, h6, h7, h8⟩ | h
  · exact Or.inl ⟨h1, h2, h3, b, h4, h5, Nat.le_trans hh h6, h7, hp _ _ h6 h8⟩
  · exact Or.inr h
theorem flat1 {l g : Int} {f : ByteArray} {wr w2 : World} {o : Bool} {ad : Option Addr} {n c : Nat} {ok : Bool} (h : FieldF l g f wr.drew.heap.size w2 o ad n c ok) (hb : Below wr.drew.heap.size wr.drew w2) (t : TypeId) :
    Flat l g f wr (w2.alloc (.cells #[.bool o, .slice ad n c] t)) w2.heap.size o ad n c ok := by
  have hb' : Below wr.heap.size wr w2 := (Below.refl _ _).drew.trans hb
  refine ⟨hb'.alloc hb'.size _, by simp [go_sem], by simp [go_sem], ?_⟩
  exact h.mono (Nat.le_refl _) (fun x L _ hp => hp.later (below_alloc _ _))
theorem flat2 {l g : Int} {f : ByteArray} {wr w2 : World} {o : Bool} {ad : Option Addr} {n c : Nat} {ok : Bool} {t : TypeId} (h : FieldF l g f (wr.alloc (.cells #[.bool false, .slice none 0 0] t)).drew.heap.size w2 o ad n c ok)
    (hb : Below (wr.alloc (.cells #[.bool false, .slice none 0 0] t)).drew.heap.size (wr.alloc (.cells #[.bool false, .slice none 0 0] t)).drew w2) :
    Flat l g f wr ((w2.setCell ⟨wr.heap.size, 0, none⟩ (.bool o)).setCell ⟨wr.heap.size, 1, none⟩ (.slice ad n c)) wr.heap.size o ad n c ok := by
  have hz : (wr.alloc (.cells #[.bool false, .slice none 0 0] t)).drew.heap.size = wr.heap.size + 1 := by simp
  have hb' : Below wr.heap.size wr w2 := ((below_alloc wr _).drew).trans (hb.mono (by omega))
  have k0 : w2.cell? ⟨wr.heap.size, 0, none⟩ = some (.bool false) := cell_later hb (by simp [go_sem])
  have k1 : w2.cell? ⟨wr.heap.size, 1, none⟩ = some (.slice none 0 0) := cell_later hb (by simp [go_sem])
  refine ⟨(hb'.setCell (by simp) _).setCell (by simp) _, ?_, ?_, ?_⟩
  · rw [World.cell?_setCell_other _ _ _ _ (by simp)]
    exact World.cell?_setCell_same' _ _ _ (by rw [k0]; rfl)
  · exact World.cell?_setCell_same' _ _ _ (by rw [World.cell?_setCell_other _ _ _ _ (by simp), k1]; rfl)
  · refine h.mono (by omega) (fun x L hx hp j hj => ?_)
    rw [hz] at hx
    obtain ⟨p0, p1, p2⟩ := hp j hj
    refine ⟨?_, ?_, ?_⟩
    · rw [World.cell?_setCell_other _ _ _ _ (by first | (simp; done) | (simp; omega)), World.cell?_setCell_other _ _ _ _ (by first | (simp; done) | (simp; omega))]; exact p0
    · rw [World.cell?_setCell_other _ _ _ _ (by first | (simp; done) | (simp; omega)), World.cell?_setCell_other _ _ _ _ (by first | (simp; done) | (simp; omega))]; exact p1
    · rw [World.cell?_setCell_other _ _ _ _ (by first | (simp; done) | (simp; omega)), World.cell?_setCell_other _ _ _ _ (by first | (simp; done) | (simp; omega))]; exact p2
end Go.Proofs.YtdajolpoiffimaaDoor
