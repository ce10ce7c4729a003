/-
  Fields, as plain mathematics: which texts are fields, what they hold.
-/
import Derived.Test.YtdajolpoiffimaaDoorNum
namespace Go.Proofs.YtdajolpoiffimaaDoor.Txt

/-- Is a text a field of values from l to g? -/
def fldB (l g : Int) (f : ByteArray) : Bool := (pcs 44 f).all (spK l g)
theorem fldB_yes {l g : Int} {f : ByteArray} (h : ∀ k (hk : k < (pcs 44 f).length), spK l g (pcs 44 f)[k] = true) : fldB l g f = true := by
  unfold fldB; rw [List.all_eq_true]
  intro b hb
  obtain ⟨j, hj, rfl⟩ := List.mem_iff_getElem.1 hb
  exact h j hj
theorem fldB_at {l g : Int} {f : ByteArray} (h : fldB l g f = true) (k : Nat) (hk : k < (pcs 44 f).length) : spK l g (pcs 44 f)[k] = true := by
  unfold fldB at h; rw [List.all_eq_true] at h
  exact h _ (List.getElem_mem hk)
theorem fldB_no {l g : Int} {f : ByteArray} {k : Nat} (hk : k < (pcs 44 f).length) (h : spK l g (pcs 44 f)[k] = false) : fldB l g f = false := by
  cases e : fldB l g f
  · rfl
  · rw [fldB_at e k hk] at h; cases h
/-- Does a span hold a value? -/
def inB (a b t v : Int) : Bool := decide (a ≤ v ∧ v ≤ b ∧ 1 ≤ t ∧ (v - a) % t = 0)
theorem inB_yes {a b t v : Int} (h1 : a ≤ v) (h2 : v ≤ b) (h3 : 1 ≤ t) (h4 : (v - a) % t = 0) : inB a b t v = true := decide_eq_true ⟨h1, h2, h3, h4⟩
theorem inB_no {a b t v : Int} (h : v < a ∨ b < v ∨ t < 1 ∨ ¬ (v - a) % t = 0) : inB a b t v = false := decide_eq_false (by omega)
/-- Does a field hold a value? -/
def hldB (l g v : Int) (f : ByteArray) : Bool := (pcs 44 f).any fun p => inB (spA l p) (spB g p) (spS p) v
theorem hldB_yes {l g v : Int} {f : ByteArray} {k : Nat} (hk : k < (pcs 44 f).length) (h : inB (spA l (pcs 44 f)[k]) (spB g (pcs 44 f)[k]) (spS (pcs 44 f)[k]) v = true) : hldB l g v f = true := by
  unfold hldB; rw [List.any_eq_true]
  exact ⟨_, List.getElem_mem hk, h⟩
theorem hldB_no {l g v : Int} {f : ByteArray} (h : ∀ k (hk : k < (pcs 44 f).length), inB (spA l (pcs 44 f)[k]) (spB g (pcs 44 f)[k]) (spS (pcs 44 f)[k]) v = false) : hldB l g v f = false := by
  unfold hldB; rw [List.any_eq_false]
  intro b hb
  obtain ⟨j, hj, rfl⟩ := List.mem_iff_getElem.1 hb
  simp [h j hj]
/-- Does a text begin with an asterisk? -/
def opn (s : ByteArray) : Bool := (s.data.toList.head?).any fun b => (b.toNat : Int) == 42
theorem opn_nil {s : ByteArray} (h : s.size = 0) : opn s = false := by
  have : s.data.toList = [] := by have : s.data.toList.length = 0 := by simpa using h
                                  exact List.eq_nil_of_length_eq_zero this
  simp [opn, this]
theorem opn_at {s : ByteArray} (h : 0 < s.size) : opn s = ((s[0].toNat : Int) == 42) := by
  have e : s.data.toList.head? = some s[0] := by
    rw [List.head?_eq_getElem?]
    have : 0 < s.data.toList.length := by simpa using h
    rw [List.getElem?_eq_getElem this]; rfl
  simp [opn, e]
theorem pcs_sz {c : Int} {s : ByteArray} {n : Nat} (hs : s.size ≤ n) (k : Nat) (hk : k < (pcs c s).length) : (pcs c s)[k].size ≤ n := Nat.le_trans (pcs_size c s _ (List.getElem_mem hk)) hs
theorem spK_bd {l g : Int} {p : ByteArray} (h : spK l g p = true) : 1 ≤ spS p ∧ spS p ≤ 99 ∧ l ≤ spA l p ∧ spA l p ≤ spB g p ∧ spB g p ≤ g := by
  have := of_decide_eq_true h
  have b := val_bd (cut2 47 p)
  refine ⟨this.2.1, ?_, this.2.2⟩
  unfold spS; split <;> omega
end Go.Proofs.YtdajolpoiffimaaDoor.Txt
