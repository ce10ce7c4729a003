/-
  Texts, as plain mathematics: the first place of a byte, a text between the bytes, numbers, spans. Imports nothing of the program.
-/
namespace Go.Proofs.YtdajolpoiffimaaDoor.Txt

/-- The place of the first byte c, or the length. -/
def fst (c : Int) (s : ByteArray) : Nat := s.data.toList.findIdx fun b => (b.toNat : Int) == c
theorem fst_le (c : Int) (s : ByteArray) : fst c s ≤ s.size := by
  have := List.findIdx_le_length (xs := s.data.toList) (p := fun b => (b.toNat : Int) == c)
  simpa [fst] using this
/-- No byte c from a on, up to b. -/
def NoSep (c : Int) (s : ByteArray) (a b : Nat) : Prop := ∀ j (hj : j < s.size), a ≤ j → j < b → ((s[j].toNat : Int) == c) = false
theorem NoSep.nil (c : Int) (s : ByteArray) (a : Nat) : NoSep c s a a := fun _ _ h1 h2 => by omega
theorem NoSep.snoc {c : Int} {s : ByteArray} {a b : Nat} (h : NoSep c s a b) (hb : b < s.size) (e : ((s[b].toNat : Int) == c) = false) : NoSep c s a (b + 1) := by
  intro j hj h1 h2
  by_cases q : j = b
  · subst q; exact e
  · exact h j hj h1 (by omega)
theorem fst_at {c : Int} {s : ByteArray} {k : Nat} (hk : k < s.size) (e : ((s[k].toNat : Int) == c) = true) (h : NoSep c s 0 k) : fst c s = k := by
  unfold fst
  have hl : k < s.data.toList.length := by simpa using hk
  rw [List.findIdx_eq hl]
  refine ⟨e, fun j hj => ?_⟩
  exact h j (by omega) (by omega) hj
theorem fst_no {c : Int} {s : ByteArray} (h : NoSep c s 0 s.size) : fst c s = s.size := by
  unfold fst
  have : s.size = s.data.toList.length := by simp
  rw [this, List.findIdx_eq_length]
  intro b hb
  obtain ⟨j, hj, rfl⟩ := List.mem_iff_getElem.1 hb
  have hj' : j < s.size := by simpa using hj
  exact h j hj' (by omega) hj'

/-- A text at its first byte c. -/
def cut1 (c : Int) (s : ByteArray) : ByteArray := if fst c s < s.size then s.extract 0 (fst c s) else s
def cut2 (c : Int) (s : ByteArray) : ByteArray := if fst c s < s.size then s.extract (fst c s + 1) s.size else ByteArray.empty
def cut3 (c : Int) (s : ByteArray) : Bool := decide (fst c s < s.size)
theorem cut_yes {c : Int} {s : ByteArray} {k : Nat} (hk : k < s.size) (e : ((s[k].toNat : Int) == c) = true) (h : NoSep c s 0 k) : cut1 c s = s.extract 0 k ∧ cut2 c s = s.extract (k + 1) s.size ∧ cut3 c s = true := by
  have f := fst_at hk e h
  simp [cut1, cut2, cut3, f, hk]
theorem cut_no {c : Int} {s : ByteArray} (h : NoSep c s 0 s.size) : cut1 c s = s ∧ cut2 c s = ByteArray.empty ∧ cut3 c s = false := by
  have f := fst_no h
  simp [cut1, cut2, cut3, f]
theorem cut1_size (c : Int) (s : ByteArray) : (cut1 c s).size ≤ s.size := by
  unfold cut1; split
  · simp [ByteArray.size_extract]; omega
  · exact Nat.le_refl _
theorem cut2_size (c : Int) (s : ByteArray) : (cut2 c s).size ≤ s.size := by
  unfold cut2; split
  · simp [ByteArray.size_extract]
  · simp
theorem cut2_lt {c : Int} {s : ByteArray} (h : cut3 c s = true) : (cut2 c s).size < s.size := by
  have h' : fst c s < s.size := by simpa [cut3] using h
  rw [cut2, if_pos h']; simp [ByteArray.size_extract]; omega

/-- A text between the bytes c; n: how many bytes there are at most. -/
def pcsF (c : Int) : Nat → ByteArray → List ByteArray
  | 0, s => [s]
  | n + 1, s => if fst c s < s.size then s.extract 0 (fst c s) :: pcsF c n (s.extract (fst c s + 1) s.size) else [s]
theorem ext_lt {c : Int} {s : ByteArray} (h : fst c s < s.size) : (s.extract (fst c s + 1) s.size).size < s.size := by simp [ByteArray.size_extract]; omega
theorem pcsF_enough (c : Int) : ∀ (n m : Nat) (s : ByteArray), s.size ≤ n → s.size ≤ m → pcsF c n s = pcsF c m s := by
  intro n
  induction n with
  | zero =>
    intro m s h _
    cases m with
    | zero => rfl
    | succ m => rw [pcsF, pcsF, if_neg (by omega)]
  | succ n ih =>
    intro m s h h'
    cases m with
    | zero => rw [pcsF, pcsF, if_neg (by omega)]
    | succ m =>
      rw [pcsF, pcsF]
      by_cases q : fst c s < s.size
      · have := ext_lt q
        rw [if_pos q, if_pos q, ih m _ (by omega) (by omega)]
      · rw [if_neg q, if_neg q]
/-- A text between the bytes c. -/
def pcs (c : Int) (s : ByteArray) : List ByteArray := pcsF c s.size s
theorem pcs_eq (c : Int) (s : ByteArray) : pcs c s = if fst c s < s.size then s.extract 0 (fst c s) :: pcs c (s.extract (fst c s + 1) s.size) else [s] := by
  by_cases q : fst c s < s.size
  · have hl := ext_lt q
    obtain ⟨n, hn⟩ : ∃ n, s.size = n + 1 := ⟨s.size - 1, by omega⟩
    rw [if_pos q, pcs, hn, pcsF, if_pos q, pcs, hn, pcsF_enough c n (s.extract (fst c s + 1) (n + 1)).size _ (by rw [← hn]; omega) (Nat.le_refl _)]
  · rw [if_neg q, pcs]
    cases h : s.size with
    | zero => rfl
    | succ n => rw [pcsF, if_neg q]
/-- What holds of the last text, and with a text of the one ahead of it, holds. -/
theorem pcs_ind (_c : Int) (P : ByteArray → Prop) (h : ∀ s, (∀ t, t.size < s.size → P t) → P s) (s : ByteArray) : P s := by
  have all : ∀ n (s : ByteArray), s.size < n → P s := by
    intro n
    induction n with
    | zero => intro s hs; omega
    | succ n ih => intro s hs; exact h s (fun t ht => ih t (by omega))
  exact all (s.size + 1) s (by omega)
theorem pcs_cut (c : Int) (s : ByteArray) : pcs c s = if cut3 c s then cut1 c s :: pcs c (cut2 c s) else [cut1 c s] := by
  rw [pcs_eq]; by_cases h : fst c s < s.size <;> simp [cut1, cut2, cut3, h]
theorem pcs_ne (c : Int) (s : ByteArray) : 0 < (pcs c s).length := by rw [pcs_eq]; split <;> simp
theorem pcs_len (c : Int) (s : ByteArray) : (pcs c s).length ≤ s.size + 1 := by
  refine pcs_ind c (fun s => (pcs c s).length ≤ s.size + 1) (fun s ih => ?_) s
  show (pcs c s).length ≤ s.size + 1
  rw [pcs_eq]; split
  · rename_i h
    have := ih _ (ext_lt h)
    simp [ByteArray.size_extract] at this ⊢; omega
  · simp
theorem pcs_size (c : Int) (s : ByteArray) : ∀ x ∈ pcs c s, x.size ≤ s.size := by
  refine pcs_ind c (fun s => ∀ x ∈ pcs c s, x.size ≤ s.size) (fun s ih => ?_) s
  show ∀ x ∈ pcs c s, x.size ≤ s.size
  rw [pcs_eq]; split
  · rename_i h
    intro x hx
    rcases List.mem_cons.1 hx with rfl | hx
    · simp [ByteArray.size_extract]; omega
    · have := ih _ (ext_lt h) x hx
      simp [ByteArray.size_extract] at this; omega
  · intro x hx
    simp at hx; subst hx; exact Nat.le_refl _

theorem getElem_ext (s : ByteArray) (a b j : Nat) (h : j < (s.extract a b).size) (h' : a + j < s.size) : (s.extract a b)[j] = s[a + j] := by
  simp [ByteArray.getElem_extract]
theorem noSep_ext {c : Int} {s : ByteArray} {a b : Nat} (h : NoSep c s a b) : NoSep c (s.extract a s.size) 0 (b - a) := by
  intro j hj _ h2
  have hs : (s.extract a s.size).size = s.size - a := by simp [ByteArray.size_extract]
  rw [getElem_ext _ _ _ _ hj (by omega)]
  exact h (a + j) (by omega) (by omega) (by omega)
theorem pcs_step {c : Int} {s : ByteArray} {a i : Nat} (h : NoSep c s a i) (hi : i < s.size) (ha : a ≤ i) (e : ((s[i].toNat : Int) == c) = true) :
    pcs c (s.extract a s.size) = s.extract a i :: pcs c (s.extract (i + 1) s.size) := by
  have hs : (s.extract a s.size).size = s.size - a := by simp [ByteArray.size_extract]
  have hk : i - a < (s.extract a s.size).size := by omega
  have f : fst c (s.extract a s.size) = i - a := by
    refine fst_at hk ?_ (noSep_ext h)
    rw [getElem_ext _ _ _ _ hk (by omega)]
    have : a + (i - a) = i := by omega
    simpa [this] using e
  rw [pcs_eq, f, if_pos (by omega), hs, ByteArray.extract_extract, ByteArray.extract_extract]
  have e1 : a + 0 = a := by omega
  have e2 : min (a + (i - a)) s.size = i := by omega
  have e3 : a + (i - a + 1) = i + 1 := by omega
  have e4 : min (a + (s.size - a)) s.size = s.size := by omega
  rw [e1, e2, e3, e4]
theorem pcs_last {c : Int} {s : ByteArray} {a : Nat} (h : NoSep c s a s.size) : pcs c (s.extract a s.size) = [s.extract a s.size] := by
  have hs : (s.extract a s.size).size = s.size - a := by simp [ByteArray.size_extract]
  have f : fst c (s.extract a s.size) = (s.extract a s.size).size := by
    refine fst_no ?_
    rw [hs]; exact noSep_ext h
  rw [pcs_eq, f, if_neg (by omega)]
theorem whole (s : ByteArray) : s.extract 0 s.size = s := by simp
end Go.Proofs.YtdajolpoiffimaaDoor.Txt
