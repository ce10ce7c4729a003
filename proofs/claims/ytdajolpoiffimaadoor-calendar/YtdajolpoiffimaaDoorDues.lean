/-
  The minutes of one line that count, as plain mathematics; all lines', put in order.
-/
import Derived.Test.YtdajolpoiffimaaDoorMerge
namespace Go.Proofs.YtdajolpoiffimaaDoor
namespace Bx

/-- The minutes at which a line is due, of the first k from a on. -/
def dl (due : Int → Bool) (a : Int) : Nat → List Int
  | 0 => []
  | k + 1 => dl due a k ++ (if due (a + k) = true then [a + (k : Int)] else [])
theorem dl_mem (due : Int → Bool) (a : Int) (k : Nat) (t : Int) : t ∈ dl due a k ↔ a ≤ t ∧ t < a + k ∧ due t = true := by
  induction k with
  | zero => simp [dl]; omega
  | succ k ih =>
    rw [dl, List.mem_append, ih]
    constructor
    · rintro (⟨h, h2, h3⟩ | h)
      · exact ⟨h, by omega, h3⟩
      · split at h
        · rename_i c; simp at h; subst h; exact ⟨by omega, by omega, c⟩
        · simp at h
    · rintro ⟨h, h2, h3⟩
      by_cases c : t < a + k
      · exact Or.inl ⟨h, c, h3⟩
      · obtain rfl : t = a + k := by omega
        right; rw [if_pos h3]; simp
theorem dl_asc (due : Int → Bool) (a : Int) (k : Nat) : (dl due a k).Pairwise (· < ·) := by
  induction k with
  | zero => simp [dl]
  | succ k ih =>
    rw [dl, List.pairwise_append]
    refine ⟨ih, by split <;> simp, fun t ht u hu => ?_⟩
    have := (dl_mem due a k t).1 ht
    split at hu
    · simp at hu; omega
    · simp at hu
theorem dl_len (due : Int → Bool) (a : Int) (k : Nat) : (dl due a k).length ≤ k := by
  induction k with
  | zero => simp [dl]
  | succ k ih => rw [dl, List.length_append]; split <;> simp <;> omega
/-- From where on a line is asked. -/
def frm (l : Ln) (a m : Int) : Int := if l.catch' = 110 then m else a
def dsL (l : Ln) (a m : Int) : List Int := dl l.due (frm l a m) (m + 1 - frm l a m).toNat
def cntL (l : Ln) (a m : Int) : List Int := if l.catch' = 108 ∧ 1 < (dsL l a m).length then (dsL l a m).drop ((dsL l a m).length - 1) else dsL l a m
theorem last_max {d : List Int} (h : d.Pairwise (· < ·)) (hl : 0 < d.length) : ∃ t, d.drop (d.length - 1) = [t] ∧ t ∈ d ∧ ∀ u ∈ d, u ≤ t := by
  have hk : d.length - 1 < d.length := by omega
  refine ⟨d[d.length - 1], ?_, List.getElem_mem _, fun u hu => ?_⟩
  · rw [List.drop_eq_getElem_cons hk, List.drop_eq_nil_of_le (by omega)]
  · obtain ⟨i, hi, rfl⟩ := List.getElem_of_mem hu
    by_cases c : i = d.length - 1
    · subst c; exact Int.le_refl _
    · exact Int.le_of_lt (List.pairwise_iff_getElem.1 h i (d.length - 1) hi hk (by omega))
theorem cntL_ok (l : Ln) (a m : Int) (ha : a ≤ m) : (cntL l a m).Pairwise (· < ·) ∧ ∀ t, t ∈ cntL l a m ↔ a ≤ t ∧ t ≤ m ∧ Cnt l m t := by
  have hf : a ≤ frm l a m ∧ frm l a m ≤ m := by unfold frm; split <;> omega
  have hd : ∀ t, t ∈ dsL l a m ↔ frm l a m ≤ t ∧ t ≤ m ∧ l.due t = true := by
    intro t; rw [dsL, dl_mem]; constructor
    · rintro ⟨h, h2, h3⟩; exact ⟨h, by omega, h3⟩
    · rintro ⟨h, h2, h3⟩; exact ⟨h, by omega, h3⟩
  have ho : (dsL l a m).Pairwise (· < ·) := dl_asc _ _ _
  unfold cntL
  by_cases c : l.catch' = 108
  · have hfr : frm l a m = a := by unfold frm; rw [if_neg (by omega)]
    rw [hfr] at hd
    by_cases c2 : 1 < (dsL l a m).length
    · rw [if_pos ⟨c, c2⟩]
      obtain ⟨t, e, h1, h2⟩ := last_max ho (by omega)
      rw [e]
      refine ⟨by simp, fun u => ?_⟩
      have q := (hd t).1 h1
      constructor
      · intro hu
        simp at hu; subst hu
        refine ⟨q.1, q.2.1, q.2.2, fun h => by omega, fun _ v hv hvm => ?_⟩
        cases hdv : l.due v
        · rfl
        · have := h2 v ((hd v).2 ⟨by omega, hvm, hdv⟩); omega
      · rintro ⟨hu1, hu2, hu3, _, hu4⟩
        have := h2 u ((hd u).2 ⟨hu1, hu2, hu3⟩)
        rcases Int.lt_or_le u t with c3 | c3
        · have := hu4 c t c3 q.2.1; rw [q.2.2] at this; cases this
        · simp; omega
    · rw [if_neg (by omega)]
      refine ⟨ho, fun t => ?_⟩
      rw [hd]
      constructor
      · rintro ⟨h1, h2, h3⟩
        refine ⟨h1, h2, h3, fun h => by omega, fun _ v hv hvm => ?_⟩
        cases hdv : l.due v
        · rfl
        · have m1 := (hd t).2 ⟨h1, h2, h3⟩
          have m2 := (hd v).2 ⟨by omega, hvm, hdv⟩
          exfalso
          match hq : dsL l a m, c2, m1, m2 with
          | [], _, m1, _ => simp at m1
          | [x], _, m1, m2 => simp at m1 m2; omega
          | x :: y :: r, c2, _, _ => simp at c2
      · rintro ⟨h1, h2, h3, _⟩; exact ⟨h1, h2, h3⟩
  · rw [if_neg (by omega)]
    refine ⟨ho, fun t => ?_⟩
    rw [hd]
    constructor
    · rintro ⟨h1, h2, h3⟩
      refine ⟨by omega, h2, h3, fun h => ?_, fun h => absurd h c⟩
      have : frm l a m = m := by unfold frm; rw [if_pos h]
      omega
    · rintro ⟨h1, h2, h3, h4, _⟩
      refine ⟨?_, h2, h3⟩
      unfold frm; split
      · rename_i h; have := h4 h; omega
      · exact h1
/-- All lines' minutes, put in order: what comes. -/
theorem Mg.comes {ls : List Ln} {a m : Int} {E : List (List Int)} {out : List (Nat × Int)} (ha : a ≤ m) (M : Mg (ls.map fun l => cntL l a m) E out) (h : out.length = total (ls.map fun l => cntL l a m)) : out = comes ls a m := by
  refine ComesR.uniq (ls := ls) (a := a) (m := m) ⟨M.ord, fun i t => ?_⟩ (comes_ok ls a m)
  rw [M.done h i t, List.getD_eq_getElem?_getD, List.getElem?_map]
  constructor
  · intro hm
    rcases Nat.lt_or_ge i ls.length with c | c
    · rw [List.getElem?_eq_getElem c] at hm
      exact ⟨c, ((cntL_ok ls[i] a m ha).2 t).1 hm⟩
    · rw [List.getElem?_eq_none c] at hm; simp at hm
  · rintro ⟨c, hq⟩
    rw [List.getElem?_eq_getElem c]
    exact ((cntL_ok ls[i] a m ha).2 t).2 hq
theorem each_asc {ls : List Ln} {a m : Int} (ha : a ≤ m) (i : Nat) : ((ls.map fun l => cntL l a m).getD i []).Pairwise (· < ·) := by
  rw [List.getD_eq_getElem?_getD, List.getElem?_map]
  rcases Nat.lt_or_ge i ls.length with c | c
  · rw [List.getElem?_eq_getElem c]; exact (cntL_ok ls[i] a m ha).1
  · rw [List.getElem?_eq_none c]; simp
end Bx
end Go.Proofs.YtdajolpoiffimaaDoor
