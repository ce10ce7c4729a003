/-
  What comes due when the clock goes on, as plain mathematics: who comes, in what order; that this says all.
-/
import Derived.Test.YtdajolpoiffimaaDoorMath
namespace Go.Proofs.YtdajolpoiffimaaDoor
namespace Bx

/-- A line: how it catches up (a 97, l 108, n 110), when it is due. -/
structure Ln where
  catch' : Int
  due : Int → Bool
/-- Does a minute t count for a line, when the clock becomes m? -/
def Cnt (l : Ln) (m t : Int) : Prop := l.due t = true ∧ (l.catch' = 110 → t = m) ∧ (l.catch' = 108 → ∀ u, t < u → u ≤ m → l.due u = false)
/-- Ahead: a lesser minute, or a lesser line. -/
def Lt (p q : Nat × Int) : Prop := p.2 < q.2 ∨ (p.2 = q.2 ∧ p.1 < q.1)
theorem Lt.irrefl (p : Nat × Int) : ¬ Lt p p := by unfold Lt; omega
theorem Lt.asymm {p q : Nat × Int} (h : Lt p q) : ¬ Lt q p := by unfold Lt at *; omega
theorem Lt.trans {p q r : Nat × Int} (h : Lt p q) (h' : Lt q r) : Lt p r := by unfold Lt at *; omega
theorem Lt.total (p q : Nat × Int) : Lt p q ∨ p = q ∨ Lt q p := by
  unfold Lt
  rcases Int.lt_trichotomy p.2 q.2 with h | h | h
  · exact Or.inl (Or.inl h)
  · rcases Nat.lt_trichotomy p.1 q.1 with h' | h' | h'
    · exact Or.inl (Or.inr ⟨h, h'⟩)
    · exact Or.inr (Or.inl (Prod.ext h' h))
    · exact Or.inr (Or.inr (Or.inr ⟨h.symm, h'⟩))
  · exact Or.inr (Or.inr (Or.inl h))
/-- Two rising lists of the same members are one. -/
theorem sorted_eq : ∀ (a b : List (Nat × Int)), a.Pairwise Lt → b.Pairwise Lt → (∀ p, p ∈ a ↔ p ∈ b) → a = b
  | [], [], _, _, _ => rfl
  | [], q :: b, _, _, h => by have := (h q).2 (by simp); simp at this
  | p :: a, [], _, _, h => by have := (h p).1 (by simp); simp at this
  | p :: a, q :: b, ha, hb, h => by
    rw [List.pairwise_cons] at ha hb
    have e : p = q := by
      rcases Lt.total p q with c | c | c
      · rcases List.mem_cons.1 ((h p).1 (by simp)) with e | e
        · exact e
        · exact absurd (hb.1 p e) c.asymm
      · exact c
      · rcases List.mem_cons.1 ((h q).2 (by simp)) with e | e
        · exact e.symm
        · exact absurd (ha.1 q e) c.asymm
    subst e
    have t : a = b := sorted_eq a b ha.2 hb.2 fun r => by
      constructor
      · intro hr
        rcases List.mem_cons.1 ((h r).1 (by simp [hr])) with e | e
        · subst e; exact absurd (ha.1 r hr) (Lt.irrefl r)
        · exact e
      · intro hr
        rcases List.mem_cons.1 ((h r).2 (by simp [hr])) with e | e
        · subst e; exact absurd (hb.1 r hr) (Lt.irrefl r)
        · exact e
    rw [t]
/-- What comes, when the new minutes are those from a to m: who, and in what order. -/
structure ComesR (ls : List Ln) (a m : Int) (out : List (Nat × Int)) : Prop where
  ord : out.Pairwise Lt
  mem : ∀ i t, (i, t) ∈ out ↔ ∃ h : i < ls.length, a ≤ t ∧ t ≤ m ∧ Cnt ls[i] m t
theorem ComesR.uniq {ls : List Ln} {a m : Int} {o p : List (Nat × Int)} (h : ComesR ls a m o) (h' : ComesR ls a m p) : o = p :=
  sorted_eq o p h.ord h'.ord fun ⟨i, t⟩ => (h.mem i t).trans (h'.mem i t).symm
open Classical in
/-- The lines of one minute, the first k. -/
noncomputable def row (ls : List Ln) (m t : Int) : Nat → List (Nat × Int)
  | 0 => []
  | k + 1 => row ls m t k ++ (if h : k < ls.length then (if Cnt ls[k] m t then [(k, t)] else []) else [])
/-- The first k minutes. -/
noncomputable def rows (ls : List Ln) (a m : Int) : Nat → List (Nat × Int)
  | 0 => []
  | k + 1 => rows ls a m k ++ row ls m (a + k) ls.length
noncomputable def comes (ls : List Ln) (a m : Int) : List (Nat × Int) := rows ls a m (m + 1 - a).toNat
theorem row_mem (ls : List Ln) (m t : Int) (k i : Nat) (u : Int) : (i, u) ∈ row ls m t k ↔ u = t ∧ i < k ∧ ∃ h : i < ls.length, Cnt ls[i] m t := by
  induction k with
  | zero => simp [row]
  | succ k ih =>
    rw [row, List.mem_append, ih]
    constructor
    · rintro (⟨e, h, h2⟩ | h)
      · exact ⟨e, by omega, h2⟩
      · split at h
        · rename_i hk
          split at h
          · rename_i c
            simp at h
            obtain ⟨rfl, rfl⟩ := h
            exact ⟨rfl, by omega, hk, c⟩
          · simp at h
        · simp at h
    · rintro ⟨e, h, h2, h3⟩
      by_cases hi : i < k
      · exact Or.inl ⟨e, hi, h2, h3⟩
      · obtain rfl : i = k := by omega
        subst e
        right
        rw [dif_pos h2, if_pos h3]; simp
theorem row_ord (ls : List Ln) (m t : Int) (k : Nat) : (row ls m t k).Pairwise Lt := by
  induction k with
  | zero => simp [row]
  | succ k ih =>
    rw [row, List.pairwise_append]
    refine ⟨ih, ?_, ?_⟩
    · split
      · split <;> simp
      · simp
    · rintro ⟨i, u⟩ hp q hq
      have h1 := (row_mem ls m t k i u).1 hp
      split at hq
      · split at hq
        · simp at hq; subst hq; unfold Lt; simp; omega
        · simp at hq
      · simp at hq
theorem rows_mem (ls : List Ln) (a m : Int) (k i : Nat) (u : Int) : (i, u) ∈ rows ls a m k ↔ a ≤ u ∧ u < a + k ∧ ∃ h : i < ls.length, Cnt ls[i] m u := by
  induction k with
  | zero => simp [rows]; omega
  | succ k ih =>
    rw [rows, List.mem_append, ih, row_mem]
    constructor
    · rintro (⟨h, h2, h3⟩ | ⟨rfl, h, h2, h3⟩)
      · exact ⟨h, by omega, h3⟩
      · exact ⟨by omega, by omega, h2, h3⟩
    · rintro ⟨h, h2, h3, h4⟩
      by_cases hi : u < a + k
      · exact Or.inl ⟨h, hi, h3, h4⟩
      · obtain rfl : u = a + k := by omega
        exact Or.inr ⟨rfl, h3, h3, h4⟩
theorem rows_ord (ls : List Ln) (a m : Int) (k : Nat) : (rows ls a m k).Pairwise Lt := by
  induction k with
  | zero => simp [rows]
  | succ k ih =>
    rw [rows, List.pairwise_append]
    refine ⟨ih, row_ord _ _ _ _, ?_⟩
    rintro ⟨i, u⟩ hp ⟨j, v⟩ hq
    have h1 := (rows_mem ls a m k i u).1 hp
    have h2 := (row_mem ls m (a + k) _ j v).1 hq
    unfold Lt; simp; omega
theorem comes_ok (ls : List Ln) (a m : Int) : ComesR ls a m (comes ls a m) := by
  refine ⟨rows_ord _ _ _ _, fun i t => ?_⟩
  rw [comes, rows_mem]
  constructor
  · rintro ⟨h, h2, h3, h4⟩; exact ⟨h3, h, by omega, h4⟩
  · rintro ⟨h, h2, h3, h4⟩; exact ⟨h2, by omega, h, h4⟩
theorem row_len (ls : List Ln) (m t : Int) (k : Nat) : (row ls m t k).length ≤ k := by
  induction k with
  | zero => simp [row]
  | succ k ih =>
    rw [row, List.length_append]
    split
    · split <;> simp <;> omega
    · simp; omega
theorem rows_len (ls : List Ln) (a m : Int) (k : Nat) : (rows ls a m k).length ≤ k * ls.length := by
  induction k with
  | zero => simp [rows]
  | succ k ih =>
    rw [rows, List.length_append, Nat.succ_mul]
    have := row_len ls m (a + k) ls.length
    omega
theorem comes_len (ls : List Ln) (a m : Int) : (comes ls a m).length ≤ (m + 1 - a).toNat * ls.length := rows_len _ _ _ _
end Bx
end Go.Proofs.YtdajolpoiffimaaDoor
