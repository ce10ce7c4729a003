/-
  The lines' minutes put in order, one by one: as plain mathematics.
-/
import Derived.Test.YtdajolpoiffimaaDoorComes
namespace Go.Proofs.YtdajolpoiffimaaDoor
namespace Bx

/-- The head of line i's minutes; which line is next, among the first k. -/
def hd (E : List (List Int)) (i : Nat) : Int := (E.getD i []).headD 0
def many (E : List (List Int)) (i : Nat) : Nat := (E.getD i []).length
def bestK (E : List (List Int)) : Nat → Int
  | 0 => -1
  | k + 1 => if 0 < many E k ∧ (bestK E k < 0 ∨ hd E k < hd E (bestK E k).toNat) then (k : Int) else bestK E k
/-- What bestK says. -/
structure Best (E : List (List Int)) (k : Nat) (b : Int) : Prop where
  lo : -1 ≤ b
  hi : b < k
  non : b = -1 → ∀ i, i < k → many E i = 0
  has : 0 ≤ b → 0 < many E b.toNat ∧ ∀ i, i < k → 0 < many E i → hd E b.toNat < hd E i ∨ (hd E b.toNat = hd E i ∧ b.toNat ≤ i)
theorem best_ok (E : List (List Int)) (k : Nat) : Best E k (bestK E k) := by
  induction k with
  | zero => exact ⟨by simp [bestK], by simp [bestK], fun _ i hi => by omega, fun h => by simp [bestK] at h⟩
  | succ k ih =>
    unfold bestK
    generalize bestK E k = b at *
    split
    · rename_i c
      refine ⟨by omega, by omega, fun h => by omega, fun _ => ⟨by simpa using c.1, fun i hi hm => ?_⟩⟩
      simp only [Int.toNat_natCast]
      by_cases hik : i = k
      · subst hik; exact Or.inr ⟨rfl, Nat.le_refl _⟩
      · rcases c.2 with c2 | c2
        · have := ih.non (by have := ih.lo; omega) i (by omega); omega
        · by_cases hb : 0 ≤ b
          · rcases (ih.has hb).2 i (by omega) hm with h | h
            · exact Or.inl (by omega)
            · exact Or.inl (by omega)
          · have := ih.non (by have := ih.lo; omega) i (by omega); omega
    · rename_i c
      refine ⟨ih.lo, by have := ih.hi; omega, fun h i hi => ?_, fun h => ⟨(ih.has h).1, fun i hi hm => ?_⟩⟩
      · by_cases hik : i = k
        · subst hik
          rcases Nat.eq_zero_or_pos (many E i) with z | z
          · exact z
          · exact absurd ⟨z, Or.inl (by omega)⟩ c
        · exact ih.non h i (by omega)
      · by_cases hik : i = k
        · subst hik
          have := (ih.has h).1
          have hlt := ih.hi
          by_cases hd1 : hd E i < hd E b.toNat
          · exact absurd ⟨hm, Or.inr hd1⟩ c
          · omega
        · exact (ih.has h).2 i (by omega) hm
/-- How many there are, all lines together. -/
def total (E : List (List Int)) : Nat := (E.map List.length).sum
theorem total_zero {E : List (List Int)} (h : ∀ i, i < E.length → many E i = 0) : total E = 0 := by
  induction E with
  | nil => rfl
  | cons a r ih =>
    have h0 := h 0 (by simp)
    have hr := ih fun i hi => by have := h (i + 1) (by simp; omega); simpa [many] using this
    simp [total, many] at h0 hr ⊢
    exact ⟨h0, by simpa using hr⟩
theorem total_set {E : List (List Int)} {b : Nat} {t : Int} {r : List Int} (hb : b < E.length) (h : E[b] = t :: r) : total (E.set b r) + 1 = total E := by
  induction E generalizing b with
  | nil => simp at hb
  | cons a q ih =>
    cases b with
    | zero => simp at h; subst h; simp [total]; omega
    | succ b => have := ih (b := b) (by simpa using hb) (by simpa using h); simp [total] at this ⊢; omega
theorem mem_of_zero {E : List (List Int)} (h : total E = 0) (i : Nat) : E.getD i [] = [] := by
  induction E generalizing i with
  | nil => simp
  | cons a q ih =>
    simp [total] at h
    cases i with
    | zero => simpa using h.1
    | succ i => simpa using ih (by simpa [total] using h.2) i
/-- Halfway: what is out, what is left. -/
structure Mg (E0 E : List (List Int)) (out : List (Nat × Int)) : Prop where
  len : E.length = E0.length
  ord : out.Pairwise Lt
  bef : ∀ p ∈ out, ∀ i t, t ∈ E.getD i [] → Lt p (i, t)
  all : ∀ i t, ((i, t) ∈ out ∨ t ∈ E.getD i []) ↔ t ∈ E0.getD i []
  asc : ∀ i, (E.getD i []).Pairwise (· < ·)
  tot : out.length + total E = total E0
theorem Mg.start {E : List (List Int)} (h : ∀ i, (E.getD i []).Pairwise (· < ·)) : Mg E E [] :=
  ⟨rfl, List.Pairwise.nil, by simp, by simp, h, by simp⟩
theorem getD_set {E : List (List Int)} {b i : Nat} {r : List Int} (hb : b < E.length) : (E.set b r).getD i [] = if i = b then r else E.getD i [] := by
  simp only [List.getD_eq_getElem?_getD, List.getElem?_set]
  by_cases h : b = i
  · subst h; simp [hb]
  · simp [h, Ne.symm h]
theorem Mg.next {E0 E : List (List Int)} {out : List (Nat × Int)} (M : Mg E0 E out) {b : Nat} {t : Int} {r : List Int} (hb : b < E.length) (he : E[b] = t :: r) (hB : Best E E.length b) : Mg E0 (E.set b r) (out ++ [(b, t)]) := by
  have hg : E.getD b [] = t :: r := by rw [List.getD_eq_getElem?_getD, List.getElem?_eq_getElem hb, he]; rfl
  have hmin : ∀ i u, u ∈ (E.set b r).getD i [] → Lt (b, t) (i, u) := by
    intro i u hu
    rw [getD_set hb] at hu
    have hs := M.asc i
    by_cases h : i = b
    · subst h
      rw [if_pos rfl] at hu
      rw [hg, List.pairwise_cons] at hs
      exact Or.inl (hs.1 u hu)
    · rw [if_neg h] at hu
      have hi : i < E.length := by
        rcases Nat.lt_or_ge i E.length with c | c
        · exact c
        · rw [List.getD_eq_getElem?_getD, List.getElem?_eq_none c] at hu; simp at hu
      have h2 := (hB.has (by omega)).2 i hi (by unfold many; exact List.length_pos_of_mem hu)
      have e1 : hd E (Int.toNat (b : Int)) = t := by unfold hd; rw [Int.toNat_natCast, hg]; rfl
      rw [e1] at h2
      simp only [Int.toNat_natCast] at h2
      cases hq : E.getD i [] with
      | nil => rw [hq] at hu; simp at hu
      | cons v s =>
        have e2 : hd E i = v := by unfold hd; rw [hq]; rfl
        rw [e2] at h2
        rw [hq, List.pairwise_cons] at hs
        rw [hq] at hu
        unfold Lt
        rcases List.mem_cons.1 hu with rfl | hu
        · rcases h2 with h2 | ⟨h2, h3⟩
          · exact Or.inl h2
          · exact Or.inr ⟨h2, by simp; omega⟩
        · have := hs.1 u hu
          exact Or.inl (by simp; omega)
  refine ⟨by simp [M.len], ?_, ?_, ?_, ?_, ?_⟩
  · rw [List.pairwise_append]
    refine ⟨M.ord, by simp, fun p hp q hq => ?_⟩
    simp at hq; subst hq
    exact M.bef p hp b t (by rw [hg]; simp)
  · intro p hp i u hu
    rcases List.mem_append.1 hp with hp | hp
    · refine M.bef p hp i u ?_
      rw [getD_set hb] at hu
      split at hu
      · rename_i h; subst h; rw [hg]; exact List.mem_cons_of_mem _ hu
      · exact hu
    · simp at hp; subst hp; exact hmin i u hu
  · intro i u
    rw [← M.all i u, getD_set hb, List.mem_append]
    by_cases h : i = b
    · subst h; rw [if_pos rfl, hg]; simp; constructor
      · rintro ((h | h) | h)
        · exact Or.inl h
        · exact Or.inr (Or.inl h)
        · exact Or.inr (Or.inr h)
      · rintro (h | h | h)
        · exact Or.inl (Or.inl h)
        · exact Or.inl (Or.inr h)
        · exact Or.inr h
    · rw [if_neg h]; simp [h]
  · intro i
    rw [getD_set hb]
    split
    · have := M.asc b; rw [hg, List.pairwise_cons] at this; exact this.2
    · exact M.asc i
  · have := M.tot
    have := total_set hb he
    simp; omega
/-- The end: all is out. -/
theorem Mg.done {E0 E : List (List Int)} {out : List (Nat × Int)} (M : Mg E0 E out) (h : out.length = total E0) : ∀ i t, (i, t) ∈ out ↔ t ∈ E0.getD i [] := by
  intro i t
  have z : total E = 0 := by have := M.tot; omega
  rw [← M.all i t, mem_of_zero z i]; simp
theorem Mg.more {E0 E : List (List Int)} {out : List (Nat × Int)} (M : Mg E0 E out) (h : out.length < total E0) : ∃ b : Nat, ∃ t r, ∃ hb : b < E.length, bestK E E.length = b ∧ E[b] = t :: r ∧ hd E b = t := by
  have B := best_ok E E.length
  have lo := B.lo
  have hi := B.hi
  generalize bestK E E.length = b at *
  have h0 : 0 ≤ b := by
    rcases Int.lt_or_le b 0 with c | c
    · have := total_zero (B.non (by omega)); have := M.tot; omega
    · exact c
  obtain ⟨n, rfl⟩ := Int.eq_ofNat_of_zero_le h0
  have hn : n < E.length := by omega
  have hp := (B.has h0).1
  simp only [Int.toNat_natCast] at hp
  unfold many at hp
  rw [List.getD_eq_getElem?_getD, List.getElem?_eq_getElem hn] at hp
  cases hq : E[n] with
  | nil => rw [Option.getD_some, hq] at hp; simp at hp
  | cons t r => exact ⟨n, t, r, hn, rfl, hq, by unfold hd; rw [List.getD_eq_getElem?_getD, List.getElem?_eq_getElem hn, Option.getD_some, hq]; rfl⟩
end Bx
end Go.Proofs.YtdajolpoiffimaaDoor
