/-
  The calendar, as plain mathematics: leap years, the days ahead of a year, the days ahead of a month. Imports nothing of the program.
-/
namespace Go.Proofs.YtdajolpoiffimaaDoor.Cal

/-- 1 in a leap year, else 0. -/
def lp (y : Int) : Int := if y % 400 = 0 ∨ (y % 4 = 0 ∧ ¬ y % 100 = 0) then 1 else 0
/-- The days from January 1st 1970 to the year's first. -/
def dby (y : Int) : Int := 365 * (y - 1970) + ((y - 1) / 4 - (y - 1) / 100 + (y - 1) / 400 - 477)
/-- The days of a month. -/
def dim (y m : Int) : Int := if m = 2 then 28 + lp y else if m = 4 ∨ m = 6 ∨ m = 9 ∨ m = 11 then 30 else 31
/-- The days of the year ahead of a month. -/
def cum (y m : Int) : Int :=
  if m ≤ 1 then 0 else if m = 2 then 31 else
  (if m = 3 then 59 else if m = 4 then 90 else if m = 5 then 120 else if m = 6 then 151 else if m = 7 then 181 else
   if m = 8 then 212 else if m = 9 then 243 else if m = 10 then 273 else if m = 11 then 304 else if m = 12 then 334 else 365) + lp y

theorem lp_01 (y : Int) : 0 ≤ lp y ∧ lp y ≤ 1 := by unfold lp; split <;> omega
theorem lp_yes {y : Int} (h : y % 400 = 0 ∨ (y % 4 = 0 ∧ ¬ y % 100 = 0)) : lp y = 1 := if_pos h
theorem lp_no {y : Int} (h : ¬ (y % 400 = 0 ∨ (y % 4 = 0 ∧ ¬ y % 100 = 0))) : lp y = 0 := if_neg h
theorem dby_succ (y : Int) : dby (y + 1) = dby y + 365 + lp y := by unfold dby lp; split <;> omega
theorem dby_400 (y : Int) : dby (y + 400) = dby y + 146097 := by unfold dby; omega
theorem dby_first : dby 1970 = 0 := by decide
theorem dby_10000 : dby 10000 = 2932897 := by decide
theorem dby_mono {a b : Int} (h : a ≤ b) : dby a ≤ dby b := by unfold dby; omega
theorem dby_lt {a b : Int} (h : a < b) : dby a < dby b := by
  have h1 := dby_succ a
  have h2 := lp_01 a
  have h3 : dby (a + 1) ≤ dby b := dby_mono (by omega)
  omega
theorem dby_bd {a : Int} (h0 : 1970 ≤ a) (h : a ≤ 10000) : 0 ≤ dby a ∧ dby a ≤ 2932897 := by
  have h1 := dby_mono h0; have h2 := dby_mono h; rw [dby_first] at h1; rw [dby_10000] at h2; exact ⟨h1, h2⟩
theorem dby_guess (d : Int) (h : 0 ≤ d) : dby (1970 + d / 366) ≤ d := by unfold dby; omega
theorem dby_cycle (d : Int) : dby (1970 + 400 * (d / 146097)) = d - d % 146097 := by unfold dby; omega

theorem dim_lo (y m : Int) : 28 ≤ dim y m ∧ dim y m ≤ 31 := by
  have := lp_01 y
  unfold dim; split
  · omega
  · split <;> omega
theorem cum_succ (y m : Int) (h1 : 1 ≤ m) (h2 : m ≤ 12) : cum y (m + 1) = cum y m + dim y m := by
  have := lp_01 y
  have : m = 1 ∨ m = 2 ∨ m = 3 ∨ m = 4 ∨ m = 5 ∨ m = 6 ∨ m = 7 ∨ m = 8 ∨ m = 9 ∨ m = 10 ∨ m = 11 ∨ m = 12 := by omega
  rcases this with rfl | rfl | rfl | rfl | rfl | rfl | rfl | rfl | rfl | rfl | rfl | rfl <;> simp [cum, dim] <;> omega
theorem cum_1 (y : Int) : cum y 1 = 0 := by simp [cum]
theorem cum_13 (y : Int) : cum y 13 = 365 + lp y := by simp [cum]
theorem cum_bd (y m : Int) : 0 ≤ cum y m ∧ cum y m ≤ 366 := by
  have := lp_01 y
  unfold cum; repeat' split
  all_goals omega
theorem cum_mono (y a b : Int) (h1 : 1 ≤ a) (h : a ≤ b) (h2 : b ≤ 13) : cum y a ≤ cum y b := by
  obtain ⟨n, rfl⟩ : ∃ n : Nat, b = a + n := ⟨(b - a).toNat, by omega⟩
  induction n with
  | zero => simp
  | succ n ih =>
    have i := ih (by omega) (by omega)
    have s := cum_succ y (a + n) (by omega) (by omega)
    have d := dim_lo y (a + n)
    have e : a + ((n + 1 : Nat) : Int) = a + n + 1 := by omega
    rw [e]; omega
theorem cum_lt (y a b : Int) (h1 : 1 ≤ a) (h : a < b) (h2 : b ≤ 13) : cum y a + dim y a ≤ cum y b := by
  have := cum_succ y a h1 (by omega)
  have := cum_mono y (a + 1) b (by omega) (by omega) h2
  omega

/-- The day (from 0 on, January 1st 1970) that a date is: the date is one of 1970 to 9999. -/
structure IsD (n y m d : Int) : Prop where
  y1 : 1970 ≤ y
  y2 : y ≤ 9999
  m1 : 1 ≤ m
  m2 : m ≤ 12
  d1 : 1 ≤ d
  d2 : d ≤ dim y m
  num : dby y + cum y m + d - 1 = n

theorem IsD.year {n y m d : Int} (h : IsD n y m d) : dby y ≤ n ∧ n < dby (y + 1) := by
  have a := h.num; have b := h.d1; have c := h.d2; have e := dby_succ y
  have f := cum_bd y m; have g := cum_lt y m 13 h.m1 (by have := h.m2; omega) (by omega)
  rw [cum_13] at g
  omega
theorem IsD.uniq {n y m d y' m' d' : Int} (h : IsD n y m d) (h' : IsD n y' m' d') : y = y' ∧ m = m' ∧ d = d' := by
  have a := h.year; have b := h'.year
  have ey : y = y' := by
    rcases Int.lt_trichotomy y y' with c | c | c
    · have := dby_mono (a := y + 1) (b := y') (by omega); omega
    · exact c
    · have := dby_mono (a := y' + 1) (b := y) (by omega); omega
  subst ey
  have n1 := h.num; have n2 := h'.num; have d1 := h.d1; have d2 := h.d2; have d1' := h'.d1; have d2' := h'.d2
  have em : m = m' := by
    rcases Int.lt_trichotomy m m' with c | c | c
    · have := cum_lt y m m' h.m1 c (by have := h'.m2; omega); omega
    · exact c
    · have := cum_lt y m' m h'.m1 c (by have := h.m2; omega); omega
  subst em
  exact ⟨rfl, rfl, by omega⟩
theorem IsD.bd {n y m d : Int} (h : IsD n y m d) : 0 ≤ n ∧ n ≤ 2932896 := by
  have a := h.year; have b := dby_mono h.y1; have c := dby_mono (a := y + 1) (b := 10000) (by have := h.y2; omega)
  rw [dby_first] at b; rw [dby_10000] at c; omega

/-- A date of 1970 to 9999, with its hour and minute. -/
def vldB (y m d h i : Int) : Bool := decide (1970 ≤ y ∧ y ≤ 9999 ∧ 1 ≤ m ∧ m ≤ 12 ∧ 1 ≤ d ∧ d ≤ dim y m ∧ 0 ≤ h ∧ h ≤ 23 ∧ 0 ≤ i ∧ i ≤ 59)
theorem vld_of {y m d h i : Int} (e : vldB y m d h i = true) : 1970 ≤ y ∧ y ≤ 9999 ∧ 1 ≤ m ∧ m ≤ 12 ∧ 1 ≤ d ∧ d ≤ dim y m ∧ 0 ≤ h ∧ h ≤ 23 ∧ 0 ≤ i ∧ i ≤ 59 := of_decide_eq_true e
theorem vld_mk {y m d h i : Int} (e : 1970 ≤ y ∧ y ≤ 9999 ∧ 1 ≤ m ∧ m ≤ 12 ∧ 1 ≤ d ∧ d ≤ dim y m ∧ 0 ≤ h ∧ h ≤ 23 ∧ 0 ≤ i ∧ i ≤ 59) : vldB y m d h i = true := decide_eq_true e
theorem vld_not {y m d h i : Int} (e : ¬ (1970 ≤ y ∧ y ≤ 9999 ∧ 1 ≤ m ∧ m ≤ 12 ∧ 1 ≤ d ∧ d ≤ dim y m ∧ 0 ≤ h ∧ h ≤ 23 ∧ 0 ≤ i ∧ i ≤ 59)) : vldB y m d h i = false := decide_eq_false e
/-- A date's minute. -/
def num (y m d h i : Int) : Int := (dby y + cum y m + d - 1) * 1440 + h * 60 + i

/-- A table's answer: the days of a month of a year that is no leap year. -/
def len (m : Int) : Int := if m = 2 then 28 else if m = 4 ∨ m = 6 ∨ m = 9 ∨ m = 11 then 30 else 31
theorem dim_29 {y : Int} (h : lp y = 1) : dim y 2 = 29 := by simp [dim, h]
theorem dim_len {y m : Int} (h : ¬ m = 2 ∨ lp y = 0) : dim y m = len m := by
  unfold dim len; rcases h with h | h
  · simp [h]
  · simp [h]
end Go.Proofs.YtdajolpoiffimaaDoor.Cal
