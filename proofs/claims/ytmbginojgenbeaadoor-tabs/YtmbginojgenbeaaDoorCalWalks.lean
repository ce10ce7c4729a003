/-
  The walks over the calendar's small functions: leap years, days of a month, days ahead of a year and of a month; the program's and the document's.
-/
import Derived.Test.YtmbginojgenbeaaDoorRows
import Derived.Test.YtmbginojgenbeaaDoorMath
import Derived.WalkKit
import Derived.WalkSpells
import Derived.WalkLawsBesides
namespace Go.Proofs.YtmbginojgenbeaaDoor
open Go.RowKit

theorem ret_int {k : IntKind} {a b : Int} (h : a = b) : Ending.returned (.int k a) = .returned (.int k b) := by rw [h]

/-- The table of the months' lengths lies in memory. -/
def Tab (w : World) : Prop := ∀ m : Int, 1 ≤ m → m ≤ 12 → w.cell? ⟨0, m.toNat - 1, none⟩ = some (.int .i64 (Cal.len m))

set_option maxHeartbeats 400000 in
theorem isLeap_any (y : Int) (w : World) (h1 : 0 ≤ y) (h2 : y ≤ 10000) :
    Calls Tryd.prog 50 #[.int .i64 y] w fun e w' => e = .returned (.bool (Cal.lp y == 1)) ∧ w' = w := by
  by_cases a : y % 400 = 0
  · have e : Hid (Cal.lp y = 1) := Cal.lp_yes (Or.inl a)
    go_enter Tryd.func50, Tryd.ntmps50
    go_wp2
    go_ret
    exact ⟨by rw [e.out]; rfl, rfl⟩
  · by_cases b : y % 4 = 0
    · by_cases c : y % 100 = 0
      · have e : Hid (Cal.lp y = 0) := Cal.lp_no (by omega)
        go_enter Tryd.func50, Tryd.ntmps50
        go_wp2
        go_ret
        exact ⟨by rw [e.out]; rfl, rfl⟩
      · have e : Hid (Cal.lp y = 1) := Cal.lp_yes (Or.inr ⟨b, c⟩)
        have c' : (y % 100 != 0) = true := by simpa using c
        go_enter Tryd.func50, Tryd.ntmps50
        go_wp2
        go_ret
        exact ⟨by rw [e.out]; rfl, rfl⟩
    · have e : Hid (Cal.lp y = 0) := Cal.lp_no (by omega)
      go_enter Tryd.func50, Tryd.ntmps50
      go_wp2
      go_ret
      exact ⟨by rw [e.out]; rfl, rfl⟩

set_option maxHeartbeats 400000 in
theorem lyb_any (y : Int) (w : World) (h1 : 1970 ≤ y) (h2 : y ≤ 10000) :
    Calls Tryd.prog 42 #[.int .i64 y] w fun e w' => e = .returned (.int .i64 ((y - 1) / 4 - (y - 1) / 100 + (y - 1) / 400)) ∧ w' = w := by
  go_enter Tryd.func42, Tryd.ntmps42
  go_wp2
  go_ret
  exact ⟨rfl, rfl⟩

set_option maxHeartbeats 400000 in
theorem dby_any (y : Int) (w : World) (h1 : 1970 ≤ y) (h2 : y ≤ 10000) :
    Calls Tryd.prog 30 #[.int .i64 y] w fun e w' => e = .returned (.int .i64 (Cal.dby y)) ∧ w' = w := by
  have b1 : 0 ≤ (y - 1) / 4 - (y - 1) / 100 + (y - 1) / 400 ∧ (y - 1) / 4 - (y - 1) / 100 + (y - 1) / 400 ≤ 10000 := by omega
  go_enter Tryd.func30, Tryd.ntmps30
  go_wp2_with (go_at_call 42; refine (lyb_any _ _ (by omega) (by omega)).mono ?_; rintro e w' ⟨rfl, rfl⟩)
  go_ret
  exact ⟨ret_int (by unfold Cal.dby; omega), rfl⟩

set_option maxHeartbeats 400000 in
theorem dim_any (y m : Int) (w : World) (hT : Tab w) (h1 : 0 ≤ y) (h2 : y ≤ 10000) (m1 : 1 ≤ m) (m2 : m ≤ 12) :
    Calls Tryd.prog 43 #[.int .i64 y, .int .i64 m] w fun e w' => e = .returned (.int .i64 (Cal.dim y m)) ∧ w' = w := by
  have hc := hT m m1 m2
  clear hT
  by_cases a : m = 2
  · subst a
    by_cases b : Cal.lp y = 1
    · have e : Hid (Cal.dim y 2 = 29) := Cal.dim_29 b
      have b' : (Cal.lp y == 1) = true := by simpa using b
      clear b
      go_enter Tryd.func43, Tryd.ntmps43
      go_wp2_with (go_at_call 50; refine (isLeap_any _ _ (by omega) (by omega)).mono ?_; rintro e w' ⟨rfl, rfl⟩)
      go_ret
      exact ⟨ret_int e.out.symm, rfl⟩
    · have e : Hid (Cal.dim y 2 = 28) := (Cal.dim_len (Or.inr (by have := Cal.lp_01 y; omega))).trans rfl
      have hc2 : w.cell? ⟨0, 1, none⟩ = some (.int .i64 28) := hc
      clear hc
      have b' : (Cal.lp y == 1) = false := by simpa using b
      clear b
      go_enter Tryd.func43, Tryd.ntmps43
      go_wp2_with (go_at_call 50; refine (isLeap_any _ _ (by omega) (by omega)).mono ?_; rintro e w' ⟨rfl, rfl⟩)
      go_ret
      exact ⟨ret_int e.out.symm, rfl⟩
  · have e : Hid (Cal.dim y m = Cal.len m) := Cal.dim_len (Or.inl a)
    go_enter Tryd.func43, Tryd.ntmps43
    go_wp2_with fail
    go_ret
    exact ⟨ret_int e.out.symm, rfl⟩

set_option maxHeartbeats 400000 in
theorem yearLong_any (y : Int) (w : World) (h1 : 0 ≤ y) (h2 : y ≤ 20000) :
    Calls Tryd.prog 22 #[.int .i64 y] w fun e w' => e = .returned (.int .i64 (365 + Cal.lp y)) ∧ w' = w := by
  by_cases a : y % 400 = 0
  · have e : Hid (Cal.lp y = 1) := Cal.lp_yes (Or.inl a)
    go_enter Tryd.func22, Tryd.ntmps22
    go_wp2
    go_ret
    exact ⟨ret_int (by rw [e.out]; rfl), rfl⟩
  · by_cases b : y % 4 = 0
    · by_cases c : y % 100 = 0
      · have e : Hid (Cal.lp y = 0) := Cal.lp_no (by omega)
        go_enter Tryd.func22, Tryd.ntmps22
        go_wp2
        go_ret
        exact ⟨ret_int (by rw [e.out]; rfl), rfl⟩
      · have e : Hid (Cal.lp y = 1) := Cal.lp_yes (Or.inr ⟨b, c⟩)
        have c' : (y % 100 != 0) = true := by simpa using c
        go_enter Tryd.func22, Tryd.ntmps22
        go_wp2
        go_ret
        exact ⟨ret_int (by rw [e.out]; rfl), rfl⟩
    · have e : Hid (Cal.lp y = 0) := Cal.lp_no (by omega)
      go_enter Tryd.func22, Tryd.ntmps22
      go_wp2
      go_ret
      exact ⟨ret_int (by rw [e.out]; rfl), rfl⟩

set_option maxHeartbeats 400000 in
theorem monthLong_any (y m : Int) (w : World) (h1 : 0 ≤ y) (h2 : y ≤ 20000) :
    Calls Tryd.prog 21 #[.int .i64 y, .int .i64 m] w fun e w' => e = .returned (.int .i64 (Cal.dim y m)) ∧ w' = w := by
  have hl := Cal.lp_01 y
  by_cases a : m = 2
  · subst a
    have e : Hid (Cal.dim y 2 = 28 + Cal.lp y) := if_pos rfl
    go_enter Tryd.func21, Tryd.ntmps21
    go_wp2_with (go_at_call 22; refine (yearLong_any _ _ (by omega) (by omega)).mono ?_; rintro e w' ⟨rfl, rfl⟩)
    go_ret
    exact ⟨ret_int (by rw [e.out]; omega), rfl⟩
  · by_cases b : m = 4 ∨ m = 6 ∨ m = 9 ∨ m = 11
    · have e : Hid (Cal.dim y m = 30) := by unfold Hid Cal.dim; rw [if_neg a, if_pos b]
      clear a hl
      rcases b with rfl | rfl | rfl | rfl
      all_goals
        go_enter Tryd.func21, Tryd.ntmps21
        go_wp2_with fail
        go_ret
        exact ⟨ret_int e.out.symm, rfl⟩
    · have e : Hid (Cal.dim y m = 31) := by unfold Hid Cal.dim; rw [if_neg a, if_neg b]
      have b1 : ¬ m = 4 := by omega
      have b2 : ¬ m = 6 := by omega
      have b3 : ¬ m = 9 := by omega
      have b4 : ¬ m = 11 := by omega
      clear b hl
      go_enter Tryd.func21, Tryd.ntmps21
      go_wp2_with fail
      go_ret
      exact ⟨ret_int e.out.symm, rfl⟩
end Go.Proofs.YtmbginojgenbeaaDoor
