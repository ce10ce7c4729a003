/-
  The walks over the calendar's small functions: leap years, days of a month, days ahead of a year and of a month; the program's and the document's.
-/
import Derived.Test.YtdajolpoiffimaaDoorRBase
namespace Go.Proofs.YtdajolpoiffimaaDoor
open Go.RowKit

/-- The table of the months' lengths lies in memory. -/
def Tab (w : World) : Prop := ∀ m : Int, 1 ≤ m → m ≤ 12 → w.cell? ⟨0, m.toNat - 1, none⟩ = some (.int .i64 (Cal.len m))

set_option maxHeartbeats 400000 in
theorem isLeap_any (y : Int) (w : World) (h1 : 0 ≤ y) (h2 : y ≤ 10000) :
    Calls Tryd.prog 113 #[.int .i64 y] w fun e w' => e = .returned (.bool (Cal.lp y == 1)) ∧ w' = w := by
  by_cases a : y % 400 = 0
  · have e : Hid (Cal.lp y = 1) := Cal.lp_yes (Or.inl a)
    go_enter Tryd.func113, Tryd.ntmps113
    go_wp2
    go_ret
    exact ⟨by rw [e.out]; rfl, rfl⟩
  · by_cases b : y % 4 = 0
    · by_cases c : y % 100 = 0
      · have e : Hid (Cal.lp y = 0) := Cal.lp_no (by omega)
        go_enter Tryd.func113, Tryd.ntmps113
        go_wp2
        go_ret
        exact ⟨by rw [e.out]; rfl, rfl⟩
      · have e : Hid (Cal.lp y = 1) := Cal.lp_yes (Or.inr ⟨b, c⟩)
        have c' : (y % 100 != 0) = true := by simpa using c
        go_enter Tryd.func113, Tryd.ntmps113
        go_wp2
        go_ret
        exact ⟨by rw [e.out]; rfl, rfl⟩
    · have e : Hid (Cal.lp y = 0) := Cal.lp_no (by omega)
      go_enter Tryd.func113, Tryd.ntmps113
      go_wp2
      go_ret
      exact ⟨by rw [e.out]; rfl, rfl⟩

set_option maxHeartbeats 400000 in
theorem lyb_any (y : Int) (w : World) (h1 : 1970 ≤ y) (h2 : y ≤ 10000) :
    Calls Tryd.prog 96 #[.int .i64 y] w fun e w' => e = .returned (.int .i64 ((y - 1) / 4 - (y - 1) / 100 + (y - 1) / 400)) ∧ w' = w := by
  go_enter Tryd.func96, Tryd.ntmps96
  go_wp2
  go_ret
  exact ⟨rfl, rfl⟩

set_option maxHeartbeats 400000 in
theorem dby_any (y : Int) (w : World) (h1 : 1970 ≤ y) (h2 : y ≤ 10000) :
    Calls Tryd.prog 63 #[.int .i64 y] w fun e w' => e = .returned (.int .i64 (Cal.dby y)) ∧ w' = w := by
  have b1 : 0 ≤ (y - 1) / 4 - (y - 1) / 100 + (y - 1) / 400 ∧ (y - 1) / 4 - (y - 1) / 100 + (y - 1) / 400 ≤ 10000 := by omega
  go_enter Tryd.func63, Tryd.ntmps63
  go_wp2_with (go_at_call 96; refine (lyb_any _ _ (by omega) (by omega)).mono ?_; rintro e w' ⟨rfl, rfl⟩)
  go_ret
  exact ⟨ret_int (by unfold Cal.dby; omega), rfl⟩

set_option maxHeartbeats 400000 in
theorem dim_any (y m : Int) (w : World) (hT : Tab w) (h1 : 0 ≤ y) (h2 : y ≤ 10000) (m1 : 1 ≤ m) (m2 : m ≤ 12) :
    Calls Tryd.prog 97 #[.int .i64 y, .int .i64 m] w fun e w' => e = .returned (.int .i64 (Cal.dim y m)) ∧ w' = w := by
  have hc := hT m m1 m2
  clear hT
  by_cases a : m = 2
  · subst a
    by_cases b : Cal.lp y = 1
    · have e : Hid (Cal.dim y 2 = 29) := Cal.dim_29 b
      have b' : (Cal.lp y == 1) = true := by simpa using b
      clear b
      go_enter Tryd.func97, Tryd.ntmps97
      go_wp2_with (go_at_call 113; refine (isLeap_any _ _ (by omega) (by omega)).mono ?_; rintro e w' ⟨rfl, rfl⟩)
      go_ret
      exact ⟨ret_int e.out.symm, rfl⟩
    · have e : Hid (Cal.dim y 2 = 28) := (Cal.dim_len (Or.inr (by have := Cal.lp_01 y; omega))).trans rfl
      have hc2 : w.cell? ⟨0, 1, none⟩ = some (.int .i64 28) := hc
      clear hc
      have b' : (Cal.lp y == 1) = false := by simpa using b
      clear b
      go_enter Tryd.func97, Tryd.ntmps97
      go_wp2_with (go_at_call 113; refine (isLeap_any _ _ (by omega) (by omega)).mono ?_; rintro e w' ⟨rfl, rfl⟩)
      go_ret
      exact ⟨ret_int e.out.symm, rfl⟩
  · have e : Hid (Cal.dim y m = Cal.len m) := Cal.dim_len (Or.inl a)
    go_enter Tryd.func97, Tryd.ntmps97
    go_wp2_with fail
    go_ret
    exact ⟨ret_int e.out.symm, rfl⟩
end Go.Proofs.YtdajolpoiffimaaDoor
