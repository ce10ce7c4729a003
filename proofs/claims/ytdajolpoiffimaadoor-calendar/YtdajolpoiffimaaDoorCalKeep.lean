/-
  The walks over the statement Calendar and what it calls.
-/
import Derived.Test.YtdajolpoiffimaaDoorCalMin2
import Derived.Test.YtdajolpoiffimaaDoorRBase
namespace Go.Proofs.YtdajolpoiffimaaDoor
open Go.RowKit

set_option maxHeartbeats 400000 in
theorem leap_any (y : Int) (w : World) (h1 : 0 ≤ y) (h2 : y ≤ 20000) :
    Calls Tryd.prog 74 #[.int .i64 y] w fun e w' => e = .returned (.bool (Cal.lp y == 1)) ∧ w' = w := by
  by_cases a : y % 400 = 0
  · have e : Hid (Cal.lp y = 1) := Cal.lp_yes (Or.inl a)
    go_enter Tryd.func74, Tryd.ntmps74
    go_wp2
    go_ret
    exact ⟨by rw [e.out]; rfl, rfl⟩
  · by_cases b : y % 4 = 0
    · by_cases c : y % 100 = 0
      · have e : Hid (Cal.lp y = 0) := Cal.lp_no (by omega)
        go_enter Tryd.func74, Tryd.ntmps74
        go_wp2
        go_ret
        exact ⟨ret_bool (by rw [e.out]; simp [a]), rfl⟩
      · have e : Hid (Cal.lp y = 1) := Cal.lp_yes (Or.inr ⟨b, c⟩)
        have c' : (y % 100 != 0) = true := by simpa using c
        go_enter Tryd.func74, Tryd.ntmps74
        go_wp2
        go_ret
        exact ⟨by rw [e.out]; rfl, rfl⟩
    · have e : Hid (Cal.lp y = 0) := Cal.lp_no (by omega)
      go_enter Tryd.func74, Tryd.ntmps74
      go_wp2
      go_ret
      exact ⟨ret_bool (by rw [e.out]; simp [a]), rfl⟩

set_option maxHeartbeats 400000 in
theorem long_any (y m : Int) (w : World) (h1 : 0 ≤ y) (h2 : y ≤ 20000) :
    Calls Tryd.prog 45 #[.int .i64 y, .int .i64 m] w fun e w' => e = .returned (.int .i64 (Cal.dim y m)) ∧ w' = w := by
  have hl := Cal.lp_01 y
  by_cases a : m = 2
  · subst a
    by_cases b : Cal.lp y = 1
    · have e : Hid (Cal.dim y 2 = 29) := Cal.dim_29 b
      have b' : (Cal.lp y == 1) = true := by simpa using b
      clear b hl
      go_enter Tryd.func45, Tryd.ntmps45
      go_wp2_with (go_at_call 74; refine (leap_any _ _ (by omega) (by omega)).mono ?_; rintro e w' ⟨rfl, rfl⟩)
      go_ret
      exact ⟨ret_int e.out.symm, rfl⟩
    · have e : Hid (Cal.dim y 2 = 28) := (Cal.dim_len (Or.inr (by omega))).trans rfl
      have b' : (Cal.lp y == 1) = false := by simpa using b
      clear b hl
      go_enter Tryd.func45, Tryd.ntmps45
      go_wp2_with (go_at_call 74; refine (leap_any _ _ (by omega) (by omega)).mono ?_; rintro e w' ⟨rfl, rfl⟩)
      go_ret
      exact ⟨ret_int e.out.symm, rfl⟩
  · by_cases b : m = 4 ∨ m = 6 ∨ m = 9 ∨ m = 11
    · have e : Hid (Cal.dim y m = 30) := by unfold Hid Cal.dim; rw [if_neg a, if_pos b]
      clear a hl
      rcases b with rfl | rfl | rfl | rfl
      all_goals
        go_enter Tryd.func45, Tryd.ntmps45
        go_wp2_with fail
        go_ret
        exact ⟨ret_int e.out.symm, rfl⟩
    · have e : Hid (Cal.dim y m = 31) := by unfold Hid Cal.dim; rw [if_neg a, if_neg b]
      have b1 : ¬ m = 4 := by omega
      have b2 : ¬ m = 6 := by omega
      have b3 : ¬ m = 9 := by omega
      have b4 : ¬ m = 11 := by omega
      clear b hl
      go_enter Tryd.func45, Tryd.ntmps45
      go_wp2_with fail
      go_ret
      exact ⟨ret_int e.out.symm, rfl⟩

set_option maxHeartbeats 400000 in
theorem pick_any (c n : Int) (w : World) (c1 : -9223372036854775808 ≤ c) (c2 : c ≤ 9223372036854775807) (n1 : 0 < n) (n2 : n ≤ 9223372036854775807) :
    Calls Tryd.prog 18 #[.int .i64 c, .int .i64 n] w fun e w' => (∃ a : Int, 0 ≤ a ∧ a < n ∧ e = .returned (.int .i64 a)) ∧ w' = w := by
  have m1 := Int.emod_nonneg c (b := n) (by omega)
  have m2 := Int.emod_lt_of_pos c n1
  have k1 := Int.emod_nonneg (-(c + 1)) (b := n) (by omega)
  have k2 := Int.emod_lt_of_pos (-(c + 1)) n1
  by_cases h : c < 0
  · have E : Hid (-((c + 1).tmod n) = (-(c + 1)) % n) := by unfold Hid; rw [← Int.neg_tmod, Int.tmod_eq_emod_of_nonneg (by omega)]
    go_enter Tryd.func18, Tryd.ntmps18
    go_wp2_with fail
    go_ret
    exact ⟨⟨-((c + 1).tmod n), by rw [E.out]; exact k1, by rw [E.out]; exact k2, rfl⟩, rfl⟩
  · have E : Hid (c.tmod n = c % n) := Int.tmod_eq_emod_of_nonneg (by omega)
    go_enter Tryd.func18, Tryd.ntmps18
    go_wp2_with fail
    go_ret
    first | exact ⟨⟨c % n, m1, m2, rfl⟩, rfl⟩ | exact ⟨⟨c.tmod n, by rw [E.out]; exact m1, by rw [E.out]; exact m2, rfl⟩, rfl⟩

set_option maxHeartbeats 400000 in
theorem follows_a (y m d h i k : Int) (w : World) (_y1 : 1970 ≤ y) (_y2 : y ≤ 9999) (_m1 : 1 ≤ m) (_m2 : m ≤ 12) (_d1 : 1 ≤ d) (_d2 : d ≤ Cal.dim y m) (_h1 : 0 ≤ h) (_h2 : h ≤ 23) (_i1 : 0 ≤ i) (_i2 : i ≤ 59) (_k1 : 0 ≤ k) (_k2 : k ≤ 6) (hc : i < 59) :
    Calls Tryd.prog 19 #[dateV y m d h i k, dateV y m d h (i + 1) k] w fun e w' => e = .returned (.bool true) ∧ Below w.heap.size w w' := by
  have hdl := Cal.dim_lo y m
  go_enter Tryd.func19, Tryd.ntmps19
  go_wp2_with fail
  go_quiet ((go_at_call 45; exact Calls.quiet_of_same (long_any _ _ _ (by omega) (by omega))))
  go_wp2_with fail
  go_ret
  exact ⟨rfl, below_drewN (((Below.refl _ _).alloc (Nat.le_refl _) _).alloc (by simp) _) _⟩

set_option maxHeartbeats 400000 in
theorem follows_b (y m d h i k : Int) (w : World) (_y1 : 1970 ≤ y) (_y2 : y ≤ 9999) (_m1 : 1 ≤ m) (_m2 : m ≤ 12) (_d1 : 1 ≤ d) (_d2 : d ≤ Cal.dim y m) (_h1 : 0 ≤ h) (_h2 : h ≤ 23) (_i1 : 0 ≤ i) (_i2 : i ≤ 59) (_k1 : 0 ≤ k) (_k2 : k ≤ 6) (hc : i = 59) (hd : h < 23) :
    Calls Tryd.prog 19 #[dateV y m d h i k, dateV y m d (h + 1) 0 k] w fun e w' => e = .returned (.bool true) ∧ Below w.heap.size w w' := by
  have hdl := Cal.dim_lo y m
  subst hc
  go_enter Tryd.func19, Tryd.ntmps19
  go_wp2_with fail
  go_quiet ((go_at_call 45; exact Calls.quiet_of_same (long_any _ _ _ (by omega) (by omega))))
  go_wp2_with fail
  go_ret
  exact ⟨rfl, below_drewN (((Below.refl _ _).alloc (Nat.le_refl _) _).alloc (by simp) _) _⟩

set_option maxHeartbeats 400000 in
theorem follows_c (y m d h i k : Int) (w : World) (_y1 : 1970 ≤ y) (_y2 : y ≤ 9999) (_m1 : 1 ≤ m) (_m2 : m ≤ 12) (_d1 : 1 ≤ d) (_d2 : d ≤ Cal.dim y m) (_h1 : 0 ≤ h) (_h2 : h ≤ 23) (_i1 : 0 ≤ i) (_i2 : i ≤ 59) (_k1 : 0 ≤ k) (_k2 : k ≤ 6) (hc : i = 59) (hd : h = 23) (he : d < Cal.dim y m) :
    Calls Tryd.prog 19 #[dateV y m d h i k, dateV y m (d + 1) 0 0 ((k + 1) % 7)] w fun e w' => e = .returned (.bool true) ∧ Below w.heap.size w w' := by
  have hdl := Cal.dim_lo y m
  subst hc
  subst hd
  go_enter Tryd.func19, Tryd.ntmps19
  go_wp2_with fail
  go_quiet ((go_at_call 45; exact Calls.quiet_of_same (long_any _ _ _ (by omega) (by omega))))
  go_wp2_with fail
  go_ret
  exact ⟨rfl, below_drewN (((Below.refl _ _).alloc (Nat.le_refl _) _).alloc (by simp) _) _⟩

set_option maxHeartbeats 400000 in
theorem follows_d (y m d h i k : Int) (w : World) (_y1 : 1970 ≤ y) (_y2 : y ≤ 9999) (_m1 : 1 ≤ m) (_m2 : m ≤ 12) (_d1 : 1 ≤ d) (_d2 : d ≤ Cal.dim y m) (_h1 : 0 ≤ h) (_h2 : h ≤ 23) (_i1 : 0 ≤ i) (_i2 : i ≤ 59) (_k1 : 0 ≤ k) (_k2 : k ≤ 6) (hc : i = 59) (hd : h = 23) (he : d = Cal.dim y m) (hf : m < 12) :
    Calls Tryd.prog 19 #[dateV y m d h i k, dateV y (m + 1) 1 0 0 ((k + 1) % 7)] w fun e w' => e = .returned (.bool true) ∧ Below w.heap.size w w' := by
  have hdl := Cal.dim_lo y m
  subst hc
  subst hd
  have he1 : ¬ d < Cal.dim y m := by omega
  have he2 : Cal.dim y m < d + 1 := by omega
  clear he
  go_enter Tryd.func19, Tryd.ntmps19
  go_wp2_with fail
  go_quiet ((go_at_call 45; exact Calls.quiet_of_same (long_any _ _ _ (by omega) (by omega))))
  go_wp2_with fail
  go_ret
  exact ⟨rfl, by repeat (first | exact below_drewN (((Below.refl _ _).alloc (Nat.le_refl _) _).alloc (by simp) _) _ | refine Below.setCell ?_ (by simp) _)⟩

end Go.Proofs.YtdajolpoiffimaaDoor
