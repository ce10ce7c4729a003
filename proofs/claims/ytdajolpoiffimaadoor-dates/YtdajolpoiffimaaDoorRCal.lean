/-
  The walks over the document's calendar: the lengths of years and months, day, Date.
-/
import Derived.Test.YtdajolpoiffimaaDoorRBase
namespace Go.Proofs.YtdajolpoiffimaaDoor
open Go.RowKit

set_option maxHeartbeats 400000 in
theorem yearLong_any (y : Int) (w : World) (h1 : 0 ≤ y) (h2 : y ≤ 20000) :
    Calls Tryd.prog 39 #[.int .i64 y] w fun e w' => e = .returned (.int .i64 (365 + Cal.lp y)) ∧ w' = w := by
  by_cases a : y % 400 = 0
  · have e : Hid (Cal.lp y = 1) := Cal.lp_yes (Or.inl a)
    go_enter Tryd.func39, Tryd.ntmps39
    go_wp2
    go_ret
    exact ⟨ret_int (by rw [e.out]; rfl), rfl⟩
  · by_cases b : y % 4 = 0
    · by_cases c : y % 100 = 0
      · have e : Hid (Cal.lp y = 0) := Cal.lp_no (by omega)
        go_enter Tryd.func39, Tryd.ntmps39
        go_wp2
        go_ret
        exact ⟨ret_int (by rw [e.out]; rfl), rfl⟩
      · have e : Hid (Cal.lp y = 1) := Cal.lp_yes (Or.inr ⟨b, c⟩)
        have c' : (y % 100 != 0) = true := by simpa using c
        go_enter Tryd.func39, Tryd.ntmps39
        go_wp2
        go_ret
        exact ⟨ret_int (by rw [e.out]; rfl), rfl⟩
    · have e : Hid (Cal.lp y = 0) := Cal.lp_no (by omega)
      go_enter Tryd.func39, Tryd.ntmps39
      go_wp2
      go_ret
      exact ⟨ret_int (by rw [e.out]; rfl), rfl⟩

set_option maxHeartbeats 400000 in
theorem monthLong_any (y m : Int) (w : World) (h1 : 0 ≤ y) (h2 : y ≤ 20000) :
    Calls Tryd.prog 38 #[.int .i64 y, .int .i64 m] w fun e w' => e = .returned (.int .i64 (Cal.dim y m)) ∧ w' = w := by
  have hl := Cal.lp_01 y
  by_cases a : m = 2
  · subst a
    have e : Hid (Cal.dim y 2 = 28 + Cal.lp y) := if_pos rfl
    go_enter Tryd.func38, Tryd.ntmps38
    go_wp2_with (go_at_call 39; refine (yearLong_any _ _ (by omega) (by omega)).mono ?_; rintro e w' ⟨rfl, rfl⟩)
    go_ret
    exact ⟨ret_int (by rw [e.out]; omega), rfl⟩
  · by_cases b : m = 4 ∨ m = 6 ∨ m = 9 ∨ m = 11
    · have e : Hid (Cal.dim y m = 30) := by unfold Hid Cal.dim; rw [if_neg a, if_pos b]
      clear a hl
      rcases b with rfl | rfl | rfl | rfl
      all_goals
        go_enter Tryd.func38, Tryd.ntmps38
        go_wp2_with fail
        go_ret
        exact ⟨ret_int e.out.symm, rfl⟩
    · have e : Hid (Cal.dim y m = 31) := by unfold Hid Cal.dim; rw [if_neg a, if_neg b]
      have b1 : ¬ m = 4 := by omega
      have b2 : ¬ m = 6 := by omega
      have b3 : ¬ m = 9 := by omega
      have b4 : ¬ m = 11 := by omega
      clear b hl
      go_enter Tryd.func38, Tryd.ntmps38
      go_wp2_with fail
      go_ret
      exact ⟨ret_int e.out.symm, rfl⟩
set_option maxHeartbeats 400000 in
theorem isMinute_any (m : Int) (w : World) :
    Calls Tryd.prog 35 #[.int .i64 m] w fun e w' => e = .returned (.bool (minB m)) ∧ w' = w := by
  by_cases a : 0 ≤ m
  · by_cases b : m ≤ 4223371679
    · have e : Hid (minB m = true) := minB_yes a b
      go_enter Tryd.func35, Tryd.ntmps35
      go_wp2_with fail
      go_ret
      exact ⟨by rw [e.out]; rfl, rfl⟩
    · have e : Hid (minB m = false) := minB_no (by omega)
      go_enter Tryd.func35, Tryd.ntmps35
      go_wp2_with fail
      go_ret
      exact ⟨by rw [e.out]; rfl, rfl⟩
  · have e : Hid (minB m = false) := minB_no (by omega)
    go_enter Tryd.func35, Tryd.ntmps35
    go_wp2_with fail
    go_ret
    exact ⟨by rw [e.out]; rfl, rfl⟩

set_option maxHeartbeats 1000000 in
theorem day_any (n : Int) (w : World) (h1 : 0 ≤ n) (h2 : n ≤ 2932896) :
    Calls Tryd.prog 36 #[.int .i64 n] w fun e w' => (∃ y mo d : Int, Cal.IsD n y mo d ∧ e = .returned (dateV y mo d 0 0 ((4 + n) % 7))) ∧ Below w.heap.size w w' := by
  have g0 := Cal.dby_cycle n
  go_enter Tryd.func36, Tryd.ntmps36
  go_wp2_with fail
  go_loopw [4] (fun r wr => ∃ y : Int, 1970 ≤ y ∧ y ≤ 9999 ∧ Cal.dby y ≤ n ∧ r = .int .i64 (n - Cal.dby y) ∧ wr = (w.alloc (.cells #[.int .i64 0, .int .i64 0, .int .i64 0, .int .i64 0, .int .i64 0, .int .i64 0] 23)).alloc (.cells #[.int .i64 y, .int .i64 1, .int .i64 1, .int .i64 0, .int .i64 0, .int .i64 ((4 + n) % 7)] 23)) (fun r _ => (intOf r).toNat)
  case atStart => exact ⟨_, by omega, by omega, by rw [g0]; omega, by rw [g0]; go_num, rfl⟩
  case round =>
    obtain ⟨y, hy1, hy2, hy3, rfl, rfl⟩ := hrel
    clear g0
    have DS : Hid (Cal.dby (y + 1) = Cal.dby y + 365 + Cal.lp y) := Cal.dby_succ y
    have hl := Cal.lp_01 y
    have hb := Cal.dby_bd hy1 (Int.le_trans hy2 (by omega))
    by_cases hc : 365 + Cal.lp y ≤ n - Cal.dby y
    · have hy4 : y ≤ 9998 := by
        by_cases e : y = 9999
        · subst e; have := DS.out; have : Cal.dby (9999 + 1) = 2932897 := Cal.dby_10000; omega
        · omega
      go_wp2_with (go_at_call 39; refine (yearLong_any _ _ (by omega) (by omega)).mono ?_; rintro e w' ⟨rfl, rfl⟩)
      go_roundw
      case rel => exact ⟨y + 1, by omega, by omega, by rw [DS.out]; omega, by rw [DS.out]; go_num, rfl⟩
      case measure => simp [intOf]; omega
    · go_wp2_with (go_at_call 39; refine (yearLong_any _ _ (by omega) (by omega)).mono ?_; rintro e w' ⟨rfl, rfl⟩)
      go_loopw [4] (fun r wr => ∃ mo : Int, 1 ≤ mo ∧ mo ≤ 12 ∧ Cal.cum y mo ≤ n - Cal.dby y ∧ r = .int .i64 (n - Cal.dby y - Cal.cum y mo) ∧ wr = (w.alloc (.cells #[.int .i64 0, .int .i64 0, .int .i64 0, .int .i64 0, .int .i64 0, .int .i64 0] 23)).alloc (.cells #[.int .i64 y, .int .i64 mo, .int .i64 1, .int .i64 0, .int .i64 0, .int .i64 ((4 + n) % 7)] 23)) (fun r _ => (intOf r).toNat)
      case atStart => exact ⟨1, by omega, by omega, by rw [Cal.cum_1]; omega, by rw [Cal.cum_1]; go_num, rfl⟩
      case round =>
        obtain ⟨mo, hm1, hm2, hm3, rfl, rfl⟩ := hrel
        have CS : Hid (Cal.cum y (mo + 1) = Cal.cum y mo + Cal.dim y mo) := Cal.cum_succ y mo hm1 hm2
        have C13 : Hid (Cal.cum y 13 = 365 + Cal.lp y) := Cal.cum_13 y
        have cb := Cal.cum_bd y mo
        have db := Cal.dim_lo y mo
        by_cases hd : Cal.dim y mo ≤ n - Cal.dby y - Cal.cum y mo
        · have hm4 : mo ≤ 11 := by
            by_cases e : mo = 12
            · subst e; have := CS.out; have := C13.out; have : Cal.cum y (12 + 1) = Cal.cum y 13 := rfl; omega
            · omega
          go_wp2_with (go_at_call 38; refine (monthLong_any _ _ _ (by omega) (by omega)).mono ?_; rintro e w' ⟨rfl, rfl⟩)
          go_roundw
          case rel => exact ⟨mo + 1, by omega, by omega, by rw [CS.out]; omega, by rw [CS.out]; go_num, rfl⟩
          case measure => simp [intOf]; omega
        · go_wp2_with (go_at_call 38; refine (monthLong_any _ _ _ (by omega) (by omega)).mono ?_; rintro e w' ⟨rfl, rfl⟩)
          refine bodyPost_ret (v := dateV y mo (1 + (n - Cal.dby y - Cal.cum y mo)) 0 0 ((4 + n) % 7)) (by simp [results, Tryd.results36, go_sem]) rfl
            ⟨⟨y, mo, _, ⟨hy1, hy2, hm1, hm2, by omega, by omega, by omega⟩, rfl⟩, ((Below.refl _ _).alloc (Nat.le_refl _) _).alloc (by simp) _⟩

set_option maxHeartbeats 400000 in
theorem rdate_no (m : Int) (w : World) (h : m < 0 ∨ 4223371679 < m) :
    Calls Tryd.prog 10 #[.int .i64 m] w fun e w' => e = .returned (.tuple #[dateV 0 0 0 0 0 0, .int .i64 4]) ∧ Below w.heap.size w w' := by
  have e := minB_no h
  clear h
  go_enter Tryd.func10, Tryd.ntmps10
  go_wp2_with (go_at_call 35; refine (isMinute_any _ _).mono ?_; rintro e w' ⟨rfl, rfl⟩)
  exact bodyPost_ret (v := .tuple #[dateV 0 0 0 0 0 0, .int .i64 4]) (by simp [results, Tryd.results10, go_sem]) rfl ⟨rfl, (Below.refl _ _).alloc (Nat.le_refl _) _⟩

set_option maxHeartbeats 1000000 in
theorem rdate_yes (m : Int) (w : World) (h0 : 0 ≤ m) (h1 : m ≤ 4223371679) :
    Calls Tryd.prog 10 #[.int .i64 m] w fun e w' => (∃ y mo d : Int, Cal.IsD (m / 1440) y mo d ∧ e = .returned (.tuple #[dateV y mo d (m % 1440 / 60) (m % 60) ((m / 1440 + 4) % 7), .int .i64 0])) ∧ Below w.heap.size w w' := by
  have e := minB_yes h0 h1
  go_enter Tryd.func10, Tryd.ntmps10
  go_wp2_with (first | (go_at_call 35; refine (isMinute_any _ _).mono ?_; rintro e w' ⟨rfl, rfl⟩) | (go_at_call 36; refine (day_any _ _ (by omega) (by omega)).mono ?_; rintro e w1 ⟨⟨y, mo, d, HD, rfl⟩, hb⟩; obtain ⟨hc, hf⟩ := bcell hb; have hz : w.heap.size < w1.heap.size := (by have := hb.size; simp at this; omega)))
  have E7 : (4 + m / 1440) % 7 = (m / 1440 + 4) % 7 := by omega
  refine bodyPost_ret (v := .tuple #[dateV y mo d (m % 1440 / 60) (m % 60) ((4 + m / 1440) % 7), .int .i64 0]) (by simp [results, Tryd.results10, go_sem, hc, hz]) rfl ⟨⟨y, mo, d, HD, by rw [E7]⟩, ?_⟩
  exact (((((((((Below.refl _ _).alloc (Nat.le_refl _) _).trans (hb.mono (by simp))).setCell (by simp) _).setCell (by simp) _).setCell (by simp) _).setCell (by simp) _).setCell (by simp) _).setCell (by simp) _).alloc (by simp; omega) _
end Go.Proofs.YtdajolpoiffimaaDoor
