/-
  The walks over the program's calendar: its loops, Date, Minute.
-/
import Derived.Test.YtdajolpoiffimaaDoorCalWalks
import Derived.Deep.QuietTactic
import Derived.BigQuiet
namespace Go.Proofs.YtdajolpoiffimaaDoor
open Go.RowKit

set_option maxHeartbeats 400000 in
theorem cum_any (y m : Int) (w : World) (hT : Tab w) (h1 : 0 ≤ y) (h2 : y ≤ 10000) (m1 : 1 ≤ m) (m2 : m ≤ 12) :
    Calls Tryd.prog 65 #[.int .i64 y, .int .i64 m] w fun e w' => e = .returned (.int .i64 (Cal.cum y m)) ∧ w' = w := by
  have HT : Hid (Tab w) := hT
  clear hT
  go_enter Tryd.func65, Tryd.ntmps65
  go_wp2
  go_loop [5, 6] (fun d k => ∃ b : Int, 1 ≤ b ∧ b ≤ m ∧ k = .int .i64 b ∧ d = .int .i64 (Cal.cum y b)) (fun _ k => (m - intOf k).toNat)
  case atStart => exact ⟨1, by omega, by omega, rfl, by rw [Cal.cum_1]⟩
  case round =>
    obtain ⟨b, hb1, hb2, rfl, rfl⟩ := hrel
    have cb := Cal.cum_bd y b
    have db := Cal.dim_lo y b
    have cs := Cal.cum_succ y b hb1 (by omega)
    have CS : Hid (Cal.cum y (b + 1) = Cal.cum y b + Cal.dim y b) := cs
    clear cs
    by_cases hlt : b < m
    · have h12 : b ≤ 12 := by omega
      go_wp2_with (go_at_call 97; refine (dim_any _ _ _ HT.out (by omega) (by omega) (by omega) (by omega)).mono ?_; rintro e w' ⟨rfl, rfl⟩)
      go_round
      case rel => exact ⟨b + 1, by omega, by omega, by go_num, by rw [CS.out]⟩
      case measure => simp [intOf]; omega
    · go_wp2_with fail
      go_ret
      obtain rfl : b = m := by omega
      exact ⟨rfl, rfl⟩

set_option maxHeartbeats 400000 in
theorem monthOf_any (y r : Int) (w : World) (hT : Tab w) (h1 : 0 ≤ y) (h2 : y ≤ 10000) (r1 : 0 ≤ r) (r2 : r < 365 + Cal.lp y) :
    Calls Tryd.prog 64 #[.int .i64 y, .int .i64 r] w fun e w' => (∃ m : Int, 1 ≤ m ∧ m ≤ 12 ∧ Cal.cum y m ≤ r ∧ r < Cal.cum y m + Cal.dim y m ∧ e = .returned (.int .i64 m)) ∧ w' = w := by
  have HT : Hid (Tab w) := hT
  clear hT
  have hl := Cal.lp_01 y
  go_enter Tryd.func64, Tryd.ntmps64
  go_wp2
  go_loop [5] (fun k => ∃ m : Int, 1 ≤ m ∧ m ≤ 12 ∧ Cal.cum y m ≤ r ∧ k = .int .i64 m) (fun k => (12 - intOf k).toNat)
  case atStart => exact ⟨1, by omega, by omega, by rw [Cal.cum_1]; exact r1, rfl⟩
  case round =>
    obtain ⟨m, hm1, hm2, hr, rfl⟩ := hrel
    have CS : Hid (Cal.cum y (m + 1) = Cal.cum y m + Cal.dim y m) := Cal.cum_succ y m hm1 hm2
    have C13 : Hid (Cal.cum y 13 = 365 + Cal.lp y) := Cal.cum_13 y
    by_cases hc : m < 12 ∧ Cal.cum y (m + 1) ≤ r
    · obtain ⟨hlt, hd⟩ := hc
      go_wp2_with (go_at_call 65; refine (cum_any _ _ _ HT.out (by omega) (by omega) (by omega) (by omega)).mono ?_; rintro e w' ⟨rfl, rfl⟩)
      go_round
      case rel => exact ⟨m + 1, by omega, by omega, hd, rfl⟩
      case measure => simp [intOf]; omega
    · have hz : r < Cal.cum y m + Cal.dim y m := by
        by_cases e : m = 12
        · subst e; have := CS.out; have := C13.out; have : Cal.cum y (12 + 1) = Cal.cum y 13 := rfl; omega
        · have := CS.out; omega
      have hn : m < 12 → r < Cal.cum y (m + 1) := by intro; have := CS.out; omega
      have HZ : Hid (r < Cal.cum y m + Cal.dim y m) := hz
      have HR : Hid (Cal.cum y m ≤ r) := hr
      clear hc hz hr
      by_cases hlt : m < 12
      · have hn' := hn hlt
        clear hn
        go_wp2_with (go_at_call 65; refine (cum_any _ _ _ HT.out (by omega) (by omega) (by omega) (by omega)).mono ?_; rintro e w' ⟨rfl, rfl⟩)
        go_ret
        exact ⟨⟨m, hm1, hm2, HR.out, HZ.out, rfl⟩, rfl⟩
      · clear hn
        go_wp2_with fail
        go_ret
        exact ⟨⟨m, hm1, hm2, HR.out, HZ.out, rfl⟩, rfl⟩

set_option maxHeartbeats 400000 in
theorem yearOf_any (n : Int) (w : World) (h1 : 0 ≤ n) (h2 : n ≤ 2932896) :
    Calls Tryd.prog 62 #[.int .i64 n] w fun e w' => (∃ y : Int, 1970 ≤ y ∧ y ≤ 9999 ∧ Cal.dby y ≤ n ∧ n < Cal.dby y + 365 + Cal.lp y ∧ e = .returned (.int .i64 y)) ∧ w' = w := by
  have g0 := Cal.dby_guess n h1
  go_enter Tryd.func62, Tryd.ntmps62
  go_wp2
  go_loop [3] (fun k => ∃ y : Int, 1970 ≤ y ∧ y ≤ 9999 ∧ Cal.dby y ≤ n ∧ k = .int .i64 y) (fun k => (9999 - intOf k).toNat)
  case atStart => exact ⟨_, by omega, by omega, g0, rfl⟩
  case round =>
    obtain ⟨y, hy1, hy2, hy3, rfl⟩ := hrel
    clear g0
    have DS : Hid (Cal.dby (y + 1) = Cal.dby y + 365 + Cal.lp y) := Cal.dby_succ y
    by_cases hc : y < 9999 ∧ Cal.dby (y + 1) ≤ n
    · obtain ⟨hlt, hd⟩ := hc
      go_wp2_with (go_at_call 63; refine (dby_any _ _ (by omega) (by omega)).mono ?_; rintro e w' ⟨rfl, rfl⟩)
      go_round
      case rel => exact ⟨y + 1, by omega, by omega, hd, rfl⟩
      case measure => simp [intOf]; omega
    · have hz : n < Cal.dby y + 365 + Cal.lp y := by
        by_cases e : y = 9999
        · subst e; have := DS.out; have : Cal.dby (9999 + 1) = 2932897 := Cal.dby_10000; omega
        · have := DS.out; omega
      have HZ : Hid (n < Cal.dby y + 365 + Cal.lp y) := hz
      have hn : y < 9999 → n < Cal.dby (y + 1) := by intro; omega
      have HR : Hid (Cal.dby y ≤ n) := hy3
      clear hc hz hy3
      by_cases hlt : y < 9999
      · have hn' := hn hlt
        clear hn
        go_wp2_with (go_at_call 63; refine (dby_any _ _ (by omega) (by omega)).mono ?_; rintro e w' ⟨rfl, rfl⟩)
        go_ret
        exact ⟨⟨y, hy1, hy2, HR.out, HZ.out, rfl⟩, rfl⟩
      · clear hn
        go_wp2_with fail
        go_ret
        exact ⟨⟨y, hy1, hy2, HR.out, HZ.out, rfl⟩, rfl⟩
end Go.Proofs.YtdajolpoiffimaaDoor
