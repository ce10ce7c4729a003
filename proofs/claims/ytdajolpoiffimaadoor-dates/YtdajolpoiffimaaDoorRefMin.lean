/-
  The walks over the document's Minute.
-/
import Derived.Test.YtdajolpoiffimaaDoorCalMin2
import Derived.Test.YtdajolpoiffimaaDoorRCal
namespace Go.Proofs.YtdajolpoiffimaaDoor
open Go.RowKit

set_option maxHeartbeats 400000 in
theorem rmin_a0 (y m d h i k : Int) (w : World)  (hn : y < 1970) :
    Calls Tryd.prog 13 #[dateV y m d h i k] w fun e w' => e = .returned (.tuple #[.int .i64 0, .int .i64 4]) ∧ Below w.heap.size w w' := by
  go_enter Tryd.func13, Tryd.ntmps13
  go_wp2_with fail
  go_ret2
  exact ⟨rfl, (Below.refl _ _).alloc (Nat.le_refl _) _⟩

set_option maxHeartbeats 400000 in
theorem rmin_a1 (y m d h i k : Int) (w : World) (c0 : 1970 ≤ y) (hn : 9999 < y) :
    Calls Tryd.prog 13 #[dateV y m d h i k] w fun e w' => e = .returned (.tuple #[.int .i64 0, .int .i64 4]) ∧ Below w.heap.size w w' := by
  go_enter Tryd.func13, Tryd.ntmps13
  go_wp2_with fail
  go_ret2
  exact ⟨rfl, (Below.refl _ _).alloc (Nat.le_refl _) _⟩

set_option maxHeartbeats 400000 in
theorem rmin_a2 (y m d h i k : Int) (w : World) (c0 : 1970 ≤ y) (c1 : y ≤ 9999) (hn : m < 1) :
    Calls Tryd.prog 13 #[dateV y m d h i k] w fun e w' => e = .returned (.tuple #[.int .i64 0, .int .i64 4]) ∧ Below w.heap.size w w' := by
  go_enter Tryd.func13, Tryd.ntmps13
  go_wp2_with fail
  go_ret2
  exact ⟨rfl, (Below.refl _ _).alloc (Nat.le_refl _) _⟩

set_option maxHeartbeats 400000 in
theorem rmin_a3 (y m d h i k : Int) (w : World) (c0 : 1970 ≤ y) (c1 : y ≤ 9999) (c2 : 1 ≤ m) (hn : 12 < m) :
    Calls Tryd.prog 13 #[dateV y m d h i k] w fun e w' => e = .returned (.tuple #[.int .i64 0, .int .i64 4]) ∧ Below w.heap.size w w' := by
  go_enter Tryd.func13, Tryd.ntmps13
  go_wp2_with fail
  go_ret2
  exact ⟨rfl, (Below.refl _ _).alloc (Nat.le_refl _) _⟩

set_option maxHeartbeats 400000 in
theorem rmin_a4 (y m d h i k : Int) (w : World) (c0 : 1970 ≤ y) (c1 : y ≤ 9999) (c2 : 1 ≤ m) (c3 : m ≤ 12) (hn : d < 1) :
    Calls Tryd.prog 13 #[dateV y m d h i k] w fun e w' => e = .returned (.tuple #[.int .i64 0, .int .i64 4]) ∧ Below w.heap.size w w' := by
  go_enter Tryd.func13, Tryd.ntmps13
  go_wp2_with fail
  go_ret2
  exact ⟨rfl, (Below.refl _ _).alloc (Nat.le_refl _) _⟩

set_option maxHeartbeats 400000 in
theorem rmin_a5 (y m d h i k : Int) (w : World) (c0 : 1970 ≤ y) (c1 : y ≤ 9999) (c2 : 1 ≤ m) (c3 : m ≤ 12) (c4 : 1 ≤ d) (hn : h < 0) :
    Calls Tryd.prog 13 #[dateV y m d h i k] w fun e w' => e = .returned (.tuple #[.int .i64 0, .int .i64 4]) ∧ Below w.heap.size w w' := by
  go_enter Tryd.func13, Tryd.ntmps13
  go_wp2_with fail
  go_ret2
  exact ⟨rfl, (Below.refl _ _).alloc (Nat.le_refl _) _⟩

set_option maxHeartbeats 400000 in
theorem rmin_a6 (y m d h i k : Int) (w : World) (c0 : 1970 ≤ y) (c1 : y ≤ 9999) (c2 : 1 ≤ m) (c3 : m ≤ 12) (c4 : 1 ≤ d) (c5 : 0 ≤ h) (hn : 23 < h) :
    Calls Tryd.prog 13 #[dateV y m d h i k] w fun e w' => e = .returned (.tuple #[.int .i64 0, .int .i64 4]) ∧ Below w.heap.size w w' := by
  go_enter Tryd.func13, Tryd.ntmps13
  go_wp2_with fail
  go_ret2
  exact ⟨rfl, (Below.refl _ _).alloc (Nat.le_refl _) _⟩

set_option maxHeartbeats 400000 in
theorem rmin_a7 (y m d h i k : Int) (w : World) (c0 : 1970 ≤ y) (c1 : y ≤ 9999) (c2 : 1 ≤ m) (c3 : m ≤ 12) (c4 : 1 ≤ d) (c5 : 0 ≤ h) (c6 : h ≤ 23) (hn : i < 0) :
    Calls Tryd.prog 13 #[dateV y m d h i k] w fun e w' => e = .returned (.tuple #[.int .i64 0, .int .i64 4]) ∧ Below w.heap.size w w' := by
  go_enter Tryd.func13, Tryd.ntmps13
  go_wp2_with fail
  go_ret2
  exact ⟨rfl, (Below.refl _ _).alloc (Nat.le_refl _) _⟩

set_option maxHeartbeats 400000 in
theorem rmin_a8 (y m d h i k : Int) (w : World) (c0 : 1970 ≤ y) (c1 : y ≤ 9999) (c2 : 1 ≤ m) (c3 : m ≤ 12) (c4 : 1 ≤ d) (c5 : 0 ≤ h) (c6 : h ≤ 23) (c7 : 0 ≤ i) (hn : 59 < i) :
    Calls Tryd.prog 13 #[dateV y m d h i k] w fun e w' => e = .returned (.tuple #[.int .i64 0, .int .i64 4]) ∧ Below w.heap.size w w' := by
  go_enter Tryd.func13, Tryd.ntmps13
  go_wp2_with fail
  go_ret2
  exact ⟨rfl, (Below.refl _ _).alloc (Nat.le_refl _) _⟩

set_option maxHeartbeats 400000 in
theorem rmin_b (y m d h i k : Int) (w : World) (c0 : 1970 ≤ y) (c1 : y ≤ 9999) (c2 : 1 ≤ m) (c3 : m ≤ 12) (c4 : 1 ≤ d) (c5 : 0 ≤ h) (c6 : h ≤ 23) (c7 : 0 ≤ i) (c8 : i ≤ 59) (hn : Cal.dim y m < d) :
    Calls Tryd.prog 13 #[dateV y m d h i k] w fun e w' => e = .returned (.tuple #[.int .i64 0, .int .i64 4]) ∧ Below w.heap.size w w' := by
  go_enter Tryd.func13, Tryd.ntmps13
  go_wp2_with fail
  go_quiet ((go_at_call 38; exact Calls.quiet_of_same (monthLong_any _ _ _ (by omega) (by omega))))
  go_wp2_with fail
  go_ret2
  exact ⟨rfl, below_drewN ((Below.refl _ _).alloc (Nat.le_refl _) _) _⟩

set_option maxHeartbeats 1000000 in
theorem rmin_c (y m d h i k : Int) (w : World) (c0 : 1970 ≤ y) (c1 : y ≤ 9999) (c2 : 1 ≤ m) (c3 : m ≤ 12) (c4 : 1 ≤ d) (c5 : 0 ≤ h) (c6 : h ≤ 23) (c7 : 0 ≤ i) (c8 : i ≤ 59) (d2 : d ≤ Cal.dim y m) :
    Calls Tryd.prog 13 #[dateV y m d h i k] w fun e w' => e = .returned (.tuple #[.int .i64 (Cal.num y m d h i), .int .i64 0]) ∧ Below w.heap.size w w' := by
  have b1 := Cal.dby_bd c0 (Int.le_trans c1 (by omega))
  have b2 := Cal.cum_bd y m
  have b3 := Cal.dim_lo y m
  go_enter Tryd.func13, Tryd.ntmps13
  go_wp2_with fail
  go_quiet ((go_at_call 38; exact Calls.quiet_of_same (monthLong_any _ _ _ (by omega) (by omega))))
  go_wp2_with fail
  go_loop [4, 5] (fun s t => ∃ z : Int, 1970 ≤ z ∧ z ≤ y ∧ s = .int .i64 (Cal.dby z) ∧ t = .int .i64 z) (fun _ t => (y - intOf t).toNat)
  case atStart => exact ⟨1970, by omega, by omega, by rw [Cal.dby_first], rfl⟩
  case round =>
    obtain ⟨z, hz1, hz2, rfl, rfl⟩ := hrel
    have zb := Cal.dby_bd hz1 (by omega)
    have D4 : Hid (Cal.dby (z + 400) = Cal.dby z + 146097) := Cal.dby_400 z
    by_cases hc : z + 400 ≤ y
    · go_wp2_with fail
      go_round
      case rel => exact ⟨z + 400, by omega, by omega, by rw [D4.out], rfl⟩
      case measure => simp [intOf]; omega
    · clear D4
      go_wp2_with fail
      go_loop [4, 5] (fun s t => ∃ z : Int, 1970 ≤ z ∧ z ≤ y ∧ s = .int .i64 (Cal.dby z) ∧ t = .int .i64 z) (fun _ t => (y - intOf t).toNat)
      case atStart => exact ⟨z, by omega, by omega, rfl, rfl⟩
      case round =>
        obtain ⟨x, hx1, hx2, rfl, rfl⟩ := hrel
        have xb := Cal.dby_bd hx1 (by omega)
        have xl := Cal.lp_01 x
        have DS : Hid (Cal.dby (x + 1) = Cal.dby x + 365 + Cal.lp x) := Cal.dby_succ x
        by_cases he : x < y
        · go_wp2_with (go_at_call 39; refine (yearLong_any _ _ (by omega) (by omega)).mono ?_; rintro e w' ⟨rfl, rfl⟩)
          go_round
          case rel => exact ⟨x + 1, by omega, by omega, by rw [DS.out]; go_num, rfl⟩
          case measure => simp [intOf]; omega
        · obtain rfl : x = y := by omega
          clear DS
          go_wp2_with fail
          go_loop [4, 6] (fun s t => ∃ b : Int, 1 ≤ b ∧ b ≤ m ∧ s = .int .i64 (Cal.dby x + Cal.cum x b) ∧ t = .int .i64 b) (fun _ t => (m - intOf t).toNat)
          case atStart => exact ⟨1, by omega, by omega, by rw [Cal.cum_1]; go_num, rfl⟩
          case round =>
            obtain ⟨b, hb1, hb2, rfl, rfl⟩ := hrel
            have cb := Cal.cum_bd x b
            have db := Cal.dim_lo x b
            have CS : Hid (Cal.cum x (b + 1) = Cal.cum x b + Cal.dim x b) := Cal.cum_succ x b hb1 (by omega)
            by_cases hm : b < m
            · go_wp2_with (go_at_call 38; refine (monthLong_any _ _ _ (by omega) (by omega)).mono ?_; rintro e w' ⟨rfl, rfl⟩)
              go_round
              case rel => exact ⟨b + 1, by omega, by omega, by rw [CS.out]; go_num, rfl⟩
              case measure => simp [intOf]; omega
            · obtain rfl : b = m := by omega
              go_wp2_with fail
              go_ret2
              exact ⟨ret_pair (by unfold Cal.num; omega), below_drewN ((Below.refl _ _).alloc (Nat.le_refl _) _) _⟩

theorem rminute_no (y m d h i k : Int) (w : World) (hv : Cal.vldB y m d h i = false) :
    Calls Tryd.prog 13 #[dateV y m d h i k] w fun e w' => e = .returned (.tuple #[.int .i64 0, .int .i64 4]) ∧ Below w.heap.size w w' := by
  by_cases b0 : y < 1970
  · exact rmin_a0 y m d h i k w  b0
  by_cases b1 : 9999 < y
  · exact rmin_a1 y m d h i k w (by omega) b1
  by_cases b2 : m < 1
  · exact rmin_a2 y m d h i k w (by omega) (by omega) b2
  by_cases b3 : 12 < m
  · exact rmin_a3 y m d h i k w (by omega) (by omega) (by omega) b3
  by_cases b4 : d < 1
  · exact rmin_a4 y m d h i k w (by omega) (by omega) (by omega) (by omega) b4
  by_cases b5 : h < 0
  · exact rmin_a5 y m d h i k w (by omega) (by omega) (by omega) (by omega) (by omega) b5
  by_cases b6 : 23 < h
  · exact rmin_a6 y m d h i k w (by omega) (by omega) (by omega) (by omega) (by omega) (by omega) b6
  by_cases b7 : i < 0
  · exact rmin_a7 y m d h i k w (by omega) (by omega) (by omega) (by omega) (by omega) (by omega) (by omega) b7
  by_cases b8 : 59 < i
  · exact rmin_a8 y m d h i k w (by omega) (by omega) (by omega) (by omega) (by omega) (by omega) (by omega) (by omega) b8
  by_cases b9 : Cal.dim y m < d
  · exact rmin_b y m d h i k w (by omega) (by omega) (by omega) (by omega) (by omega) (by omega) (by omega) (by omega) (by omega) b9
  have hx : Cal.vldB y m d h i = true := Cal.vld_mk (by omega)
  rw [hv] at hx; cases hx
theorem rminute_yes (y m d h i k : Int) (w : World) (hv : Cal.vldB y m d h i = true) :
    Calls Tryd.prog 13 #[dateV y m d h i k] w fun e w' => e = .returned (.tuple #[.int .i64 (Cal.num y m d h i), .int .i64 0]) ∧ Below w.heap.size w w' := by
  obtain ⟨y1, y2, m1, m2, d1, d2, h1, h2, i1, i2⟩ := Cal.vld_of hv
  exact rmin_c y m d h i k w y1 y2 m1 m2 d1 h1 h2 i1 i2 d2
end Go.Proofs.YtdajolpoiffimaaDoor
