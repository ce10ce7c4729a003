/-
  The walk over the statement Calendar.
-/
import Derived.Test.YtdajolpoiffimaaDoorCalKeep
namespace Go.Proofs.YtdajolpoiffimaaDoor
open Go.RowKit

set_option maxHeartbeats 400000 in
theorem follows_e (y m d h i k : Int) (w : World) (_y1 : 1970 ≤ y) (_y2 : y ≤ 9999) (_m1 : 1 ≤ m) (_m2 : m ≤ 12) (_d1 : 1 ≤ d) (_d2 : d ≤ Cal.dim y m) (_h1 : 0 ≤ h) (_h2 : h ≤ 23) (_i1 : 0 ≤ i) (_i2 : i ≤ 59) (_k1 : 0 ≤ k) (_k2 : k ≤ 6) (hc : i = 59) (hd : h = 23) (he : d = Cal.dim y m) (hf : 12 ≤ m) :
    Calls Tryd.prog 19 #[dateV y m d h i k, dateV (y + 1) 1 1 0 0 ((k + 1) % 7)] w fun e w' => e = .returned (.bool true) ∧ Below w.heap.size w w' := by
  have hdl := Cal.dim_lo y m
  subst hc
  subst hd
  have he1 : ¬ d < Cal.dim y m := by omega
  have he2 : Cal.dim y m < d + 1 := by omega
  clear he
  go_enter Tryd.func19, Tryd.ntmps19
  go_wp2_with fail
  go_quiet ((go_at_call 45; exact Calls.quiet_of_same (long_any _ _ _ (by omega) (by omega))))
  obtain ⟨W, hW⟩ : ∃ W : World, W = ((w.alloc (.cells #[.int .i64 y, .int .i64 m, .int .i64 (d + 1), .int .i64 0, .int .i64 0, .int .i64 ((k + 1) % 7)] 23)).alloc (.cells #[.int .i64 (y + 1), .int .i64 1, .int .i64 1, .int .i64 0, .int .i64 0, .int .i64 ((k + 1) % 7)] 23)).drewN nq := ⟨_, rfl⟩
  have f0 : ∀ j, j < 6 → W.frozen? ⟨w.heap.size, j, none⟩ = false := by intro j hj; rw [hW]; simp [go_sem]
  have b0 : Hid (Below w.heap.size w W) := by rw [hW]; exact below_drewN (((Below.refl _ _).alloc (Nat.le_refl _) _).alloc (by simp) _) _
  have D0 : DateAt W w.heap.size y m (d + 1) 0 0 ((k + 1) % 7) := by rw [hW]; simp [DateAt, go_sem]
  have E0 : DateAt W (w.heap.size + 1) (y + 1) 1 1 0 0 ((k + 1) % 7) := by rw [hW]; simp [DateAt, go_sem]
  rw [← hW]
  clear hW
  have g0 := f0 0 (by decide)
  have g1 := f0 1 (by decide)
  have g2 := f0 2 (by decide)
  clear f0
  obtain ⟨c0, c1, c2, c3, c4, c5⟩ := D0
  obtain ⟨e0, e1, e2, e3, e4, e5⟩ := E0
  have q1 : (((W.setCell ⟨w.heap.size, 2, none⟩ (.int .i64 1)).setCell ⟨w.heap.size, 1, none⟩ (.int .i64 (m + 1))).setCell ⟨w.heap.size, 1, none⟩ (.int .i64 1)).cell? ⟨w.heap.size, 1, none⟩ = some (.int .i64 1) :=
    World.cell?_setCell_same' _ _ _ (by rw [World.cell?_setCell_same' _ _ _ (by rw [World.cell?_setCell_other _ _ _ _ (by simp), c1]; rfl)]; rfl)
  go_wp2_with fail
  go_ret
  exact ⟨rfl, by repeat (first | exact b0.out | refine Below.setCell ?_ (by simp) _)⟩

theorem follows_any (at' y m d y' m' d' : Int) (w : World) (h0 : 0 ≤ at') (HA : Cal.IsD (at' / 1440) y m d) (HB : Cal.IsD ((at' + 1) / 1440) y' m' d') :
    Calls Tryd.prog 19 #[dateV y m d (at' % 1440 / 60) (at' % 60) ((at' / 1440 + 4) % 7), dateV y' m' d' ((at' + 1) % 1440 / 60) ((at' + 1) % 60) (((at' + 1) / 1440 + 4) % 7)] w fun e w' => e = .returned (.bool true) ∧ Below w.heap.size w w' := by
  by_cases hc : at' % 60 < 59
  · have e1 : (at' + 1) / 1440 = at' / 1440 := by omega
    have e2 : (at' + 1) % 1440 / 60 = at' % 1440 / 60 := by omega
    have e3 : (at' + 1) % 60 = at' % 60 + 1 := by omega
    rw [e1] at HB
    obtain ⟨rfl, rfl, rfl⟩ := HA.uniq HB
    rw [e1, e2, e3]
    exact follows_a _ _ _ _ _ _ w HA.y1 HA.y2 HA.m1 HA.m2 HA.d1 HA.d2 (by omega) (by omega) (by omega) (by omega) (by omega) (by omega) hc
  by_cases hd : at' % 1440 / 60 < 23
  · have e1 : (at' + 1) / 1440 = at' / 1440 := by omega
    have e2 : (at' + 1) % 1440 / 60 = at' % 1440 / 60 + 1 := by omega
    have e3 : (at' + 1) % 60 = 0 := by omega
    rw [e1] at HB
    obtain ⟨rfl, rfl, rfl⟩ := HA.uniq HB
    rw [e1, e2, e3]
    exact follows_b _ _ _ _ _ _ w HA.y1 HA.y2 HA.m1 HA.m2 HA.d1 HA.d2 (by omega) (by omega) (by omega) (by omega) (by omega) (by omega) (by omega) hd
  have e1 : (at' + 1) / 1440 = at' / 1440 + 1 := by omega
  have e2 : (at' + 1) % 1440 / 60 = 0 := by omega
  have e3 : (at' + 1) % 60 = 0 := by omega
  have e4 : (at' / 1440 + 1 + 4) % 7 = ((at' / 1440 + 4) % 7 + 1) % 7 := by omega
  rw [e1] at HB
  have an := HA.num
  have bb := HB.bd
  by_cases he : d < Cal.dim y m
  · have HC : Cal.IsD (at' / 1440 + 1) y m (d + 1) := ⟨HA.y1, HA.y2, HA.m1, HA.m2, by have := HA.d1; omega, by omega, by omega⟩
    obtain ⟨rfl, rfl, rfl⟩ := HC.uniq HB
    rw [e1, e2, e3, e4]
    exact follows_c _ _ _ _ _ _ w HA.y1 HA.y2 HA.m1 HA.m2 HA.d1 HA.d2 (by omega) (by omega) (by omega) (by omega) (by omega) (by omega) (by omega) (by omega) he
  have hd' : d = Cal.dim y m := by have := HA.d2; omega
  have hs := Cal.cum_succ y m HA.m1 HA.m2
  by_cases hf : m < 12
  · have hl := Cal.dim_lo y (m + 1)
    have HC : Cal.IsD (at' / 1440 + 1) y (m + 1) 1 := ⟨HA.y1, HA.y2, by have := HA.m1; omega, by omega, by omega, by omega, by rw [hs]; omega⟩
    obtain ⟨rfl, rfl, rfl⟩ := HC.uniq HB
    rw [e1, e2, e3, e4]
    exact follows_d _ _ _ _ _ _ w HA.y1 HA.y2 HA.m1 HA.m2 HA.d1 HA.d2 (by omega) (by omega) (by omega) (by omega) (by omega) (by omega) (by omega) (by omega) hd' hf
  · have hm : m = 12 := by have := HA.m2; omega
    have hy : y + 1 ≤ 9999 := by
      by_cases e : y = 9999
      · subst e; subst hm
        have a1 := Cal.dby_succ 9999
        have a2 : Cal.dby (9999 + 1) = 2932897 := Cal.dby_10000
        have a3 : Cal.cum 9999 (12 + 1) = 365 + Cal.lp 9999 := Cal.cum_13 9999
        omega
      · have := HA.y2; omega
    have hl := Cal.dim_lo (y + 1) 1
    have hds := Cal.dby_succ y
    have h13 : Cal.cum y (m + 1) = 365 + Cal.lp y := by rw [hm]; exact Cal.cum_13 y
    have h1 := Cal.cum_1 (y + 1)
    have HC : Cal.IsD (at' / 1440 + 1) (y + 1) 1 1 := ⟨by have := HA.y1; omega, hy, by omega, by omega, by omega, by omega, by rw [h1, hds]; omega⟩
    obtain ⟨rfl, rfl, rfl⟩ := HC.uniq HB
    rw [e1, e2, e3, e4]
    exact follows_e _ _ _ _ _ _ w HA.y1 HA.y2 HA.m1 HA.m2 HA.d1 HA.d2 (by omega) (by omega) (by omega) (by omega) (by omega) (by omega) (by omega) (by omega) hd' (by omega)

theorem cal_first : Cal.IsD (0 / 1440) 1970 1 1 := ⟨by omega, by omega, by omega, by omega, by omega, by decide, by decide⟩
theorem num_at {a y m d : Int} (_h0 : 0 ≤ a) (H : Cal.IsD (a / 1440) y m d) : Cal.vldB y m d (a % 1440 / 60) (a % 60) = true ∧ Cal.num y m d (a % 1440 / 60) (a % 60) = a := by
  have n := H.num
  refine ⟨Cal.vld_mk ⟨H.y1, H.y2, H.m1, H.m2, H.d1, H.d2, by omega, by omega, by omega, by omega⟩, ?_⟩
  unfold Cal.num; rw [n]; omega

/-- Date of 0, whole. -/
theorem date_zero (w : World) (hT : Tab w) :
    Calls Tryd.prog 9 #[.int .i64 0] w fun e w' => e = .returned (.tuple #[dateV 1970 1 1 0 0 4, .int .i64 0]) ∧ Below w.heap.size w w' := by
  refine (date_yes 0 w hT (by omega) (by omega)).mono ?_
  rintro e w' ⟨⟨y, mo, d, H, rfl⟩, hb⟩
  obtain ⟨rfl, rfl, rfl⟩ := H.uniq cal_first
  exact ⟨rfl, hb⟩
theorem minute_at (a y m d k : Int) (w : World) (hT : Tab w) (h0 : 0 ≤ a) (H : Cal.IsD (a / 1440) y m d) :
    Calls Tryd.prog 12 #[dateV y m d (a % 1440 / 60) (a % 60) k] w fun e w' => e = .returned (.tuple #[.int .i64 a, .int .i64 0]) ∧ Below w.heap.size w w' := by
  obtain ⟨v, e⟩ := num_at h0 H
  refine (minute_yes y m d _ _ k w hT v).mono ?_
  rintro r w' ⟨rfl, hb⟩
  exact ⟨by rw [e], hb⟩

set_option maxHeartbeats 1000000 in
theorem calendar_any (c : Int) (w : World) (hT : Tab w) (c1 : -9223372036854775808 ≤ c) (c2 : c ≤ 9223372036854775807) :
    Calls Tryd.prog 5 #[.int .i64 c] w fun e w' => e = .returned (.bool true) ∧ Below w.heap.size w w' := by
  have HT : Hid (Tab w) := hT
  clear hT
  go_enter Tryd.func5, Tryd.ntmps5
  go_wp2_with (go_at_call 9; refine (date_zero _ HT.out).mono ?_; rintro e w1 ⟨rfl, hb1⟩; have HT1 : Hid (∀ o, Tab (w1.alloc o)) := fun o => (HT.out.later hb1).alloc o; clear HT; have hz1 : w.heap.size ≤ w1.heap.size := hb1.size)
  refine (pick_any _ _ _ c1 c2 (by omega) (by omega)).mono ?_
  rintro e w' ⟨⟨a, a1, a2, rfl⟩, rfl⟩
  clear c1 c2
  go_wp2_with fail
  refine (date_yes _ _ (HT1.out _) a1 (by omega)).mono ?_
  rintro e w2 ⟨⟨y, m, d, HA, rfl⟩, hb2⟩
  have HT2 : Hid (∀ o, Tab (w2.alloc o)) := fun o => ((HT1.out _).later hb2).alloc o
  have hz2 : w1.heap.size < w2.heap.size := by have := hb2.size; simp at this; omega
  clear HT1
  go_wp2_with fail
  refine (date_yes _ _ (HT2.out _) (by omega) (by omega)).mono ?_
  rintro e w3 ⟨⟨y', m', d', HB, rfl⟩, hb3⟩
  have HT3 : Hid (∀ o, Tab (w3.alloc o)) := fun o => ((HT2.out _).later hb3).alloc o
  have hz3 : w2.heap.size < w3.heap.size := by have := hb3.size; simp at this; omega
  have D3 : DateAt w3 w2.heap.size y m d (a % 1440 / 60) (a % 60) ((a / 1440 + 4) % 7) := (DateAt.new w2 _ _ _ _ _ _ _).later hb3
  have E3 : Hid (∀ o, DateAt (w3.alloc o) w2.heap.size y m d (a % 1440 / 60) (a % 60) ((a / 1440 + 4) % 7)) := fun o => D3.later (below_alloc _ _)
  obtain ⟨p0, p1, p2, p3, p4, p5⟩ := D3
  have hm1 := HA.m1
  have hm2 := HA.m2
  clear HT2
  go_wp2_with fail
  refine (minute_at a y m d _ _ (HT3.out _) a1 HA).mono ?_
  rintro e w4 ⟨rfl, hb4⟩
  have HT4 : Hid (Tab w4) := (HT3.out _).later hb4
  have D4 : DateAt w4 w2.heap.size y m d (a % 1440 / 60) (a % 60) ((a / 1440 + 4) % 7) := (E3.out _).later hb4
  have F4 : DateAt w4 w3.heap.size y' m' d' ((a + 1) % 1440 / 60) ((a + 1) % 60) (((a + 1) / 1440 + 4) % 7) := (DateAt.new w3 _ _ _ _ _ _ _).later hb4
  have D4' : Hid (DateAt w4 w2.heap.size y m d (a % 1440 / 60) (a % 60) ((a / 1440 + 4) % 7)) := D4
  have F4' : Hid (DateAt w4 w3.heap.size y' m' d' ((a + 1) % 1440 / 60) ((a + 1) % 60) (((a + 1) / 1440 + 4) % 7)) := F4
  clear HT3 E3 p0 p1 p2 p3 p4 p5
  obtain ⟨p0, p1, p2, p3, p4, p5⟩ := D4
  obtain ⟨q0, q1, q2, q3, q4, q5⟩ := F4
  go_wp2_with fail
  refine (minute_at (a + 1) y' m' d' _ _ HT4.out (by omega) HB).mono ?_
  rintro e w5 ⟨rfl, hb5⟩
  clear p0 p1 p2 p3 p4 p5 q0 q1 q2 q3 q4 q5
  obtain ⟨p0, p1, p2, p3, p4, p5⟩ := D4'.out.later hb5
  obtain ⟨q0, q1, q2, q3, q4, q5⟩ := F4'.out.later hb5
  go_wp2_with fail
  refine (follows_any a y m d y' m' d' _ a1 HA HB).mono ?_
  rintro e w6 ⟨rfl, hb6⟩
  clear p0 p1 p2 p3 p4 p5 q0 q1 q2 q3 q4 q5
  go_wp2_with fail
  go_ret
  have s4 := hb4.size
  have s5 := hb5.size
  simp at s4
  exact ⟨rfl, ((((((hb1.trans ((below_alloc w1 _).mono hz1)).trans (hb2.mono (by simp; omega))).trans ((below_alloc w2 _).mono (by omega))).trans (hb3.mono (by simp; omega))).trans ((below_alloc w3 _).mono (by omega))).trans (hb4.mono (by simp; omega))).trans ((hb5.mono (by omega)).trans (hb6.mono (by omega)))⟩
end Go.Proofs.YtdajolpoiffimaaDoor
