/-
  The walk over the statement Dates.
-/
import Derived.Test.YtdajolpoiffimaaDoorRCal
import Derived.Test.YtdajolpoiffimaaDoorRefMin
import Derived.Test.YtdajolpoiffimaaDoorRBase
namespace Go.Proofs.YtdajolpoiffimaaDoor
open Go.RowKit

set_option maxHeartbeats 400000 in
theorem num_any (e : Int) (w : World) :
    Calls Tryd.prog 11 #[.int .i64 e] w fun r w' => r = .returned (.int .i64 e) ∧ w' = w := by
  go_enter Tryd.func11, Tryd.ntmps11
  go_wp2
  go_ret
  exact ⟨rfl, rfl⟩

set_option maxHeartbeats 1000000 in
theorem dates_a (n y m d h i k : Int) (w : World) (hT : Tab w) (hn : n < 0 ∨ 4223371679 < n) (hv : Cal.vldB y m d h i = true) :
    Calls Tryd.prog 3 #[.int .i64 n, dateV y m d h i k] w fun e w' => e = .returned (.bool true) ∧ Below w.heap.size w w' := by
  have HT : Hid (∀ o, Tab (w.alloc o)) := fun o => hT.alloc o
  have HN : Hid (n < 0 ∨ 4223371679 < n) := hn
  have HV : Hid (Cal.vldB y m d h i = true) := hv
  have D0 : Hid (DateAt _ w.heap.size y m d h i k) := DateAt.new w y m d h i k 23
  clear hT hn hv
  go_enter Tryd.func3, Tryd.ntmps3
  go_wp2_with (first | (go_at_call 9; refine (date_no _ _ HN.out).mono ?_; rintro e w1 ⟨rfl, hb1⟩; have HT1 : Hid (∀ o, Tab (w1.alloc o)) := fun o => ((HT.out _).later hb1).alloc o; have D1 : Hid (∀ o, DateAt (w1.alloc o) w.heap.size y m d h i k) := fun o => (D0.out.later hb1).later (below_alloc _ _); clear HT D0; have hz1 : w.heap.size < w1.heap.size := (by have := hb1.size; simp at this; omega)) | (go_at_call 10; refine (rdate_no _ _ HN.out).mono ?_; rintro e w2 ⟨rfl, hb2⟩; have HT2 : Hid (∀ o, Tab (w2.alloc o)) := fun o => ((HT1.out _).later hb2).alloc o; have D2 : Hid (∀ o, DateAt (w2.alloc o) w.heap.size y m d h i k) := fun o => ((D1.out _).later hb2).later (below_alloc _ _); obtain ⟨p0, p1, p2, p3, p4, p5⟩ := (DateAt.new w1 _ _ _ _ _ _ _).later hb2; obtain ⟨q0, q1, q2, q3, q4, q5⟩ := (D1.out _).later hb2; clear HT1 D1; have hz2 : w1.heap.size < w2.heap.size := (by have := hb2.size; simp at this; omega); have hz02 : w.heap.size < w2.heap.size := (by omega)) | (go_at_call 11; refine (num_any _ _).mono ?_; rintro e w' ⟨rfl, rfl⟩) | (go_at_call 12; refine (minute_yes _ _ _ _ _ _ _ (HT2.out _) HV.out).mono ?_; rintro e w3 ⟨rfl, hb3⟩; obtain ⟨r0, r1, r2, r3, r4, r5⟩ := (D2.out _).later hb3) | (go_at_call 13; refine (rminute_yes _ _ _ _ _ _ _ HV.out).mono ?_; rintro e w4 ⟨rfl, hb4⟩))
  go_ret
  exact ⟨rfl, (((((below_alloc w _).trans (hb1.mono (by simp))).trans ((below_alloc w1 _).mono (by omega))).trans (hb2.mono (by simp; omega))).trans ((below_alloc w2 _).mono (by omega))).trans ((hb3.mono (by simp; omega)).trans (hb4.mono (by have := hb3.size; simp at this; omega)))⟩

set_option maxHeartbeats 1000000 in
theorem dates_b (n y m d h i k : Int) (w : World) (hT : Tab w) (hn : n < 0 ∨ 4223371679 < n) (hv : Cal.vldB y m d h i = false) :
    Calls Tryd.prog 3 #[.int .i64 n, dateV y m d h i k] w fun e w' => e = .returned (.bool true) ∧ Below w.heap.size w w' := by
  have HT : Hid (∀ o, Tab (w.alloc o)) := fun o => hT.alloc o
  have HN : Hid (n < 0 ∨ 4223371679 < n) := hn
  have HV : Hid (Cal.vldB y m d h i = false) := hv
  have D0 : Hid (DateAt _ w.heap.size y m d h i k) := DateAt.new w y m d h i k 23
  clear hT hn hv
  go_enter Tryd.func3, Tryd.ntmps3
  go_wp2_with (first | (go_at_call 9; refine (date_no _ _ HN.out).mono ?_; rintro e w1 ⟨rfl, hb1⟩; have HT1 : Hid (∀ o, Tab (w1.alloc o)) := fun o => ((HT.out _).later hb1).alloc o; have D1 : Hid (∀ o, DateAt (w1.alloc o) w.heap.size y m d h i k) := fun o => (D0.out.later hb1).later (below_alloc _ _); clear HT D0; have hz1 : w.heap.size < w1.heap.size := (by have := hb1.size; simp at this; omega)) | (go_at_call 10; refine (rdate_no _ _ HN.out).mono ?_; rintro e w2 ⟨rfl, hb2⟩; have HT2 : Hid (∀ o, Tab (w2.alloc o)) := fun o => ((HT1.out _).later hb2).alloc o; have D2 : Hid (∀ o, DateAt (w2.alloc o) w.heap.size y m d h i k) := fun o => ((D1.out _).later hb2).later (below_alloc _ _); obtain ⟨p0, p1, p2, p3, p4, p5⟩ := (DateAt.new w1 _ _ _ _ _ _ _).later hb2; obtain ⟨q0, q1, q2, q3, q4, q5⟩ := (D1.out _).later hb2; clear HT1 D1; have hz2 : w1.heap.size < w2.heap.size := (by have := hb2.size; simp at this; omega); have hz02 : w.heap.size < w2.heap.size := (by omega)) | (go_at_call 11; refine (num_any _ _).mono ?_; rintro e w' ⟨rfl, rfl⟩) | (go_at_call 12; refine (minute_no _ _ _ _ _ _ _ (HT2.out _) HV.out).mono ?_; rintro e w3 ⟨rfl, hb3⟩; obtain ⟨r0, r1, r2, r3, r4, r5⟩ := (D2.out _).later hb3) | (go_at_call 13; refine (rminute_no _ _ _ _ _ _ _ HV.out).mono ?_; rintro e w4 ⟨rfl, hb4⟩))
  go_ret
  exact ⟨rfl, (((((below_alloc w _).trans (hb1.mono (by simp))).trans ((below_alloc w1 _).mono (by omega))).trans (hb2.mono (by simp; omega))).trans ((below_alloc w2 _).mono (by omega))).trans ((hb3.mono (by simp; omega)).trans (hb4.mono (by have := hb3.size; simp at this; omega)))⟩

set_option maxHeartbeats 1000000 in
theorem dates_c (n y m d h i k : Int) (w : World) (hT : Tab w) (hn : 0 ≤ n) (hx : n ≤ 4223371679) (hv : Cal.vldB y m d h i = true) :
    Calls Tryd.prog 3 #[.int .i64 n, dateV y m d h i k] w fun e w' => e = .returned (.bool true) ∧ Below w.heap.size w w' := by
  have HT : Hid (∀ o, Tab (w.alloc o)) := fun o => hT.alloc o
  have HV : Hid (Cal.vldB y m d h i = true) := hv
  have D0 : Hid (DateAt _ w.heap.size y m d h i k) := DateAt.new w y m d h i k 23
  clear hT hv
  go_enter Tryd.func3, Tryd.ntmps3
  go_wp2_with (first | (go_at_call 9; refine (date_yes _ _ (HT.out _) hn hx).mono ?_; rintro e w1 ⟨⟨ya, ma, da, HA, rfl⟩, hb1⟩; have HT1 : Hid (∀ o, Tab (w1.alloc o)) := fun o => ((HT.out _).later hb1).alloc o; have D1 : Hid (∀ o, DateAt (w1.alloc o) w.heap.size y m d h i k) := fun o => (D0.out.later hb1).later (below_alloc _ _); clear HT D0; have hz1 : w.heap.size < w1.heap.size := (by have := hb1.size; simp at this; omega)) | (go_at_call 10; refine (rdate_yes _ _ hn hx).mono ?_; rintro e w2 ⟨⟨yb, mb, db, HB, rfl⟩, hb2⟩; obtain ⟨rfl, rfl, rfl⟩ := HA.uniq HB; clear HA HB; have HT2 : Hid (∀ o, Tab (w2.alloc o)) := fun o => ((HT1.out _).later hb2).alloc o; have D2 : Hid (∀ o, DateAt (w2.alloc o) w.heap.size y m d h i k) := fun o => ((D1.out _).later hb2).later (below_alloc _ _); obtain ⟨p0, p1, p2, p3, p4, p5⟩ := (DateAt.new w1 _ _ _ _ _ _ _).later hb2; obtain ⟨q0, q1, q2, q3, q4, q5⟩ := (D1.out _).later hb2; clear HT1 D1; have hz2 : w1.heap.size < w2.heap.size := (by have := hb2.size; simp at this; omega); have hz02 : w.heap.size < w2.heap.size := (by omega)) | (go_at_call 11; refine (num_any _ _).mono ?_; rintro e w' ⟨rfl, rfl⟩) | (go_at_call 12; refine (minute_yes _ _ _ _ _ _ _ (HT2.out _) HV.out).mono ?_; rintro e w3 ⟨rfl, hb3⟩; obtain ⟨r0, r1, r2, r3, r4, r5⟩ := (D2.out _).later hb3) | (go_at_call 13; refine (rminute_yes _ _ _ _ _ _ _ HV.out).mono ?_; rintro e w4 ⟨rfl, hb4⟩))
  go_ret
  exact ⟨rfl, (((((below_alloc w _).trans (hb1.mono (by simp))).trans ((below_alloc w1 _).mono (by omega))).trans (hb2.mono (by simp; omega))).trans ((below_alloc w2 _).mono (by omega))).trans ((hb3.mono (by simp; omega)).trans (hb4.mono (by have := hb3.size; simp at this; omega)))⟩

set_option maxHeartbeats 1000000 in
theorem dates_d (n y m d h i k : Int) (w : World) (hT : Tab w) (hn : 0 ≤ n) (hx : n ≤ 4223371679) (hv : Cal.vldB y m d h i = false) :
    Calls Tryd.prog 3 #[.int .i64 n, dateV y m d h i k] w fun e w' => e = .returned (.bool true) ∧ Below w.heap.size w w' := by
  have HT : Hid (∀ o, Tab (w.alloc o)) := fun o => hT.alloc o
  have HV : Hid (Cal.vldB y m d h i = false) := hv
  have D0 : Hid (DateAt _ w.heap.size y m d h i k) := DateAt.new w y m d h i k 23
  clear hT hv
  go_enter Tryd.func3, Tryd.ntmps3
  go_wp2_with (first | (go_at_call 9; refine (date_yes _ _ (HT.out _) hn hx).mono ?_; rintro e w1 ⟨⟨ya, ma, da, HA, rfl⟩, hb1⟩; have HT1 : Hid (∀ o, Tab (w1.alloc o)) := fun o => ((HT.out _).later hb1).alloc o; have D1 : Hid (∀ o, DateAt (w1.alloc o) w.heap.size y m d h i k) := fun o => (D0.out.later hb1).later (below_alloc _ _); clear HT D0; have hz1 : w.heap.size < w1.heap.size := (by have := hb1.size; simp at this; omega)) | (go_at_call 10; refine (rdate_yes _ _ hn hx).mono ?_; rintro e w2 ⟨⟨yb, mb, db, HB, rfl⟩, hb2⟩; obtain ⟨rfl, rfl, rfl⟩ := HA.uniq HB; clear HA HB; have HT2 : Hid (∀ o, Tab (w2.alloc o)) := fun o => ((HT1.out _).later hb2).alloc o; have D2 : Hid (∀ o, DateAt (w2.alloc o) w.heap.size y m d h i k) := fun o => ((D1.out _).later hb2).later (below_alloc _ _); obtain ⟨p0, p1, p2, p3, p4, p5⟩ := (DateAt.new w1 _ _ _ _ _ _ _).later hb2; obtain ⟨q0, q1, q2, q3, q4, q5⟩ := (D1.out _).later hb2; clear HT1 D1; have hz2 : w1.heap.size < w2.heap.size := (by have := hb2.size; simp at this; omega); have hz02 : w.heap.size < w2.heap.size := (by omega)) | (go_at_call 11; refine (num_any _ _).mono ?_; rintro e w' ⟨rfl, rfl⟩) | (go_at_call 12; refine (minute_no _ _ _ _ _ _ _ (HT2.out _) HV.out).mono ?_; rintro e w3 ⟨rfl, hb3⟩; obtain ⟨r0, r1, r2, r3, r4, r5⟩ := (D2.out _).later hb3) | (go_at_call 13; refine (rminute_no _ _ _ _ _ _ _ HV.out).mono ?_; rintro e w4 ⟨rfl, hb4⟩))
  go_ret
  exact ⟨rfl, (((((below_alloc w _).trans (hb1.mono (by simp))).trans ((below_alloc w1 _).mono (by omega))).trans (hb2.mono (by simp; omega))).trans ((below_alloc w2 _).mono (by omega))).trans ((hb3.mono (by simp; omega)).trans (hb4.mono (by have := hb3.size; simp at this; omega)))⟩

theorem dates_any (n y m d h i k : Int) (w : World) (hT : Tab w) :
    Calls Tryd.prog 3 #[.int .i64 n, dateV y m d h i k] w fun e w' => e = .returned (.bool true) ∧ Below w.heap.size w w' := by
  by_cases a : n < 0 ∨ 4223371679 < n
  · cases v : Cal.vldB y m d h i
    · exact dates_b n y m d h i k w hT a v
    · exact dates_a n y m d h i k w hT a v
  · cases v : Cal.vldB y m d h i
    · exact dates_d n y m d h i k w hT (by omega) (by omega) v
    · exact dates_c n y m d h i k w hT (by omega) (by omega) v
end Go.Proofs.YtdajolpoiffimaaDoor
