/-
  The walk over the statement Dates.
-/
import Derived.Test.YtmbginojgenbeaaDoorRefDay
import Derived.Test.YtmbginojgenbeaaDoorRefMin
namespace Go.Proofs.YtmbginojgenbeaaDoor
open Go.RowKit

set_option maxHeartbeats 400000 in
theorem num_any (e : Int) (w : World) :
    Calls Tryd.prog 8 #[.int .i64 e] w fun r w' => r = .returned (.int .i64 e) ∧ w' = w := by
  go_enter Tryd.func8, Tryd.ntmps8
  go_wp2
  go_ret
  exact ⟨rfl, rfl⟩

/-- A date lies in a block of its own. -/
def DateAt (w : World) (b : Nat) (y m d h i k : Int) : Prop :=
  w.cell? ⟨b, 0, none⟩ = some (.int .i64 y) ∧ w.cell? ⟨b, 1, none⟩ = some (.int .i64 m) ∧ w.cell? ⟨b, 2, none⟩ = some (.int .i64 d) ∧
  w.cell? ⟨b, 3, none⟩ = some (.int .i64 h) ∧ w.cell? ⟨b, 4, none⟩ = some (.int .i64 i) ∧ w.cell? ⟨b, 5, none⟩ = some (.int .i64 k)
theorem DateAt.later {w w' : World} {b : Nat} {y m d h i k : Int} (a : DateAt w b y m d h i k) (hb : Below w.heap.size w w') : DateAt w' b y m d h i k :=
  ⟨cell_later hb a.1, cell_later hb a.2.1, cell_later hb a.2.2.1, cell_later hb a.2.2.2.1, cell_later hb a.2.2.2.2.1, cell_later hb a.2.2.2.2.2⟩
theorem DateAt.new (w : World) (y m d h i k : Int) (t : TypeId) : DateAt (w.alloc (.cells #[.int .i64 y, .int .i64 m, .int .i64 d, .int .i64 h, .int .i64 i, .int .i64 k] t)) w.heap.size y m d h i k := by
  simp [DateAt, go_sem]
theorem below_alloc (w : World) (o : Obj) : Below w.heap.size w (w.alloc o) := (Below.refl _ _).alloc (Nat.le_refl _) _

set_option maxHeartbeats 1000000 in
theorem dates_a (n y m d h i k : Int) (w : World) (hT : Tab w) (hn : n < 0 ∨ 4223371679 < n) (hv : Cal.vldB y m d h i = true) :
    Calls Tryd.prog 3 #[.int .i64 n, dateV y m d h i k] w fun e w' => e = .returned (.bool true) ∧ Below w.heap.size w w' := by
  have HT : Hid (∀ o, Tab (w.alloc o)) := fun o => hT.alloc o
  have HN : Hid (n < 0 ∨ 4223371679 < n) := hn
  have HV : Hid (Cal.vldB y m d h i = true) := hv
  have D0 : Hid (DateAt _ w.heap.size y m d h i k) := DateAt.new w y m d h i k 23
  clear hT hn hv
  go_enter Tryd.func3, Tryd.ntmps3
  go_wp2_with (first | (go_at_call 6; refine (date_no _ _ HN.out).mono ?_; rintro e w1 ⟨rfl, hb1⟩; have HT1 : Hid (∀ o, Tab (w1.alloc o)) := fun o => ((HT.out _).later hb1).alloc o; have D1 : Hid (∀ o, DateAt (w1.alloc o) w.heap.size y m d h i k) := fun o => (D0.out.later hb1).later (below_alloc _ _); clear HT D0; have hz1 : w.heap.size < w1.heap.size := (by have := hb1.size; simp at this; omega)) | (go_at_call 7; refine (rdate_no _ _ HN.out).mono ?_; rintro e w2 ⟨rfl, hb2⟩; have HT2 : Hid (∀ o, Tab (w2.alloc o)) := fun o => ((HT1.out _).later hb2).alloc o; have D2 : Hid (∀ o, DateAt (w2.alloc o) w.heap.size y m d h i k) := fun o => ((D1.out _).later hb2).later (below_alloc _ _); obtain ⟨p0, p1, p2, p3, p4, p5⟩ := (DateAt.new w1 _ _ _ _ _ _ _).later hb2; obtain ⟨q0, q1, q2, q3, q4, q5⟩ := (D1.out _).later hb2; clear HT1 D1; have hz2 : w1.heap.size < w2.heap.size := (by have := hb2.size; simp at this; omega); have hz02 : w.heap.size < w2.heap.size := (by omega)) | (go_at_call 8; refine (num_any _ _).mono ?_; rintro e w' ⟨rfl, rfl⟩) | (go_at_call 9; refine (minute_yes _ _ _ _ _ _ _ (HT2.out _) HV.out).mono ?_; rintro e w3 ⟨rfl, hb3⟩; obtain ⟨r0, r1, r2, r3, r4, r5⟩ := (D2.out _).later hb3) | (go_at_call 10; refine (rminute_yes _ _ _ _ _ _ _ HV.out).mono ?_; rintro e w4 ⟨rfl, hb4⟩))
  go_ret
  exact ⟨rfl, (((((below_alloc w _).trans (hb1.mono (by simp))).trans ((below_alloc w1 _).mono (by omega))).trans (hb2.mono (by simp; omega))).trans ((below_alloc w2 _).mono (by omega))).trans ((hb3.mono (by simp; omega)).trans (hb4.mono (by have := hb3.size; simp at this; omega)))⟩

set_option maxHeartbeats 1000000 in
theorem dates_b (n y m d h i k : Int) (w : World) (hT : Tab w) (hn : n < 0 ∨ 4223371679 < n) (hv : Cal.vldB y m d h i = false) :
    Calls Tryd.prog 3 #[.int .i64 n, dateV y m d h i k] w fun e w' => e = .returned (.bool true) ∧ Below w.heap.size w w' := by
  have HT : Hid (∀ o, Tab (w.alloc o)) := fun o => hT.alloc o
  have HN : Hid (n < 0 ∨ 4223371679 < n) := hn
  have HV : Hid (Cal.vldB y m d h i = false) := hv
  have D0 : Hid (DateAt _ w.heap.size y m d h i k) := DateAt.new w y m d h i k 23
  clear hT hn hv
  go_enter Tryd.func3, Tryd.ntmps3
  go_wp2_with (first | (go_at_call 6; refine (date_no _ _ HN.out).mono ?_; rintro e w1 ⟨rfl, hb1⟩; have HT1 : Hid (∀ o, Tab (w1.alloc o)) := fun o => ((HT.out _).later hb1).alloc o; have D1 : Hid (∀ o, DateAt (w1.alloc o) w.heap.size y m d h i k) := fun o => (D0.out.later hb1).later (below_alloc _ _); clear HT D0; have hz1 : w.heap.size < w1.heap.size := (by have := hb1.size; simp at this; omega)) | (go_at_call 7; refine (rdate_no _ _ HN.out).mono ?_; rintro e w2 ⟨rfl, hb2⟩; have HT2 : Hid (∀ o, Tab (w2.alloc o)) := fun o => ((HT1.out _).later hb2).alloc o; have D2 : Hid (∀ o, DateAt (w2.alloc o) w.heap.size y m d h i k) := fun o => ((D1.out _).later hb2).later (below_alloc _ _); obtain ⟨p0, p1, p2, p3, p4, p5⟩ := (DateAt.new w1 _ _ _ _ _ _ _).later hb2; obtain ⟨q0, q1, q2, q3, q4, q5⟩ := (D1.out _).later hb2; clear HT1 D1; have hz2 : w1.heap.size < w2.heap.size := (by have := hb2.size; simp at this; omega); have hz02 : w.heap.size < w2.heap.size := (by omega)) | (go_at_call 8; refine (num_any _ _).mono ?_; rintro e w' ⟨rfl, rfl⟩) | (go_at_call 9; refine (minute_no _ _ _ _ _ _ _ (HT2.out _) HV.out).mono ?_; rintro e w3 ⟨rfl, hb3⟩; obtain ⟨r0, r1, r2, r3, r4, r5⟩ := (D2.out _).later hb3) | (go_at_call 10; refine (rminute_no _ _ _ _ _ _ _ HV.out).mono ?_; rintro e w4 ⟨rfl, hb4⟩))
  go_ret
  exact ⟨rfl, (((((below_alloc w _).trans (hb1.mono (by simp))).trans ((below_alloc w1 _).mono (by omega))).trans (hb2.mono (by simp; omega))).trans ((below_alloc w2 _).mono (by omega))).trans ((hb3.mono (by simp; omega)).trans (hb4.mono (by have := hb3.size; simp at this; omega)))⟩

set_option maxHeartbeats 1000000 in
theorem dates_c (n y m d h i k : Int) (w : World) (hT : Tab w) (hn : 0 ≤ n) (hx : n ≤ 4223371679) (hv : Cal.vldB y m d h i = true) :
    Calls Tryd.prog 3 #[.int .i64 n, dateV y m d h i k] w fun e w' => e = .returned (.bool true) ∧ Below w.heap.size w w' := by
  have HT : Hid (∀ o, Tab (w.alloc o)) := fun o => hT.alloc o
  have HV : Hid (Cal.vldB y m d h i = true) := hv
  have D0 : Hid (DateAt _ w.heap.size y m d h i k) := DateAt.new w y m d h i k 23
  clear hT hv
  go_enter Tryd.func3, Tryd.ntmps3
  go_wp2_with (first | (go_at_call 6; refine (date_yes _ _ (HT.out _) hn hx).mono ?_; rintro e w1 ⟨⟨ya, ma, da, HA, rfl⟩, hb1⟩; have HT1 : Hid (∀ o, Tab (w1.alloc o)) := fun o => ((HT.out _).later hb1).alloc o; have D1 : Hid (∀ o, DateAt (w1.alloc o) w.heap.size y m d h i k) := fun o => (D0.out.later hb1).later (below_alloc _ _); clear HT D0; have hz1 : w.heap.size < w1.heap.size := (by have := hb1.size; simp at this; omega)) | (go_at_call 7; refine (rdate_yes _ _ hn hx).mono ?_; rintro e w2 ⟨⟨yb, mb, db, HB, rfl⟩, hb2⟩; obtain ⟨rfl, rfl, rfl⟩ := HA.uniq HB; clear HA HB; have HT2 : Hid (∀ o, Tab (w2.alloc o)) := fun o => ((HT1.out _).later hb2).alloc o; have D2 : Hid (∀ o, DateAt (w2.alloc o) w.heap.size y m d h i k) := fun o => ((D1.out _).later hb2).later (below_alloc _ _); obtain ⟨p0, p1, p2, p3, p4, p5⟩ := (DateAt.new w1 _ _ _ _ _ _ _).later hb2; obtain ⟨q0, q1, q2, q3, q4, q5⟩ := (D1.out _).later hb2; clear HT1 D1; have hz2 : w1.heap.size < w2.heap.size := (by have := hb2.size; simp at this; omega); have hz02 : w.heap.size < w2.heap.size := (by omega)) | (go_at_call 8; refine (num_any _ _).mono ?_; rintro e w' ⟨rfl, rfl⟩) | (go_at_call 9; refine (minute_yes _ _ _ _ _ _ _ (HT2.out _) HV.out).mono ?_; rintro e w3 ⟨rfl, hb3⟩; obtain ⟨r0, r1, r2, r3, r4, r5⟩ := (D2.out _).later hb3) | (go_at_call 10; refine (rminute_yes _ _ _ _ _ _ _ HV.out).mono ?_; rintro e w4 ⟨rfl, hb4⟩))
  go_ret
  exact ⟨rfl, (((((below_alloc w _).trans (hb1.mono (by simp))).trans ((below_alloc w1 _).mono (by omega))).trans (hb2.mono (by simp; omega))).trans ((below_alloc w2 _).mono (by omega))).trans ((hb3.mono (by simp; omega)).trans (hb4.mono (by have := hb3.size; simp at this; omega)))⟩

set_option maxHeartbeats 1000000 in
theorem dates_d (n y m d h i k : Int) (w : World) (hT : Tab w) (hn : 0 ≤ n) (hx : n ≤ 4223371679) (hv : Cal.vldB y m d h i = false) :
    Calls Tryd.prog 3 #[.int .i64 n, dateV y m d h i k] w fun e w' => e = .returned (.bool true) ∧ Below w.heap.size w w' := by
  have HT : Hid (∀ o, Tab (w.alloc o)) := fun o => hT.alloc o
  have HV : Hid (Cal.vldB y m d h i = false) := hv
  have D0 : Hid (DateAt _ w.heap.size y m d h i k) := DateAt.new w y m d h i k 23
  clear hT hv
  go_enter Tryd.func3, Tryd.ntmps3
  go_wp2_with (first | (go_at_call 6; refine (date_yes _ _ (HT.out _) hn hx).mono ?_; rintro e w1 ⟨⟨ya, ma, da, HA, rfl⟩, hb1⟩; have HT1 : Hid (∀ o, Tab (w1.alloc o)) := fun o => ((HT.out _).later hb1).alloc o; have D1 : Hid (∀ o, DateAt (w1.alloc o) w.heap.size y m d h i k) := fun o => (D0.out.later hb1).later (below_alloc _ _); clear HT D0; have hz1 : w.heap.size < w1.heap.size := (by have := hb1.size; simp at this; omega)) | (go_at_call 7; refine (rdate_yes _ _ hn hx).mono ?_; rintro e w2 ⟨⟨yb, mb, db, HB, rfl⟩, hb2⟩; obtain ⟨rfl, rfl, rfl⟩ := HA.uniq HB; clear HA HB; have HT2 : Hid (∀ o, Tab (w2.alloc o)) := fun o => ((HT1.out _).later hb2).alloc o; have D2 : Hid (∀ o, DateAt (w2.alloc o) w.heap.size y m d h i k) := fun o => ((D1.out _).later hb2).later (below_alloc _ _); obtain ⟨p0, p1, p2, p3, p4, p5⟩ := (DateAt.new w1 _ _ _ _ _ _ _).later hb2; obtain ⟨q0, q1, q2, q3, q4, q5⟩ := (D1.out _).later hb2; clear HT1 D1; have hz2 : w1.heap.size < w2.heap.size := (by have := hb2.size; simp at this; omega); have hz02 : w.heap.size < w2.heap.size := (by omega)) | (go_at_call 8; refine (num_any _ _).mono ?_; rintro e w' ⟨rfl, rfl⟩) | (go_at_call 9; refine (minute_no _ _ _ _ _ _ _ (HT2.out _) HV.out).mono ?_; rintro e w3 ⟨rfl, hb3⟩; obtain ⟨r0, r1, r2, r3, r4, r5⟩ := (D2.out _).later hb3) | (go_at_call 10; refine (rminute_no _ _ _ _ _ _ _ HV.out).mono ?_; rintro e w4 ⟨rfl, hb4⟩))
  go_ret
  exact ⟨rfl, (((((below_alloc w _).trans (hb1.mono (by simp))).trans ((below_alloc w1 _).mono (by omega))).trans (hb2.mono (by simp; omega))).trans ((below_alloc w2 _).mono (by omega))).trans ((hb3.mono (by simp; omega)).trans (hb4.mono (by have := hb3.size; simp at this; omega)))⟩

theorem dates_any (n y m d h i k : Int) (w : World) (hT : Tab w) :
    Calls Tryd.prog 3 #[.int .i64 n, dateV y m d h i k] w fun e w' => e = .returned (.bool true) ∧ Below w.heap.size w w' := by
  by_cases a : n < 0 ∨ 4223371679 < n
  · cases v : Cal.vldB y m d h i
    · exact dates_b n y m d h i k w hT a v
    · exact dates_a n y m d h i k w hT a v
  · cases v : Cal.vldB y m d h i
    · exact dates_d n y m d h i k w hT (by omega) (by omega) v
    · exact dates_c n y m d h i k w hT (by omega) (by omega) v
end Go.Proofs.YtmbginojgenbeaaDoor
