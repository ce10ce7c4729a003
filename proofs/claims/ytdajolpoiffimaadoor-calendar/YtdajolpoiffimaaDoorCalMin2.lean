/-
  The walks over the program's Minute.
-/
import Derived.Test.YtdajolpoiffimaaDoorCalMin
namespace Go.Proofs.YtdajolpoiffimaaDoor
open Go.RowKit

theorem ret_pair {k l : IntKind} {a b c : Int} (h : a = b) : Ending.returned (.tuple #[.int k a, .int l c]) = .returned (.tuple #[.int k b, .int l c]) := by rw [h]

set_option maxHeartbeats 400000 in
theorem cminute_no (y m d h i k : Int) (w : World) (hT : Tab w) (hv : Cal.vldB y m d h i = false) :
    Calls Tryd.prog 37 #[dateV y m d h i k] w fun e w' => e = .returned (.tuple #[.int .i64 0, .int .i64 4]) ∧ Below w.heap.size w w' := by
  have HT : Hid (∀ o, Tab (w.alloc o)) := fun o => hT.alloc o
  clear hT
  go_enter Tryd.func37, Tryd.ntmps37
  go_wp2_with (go_at_call 66; refine (isDate_any _ _ _ _ _ _ _ (HT.out _)).mono ?_; rintro e w1 ⟨rfl, hb⟩; obtain ⟨hc, hf⟩ := bcell hb; have hz : w.heap.size < w1.heap.size := (by have := hb.size; simp at this; omega))
  go_ret2
  exact ⟨rfl, ((Below.refl _ _).alloc (Nat.le_refl _) _).trans (hb.mono (by simp))⟩

set_option maxHeartbeats 400000 in
theorem cminute_yes (y m d h i k : Int) (w : World) (hT : Tab w) (hv : Cal.vldB y m d h i = true) :
    Calls Tryd.prog 37 #[dateV y m d h i k] w fun e w' => e = .returned (.tuple #[.int .i64 (Cal.num y m d h i), .int .i64 0]) ∧ Below w.heap.size w w' := by
  have HT : Hid (∀ o, Tab (w.alloc o)) := fun o => hT.alloc o
  clear hT
  obtain ⟨y1, y2, m1, m2, d1, d2, h1, h2, i1, i2⟩ := Cal.vld_of hv
  have b1 := Cal.dby_bd y1 (Int.le_trans y2 (by omega))
  have b2 := Cal.cum_bd y m
  have b3 := Cal.dim_lo y m
  go_enter Tryd.func37, Tryd.ntmps37
  go_wp2_with (first | (go_at_call 66; refine (isDate_any _ _ _ _ _ _ _ (HT.out _)).mono ?_; rintro e w1 ⟨rfl, hb⟩; obtain ⟨hc, hf⟩ := bcell hb; have hz : w.heap.size < w1.heap.size := (by have := hb.size; simp at this; omega); have HT1 : Hid (Tab w1) := (HT.out _).later hb) | (go_at_call 63; refine (dby_any _ _ (by omega) (by omega)).mono ?_; rintro e w' ⟨rfl, rfl⟩) | (go_at_call 65; refine (cum_any _ _ _ HT1.out (by omega) (by omega) (by omega) (by omega)).mono ?_; rintro e w' ⟨rfl, rfl⟩))
  go_ret2
  exact ⟨ret_pair (by unfold Cal.num; omega), ((Below.refl _ _).alloc (Nat.le_refl _) _).trans (hb.mono (by simp))⟩

set_option maxHeartbeats 400000 in
theorem minute_no (y m d h i k : Int) (w : World) (hT : Tab w) (hv : Cal.vldB y m d h i = false) :
    Calls Tryd.prog 12 #[dateV y m d h i k] w fun e w' => e = .returned (.tuple #[.int .i64 0, .int .i64 4]) ∧ Below w.heap.size w w' := by
  have HT : Hid (∀ o, Tab (w.alloc o)) := fun o => hT.alloc o
  have HV : Hid (Cal.vldB y m d h i = false) := hv
  clear hT hv
  go_enter Tryd.func12, Tryd.ntmps12
  go_wp2_with (go_at_call 37; refine (cminute_no _ _ _ _ _ _ _ (HT.out _) HV.out).mono ?_; rintro e w1 ⟨rfl, hb⟩)
  go_ret2
  exact ⟨rfl, ((Below.refl _ _).alloc (Nat.le_refl _) _).trans (hb.mono (by simp))⟩

set_option maxHeartbeats 400000 in
theorem minute_yes (y m d h i k : Int) (w : World) (hT : Tab w) (hv : Cal.vldB y m d h i = true) :
    Calls Tryd.prog 12 #[dateV y m d h i k] w fun e w' => e = .returned (.tuple #[.int .i64 (Cal.num y m d h i), .int .i64 0]) ∧ Below w.heap.size w w' := by
  have HT : Hid (∀ o, Tab (w.alloc o)) := fun o => hT.alloc o
  have HV : Hid (Cal.vldB y m d h i = true) := hv
  clear hT hv
  go_enter Tryd.func12, Tryd.ntmps12
  go_wp2_with (go_at_call 37; refine (cminute_yes _ _ _ _ _ _ _ (HT.out _) HV.out).mono ?_; rintro e w1 ⟨rfl, hb⟩)
  go_ret2
  exact ⟨rfl, ((Below.refl _ _).alloc (Nat.le_refl _) _).trans (hb.mono (by simp))⟩
end Go.Proofs.YtdajolpoiffimaaDoor
