/-
  The walks over the program's Date and Minute.
-/
import Derived.Test.YtmbginojgenbeaaDoorCalLoops
namespace Go.Proofs.YtmbginojgenbeaaDoor
open Go.RowKit

theorem Tab.later {w w' : World} (h : Tab w) (hb : Below w.heap.size w w') : Tab w' := fun m a b => cell_later hb (h m a b)
theorem Tab.alloc {w : World} (h : Tab w) (o : Obj) : Tab (w.alloc o) := h.later ((Below.refl _ _).alloc (Nat.le_refl _) _)

/-- A date, as a value. -/
abbrev dateV (y m d h i k : Int) : Value := .agg #[.int .i64 y, .int .i64 m, .int .i64 d, .int .i64 h, .int .i64 i, .int .i64 k]

set_option maxHeartbeats 400000 in
theorem cdate_no (m : Int) (w : World) (h : m < 0 ∨ 4223371679 < m) :
    Calls Tryd.prog 17 #[.int .i64 m] w fun e w' => e = .returned (.tuple #[dateV 0 0 0 0 0 0, .int .i64 4]) ∧ Below w.heap.size w w' := by
  by_cases h0 : m < 0
  · go_enter Tryd.func17, Tryd.ntmps17
    go_wp2_with fail
    exact bodyPost_ret (v := .tuple #[dateV 0 0 0 0 0 0, .int .i64 4]) (by simp [results, Tryd.results17, go_sem]) rfl ⟨rfl, (Below.refl _ _).alloc (Nat.le_refl _) _⟩
  · have h' : 4223371679 < m := by omega
    go_enter Tryd.func17, Tryd.ntmps17
    go_wp2_with fail
    exact bodyPost_ret (v := .tuple #[dateV 0 0 0 0 0 0, .int .i64 4]) (by simp [results, Tryd.results17, go_sem]) rfl ⟨rfl, (Below.refl _ _).alloc (Nat.le_refl _) _⟩

set_option maxHeartbeats 1000000 in
theorem cdate_yes (m : Int) (w : World) (hT : Tab w) (h0 : 0 ≤ m) (h1 : m ≤ 4223371679) :
    Calls Tryd.prog 17 #[.int .i64 m] w fun e w' => (∃ y mo d : Int, Cal.IsD (m / 1440) y mo d ∧ e = .returned (.tuple #[dateV y mo d (m % 1440 / 60) (m % 60) ((m / 1440 + 4) % 7), .int .i64 0])) ∧ Below w.heap.size w w' := by
  have HT : Hid (∀ o, Tab (w.alloc o)) := fun o => hT.alloc o
  clear hT
  go_enter Tryd.func17, Tryd.ntmps17
  go_wp2_with (first | (go_at_call 29; refine (yearOf_any _ _ (by omega) (by omega)).mono ?_; rintro e w' ⟨⟨y, hy1, hy2, hy3, hy4, rfl⟩, rfl⟩; have hl := Cal.lp_01 y; have hb := Cal.dby_bd hy1 (Int.le_trans hy2 (by omega))) | (go_at_call 30; refine (dby_any _ _ (by omega) (by omega)).mono ?_; rintro e w' ⟨rfl, rfl⟩) | (go_at_call 31; refine (monthOf_any _ _ _ (HT.out _) (by omega) (by omega) (by omega) (by omega)).mono ?_; rintro e w' ⟨⟨mo, hm1, hm2, hm3, hm4, rfl⟩, rfl⟩; have cb := Cal.cum_bd y mo; have db := Cal.dim_lo y mo) | (go_at_call 32; refine (cum_any _ _ _ (HT.out _) (by omega) (by omega) (by omega) (by omega)).mono ?_; rintro e w' ⟨rfl, rfl⟩))
  refine bodyPost_ret (v := .tuple #[dateV y mo (m / 1440 - Cal.dby y - Cal.cum y mo + 1) (m % 1440 / 60) (m % 60) ((m / 1440 + 4) % 7), .int .i64 0]) (by simp [results, Tryd.results17, go_sem]) rfl
    ⟨⟨y, mo, _, ⟨hy1, hy2, hm1, hm2, by omega, by omega, by omega⟩, rfl⟩, ((Below.refl _ _).alloc (Nat.le_refl _) _).alloc (by simp) _⟩

theorem bcell {W w1 : World} (hb : Below W.heap.size W w1) : (∀ b o, b < W.heap.size → w1.cell? ⟨b, o, none⟩ = W.cell? ⟨b, o, none⟩) ∧ (∀ b o, b < W.heap.size → w1.frozen? ⟨b, o, none⟩ = W.frozen? ⟨b, o, none⟩) :=
  ⟨fun b o h => hb.cell (p := ⟨b, o, none⟩) h, fun b o h => hb.frozen (p := ⟨b, o, none⟩) h⟩

set_option maxHeartbeats 400000 in
theorem date_no (m : Int) (w : World) (h : m < 0 ∨ 4223371679 < m) :
    Calls Tryd.prog 6 #[.int .i64 m] w fun e w' => e = .returned (.tuple #[dateV 0 0 0 0 0 0, .int .i64 4]) ∧ Below w.heap.size w w' := by
  have HH : Hid (m < 0 ∨ 4223371679 < m) := h
  clear h
  go_enter Tryd.func6, Tryd.ntmps6
  go_wp2_with (go_at_call 17; refine (cdate_no _ _ HH.out).mono ?_; rintro e w1 ⟨rfl, hb⟩; obtain ⟨hc, hf⟩ := bcell hb; have hz : w.heap.size < w1.heap.size := (by have := hb.size; simp at this; omega))
  refine bodyPost_ret (v := .tuple #[dateV 0 0 0 0 0 0, .int .i64 4]) (by simp [results, Tryd.results6, go_sem, hc]) rfl ⟨rfl, ?_⟩
  exact ((((((((Below.refl _ _).alloc (Nat.le_refl _) _).trans (hb.mono (by simp))).setCell (by simp) _).setCell (by simp) _).setCell (by simp) _).setCell (by simp) _).setCell (by simp) _).setCell (by simp) _

set_option maxHeartbeats 400000 in
theorem date_yes (m : Int) (w : World) (hT : Tab w) (h0 : 0 ≤ m) (h1 : m ≤ 4223371679) :
    Calls Tryd.prog 6 #[.int .i64 m] w fun e w' => (∃ y mo d : Int, Cal.IsD (m / 1440) y mo d ∧ e = .returned (.tuple #[dateV y mo d (m % 1440 / 60) (m % 60) ((m / 1440 + 4) % 7), .int .i64 0])) ∧ Below w.heap.size w w' := by
  have HT : Hid (∀ o, Tab (w.alloc o)) := fun o => hT.alloc o
  clear hT
  go_enter Tryd.func6, Tryd.ntmps6
  go_wp2_with (go_at_call 17; refine (cdate_yes _ _ (HT.out _) h0 h1).mono ?_; rintro e w1 ⟨⟨y, mo, d, HD, rfl⟩, hb⟩; obtain ⟨hc, hf⟩ := bcell hb; have hz : w.heap.size < w1.heap.size := (by have := hb.size; simp at this; omega))
  refine bodyPost_ret (v := .tuple #[dateV y mo d (m % 1440 / 60) (m % 60) ((m / 1440 + 4) % 7), .int .i64 0]) (by simp [results, Tryd.results6, go_sem, hc]) rfl ⟨⟨y, mo, d, HD, rfl⟩, ?_⟩
  exact ((((((((Below.refl _ _).alloc (Nat.le_refl _) _).trans (hb.mono (by simp))).setCell (by simp) _).setCell (by simp) _).setCell (by simp) _).setCell (by simp) _).setCell (by simp) _).setCell (by simp) _
end Go.Proofs.YtmbginojgenbeaaDoor
