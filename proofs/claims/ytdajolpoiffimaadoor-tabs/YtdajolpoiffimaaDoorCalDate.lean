/-
  The walks over the program's Date and Minute.
-/
import Derived.Test.YtdajolpoiffimaaDoorCalLoops
namespace Go.Proofs.YtdajolpoiffimaaDoor
open Go.RowKit

theorem Tab.later {w w' : World} (h : Tab w) (hb : Below w.heap.size w w') : Tab w' := fun m a b => cell_later hb (h m a b)
theorem Tab.alloc {w : World} (h : Tab w) (o : Obj) : Tab (w.alloc o) := h.later ((Below.refl _ _).alloc (Nat.le_refl _) _)

set_option maxHeartbeats 400000 in
theorem cdate_no (m : Int) (w : World) (h : m < 0 ∨ 4223371679 < m) :
    Calls Tryd.prog 34 #[.int .i64 m] w fun e w' => e = .returned (.tuple #[dateV 0 0 0 0 0 0, .int .i64 4]) ∧ Below w.heap.size w w' := by
  by_cases h0 : m < 0
  · go_enter Tryd.func34, Tryd.ntmps34
    go_wp2_with fail
    exact bodyPost_ret (v := .tuple #[dateV 0 0 0 0 0 0, .int .i64 4]) (by simp [results, Tryd.results34, go_sem]) rfl ⟨rfl, (Below.refl _ _).alloc (Nat.le_refl _) _⟩
  · have h' : 4223371679 < m := by omega
    go_enter Tryd.func34, Tryd.ntmps34
    go_wp2_with fail
    exact bodyPost_ret (v := .tuple #[dateV 0 0 0 0 0 0, .int .i64 4]) (by simp [results, Tryd.results34, go_sem]) rfl ⟨rfl, (Below.refl _ _).alloc (Nat.le_refl _) _⟩

set_option maxHeartbeats 1000000 in
theorem cdate_yes (m : Int) (w : World) (hT : Tab w) (h0 : 0 ≤ m) (h1 : m ≤ 4223371679) :
    Calls Tryd.prog 34 #[.int .i64 m] w fun e w' => (∃ y mo d : Int, Cal.IsD (m / 1440) y mo d ∧ e = .returned (.tuple #[dateV y mo d (m % 1440 / 60) (m % 60) ((m / 1440 + 4) % 7), .int .i64 0])) ∧ Below w.heap.size w w' := by
  have HT : Hid (∀ o, Tab (w.alloc o)) := fun o => hT.alloc o
  clear hT
  go_enter Tryd.func34, Tryd.ntmps34
  go_wp2_with (first | (go_at_call 62; refine (yearOf_any _ _ (by omega) (by omega)).mono ?_; rintro e w' ⟨⟨y, hy1, hy2, hy3, hy4, rfl⟩, rfl⟩; have hl := Cal.lp_01 y; have hb := Cal.dby_bd hy1 (Int.le_trans hy2 (by omega))) | (go_at_call 63; refine (dby_any _ _ (by omega) (by omega)).mono ?_; rintro e w' ⟨rfl, rfl⟩) | (go_at_call 64; refine (monthOf_any _ _ _ (HT.out _) (by omega) (by omega) (by omega) (by omega)).mono ?_; rintro e w' ⟨⟨mo, hm1, hm2, hm3, hm4, rfl⟩, rfl⟩; have cb := Cal.cum_bd y mo; have db := Cal.dim_lo y mo) | (go_at_call 65; refine (cum_any _ _ _ (HT.out _) (by omega) (by omega) (by omega) (by omega)).mono ?_; rintro e w' ⟨rfl, rfl⟩))
  refine bodyPost_ret (v := .tuple #[dateV y mo (m / 1440 - Cal.dby y - Cal.cum y mo + 1) (m % 1440 / 60) (m % 60) ((m / 1440 + 4) % 7), .int .i64 0]) (by simp [results, Tryd.results34, go_sem]) rfl
    ⟨⟨y, mo, _, ⟨hy1, hy2, hm1, hm2, by omega, by omega, by omega⟩, rfl⟩, ((Below.refl _ _).alloc (Nat.le_refl _) _).alloc (by simp) _⟩
end Go.Proofs.YtdajolpoiffimaaDoor
