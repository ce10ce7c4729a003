/-
  The walks over the program's isDate and Minute.
-/
import Derived.Test.YtdajolpoiffimaaDoorCalDateB
namespace Go.Proofs.YtdajolpoiffimaaDoor
open Go.RowKit

theorem ret_bool {a b : Bool} (h : a = b) : Ending.returned (.bool a) = .returned (.bool b) := by rw [h]

set_option maxHeartbeats 400000 in
theorem isDate_a (y m d h i k : Int) (w : World) (hn : y < 1970 ∨ 9999 < y ∨ m < 1 ∨ 12 < m) :
    Calls Tryd.prog 66 #[dateV y m d h i k] w fun e w' => e = .returned (.bool (Cal.vldB y m d h i)) ∧ Below w.heap.size w w' := by
  have e : Hid (Cal.vldB y m d h i = false) := Cal.vld_not (by omega)
  by_cases a : y < 1970
  · clear hn
    go_enter Tryd.func66, Tryd.ntmps66
    go_wp2_with fail
    go_ret
    exact ⟨ret_bool e.out.symm, (Below.refl _ _).alloc (Nat.le_refl _) _⟩
  · by_cases b : 9999 < y
    · clear hn
      go_enter Tryd.func66, Tryd.ntmps66
      go_wp2_with fail
      go_ret
      exact ⟨ret_bool e.out.symm, (Below.refl _ _).alloc (Nat.le_refl _) _⟩
    · by_cases c : m < 1
      · clear hn
        go_enter Tryd.func66, Tryd.ntmps66
        go_wp2_with fail
        go_ret
        exact ⟨ret_bool e.out.symm, (Below.refl _ _).alloc (Nat.le_refl _) _⟩
      · have g : 12 < m := by omega
        clear hn
        go_enter Tryd.func66, Tryd.ntmps66
        go_wp2_with fail
        go_ret
        exact ⟨ret_bool e.out.symm, (Below.refl _ _).alloc (Nat.le_refl _) _⟩

set_option maxHeartbeats 400000 in
theorem isDate_b (y m d h i k : Int) (w : World) (hT : Tab w) (y1 : 1970 ≤ y) (y2 : y ≤ 9999) (m1 : 1 ≤ m) (m2 : m ≤ 12) (hn : d < 1) :
    Calls Tryd.prog 66 #[dateV y m d h i k] w fun e w' => e = .returned (.bool (Cal.vldB y m d h i)) ∧ Below w.heap.size w w' := by
  have e : Hid (Cal.vldB y m d h i = false) := Cal.vld_not (by omega)
  have HT : Hid (∀ o, Tab (w.alloc o)) := fun o => hT.alloc o
  clear hT
  go_enter Tryd.func66, Tryd.ntmps66
  go_wp2_with fail
  go_quiet (fail)
  go_wp2_with fail
  go_ret
  exact ⟨ret_bool e.out.symm, below_drewN ((Below.refl _ _).alloc (Nat.le_refl _) _) _⟩

set_option maxHeartbeats 400000 in
theorem isDate_c (y m d h i k : Int) (w : World) (hT : Tab w) (y1 : 1970 ≤ y) (y2 : y ≤ 9999) (m1 : 1 ≤ m) (m2 : m ≤ 12) (d1 : 1 ≤ d) (hn : Cal.dim y m < d) :
    Calls Tryd.prog 66 #[dateV y m d h i k] w fun e w' => e = .returned (.bool (Cal.vldB y m d h i)) ∧ Below w.heap.size w w' := by
  have e : Hid (Cal.vldB y m d h i = false) := Cal.vld_not (by omega)
  have g1 : decide (d < 1) = false := decide_eq_false (by omega)
  have HT : Hid (∀ o, Tab (w.alloc o)) := fun o => hT.alloc o
  have hdl := Cal.dim_lo y m
  clear hT
  go_enter Tryd.func66, Tryd.ntmps66
  go_wp2_with fail
  go_quiet ((go_at_call 97; exact Calls.quiet_of_same (dim_any _ _ _ (HT.out _) (by omega) (by omega) (by omega) (by omega))))
  go_wp2_with fail
  go_ret
  exact ⟨ret_bool e.out.symm, below_drewN ((Below.refl _ _).alloc (Nat.le_refl _) _) _⟩

set_option maxHeartbeats 400000 in
theorem isDate_d (y m d h i k : Int) (w : World) (hT : Tab w) (y1 : 1970 ≤ y) (y2 : y ≤ 9999) (m1 : 1 ≤ m) (m2 : m ≤ 12) (d1 : 1 ≤ d) (d2 : d ≤ Cal.dim y m) (hn : h < 0) :
    Calls Tryd.prog 66 #[dateV y m d h i k] w fun e w' => e = .returned (.bool (Cal.vldB y m d h i)) ∧ Below w.heap.size w w' := by
  have e : Hid (Cal.vldB y m d h i = false) := Cal.vld_not (by omega)
  have g1 : decide (d < 1) = false := decide_eq_false (by omega)
  have HT : Hid (∀ o, Tab (w.alloc o)) := fun o => hT.alloc o
  have hdl := Cal.dim_lo y m
  clear hT
  go_enter Tryd.func66, Tryd.ntmps66
  go_wp2_with fail
  go_quiet ((go_at_call 97; exact Calls.quiet_of_same (dim_any _ _ _ (HT.out _) (by omega) (by omega) (by omega) (by omega))))
  go_wp2_with fail
  go_ret
  exact ⟨ret_bool e.out.symm, below_drewN ((Below.refl _ _).alloc (Nat.le_refl _) _) _⟩

set_option maxHeartbeats 400000 in
theorem isDate_e (y m d h i k : Int) (w : World) (hT : Tab w) (y1 : 1970 ≤ y) (y2 : y ≤ 9999) (m1 : 1 ≤ m) (m2 : m ≤ 12) (d1 : 1 ≤ d) (d2 : d ≤ Cal.dim y m) (h1 : 0 ≤ h) (hn : 24 ≤ h) :
    Calls Tryd.prog 66 #[dateV y m d h i k] w fun e w' => e = .returned (.bool (Cal.vldB y m d h i)) ∧ Below w.heap.size w w' := by
  have e : Hid (Cal.vldB y m d h i = false) := Cal.vld_not (by omega)
  have g1 : decide (d < 1) = false := decide_eq_false (by omega)
  have HT : Hid (∀ o, Tab (w.alloc o)) := fun o => hT.alloc o
  have hdl := Cal.dim_lo y m
  clear hT
  go_enter Tryd.func66, Tryd.ntmps66
  go_wp2_with fail
  go_quiet ((go_at_call 97; exact Calls.quiet_of_same (dim_any _ _ _ (HT.out _) (by omega) (by omega) (by omega) (by omega))))
  go_wp2_with fail
  go_ret
  exact ⟨ret_bool e.out.symm, below_drewN ((Below.refl _ _).alloc (Nat.le_refl _) _) _⟩

set_option maxHeartbeats 400000 in
theorem isDate_f (y m d h i k : Int) (w : World) (hT : Tab w) (y1 : 1970 ≤ y) (y2 : y ≤ 9999) (m1 : 1 ≤ m) (m2 : m ≤ 12) (d1 : 1 ≤ d) (d2 : d ≤ Cal.dim y m) (h1 : 0 ≤ h) (h2 : h < 24) (hn : i < 0) :
    Calls Tryd.prog 66 #[dateV y m d h i k] w fun e w' => e = .returned (.bool (Cal.vldB y m d h i)) ∧ Below w.heap.size w w' := by
  have e : Hid (Cal.vldB y m d h i = false) := Cal.vld_not (by omega)
  have g1 : decide (d < 1) = false := decide_eq_false (by omega)
  have HT : Hid (∀ o, Tab (w.alloc o)) := fun o => hT.alloc o
  have hdl := Cal.dim_lo y m
  clear hT
  go_enter Tryd.func66, Tryd.ntmps66
  go_wp2_with fail
  go_quiet ((go_at_call 97; exact Calls.quiet_of_same (dim_any _ _ _ (HT.out _) (by omega) (by omega) (by omega) (by omega))))
  go_wp2_with fail
  go_ret
  exact ⟨ret_bool e.out.symm, below_drewN ((Below.refl _ _).alloc (Nat.le_refl _) _) _⟩

set_option maxHeartbeats 400000 in
theorem isDate_g (y m d h i k : Int) (w : World) (hT : Tab w) (y1 : 1970 ≤ y) (y2 : y ≤ 9999) (m1 : 1 ≤ m) (m2 : m ≤ 12) (d1 : 1 ≤ d) (d2 : d ≤ Cal.dim y m) (h1 : 0 ≤ h) (h2 : h < 24) (i1 : 0 ≤ i) (hn : 60 ≤ i) :
    Calls Tryd.prog 66 #[dateV y m d h i k] w fun e w' => e = .returned (.bool (Cal.vldB y m d h i)) ∧ Below w.heap.size w w' := by
  have e : Hid (Cal.vldB y m d h i = false) := Cal.vld_not (by omega)
  have g1 : decide (d < 1) = false := decide_eq_false (by omega)
  have HT : Hid (∀ o, Tab (w.alloc o)) := fun o => hT.alloc o
  have hdl := Cal.dim_lo y m
  clear hT
  go_enter Tryd.func66, Tryd.ntmps66
  go_wp2_with fail
  go_quiet ((go_at_call 97; exact Calls.quiet_of_same (dim_any _ _ _ (HT.out _) (by omega) (by omega) (by omega) (by omega))))
  go_wp2_with fail
  go_ret
  exact ⟨ret_bool ((decide_eq_false (by omega)).trans e.out.symm), below_drewN ((Below.refl _ _).alloc (Nat.le_refl _) _) _⟩

set_option maxHeartbeats 400000 in
theorem isDate_h (y m d h i k : Int) (w : World) (hT : Tab w) (y1 : 1970 ≤ y) (y2 : y ≤ 9999) (m1 : 1 ≤ m) (m2 : m ≤ 12) (d1 : 1 ≤ d) (d2 : d ≤ Cal.dim y m) (h1 : 0 ≤ h) (h2 : h < 24) (i1 : 0 ≤ i) (i2 : i < 60) :
    Calls Tryd.prog 66 #[dateV y m d h i k] w fun e w' => e = .returned (.bool (Cal.vldB y m d h i)) ∧ Below w.heap.size w w' := by
  have e : Hid (Cal.vldB y m d h i = true) := Cal.vld_mk (by omega)
  have g1 : decide (d < 1) = false := decide_eq_false (by omega)
  have HT : Hid (∀ o, Tab (w.alloc o)) := fun o => hT.alloc o
  have hdl := Cal.dim_lo y m
  clear hT
  go_enter Tryd.func66, Tryd.ntmps66
  go_wp2_with fail
  go_quiet ((go_at_call 97; exact Calls.quiet_of_same (dim_any _ _ _ (HT.out _) (by omega) (by omega) (by omega) (by omega))))
  go_wp2_with fail
  go_ret
  exact ⟨ret_bool e.out.symm, below_drewN ((Below.refl _ _).alloc (Nat.le_refl _) _) _⟩

theorem isDate_any (y m d h i k : Int) (w : World) (hT : Tab w) :
    Calls Tryd.prog 66 #[dateV y m d h i k] w fun e w' => e = .returned (.bool (Cal.vldB y m d h i)) ∧ Below w.heap.size w w' := by
  by_cases a : y < 1970 ∨ 9999 < y ∨ m < 1 ∨ 12 < m
  · exact isDate_a y m d h i k w a
  by_cases b : d < 1
  · exact isDate_b y m d h i k w hT (by omega) (by omega) (by omega) (by omega) b
  by_cases c : Cal.dim y m < d
  · exact isDate_c y m d h i k w hT (by omega) (by omega) (by omega) (by omega) (by omega) c
  by_cases e : h < 0
  · exact isDate_d y m d h i k w hT (by omega) (by omega) (by omega) (by omega) (by omega) (by omega) e
  by_cases f : 24 ≤ h
  · exact isDate_e y m d h i k w hT (by omega) (by omega) (by omega) (by omega) (by omega) (by omega) (by omega) f
  by_cases g : i < 0
  · exact isDate_f y m d h i k w hT (by omega) (by omega) (by omega) (by omega) (by omega) (by omega) (by omega) (by omega) g
  by_cases j : 60 ≤ i
  · exact isDate_g y m d h i k w hT (by omega) (by omega) (by omega) (by omega) (by omega) (by omega) (by omega) (by omega) (by omega) j
  exact isDate_h y m d h i k w hT (by omega) (by omega) (by omega) (by omega) (by omega) (by omega) (by omega) (by omega) (by omega) (by omega)
end Go.Proofs.YtdajolpoiffimaaDoor
