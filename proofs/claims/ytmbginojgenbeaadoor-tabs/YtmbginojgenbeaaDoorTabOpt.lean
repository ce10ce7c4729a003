/-
  The walks over steps and options: the program's and the document's.
-/
import Derived.Test.YtmbginojgenbeaaDoorTabText
import Derived.Test.YtmbginojgenbeaaDoorOpt
namespace Go.Proofs.YtmbginojgenbeaaDoor
open Go.RowKit

set_option maxHeartbeats 400000 in
theorem isWordByte_any (b : Int) (w : World) :
    Calls Tryd.prog 60 #[.int .u8 b] w fun e w' => e = .returned (.bool (Txt.wb b)) ∧ w' = w := by
  by_cases h1 : 97 ≤ b
  · by_cases h2 : b ≤ 122
    · have e : Hid (Txt.wb b = true) := Txt.wb_yes (by omega)
      go_enter Tryd.func60, Tryd.ntmps60
      go_wp2_with fail
      go_ret
      exact ⟨ret_bool' e.out.symm, rfl⟩
    · have h3 : ¬ b ≤ 90 := by omega
      have h4 : 65 ≤ b := by omega
      have e : Hid (Txt.dg b = Txt.wb b) := Txt.wb_dg (by omega) (by omega)
      go_enter Tryd.func60, Tryd.ntmps60
      go_wp2_with (go_at_call 65; refine (isDigit_any _ _).mono ?_; rintro e w' ⟨rfl, rfl⟩)
      go_ret
      exact ⟨ret_bool' e.out, rfl⟩
  · by_cases h3 : 65 ≤ b
    · by_cases h4 : b ≤ 90
      · have e : Hid (Txt.wb b = true) := Txt.wb_yes (by omega)
        go_enter Tryd.func60, Tryd.ntmps60
        go_wp2_with fail
        go_ret
        exact ⟨ret_bool' e.out.symm, rfl⟩
      · have e : Hid (Txt.dg b = Txt.wb b) := Txt.wb_dg (by omega) (by omega)
        go_enter Tryd.func60, Tryd.ntmps60
        go_wp2_with (go_at_call 65; refine (isDigit_any _ _).mono ?_; rintro e w' ⟨rfl, rfl⟩)
        go_ret
        exact ⟨ret_bool' e.out, rfl⟩
    · have e : Hid (Txt.dg b = Txt.wb b) := Txt.wb_dg (by omega) (by omega)
      go_enter Tryd.func60, Tryd.ntmps60
      go_wp2_with (go_at_call 65; refine (isDigit_any _ _).mono ?_; rintro e w' ⟨rfl, rfl⟩)
      go_ret
      exact ⟨ret_bool' e.out, rfl⟩

theorem step_last {s : ByteArray} {k : Nat} (hk : s.size ≤ k) (h2 : 2 ≤ s.size) (h9 : s.size ≤ 9) (h0 : 0 < s.size) (hf : ((s[0].toNat : Int) = 62 ∨ (s[0].toNat : Int) = 60)) (ha : ∀ j (hj : j < s.size), 1 ≤ j → j < k → Txt.wb (s[j].toNat) = true) : Txt.stepB s = true :=
  Txt.stepB_yes ⟨h2, h9, h0, hf, fun j hj h1 => ha j hj h1 (by omega)⟩
theorem step_bad {s : ByteArray} {k : Nat} (hk : k < s.size) (h1 : 1 ≤ k) (h : Txt.wb (s[k].toNat) = false) : Txt.stepB s = false :=
  Txt.stepB_no (fun ⟨_, _, _, _, hb⟩ => by rw [hb k hk h1] at h; cases h)

set_option maxHeartbeats 1000000 in
theorem isStep_any (s : ByteArray) (w : World) (hs : s.size ≤ 300) :
    Calls Tryd.prog 54 #[.string s] w fun e w' => e = .returned (.bool (Txt.stepB s)) ∧ w' = w := by
  by_cases h2 : s.size < 2
  · have e : Hid (Txt.stepB s = false) := Txt.stepB_no (fun h => by have := h.1; omega)
    go_enter Tryd.func54, Tryd.ntmps54
    go_wp2_with fail
    go_ret
    exact ⟨ret_bool' e.out.symm, rfl⟩
  by_cases h9 : 9 < s.size
  · have e : Hid (Txt.stepB s = false) := Txt.stepB_no (fun h => by have := h.2.1; omega)
    go_enter Tryd.func54, Tryd.ntmps54
    go_wp2_with fail
    go_ret
    exact ⟨ret_bool' e.out.symm, rfl⟩
  have h0 : 0 < s.size := by omega
  by_cases hf : (s[0].toNat : Int) = 62 ∨ (s[0].toNat : Int) = 60
  rotate_left
  · have e : Hid (Txt.stepB s = false) := Txt.stepB_no (fun ⟨_, _, _, h, _⟩ => hf h)
    have f1 : ((s[0].toNat : Int) != 62) = true := by simp; omega
    have f2 : ((s[0].toNat : Int) != 60) = true := by simp; omega
    clear hf
    go_enter Tryd.func54, Tryd.ntmps54
    go_wp2_with fail
    go_ret
    exact ⟨ret_bool' e.out.symm, rfl⟩
  have HF : Hid ((s[0].toNat : Int) = 62 ∨ (s[0].toNat : Int) = 60) := hf
  have HE : Hid (((s[0].toNat : Int) != 62) = false ∨ (((s[0].toNat : Int) != 62) = true ∧ ((s[0].toNat : Int) != 60) = false)) := by
    unfold Hid; rcases hf with h | h
    · left; simp [h]
    · right; constructor <;> simp [h]
  clear hf
  rcases HE.out with f1 | ⟨f1, f2⟩
  all_goals
    clear HE
    go_enter Tryd.func54, Tryd.ntmps54
    go_wp2_with fail
    go_loop [3] (fun i => ∃ k : Nat, 1 ≤ k ∧ k ≤ s.size ∧ i = .int .i64 k ∧ ∀ j (hj : j < s.size), 1 ≤ j → j < k → Txt.wb (s[j].toNat) = true) (fun i => s.size - (intOf i).toNat)
    case atStart => exact ⟨1, Nat.le_refl _, by omega, rfl, fun j _ h h' => by omega⟩
    case round =>
      obtain ⟨k, hk1, hk, rfl, hall⟩ := hrel
      have HA : Hid (∀ j (hj : j < s.size), 1 ≤ j → j < k → Txt.wb (s[j].toNat) = true) := hall
      clear hall
      by_cases hlt : k < s.size
      · cases hd : Txt.wb (s[k].toNat)
        · have e : Hid (Txt.stepB s = false) := step_bad hlt hk1 hd
          go_wp2_with (go_at_call 60; refine (isWordByte_any _ _).mono ?_; rintro e w' ⟨rfl, rfl⟩)
          go_ret
          exact ⟨ret_bool' e.out.symm, rfl⟩
        · have HD : Hid (Txt.wb (s[k].toNat) = true) := hd
          go_wp2_with (go_at_call 60; refine (isWordByte_any _ _).mono ?_; rintro e w' ⟨rfl, rfl⟩)
          go_round
          case rel =>
            refine ⟨k + 1, by omega, by omega, by go_num, fun j hj h1 h => ?_⟩
            by_cases q : j = k
            · subst q; exact HD.out
            · exact HA.out j hj h1 (by omega)
          case measure => simp [intOf]; omega
      · have e : Hid (Txt.stepB s = true) := step_last (by omega) (by omega) (by omega) h0 HF.out HA.out
        go_wp2_with fail
        go_ret
        exact ⟨ret_bool' e.out.symm, rfl⟩

set_option maxHeartbeats 2000000 in
theorem risStep_any (s : ByteArray) (w : World) (hs : s.size ≤ 300) :
    Calls Tryd.prog 38 #[.string s] w fun e w' => e = .returned (.bool (Txt.stepB s)) ∧ w' = w := by
  by_cases h2 : s.size < 2
  · have e : Hid (Txt.stepB s = false) := Txt.stepB_no (fun h => by have := h.1; omega)
    go_enter Tryd.func38, Tryd.ntmps38
    go_wp2_with fail
    go_ret
    exact ⟨ret_bool' e.out.symm, rfl⟩
  by_cases h9 : 9 < s.size
  · have e : Hid (Txt.stepB s = false) := Txt.stepB_no (fun h => by have := h.2.1; omega)
    go_enter Tryd.func38, Tryd.ntmps38
    go_wp2_with fail
    go_ret
    exact ⟨ret_bool' e.out.symm, rfl⟩
  have h0 : 0 < s.size := by omega
  by_cases hf : (s[0].toNat : Int) = 62 ∨ (s[0].toNat : Int) = 60
  rotate_left
  · have e : Hid (Txt.stepB s = false) := Txt.stepB_no (fun ⟨_, _, _, h, _⟩ => hf h)
    have f1 : ((s[0].toNat : Int) != 62) = true := by simp; omega
    have f2 : ((s[0].toNat : Int) != 60) = true := by simp; omega
    clear hf
    go_enter Tryd.func38, Tryd.ntmps38
    go_wp2_with fail
    go_ret
    exact ⟨ret_bool' e.out.symm, rfl⟩
  have HF : Hid ((s[0].toNat : Int) = 62 ∨ (s[0].toNat : Int) = 60) := hf
  have HE : Hid (((s[0].toNat : Int) != 62) = false ∨ (((s[0].toNat : Int) != 62) = true ∧ ((s[0].toNat : Int) != 60) = false)) := by
    unfold Hid; rcases hf with h | h
    · left; simp [h]
    · right; constructor <;> simp [h]
  clear hf
  rcases HE.out with f1 | ⟨f1, f2⟩
  all_goals
    clear HE
    go_enter Tryd.func38, Tryd.ntmps38
    go_wp2_with fail
    go_loop [3] (fun i => ∃ k : Nat, 1 ≤ k ∧ k ≤ s.size ∧ i = .int .i64 k ∧ ∀ j (hj : j < s.size), 1 ≤ j → j < k → Txt.wb (s[j].toNat) = true) (fun i => s.size - (intOf i).toNat)
    case atStart => exact ⟨1, Nat.le_refl _, by omega, rfl, fun j _ h h' => by omega⟩
    case round =>
      obtain ⟨k, hk1, hk, rfl, hall⟩ := hrel
      have HA : Hid (∀ j (hj : j < s.size), 1 ≤ j → j < k → Txt.wb (s[j].toNat) = true) := hall
      clear hall
      by_cases hlt : k < s.size
      · have HN : Hid (Txt.wb (s[k].toNat) = true → ∀ j (hj : j < s.size), 1 ≤ j → j < k + 1 → Txt.wb (s[j].toNat) = true) := by
          intro hd j hj h1 h
          by_cases q : j = k
          · subst q; exact hd
          · exact HA.out j hj h1 (by omega)
        have HB : Hid (Txt.wb (s[k].toNat) = false → Txt.stepB s = false) := step_bad hlt hk1
        by_cases a1 : 48 ≤ (s[k].toNat : Int)
        · by_cases a2 : (s[k].toNat : Int) ≤ 57
          · have W : Hid (Txt.wb (s[k].toNat) = true) := Txt.wb_yes (by omega)
            go_wp2_with fail
            go_round
            case rel => exact ⟨k + 1, by omega, by omega, by go_num, HN.out W.out⟩
            case measure => simp [intOf]; omega
          · by_cases a3 : 97 ≤ (s[k].toNat : Int)
            · by_cases a4 : (s[k].toNat : Int) ≤ 122
              · have W : Hid (Txt.wb (s[k].toNat) = true) := Txt.wb_yes (by omega)
                go_wp2_with fail
                go_round
                case rel => exact ⟨k + 1, by omega, by omega, by go_num, HN.out W.out⟩
                case measure => simp [intOf]; omega
              · have e : Hid (Txt.stepB s = false) := HB.out (Txt.wb_no (by omega))
                have a5 : 65 ≤ (s[k].toNat : Int) := by omega
                have a6 : ¬ (s[k].toNat : Int) ≤ 90 := by omega
                go_wp2_with fail
                go_ret
                exact ⟨ret_bool' e.out.symm, rfl⟩
            · by_cases a5 : 65 ≤ (s[k].toNat : Int)
              · by_cases a6 : (s[k].toNat : Int) ≤ 90
                · have W : Hid (Txt.wb (s[k].toNat) = true) := Txt.wb_yes (by omega)
                  go_wp2_with fail
                  go_round
                  case rel => exact ⟨k + 1, by omega, by omega, by go_num, HN.out W.out⟩
                  case measure => simp [intOf]; omega
                · have e : Hid (Txt.stepB s = false) := HB.out (Txt.wb_no (by omega))
                  go_wp2_with fail
                  go_ret
                  exact ⟨ret_bool' e.out.symm, rfl⟩
              · have e : Hid (Txt.stepB s = false) := HB.out (Txt.wb_no (by omega))
                go_wp2_with fail
                go_ret
                exact ⟨ret_bool' e.out.symm, rfl⟩
        · have e : Hid (Txt.stepB s = false) := HB.out (Txt.wb_no (by omega))
          have a3 : ¬ 97 ≤ (s[k].toNat : Int) := by omega
          have a5 : ¬ 65 ≤ (s[k].toNat : Int) := by omega
          go_wp2_with fail
          go_ret
          exact ⟨ret_bool' e.out.symm, rfl⟩
      · have e : Hid (Txt.stepB s = true) := step_last (by omega) (by omega) (by omega) h0 HF.out HA.out
        go_wp2_with fail
        go_ret
        exact ⟨ret_bool' e.out.symm, rfl⟩
end Go.Proofs.YtmbginojgenbeaaDoor
