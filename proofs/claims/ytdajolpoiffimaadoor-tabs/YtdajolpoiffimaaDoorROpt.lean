/-
  The walks over the document's isStep and among.
-/
import Derived.Test.YtdajolpoiffimaaDoorRBase
import Derived.Test.YtdajolpoiffimaaDoorOpt
namespace Go.Proofs.YtdajolpoiffimaaDoor
open Go.RowKit

set_option maxHeartbeats 2000000 in
theorem risStep_any (s : ByteArray) (w : World) (hs : s.size ≤ 300) :
    Calls Tryd.prog 71 #[.string s] w fun e w' => e = .returned (.bool (Txt.stepB s)) ∧ w' = w := by
  by_cases h2 : s.size < 2
  · have e : Hid (Txt.stepB s = false) := Txt.stepB_no (fun h => by have := h.1; omega)
    go_enter Tryd.func71, Tryd.ntmps71
    go_wp2_with fail
    go_ret
    exact ⟨ret_bool' e.out.symm, rfl⟩
  by_cases h9 : 9 < s.size
  · have e : Hid (Txt.stepB s = false) := Txt.stepB_no (fun h => by have := h.2.1; omega)
    go_enter Tryd.func71, Tryd.ntmps71
    go_wp2_with fail
    go_ret
    exact ⟨ret_bool' e.out.symm, rfl⟩
  have h0 : 0 < s.size := by omega
  by_cases hf : (s[0].toNat : Int) = 62 ∨ (s[0].toNat : Int) = 60
  rotate_left
  · have e : Hid (Txt.stepB s = false) := Txt.stepB_no (fun ⟨_, _, _, h, _⟩ => hf h)
    have f1 : ((s[0].toNat : Int) != 62) = true := by simp; omega
    have f2 : ((s[0].toNat : Int) != 60) = true := by simp; omega
    clear hf
    go_enter Tryd.func71, Tryd.ntmps71
    go_wp2_with fail
    go_ret
    exact ⟨ret_bool' e.out.symm, rfl⟩
  have HF : Hid ((s[0].toNat : Int) = 62 ∨ (s[0].toNat : Int) = 60) := hf
  have HE : Hid (((s[0].toNat : Int) != 62) = false ∨ (((s[0].toNat : Int) != 62) = true ∧ ((s[0].toNat : Int) != 60) = false)) := by
    unfold Hid; rcases hf with h | h
    · left; simp [h]
    · right; constructor <;> simp [h]
  clear hf
  rcases HE.out with f1 | ⟨f1, f2⟩
  all_goals
    clear HE
    go_enter Tryd.func71, Tryd.ntmps71
    go_wp2_with fail
    go_loop [3] (fun i => ∃ k : Nat, 1 ≤ k ∧ k ≤ s.size ∧ i = .int .i64 k ∧ ∀ j (hj : j < s.size), 1 ≤ j → j < k → Txt.wb (s[j].toNat) = true) (fun i => s.size - (intOf i).toNat)
    case atStart => exact ⟨1, Nat.le_refl _, by omega, rfl, fun j _ h h' => by omega⟩
    case round =>
      obtain ⟨k, hk1, hk, rfl, hall⟩ := hrel
      have HA : Hid (∀ j (hj : j < s.size), 1 ≤ j → j < k → Txt.wb (s[j].toNat) = true) := hall
      clear hall
      by_cases hlt : k < s.size
      · have HN : Hid (Txt.wb (s[k].toNat) = true → ∀ j (hj : j < s.size), 1 ≤ j → j < k + 1 → Txt.wb (s[j].toNat) = true) := by
          intro hd j hj h1 h
          by_cases q : j = k
          · subst q; exact hd
          · exact HA.out j hj h1 (by omega)
        have HB : Hid (Txt.wb (s[k].toNat) = false → Txt.stepB s = false) := step_bad hlt hk1
        by_cases a1 : 48 ≤ (s[k].toNat : Int)
        · by_cases a2 : (s[k].toNat : Int) ≤ 57
          · have W : Hid (Txt.wb (s[k].toNat) = true) := Txt.wb_yes (by omega)
            go_wp2_with fail
            go_round
            case rel => exact ⟨k + 1, by omega, by omega, by go_num, HN.out W.out⟩
            case measure => simp [intOf]; omega
          · by_cases a3 : 97 ≤ (s[k].toNat : Int)
            · by_cases a4 : (s[k].toNat : Int) ≤ 122
              · have W : Hid (Txt.wb (s[k].toNat) = true) := Txt.wb_yes (by omega)
                go_wp2_with fail
                go_round
                case rel => exact ⟨k + 1, by omega, by omega, by go_num, HN.out W.out⟩
                case measure => simp [intOf]; omega
              · have e : Hid (Txt.stepB s = false) := HB.out (Txt.wb_no (by omega))
                have a5 : 65 ≤ (s[k].toNat : Int) := by omega
                have a6 : ¬ (s[k].toNat : Int) ≤ 90 := by omega
                go_wp2_with fail
                go_ret
                exact ⟨ret_bool' e.out.symm, rfl⟩
            · by_cases a5 : 65 ≤ (s[k].toNat : Int)
              · by_cases a6 : (s[k].toNat : Int) ≤ 90
                · have W : Hid (Txt.wb (s[k].toNat) = true) := Txt.wb_yes (by omega)
                  go_wp2_with fail
                  go_round
                  case rel => exact ⟨k + 1, by omega, by omega, by go_num, HN.out W.out⟩
                  case measure => simp [intOf]; omega
                · have e : Hid (Txt.stepB s = false) := HB.out (Txt.wb_no (by omega))
                  go_wp2_with fail
                  go_ret
                  exact ⟨ret_bool' e.out.symm, rfl⟩
              · have e : Hid (Txt.stepB s = false) := HB.out (Txt.wb_no (by omega))
                go_wp2_with fail
                go_ret
                exact ⟨ret_bool' e.out.symm, rfl⟩
        · have e : Hid (Txt.stepB s = false) := HB.out (Txt.wb_no (by omega))
          have a3 : ¬ 97 ≤ (s[k].toNat : Int) := by omega
          have a5 : ¬ 65 ≤ (s[k].toNat : Int) := by omega
          go_wp2_with fail
          go_ret
          exact ⟨ret_bool' e.out.symm, rfl⟩
      · have e : Hid (Txt.stepB s = true) := step_last (by omega) (by omega) (by omega) h0 HF.out HA.out
        go_wp2_with fail
        go_ret
        exact ⟨ret_bool' e.out.symm, rfl⟩
set_option maxHeartbeats 1000000 in
theorem among_any (s t : ByteArray) (w : World) (hs : s.size ≤ 300) (ht : t.size ≤ 10) :
    Calls Tryd.prog 70 #[.string s, .string t] w fun e w' => e = .returned (.bool (Txt.amgB s t)) ∧ ∃ n, w' = w.drewN n := by
  by_cases z : s.size = 1
  rotate_left
  · have e : Hid (Txt.amgB s t = false) := Txt.amgB_no (fun h => z h.1)
    have z' : ((s.size : Int) == 1) = false := by simp; omega
    clear z
    go_enter Tryd.func70, Tryd.ntmps70
    go_wp2_with fail
    go_loop [5] (fun i => i = .int .i64 0) (fun _ => 0)
    case atStart => rfl
    case round =>
      subst hrel
      by_cases h0 : 0 < t.size
      · go_wp2_with fail
        go_ret
        exact ⟨ret_bool' e.out.symm, 0, rfl⟩
      · go_wp2_with fail
        go_ret
        exact ⟨ret_bool' e.out.symm, 0, rfl⟩
  have z' : ((s.size : Int) == 1) = true := by simp; omega
  have Z : Hid (s.size = 1) := z
  have i0 : 0 < s.size := by omega
  clear z
  go_enter Tryd.func70, Tryd.ntmps70
  go_wp2_with fail
  go_loopw [5] (fun i wr => ∃ k : Nat, k ≤ t.size ∧ i = .int .i64 k ∧ (∀ j (hj : j < t.size), j < k → ¬ s[0] = t[j]) ∧ ∃ n, wr = w.drewN n) (fun i _ => t.size - (intOf i).toNat)
  case atStart => exact ⟨0, Nat.zero_le _, rfl, fun j _ h => by omega, 0, rfl⟩
  case round =>
    obtain ⟨k, hk, rfl, hall, n0, rfl⟩ := hrel
    have HA : Hid (∀ j (hj : j < t.size), j < k → ¬ s[0] = t[j]) := hall
    clear hall
    by_cases hlt : k < t.size
    · have b1 : (0 : Int) ≤ (k : Int) := by omega
      have b2 : (k : Int) < (t.size : Int) := by omega
      have b3 : (0 : Int) < (s.size : Int) := by omega
      by_cases he : s[0] = t[k]
      · have e : Hid (Txt.amgB s t = true) := Txt.amgB_yes ⟨Z.out, k, hlt, he⟩
        have q : ((s[0].toNat : Int) == (t[k].toNat : Int)) = true := by rw [Txt.u8_eq]; exact decide_eq_true he
        clear he
        go_wp2_with fail
        go_quiet (fail)
        go_wp2_with fail
        go_ret
        exact ⟨ret_bool' e.out.symm, _, World.drewN_drewN _ _ _⟩
      · have HE : Hid (¬ s[0] = t[k]) := he
        have q : ((s[0].toNat : Int) == (t[k].toNat : Int)) = false := by rw [Txt.u8_eq]; exact decide_eq_false he
        clear he
        go_wp2_with fail
        go_quiet (fail)
        go_wp2_with fail
        go_roundw
        case rel =>
          refine ⟨k + 1, by omega, by go_num, fun j hj h => ?_, _, rfl⟩
          by_cases q : j = k
          · subst q; exact HE.out
          · exact HA.out j hj (by omega)
        case measure => simp [intOf]; omega
    · have e : Hid (Txt.amgB s t = false) := Txt.amgB_no (fun ⟨_, j, hj, h⟩ => HA.out j hj (by omega) h)
      go_wp2_with fail
      go_ret
      exact ⟨ret_bool' e.out.symm, _, rfl⟩
end Go.Proofs.YtdajolpoiffimaaDoor
