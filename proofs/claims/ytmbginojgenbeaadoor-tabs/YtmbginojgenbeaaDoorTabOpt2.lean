/-
  The walks over the program's isOptions and the document's among.
-/
import Derived.Test.YtmbginojgenbeaaDoorTabOpt
namespace Go.Proofs.YtmbginojgenbeaaDoor
open Go.RowKit

theorem first_ways {x : Int} (h : x = 120 ∨ x = 111) : (x != 120) = false ∨ ((x != 120) = true ∧ (x != 111) = false) := by
  rcases h with rfl | rfl
  · left; rfl
  · right; exact ⟨rfl, rfl⟩
theorem second_ways {x : Int} (h : x = 97 ∨ x = 108 ∨ x = 110) : (x != 97) = false ∨ ((x != 97) = true ∧ (x != 108) = false) ∨ ((x != 97) = true ∧ (x != 108) = true ∧ (x != 110) = false) := by
  rcases h with rfl | rfl | rfl
  · left; rfl
  · right; left; exact ⟨rfl, rfl⟩
  · right; right; exact ⟨rfl, rfl, rfl⟩

set_option maxHeartbeats 2000000 in
theorem isOptions_any (s : ByteArray) (w : World) (_hs : s.size ≤ 300) :
    Calls Tryd.prog 53 #[.string s] w fun e w' => e = .returned (.bool (Txt.optB s)) ∧ w' = w := by
  by_cases z : s.size = 3
  rotate_left
  · have e : Hid (Txt.optB s = false) := Txt.optB_no (fun h => z h.1)
    have z' : ((s.size : Int) != 3) = true := by simp; omega
    clear z
    go_enter Tryd.func53, Tryd.ntmps53
    go_wp2_with fail
    go_ret
    exact ⟨ret_bool' e.out.symm, rfl⟩
  have z' : ((s.size : Int) != 3) = false := by simp; omega
  have i0 : 0 < s.size := by omega
  have i1 : 1 < s.size := by omega
  have i2 : 2 < s.size := by omega
  have Z : Hid (s.size = 3) := z
  clear z
  by_cases hf : (s[0].toNat : Int) = 120 ∨ (s[0].toNat : Int) = 111
  rotate_left
  · have e : Hid (Txt.optB s = false) := Txt.optB_no (fun ⟨_, h, _⟩ => hf h)
    have f1 : ((s[0].toNat : Int) != 120) = true := by simp; omega
    have f2 : ((s[0].toNat : Int) != 111) = true := by simp; omega
    clear hf
    go_enter Tryd.func53, Tryd.ntmps53
    go_wp2_with fail
    go_ret
    exact ⟨ret_bool' e.out.symm, rfl⟩
  have HF : Hid ((s[0].toNat : Int) = 120 ∨ (s[0].toNat : Int) = 111) := hf
  have W1 := first_ways hf
  clear hf
  by_cases hg : (s[1].toNat : Int) = 97 ∨ (s[1].toNat : Int) = 108 ∨ (s[1].toNat : Int) = 110
  rotate_left
  · have e : Hid (Txt.optB s = false) := Txt.optB_no (fun ⟨_, _, h, _⟩ => hg h)
    have g1 : ((s[1].toNat : Int) != 97) = true := by simp; omega
    have g2 : ((s[1].toNat : Int) != 108) = true := by simp; omega
    have g3 : ((s[1].toNat : Int) != 110) = true := by simp; omega
    clear hg
    rcases W1 with f1 | ⟨f1, f2⟩
    all_goals
      go_enter Tryd.func53, Tryd.ntmps53
      go_wp2_with fail
      go_ret
      exact ⟨ret_bool' e.out.symm, rfl⟩
  have HG : Hid ((s[1].toNat : Int) = 97 ∨ (s[1].toNat : Int) = 108 ∨ (s[1].toNat : Int) = 110) := hg
  have W2 := second_ways hg
  clear hg
  have W3 : Hid ((s[2].toNat : Int) < 49 ∧ Txt.optB s = false ∨ (49 ≤ (s[2].toNat : Int) ∧ (s[2].toNat : Int) ≤ 53 ∧ Txt.optB s = true) ∨ (49 ≤ (s[2].toNat : Int) ∧ 53 < (s[2].toNat : Int) ∧ Txt.optB s = false)) := by
    unfold Hid
    by_cases a : (s[2].toNat : Int) < 49
    · exact Or.inl ⟨a, Txt.optB_no (fun ⟨_, _, _, h, _⟩ => by omega)⟩
    · by_cases b : (s[2].toNat : Int) ≤ 53
      · exact Or.inr (Or.inl ⟨by omega, b, Txt.optB_yes ⟨Z.out, HF.out, HG.out, by omega, b⟩⟩)
      · exact Or.inr (Or.inr ⟨by omega, by omega, Txt.optB_no (fun ⟨_, _, _, _, h⟩ => by omega)⟩)
  clear HF HG Z
  rcases W3.out with ⟨a, e0⟩ | ⟨a, b, e0⟩ | ⟨a, b, e0⟩
  all_goals
    have e := (show Hid _ from e0)
    clear e0 W3
    rcases W1 with f1 | ⟨f1, f2⟩
    all_goals
      rcases W2 with g1 | ⟨g1, g2⟩ | ⟨g1, g2, g3⟩
      all_goals
        go_enter Tryd.func53, Tryd.ntmps53
        go_wp2_with fail
        go_ret
        first | exact ⟨ret_bool' e.out.symm, rfl⟩ | exact ⟨ret_bool' ((decide_eq_false (by omega)).trans e.out.symm), rfl⟩

set_option maxHeartbeats 1000000 in
theorem among_any (s t : ByteArray) (w : World) (hs : s.size ≤ 300) (ht : t.size ≤ 10) :
    Calls Tryd.prog 37 #[.string s, .string t] w fun e w' => e = .returned (.bool (Txt.amgB s t)) ∧ ∃ n, w' = w.drewN n := by
  by_cases z : s.size = 1
  rotate_left
  · have e : Hid (Txt.amgB s t = false) := Txt.amgB_no (fun h => z h.1)
    have z' : ((s.size : Int) == 1) = false := by simp; omega
    clear z
    go_enter Tryd.func37, Tryd.ntmps37
    go_wp2_with fail
    go_loop [5] (fun i => i = .int .i64 0) (fun _ => 0)
    case atStart => rfl
    case round =>
      subst hrel
      by_cases h0 : 0 < t.size
      · go_wp2_with fail
        go_ret
        exact ⟨ret_bool' e.out.symm, 0, rfl⟩
      · go_wp2_with fail
        go_ret
        exact ⟨ret_bool' e.out.symm, 0, rfl⟩
  have z' : ((s.size : Int) == 1) = true := by simp; omega
  have Z : Hid (s.size = 1) := z
  have i0 : 0 < s.size := by omega
  clear z
  go_enter Tryd.func37, Tryd.ntmps37
  go_wp2_with fail
  go_loopw [5] (fun i wr => ∃ k : Nat, k ≤ t.size ∧ i = .int .i64 k ∧ (∀ j (hj : j < t.size), j < k → ¬ s[0] = t[j]) ∧ ∃ n, wr = w.drewN n) (fun i _ => t.size - (intOf i).toNat)
  case atStart => exact ⟨0, Nat.zero_le _, rfl, fun j _ h => by omega, 0, rfl⟩
  case round =>
    obtain ⟨k, hk, rfl, hall, n0, rfl⟩ := hrel
    have HA : Hid (∀ j (hj : j < t.size), j < k → ¬ s[0] = t[j]) := hall
    clear hall
    by_cases hlt : k < t.size
    · have b1 : (0 : Int) ≤ (k : Int) := by omega
      have b2 : (k : Int) < (t.size : Int) := by omega
      have b3 : (0 : Int) < (s.size : Int) := by omega
      by_cases he : s[0] = t[k]
      · have e : Hid (Txt.amgB s t = true) := Txt.amgB_yes ⟨Z.out, k, hlt, he⟩
        have q : ((s[0].toNat : Int) == (t[k].toNat : Int)) = true := by rw [Txt.u8_eq]; exact decide_eq_true he
        clear he
        go_wp2_with fail
        go_quiet (fail)
        go_wp2_with fail
        go_ret
        exact ⟨ret_bool' e.out.symm, _, World.drewN_drewN _ _ _⟩
      · have HE : Hid (¬ s[0] = t[k]) := he
        have q : ((s[0].toNat : Int) == (t[k].toNat : Int)) = false := by rw [Txt.u8_eq]; exact decide_eq_false he
        clear he
        go_wp2_with fail
        go_quiet (fail)
        go_wp2_with fail
        go_roundw
        case rel =>
          refine ⟨k + 1, by omega, by go_num, fun j hj h => ?_, _, rfl⟩
          by_cases q : j = k
          · subst q; exact HE.out
          · exact HA.out j hj (by omega)
        case measure => simp [intOf]; omega
    · have e : Hid (Txt.amgB s t = false) := Txt.amgB_no (fun ⟨_, j, hj, h⟩ => HA.out j hj (by omega) h)
      go_wp2_with fail
      go_ret
      exact ⟨ret_bool' e.out.symm, _, rfl⟩
end Go.Proofs.YtmbginojgenbeaaDoor
