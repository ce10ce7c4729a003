/-
  The walks over the program's isOptions and the document's among.
-/
import Derived.Test.YtdajolpoiffimaaDoorTabOpt
namespace Go.Proofs.YtdajolpoiffimaaDoor
open Go.RowKit

theorem first_ways {x : Int} (h : x = 120 ∨ x = 111) : (x != 120) = false ∨ ((x != 120) = true ∧ (x != 111) = false) := by
  rcases h with rfl | rfl
  · left; rfl
  · right; exact ⟨rfl, rfl⟩
theorem second_ways {x : Int} (h : x = 97 ∨ x = 108 ∨ x = 110) : (x != 97) = false ∨ ((x != 97) = true ∧ (x != 108) = false) ∨ ((x != 97) = true ∧ (x != 108) = true ∧ (x != 110) = false) := by
  rcases h with rfl | rfl | rfl
  · left; rfl
  · right; left; exact ⟨rfl, rfl⟩
  · right; right; exact ⟨rfl, rfl, rfl⟩

/-- The options as a value; what readOptions answers. -/
abbrev optV (x : Bool) (c k : Int) : Value := .agg #[.bool x, .int .u8 c, .int .i64 k]
def obt (s : ByteArray) (i : Nat) : Int := ((s.data.toList[i]?).map (fun b => (b.toNat : Int))).getD 0
theorem obt_at {s : ByteArray} {i : Nat} (h : i < s.size) : (s[i].toNat : Int) = obt s i := by
  have hl : i < s.data.toList.length := by simpa using h
  unfold obt
  rw [List.getElem?_eq_getElem hl]; rfl
def OptR (s : ByteArray) (e : Ending) : Prop :=
  (Txt.optB s = true ∧ e = .returned (.tuple #[optV (obt s 0 == 120) (obt s 1) (obt s 2 - 48), .bool true])) ∨ (Txt.optB s = false ∧ e = .returned (.tuple #[optV false 0 0, .bool false]))
theorem OptR.no {s : ByteArray} (h : Txt.optB s = false) : OptR s (.returned (.tuple #[optV false 0 0, .bool false])) := Or.inr ⟨h, rfl⟩
theorem OptR.yes {s : ByteArray} {b : Bool} {c k : Int} (h : Txt.optB s = true) (h0 : b = (obt s 0 == 120)) (h1 : c = obt s 1) (h2 : k = obt s 2 - 48) : OptR s (.returned (.tuple #[optV b c k, .bool true])) := by subst h0 h1 h2; exact Or.inl ⟨h, rfl⟩

set_option maxHeartbeats 2000000 in
theorem readOptions_any (s : ByteArray) (w : World) (_hs : s.size ≤ 300) :
    Calls Tryd.prog 116 #[.string s] w fun e w' => OptR s e ∧ Below w.heap.size w w' := by
  by_cases z : s.size = 3
  rotate_left
  · have e : Hid (Txt.optB s = false) := Txt.optB_no (fun h => z h.1)
    have z' : ((s.size : Int) != 3) = true := by simp; omega
    clear z
    go_enter Tryd.func116, Tryd.ntmps116
    go_wp2_with fail
    exact bodyPost_ret (v := .tuple #[optV false 0 0, .bool false]) (by simp [results, Tryd.results116, go_sem]) rfl ⟨OptR.no e.out, below_alloc _ _⟩
  have z' : ((s.size : Int) != 3) = false := by simp; omega
  have i0 : 0 < s.size := by omega
  have i1 : 1 < s.size := by omega
  have i2 : 2 < s.size := by omega
  have Z : Hid (s.size = 3) := z
  clear z
  by_cases hf : (s[0].toNat : Int) = 120 ∨ (s[0].toNat : Int) = 111
  rotate_left
  · have e : Hid (Txt.optB s = false) := Txt.optB_no (fun ⟨_, h, _⟩ => hf h)
    have f1 : ((s[0].toNat : Int) != 120) = true := by simp; omega
    have f2 : ((s[0].toNat : Int) != 111) = true := by simp; omega
    clear hf
    go_enter Tryd.func116, Tryd.ntmps116
    go_wp2_with fail
    exact bodyPost_ret (v := .tuple #[optV false 0 0, .bool false]) (by simp [results, Tryd.results116, go_sem]) rfl ⟨OptR.no e.out, below_alloc _ _⟩
  have HF : Hid ((s[0].toNat : Int) = 120 ∨ (s[0].toNat : Int) = 111) := hf
  have W1 := first_ways hf
  clear hf
  by_cases hg : (s[1].toNat : Int) = 97 ∨ (s[1].toNat : Int) = 108 ∨ (s[1].toNat : Int) = 110
  rotate_left
  · have e : Hid (Txt.optB s = false) := Txt.optB_no (fun ⟨_, _, h, _⟩ => hg h)
    have g1 : ((s[1].toNat : Int) != 97) = true := by simp; omega
    have g2 : ((s[1].toNat : Int) != 108) = true := by simp; omega
    have g3 : ((s[1].toNat : Int) != 110) = true := by simp; omega
    clear hg
    rcases W1 with f1 | ⟨f1, f2⟩
    all_goals
      go_enter Tryd.func116, Tryd.ntmps116
      go_wp2_with fail
      exact bodyPost_ret (v := .tuple #[optV false 0 0, .bool false]) (by simp [results, Tryd.results116, go_sem]) rfl ⟨OptR.no e.out, below_alloc _ _⟩
  have HG : Hid ((s[1].toNat : Int) = 97 ∨ (s[1].toNat : Int) = 108 ∨ (s[1].toNat : Int) = 110) := hg
  have W2 := second_ways hg
  clear hg
  have W3 : Hid ((s[2].toNat : Int) < 49 ∧ Txt.optB s = false ∨ (49 ≤ (s[2].toNat : Int) ∧ (s[2].toNat : Int) ≤ 53 ∧ Txt.optB s = true) ∨ (49 ≤ (s[2].toNat : Int) ∧ 53 < (s[2].toNat : Int) ∧ Txt.optB s = false)) := by
    unfold Hid
    by_cases a : (s[2].toNat : Int) < 49
    · exact Or.inl ⟨a, Txt.optB_no (fun ⟨_, _, _, h, _⟩ => by omega)⟩
    · by_cases b : (s[2].toNat : Int) ≤ 53
      · exact Or.inr (Or.inl ⟨by omega, b, Txt.optB_yes ⟨Z.out, HF.out, HG.out, by omega, b⟩⟩)
      · exact Or.inr (Or.inr ⟨by omega, by omega, Txt.optB_no (fun ⟨_, _, _, _, h⟩ => by omega)⟩)
  clear HF HG Z
  have E0 : Hid (((s[0].toNat : Int) == 120) = (obt s 0 == 120)) := by unfold Hid; rw [obt_at i0]
  have E1 : Hid ((s[1].toNat : Int) = obt s 1) := obt_at i1
  have E2 : Hid ((s[2].toNat : Int) - 48 = obt s 2 - 48) := by unfold Hid; rw [obt_at i2]
  rcases W3.out with ⟨a, e0⟩ | ⟨a, b, e0⟩ | ⟨a, b, e0⟩
  · have e := (show Hid _ from e0)
    clear e0 W3
    rcases W1 with f1 | ⟨f1, f2⟩
    all_goals
      rcases W2 with g1 | ⟨g1, g2⟩ | ⟨g1, g2, g3⟩
      all_goals
        go_enter Tryd.func116, Tryd.ntmps116
        go_wp2_with fail
        exact bodyPost_ret (v := .tuple #[optV false 0 0, .bool false]) (by simp [results, Tryd.results116, go_sem]) rfl ⟨OptR.no e.out, below_alloc _ _⟩
  · have e := (show Hid _ from e0)
    clear e0 W3
    rcases W1 with f1 | ⟨f1, f2⟩
    all_goals
      rcases W2 with g1 | ⟨g1, g2⟩ | ⟨g1, g2, g3⟩
      all_goals
        go_enter Tryd.func116, Tryd.ntmps116
        go_wp2_with fail
        go_region
        go_wp2_with fail
        exact bodyPost_ret (v := .tuple #[optV ((s[0].toNat : Int) == 120) (s[1].toNat : Int) ((s[2].toNat : Int) - 48), .bool true]) (by simp [results, Tryd.results116, go_sem]) rfl ⟨OptR.yes e.out E0.out E1.out E2.out, (below_alloc _ _).drew⟩
  · have e := (show Hid _ from e0)
    clear e0 W3
    rcases W1 with f1 | ⟨f1, f2⟩
    all_goals
      rcases W2 with g1 | ⟨g1, g2⟩ | ⟨g1, g2, g3⟩
      all_goals
        go_enter Tryd.func116, Tryd.ntmps116
        go_wp2_with fail
        exact bodyPost_ret (v := .tuple #[optV false 0 0, .bool false]) (by simp [results, Tryd.results116, go_sem]) rfl ⟨OptR.no e.out, below_alloc _ _⟩
end Go.Proofs.YtdajolpoiffimaaDoor
