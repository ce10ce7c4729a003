/-
  The walks over steps and options: the program's and the document's.
-/
import Derived.Test.YtdajolpoiffimaaDoorTabText
import Derived.Test.YtdajolpoiffimaaDoorRBase
namespace Go.Proofs.YtdajolpoiffimaaDoor
open Go.RowKit

set_option maxHeartbeats 400000 in
theorem isWordByte_any (b : Int) (w : World) :
    Calls Tryd.prog 127 #[.int .u8 b] w fun e w' => e = .returned (.bool (Txt.wb b)) ∧ w' = w := by
  by_cases h1 : 97 ≤ b
  · by_cases h2 : b ≤ 122
    · have e : Hid (Txt.wb b = true) := Txt.wb_yes (by omega)
      go_enter Tryd.func127, Tryd.ntmps127
      go_wp2_with fail
      go_ret
      exact ⟨ret_bool' e.out.symm, rfl⟩
    · have h3 : ¬ b ≤ 90 := by omega
      have h4 : 65 ≤ b := by omega
      have e : Hid (Txt.dg b = Txt.wb b) := Txt.wb_dg (by omega) (by omega)
      go_enter Tryd.func127, Tryd.ntmps127
      go_wp2_with (go_at_call 132; refine (isDigit_any _ _).mono ?_; rintro e w' ⟨rfl, rfl⟩)
      go_ret
      exact ⟨ret_bool' e.out, rfl⟩
  · by_cases h3 : 65 ≤ b
    · by_cases h4 : b ≤ 90
      · have e : Hid (Txt.wb b = true) := Txt.wb_yes (by omega)
        go_enter Tryd.func127, Tryd.ntmps127
        go_wp2_with fail
        go_ret
        exact ⟨ret_bool' e.out.symm, rfl⟩
      · have e : Hid (Txt.dg b = Txt.wb b) := Txt.wb_dg (by omega) (by omega)
        go_enter Tryd.func127, Tryd.ntmps127
        go_wp2_with (go_at_call 132; refine (isDigit_any _ _).mono ?_; rintro e w' ⟨rfl, rfl⟩)
        go_ret
        exact ⟨ret_bool' e.out, rfl⟩
    · have e : Hid (Txt.dg b = Txt.wb b) := Txt.wb_dg (by omega) (by omega)
      go_enter Tryd.func127, Tryd.ntmps127
      go_wp2_with (go_at_call 132; refine (isDigit_any _ _).mono ?_; rintro e w' ⟨rfl, rfl⟩)
      go_ret
      exact ⟨ret_bool' e.out, rfl⟩

/-- A step, as a value; what readStep answers. -/
abbrev stepV (b : Bool) (x : ByteArray) : Value := .agg #[.bool b, .string x]
def StepR (s : ByteArray) (e : Ending) : Prop :=
  (Txt.stepB s = true ∧ e = .returned (.tuple #[stepV (sayB s) (s.extract 1 s.size), .bool true])) ∨ (Txt.stepB s = false ∧ e = .returned (.tuple #[stepV false ByteArray.empty, .bool false]))
theorem StepR.no {s : ByteArray} (h : Txt.stepB s = false) : StepR s (.returned (.tuple #[stepV false ByteArray.empty, .bool false])) := Or.inr ⟨h, rfl⟩
theorem StepR.yes {s : ByteArray} {b : Bool} (h : Txt.stepB s = true) (hb : b = sayB s) : StepR s (.returned (.tuple #[stepV b (s.extract 1 s.size), .bool true])) := by subst hb; exact Or.inl ⟨h, rfl⟩

set_option maxHeartbeats 1000000 in
theorem readStep_any (s : ByteArray) (w : World) (hs : s.size ≤ 300) :
    Calls Tryd.prog 117 #[.string s] w fun e w' => StepR s e ∧ Below w.heap.size w w' := by
  by_cases h2 : s.size < 2
  · have e : Hid (Txt.stepB s = false) := Txt.stepB_no (fun h => by have := h.1; omega)
    go_enter Tryd.func117, Tryd.ntmps117
    go_wp2_with fail
    exact bodyPost_ret (v := .tuple #[stepV false ByteArray.empty, .bool false]) (by simp [results, Tryd.results117, go_sem]; rfl) rfl ⟨StepR.no e.out, by repeat (first | exact below_alloc _ _ | refine Below.setCell ?_ (by simp) _)⟩
  by_cases h9 : 9 < s.size
  · have e : Hid (Txt.stepB s = false) := Txt.stepB_no (fun h => by have := h.2.1; omega)
    go_enter Tryd.func117, Tryd.ntmps117
    go_wp2_with fail
    exact bodyPost_ret (v := .tuple #[stepV false ByteArray.empty, .bool false]) (by simp [results, Tryd.results117, go_sem]; rfl) rfl ⟨StepR.no e.out, by repeat (first | exact below_alloc _ _ | refine Below.setCell ?_ (by simp) _)⟩
  have h0 : 0 < s.size := by omega
  by_cases hf : (s[0].toNat : Int) = 62 ∨ (s[0].toNat : Int) = 60
  rotate_left
  · have e : Hid (Txt.stepB s = false) := Txt.stepB_no (fun ⟨_, _, _, h, _⟩ => hf h)
    have f1 : ((s[0].toNat : Int) != 62) = true := by simp; omega
    have f2 : ((s[0].toNat : Int) != 60) = true := by simp; omega
    clear hf
    go_enter Tryd.func117, Tryd.ntmps117
    go_wp2_with fail
    exact bodyPost_ret (v := .tuple #[stepV false ByteArray.empty, .bool false]) (by simp [results, Tryd.results117, go_sem]; rfl) rfl ⟨StepR.no e.out, by repeat (first | exact below_alloc _ _ | refine Below.setCell ?_ (by simp) _)⟩
  have HF : Hid ((s[0].toNat : Int) = 62 ∨ (s[0].toNat : Int) = 60) := hf
  have HS : Hid (((s[0].toNat : Int) == 62) = sayB s) := sayB_at h0 hf
  have HE : Hid (((s[0].toNat : Int) != 62) = false ∨ (((s[0].toNat : Int) != 62) = true ∧ ((s[0].toNat : Int) != 60) = false)) := by
    unfold Hid; rcases hf with h | h
    · left; simp [h]
    · right; constructor <;> simp [h]
  clear hf
  rcases HE.out with f1 | ⟨f1, f2⟩
  all_goals
    clear HE
    go_enter Tryd.func117, Tryd.ntmps117
    go_wp2_with fail
    go_loop [4] (fun i => ∃ k : Nat, 1 ≤ k ∧ k ≤ s.size ∧ i = .int .i64 k ∧ ∀ j (hj : j < s.size), 1 ≤ j → j < k → Txt.wb (s[j].toNat) = true) (fun i => s.size - (intOf i).toNat)
    case atStart => exact ⟨1, Nat.le_refl _, by omega, rfl, fun j _ h h' => by omega⟩
    case round =>
      obtain ⟨k, hk1, hk, rfl, hall⟩ := hrel
      have HA : Hid (∀ j (hj : j < s.size), 1 ≤ j → j < k → Txt.wb (s[j].toNat) = true) := hall
      clear hall
      by_cases hlt : k < s.size
      · cases hd : Txt.wb (s[k].toNat)
        · have e : Hid (Txt.stepB s = false) := step_bad hlt hk1 hd
          go_wp2_with (go_at_call 127; refine (isWordByte_any _ _).mono ?_; rintro e w' ⟨rfl, rfl⟩)
          exact bodyPost_ret (v := .tuple #[stepV false ByteArray.empty, .bool false]) (by simp [results, Tryd.results117, go_sem]; rfl) rfl ⟨StepR.no e.out, by repeat (first | exact below_alloc _ _ | refine Below.setCell ?_ (by simp) _)⟩
        · have HD : Hid (Txt.wb (s[k].toNat) = true) := hd
          go_wp2_with (go_at_call 127; refine (isWordByte_any _ _).mono ?_; rintro e w' ⟨rfl, rfl⟩)
          go_round
          case rel =>
            refine ⟨k + 1, by omega, by omega, by go_num, fun j hj h1 h => ?_⟩
            by_cases q : j = k
            · subst q; exact HD.out
            · exact HA.out j hj h1 (by omega)
          case measure => simp [intOf]; omega
      · have e : Hid (Txt.stepB s = true) := step_last (by omega) (by omega) (by omega) h0 HF.out HA.out
        go_wp2_with fail
        go_region
        go_wp2_with fail
        exact bodyPost_ret (v := .tuple #[stepV ((s[0].toNat : Int) == 62) (s.extract 1 s.size), .bool true]) (by simp [results, Tryd.results117, go_sem]) rfl ⟨StepR.yes e.out HS.out, (below_alloc _ _).drew⟩
end Go.Proofs.YtdajolpoiffimaaDoor
