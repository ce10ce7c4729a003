/-
  Options and steps of a line, as plain mathematics.
-/
import Derived.Test.YtdajolpoiffimaaDoorFld
namespace Go.Proofs.YtdajolpoiffimaaDoor.Txt

/-- A letter or a digit? -/
def wb (b : Int) : Bool := decide ((48 ≤ b ∧ b ≤ 57) ∨ (97 ≤ b ∧ b ≤ 122) ∨ (65 ≤ b ∧ b ≤ 90))
theorem wb_yes {b : Int} (h : (48 ≤ b ∧ b ≤ 57) ∨ (97 ≤ b ∧ b ≤ 122) ∨ (65 ≤ b ∧ b ≤ 90)) : wb b = true := decide_eq_true h
theorem wb_no {b : Int} (h : ¬ ((48 ≤ b ∧ b ≤ 57) ∨ (97 ≤ b ∧ b ≤ 122) ∨ (65 ≤ b ∧ b ≤ 90))) : wb b = false := decide_eq_false h
theorem wb_dg {b : Int} (h1 : ¬ (97 ≤ b ∧ b ≤ 122)) (h2 : ¬ (65 ≤ b ∧ b ≤ 90)) : dg b = wb b := by
  unfold dg wb; congr 1; apply propext; omega
/-- Is a text a step? -/
def StepP (s : ByteArray) : Prop := 2 ≤ s.size ∧ s.size ≤ 9 ∧ ∃ h : 0 < s.size, ((s[0].toNat : Int) = 62 ∨ (s[0].toNat : Int) = 60) ∧ ∀ j (hj : j < s.size), 1 ≤ j → wb (s[j].toNat) = true
open Classical in
noncomputable def stepB (s : ByteArray) : Bool := decide (StepP s)
open Classical in
theorem stepB_yes {s : ByteArray} (h : StepP s) : stepB s = true := by unfold stepB; exact decide_eq_true h
open Classical in
theorem stepB_no {s : ByteArray} (h : ¬ StepP s) : stepB s = false := by unfold stepB; exact decide_eq_false h
/-- Are three bytes the options? -/
def OptP (s : ByteArray) : Prop := ∃ h : s.size = 3, ((s[0].toNat : Int) = 120 ∨ (s[0].toNat : Int) = 111) ∧ ((s[1].toNat : Int) = 97 ∨ (s[1].toNat : Int) = 108 ∨ (s[1].toNat : Int) = 110) ∧ 49 ≤ (s[2].toNat : Int) ∧ (s[2].toNat : Int) ≤ 53
open Classical in
noncomputable def optB (s : ByteArray) : Bool := decide (OptP s)
open Classical in
theorem optB_yes {s : ByteArray} (h : OptP s) : optB s = true := by unfold optB; exact decide_eq_true h
open Classical in
theorem optB_no {s : ByteArray} (h : ¬ OptP s) : optB s = false := by unfold optB; exact decide_eq_false h
/-- Is it one byte, of these? -/
def AmgP (s t : ByteArray) : Prop := ∃ h : s.size = 1, ∃ j, ∃ hj : j < t.size, s[0] = t[j]
open Classical in
noncomputable def amgB (s t : ByteArray) : Bool := decide (AmgP s t)
open Classical in
theorem amgB_yes {s t : ByteArray} (h : AmgP s t) : amgB s t = true := by unfold amgB; exact decide_eq_true h
open Classical in
theorem amgB_no {s t : ByteArray} (h : ¬ AmgP s t) : amgB s t = false := by unfold amgB; exact decide_eq_false h
theorem u8_eq {a b : UInt8} : ((a.toNat : Int) == (b.toNat : Int)) = decide (a = b) := by
  by_cases h : a = b
  · subst h; simp
  · have : ¬ (a.toNat : Int) = (b.toNat : Int) := by
      intro e; exact h (UInt8.toNat_inj.1 (by omega))
    rw [decide_eq_false h]; simpa using this
open Classical in
/-- The three bytes, one by one, as the document looks at them. -/
theorem opt_amg {s : ByteArray} (h : s.size = 3) : (amgB (s.extract 0 1) ⟨#[120, 111]⟩ && amgB (s.extract 1 2) ⟨#[97, 108, 110]⟩ && amgB (s.extract 2 s.size) ⟨#[49, 50, 51, 52, 53]⟩) = optB s := by
  have z0 : (s.extract 0 1).size = 1 := by simp [ByteArray.size_extract]; omega
  have z1 : (s.extract 1 2).size = 1 := by simp [ByteArray.size_extract]; omega
  have z2 : (s.extract 2 s.size).size = 1 := by simp [ByteArray.size_extract]; omega
  have g0 : (s.extract 0 1)[0] = s[0] := by rw [getElem_ext _ _ _ _ (by omega) (by omega)]
  have g1 : (s.extract 1 2)[0] = s[1] := by rw [getElem_ext _ _ _ _ (by omega) (by omega)]
  have g2 : (s.extract 2 s.size)[0] = s[2] := by rw [getElem_ext _ _ _ _ (by omega) (by omega)]
  have a0 : AmgP (s.extract 0 1) ⟨#[120, 111]⟩ ↔ ((s[0].toNat : Int) = 120 ∨ (s[0].toNat : Int) = 111) := by
    constructor
    · rintro ⟨_, j, hj, e⟩
      rw [g0] at e; rw [e]
      match j, hj with
      | 0, _ => left; rfl
      | 1, _ => right; rfl
    · rintro (e | e)
      · exact ⟨z0, 0, by decide, by rw [g0]; exact UInt8.toNat_inj.1 (by show _ = 120; omega)⟩
      · exact ⟨z0, 1, by decide, by rw [g0]; exact UInt8.toNat_inj.1 (by show _ = 111; omega)⟩
  have a1 : AmgP (s.extract 1 2) ⟨#[97, 108, 110]⟩ ↔ ((s[1].toNat : Int) = 97 ∨ (s[1].toNat : Int) = 108 ∨ (s[1].toNat : Int) = 110) := by
    constructor
    · rintro ⟨_, j, hj, e⟩
      rw [g1] at e; rw [e]
      match j, hj with
      | 0, _ => left; rfl
      | 1, _ => right; left; rfl
      | 2, _ => right; right; rfl
    · rintro (e | e | e)
      · exact ⟨z1, 0, by decide, by rw [g1]; exact UInt8.toNat_inj.1 (by show _ = 97; omega)⟩
      · exact ⟨z1, 1, by decide, by rw [g1]; exact UInt8.toNat_inj.1 (by show _ = 108; omega)⟩
      · exact ⟨z1, 2, by decide, by rw [g1]; exact UInt8.toNat_inj.1 (by show _ = 110; omega)⟩
  have a2 : AmgP (s.extract 2 s.size) ⟨#[49, 50, 51, 52, 53]⟩ ↔ (49 ≤ (s[2].toNat : Int) ∧ (s[2].toNat : Int) ≤ 53) := by
    constructor
    · rintro ⟨_, j, hj, e⟩
      rw [g2] at e; rw [e]
      match j, hj with
      | 0, _ => exact ⟨(by decide : (49 : Int) ≤ 49), (by decide : (49 : Int) ≤ 53)⟩
      | 1, _ => exact ⟨(by decide : (49 : Int) ≤ 50), (by decide : (50 : Int) ≤ 53)⟩
      | 2, _ => exact ⟨(by decide : (49 : Int) ≤ 51), (by decide : (51 : Int) ≤ 53)⟩
      | 3, _ => exact ⟨(by decide : (49 : Int) ≤ 52), (by decide : (52 : Int) ≤ 53)⟩
      | 4, _ => exact ⟨(by decide : (49 : Int) ≤ 53), (by decide : (53 : Int) ≤ 53)⟩
    · rintro ⟨e1, e2⟩
      have : s[2].toNat = 49 ∨ s[2].toNat = 50 ∨ s[2].toNat = 51 ∨ s[2].toNat = 52 ∨ s[2].toNat = 53 := by omega
      rcases this with e | e | e | e | e
      · exact ⟨z2, 0, by decide, by rw [g2]; exact UInt8.toNat_inj.1 e⟩
      · exact ⟨z2, 1, by decide, by rw [g2]; exact UInt8.toNat_inj.1 e⟩
      · exact ⟨z2, 2, by decide, by rw [g2]; exact UInt8.toNat_inj.1 e⟩
      · exact ⟨z2, 3, by decide, by rw [g2]; exact UInt8.toNat_inj.1 e⟩
      · exact ⟨z2, 4, by decide, by rw [g2]; exact UInt8.toNat_inj.1 e⟩
  have o : OptP s ↔ (AmgP (s.extract 0 1) ⟨#[120, 111]⟩ ∧ AmgP (s.extract 1 2) ⟨#[97, 108, 110]⟩ ∧ AmgP (s.extract 2 s.size) ⟨#[49, 50, 51, 52, 53]⟩) := by
    rw [a0, a1, a2]
    constructor
    · rintro ⟨_, h1, h2, h3, h4⟩; exact ⟨h1, h2, h3, h4⟩
    · rintro ⟨h1, h2, h3, h4⟩; exact ⟨h, h1, h2, h3, h4⟩
  unfold amgB optB
  by_cases p0 : AmgP (s.extract 0 1) ⟨#[120, 111]⟩ <;> by_cases p1 : AmgP (s.extract 1 2) ⟨#[97, 108, 110]⟩ <;> by_cases p2 : AmgP (s.extract 2 s.size) ⟨#[49, 50, 51, 52, 53]⟩ <;> simp [o, p0, p1, p2]
end Go.Proofs.YtdajolpoiffimaaDoor.Txt
