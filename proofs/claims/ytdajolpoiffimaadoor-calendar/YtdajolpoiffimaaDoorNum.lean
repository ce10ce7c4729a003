/-
  Digits, numbers and spans of a crontab's fields, as plain mathematics.
-/
import Derived.Test.YtdajolpoiffimaaDoorTxt
namespace Go.Proofs.YtdajolpoiffimaaDoor.Txt

/-- A digit? -/
def dg (b : Int) : Bool := decide (48 ≤ b ∧ b ≤ 57)
theorem dg_yes {b : Int} (h1 : 48 ≤ b) (h2 : b ≤ 57) : dg b = true := decide_eq_true ⟨h1, h2⟩
theorem dg_no {b : Int} (h : b < 48 ∨ 57 < b) : dg b = false := decide_eq_false (by omega)
theorem dg_of {b : Int} (h : dg b = true) : 48 ≤ b ∧ b ≤ 57 := of_decide_eq_true h
theorem dg_not {b : Int} (h : dg b = false) : b < 48 ∨ 57 < b := by have := of_decide_eq_false h; omega
/-- All of them digits? -/
def digs (s : ByteArray) : Bool := s.data.toList.all fun b => dg b.toNat
theorem digs_yes {s : ByteArray} (h : ∀ j (hj : j < s.size), dg (s[j].toNat) = true) : digs s = true := by
  unfold digs; rw [List.all_eq_true]
  intro b hb
  obtain ⟨j, hj, rfl⟩ := List.mem_iff_getElem.1 hb
  exact h j (by simpa using hj)
theorem digs_at {s : ByteArray} (h : digs s = true) (j : Nat) (hj : j < s.size) : dg (s[j].toNat) = true := by
  unfold digs at h; rw [List.all_eq_true] at h
  exact h _ (List.getElem_mem (l := s.data.toList) (by simpa using hj))
theorem digs_no {s : ByteArray} {j : Nat} (hj : j < s.size) (h : dg (s[j].toNat) = false) : digs s = false := by
  cases e : digs s
  · rfl
  · rw [digs_at e j hj] at h; cases h
/-- The number that the first k bytes write. -/
def pv (s : ByteArray) (k : Nat) : Int := (s.data.toList.take k).foldl (fun n b => n * 10 + ((b.toNat : Int) - 48)) 0
theorem pv_0 (s : ByteArray) : pv s 0 = 0 := by simp [pv]
theorem pv_succ (s : ByteArray) (k : Nat) (h : k < s.size) : pv s (k + 1) = pv s k * 10 + ((s[k].toNat : Int) - 48) := by
  unfold pv
  rw [List.take_succ_eq_append_getElem (by simpa using h), List.foldl_append]; rfl
theorem u8_bd (b : UInt8) : 0 ≤ (b.toNat : Int) ∧ (b.toNat : Int) ≤ 255 := by have := b.toNat_lt; omega
theorem pv_bd (s : ByteArray) (k : Nat) (h : k ≤ s.size) (h2 : k ≤ 2) : -1000 ≤ pv s k ∧ pv s k ≤ 10000 := by
  match k, h, h2 with
  | 0, _, _ => rw [pv_0]; omega
  | 1, h, _ => rw [pv_succ s 0 (by omega), pv_0]; have := u8_bd s[0]; omega
  | 2, h, _ => rw [pv_succ s 1 (by omega), pv_succ s 0 (by omega), pv_0]; have := u8_bd s[0]; have := u8_bd s[1]; omega
/-- The number that a text of one digit or two writes; -1: it is none. -/
def val (s : ByteArray) : Int := if (s.size = 1 ∨ s.size = 2) ∧ digs s = true then pv s s.size else -1
theorem val_yes {s : ByteArray} (h1 : 1 ≤ s.size) (h2 : s.size ≤ 2) (hd : digs s = true) : val s = pv s s.size := if_pos ⟨by omega, hd⟩
theorem val_no {s : ByteArray} (h : s.size < 1 ∨ 2 < s.size ∨ digs s = false) : val s = -1 := by
  refine if_neg ?_
  rintro ⟨a, b⟩
  rcases h with h | h | h
  · omega
  · omega
  · rw [b] at h; cases h
theorem val_bd (s : ByteArray) : -1 ≤ val s ∧ val s ≤ 99 := by
  by_cases h : (s.size = 1 ∨ s.size = 2) ∧ digs s = true
  · rw [val, if_pos h]
    obtain ⟨h1, hd⟩ := h
    rcases h1 with h1 | h1
    · rw [h1, pv_succ s 0 (by omega), pv_0]
      have := dg_of (digs_at hd 0 (by omega)); omega
    · rw [h1, pv_succ s 1 (by omega), pv_succ s 0 (by omega), pv_0]
      have := dg_of (digs_at hd 0 (by omega)); have := dg_of (digs_at hd 1 (by omega)); omega
  · rw [val, if_neg h]; omega
theorem val_nn {s : ByteArray} (h1 : 1 ≤ s.size) (h2 : s.size ≤ 2) (hd : digs s = true) : 0 ≤ val s := by
  rw [val_yes h1 h2 hd]
  by_cases e : s.size = 1
  · rw [e, pv_succ s 0 (by omega), pv_0]
    have := dg_of (digs_at hd 0 (by omega)); omega
  · have e : s.size = 2 := by omega
    rw [e, pv_succ s 1 (by omega), pv_succ s 0 (by omega), pv_0]
    have := dg_of (digs_at hd 0 (by omega)); have := dg_of (digs_at hd 1 (by omega)); omega
/-- What readNumber answers. -/
def numV (s : ByteArray) : Int := if 0 ≤ val s then val s else 0
def numB (s : ByteArray) : Bool := decide (0 ≤ val s)
theorem num_no {s : ByteArray} (h : val s = -1) : numV s = 0 ∧ numB s = false := by simp [numV, numB, h]
theorem num_yes {s : ByteArray} (h : 0 ≤ val s) : numV s = val s ∧ numB s = true := by simp [numV, numB, h]
theorem numV_bd (s : ByteArray) : 0 ≤ numV s ∧ numV s ≤ 99 := by have := val_bd s; unfold numV; split <;> omega

/-- The text "*". -/
def star (s : ByteArray) : Bool := s.toList == [42]
/-- A part of a field whose values go from lo to hi: its first value, its last, its step; is it one? -/
def spA (lo : Int) (p : ByteArray) : Int := if star (cut1 47 p) then lo else val (cut1 45 (cut1 47 p))
def spB (hi : Int) (p : ByteArray) : Int := if star (cut1 47 p) then hi else if cut3 45 (cut1 47 p) then val (cut2 45 (cut1 47 p)) else val (cut1 45 (cut1 47 p))
def spS (p : ByteArray) : Int := if cut3 47 p then val (cut2 47 p) else 1
def spK (lo hi : Int) (p : ByteArray) : Bool := decide ((star (cut1 47 p) = true ∨ cut3 47 p = false ∨ cut3 45 (cut1 47 p) = true) ∧ 1 ≤ spS p ∧ lo ≤ spA lo p ∧ spA lo p ≤ spB hi p ∧ spB hi p ≤ hi)
end Go.Proofs.YtdajolpoiffimaaDoor.Txt
