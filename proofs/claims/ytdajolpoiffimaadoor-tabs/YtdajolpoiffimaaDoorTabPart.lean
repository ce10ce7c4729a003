/-
  The walks over the program's readValues and readPart.
-/
import Derived.Test.YtdajolpoiffimaaDoorRBase
import Derived.Test.YtdajolpoiffimaaDoorTabNum
namespace Go.Proofs.YtdajolpoiffimaaDoor
open Go.RowKit

/-- A part, as a value. -/
abbrev partV (a b t : Int) : Value := .agg #[.int .i64 a, .int .i64 b, .int .i64 t]
/-- What readValues reads of a text without its step. -/
def rvA (l : Int) (s : ByteArray) : Int := if Txt.star s then l else Txt.val (Txt.cut1 45 s)
def rvB (g : Int) (s : ByteArray) : Int := if Txt.star s then g else if Txt.cut3 45 s then Txt.val (Txt.cut2 45 s) else Txt.val (Txt.cut1 45 s)
def rvK (l g : Int) (s : ByteArray) : Bool := decide (l ≤ rvA l s ∧ rvA l s ≤ rvB g s ∧ rvB g s ≤ g)
/-- What readValues answers. -/
def PartR (k : Bool) (a b t : Int) (e : Ending) : Prop := (k = true ∧ e = .returned (.tuple #[partV a b t, .bool true])) ∨ (k = false ∧ e = .returned (.tuple #[partV 0 0 0, .bool false]))
theorem partR_yes {k : Bool} {a b t a' b' t' : Int} (h : k = true) (ha : a = a') (hb : b = b') (ht : t = t') : PartR k a b t (.returned (.tuple #[partV a' b' t', .bool true])) := by
  subst ha hb ht; exact Or.inl ⟨h, rfl⟩
theorem partR_no {k : Bool} {a b t : Int} (h : k = false) : PartR k a b t (.returned (.tuple #[partV 0 0 0, .bool false])) := Or.inr ⟨h, rfl⟩
theorem num_ok {s : ByteArray} (h : 0 ≤ Txt.val s) : Txt.numV s = Txt.val s ∧ Txt.numB s = true := Txt.num_yes h
theorem num_bad {s : ByteArray} (h : Txt.val s < 0) : Txt.numV s = 0 ∧ Txt.numB s = false := Txt.num_no (by have := Txt.val_bd s; omega)

set_option maxHeartbeats 1000000 in
theorem rv_star (s : ByteArray) (l g : Int) (w : World) (_hs : s.size ≤ 300) (l1 : 0 ≤ l) (l2 : l ≤ 1) (g1 : 6 ≤ g) (g2 : g ≤ 59) (h1 : Txt.star s = true) :
    Calls Tryd.prog 129 #[.string s, .int .i64 l, .int .i64 g] w fun e w' => PartR (rvK l g s) (rvA l s) (rvB g s) 1 e ∧ Below w.heap.size w w' := by
  have hst : (s.toList == [42]) = true := h1
  have e : Hid (rvK l g s = true ∧ rvA l s = l ∧ rvB g s = g) := by
    have a : rvA l s = l := by simp [rvA, h1]
    have b : rvB g s = g := by simp [rvB, h1]
    exact ⟨decide_eq_true (by rw [a, b]; omega), a, b⟩
  clear h1
  go_enter Tryd.func129, Tryd.ntmps129
  go_wp2_with fail
  exact bodyPost_ret (v := .tuple #[partV l g 1, .bool true]) (by simp [results, Tryd.results129, go_sem]) rfl ⟨partR_yes e.out.1 e.out.2.1 e.out.2.2 rfl, by repeat (first | exact Below.refl _ _ | refine below_drewN ?_ _ | refine Below.setCell ?_ (by simp) _ | refine Below.alloc ?_ (by simp) _)⟩

set_option maxHeartbeats 1000000 in
theorem rv_c (s : ByteArray) (l g : Int) (w : World) (hs : s.size ≤ 300) (l1 : 0 ≤ l) (l2 : l ≤ 1) (_g1 : 6 ≤ g) (_g2 : g ≤ 59) (h1 : Txt.star s = false) (h3 : Txt.cut3 45 s = false) :
    Calls Tryd.prog 129 #[.string s, .int .i64 l, .int .i64 g] w fun e w' => PartR (rvK l g s) (rvA l s) (rvB g s) 1 e ∧ Below w.heap.size w w' := by
  have hst : (s.toList == [42]) = false := h1
  have a : Hid (rvA l s = Txt.val (Txt.cut1 45 s)) := by unfold Hid; simp [rvA, h1]
  have b : Hid (rvB g s = Txt.val (Txt.cut1 45 s)) := by unfold Hid; simp [rvB, h1, h3]
  have K : Hid (∀ r : Bool, r = decide (l ≤ Txt.val (Txt.cut1 45 s) ∧ Txt.val (Txt.cut1 45 s) ≤ Txt.val (Txt.cut1 45 s) ∧ Txt.val (Txt.cut1 45 s) ≤ g) → rvK l g s = r) := fun r h => by rw [h, rvK, a.out, b.out]
  have s1 : Hid ((Txt.cut1 45 s).size ≤ 300) := Nat.le_trans (Txt.cut1_size _ _) hs
  have s2 : Hid ((Txt.cut2 45 s).size ≤ 300) := Nat.le_trans (Txt.cut2_size _ _) hs
  have bA := Txt.val_bd (Txt.cut1 45 s)
  have bB := Txt.val_bd (Txt.cut1 45 s)
  clear h1
  go_enter Tryd.func129, Tryd.ntmps129
  go_wp2_with fail
  refine (cut_any _ _ _ hs).mono ?_
  rintro e w' ⟨rfl, n1, rfl⟩
  go_wp2_with fail
  refine (readNumber_any _ _ s1.out).mono ?_
  rintro e w' ⟨rfl, rfl⟩
  by_cases q1 : Txt.val (Txt.cut1 45 s) < 0
  · obtain ⟨r1, r2⟩ := num_bad q1
    go_wp2_with fail
    exact bodyPost_ret (v := .tuple #[partV 0 0 0, .bool false]) (by simp [results, Tryd.results129, go_sem]) rfl ⟨partR_no (K.out false (decide_eq_false (by omega)).symm), by repeat (first | exact Below.refl _ _ | refine below_drewN ?_ _ | refine Below.setCell ?_ (by simp) _ | refine Below.alloc ?_ (by simp) _)⟩
  obtain ⟨r1, r2⟩ := num_ok (show 0 ≤ Txt.val (Txt.cut1 45 s) by omega)
  by_cases q2 : Txt.val (Txt.cut1 45 s) < l
  · go_wp2_with fail
    exact bodyPost_ret (v := .tuple #[partV 0 0 0, .bool false]) (by simp [results, Tryd.results129, go_sem]) rfl ⟨partR_no (K.out false (decide_eq_false (by omega)).symm), by repeat (first | exact Below.refl _ _ | refine below_drewN ?_ _ | refine Below.setCell ?_ (by simp) _ | refine Below.alloc ?_ (by simp) _)⟩
  go_wp2_with fail
  refine (readNumber_any _ _ s1.out).mono ?_
  rintro e w' ⟨rfl, rfl⟩
  by_cases q5 : g < Txt.val (Txt.cut1 45 s)
  · go_wp2_with fail
    exact bodyPost_ret (v := .tuple #[partV 0 0 0, .bool false]) (by simp [results, Tryd.results129, go_sem]) rfl ⟨partR_no (K.out false (decide_eq_false (by omega)).symm), by repeat (first | exact Below.refl _ _ | refine below_drewN ?_ _ | refine Below.setCell ?_ (by simp) _ | refine Below.alloc ?_ (by simp) _)⟩
  go_wp2_with fail
  exact bodyPost_ret (v := .tuple #[partV (Txt.val (Txt.cut1 45 s)) (Txt.val (Txt.cut1 45 s)) 1, .bool true]) (by simp [results, Tryd.results129, go_sem]) rfl ⟨partR_yes (K.out true (decide_eq_true ⟨by omega, by omega, by omega⟩).symm) a.out b.out rfl, by repeat (first | exact Below.refl _ _ | refine below_drewN ?_ _ | refine Below.setCell ?_ (by simp) _ | refine Below.alloc ?_ (by simp) _)⟩

set_option maxHeartbeats 1000000 in
theorem rv_d (s : ByteArray) (l g : Int) (w : World) (hs : s.size ≤ 300) (l1 : 0 ≤ l) (l2 : l ≤ 1) (_g1 : 6 ≤ g) (_g2 : g ≤ 59) (h1 : Txt.star s = false) (h3 : Txt.cut3 45 s = true) :
    Calls Tryd.prog 129 #[.string s, .int .i64 l, .int .i64 g] w fun e w' => PartR (rvK l g s) (rvA l s) (rvB g s) 1 e ∧ Below w.heap.size w w' := by
  have hst : (s.toList == [42]) = false := h1
  have a : Hid (rvA l s = Txt.val (Txt.cut1 45 s)) := by unfold Hid; simp [rvA, h1]
  have b : Hid (rvB g s = Txt.val (Txt.cut2 45 s)) := by unfold Hid; simp [rvB, h1, h3]
  have K : Hid (∀ r : Bool, r = decide (l ≤ Txt.val (Txt.cut1 45 s) ∧ Txt.val (Txt.cut1 45 s) ≤ Txt.val (Txt.cut2 45 s) ∧ Txt.val (Txt.cut2 45 s) ≤ g) → rvK l g s = r) := fun r h => by rw [h, rvK, a.out, b.out]
  have s1 : Hid ((Txt.cut1 45 s).size ≤ 300) := Nat.le_trans (Txt.cut1_size _ _) hs
  have s2 : Hid ((Txt.cut2 45 s).size ≤ 300) := Nat.le_trans (Txt.cut2_size _ _) hs
  have bA := Txt.val_bd (Txt.cut1 45 s)
  have bB := Txt.val_bd (Txt.cut2 45 s)
  clear h1
  go_enter Tryd.func129, Tryd.ntmps129
  go_wp2_with fail
  refine (cut_any _ _ _ hs).mono ?_
  rintro e w' ⟨rfl, n1, rfl⟩
  go_wp2_with fail
  refine (readNumber_any _ _ s1.out).mono ?_
  rintro e w' ⟨rfl, rfl⟩
  by_cases q1 : Txt.val (Txt.cut1 45 s) < 0
  · obtain ⟨r1, r2⟩ := num_bad q1
    go_wp2_with fail
    exact bodyPost_ret (v := .tuple #[partV 0 0 0, .bool false]) (by simp [results, Tryd.results129, go_sem]) rfl ⟨partR_no (K.out false (decide_eq_false (by omega)).symm), by repeat (first | exact Below.refl _ _ | refine below_drewN ?_ _ | refine Below.setCell ?_ (by simp) _ | refine Below.alloc ?_ (by simp) _)⟩
  obtain ⟨r1, r2⟩ := num_ok (show 0 ≤ Txt.val (Txt.cut1 45 s) by omega)
  by_cases q2 : Txt.val (Txt.cut1 45 s) < l
  · go_wp2_with fail
    exact bodyPost_ret (v := .tuple #[partV 0 0 0, .bool false]) (by simp [results, Tryd.results129, go_sem]) rfl ⟨partR_no (K.out false (decide_eq_false (by omega)).symm), by repeat (first | exact Below.refl _ _ | refine below_drewN ?_ _ | refine Below.setCell ?_ (by simp) _ | refine Below.alloc ?_ (by simp) _)⟩
  go_wp2_with fail
  refine (readNumber_any _ _ s2.out).mono ?_
  rintro e w' ⟨rfl, rfl⟩
  by_cases q3 : Txt.val (Txt.cut2 45 s) < 0
  · obtain ⟨r3, r4⟩ := num_bad q3
    go_wp2_with fail
    exact bodyPost_ret (v := .tuple #[partV 0 0 0, .bool false]) (by simp [results, Tryd.results129, go_sem]) rfl ⟨partR_no (K.out false (decide_eq_false (by omega)).symm), by repeat (first | exact Below.refl _ _ | refine below_drewN ?_ _ | refine Below.setCell ?_ (by simp) _ | refine Below.alloc ?_ (by simp) _)⟩
  obtain ⟨r3, r4⟩ := num_ok (show 0 ≤ Txt.val (Txt.cut2 45 s) by omega)
  by_cases q4 : Txt.val (Txt.cut2 45 s) < Txt.val (Txt.cut1 45 s)
  · go_wp2_with fail
    exact bodyPost_ret (v := .tuple #[partV 0 0 0, .bool false]) (by simp [results, Tryd.results129, go_sem]) rfl ⟨partR_no (K.out false (decide_eq_false (by omega)).symm), by repeat (first | exact Below.refl _ _ | refine below_drewN ?_ _ | refine Below.setCell ?_ (by simp) _ | refine Below.alloc ?_ (by simp) _)⟩
  by_cases q5 : g < Txt.val (Txt.cut2 45 s)
  · go_wp2_with fail
    exact bodyPost_ret (v := .tuple #[partV 0 0 0, .bool false]) (by simp [results, Tryd.results129, go_sem]) rfl ⟨partR_no (K.out false (decide_eq_false (by omega)).symm), by repeat (first | exact Below.refl _ _ | refine below_drewN ?_ _ | refine Below.setCell ?_ (by simp) _ | refine Below.alloc ?_ (by simp) _)⟩
  go_wp2_with fail
  exact bodyPost_ret (v := .tuple #[partV (Txt.val (Txt.cut1 45 s)) (Txt.val (Txt.cut2 45 s)) 1, .bool true]) (by simp [results, Tryd.results129, go_sem]) rfl ⟨partR_yes (K.out true (decide_eq_true ⟨by omega, by omega, by omega⟩).symm) a.out b.out rfl, by repeat (first | exact Below.refl _ _ | refine below_drewN ?_ _ | refine Below.setCell ?_ (by simp) _ | refine Below.alloc ?_ (by simp) _)⟩

theorem readValues_any (s : ByteArray) (l g : Int) (w : World) (hs : s.size ≤ 300) (l1 : 0 ≤ l) (l2 : l ≤ 1) (g1 : 6 ≤ g) (g2 : g ≤ 59) :
    Calls Tryd.prog 129 #[.string s, .int .i64 l, .int .i64 g] w fun e w' => PartR (rvK l g s) (rvA l s) (rvB g s) 1 e ∧ Below w.heap.size w w' := by
  cases h1 : Txt.star s
  · cases h3 : Txt.cut3 45 s
    · exact rv_c s l g w hs l1 l2 g1 g2 h1 h3
    · exact rv_d s l g w hs l1 l2 g1 g2 h1 h3
  · exact rv_star s l g w hs l1 l2 g1 g2 h1
end Go.Proofs.YtdajolpoiffimaaDoor
