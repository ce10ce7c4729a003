/-
  The walks over spans: the document's span, the program's readValues and readPart.
-/
import Derived.Test.YtmbginojgenbeaaDoorTabNum
namespace Go.Proofs.YtmbginojgenbeaaDoor
open Go.RowKit

/-- The least and the greatest value of field i. -/
def lo (i : Int) : Int := if i = 2 ∨ i = 3 then 1 else 0
def hi (i : Int) : Int := if i = 0 then 59 else if i = 1 then 23 else if i = 2 then 31 else if i = 3 then 12 else 6

set_option maxHeartbeats 400000 in
theorem lowest_any (i : Int) (w : World) :
    Calls Tryd.prog 56 #[.int .i64 i] w fun e w' => e = .returned (.int .i64 (lo i)) ∧ w' = w := by
  by_cases a : i = 2
  · subst a
    go_enter Tryd.func56, Tryd.ntmps56
    go_wp2_with fail
    go_ret
    exact ⟨rfl, rfl⟩
  by_cases b : i = 3
  · subst b
    go_enter Tryd.func56, Tryd.ntmps56
    go_wp2_with fail
    go_ret
    exact ⟨rfl, rfl⟩
  have e : Hid (lo i = 0) := if_neg (by omega)
  have a' : (i == 2) = false := by simpa using a
  have b' : (i == 3) = false := by simpa using b
  go_enter Tryd.func56, Tryd.ntmps56
  go_wp2_with fail
  go_ret
  exact ⟨ret_int' e.out.symm, rfl⟩

set_option maxHeartbeats 400000 in
theorem highest_any (i : Int) (w : World) :
    Calls Tryd.prog 57 #[.int .i64 i] w fun e w' => e = .returned (.int .i64 (hi i)) ∧ w' = w := by
  by_cases h : i = 0 ∨ i = 1 ∨ i = 2 ∨ i = 3
  · rcases h with rfl | rfl | rfl | rfl
    all_goals
      go_enter Tryd.func57, Tryd.ntmps57
      go_wp2_with fail
      go_ret
      exact ⟨rfl, rfl⟩
  have h0 : ¬ i = 0 := by omega
  have h1 : ¬ i = 1 := by omega
  have h2 : ¬ i = 2 := by omega
  have h3 : ¬ i = 3 := by omega
  have e : Hid (hi i = 6) := by unfold Hid hi; rw [if_neg h0, if_neg h1, if_neg h2, if_neg h3]
  clear h
  go_enter Tryd.func57, Tryd.ntmps57
  go_wp2_with fail
  go_ret
  exact ⟨ret_int' e.out.symm, rfl⟩

/-- What span answers. -/
def SpanR (i : Int) (p : ByteArray) (e : Ending) : Prop := ∃ a b t : Int, e = .returned (.tuple #[.int .i64 a, .int .i64 b, .int .i64 t, .bool (Txt.spK (lo i) (hi i) p)]) ∧
  (-1 ≤ a ∧ a ≤ 99 ∧ -1 ≤ b ∧ b ≤ 99 ∧ -1 ≤ t ∧ t ≤ 99) ∧ (Txt.spK (lo i) (hi i) p = true → a = Txt.spA (lo i) p ∧ b = Txt.spB (hi i) p ∧ t = Txt.spS p)
theorem lohi (i : Int) : 0 ≤ lo i ∧ lo i ≤ 1 ∧ 6 ≤ hi i ∧ hi i ≤ 59 := by
  unfold lo hi; repeat' split
  all_goals omega
theorem span_mk {i : Int} {p : ByteArray} {a b t : Int} {r : Bool} (hA : Txt.spA (lo i) p = a) (hB : Txt.spB (hi i) p = b) (hS : Txt.spS p = t) (hK : Txt.star (Txt.cut1 47 p) = true ∨ Txt.cut3 47 p = false ∨ Txt.cut3 45 (Txt.cut1 47 p) = true)
    (hr : r = decide (1 ≤ t ∧ lo i ≤ a ∧ a ≤ b ∧ b ≤ hi i)) (bd : -1 ≤ a ∧ a ≤ 99 ∧ -1 ≤ b ∧ b ≤ 99 ∧ -1 ≤ t ∧ t ≤ 99) : SpanR i p (.returned (.tuple #[.int .i64 a, .int .i64 b, .int .i64 t, .bool r])) := by
  have e : Txt.spK (lo i) (hi i) p = r := by
    rw [hr, Txt.spK, hA, hB, hS]
    by_cases q : 1 ≤ t ∧ lo i ≤ a ∧ a ≤ b ∧ b ≤ hi i
    · rw [decide_eq_true q]; exact decide_eq_true ⟨hK, q⟩
    · rw [decide_eq_false q]; exact decide_eq_false (fun h => q h.2)
  exact ⟨a, b, t, by rw [e], bd, fun _ => ⟨hA.symm, hB.symm, hS.symm⟩⟩
theorem span_no {i : Int} {p : ByteArray} (h1 : Txt.star (Txt.cut1 47 p) = false) (h2 : Txt.cut3 47 p = true) (h3 : Txt.cut3 45 (Txt.cut1 47 p) = false) : SpanR i p (.returned (.tuple #[.int .i64 0, .int .i64 0, .int .i64 0, .bool false])) := by
  have e : Txt.spK (lo i) (hi i) p = false := decide_eq_false (by simp [h1, h2, h3])
  exact ⟨0, 0, 0, by rw [e], by omega, fun h => by rw [e] at h; cases h⟩

set_option maxHeartbeats 1000000 in
theorem span_a (p : ByteArray) (i : Int) (w : World) (hs : p.size ≤ 300) (h1 : Txt.star (Txt.cut1 47 p) = true) (h2 : Txt.cut3 47 p = false) :
    Calls Tryd.prog 47 #[.string p, .int .i64 i] w fun e w' => SpanR i p e ∧ ∃ n, w' = w.drewN n := by
  have hA : Hid (Txt.spA (lo i) p = lo i) := by unfold Hid; simp [Txt.spA, h1]
  have hB : Hid (Txt.spB (hi i) p = hi i) := by unfold Hid; simp [Txt.spB, h1]
  have hS : Hid (Txt.spS p = 1) := by unfold Hid; simp [Txt.spS, h2]
  have hK : Hid (Txt.star (Txt.cut1 47 p) = true ∨ Txt.cut3 47 p = false ∨ Txt.cut3 45 (Txt.cut1 47 p) = true) := by unfold Hid; simp [h1]
  have bA := lohi i
  have bB := lohi i
  have bS := Txt.val_bd (Txt.cut2 47 p)
  have hst : ((Txt.cut1 47 p).toList == [42]) = true := h1
  have s1 : Hid ((Txt.cut1 47 p).size ≤ 300) := Nat.le_trans (Txt.cut1_size _ _) hs
  have s2 : Hid ((Txt.cut2 47 p).size ≤ 300) := Nat.le_trans (Txt.cut2_size _ _) hs
  have s3 : Hid ((Txt.cut1 45 (Txt.cut1 47 p)).size ≤ 300) := Nat.le_trans (Txt.cut1_size _ _) s1.out
  have s4 : Hid ((Txt.cut2 45 (Txt.cut1 47 p)).size ≤ 300) := Nat.le_trans (Txt.cut2_size _ _) s1.out
  clear h1
  go_enter Tryd.func47, Tryd.ntmps47
  go_wp2_with fail
  refine (rcut_any _ _ _ hs).mono ?_
  rintro e w' ⟨rfl, n1, rfl⟩
  go_wp2_with fail
  refine (lowest_any _ _).mono ?_
  rintro e w' ⟨rfl, rfl⟩
  go_wp2_with fail
  refine (highest_any _ _).mono ?_
  rintro e w' ⟨rfl, rfl⟩
  have t1 : lo i ≤ hi i := by omega
  have t2 : lo i ≤ lo i := Int.le_refl _
  · go_wp2_with (first | (go_at_call 56; refine (lowest_any _ _).mono ?_; rintro e w' ⟨rfl, rfl⟩) | (go_at_call 57; refine (highest_any _ _).mono ?_; rintro e w' ⟨rfl, rfl⟩))
    exact bodyPost_ret (v := .tuple #[.int .i64 (lo i), .int .i64 (hi i), .int .i64 (1), .bool true]) (by simp [results, Tryd.results47, go_sem] <;> omega) rfl ⟨span_mk hA.out hB.out hS.out hK.out (decide_eq_true ⟨by omega, by omega, by omega, by omega⟩).symm (by omega), ⟨n1, rfl⟩⟩

set_option maxHeartbeats 1000000 in
theorem span_b (p : ByteArray) (i : Int) (w : World) (hs : p.size ≤ 300) (h1 : Txt.star (Txt.cut1 47 p) = true) (h2 : Txt.cut3 47 p = true) :
    Calls Tryd.prog 47 #[.string p, .int .i64 i] w fun e w' => SpanR i p e ∧ ∃ n, w' = w.drewN n := by
  have hA : Hid (Txt.spA (lo i) p = lo i) := by unfold Hid; simp [Txt.spA, h1]
  have hB : Hid (Txt.spB (hi i) p = hi i) := by unfold Hid; simp [Txt.spB, h1]
  have hS : Hid (Txt.spS p = Txt.val (Txt.cut2 47 p)) := by unfold Hid; simp [Txt.spS, h2]
  have hK : Hid (Txt.star (Txt.cut1 47 p) = true ∨ Txt.cut3 47 p = false ∨ Txt.cut3 45 (Txt.cut1 47 p) = true) := by unfold Hid; simp [h1]
  have bA := lohi i
  have bB := lohi i
  have bS := Txt.val_bd (Txt.cut2 47 p)
  have hst : ((Txt.cut1 47 p).toList == [42]) = true := h1
  have s1 : Hid ((Txt.cut1 47 p).size ≤ 300) := Nat.le_trans (Txt.cut1_size _ _) hs
  have s2 : Hid ((Txt.cut2 47 p).size ≤ 300) := Nat.le_trans (Txt.cut2_size _ _) hs
  have s3 : Hid ((Txt.cut1 45 (Txt.cut1 47 p)).size ≤ 300) := Nat.le_trans (Txt.cut1_size _ _) s1.out
  have s4 : Hid ((Txt.cut2 45 (Txt.cut1 47 p)).size ≤ 300) := Nat.le_trans (Txt.cut2_size _ _) s1.out
  clear h1
  go_enter Tryd.func47, Tryd.ntmps47
  go_wp2_with fail
  refine (rcut_any _ _ _ hs).mono ?_
  rintro e w' ⟨rfl, n1, rfl⟩
  go_wp2_with fail
  refine (value_any _ _ s2.out).mono ?_
  rintro e w' ⟨rfl, rfl⟩
  go_wp2_with fail
  refine (lowest_any _ _).mono ?_
  rintro e w' ⟨rfl, rfl⟩
  go_wp2_with fail
  refine (highest_any _ _).mono ?_
  rintro e w' ⟨rfl, rfl⟩
  have t1 : lo i ≤ hi i := by omega
  have t2 : lo i ≤ lo i := Int.le_refl _
  by_cases q0 : 1 ≤ Txt.val (Txt.cut2 47 p)
  rotate_left
  · go_wp2_with (first | (go_at_call 56; refine (lowest_any _ _).mono ?_; rintro e w' ⟨rfl, rfl⟩) | (go_at_call 57; refine (highest_any _ _).mono ?_; rintro e w' ⟨rfl, rfl⟩))
    exact bodyPost_ret (v := .tuple #[.int .i64 (lo i), .int .i64 (hi i), .int .i64 (Txt.val (Txt.cut2 47 p)), .bool false]) (by simp [results, Tryd.results47, go_sem] <;> omega) rfl ⟨span_mk hA.out hB.out hS.out hK.out (decide_eq_false (by omega)).symm (by omega), ⟨n1, rfl⟩⟩
  · go_wp2_with (first | (go_at_call 56; refine (lowest_any _ _).mono ?_; rintro e w' ⟨rfl, rfl⟩) | (go_at_call 57; refine (highest_any _ _).mono ?_; rintro e w' ⟨rfl, rfl⟩))
    exact bodyPost_ret (v := .tuple #[.int .i64 (lo i), .int .i64 (hi i), .int .i64 (Txt.val (Txt.cut2 47 p)), .bool true]) (by simp [results, Tryd.results47, go_sem] <;> omega) rfl ⟨span_mk hA.out hB.out hS.out hK.out (decide_eq_true ⟨by omega, by omega, by omega, by omega⟩).symm (by omega), ⟨n1, rfl⟩⟩

set_option maxHeartbeats 1000000 in
theorem span_c (p : ByteArray) (i : Int) (w : World) (hs : p.size ≤ 300) (h1 : Txt.star (Txt.cut1 47 p) = false) (h2 : Txt.cut3 47 p = false) (h3 : Txt.cut3 45 (Txt.cut1 47 p) = false) :
    Calls Tryd.prog 47 #[.string p, .int .i64 i] w fun e w' => SpanR i p e ∧ ∃ n, w' = w.drewN n := by
  have hA : Hid (Txt.spA (lo i) p = Txt.val (Txt.cut1 45 (Txt.cut1 47 p))) := by unfold Hid; simp [Txt.spA, h1]
  have hB : Hid (Txt.spB (hi i) p = Txt.val (Txt.cut1 45 (Txt.cut1 47 p))) := by unfold Hid; simp [Txt.spB, h1, h3]
  have hS : Hid (Txt.spS p = 1) := by unfold Hid; simp [Txt.spS, h2]
  have hK : Hid (Txt.star (Txt.cut1 47 p) = true ∨ Txt.cut3 47 p = false ∨ Txt.cut3 45 (Txt.cut1 47 p) = true) := by unfold Hid; simp [h2]
  have bA := Txt.val_bd (Txt.cut1 45 (Txt.cut1 47 p))
  have bB := Txt.val_bd (Txt.cut1 45 (Txt.cut1 47 p))
  have bS := Txt.val_bd (Txt.cut2 47 p)
  have hst : ((Txt.cut1 47 p).toList == [42]) = false := h1
  have s1 : Hid ((Txt.cut1 47 p).size ≤ 300) := Nat.le_trans (Txt.cut1_size _ _) hs
  have s2 : Hid ((Txt.cut2 47 p).size ≤ 300) := Nat.le_trans (Txt.cut2_size _ _) hs
  have s3 : Hid ((Txt.cut1 45 (Txt.cut1 47 p)).size ≤ 300) := Nat.le_trans (Txt.cut1_size _ _) s1.out
  have s4 : Hid ((Txt.cut2 45 (Txt.cut1 47 p)).size ≤ 300) := Nat.le_trans (Txt.cut2_size _ _) s1.out
  clear h1
  go_enter Tryd.func47, Tryd.ntmps47
  go_wp2_with fail
  refine (rcut_any _ _ _ hs).mono ?_
  rintro e w' ⟨rfl, n1, rfl⟩
  go_wp2_with fail
  refine (lowest_any _ _).mono ?_
  rintro e w' ⟨rfl, rfl⟩
  go_wp2_with fail
  refine (highest_any _ _).mono ?_
  rintro e w' ⟨rfl, rfl⟩
  go_wp2_with fail
  refine (rcut_any _ _ _ s1.out).mono ?_
  rintro e w' ⟨rfl, n2, rfl⟩
  go_wp2_with fail
  refine (value_any _ _ s3.out).mono ?_
  rintro e w' ⟨rfl, rfl⟩
  by_cases q0 : lo i ≤ Txt.val (Txt.cut1 45 (Txt.cut1 47 p))
  rotate_left
  · go_wp2_with (first | (go_at_call 56; refine (lowest_any _ _).mono ?_; rintro e w' ⟨rfl, rfl⟩) | (go_at_call 57; refine (highest_any _ _).mono ?_; rintro e w' ⟨rfl, rfl⟩))
    exact bodyPost_ret (v := .tuple #[.int .i64 (Txt.val (Txt.cut1 45 (Txt.cut1 47 p))), .int .i64 (Txt.val (Txt.cut1 45 (Txt.cut1 47 p))), .int .i64 (1), .bool false]) (by simp [results, Tryd.results47, go_sem] <;> omega) rfl ⟨span_mk hA.out hB.out hS.out hK.out (decide_eq_false (by omega)).symm (by omega), ⟨_, rfl⟩⟩
  by_cases q1 : Txt.val (Txt.cut1 45 (Txt.cut1 47 p)) ≤ hi i
  rotate_left
  · go_wp2_with (first | (go_at_call 56; refine (lowest_any _ _).mono ?_; rintro e w' ⟨rfl, rfl⟩) | (go_at_call 57; refine (highest_any _ _).mono ?_; rintro e w' ⟨rfl, rfl⟩))
    exact bodyPost_ret (v := .tuple #[.int .i64 (Txt.val (Txt.cut1 45 (Txt.cut1 47 p))), .int .i64 (Txt.val (Txt.cut1 45 (Txt.cut1 47 p))), .int .i64 (1), .bool false]) (by simp [results, Tryd.results47, go_sem] <;> omega) rfl ⟨span_mk hA.out hB.out hS.out hK.out (decide_eq_false (by omega)).symm (by omega), ⟨_, rfl⟩⟩
  · go_wp2_with (first | (go_at_call 56; refine (lowest_any _ _).mono ?_; rintro e w' ⟨rfl, rfl⟩) | (go_at_call 57; refine (highest_any _ _).mono ?_; rintro e w' ⟨rfl, rfl⟩))
    exact bodyPost_ret (v := .tuple #[.int .i64 (Txt.val (Txt.cut1 45 (Txt.cut1 47 p))), .int .i64 (Txt.val (Txt.cut1 45 (Txt.cut1 47 p))), .int .i64 (1), .bool true]) (by simp [results, Tryd.results47, go_sem] <;> omega) rfl ⟨span_mk hA.out hB.out hS.out hK.out (decide_eq_true ⟨by omega, by omega, by omega, by omega⟩).symm (by omega), ⟨_, rfl⟩⟩

set_option maxHeartbeats 1000000 in
theorem span_d (p : ByteArray) (i : Int) (w : World) (hs : p.size ≤ 300) (h1 : Txt.star (Txt.cut1 47 p) = false) (h2 : Txt.cut3 47 p = false) (h3 : Txt.cut3 45 (Txt.cut1 47 p) = true) :
    Calls Tryd.prog 47 #[.string p, .int .i64 i] w fun e w' => SpanR i p e ∧ ∃ n, w' = w.drewN n := by
  have hA : Hid (Txt.spA (lo i) p = Txt.val (Txt.cut1 45 (Txt.cut1 47 p))) := by unfold Hid; simp [Txt.spA, h1]
  have hB : Hid (Txt.spB (hi i) p = Txt.val (Txt.cut2 45 (Txt.cut1 47 p))) := by unfold Hid; simp [Txt.spB, h1, h3]
  have hS : Hid (Txt.spS p = 1) := by unfold Hid; simp [Txt.spS, h2]
  have hK : Hid (Txt.star (Txt.cut1 47 p) = true ∨ Txt.cut3 47 p = false ∨ Txt.cut3 45 (Txt.cut1 47 p) = true) := by unfold Hid; simp [h2]
  have bA := Txt.val_bd (Txt.cut1 45 (Txt.cut1 47 p))
  have bB := Txt.val_bd (Txt.cut2 45 (Txt.cut1 47 p))
  have bS := Txt.val_bd (Txt.cut2 47 p)
  have hst : ((Txt.cut1 47 p).toList == [42]) = false := h1
  have s1 : Hid ((Txt.cut1 47 p).size ≤ 300) := Nat.le_trans (Txt.cut1_size _ _) hs
  have s2 : Hid ((Txt.cut2 47 p).size ≤ 300) := Nat.le_trans (Txt.cut2_size _ _) hs
  have s3 : Hid ((Txt.cut1 45 (Txt.cut1 47 p)).size ≤ 300) := Nat.le_trans (Txt.cut1_size _ _) s1.out
  have s4 : Hid ((Txt.cut2 45 (Txt.cut1 47 p)).size ≤ 300) := Nat.le_trans (Txt.cut2_size _ _) s1.out
  clear h1
  go_enter Tryd.func47, Tryd.ntmps47
  go_wp2_with fail
  refine (rcut_any _ _ _ hs).mono ?_
  rintro e w' ⟨rfl, n1, rfl⟩
  go_wp2_with fail
  refine (lowest_any _ _).mono ?_
  rintro e w' ⟨rfl, rfl⟩
  go_wp2_with fail
  refine (highest_any _ _).mono ?_
  rintro e w' ⟨rfl, rfl⟩
  go_wp2_with fail
  refine (rcut_any _ _ _ s1.out).mono ?_
  rintro e w' ⟨rfl, n2, rfl⟩
  go_wp2_with fail
  refine (value_any _ _ s3.out).mono ?_
  rintro e w' ⟨rfl, rfl⟩
  go_wp2_with fail
  refine (value_any _ _ s4.out).mono ?_
  rintro e w' ⟨rfl, rfl⟩
  by_cases q0 : lo i ≤ Txt.val (Txt.cut1 45 (Txt.cut1 47 p))
  rotate_left
  · go_wp2_with (first | (go_at_call 56; refine (lowest_any _ _).mono ?_; rintro e w' ⟨rfl, rfl⟩) | (go_at_call 57; refine (highest_any _ _).mono ?_; rintro e w' ⟨rfl, rfl⟩))
    exact bodyPost_ret (v := .tuple #[.int .i64 (Txt.val (Txt.cut1 45 (Txt.cut1 47 p))), .int .i64 (Txt.val (Txt.cut2 45 (Txt.cut1 47 p))), .int .i64 (1), .bool false]) (by simp [results, Tryd.results47, go_sem] <;> omega) rfl ⟨span_mk hA.out hB.out hS.out hK.out (decide_eq_false (by omega)).symm (by omega), ⟨_, rfl⟩⟩
  by_cases q1 : Txt.val (Txt.cut1 45 (Txt.cut1 47 p)) ≤ Txt.val (Txt.cut2 45 (Txt.cut1 47 p))
  rotate_left
  · go_wp2_with (first | (go_at_call 56; refine (lowest_any _ _).mono ?_; rintro e w' ⟨rfl, rfl⟩) | (go_at_call 57; refine (highest_any _ _).mono ?_; rintro e w' ⟨rfl, rfl⟩))
    exact bodyPost_ret (v := .tuple #[.int .i64 (Txt.val (Txt.cut1 45 (Txt.cut1 47 p))), .int .i64 (Txt.val (Txt.cut2 45 (Txt.cut1 47 p))), .int .i64 (1), .bool false]) (by simp [results, Tryd.results47, go_sem] <;> omega) rfl ⟨span_mk hA.out hB.out hS.out hK.out (decide_eq_false (by omega)).symm (by omega), ⟨_, rfl⟩⟩
  by_cases q2 : Txt.val (Txt.cut2 45 (Txt.cut1 47 p)) ≤ hi i
  rotate_left
  · go_wp2_with (first | (go_at_call 56; refine (lowest_any _ _).mono ?_; rintro e w' ⟨rfl, rfl⟩) | (go_at_call 57; refine (highest_any _ _).mono ?_; rintro e w' ⟨rfl, rfl⟩))
    exact bodyPost_ret (v := .tuple #[.int .i64 (Txt.val (Txt.cut1 45 (Txt.cut1 47 p))), .int .i64 (Txt.val (Txt.cut2 45 (Txt.cut1 47 p))), .int .i64 (1), .bool false]) (by simp [results, Tryd.results47, go_sem] <;> omega) rfl ⟨span_mk hA.out hB.out hS.out hK.out (decide_eq_false (by omega)).symm (by omega), ⟨_, rfl⟩⟩
  · go_wp2_with (first | (go_at_call 56; refine (lowest_any _ _).mono ?_; rintro e w' ⟨rfl, rfl⟩) | (go_at_call 57; refine (highest_any _ _).mono ?_; rintro e w' ⟨rfl, rfl⟩))
    exact bodyPost_ret (v := .tuple #[.int .i64 (Txt.val (Txt.cut1 45 (Txt.cut1 47 p))), .int .i64 (Txt.val (Txt.cut2 45 (Txt.cut1 47 p))), .int .i64 (1), .bool true]) (by simp [results, Tryd.results47, go_sem] <;> omega) rfl ⟨span_mk hA.out hB.out hS.out hK.out (decide_eq_true ⟨by omega, by omega, by omega, by omega⟩).symm (by omega), ⟨_, rfl⟩⟩

set_option maxHeartbeats 1000000 in
theorem span_e (p : ByteArray) (i : Int) (w : World) (hs : p.size ≤ 300) (h1 : Txt.star (Txt.cut1 47 p) = false) (h2 : Txt.cut3 47 p = true) (h3 : Txt.cut3 45 (Txt.cut1 47 p) = false) :
    Calls Tryd.prog 47 #[.string p, .int .i64 i] w fun e w' => SpanR i p e ∧ ∃ n, w' = w.drewN n := by
  have hE : Hid (SpanR i p (.returned (.tuple #[.int .i64 0, .int .i64 0, .int .i64 0, .bool false]))) := span_no h1 h2 h3
  have hst : ((Txt.cut1 47 p).toList == [42]) = false := h1
  have s1 : Hid ((Txt.cut1 47 p).size ≤ 300) := Nat.le_trans (Txt.cut1_size _ _) hs
  have s2 : Hid ((Txt.cut2 47 p).size ≤ 300) := Nat.le_trans (Txt.cut2_size _ _) hs
  have s3 : Hid ((Txt.cut1 45 (Txt.cut1 47 p)).size ≤ 300) := Nat.le_trans (Txt.cut1_size _ _) s1.out
  have s4 : Hid ((Txt.cut2 45 (Txt.cut1 47 p)).size ≤ 300) := Nat.le_trans (Txt.cut2_size _ _) s1.out
  clear h1
  go_enter Tryd.func47, Tryd.ntmps47
  go_wp2_with fail
  refine (rcut_any _ _ _ hs).mono ?_
  rintro e w' ⟨rfl, n1, rfl⟩
  go_wp2_with fail
  refine (value_any _ _ s2.out).mono ?_
  rintro e w' ⟨rfl, rfl⟩
  go_wp2_with fail
  refine (lowest_any _ _).mono ?_
  rintro e w' ⟨rfl, rfl⟩
  go_wp2_with fail
  refine (highest_any _ _).mono ?_
  rintro e w' ⟨rfl, rfl⟩
  go_wp2_with fail
  refine (rcut_any _ _ _ s1.out).mono ?_
  rintro e w' ⟨rfl, n2, rfl⟩
  go_wp2_with fail
  refine (value_any _ _ s3.out).mono ?_
  rintro e w' ⟨rfl, rfl⟩
  go_wp2_with fail
  exact bodyPost_ret (v := .tuple #[.int .i64 0, .int .i64 0, .int .i64 0, .bool false]) (by simp [results, Tryd.results47, go_sem]) rfl ⟨hE.out, ⟨_, rfl⟩⟩

set_option maxHeartbeats 1000000 in
theorem span_f (p : ByteArray) (i : Int) (w : World) (hs : p.size ≤ 300) (h1 : Txt.star (Txt.cut1 47 p) = false) (h2 : Txt.cut3 47 p = true) (h3 : Txt.cut3 45 (Txt.cut1 47 p) = true) :
    Calls Tryd.prog 47 #[.string p, .int .i64 i] w fun e w' => SpanR i p e ∧ ∃ n, w' = w.drewN n := by
  have hA : Hid (Txt.spA (lo i) p = Txt.val (Txt.cut1 45 (Txt.cut1 47 p))) := by unfold Hid; simp [Txt.spA, h1]
  have hB : Hid (Txt.spB (hi i) p = Txt.val (Txt.cut2 45 (Txt.cut1 47 p))) := by unfold Hid; simp [Txt.spB, h1, h3]
  have hS : Hid (Txt.spS p = Txt.val (Txt.cut2 47 p)) := by unfold Hid; simp [Txt.spS, h2]
  have hK : Hid (Txt.star (Txt.cut1 47 p) = true ∨ Txt.cut3 47 p = false ∨ Txt.cut3 45 (Txt.cut1 47 p) = true) := by unfold Hid; simp [h3]
  have bA := Txt.val_bd (Txt.cut1 45 (Txt.cut1 47 p))
  have bB := Txt.val_bd (Txt.cut2 45 (Txt.cut1 47 p))
  have bS := Txt.val_bd (Txt.cut2 47 p)
  have hst : ((Txt.cut1 47 p).toList == [42]) = false := h1
  have s1 : Hid ((Txt.cut1 47 p).size ≤ 300) := Nat.le_trans (Txt.cut1_size _ _) hs
  have s2 : Hid ((Txt.cut2 47 p).size ≤ 300) := Nat.le_trans (Txt.cut2_size _ _) hs
  have s3 : Hid ((Txt.cut1 45 (Txt.cut1 47 p)).size ≤ 300) := Nat.le_trans (Txt.cut1_size _ _) s1.out
  have s4 : Hid ((Txt.cut2 45 (Txt.cut1 47 p)).size ≤ 300) := Nat.le_trans (Txt.cut2_size _ _) s1.out
  clear h1
  go_enter Tryd.func47, Tryd.ntmps47
  go_wp2_with fail
  refine (rcut_any _ _ _ hs).mono ?_
  rintro e w' ⟨rfl, n1, rfl⟩
  go_wp2_with fail
  refine (value_any _ _ s2.out).mono ?_
  rintro e w' ⟨rfl, rfl⟩
  go_wp2_with fail
  refine (lowest_any _ _).mono ?_
  rintro e w' ⟨rfl, rfl⟩
  go_wp2_with fail
  refine (highest_any _ _).mono ?_
  rintro e w' ⟨rfl, rfl⟩
  go_wp2_with fail
  refine (rcut_any _ _ _ s1.out).mono ?_
  rintro e w' ⟨rfl, n2, rfl⟩
  go_wp2_with fail
  refine (value_any _ _ s3.out).mono ?_
  rintro e w' ⟨rfl, rfl⟩
  go_wp2_with fail
  refine (value_any _ _ s4.out).mono ?_
  rintro e w' ⟨rfl, rfl⟩
  by_cases q0 : 1 ≤ Txt.val (Txt.cut2 47 p)
  rotate_left
  · go_wp2_with (first | (go_at_call 56; refine (lowest_any _ _).mono ?_; rintro e w' ⟨rfl, rfl⟩) | (go_at_call 57; refine (highest_any _ _).mono ?_; rintro e w' ⟨rfl, rfl⟩))
    exact bodyPost_ret (v := .tuple #[.int .i64 (Txt.val (Txt.cut1 45 (Txt.cut1 47 p))), .int .i64 (Txt.val (Txt.cut2 45 (Txt.cut1 47 p))), .int .i64 (Txt.val (Txt.cut2 47 p)), .bool false]) (by simp [results, Tryd.results47, go_sem] <;> omega) rfl ⟨span_mk hA.out hB.out hS.out hK.out (decide_eq_false (by omega)).symm (by omega), ⟨_, rfl⟩⟩
  by_cases q1 : lo i ≤ Txt.val (Txt.cut1 45 (Txt.cut1 47 p))
  rotate_left
  · go_wp2_with (first | (go_at_call 56; refine (lowest_any _ _).mono ?_; rintro e w' ⟨rfl, rfl⟩) | (go_at_call 57; refine (highest_any _ _).mono ?_; rintro e w' ⟨rfl, rfl⟩))
    exact bodyPost_ret (v := .tuple #[.int .i64 (Txt.val (Txt.cut1 45 (Txt.cut1 47 p))), .int .i64 (Txt.val (Txt.cut2 45 (Txt.cut1 47 p))), .int .i64 (Txt.val (Txt.cut2 47 p)), .bool false]) (by simp [results, Tryd.results47, go_sem] <;> omega) rfl ⟨span_mk hA.out hB.out hS.out hK.out (decide_eq_false (by omega)).symm (by omega), ⟨_, rfl⟩⟩
  by_cases q2 : Txt.val (Txt.cut1 45 (Txt.cut1 47 p)) ≤ Txt.val (Txt.cut2 45 (Txt.cut1 47 p))
  rotate_left
  · go_wp2_with (first | (go_at_call 56; refine (lowest_any _ _).mono ?_; rintro e w' ⟨rfl, rfl⟩) | (go_at_call 57; refine (highest_any _ _).mono ?_; rintro e w' ⟨rfl, rfl⟩))
    exact bodyPost_ret (v := .tuple #[.int .i64 (Txt.val (Txt.cut1 45 (Txt.cut1 47 p))), .int .i64 (Txt.val (Txt.cut2 45 (Txt.cut1 47 p))), .int .i64 (Txt.val (Txt.cut2 47 p)), .bool false]) (by simp [results, Tryd.results47, go_sem] <;> omega) rfl ⟨span_mk hA.out hB.out hS.out hK.out (decide_eq_false (by omega)).symm (by omega), ⟨_, rfl⟩⟩
  by_cases q3 : Txt.val (Txt.cut2 45 (Txt.cut1 47 p)) ≤ hi i
  rotate_left
  · go_wp2_with (first | (go_at_call 56; refine (lowest_any _ _).mono ?_; rintro e w' ⟨rfl, rfl⟩) | (go_at_call 57; refine (highest_any _ _).mono ?_; rintro e w' ⟨rfl, rfl⟩))
    exact bodyPost_ret (v := .tuple #[.int .i64 (Txt.val (Txt.cut1 45 (Txt.cut1 47 p))), .int .i64 (Txt.val (Txt.cut2 45 (Txt.cut1 47 p))), .int .i64 (Txt.val (Txt.cut2 47 p)), .bool false]) (by simp [results, Tryd.results47, go_sem] <;> omega) rfl ⟨span_mk hA.out hB.out hS.out hK.out (decide_eq_false (by omega)).symm (by omega), ⟨_, rfl⟩⟩
  · go_wp2_with (first | (go_at_call 56; refine (lowest_any _ _).mono ?_; rintro e w' ⟨rfl, rfl⟩) | (go_at_call 57; refine (highest_any _ _).mono ?_; rintro e w' ⟨rfl, rfl⟩))
    exact bodyPost_ret (v := .tuple #[.int .i64 (Txt.val (Txt.cut1 45 (Txt.cut1 47 p))), .int .i64 (Txt.val (Txt.cut2 45 (Txt.cut1 47 p))), .int .i64 (Txt.val (Txt.cut2 47 p)), .bool true]) (by simp [results, Tryd.results47, go_sem] <;> omega) rfl ⟨span_mk hA.out hB.out hS.out hK.out (decide_eq_true ⟨by omega, by omega, by omega, by omega⟩).symm (by omega), ⟨_, rfl⟩⟩

theorem span_any (p : ByteArray) (i : Int) (w : World) (hs : p.size ≤ 300) :
    Calls Tryd.prog 47 #[.string p, .int .i64 i] w fun e w' => SpanR i p e ∧ ∃ n, w' = w.drewN n := by
  cases h1 : Txt.star (Txt.cut1 47 p) <;> cases h2 : Txt.cut3 47 p
  · cases h3 : Txt.cut3 45 (Txt.cut1 47 p)
    · exact span_c p i w hs h1 h2 h3
    · exact span_d p i w hs h1 h2 h3
  · cases h3 : Txt.cut3 45 (Txt.cut1 47 p)
    · exact span_e p i w hs h1 h2 h3
    · exact span_f p i w hs h1 h2 h3
  · exact span_a p i w hs h1 h2
  · exact span_b p i w hs h1 h2
end Go.Proofs.YtmbginojgenbeaaDoor
