/-
  The walks over the document's texts: cut, value, span, parts, isField, Holds.
-/
import Derived.Test.YtdajolpoiffimaaDoorRBase
import Derived.Test.YtdajolpoiffimaaDoorFld
namespace Go.Proofs.YtdajolpoiffimaaDoor
open Go.RowKit
open Txt (NoSep)

set_option maxHeartbeats 400000 in
theorem rcut_any (s : ByteArray) (c : Int) (w : World) (hs : s.size ≤ 300) :
    Calls Tryd.prog 100 #[.string s, .int .u8 c] w fun e w' => e = .returned (.tuple #[.string (Txt.cut1 c s), .string (Txt.cut2 c s), .bool (Txt.cut3 c s)]) ∧ ∃ n, w' = w.drewN n := by
  go_enter Tryd.func100, Tryd.ntmps100
  go_wp2_with fail
  go_loop [7] (fun i => ∃ k : Nat, k ≤ s.size ∧ i = .int .i64 k ∧ NoSep c s 0 k) (fun i => s.size - (intOf i).toNat)
  case atStart => exact ⟨0, Nat.zero_le _, rfl, NoSep.nil _ _ _⟩
  case round =>
    obtain ⟨k, hk, rfl, hall⟩ := hrel
    have HA : Hid (NoSep c s 0 k) := hall
    clear hall
    by_cases hlt : k < s.size
    · cases he : ((s[k].toNat : Int) == c)
      · have HN : Hid (NoSep c s 0 (k + 1)) := HA.out.snoc hlt he
        go_wp2_with fail
        go_round
        case rel => exact ⟨k + 1, by omega, by go_num, HN.out⟩
        case measure => simp [intOf]; omega
      · have e : Hid (Txt.cut1 c s = s.extract 0 k ∧ Txt.cut2 c s = s.extract (k + 1) s.size ∧ Txt.cut3 c s = true) := Txt.cut_yes hlt he HA.out
        have b1 : (0 : Int) ≤ (k : Int) := by omega
        have b2 : (k : Int) ≤ (s.size : Int) := by omega
        have b3 : (k : Int) + 1 ≤ (s.size : Int) := by omega
        go_wp2_with fail
        go_quiet (fail)
        go_wp2_with fail
        go_ret3
        exact ⟨ret_three e.out, _, rfl⟩
    · have e : Hid (Txt.cut1 c s = s ∧ Txt.cut2 c s = ByteArray.empty ∧ Txt.cut3 c s = false) := Txt.cut_no ((show k = s.size by omega) ▸ HA.out)
      go_wp2_with fail
      go_ret3
      exact ⟨ret_three e.out, 0, rfl⟩

set_option maxHeartbeats 400000 in
theorem value_any (s : ByteArray) (w : World) (hs : s.size ≤ 300) :
    Calls Tryd.prog 118 #[.string s] w fun e w' => e = .returned (.int .i64 (Txt.val s)) ∧ w' = w := by
  by_cases h1 : s.size < 1
  · have e : Hid (Txt.val s = -1) := Txt.val_no (by omega)
    go_enter Tryd.func118, Tryd.ntmps118
    go_wp2_with fail
    go_ret
    exact ⟨ret_int' e.out.symm, rfl⟩
  by_cases h2 : 2 < s.size
  · have e : Hid (Txt.val s = -1) := Txt.val_no (by omega)
    go_enter Tryd.func118, Tryd.ntmps118
    go_wp2_with fail
    go_ret
    exact ⟨ret_int' e.out.symm, rfl⟩
  go_enter Tryd.func118, Tryd.ntmps118
  go_wp2_with fail
  go_loop [3, 4] (fun n i => ∃ k : Nat, k ≤ s.size ∧ i = .int .i64 k ∧ n = .int .i64 (Txt.pv s k) ∧ ∀ j (hj : j < s.size), j < k → Txt.dg (s[j].toNat) = true) (fun _ i => s.size - (intOf i).toNat)
  case atStart => exact ⟨0, Nat.zero_le _, rfl, by rw [Txt.pv_0], fun j _ h => by omega⟩
  case round =>
    obtain ⟨k, hk, rfl, rfl, hall⟩ := hrel
    have HA : Hid (∀ j (hj : j < s.size), j < k → Txt.dg (s[j].toNat) = true) := hall
    clear hall
    have pb := Txt.pv_bd s k hk (by omega)
    by_cases hlt : k < s.size
    · have ub := Txt.u8_bd s[k]
      by_cases b1 : (s[k].toNat : Int) < 48
      · have e : Hid (Txt.val s = -1) := Txt.val_no (Or.inr (Or.inr (Txt.digs_no hlt (Txt.dg_no (Or.inl b1)))))
        go_wp2_with fail
        go_ret
        exact ⟨ret_int' e.out.symm, rfl⟩
      by_cases b2 : 57 < (s[k].toNat : Int)
      · have e : Hid (Txt.val s = -1) := Txt.val_no (Or.inr (Or.inr (Txt.digs_no hlt (Txt.dg_no (Or.inr b2)))))
        go_wp2_with fail
        go_ret
        exact ⟨ret_int' e.out.symm, rfl⟩
      have HD : Hid (Txt.dg (s[k].toNat) = true) := Txt.dg_yes (by omega) (by omega)
      have PS : Hid (Txt.pv s (k + 1) = Txt.pv s k * 10 + ((s[k].toNat : Int) - 48)) := Txt.pv_succ s k hlt
      go_wp2_with fail
      go_round
      case rel =>
        refine ⟨k + 1, by omega, by go_num, by rw [PS.out]; go_num, fun j hj h => ?_⟩
        by_cases q : j = k
        · subst q; exact HD.out
        · exact HA.out j hj (by omega)
      case measure => simp [intOf]; omega
    · obtain rfl : k = s.size := by omega
      have e : Hid (Txt.val s = Txt.pv s s.size) := Txt.val_yes (by omega) (by omega) (Txt.digs_yes (fun j hj => HA.out j hj hj))
      go_wp2_with fail
      go_ret
      exact ⟨ret_int' e.out.symm, rfl⟩
set_option maxHeartbeats 400000 in
theorem lowest_any (i : Int) (w : World) :
    Calls Tryd.prog 119 #[.int .i64 i] w fun e w' => e = .returned (.int .i64 (lo i)) ∧ w' = w := by
  by_cases a : i = 2
  · subst a
    go_enter Tryd.func119, Tryd.ntmps119
    go_wp2_with fail
    go_ret
    exact ⟨rfl, rfl⟩
  by_cases b : i = 3
  · subst b
    go_enter Tryd.func119, Tryd.ntmps119
    go_wp2_with fail
    go_ret
    exact ⟨rfl, rfl⟩
  have e : Hid (lo i = 0) := if_neg (by omega)
  have a' : (i == 2) = false := by simpa using a
  have b' : (i == 3) = false := by simpa using b
  go_enter Tryd.func119, Tryd.ntmps119
  go_wp2_with fail
  go_ret
  exact ⟨ret_int' e.out.symm, rfl⟩

set_option maxHeartbeats 400000 in
theorem highest_any (i : Int) (w : World) :
    Calls Tryd.prog 120 #[.int .i64 i] w fun e w' => e = .returned (.int .i64 (hi i)) ∧ w' = w := by
  by_cases h : i = 0 ∨ i = 1 ∨ i = 2 ∨ i = 3
  · rcases h with rfl | rfl | rfl | rfl
    all_goals
      go_enter Tryd.func120, Tryd.ntmps120
      go_wp2_with fail
      go_ret
      exact ⟨rfl, rfl⟩
  have h0 : ¬ i = 0 := by omega
  have h1 : ¬ i = 1 := by omega
  have h2 : ¬ i = 2 := by omega
  have h3 : ¬ i = 3 := by omega
  have e : Hid (hi i = 6) := by unfold Hid hi; rw [if_neg h0, if_neg h1, if_neg h2, if_neg h3]
  clear h
  go_enter Tryd.func120, Tryd.ntmps120
  go_wp2_with fail
  go_ret
  exact ⟨ret_int' e.out.symm, rfl⟩

/-- What span answers. -/
def SpanR (i : Int) (p : ByteArray) (e : Ending) : Prop := ∃ a b t : Int, e = .returned (.tuple #[.int .i64 a, .int .i64 b, .int .i64 t, .bool (Txt.spK (lo i) (hi i) p)]) ∧
  (-1 ≤ a ∧ a ≤ 99 ∧ -1 ≤ b ∧ b ≤ 99 ∧ -1 ≤ t ∧ t ≤ 99) ∧ (Txt.spK (lo i) (hi i) p = true → a = Txt.spA (lo i) p ∧ b = Txt.spB (hi i) p ∧ t = Txt.spS p)
theorem span_mk {i : Int} {p : ByteArray} {a b t : Int} {r : Bool} (hA : Txt.spA (lo i) p = a) (hB : Txt.spB (hi i) p = b) (hS : Txt.spS p = t) (hK : Txt.star (Txt.cut1 47 p) = true ∨ Txt.cut3 47 p = false ∨ Txt.cut3 45 (Txt.cut1 47 p) = true)
    (hr : r = decide (1 ≤ t ∧ lo i ≤ a ∧ a ≤ b ∧ b ≤ hi i)) (bd : -1 ≤ a ∧ a ≤ 99 ∧ -1 ≤ b ∧ b ≤ 99 ∧ -1 ≤ t ∧ t ≤ 99) : SpanR i p (.returned (.tuple #[.int .i64 a, .int .i64 b, .int .i64 t, .bool r])) := by
  have e : Txt.spK (lo i) (hi i) p = r := by
    rw [hr, Txt.spK, hA, hB, hS]
    by_cases q : 1 ≤ t ∧ lo i ≤ a ∧ a ≤ b ∧ b ≤ hi i
    · rw [decide_eq_true q]; exact decide_eq_true ⟨hK, q⟩
    · rw [decide_eq_false q]; exact decide_eq_false (fun h => q h.2)
  exact ⟨a, b, t, by rw [e], bd, fun _ => ⟨hA.symm, hB.symm, hS.symm⟩⟩
theorem span_no {i : Int} {p : ByteArray} (h1 : Txt.star (Txt.cut1 47 p) = false) (h2 : Txt.cut3 47 p = true) (h3 : Txt.cut3 45 (Txt.cut1 47 p) = false) : SpanR i p (.returned (.tuple #[.int .i64 0, .int .i64 0, .int .i64 0, .bool false])) := by
  have e : Txt.spK (lo i) (hi i) p = false := decide_eq_false (by simp [h1, h2, h3])
  exact ⟨0, 0, 0, by rw [e], by omega, fun h => by rw [e] at h; cases h⟩

set_option maxHeartbeats 1000000 in
theorem span_a (p : ByteArray) (i : Int) (w : World) (hs : p.size ≤ 300) (h1 : Txt.star (Txt.cut1 47 p) = true) (h2 : Txt.cut3 47 p = false) :
    Calls Tryd.prog 101 #[.string p, .int .i64 i] w fun e w' => SpanR i p e ∧ ∃ n, w' = w.drewN n := by
  have hA : Hid (Txt.spA (lo i) p = lo i) := by unfold Hid; simp [Txt.spA, h1]
  have hB : Hid (Txt.spB (hi i) p = hi i) := by unfold Hid; simp [Txt.spB, h1]
  have hS : Hid (Txt.spS p = 1) := by unfold Hid; simp [Txt.spS, h2]
  have hK : Hid (Txt.star (Txt.cut1 47 p) = true ∨ Txt.cut3 47 p = false ∨ Txt.cut3 45 (Txt.cut1 47 p) = true) := by unfold Hid; simp [h1]
  have bA := lohi i
  have bB := lohi i
  have bS := Txt.val_bd (Txt.cut2 47 p)
  have hst : ((Txt.cut1 47 p).toList == [42]) = true := h1
  have s1 : Hid ((Txt.cut1 47 p).size ≤ 300) := Nat.le_trans (Txt.cut1_size _ _) hs
  have s2 : Hid ((Txt.cut2 47 p).size ≤ 300) := Nat.le_trans (Txt.cut2_size _ _) hs
  have s3 : Hid ((Txt.cut1 45 (Txt.cut1 47 p)).size ≤ 300) := Nat.le_trans (Txt.cut1_size _ _) s1.out
  have s4 : Hid ((Txt.cut2 45 (Txt.cut1 47 p)).size ≤ 300) := Nat.le_trans (Txt.cut2_size _ _) s1.out
  clear h1
  go_enter Tryd.func101, Tryd.ntmps101
  go_wp2_with fail
  refine (rcut_any _ _ _ hs).mono ?_
  rintro e w' ⟨rfl, n1, rfl⟩
  go_wp2_with fail
  refine (lowest_any _ _).mono ?_
  rintro e w' ⟨rfl, rfl⟩
  go_wp2_with fail
  refine (highest_any _ _).mono ?_
  rintro e w' ⟨rfl, rfl⟩
  have t1 : lo i ≤ hi i := by omega
  have t2 : lo i ≤ lo i := Int.le_refl _
  · go_wp2_with (first | (go_at_call 119; refine (lowest_any _ _).mono ?_; rintro e w' ⟨rfl, rfl⟩) | (go_at_call 120; refine (highest_any _ _).mono ?_; rintro e w' ⟨rfl, rfl⟩))
    exact bodyPost_ret (v := .tuple #[.int .i64 (lo i), .int .i64 (hi i), .int .i64 (1), .bool true]) (by simp [results, Tryd.results101, go_sem] <;> omega) rfl ⟨span_mk hA.out hB.out hS.out hK.out (decide_eq_true ⟨by omega, by omega, by omega, by omega⟩).symm (by omega), ⟨n1, rfl⟩⟩

set_option maxHeartbeats 1000000 in
theorem span_b (p : ByteArray) (i : Int) (w : World) (hs : p.size ≤ 300) (h1 : Txt.star (Txt.cut1 47 p) = true) (h2 : Txt.cut3 47 p = true) :
    Calls Tryd.prog 101 #[.string p, .int .i64 i] w fun e w' => SpanR i p e ∧ ∃ n, w' = w.drewN n := by
  have hA : Hid (Txt.spA (lo i) p = lo i) := by unfold Hid; simp [Txt.spA, h1]
  have hB : Hid (Txt.spB (hi i) p = hi i) := by unfold Hid; simp [Txt.spB, h1]
  have hS : Hid (Txt.spS p = Txt.val (Txt.cut2 47 p)) := by unfold Hid; simp [Txt.spS, h2]
  have hK : Hid (Txt.star (Txt.cut1 47 p) = true ∨ Txt.cut3 47 p = false ∨ Txt.cut3 45 (Txt.cut1 47 p) = true) := by unfold Hid; simp [h1]
  have bA := lohi i
  have bB := lohi i
  have bS := Txt.val_bd (Txt.cut2 47 p)
  have hst : ((Txt.cut1 47 p).toList == [42]) = true := h1
  have s1 : Hid ((Txt.cut1 47 p).size ≤ 300) := Nat.le_trans (Txt.cut1_size _ _) hs
  have s2 : Hid ((Txt.cut2 47 p).size ≤ 300) := Nat.le_trans (Txt.cut2_size _ _) hs
  have s3 : Hid ((Txt.cut1 45 (Txt.cut1 47 p)).size ≤ 300) := Nat.le_trans (Txt.cut1_size _ _) s1.out
  have s4 : Hid ((Txt.cut2 45 (Txt.cut1 47 p)).size ≤ 300) := Nat.le_trans (Txt.cut2_size _ _) s1.out
  clear h1
  go_enter Tryd.func101, Tryd.ntmps101
  go_wp2_with fail
  refine (rcut_any _ _ _ hs).mono ?_
  rintro e w' ⟨rfl, n1, rfl⟩
  go_wp2_with fail
  refine (value_any _ _ s2.out).mono ?_
  rintro e w' ⟨rfl, rfl⟩
  go_wp2_with fail
  refine (lowest_any _ _).mono ?_
  rintro e w' ⟨rfl, rfl⟩
  go_wp2_with fail
  refine (highest_any _ _).mono ?_
  rintro e w' ⟨rfl, rfl⟩
  have t1 : lo i ≤ hi i := by omega
  have t2 : lo i ≤ lo i := Int.le_refl _
  by_cases q0 : 1 ≤ Txt.val (Txt.cut2 47 p)
  rotate_left
  · go_wp2_with (first | (go_at_call 119; refine (lowest_any _ _).mono ?_; rintro e w' ⟨rfl, rfl⟩) | (go_at_call 120; refine (highest_any _ _).mono ?_; rintro e w' ⟨rfl, rfl⟩))
    exact bodyPost_ret (v := .tuple #[.int .i64 (lo i), .int .i64 (hi i), .int .i64 (Txt.val (Txt.cut2 47 p)), .bool false]) (by simp [results, Tryd.results101, go_sem] <;> omega) rfl ⟨span_mk hA.out hB.out hS.out hK.out (decide_eq_false (by omega)).symm (by omega), ⟨n1, rfl⟩⟩
  · go_wp2_with (first | (go_at_call 119; refine (lowest_any _ _).mono ?_; rintro e w' ⟨rfl, rfl⟩) | (go_at_call 120; refine (highest_any _ _).mono ?_; rintro e w' ⟨rfl, rfl⟩))
    exact bodyPost_ret (v := .tuple #[.int .i64 (lo i), .int .i64 (hi i), .int .i64 (Txt.val (Txt.cut2 47 p)), .bool true]) (by simp [results, Tryd.results101, go_sem] <;> omega) rfl ⟨span_mk hA.out hB.out hS.out hK.out (decide_eq_true ⟨by omega, by omega, by omega, by omega⟩).symm (by omega), ⟨n1, rfl⟩⟩

set_option maxHeartbeats 1000000 in
theorem span_c (p : ByteArray) (i : Int) (w : World) (hs : p.size ≤ 300) (h1 : Txt.star (Txt.cut1 47 p) = false) (h2 : Txt.cut3 47 p = false) (h3 : Txt.cut3 45 (Txt.cut1 47 p) = false) :
    Calls Tryd.prog 101 #[.string p, .int .i64 i] w fun e w' => SpanR i p e ∧ ∃ n, w' = w.drewN n := by
  have hA : Hid (Txt.spA (lo i) p = Txt.val (Txt.cut1 45 (Txt.cut1 47 p))) := by unfold Hid; simp [Txt.spA, h1]
  have hB : Hid (Txt.spB (hi i) p = Txt.val (Txt.cut1 45 (Txt.cut1 47 p))) := by unfold Hid; simp [Txt.spB, h1, h3]
  have hS : Hid (Txt.spS p = 1) := by unfold Hid; simp [Txt.spS, h2]
  have hK : Hid (Txt.star (Txt.cut1 47 p) = true ∨ Txt.cut3 47 p = false ∨ Txt.cut3 45 (Txt.cut1 47 p) = true) := by unfold Hid; simp [h2]
  have bA := Txt.val_bd (Txt.cut1 45 (Txt.cut1 47 p))
  have bB := Txt.val_bd (Txt.cut1 45 (Txt.cut1 47 p))
  have bS := Txt.val_bd (Txt.cut2 47 p)
  have hst : ((Txt.cut1 47 p).toList == [42]) = false := h1
  have s1 : Hid ((Txt.cut1 47 p).size ≤ 300) := Nat.le_trans (Txt.cut1_size _ _) hs
  have s2 : Hid ((Txt.cut2 47 p).size ≤ 300) := Nat.le_trans (Txt.cut2_size _ _) hs
  have s3 : Hid ((Txt.cut1 45 (Txt.cut1 47 p)).size ≤ 300) := Nat.le_trans (Txt.cut1_size _ _) s1.out
  have s4 : Hid ((Txt.cut2 45 (Txt.cut1 47 p)).size ≤ 300) := Nat.le_trans (Txt.cut2_size _ _) s1.out
  clear h1
  go_enter Tryd.func101, Tryd.ntmps101
  go_wp2_with fail
  refine (rcut_any _ _ _ hs).mono ?_
  rintro e w' ⟨rfl, n1, rfl⟩
  go_wp2_with fail
  refine (lowest_any _ _).mono ?_
  rintro e w' ⟨rfl, rfl⟩
  go_wp2_with fail
  refine (highest_any _ _).mono ?_
  rintro e w' ⟨rfl, rfl⟩
  go_wp2_with fail
  refine (rcut_any _ _ _ s1.out).mono ?_
  rintro e w' ⟨rfl, n2, rfl⟩
  go_wp2_with fail
  refine (value_any _ _ s3.out).mono ?_
  rintro e w' ⟨rfl, rfl⟩
  by_cases q0 : lo i ≤ Txt.val (Txt.cut1 45 (Txt.cut1 47 p))
  rotate_left
  · go_wp2_with (first | (go_at_call 119; refine (lowest_any _ _).mono ?_; rintro e w' ⟨rfl, rfl⟩) | (go_at_call 120; refine (highest_any _ _).mono ?_; rintro e w' ⟨rfl, rfl⟩))
    exact bodyPost_ret (v := .tuple #[.int .i64 (Txt.val (Txt.cut1 45 (Txt.cut1 47 p))), .int .i64 (Txt.val (Txt.cut1 45 (Txt.cut1 47 p))), .int .i64 (1), .bool false]) (by simp [results, Tryd.results101, go_sem] <;> omega) rfl ⟨span_mk hA.out hB.out hS.out hK.out (decide_eq_false (by omega)).symm (by omega), ⟨_, rfl⟩⟩
  by_cases q1 : Txt.val (Txt.cut1 45 (Txt.cut1 47 p)) ≤ hi i
  rotate_left
  · go_wp2_with (first | (go_at_call 119; refine (lowest_any _ _).mono ?_; rintro e w' ⟨rfl, rfl⟩) | (go_at_call 120; refine (highest_any _ _).mono ?_; rintro e w' ⟨rfl, rfl⟩))
    exact bodyPost_ret (v := .tuple #[.int .i64 (Txt.val (Txt.cut1 45 (Txt.cut1 47 p))), .int .i64 (Txt.val (Txt.cut1 45 (Txt.cut1 47 p))), .int .i64 (1), .bool false]) (by simp [results, Tryd.results101, go_sem] <;> omega) rfl ⟨span_mk hA.out hB.out hS.out hK.out (decide_eq_false (by omega)).symm (by omega), ⟨_, rfl⟩⟩
  · go_wp2_with (first | (go_at_call 119; refine (lowest_any _ _).mono ?_; rintro e w' ⟨rfl, rfl⟩) | (go_at_call 120; refine (highest_any _ _).mono ?_; rintro e w' ⟨rfl, rfl⟩))
    exact bodyPost_ret (v := .tuple #[.int .i64 (Txt.val (Txt.cut1 45 (Txt.cut1 47 p))), .int .i64 (Txt.val (Txt.cut1 45 (Txt.cut1 47 p))), .int .i64 (1), .bool true]) (by simp [results, Tryd.results101, go_sem] <;> omega) rfl ⟨span_mk hA.out hB.out hS.out hK.out (decide_eq_true ⟨by omega, by omega, by omega, by omega⟩).symm (by omega), ⟨_, rfl⟩⟩

set_option maxHeartbeats 1000000 in
theorem span_d (p : ByteArray) (i : Int) (w : World) (hs : p.size ≤ 300) (h1 : Txt.star (Txt.cut1 47 p) = false) (h2 : Txt.cut3 47 p = false) (h3 : Txt.cut3 45 (Txt.cut1 47 p) = true) :
    Calls Tryd.prog 101 #[.string p, .int .i64 i] w fun e w' => SpanR i p e ∧ ∃ n, w' = w.drewN n := by
  have hA : Hid (Txt.spA (lo i) p = Txt.val (Txt.cut1 45 (Txt.cut1 47 p))) := by unfold Hid; simp [Txt.spA, h1]
  have hB : Hid (Txt.spB (hi i) p = Txt.val (Txt.cut2 45 (Txt.cut1 47 p))) := by unfold Hid; simp [Txt.spB, h1, h3]
  have hS : Hid (Txt.spS p = 1) := by unfold Hid; simp [Txt.spS, h2]
  have hK : Hid (Txt.star (Txt.cut1 47 p) = true ∨ Txt.cut3 47 p = false ∨ Txt.cut3 45 (Txt.cut1 47 p) = true) := by unfold Hid; simp [h2]
  have bA := Txt.val_bd (Txt.cut1 45 (Txt.cut1 47 p))
  have bB := Txt.val_bd (Txt.cut2 45 (Txt.cut1 47 p))
  have bS := Txt.val_bd (Txt.cut2 47 p)
  have hst : ((Txt.cut1 47 p).toList == [42]) = false := h1
  have s1 : Hid ((Txt.cut1 47 p).size ≤ 300) := Nat.le_trans (Txt.cut1_size _ _) hs
  have s2 : Hid ((Txt.cut2 47 p).size ≤ 300) := Nat.le_trans (Txt.cut2_size _ _) hs
  have s3 : Hid ((Txt.cut1 45 (Txt.cut1 47 p)).size ≤ 300) := Nat.le_trans (Txt.cut1_size _ _) s1.out
  have s4 : Hid ((Txt.cut2 45 (Txt.cut1 47 p)).size ≤ 300) := Nat.le_trans (Txt.cut2_size _ _) s1.out
  clear h1
  go_enter Tryd.func101, Tryd.ntmps101
  go_wp2_with fail
  refine (rcut_any _ _ _ hs).mono ?_
  rintro e w' ⟨rfl, n1, rfl⟩
  go_wp2_with fail
  refine (lowest_any _ _).mono ?_
  rintro e w' ⟨rfl, rfl⟩
  go_wp2_with fail
  refine (highest_any _ _).mono ?_
  rintro e w' ⟨rfl, rfl⟩
  go_wp2_with fail
  refine (rcut_any _ _ _ s1.out).mono ?_
  rintro e w' ⟨rfl, n2, rfl⟩
  go_wp2_with fail
  refine (value_any _ _ s3.out).mono ?_
  rintro e w' ⟨rfl, rfl⟩
  go_wp2_with fail
  refine (value_any _ _ s4.out).mono ?_
  rintro e w' ⟨rfl, rfl⟩
  by_cases q0 : lo i ≤ Txt.val (Txt.cut1 45 (Txt.cut1 47 p))
  rotate_left
  · go_wp2_with (first | (go_at_call 119; refine (lowest_any _ _).mono ?_; rintro e w' ⟨rfl, rfl⟩) | (go_at_call 120; refine (highest_any _ _).mono ?_; rintro e w' ⟨rfl, rfl⟩))
    exact bodyPost_ret (v := .tuple #[.int .i64 (Txt.val (Txt.cut1 45 (Txt.cut1 47 p))), .int .i64 (Txt.val (Txt.cut2 45 (Txt.cut1 47 p))), .int .i64 (1), .bool false]) (by simp [results, Tryd.results101, go_sem] <;> omega) rfl ⟨span_mk hA.out hB.out hS.out hK.out (decide_eq_false (by omega)).symm (by omega), ⟨_, rfl⟩⟩
  by_cases q1 : Txt.val (Txt.cut1 45 (Txt.cut1 47 p)) ≤ Txt.val (Txt.cut2 45 (Txt.cut1 47 p))
  rotate_left
  · go_wp2_with (first | (go_at_call 119; refine (lowest_any _ _).mono ?_; rintro e w' ⟨rfl, rfl⟩) | (go_at_call 120; refine (highest_any _ _).mono ?_; rintro e w' ⟨rfl, rfl⟩))
    exact bodyPost_ret (v := .tuple #[.int .i64 (Txt.val (Txt.cut1 45 (Txt.cut1 47 p))), .int .i64 (Txt.val (Txt.cut2 45 (Txt.cut1 47 p))), .int .i64 (1), .bool false]) (by simp [results, Tryd.results101, go_sem] <;> omega) rfl ⟨span_mk hA.out hB.out hS.out hK.out (decide_eq_false (by omega)).symm (by omega), ⟨_, rfl⟩⟩
  by_cases q2 : Txt.val (Txt.cut2 45 (Txt.cut1 47 p)) ≤ hi i
  rotate_left
  · go_wp2_with (first | (go_at_call 119; refine (lowest_any _ _).mono ?_; rintro e w' ⟨rfl, rfl⟩) | (go_at_call 120; refine (highest_any _ _).mono ?_; rintro e w' ⟨rfl, rfl⟩))
    exact bodyPost_ret (v := .tuple #[.int .i64 (Txt.val (Txt.cut1 45 (Txt.cut1 47 p))), .int .i64 (Txt.val (Txt.cut2 45 (Txt.cut1 47 p))), .int .i64 (1), .bool false]) (by simp [results, Tryd.results101, go_sem] <;> omega) rfl ⟨span_mk hA.out hB.out hS.out hK.out (decide_eq_false (by omega)).symm (by omega), ⟨_, rfl⟩⟩
  · go_wp2_with (first | (go_at_call 119; refine (lowest_any _ _).mono ?_; rintro e w' ⟨rfl, rfl⟩) | (go_at_call 120; refine (highest_any _ _).mono ?_; rintro e w' ⟨rfl, rfl⟩))
    exact bodyPost_ret (v := .tuple #[.int .i64 (Txt.val (Txt.cut1 45 (Txt.cut1 47 p))), .int .i64 (Txt.val (Txt.cut2 45 (Txt.cut1 47 p))), .int .i64 (1), .bool true]) (by simp [results, Tryd.results101, go_sem] <;> omega) rfl ⟨span_mk hA.out hB.out hS.out hK.out (decide_eq_true ⟨by omega, by omega, by omega, by omega⟩).symm (by omega), ⟨_, rfl⟩⟩

set_option maxHeartbeats 1000000 in
theorem span_e (p : ByteArray) (i : Int) (w : World) (hs : p.size ≤ 300) (h1 : Txt.star (Txt.cut1 47 p) = false) (h2 : Txt.cut3 47 p = true) (h3 : Txt.cut3 45 (Txt.cut1 47 p) = false) :
    Calls Tryd.prog 101 #[.string p, .int .i64 i] w fun e w' => SpanR i p e ∧ ∃ n, w' = w.drewN n := by
  have hE : Hid (SpanR i p (.returned (.tuple #[.int .i64 0, .int .i64 0, .int .i64 0, .bool false]))) := span_no h1 h2 h3
  have hst : ((Txt.cut1 47 p).toList == [42]) = false := h1
  have s1 : Hid ((Txt.cut1 47 p).size ≤ 300) := Nat.le_trans (Txt.cut1_size _ _) hs
  have s2 : Hid ((Txt.cut2 47 p).size ≤ 300) := Nat.le_trans (Txt.cut2_size _ _) hs
  have s3 : Hid ((Txt.cut1 45 (Txt.cut1 47 p)).size ≤ 300) := Nat.le_trans (Txt.cut1_size _ _) s1.out
  have s4 : Hid ((Txt.cut2 45 (Txt.cut1 47 p)).size ≤ 300) := Nat.le_trans (Txt.cut2_size _ _) s1.out
  clear h1
  go_enter Tryd.func101, Tryd.ntmps101
  go_wp2_with fail
  refine (rcut_any _ _ _ hs).mono ?_
  rintro e w' ⟨rfl, n1, rfl⟩
  go_wp2_with fail
  refine (value_any _ _ s2.out).mono ?_
  rintro e w' ⟨rfl, rfl⟩
  go_wp2_with fail
  refine (lowest_any _ _).mono ?_
  rintro e w' ⟨rfl, rfl⟩
  go_wp2_with fail
  refine (highest_any _ _).mono ?_
  rintro e w' ⟨rfl, rfl⟩
  go_wp2_with fail
  refine (rcut_any _ _ _ s1.out).mono ?_
  rintro e w' ⟨rfl, n2, rfl⟩
  go_wp2_with fail
  refine (value_any _ _ s3.out).mono ?_
  rintro e w' ⟨rfl, rfl⟩
  go_wp2_with fail
  exact bodyPost_ret (v := .tuple #[.int .i64 0, .int .i64 0, .int .i64 0, .bool false]) (by simp [results, Tryd.results101, go_sem]) rfl ⟨hE.out, ⟨_, rfl⟩⟩

set_option maxHeartbeats 1000000 in
theorem span_f (p : ByteArray) (i : Int) (w : World) (hs : p.size ≤ 300) (h1 : Txt.star (Txt.cut1 47 p) = false) (h2 : Txt.cut3 47 p = true) (h3 : Txt.cut3 45 (Txt.cut1 47 p) = true) :
    Calls Tryd.prog 101 #[.string p, .int .i64 i] w fun e w' => SpanR i p e ∧ ∃ n, w' = w.drewN n := by
  have hA : Hid (Txt.spA (lo i) p = Txt.val (Txt.cut1 45 (Txt.cut1 47 p))) := by unfold Hid; simp [Txt.spA, h1]
  have hB : Hid (Txt.spB (hi i) p = Txt.val (Txt.cut2 45 (Txt.cut1 47 p))) := by unfold Hid; simp [Txt.spB, h1, h3]
  have hS : Hid (Txt.spS p = Txt.val (Txt.cut2 47 p)) := by unfold Hid; simp [Txt.spS, h2]
  have hK : Hid (Txt.star (Txt.cut1 47 p) = true ∨ Txt.cut3 47 p = false ∨ Txt.cut3 45 (Txt.cut1 47 p) = true) := by unfold Hid; simp [h3]
  have bA := Txt.val_bd (Txt.cut1 45 (Txt.cut1 47 p))
  have bB := Txt.val_bd (Txt.cut2 45 (Txt.cut1 47 p))
  have bS := Txt.val_bd (Txt.cut2 47 p)
  have hst : ((Txt.cut1 47 p).toList == [42]) = false := h1
  have s1 : Hid ((Txt.cut1 47 p).size ≤ 300) := Nat.le_trans (Txt.cut1_size _ _) hs
  have s2 : Hid ((Txt.cut2 47 p).size ≤ 300) := Nat.le_trans (Txt.cut2_size _ _) hs
  have s3 : Hid ((Txt.cut1 45 (Txt.cut1 47 p)).size ≤ 300) := Nat.le_trans (Txt.cut1_size _ _) s1.out
  have s4 : Hid ((Txt.cut2 45 (Txt.cut1 47 p)).size ≤ 300) := Nat.le_trans (Txt.cut2_size _ _) s1.out
  clear h1
  go_enter Tryd.func101, Tryd.ntmps101
  go_wp2_with fail
  refine (rcut_any _ _ _ hs).mono ?_
  rintro e w' ⟨rfl, n1, rfl⟩
  go_wp2_with fail
  refine (value_any _ _ s2.out).mono ?_
  rintro e w' ⟨rfl, rfl⟩
  go_wp2_with fail
  refine (lowest_any _ _).mono ?_
  rintro e w' ⟨rfl, rfl⟩
  go_wp2_with fail
  refine (highest_any _ _).mono ?_
  rintro e w' ⟨rfl, rfl⟩
  go_wp2_with fail
  refine (rcut_any _ _ _ s1.out).mono ?_
  rintro e w' ⟨rfl, n2, rfl⟩
  go_wp2_with fail
  refine (value_any _ _ s3.out).mono ?_
  rintro e w' ⟨rfl, rfl⟩
  go_wp2_with fail
  refine (value_any _ _ s4.out).mono ?_
  rintro e w' ⟨rfl, rfl⟩
  by_cases q0 : 1 ≤ Txt.val (Txt.cut2 47 p)
  rotate_left
  · go_wp2_with (first | (go_at_call 119; refine (lowest_any _ _).mono ?_; rintro e w' ⟨rfl, rfl⟩) | (go_at_call 120; refine (highest_any _ _).mono ?_; rintro e w' ⟨rfl, rfl⟩))
    exact bodyPost_ret (v := .tuple #[.int .i64 (Txt.val (Txt.cut1 45 (Txt.cut1 47 p))), .int .i64 (Txt.val (Txt.cut2 45 (Txt.cut1 47 p))), .int .i64 (Txt.val (Txt.cut2 47 p)), .bool false]) (by simp [results, Tryd.results101, go_sem] <;> omega) rfl ⟨span_mk hA.out hB.out hS.out hK.out (decide_eq_false (by omega)).symm (by omega), ⟨_, rfl⟩⟩
  by_cases q1 : lo i ≤ Txt.val (Txt.cut1 45 (Txt.cut1 47 p))
  rotate_left
  · go_wp2_with (first | (go_at_call 119; refine (lowest_any _ _).mono ?_; rintro e w' ⟨rfl, rfl⟩) | (go_at_call 120; refine (highest_any _ _).mono ?_; rintro e w' ⟨rfl, rfl⟩))
    exact bodyPost_ret (v := .tuple #[.int .i64 (Txt.val (Txt.cut1 45 (Txt.cut1 47 p))), .int .i64 (Txt.val (Txt.cut2 45 (Txt.cut1 47 p))), .int .i64 (Txt.val (Txt.cut2 47 p)), .bool false]) (by simp [results, Tryd.results101, go_sem] <;> omega) rfl ⟨span_mk hA.out hB.out hS.out hK.out (decide_eq_false (by omega)).symm (by omega), ⟨_, rfl⟩⟩
  by_cases q2 : Txt.val (Txt.cut1 45 (Txt.cut1 47 p)) ≤ Txt.val (Txt.cut2 45 (Txt.cut1 47 p))
  rotate_left
  · go_wp2_with (first | (go_at_call 119; refine (lowest_any _ _).mono ?_; rintro e w' ⟨rfl, rfl⟩) | (go_at_call 120; refine (highest_any _ _).mono ?_; rintro e w' ⟨rfl, rfl⟩))
    exact bodyPost_ret (v := .tuple #[.int .i64 (Txt.val (Txt.cut1 45 (Txt.cut1 47 p))), .int .i64 (Txt.val (Txt.cut2 45 (Txt.cut1 47 p))), .int .i64 (Txt.val (Txt.cut2 47 p)), .bool false]) (by simp [results, Tryd.results101, go_sem] <;> omega) rfl ⟨span_mk hA.out hB.out hS.out hK.out (decide_eq_false (by omega)).symm (by omega), ⟨_, rfl⟩⟩
  by_cases q3 : Txt.val (Txt.cut2 45 (Txt.cut1 47 p)) ≤ hi i
  rotate_left
  · go_wp2_with (first | (go_at_call 119; refine (lowest_any _ _).mono ?_; rintro e w' ⟨rfl, rfl⟩) | (go_at_call 120; refine (highest_any _ _).mono ?_; rintro e w' ⟨rfl, rfl⟩))
    exact bodyPost_ret (v := .tuple #[.int .i64 (Txt.val (Txt.cut1 45 (Txt.cut1 47 p))), .int .i64 (Txt.val (Txt.cut2 45 (Txt.cut1 47 p))), .int .i64 (Txt.val (Txt.cut2 47 p)), .bool false]) (by simp [results, Tryd.results101, go_sem] <;> omega) rfl ⟨span_mk hA.out hB.out hS.out hK.out (decide_eq_false (by omega)).symm (by omega), ⟨_, rfl⟩⟩
  · go_wp2_with (first | (go_at_call 119; refine (lowest_any _ _).mono ?_; rintro e w' ⟨rfl, rfl⟩) | (go_at_call 120; refine (highest_any _ _).mono ?_; rintro e w' ⟨rfl, rfl⟩))
    exact bodyPost_ret (v := .tuple #[.int .i64 (Txt.val (Txt.cut1 45 (Txt.cut1 47 p))), .int .i64 (Txt.val (Txt.cut2 45 (Txt.cut1 47 p))), .int .i64 (Txt.val (Txt.cut2 47 p)), .bool true]) (by simp [results, Tryd.results101, go_sem] <;> omega) rfl ⟨span_mk hA.out hB.out hS.out hK.out (decide_eq_true ⟨by omega, by omega, by omega, by omega⟩).symm (by omega), ⟨_, rfl⟩⟩

theorem span_any (p : ByteArray) (i : Int) (w : World) (hs : p.size ≤ 300) :
    Calls Tryd.prog 101 #[.string p, .int .i64 i] w fun e w' => SpanR i p e ∧ ∃ n, w' = w.drewN n := by
  cases h1 : Txt.star (Txt.cut1 47 p) <;> cases h2 : Txt.cut3 47 p
  · cases h3 : Txt.cut3 45 (Txt.cut1 47 p)
    · exact span_c p i w hs h1 h2 h3
    · exact span_d p i w hs h1 h2 h3
  · cases h3 : Txt.cut3 45 (Txt.cut1 47 p)
    · exact span_e p i w hs h1 h2 h3
    · exact span_f p i w hs h1 h2 h3
  · exact span_a p i w hs h1 h2
  · exact span_b p i w hs h1 h2
theorem parts_step (c : Int) (y : ByteArray) (L : List ByteArray) (n : Nat) (h : L.length + y.size ≤ n + (if true = true then 0 else 1)) :
    (L ++ [Txt.cut1 c y]).length + (Txt.cut2 c y).size ≤ n + (if Txt.cut3 c y = true then 0 else 1) ∧ (Txt.cut2 c y).size + boolSize (.bool (Txt.cut3 c y)) < y.size + 1 := by
  cases q : Txt.cut3 c y
  · have hf : ¬ Txt.fst c y < y.size := by simpa [Txt.cut3] using q
    have e : Txt.cut2 c y = ByteArray.empty := by simp [Txt.cut2, hf]
    simp [e, boolSize] at h ⊢; omega
  · have := Txt.cut2_lt q
    simp [boolSize] at h ⊢; omega
theorem parts_pcs (c : Int) (s y : ByteArray) (L : List ByteArray) (h : Txt.pcs c s = L ++ (if true = true then Txt.pcs c y else [])) :
    Txt.pcs c s = (L ++ [Txt.cut1 c y]) ++ (if Txt.cut3 c y = true then Txt.pcs c (Txt.cut2 c y) else []) := by
  rw [h, if_pos rfl, Txt.pcs_cut]
  cases Txt.cut3 c y <;> simp

set_option maxHeartbeats 1000000 in
theorem parts_any (s : ByteArray) (c : Int) (w : World) (hs : s.size ≤ 300) :
    Calls Tryd.prog 68 #[.string s, .int .u8 c] w fun e w' => (∃ b cap, e = .returned (.slice (some ⟨b, 0, none⟩) (Txt.pcs c s).length cap) ∧ w.heap.size ≤ b ∧ (Txt.pcs c s).length ≤ cap ∧ StrsAt w' b (Txt.pcs c s)) ∧ Below w.heap.size w w' := by
  obtain ⟨i0, hi, hz0, hz1, hz2⟩ := info_parts infoStr
  go_enter Tryd.func68, Tryd.ntmps68
  go_wp2_with fail
  go_loopw [0, 5, 6] (fun x v m wr => ∃ (y : ByteArray) (L : List ByteArray) (more : Bool), y.size ≤ 300 ∧ x = .string y ∧ m = .bool more ∧ L.length + y.size ≤ s.size + (if more = true then 0 else 1) ∧ Txt.pcs c s = L ++ (if more = true then Txt.pcs c y else []) ∧ wr.ownsRow w.heap.size 9 1 v L.length (L.map Value.string) ∧ Below w.heap.size w wr) (fun x _ m _ => strSize x + boolSize m)
  case atStart => exact ⟨s, [], true, hs, rfl, rfl, by simp, by simp, World.ownsRow_nil _ _ _ _, Below.refl _ _⟩
  case round =>
    obtain ⟨y, L, more, hy, rfl, rfl, hL, hp, hown, hnx⟩ := hrel
    have hsz := hnx.size
    cases more
    · have HP : Hid (Txt.pcs c s = L) := by unfold Hid; rw [hp]; simp
      clear hp
      have hne : 0 < L.length := by have := Txt.pcs_ne c s; rw [HP.out] at this; exact this
      obtain ⟨g, cap, hv, hge, _⟩ := hown.form hne
      have HV : Hid (u5 = Value.slice (some ⟨g, 0, none⟩) (Txt.pcs c s).length cap) := by unfold Hid; rw [HP.out]; exact hv
      have hown2 := hown
      rw [hv] at hown2
      have hA : Hid (StrsAt wr g (Txt.pcs c s)) := by unfold Hid; rw [HP.out]; exact strs_of_own hown2 rfl
      have hcap : Hid ((Txt.pcs c s).length ≤ cap) := by
        unfold Hid; rw [HP.out]
        rcases hown2.2 with ⟨h, _⟩ | ⟨g', cap', cur, h, _, _, h2, _⟩
        · cases h
        · cases h; exact h2
      clear hown2 hown hL hv
      go_wp2_with fail
      go_ret
      exact ⟨⟨g, cap, congrArg Ending.returned HV.out, hge, hcap.out, hA.out⟩, hnx⟩
    · have HS : Hid ((L ++ [Txt.cut1 c y]).length + (Txt.cut2 c y).size ≤ s.size + (if Txt.cut3 c y = true then 0 else 1) ∧ (Txt.cut2 c y).size + boolSize (.bool (Txt.cut3 c y)) < y.size + 1) := parts_step c y L _ hL
      have HP : Hid (Txt.pcs c s = (L ++ [Txt.cut1 c y]) ++ (if Txt.cut3 c y = true then Txt.pcs c (Txt.cut2 c y) else [])) := parts_pcs c s y L hp
      have HY : Hid ((Txt.cut2 c y).size ≤ 300) := Nat.le_trans (Txt.cut2_size _ _) hy
      have hLn : L.length ≤ 300 := by simp at hL; omega
      clear hp hL
      go_wp2_with fail
      refine (rcut_any _ _ _ hy).mono ?_
      rintro e w' ⟨rfl, n1, rfl⟩
      go_wp2_with (at_builtin; refine wpList_append_lies _ rfl (.tmp 18) (.tmp 20) 66 rfl w.heap.size 9 i0 (.string ByteArray.empty) 1 16 Tryd.underlying66 hi hz0 hz1 hz2 rfl (by decide) _ _ _ rfl (ownsRow_drewN (hown.alloc _) _) ⟨wr.heap.size, 0, none⟩ 1 1 [.string (Txt.cut1 c y)] rfl rfl ?c1 ?c2 (by decide) ?c3 ?c4 ?c5 _ rfl ?_)
      case c1 => exact cell_one_new _ _ _
      case c2 => intro u hu; simp at hu; subst hu; rfl
      case c3 => unfold maxLen; omega
      case c4 => omega
      case c5 => simp; omega
      · intro g cap w1 hown' hgrow _ hlt'
        have B1 : Below w.heap.size w w1 := (below_drewN (hnx.alloc hsz _) _).grown hgrow (by simp; omega) (fun k' e => (hown.lt k' e).1)
        have hown2 : w1.ownsRow w.heap.size 9 1 (.slice (some ⟨g, 0, none⟩) (L.length + 1) cap) (L ++ [Txt.cut1 c y]).length ((L ++ [Txt.cut1 c y]).map Value.string) := by simpa using hown'
        clear hown' hgrow hown hnx
        go_wp2_with fail
        go_roundw
        case rel => exact ⟨Txt.cut2 c y, L ++ [Txt.cut1 c y], Txt.cut3 c y, HY.out, rfl, rfl, HS.out.1, HP.out, hown2, B1⟩
        case measure => exact HS.out.2
set_option maxHeartbeats 1000000 in
theorem isField_any (f : ByteArray) (i : Int) (w : World) (hs : f.size ≤ 300) :
    Calls Tryd.prog 69 #[.string f, .int .i64 i] w fun e w' => e = .returned (.bool (Txt.fldB (lo i) (hi i) f)) ∧ Below w.heap.size w w' := by
  go_enter Tryd.func69, Tryd.ntmps69
  go_wp2_with fail
  refine (parts_any _ _ _ hs).mono ?_
  rintro e w1 ⟨⟨b, cap, rfl, _, hcap, hS⟩, hb⟩
  have hlen := Txt.pcs_len 44 f
  have HC : Hid (StrsAt w1 b (Txt.pcs 44 f)) := hS
  clear hS
  go_wp2_with fail
  go_loopw [6] (fun x wr => ∃ k : Nat, k ≤ (Txt.pcs 44 f).length ∧ x = .int .i64 k ∧ (∀ j (hj : j < (Txt.pcs 44 f).length), j < k → Txt.spK (lo i) (hi i) (Txt.pcs 44 f)[j] = true) ∧ ∃ n, wr = w1.drewN n) (fun x _ => (Txt.pcs 44 f).length - (intOf x).toNat)
  case atStart => exact ⟨0, Nat.zero_le _, rfl, fun j _ h => by omega, 0, rfl⟩
  case round =>
    obtain ⟨k, hk, rfl, hall, n0, rfl⟩ := hrel
    have HA : Hid (∀ j (hj : j < (Txt.pcs 44 f).length), j < k → Txt.spK (lo i) (hi i) (Txt.pcs 44 f)[j] = true) := hall
    clear hall
    by_cases hlt : k < (Txt.pcs 44 f).length
    · have hcell : w1.cell? ⟨b, k, none⟩ = some (.string (Txt.pcs 44 f)[k]) := HC.out k hlt
      have hsz : Hid ((Txt.pcs 44 f)[k].size ≤ 300) := Txt.pcs_sz hs k hlt
      go_wp2_with fail
      refine (span_any _ _ _ hsz.out).mono ?_
      rintro e w' ⟨⟨a1, b1, t1, rfl, _, _⟩, n1, rfl⟩
      cases hq : Txt.spK (lo i) (hi i) (Txt.pcs 44 f)[k]
      · have e : Hid (Txt.fldB (lo i) (hi i) f = false) := Txt.fldB_no hlt hq
        go_wp2_with fail
        go_ret
        exact ⟨ret_bool' e.out.symm, below_drewN hb _⟩
      · have HQ : Hid (Txt.spK (lo i) (hi i) (Txt.pcs 44 f)[k] = true) := hq
        go_wp2_with fail
        go_roundw
        case rel =>
          refine ⟨k + 1, by omega, by go_num, fun j hj h => ?_, _, rfl⟩
          by_cases q : j = k
          · subst q; exact HQ.out
          · exact HA.out j hj (by omega)
        case measure => simp [intOf]; omega
    · have e : Hid (Txt.fldB (lo i) (hi i) f = true) := Txt.fldB_yes (fun j hj => HA.out j hj (by omega))
      go_wp2_with fail
      go_ret
      exact ⟨ret_bool' e.out.symm, below_drewN hb _⟩

set_option maxHeartbeats 1000000 in
theorem holds_any (f : ByteArray) (i v : Int) (w : World) (hs : f.size ≤ 300) (v1 : 0 ≤ v) (v2 : v ≤ 60) (hf : Txt.fldB (lo i) (hi i) f = true) :
    Calls Tryd.prog 73 #[.string f, .int .i64 i, .int .i64 v] w fun e w' => e = .returned (.bool (Txt.hldB (lo i) (hi i) v f)) ∧ Below w.heap.size w w' := by
  have HF : Hid (Txt.fldB (lo i) (hi i) f = true) := hf
  clear hf
  go_enter Tryd.func73, Tryd.ntmps73
  go_wp2_with fail
  refine (parts_any _ _ _ hs).mono ?_
  rintro e w1 ⟨⟨b, cap, rfl, _, hcap, hS⟩, hb⟩
  have hlen := Txt.pcs_len 44 f
  have hlh := lohi i
  have HC : Hid (StrsAt w1 b (Txt.pcs 44 f)) := hS
  clear hS
  go_wp2_with fail
  go_loopw [8] (fun x wr => ∃ k : Nat, k ≤ (Txt.pcs 44 f).length ∧ x = .int .i64 k ∧ (∀ j (hj : j < (Txt.pcs 44 f).length), j < k → Txt.inB (Txt.spA (lo i) (Txt.pcs 44 f)[j]) (Txt.spB (hi i) (Txt.pcs 44 f)[j]) (Txt.spS (Txt.pcs 44 f)[j]) v = false) ∧ ∃ n, wr = w1.drewN n) (fun x _ => (Txt.pcs 44 f).length - (intOf x).toNat)
  case atStart => exact ⟨0, Nat.zero_le _, rfl, fun j _ h => by omega, 0, rfl⟩
  case round =>
    obtain ⟨k, hk, rfl, hall, n0, rfl⟩ := hrel
    have HA : Hid (∀ j (hj : j < (Txt.pcs 44 f).length), j < k → Txt.inB (Txt.spA (lo i) (Txt.pcs 44 f)[j]) (Txt.spB (hi i) (Txt.pcs 44 f)[j]) (Txt.spS (Txt.pcs 44 f)[j]) v = false) := hall
    clear hall
    by_cases hlt : k < (Txt.pcs 44 f).length
    · have hcell : w1.cell? ⟨b, k, none⟩ = some (.string (Txt.pcs 44 f)[k]) := HC.out k hlt
      have hsz : Hid ((Txt.pcs 44 f)[k].size ≤ 300) := Txt.pcs_sz hs k hlt
      have hK := Txt.fldB_at HF.out k hlt
      have hbd := Txt.spK_bd hK
      have HK : Hid (Txt.spK (lo i) (hi i) (Txt.pcs 44 f)[k] = true) := hK
      clear hK
      go_wp2_with fail
      refine (span_any _ _ _ hsz.out).mono ?_
      rintro e w' ⟨⟨a1, b1, t1, rfl, _, hsp⟩, n1, rfl⟩
      obtain ⟨rfl, rfl, rfl⟩ := hsp HK.out
      have HN : Hid (Txt.inB (Txt.spA (lo i) (Txt.pcs 44 f)[k]) (Txt.spB (hi i) (Txt.pcs 44 f)[k]) (Txt.spS (Txt.pcs 44 f)[k]) v = false → ∀ j (hj : j < (Txt.pcs 44 f).length), j < k + 1 → Txt.inB (Txt.spA (lo i) (Txt.pcs 44 f)[j]) (Txt.spB (hi i) (Txt.pcs 44 f)[j]) (Txt.spS (Txt.pcs 44 f)[j]) v = false) := by
        intro h j hj hl
        by_cases q : j = k
        · subst q; exact h
        · exact HA.out j hj (by omega)
      have HY : Hid (Txt.inB (Txt.spA (lo i) (Txt.pcs 44 f)[k]) (Txt.spB (hi i) (Txt.pcs 44 f)[k]) (Txt.spS (Txt.pcs 44 f)[k]) v = true → Txt.hldB (lo i) (hi i) v f = true) := Txt.hldB_yes hlt
      generalize Txt.spA (lo i) (Txt.pcs 44 f)[k] = A at *
      generalize Txt.spB (hi i) (Txt.pcs 44 f)[k] = B at *
      generalize Txt.spS (Txt.pcs 44 f)[k] = S at *
      by_cases q1 : A ≤ v
      rotate_left
      · go_wp2_with fail
        go_roundw
        case rel => exact ⟨k + 1, by omega, by go_num, HN.out (Txt.inB_no (by omega)), _, rfl⟩
        case measure => simp [intOf]; omega
      by_cases q2 : v ≤ B
      rotate_left
      · go_wp2_with fail
        go_roundw
        case rel => exact ⟨k + 1, by omega, by go_num, HN.out (Txt.inB_no (by omega)), _, rfl⟩
        case measure => simp [intOf]; omega
      cases q3 : ((v - A) % S == 0)
      · have q4 : ¬ (v - A) % S = 0 := by simpa using q3
        have Q4 : Hid (¬ (v - A) % S = 0) := q4
        clear q4
        have q3' : ((v - A).tmod S == 0) = false := by rw [Int.tmod_eq_emod_of_nonneg (by omega)]; exact q3
        go_wp2_with fail
        go_roundw
        case rel => exact ⟨k + 1, by omega, by go_num, HN.out (Txt.inB_no (Or.inr (Or.inr (Or.inr Q4.out)))), _, rfl⟩
        case measure => simp [intOf]; omega
      · have q4 : (v - A) % S = 0 := by simpa using q3
        have e : Hid (Txt.hldB (lo i) (hi i) v f = true) := HY.out (Txt.inB_yes q1 q2 (by omega) q4)
        have q3' : ((v - A).tmod S == 0) = true := by rw [Int.tmod_eq_emod_of_nonneg (by omega)]; exact q3
        clear q4
        go_wp2_with fail
        go_ret
        exact ⟨ret_bool' e.out.symm, below_drewN hb _⟩
    · have e : Hid (Txt.hldB (lo i) (hi i) v f = false) := Txt.hldB_no (fun j hj => HA.out j hj (by omega))
      go_wp2_with fail
      go_ret
      exact ⟨ret_bool' e.out.symm, below_drewN hb _⟩
end Go.Proofs.YtdajolpoiffimaaDoor
