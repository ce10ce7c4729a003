/-
  What Due answers, as plain mathematics; the walk over the document's Due.
-/
import Derived.Test.YtdajolpoiffimaaDoorRDue
namespace Go.Proofs.YtdajolpoiffimaaDoor
open Go.RowKit

attribute [local go_sem ↓] Go.wp_at_zero Go.wp_at_succ

set_option maxHeartbeats 3000000 in
theorem rdue_any (s : ByteArray) (n m : Int) (w : World) (hs : s.size ≤ maxLen) :
    Calls Tryd.prog 17 #[.string s, .int .i64 n, .int .i64 m] w fun e w' => (∃ (x : Bool) (r : Int), e = .returned (.tuple #[.bool x, .int .i64 r]) ∧ DueR s n m x r) ∧ Below w.heap.size w w' := by
  have HS : Hid (s.size ≤ maxLen) := hs
  clear hs
  go_enter Tryd.func17, Tryd.ntmps17
  go_wp2_with fail
  refine (rcheck_any _ _ HS.out).mono ?_
  rintro e w1 ⟨⟨a, r, rfl, hC, _⟩, hb⟩
  have B1 : Hid (Below w.heap.size w w1) := hb
  have hz : w.heap.size ≤ w1.heap.size := hb.size
  clear hb HS
  by_cases hr : r = 0
  rotate_left
  · have K : Hid (DueR s n m false r) := DueR.err a r hC hr
    have hr' : (r != 0) = true := by simpa using hr
    clear hr hC
    go_wp2_with fail
    go_ret2
    exact ⟨⟨false, r, rfl, K.out⟩, B1.out⟩
  subst hr
  have ha := hC.zero rfl
  subst ha
  have HC : Hid (ChkR s 0 0) := hC
  obtain ⟨hs3, hzl, hP⟩ := hC.lines
  have HP : Hid (∀ j : Nat, j < tn s → LineP (tl s j)) := hP
  have hmm : tm s = tn s := by rw [tm, if_pos hzl, Nat.add_zero]
  have hlen := Txt.pcs_len 10 s
  have hnl := tn_len s
  have hnb : tn s ≤ 301 := by omega
  clear hC hP hzl
  go_wp2_with fail
  refine (lines_any _ _ hs3).mono ?_
  rintro e w2 ⟨⟨b, cap, rfl, hS⟩, hb2⟩
  rw [hmm]
  have HSS : Hid (StrsAt w2 b (Txt.pcs 10 s)) := hS
  have HNL : Hid ((Txt.pcs 10 s).length = tn s + 1) := hnl
  have B2 : Hid (Below w.heap.size w w2) := B1.out.trans (hb2.mono hz)
  have hz2 : w.heap.size ≤ w2.heap.size := Nat.le_trans hz hb2.size
  generalize tb s = o
  clear hb2 hS hmm hlen hnl
  by_cases hm : m < 0 ∨ 4223371679 < m
  · have K : Hid (DueR s n m false 4) := DueR.num HC.out (by omega)
    have HMM : Hid (m < 0 ∨ 4223371679 < m) := hm
    clear hm
    go_wp2_with fail
    refine (rdate_no _ _ HMM.out).mono ?_
    rintro e w3 ⟨rfl, hb3⟩
    have B3 : Hid (Below w.heap.size w w3) := B2.out.trans (hb3.mono hz2)
    have hz3 : w.heap.size ≤ w3.heap.size := Nat.le_trans hz2 hb3.size
    clear hb3
    by_cases n1 : n < 1
    · go_wp2_with fail
      go_ret2
      exact ⟨⟨false, 4, rfl, K.out⟩, B3.out.alloc hz3 _⟩
    by_cases n2 : (tn s : Int) < n
    · go_wp2_with fail
      go_ret2
      exact ⟨⟨false, 4, rfl, K.out⟩, B3.out.alloc hz3 _⟩
    · go_wp2_with fail
      go_ret2
      exact ⟨⟨false, 4, rfl, K.out⟩, B3.out.alloc hz3 _⟩
  have m1 : 0 ≤ m := by omega
  have m2 : m ≤ 4223371679 := by omega
  clear hm
  go_wp2_with fail
  refine (rdate_yes _ _ m1 m2).mono ?_
  rintro e w3 ⟨⟨y, mo, d, HD, rfl⟩, hb3⟩
  have B3 : Hid (Below w.heap.size w w3) := B2.out.trans (hb3.mono hz2)
  have hz3 : w.heap.size ≤ w3.heap.size := Nat.le_trans hz2 hb3.size
  by_cases n1 : n < 1
  · have K : Hid (DueR s n m false 4) := DueR.num HC.out (by omega)
    clear hb3
    go_wp2_with fail
    go_ret2
    exact ⟨⟨false, 4, rfl, K.out⟩, B3.out.alloc hz3 _⟩
  by_cases n2 : (tn s : Int) < n
  · have K : Hid (DueR s n m false 4) := DueR.num HC.out (by omega)
    clear hb3
    go_wp2_with fail
    go_ret2
    exact ⟨⟨false, 4, rfl, K.out⟩, B3.out.alloc hz3 _⟩
  obtain ⟨i, rfl⟩ : ∃ i : Nat, n = (i : Int) + 1 := ⟨(n - 1).toNat, by omega⟩
  have hi : i < tn s := by omega
  have K : Hid (DueR s ((i : Int) + 1) m (dueB (tl s i) mo d (m % 1440 / 60) (m % 60) ((m / 1440 + 4) % 7)) 0) := DueR.ok HC.out i rfl hi m1 m2 y mo d HD
  have hil : i < (Txt.pcs 10 s).length := by have := HNL.out; omega
  have c0 : w3.cell? ⟨b, i, none⟩ = some (.string (tl s i)) := by rw [← tl_eq hil]; exact cell_later hb3 (HSS.out i hil)
  have hsz : Hid ((tl s i).size ≤ 300) := tl_sz hs3 i hil
  have hg2 : b < w3.heap.size := World.block_lt_of_cell? _ _ c0
  have hg3 : ¬ w3.heap.size = b := by omega
  have b0 : (0 : Int) ≤ (i : Int) := by omega
  have b1 : (i : Int) < (tn s : Int) := by omega
  have wr1 : IntKind.i64.wrap ((i : Int) + 1 - 1) = (i : Int) := by rw [IntKind.wrap_i64]; omega
  have wr2 : IntKind.i64.wrap (i : Int) = (i : Int) := by rw [IntKind.wrap_i64]; omega
  have bm : 0 ≤ mo ∧ mo ≤ 60 := by have := HD.m1; have := HD.m2; omega
  have bd : 0 ≤ d ∧ d ≤ 60 := by have := HD.d1; have := HD.d2; have := Cal.dim_lo y mo; omega
  clear hb3 HD HSS
  go_wp2_with fail
  go_region_held3 (fun w' => w'.cell? ⟨b, i, none⟩ = some (.string (tl s i)) ∧ w'.cell? ⟨w3.heap.size, 0, none⟩ = some (.int .i64 y) ∧ w'.cell? ⟨w3.heap.size, 1, none⟩ = some (.int .i64 mo) ∧ w'.cell? ⟨w3.heap.size, 2, none⟩ = some (.int .i64 d) ∧ w'.cell? ⟨w3.heap.size, 3, none⟩ = some (.int .i64 (m % 1440 / 60)) ∧ w'.cell? ⟨w3.heap.size, 4, none⟩ = some (.int .i64 (m % 60)) ∧ w'.cell? ⟨w3.heap.size, 5, none⟩ = some (.int .i64 ((m / 1440 + 4) % 7))) (first | go_keep | (refine ⟨?_, ?_, ?_, ?_, ?_, ?_, ?_⟩ <;> exact cell_later hb4 (by simp [*]))) ((go_at_call 44; refine (dueAt_any (tl s i) _ _ _ _ _ _ _ hsz.out (HP.out i hi) bm.1 bm.2 bd.1 bd.2 (by omega) (by omega) (by omega) (by omega) (by omega) (by omega)).mono ?_; rintro e w4 ⟨rfl, hb4⟩))
  have B4 : Hid (Below w.heap.size w w4) := ((B3.out.alloc hz3 _).drew).trans (hb4.mono (by simp; omega))
  clear hb4
  go_wp2_with fail
  go_ret2
  exact ⟨⟨_, 0, rfl, K.out⟩, B4.out⟩
end Go.Proofs.YtdajolpoiffimaaDoor
