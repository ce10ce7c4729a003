/-
  The walks over the document's isField and Holds, the program's part.holds.
-/
import Derived.Test.YtmbginojgenbeaaDoorTabSpan
import Derived.Test.YtmbginojgenbeaaDoorTabSplit
import Derived.Test.YtmbginojgenbeaaDoorFld
namespace Go.Proofs.YtmbginojgenbeaaDoor
open Go.RowKit

set_option maxHeartbeats 1000000 in
theorem isField_any (f : ByteArray) (i : Int) (w : World) (hs : f.size ≤ 300) :
    Calls Tryd.prog 36 #[.string f, .int .i64 i] w fun e w' => e = .returned (.bool (Txt.fldB (lo i) (hi i) f)) ∧ Below w.heap.size w w' := by
  go_enter Tryd.func36, Tryd.ntmps36
  go_wp2_with fail
  refine (parts_any _ _ _ hs).mono ?_
  rintro e w1 ⟨⟨b, cap, rfl, _, hcap, hS⟩, hb⟩
  have hlen := Txt.pcs_len 44 f
  have HC : Hid (StrsAt w1 b (Txt.pcs 44 f)) := hS
  clear hS
  go_wp2_with fail
  go_loopw [6] (fun x wr => ∃ k : Nat, k ≤ (Txt.pcs 44 f).length ∧ x = .int .i64 k ∧ (∀ j (hj : j < (Txt.pcs 44 f).length), j < k → Txt.spK (lo i) (hi i) (Txt.pcs 44 f)[j] = true) ∧ ∃ n, wr = w1.drewN n) (fun x _ => (Txt.pcs 44 f).length - (intOf x).toNat)
  case atStart => exact ⟨0, Nat.zero_le _, rfl, fun j _ h => by omega, 0, rfl⟩
  case round =>
    obtain ⟨k, hk, rfl, hall, n0, rfl⟩ := hrel
    have HA : Hid (∀ j (hj : j < (Txt.pcs 44 f).length), j < k → Txt.spK (lo i) (hi i) (Txt.pcs 44 f)[j] = true) := hall
    clear hall
    by_cases hlt : k < (Txt.pcs 44 f).length
    · have hcell : w1.cell? ⟨b, k, none⟩ = some (.string (Txt.pcs 44 f)[k]) := HC.out k hlt
      have hsz : Hid ((Txt.pcs 44 f)[k].size ≤ 300) := Txt.pcs_sz hs k hlt
      go_wp2_with fail
      refine (span_any _ _ _ hsz.out).mono ?_
      rintro e w' ⟨⟨a1, b1, t1, rfl, _, _⟩, n1, rfl⟩
      cases hq : Txt.spK (lo i) (hi i) (Txt.pcs 44 f)[k]
      · have e : Hid (Txt.fldB (lo i) (hi i) f = false) := Txt.fldB_no hlt hq
        go_wp2_with fail
        go_ret
        exact ⟨ret_bool' e.out.symm, below_drewN hb _⟩
      · have HQ : Hid (Txt.spK (lo i) (hi i) (Txt.pcs 44 f)[k] = true) := hq
        go_wp2_with fail
        go_roundw
        case rel =>
          refine ⟨k + 1, by omega, by go_num, fun j hj h => ?_, _, rfl⟩
          by_cases q : j = k
          · subst q; exact HQ.out
          · exact HA.out j hj (by omega)
        case measure => simp [intOf]; omega
    · have e : Hid (Txt.fldB (lo i) (hi i) f = true) := Txt.fldB_yes (fun j hj => HA.out j hj (by omega))
      go_wp2_with fail
      go_ret
      exact ⟨ret_bool' e.out.symm, below_drewN hb _⟩

set_option maxHeartbeats 1000000 in
theorem holds_any (f : ByteArray) (i v : Int) (w : World) (hs : f.size ≤ 300) (v1 : 0 ≤ v) (v2 : v ≤ 60) (hf : Txt.fldB (lo i) (hi i) f = true) :
    Calls Tryd.prog 40 #[.string f, .int .i64 i, .int .i64 v] w fun e w' => e = .returned (.bool (Txt.hldB (lo i) (hi i) v f)) ∧ Below w.heap.size w w' := by
  have HF : Hid (Txt.fldB (lo i) (hi i) f = true) := hf
  clear hf
  go_enter Tryd.func40, Tryd.ntmps40
  go_wp2_with fail
  refine (parts_any _ _ _ hs).mono ?_
  rintro e w1 ⟨⟨b, cap, rfl, _, hcap, hS⟩, hb⟩
  have hlen := Txt.pcs_len 44 f
  have hlh := lohi i
  have HC : Hid (StrsAt w1 b (Txt.pcs 44 f)) := hS
  clear hS
  go_wp2_with fail
  go_loopw [8] (fun x wr => ∃ k : Nat, k ≤ (Txt.pcs 44 f).length ∧ x = .int .i64 k ∧ (∀ j (hj : j < (Txt.pcs 44 f).length), j < k → Txt.inB (Txt.spA (lo i) (Txt.pcs 44 f)[j]) (Txt.spB (hi i) (Txt.pcs 44 f)[j]) (Txt.spS (Txt.pcs 44 f)[j]) v = false) ∧ ∃ n, wr = w1.drewN n) (fun x _ => (Txt.pcs 44 f).length - (intOf x).toNat)
  case atStart => exact ⟨0, Nat.zero_le _, rfl, fun j _ h => by omega, 0, rfl⟩
  case round =>
    obtain ⟨k, hk, rfl, hall, n0, rfl⟩ := hrel
    have HA : Hid (∀ j (hj : j < (Txt.pcs 44 f).length), j < k → Txt.inB (Txt.spA (lo i) (Txt.pcs 44 f)[j]) (Txt.spB (hi i) (Txt.pcs 44 f)[j]) (Txt.spS (Txt.pcs 44 f)[j]) v = false) := hall
    clear hall
    by_cases hlt : k < (Txt.pcs 44 f).length
    · have hcell : w1.cell? ⟨b, k, none⟩ = some (.string (Txt.pcs 44 f)[k]) := HC.out k hlt
      have hsz : Hid ((Txt.pcs 44 f)[k].size ≤ 300) := Txt.pcs_sz hs k hlt
      have hK := Txt.fldB_at HF.out k hlt
      have hbd := Txt.spK_bd hK
      have HK : Hid (Txt.spK (lo i) (hi i) (Txt.pcs 44 f)[k] = true) := hK
      clear hK
      go_wp2_with fail
      refine (span_any _ _ _ hsz.out).mono ?_
      rintro e w' ⟨⟨a1, b1, t1, rfl, _, hsp⟩, n1, rfl⟩
      obtain ⟨rfl, rfl, rfl⟩ := hsp HK.out
      have HN : Hid (Txt.inB (Txt.spA (lo i) (Txt.pcs 44 f)[k]) (Txt.spB (hi i) (Txt.pcs 44 f)[k]) (Txt.spS (Txt.pcs 44 f)[k]) v = false → ∀ j (hj : j < (Txt.pcs 44 f).length), j < k + 1 → Txt.inB (Txt.spA (lo i) (Txt.pcs 44 f)[j]) (Txt.spB (hi i) (Txt.pcs 44 f)[j]) (Txt.spS (Txt.pcs 44 f)[j]) v = false) := by
        intro h j hj hl
        by_cases q : j = k
        · subst q; exact h
        · exact HA.out j hj (by omega)
      have HY : Hid (Txt.inB (Txt.spA (lo i) (Txt.pcs 44 f)[k]) (Txt.spB (hi i) (Txt.pcs 44 f)[k]) (Txt.spS (Txt.pcs 44 f)[k]) v = true → Txt.hldB (lo i) (hi i) v f = true) := Txt.hldB_yes hlt
      generalize Txt.spA (lo i) (Txt.pcs 44 f)[k] = A at *
      generalize Txt.spB (hi i) (Txt.pcs 44 f)[k] = B at *
      generalize Txt.spS (Txt.pcs 44 f)[k] = S at *
      by_cases q1 : A ≤ v
      rotate_left
      · go_wp2_with fail
        go_roundw
        case rel => exact ⟨k + 1, by omega, by go_num, HN.out (Txt.inB_no (by omega)), _, rfl⟩
        case measure => simp [intOf]; omega
      by_cases q2 : v ≤ B
      rotate_left
      · go_wp2_with fail
        go_roundw
        case rel => exact ⟨k + 1, by omega, by go_num, HN.out (Txt.inB_no (by omega)), _, rfl⟩
        case measure => simp [intOf]; omega
      cases q3 : ((v - A) % S == 0)
      · have q4 : ¬ (v - A) % S = 0 := by simpa using q3
        have Q4 : Hid (¬ (v - A) % S = 0) := q4
        clear q4
        have q3' : ((v - A).tmod S == 0) = false := by rw [Int.tmod_eq_emod_of_nonneg (by omega)]; exact q3
        go_wp2_with fail
        go_roundw
        case rel => exact ⟨k + 1, by omega, by go_num, HN.out (Txt.inB_no (Or.inr (Or.inr (Or.inr Q4.out)))), _, rfl⟩
        case measure => simp [intOf]; omega
      · have q4 : (v - A) % S = 0 := by simpa using q3
        have e : Hid (Txt.hldB (lo i) (hi i) v f = true) := HY.out (Txt.inB_yes q1 q2 (by omega) q4)
        have q3' : ((v - A).tmod S == 0) = true := by rw [Int.tmod_eq_emod_of_nonneg (by omega)]; exact q3
        clear q4
        go_wp2_with fail
        go_ret
        exact ⟨ret_bool' e.out.symm, below_drewN hb _⟩
    · have e : Hid (Txt.hldB (lo i) (hi i) v f = false) := Txt.hldB_no (fun j hj => HA.out j hj (by omega))
      go_wp2_with fail
      go_ret
      exact ⟨ret_bool' e.out.symm, below_drewN hb _⟩

set_option maxHeartbeats 1000000 in
theorem partHolds_any (A B S v : Int) (w : World) (v1 : 0 ≤ v) (v2 : v ≤ 60) (a1 : 0 ≤ A) (a2 : A ≤ 99) (s1 : 1 ≤ S) (s2 : S ≤ 99) :
    Calls Tryd.prog 58 #[.agg #[.int .i64 A, .int .i64 B, .int .i64 S], .int .i64 v] w fun e w' => e = .returned (.bool (Txt.inB A B S v)) ∧ Below w.heap.size w w' := by
  by_cases q1 : A ≤ v
  rotate_left
  · have e : Hid (Txt.inB A B S v = false) := Txt.inB_no (by omega)
    go_enter Tryd.func58, Tryd.ntmps58
    go_wp2_with fail
    go_ret
    exact ⟨ret_bool' e.out.symm, below_alloc w _⟩
  by_cases q2 : v ≤ B
  rotate_left
  · have e : Hid (Txt.inB A B S v = false) := Txt.inB_no (by omega)
    go_enter Tryd.func58, Tryd.ntmps58
    go_wp2_with fail
    go_ret
    exact ⟨ret_bool' e.out.symm, below_alloc w _⟩
  have e : Hid (((v - A) % S == 0) = Txt.inB A B S v) := by
    unfold Hid
    cases q3 : ((v - A) % S == 0)
    · have q4 : ¬ (v - A) % S = 0 := by simpa using q3
      exact (Txt.inB_no (Or.inr (Or.inr (Or.inr q4)))).symm
    · have q4 : (v - A) % S = 0 := by simpa using q3
      exact (Txt.inB_yes q1 q2 (by omega) q4).symm
  have e' : Hid (((v - A).tmod S == 0) = Txt.inB A B S v) := by unfold Hid; rw [Int.tmod_eq_emod_of_nonneg (by omega)]; exact e.out
  go_enter Tryd.func58, Tryd.ntmps58
  go_wp2_with fail
  go_ret
  exact ⟨by first | exact ret_bool' e.out | exact ret_bool' e'.out, below_alloc w _⟩
end Go.Proofs.YtmbginojgenbeaaDoor
