/-
  The walks over the document's isField and Holds, the program's part.holds.
-/
import Derived.Test.YtdajolpoiffimaaDoorRBase
namespace Go.Proofs.YtdajolpoiffimaaDoor
open Go.RowKit

set_option maxHeartbeats 1000000 in
theorem partHolds_any (A B S v : Int) (w : World) (v1 : 0 ≤ v) (v2 : v ≤ 60) (a1 : 0 ≤ A) (a2 : A ≤ 99) (s1 : 1 ≤ S) (s2 : S ≤ 99) :
    Calls Tryd.prog 121 #[.agg #[.int .i64 A, .int .i64 B, .int .i64 S], .int .i64 v] w fun e w' => e = .returned (.bool (Txt.inB A B S v)) ∧ Below w.heap.size w w' := by
  by_cases q1 : A ≤ v
  rotate_left
  · have e : Hid (Txt.inB A B S v = false) := Txt.inB_no (by omega)
    go_enter Tryd.func121, Tryd.ntmps121
    go_wp2_with fail
    go_ret
    exact ⟨ret_bool' e.out.symm, below_alloc w _⟩
  by_cases q2 : v ≤ B
  rotate_left
  · have e : Hid (Txt.inB A B S v = false) := Txt.inB_no (by omega)
    go_enter Tryd.func121, Tryd.ntmps121
    go_wp2_with fail
    go_ret
    exact ⟨ret_bool' e.out.symm, below_alloc w _⟩
  have e : Hid (((v - A) % S == 0) = Txt.inB A B S v) := by
    unfold Hid
    cases q3 : ((v - A) % S == 0)
    · have q4 : ¬ (v - A) % S = 0 := by simpa using q3
      exact (Txt.inB_no (Or.inr (Or.inr (Or.inr q4)))).symm
    · have q4 : (v - A) % S = 0 := by simpa using q3
      exact (Txt.inB_yes q1 q2 (by omega) q4).symm
  have e' : Hid (((v - A).tmod S == 0) = Txt.inB A B S v) := by unfold Hid; rw [Int.tmod_eq_emod_of_nonneg (by omega)]; exact e.out
  go_enter Tryd.func121, Tryd.ntmps121
  go_wp2_with fail
  go_ret
  exact ⟨by first | exact ret_bool' e.out | exact ret_bool' e'.out, below_alloc w _⟩
end Go.Proofs.YtdajolpoiffimaaDoor
