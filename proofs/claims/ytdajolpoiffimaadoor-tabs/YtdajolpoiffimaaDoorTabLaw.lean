/-
  The walk over the statement Tabs.
-/
import Derived.Test.YtdajolpoiffimaaDoorTabTop
import Derived.Test.YtdajolpoiffimaaDoorRDueTop
namespace Go.Proofs.YtdajolpoiffimaaDoor
open Go.RowKit

set_option maxHeartbeats 400000 in
theorem num_any' (e : Int) (w : World) :
    Calls Tryd.prog 11 #[.int .i64 e] w fun r w' => r = .returned (.int .i64 e) ∧ w' = w := by
  go_enter Tryd.func11, Tryd.ntmps11
  go_wp2
  go_ret
  exact ⟨rfl, rfl⟩

set_option maxHeartbeats 1000000 in
theorem tabs_any (s : ByteArray) (n m : Int) (w : World) (hs : s.size ≤ maxLen) (hT : TabLH w) (hM : Tab w) :
    Calls Tryd.prog 4 #[.string s, .int .i64 n, .int .i64 m] w fun e w' => e = .returned (.bool true) ∧ Below w.heap.size w w' := by
  have HT : Hid (TabLH w) := hT
  have HM : Hid (Tab w) := hM
  have HS : Hid (s.size ≤ maxLen) := hs
  clear hT hM hs
  go_enter Tryd.func4, Tryd.ntmps4
  go_wp2_with fail
  refine (check_any _ _ HS.out HT.out).mono ?_
  rintro e w1 ⟨⟨a, r, rfl, hC⟩, hb1⟩
  go_wp2_with fail
  refine (rcheck_any _ _ HS.out).mono ?_
  rintro e w2 ⟨⟨a', r', rfl, hC', _⟩, hb2⟩
  obtain ⟨rfl, rfl⟩ := hC.uniq hC'
  have B2 : Below w.heap.size w w2 := hb1.trans (hb2.mono hb1.size)
  have HT2 : Hid (TabLH w2) := HT.out.later B2
  have HM2 : Hid (Tab w2) := HM.out.later B2
  have HB2 : Hid (Below w.heap.size w w2) := B2
  clear hC hC' hb1 hb2 B2 HT HM
  go_wp2_with (go_at_call 11; refine (num_any' _ _).mono ?_; rintro e w' ⟨rfl, rfl⟩)
  refine (bdue_any _ _ _ _ HS.out HT2.out HM2.out).mono ?_
  rintro e w3 ⟨⟨x, q, rfl, hD⟩, hb3⟩
  have HB3 : Hid (Below w.heap.size w w3) := HB2.out.trans (hb3.mono HB2.out.size)
  clear hb3
  go_wp2_with fail
  refine (rdue_any _ _ _ _ HS.out).mono ?_
  rintro e w4 ⟨⟨x', q', rfl, hD'⟩, hb4⟩
  obtain ⟨rfl, rfl⟩ := hD.uniq hD'
  have HB4 : Hid (Below w.heap.size w w4) := HB3.out.trans (hb4.mono HB3.out.size)
  clear hb4 hD hD'
  go_wp2_with (go_at_call 11; refine (num_any' _ _).mono ?_; rintro e w' ⟨rfl, rfl⟩)
  go_ret
  exact ⟨rfl, HB4.out⟩
end Go.Proofs.YtdajolpoiffimaaDoor
