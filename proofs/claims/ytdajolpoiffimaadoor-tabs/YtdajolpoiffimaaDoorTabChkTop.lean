/-
  The walk over crontab.Check.
-/
import Derived.Test.YtdajolpoiffimaaDoorTabDue
import Derived.Deep.Cut
namespace Go.Proofs.YtdajolpoiffimaaDoor
open Go.RowKit

attribute [local go_sem ↓] Go.wp_at_zero Go.wp_at_succ

set_option maxHeartbeats 1000000 in
theorem ccheck_any (s : ByteArray) (w : World) (hs : s.size ≤ maxLen) (hT : TabLH w) :
    Calls Tryd.prog 40 #[.string s] w fun e w' => (∃ a r : Int, e = .returned (.tuple #[.int .i64 a, .int .i64 r]) ∧ ChkR s a r) ∧ Below w.heap.size w w' := by
  have HT : Hid (TabLH w) := hT
  have HS : Hid (s.size ≤ maxLen) := hs
  clear hT hs
  go_enter Tryd.func40, Tryd.ntmps40
  go_wp2_with fail
  refine (read_any _ _ HS.out HT.out).mono ?_
  rintro e w1 ⟨⟨a, r, ad, n, c, rfl, hC, hL⟩, hb⟩
  have K : Hid (ChkR s a r) := hC
  clear hL hC
  go_wp2_with fail
  go_quiet (fail)
  go_wp2_with fail
  go_ret2
  exact ⟨⟨a, r, rfl, K.out⟩, below_drewN (hb.alloc hb.size _) _⟩
end Go.Proofs.YtdajolpoiffimaaDoor
