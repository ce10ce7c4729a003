/-
  The walk over the program's Sum, its entry.
-/
import Derived.Test.YtdajolpoiffimaaSumRef
namespace Go.Proofs.Ytdajolpoiffimaa
open Go.RowKit

set_option maxHeartbeats 400000 in
theorem bsum_any (s : ByteArray) (w : World) (hs : s.size ≤ maxLen) :
    Calls Try.prog 4 #[.string s] w fun e w' => e = .returned (.int .i64 (Crc.sumR s)) ∧ w' = w := by
  go_enter Try.func4, Try.ntmps4
  go_wp2_with fail
  refine (fsum_any s _ hs).mono ?_
  rintro e w1 ⟨rfl, rfl⟩
  go_wp2_with fail
  go_ret
  exact ⟨rfl, rfl⟩
end Go.Proofs.Ytdajolpoiffimaa
