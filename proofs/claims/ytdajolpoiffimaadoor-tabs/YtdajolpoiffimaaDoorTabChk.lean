/-
  What Check answers, as plain mathematics; the walks over splitLines, Lines and the document's Check.
-/
import Derived.Test.YtdajolpoiffimaaDoorLin
import Derived.Test.YtdajolpoiffimaaDoorTabSplit
namespace Go.Proofs.YtdajolpoiffimaaDoor
open Go.RowKit

set_option maxHeartbeats 1000000 in
theorem splitLines_any (s : ByteArray) (w : World) (hs : s.size ≤ 300) :
    Calls Tryd.prog 98 #[.string s] w fun e w' => (∃ b cap, e = .returned (.tuple #[.slice (some ⟨b, 0, none⟩) (tn s) cap, .string (tl s (tn s))]) ∧ w.heap.size ≤ b ∧ tn s ≤ cap ∧ StrsAt w' b (Txt.pcs 10 s)) ∧ Below w.heap.size w w' := by
  go_enter Tryd.func98, Tryd.ntmps98
  go_wp2_with fail
  refine (split_any _ _ _ hs).mono ?_
  rintro e w1 ⟨⟨b, cap, rfl, hge, hcap, hS⟩, hb⟩
  have hlen := Txt.pcs_len 10 s
  have hn := tn_len s
  have HN : Hid ((Txt.pcs 10 s).length = tn s + 1) := hn
  have HS : Hid (StrsAt w1 b (Txt.pcs 10 s)) := hS
  rw [hn] at hcap hlen ⊢
  have c : w1.cell? ⟨b, tn s, none⟩ = some (.string (tl s (tn s))) := by rw [← tl_eq (tn_lt s)]; exact hS _ (tn_lt s)
  clear hn hS
  have b1 : (0 : Int) ≤ (tn s : Int) := by omega
  have b2 : (tn s : Int) < ((tn s + 1 : Nat) : Int) := by omega
  have b3 : (tn s : Int) ≤ (cap : Int) := by omega
  go_wp2_with fail
  go_quiet (fail)
  go_wp2_with fail
  go_ret2
  exact ⟨⟨b, cap, rfl, hge, by omega, HS.out⟩, below_drewN hb _⟩
end Go.Proofs.YtdajolpoiffimaaDoor
