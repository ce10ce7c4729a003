/-
  The walks over the crontabs' small functions on texts: the program's and the document's.
-/
import Derived.Test.YtdajolpoiffimaaDoorRBase
import Derived.Test.YtdajolpoiffimaaDoorNum
namespace Go.Proofs.YtdajolpoiffimaaDoor
open Go.RowKit
open Txt (NoSep)

set_option maxHeartbeats 400000 in
theorem isDigit_any (b : Int) (w : World) :
    Calls Tryd.prog 132 #[.int .u8 b] w fun e w' => e = .returned (.bool (Txt.dg b)) ∧ w' = w := by
  by_cases h1 : 48 ≤ b
  · by_cases h2 : b ≤ 57
    · have e : Hid (Txt.dg b = true) := Txt.dg_yes h1 h2
      go_enter Tryd.func132, Tryd.ntmps132
      go_wp2_with fail
      go_ret
      exact ⟨ret_bool' e.out.symm, rfl⟩
    · have e : Hid (Txt.dg b = false) := Txt.dg_no (by omega)
      go_enter Tryd.func132, Tryd.ntmps132
      go_wp2_with fail
      go_ret
      exact ⟨ret_bool' e.out.symm, rfl⟩
  · have e : Hid (Txt.dg b = false) := Txt.dg_no (by omega)
    go_enter Tryd.func132, Tryd.ntmps132
    go_wp2_with fail
    go_ret
    exact ⟨ret_bool' e.out.symm, rfl⟩

set_option maxHeartbeats 400000 in
theorem isDigits_any (s : ByteArray) (w : World) (hs : s.size ≤ 300) :
    Calls Tryd.prog 130 #[.string s] w fun e w' => e = .returned (.bool (Txt.digs s)) ∧ w' = w := by
  go_enter Tryd.func130, Tryd.ntmps130
  go_wp2_with fail
  go_loop [3] (fun i => ∃ k : Nat, k ≤ s.size ∧ i = .int .i64 k ∧ ∀ j (hj : j < s.size), j < k → Txt.dg (s[j].toNat) = true) (fun i => s.size - (intOf i).toNat)
  case atStart => exact ⟨0, Nat.zero_le _, rfl, fun j _ h => by omega⟩
  case round =>
    obtain ⟨k, hk, rfl, hall⟩ := hrel
    have HA : Hid (∀ j (hj : j < s.size), j < k → Txt.dg (s[j].toNat) = true) := hall
    clear hall
    by_cases hlt : k < s.size
    · cases hd : Txt.dg (s[k].toNat)
      · have e : Hid (Txt.digs s = false) := Txt.digs_no hlt hd
        go_wp2_with (go_at_call 132; refine (isDigit_any _ _).mono ?_; rintro e w' ⟨rfl, rfl⟩)
        go_ret
        exact ⟨ret_bool' e.out.symm, rfl⟩
      · have HD : Hid (Txt.dg (s[k].toNat) = true) := hd
        go_wp2_with (go_at_call 132; refine (isDigit_any _ _).mono ?_; rintro e w' ⟨rfl, rfl⟩)
        go_round
        case rel =>
          refine ⟨k + 1, by omega, by go_num, fun j hj h => ?_⟩
          by_cases q : j = k
          · subst q; exact HD.out
          · exact HA.out j hj (by omega)
        case measure => simp [intOf]; omega
    · have e : Hid (Txt.digs s = true) := Txt.digs_yes (fun j hj => HA.out j hj (by omega))
      go_wp2_with fail
      go_ret
      exact ⟨ret_bool' e.out.symm, rfl⟩
end Go.Proofs.YtdajolpoiffimaaDoor
