/-
  The walks over cut and the numbers: the program's and the document's.
-/
import Derived.Test.YtdajolpoiffimaaDoorTabText
namespace Go.Proofs.YtdajolpoiffimaaDoor
open Go.RowKit
open Txt (NoSep)

set_option maxHeartbeats 400000 in
theorem cut_any (s : ByteArray) (c : Int) (w : World) (hs : s.size ≤ 300) :
    Calls Tryd.prog 128 #[.string s, .int .u8 c] w fun e w' => e = .returned (.tuple #[.string (Txt.cut1 c s), .string (Txt.cut2 c s), .bool (Txt.cut3 c s)]) ∧ ∃ n, w' = w.drewN n := by
  go_enter Tryd.func128, Tryd.ntmps128
  go_wp2_with fail
  go_loop [7] (fun i => ∃ k : Nat, k ≤ s.size ∧ i = .int .i64 k ∧ NoSep c s 0 k) (fun i => s.size - (intOf i).toNat)
  case atStart => exact ⟨0, Nat.zero_le _, rfl, NoSep.nil _ _ _⟩
  case round =>
    obtain ⟨k, hk, rfl, hall⟩ := hrel
    have HA : Hid (NoSep c s 0 k) := hall
    clear hall
    by_cases hlt : k < s.size
    · cases he : ((s[k].toNat : Int) == c)
      · have HN : Hid (NoSep c s 0 (k + 1)) := HA.out.snoc hlt he
        go_wp2_with fail
        go_round
        case rel => exact ⟨k + 1, by omega, by go_num, HN.out⟩
        case measure => simp [intOf]; omega
      · have e : Hid (Txt.cut1 c s = s.extract 0 k ∧ Txt.cut2 c s = s.extract (k + 1) s.size ∧ Txt.cut3 c s = true) := Txt.cut_yes hlt he HA.out
        have b1 : (0 : Int) ≤ (k : Int) := by omega
        have b2 : (k : Int) ≤ (s.size : Int) := by omega
        have b3 : (k : Int) + 1 ≤ (s.size : Int) := by omega
        go_wp2_with fail
        go_quiet (fail)
        go_wp2_with fail
        go_ret3
        exact ⟨ret_three e.out, _, rfl⟩
    · have e : Hid (Txt.cut1 c s = s ∧ Txt.cut2 c s = ByteArray.empty ∧ Txt.cut3 c s = false) := Txt.cut_no ((show k = s.size by omega) ▸ HA.out)
      go_wp2_with fail
      go_ret3
      exact ⟨ret_three e.out, 0, rfl⟩

set_option maxHeartbeats 400000 in
theorem readNumber_any (s : ByteArray) (w : World) (hs : s.size ≤ 300) :
    Calls Tryd.prog 131 #[.string s] w fun e w' => e = .returned (.tuple #[.int .i64 (Txt.numV s), .bool (Txt.numB s)]) ∧ w' = w := by
  by_cases h1 : s.size < 1
  · have e : Hid (0 = Txt.numV s ∧ false = Txt.numB s) := by have := Txt.num_no (Txt.val_no (s := s) (by omega)); exact ⟨this.1.symm, this.2.symm⟩
    go_enter Tryd.func131, Tryd.ntmps131
    go_wp2_with fail
    go_ret2
    exact ⟨ret_numok e.out, rfl⟩
  by_cases h2 : 2 < s.size
  · have e : Hid (0 = Txt.numV s ∧ false = Txt.numB s) := by have := Txt.num_no (Txt.val_no (s := s) (by omega)); exact ⟨this.1.symm, this.2.symm⟩
    go_enter Tryd.func131, Tryd.ntmps131
    go_wp2_with fail
    go_ret2
    exact ⟨ret_numok e.out, rfl⟩
  cases hd : Txt.digs s
  · have e : Hid (0 = Txt.numV s ∧ false = Txt.numB s) := by have := Txt.num_no (Txt.val_no (s := s) (Or.inr (Or.inr hd))); exact ⟨this.1.symm, this.2.symm⟩
    go_enter Tryd.func131, Tryd.ntmps131
    go_wp2_with (go_at_call 130; refine (isDigits_any _ _ hs).mono ?_; rintro e w' ⟨rfl, rfl⟩)
    go_ret2
    exact ⟨ret_numok e.out, rfl⟩
  · have e : Hid (Txt.pv s s.size = Txt.numV s ∧ true = Txt.numB s) := by
      have v := Txt.val_yes (s := s) (by omega) (by omega) hd
      have := Txt.num_yes (Txt.val_nn (s := s) (by omega) (by omega) hd)
      exact ⟨by rw [this.1, v], this.2.symm⟩
    have HD : Hid (Txt.digs s = true) := hd
    go_enter Tryd.func131, Tryd.ntmps131
    go_wp2_with (go_at_call 130; refine (isDigits_any _ _ hs).mono ?_; rintro e w' ⟨rfl, rfl⟩)
    clear hd
    go_loop [4, 5] (fun n i => ∃ k : Nat, k ≤ s.size ∧ i = .int .i64 k ∧ n = .int .i64 (Txt.pv s k)) (fun _ i => s.size - (intOf i).toNat)
    case atStart => exact ⟨0, Nat.zero_le _, rfl, by rw [Txt.pv_0]⟩
    case round =>
      obtain ⟨k, hk, rfl, rfl⟩ := hrel
      have pb := Txt.pv_bd s k hk (by omega)
      by_cases hlt : k < s.size
      · have d := Txt.dg_of (Txt.digs_at HD.out k hlt)
        have PS : Hid (Txt.pv s (k + 1) = Txt.pv s k * 10 + ((s[k].toNat : Int) - 48)) := Txt.pv_succ s k hlt
        obtain ⟨d1, d2⟩ := d
        go_wp2_with fail
        go_round
        case rel => exact ⟨k + 1, by omega, by go_num, by rw [PS.out]⟩
        case measure => simp [intOf]; omega
      · obtain rfl : k = s.size := by omega
        go_wp2_with fail
        go_ret2
        exact ⟨ret_numok e.out, rfl⟩
end Go.Proofs.YtdajolpoiffimaaDoor
