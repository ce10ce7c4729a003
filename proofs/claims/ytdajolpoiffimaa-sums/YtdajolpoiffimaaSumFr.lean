/-
  The walks over the program's halve and Sum.
-/
import Derived.Test.YtdajolpoiffimaaRows
import Derived.Test.YtdajolpoiffimaaCrc
import Derived.WalkKit
import Derived.WalkSpells
import Derived.WalkLawsBesides
import Derived.Laws.BitsAllLaws
namespace Go.Proofs.Ytdajolpoiffimaa
open Go.RowKit

theorem ret_sum {k : IntKind} {a b : Int} (h : a = b) : Ending.returned (.int k a) = .returned (.int k b) := by rw [h]

theorem i64_xor_nat (a b : Nat) (ha : a < 4294967296) (hb : b < 4294967296) : bits .xor .i64 (a : Int) (b : Int) = ((a ^^^ b : Nat) : Int) := by
  have hx : a ^^^ b < 2 ^ 32 := Nat.xor_lt_two_pow (by omega) (by omega)
  show IntKind.i64.wrap ((BitVec.ofInt 64 (a : Int) ^^^ BitVec.ofInt 64 (b : Int)).toNat : Int) = _
  rw [BitVec.toNat_xor, ofInt_u64 a (by omega), ofInt_u64 b (by omega), IntKind.wrap_i64]
  omega
theorem i64_poly (c : Nat) (hc : c < 4294967296) : bits .xor .i64 ((c : Int) / 2) 3988292384 = ((c / 2 ^^^ Crc.poly : Nat) : Int) := by
  have := i64_xor_nat (c / 2) Crc.poly (by omega) (by decide)
  have e : ((Crc.poly : Nat) : Int) = 3988292384 := rfl
  rw [e] at this; simpa using this
theorem i64_flip (c : Nat) (hc : c < 4294967296) : bits .xor .i64 (c : Int) 4294967295 = 4294967295 - (c : Int) := by
  have := i64_xor_nat c 4294967295 hc (by decide)
  rw [Crc.flip hc] at this
  have e : ((4294967295 : Nat) : Int) = 4294967295 := rfl
  rw [e] at this; rw [this]; omega
theorem plainStep_lt {c : Nat} (h : c < 4294967296) : Crc.plainStep c < 4294967296 := by
  unfold Crc.plainStep; split
  · exact Crc.xor_lt (by omega) (by decide)
  · omega
theorem plainK_lt {c : Nat} (h : c < 4294967296) (j : Nat) : Crc.plainK c j < 4294967296 := by
  induction j with
  | zero => exact h
  | succ j ih => exact plainStep_lt ih

set_option maxHeartbeats 400000 in
theorem halve_any (c : Nat) (w : World) (hc : c < 4294967296) :
    Calls Try.prog 7 #[.int .i64 c] w fun e w' => e = .returned (.int .i64 (Crc.plainStep c : Nat)) ∧ w' = w := by
  have P := i64_poly c hc
  by_cases q : c % 2 = 1
  · have t : ((c : Int) % 2 == 1) = true := by simp; omega
    have HP : Hid (bits .xor .i64 ((c : Int) / 2) 3988292384 = (Crc.plainStep c : Nat)) := by unfold Hid; rw [P, Crc.plainStep, if_pos q]
    clear P q
    go_enter Try.func7, Try.ntmps7
    go_wp2_with fail
    go_ret
    exact ⟨ret_sum HP.out, rfl⟩
  · have t : ((c : Int) % 2 == 1) = false := by simp; omega
    have HP : Hid ((c : Int) / 2 = (Crc.plainStep c : Nat)) := by unfold Hid; rw [Crc.plainStep, if_neg q]; simp
    clear P q
    go_enter Try.func7, Try.ntmps7
    go_wp2_with fail
    go_ret
    exact ⟨ret_sum HP.out, rfl⟩

set_option maxHeartbeats 400000 in
theorem fsum_any (s : ByteArray) (w : World) (hs : s.size ≤ maxLen) :
    Calls Try.prog 6 #[.string s] w fun e w' => e = .returned (.int .i64 (Crc.sumR s)) ∧ w' = w := by
  unfold maxLen at hs
  go_enter Try.func6, Try.ntmps6
  go_wp2_with fail
  go_loop [3, 4] (fun c i => ∃ (k : Nat), k ≤ s.size ∧ i = .int .i64 k ∧ c = .int .i64 (Crc.crc (s.data.toList.take k) : Int)) (fun _ i => s.size - (intOf i).toNat)
  case atStart => exact ⟨0, Nat.zero_le _, rfl, rfl⟩
  case round =>
    obtain ⟨k, hk, rfl, rfl⟩ := hrel
    obtain ⟨x, hx⟩ : ∃ x : Nat, x = Crc.crc (s.data.toList.take k) := ⟨_, rfl⟩
    have hx1 : x < 4294967296 := by rw [hx]; exact Crc.crc_lt _
    have HX : Hid (x = Crc.crc (s.data.toList.take k)) := hx
    rw [← hx]
    clear hx
    by_cases hlt : k < s.size
    · have hb := s[k].toNat_lt
      have X : Hid (bits .xor .i64 (x : Int) (s[k].toNat : Int) = ((x ^^^ s[k].toNat : Nat) : Int)) := i64_xor_nat x s[k].toNat hx1 (by omega)
      have HB : Hid (Crc.crc (s.data.toList.take (k + 1)) = Crc.plainK (x ^^^ s[k].toNat) 8) := by unfold Hid; rw [Crc.crc_step s k hlt, ← HX.out, Crc.byte_plain (by omega)]
      have hc0 : x ^^^ s[k].toNat < 4294967296 := Crc.xor_lt hx1 (by omega)
      generalize (x ^^^ s[k].toNat) = z at *
      have XB := X.out
      go_wp2_with fail
      go_loop [3, 5] (fun c i => ∃ (j : Nat), j ≤ 8 ∧ i = .int .i64 j ∧ c = .int .i64 (Crc.plainK z j : Nat)) (fun _ i => 8 - (intOf i).toNat)
      case atStart => exact ⟨0, Nat.zero_le _, rfl, by first | rfl | rw [XB]; rfl⟩
      case round =>
        obtain ⟨j, hj, rfl, rfl⟩ := hrel
        obtain ⟨c, hc⟩ : ∃ c : Nat, c = Crc.plainK z j := ⟨_, rfl⟩
        have hc1 : c < 4294967296 := by rw [hc]; exact plainK_lt hc0 j
        have HC : Hid (c = Crc.plainK z j) := hc
        rw [← hc]
        clear hc
        by_cases hjlt : j < 8
        · have HS : Hid (Crc.plainK z (j + 1) = Crc.plainStep c) := by unfold Hid; rw [HC.out]; rfl
          go_wp2_with fail
          refine (halve_any c _ hc1).mono ?_
          rintro e w1 ⟨rfl, rfl⟩
          go_wp2_with fail
          go_round
          case rel => exact ⟨j + 1, by omega, by go_num, by rw [HS.out]⟩
          case measure => simp [intOf]; omega
        · obtain rfl : j = 8 := by omega
          go_wp2_with fail
          go_round
          case rel => exact ⟨k + 1, by omega, by go_num, by rw [HB.out, ← HC.out]⟩
          case measure => simp [intOf]; omega
    · obtain rfl : k = s.size := by omega
      have HE : Hid (bits .xor .i64 (x : Int) 4294967295 = Crc.sumR s) := by unfold Hid; rw [i64_flip x hx1, Crc.sumR, HX.out, Crc.crc_whole]
      go_wp2_with fail
      go_ret
      exact ⟨ret_sum HE.out, rfl⟩

end Go.Proofs.Ytdajolpoiffimaa
