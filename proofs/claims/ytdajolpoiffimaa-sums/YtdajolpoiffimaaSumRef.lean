/-
  The walk over the document's Sum.
-/
import Derived.Test.YtdajolpoiffimaaSumFr
import Derived.Test.YtdajolpoiffimaaCrc
import Derived.WalkKit
import Derived.WalkSpells
import Derived.WalkLawsBesides
import Derived.Laws.BitsAllLaws
namespace Go.Proofs.Ytdajolpoiffimaa
open Go.RowKit

theorem u32_div (b j : Nat) (hb : b < 256) : ((b : Int) % 4294967296 / 2 ^ j) = ((b / 2 ^ j : Nat) : Int) := by
  have e : (b : Int) % 4294967296 = (b : Int) := by omega
  rw [e]; push_cast; rfl
theorem u32_bit (b j c : Nat) (hb : b < 256) (hc : c < 4294967296) : bits .xor .u32 (c : Int) ((b : Int) % 4294967296 / 2 ^ j) = ((c ^^^ (b / 2 ^ j) : Nat) : Int) := by
  rw [u32_div b j hb]
  exact u32_xor_nat c _ hc (Nat.lt_of_le_of_lt (Nat.div_le_self _ _) (by omega))
theorem u32_poly (c : Nat) (hc : c < 4294967296) : bits .xor .u32 ((c : Int) / 2) 3988292384 = ((c / 2 ^^^ Crc.poly : Nat) : Int) := by
  have := u32_xor_nat (c / 2) Crc.poly (by omega) (by decide)
  have e : ((Crc.poly : Nat) : Int) = 3988292384 := rfl
  rw [e] at this; simpa using this

set_option maxHeartbeats 400000 in
theorem rsum_any (s : ByteArray) (w : World) (hs : s.size ≤ maxLen) :
    Calls Try.prog 5 #[.string s] w fun e w' => e = .returned (.int .i64 (Crc.sumR s)) ∧ w' = w := by
  unfold maxLen at hs
  go_enter Try.func5, Try.ntmps5
  go_wp2_with fail
  go_loop [3, 4] (fun c i => ∃ (k : Nat), k ≤ s.size ∧ i = .int .i64 k ∧ c = .int .u32 (Crc.crc (s.data.toList.take k) : Int)) (fun _ i => s.size - (intOf i).toNat)
  case atStart => exact ⟨0, Nat.zero_le _, rfl, rfl⟩
  case round =>
    obtain ⟨k, hk, rfl, rfl⟩ := hrel
    obtain ⟨x, hx⟩ : ∃ x : Nat, x = Crc.crc (s.data.toList.take k) := ⟨_, rfl⟩
    have hx1 : x < 4294967296 := by rw [hx]; exact Crc.crc_lt _
    have HX : Hid (x = Crc.crc (s.data.toList.take k)) := hx
    rw [← hx]
    clear hx
    by_cases hlt : k < s.size
    · have HB : Hid (Crc.crc (s.data.toList.take (k + 1)) = Crc.bitsK s[k].toNat x 8) := by unfold Hid; rw [Crc.crc_step s k hlt, ← HX.out]; rfl
      go_wp2_with fail
      go_loop [3, 5] (fun c i => ∃ (j : Nat), j ≤ 8 ∧ i = .int .i64 j ∧ c = .int .u32 (Crc.bitsK s[k].toNat x j : Int)) (fun _ i => 8 - (intOf i).toNat)
      case atStart => exact ⟨0, Nat.zero_le _, rfl, rfl⟩
      case round =>
        obtain ⟨j, hj, rfl, rfl⟩ := hrel
        obtain ⟨c, hc⟩ : ∃ c : Nat, c = Crc.bitsK s[k].toNat x j := ⟨_, rfl⟩
        have hc1 : c < 4294967296 := by rw [hc]; exact Crc.bitsK_lt hx1 j
        have HC : Hid (c = Crc.bitsK s[k].toNat x j) := hc
        rw [← hc]
        clear hc
        by_cases hjlt : j < 8
        · have hb := s[k].toNat_lt
          have U := u32_bit s[k].toNat j c (by omega) hc1
          have HS : Hid (Crc.bitsK s[k].toNat x (j + 1) = Crc.bitStep s[k].toNat j c) := by unfold Hid; rw [HC.out]; rfl
          by_cases q : (c ^^^ (s[k].toNat / 2 ^ j)) % 2 = 1
          · have t : ((bits .xor .u32 (c : Int) ((s[k].toNat : Int) % 4294967296 / 2 ^ j)).tmod 2 == 1) = true := by
              rw [U, Int.tmod_eq_emod_of_nonneg (by omega)]; simp; omega
            have P : Hid (bits .xor .u32 ((c : Int) / 2) 3988292384 = (Crc.bitsK s[k].toNat x (j + 1) : Int)) := by
              unfold Hid; rw [u32_poly c hc1, HS.out, Crc.bitStep, if_pos q]
            clear U q hb
            go_wp2_with fail
            go_round
            case rel => exact ⟨j + 1, by omega, by go_num, by rw [P.out]⟩
            case measure => simp [intOf]; omega
          · have t : ((bits .xor .u32 (c : Int) ((s[k].toNat : Int) % 4294967296 / 2 ^ j)).tmod 2 == 1) = false := by
              rw [U, Int.tmod_eq_emod_of_nonneg (by omega)]; simp; omega
            have P : Hid ((c : Int) / 2 = (Crc.bitsK s[k].toNat x (j + 1) : Int)) := by
              unfold Hid; rw [HS.out, Crc.bitStep, if_neg q]; simp
            clear U q hb
            go_wp2_with fail
            go_round
            case rel => exact ⟨j + 1, by omega, by go_num, by rw [P.out]⟩
            case measure => simp [intOf]; omega
        · obtain rfl : j = 8 := by omega
          go_wp2_with fail
          go_round
          case rel => exact ⟨k + 1, by omega, by go_num, by rw [HB.out, ← HC.out]⟩
          case measure => simp [intOf]; omega
    · obtain rfl : k = s.size := by omega
      have HE : Hid ((4294967295 - (x : Int)) = Crc.sumR s) := by unfold Hid; rw [Crc.sumR, HX.out, Crc.crc_whole]
      go_wp2_with fail
      go_ret
      exact ⟨ret_sum HE.out, rfl⟩
end Go.Proofs.Ytdajolpoiffimaa
