/-
  The walks over split and parts: a text between the bytes c, as a slice of texts.
-/
import Derived.Test.YtdajolpoiffimaaDoorTabNum
namespace Go.Proofs.YtdajolpoiffimaaDoor
open Go.RowKit
open Txt (NoSep)

set_option maxHeartbeats 1000000 in
theorem split_any (s : ByteArray) (c : Int) (w : World) (hs : s.size ≤ 300) :
    Calls Tryd.prog 114 #[.string s, .int .u8 c] w fun e w' => (∃ b cap, e = .returned (.slice (some ⟨b, 0, none⟩) (Txt.pcs c s).length cap) ∧ w.heap.size ≤ b ∧ (Txt.pcs c s).length ≤ cap ∧ StrsAt w' b (Txt.pcs c s)) ∧ Below w.heap.size w w' := by
  obtain ⟨i0, hi, hz0, hz1, hz2⟩ := info_parts infoStr
  go_enter Tryd.func114, Tryd.ntmps114
  go_wp2_with fail
  go_loopw [5, 6, 7] (fun v st i wr => ∃ (k a : Nat) (L : List ByteArray), k ≤ s.size ∧ a ≤ k ∧ i = .int .i64 k ∧ st = .int .i64 a ∧ L.length ≤ a ∧ Txt.pcs c s = L ++ Txt.pcs c (s.extract a s.size) ∧ NoSep c s a k ∧ wr.ownsRow w.heap.size 9 1 v L.length (L.map Value.string) ∧ Below w.heap.size w wr) (fun _ _ i _ => s.size - (intOf i).toNat)
  case atStart =>
    refine ⟨0, 0, [], Nat.zero_le _, Nat.le_refl _, rfl, rfl, Nat.le_refl _, ?_, NoSep.nil _ _ _, ?_, below_alloc _ _⟩
    · rw [Txt.whole]; rfl
    · exact ⟨rfl, Or.inr ⟨w.heap.size, 0, #[], rfl, Nat.le_refl _, (MapKept.heap_alloc w _).1, Nat.le_refl _, Nat.zero_le _, rfl, rfl⟩⟩
  case round =>
    obtain ⟨k, a, L, hk, ha, rfl, rfl, hL, hp, hn, hown, hnx⟩ := hrel
    have HP : Hid (Txt.pcs c s = L ++ Txt.pcs c (s.extract a s.size)) := hp
    have HN : Hid (NoSep c s a k) := hn
    have hsz := hnx.size
    clear hp hn
    by_cases hlt : k < s.size
    · cases he : ((s[k].toNat : Int) == c)
      · have HN' : Hid (NoSep c s a (k + 1)) := HN.out.snoc hlt he
        go_wp2_with fail
        go_roundw
        case rel => exact ⟨k + 1, a, L, by omega, by omega, by go_num, rfl, hL, HP.out, HN'.out, hown, hnx⟩
        case measure => simp [intOf]; omega
      · have HP' : Hid (Txt.pcs c s = (L ++ [s.extract a k]) ++ Txt.pcs c (s.extract (k + 1) s.size)) := by
          unfold Hid; rw [HP.out, Txt.pcs_step HN.out hlt ha he]; simp
        go_wp2_with (at_builtin; refine wpList_append_lies _ rfl (.tmp 20) (.tmp 25) 66 rfl w.heap.size 9 i0 (.string ByteArray.empty) 1 16 Tryd.underlying66 hi hz0 hz1 hz2 rfl (by decide) _ _ _ rfl (hown.alloc _) ⟨wr.heap.size, 0, none⟩ 1 1 [.string (s.extract a k)] rfl rfl ?c1 ?c2 (by decide) ?c3 ?c4 ?c5 _ rfl ?_)
        case c1 => exact cell_one_new _ _ _
        case c2 => intro u hu; simp at hu; subst hu; rfl
        case c3 => unfold maxLen; omega
        case c4 => omega
        case c5 => simp; omega
        · intro g cap w1 hown' hgrow _ hlt'
          have B1 : Below w.heap.size w w1 := (hnx.alloc hsz _).grown hgrow (by simp; omega) (fun k' e => (hown.lt k' e).1)
          have hown2 : w1.ownsRow w.heap.size 9 1 (.slice (some ⟨g, 0, none⟩) (L.length + 1) cap) (L ++ [s.extract a k]).length ((L ++ [s.extract a k]).map Value.string) := by simpa using hown'
          clear hown' hgrow hown hnx
          go_wp2_with fail
          go_roundw
          case rel => exact ⟨k + 1, k + 1, L ++ [s.extract a k], by omega, by omega, by go_num, by go_num, by simp; omega, HP'.out, NoSep.nil _ _ _, hown2, B1⟩
          case measure => simp [intOf]; omega
    · obtain rfl : k = s.size := by omega
      have HP' : Hid (Txt.pcs c s = L ++ [s.extract a s.size]) := by unfold Hid; rw [HP.out, Txt.pcs_last HN.out]
      go_wp2_with (at_builtin; refine wpList_append_lies _ rfl (.tmp 29) (.tmp 33) 66 rfl w.heap.size 9 i0 (.string ByteArray.empty) 1 16 Tryd.underlying66 hi hz0 hz1 hz2 rfl (by decide) _ _ _ rfl (hown.alloc _) ⟨wr.heap.size, 0, none⟩ 1 1 [.string (s.extract a s.size)] rfl rfl ?c1 ?c2 (by decide) ?c3 ?c4 ?c5 _ rfl ?_)
      case c1 => exact cell_one_new _ _ _
      case c2 => intro u hu; simp at hu; subst hu; rfl
      case c3 => unfold maxLen; omega
      case c4 => omega
      case c5 => simp; omega
      · intro g cap w1 hown' hgrow _ hlt'
        have B1 : Below w.heap.size w w1 := (hnx.alloc hsz _).grown hgrow (by simp; omega) (fun k' e => (hown.lt k' e).1)
        have hown2 : w1.ownsRow w.heap.size 9 1 (.slice (some ⟨g, 0, none⟩) (L.length + 1) cap) (L.length + 1) ((L ++ [s.extract a s.size]).map Value.string) := by simpa using hown'
        have hlen : L.length + 1 = (Txt.pcs c s).length := by rw [HP'.out]; simp
        have hA : StrsAt w1 g (Txt.pcs c s) := by rw [HP'.out]; exact strs_of_own hown2 (by simp)
        have hcap : L.length + 1 ≤ cap ∧ w.heap.size ≤ g := by
          rcases hown2.2 with ⟨h, _⟩ | ⟨g', cap', cur, h, h3, _, h2, _⟩
          · cases h
          · cases h; exact ⟨h2, h3⟩
        clear hown' hgrow hown hnx hown2
        go_wp2_with fail
        go_ret
        exact ⟨⟨g, cap, ret_slice hlen, hcap.2, by omega, hA⟩, B1⟩
end Go.Proofs.YtdajolpoiffimaaDoor
