/-
  What Check answers, as plain mathematics; the walks over the document's Lines and Check.
-/
import Derived.Test.YtdajolpoiffimaaDoorRLine
namespace Go.Proofs.YtdajolpoiffimaaDoor
open Go.RowKit

set_option maxHeartbeats 1000000 in
theorem lines_any (s : ByteArray) (w : World) (hs : s.size ≤ 300) :
    Calls Tryd.prog 41 #[.string s] w fun e w' => (∃ b cap, e = .returned (.tuple #[.slice (some ⟨b, 0, none⟩) (tm s) cap, .bool (tb s)]) ∧ StrsAt w' b (Txt.pcs 10 s)) ∧ Below w.heap.size w w' := by
  go_enter Tryd.func41, Tryd.ntmps41
  go_wp2_with fail
  refine (parts_any _ _ _ hs).mono ?_
  rintro e w1 ⟨⟨b, cap, rfl, hge, hcap, hS⟩, hb⟩
  have hlen := Txt.pcs_len 10 s
  have hn := tn_len s
  have HS : Hid (StrsAt w1 b (Txt.pcs 10 s)) := hS
  rw [hn] at hcap hlen ⊢
  have c : w1.cell? ⟨b, tn s, none⟩ = some (.string (tl s (tn s))) := by rw [← tl_eq (tn_lt s)]; exact hS _ (tn_lt s)
  clear hn hS
  have b1 : (0 : Int) ≤ (tn s : Int) := by omega
  have b2 : (tn s : Int) < ((tn s + 1 : Nat) : Int) := by omega
  have b3 : (tn s : Int) ≤ (cap : Int) := by omega
  have he := empty_list (s := tl s (tn s))
  by_cases z : (tl s (tn s)).size = 0
  · have Z : Hid ((tl s (tn s)).size = 0) := z
    rw [decide_eq_true z] at he
    clear z
    go_wp2_with fail
    go_ret2
    refine ⟨⟨b, cap, ?_, HS.out⟩, hb⟩
    rw [tm, tb, if_pos Z.out, decide_eq_true Z.out]; rfl
  · have Z : Hid (¬ (tl s (tn s)).size = 0) := z
    rw [decide_eq_false z] at he
    clear z
    go_wp2_with fail
    go_ret2
    refine ⟨⟨b, cap, ?_, HS.out⟩, hb⟩
    rw [tm, tb, if_neg Z.out, decide_eq_false Z.out]; rfl

set_option maxHeartbeats 2000000 in
theorem rcheck_any (s : ByteArray) (w : World) (hs : s.size ≤ maxLen) :
    Calls Tryd.prog 15 #[.string s] w fun e w' => (∃ a r : Int, e = .returned (.tuple #[.int .i64 a, .int .i64 r]) ∧ ChkR s a r ∧ 0 ≤ r) ∧ Below w.heap.size w w' := by
  unfold maxLen at hs
  by_cases h300 : 300 < s.size
  · have K : Hid (ChkR s 0 1) := ChkR.long h300
    go_enter Tryd.func15, Tryd.ntmps15
    go_wp2_with fail
    go_ret2
    exact ⟨⟨0, 1, rfl, K.out, by omega⟩, Below.refl _ _⟩
  have hs3 : s.size ≤ 300 := by omega
  go_enter Tryd.func15, Tryd.ntmps15
  go_wp2_with fail
  refine (lines_any _ _ hs3).mono ?_
  rintro e w1 ⟨⟨b, cap, rfl, hS⟩, hb⟩
  have hlen := Txt.pcs_len 10 s
  have hn := tn_len s
  have HS : Hid (StrsAt w1 b (Txt.pcs 10 s)) := hS
  clear hS
  obtain ⟨m, hm⟩ : ∃ m : Nat, m = tm s := ⟨_, rfl⟩
  have HM : Hid (m = tn s + (if (tl s (tn s)).size = 0 then 0 else 1)) := hm
  have hm1 : m ≤ tn s + 1 := by rw [hm, tm]; split <;> omega
  rw [← hm]
  clear hm
  obtain ⟨o, ho⟩ : ∃ o : Bool, o = tb s := ⟨_, rfl⟩
  have HO : Hid (o = !decide ((tl s (tn s)).size = 0)) := ho
  rw [← ho]
  clear ho
  have HN : Hid ((Txt.pcs 10 s).length = tn s + 1) := hn
  have hmb : m ≤ 302 := by omega
  clear hn hlen hs
  by_cases h4 : 4 < m
  · have K : Hid (ChkR s 0 2) := ChkR.many hs3 (by rw [← HM.out]; exact h4)
    go_wp2_with fail
    go_ret2
    exact ⟨⟨0, 2, rfl, K.out, by omega⟩, hb⟩
  have h4' : Hid (tn s + (if (tl s (tn s)).size = 0 then 0 else 1) ≤ 4) := by unfold Hid; rw [← HM.out]; omega
  go_wp2_with fail
  go_loopw [6] (fun x wr => ∃ k : Nat, k ≤ m ∧ x = .int .i64 k ∧ (∀ j : Nat, j < k → lineB (tl s j) = true) ∧ (k ≤ tn s) ∧ Below w1.heap.size w1 wr) (fun x _ => m - (intOf x).toNat)
  case atStart => exact ⟨0, Nat.zero_le _, rfl, fun j h => by omega, Nat.zero_le _, Below.refl _ _⟩
  case round =>
    obtain ⟨k, hk, rfl, hall, hkn, hbr⟩ := hrel
    have HA : Hid (∀ j : Nat, j < k → lineB (tl s j) = true) := hall
    clear hall
    by_cases hlt : k < m
    · have hkl : k < (Txt.pcs 10 s).length := by have := HN.out; omega
      have hcell : wr.cell? ⟨b, k, none⟩ = some (.string (tl s k)) := by rw [← tl_eq hkl]; exact cell_later hbr (HS.out k hkl)
      have zk : Hid ((tl s k).size ≤ 300) := tl_sz hs3 k hkl
      have b1 : (0 : Int) ≤ (k : Int) := by omega
      have b2 : (k : Int) < (m : Int) := by omega
      go_wp2_with fail
      refine (isLine_any _ _ zk.out).mono ?_
      rintro e w2 ⟨rfl, hb2⟩
      clear hcell
      have hbr2 : Below w1.heap.size w1 w2 := hbr.trans (hb2.mono hbr.size)
      have BB : Hid (Below w.heap.size w w2) := hb.trans (hbr2.mono hb.size)
      clear hbr hb2
      cases hq : lineB (tl s k)
      · have K : Hid (ChkR s (k + 1) 3) := by
          unfold Hid
          by_cases q : k < tn s
          · exact ChkR.line hs3 h4'.out k q hq HA.out
          · have e : k = tn s := by omega
            have z : ¬ (tl s (tn s)).size = 0 := by intro z; have := HM.out; rw [if_pos z] at this; omega
            rw [e]
            exact ChkR.last hs3 h4'.out (fun j hj => HA.out j (by omega)) z
        go_wp2_with fail
        go_ret2
        exact ⟨⟨_, 3, rfl, K.out, by omega⟩, BB.out⟩
      · have HQ : Hid (lineB (tl s k) = true) := hq
        have HA' : Hid (∀ j : Nat, j < k + 1 → lineB (tl s j) = true) := by
          intro j h
          by_cases q : j = k
          · subst q; exact HQ.out
          · exact HA.out j (by omega)
        by_cases hlast : k = tn s
        · have z : ¬ (tl s (tn s)).size = 0 := by intro z; have := HM.out; rw [if_pos z] at this; omega
          have K : Hid (ChkR s (k + 1) 3) := by
            unfold Hid; rw [hlast]
            exact ChkR.last hs3 h4'.out (fun j hj => HA.out j (by omega)) z
          have o1 : o = true := by have := HO.out; rw [decide_eq_false z] at this; exact this
          have q2 : ((k : Int) == (m : Int) - 1) = true := by have := HM.out; rw [if_neg z] at this; simp; omega
          clear hlast z
          go_wp2_with fail
          go_ret2
          exact ⟨⟨_, 3, rfl, K.out, by omega⟩, BB.out⟩
        · cases o
          · go_wp2_with fail
            go_roundw
            case rel => exact ⟨k + 1, by omega, by go_num, HA'.out, by omega, hbr2⟩
            case measure => simp [intOf]; omega
          · have z : ¬ (tl s (tn s)).size = 0 := by
              intro z; have := HO.out; rw [decide_eq_true z] at this; cases this
            have q2 : ((k : Int) == (m : Int) - 1) = false := by have := HM.out; rw [if_neg z] at this; simp; omega
            clear z
            go_wp2_with fail
            go_roundw
            case rel => exact ⟨k + 1, by omega, by go_num, HA'.out, by omega, hbr2⟩
            case measure => simp [intOf]; omega
    · have z : (tl s (tn s)).size = 0 := by
        by_cases z : (tl s (tn s)).size = 0
        · exact z
        · have := HM.out; rw [if_neg z] at this; omega
      have K : Hid (ChkR s 0 0) := ChkR.ok hs3 h4'.out (fun j hj => HA.out j (by have := HM.out; rw [if_pos z] at this; omega)) z
      have BB : Hid (Below w.heap.size w wr) := hb.trans (hbr.mono hb.size)
      clear z
      go_wp2_with fail
      go_ret2
      exact ⟨⟨0, 0, rfl, K.out, by omega⟩, BB.out⟩
end Go.Proofs.YtdajolpoiffimaaDoor
