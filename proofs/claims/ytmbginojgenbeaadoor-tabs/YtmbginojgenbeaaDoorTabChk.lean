/-
  What Check answers, as plain mathematics; the walks over splitLines, Lines and the document's Check.
-/
import Derived.Test.YtmbginojgenbeaaDoorTabLine
namespace Go.Proofs.YtmbginojgenbeaaDoor
open Go.RowKit

/-- The texts between the newlines; how many lines end in one; what stands behind the last. -/
def tl (tab : ByteArray) (i : Nat) : ByteArray := (Txt.pcs 10 tab).getD i ByteArray.empty
def tn (tab : ByteArray) : Nat := (Txt.pcs 10 tab).length - 1
theorem tl_eq {s : ByteArray} {i : Nat} (h : i < (Txt.pcs 10 s).length) : (Txt.pcs 10 s)[i] = tl s i := by simp [tl, h]
theorem tn_lt (s : ByteArray) : tn s < (Txt.pcs 10 s).length := by have := Txt.pcs_ne 10 s; unfold tn; omega
theorem tn_len (s : ByteArray) : (Txt.pcs 10 s).length = tn s + 1 := by have := Txt.pcs_ne 10 s; unfold tn; omega
theorem tl_sz {s : ByteArray} {n : Nat} (hs : s.size ≤ n) (i : Nat) (h : i < (Txt.pcs 10 s).length) : (tl s i).size ≤ n := by rw [← tl_eq h]; exact Txt.pcs_sz hs i h
/-- Check's answer. -/
def ChkR (tab : ByteArray) (a r : Int) : Prop :=
  (300 < tab.size ∧ a = 0 ∧ r = 1) ∨
  (tab.size ≤ 300 ∧ 4 < tn tab + (if (tl tab (tn tab)).size = 0 then 0 else 1) ∧ a = 0 ∧ r = 2) ∨
  (tab.size ≤ 300 ∧ tn tab + (if (tl tab (tn tab)).size = 0 then 0 else 1) ≤ 4 ∧ ∃ i : Nat, i < tn tab ∧ lineB (tl tab i) = false ∧ (∀ j : Nat, j < i → lineB (tl tab j) = true) ∧ a = i + 1 ∧ r = 3) ∨
  (tab.size ≤ 300 ∧ tn tab + (if (tl tab (tn tab)).size = 0 then 0 else 1) ≤ 4 ∧ (∀ j : Nat, j < tn tab → lineB (tl tab j) = true) ∧ ¬ (tl tab (tn tab)).size = 0 ∧ a = tn tab + 1 ∧ r = 3) ∨
  (tab.size ≤ 300 ∧ tn tab + (if (tl tab (tn tab)).size = 0 then 0 else 1) ≤ 4 ∧ (∀ j : Nat, j < tn tab → lineB (tl tab j) = true) ∧ (tl tab (tn tab)).size = 0 ∧ a = 0 ∧ r = 0)
theorem ChkR.long {tab : ByteArray} (h : 300 < tab.size) : ChkR tab 0 1 := Or.inl ⟨h, rfl, rfl⟩
theorem ChkR.many {tab : ByteArray} (h : tab.size ≤ 300) (h4 : 4 < tn tab + (if (tl tab (tn tab)).size = 0 then 0 else 1)) : ChkR tab 0 2 := Or.inr (Or.inl ⟨h, h4, rfl, rfl⟩)
theorem ChkR.line {tab : ByteArray} (h : tab.size ≤ 300) (h4 : tn tab + (if (tl tab (tn tab)).size = 0 then 0 else 1) ≤ 4) (i : Nat) (hi : i < tn tab) (hf : lineB (tl tab i) = false) (ha : ∀ j : Nat, j < i → lineB (tl tab j) = true) : ChkR tab (i + 1) 3 := Or.inr (Or.inr (Or.inl ⟨h, h4, i, hi, hf, ha, rfl, rfl⟩))
theorem ChkR.last {tab : ByteArray} (h : tab.size ≤ 300) (h4 : tn tab + (if (tl tab (tn tab)).size = 0 then 0 else 1) ≤ 4) (ha : ∀ j : Nat, j < tn tab → lineB (tl tab j) = true) (hz : ¬ (tl tab (tn tab)).size = 0) : ChkR tab (tn tab + 1) 3 := Or.inr (Or.inr (Or.inr (Or.inl ⟨h, h4, ha, hz, rfl, rfl⟩)))
theorem ChkR.ok {tab : ByteArray} (h : tab.size ≤ 300) (h4 : tn tab + (if (tl tab (tn tab)).size = 0 then 0 else 1) ≤ 4) (ha : ∀ j : Nat, j < tn tab → lineB (tl tab j) = true) (hz : (tl tab (tn tab)).size = 0) : ChkR tab 0 0 := Or.inr (Or.inr (Or.inr (Or.inr ⟨h, h4, ha, hz, rfl, rfl⟩)))
theorem ChkR.uniq {tab : ByteArray} {a e a' e' : Int} (h : ChkR tab a e) (h' : ChkR tab a' e') : a = a' ∧ e = e' := by
  rcases h with ⟨x, rfl, rfl⟩ | ⟨x, x2, rfl, rfl⟩ | ⟨x, x2, i, hi, hf, ha, rfl, rfl⟩ | ⟨x, x2, x3, x4, rfl, rfl⟩ | ⟨x, x2, x3, x4, rfl, rfl⟩
  · rcases h' with ⟨y, rfl, rfl⟩ | ⟨y, _⟩ | ⟨y, _⟩ | ⟨y, _⟩ | ⟨y, _⟩
    · exact ⟨rfl, rfl⟩
    all_goals omega
  · rcases h' with ⟨y, _⟩ | ⟨y, y2, rfl, rfl⟩ | ⟨y, y2, _⟩ | ⟨y, y2, _⟩ | ⟨y, y2, _⟩
    · omega
    · exact ⟨rfl, rfl⟩
    all_goals omega
  · rcases h' with ⟨y, _⟩ | ⟨y, y2, _⟩ | ⟨y, y2, i', hi', hf', ha', rfl, rfl⟩ | ⟨y, y2, y3, _⟩ | ⟨y, y2, y3, _⟩
    · omega
    · omega
    · have : i = i' := by
        rcases Nat.lt_trichotomy i i' with c | c | c
        · rw [ha' i c] at hf; cases hf
        · exact c
        · rw [ha i' c] at hf'; cases hf'
      subst this; exact ⟨rfl, rfl⟩
    · rw [y3 i hi] at hf; cases hf
    · rw [y3 i hi] at hf; cases hf
  · rcases h' with ⟨y, _⟩ | ⟨y, y2, _⟩ | ⟨y, y2, i', hi', hf', ha', rfl, rfl⟩ | ⟨y, y2, y3, y4, rfl, rfl⟩ | ⟨y, y2, y3, y4, _⟩
    · omega
    · omega
    · rw [x3 i' hi'] at hf'; cases hf'
    · exact ⟨rfl, rfl⟩
    · exact absurd y4 x4
  · rcases h' with ⟨y, _⟩ | ⟨y, y2, _⟩ | ⟨y, y2, i', hi', hf', ha', rfl, rfl⟩ | ⟨y, y2, y3, y4, _⟩ | ⟨y, y2, y3, y4, rfl, rfl⟩
    · omega
    · omega
    · rw [x3 i' hi'] at hf'; cases hf'
    · exact absurd x4 y4
    · exact ⟨rfl, rfl⟩
theorem ChkR.zero {tab : ByteArray} {a r : Int} (h : ChkR tab a r) (hr : r = 0) : a = 0 := by
  rcases h with ⟨_, h1, _⟩ | ⟨_, _, h1, _⟩ | ⟨_, _, _, _, _, _, _, h2⟩ | ⟨_, _, _, _, _, h2⟩ | ⟨_, _, _, _, h1, _⟩
  · exact h1
  · exact h1
  · omega
  · omega
  · exact h1
theorem ChkR.lines {tab : ByteArray} (h : ChkR tab 0 0) : tab.size ≤ 300 ∧ (tl tab (tn tab)).size = 0 ∧ ∀ j : Nat, j < tn tab → LineP (tl tab j) := by
  rcases h with ⟨_, _, h2⟩ | ⟨_, _, _, h2⟩ | ⟨_, _, _, _, _, _, _, h2⟩ | ⟨_, _, _, _, _, h2⟩ | ⟨x, _, x3, x4, _, _⟩
  · omega
  · omega
  · omega
  · omega
  · exact ⟨x, x4, fun j hj => lineB_of (x3 j hj)⟩
theorem ChkR.bd {tab : ByteArray} {a r : Int} (h : ChkR tab a r) : 0 ≤ r ∧ r ≤ 3 := by
  rcases h with ⟨_, _, h2⟩ | ⟨_, _, _, h2⟩ | ⟨_, _, _, _, _, _, _, h2⟩ | ⟨_, _, _, _, _, h2⟩ | ⟨_, _, _, _, _, h2⟩ <;> omega
theorem empty_list {s : ByteArray} : s.toList.isEmpty = decide (s.size = 0) := by
  have : s.toList.length = s.size := by simp [ByteArray.toList_eq]
  cases h : s.toList with
  | nil => rw [h] at this; simp at this; rw [← this]; rfl
  | cons a r =>
    rw [h] at this; simp at this
    have hz : ¬ s.size = 0 := by omega
    rw [decide_eq_false hz]; rfl

set_option maxHeartbeats 1000000 in
theorem splitLines_any (s : ByteArray) (w : World) (hs : s.size ≤ 300) :
    Calls Tryd.prog 44 #[.string s] w fun e w' => (∃ b cap, e = .returned (.tuple #[.slice (some ⟨b, 0, none⟩) (tn s) cap, .string (tl s (tn s))]) ∧ w.heap.size ≤ b ∧ tn s ≤ cap ∧ StrsAt w' b (Txt.pcs 10 s)) ∧ Below w.heap.size w w' := by
  go_enter Tryd.func44, Tryd.ntmps44
  go_wp2_with fail
  refine (split_any _ _ _ hs).mono ?_
  rintro e w1 ⟨⟨b, cap, rfl, hge, hcap, hS⟩, hb⟩
  have hlen := Txt.pcs_len 10 s
  have hn := tn_len s
  have HN : Hid ((Txt.pcs 10 s).length = tn s + 1) := hn
  have HS : Hid (StrsAt w1 b (Txt.pcs 10 s)) := hS
  rw [hn] at hcap hlen ⊢
  have c : w1.cell? ⟨b, tn s, none⟩ = some (.string (tl s (tn s))) := by rw [← tl_eq (tn_lt s)]; exact hS _ (tn_lt s)
  clear hn hS
  have b1 : (0 : Int) ≤ (tn s : Int) := by omega
  have b2 : (tn s : Int) < ((tn s + 1 : Nat) : Int) := by omega
  have b3 : (tn s : Int) ≤ (cap : Int) := by omega
  go_wp2_with fail
  go_quiet (fail)
  go_wp2_with fail
  go_ret2
  exact ⟨⟨b, cap, rfl, hge, by omega, HS.out⟩, below_drewN hb _⟩

/-- How many lines there are, the last one without its newline with them; is there such a one? -/
def tm (s : ByteArray) : Nat := tn s + (if (tl s (tn s)).size = 0 then 0 else 1)
def tb (s : ByteArray) : Bool := !decide ((tl s (tn s)).size = 0)

set_option maxHeartbeats 1000000 in
theorem lines_any (s : ByteArray) (w : World) (hs : s.size ≤ 300) :
    Calls Tryd.prog 24 #[.string s] w fun e w' => (∃ b cap, e = .returned (.tuple #[.slice (some ⟨b, 0, none⟩) (tm s) cap, .bool (tb s)]) ∧ StrsAt w' b (Txt.pcs 10 s)) ∧ Below w.heap.size w w' := by
  go_enter Tryd.func24, Tryd.ntmps24
  go_wp2_with fail
  refine (parts_any _ _ _ hs).mono ?_
  rintro e w1 ⟨⟨b, cap, rfl, hge, hcap, hS⟩, hb⟩
  have hlen := Txt.pcs_len 10 s
  have hn := tn_len s
  have HS : Hid (StrsAt w1 b (Txt.pcs 10 s)) := hS
  rw [hn] at hcap hlen ⊢
  have c : w1.cell? ⟨b, tn s, none⟩ = some (.string (tl s (tn s))) := by rw [← tl_eq (tn_lt s)]; exact hS _ (tn_lt s)
  clear hn hS
  have b1 : (0 : Int) ≤ (tn s : Int) := by omega
  have b2 : (tn s : Int) < ((tn s + 1 : Nat) : Int) := by omega
  have b3 : (tn s : Int) ≤ (cap : Int) := by omega
  have he := empty_list (s := tl s (tn s))
  by_cases z : (tl s (tn s)).size = 0
  · have Z : Hid ((tl s (tn s)).size = 0) := z
    rw [decide_eq_true z] at he
    clear z
    go_wp2_with fail
    go_ret2
    refine ⟨⟨b, cap, ?_, HS.out⟩, hb⟩
    rw [tm, tb, if_pos Z.out, decide_eq_true Z.out]; rfl
  · have Z : Hid (¬ (tl s (tn s)).size = 0) := z
    rw [decide_eq_false z] at he
    clear z
    go_wp2_with fail
    go_ret2
    refine ⟨⟨b, cap, ?_, HS.out⟩, hb⟩
    rw [tm, tb, if_neg Z.out, decide_eq_false Z.out]; rfl

set_option maxHeartbeats 2000000 in
theorem rcheck_any (s : ByteArray) (w : World) (hs : s.size ≤ maxLen) :
    Calls Tryd.prog 12 #[.string s] w fun e w' => (∃ a r : Int, e = .returned (.tuple #[.int .i64 a, .int .i64 r]) ∧ ChkR s a r ∧ 0 ≤ r) ∧ Below w.heap.size w w' := by
  unfold maxLen at hs
  by_cases h300 : 300 < s.size
  · have K : Hid (ChkR s 0 1) := ChkR.long h300
    go_enter Tryd.func12, Tryd.ntmps12
    go_wp2_with fail
    go_ret2
    exact ⟨⟨0, 1, rfl, K.out, by omega⟩, Below.refl _ _⟩
  have hs3 : s.size ≤ 300 := by omega
  go_enter Tryd.func12, Tryd.ntmps12
  go_wp2_with fail
  refine (lines_any _ _ hs3).mono ?_
  rintro e w1 ⟨⟨b, cap, rfl, hS⟩, hb⟩
  have hlen := Txt.pcs_len 10 s
  have hn := tn_len s
  have HS : Hid (StrsAt w1 b (Txt.pcs 10 s)) := hS
  clear hS
  obtain ⟨m, hm⟩ : ∃ m : Nat, m = tm s := ⟨_, rfl⟩
  have HM : Hid (m = tn s + (if (tl s (tn s)).size = 0 then 0 else 1)) := hm
  have hm1 : m ≤ tn s + 1 := by rw [hm, tm]; split <;> omega
  rw [← hm]
  clear hm
  obtain ⟨o, ho⟩ : ∃ o : Bool, o = tb s := ⟨_, rfl⟩
  have HO : Hid (o = !decide ((tl s (tn s)).size = 0)) := ho
  rw [← ho]
  clear ho
  have HN : Hid ((Txt.pcs 10 s).length = tn s + 1) := hn
  have hmb : m ≤ 302 := by omega
  clear hn hlen hs
  by_cases h4 : 4 < m
  · have K : Hid (ChkR s 0 2) := ChkR.many hs3 (by rw [← HM.out]; exact h4)
    go_wp2_with fail
    go_ret2
    exact ⟨⟨0, 2, rfl, K.out, by omega⟩, hb⟩
  have h4' : Hid (tn s + (if (tl s (tn s)).size = 0 then 0 else 1) ≤ 4) := by unfold Hid; rw [← HM.out]; omega
  go_wp2_with fail
  go_loopw [6] (fun x wr => ∃ k : Nat, k ≤ m ∧ x = .int .i64 k ∧ (∀ j : Nat, j < k → lineB (tl s j) = true) ∧ (k ≤ tn s) ∧ Below w1.heap.size w1 wr) (fun x _ => m - (intOf x).toNat)
  case atStart => exact ⟨0, Nat.zero_le _, rfl, fun j h => by omega, Nat.zero_le _, Below.refl _ _⟩
  case round =>
    obtain ⟨k, hk, rfl, hall, hkn, hbr⟩ := hrel
    have HA : Hid (∀ j : Nat, j < k → lineB (tl s j) = true) := hall
    clear hall
    by_cases hlt : k < m
    · have hkl : k < (Txt.pcs 10 s).length := by have := HN.out; omega
      have hcell : wr.cell? ⟨b, k, none⟩ = some (.string (tl s k)) := by rw [← tl_eq hkl]; exact cell_later hbr (HS.out k hkl)
      have zk : Hid ((tl s k).size ≤ 300) := tl_sz hs3 k hkl
      have b1 : (0 : Int) ≤ (k : Int) := by omega
      have b2 : (k : Int) < (m : Int) := by omega
      go_wp2_with fail
      refine (isLine_any _ _ zk.out).mono ?_
      rintro e w2 ⟨rfl, hb2⟩
      clear hcell
      have hbr2 : Below w1.heap.size w1 w2 := hbr.trans (hb2.mono hbr.size)
      have BB : Hid (Below w.heap.size w w2) := hb.trans (hbr2.mono hb.size)
      clear hbr hb2
      cases hq : lineB (tl s k)
      · have K : Hid (ChkR s (k + 1) 3) := by
          unfold Hid
          by_cases q : k < tn s
          · exact ChkR.line hs3 h4'.out k q hq HA.out
          · have e : k = tn s := by omega
            have z : ¬ (tl s (tn s)).size = 0 := by intro z; have := HM.out; rw [if_pos z] at this; omega
            rw [e]
            exact ChkR.last hs3 h4'.out (fun j hj => HA.out j (by omega)) z
        go_wp2_with fail
        go_ret2
        exact ⟨⟨_, 3, rfl, K.out, by omega⟩, BB.out⟩
      · have HQ : Hid (lineB (tl s k) = true) := hq
        have HA' : Hid (∀ j : Nat, j < k + 1 → lineB (tl s j) = true) := by
          intro j h
          by_cases q : j = k
          · subst q; exact HQ.out
          · exact HA.out j (by omega)
        by_cases hlast : k = tn s
        · have z : ¬ (tl s (tn s)).size = 0 := by intro z; have := HM.out; rw [if_pos z] at this; omega
          have K : Hid (ChkR s (k + 1) 3) := by
            unfold Hid; rw [hlast]
            exact ChkR.last hs3 h4'.out (fun j hj => HA.out j (by omega)) z
          have o1 : o = true := by have := HO.out; rw [decide_eq_false z] at this; exact this
          have q2 : ((k : Int) == (m : Int) - 1) = true := by have := HM.out; rw [if_neg z] at this; simp; omega
          clear hlast z
          go_wp2_with fail
          go_ret2
          exact ⟨⟨_, 3, rfl, K.out, by omega⟩, BB.out⟩
        · cases o
          · go_wp2_with fail
            go_roundw
            case rel => exact ⟨k + 1, by omega, by go_num, HA'.out, by omega, hbr2⟩
            case measure => simp [intOf]; omega
          · have z : ¬ (tl s (tn s)).size = 0 := by
              intro z; have := HO.out; rw [decide_eq_true z] at this; cases this
            have q2 : ((k : Int) == (m : Int) - 1) = false := by have := HM.out; rw [if_neg z] at this; simp; omega
            clear z
            go_wp2_with fail
            go_roundw
            case rel => exact ⟨k + 1, by omega, by go_num, HA'.out, by omega, hbr2⟩
            case measure => simp [intOf]; omega
    · have z : (tl s (tn s)).size = 0 := by
        by_cases z : (tl s (tn s)).size = 0
        · exact z
        · have := HM.out; rw [if_neg z] at this; omega
      have K : Hid (ChkR s 0 0) := ChkR.ok hs3 h4'.out (fun j hj => HA.out j (by have := HM.out; rw [if_pos z] at this; omega)) z
      have BB : Hid (Below w.heap.size w wr) := hb.trans (hbr.mono hb.size)
      clear z
      go_wp2_with fail
      go_ret2
      exact ⟨⟨0, 0, rfl, K.out, by omega⟩, BB.out⟩
end Go.Proofs.YtmbginojgenbeaaDoor
