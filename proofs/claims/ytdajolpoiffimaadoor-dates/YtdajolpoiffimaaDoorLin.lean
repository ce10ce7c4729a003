/-
  Lines and crontabs, when they are due: as plain mathematics.
-/
import Derived.Test.YtdajolpoiffimaaDoorMath
import Derived.Test.YtdajolpoiffimaaDoorOpt
import Derived.Test.YtdajolpoiffimaaDoorDues
import Derived.Laws.Strings
namespace Go.Proofs.YtdajolpoiffimaaDoor

/-- A piece of a line. -/
def pt (s : ByteArray) (i : Nat) : ByteArray := (Txt.pcs 32 s).getD i ByteArray.empty
theorem pt_eq {s : ByteArray} {i : Nat} (h : i < (Txt.pcs 32 s).length) : (Txt.pcs 32 s)[i] = pt s i := by simp [pt, h]
/-- The least and the greatest value of field i. -/
def lo (i : Int) : Int := if i = 2 ∨ i = 3 then 1 else 0
def hi (i : Int) : Int := if i = 0 then 59 else if i = 1 then 23 else if i = 2 then 31 else if i = 3 then 12 else 6

theorem lohi (i : Int) : 0 ≤ lo i ∧ lo i ≤ 1 ∧ 6 ≤ hi i ∧ hi i ≤ 59 := by
  unfold lo hi; repeat' split
  all_goals omega
theorem step_last {s : ByteArray} {k : Nat} (hk : s.size ≤ k) (h2 : 2 ≤ s.size) (h9 : s.size ≤ 9) (h0 : 0 < s.size) (hf : ((s[0].toNat : Int) = 62 ∨ (s[0].toNat : Int) = 60)) (ha : ∀ j (hj : j < s.size), 1 ≤ j → j < k → Txt.wb (s[j].toNat) = true) : Txt.stepB s = true :=
  Txt.stepB_yes ⟨h2, h9, h0, hf, fun j hj h1 => ha j hj h1 (by omega)⟩
theorem step_bad {s : ByteArray} {k : Nat} (hk : k < s.size) (h1 : 1 ≤ k) (h : Txt.wb (s[k].toNat) = false) : Txt.stepB s = false :=
  Txt.stepB_no (fun ⟨_, _, _, _, hb⟩ => by rw [hb k hk h1] at h; cases h)

/-- Is a text a line? -/
structure LineP (s : ByteArray) : Prop where
  n7 : 7 ≤ (Txt.pcs 32 s).length
  n11 : (Txt.pcs 32 s).length ≤ 11
  fld : ∀ (i : Nat) (h : i < (Txt.pcs 32 s).length), i < 5 → Txt.fldB (lo i) (hi i) (Txt.pcs 32 s)[i] = true
  opt : ∀ (h : 5 < (Txt.pcs 32 s).length), Txt.optB (Txt.pcs 32 s)[5] = true
  stp : ∀ (i : Nat) (h : i < (Txt.pcs 32 s).length), 6 ≤ i → Txt.stepB (Txt.pcs 32 s)[i] = true
open Classical in
noncomputable def lineB (s : ByteArray) : Bool := decide (LineP s)
open Classical in
theorem lineB_yes {s : ByteArray} (h : LineP s) : lineB s = true := by unfold lineB; exact decide_eq_true h
open Classical in
theorem lineB_no {s : ByteArray} (h : ¬ LineP s) : lineB s = false := by unfold lineB; exact decide_eq_false h
open Classical in
theorem lineB_of {s : ByteArray} (h : lineB s = true) : LineP s := by unfold lineB at h; exact of_decide_eq_true h

/-- The texts between the newlines; how many lines end in one; what stands behind the last. -/
def tl (tab : ByteArray) (i : Nat) : ByteArray := (Txt.pcs 10 tab).getD i ByteArray.empty
def tn (tab : ByteArray) : Nat := (Txt.pcs 10 tab).length - 1
theorem tl_eq {s : ByteArray} {i : Nat} (h : i < (Txt.pcs 10 s).length) : (Txt.pcs 10 s)[i] = tl s i := by simp [tl, h]
theorem tn_lt (s : ByteArray) : tn s < (Txt.pcs 10 s).length := by have := Txt.pcs_ne 10 s; unfold tn; omega
theorem tn_len (s : ByteArray) : (Txt.pcs 10 s).length = tn s + 1 := by have := Txt.pcs_ne 10 s; unfold tn; omega
theorem tl_sz {s : ByteArray} {n : Nat} (hs : s.size ≤ n) (i : Nat) (h : i < (Txt.pcs 10 s).length) : (tl s i).size ≤ n := by rw [← tl_eq h]; exact Txt.pcs_sz hs i h
/-- Check's answer. -/
def ChkR (tab : ByteArray) (a r : Int) : Prop :=
  (300 < tab.size ∧ a = 0 ∧ r = 1) ∨
  (tab.size ≤ 300 ∧ 4 < tn tab + (if (tl tab (tn tab)).size = 0 then 0 else 1) ∧ a = 0 ∧ r = 2) ∨
  (tab.size ≤ 300 ∧ tn tab + (if (tl tab (tn tab)).size = 0 then 0 else 1) ≤ 4 ∧ ∃ i : Nat, i < tn tab ∧ lineB (tl tab i) = false ∧ (∀ j : Nat, j < i → lineB (tl tab j) = true) ∧ a = i + 1 ∧ r = 3) ∨
  (tab.size ≤ 300 ∧ tn tab + (if (tl tab (tn tab)).size = 0 then 0 else 1) ≤ 4 ∧ (∀ j : Nat, j < tn tab → lineB (tl tab j) = true) ∧ ¬ (tl tab (tn tab)).size = 0 ∧ a = tn tab + 1 ∧ r = 3) ∨
  (tab.size ≤ 300 ∧ tn tab + (if (tl tab (tn tab)).size = 0 then 0 else 1) ≤ 4 ∧ (∀ j : Nat, j < tn tab → lineB (tl tab j) = true) ∧ (tl tab (tn tab)).size = 0 ∧ a = 0 ∧ r = 0)
theorem ChkR.long {tab : ByteArray} (h : 300 < tab.size) : ChkR tab 0 1 := Or.inl ⟨h, rfl, rfl⟩
theorem ChkR.many {tab : ByteArray} (h : tab.size ≤ 300) (h4 : 4 < tn tab + (if (tl tab (tn tab)).size = 0 then 0 else 1)) : ChkR tab 0 2 := Or.inr (Or.inl ⟨h, h4, rfl, rfl⟩)
theorem ChkR.line {tab : ByteArray} (h : tab.size ≤ 300) (h4 : tn tab + (if (tl tab (tn tab)).size = 0 then 0 else 1) ≤ 4) (i : Nat) (hi : i < tn tab) (hf : lineB (tl tab i) = false) (ha : ∀ j : Nat, j < i → lineB (tl tab j) = true) : ChkR tab (i + 1) 3 := Or.inr (Or.inr (Or.inl ⟨h, h4, i, hi, hf, ha, rfl, rfl⟩))
theorem ChkR.last {tab : ByteArray} (h : tab.size ≤ 300) (h4 : tn tab + (if (tl tab (tn tab)).size = 0 then 0 else 1) ≤ 4) (ha : ∀ j : Nat, j < tn tab → lineB (tl tab j) = true) (hz : ¬ (tl tab (tn tab)).size = 0) : ChkR tab (tn tab + 1) 3 := Or.inr (Or.inr (Or.inr (Or.inl ⟨h, h4, ha, hz, rfl, rfl⟩)))
theorem ChkR.ok {tab : ByteArray} (h : tab.size ≤ 300) (h4 : tn tab + (if (tl tab (tn tab)).size = 0 then 0 else 1) ≤ 4) (ha : ∀ j : Nat, j < tn tab → lineB (tl tab j) = true) (hz : (tl tab (tn tab)).size = 0) : ChkR tab 0 0 := Or.inr (Or.inr (Or.inr (Or.inr ⟨h, h4, ha, hz, rfl, rfl⟩)))
theorem ChkR.uniq {tab : ByteArray} {a e a' e' : Int} (h : ChkR tab a e) (h' : ChkR tab a' e') : a = a' ∧ e = e' := by
  rcases h with ⟨x, rfl, rfl⟩ | ⟨x, x2, rfl, rfl⟩ | ⟨x, x2, i, hi, hf, ha, rfl, rfl⟩ | ⟨x, x2, x3, x4, rfl, rfl⟩ | ⟨x, x2, x3, x4, rfl, rfl⟩
  · rcases h' with ⟨y, rfl, rfl⟩ | ⟨y, _⟩ | ⟨y, _⟩ | ⟨y, _⟩ | ⟨y, _⟩
    · exact ⟨rfl, rfl⟩
    all_goals omega
  · rcases h' with ⟨y, _⟩ | ⟨y, y2, rfl, rfl⟩ | ⟨y, y2, _⟩ | ⟨y, y2, _⟩ | ⟨y, y2, _⟩
    · omega
    · exact ⟨rfl, rfl⟩
    all_goals omega
  · rcases h' with ⟨y, _⟩ | ⟨y, y2, _⟩ | ⟨y, y2, i', hi', hf', ha', rfl, rfl⟩ | ⟨y, y2, y3, _⟩ | ⟨y, y2, y3, _⟩
    · omega
    · omega
    · have : i = i' := by
        rcases Nat.lt_trichotomy i i' with c | c | c
        · rw [ha' i c] at hf; cases hf
        · exact c
        · rw [ha i' c] at hf'; cases hf'
      subst this; exact ⟨rfl, rfl⟩
    · rw [y3 i hi] at hf; cases hf
    · rw [y3 i hi] at hf; cases hf
  · rcases h' with ⟨y, _⟩ | ⟨y, y2, _⟩ | ⟨y, y2, i', hi', hf', ha', rfl, rfl⟩ | ⟨y, y2, y3, y4, rfl, rfl⟩ | ⟨y, y2, y3, y4, _⟩
    · omega
    · omega
    · rw [x3 i' hi'] at hf'; cases hf'
    · exact ⟨rfl, rfl⟩
    · exact absurd y4 x4
  · rcases h' with ⟨y, _⟩ | ⟨y, y2, _⟩ | ⟨y, y2, i', hi', hf', ha', rfl, rfl⟩ | ⟨y, y2, y3, y4, _⟩ | ⟨y, y2, y3, y4, rfl, rfl⟩
    · omega
    · omega
    · rw [x3 i' hi'] at hf'; cases hf'
    · exact absurd x4 y4
    · exact ⟨rfl, rfl⟩
theorem ChkR.zero {tab : ByteArray} {a r : Int} (h : ChkR tab a r) (hr : r = 0) : a = 0 := by
  rcases h with ⟨_, h1, _⟩ | ⟨_, _, h1, _⟩ | ⟨_, _, _, _, _, _, _, h2⟩ | ⟨_, _, _, _, _, h2⟩ | ⟨_, _, _, _, h1, _⟩
  · exact h1
  · exact h1
  · omega
  · omega
  · exact h1
theorem ChkR.lines {tab : ByteArray} (h : ChkR tab 0 0) : tab.size ≤ 300 ∧ (tl tab (tn tab)).size = 0 ∧ ∀ j : Nat, j < tn tab → LineP (tl tab j) := by
  rcases h with ⟨_, _, h2⟩ | ⟨_, _, _, h2⟩ | ⟨_, _, _, _, _, _, _, h2⟩ | ⟨_, _, _, _, _, h2⟩ | ⟨x, _, x3, x4, _, _⟩
  · omega
  · omega
  · omega
  · omega
  · exact ⟨x, x4, fun j hj => lineB_of (x3 j hj)⟩
theorem ChkR.bd {tab : ByteArray} {a r : Int} (h : ChkR tab a r) : 0 ≤ r ∧ r ≤ 3 := by
  rcases h with ⟨_, _, h2⟩ | ⟨_, _, _, h2⟩ | ⟨_, _, _, _, _, _, _, h2⟩ | ⟨_, _, _, _, _, h2⟩ | ⟨_, _, _, _, _, h2⟩ <;> omega
theorem empty_list {s : ByteArray} : s.toList.isEmpty = decide (s.size = 0) := by
  have : s.toList.length = s.size := by simp [ByteArray.toList_eq]
  cases h : s.toList with
  | nil => rw [h] at this; simp at this; rw [← this]; rfl
  | cons a r =>
    rw [h] at this; simp at this
    have hz : ¬ s.size = 0 := by omega
    rw [decide_eq_false hz]; rfl

/-- How many lines there are, the last one without its newline with them; is there such a one? -/
def tm (s : ByteArray) : Nat := tn s + (if (tl s (tn s)).size = 0 then 0 else 1)
def tb (s : ByteArray) : Bool := !decide ((tl s (tn s)).size = 0)

/-- The day's part: is a line due on a day? -/
def dayB (s : ByteArray) (d k : Int) : Bool := if (Txt.opn (pt s 2) || Txt.opn (pt s 4)) = true then (Txt.hldB (lo 2) (hi 2) d (pt s 2) && Txt.hldB (lo 4) (hi 4) k (pt s 4)) else (Txt.hldB (lo 2) (hi 2) d (pt s 2) || Txt.hldB (lo 4) (hi 4) k (pt s 4))
/-- Is a line due at a date? -/
def dueB (s : ByteArray) (m d h i k : Int) : Bool := Txt.hldB (lo 0) (hi 0) i (pt s 0) && (Txt.hldB (lo 1) (hi 1) h (pt s 1) && (Txt.hldB (lo 3) (hi 3) m (pt s 3) && dayB s d k))
theorem LineP.fl {s : ByteArray} (h : LineP s) (t : Nat) (ht : t < 5) : Txt.fldB (lo t) (hi t) (pt s t) = true := by
  have hl : t < (Txt.pcs 32 s).length := by have := h.n7; omega
  rw [← pt_eq hl]; exact h.fld t hl ht
theorem LineP.sz {s : ByteArray} {n : Nat} (h : LineP s) (hs : s.size ≤ n) (t : Nat) (ht : t < 5) : (pt s t).size ≤ n := by
  have hl : t < (Txt.pcs 32 s).length := by have := h.n7; omega
  rw [← pt_eq hl]; exact Txt.pcs_sz hs t hl
theorem fld_pos {l g : Int} {f : ByteArray} (l1 : 0 ≤ l) (h : Txt.fldB l g f = true) : 0 < f.size := by
  rcases Nat.eq_zero_or_pos f.size with z | z
  · exfalso
    have nos : ∀ c, Txt.NoSep c f 0 f.size := fun c j hj _ _ => by omega
    have e : Txt.pcs 44 f = [f] := by
      rw [Txt.pcs_eq, Txt.fst_no (nos 44), if_neg (by omega)]
    have k := Txt.fldB_at h 0 (Txt.pcs_ne _ _)
    have k' : Txt.spK l g f = true := by simpa [e] using k
    have b := (Txt.spK_bd k').2.2.1
    have c1 : Txt.cut1 47 f = f := (Txt.cut_no (nos 47)).1
    have c2 : Txt.cut1 45 f = f := (Txt.cut_no (nos 45)).1
    have st : Txt.star f = false := by
      have hl : f.toList = [] := by
        have : f.toList.length = 0 := by simp [ByteArray.toList_eq, z]
        exact List.eq_nil_of_length_eq_zero this
      simp [Txt.star, hl]
    have v : Txt.val f = -1 := Txt.val_no (Or.inl (by omega))
    rw [Txt.spA, c1, st, c2, v] at b
    simp at b; omega
  · exact z

/-- Due's answer. -/
def DueR (tab : ByteArray) (n m : Int) (b : Bool) (e : Int) : Prop :=
  (∃ a r : Int, ChkR tab a r ∧ ¬ r = 0 ∧ b = false ∧ e = r) ∨
  (ChkR tab 0 0 ∧ (n < 1 ∨ (tn tab : Int) < n ∨ m < 0 ∨ 4223371679 < m) ∧ b = false ∧ e = 4) ∨
  (ChkR tab 0 0 ∧ ∃ i : Nat, n = i + 1 ∧ i < tn tab ∧ 0 ≤ m ∧ m ≤ 4223371679 ∧ ∃ y mo d : Int, Cal.IsD (m / 1440) y mo d ∧ b = dueB (tl tab i) mo d (m % 1440 / 60) (m % 60) ((m / 1440 + 4) % 7) ∧ e = 0)
theorem DueR.err {tab : ByteArray} {n m : Int} (a r : Int) (h : ChkR tab a r) (hr : ¬ r = 0) : DueR tab n m false r := Or.inl ⟨a, r, h, hr, rfl, rfl⟩
theorem DueR.num {tab : ByteArray} {n m : Int} (h : ChkR tab 0 0) (hn : n < 1 ∨ (tn tab : Int) < n ∨ m < 0 ∨ 4223371679 < m) : DueR tab n m false 4 := Or.inr (Or.inl ⟨h, hn, rfl, rfl⟩)
theorem DueR.ok {tab : ByteArray} {n m : Int} (h : ChkR tab 0 0) (i : Nat) (hn : n = i + 1) (hi : i < tn tab) (m1 : 0 ≤ m) (m2 : m ≤ 4223371679) (y mo d : Int) (H : Cal.IsD (m / 1440) y mo d) : DueR tab n m (dueB (tl tab i) mo d (m % 1440 / 60) (m % 60) ((m / 1440 + 4) % 7)) 0 :=
  Or.inr (Or.inr ⟨h, i, hn, hi, m1, m2, y, mo, d, H, rfl, rfl⟩)
theorem DueR.uniq {tab : ByteArray} {n m : Int} {b b' : Bool} {e e' : Int} (h : DueR tab n m b e) (h' : DueR tab n m b' e') : b = b' ∧ e = e' := by
  rcases h with ⟨a, r, c, z, rfl, rfl⟩ | ⟨c, z, rfl, rfl⟩ | ⟨c, i, hn, hi, m1, m2, y, mo, d, H, rfl, rfl⟩
  · rcases h' with ⟨a', r', c', z', rfl, rfl⟩ | ⟨c', _⟩ | ⟨c', _⟩
    · exact ⟨rfl, (c.uniq c').2⟩
    · exact absurd (c.uniq c').2 z
    · exact absurd (c.uniq c').2 z
  · rcases h' with ⟨a', r', c', z', _⟩ | ⟨_, _, rfl, rfl⟩ | ⟨c', i, hn, hi, m1, m2, _⟩
    · exact absurd (c'.uniq c).2 z'
    · exact ⟨rfl, rfl⟩
    · omega
  · rcases h' with ⟨a', r', c', z', _⟩ | ⟨c', z', _⟩ | ⟨c', i', hn', hi', m1', m2', y', mo', d', H', rfl, rfl⟩
    · exact absurd (c'.uniq c).2 z'
    · omega
    · obtain rfl : i = i' := by omega
      obtain ⟨rfl, rfl, rfl⟩ := H.uniq H'
      exact ⟨rfl, rfl⟩

/-- A byte of a line's options. -/
def ob (s : ByteArray) (i : Nat) : Int := (((pt s 5).data.toList[i]?).map (fun b => (b.toNat : Int))).getD 0
theorem ob_at {s : ByteArray} {i : Nat} (h : i < (pt s 5).size) : ((pt s 5)[i].toNat : Int) = ob s i := by
  have hl : i < (pt s 5).data.toList.length := by simpa using h
  unfold ob
  rw [List.getElem?_eq_getElem hl]; rfl
open Classical in
theorem opt_of {s : ByteArray} (h : LineP s) : (pt s 5).size = 3 ∧ (ob s 0 = 120 ∨ ob s 0 = 111) ∧ (ob s 1 = 97 ∨ ob s 1 = 108 ∨ ob s 1 = 110) ∧ 49 ≤ ob s 2 ∧ ob s 2 ≤ 53 := by
  have h7 := h.n7
  have h5 : 5 < (Txt.pcs 32 s).length := by omega
  have ho := h.opt h5
  rw [pt_eq h5] at ho
  unfold Txt.optB at ho
  obtain ⟨hz, a, b, c⟩ := of_decide_eq_true ho
  rw [ob_at (by omega)] at a
  rw [ob_at (by omega)] at b
  rw [ob_at (by omega)] at c
  exact ⟨hz, a, b, c⟩

/-- The date of a minute, as long as it is one. -/
def DtIs (t y m d h i k : Int) : Prop := t ≤ 4223371679 → (Cal.IsD (t / 1440) y m d ∧ h = t % 1440 / 60 ∧ i = t % 60 ∧ k = (t / 1440 + 4) % 7)
open Classical in
/-- Is a line due at a minute? -/
noncomputable def dueT (s : ByteArray) (t : Int) : Bool := decide (∃ y m d, Cal.IsD (t / 1440) y m d ∧ dueB s m d (t % 1440 / 60) (t % 60) ((t / 1440 + 4) % 7) = true)
open Classical in
theorem dueT_of {s : ByteArray} {t y m d : Int} (H : Cal.IsD (t / 1440) y m d) : dueB s m d (t % 1440 / 60) (t % 60) ((t / 1440 + 4) % 7) = dueT s t := by
  unfold dueT
  cases h : dueB s m d (t % 1440 / 60) (t % 60) ((t / 1440 + 4) % 7)
  · symm; apply decide_eq_false
    rintro ⟨y', m', d', H', h'⟩
    obtain ⟨rfl, rfl, rfl⟩ := H.uniq H'
    rw [h] at h'; cases h'
  · symm; exact decide_eq_true ⟨y, m, d, H, h⟩
theorem dueT_is {s : ByteArray} {t y m d h i k : Int} (t1 : t ≤ 4223371679) (H : DtIs t y m d h i k) : dueB s m d h i k = dueT s t := by
  obtain ⟨H', rfl, rfl, rfl⟩ := H t1; exact dueT_of H'
/-- A line, as what comes due asks it. -/
noncomputable def lnOf (s : ByteArray) : Bx.Ln := ⟨ob s 1, dueT s⟩

theorem dl_yes {due : Int → Bool} {a : Int} {k : Nat} (h : due (a + k) = true) : Bx.dl due a (k + 1) = Bx.dl due a k ++ [a + (k : Int)] := by rw [Bx.dl, if_pos h]
theorem dl_no {due : Int → Bool} {a : Int} {k : Nat} (h : due (a + k) = false) : Bx.dl due a (k + 1) = Bx.dl due a k := by rw [Bx.dl, h]; simp
theorem DtIs.bd {t y m d h i k : Int} (H : DtIs t y m d h i k) (_t0 : 0 ≤ t) (t1 : t ≤ 4223371679) : 0 ≤ m ∧ m ≤ 60 ∧ 0 ≤ d ∧ d ≤ 60 ∧ 0 ≤ h ∧ h ≤ 60 ∧ 0 ≤ i ∧ i ≤ 60 ∧ 0 ≤ k ∧ k ≤ 60 := by
  obtain ⟨H', rfl, rfl, rfl⟩ := H t1
  have := H'.m1; have := H'.m2; have := H'.d1; have := H'.d2; have := Cal.dim_lo y m
  omega
/-- Is it a minute? -/
def minB (m : Int) : Bool := decide (0 ≤ m ∧ m ≤ 4223371679)
theorem minB_yes {m : Int} (a : 0 ≤ m) (b : m ≤ 4223371679) : minB m = true := decide_eq_true ⟨a, b⟩
theorem minB_no {m : Int} (h : m < 0 ∨ 4223371679 < m) : minB m = false := decide_eq_false (by omega)

/-- Is a step one that is said? -/
def sayB (s : ByteArray) : Bool := !(s.data.toList.head? == some 60)
theorem sayB_at {s : ByteArray} (h : 0 < s.size) (hs : (s[0].toNat : Int) = 62 ∨ (s[0].toNat : Int) = 60) : ((s[0].toNat : Int) == 62) = sayB s := by
  have hh : s.data.toList.head? = some s[0] := by
    rw [List.head?_eq_getElem?]
    have hl : 0 < s.data.toList.length := by simpa using h
    rw [List.getElem?_eq_getElem hl]; rfl
  unfold sayB
  rw [hh]
  rcases hs with e | e
  · have : s[0] = 62 := UInt8.toNat_inj.1 (by show _ = 62; omega)
    rw [this]; rfl
  · have : s[0] = 60 := UInt8.toNat_inj.1 (by show _ = 60; omega)
    rw [this]; rfl
/-- The steps of a line. -/
def stepsOf (l : ByteArray) : List ByteArray := (Txt.pcs 32 l).drop 6
theorem stepsOf_len {l : ByteArray} (h : LineP l) : 1 ≤ (stepsOf l).length ∧ (stepsOf l).length ≤ 5 := by
  have := h.n7; have := h.n11
  unfold stepsOf; rw [List.length_drop]; omega

end Go.Proofs.YtdajolpoiffimaaDoor
