/-
  The walks over the program's Check and Due, the document's Due.
-/
import Derived.Test.YtmbginojgenbeaaDoorTabDueAt
import Derived.Test.YtmbginojgenbeaaDoorRefDay
namespace Go.Proofs.YtmbginojgenbeaaDoor
open Go.RowKit
attribute [local go_sem ↓] Go.wp_at_zero Go.wp_at_succ

/-- Due's answer. -/
def DueR (tab : ByteArray) (n m : Int) (b : Bool) (e : Int) : Prop :=
  (∃ a r : Int, ChkR tab a r ∧ ¬ r = 0 ∧ b = false ∧ e = r) ∨
  (ChkR tab 0 0 ∧ (n < 1 ∨ (tn tab : Int) < n ∨ m < 0 ∨ 4223371679 < m) ∧ b = false ∧ e = 4) ∨
  (ChkR tab 0 0 ∧ ∃ i : Nat, n = i + 1 ∧ i < tn tab ∧ 0 ≤ m ∧ m ≤ 4223371679 ∧ ∃ y mo d : Int, Cal.IsD (m / 1440) y mo d ∧ b = dueB (tl tab i) mo d (m % 1440 / 60) (m % 60) ((m / 1440 + 4) % 7) ∧ e = 0)
theorem DueR.err {tab : ByteArray} {n m : Int} (a r : Int) (h : ChkR tab a r) (hr : ¬ r = 0) : DueR tab n m false r := Or.inl ⟨a, r, h, hr, rfl, rfl⟩
theorem DueR.num {tab : ByteArray} {n m : Int} (h : ChkR tab 0 0) (hn : n < 1 ∨ (tn tab : Int) < n ∨ m < 0 ∨ 4223371679 < m) : DueR tab n m false 4 := Or.inr (Or.inl ⟨h, hn, rfl, rfl⟩)
theorem DueR.ok {tab : ByteArray} {n m : Int} (h : ChkR tab 0 0) (i : Nat) (hn : n = i + 1) (hi : i < tn tab) (m1 : 0 ≤ m) (m2 : m ≤ 4223371679) (y mo d : Int) (H : Cal.IsD (m / 1440) y mo d) : DueR tab n m (dueB (tl tab i) mo d (m % 1440 / 60) (m % 60) ((m / 1440 + 4) % 7)) 0 :=
  Or.inr (Or.inr ⟨h, i, hn, hi, m1, m2, y, mo, d, H, rfl, rfl⟩)
theorem DueR.uniq {tab : ByteArray} {n m : Int} {b b' : Bool} {e e' : Int} (h : DueR tab n m b e) (h' : DueR tab n m b' e') : b = b' ∧ e = e' := by
  rcases h with ⟨a, r, c, z, rfl, rfl⟩ | ⟨c, z, rfl, rfl⟩ | ⟨c, i, hn, hi, m1, m2, y, mo, d, H, rfl, rfl⟩
  · rcases h' with ⟨a', r', c', z', rfl, rfl⟩ | ⟨c', _⟩ | ⟨c', _⟩
    · exact ⟨rfl, (c.uniq c').2⟩
    · exact absurd (c.uniq c').2 z
    · exact absurd (c.uniq c').2 z
  · rcases h' with ⟨a', r', c', z', _⟩ | ⟨_, _, rfl, rfl⟩ | ⟨c', i, hn, hi, m1, m2, _⟩
    · exact absurd (c'.uniq c).2 z'
    · exact ⟨rfl, rfl⟩
    · omega
  · rcases h' with ⟨a', r', c', z', _⟩ | ⟨c', z', _⟩ | ⟨c', i', hn', hi', m1', m2', y', mo', d', H', rfl, rfl⟩
    · exact absurd (c'.uniq c).2 z'
    · omega
    · obtain rfl : i = i' := by omega
      obtain ⟨rfl, rfl, rfl⟩ := H.uniq H'
      exact ⟨rfl, rfl⟩

set_option maxHeartbeats 1000000 in
theorem ccheck_any (s : ByteArray) (w : World) (hs : s.size ≤ maxLen) (hT : TabLH w) :
    Calls Tryd.prog 23 #[.string s] w fun e w' => (∃ a r : Int, e = .returned (.tuple #[.int .i64 a, .int .i64 r]) ∧ ChkR s a r) ∧ Below w.heap.size w w' := by
  have HT : Hid (TabLH w) := hT
  have HS : Hid (s.size ≤ maxLen) := hs
  clear hT hs
  go_enter Tryd.func23, Tryd.ntmps23
  go_wp2_with fail
  refine (read_any _ _ HS.out HT.out).mono ?_
  rintro e w1 ⟨⟨a, r, ad, n, c, rfl, hC, hL⟩, hb⟩
  have K : Hid (ChkR s a r) := hC
  clear hL hC
  go_wp2_with fail
  go_quiet (fail)
  go_wp2_with fail
  go_ret2
  exact ⟨⟨a, r, rfl, K.out⟩, below_drewN (hb.alloc hb.size _) _⟩

set_option maxHeartbeats 1000000 in
theorem check_any (s : ByteArray) (w : World) (hs : s.size ≤ maxLen) (hT : TabLH w) :
    Calls Tryd.prog 11 #[.string s] w fun e w' => (∃ a r : Int, e = .returned (.tuple #[.int .i64 a, .int .i64 r]) ∧ ChkR s a r) ∧ Below w.heap.size w w' := by
  have HT : Hid (TabLH w) := hT
  have HS : Hid (s.size ≤ maxLen) := hs
  clear hT hs
  go_enter Tryd.func11, Tryd.ntmps11
  go_wp2_with fail
  refine (ccheck_any _ _ HS.out HT.out).mono ?_
  rintro e w1 ⟨⟨a, r, rfl, hC⟩, hb⟩
  go_wp2_with fail
  go_ret2
  exact ⟨⟨a, r, rfl, hC⟩, hb⟩

set_option maxHeartbeats 3000000 in
theorem cdue_any (s : ByteArray) (n m : Int) (w : World) (hs : s.size ≤ maxLen) (hT : TabLH w) (hM : Tab w) :
    Calls Tryd.prog 26 #[.string s, .int .i64 n, .int .i64 m] w fun e w' => (∃ (x : Bool) (r : Int), e = .returned (.tuple #[.bool x, .int .i64 r]) ∧ DueR s n m x r) ∧ Below w.heap.size w w' := by
  have HT : Hid (TabLH w) := hT
  have HM : Hid (Tab w) := hM
  have HS : Hid (s.size ≤ maxLen) := hs
  clear hT hM hs
  go_enter Tryd.func26, Tryd.ntmps26
  go_wp2_with fail
  refine (read_any _ _ HS.out HT.out).mono ?_
  rintro e w1 ⟨⟨a, r, ad, n', c, rfl, hC, hL⟩, hb⟩
  have HM1 : Hid (∀ o, Tab (w1.alloc o)) := fun o => (HM.out.later hb).alloc o
  have B1 : Hid (Below w.heap.size w w1) := hb
  have hz : w.heap.size ≤ w1.heap.size := hb.size
  have hbd := hC.bd
  clear hb HT HM HS
  by_cases hr : r = 0
  rotate_left
  · have K : Hid (DueR s n m false r) := DueR.err a r hC hr
    have hr' : (r != 0) = true := by simpa using hr
    clear hr hL hC
    go_wp2_with fail
    go_quiet (fail)
    go_wp2_with fail
    go_ret2
    exact ⟨⟨false, r, rfl, K.out⟩, below_drewN (B1.out.alloc hz _) _⟩
  subst hr
  have ha := hC.zero rfl
  subst ha
  obtain ⟨g, rfl, rfl, hnc, hLines⟩ := hL rfl
  have HC : Hid (ChkR s 0 0) := hC
  have HL : Hid (LinesAt w1 g s) := hLines
  obtain ⟨hs3, hzl, hP⟩ := hC.lines
  have HP : Hid (∀ j : Nat, j < tn s → LineP (tl s j)) := hP
  have hlen := Txt.pcs_len 10 s
  have hnl := tn_len s
  have hnb : tn s ≤ 301 := by omega
  clear hL hC hP hLines hlen hnl hbd hzl
  by_cases n1 : n < 1
  · have K : Hid (DueR s n m false 4) := DueR.num HC.out (by omega)
    go_wp2_with fail
    go_ret2
    exact ⟨⟨false, 4, rfl, K.out⟩, B1.out.alloc hz _⟩
  by_cases n2 : (tn s : Int) < n
  · have K : Hid (DueR s n m false 4) := DueR.num HC.out (by omega)
    go_wp2_with fail
    go_ret2
    exact ⟨⟨false, 4, rfl, K.out⟩, B1.out.alloc hz _⟩
  by_cases hm : m < 0 ∨ 4223371679 < m
  · have K : Hid (DueR s n m false 4) := DueR.num HC.out (by omega)
    have HMM : Hid (m < 0 ∨ 4223371679 < m) := hm
    clear hm
    go_wp2_with fail
    refine (cdate_no _ _ HMM.out).mono ?_
    rintro e w2 ⟨rfl, hb2⟩
    have B2 : Hid (Below w.heap.size w w2) := (B1.out.alloc hz _).trans (hb2.mono (by simp; omega))
    have hz2 : w.heap.size ≤ w2.heap.size := by have := hb2.size; simp at this; omega
    clear hb2
    go_wp2_with fail
    go_ret2
    exact ⟨⟨false, 4, rfl, K.out⟩, B2.out.alloc hz2 _⟩
  obtain ⟨i, rfl⟩ : ∃ i : Nat, n = (i : Int) + 1 := ⟨(n - 1).toNat, by omega⟩
  have hi : i < tn s := by omega
  have m1 : 0 ≤ m := by omega
  have m2 : m ≤ 4223371679 := by omega
  clear hm
  go_wp2_with fail
  refine (cdate_yes _ _ (HM1.out _) m1 m2).mono ?_
  rintro e w2 ⟨⟨y, mo, d, HD, rfl⟩, hb2⟩
  have K : Hid (DueR s ((i : Int) + 1) m (dueB (tl s i) mo d (m % 1440 / 60) (m % 60) ((m / 1440 + 4) % 7)) 0) := DueR.ok HC.out i rfl hi m1 m2 y mo d HD
  have B2 : Hid (Below w.heap.size w w2) := (B1.out.alloc hz _).trans (hb2.mono (by simp; omega))
  have hz2 : w.heap.size ≤ w2.heap.size := by have := hb2.size; simp at this; omega
  have hz12 : w1.heap.size < w2.heap.size := by have := hb2.size; simp at this; omega
  obtain ⟨bb, cc, hcl, hla⟩ := HL.out i hi
  have Z0 : w2.cell? ⟨w1.heap.size, 0, none⟩ = some (.slice (some ⟨g, 0, none⟩) (tn s) c) := cell_later hb2 (by simp [go_sem])
  have hB12 : Below w1.heap.size w1 w2 := (below_alloc w1 _).trans (hb2.mono (by simp))
  have L0 : w2.cell? ⟨g, i * 10, none⟩ = some (.bool (Txt.opn (pt (tl s i) 0))) := cell_later hB12 ((hcl 0 (by decide)).trans rfl)
  have L1 : w2.cell? ⟨g, i * 10 + 1, none⟩ = some (.slice (some ⟨bb 0, 0, none⟩) (Txt.pcs 44 (pt (tl s i) 0)).length (cc 0)) := cell_later hB12 ((hcl 1 (by decide)).trans rfl)
  have L2 : w2.cell? ⟨g, i * 10 + 2, none⟩ = some (.bool (Txt.opn (pt (tl s i) 1))) := cell_later hB12 ((hcl 2 (by decide)).trans rfl)
  have L3 : w2.cell? ⟨g, i * 10 + 3, none⟩ = some (.slice (some ⟨bb 1, 0, none⟩) (Txt.pcs 44 (pt (tl s i) 1)).length (cc 1)) := cell_later hB12 ((hcl 3 (by decide)).trans rfl)
  have L4 : w2.cell? ⟨g, i * 10 + 4, none⟩ = some (.bool (Txt.opn (pt (tl s i) 2))) := cell_later hB12 ((hcl 4 (by decide)).trans rfl)
  have L5 : w2.cell? ⟨g, i * 10 + 5, none⟩ = some (.slice (some ⟨bb 2, 0, none⟩) (Txt.pcs 44 (pt (tl s i) 2)).length (cc 2)) := cell_later hB12 ((hcl 5 (by decide)).trans rfl)
  have L6 : w2.cell? ⟨g, i * 10 + 6, none⟩ = some (.bool (Txt.opn (pt (tl s i) 3))) := cell_later hB12 ((hcl 6 (by decide)).trans rfl)
  have L7 : w2.cell? ⟨g, i * 10 + 7, none⟩ = some (.slice (some ⟨bb 3, 0, none⟩) (Txt.pcs 44 (pt (tl s i) 3)).length (cc 3)) := cell_later hB12 ((hcl 7 (by decide)).trans rfl)
  have L8 : w2.cell? ⟨g, i * 10 + 8, none⟩ = some (.bool (Txt.opn (pt (tl s i) 4))) := cell_later hB12 ((hcl 8 (by decide)).trans rfl)
  have L9 : w2.cell? ⟨g, i * 10 + 9, none⟩ = some (.slice (some ⟨bb 4, 0, none⟩) (Txt.pcs 44 (pt (tl s i) 4)).length (cc 4)) := cell_later hB12 ((hcl 9 (by decide)).trans rfl)
  have HLA : Hid (∀ o, LineAt ((w2.alloc o).drew) (tl s i) bb cc) := fun o => ((hla.later hB12).later (below_alloc _ _)).later (Below.refl _ _).drew
  have hsz : Hid ((tl s i).size ≤ 300) := tl_sz hs3 i (by have := tn_lt s; omega)
  have hg2 : g < w2.heap.size := World.block_lt_of_cell? _ _ L0
  have hg3 : ¬ w2.heap.size = g := by omega
  have b0 : (0 : Int) ≤ (i : Int) := by omega
  have b1 : (i : Int) < (tn s : Int) := by omega
  have wr1 : IntKind.i64.wrap ((i : Int) + 1 - 1) = (i : Int) := by rw [IntKind.wrap_i64]; omega
  have wr2 : IntKind.i64.wrap (i : Int) = (i : Int) := by rw [IntKind.wrap_i64]; omega
  have bm : 0 ≤ mo ∧ mo ≤ 60 := by have := HD.m1; have := HD.m2; omega
  have bd : 0 ≤ d ∧ d ≤ 60 := by have := HD.d1; have := HD.d2; have := Cal.dim_lo y mo; omega
  clear hcl hla hb2 hB12 HL HM1 HD
  go_wp2_with fail
  go_region_held3 (fun w' => w'.cell? ⟨w1.heap.size, 0, none⟩ = some (.slice (some ⟨g, 0, none⟩) (tn s) c) ∧ w'.cell? ⟨g, i * 10, none⟩ = some (.bool (Txt.opn (pt (tl s i) 0))) ∧ w'.cell? ⟨g, i * 10 + 1, none⟩ = some (.slice (some ⟨bb 0, 0, none⟩) (Txt.pcs 44 (pt (tl s i) 0)).length (cc 0)) ∧ w'.cell? ⟨g, i * 10 + 2, none⟩ = some (.bool (Txt.opn (pt (tl s i) 1))) ∧ w'.cell? ⟨g, i * 10 + 3, none⟩ = some (.slice (some ⟨bb 1, 0, none⟩) (Txt.pcs 44 (pt (tl s i) 1)).length (cc 1)) ∧ w'.cell? ⟨g, i * 10 + 4, none⟩ = some (.bool (Txt.opn (pt (tl s i) 2))) ∧ w'.cell? ⟨g, i * 10 + 5, none⟩ = some (.slice (some ⟨bb 2, 0, none⟩) (Txt.pcs 44 (pt (tl s i) 2)).length (cc 2)) ∧ w'.cell? ⟨g, i * 10 + 6, none⟩ = some (.bool (Txt.opn (pt (tl s i) 3))) ∧ w'.cell? ⟨g, i * 10 + 7, none⟩ = some (.slice (some ⟨bb 3, 0, none⟩) (Txt.pcs 44 (pt (tl s i) 3)).length (cc 3)) ∧ w'.cell? ⟨g, i * 10 + 8, none⟩ = some (.bool (Txt.opn (pt (tl s i) 4))) ∧ w'.cell? ⟨g, i * 10 + 9, none⟩ = some (.slice (some ⟨bb 4, 0, none⟩) (Txt.pcs 44 (pt (tl s i) 4)).length (cc 4)) ∧ w'.cell? ⟨w2.heap.size, 0, none⟩ = some (.int .i64 y) ∧ w'.cell? ⟨w2.heap.size, 1, none⟩ = some (.int .i64 mo) ∧ w'.cell? ⟨w2.heap.size, 2, none⟩ = some (.int .i64 d) ∧ w'.cell? ⟨w2.heap.size, 3, none⟩ = some (.int .i64 (m % 1440 / 60)) ∧ w'.cell? ⟨w2.heap.size, 4, none⟩ = some (.int .i64 (m % 60)) ∧ w'.cell? ⟨w2.heap.size, 5, none⟩ = some (.int .i64 ((m / 1440 + 4) % 7))) (first | go_keep | (refine ⟨?_, ?_, ?_, ?_, ?_, ?_, ?_, ?_, ?_, ?_, ?_, ?_, ?_, ?_, ?_, ?_, ?_⟩ <;> exact cell_later hb3 (by simp [*]))) ((go_at_call 39; refine (due_any (tl s i) bb cc _ _ _ _ _ _ _ hsz.out (HP.out i hi) (HLA.out _) bm.1 bm.2 bd.1 bd.2 (by omega) (by omega) (by omega) (by omega) (by omega) (by omega)).mono ?_; rintro e w3 ⟨rfl, hb3⟩))
  have B3 : Hid (Below w.heap.size w w3) := ((B2.out.alloc hz2 _).drew).trans (hb3.mono (by simp; omega))
  clear hb3
  go_wp2_with fail
  go_ret2
  exact ⟨⟨_, 0, rfl, K.out⟩, B3.out⟩

set_option maxHeartbeats 1000000 in
theorem bdue_any (s : ByteArray) (n m : Int) (w : World) (hs : s.size ≤ maxLen) (hT : TabLH w) (hM : Tab w) :
    Calls Tryd.prog 13 #[.string s, .int .i64 n, .int .i64 m] w fun e w' => (∃ (x : Bool) (r : Int), e = .returned (.tuple #[.bool x, .int .i64 r]) ∧ DueR s n m x r) ∧ Below w.heap.size w w' := by
  have HT : Hid (TabLH w) := hT
  have HM : Hid (Tab w) := hM
  have HS : Hid (s.size ≤ maxLen) := hs
  clear hT hM hs
  go_enter Tryd.func13, Tryd.ntmps13
  go_wp2_with fail
  refine (cdue_any _ _ _ _ HS.out HT.out HM.out).mono ?_
  rintro e w1 ⟨⟨x, r, rfl, hC⟩, hb⟩
  go_wp2_with fail
  go_ret2
  exact ⟨⟨x, r, rfl, hC⟩, hb⟩

set_option maxHeartbeats 3000000 in
theorem rdue_any (s : ByteArray) (n m : Int) (w : World) (hs : s.size ≤ maxLen) :
    Calls Tryd.prog 14 #[.string s, .int .i64 n, .int .i64 m] w fun e w' => (∃ (x : Bool) (r : Int), e = .returned (.tuple #[.bool x, .int .i64 r]) ∧ DueR s n m x r) ∧ Below w.heap.size w w' := by
  have HS : Hid (s.size ≤ maxLen) := hs
  clear hs
  go_enter Tryd.func14, Tryd.ntmps14
  go_wp2_with fail
  refine (rcheck_any _ _ HS.out).mono ?_
  rintro e w1 ⟨⟨a, r, rfl, hC, _⟩, hb⟩
  have B1 : Hid (Below w.heap.size w w1) := hb
  have hz : w.heap.size ≤ w1.heap.size := hb.size
  clear hb HS
  by_cases hr : r = 0
  rotate_left
  · have K : Hid (DueR s n m false r) := DueR.err a r hC hr
    have hr' : (r != 0) = true := by simpa using hr
    clear hr hC
    go_wp2_with fail
    go_ret2
    exact ⟨⟨false, r, rfl, K.out⟩, B1.out⟩
  subst hr
  have ha := hC.zero rfl
  subst ha
  have HC : Hid (ChkR s 0 0) := hC
  obtain ⟨hs3, hzl, hP⟩ := hC.lines
  have HP : Hid (∀ j : Nat, j < tn s → LineP (tl s j)) := hP
  have hmm : tm s = tn s := by rw [tm, if_pos hzl, Nat.add_zero]
  have hlen := Txt.pcs_len 10 s
  have hnl := tn_len s
  have hnb : tn s ≤ 301 := by omega
  clear hC hP hzl
  go_wp2_with fail
  refine (lines_any _ _ hs3).mono ?_
  rintro e w2 ⟨⟨b, cap, rfl, hS⟩, hb2⟩
  rw [hmm]
  have HSS : Hid (StrsAt w2 b (Txt.pcs 10 s)) := hS
  have HNL : Hid ((Txt.pcs 10 s).length = tn s + 1) := hnl
  have B2 : Hid (Below w.heap.size w w2) := B1.out.trans (hb2.mono hz)
  have hz2 : w.heap.size ≤ w2.heap.size := Nat.le_trans hz hb2.size
  generalize tb s = o
  clear hb2 hS hmm hlen hnl
  by_cases hm : m < 0 ∨ 4223371679 < m
  · have K : Hid (DueR s n m false 4) := DueR.num HC.out (by omega)
    have HMM : Hid (m < 0 ∨ 4223371679 < m) := hm
    clear hm
    go_wp2_with fail
    refine (rdate_no _ _ HMM.out).mono ?_
    rintro e w3 ⟨rfl, hb3⟩
    have B3 : Hid (Below w.heap.size w w3) := B2.out.trans (hb3.mono hz2)
    have hz3 : w.heap.size ≤ w3.heap.size := Nat.le_trans hz2 hb3.size
    clear hb3
    by_cases n1 : n < 1
    · go_wp2_with fail
      go_ret2
      exact ⟨⟨false, 4, rfl, K.out⟩, B3.out.alloc hz3 _⟩
    by_cases n2 : (tn s : Int) < n
    · go_wp2_with fail
      go_ret2
      exact ⟨⟨false, 4, rfl, K.out⟩, B3.out.alloc hz3 _⟩
    · go_wp2_with fail
      go_ret2
      exact ⟨⟨false, 4, rfl, K.out⟩, B3.out.alloc hz3 _⟩
  have m1 : 0 ≤ m := by omega
  have m2 : m ≤ 4223371679 := by omega
  clear hm
  go_wp2_with fail
  refine (rdate_yes _ _ m1 m2).mono ?_
  rintro e w3 ⟨⟨y, mo, d, HD, rfl⟩, hb3⟩
  have B3 : Hid (Below w.heap.size w w3) := B2.out.trans (hb3.mono hz2)
  have hz3 : w.heap.size ≤ w3.heap.size := Nat.le_trans hz2 hb3.size
  by_cases n1 : n < 1
  · have K : Hid (DueR s n m false 4) := DueR.num HC.out (by omega)
    clear hb3
    go_wp2_with fail
    go_ret2
    exact ⟨⟨false, 4, rfl, K.out⟩, B3.out.alloc hz3 _⟩
  by_cases n2 : (tn s : Int) < n
  · have K : Hid (DueR s n m false 4) := DueR.num HC.out (by omega)
    clear hb3
    go_wp2_with fail
    go_ret2
    exact ⟨⟨false, 4, rfl, K.out⟩, B3.out.alloc hz3 _⟩
  obtain ⟨i, rfl⟩ : ∃ i : Nat, n = (i : Int) + 1 := ⟨(n - 1).toNat, by omega⟩
  have hi : i < tn s := by omega
  have K : Hid (DueR s ((i : Int) + 1) m (dueB (tl s i) mo d (m % 1440 / 60) (m % 60) ((m / 1440 + 4) % 7)) 0) := DueR.ok HC.out i rfl hi m1 m2 y mo d HD
  have hil : i < (Txt.pcs 10 s).length := by have := HNL.out; omega
  have c0 : w3.cell? ⟨b, i, none⟩ = some (.string (tl s i)) := by rw [← tl_eq hil]; exact cell_later hb3 (HSS.out i hil)
  have hsz : Hid ((tl s i).size ≤ 300) := tl_sz hs3 i hil
  have hg2 : b < w3.heap.size := World.block_lt_of_cell? _ _ c0
  have hg3 : ¬ w3.heap.size = b := by omega
  have b0 : (0 : Int) ≤ (i : Int) := by omega
  have b1 : (i : Int) < (tn s : Int) := by omega
  have wr1 : IntKind.i64.wrap ((i : Int) + 1 - 1) = (i : Int) := by rw [IntKind.wrap_i64]; omega
  have wr2 : IntKind.i64.wrap (i : Int) = (i : Int) := by rw [IntKind.wrap_i64]; omega
  have bm : 0 ≤ mo ∧ mo ≤ 60 := by have := HD.m1; have := HD.m2; omega
  have bd : 0 ≤ d ∧ d ≤ 60 := by have := HD.d1; have := HD.d2; have := Cal.dim_lo y mo; omega
  clear hb3 HD HSS
  go_wp2_with fail
  go_region_held3 (fun w' => w'.cell? ⟨b, i, none⟩ = some (.string (tl s i)) ∧ w'.cell? ⟨w3.heap.size, 0, none⟩ = some (.int .i64 y) ∧ w'.cell? ⟨w3.heap.size, 1, none⟩ = some (.int .i64 mo) ∧ w'.cell? ⟨w3.heap.size, 2, none⟩ = some (.int .i64 d) ∧ w'.cell? ⟨w3.heap.size, 3, none⟩ = some (.int .i64 (m % 1440 / 60)) ∧ w'.cell? ⟨w3.heap.size, 4, none⟩ = some (.int .i64 (m % 60)) ∧ w'.cell? ⟨w3.heap.size, 5, none⟩ = some (.int .i64 ((m / 1440 + 4) % 7))) (first | go_keep | (refine ⟨?_, ?_, ?_, ?_, ?_, ?_, ?_⟩ <;> exact cell_later hb4 (by simp [*]))) ((go_at_call 27; refine (dueAt_any (tl s i) _ _ _ _ _ _ _ hsz.out (HP.out i hi) bm.1 bm.2 bd.1 bd.2 (by omega) (by omega) (by omega) (by omega) (by omega) (by omega)).mono ?_; rintro e w4 ⟨rfl, hb4⟩))
  have B4 : Hid (Below w.heap.size w w4) := ((B3.out.alloc hz3 _).drew).trans (hb4.mono (by simp; omega))
  clear hb4
  go_wp2_with fail
  go_ret2
  exact ⟨⟨_, 0, rfl, K.out⟩, B4.out⟩
end Go.Proofs.YtmbginojgenbeaaDoor
