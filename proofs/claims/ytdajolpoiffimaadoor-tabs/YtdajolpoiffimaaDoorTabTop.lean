/-
  The walks over the program's Check and Due, the document's Due.
-/
import Derived.Test.YtdajolpoiffimaaDoorTabChkTop
namespace Go.Proofs.YtdajolpoiffimaaDoor
open Go.RowKit

attribute [local go_sem ↓] Go.wp_at_zero Go.wp_at_succ

set_option maxHeartbeats 1000000 in
theorem check_any (s : ByteArray) (w : World) (hs : s.size ≤ maxLen) (hT : TabLH w) :
    Calls Tryd.prog 14 #[.string s] w fun e w' => (∃ a r : Int, e = .returned (.tuple #[.int .i64 a, .int .i64 r]) ∧ ChkR s a r) ∧ Below w.heap.size w w' := by
  have HT : Hid (TabLH w) := hT
  have HS : Hid (s.size ≤ maxLen) := hs
  clear hT hs
  go_enter Tryd.func14, Tryd.ntmps14
  go_wp2_with fail
  refine (ccheck_any _ _ HS.out HT.out).mono ?_
  rintro e w1 ⟨⟨a, r, rfl, hC⟩, hb⟩
  go_wp2_with fail
  go_ret2
  exact ⟨⟨a, r, rfl, hC⟩, hb⟩

set_option maxHeartbeats 3000000 in
theorem cdue_any (s : ByteArray) (n m : Int) (w : World) (hs : s.size ≤ maxLen) (hT : TabLH w) (hM : Tab w) :
    Calls Tryd.prog 43 #[.string s, .int .i64 n, .int .i64 m] w fun e w' => (∃ (x : Bool) (r : Int), e = .returned (.tuple #[.bool x, .int .i64 r]) ∧ DueR s n m x r) ∧ Below w.heap.size w w' := by
  have HT : Hid (TabLH w) := hT
  have HM : Hid (Tab w) := hM
  have HS : Hid (s.size ≤ maxLen) := hs
  clear hT hM hs
  go_enter Tryd.func43, Tryd.ntmps43
  go_wp2_with fail
  refine (read_any _ _ HS.out HT.out).mono ?_
  rintro e w1 ⟨⟨a, r, ad, n', c, rfl, hC, hL⟩, hb⟩
  have HM1 : Hid (∀ o, Tab (w1.alloc o)) := fun o => (HM.out.later hb).alloc o
  have B1 : Hid (Below w.heap.size w w1) := hb
  have hz : w.heap.size ≤ w1.heap.size := hb.size
  have hbd := hC.bd
  clear hb HT HM HS
  by_cases hr : r = 0
  rotate_left
  · have K : Hid (DueR s n m false r) := DueR.err a r hC hr
    have hr' : (r != 0) = true := by simpa using hr
    clear hr hL hC
    go_wp2_with fail
    go_quiet (fail)
    go_wp2_with fail
    go_ret2
    exact ⟨⟨false, r, rfl, K.out⟩, below_drewN (B1.out.alloc hz _) _⟩
  subst hr
  have ha := hC.zero rfl
  subst ha
  obtain ⟨g, rfl, rfl, hnc, hLines⟩ := hL rfl
  have HC : Hid (ChkR s 0 0) := hC
  have HL : Hid (PLinesAt w1 g s) := hLines
  obtain ⟨hs3, hzl, hP⟩ := hC.lines
  have HP : Hid (∀ j : Nat, j < tn s → LineP (tl s j)) := hP
  have hlen := Txt.pcs_len 10 s
  have hnl := tn_len s
  have hnb : tn s ≤ 301 := by omega
  clear hL hC hP hLines hlen hnl hbd hzl
  by_cases n1 : n < 1
  · have K : Hid (DueR s n m false 4) := DueR.num HC.out (by omega)
    go_wp2_with fail
    go_ret2
    exact ⟨⟨false, 4, rfl, K.out⟩, B1.out.alloc hz _⟩
  by_cases n2 : (tn s : Int) < n
  · have K : Hid (DueR s n m false 4) := DueR.num HC.out (by omega)
    go_wp2_with fail
    go_ret2
    exact ⟨⟨false, 4, rfl, K.out⟩, B1.out.alloc hz _⟩
  by_cases hm : m < 0 ∨ 4223371679 < m
  · have K : Hid (DueR s n m false 4) := DueR.num HC.out (by omega)
    have HMM : Hid (m < 0 ∨ 4223371679 < m) := hm
    clear hm
    go_wp2_with fail
    refine (cdate_no _ _ HMM.out).mono ?_
    rintro e w2 ⟨rfl, hb2⟩
    have B2 : Hid (Below w.heap.size w w2) := (B1.out.alloc hz _).trans (hb2.mono (by simp; omega))
    have hz2 : w.heap.size ≤ w2.heap.size := by have := hb2.size; simp at this; omega
    clear hb2
    go_wp2_with fail
    go_ret2
    exact ⟨⟨false, 4, rfl, K.out⟩, B2.out.alloc hz2 _⟩
  obtain ⟨i, rfl⟩ : ∃ i : Nat, n = (i : Int) + 1 := ⟨(n - 1).toNat, by omega⟩
  have hi : i < tn s := by omega
  have m1 : 0 ≤ m := by omega
  have m2 : m ≤ 4223371679 := by omega
  clear hm
  go_wp2_with fail
  refine (cdate_yes _ _ (HM1.out _) m1 m2).mono ?_
  rintro e w2 ⟨⟨y, mo, d, HD, rfl⟩, hb2⟩
  have K : Hid (DueR s ((i : Int) + 1) m (dueB (tl s i) mo d (m % 1440 / 60) (m % 60) ((m / 1440 + 4) % 7)) 0) := DueR.ok HC.out i rfl hi m1 m2 y mo d HD
  have B2 : Hid (Below w.heap.size w w2) := (B1.out.alloc hz _).trans (hb2.mono (by simp; omega))
  have hz2 : w.heap.size ≤ w2.heap.size := by have := hb2.size; simp at this; omega
  have hz12 : w1.heap.size < w2.heap.size := by have := hb2.size; simp at this; omega
  obtain ⟨bb, cc, sv, hcl, hla, hsp⟩ := HL.out i hi
  obtain ⟨ads, caps, hvs⟩ : ∃ ad cap, sv = .slice ad (stps (tl s i)).length cap := by
    obtain ⟨ad, cap, e, _⟩ := TRow.form hsp; exact ⟨ad, cap, e⟩
  subst hvs
  have hB12 : Below w1.heap.size w1 w2 := (below_alloc w1 _).trans (hb2.mono (by simp))
  have Z0 : (w2.alloc (.cells #[.int .i64 y, .int .i64 mo, .int .i64 d, .int .i64 (m % 1440 / 60), .int .i64 (m % 60), .int .i64 ((m / 1440 + 4) % 7)] 23)).cell? ⟨w1.heap.size, 0, none⟩ = some (.slice (some ⟨g, 0, none⟩) (tn s) c) := cell_later (below_alloc _ _) (cell_later hb2 (by simp [go_sem]))
  have L0 : (w2.alloc (.cells #[.int .i64 y, .int .i64 mo, .int .i64 d, .int .i64 (m % 1440 / 60), .int .i64 (m % 60), .int .i64 ((m / 1440 + 4) % 7)] 23)).cell? ⟨g, i * 14, none⟩ = some (.bool (Txt.opn (pt (tl s i) 0))) := cell_later (below_alloc _ _) (cell_later hB12 ((hcl 0 (by decide)).trans rfl))
  have L1 : (w2.alloc (.cells #[.int .i64 y, .int .i64 mo, .int .i64 d, .int .i64 (m % 1440 / 60), .int .i64 (m % 60), .int .i64 ((m / 1440 + 4) % 7)] 23)).cell? ⟨g, i * 14 + 1, none⟩ = some (.slice (some ⟨bb 0, 0, none⟩) (Txt.pcs 44 (pt (tl s i) 0)).length (cc 0)) := cell_later (below_alloc _ _) (cell_later hB12 ((hcl 1 (by decide)).trans rfl))
  have L2 : (w2.alloc (.cells #[.int .i64 y, .int .i64 mo, .int .i64 d, .int .i64 (m % 1440 / 60), .int .i64 (m % 60), .int .i64 ((m / 1440 + 4) % 7)] 23)).cell? ⟨g, i * 14 + 2, none⟩ = some (.bool (Txt.opn (pt (tl s i) 1))) := cell_later (below_alloc _ _) (cell_later hB12 ((hcl 2 (by decide)).trans rfl))
  have L3 : (w2.alloc (.cells #[.int .i64 y, .int .i64 mo, .int .i64 d, .int .i64 (m % 1440 / 60), .int .i64 (m % 60), .int .i64 ((m / 1440 + 4) % 7)] 23)).cell? ⟨g, i * 14 + 3, none⟩ = some (.slice (some ⟨bb 1, 0, none⟩) (Txt.pcs 44 (pt (tl s i) 1)).length (cc 1)) := cell_later (below_alloc _ _) (cell_later hB12 ((hcl 3 (by decide)).trans rfl))
  have L4 : (w2.alloc (.cells #[.int .i64 y, .int .i64 mo, .int .i64 d, .int .i64 (m % 1440 / 60), .int .i64 (m % 60), .int .i64 ((m / 1440 + 4) % 7)] 23)).cell? ⟨g, i * 14 + 4, none⟩ = some (.bool (Txt.opn (pt (tl s i) 2))) := cell_later (below_alloc _ _) (cell_later hB12 ((hcl 4 (by decide)).trans rfl))
  have L5 : (w2.alloc (.cells #[.int .i64 y, .int .i64 mo, .int .i64 d, .int .i64 (m % 1440 / 60), .int .i64 (m % 60), .int .i64 ((m / 1440 + 4) % 7)] 23)).cell? ⟨g, i * 14 + 5, none⟩ = some (.slice (some ⟨bb 2, 0, none⟩) (Txt.pcs 44 (pt (tl s i) 2)).length (cc 2)) := cell_later (below_alloc _ _) (cell_later hB12 ((hcl 5 (by decide)).trans rfl))
  have L6 : (w2.alloc (.cells #[.int .i64 y, .int .i64 mo, .int .i64 d, .int .i64 (m % 1440 / 60), .int .i64 (m % 60), .int .i64 ((m / 1440 + 4) % 7)] 23)).cell? ⟨g, i * 14 + 6, none⟩ = some (.bool (Txt.opn (pt (tl s i) 3))) := cell_later (below_alloc _ _) (cell_later hB12 ((hcl 6 (by decide)).trans rfl))
  have L7 : (w2.alloc (.cells #[.int .i64 y, .int .i64 mo, .int .i64 d, .int .i64 (m % 1440 / 60), .int .i64 (m % 60), .int .i64 ((m / 1440 + 4) % 7)] 23)).cell? ⟨g, i * 14 + 7, none⟩ = some (.slice (some ⟨bb 3, 0, none⟩) (Txt.pcs 44 (pt (tl s i) 3)).length (cc 3)) := cell_later (below_alloc _ _) (cell_later hB12 ((hcl 7 (by decide)).trans rfl))
  have L8 : (w2.alloc (.cells #[.int .i64 y, .int .i64 mo, .int .i64 d, .int .i64 (m % 1440 / 60), .int .i64 (m % 60), .int .i64 ((m / 1440 + 4) % 7)] 23)).cell? ⟨g, i * 14 + 8, none⟩ = some (.bool (Txt.opn (pt (tl s i) 4))) := cell_later (below_alloc _ _) (cell_later hB12 ((hcl 8 (by decide)).trans rfl))
  have L9 : (w2.alloc (.cells #[.int .i64 y, .int .i64 mo, .int .i64 d, .int .i64 (m % 1440 / 60), .int .i64 (m % 60), .int .i64 ((m / 1440 + 4) % 7)] 23)).cell? ⟨g, i * 14 + 9, none⟩ = some (.slice (some ⟨bb 4, 0, none⟩) (Txt.pcs 44 (pt (tl s i) 4)).length (cc 4)) := cell_later (below_alloc _ _) (cell_later hB12 ((hcl 9 (by decide)).trans rfl))
  have L10 : (w2.alloc (.cells #[.int .i64 y, .int .i64 mo, .int .i64 d, .int .i64 (m % 1440 / 60), .int .i64 (m % 60), .int .i64 ((m / 1440 + 4) % 7)] 23)).cell? ⟨g, i * 14 + 10, none⟩ = some (.bool (obt (pt (tl s i) 5) 0 == 120)) := cell_later (below_alloc _ _) (cell_later hB12 ((hcl 10 (by decide)).trans rfl))
  have L11 : (w2.alloc (.cells #[.int .i64 y, .int .i64 mo, .int .i64 d, .int .i64 (m % 1440 / 60), .int .i64 (m % 60), .int .i64 ((m / 1440 + 4) % 7)] 23)).cell? ⟨g, i * 14 + 11, none⟩ = some (.int .u8 (obt (pt (tl s i) 5) 1)) := cell_later (below_alloc _ _) (cell_later hB12 ((hcl 11 (by decide)).trans rfl))
  have L12 : (w2.alloc (.cells #[.int .i64 y, .int .i64 mo, .int .i64 d, .int .i64 (m % 1440 / 60), .int .i64 (m % 60), .int .i64 ((m / 1440 + 4) % 7)] 23)).cell? ⟨g, i * 14 + 12, none⟩ = some (.int .i64 (obt (pt (tl s i) 5) 2 - 48)) := cell_later (below_alloc _ _) (cell_later hB12 ((hcl 12 (by decide)).trans rfl))
  have L13 : (w2.alloc (.cells #[.int .i64 y, .int .i64 mo, .int .i64 d, .int .i64 (m % 1440 / 60), .int .i64 (m % 60), .int .i64 ((m / 1440 + 4) % 7)] 23)).cell? ⟨g, i * 14 + 13, none⟩ = some (.slice ads (stps (tl s i)).length caps) := cell_later (below_alloc _ _) (cell_later hB12 ((hcl 13 (by decide)).trans rfl))
  have DD := DateAt.new w2 y mo d (m % 1440 / 60) (m % 60) ((m / 1440 + 4) % 7) 23
  have HLA0 : LineAt (w2.alloc (.cells #[.int .i64 y, .int .i64 mo, .int .i64 d, .int .i64 (m % 1440 / 60), .int .i64 (m % 60), .int .i64 ((m / 1440 + 4) % 7)] 23)) (tl s i) bb cc := (hla.later hB12).later (below_alloc _ _)
  have hsz : Hid ((tl s i).size ≤ 300) := tl_sz hs3 i (by have := tn_lt s; omega)
  have B20 : Below w.heap.size w (w2.alloc (.cells #[.int .i64 y, .int .i64 mo, .int .i64 d, .int .i64 (m % 1440 / 60), .int .i64 (m % 60), .int .i64 ((m / 1440 + 4) % 7)] 23)) := B2.out.alloc hz2 _
  have hq3 : w2.heap.size < (w2.alloc (.cells #[.int .i64 y, .int .i64 mo, .int .i64 d, .int .i64 (m % 1440 / 60), .int .i64 (m % 60), .int .i64 ((m / 1440 + 4) % 7)] 23)).heap.size := by simp
  have b0 : (0 : Int) ≤ (i : Int) := by omega
  have b1 : (i : Int) < (tn s : Int) := by omega
  have wr1 : IntKind.i64.wrap ((i : Int) + 1 - 1) = (i : Int) := by rw [IntKind.wrap_i64]; omega
  have wr2 : IntKind.i64.wrap (i : Int) = (i : Int) := by rw [IntKind.wrap_i64]; omega
  have bm : 0 ≤ mo ∧ mo ≤ 60 := by have := HD.m1; have := HD.m2; omega
  have bd : 0 ≤ d ∧ d ≤ 60 := by have := HD.d1; have := HD.d2; have := Cal.dim_lo y mo; omega
  clear hcl hla hsp hb2 hB12 HL HM1 HD
  go_upto_region 7 with fail
  generalize w2.alloc (.cells #[.int .i64 y, .int .i64 mo, .int .i64 d, .int .i64 (m % 1440 / 60), .int .i64 (m % 60), .int .i64 ((m / 1440 + 4) % 7)] 23) = W3 at *
  generalize w2.heap.size = q2 at *
  generalize w1.heap.size = q1 at *
  obtain ⟨D0, D1, D2, D3, D4, D5⟩ := DD
  have hg2 : g < W3.heap.size := World.block_lt_of_cell? _ _ L0
  have hq1 : q1 < W3.heap.size := by omega
  have HLA : Hid (LineAt W3 (tl s i) bb cc) := HLA0
  have HB20 : Hid (Below w.heap.size w W3) := B20
  have hzW : w.heap.size ≤ W3.heap.size := B20.size
  clear HLA0 B20
  go_wp2_with fail
  go_region_held3 (fun w' => ∀ b o, b < W3.heap.size → w'.cell? ⟨b, o, none⟩ = W3.cell? ⟨b, o, none⟩)
    ((intro b' o' h1; first | (exact hbC.cell (p := ⟨b', o', none⟩) h1) | rfl))
    ((go_at_call 72; refine (due_any (tl s i) bb cc ads (stps (tl s i)).length caps _ _ _ _ _ _ _ hsz.out (HP.out i hi) ?hla bm.1 bm.2 bd.1 bd.2 (by omega) (by omega) (by omega) (by omega) (by omega) (by omega)).mono ?_; (case hla => exact HLA.out.later (Below.refl _ _).drew); rintro e w3 ⟨rfl, hb3⟩; have hbC : Below W3.heap.size W3 w3 := (Below.refl _ _).drew.trans hb3))
  have B3 : Hid (Below w.heap.size w w3) := HB20.out.trans (hbC.mono hzW)
  clear hb3 hbC
  go_wp2_with fail
  go_ret2
  exact ⟨⟨_, 0, rfl, K.out⟩, B3.out⟩

set_option maxHeartbeats 1000000 in
theorem bdue_any (s : ByteArray) (n m : Int) (w : World) (hs : s.size ≤ maxLen) (hT : TabLH w) (hM : Tab w) :
    Calls Tryd.prog 16 #[.string s, .int .i64 n, .int .i64 m] w fun e w' => (∃ (x : Bool) (r : Int), e = .returned (.tuple #[.bool x, .int .i64 r]) ∧ DueR s n m x r) ∧ Below w.heap.size w w' := by
  have HT : Hid (TabLH w) := hT
  have HM : Hid (Tab w) := hM
  have HS : Hid (s.size ≤ maxLen) := hs
  clear hT hM hs
  go_enter Tryd.func16, Tryd.ntmps16
  go_wp2_with fail
  refine (cdue_any _ _ _ _ HS.out HT.out HM.out).mono ?_
  rintro e w1 ⟨⟨x, r, rfl, hC⟩, hb⟩
  go_wp2_with fail
  go_ret2
  exact ⟨⟨x, r, rfl, hC⟩, hb⟩
end Go.Proofs.YtdajolpoiffimaaDoor
