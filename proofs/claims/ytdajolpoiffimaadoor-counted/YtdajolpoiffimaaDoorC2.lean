/-
  TabTop, KTab, KeepM, KeepM2, CountM, KWorld, KBeg, KCount, KCount2, KSetup.
-/
import Derived.Deep.RegionHeld3
import Derived.Deep.DrawnRows
import Derived.Deep.CutRange
import Derived.Test.YtdajolpoiffimaaDoorH1
import Derived.Test.YtdajolpoiffimaaDoorH2
import Derived.Test.YtdajolpoiffimaaDoorH4
import Derived.Test.YtdajolpoiffimaaDoorH6
import Derived.Test.YtdajolpoiffimaaDoorH7
import Derived.Test.YtdajolpoiffimaaDoorH8
import Derived.Test.YtdajolpoiffimaaDoorC1

namespace Go.Proofs.YtdajolpoiffimaaDoor
open Go.RowKit

attribute [local go_sem ↓] Go.wp_at_zero Go.wp_at_succ

set_option maxHeartbeats 1000000 in
theorem check_any (s : ByteArray) (w : World) (hs : s.size ≤ maxLen) (hT : TabLH w) :
    Calls Tryd.prog 14 #[.string s] w fun e w' => (∃ a r : Int, e = .returned (.tuple #[.int .i64 a, .int .i64 r]) ∧ ChkR s a r) ∧ Below w.heap.size w w' := by
  have HT : Hid (TabLH w) := hT
  have HS : Hid (s.size ≤ maxLen) := hs
  clear hT hs
  go_enter Tryd.func14, Tryd.ntmps14
  go_wp2_with fail
  refine (ccheck_any _ _ HS.out HT.out).mono ?_
  rintro e w1 ⟨⟨a, r, rfl, hC⟩, hb⟩
  go_wp2_with fail
  go_ret2
  exact ⟨⟨a, r, rfl, hC⟩, hb⟩

set_option maxHeartbeats 3000000 in
theorem cdue_any (s : ByteArray) (n m : Int) (w : World) (hs : s.size ≤ maxLen) (hT : TabLH w) (hM : Tab w) :
    Calls Tryd.prog 43 #[.string s, .int .i64 n, .int .i64 m] w fun e w' => (∃ (x : Bool) (r : Int), e = .returned (.tuple #[.bool x, .int .i64 r]) ∧ DueR s n m x r) ∧ Below w.heap.size w w' := by
  have HT : Hid (TabLH w) := hT
  have HM : Hid (Tab w) := hM
  have HS : Hid (s.size ≤ maxLen) := hs
  clear hT hM hs
  go_enter Tryd.func43, Tryd.ntmps43
  go_wp2_with fail
  refine (read_any _ _ HS.out HT.out).mono ?_
  rintro e w1 ⟨⟨a, r, ad, n', c, rfl, hC, hL⟩, hb⟩
  have HM1 : Hid (∀ o, Tab (w1.alloc o)) := fun o => (HM.out.later hb).alloc o
  have B1 : Hid (Below w.heap.size w w1) := hb
  have hz : w.heap.size ≤ w1.heap.size := hb.size
  have hbd := hC.bd
  clear hb HT HM HS
  by_cases hr : r = 0
  rotate_left
  · have K : Hid (DueR s n m false r) := DueR.err a r hC hr
    have hr' : (r != 0) = true := by simpa using hr
    clear hr hL hC
    go_wp2_with fail
    go_quiet (fail)
    go_wp2_with fail
    go_ret2
    exact ⟨⟨false, r, rfl, K.out⟩, below_drewN (B1.out.alloc hz _) _⟩
  subst hr
  have ha := hC.zero rfl
  subst ha
  obtain ⟨g, rfl, rfl, hnc, hLines⟩ := hL rfl
  have HC : Hid (ChkR s 0 0) := hC
  have HL : Hid (PLinesAt w1 g s) := hLines
  obtain ⟨hs3, hzl, hP⟩ := hC.lines
  have HP : Hid (∀ j : Nat, j < tn s → LineP (tl s j)) := hP
  have hlen := Txt.pcs_len 10 s
  have hnl := tn_len s
  have hnb : tn s ≤ 301 := by omega
  clear hL hC hP hLines hlen hnl hbd hzl
  by_cases n1 : n < 1
  · have K : Hid (DueR s n m false 4) := DueR.num HC.out (by omega)
    go_wp2_with fail
    go_ret2
    exact ⟨⟨false, 4, rfl, K.out⟩, B1.out.alloc hz _⟩
  by_cases n2 : (tn s : Int) < n
  · have K : Hid (DueR s n m false 4) := DueR.num HC.out (by omega)
    go_wp2_with fail
    go_ret2
    exact ⟨⟨false, 4, rfl, K.out⟩, B1.out.alloc hz _⟩
  by_cases hm : m < 0 ∨ 4223371679 < m
  · have K : Hid (DueR s n m false 4) := DueR.num HC.out (by omega)
    have HMM : Hid (m < 0 ∨ 4223371679 < m) := hm
    clear hm
    go_wp2_with fail
    refine (cdate_no _ _ HMM.out).mono ?_
    rintro e w2 ⟨rfl, hb2⟩
    have B2 : Hid (Below w.heap.size w w2) := (B1.out.alloc hz _).trans (hb2.mono (by simp; omega))
    have hz2 : w.heap.size ≤ w2.heap.size := by have := hb2.size; simp at this; omega
    clear hb2
    go_wp2_with fail
    go_ret2
    exact ⟨⟨false, 4, rfl, K.out⟩, B2.out.alloc hz2 _⟩
  obtain ⟨i, rfl⟩ : ∃ i : Nat, n = (i : Int) + 1 := ⟨(n - 1).toNat, by omega⟩
  have hi : i < tn s := by omega
  have m1 : 0 ≤ m := by omega
  have m2 : m ≤ 4223371679 := by omega
  clear hm
  go_wp2_with fail
  refine (cdate_yes _ _ (HM1.out _) m1 m2).mono ?_
  rintro e w2 ⟨⟨y, mo, d, HD, rfl⟩, hb2⟩
  have K : Hid (DueR s ((i : Int) + 1) m (dueB (tl s i) mo d (m % 1440 / 60) (m % 60) ((m / 1440 + 4) % 7)) 0) := DueR.ok HC.out i rfl hi m1 m2 y mo d HD
  have B2 : Hid (Below w.heap.size w w2) := (B1.out.alloc hz _).trans (hb2.mono (by simp; omega))
  have hz2 : w.heap.size ≤ w2.heap.size := by have := hb2.size; simp at this; omega
  have hz12 : w1.heap.size < w2.heap.size := by have := hb2.size; simp at this; omega
  obtain ⟨bb, cc, sv, hcl, hla, hsp⟩ := HL.out i hi
  obtain ⟨ads, caps, hvs⟩ : ∃ ad cap, sv = .slice ad (stps (tl s i)).length cap := by
    obtain ⟨ad, cap, e, _⟩ := TRow.form hsp; exact ⟨ad, cap, e⟩
  subst hvs
  have hB12 : Below w1.heap.size w1 w2 := (below_alloc w1 _).trans (hb2.mono (by simp))
  have Z0 : (w2.alloc (.cells #[.int .i64 y, .int .i64 mo, .int .i64 d, .int .i64 (m % 1440 / 60), .int .i64 (m % 60), .int .i64 ((m / 1440 + 4) % 7)] 23)).cell? ⟨w1.heap.size, 0, none⟩ = some (.slice (some ⟨g, 0, none⟩) (tn s) c) := cell_later (below_alloc _ _) (cell_later hb2 (by simp [go_sem]))
  have L0 : (w2.alloc (.cells #[.int .i64 y, .int .i64 mo, .int .i64 d, .int .i64 (m % 1440 / 60), .int .i64 (m % 60), .int .i64 ((m / 1440 + 4) % 7)] 23)).cell? ⟨g, i * 14, none⟩ = some (.bool (Txt.opn (pt (tl s i) 0))) := cell_later (below_alloc _ _) (cell_later hB12 ((hcl 0 (by decide)).trans rfl))
  have L1 : (w2.alloc (.cells #[.int .i64 y, .int .i64 mo, .int .i64 d, .int .i64 (m % 1440 / 60), .int .i64 (m % 60), .int .i64 ((m / 1440 + 4) % 7)] 23)).cell? ⟨g, i * 14 + 1, none⟩ = some (.slice (some ⟨bb 0, 0, none⟩) (Txt.pcs 44 (pt (tl s i) 0)).length (cc 0)) := cell_later (below_alloc _ _) (cell_later hB12 ((hcl 1 (by decide)).trans rfl))
  have L2 : (w2.alloc (.cells #[.int .i64 y, .int .i64 mo, .int .i64 d, .int .i64 (m % 1440 / 60), .int .i64 (m % 60), .int .i64 ((m / 1440 + 4) % 7)] 23)).cell? ⟨g, i * 14 + 2, none⟩ = some (.bool (Txt.opn (pt (tl s i) 1))) := cell_later (below_alloc _ _) (cell_later hB12 ((hcl 2 (by decide)).trans rfl))
  have L3 : (w2.alloc (.cells #[.int .i64 y, .int .i64 mo, .int .i64 d, .int .i64 (m % 1440 / 60), .int .i64 (m % 60), .int .i64 ((m / 1440 + 4) % 7)] 23)).cell? ⟨g, i * 14 + 3, none⟩ = some (.slice (some ⟨bb 1, 0, none⟩) (Txt.pcs 44 (pt (tl s i) 1)).length (cc 1)) := cell_later (below_alloc _ _) (cell_later hB12 ((hcl 3 (by decide)).trans rfl))
  have L4 : (w2.alloc (.cells #[.int .i64 y, .int .i64 mo, .int .i64 d, .int .i64 (m % 1440 / 60), .int .i64 (m % 60), .int .i64 ((m / 1440 + 4) % 7)] 23)).cell? ⟨g, i * 14 + 4, none⟩ = some (.bool (Txt.opn (pt (tl s i) 2))) := cell_later (below_alloc _ _) (cell_later hB12 ((hcl 4 (by decide)).trans rfl))
  have L5 : (w2.alloc (.cells #[.int .i64 y, .int .i64 mo, .int .i64 d, .int .i64 (m % 1440 / 60), .int .i64 (m % 60), .int .i64 ((m / 1440 + 4) % 7)] 23)).cell? ⟨g, i * 14 + 5, none⟩ = some (.slice (some ⟨bb 2, 0, none⟩) (Txt.pcs 44 (pt (tl s i) 2)).length (cc 2)) := cell_later (below_alloc _ _) (cell_later hB12 ((hcl 5 (by decide)).trans rfl))
  have L6 : (w2.alloc (.cells #[.int .i64 y, .int .i64 mo, .int .i64 d, .int .i64 (m % 1440 / 60), .int .i64 (m % 60), .int .i64 ((m / 1440 + 4) % 7)] 23)).cell? ⟨g, i * 14 + 6, none⟩ = some (.bool (Txt.opn (pt (tl s i) 3))) := cell_later (below_alloc _ _) (cell_later hB12 ((hcl 6 (by decide)).trans rfl))
  have L7 : (w2.alloc (.cells #[.int .i64 y, .int .i64 mo, .int .i64 d, .int .i64 (m % 1440 / 60), .int .i64 (m % 60), .int .i64 ((m / 1440 + 4) % 7)] 23)).cell? ⟨g, i * 14 + 7, none⟩ = some (.slice (some ⟨bb 3, 0, none⟩) (Txt.pcs 44 (pt (tl s i) 3)).length (cc 3)) := cell_later (below_alloc _ _) (cell_later hB12 ((hcl 7 (by decide)).trans rfl))
  have L8 : (w2.alloc (.cells #[.int .i64 y, .int .i64 mo, .int .i64 d, .int .i64 (m % 1440 / 60), .int .i64 (m % 60), .int .i64 ((m / 1440 + 4) % 7)] 23)).cell? ⟨g, i * 14 + 8, none⟩ = some (.bool (Txt.opn (pt (tl s i) 4))) := cell_later (below_alloc _ _) (cell_later hB12 ((hcl 8 (by decide)).trans rfl))
  have L9 : (w2.alloc (.cells #[.int .i64 y, .int .i64 mo, .int .i64 d, .int .i64 (m % 1440 / 60), .int .i64 (m % 60), .int .i64 ((m / 1440 + 4) % 7)] 23)).cell? ⟨g, i * 14 + 9, none⟩ = some (.slice (some ⟨bb 4, 0, none⟩) (Txt.pcs 44 (pt (tl s i) 4)).length (cc 4)) := cell_later (below_alloc _ _) (cell_later hB12 ((hcl 9 (by decide)).trans rfl))
  have L10 : (w2.alloc (.cells #[.int .i64 y, .int .i64 mo, .int .i64 d, .int .i64 (m % 1440 / 60), .int .i64 (m % 60), .int .i64 ((m / 1440 + 4) % 7)] 23)).cell? ⟨g, i * 14 + 10, none⟩ = some (.bool (obt (pt (tl s i) 5) 0 == 120)) := cell_later (below_alloc _ _) (cell_later hB12 ((hcl 10 (by decide)).trans rfl))
  have L11 : (w2.alloc (.cells #[.int .i64 y, .int .i64 mo, .int .i64 d, .int .i64 (m % 1440 / 60), .int .i64 (m % 60), .int .i64 ((m / 1440 + 4) % 7)] 23)).cell? ⟨g, i * 14 + 11, none⟩ = some (.int .u8 (obt (pt (tl s i) 5) 1)) := cell_later (below_alloc _ _) (cell_later hB12 ((hcl 11 (by decide)).trans rfl))
  have L12 : (w2.alloc (.cells #[.int .i64 y, .int .i64 mo, .int .i64 d, .int .i64 (m % 1440 / 60), .int .i64 (m % 60), .int .i64 ((m / 1440 + 4) % 7)] 23)).cell? ⟨g, i * 14 + 12, none⟩ = some (.int .i64 (obt (pt (tl s i) 5) 2 - 48)) := cell_later (below_alloc _ _) (cell_later hB12 ((hcl 12 (by decide)).trans rfl))
  have L13 : (w2.alloc (.cells #[.int .i64 y, .int .i64 mo, .int .i64 d, .int .i64 (m % 1440 / 60), .int .i64 (m % 60), .int .i64 ((m / 1440 + 4) % 7)] 23)).cell? ⟨g, i * 14 + 13, none⟩ = some (.slice ads (stps (tl s i)).length caps) := cell_later (below_alloc _ _) (cell_later hB12 ((hcl 13 (by decide)).trans rfl))
  have DD := DateAt.new w2 y mo d (m % 1440 / 60) (m % 60) ((m / 1440 + 4) % 7) 23
  have HLA0 : LineAt (w2.alloc (.cells #[.int .i64 y, .int .i64 mo, .int .i64 d, .int .i64 (m % 1440 / 60), .int .i64 (m % 60), .int .i64 ((m / 1440 + 4) % 7)] 23)) (tl s i) bb cc := (hla.later hB12).later (below_alloc _ _)
  have hsz : Hid ((tl s i).size ≤ 300) := tl_sz hs3 i (by have := tn_lt s; omega)
  have B20 : Below w.heap.size w (w2.alloc (.cells #[.int .i64 y, .int .i64 mo, .int .i64 d, .int .i64 (m % 1440 / 60), .int .i64 (m % 60), .int .i64 ((m / 1440 + 4) % 7)] 23)) := B2.out.alloc hz2 _
  have hq3 : w2.heap.size < (w2.alloc (.cells #[.int .i64 y, .int .i64 mo, .int .i64 d, .int .i64 (m % 1440 / 60), .int .i64 (m % 60), .int .i64 ((m / 1440 + 4) % 7)] 23)).heap.size := by simp
  have b0 : (0 : Int) ≤ (i : Int) := by omega
  have b1 : (i : Int) < (tn s : Int) := by omega
  have wr1 : IntKind.i64.wrap ((i : Int) + 1 - 1) = (i : Int) := by rw [IntKind.wrap_i64]; omega
  have wr2 : IntKind.i64.wrap (i : Int) = (i : Int) := by rw [IntKind.wrap_i64]; omega
  have bm : 0 ≤ mo ∧ mo ≤ 60 := by have := HD.m1; have := HD.m2; omega
  have bd : 0 ≤ d ∧ d ≤ 60 := by have := HD.d1; have := HD.d2; have := Cal.dim_lo y mo; omega
  clear hcl hla hsp hb2 hB12 HL HM1 HD
  go_upto_region 7 with fail
  generalize w2.alloc (.cells #[.int .i64 y, .int .i64 mo, .int .i64 d, .int .i64 (m % 1440 / 60), .int .i64 (m % 60), .int .i64 ((m / 1440 + 4) % 7)] 23) = W3 at *
  generalize w2.heap.size = q2 at *
  generalize w1.heap.size = q1 at *
  obtain ⟨D0, D1, D2, D3, D4, D5⟩ := DD
  have hg2 : g < W3.heap.size := World.block_lt_of_cell? _ _ L0
  have hq1 : q1 < W3.heap.size := by omega
  have HLA : Hid (LineAt W3 (tl s i) bb cc) := HLA0
  have HB20 : Hid (Below w.heap.size w W3) := B20
  have hzW : w.heap.size ≤ W3.heap.size := B20.size
  clear HLA0 B20
  go_wp2_with fail
  go_region_held3 (fun w' => ∀ b o, b < W3.heap.size → w'.cell? ⟨b, o, none⟩ = W3.cell? ⟨b, o, none⟩)
    ((intro b' o' h1; first | (exact hbC.cell (p := ⟨b', o', none⟩) h1) | rfl))
    ((go_at_call 72; refine (due_any (tl s i) bb cc ads (stps (tl s i)).length caps _ _ _ _ _ _ _ hsz.out (HP.out i hi) ?hla bm.1 bm.2 bd.1 bd.2 (by omega) (by omega) (by omega) (by omega) (by omega) (by omega)).mono ?_; (case hla => exact HLA.out.later (Below.refl _ _).drew); rintro e w3 ⟨rfl, hb3⟩; have hbC : Below W3.heap.size W3 w3 := (Below.refl _ _).drew.trans hb3))
  have B3 : Hid (Below w.heap.size w w3) := HB20.out.trans (hbC.mono hzW)
  clear hb3 hbC
  go_wp2_with fail
  go_ret2
  exact ⟨⟨_, 0, rfl, K.out⟩, B3.out⟩

set_option maxHeartbeats 1000000 in
theorem bdue_any (s : ByteArray) (n m : Int) (w : World) (hs : s.size ≤ maxLen) (hT : TabLH w) (hM : Tab w) :
    Calls Tryd.prog 16 #[.string s, .int .i64 n, .int .i64 m] w fun e w' => (∃ (x : Bool) (r : Int), e = .returned (.tuple #[.bool x, .int .i64 r]) ∧ DueR s n m x r) ∧ Below w.heap.size w w' := by
  have HT : Hid (TabLH w) := hT
  have HM : Hid (Tab w) := hM
  have HS : Hid (s.size ≤ maxLen) := hs
  clear hT hM hs
  go_enter Tryd.func16, Tryd.ntmps16
  go_wp2_with fail
  refine (cdue_any _ _ _ _ HS.out HT.out HM.out).mono ?_
  rintro e w1 ⟨⟨x, r, rfl, hC⟩, hb⟩
  go_wp2_with fail
  go_ret2
  exact ⟨⟨x, r, rfl, hC⟩, hb⟩
end Go.Proofs.YtdajolpoiffimaaDoor

namespace Go.Proofs.YtdajolpoiffimaaDoor
namespace Kp
def T0 : ByteArray := ⟨#[42, 47, 53, 32, 42, 32, 42, 32, 42, 32, 42, 32, 120, 97, 50, 32, 62, 104, 105, 32, 60, 111, 107, 32, 62, 98, 121, 10]⟩
def T1 : ByteArray := ⟨#[42, 32, 42, 32, 42, 32, 42, 32, 42, 32, 111, 97, 49, 32, 62, 103, 111, 10, 42, 47, 51, 32, 42, 32, 42, 32, 42, 32, 42, 32, 120, 108, 51, 32, 60, 97, 32, 60, 98, 98, 32, 62, 99, 10]⟩
def T2 : ByteArray := ⟨#[48, 45, 53, 57, 47, 50, 32, 42, 32, 42, 32, 42, 32, 42, 32, 120, 97, 51, 32, 62, 113, 49, 32, 60, 121, 101, 115, 32, 60, 110, 111, 32, 62, 113, 50, 32, 60, 101, 110, 100, 10, 51, 48, 32, 42, 32, 42, 32, 42, 32, 42, 32, 111, 110, 49, 32, 60, 122, 10, 49, 44, 50, 44, 51, 32, 42, 32, 42, 32, 42, 32, 42, 32, 111, 108, 53, 32, 62, 109, 32, 60, 110, 10]⟩
def T3 : ByteArray := ⟨#[42, 32, 42, 32, 42, 32, 42, 32, 42, 32, 120, 110, 53, 32, 60, 120, 10]⟩
def T4 : ByteArray := ⟨#[42, 47, 55, 32, 42, 47, 50, 32, 42, 32, 42, 32, 42, 32, 111, 97, 50, 32, 60, 104, 101, 108, 108, 111, 10, 49, 53, 32, 51, 32, 49, 51, 32, 42, 32, 53, 32, 120, 97, 49, 32, 62, 104, 105, 10, 48, 32, 48, 32, 49, 32, 49, 32, 42, 32, 111, 110, 49, 32, 62, 110, 121, 32, 60, 116, 104, 120, 10, 42, 32, 42, 32, 42, 32, 42, 32, 48, 32, 120, 97, 52, 32, 60, 115, 10]⟩
def T5 : ByteArray := ⟨#[42, 32, 42, 32, 42, 32, 42, 32, 42, 32, 111, 97, 52, 32, 62, 97, 32, 60, 98, 10, 42, 32, 42, 32, 42, 32, 42, 32, 42, 32, 120, 97, 50, 32, 60, 99, 10]⟩
def tabsL : List ByteArray := [T0, T1, T2, T3, T4, T5]
theorem tabs_all {P : ByteArray → Prop} (h0 : P T0) (h1 : P T1) (h2 : P T2) (h3 : P T3) (h4 : P T4) (h5 : P T5) : ∀ t ∈ tabsL, P t := by
  intro t ht
  simp only [tabsL, List.mem_cons, List.not_mem_nil, or_false] at ht
  rcases ht with rfl | rfl | rfl | rfl | rfl | rfl
  · exact h0
  · exact h1
  · exact h2
  · exact h3
  · exact h4
  · exact h5
theorem tabs_chk : ∀ t ∈ tabsL, ChkR t 0 0 :=
  tabs_all (chkC_yes (by kernel_rfl)) (chkC_yes (by kernel_rfl)) (chkC_yes (by kernel_rfl)) (chkC_yes (by kernel_rfl)) (chkC_yes (by kernel_rfl)) (chkC_yes (by kernel_rfl))
theorem tabs_size : ∀ t ∈ tabsL, t.size ≤ 100 ∧ 17 ≤ t.size := tabs_all (by decide) (by decide) (by decide) (by decide) (by decide) (by decide)
/-- What bellmankeep's catches finds, from a place on. -/
def catsL : List UInt8 → Nat → List UInt8
  | [], _ => []
  | c :: r, sp => if r.length < 2 then [] else if c = 32 then (if sp + 1 = 5 then (r.getD 1 0) :: catsL r (sp + 1) else catsL r (sp + 1)) else catsL r (if c = 10 then 0 else sp)
/-- What bellmankeep's options finds, from a place on. -/
def optsL (n : Int) : List UInt8 → Nat → Nat → Bool × Int
  | [], _, _ => (false, 0)
  | c :: r, line, sp => if r.length < 3 then (false, 0) else if c = 32 then (if sp + 1 = 5 ∧ (line : Int) = n then (((r.getD 0 0).toNat : Int) == 120, ((r.getD 2 0).toNat : Int) - 48) else optsL n r line (sp + 1)) else optsL n r (if c = 10 then line + 1 else line) (if c = 10 then 0 else sp)
/-- The second options of the lines. -/
def catT (tab : ByteArray) : List Int := (List.range (tn tab)).map fun i => ob (tl tab i) 1
theorem tabs_cats : ∀ t ∈ tabsL, (catsL t.data.toList 0).map (fun b => (b.toNat : Int)) = catT t :=
  tabs_all (by kernel_rfl) (by kernel_rfl) (by kernel_rfl) (by kernel_rfl) (by kernel_rfl) (by kernel_rfl)
def optOk (tab : ByteArray) : Bool := (List.range (tn tab)).all fun i => optsL ((i : Int) + 1) tab.data.toList 1 0 == (ob (tl tab i) 0 == 120, ob (tl tab i) 2 - 48)
theorem tabs_opts' : ∀ t ∈ tabsL, optOk t = true := tabs_all (by kernel_rfl) (by kernel_rfl) (by kernel_rfl) (by kernel_rfl) (by kernel_rfl) (by kernel_rfl)
theorem tabs_opts {t : ByteArray} (h : t ∈ tabsL) (n : Int) (h1 : 1 ≤ n) (h2 : n ≤ tn t) : optsL n t.data.toList 1 0 = (ob (tl t (n - 1).toNat) 0 == 120, ob (tl t (n - 1).toNat) 2 - 48) := by
  have q := tabs_opts' t h
  unfold optOk at q
  rw [List.all_eq_true] at q
  have := q (n - 1).toNat (List.mem_range.2 (by omega))
  have e : (((n - 1).toNat : Nat) : Int) + 1 = n := by omega
  rw [e] at this
  exact eq_of_beq this
theorem tabs_tn : ∀ t ∈ tabsL, 1 ≤ tn t ∧ tn t ≤ 4 := tabs_all (of_decide_eq_true (by kernel_rfl)) (of_decide_eq_true (by kernel_rfl)) (of_decide_eq_true (by kernel_rfl)) (of_decide_eq_true (by kernel_rfl)) (of_decide_eq_true (by kernel_rfl)) (of_decide_eq_true (by kernel_rfl))
end Kp
end Go.Proofs.YtdajolpoiffimaaDoor

namespace Go.Proofs.YtdajolpoiffimaaDoor
namespace Bx
/-- How many slots run. -/
def rn (s : St) : Nat := (s.slots.filter (·.runs)).length
theorem rn_sub {l m : List Sl} (h : l.Sublist m) : (l.filter (·.runs)).length ≤ (m.filter (·.runs)).length := (h.filter _).length_le
theorem rn_set (l : List Sl) (i : Nat) (y : Sl) (h : y.runs = false) : ((l.set i y).filter (·.runs)).length ≤ (l.filter (·.runs)).length := by
  induction l generalizing i with
  | nil => simp
  | cons a r ih =>
    cases i with
    | zero =>
      rw [List.set_cons_zero, List.filter_cons_of_neg (by simp [h])]
      exact rn_sub (List.sublist_cons_self _ _)
    | succ i =>
      rw [List.set_cons_succ]
      cases ha : a.runs
      · rw [List.filter_cons_of_neg (by simp [ha]), List.filter_cons_of_neg (by simp [ha])]; exact ih i
      · rw [List.filter_cons_of_pos (by simp [ha]), List.filter_cons_of_pos (by simp [ha])]; have := ih i; simp; exact this
theorem rn_arr (s : St) (p : Nat × Int) : rn (arr s p) = rn s := by
  unfold arr rn; split
  · show ((s.slots ++ [slotOf p s.next]).filter (·.runs)).length = _
    rw [List.filter_append]; simp [slotOf]
  · rfl
theorem rn_arrs (l : List (Nat × Int)) (s : St) : rn (l.foldl arr s) = rn s := by
  induction l generalizing s with
  | nil => rfl
  | cons p l ih => rw [List.foldl_cons, ih, rn_arr]
theorem rn_gone (s : St) (i : Nat) (n : Int) (how : ByteArray) : rn (with' s (withoutL s.slots i) n how) ≤ rn s := by
  show ((withoutL s.slots i).filter (·.runs)).length ≤ _
  rw [Px.without_erase]; exact rn_sub (List.eraseIdx_sublist _ _)
theorem rn_do (s : St) (c : Ch) (h : ¬ c.kind = 83) : rn (doP s c).1 ≤ rn s := by
  unfold doP
  split
  · split
    · exact Nat.le_refl _
    · exact Nat.le_refl _
  · split
    · unfold clockedP
      split
      · split
        · show rn ((comesS s c.n).foldl arr s) ≤ rn s
          rw [rn_arrs]; exact Nat.le_refl _
        · exact Nat.le_refl _
      · exact Nat.le_refl _
    · unfold aboutP
      split
      · exact Nat.le_refl _
      · rename_i hn
        have hf := find_nat hn
        generalize (find s c.n).toNat = i at *
        rw [hf]
        split
        · exact rn_gone _ _ _ _
        · split
          · exact rn_gone _ _ _ _
          · split
            · show rn (failed s i) ≤ rn s
              unfold failed; split
              · exact rn_gone _ _ _ _
              · show ((putL s.slots i _).filter (·.runs)).length ≤ _
                rw [put_set]; exact rn_set _ _ _ rfl
            · exact Nat.le_refl _
theorem rn_told (L : List Ch) (s : St) (h : ∀ c ∈ L, ¬ c.kind = 83) : rn (told s L) ≤ rn s := by
  induction L generalizing s with
  | nil => exact Nat.le_refl _
  | cons c L ih =>
    show rn (told (tell s c) L) ≤ rn s
    refine Nat.le_trans (ih _ fun x hx => h x (by simp [hx])) ?_
    unfold tell; split
    · exact rn_do s c (h c (by simp))
    · exact Nat.le_refl _
end Bx
namespace Px
theorem runs_rn (s : St) : runs s = Bx.rn (abs s) := by
  unfold runs Bx.rn abs
  rw [List.filter_map, List.length_map]
  rfl
/-- What is known of a box. -/
structure KI (b : Bo) (limit room : Int) (tab : ByteArray) (clock given : Int) : Prop where
  rel : ∃ d, Rel b d
  may : Bx.MayS (abs b.st)
  right : Bx.Right b.log (abs b.st)
  lim : b.limit = limit
  room : b.room = room
  tab : b.st.tab = tab
  clk : b.st.clock = clock
  nxt : b.st.next = 1 + given
  run : ((runs b.st : Nat) : Int) ≤ limit
theorem KI.ok {b : Bo} {l r : Int} {t : ByteArray} {c g : Int} (h : KI b l r t c g) : Ok b.st := by obtain ⟨d, hd⟩ := h.rel; exact hd.ok
theorem KI.log {b : Bo} {l r : Int} {t : ByteArray} {c g : Int} (h : KI b l r t c g) : (b.log.size : Int) ≤ r ∧ 1 ≤ l ∧ l ≤ 4 ∧ 600 ≤ r ∧ r ≤ 4000 := by
  obtain ⟨d, hd⟩ := h.rel
  have h1 := hd.log
  have h2 := h.lim
  have h3 := h.room
  have a1 := hd.l1; have a2 := hd.l4; have a3 := hd.r0; have a4 := hd.r1
  omega
/-- A box that has gone on by changes. -/
theorem KI.adv {b b' : Bo} {l r : Int} {t : ByteArray} {c g : Int} (h : KI b l r t c g) {L : List Bx.Ch} (ha : Adv b b' L) (hr : ∃ d, Rel b' d) {t' : ByteArray} (ht : b'.st.tab = t') {c' g' : Int} (hc : b'.st.clock = c') (hg : b'.st.next = 1 + g') (hn : ((runs b'.st : Nat) : Int) ≤ l) : KI b' l r t' c' g' :=
  ⟨hr, by rw [ha.st]; exact h.may.told L, by rw [ha.log, ha.st]; exact h.right.add ha.may, by rw [ha.lr.1]; exact h.lim, by rw [ha.lr.2]; exact h.room, ht, hc, hg, hn⟩
theorem about_keep {s u : Bx.St} {k n : Int} {v : Bool} (h : Bx.aboutP s k n = (u, v)) : u.tab = s.tab ∧ u.clock = s.clock ∧ u.next = s.next := by
  have e : u = (Bx.aboutP s k n).1 := by rw [h]
  rw [e]
  unfold Bx.aboutP Bx.failed Bx.with'
  repeat' split
  all_goals exact ⟨rfl, rfl, rfl⟩
theorem tell_keep (s : Bx.St) {k n : Int} {t : ByteArray} (h1 : ¬ k = 84) (h2 : ¬ k = 67) : (Bx.tell s ⟨k, t, n⟩).tab = s.tab ∧ (Bx.tell s ⟨k, t, n⟩).clock = s.clock ∧ (Bx.tell s ⟨k, t, n⟩).next = s.next := by
  unfold Bx.tell
  rw [do_about _ _ _ _ h1 h2]
  split
  · exact about_keep (v := (Bx.aboutP s k n).2) rfl
  · exact ⟨rfl, rfl, rfl⟩
/-- Changes that are about slots alone. -/
def About (L : List Bx.Ch) : Prop := ∀ c ∈ L, ¬ c.kind = 84 ∧ ¬ c.kind = 67
theorem told_keep (L : List Bx.Ch) (s : Bx.St) (h : About L) : (Bx.told s L).tab = s.tab ∧ (Bx.told s L).clock = s.clock ∧ (Bx.told s L).next = s.next := by
  induction L generalizing s with
  | nil => exact ⟨rfl, rfl, rfl⟩
  | cons c L ih =>
    obtain ⟨k, t, n⟩ := c
    have hc := h ⟨k, t, n⟩ (by simp)
    obtain ⟨a1, a2, a3⟩ := ih (Bx.tell s ⟨k, t, n⟩) fun x hx => h x (by simp [hx])
    obtain ⟨b1, b2, b3⟩ := tell_keep s (t := t) (n := n) hc.1 hc.2
    exact ⟨a1.trans b1, a2.trans b2, a3.trans b3⟩
theorem KI.about {b b' : Bo} {l r : Int} {t : ByteArray} {c g : Int} (h : KI b l r t c g) {L : List Bx.Ch} (ha : Adv b b' L) (hr : ∃ d, Rel b' d) (hL : About L) (hn : ((runs b'.st : Nat) : Int) ≤ l) : KI b' l r t c g := by
  obtain ⟨k1, k2, k3⟩ := told_keep L (abs b.st) hL
  rw [← ha.st] at k1 k2 k3
  exact h.adv ha hr (Eq.trans k1 h.tab) (Eq.trans k2 h.clk) (Eq.trans k3 h.nxt) hn
theorem KI.less {b b' : Bo} {l r : Int} {t : ByteArray} {c g : Int} (h : KI b l r t c g) {L : List Bx.Ch} (ha : Adv b b' L) (hL : ∀ x ∈ L, ¬ x.kind = 83) : ((runs b'.st : Nat) : Int) ≤ l := by
  have h1 := h.run
  rw [runs_rn] at h1 ⊢
  have := Bx.rn_told L (abs b.st) hL
  rw [← ha.st] at this
  omega
/-- Cancel. -/
theorem KI.cancel {b : Bo} {l r : Int} {t : ByteArray} {c g : Int} (h : KI b l r t c g) (n : Int) : KI (cancelB b n).1 l r t c g := by
  obtain ⟨d, hd⟩ := h.rel
  have hr := (cancel_rel hd n).2
  rcases cancel_adv h.ok n with ⟨_, e⟩ | ⟨_, ha⟩
  · rw [e]; exact h
  · have hk : ∀ x ∈ [chK n], x.kind = 75 := fun x hx => by simp at hx; subst hx; rfl
    exact h.about ha ⟨_, hr⟩ (fun x hx => by rw [hk x hx]; decide) (h.less ha fun x hx => by rw [hk x hx]; decide)
theorem KI.feed {b : Bo} {l r : Int} {t : ByteArray} {c g : Int} (h : KI b l r t c g) (n : Int) (x : ByteArray) : KI (feedB b n x).1 l r t c g := by
  obtain ⟨d, hd⟩ := h.rel
  have hr := (feed_rel hd n x).2
  rcases feed_adv h.ok n x with ⟨_, e, _⟩ | ⟨_, ha | ha⟩
  · rw [e]; exact h
  · exact h.about ha ⟨_, hr⟩ (fun x hx => by simp at hx) (h.less ha fun x hx => by simp at hx)
  · have hk : ∀ x ∈ [chD n], x.kind = 68 := fun x hx => by simp at hx; subst hx; rfl
    exact h.about ha ⟨_, hr⟩ (fun x hx => by rw [hk x hx]; decide) (h.less ha fun x hx => by rw [hk x hx]; decide)
/-- Start. -/
theorem start_told {s : St} (h : Ok s) (n : Int) (h0 : (startP s n).2 = 0) : Bx.told (abs s) [chS n] = abs (startP s n).1 := by
  rcases start_abs h.dist n with ⟨q, _⟩ | ⟨i, hi, _, hn, q⟩
  · omega
  · rcases q with ⟨q, _⟩ | ⟨q, _⟩ | ⟨q, _⟩ | ⟨_, _, _, _, _, q⟩
    · omega
    · omega
    · omega
    · exact (told_one _ _).trans (tell_about (by decide) (by decide) q)
theorem startP_ok {s : St} (h : Ok s) (n : Int) (h0 : (startP s n).2 = 0) : Ok (startP s n).1 := by
  rcases start_abs h.dist n with ⟨e8, hf⟩ | ⟨i, hi, hF, hn, hc⟩
  · omega
  rcases hc with ⟨e, q⟩ | ⟨e, q1, q2⟩ | ⟨e, q1, q2, q3⟩ | ⟨e, q1, q2, q3, q4, q5⟩
  · omega
  · omega
  · omega
  have hy : s.slots[i] ∈ s.slots := List.getElem_mem hi
  have hst : Bx.StOk (abs (startP s n).1) := by
    have := Bx.about_ok h.st 83 n
    rw [q5] at this; exact this
  have hh0 := h.ex _ hy
  have hyh : s.slots[i].heard = ByteArray.empty := hh0.2.2.2.2.2 (by omega)
  obtain ⟨s1, s5, sz⟩ := steps_size h hy
  rw [q4] at hst ⊢
  exact h.repl _ hst ⟨h.st.c1, h.st.c2, by show (0 : Int) ≤ 1; omega, by show (1 : Int) ≤ ((stepsL s s.slots[i]).length : Int); omega, by show s.slots[i].heard.size ≤ 8; omega, fun q => by simp [beg] at q⟩
theorem KI.start {b : Bo} {l r : Int} {t : ByteArray} {c g : Int} (h : KI b l r t c g) (n : Int) : KI (startB b n).1 l r t c g := by
  obtain ⟨d, hd⟩ := h.rel
  have hr := (start_rel hd n).2
  have hs0 : (startB b n).2.2 = 0 → (startP b.st n).2 = 0 := by
    intro q
    by_cases h0 : (startP b.st n).2 = 0
    · exact h0
    · unfold startB at q; rw [if_pos h0] at q; exact absurd q h0
  rcases start_adv h.ok n (startP_ok h.ok n) with ⟨_, e, _⟩ | ⟨h0, hlim, ha⟩
  · rw [e]; exact h
  have ht := start_told h.ok n (hs0 h0)
  rw [h.lim, runs_rn, ← ht] at hlim
  rcases ha with ha | ha
  · have hk : ∀ x ∈ [chS n], x.kind = 83 := fun x hx => by simp at hx; subst hx; rfl
    exact h.about ha ⟨_, hr⟩ (fun x hx => by rw [hk x hx]; decide) (by rw [runs_rn, ha.st]; exact hlim)
  · have hk : About [chS n, chD n] := fun x hx => by
      simp at hx
      rcases hx with rfl | rfl
      · exact ⟨by show ¬ (83 : Int) = 84; decide, by show ¬ (83 : Int) = 67; decide⟩
      · exact ⟨by show ¬ (68 : Int) = 84; decide, by show ¬ (68 : Int) = 67; decide⟩
    refine h.about ha ⟨_, hr⟩ hk ?_
    rw [runs_rn, ha.st]
    have h1 := Bx.rn_told [chD n] (Bx.told (abs b.st) [chS n]) (fun x hx => by simp at hx; subst hx; show ¬ (68 : Int) = 83; decide)
    have e : Bx.told (Bx.told (abs b.st) [chS n]) [chD n] = Bx.told (abs b.st) [chS n, chD n] := rfl
    rw [e] at h1
    omega
/-- Tick. -/
theorem KI.tick {b : Bo} {l r : Int} {t : ByteArray} {c g : Int} (h : KI b l r t c g) (m : Int) (h0 : (tickB b m).2.2 = 0) :
    (tickB b m).2.1 = ((comesP b.st m).length : Int) ∧ KI (tickB b m).1 l r t m (g + ((comesP b.st m).length : Int)) := by
  obtain ⟨d, hd⟩ := h.rel
  have hr := (tick_rel hd m).2
  rcases tick_adv h.ok m with ⟨q, _⟩ | ⟨_, hc0, ha⟩
  · exact absurd h0 q
  obtain ⟨m0, m1, _, _, hst⟩ := clock_st hc0
  obtain ⟨z, _, _, _, h4, h5, _⟩ := arrs_slots (comesP b.st m) b.st
  have hcl := clock_abs b.st m hc0
  have hd1 : Bx.doP (abs b.st) (chCl m) = (abs (clockP b.st m).1, true) := by
    unfold Bx.doP
    rw [if_neg (show ¬ (chCl m).kind = 84 by show ¬ (67 : Int) = 84; omega), if_pos (show (chCl m).kind = 67 from rfl)]
    exact hcl
  have hk : ∀ x ∈ (late (clockP b.st m).1).map chF, x.kind = 70 := fun x hx => by
    obtain ⟨y, _, rfl⟩ := List.mem_map.1 hx; rfl
  have e := ha.st
  rw [Bx.told_cons (by rw [hd1]), hd1] at e
  obtain ⟨k1, k2, k3⟩ := told_keep ((late (clockP b.st m).1).map chF) (abs (clockP b.st m).1) (fun x hx => by rw [hk x hx]; decide)
  have e' : abs (tickB b m).1.st = Bx.told (abs (clockP b.st m).1) ((late (clockP b.st m).1).map chF) := e
  rw [← e'] at k1 k2 k3
  have j1 : (clockP b.st m).1.tab = b.st.tab := by rw [hst]; exact h5
  have j2 : (clockP b.st m).1.clock = m := by rw [hst]
  have j3 : (clockP b.st m).1.next = b.st.next + ((comesP b.st m).length : Int) := by rw [hst]; exact h4
  refine ⟨?_, ?_⟩
  · unfold tickB at h0 ⊢
    rw [if_neg (by simpa using hc0)] at h0 ⊢
    by_cases hrm : b.room < (b.log.size : Int) + (tickQ b m).2.size
    · rw [if_pos hrm] at h0; simp at h0
    · rw [if_neg hrm]; show (clockP b.st m).1.next - b.st.next = _; omega
  · refine h.adv ha ⟨_, hr⟩ ?_ ?_ ?_ ?_
    · exact (Eq.trans k1 j1).trans h.tab
    · exact Eq.trans k2 j2
    · have : (tickB b m).1.st.next = (clockP b.st m).1.next := k3
      rw [this, j3, h.nxt]; omega
    · refine h.less ha fun x hx => ?_
      rcases List.mem_cons.1 hx with q | q
      · subst q; show ¬ (67 : Int) = 83; decide
      · rw [hk x q]; decide
end Px
end Go.Proofs.YtdajolpoiffimaaDoor

namespace Go.Proofs.YtdajolpoiffimaaDoor
namespace Bx
theorem fC (m : Int) : (frame (body (chCl m))).size = 12 := by
  rw [frame_size]
  have : body (chCl m) = b1 67 ++ be m 5 := rfl
  rw [this, ByteArray.size_append, b1_size, be_size]
theorem fN (k n : Int) (t : ByteArray) (h1 : ¬ k = 84) (h2 : ¬ k = 67) : (frame (body ⟨k, t, n⟩)).size = 9 := by
  rw [frame_size]
  have : body ⟨k, t, n⟩ = b1 k ++ be n 2 := by unfold body; rw [if_neg h1, if_neg h2]
  rw [this, ByteArray.size_append, b1_size, be_size]
theorem frames_F (ns : List Int) : (frames (ns.map chF)).size = 9 * ns.length := by
  induction ns with
  | nil => rfl
  | cons n r ih =>
    rw [List.map_cons, frames_cons, ByteArray.size_append, ih, List.length_cons]
    have : (frame (body (chF n))).size = 9 := fN 70 n _ (by decide) (by decide)
    omega
/-- The state, interrupted. -/
def intS (s : St) : St := { s with slots := s.slots.map fun x => { x with runs := false } }
theorem MayS.int {s : St} (h : MayS s) : MayS (intS s) := by
  refine ⟨h.tab, h.c1, h.c2, h.n1, h.n2, by simpa [intS] using h.sl, h.en, ?_, ?_, h.dif, ?_, ?_⟩
  · show (s.slots.map _).Pairwise _
    rw [List.pairwise_map]; exact h.rise
  · show (s.slots.map _).Pairwise _
    rw [List.pairwise_map]
    exact h.lock.imp fun _ _ _ q => by cases q
  · intro x hx
    obtain ⟨y, hy, rfl⟩ := List.mem_map.1 hx
    have q := h.es y hy
    exact ⟨q.n, q.l, q.m0, q.m, q.a, q.f1, q.f2, fun e => by cases e⟩
  · intro x hx
    have q := h.ee x hx
    refine ⟨q.n, q.h, fun z hz => ?_⟩
    obtain ⟨y, hy, rfl⟩ := List.mem_map.1 hz
    exact q.o y hy
theorem int_int (s : St) : intS (intS s) = intS s := by
  unfold intS; simp only [List.map_map]; rfl
theorem rn_int (s : St) : rn (intS s) = 0 := by
  unfold rn intS
  rw [List.length_eq_zero_iff, List.filter_eq_nil_iff]
  intro x hx
  obtain ⟨y, _, rfl⟩ := List.mem_map.1 hx
  simp
end Bx
namespace Px
theorem late_le (s : St) : (late s).length ≤ runs s := by
  unfold late runs
  rw [List.length_map]
  have : (s.slots.filter fun x => decide (0 < x.step) && decide (x.ans ≤ s.clock - 3)) = (s.slots.filter fun x => decide (0 < x.step)).filter fun x => decide (x.ans ≤ s.clock - 3) := by
    rw [List.filter_filter]; congr 1; funext x; exact Bool.and_comm _ _
  rw [this]; exact List.length_filter_le _ _
theorem tickQ_size {b : Bo} (h : Ok b.st) {m : Int} (h0 : (clockP b.st m).2 = 0) : (tickQ b m).2.size = 12 + 9 * (late (clockP b.st m).1).length := by
  obtain ⟨hk, hall, hpw⟩ := tick_late h h0
  obtain ⟨_, f2, _⟩ := fails_rel (late (clockP b.st m).1) (clockP b.st m).1 (Bx.frame (Bx.body (chCl m))) hk hall hpw
  have hfr : (tickQ b m).2 = Bx.frames (chCl m :: (late (clockP b.st m).1).map chF) := by rw [frames_fold]; exact f2
  rw [hfr, Bx.frames_cons, ByteArray.size_append, Bx.fC, Bx.frames_F]
theorem tick_codes (b : Bo) (m : Int) (m0 : 0 ≤ m) (m1 : m ≤ 4223371679) (ha : aheadP b.st m = true) : (tickB b m).2.2 = 0 ∨ ((tickB b m).1 = b ∧ (tickB b m).2.1 = 0 ∧ (((tickB b m).2.2 = 7 ∧ 10000 < b.st.next + ((comesP b.st m).length : Int)) ∨ ((tickB b m).2.2 = 13 ∧ (clockP b.st m).2 = 0 ∧ b.room < (b.log.size : Int) + (tickQ b m).2.size))) := by
  have e := clock_err b.st m
  rw [if_neg (by omega), ha, if_neg (by simp)] at e
  by_cases h7 : 10000 < b.st.next + ((comesP b.st m).length : Int)
  · rw [if_pos h7] at e
    right
    unfold tickB; rw [e, if_pos (by simp)]
    exact ⟨rfl, rfl, Or.inl ⟨rfl, h7⟩⟩
  · rw [if_neg h7] at e
    unfold tickB; rw [if_neg (by simpa using e)]
    by_cases hr : b.room < (b.log.size : Int) + (tickQ b m).2.size
    · right; rw [if_pos hr]; exact ⟨rfl, rfl, Or.inr ⟨rfl, e, hr⟩⟩
    · left; rw [if_neg hr]
theorem runs_clock {s : St} {m : Int} (h0 : (clockP s m).2 = 0) : runs (clockP s m).1 = runs s := by
  obtain ⟨_, _, _, _, hst⟩ := clock_st h0
  obtain ⟨z, h1, h2, _⟩ := arrs_slots (comesP s m) s
  rw [hst]
  unfold runs
  show (((comesP s m).foldl arr s).slots.filter _).length = _
  rw [h1, List.filter_append]
  have : z.filter (fun x => decide (0 < x.step)) = [] := List.filter_eq_nil_iff.2 fun x hx => by have := (h2 x hx).1; simp; omega
  rw [this]; simp
theorem KI.room13 {b : Bo} {l r : Int} {t : ByteArray} {c g : Int} (h : KI b l r t c g) {m : Int} (h0 : (clockP b.st m).2 = 0) (hr : b.room < (b.log.size : Int) + (tickQ b m).2.size) : r < (b.log.size : Int) + (12 + 9 * l) := by
  rw [tickQ_size h.ok h0] at hr
  have h1 := late_le (clockP b.st m).1
  rw [runs_clock h0] at h1
  have h2 := h.run
  have h3 := h.room
  omega
theorem lns_len (t : ByteArray) : (Bx.lns t).length = tn t := by unfold Bx.lns; rw [List.length_map, Bx.linesOf_len]
theorem KI.ids7 {b : Bo} {l r : Int} {t : ByteArray} {c g : Int} (h : KI b l r t c g) {m : Int} (hc : 0 ≤ c) (hm : c < m) (h7 : 10000 < b.st.next + ((comesP b.st m).length : Int)) : 9999 < g + 4 * (m - c) := by
  have h1 := Bx.comes_len (Bx.lns b.st.tab) (newA b.st m) m
  have h2 := lns_len b.st.tab
  have h3 := tn_le h.may.tab
  have h4 := h.nxt
  have h5 : newA b.st m = c + 1 := by unfold newA; rw [h.clk, if_neg (by omega)]
  have h6 : (abs b.st).tab = b.st.tab := rfl
  rw [h6] at h3
  rw [h2, h5] at h1
  have h7' : ((comesP b.st m).length : Int) ≤ 4 * (m - c) := by
    have e : (comesP b.st m).length = (Bx.comes (Bx.lns b.st.tab) (c + 1) m).length := by unfold comesP; rw [h5]
    rw [e]
    have : (m + 1 - (c + 1)).toNat * tn b.st.tab ≤ (m + 1 - (c + 1)).toNat * 4 := Nat.mul_le_mul_left _ h3
    omega
  omega
theorem KI.many {b : Bo} {l r : Int} {t : ByteArray} {c g : Int} (h : KI b l r t c g) {m : Int} (hc : 0 ≤ c) (hm : c < m) : ((comesP b.st m).length : Int) ≤ 4 * (m - c) := by
  have h1 := Bx.comes_len (Bx.lns b.st.tab) (newA b.st m) m
  have h2 := lns_len b.st.tab
  have h3 := tn_le h.may.tab
  have h5 : newA b.st m = c + 1 := by unfold newA; rw [h.clk, if_neg (by omega)]
  have h6 : (abs b.st).tab = b.st.tab := rfl
  rw [h6] at h3
  rw [h2, h5] at h1
  have e : (comesP b.st m).length = (Bx.comes (Bx.lns b.st.tab) (c + 1) m).length := by unfold comesP; rw [h5]
  rw [e]
  have : (m + 1 - (c + 1)).toNat * tn b.st.tab ≤ (m + 1 - (c + 1)).toNat * 4 := Nat.mul_le_mul_left _ h3
  omega
theorem KI.ahead {b : Bo} {l r : Int} {t : ByteArray} {c g : Int} (h : KI b l r t c g) {m : Int} (hm : c < m) (h2 : m ≤ c + 1500) : aheadP b.st m = true := decide_eq_true (by rw [h.clk]; omega)
theorem doneP_codes (s : St) (n : Int) : (doneP s n).2 = 0 ∨ (doneP s n).2 = 8 ∨ (doneP s n).2 = 9 := by
  unfold doneP
  cases find s.slots n with
  | none => right; left; rfl
  | some x => simp only; split
              · right; right; rfl
              · left; rfl
theorem talk_codes (b : Bo) (s : St) (n : Int) (x fr : ByteArray) : (talkB b s n x fr).2.2 = 0 ∨ (talkB b s n x fr).2.2 = 8 ∨ (talkB b s n x fr).2.2 = 9 ∨ ((talkB b s n x fr).2.2 = 13 ∧ b.room < (b.log.size : Int) + fr.size + 9) := by
  have h9 : (Bx.frame (Bx.body (chD n))).size = 9 := Bx.fN 68 n _ (by decide) (by decide)
  unfold talkB
  cases find s.slots n with
  | none => right; left; rfl
  | some y =>
    simp only
    split
    · right; right; left; rfl
    · split
      · split
        · rcases doneP_codes (talkT s y x) n with q | q | q
          · rename_i hq; exact absurd q hq
          · right; left; exact q
          · right; right; left; exact q
        · unfold commitB; split
          · right; right; right
            rename_i hr
            rw [ByteArray.size_append, h9] at hr
            exact ⟨rfl, by omega⟩
          · left; rfl
      · unfold commitB; split
        · right; right; right
          rename_i hr
          exact ⟨rfl, by omega⟩
        · left; rfl
theorem startP_codes (s : St) (n : Int) : (startP s n).2 = 0 ∨ (startP s n).2 = 8 ∨ (startP s n).2 = 9 ∨ (startP s n).2 = 10 ∨ (startP s n).2 = 11 := by
  unfold startP
  cases find s.slots n with
  | none => right; left; rfl
  | some x => simp only; repeat' split
              all_goals simp
theorem start_codes (b : Bo) (n : Int) : (startB b n).2.2 = 0 ∨ (8 ≤ (startB b n).2.2 ∧ (startB b n).2.2 ≤ 12) ∨ ((startB b n).2.2 = 13 ∧ b.room < (b.log.size : Int) + 18) := by
  have h9 : (Bx.frame (Bx.body (chS n))).size = 9 := Bx.fN 83 n _ (by decide) (by decide)
  unfold startB
  split
  · rename_i h0
    rcases startP_codes b.st n with q | q | q | q | q
    · exact absurd q h0
    all_goals (right; left; show 8 ≤ (startP b.st n).2 ∧ (startP b.st n).2 ≤ 12; omega)
  · split
    · right; left; show (8 : Int) ≤ 12 ∧ (12 : Int) ≤ 12; omega
    · rcases talk_codes b (startP b.st n).1 n ByteArray.empty (Bx.frame (Bx.body (chS n))) with q | q | q | ⟨q, q2⟩
      · left; exact q
      · right; left; omega
      · right; left; omega
      · right; right; exact ⟨q, by omega⟩
theorem feed_codes (b : Bo) (n : Int) (x : ByteArray) (hx : x.size ≤ 40) : (feedB b n x).2.2 = 0 ∨ (feedB b n x).2.2 = 8 ∨ (feedB b n x).2.2 = 9 ∨ ((feedB b n x).2.2 = 13 ∧ b.room < (b.log.size : Int) + 9) := by
  unfold feedB
  rw [if_neg (by omega)]
  rcases talk_codes b b.st n x ByteArray.empty with q | q | q | ⟨q, q2⟩
  · exact Or.inl q
  · exact Or.inr (Or.inl q)
  · exact Or.inr (Or.inr (Or.inl q))
  · exact Or.inr (Or.inr (Or.inr ⟨q, by simpa using q2⟩))
theorem cancel_codes (b : Bo) (n : Int) : (cancelB b n).2 = 0 ∨ (cancelB b n).2 = 8 ∨ ((cancelB b n).2 = 13 ∧ b.room < (b.log.size : Int) + 9) := by
  have h9 : (Bx.frames [chK n]).size = 9 := by rw [frames_one]; exact Bx.fN 75 n _ (by decide) (by decide)
  unfold cancelB
  split
  · right; left
    rename_i h0
    unfold cancelP at h0 ⊢
    cases hF : find b.st.slots n with
    | none => rfl
    | some x => rw [hF] at h0; exact absurd rfl h0
  · split
    · right; right; rename_i hr; exact ⟨rfl, by omega⟩
    · left; rfl
/-- A new box; a crontab; the first minute. -/
theorem KI.new {l r : Int} (h : mayB l r = true) : KI ⟨l, r, first, ByteArray.empty⟩ l r ByteArray.empty (-1) 0 := by
  obtain ⟨h1, h2, h3, h4⟩ := of_decide_eq_true h
  exact ⟨⟨_, Rel.new h⟩, Bx.first_may, Bx.Right.nil, rfl, rfl, rfl, rfl, rfl, by show (0 : Int) ≤ l; omega⟩
theorem KI.load {b b' : Bo} {l r : Int} {t tab : ByteArray} {c g a e : Int} (h : KI b l r t c g) (hL : LoadB b tab b' a e) (hc : ChkR tab 0 0) (hs : b.st.slots = []) (hr : (b.log.size : Int) + tab.size + 12 ≤ r) :
    a = 0 ∧ e = 0 ∧ KI b' l r tab c g ∧ b'.st.slots = [] ∧ b'.log.size ≤ b.log.size + tab.size + 12 := by
  have hro := h.room
  have hz : (Bx.frames [chT tab]).size ≤ tab.size + 12 := by rw [frames_one]; exact fsz _
  obtain ⟨h1, h2, h3⟩ := load_yes hL hc hs (by omega)
  obtain ⟨d, hd⟩ := h.rel
  have hR : LoadR d tab (addB d [chT tab]) 0 0 := Or.inr (Or.inr (Or.inr ⟨hc, by rw [hd.now]; simp [abs, hs], by unfold fits; rw [hd.room, hd.txt]; omega, rfl, rfl, rfl⟩))
  have hrel := (load_rel hd hL hR).2.2
  rcases load_adv hL with ⟨q, _⟩ | ⟨_, _, _, _, ha⟩
  · exact absurd h2 q
  refine ⟨h1, h2, h.adv ha ⟨_, hrel⟩ (t' := tab) (by rw [h3]) (by rw [h3]; exact h.clk) (by rw [h3]; exact h.nxt) (h.less ha fun x hx => by simp at hx; subst hx; show ¬ (84 : Int) = 83; decide), by rw [h3]; exact hs, ?_⟩
  rw [h3]; show (b.log ++ _).size ≤ _
  rw [ByteArray.size_append]; omega
theorem KI.first {b : Bo} {l r : Int} {t : ByteArray} (h : KI b l r t (-1) 0) (hs : b.log.size ≤ 400) {m : Int} (m0 : 0 ≤ m) (m1 : m ≤ 4223371679) :
    (tickB b m).2.2 = 0 ∧ (tickB b m).2.1 = ((comesP b.st m).length : Int) ∧ (comesP b.st m).length ≤ 4 ∧ KI (tickB b m).1 l r t m ((comesP b.st m).length : Int) := by
  have h1 := Bx.comes_len (Bx.lns b.st.tab) (newA b.st m) m
  have h2 := lns_len b.st.tab
  have h3 : tn b.st.tab ≤ 4 := tn_le h.may.tab
  have h4 := h.nxt
  have hcl := h.clk
  have h5 : newA b.st m = m := by unfold newA; rw [hcl, if_pos rfl]
  have h6 : (comesP b.st m).length ≤ 4 := by
    have e : (comesP b.st m).length = (Bx.comes (Bx.lns b.st.tab) m m).length := by unfold comesP; rw [h5]
    rw [h5, h2, show (m + 1 - m).toNat = 1 by omega] at h1
    omega
  have hlg := h.log
  have h0 : (tickB b m).2.2 = 0 := by
    rcases tick_codes b m m0 m1 (decide_eq_true (by rw [hcl]; omega)) with q | ⟨_, _, q | ⟨_, q1, q2⟩⟩
    · exact q
    · omega
    · have := h.room13 q1 q2; omega
  obtain ⟨k1, k2⟩ := h.tick m h0
  refine ⟨h0, k1, h6, ?_⟩
  rw [show (0 : Int) + ((comesP b.st m).length : Int) = ((comesP b.st m).length : Int) by omega] at k2
  exact k2
/-- The log is another one, which says the same. -/
def compB (b : Bo) : Bo := { b with log := Bx.frame (Bx.wholeS (abs b.st)) }
theorem whole_le {s : Bx.St} (h : Bx.MayS s) : (Bx.frame (Bx.wholeS s)).size ≤ 456 := by rw [Bx.frame_size]; have := Bx.wholeS_size h; omega
theorem whole_ge (s : Bx.St) : 18 ≤ (Bx.frame (Bx.wholeS s)).size := by
  rw [Bx.frame_size]
  unfold Bx.wholeS Bx.encSt
  simp only [ByteArray.size_append, Bx.be_size, Bx.b1_size]
  omega
theorem KI.comp {b : Bo} {l r : Int} {t : ByteArray} {c g : Int} (h : KI b l r t c g) : KI (compB b) l r t c g := by
  obtain ⟨d, hd⟩ := h.rel
  have hw := whole_le h.may
  have hr := hd.r0
  exact ⟨⟨{ d with text := Bx.frame (Bx.wholeS (abs b.st)) }, hd.lim, hd.room, hd.now, rfl, hd.tks, hd.ok, hd.l1, hd.l4, hd.r0, hd.r1, by show (((Bx.frame (Bx.wholeS (abs b.st))).size : Nat) : Int) ≤ b.room; omega⟩,
    h.may, Bx.Right.whole h.may, h.lim, h.room, h.tab, h.clk, h.nxt, h.run⟩
/-- The program's state, interrupted. -/
def wait (x : Sl) : Sl := { x with step := 0, ans := 0, heard := ByteArray.empty }
def intP (s : St) : St := { s with slots := s.slots.map wait }
theorem int_abs (s : St) : abs (intP s) = Bx.intS (abs s) := by
  unfold abs intP Bx.intS
  simp only [List.map_map]
  rfl
def openB (l r : Int) (s : St) : Bo := ⟨l, r, intP s, Bx.frame (Bx.wholeS (abs (intP s)))⟩
theorem int_ok {s : St} (h : Bx.MayS (abs s)) : Ok (intP s) := by
  have hm : Bx.MayS (abs (intP s)) := by rw [int_abs]; exact h.int
  refine ⟨hm.ok, ?_, fun x hx => ?_⟩
  · have := hm.rise
    unfold abs at this
    rw [List.pairwise_map] at this
    exact this
  · obtain ⟨y, _, rfl⟩ := List.mem_map.1 hx
    exact ⟨by show (-1 : Int) ≤ 0; omega, by show (0 : Int) ≤ _; omega, by show (0 : Int) ≤ 0; omega, by show (0 : Int) ≤ ((_ : Nat) : Int); omega, by show (0 : Nat) ≤ 8; omega, fun _ => rfl⟩
theorem KI.opened {l r : Int} {s : St} (hl : mayB l r = true) (h : Bx.MayS (abs s)) {g : Int} (hg : s.next = 1 + g) : KI (openB l r s) l r s.tab s.clock g := by
  obtain ⟨h1, h2, h3, h4⟩ := of_decide_eq_true hl
  have hm : Bx.MayS (abs (intP s)) := by rw [int_abs]; exact h.int
  have hw := whole_le hm
  have hk := int_ok h
  refine ⟨⟨⟨l, r, abs (intP s), Bx.frame (Bx.wholeS (abs (intP s))), []⟩, rfl, rfl, rfl, rfl, ⟨List.Pairwise.nil, fun t ht => by simp at ht, fun x hx hs => ?_⟩, hk, h1, h2, h3, h4, by show (((Bx.frame (Bx.wholeS (abs (intP s)))).size : Nat) : Int) ≤ r; omega⟩, hm, Bx.Right.whole hm, rfl, rfl, rfl, rfl, hg, ?_⟩
  · obtain ⟨y, _, rfl⟩ := List.mem_map.1 hx
    exact absurd hs (by show ¬ (0 : Int) < 0; omega)
  · rw [runs_rn]
    show ((Bx.rn (abs (intP s)) : Nat) : Int) ≤ l
    rw [int_abs, Bx.rn_int]; omega
end Px
end Go.Proofs.YtdajolpoiffimaaDoor

namespace Go.Proofs.YtdajolpoiffimaaDoor
namespace Bx
theorem merge_full {E0 E : List (List Int)} {out : List (Nat × Int)} (M : Mg E0 E out) : ∃ E' out', Mg E0 E' out' ∧ out'.length = total E0 := by
  have : ∀ n (E : List (List Int)) (out : List (Nat × Int)), Mg E0 E out → total E0 - out.length = n → ∃ E' out', Mg E0 E' out' ∧ out'.length = total E0 := by
    intro n
    induction n with
    | zero =>
      intro E out M h
      have := M.tot
      exact ⟨E, out, M, by omega⟩
    | succ n ih =>
      intro E out M h
      obtain ⟨b, t, r, hb, h1, h2, _⟩ := M.more (by omega)
      have hB := best_ok E E.length
      rw [h1] at hB
      exact ih _ _ (M.next hb h2 hB) (by simp; omega)
  exact this _ E out M rfl
theorem comes_total (ls : List Ln) (a m : Int) (ha : a ≤ m) : (comes ls a m).length = total (ls.map fun l => cntL l a m) := by
  obtain ⟨E, out, M, h⟩ := merge_full (Mg.start (each_asc (ls := ls) ha))
  rw [← Mg.comes ha M h, h]
/-- Bellmankeep's count of the minutes of one line, of the first k from a on. -/
noncomputable def cnF (l : Ln) (a m : Int) : Nat → Nat
  | 0 => 0
  | k + 1 => cnF l a m k + (if l.due (a + k) = true ∧ (l.catch' = 110 → a + k = m) then 1 else 0)
theorem cnF_le (l : Ln) (a m : Int) (k : Nat) : cnF l a m k ≤ k := by
  induction k with
  | zero => exact Nat.le_refl _
  | succ k ih => rw [cnF]; split <;> omega
theorem cnF_dl {l : Ln} (h : ¬ l.catch' = 110) (a m : Int) (k : Nat) : cnF l a m k = (dl l.due a k).length := by
  induction k with
  | zero => rfl
  | succ k ih =>
    rw [cnF, dl, List.length_append, ih]
    by_cases hd : l.due (a + k) = true
    · rw [if_pos ⟨hd, fun q => absurd q h⟩, if_pos hd]; rfl
    · rw [if_neg (fun q => hd q.1), if_neg hd]; rfl
theorem cnF_now {l : Ln} (h : l.catch' = 110) (a m : Int) (k : Nat) : a + k ≤ m → cnF l a m k = 0 := by
  induction k with
  | zero => intro _; rfl
  | succ k ih =>
    intro hk
    rw [cnF, ih (by omega), if_neg]
    rintro ⟨_, q⟩
    have := q h; omega
/-- What bellmankeep's due tells. -/
noncomputable def dueN (l : Ln) (a m : Int) : Nat := if l.catch' = 108 ∧ 1 < cnF l a m (m + 1 - a).toNat then 1 else cnF l a m (m + 1 - a).toNat
theorem dueN_eq (l : Ln) (a m : Int) (ha : a ≤ m) : dueN l a m = (cntL l a m).length := by
  unfold dueN cntL dsL frm
  by_cases h : l.catch' = 110
  · have h8 : ¬ l.catch' = 108 := by omega
    rw [if_neg (fun q => h8 q.1), if_neg (fun q => h8 q.1), if_pos h]
    obtain ⟨k, hk⟩ : ∃ k : Nat, (m + 1 - a).toNat = k + 1 := ⟨(m - a).toNat, by omega⟩
    rw [hk, cnF, cnF_now h a m k (by omega), show (m + 1 - m).toNat = 0 + 1 by omega, dl, dl]
    have e : a + (k : Int) = m := by omega
    have e0 : m + ((0 : Nat) : Int) = m := by omega
    rw [e, e0]
    by_cases hd : l.due m = true
    · rw [if_pos ⟨hd, fun _ => rfl⟩, if_pos hd]; rfl
    · rw [if_neg (fun q => hd q.1), if_neg hd]; rfl
  · rw [if_neg h, cnF_dl h]
    by_cases h8 : l.catch' = 108 ∧ 1 < (dl l.due a (m + 1 - a).toNat).length
    · rw [if_pos h8, if_pos h8, List.length_drop]; omega
    · rw [if_neg h8, if_neg h8]
/-- The sum over the first k lines. -/
noncomputable def sumN (t : ByteArray) (a m : Int) : Nat → Nat
  | 0 => 0
  | k + 1 => sumN t a m k + dueN (lnOf (tl t k)) a m
theorem sumN_total (t : ByteArray) (a m : Int) (ha : a ≤ m) : sumN t a m (tn t) = (comes (lns t) a m).length := by
  rw [comes_total _ _ _ ha]
  have : ∀ k, k ≤ (lns t).length → sumN t a m k = total (((lns t).take k).map fun l => cntL l a m) := by
    intro k
    induction k with
    | zero => intro _; rfl
    | succ k ih =>
      intro hk
      have hk' : k < (lns t).length := by omega
      rw [sumN, ih (by omega), List.take_succ_eq_append_getElem hk', List.map_append]
      unfold total
      rw [List.map_append, List.sum_append]
      have e : (lns t)[k] = lnOf (tl t k) := by
        have hk2 : k < (linesOf t).length := by rw [Px.lns_len] at hk'; rw [linesOf_len]; exact hk'
        have e1 : (lns t)[k]? = some (lnOf (tl t k)) := by
          unfold lns
          rw [List.getElem?_map, List.getElem?_eq_getElem hk2, linesOf_at]; rfl
        rw [List.getElem?_eq_getElem hk'] at e1
        exact Option.some.inj e1
      rw [e]
      simp [dueN_eq _ _ _ ha]
  have := this (tn t) (by rw [Px.lns_len]; exact Nat.le_refl _)
  rw [this, List.take_of_length_le (by rw [Px.lns_len]; exact Nat.le_refl _)]
theorem sumN_le (t : ByteArray) (a m : Int) (k : Nat) : sumN t a m k ≤ k * (m + 1 - a).toNat := by
  induction k with
  | zero => exact Nat.zero_le _
  | succ k ih =>
    rw [sumN, Nat.succ_mul]
    have : dueN (lnOf (tl t k)) a m ≤ (m + 1 - a).toNat := by
      have := cnF_le (lnOf (tl t k)) a m (m + 1 - a).toNat
      unfold dueN; split <;> omega
    omega
end Bx
namespace Px
/-- Nothing runs, nothing has ended but what was skipped. -/
structure CI (b : Bo) (l r : Int) (t : ByteArray) (c g : Int) : Prop where
  ki : KI b l r t c g
  idle : ∀ x ∈ b.st.slots, x.step = 0
  many : (b.st.slots.length : Int) = if 8 < g then 8 else g
theorem arrs_len (l : List (Nat × Int)) (s : St) (h : s.slots.length ≤ 8) : (l.foldl arr s).slots.length = min 8 (s.slots.length + l.length) := by
  induction l generalizing s with
  | nil => simp; omega
  | cons p l ih =>
    rw [List.foldl_cons]
    by_cases q : 8 ≤ s.slots.length
    · have e : (arr s p).slots = s.slots := by unfold arr; rw [if_pos q]
      rw [ih _ (by rw [e]; exact h), e, List.length_cons]; omega
    · have e : (arr s p).slots = s.slots ++ [slotOf p s.next] := by unfold arr; rw [if_neg q]
      rw [ih _ (by rw [e]; simp; omega), e]; simp; omega
theorem idle_late {s : St} (h : ∀ x ∈ s.slots, x.step = 0) : late s = [] := by
  unfold late
  have : s.slots.filter (fun x => decide (0 < x.step) && decide (x.ans ≤ s.clock - 3)) = [] := List.filter_eq_nil_iff.2 fun x hx => by have := h x hx; simp; omega
  rw [this]; rfl
theorem CI.tick {b : Bo} {l r : Int} {t : ByteArray} {c g : Int} (h : CI b l r t c g) (_hg : 0 ≤ g) {m : Int} (h0 : (tickB b m).2.2 = 0) : (tickB b m).2.1 = ((comesP b.st m).length : Int) ∧ CI (tickB b m).1 l r t m (g + ((comesP b.st m).length : Int)) := by
  obtain ⟨h1, h2⟩ := h.ki.tick m h0
  have hc0 : (clockP b.st m).2 = 0 := by
    by_cases q : (clockP b.st m).2 = 0
    · exact q
    · unfold tickB at h0; rw [if_pos q] at h0; exact absurd h0 q
  obtain ⟨_, _, _, _, hst⟩ := clock_st hc0
  obtain ⟨z, k1, k2, _⟩ := arrs_slots (comesP b.st m) b.st
  have hidle : ∀ x ∈ (clockP b.st m).1.slots, x.step = 0 := by
    intro x hx
    rw [hst] at hx
    have hx' : x ∈ b.st.slots ++ z := by rw [← k1]; exact hx
    rcases List.mem_append.1 hx' with q | q
    · exact h.idle x q
    · exact (k2 x q).1
  have hst2 : (tickB b m).1.st = (clockP b.st m).1 := by
    unfold tickB at h0 ⊢
    rw [if_neg (by simpa using hc0)] at h0 ⊢
    by_cases hr : b.room < (b.log.size : Int) + (tickQ b m).2.size
    · rw [if_pos hr] at h0; simp at h0
    · rw [if_neg hr]
      show (tickQ b m).1 = _
      unfold tickQ; rw [idle_late hidle]; rfl
  refine ⟨h1, h2, by rw [hst2]; exact hidle, ?_⟩
  rw [hst2, hst]
  show ((((comesP b.st m).foldl arr b.st).slots.length : Nat) : Int) = _
  rw [arrs_len _ _ h.ki.ok.len]
  have hm := h.many
  split at hm <;> split <;> omega
theorem CI.first {b : Bo} {l r : Int} {t : ByteArray} (h : KI b l r t (-1) 0) (hs : b.st.slots = []) {m : Int} (h0 : (tickB b m).2.2 = 0) : CI (tickB b m).1 l r t m ((comesP b.st m).length : Int) := by
  have hC : CI b l r t (-1) 0 := ⟨h, by rw [hs]; simp, by rw [hs]; rfl⟩
  have := (hC.tick (by omega) h0).2
  rw [show (0 : Int) + ((comesP b.st m).length : Int) = ((comesP b.st m).length : Int) by omega] at this
  exact this
end Px
end Go.Proofs.YtdajolpoiffimaaDoor

namespace Go.Proofs.YtdajolpoiffimaaDoor
open Go.RowKit

/-- Which of n things a raw number speaks of. -/
def pk (c n : Int) : Int := (if c < 0 then -(c + 1) else c) % n
theorem pk_bd (c n : Int) (h : 0 < n) : 0 ≤ pk c n ∧ pk c n < n := ⟨Int.emod_nonneg _ (by omega), Int.emod_lt_of_pos _ h⟩
theorem pick_at (c n a : Int) (w : World) (h : pk c n = a) (c1 : -9223372036854775808 ≤ c) (c2 : c ≤ 9223372036854775807) (n1 : 0 < n) (n2 : n ≤ 9223372036854775807) :
    Calls Tryd.prog 18 #[.int .i64 c, .int .i64 n] w fun e w' => e = .returned (.int .i64 a) ∧ w' = w := by
  subst h
  unfold pk
  have m1 := Int.emod_nonneg c (b := n) (by omega)
  have m2 := Int.emod_lt_of_pos c n1
  have k1 := Int.emod_nonneg (-(c + 1)) (b := n) (by omega)
  have k2 := Int.emod_lt_of_pos (-(c + 1)) n1
  by_cases h : c < 0
  · have E : Hid (-((c + 1).tmod n) = (if c < 0 then -(c + 1) else c) % n) := by unfold Hid; rw [if_pos h, ← Int.neg_tmod, Int.tmod_eq_emod_of_nonneg (by omega)]
    generalize (if c < 0 then -(c + 1) else c) % n = z at *
    go_enter Tryd.func18, Tryd.ntmps18
    go_wp2_with fail
    go_ret
    exact ⟨ret_int' E.out, rfl⟩
  · have E : Hid (c % n = (if c < 0 then -(c + 1) else c) % n) := by unfold Hid; rw [if_neg h]
    generalize (if c < 0 then -(c + 1) else c) % n = z at *
    go_enter Tryd.func18, Tryd.ntmps18
    go_wp2_with fail
    go_ret
    exact ⟨ret_int' E.out, rfl⟩
/-- A World in memory, and its box. -/
structure KW (w0 w : World) (P B : Nat) (l r : Int) (tab : ByteArray) (c g : Int) (b : Px.Bo) : Prop where
  p : Cl w P 54 [.pointer (some ⟨B, 0, none⟩), .int .i64 l, .int .i64 r, .string tab, .int .i64 c, .int .i64 g]
  b : KB w0 w B b
  lo : w0.heap.size ≤ P
theorem KW.ne {w0 w : World} {P B : Nat} {l r : Int} {tab : ByteArray} {c g : Int} {b : Px.Bo} (h : KW w0 w P B l r tab c g b) : P ≠ B := fun e => by
  obtain ⟨c1, f1, h1⟩ := h.p.ty
  obtain ⟨c2, f2, h2⟩ := h.b.typ
  rw [e, h2] at h1; cases h1
theorem KW.later {w0 w w' : World} {P B : Nat} {l r : Int} {tab : ByteArray} {c g : Int} {b : Px.Bo} (h : KW w0 w P B l r tab c g b) (hb : Below w.heap.size w w') : KW w0 w' P B l r tab c g b := ⟨h.p.later hb, h.b.later hb, h.lo⟩
theorem KW.call {w0 w w' : World} {P B : Nat} {l r : Int} {tab : ByteArray} {c g : Int} {b b' : Px.Bo} (h : KW w0 w P B l r tab c g b) (hb : KB w0 w' B b') (hg : w.grownBy w' (some B)) : KW w0 w' P B l r tab c g b' := ⟨h.p.grow hg h.ne, hb, h.lo⟩
theorem KW.bl {w0 w : World} {P B : Nat} {l r : Int} {tab : ByteArray} {c g : Int} {b : Px.Bo} (h : KW w0 w P B l r tab c g b) : Below w0.heap.size w0 w := h.b.bl
/-- A box is kept when another block is written. -/
theorem PB.far {w : World} {B : Nat} {b : Px.Bo} {sl en : Value} (h : PB w B b sl en) {g : Nat} {t : TypeId} (ht : Typed w g t) (h1 : t ≠ 96) (h2 : 131 ≠ t) (h3 : 69 ≠ t) (j : Nat) (v : Value) : PB (w.setCell ⟨g, j, none⟩ v) B b sl en := by
  have hne : g ≠ B := fun e => by
    obtain ⟨c1, f1, q1⟩ := ht
    obtain ⟨c2, f2, q2⟩ := h.ty
    rw [e, q2] at q1; cases q1; exact h1 rfl
  have cc : ∀ (k : Nat) (u : Value), w.cell? ⟨B, k, none⟩ = some u → (w.setCell ⟨g, j, none⟩ v).cell? ⟨B, k, none⟩ = some u := fun k u q => (World.cell?_setCell_other _ _ _ _ (fun x => hne (by cases x; rfl))).trans q
  exact ⟨cc _ _ h.c0, cc _ _ h.c1, cc _ _ h.c2, cc _ _ h.c3, cc _ _ h.c4, cc _ _ h.c5, cc _ _ h.c6, cc _ _ h.c7, fun k hk => by rw [World.frozen?_setCell]; exact h.f k hk, h.ty.setCell _ _ _, h.rows.set ht h2 h3 _ _⟩
theorem KW.set {w0 w : World} {P B : Nat} {l r : Int} {tab : ByteArray} {c g : Int} {b : Px.Bo} (h : KW w0 w P B l r tab c g b) (j : Nat) (v : Value) {l' r' : Int} {tab' : ByteArray} {c' g' : Int} (hj : j < 6)
    (e : [Value.pointer (some ⟨B, 0, none⟩), .int .i64 l', .int .i64 r', .string tab', .int .i64 c', .int .i64 g'] = [Value.pointer (some ⟨B, 0, none⟩), .int .i64 l, .int .i64 r, .string tab, .int .i64 c, .int .i64 g].set j v) : KW w0 (w.setCell ⟨P, j, none⟩ v) P B l' r' tab' c' g' b := by
  obtain ⟨sl, en, hp⟩ := h.b.pb
  refine ⟨by rw [e]; exact h.p.set j (by simpa using hj) v, ⟨h.b.lo, h.b.bl.setCell h.lo _, sl, en, hp.far h.p.ty (by decide) (by decide) (by decide) _ _⟩, h.lo⟩
/-- The box, when its crontab is loaded; when its clock is set. -/
noncomputable def ldB (l r : Int) (tab : ByteArray) : Px.Bo := ⟨l, r, { Px.first with tab := tab }, ByteArray.empty ++ Bx.frames [chT tab]⟩
noncomputable def begB (l r : Int) (tab : ByteArray) (c : Int) : Px.Bo := (Px.tickB (ldB l r tab) c).1
noncomputable def begG (l r : Int) (tab : ByteArray) (c : Int) : Int := ((Px.comesP (ldB l r tab).st c).length : Int)
theorem ld_load {l r : Int} {tab : ByteArray} {b' : Px.Bo} {a e : Int} (hm : mayB l r = true) (ht : tab ∈ Kp.tabsL) (h : Px.LoadB ⟨l, r, Px.first, ByteArray.empty⟩ tab b' a e) : a = 0 ∧ e = 0 ∧ b' = ldB l r tab ∧ Px.KI b' l r tab (-1) 0 ∧ b'.st.slots = [] ∧ b'.log.size ≤ 400 := by
  have hc := Kp.tabs_chk tab ht
  have hz := Kp.tabs_size tab ht
  obtain ⟨h1, h2, h3, h4⟩ := of_decide_eq_true hm
  have hr : ((⟨l, r, Px.first, ByteArray.empty⟩ : Px.Bo).log.size : Int) + tab.size + 12 ≤ r := by show ((0 : Nat) : Int) + _ + 12 ≤ r; omega
  obtain ⟨e1, e2, e3⟩ := Px.load_yes h hc rfl hr
  obtain ⟨k1, k2, k3, k4, k5⟩ := (Px.KI.new hm).load h hc rfl hr
  refine ⟨e1, e2, e3, k3, k4, ?_⟩
  have : (⟨l, r, Px.first, ByteArray.empty⟩ : Px.Bo).log.size = 0 := rfl
  omega
theorem ld_ki {l r : Int} {tab : ByteArray} (hm : mayB l r = true) (ht : tab ∈ Kp.tabsL) : Px.KI (ldB l r tab) l r tab (-1) 0 ∧ (ldB l r tab).st.slots = [] ∧ (ldB l r tab).log.size ≤ 400 := by
  have hc := Kp.tabs_chk tab ht
  have hz := Kp.tabs_size tab ht
  obtain ⟨h1, h2, h3, h4⟩ := of_decide_eq_true hm
  have hfs : (Bx.frames [chT tab]).size ≤ tab.size + 12 := by rw [Px.frames_one]; exact Px.fsz _
  have hL : Px.LoadB ⟨l, r, Px.first, ByteArray.empty⟩ tab (ldB l r tab) 0 0 := Or.inr (Or.inr (Or.inr ⟨hc, rfl, by show ¬ r < ((0 : Nat) : Int) + _; omega, rfl, rfl, rfl⟩))
  obtain ⟨_, _, _, a, b, c⟩ := ld_load hm ht hL
  exact ⟨a, b, c⟩
theorem beg_ki {l r : Int} {tab : ByteArray} {c : Int} (hm : mayB l r = true) (ht : tab ∈ Kp.tabsL) (c0 : 0 ≤ c) (c1 : c ≤ 4223371679) :
    (Px.tickB (ldB l r tab) c).2 = (begG l r tab c, 0) ∧ 0 ≤ begG l r tab c ∧ begG l r tab c ≤ 4 ∧ Px.KI (begB l r tab c) l r tab c (begG l r tab c) := by
  obtain ⟨h1, _, h3⟩ := ld_ki hm ht
  obtain ⟨k1, k2, k3, k4⟩ := h1.first h3 c0 c1
  exact ⟨Prod.ext k2 k1, by unfold begG; omega, by unfold begG; omega, k4⟩
theorem tabs_at (i : Nat) (h : i < 6) : ∃ t, Kp.tabsL[i]? = some t ∧ t ∈ Kp.tabsL := by
  have hl : i < Kp.tabsL.length := h
  exact ⟨Kp.tabsL[i], List.getElem?_eq_getElem hl, List.getElem_mem hl⟩
abbrev tabsO : Obj := .cells #[.string Kp.T0, .string Kp.T1, .string Kp.T2, .string Kp.T3, .string Kp.T4, .string Kp.T5] 9
set_option maxHeartbeats 1000000 in
theorem ktabs_any (w : World) : Calls Tryd.prog 46 #[] w fun e w' => ∃ g, e = .returned (.slice (some ⟨g, 0, none⟩) 6 6) ∧ (∀ i t, Kp.tabsL[i]? = some t → w'.cell? ⟨g, i, none⟩ = some (.string t)) ∧ Below w.heap.size w w' := by
  have hc : Hid (∀ i t, Kp.tabsL[i]? = some t → (w.alloc tabsO).cell? ⟨w.heap.size, i, none⟩ = some (.string t)) := by
    intro i t hi
    have hb : (w.alloc tabsO).heap[w.heap.size]? = some (.cells #[.string Kp.T0, .string Kp.T1, .string Kp.T2, .string Kp.T3, .string Kp.T4, .string Kp.T5] 9 (0, 0)) := by show (w.heap.push tabsO)[w.heap.size]? = _; simp
    rw [cell_of_row _ _ i _ _ (0, 0) hb]
    match i, hi with
    | 0, hi => cases hi; rfl
    | 1, hi => cases hi; rfl
    | 2, hi => cases hi; rfl
    | 3, hi => cases hi; rfl
    | 4, hi => cases hi; rfl
    | 5, hi => cases hi; rfl
    | n + 6, hi => simp [Kp.tabsL] at hi
  go_enter Tryd.func46, Tryd.ntmps46
  go_wp2_with fail
  go_ret
  exact ⟨w.heap.size, rfl, hc.out, below_alloc _ _⟩
end Go.Proofs.YtdajolpoiffimaaDoor

namespace Go.Proofs.YtdajolpoiffimaaDoor
open Go.RowKit

def sL (a : Int) : Int := 1 + pk a 4
def sR (a : Int) : Int := 600 + pk a 3401
def sT (a : Int) : ByteArray := Kp.tabsL.getD (pk a 6).toNat ByteArray.empty
def sC (a : Int) : Int := pk a 4223371680
theorem s_may (a b : Int) : mayB (sL a) (sR b) = true := by
  have h1 := pk_bd a 4 (by decide)
  have h2 := pk_bd b 3401 (by decide)
  unfold sL sR
  exact decide_eq_true (by omega)
theorem sT_mem (a : Int) : sT a ∈ Kp.tabsL ∧ Kp.tabsL[(pk a 6).toNat]? = some (sT a) := by
  have h1 := pk_bd a 6 (by decide)
  have hl : (pk a 6).toNat < Kp.tabsL.length := by show _ < 6; omega
  have e : sT a = Kp.tabsL[(pk a 6).toNat] := by unfold sT; rw [List.getD_eq_getElem?_getD, List.getElem?_eq_getElem hl]; rfl
  rw [e]
  exact ⟨List.getElem_mem hl, List.getElem?_eq_getElem hl⟩
abbrev suV (a0 a1 a2 a3 : Int) : Value := .agg #[.int .i64 a0, .int .i64 a1, .int .i64 a2, .int .i64 a3]
abbrev suO (a0 a1 a2 a3 : Int) : Obj := .cells #[.int .i64 a0, .int .i64 a1, .int .i64 a2, .int .i64 a3] 46
def I64 (a : Int) : Prop := -9223372036854775808 ≤ a ∧ a ≤ 9223372036854775807
set_option maxRecDepth 10000 in
set_option maxHeartbeats 4000000 in
theorem kbegun_any (a0 a1 a2 a3 : Int) (w : World) (h0 : I64 a0) (h1 : I64 a1) (h2 : I64 a2) (h3 : I64 a3) (hT : TT w) :
    Calls Tryd.prog 20 #[suV a0 a1 a2 a3] w fun e w' => ∃ P B, e = .returned (.tuple #[.pointer (some ⟨P, 0, none⟩), .bool true]) ∧
      KW w w' P B (sL a0) (sR a1) (sT a2) (sC a3) (begG (sL a0) (sR a1) (sT a2) (sC a3)) (begB (sL a0) (sR a1) (sT a2) (sC a3)) := by
  have HT : Hid (TT w) := hT
  have hs := Cl.new w [.int .i64 a0, .int .i64 a1, .int .i64 a2, .int .i64 a3] 46
  have hb0 := below_alloc w (suO a0 a1 a2 a3)
  have HI : Hid (I64 a0 ∧ I64 a1 ∧ I64 a2 ∧ I64 a3) := ⟨h0, h1, h2, h3⟩
  clear h0 h1 h2 h3 hT
  go_enter Tryd.func20, Tryd.ntmps20
  go_upto_region 1 with fail
  have hs' : Cl (w.alloc (suO a0 a1 a2 a3)) w.heap.size 46 [.int .i64 a0, .int .i64 a1, .int .i64 a2, .int .i64 a3] := hs
  clear hs
  generalize w.alloc (suO a0 a1 a2 a3) = W at *
  have HS : Hid (Cl W w.heap.size 46 [.int .i64 a0, .int .i64 a1, .int .i64 a2, .int .i64 a3]) := hs'
  have HB : Hid (Below w.heap.size w W) := hb0
  clear hs' hb0
  go_wp2_with fail
  refine (ktabs_any W).mono ?_
  rintro e w1 ⟨g, rfl, hc, hb1⟩
  have hS1 := HS.out.later hb1
  have HB1 : Hid (Below w.heap.size w w1) := HB.out.trans (hb1.mono HB.out.size)
  have hk := pk_bd a2 6 (by decide)
  have s0 : w1.cell? ⟨w.heap.size, 0, none⟩ = some (.int .i64 a0) := hS1.c 0 _ rfl
  have s1 : w1.cell? ⟨w.heap.size, 1, none⟩ = some (.int .i64 a1) := hS1.c 1 _ rfl
  have s2 : w1.cell? ⟨w.heap.size, 2, none⟩ = some (.int .i64 a2) := hS1.c 2 _ rfl
  have s3 : w1.cell? ⟨w.heap.size, 3, none⟩ = some (.int .i64 a3) := hS1.c 3 _ rfl
  have hqs : w.heap.size < w1.heap.size := hS1.ty.lt
  have hst := hc _ _ (sT_mem a2).2
  have HL : Hid (∃ p0 p1 p3 : Int, ∃ k : Nat, pk a0 4 = p0 ∧ pk a1 3401 = p1 ∧ pk a2 6 = (k : Int) ∧ pk a3 4223371680 = p3 ∧ k = (pk a2 6).toNat ∧ 0 ≤ p0 ∧ p0 < 4 ∧ 0 ≤ p1 ∧ p1 < 3401 ∧ 0 ≤ p3 ∧ p3 < 4223371680) :=
    ⟨_, _, _, _, rfl, rfl, by omega, rfl, rfl, (pk_bd a0 4 (by decide)).1, (pk_bd a0 4 (by decide)).2, (pk_bd a1 3401 (by decide)).1, (pk_bd a1 3401 (by decide)).2, (pk_bd a3 4223371680 (by decide)).1, (pk_bd a3 4223371680 (by decide)).2⟩
  obtain ⟨p0, p1, p3, k, q0, q1, q2, q3, hkk, z0, z1, z2, z3, z4, z5⟩ := HL.out
  rw [← hkk] at hst
  have k1 : (0 : Int) ≤ (k : Int) := by omega
  have k2 : (k : Int) < 6 := by omega
  have hg : g < w1.heap.size := World.block_lt_of_cell? _ _ hst
  have HQ : Hid (pk a0 4 = p0 ∧ pk a1 3401 = p1 ∧ pk a2 6 = (k : Int) ∧ pk a3 4223371680 = p3) := ⟨q0, q1, q2, q3⟩
  clear hc hb1 hS1 HS HB hk hkk q0 q1 q2 q3 HL
  have C0 : Hid (∀ w : World, Calls Tryd.prog 18 #[.int .i64 a0, .int .i64 4] w fun e w' => e = .returned (.int .i64 p0) ∧ w' = w) := fun w => pick_at a0 4 p0 w HQ.out.1 HI.out.1.1 HI.out.1.2 (by decide) (by decide)
  have C1 : Hid (∀ w : World, Calls Tryd.prog 18 #[.int .i64 a1, .int .i64 3401] w fun e w' => e = .returned (.int .i64 p1) ∧ w' = w) := fun w => pick_at a1 3401 p1 w HQ.out.2.1 HI.out.2.1.1 HI.out.2.1.2 (by decide) (by decide)
  have C2 : Hid (∀ w : World, Calls Tryd.prog 18 #[.int .i64 a2, .int .i64 6] w fun e w' => e = .returned (.int .i64 (k : Int)) ∧ w' = w) := fun w => pick_at a2 6 (k : Int) w HQ.out.2.2.1 HI.out.2.2.1.1 HI.out.2.2.1.2 (by decide) (by decide)
  have C3 : Hid (∀ w : World, Calls Tryd.prog 18 #[.int .i64 a3, .int .i64 4223371680] w fun e w' => e = .returned (.int .i64 p3) ∧ w' = w) := fun w => pick_at a3 4223371680 p3 w HQ.out.2.2.2 HI.out.2.2.2.1 HI.out.2.2.2.2 (by decide) (by decide)
  go_wp2_with fail
  go_region_held3 (fun w' => ∀ b o, b < w1.heap.size → w'.cell? ⟨b, o, none⟩ = w1.cell? ⟨b, o, none⟩)
    ((intro b' o' h1; first | rfl | (exact (below_alloc w1.drew _).cell (p := ⟨b', o', none⟩) h1)))
    ((go_at_call 18;
      first
      | (with_reducible refine (C0.out _).mono ?_; rintro e w5 ⟨rfl, rfl⟩)
      | (with_reducible refine (C1.out _).mono ?_; rintro e w5 ⟨rfl, rfl⟩)
      | (with_reducible refine (C2.out _).mono ?_; rintro e w5 ⟨rfl, rfl⟩)
      | (with_reducible refine (C3.out _).mono ?_; rintro e w5 ⟨rfl, rfl⟩)))
  rename ∀ (b o : Nat), b < w1.heap.size → _ = w1.cell? _ => hSold
  clear hSold
  have HW : Hid (∃ l r c t, IntKind.i64.wrap (1 + p0) = l ∧ IntKind.i64.wrap (600 + p1) = r ∧ p3 = c ∧ sT a2 = t ∧ l = sL a0 ∧ r = sR a1 ∧ c = sC a3) :=
    ⟨_, _, _, _, rfl, rfl, rfl, rfl, by rw [IntKind.wrap_i64]; unfold sL; rw [HQ.out.1]; omega, by rw [IntKind.wrap_i64]; unfold sR; rw [HQ.out.2.1]; omega, HQ.out.2.2.2.symm⟩
  obtain ⟨l, r, c, t, e0, e1, e2, e3, e4, e5, e6⟩ := HW.out
  rw [e0, e1, e2, e3]
  have HE : Hid (sL a0 = l ∧ sR a1 = r ∧ sT a2 = t ∧ sC a3 = c) := ⟨e4.symm, e5.symm, e3, e6.symm⟩
  have HM : Hid (mayB l r = true) := by unfold Hid; rw [e4, e5]; exact s_may _ _
  have HMem : Hid (t ∈ Kp.tabsL) := by unfold Hid; rw [← e3]; exact (sT_mem a2).1
  have hc0 : 0 ≤ c := by omega
  have hc1 : c ≤ 4223371679 := by omega
  have hP2 := (Cl.new w1 [.pointer none, .int .i64 l, .int .i64 r, .string t, .int .i64 c, .int .i64 0] 54).later (Below.refl _ _).drew
  have hB2 := (HB1.out.alloc HB1.out.size (.cells #[.pointer none, .int .i64 l, .int .i64 r, .string t, .int .i64 c, .int .i64 0] 54)).drew
  have hlo := HB1.out.size
  clear s0 s1 s2 s3 hst C0 C1 C2 C3 HW HQ e0 e1 e2 e3 e4 e5 e6 HI HB1 k1 k2 hg hqs z0 z1 z2 z3 z4 z5
  have hP2' : Cl (w1.alloc (.cells #[.pointer none, .int .i64 l, .int .i64 r, .string t, .int .i64 c, .int .i64 0] 54)).drew w1.heap.size 54 [.pointer none, .int .i64 l, .int .i64 r, .string t, .int .i64 c, .int .i64 0] := hP2
  clear hP2
  generalize (w1.alloc (.cells #[.pointer none, .int .i64 l, .int .i64 r, .string t, .int .i64 c, .int .i64 0] 54)).drew = W2 at *
  generalize w1.heap.size = P at *
  have HP2 : Hid (Cl W2 P 54 [.pointer none, .int .i64 l, .int .i64 r, .string t, .int .i64 c, .int .i64 0]) := hP2'
  have HB2 : Hid (Below w.heap.size w W2) := hB2
  have c1 : W2.cell? ⟨P, 1, none⟩ = some (.int .i64 l) := hP2'.c 1 _ rfl
  have c2 : W2.cell? ⟨P, 2, none⟩ = some (.int .i64 r) := hP2'.c 2 _ rfl
  have hPW : P < W2.heap.size := hP2'.ty.lt
  clear hP2' hB2
  go_wp2_with fail
  go_region_held3 (fun w' => ∀ b o, b < W2.heap.size → w'.cell? ⟨b, o, none⟩ = W2.cell? ⟨b, o, none⟩)
    ((intro b' o' h1; first | rfl | (exact hbN.cell (p := ⟨b', o', none⟩) h1)))
    ((go_at_call 31; refine (knew_any l r _ HM.out).mono ?_; rintro e w3 ⟨B, rfl, hk3⟩; have hbN : Below W2.heap.size W2 w3 := (Below.refl _ _).drew.trans hk3.bl))
  rename ∀ (b o : Nat), b < W2.heap.size → _ = W2.cell? _ => hSold
  clear hSold c1 c2
  have hP3 := HP2.out.later hbN
  have hK3 : KB w w3 B ⟨l, r, Px.first, ByteArray.empty⟩ := ⟨Nat.le_trans HB2.out.size hk3.lo, HB2.out.trans (hbN.mono HB2.out.size), hk3.pb⟩
  have c0 : w3.cell? ⟨P, 0, none⟩ = some (.pointer none) := hP3.c 0 _ rfl
  have f0 := hP3.f 0 (by simp)
  have hP3l := hP3.ty.lt
  have hW4 : KW w (w3.setCell ⟨P, 0, none⟩ (.pointer (some ⟨B, 0, none⟩))) P B l r t c 0 ⟨l, r, Px.first, ByteArray.empty⟩ := by
    obtain ⟨sl, en, hp⟩ := hK3.pb
    exact ⟨hP3.set 0 (by simp) _, ⟨hK3.lo, hK3.bl.setCell hlo _, sl, en, hp.far hP3.ty (by decide) (by decide) (by decide) _ _⟩, hlo⟩
  clear hP3 hK3 hk3 hbN HP2 HB2
  go_upto_region 7 with fail
  clear c0 f0 hP3l
  generalize w3.setCell ⟨P, 0, none⟩ (.pointer (some ⟨B, 0, none⟩)) = W4 at *
  have HW4 : Hid (KW w W4 P B l r t c 0 ⟨l, r, Px.first, ByteArray.empty⟩) := hW4
  have c3 : W4.cell? ⟨P, 3, none⟩ = some (.string t) := hW4.p.c 3 _ rfl
  have hP4 := hW4.p.ty.lt
  clear hW4
  go_wp2_with fail
  refine (kload_any ⟨l, r, Px.first, ByteArray.empty⟩ B t w _ (Px.KI.new HM.out).ok (Nat.zero_le _) (by have := (Kp.tabs_size t HMem.out).1; unfold maxLen; omega) HT.out HW4.out.b).mono ?_
  rintro e w5 ⟨b', a, r', rfl, hL, hK5, hg5⟩
  obtain ⟨ea, er, eb, hki, _, hz⟩ := ld_load HM.out HMem.out hL
  subst ea er eb
  have hW5 := HW4.out.call hK5 hg5
  have HW5 : Hid (KW w w5 P B l r t c 0 (ldB l r t)) := hW5
  have HKI : Hid (Px.KI (ldB l r t) l r t (-1) 0 ∧ (ldB l r t).log.size ≤ 10000) := ⟨hki, by omega⟩
  have c4 : w5.cell? ⟨P, 4, none⟩ = some (.int .i64 c) := hW5.p.c 4 _ rfl
  have hP5 := hW5.p.ty.lt
  clear hL hK5 hg5 hki hz hW5 c3 HW4
  go_wp2_with fail
  refine (ktick_any (ldB l r t) B c w _ HKI.out.1.ok HKI.out.2 HT.out HW5.out.b).mono ?_
  obtain ⟨m1, m2, m3, m4⟩ := beg_ki HM.out HMem.out hc0 hc1
  rw [m1]
  rintro e w6 ⟨rfl, hK6, hg6⟩
  have hW6 : KW w w6 P B l r t c 0 (begB l r t c) := HW5.out.call hK6 hg6
  have HKI6 : Hid (Px.KI (begB l r t c) l r t c (begG l r t c)) := m4
  have c5 : w6.cell? ⟨P, 5, none⟩ = some (.int .i64 0) := hW6.p.c 5 _ rfl
  have f5 := hW6.p.f 5 (by simp)
  have hP6 := hW6.p.ty.lt
  have hW7 : KW w (w6.setCell ⟨P, 5, none⟩ (.int .i64 (begG l r t c))) P B l r t c (begG l r t c) (begB l r t c) := hW6.set 5 _ (by decide) rfl
  clear hK6 hg6 hW6 c4 HW5 m1 m4
  generalize hG : begG l r t c = G at *
  generalize hb : begB l r t c = b at *
  have HGb : Hid (begG l r t c = G ∧ begB l r t c = b) := ⟨hG, hb⟩
  clear hG hb
  go_upto_region 12 with fail
  clear c5 f5
  generalize w6.setCell ⟨P, 5, none⟩ (.int .i64 G) = W7 at *
  have HW7 : Hid (KW w W7 P B l r t c G b) := hW7
  clear hW7
  go_wp2_with fail
  refine (klook_any b B w _ HW7.out.b).mono ?_
  rintro e w8 ⟨rfl, _, hb8⟩
  unfold pviewV
  rw [HKI6.out.clk, HKI6.out.nxt, HKI6.out.tab]
  have hW8 := (HW7.out.later hb8).later (below_alloc w8 (.cells #[.int .i64 c, .int .i64 (1 + G), .int .i64 b.st.slots.length, .int .i64 b.st.ends.length, .string t] 59))
  have hV := Cl.new w8 [.int .i64 c, .int .i64 (1 + G), .int .i64 b.st.slots.length, .int .i64 b.st.ends.length, .string t] 59
  clear hb8 HW7
  go_upto_region 13 with fail
  have hV' : Cl (w8.alloc (.cells #[.int .i64 c, .int .i64 (1 + G), .int .i64 b.st.slots.length, .int .i64 b.st.ends.length, .string t] 59)) w8.heap.size 59 [.int .i64 c, .int .i64 (1 + G), .int .i64 b.st.slots.length, .int .i64 b.st.ends.length, .string t] := hV
  clear hV
  generalize w8.alloc (.cells #[.int .i64 c, .int .i64 (1 + G), .int .i64 b.st.slots.length, .int .i64 b.st.ends.length, .string t] 59) = W9 at *
  generalize w8.heap.size = vq at *
  have v0 : W9.cell? ⟨vq, 0, none⟩ = some (.int .i64 c) := hV'.c 0 _ rfl
  have v1 : W9.cell? ⟨vq, 1, none⟩ = some (.int .i64 (1 + G)) := hV'.c 1 _ rfl
  have v4 : W9.cell? ⟨vq, 4, none⟩ = some (.string t) := hV'.c 4 _ rfl
  have d3 : W9.cell? ⟨P, 3, none⟩ = some (.string t) := hW8.p.c 3 _ rfl
  have d4 : W9.cell? ⟨P, 4, none⟩ = some (.int .i64 c) := hW8.p.c 4 _ rfl
  have hv9 := hV'.ty.lt
  have hP9 := hW8.p.ty.lt
  have HW9 : Hid (KW w W9 P B l r t c G b) := hW8
  clear hV' hW8
  go_quiet (fail)
  go_wp2_with fail
  go_ret2
  refine ⟨P, B, rfl, ?_⟩
  rw [HE.out.1, HE.out.2.1, HE.out.2.2.1, HE.out.2.2.2, HGb.out.1, HGb.out.2]
  exact HW9.out.later (below_drewN (Below.refl _ _) _)
set_option maxHeartbeats 1000000 in
theorem kfull_any (more : Int) (w0 w : World) (P B : Nat) (l r : Int) (t : ByteArray) (c g : Int) (b : Px.Bo) (h0 : 0 ≤ more) (h1 : more ≤ 100000) (hz : b.log.size ≤ 10000) (h : KW w0 w P B l r t c g b) :
    Calls Tryd.prog 53 #[.pointer (some ⟨P, 0, none⟩), .int .i64 more] w fun e w' => e = .returned (.bool (decide (r < (b.log.size : Int) + more))) ∧ w' = w := by
  have H : Hid (KW w0 w P B l r t c g b) := h
  have c0 : w.cell? ⟨P, 0, none⟩ = some (.pointer (some ⟨B, 0, none⟩)) := h.p.c 0 _ rfl
  have c2 : w.cell? ⟨P, 2, none⟩ = some (.int .i64 r) := h.p.c 2 _ rfl
  have hP := h.p.ty.lt
  clear h
  go_enter Tryd.func53, Tryd.ntmps53
  go_wp2_with fail
  refine (klog_any b B w0 _ H.out.b).mono ?_
  rintro e w1 ⟨rfl, h2⟩
  have h3 := h2.symm
  subst h3
  go_wp2_with fail
  go_ret
  exact ⟨rfl, rfl⟩
/-- May a Tick be refused so? -/
def tkd (b : Px.Bo) (l r g e n : Int) : Bool := (decide (e = 13) && decide (r < (b.log.size : Int) + (12 + 9 * l))) || (decide (e = 7) && decide (9999 < g + 4 * n))
set_option maxHeartbeats 2000000 in
theorem kticked_any (e n : Int) (w0 w : World) (P B : Nat) (l r : Int) (t : ByteArray) (c g : Int) (b : Px.Bo) (hl : 0 ≤ l) (hl2 : l ≤ 4) (hn : 0 ≤ n) (hn2 : n ≤ 100000) (hg : 0 ≤ g) (hg2 : g ≤ 100000) (hz : b.log.size ≤ 10000) (h : KW w0 w P B l r t c g b) :
    Calls Tryd.prog 24 #[.pointer (some ⟨P, 0, none⟩), .int .i64 e, .int .i64 n] w fun x w' => x = .returned (.bool (tkd b l r g e n)) ∧ w' = w := by
  have H : Hid (KW w0 w P B l r t c g b) := h
  have c1 : w.cell? ⟨P, 1, none⟩ = some (.int .i64 l) := h.p.c 1 _ rfl
  have c5 : w.cell? ⟨P, 5, none⟩ = some (.int .i64 g) := h.p.c 5 _ rfl
  have hP := h.p.ty.lt
  have HZ : Hid (b.log.size ≤ 10000) := hz
  have HD : Hid (∃ f, decide (r < (b.log.size : Int) + (12 + 9 * l)) = f) := ⟨_, rfl⟩
  obtain ⟨f, hf⟩ := HD.out
  have HF : Hid (decide (r < (b.log.size : Int) + (12 + 9 * l)) = f) := hf
  have HR : Hid (tkd b l r g e n = ((decide (e = 13) && f) || (decide (e = 7) && decide (9999 < g + 4 * n)))) := by unfold Hid tkd; rw [hf]
  clear h hz HD hf
  go_enter Tryd.func24, Tryd.ntmps24
  go_wp2_with fail
  refine (kfull_any (12 + 9 * l) w0 _ P B l r t c g b (by omega) (by omega) HZ.out H.out).mono ?_
  rw [HF.out]
  rintro e w1 ⟨rfl, h2⟩
  have h3 := h2.symm
  subst h3
  by_cases h13 : e = 13
  · cases f <;> by_cases h7 : e = 7 <;> by_cases h9 : 9999 < g + 4 * n <;> (go_wp2_with fail; go_ret; refine ⟨?_, rfl⟩; rw [HR.out]; simp [*])
  · cases f <;> by_cases h7 : e = 7 <;> by_cases h9 : 9999 < g + 4 * n <;> (go_wp2_with fail; go_ret; refine ⟨?_, rfl⟩; rw [HR.out]; simp [*])
end Go.Proofs.YtdajolpoiffimaaDoor

namespace Go.Proofs.YtdajolpoiffimaaDoor
open Go.RowKit

namespace Kp
theorem drop_at (t : ByteArray) (k : Nat) (h : k < t.size) : t.data.toList.drop k = t[k] :: t.data.toList.drop (k + 1) := by
  have h' : k < t.data.toList.length := by simpa using h
  rw [List.drop_eq_getElem_cons h']
  congr 1
theorem drop_len (t : ByteArray) (k : Nat) : (t.data.toList.drop k).length = t.size - k := by simp
theorem drop_get (t : ByteArray) (k : Nat) (h : k + 1 < t.size) : (t.data.toList.drop k).getD 1 0 = t[k + 1] := by
  rw [drop_at t k (by omega), drop_at t (k + 1) h]; rfl
theorem u8 {b : UInt8} {n : Nat} (h : (b.toNat : Int) = n) (hn : n < 256) : b = UInt8.ofNat n := by
  apply UInt8.toNat_inj.1
  have e : (UInt8.ofNat n).toNat = n := by simp [UInt8.toNat_ofNat']; omega
  rw [e]; omega
theorem cats_end (t : ByteArray) (k sp : Nat) (h : ¬ k + 2 < t.size) : catsL (t.data.toList.drop k) sp = [] := by
  by_cases hk : k < t.size
  · rw [drop_at t k hk, catsL, if_pos (by rw [drop_len]; omega)]
  · rw [List.drop_of_length_le (by simp; exact Nat.le_of_not_lt hk)]; rfl
theorem cats_nl (t : ByteArray) (k sp : Nat) (h : k + 2 < t.size) (e : (t[k].toNat : Int) = 10) : catsL (t.data.toList.drop k) sp = catsL (t.data.toList.drop (k + 1)) 0 := by
  have e' : t[k] = 10 := u8 (n := 10) e (by decide)
  rw [drop_at t k (by omega), catsL, if_neg (by rw [drop_len]; omega), if_neg (by rw [e']; decide), if_pos e']
theorem cats_no (t : ByteArray) (k sp : Nat) (h : k + 2 < t.size) (e : ¬ (t[k].toNat : Int) = 10) (e2 : ¬ (t[k].toNat : Int) = 32) : catsL (t.data.toList.drop k) sp = catsL (t.data.toList.drop (k + 1)) sp := by
  have q1 : ¬ t[k] = 10 := fun q => e (by rw [q]; rfl)
  have q2 : ¬ t[k] = 32 := fun q => e2 (by rw [q]; rfl)
  rw [drop_at t k (by omega), catsL, if_neg (by rw [drop_len]; omega), if_neg q2, if_neg q1]
theorem cats_sp (t : ByteArray) (k sp : Nat) (h : k + 2 < t.size) (e : (t[k].toNat : Int) = 32) (h5 : ¬ sp + 1 = 5) : catsL (t.data.toList.drop k) sp = catsL (t.data.toList.drop (k + 1)) (sp + 1) := by
  have e' : t[k] = 32 := u8 (n := 32) e (by decide)
  rw [drop_at t k (by omega), catsL, if_neg (by rw [drop_len]; omega), if_pos e', if_neg h5]
theorem cats_5 (t : ByteArray) (k sp : Nat) (h : k + 2 < t.size) (e : (t[k].toNat : Int) = 32) (h5 : sp + 1 = 5) : catsL (t.data.toList.drop k) sp = t[k + 2] :: catsL (t.data.toList.drop (k + 1)) (sp + 1) := by
  have e' : t[k] = 32 := u8 (n := 32) e (by decide)
  rw [drop_at t k (by omega), catsL, if_neg (by rw [drop_len]; omega), if_pos e', if_pos h5, drop_get t (k + 1) (by omega)]
def catB (t : ByteArray) : ByteArray := ⟨(catsL t.data.toList 0).toArray⟩
theorem app_one (S t : ByteArray) (k : Nat) (h : k + 2 < t.size) : (S ++ t.extract (k + 2) (k + 3)).data.toList = S.data.toList ++ [t[k + 2]] := by
  have : (t.extract (k + 2) (k + 3)).data.toList = [t[k + 2]] := by
    rw [ByteArray.data_extract, Array.toList_extract]
    have e : (t.data.toList.drop (k + 2)).take (k + 3 - (k + 2)) = [t[k + 2]] := by rw [drop_at t (k + 2) h, show k + 3 - (k + 2) = 1 by omega]; rfl
    exact e
  rw [ByteArray.data_append, Array.toList_append, this]
theorem catB_of {S t : ByteArray} (h : S.data.toList = catsL t.data.toList 0) : S = catB t := by
  apply ByteArray.ext
  unfold catB
  rw [← h]
theorem catB_size {t : ByteArray} (h : t ∈ tabsL) : (catB t).size = tn t := by
  have := congrArg List.length (tabs_cats t h)
  unfold catT at this
  simp at this
  show (catsL t.data.toList 0).toArray.size = _
  simpa using this
theorem catB_at {t : ByteArray} (h : t ∈ tabsL) (i : Nat) (hi : i < (catB t).size) : ((catB t)[i].toNat : Int) = ob (tl t i) 1 := by
  have hl : i < (catsL t.data.toList 0).length := hi
  have q : ((catsL t.data.toList 0).map fun b => (b.toNat : Int))[i]? = (catT t)[i]? := by rw [tabs_cats t h]
  have hn : i < tn t := by rw [← catB_size h]; exact hi
  unfold catT at q
  rw [List.getElem?_map, List.getElem?_map, List.getElem?_eq_getElem hl, List.getElem?_range hn] at q
  exact Option.some.inj q
end Kp
set_option maxHeartbeats 2000000 in
theorem kcatches_any (t : ByteArray) (w : World) (hs : t.size ≤ 300) :
    Calls Tryd.prog 21 #[.string t] w fun e w' => e = .returned (.string (Kp.catB t)) ∧ w' = w := by
  go_enter Tryd.func21, Tryd.ntmps21
  go_wp2_with fail
  go_loop [3, 4, 5] (fun v p i => ∃ (k sp : Nat) (S : ByteArray), k ≤ t.size ∧ sp ≤ k ∧ S.size ≤ k ∧ i = .int .i64 k ∧ p = .int .i64 sp ∧ v = .string S ∧ S.data.toList ++ Kp.catsL (t.data.toList.drop k) sp = Kp.catsL t.data.toList 0) (fun _ _ i => t.size - (intOf i).toNat)
  case atStart => exact ⟨0, 0, { data := #[] }, Nat.zero_le _, Nat.zero_le _, Nat.zero_le _, rfl, rfl, rfl, by simp⟩
  case round =>
    obtain ⟨k, sp, S, hk, hsp, hS, rfl, rfl, rfl, hq⟩ := hrel
    have HQ : Hid (S.data.toList ++ Kp.catsL (t.data.toList.drop k) sp = Kp.catsL t.data.toList 0) := hq
    clear hq
    by_cases hlt : k + 2 < t.size
    · have b0 : (k : Int) + 2 < (t.size : Int) := by omega
      have hk1 : k < t.size := by omega
      by_cases h10 : (t[k].toNat : Int) = 10
      · have HN : Hid (S.data.toList ++ Kp.catsL (t.data.toList.drop (k + 1)) 0 = Kp.catsL t.data.toList 0) := by unfold Hid; rw [← Kp.cats_nl t k sp hlt h10]; exact HQ.out
        go_wp2_with fail
        go_round
        case rel => exact ⟨k + 1, 0, S, by omega, by omega, by omega, by go_num, rfl, rfl, HN.out⟩
        case measure => simp [intOf]; omega
      · by_cases h32 : (t[k].toNat : Int) = 32
        · by_cases h5 : sp + 1 = 5
          · have h5' : (sp : Int) + 1 = 5 := by omega
            have b3 : (k : Int) + 3 ≤ (t.size : Int) := by omega
            have b4 : (0 : Int) ≤ (k : Int) + 2 := by omega
            have b5 : (k : Int) + 2 ≤ (k : Int) + 3 := by omega
            have HN : Hid ((S ++ t.extract (k + 2) (k + 3)).data.toList ++ Kp.catsL (t.data.toList.drop (k + 1)) (sp + 1) = Kp.catsL t.data.toList 0) := by unfold Hid; rw [Kp.app_one S t k hlt, ← HQ.out, Kp.cats_5 t k sp hlt h32 h5]; simp
            have hz : (t.extract (k + 2) (k + 3)).size = 1 := by rw [ByteArray.size_extract]; omega
            have HZ : Hid ((S ++ t.extract (k + 2) (k + 3)).size ≤ k + 1) := by unfold Hid; rw [ByteArray.size_append, hz]; omega
            clear hz
            go_wp2_with fail
            go_round
            case rel => exact ⟨k + 1, sp + 1, _, by omega, by omega, HZ.out, by go_num, by go_num, rfl, HN.out⟩
            case measure => simp [intOf]; omega
          · have h5' : ¬ (sp : Int) + 1 = 5 := by omega
            have HN : Hid (S.data.toList ++ Kp.catsL (t.data.toList.drop (k + 1)) (sp + 1) = Kp.catsL t.data.toList 0) := by unfold Hid; rw [← Kp.cats_sp t k sp hlt h32 h5]; exact HQ.out
            go_wp2_with fail
            go_round
            case rel => exact ⟨k + 1, sp + 1, S, by omega, by omega, by omega, by go_num, by go_num, rfl, HN.out⟩
            case measure => simp [intOf]; omega
        · have HN : Hid (S.data.toList ++ Kp.catsL (t.data.toList.drop (k + 1)) sp = Kp.catsL t.data.toList 0) := by unfold Hid; rw [← Kp.cats_no t k sp hlt h10 h32]; exact HQ.out
          go_wp2_with fail
          go_round
          case rel => exact ⟨k + 1, sp, S, by omega, by omega, by omega, by go_num, rfl, rfl, HN.out⟩
          case measure => simp [intOf]; omega
    · have b0 : ¬ (k : Int) + 2 < (t.size : Int) := by omega
      have HN : Hid (S = Kp.catB t) := by
        apply Kp.catB_of
        rw [← HQ.out, Kp.cats_end t k sp hlt]; simp
      go_wp2_with fail
      go_ret
      exact ⟨ret_str HN.out, rfl⟩
theorem kdue_at (t : ByteArray) (i : Nat) (m : Int) (w : World) (ht : t ∈ Kp.tabsL) (hi : i < tn t) (m0 : 0 ≤ m) (m1 : m ≤ 4223371679) (hT : TT w) :
    Calls Tryd.prog 16 #[.string t, .int .i64 ((i : Int) + 1), .int .i64 m] w fun e w' => e = .returned (.tuple #[.bool (dueT (tl t i) m), .int .i64 0]) ∧ Below w.heap.size w w' := by
  refine (bdue_any t ((i : Int) + 1) m w (by have := (Kp.tabs_size t ht).1; unfold maxLen; omega) hT.lh hT.mo).mono ?_
  rintro e w' ⟨⟨x, r, rfl, hD⟩, hb⟩
  refine ⟨?_, hb⟩
  have hc := Kp.tabs_chk t ht
  rcases hD with ⟨a, r', h1, h2, _, _⟩ | ⟨_, h, _, _⟩ | ⟨_, j, h1, h2, _, _, y, mo, d, H, rfl, rfl⟩
  · exact absurd (ChkR.uniq h1 hc).2 h2
  · omega
  · obtain rfl : j = i := by omega
    rw [dueT_of H]
set_option maxHeartbeats 2000000 in
theorem kduec_n (t : ByteArray) (i : Nat) (a m : Int) (w : World) (ht : t ∈ Kp.tabsL) (hi : i < tn t) (hC : (110 : Int) = ob (tl t i) 1) (a0 : 0 ≤ a) (a1 : a ≤ m) (m1 : m ≤ 4223371679) (hT : TT w) :
    Calls Tryd.prog 22 #[.string t, .int .i64 ((i : Int) + 1), .int .u8 110, .int .i64 (a - 1), .int .i64 m] w fun e w' => e = .returned (.int .i64 (Bx.dueN (lnOf (tl t i)) a m)) ∧ Below w.heap.size w w' := by
  have HT : Hid (TT w) := hT
  have HM : Hid (t ∈ Kp.tabsL ∧ i < tn t) := ⟨ht, hi⟩
  have HC : Hid ((110 : Int) = (lnOf (tl t i)).catch') := hC
  have HD : Hid (∀ x, (lnOf (tl t i)).due x = dueT (tl t i) x) := fun _ => rfl
  have hi4 : (i : Int) ≤ 100 := by have := (Kp.tabs_tn t ht).2; omega
  clear hT ht hi hC
  generalize lnOf (tl t i) = ln at *
  go_enter Tryd.func22, Tryd.ntmps22
  go_wp2_with fail
  go_loopw [11, 12] (fun v j wr => ∃ k : Nat, (k : Int) ≤ m + 1 - a ∧ v = .int .i64 (Bx.cnF ln a m k) ∧ j = .int .i64 (a + k) ∧ Below w.heap.size w wr) (fun _ j _ => (m + 1 - intOf j).toNat)
  case atStart => exact ⟨0, by omega, rfl, by simp, Below.refl _ _⟩
  case round =>
    obtain ⟨k, hk, rfl, rfl, hb⟩ := hrel
    have HB : Hid (Below w.heap.size w wr) := hb
    clear hb
    have hn := Bx.cnF_le ln a m k
    by_cases hlt : a + (k : Int) ≤ m
    · have HT1 : Hid (TT wr) := HT.out.later HB.out
      go_wp2_with fail
      refine (kdue_at t i (a + (k : Int)) wr HM.out.1 HM.out.2 (by omega) (by omega) HT1.out).mono ?_
      obtain ⟨x, hx⟩ : ∃ x, dueT (tl t i) (a + (k : Int)) = x := ⟨_, rfl⟩
      rw [hx]
      have HX : Hid (ln.due (a + (k : Int)) = x) := (HD.out _).trans hx
      rintro e w1 ⟨rfl, hb1⟩
      have HB1 : Hid (Below w.heap.size w w1) := HB.out.trans (hb1.mono HB.out.size)
      clear HB HT1 hb1 hx
      have HNo : Hid (¬ (ln.due (a + (k : Int)) = true ∧ (ln.catch' = 110 → a + (k : Int) = m)) → Bx.cnF ln a m (k + 1) = Bx.cnF ln a m k) := fun q => by rw [Bx.cnF, if_neg q]; rfl
      have HYes : Hid ((ln.due (a + (k : Int)) = true ∧ (ln.catch' = 110 → a + (k : Int) = m)) → Bx.cnF ln a m (k + 1) = Bx.cnF ln a m k + 1) := fun q => by rw [Bx.cnF, if_pos q]
      generalize Bx.cnF ln a m k = N at *
      have hN2 : (N : Int) ≤ 5000000000 := by omega
      cases x with
      | false =>
        go_wp2_with fail
        go_roundw
        case rel => exact ⟨k + 1, by omega, by rw [HNo.out (fun q => by rw [HX.out] at q; exact absurd q.1 (by decide))], congrArg (Value.int .i64) (by omega), HB1.out⟩
        case measure => simp [intOf]; omega
      | true =>
        by_cases hm : a + (k : Int) = m
        · have HS : Hid (Bx.cnF ln a m (k + 1) = N + 1) := HYes.out ⟨HX.out, fun _ => hm⟩
          go_wp2_with fail
          go_roundw
          case rel => exact ⟨k + 1, by omega, by rw [HS.out]; exact congrArg (Value.int .i64) (by omega), congrArg (Value.int .i64) (by omega), HB1.out⟩
          case measure => simp [intOf]; omega
        · have HS : Hid (Bx.cnF ln a m (k + 1) = N) := HNo.out (fun q => hm (q.2 HC.out.symm))
          go_wp2_with fail
          go_roundw
          case rel => exact ⟨k + 1, by omega, by rw [HS.out], congrArg (Value.int .i64) (by omega), HB1.out⟩
          case measure => simp [intOf]; omega
    · have HK : Hid (Bx.dueN ln a m = if (110 : Int) = 108 ∧ 1 < Bx.cnF ln a m k then 1 else Bx.cnF ln a m k) := by
        unfold Hid Bx.dueN
        rw [show (m + 1 - a).toNat = k by omega, HC.out]
      generalize Bx.cnF ln a m k = N at *
      have hN2 : (N : Int) ≤ 5000000000 := by omega
      have HS : Hid (Bx.dueN ln a m = N) := by unfold Hid; rw [HK.out, if_neg (by omega)]
      go_wp2_with fail
      go_ret
      exact ⟨ret_int' (by rw [HS.out]), HB.out⟩
set_option maxHeartbeats 2000000 in
theorem kduec_o (t : ByteArray) (i : Nat) (C a m : Int) (w : World) (ht : t ∈ Kp.tabsL) (hi : i < tn t) (hC : C = ob (tl t i) 1) (h110 : ¬ C = 110) (a0 : 0 ≤ a) (a1 : a ≤ m) (m1 : m ≤ 4223371679) (hT : TT w) :
    Calls Tryd.prog 22 #[.string t, .int .i64 ((i : Int) + 1), .int .u8 C, .int .i64 (a - 1), .int .i64 m] w fun e w' => e = .returned (.int .i64 (Bx.dueN (lnOf (tl t i)) a m)) ∧ Below w.heap.size w w' := by
  have HT : Hid (TT w) := hT
  have HM : Hid (t ∈ Kp.tabsL ∧ i < tn t) := ⟨ht, hi⟩
  have HC : Hid (C = (lnOf (tl t i)).catch') := hC
  have HD : Hid (∀ x, (lnOf (tl t i)).due x = dueT (tl t i) x) := fun _ => rfl
  have hi4 : (i : Int) ≤ 100 := by have := (Kp.tabs_tn t ht).2; omega
  clear hT ht hi hC
  generalize lnOf (tl t i) = ln at *
  go_enter Tryd.func22, Tryd.ntmps22
  go_wp2_with fail
  go_loopw [11, 12] (fun v j wr => ∃ k : Nat, (k : Int) ≤ m + 1 - a ∧ v = .int .i64 (Bx.cnF ln a m k) ∧ j = .int .i64 (a + k) ∧ Below w.heap.size w wr) (fun _ j _ => (m + 1 - intOf j).toNat)
  case atStart => exact ⟨0, by omega, rfl, by simp, Below.refl _ _⟩
  case round =>
    obtain ⟨k, hk, rfl, rfl, hb⟩ := hrel
    have HB : Hid (Below w.heap.size w wr) := hb
    clear hb
    have hn := Bx.cnF_le ln a m k
    by_cases hlt : a + (k : Int) ≤ m
    · have HT1 : Hid (TT wr) := HT.out.later HB.out
      go_wp2_with fail
      refine (kdue_at t i (a + (k : Int)) wr HM.out.1 HM.out.2 (by omega) (by omega) HT1.out).mono ?_
      obtain ⟨x, hx⟩ : ∃ x, dueT (tl t i) (a + (k : Int)) = x := ⟨_, rfl⟩
      rw [hx]
      have HX : Hid (ln.due (a + (k : Int)) = x) := (HD.out _).trans hx
      rintro e w1 ⟨rfl, hb1⟩
      have HB1 : Hid (Below w.heap.size w w1) := HB.out.trans (hb1.mono HB.out.size)
      clear HB HT1 hb1 hx
      have HNo : Hid (¬ (ln.due (a + (k : Int)) = true ∧ (ln.catch' = 110 → a + (k : Int) = m)) → Bx.cnF ln a m (k + 1) = Bx.cnF ln a m k) := fun q => by rw [Bx.cnF, if_neg q]; rfl
      have HYes : Hid ((ln.due (a + (k : Int)) = true ∧ (ln.catch' = 110 → a + (k : Int) = m)) → Bx.cnF ln a m (k + 1) = Bx.cnF ln a m k + 1) := fun q => by rw [Bx.cnF, if_pos q]
      generalize Bx.cnF ln a m k = N at *
      have hN2 : (N : Int) ≤ 5000000000 := by omega
      cases x with
      | false =>
        go_wp2_with fail
        go_roundw
        case rel => exact ⟨k + 1, by omega, by rw [HNo.out (fun q => by rw [HX.out] at q; exact absurd q.1 (by decide))], congrArg (Value.int .i64) (by omega), HB1.out⟩
        case measure => simp [intOf]; omega
      | true =>
        have HS : Hid (Bx.cnF ln a m (k + 1) = N + 1) := HYes.out ⟨HX.out, fun q => absurd (by rw [HC.out]; exact q) h110⟩
        go_wp2_with fail
        go_roundw
        case rel => exact ⟨k + 1, by omega, by rw [HS.out]; exact congrArg (Value.int .i64) (by omega), congrArg (Value.int .i64) (by omega), HB1.out⟩
        case measure => simp [intOf]; omega
    · have HK : Hid (Bx.dueN ln a m = if C = 108 ∧ 1 < Bx.cnF ln a m k then 1 else Bx.cnF ln a m k) := by
        unfold Hid Bx.dueN
        rw [show (m + 1 - a).toNat = k by omega, HC.out]
      generalize Bx.cnF ln a m k = N at *
      have hN2 : (N : Int) ≤ 5000000000 := by omega
      by_cases h108 : C = 108
      · by_cases h1 : 1 < (N : Int)
        · have HS : Hid (Bx.dueN ln a m = 1) := by unfold Hid; rw [HK.out, if_pos ⟨h108, by omega⟩]
          go_wp2_with fail
          go_ret
          exact ⟨ret_int' (by rw [HS.out]; rfl), HB.out⟩
        · have HS : Hid (Bx.dueN ln a m = N) := by unfold Hid; rw [HK.out, if_neg (by omega)]
          go_wp2_with fail
          go_ret
          exact ⟨ret_int' (by rw [HS.out]), HB.out⟩
      · have HS : Hid (Bx.dueN ln a m = N) := by unfold Hid; rw [HK.out, if_neg (by omega)]
        go_wp2_with fail
        go_ret
        exact ⟨ret_int' (by rw [HS.out]), HB.out⟩
theorem kduec_any (t : ByteArray) (i : Nat) (C a m : Int) (w : World) (ht : t ∈ Kp.tabsL) (hi : i < tn t) (hC : C = ob (tl t i) 1) (a0 : 0 ≤ a) (a1 : a ≤ m) (m1 : m ≤ 4223371679) (hT : TT w) :
    Calls Tryd.prog 22 #[.string t, .int .i64 ((i : Int) + 1), .int .u8 C, .int .i64 (a - 1), .int .i64 m] w fun e w' => e = .returned (.int .i64 (Bx.dueN (lnOf (tl t i)) a m)) ∧ Below w.heap.size w w' := by
  by_cases h : C = 110
  · subst h; exact kduec_n t i a m w ht hi hC a0 a1 m1 hT
  · exact kduec_o t i C a m w ht hi hC h a0 a1 m1 hT
end Go.Proofs.YtdajolpoiffimaaDoor

namespace Go.Proofs.YtdajolpoiffimaaDoor
open Go.RowKit

theorem beg_sum {l r : Int} {t : ByteArray} {c : Int} (_hc : 0 ≤ c) : begG l r t c = ((Bx.sumN t c c (tn t) : Nat) : Int) := by
  rw [Bx.sumN_total t c c (by omega)]
  rfl
theorem tick_sum {b : Px.Bo} {l r : Int} {t : ByteArray} {c g : Int} (h : Px.KI b l r t c g) (hc : 0 ≤ c) {m : Int} (hm : c < m) : ((Px.comesP b.st m).length : Int) = ((Bx.sumN t (c + 1) m (tn t) : Nat) : Int) := by
  rw [Bx.sumN_total t (c + 1) m (by omega)]
  unfold Px.comesP Px.newA
  rw [h.clk, h.tab, if_neg (by omega)]
theorem beg_ci {l r : Int} {t : ByteArray} {c : Int} (hm : mayB l r = true) (ht : t ∈ Kp.tabsL) (c0 : 0 ≤ c) (c1 : c ≤ 4223371679) : Px.CI (begB l r t c) l r t c (begG l r t c) := by
  obtain ⟨h1, h2, _⟩ := ld_ki hm ht
  obtain ⟨k1, _⟩ := beg_ki hm ht c0 c1
  exact Px.CI.first h1 h2 (by rw [k1])
theorem ki_g {b : Px.Bo} {l r : Int} {t : ByteArray} {c g : Int} (h : Px.KI b l r t c g) : 0 ≤ g ∧ g ≤ 9999 := by
  have h1 : 1 ≤ b.st.next := h.may.n1
  have h2 : b.st.next ≤ 10000 := h.may.n2
  have := h.nxt
  omega
theorem ki_log {b : Px.Bo} {l r : Int} {t : ByteArray} {c g : Int} (h : Px.KI b l r t c g) : b.log.size ≤ 10000 ∧ 1 ≤ l ∧ l ≤ 4 := by have := h.log; omega
theorem dueN_le (ln : Bx.Ln) (a m : Int) : Bx.dueN ln a m ≤ (m + 1 - a).toNat := by
  have := Bx.cnF_le ln a m (m + 1 - a).toNat
  unfold Bx.dueN; split <;> omega
theorem kduec_from (t : ByteArray) (i : Nat) (C f m : Int) (w : World) (ht : t ∈ Kp.tabsL) (hi : i < tn t) (hC : C = ob (tl t i) 1) (a0 : 0 ≤ f + 1) (a1 : f + 1 ≤ m) (m1 : m ≤ 4223371679) (hT : TT w) :
    Calls Tryd.prog 22 #[.string t, .int .i64 ((i : Int) + 1), .int .u8 C, .int .i64 f, .int .i64 m] w fun e w' => e = .returned (.int .i64 (Bx.dueN (lnOf (tl t i)) (f + 1) m)) ∧ Below w.heap.size w w' := by
  have h := kduec_any t i C (f + 1) m w ht hi hC a0 a1 m1 hT
  rw [show f + 1 - 1 = f by omega] at h
  exact h
set_option maxRecDepth 10000 in
set_option maxHeartbeats 8000000 in
theorem kcounted_any (a0 a1 a2 a3 : Int) (K : List Int) (kv : Value) (w : World) (h0 : I64 a0) (h1 : I64 a1) (h2 : I64 a2) (h3 : I64 a3) (hT : TT w) (hK : NumsAt w kv K) (hKl : K.length ≤ 9223372036854775807) (hKb : ∀ c ∈ K, -9223372036854775808 ≤ c ∧ c ≤ 9223372036854775807) :
    Calls Tryd.prog 6 #[suV a0 a1 a2 a3, kv] w fun e w' => e = .returned (.bool true) ∧ Below w.heap.size w w' := by
  obtain ⟨kad, kcap, rfl, hkc⟩ := hK.form
  have hb0 := below_alloc w (suO a0 a1 a2 a3)
  have hs := Cl.new w [.int .i64 a0, .int .i64 a1, .int .i64 a2, .int .i64 a3] 46
  have HKb : Hid (∀ c ∈ K, -9223372036854775808 ≤ c ∧ c ≤ 9223372036854775807) := hKb
  have HI : Hid (I64 a0 ∧ I64 a1 ∧ I64 a2 ∧ I64 a3) := ⟨h0, h1, h2, h3⟩
  have HT : Hid (TT (w.alloc (suO a0 a1 a2 a3))) := hT.later hb0
  have HK : Hid (NumsAt (w.alloc (suO a0 a1 a2 a3)) (.slice kad K.length kcap) K) := hK.later hb0
  clear h0 h1 h2 h3 hT hK hKb
  go_enter Tryd.func6, Tryd.ntmps6
  go_upto_region 1 with fail
  have hs' : Cl (w.alloc (suO a0 a1 a2 a3)) w.heap.size 46 [.int .i64 a0, .int .i64 a1, .int .i64 a2, .int .i64 a3] := hs
  clear hs
  generalize w.alloc (suO a0 a1 a2 a3) = W at *
  have HB0 : Hid (Below w.heap.size w W) := hb0
  have s0 : W.cell? ⟨w.heap.size, 0, none⟩ = some (.int .i64 a0) := hs'.c 0 _ rfl
  have s1 : W.cell? ⟨w.heap.size, 1, none⟩ = some (.int .i64 a1) := hs'.c 1 _ rfl
  have s2 : W.cell? ⟨w.heap.size, 2, none⟩ = some (.int .i64 a2) := hs'.c 2 _ rfl
  have s3 : W.cell? ⟨w.heap.size, 3, none⟩ = some (.int .i64 a3) := hs'.c 3 _ rfl
  have hqs := hs'.ty.lt
  clear hs' hb0
  go_wp2_with fail
  refine (kbegun_any a0 a1 a2 a3 W HI.out.1 HI.out.2.1 HI.out.2.2.1 HI.out.2.2.2 HT.out).mono ?_
  rintro e w1 ⟨P, B, rfl, hW⟩
  have hM := s_may a0 a1
  have hm := (sT_mem a2).1
  have hc := pk_bd a3 4223371680 (by decide)
  have hc' : 0 ≤ sC a3 ∧ sC a3 ≤ 4223371679 := by unfold sC; omega
  generalize sL a0 = l at *
  generalize sR a1 = r at *
  generalize sT a2 = t at *
  generalize sC a3 = c at *
  obtain ⟨c0, c1⟩ := hc'
  have hCI := beg_ci hM hm c0 c1
  have hG := beg_sum (l := l) (r := r) (t := t) c0
  have hgb := (beg_ki hM hm c0 c1).2
  have hg4 : begG l r t c ≤ 4 := hgb.2.1
  have hg0 : 0 ≤ begG l r t c := hgb.1
  generalize begG l r t c = g at *
  generalize begB l r t c = b at *
  have HCI : Hid (Px.CI b l r t c g) := hCI
  have HG : Hid (g = ((Bx.sumN t c c (tn t) : Nat) : Int)) := hG
  have HMem : Hid (t ∈ Kp.tabsL) := hm
  have hts : t.size ≤ 300 := Nat.le_trans (Kp.tabs_size t hm).1 (by decide)
  have htn := Kp.tabs_tn t hm
  have HW1 : Hid (KW W w1 P B l r t c g b) := hW
  have c3 : w1.cell? ⟨P, 3, none⟩ = some (.string t) := hW.p.c 3 _ rfl
  have hP1 := hW.p.ty.lt
  clear hM hm hc hCI hG hgb hW s0 s1 s2 s3 hqs
  go_wp2_with fail
  refine (kcatches_any t _ hts).mono ?_
  rintro e w1' ⟨rfl, hw1⟩
  have hw1s := hw1.symm
  subst hw1s
  have HCs : Hid ((Kp.catB t).size = tn t) := Kp.catB_size HMem.out
  have HCa : Hid (∀ (i : Nat) (hi : i < (Kp.catB t).size), ((Kp.catB t)[i].toNat : Int) = ob (tl t i) 1) := Kp.catB_at HMem.out
  generalize Kp.catB t = ct at *
  have hcs1 : 1 ≤ ct.size := by rw [HCs.out]; exact htn.1
  have hcs4 : ct.size ≤ 4 := by rw [HCs.out]; exact htn.2
  clear hw1 htn c3 hts
  go_wp2_with fail
  go_loopw [8, 9] (fun v j wx => ∃ k : Nat, k ≤ ct.size ∧ v = .int .i64 (Bx.sumN t c c k) ∧ j = .int .i64 ((k : Int) + 1) ∧ Below w1.heap.size w1 wx) (fun _ j _ => ((ct.size : Int) + 1 - intOf j).toNat)
  case atStart => exact ⟨0, Nat.zero_le _, rfl, rfl, Below.refl _ _⟩
  case round =>
    obtain ⟨k, hk, rfl, rfl, hbx⟩ := hrel
    have HBx : Hid (Below w1.heap.size w1 wr) := hbx
    have hWx := HW1.out.later hbx
    have HWx : Hid (KW W wr P B l r t c g b) := hWx
    have c3 : wr.cell? ⟨P, 3, none⟩ = some (.string t) := hWx.p.c 3 _ rfl
    have c4 : wr.cell? ⟨P, 4, none⟩ = some (.int .i64 c) := hWx.p.c 4 _ rfl
    have c5 : wr.cell? ⟨P, 5, none⟩ = some (.int .i64 g) := hWx.p.c 5 _ rfl
    have hPx := hWx.p.ty.lt
    have hsm : Bx.sumN t c c k ≤ 4 := by
      have := Bx.sumN_le t c c k
      rw [show (c + 1 - c).toNat = 1 by omega] at this
      omega
    clear hbx hWx
    by_cases hlt : k < ct.size
    · clear c5
      have b1 : (k : Int) + 1 ≤ (ct.size : Int) := by omega
      have b0 : (0 : Int) ≤ (k : Int) := by omega
      have b2 : (k : Int) < (ct.size : Int) := by omega
      have wr1 : IntKind.i64.wrap ((k : Int) + 1 - 1) = (k : Int) := by rw [IntKind.wrap_i64]; omega
      have wr0 : IntKind.i64.wrap (k : Int) = (k : Int) := by rw [IntKind.wrap_i64]; omega
      have wr2 : IntKind.i64.wrap (c - 1) = c - 1 := by rw [IntKind.wrap_i64]; omega
      have HSs : Hid (Bx.sumN t c c (k + 1) = Bx.sumN t c c k + Bx.dueN (lnOf (tl t k)) c c) := rfl
      have hdn := dueN_le (lnOf (tl t k)) c c
      have HTx : Hid (TT wr.drew) := HT.out.later (HWx.out.bl.drew)
      have hko := HCs.out
      have HDu : Hid (∀ wq : World, TT wq → Calls Tryd.prog 22 #[.string t, .int .i64 ((k : Int) + 1), .int .u8 (ct[k].toNat : Int), .int .i64 (c - 1), .int .i64 c] wq fun e w' => e = .returned (.int .i64 (Bx.dueN (lnOf (tl t k)) c c)) ∧ Below wq.heap.size wq w') := fun wq hq => kduec_any t k _ c c wq HMem.out (by omega) (HCa.out k hlt) (by omega) (by omega) (by omega) hq
      generalize Bx.dueN (lnOf (tl t k)) c c = N at *
      generalize hsk : Bx.sumN t c c k = Sm at *
      clear hsk hko
      go_wp2_with fail
      go_region_held3 (fun w' => ∀ b o, b < wr.heap.size → w'.cell? ⟨b, o, none⟩ = wr.cell? ⟨b, o, none⟩)
        ((intro b' o' h1; first | (exact hbC.cell (p := ⟨b', o', none⟩) h1) | rfl))
        ((go_at_call 22; refine (HDu.out _ HTx.out).mono ?_; rintro e w5 ⟨rfl, hb5⟩; have hbC : Below wr.heap.size wr w5 := (Below.refl _ _).drew.trans hb5))
      rename ∀ (b o : Nat), b < wr.heap.size → w5.cell? ⟨b, o, none⟩ = wr.cell? ⟨b, o, none⟩ => hSold
      have HBn : Hid (Below _ _ w5) := HBx.out.trans (hbC.mono HBx.out.size)
      clear hSold c3 c4 hb5 hbC HDu HTx
      go_wp2_with fail
      go_roundw
      case rel => exact ⟨k + 1, by omega, by rw [HSs.out]; exact congrArg (Value.int .i64) (by omega), congrArg (Value.int .i64) (by omega), HBn.out⟩
      case measure => simp [intOf]; omega

    · obtain rfl : k = ct.size := by omega
      have hsg : ((Bx.sumN t c c ct.size : Nat) : Int) = g := by rw [HG.out, HCs.out]
      rw [hsg]
      have b1 : ¬ (ct.size : Int) + 1 ≤ (ct.size : Int) := by omega
      have b2 : ¬ (ct.size : Int) = 0 := by omega
      have HWs : Hid (KW W wr P B l r t c g b) := HWx.out
      have HCs2 : Hid (0 ≤ c ∧ c ≤ 4223371679 ∧ Px.CI b l r t c g) := ⟨c0, c1, HCI.out⟩
      clear hsg hsm HBx HW1 HG HCI HWx hk c3 c4
      go_wp2_with fail
      go_loopw [11] (fun j wx => ∃ (k : Nat) (c g : Int) (b : Px.Bo), k ≤ K.length ∧ j = .int .i64 k ∧ 0 ≤ c ∧ c ≤ 4223371679 ∧ Px.CI b l r t c g ∧ KW W wx P B l r t c g b) (fun j _ => K.length - (intOf j).toNat)
      case atStart => exact ⟨0, c, g, b, Nat.zero_le _, rfl, HCs2.out.1, HCs2.out.2.1, HCs2.out.2.2, HWs.out⟩
      case round =>
        clear c0 c1 c5 hPx hg4 hg0 HWs HCs2 b1 b2
        rename World => wf
        obtain ⟨j, c, g, b, hj, rfl, c0, c1, hCI, hW⟩ := hrel
        have HCIf : Hid (Px.CI b l r t c g) := hCI
        have HWwf : Hid (KW W wf P B l r t c g b) := hW
        clear hCI hW
        by_cases hlt : j < K.length
        · obtain ⟨kb, koff, kcap2, hkv, hkc2⟩ := nums_at (HK.out.later HWwf.out.bl) hlt
          cases hkv
          have c4 : wf.cell? ⟨P, 4, none⟩ = some (.int .i64 c) := HWwf.out.p.c 4 _ rfl
          have hPf := HWwf.out.p.ty.lt
          have hkl : kb < wf.heap.size := World.block_lt_of_cell? _ _ hkc2
          have b0 : (0 : Int) ≤ (j : Int) := by omega
          have b1 : (j : Int) < (K.length : Int) := by omega
          have hKc := HKb.out K[j] (List.getElem_mem hlt)
          have hp := pk_bd K[j] 60 (by decide)
          generalize K[j] = kj at *
          obtain ⟨p, hpe⟩ : ∃ p, pk kj 60 = p := ⟨_, rfl⟩
          rw [hpe] at hp
          obtain ⟨hp0, hp1⟩ := hp
          have C0 : Hid (∀ wq : World, Calls Tryd.prog 18 #[.int .i64 kj, .int .i64 60] wq fun e w' => e = .returned (.int .i64 p) ∧ w' = wq) := fun wq => pick_at kj 60 p wq hpe hKc.1 hKc.2 (by decide) (by decide)
          have wr1 : IntKind.i64.wrap (c + 1) = c + 1 := by rw [IntKind.wrap_i64]; omega
          have wr2 : IntKind.i64.wrap (c + 1 + p) = c + 1 + p := by rw [IntKind.wrap_i64]; omega
          have HWg' : Hid (KW W wf.drew P B l r t c g b) := HWwf.out.later (Below.refl _ _).drew
          clear hpe hKc
          go_wp2_with fail
          go_region_held3 (fun w' => ∀ b o, b < wf.heap.size → w'.cell? ⟨b, o, none⟩ = wf.cell? ⟨b, o, none⟩)
            ((intro b' o' h1; rfl))
            ((go_at_call 18; refine (C0.out _).mono ?_; rintro e w5 ⟨rfl, rfl⟩))
          rename ∀ (b o : Nat), b < wf.heap.size → _ = wf.cell? _ => hSold
          clear hSold c4 hPf hkc2 hkl C0
          try rw [wr1]
          try rw [wr2]
          clear wr1 wr2
          generalize hwg : wf.drew = wg at *
          have HWg : Hid (KW W wg P B l r t c g b) := HWg'.out
          clear HWg' hwg HWwf
          obtain ⟨tm, hto⟩ : ∃ tm, c + 1 + p = tm := ⟨_, rfl⟩
          rw [hto]
          have ht1 : c < tm := by omega
          have ht2 : tm ≤ c + 60 := by omega
          clear hto hp0 hp1
          by_cases hmx : 4223371679 < tm
          · have HWwg : Hid (KW W wg P B l r t c g b) := HWg.out
            clear HWg
            have HCk := HCIf.out.ki
            have hnx := HCk.nxt
            have hmany := HCIf.out.many
            have c0 : wg.cell? ⟨P, 0, none⟩ = some (.pointer (some ⟨B, 0, none⟩)) := HWwg.out.p.c 0 _ rfl
            have hPf := HWwg.out.p.ty.lt
            have hgf := ki_g HCk
            clear HCk
            have HNx : Hid (b.st.next = 1 + g) := hnx
            have HMn : Hid ((b.st.slots.length : Int) = if 8 < g then 8 else g) := hmany
            clear hnx hmany
            go_wp2_with fail
            refine (klook_any b B W _ HWwg.out.b).mono ?_
            unfold pviewV
            rw [HNx.out, HMn.out]
            rintro e wL ⟨rfl, _, hbL⟩
            have hWL := (HWwg.out.later hbL).later (below_alloc wL (.cells #[.int .i64 b.st.clock, .int .i64 (1 + g), .int .i64 (if 8 < g then 8 else g), .int .i64 b.st.ends.length, .string b.st.tab] 59))
            have hV := Cl.new wL [.int .i64 b.st.clock, .int .i64 (1 + g), .int .i64 (if 8 < g then 8 else g), .int .i64 b.st.ends.length, .string b.st.tab] 59
            clear hbL HNx HMn c0
            have HFin : Hid (∀ n, Below w.heap.size w ((wL.alloc (.cells #[.int .i64 b.st.clock, .int .i64 (1 + g), .int .i64 (if 8 < g then 8 else g), .int .i64 b.st.ends.length, .string b.st.tab] 59)).drewN n)) := fun n => below_drewN (HB0.out.trans (hWL.bl.mono HB0.out.size)) n
            have v1 : (wL.alloc (.cells #[.int .i64 b.st.clock, .int .i64 (1 + g), .int .i64 (if 8 < g then 8 else g), .int .i64 b.st.ends.length, .string b.st.tab] 59)).cell? ⟨wL.heap.size, 1, none⟩ = some (.int .i64 (1 + g)) := hV.c 1 _ rfl
            have v2 : (wL.alloc (.cells #[.int .i64 b.st.clock, .int .i64 (1 + g), .int .i64 (if 8 < g then 8 else g), .int .i64 b.st.ends.length, .string b.st.tab] 59)).cell? ⟨wL.heap.size, 2, none⟩ = some (.int .i64 (if 8 < g then 8 else g)) := hV.c 2 _ rfl
            have hvq : wL.heap.size < (wL.alloc (.cells #[.int .i64 b.st.clock, .int .i64 (1 + g), .int .i64 (if 8 < g then 8 else g), .int .i64 b.st.ends.length, .string b.st.tab] 59)).heap.size := hV.ty.lt
            clear hV
            go_upto_region 37 with fail
            generalize wL.alloc (.cells #[.int .i64 b.st.clock, .int .i64 (1 + g), .int .i64 (if 8 < g then 8 else g), .int .i64 b.st.ends.length, .string b.st.tab] 59) = WL at *
            generalize wL.heap.size = vq at *
            have c5 : WL.cell? ⟨P, 5, none⟩ = some (.int .i64 g) := hWL.p.c 5 _ rfl
            have hPL := hWL.p.ty.lt
            clear hWL
            by_cases h8 : 8 < g
            · rw [if_pos h8] at v2
              go_wp2_with fail
              go_quiet (fail)
              go_wp2_with fail
              go_ret
              exact ⟨rfl, HFin.out _⟩
            · rw [if_neg h8] at v2
              go_wp2_with fail
              go_quiet (fail)
              go_wp2_with fail
              go_ret
              exact ⟨rfl, HFin.out _⟩

          · go_wp2_with fail
            go_loopw [13, 14] (fun v i wx => ∃ k : Nat, k ≤ ct.size ∧ v = .int .i64 (Bx.sumN t (c + 1) tm k) ∧ i = .int .i64 ((k : Int) + 1) ∧ Below wg.heap.size wg wx) (fun _ i _ => ((ct.size : Int) + 1 - intOf i).toNat)
            case atStart => exact ⟨0, Nat.zero_le _, rfl, rfl, Below.refl _ _⟩
            case round =>
              obtain ⟨k, hk, rfl, rfl, hbx⟩ := hrel
              have HBx : Hid (Below wg.heap.size wg wr) := hbx
              have hWx := HWg.out.later hbx
              have HWx : Hid (KW W wr P B l r t c g b) := hWx
              have c3 : wr.cell? ⟨P, 3, none⟩ = some (.string t) := hWx.p.c 3 _ rfl
              have c4 : wr.cell? ⟨P, 4, none⟩ = some (.int .i64 c) := hWx.p.c 4 _ rfl
              have hPx := hWx.p.ty.lt
              have hsm : Bx.sumN t (c + 1) tm k ≤ 240 := by
                have h1 := Bx.sumN_le t (c + 1) tm k
                have h2 : k * (tm + 1 - (c + 1)).toNat ≤ 4 * 60 := Nat.mul_le_mul (by omega) (by omega)
                omega
              clear hbx hWx
              by_cases hlt : k < ct.size
              · have b1 : (k : Int) + 1 ≤ (ct.size : Int) := by omega
                have b0 : (0 : Int) ≤ (k : Int) := by omega
                have b2 : (k : Int) < (ct.size : Int) := by omega
                have wr1 : IntKind.i64.wrap ((k : Int) + 1 - 1) = (k : Int) := by rw [IntKind.wrap_i64]; omega
                have wr0 : IntKind.i64.wrap (k : Int) = (k : Int) := by rw [IntKind.wrap_i64]; omega
                have HSs : Hid (Bx.sumN t (c + 1) tm (k + 1) = Bx.sumN t (c + 1) tm k + Bx.dueN (lnOf (tl t k)) (c + 1) tm) := rfl
                have hdn := dueN_le (lnOf (tl t k)) (c + 1) tm
                have HTx : Hid (TT wr.drew) := HT.out.later (HWx.out.bl.drew)
                have hko := HCs.out
                have HDu : Hid (∀ wq : World, TT wq → Calls Tryd.prog 22 #[.string t, .int .i64 ((k : Int) + 1), .int .u8 (ct[k].toNat : Int), .int .i64 c, .int .i64 tm] wq fun e w' => e = .returned (.int .i64 (Bx.dueN (lnOf (tl t k)) (c + 1) tm)) ∧ Below wq.heap.size wq w') := fun wq hq => kduec_from t k _ c tm wq HMem.out (by omega) (HCa.out k hlt) (by omega) (by omega) (by omega) hq
                generalize Bx.dueN (lnOf (tl t k)) (c + 1) tm = N at *
                generalize hsk : Bx.sumN t (c + 1) tm k = Sm at *
                clear hsk hko
                go_wp2_with fail
                go_region_held3 (fun w' => ∀ b o, b < wr.heap.size → w'.cell? ⟨b, o, none⟩ = wr.cell? ⟨b, o, none⟩)
                  ((intro b' o' h1; first | (exact hbC.cell (p := ⟨b', o', none⟩) h1) | rfl))
                  ((go_at_call 22; refine (HDu.out _ HTx.out).mono ?_; rintro e w5 ⟨rfl, hb5⟩; have hbC : Below wr.heap.size wr w5 := (Below.refl _ _).drew.trans hb5))
                rename ∀ (b o : Nat), b < wr.heap.size → w5.cell? ⟨b, o, none⟩ = wr.cell? ⟨b, o, none⟩ => hSold
                have HBn : Hid (Below _ _ w5) := HBx.out.trans (hbC.mono HBx.out.size)
                clear hSold c3 c4 hb5 hbC HDu HTx
                go_wp2_with fail
                go_roundw
                case rel => exact ⟨k + 1, by omega, by rw [HSs.out]; exact congrArg (Value.int .i64) (by omega), congrArg (Value.int .i64) (by omega), HBn.out⟩
                case measure => simp [intOf]; omega

              · obtain rfl : k = ct.size := by omega
                have hsg : ((Bx.sumN t (c + 1) tm ct.size : Nat) : Int) = ((Px.comesP b.st tm).length : Int) := by rw [tick_sum HCIf.out.ki c0 ht1, HCs.out]
                rw [hsg]
                have b1 : ¬ (ct.size : Int) + 1 ≤ (ct.size : Int) := by omega
                have c00 : wr.cell? ⟨P, 0, none⟩ = some (.pointer (some ⟨B, 0, none⟩)) := HWx.out.p.c 0 _ rfl
                have hcod := Px.tick_codes b tm (by omega) (by omega) (HCIf.out.ki.ahead ht1 (by omega))
                have hCt := fun h0 => HCIf.out.tick (ki_g HCIf.out.ki).1 (m := tm) h0
                have hwn : ((Px.comesP b.st tm).length : Int) ≤ 240 := by have := HCIf.out.ki.many c0 ht1; omega
                have hg9 := ki_g HCIf.out.ki
                have hll := ki_log HCIf.out.ki
                have H7 : Hid (10000 < b.st.next + ((Px.comesP b.st tm).length : Int) → 9999 < g + 4 * (tm - c)) := HCIf.out.ki.ids7 c0 ht1
                have H13 : Hid ((Px.clockP b.st tm).2 = 0 → b.room < (b.log.size : Int) + (Px.tickQ b tm).2.size → r < (b.log.size : Int) + (12 + 9 * l)) := HCIf.out.ki.room13
                generalize ((Px.comesP b.st tm).length : Int) = want at *
                clear hsg hsm HBx HWg hk c3 c4
                rcases hcod with h0 | ⟨hb', hn0, ⟨h7, hi7⟩ | ⟨h13, hc13, hr13⟩⟩
                · obtain ⟨q1, q2⟩ := hCt h0
                  have HR : Hid ((Px.tickB b tm).2 = (want, 0)) := Prod.ext q1 h0
                  have HC2 : Hid (Px.CI (Px.tickB b tm).1 l r t tm (g + want)) := q2
                  have hgw := ki_g q2.ki
                  clear hCt q1 q2 h0 H7 H13
                  go_wp2_with fail
                  refine (ktick_any b B tm W _ HCIf.out.ki.ok hll.1 HT.out HWx.out.b).mono ?_
                  rw [HR.out]
                  generalize (Px.tickB b tm).1 = b2 at *
                  rintro e w6 ⟨rfl, hK6, hg6⟩
                  have hW6 := HWx.out.call hK6 hg6
                  have c4 : w6.cell? ⟨P, 4, none⟩ = some (.int .i64 c) := hW6.p.c 4 _ rfl
                  have f4 := hW6.p.f 4 (by simp)
                  have hP6 := hW6.p.ty.lt
                  have hW7 : KW W (w6.setCell ⟨P, 4, none⟩ (.int .i64 tm)) P B l r t tm g b2 := hW6.set 4 _ (by decide) rfl
                  clear c00 hK6 hg6 hW6 HR
                  go_upto_region 35 with fail
                  clear c4 f4
                  generalize w6.setCell ⟨P, 4, none⟩ (.int .i64 tm) = W7 at *
                  have c5 : W7.cell? ⟨P, 5, none⟩ = some (.int .i64 g) := hW7.p.c 5 _ rfl
                  have f5 := hW7.p.f 5 (by simp)
                  have hP7 := hW7.p.ty.lt
                  have HW8 : Hid (KW W (W7.setCell ⟨P, 5, none⟩ (.int .i64 (g + want))) P B l r t tm (g + want) b2) := hW7.set 5 _ (by decide) rfl
                  clear hW7
                  go_wp2_with fail
                  go_roundw
                  case rel => exact ⟨j + 1, tm, g + want, b2, by omega, congrArg (Value.int .i64) (by omega), by omega, by omega, HC2.out, HW8.out⟩
                  case measure => simp [intOf]; omega
                · have HR : Hid ((Px.tickB b tm).1 = b ∧ (Px.tickB b tm).2 = (0, 7)) := ⟨hb', Prod.ext hn0 h7⟩
                  have HTk : Hid (tkd b l r g 7 (tm - c) = true) := by
                    have := H7.out hi7
                    unfold Hid tkd; simp; omega
                  clear hCt H7 H13 hb' hn0 h7 hi7
                  go_wp2_with fail
                  refine (ktick_any b B tm W _ HCIf.out.ki.ok hll.1 HT.out HWx.out.b).mono ?_
                  rw [HR.out.1, HR.out.2]
                  rintro e w6 ⟨rfl, hK6, hg6⟩
                  have hW6 := HWx.out.call hK6 hg6
                  have HW6 : Hid (KW W w6 P B l r t c g b) := hW6
                  have c4 : w6.cell? ⟨P, 4, none⟩ = some (.int .i64 c) := hW6.p.c 4 _ rfl
                  have hP6 := hW6.p.ty.lt
                  clear c00 hK6 hg6 hW6 HR
                  go_wp2_with fail
                  refine (kticked_any 7 (tm - c) W _ P B l r t c g b (by omega) (by omega) (by omega) (by omega) (by omega) (by omega) hll.1 HW6.out).mono ?_
                  rw [HTk.out]
                  rintro e w7 ⟨rfl, hw7⟩
                  have hw7s := hw7.symm
                  subst hw7s
                  clear c4 hw7
                  go_wp2_with fail
                  go_ret
                  exact ⟨rfl, HB0.out.trans (HW6.out.bl.mono HB0.out.size)⟩

                · have HR : Hid ((Px.tickB b tm).1 = b ∧ (Px.tickB b tm).2 = (0, 13)) := ⟨hb', Prod.ext hn0 h13⟩
                  have HTk : Hid (tkd b l r g 13 (tm - c) = true) := by
                    have := H13.out hc13 hr13
                    unfold Hid tkd; simp; omega
                  clear hCt H7 H13 hb' hn0 h13 hc13 hr13
                  go_wp2_with fail
                  refine (ktick_any b B tm W _ HCIf.out.ki.ok hll.1 HT.out HWx.out.b).mono ?_
                  rw [HR.out.1, HR.out.2]
                  rintro e w6 ⟨rfl, hK6, hg6⟩
                  have hW6 := HWx.out.call hK6 hg6
                  have HW6 : Hid (KW W w6 P B l r t c g b) := hW6
                  have c4 : w6.cell? ⟨P, 4, none⟩ = some (.int .i64 c) := hW6.p.c 4 _ rfl
                  have hP6 := hW6.p.ty.lt
                  clear c00 hK6 hg6 hW6 HR
                  go_wp2_with fail
                  refine (kticked_any 13 (tm - c) W _ P B l r t c g b (by omega) (by omega) (by omega) (by omega) (by omega) (by omega) hll.1 HW6.out).mono ?_
                  rw [HTk.out]
                  rintro e w7 ⟨rfl, hw7⟩
                  have hw7s := hw7.symm
                  subst hw7s
                  clear c4 hw7
                  go_wp2_with fail
                  go_ret
                  exact ⟨rfl, HB0.out.trans (HW6.out.bl.mono HB0.out.size)⟩

        · have b1 : ¬ (j : Int) < (K.length : Int) := by omega
          have HCk := HCIf.out.ki
          have hnx := HCk.nxt
          have hmany := HCIf.out.many
          have c0 : wf.cell? ⟨P, 0, none⟩ = some (.pointer (some ⟨B, 0, none⟩)) := HWwf.out.p.c 0 _ rfl
          have hPf := HWwf.out.p.ty.lt
          have hgf := ki_g HCk
          clear HCk
          have HNx : Hid (b.st.next = 1 + g) := hnx
          have HMn : Hid ((b.st.slots.length : Int) = if 8 < g then 8 else g) := hmany
          clear hnx hmany
          go_wp2_with fail
          refine (klook_any b B W _ HWwf.out.b).mono ?_
          unfold pviewV
          rw [HNx.out, HMn.out]
          rintro e wL ⟨rfl, _, hbL⟩
          have hWL := (HWwf.out.later hbL).later (below_alloc wL (.cells #[.int .i64 b.st.clock, .int .i64 (1 + g), .int .i64 (if 8 < g then 8 else g), .int .i64 b.st.ends.length, .string b.st.tab] 59))
          have hV := Cl.new wL [.int .i64 b.st.clock, .int .i64 (1 + g), .int .i64 (if 8 < g then 8 else g), .int .i64 b.st.ends.length, .string b.st.tab] 59
          clear hbL HNx HMn c0
          have HFin : Hid (∀ n, Below w.heap.size w ((wL.alloc (.cells #[.int .i64 b.st.clock, .int .i64 (1 + g), .int .i64 (if 8 < g then 8 else g), .int .i64 b.st.ends.length, .string b.st.tab] 59)).drewN n)) := fun n => below_drewN (HB0.out.trans (hWL.bl.mono HB0.out.size)) n
          have v1 : (wL.alloc (.cells #[.int .i64 b.st.clock, .int .i64 (1 + g), .int .i64 (if 8 < g then 8 else g), .int .i64 b.st.ends.length, .string b.st.tab] 59)).cell? ⟨wL.heap.size, 1, none⟩ = some (.int .i64 (1 + g)) := hV.c 1 _ rfl
          have v2 : (wL.alloc (.cells #[.int .i64 b.st.clock, .int .i64 (1 + g), .int .i64 (if 8 < g then 8 else g), .int .i64 b.st.ends.length, .string b.st.tab] 59)).cell? ⟨wL.heap.size, 2, none⟩ = some (.int .i64 (if 8 < g then 8 else g)) := hV.c 2 _ rfl
          have hvq : wL.heap.size < (wL.alloc (.cells #[.int .i64 b.st.clock, .int .i64 (1 + g), .int .i64 (if 8 < g then 8 else g), .int .i64 b.st.ends.length, .string b.st.tab] 59)).heap.size := hV.ty.lt
          clear hV
          go_upto_region 37 with fail
          generalize wL.alloc (.cells #[.int .i64 b.st.clock, .int .i64 (1 + g), .int .i64 (if 8 < g then 8 else g), .int .i64 b.st.ends.length, .string b.st.tab] 59) = WL at *
          generalize wL.heap.size = vq at *
          have c5 : WL.cell? ⟨P, 5, none⟩ = some (.int .i64 g) := hWL.p.c 5 _ rfl
          have hPL := hWL.p.ty.lt
          clear hWL
          by_cases h8 : 8 < g
          · rw [if_pos h8] at v2
            go_wp2_with fail
            go_quiet (fail)
            go_wp2_with fail
            go_ret
            exact ⟨rfl, HFin.out _⟩
          · rw [if_neg h8] at v2
            go_wp2_with fail
            go_quiet (fail)
            go_wp2_with fail
            go_ret
            exact ⟨rfl, HFin.out _⟩

end Go.Proofs.YtdajolpoiffimaaDoor

namespace Go.Proofs.YtdajolpoiffimaaDoor
open Go.ChangeShapes Go.WideShapes Go.ChangeAt Go.RowKit

namespace Kb
theorem cellsSetup : Tryd.prog.cellsOf 46 = 4 := by kernel_rfl
theorem four {α : Type} {cs : Array α} (h : cs.size = 4) : ∃ a b c d, cs = #[a, b, c, d] := by
  obtain ⟨l⟩ := cs
  match l, h with
  | [a, b, c, d], _ => exact ⟨a, b, c, d, rfl⟩
set_option maxRecDepth 10000 in
theorem open_setup {H : Type} {enc : TypeId × Value → H} {w : World} {r : Reach} {b0 base : Nat} {spare : Nat → Bool} {held : Bool} {v : Value} {x : DataW H} {p : List MemPlace}
    (hv : Value.okWide Tryd.prog w r b0 46 v) (h : DataW.Trod enc Tryd.prog w base spare held 46 v x p) : ∃ a b c d : Int, v = suV a b c d ∧ I64 a ∧ I64 b ∧ I64 c ∧ I64 d := by
  obtain ⟨cs, rfl, hsz⟩ := okWide_struct Tryd.underlying46 hv
  obtain ⟨c0, c1, c2, c3, rfl⟩ := four (hsz.trans cellsSetup)
  obtain ⟨fuel, hf⟩ := h
  obtain ⟨xs, n, _, _, _, hlen, hfld⟩ := DataW.trod_struct Tryd.underlying46 hf
  have q : ∀ (c : Value) (y : DataW H × List MemPlace), DataW.trod enc Tryd.prog w base spare held n 3 [c] = some y → ∃ z : Int, c = .int .i64 z ∧ I64 z := by
    intro c y hy
    obtain ⟨z, e, _, e2⟩ := DataW.trod_int Tryd.underlying3 hy
    exact ⟨z, by simpa using e, bounds_i64 e2⟩
  obtain ⟨x0, e0⟩ := someAt hlen (i := 0) (by decide)
  obtain ⟨x1, e1⟩ := someAt hlen (i := 1) (by decide)
  obtain ⟨x2, e2⟩ := someAt hlen (i := 2) (by decide)
  obtain ⟨x3, e3⟩ := someAt hlen (i := 3) (by decide)
  have h0 := hfld 0 _ rfl
  have h1 := hfld 1 _ rfl
  have h2 := hfld 2 _ rfl
  have h3 := hfld 3 _ rfl
  simp only [Value.cells] at h0 h1 h2 h3
  obtain ⟨a, rfl, ha⟩ := q c0 x0 (h0.trans e0)
  obtain ⟨b, rfl, hb⟩ := q c1 x1 (h1.trans e1)
  obtain ⟨c, rfl, hc⟩ := q c2 x2 (h2.trans e2)
  obtain ⟨d, rfl, hd⟩ := q c3 x3 (h3.trans e3)
  exact ⟨a, b, c, d, rfl, ha, hb, hc, hd⟩
end Kb
end Go.Proofs.YtdajolpoiffimaaDoor
