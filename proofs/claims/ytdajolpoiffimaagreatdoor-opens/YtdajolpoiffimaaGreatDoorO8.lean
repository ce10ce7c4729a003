/-
  PrgAsk, PrgAsk2, PrgCl, RefChg, RefWhole.
-/
import Derived.Deep.RegionHeld3
import Derived.Deep.CutRange
import Derived.Test.YtdajolpoiffimaaGreatDoorO2
import Derived.Test.YtdajolpoiffimaaGreatDoorO4
import Derived.Test.YtdajolpoiffimaaGreatDoorO5
import Derived.Test.YtdajolpoiffimaaGreatDoorO7

namespace Go.Proofs.YtdajolpoiffimaaGreatDoor
open Go.RowKit

abbrev pviewV (s : Px.St) : Value := .agg #[.int .i64 s.clock, .int .i64 s.next, .int .i64 s.slots.length, .int .i64 s.ends.length, .string s.tab]
set_option maxHeartbeats 1000000 in
theorem slook_any (s : Px.St) (sl en : Value) (w : World) (hS : PAt w s sl en) :
 Calls Tryz.prog 76 #[pstV s sl en] w fun e w' => e = .returned (pviewV s) ∧ Below w.heap.size w w' := by
 obtain ⟨ad, cap, rfl, hcap⟩ := hS.sl.form
 obtain ⟨ad2, cap2, rfl, hcap2⟩ := hS.en.form
 clear hS
 go_enter Tryz.func76, Tryz.ntmps76
 go_wp2_with fail
 refine bodyPost_ret (v := pviewV s) (by simp [results, Tryz.results76, go_sem]) rfl ⟨rfl, (below_alloc w _).alloc (by simp) _⟩
set_option maxHeartbeats 1000000 in
theorem plook_any (b : Px.Bo) (B : Nat) (sl en : Value) (w : World) (hB : PB w B b sl en) :
 Calls Tryz.prog 31 #[.pointer (some ⟨B, 0, none⟩)] w fun e w' => e = .returned (pviewV b.st) ∧ Below w.heap.size w w' := by
 obtain ⟨ad, cap, rfl, hcap⟩ := hB.rows.sl.form
 obtain ⟨ad2, cap2, rfl, hcap2⟩ := hB.rows.en.form
 have hb0 := below_alloc w (.cells #[.int .i64 0, .int .i64 0, .int .i64 0, .int .i64 0, .string { data := #[] }] 78)
 have hB1 := hB.later hb0
 have hZ := ZCell.new w #[.int .i64 0, .int .i64 0, .int .i64 0, .int .i64 0, .string { data := #[] }] 78
 have hzl : w.heap.size < (w.alloc (.cells #[.int .i64 0, .int .i64 0, .int .i64 0, .int .i64 0, .string { data := #[] }] 78)).heap.size := by simp
 clear hB
 go_enter Tryz.func31, Tryz.ntmps31
 go_upto_region 1 with fail
 generalize w.alloc (.cells #[.int .i64 0, .int .i64 0, .int .i64 0, .int .i64 0, .string { data := #[] }] 78) = W at *
 have hlt := hB1.ty.lt
 have e2 := hB1.c2; have e3 := hB1.c3; have e4 := hB1.c4; have e5 := hB1.c5; have e6 := hB1.c6
 have HR : Hid (PAt W b.st (.slice ad b.st.slots.length cap) (.slice ad2 b.st.ends.length cap2)) := hB1.rows
 clear hB1
 go_wp2_with fail
 refine (slook_any b.st _ _ _ HR.out).mono ?_
 rintro e w1 ⟨rfl, hb1⟩
 have hZ1 : ZCell w1 w.heap.size 5 := ZCell.later hZ hzl hb1
 have HB : Hid (Below w.heap.size w w1) := hb0.trans (hb1.mono hb0.size)
 obtain ⟨⟨u0, r0⟩, f0⟩ := hZ1 0 (by decide)
 obtain ⟨⟨u1, r1⟩, f1⟩ := hZ1 1 (by decide)
 obtain ⟨⟨u2, r2⟩, f2⟩ := hZ1 2 (by decide)
 obtain ⟨⟨u3, r3⟩, f3⟩ := hZ1 3 (by decide)
 obtain ⟨⟨u4, r4⟩, f4⟩ := hZ1 4 (by decide)
 clear hZ1 hZ hb1 hb0 e2 e3 e4 e5 e6
 go_wp2_with fail
 refine bodyPost_ret (v := pviewV b.st) (by simp [results, Tryz.results31, go_sem, r0, r1, r2, r3, r4]) rfl ⟨rfl, below_set5' HB.out (Nat.le_refl _) _ _ _ _ _⟩
abbrev paslV (x : Px.Sl) : Value := .agg #[.int .i64 x.num, .int .i64 x.line, .int .i64 x.minute, .int .i64 x.att, .int .i64 x.frm, .int .i64 x.step]
abbrev paslZ : Value := .agg #[.int .i64 0, .int .i64 0, .int .i64 0, .int .i64 0, .int .i64 0, .int .i64 0]
theorem below_set6 {n q : Nat} {w w' : World} (h : Below n w w') (hq : n ≤ q) (u0 u1 u2 u3 u4 u5 : Value) : Below n w ((((((w'.setCell ⟨q, 0, none⟩ u0).setCell ⟨q, 1, none⟩ u1).setCell ⟨q, 2, none⟩ u2).setCell ⟨q, 3, none⟩ u3).setCell ⟨q, 4, none⟩ u4).setCell ⟨q, 5, none⟩ u5) :=
 (((((h.setCell hq _).setCell hq _).setCell hq _).setCell hq _).setCell hq _).setCell hq _
/-- What Slot answers, what End does. -/
inductive SlotR (l : List Px.Sl) (i : Int) : Ending → Prop
 | no (h : i < 0 ∨ (l.length : Int) ≤ i) : SlotR l i (.returned (.tuple #[paslZ, .int .i64 4]))
 | yes (k : Nat) (hk : k < l.length) (h : i = (k : Int)) : SlotR l i (.returned (.tuple #[paslV l[k], .int .i64 0]))
inductive EndR (l : List Bx.En) (i : Int) : Ending → Prop
 | no (h : i < 0 ∨ (l.length : Int) ≤ i) : EndR l i (.returned (.tuple #[.agg #[.int .i64 0, .string { data := #[] }], .int .i64 4]))
 | yes (k : Nat) (hk : k < l.length) (h : i = (k : Int)) : EndR l i (.returned (.tuple #[.agg #[.int .i64 l[k].num, .string l[k].how], .int .i64 0]))
theorem EndR.yes' {l : List Bx.En} {i : Int} {k : Nat} {x : Bx.En} (hk : k < l.length) (h : i = (k : Int)) (hx : l[k] = x) : EndR l i (.returned (.tuple #[.agg #[.int .i64 x.num, .string x.how], .int .i64 0])) := by subst hx; exact EndR.yes k hk h
theorem SlotR.yes' {l : List Px.Sl} {i : Int} {k : Nat} {x : Px.Sl} (hk : k < l.length) (h : i = (k : Int)) (hx : l[k] = x) : SlotR l i (.returned (.tuple #[paslV x, .int .i64 0])) := by subst hx; exact SlotR.yes k hk h
set_option maxRecDepth 10000 in
set_option maxHeartbeats 2000000 in
theorem sslot_any (s : Px.St) (i : Int) (sl en : Value) (w : World) (hl : s.slots.length ≤ 10000) (hS : PAt w s sl en) :
 Calls Tryz.prog 111 #[pstV s sl en, .int .i64 i] w fun e w' => SlotR s.slots i e ∧ Below w.heap.size w w' := by
 obtain ⟨ad, cap, rfl, hcap⟩ := hS.sl.form
 obtain ⟨ad2, cap2, rfl, hcap2⟩ := hS.en.form
 have HR : Hid (RowAt w (.slice ad s.slots.length cap) s.slots.length (s.slots.flatMap psC)) := hS.sl.1
 have hb0 := (below_alloc w (pstO s (.slice ad s.slots.length cap) (.slice ad2 s.ends.length cap2))).alloc (by simp) (.cells #[.int .i64 0, .int .i64 0, .int .i64 0, .int .i64 0, .int .i64 0, .int .i64 0] 97)
 have hI := (PIn.new w s (.slice ad s.slots.length cap) (.slice ad2 s.ends.length cap2)).later (below_alloc _ (.cells #[.int .i64 0, .int .i64 0, .int .i64 0, .int .i64 0, .int .i64 0, .int .i64 0] 97))
 have hZ := ZCell.new (w.alloc (pstO s (.slice ad s.slots.length cap) (.slice ad2 s.ends.length cap2))) #[.int .i64 0, .int .i64 0, .int .i64 0, .int .i64 0, .int .i64 0, .int .i64 0] 97
 have hZ' : ZCell ((w.alloc (pstO s (.slice ad s.slots.length cap) (.slice ad2 s.ends.length cap2))).alloc (.cells #[.int .i64 0, .int .i64 0, .int .i64 0, .int .i64 0, .int .i64 0, .int .i64 0] 97)) (w.heap.size + 1) 6 := by simpa using hZ
 have hq : w.heap.size + 1 < ((w.alloc (pstO s (.slice ad s.slots.length cap) (.slice ad2 s.ends.length cap2))).alloc (.cells #[.int .i64 0, .int .i64 0, .int .i64 0, .int .i64 0, .int .i64 0, .int .i64 0] 97)).heap.size := by simp
 clear hS hZ
 go_enter Tryz.func111, Tryz.ntmps111
 go_upto_region 1 with fail
 generalize (w.alloc (pstO s (.slice ad s.slots.length cap) (.slice ad2 s.ends.length cap2))).alloc (.cells #[.int .i64 0, .int .i64 0, .int .i64 0, .int .i64 0, .int .i64 0, .int .i64 0] 97) = W at *
 have HB : Hid (Below w.heap.size w W) := hb0
 have HR' : Hid (RowAt W (.slice ad s.slots.length cap) s.slots.length (s.slots.flatMap psC)) := HR.out.later hb0
 have i3 := hI.c3
 clear hI hb0 HR
 by_cases h0 : i < 0
 ·obtain ⟨⟨u0, r0⟩, f0⟩ := hZ' 0 (by decide)
  obtain ⟨⟨u1, r1⟩, f1⟩ := hZ' 1 (by decide)
  obtain ⟨⟨u2, r2⟩, f2⟩ := hZ' 2 (by decide)
  obtain ⟨⟨u3, r3⟩, f3⟩ := hZ' 3 (by decide)
  obtain ⟨⟨u4, r4⟩, f4⟩ := hZ' 4 (by decide)
  obtain ⟨⟨u5, r5⟩, f5⟩ := hZ' 5 (by decide)
  clear hZ'
  go_wp2_with fail
  refine bodyPost_ret (v := .tuple #[paslZ, .int .i64 4]) (by simp [results, Tryz.results111, go_sem, r0, r1, r2, r3, r4, r5]) rfl ⟨SlotR.no (Or.inl h0), below_set6 HB.out (by omega) _ _ _ _ _ _⟩
 by_cases h1 : (s.slots.length : Int) ≤ i
 ·obtain ⟨⟨u0, r0⟩, f0⟩ := hZ' 0 (by decide)
  obtain ⟨⟨u1, r1⟩, f1⟩ := hZ' 1 (by decide)
  obtain ⟨⟨u2, r2⟩, f2⟩ := hZ' 2 (by decide)
  obtain ⟨⟨u3, r3⟩, f3⟩ := hZ' 3 (by decide)
  obtain ⟨⟨u4, r4⟩, f4⟩ := hZ' 4 (by decide)
  obtain ⟨⟨u5, r5⟩, f5⟩ := hZ' 5 (by decide)
  clear hZ'
  go_wp2_with fail
  refine bodyPost_ret (v := .tuple #[paslZ, .int .i64 4]) (by simp [results, Tryz.results111, go_sem, r0, r1, r2, r3, r4, r5]) rfl ⟨SlotR.no (Or.inr h1), below_set6 HB.out (by omega) _ _ _ _ _ _⟩
 obtain ⟨k, rfl⟩ : ∃ k : Nat, i = (k : Int) := ⟨i.toNat, by omega⟩
 have hlt : k < s.slots.length := by omega
 obtain ⟨b, off, cap', hv, _, hc⟩ := HR'.out.some' (by omega)
 cases hv
 obtain ⟨d0, d1, d2, d3, d4, d5, d6, d7⟩ := ps_cells hc k hlt
 have hxe : Hid (∃ x, s.slots[k] = x) := ⟨_, rfl⟩
 obtain ⟨x, hx⟩ := hxe.out
 have HX : Hid (s.slots[k] = x) := hx
 rw [hx] at d0 d1 d2 d3 d4 d5 d6 d7
 have b1 : (0 : Int) ≤ (k : Int) := by omega
 have b2 : (k : Int) < (s.slots.length : Int) := by omega
 have hxI := PsIn.new W x
 have hbA := below_alloc W (psO x)
 have hZ2 := hZ'.later hq hbA
 have HB2 : Hid (Below w.heap.size w (W.alloc (psO x))) := HB.out.alloc HB.out.size _
 clear hc hx hxe
 go_upto_region 4 with fail
 clear d0 d1 d2 d3 d4 d5 d6 d7 i3
 generalize W.alloc (psO x) = W2 at *
 generalize W.heap.size = xq at *
 obtain ⟨x0, x1, x2, x3, x4, x5, x6, x7⟩ := hxI
 have y0 : (W2.alloc (.cells #[.int .i64 x.num, .int .i64 x.line, .int .i64 x.minute, .int .i64 x.att, .int .i64 x.frm, .int .i64 x.step] 97)).cell? ⟨W2.heap.size, 0, none⟩ = some (.int .i64 x.num) := by simp [go_sem]
 have y1 : (W2.alloc (.cells #[.int .i64 x.num, .int .i64 x.line, .int .i64 x.minute, .int .i64 x.att, .int .i64 x.frm, .int .i64 x.step] 97)).cell? ⟨W2.heap.size, 1, none⟩ = some (.int .i64 x.line) := by simp [go_sem]
 have y2 : (W2.alloc (.cells #[.int .i64 x.num, .int .i64 x.line, .int .i64 x.minute, .int .i64 x.att, .int .i64 x.frm, .int .i64 x.step] 97)).cell? ⟨W2.heap.size, 2, none⟩ = some (.int .i64 x.minute) := by simp [go_sem]
 have y3 : (W2.alloc (.cells #[.int .i64 x.num, .int .i64 x.line, .int .i64 x.minute, .int .i64 x.att, .int .i64 x.frm, .int .i64 x.step] 97)).cell? ⟨W2.heap.size, 3, none⟩ = some (.int .i64 x.att) := by simp [go_sem]
 have y4 : (W2.alloc (.cells #[.int .i64 x.num, .int .i64 x.line, .int .i64 x.minute, .int .i64 x.att, .int .i64 x.frm, .int .i64 x.step] 97)).cell? ⟨W2.heap.size, 4, none⟩ = some (.int .i64 x.frm) := by simp [go_sem]
 have y5 : (W2.alloc (.cells #[.int .i64 x.num, .int .i64 x.line, .int .i64 x.minute, .int .i64 x.att, .int .i64 x.frm, .int .i64 x.step] 97)).cell? ⟨W2.heap.size, 5, none⟩ = some (.int .i64 x.step) := by simp [go_sem]
 have hZ3 := hZ2.later (World.block_lt_of_cell? _ _ (hZ2 0 (by decide)).1.choose_spec) (below_alloc W2 (.cells #[.int .i64 x.num, .int .i64 x.line, .int .i64 x.minute, .int .i64 x.att, .int .i64 x.frm, .int .i64 x.step] 97))
 have HB3 : Hid (Below w.heap.size w (W2.alloc (.cells #[.int .i64 x.num, .int .i64 x.line, .int .i64 x.minute, .int .i64 x.att, .int .i64 x.frm, .int .i64 x.step] 97))) := HB2.out.alloc HB2.out.size _
 clear hZ' hZ2 hbA
 go_upto_region 5 with fail
 clear x0 x1 x2 x3 x4 x5 x6 x7
 generalize W2.alloc (.cells #[.int .i64 x.num, .int .i64 x.line, .int .i64 x.minute, .int .i64 x.att, .int .i64 x.frm, .int .i64 x.step] 97) = W3 at *
 generalize W2.heap.size = yq at *
 obtain ⟨⟨u0, r0⟩, f0⟩ := hZ3 0 (by decide)
 obtain ⟨⟨u1, r1⟩, f1⟩ := hZ3 1 (by decide)
 obtain ⟨⟨u2, r2⟩, f2⟩ := hZ3 2 (by decide)
 obtain ⟨⟨u3, r3⟩, f3⟩ := hZ3 3 (by decide)
 obtain ⟨⟨u4, r4⟩, f4⟩ := hZ3 4 (by decide)
 obtain ⟨⟨u5, r5⟩, f5⟩ := hZ3 5 (by decide)
 clear hZ3
 go_wp2_with fail
 refine bodyPost_ret (v := .tuple #[paslV x, .int .i64 0]) (by simp [results, Tryz.results111, go_sem, r0, r1, r2, r3, r4, r5]) rfl ⟨SlotR.yes' hlt rfl HX.out, below_set6 HB3.out (by omega) _ _ _ _ _ _⟩
set_option maxRecDepth 10000 in
set_option maxHeartbeats 2000000 in
theorem send_any (s : Px.St) (i : Int) (sl en : Value) (w : World) (hl : s.ends.length ≤ 10000) (hS : PAt w s sl en) :
 Calls Tryz.prog 113 #[pstV s sl en, .int .i64 i] w fun e w' => EndR s.ends i e ∧ Below w.heap.size w w' := by
 obtain ⟨ad, cap, rfl, hcap⟩ := hS.sl.form
 obtain ⟨ad2, cap2, rfl, hcap2⟩ := hS.en.form
 have HR : Hid (RowAt w (.slice ad2 s.ends.length cap2) s.ends.length (s.ends.flatMap enC)) := hS.en.1
 have hb0 := (below_alloc w (pstO s (.slice ad s.slots.length cap) (.slice ad2 s.ends.length cap2))).alloc (by simp) (.cells #[.int .i64 0, .string { data := #[] }] 95)
 have hI := (PIn.new w s (.slice ad s.slots.length cap) (.slice ad2 s.ends.length cap2)).later (below_alloc _ (.cells #[.int .i64 0, .string { data := #[] }] 95))
 have hZ := ZCell.new (w.alloc (pstO s (.slice ad s.slots.length cap) (.slice ad2 s.ends.length cap2))) #[.int .i64 0, .string { data := #[] }] 95
 have hZ' : ZCell ((w.alloc (pstO s (.slice ad s.slots.length cap) (.slice ad2 s.ends.length cap2))).alloc (.cells #[.int .i64 0, .string { data := #[] }] 95)) (w.heap.size + 1) 2 := by simpa using hZ
 clear hS hZ
 go_enter Tryz.func113, Tryz.ntmps113
 go_upto_region 1 with fail
 generalize (w.alloc (pstO s (.slice ad s.slots.length cap) (.slice ad2 s.ends.length cap2))).alloc (.cells #[.int .i64 0, .string { data := #[] }] 95) = W at *
 have HB : Hid (Below w.heap.size w W) := hb0
 have HR' : Hid (RowAt W (.slice ad2 s.ends.length cap2) s.ends.length (s.ends.flatMap enC)) := HR.out.later hb0
 have i4 := hI.c4
 obtain ⟨⟨u0, r0⟩, f0⟩ := hZ' 0 (by decide)
 obtain ⟨⟨u1, r1⟩, f1⟩ := hZ' 1 (by decide)
 clear hI hb0 HR hZ'
 by_cases h0 : i < 0
 ·go_wp2_with fail
  refine bodyPost_ret (v := .tuple #[.agg #[.int .i64 0, .string { data := #[] }], .int .i64 4]) (by simp [results, Tryz.results113, go_sem, r0, r1]) rfl ⟨EndR.no (Or.inl h0), (HB.out.setCell (by simp) _).setCell (by simp) _⟩
 by_cases h1 : (s.ends.length : Int) ≤ i
 ·go_wp2_with fail
  refine bodyPost_ret (v := .tuple #[.agg #[.int .i64 0, .string { data := #[] }], .int .i64 4]) (by simp [results, Tryz.results113, go_sem, r0, r1]) rfl ⟨EndR.no (Or.inr h1), (HB.out.setCell (by simp) _).setCell (by simp) _⟩
 obtain ⟨k, rfl⟩ : ∃ k : Nat, i = (k : Int) := ⟨i.toNat, by omega⟩
 have hlt : k < s.ends.length := by omega
 obtain ⟨b, off, cap', hv, _, hc⟩ := HR'.out.some' (by omega)
 cases hv
 have d0 : W.cell? ⟨b, off + k * 2, none⟩ = some (.int .i64 s.ends[k].num) := RowAt.cell enC_len hc k hlt 0 (by decide)
 have d1 : W.cell? ⟨b, off + k * 2 + 1, none⟩ = some (.string s.ends[k].how) := RowAt.cell enC_len hc k hlt 1 (by decide)
 have hxe : Hid (∃ x, s.ends[k] = x) := ⟨_, rfl⟩
 obtain ⟨x, hx⟩ := hxe.out
 have HX : Hid (s.ends[k] = x) := hx
 rw [hx] at d0 d1
 have b1 : (0 : Int) ≤ (k : Int) := by omega
 have b2 : (k : Int) < (s.ends.length : Int) := by omega
 clear hc hx hxe
 go_wp2_with fail
 refine bodyPost_ret (v := .tuple #[.agg #[.int .i64 x.num, .string x.how], .int .i64 0]) (by simp [results, Tryz.results113, go_sem, r0, r1]) rfl ⟨EndR.yes' hlt rfl HX.out, (HB.out.setCell (by simp) _).setCell (by simp) _⟩
end Go.Proofs.YtdajolpoiffimaaGreatDoor

namespace Go.Proofs.YtdajolpoiffimaaGreatDoor
open Go.RowKit

set_option maxHeartbeats 1000000 in
theorem pslot_any (b : Px.Bo) (B : Nat) (i : Int) (sl en : Value) (w : World) (hl : b.st.slots.length ≤ 10000) (hB : PB w B b sl en) :
 Calls Tryz.prog 62 #[.pointer (some ⟨B, 0, none⟩), .int .i64 i] w fun e w' => SlotR b.st.slots i e ∧ Below w.heap.size w w' := by
 obtain ⟨ad, cap, rfl, hcap⟩ := hB.rows.sl.form
 obtain ⟨ad2, cap2, rfl, hcap2⟩ := hB.rows.en.form
 have hb0 := below_alloc w (.cells #[.int .i64 0, .int .i64 0, .int .i64 0, .int .i64 0, .int .i64 0, .int .i64 0] 97)
 have hB1 := hB.later hb0
 have hZ := ZCell.new w #[.int .i64 0, .int .i64 0, .int .i64 0, .int .i64 0, .int .i64 0, .int .i64 0] 97
 have hzl : w.heap.size < (w.alloc (.cells #[.int .i64 0, .int .i64 0, .int .i64 0, .int .i64 0, .int .i64 0, .int .i64 0] 97)).heap.size := by simp
 clear hB
 go_enter Tryz.func62, Tryz.ntmps62
 go_upto_region 1 with fail
 generalize w.alloc (.cells #[.int .i64 0, .int .i64 0, .int .i64 0, .int .i64 0, .int .i64 0, .int .i64 0] 97) = W at *
 have hlt := hB1.ty.lt
 have e2 := hB1.c2; have e3 := hB1.c3; have e4 := hB1.c4; have e5 := hB1.c5; have e6 := hB1.c6
 have HR : Hid (PAt W b.st (.slice ad b.st.slots.length cap) (.slice ad2 b.st.ends.length cap2)) := hB1.rows
 clear hB1
 go_wp2_with fail
 refine (sslot_any b.st i _ _ _ hl HR.out).mono ?_
 rintro e w1 ⟨hA, hb1⟩
 have hZ1 : ZCell w1 w.heap.size 6 := ZCell.later hZ hzl hb1
 have HB : Hid (Below w.heap.size w w1) := hb0.trans (hb1.mono hb0.size)
 obtain ⟨⟨u0, r0⟩, f0⟩ := hZ1 0 (by decide)
 obtain ⟨⟨u1, r1⟩, f1⟩ := hZ1 1 (by decide)
 obtain ⟨⟨u2, r2⟩, f2⟩ := hZ1 2 (by decide)
 obtain ⟨⟨u3, r3⟩, f3⟩ := hZ1 3 (by decide)
 obtain ⟨⟨u4, r4⟩, f4⟩ := hZ1 4 (by decide)
 obtain ⟨⟨u5, r5⟩, f5⟩ := hZ1 5 (by decide)
 clear hZ1 hZ hb1 hb0 e2 e3 e4 e5 e6
 cases hA with
 | no h =>
   go_wp2_with fail
   refine bodyPost_ret (v := .tuple #[paslZ, .int .i64 4]) (by simp [results, Tryz.results62, go_sem, r0, r1, r2, r3, r4, r5]) rfl ⟨SlotR.no h, below_set6 HB.out (Nat.le_refl _) _ _ _ _ _ _⟩
 | yes k hk h =>
   have HX : Hid (∃ x, b.st.slots[k] = x) := ⟨_, rfl⟩
   obtain ⟨x, hx⟩ := HX.out
   have HE : Hid (b.st.slots[k] = x) := hx
   rw [hx]
   clear hx HX
   go_wp2_with fail
   refine bodyPost_ret (v := .tuple #[paslV x, .int .i64 0]) (by simp [results, Tryz.results62, go_sem, r0, r1, r2, r3, r4, r5]) rfl ⟨SlotR.yes' hk h HE.out, below_set6 HB.out (Nat.le_refl _) _ _ _ _ _ _⟩
set_option maxHeartbeats 1000000 in
theorem pend_any (b : Px.Bo) (B : Nat) (i : Int) (sl en : Value) (w : World) (hl : b.st.ends.length ≤ 10000) (hB : PB w B b sl en) :
 Calls Tryz.prog 64 #[.pointer (some ⟨B, 0, none⟩), .int .i64 i] w fun e w' => EndR b.st.ends i e ∧ Below w.heap.size w w' := by
 obtain ⟨ad, cap, rfl, hcap⟩ := hB.rows.sl.form
 obtain ⟨ad2, cap2, rfl, hcap2⟩ := hB.rows.en.form
 have hb0 := below_alloc w (.cells #[.int .i64 0, .string { data := #[] }] 95)
 have hB1 := hB.later hb0
 have hZ := ZCell.new w #[.int .i64 0, .string { data := #[] }] 95
 have hzl : w.heap.size < (w.alloc (.cells #[.int .i64 0, .string { data := #[] }] 95)).heap.size := by simp
 clear hB
 go_enter Tryz.func64, Tryz.ntmps64
 go_upto_region 1 with fail
 generalize w.alloc (.cells #[.int .i64 0, .string { data := #[] }] 95) = W at *
 have hlt := hB1.ty.lt
 have e2 := hB1.c2; have e3 := hB1.c3; have e4 := hB1.c4; have e5 := hB1.c5; have e6 := hB1.c6
 have HR : Hid (PAt W b.st (.slice ad b.st.slots.length cap) (.slice ad2 b.st.ends.length cap2)) := hB1.rows
 clear hB1
 go_wp2_with fail
 refine (send_any b.st i _ _ _ hl HR.out).mono ?_
 rintro e w1 ⟨hA, hb1⟩
 have hZ1 : ZCell w1 w.heap.size 2 := ZCell.later hZ hzl hb1
 have HB : Hid (Below w.heap.size w w1) := hb0.trans (hb1.mono hb0.size)
 obtain ⟨⟨u0, r0⟩, f0⟩ := hZ1 0 (by decide)
 obtain ⟨⟨u1, r1⟩, f1⟩ := hZ1 1 (by decide)
 clear hZ1 hZ hb1 hb0 e2 e3 e4 e5 e6
 cases hA with
 | no h =>
   go_wp2_with fail
   refine bodyPost_ret (v := .tuple #[.agg #[.int .i64 0, .string { data := #[] }], .int .i64 4]) (by simp [results, Tryz.results64, go_sem, r0, r1]) rfl ⟨EndR.no h, (HB.out.setCell (Nat.le_refl _) _).setCell (Nat.le_refl _) _⟩
 | yes k hk h =>
   have HX : Hid (∃ x, b.st.ends[k] = x) := ⟨_, rfl⟩
   obtain ⟨x, hx⟩ := HX.out
   have HE : Hid (b.st.ends[k] = x) := hx
   rw [hx]
   clear hx HX
   go_wp2_with fail
   refine bodyPost_ret (v := .tuple #[.agg #[.int .i64 x.num, .string x.how], .int .i64 0]) (by simp [results, Tryz.results64, go_sem, r0, r1]) rfl ⟨EndR.yes' hk h HE.out, (HB.out.setCell (Nat.le_refl _) _).setCell (Nat.le_refl _) _⟩
set_option maxHeartbeats 1000000 in
theorem plog_any (b : Px.Bo) (B : Nat) (sl en : Value) (w : World) (hB : PB w B b sl en) :
 Calls Tryz.prog 11 #[.pointer (some ⟨B, 0, none⟩)] w fun e w' => e = .returned (.string b.log) ∧ w' = w := by
 have hlt := hB.ty.lt
 have e7 := hB.c7
 clear hB
 go_enter Tryz.func11, Tryz.ntmps11
 go_wp2_with fail
 go_ret
 exact ⟨rfl, rfl⟩
end Go.Proofs.YtdajolpoiffimaaGreatDoor

namespace Go.Proofs.YtdajolpoiffimaaGreatDoor
open Go.RowKit

/-- A block of one's own, and its cells. -/
structure Cl (W : World) (q : Nat) (t : TypeId) (cs : List Value) : Prop where
 c : ∀ j v, cs[j]? = some v → W.cell? ⟨q, j, none⟩ = some v
 f : ∀ j, j < cs.length → W.frozen? ⟨q, j, none⟩ = false
 ty : Typed W q t
theorem Cl.new (w : World) (cs : List Value) (t : TypeId) : Cl (w.alloc (.cells cs.toArray t)) w.heap.size t cs := by
 have hb : (w.alloc (.cells cs.toArray t)).heap[w.heap.size]? = some (.cells cs.toArray t (0, 0)) := by show (w.heap.push (.cells cs.toArray t))[w.heap.size]? = _; simp
 refine ⟨fun j v hj => ?_, fun j _ => ?_, Typed.new _ _ _⟩
 ·rw [cell_of_row _ _ j cs.toArray t (0, 0) hb]; simpa using hj
 ·unfold World.frozen?; rw [hb]; simp
theorem Cl.below {W W' : World} {q n : Nat} {t : TypeId} {cs : List Value} (h : Cl W q t cs) (hq : q < n) (hb : Below n W W') : Cl W' q t cs :=
 ⟨fun j v hj => (hb.cell (p := ⟨q, j, none⟩) hq).trans (h.c j v hj), fun j hj => (hb.frozen (p := ⟨q, j, none⟩) hq).trans (h.f j hj), h.ty.below hq hb⟩
theorem Cl.later {W W' : World} {q : Nat} {t : TypeId} {cs : List Value} (h : Cl W q t cs) (hb : Below W.heap.size W W') : Cl W' q t cs := h.below h.ty.lt hb
theorem Cl.grow {W W' : World} {q g : Nat} {t : TypeId} {cs : List Value} (h : Cl W q t cs) (hb : W.grownBy W' (some g)) (hne : q ≠ g) : Cl W' q t cs := by
 have e := hb.block q h.ty.lt (fun e => hne (by cases e; rfl))
 refine ⟨fun j v hj => ?_, fun j hj => ?_, ?_⟩
 ·rw [World.cell?_of_block (a := ⟨q, j, none⟩) e]; exact h.c j v hj
 ·rw [World.frozen?_of_block (a := ⟨q, j, none⟩) e]; exact h.f j hj
 ·obtain ⟨cur, fr, hc⟩ := h.ty; exact ⟨cur, fr, e.trans hc⟩
theorem Cl.set {W : World} {q : Nat} {t : TypeId} {cs : List Value} (h : Cl W q t cs) (j : Nat) (hj : j < cs.length) (v : Value) : Cl (W.setCell ⟨q, j, none⟩ v) q t (cs.set j v) := by
 refine ⟨fun k u hk => ?_, fun k hk => ?_, h.ty.setCell _ _ _⟩
 ·by_cases e : j = k
  ·subst e
   rw [List.getElem?_set_self hj] at hk
   cases hk
   exact World.cell?_setCell_same _ _ _ (h.c j _ (List.getElem?_eq_getElem hj))
  ·rw [List.getElem?_set_ne e] at hk
   rw [World.cell?_setCell_other _ _ _ _ (fun x => e (by cases x; rfl))]
   exact h.c k u hk
 ·rw [World.frozen?_setCell]; exact h.f k (by simpa using hk)
theorem Cl.far {W : World} {q g : Nat} {t : TypeId} {cs : List Value} (h : Cl W q t cs) (hne : q ≠ g) (j : Nat) (v : Value) : Cl (W.setCell ⟨g, j, none⟩ v) q t cs :=
 ⟨fun k u hk => (World.cell?_setCell_other _ _ _ _ (fun x => hne (by cases x; rfl))).trans (h.c k u hk), fun k hk => by rw [World.frozen?_setCell]; exact h.f k hk, h.ty.setCell _ _ _⟩
end Go.Proofs.YtdajolpoiffimaaGreatDoor

namespace Go.Proofs.YtdajolpoiffimaaGreatDoor
open Go.RowKit

/-- What changed tells. -/
def ChgP (b : ByteArray) (w w' : World) (e : Ending) : Prop := ∃ c ok, e = .returned (.tuple #[chV c, .bool ok]) ∧ (ok = true → Bx.IsCh b c) ∧ (ok = false → ¬ ∃ c, Bx.IsCh b c) ∧ c.tab.size ≤ b.size ∧ Below w.heap.size w w'
theorem head_b1 {b : ByteArray} (h : 0 < b.size) : b = Bx.b1 (b[0].toNat : Int) ++ b.extract 1 b.size := by
 have e := Bx.ext_split b 1
 have h1 : b.extract 0 1 = Bx.b1 (b[0].toNat : Int) := by
  refine Bx.ba_ext ?_
  rw [ext_list]
  have hl : b.data.toList.length = b.size := by simp
  have h0 := head_at h
  cases hb : b.data.toList with
  | nil => rw [hb] at hl; simp at hl; omega
  | cons a r =>
    rw [hb] at h0
    have ha : a = b[0] := by simpa using h0
    have hlt := b[0].toNat_lt
    have hm : ((b[0].toNat : Int) % 256).toNat = b[0].toNat := by omega
    simp only [Bx.b1, ha, hm, UInt8.ofNat_toNat]
    rfl
 rw [h1] at e
 exact e.symm
theorem chg_T {b : ByteArray} (h : 0 < b.size) (hk : (b[0].toNat : Int) = 84) : Bx.IsCh b ⟨84, b.extract 1 b.size, 0⟩ := by
 refine ⟨Or.inl ⟨rfl, rfl⟩, ?_⟩
 have e := head_b1 h
 rw [hk] at e
 unfold Bx.body
 rw [if_pos rfl]
 exact e.symm
theorem chg_C {b : ByteArray} (h : 0 < b.size) (hk : (b[0].toNat : Int) = 67) (h6 : b.size = 6) : Bx.IsCh b ⟨67, { data := #[] }, numW (b.extract 1 b.size).data.toList⟩ := by
 have hz : (b.extract 1 b.size).size = 5 := by rw [ByteArray.size_extract]; omega
 obtain ⟨k1, k2, k3⟩ := be_numW hz (by decide)
 refine ⟨Or.inr (Or.inl ⟨rfl, rfl, k2, by simpa using k3⟩), ?_⟩
 have e := head_b1 h
 rw [hk] at e
 unfold Bx.body
 rw [if_neg (by show ¬ (67 : Int) = 84; decide), if_pos rfl, k1]
 exact e.symm
theorem chg_N {b : ByteArray} {k : Int} (h : 0 < b.size) (hk : (b[0].toNat : Int) = k) (hk2 : k = 83 ∨ k = 68 ∨ k = 70 ∨ k = 75) (h3 : b.size = 3) : Bx.IsCh b ⟨k, { data := #[] }, numW (b.extract 1 b.size).data.toList⟩ := by
 have hz : (b.extract 1 b.size).size = 2 := by rw [ByteArray.size_extract]; omega
 obtain ⟨k1, q2, k3⟩ := be_numW hz (by decide)
 refine ⟨Or.inr (Or.inr ⟨hk2, rfl, q2, by simpa using k3⟩), ?_⟩
 have e := head_b1 h
 rw [hk] at e
 unfold Bx.body
 rw [if_neg (by simp; omega), if_neg (by simp; omega), k1]
 exact e.symm
theorem chg_size {b : ByteArray} {k : Int} (h : 0 < b.size) (hk : (b[0].toNat : Int) = k) (hb : 0 ≤ k ∧ k < 256) {c : Bx.Ch} (hc : Bx.IsCh b c) : c.kind = k ∧ (k = 67 → b.size = 6) ∧ (k = 83 ∨ k = 68 ∨ k = 70 ∨ k = 75 → b.size = 3) := by
 have e := head_b1 h
 rw [hk] at e
 rw [e] at hc
 obtain ⟨e1, e2⟩ := Bx.isCh_split hc hb
 have hz : (b.extract 1 b.size).size = b.size - 1 := by rw [ByteArray.size_extract]; omega
 refine ⟨e1, fun q => ?_, fun q => ?_⟩
 ·rw [if_neg (by omega), if_pos (by omega)] at e2
  rw [e2, Bx.be_size] at hz; omega
 ·rw [if_neg (by omega), if_neg (by omega)] at e2
  rw [e2, Bx.be_size] at hz; omega
theorem chg_none {b : ByteArray} {k : Int} (h : 0 < b.size) (hk : (b[0].toNat : Int) = k) (hb : 0 ≤ k ∧ k < 256) (hno : ¬ k = 84 ∧ ¬ k = 67 ∧ ¬ k = 83 ∧ ¬ k = 68 ∧ ¬ k = 70 ∧ ¬ k = 75) : ¬ ∃ c, Bx.IsCh b c := by
 have e := head_b1 h
 rw [hk] at e
 rw [e]
 exact Bx.body_no hb hno
abbrev chZ : List Value := [.int .u8 0, .string { data := #[] }, .int .i64 0]
theorem below_set3s {n q : Nat} {w w' : World} (h : Below n w w') (hq : n ≤ q) (u0 u1 u2 : Value) : Below n w (((w'.setCell ⟨q, 0, none⟩ u0).setCell ⟨q, 1, none⟩ u1).setCell ⟨q, 2, none⟩ u2) := ((h.setCell hq _).setCell hq _).setCell hq _
/-- What a branch of changed is at: the result's block and the change's own. -/
structure ChgA (w W : World) (q : Nat) (k : Int) (t : ByteArray) (n : Int) : Prop where
 r : Cl W w.heap.size 141 chZ
 c : Cl W q 141 [.int .u8 k, .string t, .int .i64 n]
 b : Below w.heap.size w W
 ne : w.heap.size < q
set_option maxRecDepth 10000 in
set_option maxHeartbeats 2000000 in
theorem changed_any (b : ByteArray) (w : World) (hs : b.size ≤ 100000) :
 Calls Tryz.prog 105 #[.string b] w fun e w' => ChgP b w w' e := by
 have hb0 := below_alloc w (.cells #[.int .u8 0, .string { data := #[] }, .int .i64 0] 141)
 have hr := Cl.new w chZ 141
 by_cases h0 : b.size = 0
 ·have hbe : b = { data := #[] } := by
   have : b = ByteArray.empty := by simpa using h0
   rw [this]; rfl
  subst hbe
  go_enter Tryz.func105, Tryz.ntmps105
  go_upto_region 1 with fail
  have hr' : Cl (w.alloc (.cells #[.int .u8 0, .string { data := #[] }, .int .i64 0] 141)) w.heap.size 141 chZ := hr
  clear hr
  generalize w.alloc (.cells #[.int .u8 0, .string { data := #[] }, .int .i64 0] 141) = W at *
  have HB : Hid (Below w.heap.size w W) := hb0
  have r0 := hr'.c 0 _ rfl; have r1 := hr'.c 1 _ rfl; have r2 := hr'.c 2 _ rfl
  have f0 := hr'.f 0 (by simp); have f1 := hr'.f 1 (by simp); have f2 := hr'.f 2 (by simp)
  have hrl := hr'.ty.lt
  clear hr' hb0
  go_wp2_with fail
  refine bodyPost_ret (v := .tuple #[chV ⟨0, { data := #[] }, 0⟩, .bool false]) (by simp [results, Tryz.results105, go_sem, r0, r1, r2]) rfl ?_
  exact ⟨_, false, rfl, fun h => (by cases h), fun _ => Bx.empty_no.1, by simp, below_set3s HB.out (Nat.le_refl _) _ _ _⟩
 ·have hpos : 0 < b.size := by omega
  obtain ⟨k, hk⟩ : ∃ k : Int, (b[0].toNat : Int) = k := ⟨_, rfl⟩
  have hkb : 0 ≤ k ∧ k < 256 := by have := b[0].toNat_lt; omega
  have hemp : b.toList.isEmpty = false := by
   cases hc : b.toList.isEmpty
   ·rfl
   ·exfalso
    have hz : b.toList.length = 0 := by simpa [List.isEmpty_iff] using hc
    have hz2 : b.toList.length = b.size := by simp [ByteArray.toList_eq]
    omega
  have HK : Hid ((b[0].toNat : Int) = k) := hk
  have hb1 := hb0.alloc (by simp) (.cells #[.int .u8 k, .string { data := #[] }, .int .i64 0] 141)
  have hr1 := hr.later (below_alloc _ (.cells #[.int .u8 k, .string { data := #[] }, .int .i64 0] 141))
  have hc1 := Cl.new (w.alloc (.cells #[.int .u8 0, .string { data := #[] }, .int .i64 0] 141)) [.int .u8 k, .string { data := #[] }, .int .i64 0] 141
  have hsz : (w.alloc (.cells #[.int .u8 0, .string { data := #[] }, .int .i64 0] 141)).heap.size = w.heap.size + 1 := by simp
  rw [hsz] at hc1
  have hz1 : (1 : Int) ≤ (b.size : Int) := by omega
  have hz2 : (0 : Int) < (b.size : Int) := by omega
  clear hsz hb0 hr h0
  go_enter Tryz.func105, Tryz.ntmps105
  go_upto_region 4 with fail
  have HA0 : ChgA w ((w.alloc (.cells #[.int .u8 0, .string { data := #[] }, .int .i64 0] 141)).alloc (.cells #[.int .u8 k, .string { data := #[] }, .int .i64 0] 141)) (w.heap.size + 1) k { data := #[] } 0 := ⟨hr1, hc1, hb1, by omega⟩
  clear hb1 hr1 hc1
  generalize (w.alloc (.cells #[.int .u8 0, .string { data := #[] }, .int .i64 0] 141)).alloc (.cells #[.int .u8 k, .string { data := #[] }, .int .i64 0] 141) = W at *
  generalize w.heap.size + 1 = q at *
  have HA : Hid (ChgA w W q k { data := #[] } 0) := HA0
  clear HA0
  by_cases h84 : k = 84
  ·subst h84
   have HY : Hid (Bx.IsCh b ⟨84, b.extract 1 b.size, 0⟩) := chg_T hpos HK.out
   have hsz2 : (b.extract 1 b.size).size ≤ b.size := by rw [ByteArray.size_extract]; omega
   have g1 : W.cell? ⟨q, 1, none⟩ = some (.string { data := #[] }) := HA.out.c.c 1 _ rfl
   have gf := HA.out.c.f 1 (by simp)
   have hcl := HA.out.c.ty.lt
   go_upto_region 7 with fail
   clear g1 gf hcl hk
   have HA1 : ChgA w (W.setCell ⟨q, 1, none⟩ (.string (b.extract 1 b.size))) q 84 (b.extract 1 b.size) 0 := ⟨HA.out.r.far (by have := HA.out.ne; omega) _ _, HA.out.c.set 1 (by simp) _, HA.out.b.setCell (by have := HA.out.ne; exact Nat.le_of_lt this) _, HA.out.ne⟩
   clear HA
   generalize W.setCell ⟨q, 1, none⟩ (.string (b.extract 1 b.size)) = W3 at *
   generalize b.extract 1 b.size = t at *
   have HA : Hid (ChgA w W3 q 84 t 0) := HA1
   clear HA1
   have r0 := HA.out.r.c 0 _ rfl; have r1 := HA.out.r.c 1 _ rfl; have r2 := HA.out.r.c 2 _ rfl
   have f0 := HA.out.r.f 0 (by simp); have f1 := HA.out.r.f 1 (by simp); have f2 := HA.out.r.f 2 (by simp)
   have c0 := HA.out.c.c 0 _ rfl; have c1 := HA.out.c.c 1 _ rfl; have c2 := HA.out.c.c 2 _ rfl
   have hrl := HA.out.r.ty.lt
   have hcl := HA.out.c.ty.lt
   have hne := HA.out.ne
   go_wp2_with fail
   refine bodyPost_ret (v := .tuple #[chV ⟨84, t, 0⟩, .bool true]) (by simp [results, Tryz.results105, go_sem, r0, r1, r2]) rfl ?_
   exact ⟨_, true, rfl, fun _ => HY.out, fun h => (by cases h), hsz2, below_set3s HA.out.b (Nat.le_refl _) _ _ _⟩
  ·have h84' : (k == 84) = false := by rw [beq_eq_false_iff_ne]; exact h84
   by_cases h67 : k = 67
   ·subst h67
    have HSz : Hid (∀ c, Bx.IsCh b c → b.size = 6) := fun c hc => (chg_size hpos HK.out hkb hc).2.1 rfl
    have HYs : Hid (b.size = 6 → Bx.IsCh b ⟨67, { data := #[] }, numW (b.extract 1 b.size).data.toList⟩) := fun e => chg_C hpos HK.out e
    have HNm : Hid (∀ W : World, Calls Tryz.prog 149 #[.string (b.extract 1 b.size)] W fun e w' => e = .returned (.int .i64 (numW (b.extract 1 b.size).data.toList)) ∧ w' = W) := fun W => number_any _ W (by rw [ByteArray.size_extract]; omega)
    go_wp2_with fail
    refine (HNm.out _).mono ?_
    rintro e w4 ⟨rfl, hw⟩
    have hw' := hw.symm
    subst hw'
    clear hw
    generalize numW (b.extract 1 b.size).data.toList = n at *
    have g2 : W.cell? ⟨q, 2, none⟩ = some (.int .i64 0) := HA.out.c.c 2 _ rfl
    have gf := HA.out.c.f 2 (by simp)
    have hcl := HA.out.c.ty.lt
    go_upto_region 10 with fail
    clear g2 gf hcl hk
    have HA1 : ChgA w (W.setCell ⟨q, 2, none⟩ (.int .i64 n)) q 67 { data := #[] } n := ⟨HA.out.r.far (by have := HA.out.ne; omega) _ _, HA.out.c.set 2 (by simp) _, HA.out.b.setCell (by have := HA.out.ne; exact Nat.le_of_lt this) _, HA.out.ne⟩
    clear HA
    generalize W.setCell ⟨q, 2, none⟩ (.int .i64 n) = W3 at *
    have HA : Hid (ChgA w W3 q 67 { data := #[] } n) := HA1
    clear HA1
    by_cases hs6 : b.size = 6
    ·have HY : Hid (Bx.IsCh b ⟨67, { data := #[] }, n⟩) := HYs.out hs6
     have hd6 : ((b.size : Int) == 6) = true := by rw [beq_iff_eq]; omega
     have hd7 : decide ((b.size : Int) = 6) = true := decide_eq_true (by omega)
     clear hs6 hd7 HSz HYs
     have r0 := HA.out.r.c 0 _ rfl; have r1 := HA.out.r.c 1 _ rfl; have r2 := HA.out.r.c 2 _ rfl
     have f0 := HA.out.r.f 0 (by simp); have f1 := HA.out.r.f 1 (by simp); have f2 := HA.out.r.f 2 (by simp)
     have c0 := HA.out.c.c 0 _ rfl; have c1 := HA.out.c.c 1 _ rfl; have c2 := HA.out.c.c 2 _ rfl
     have hrl := HA.out.r.ty.lt
     have hcl := HA.out.c.ty.lt
     have hne := HA.out.ne
     go_wp2_with fail
     refine bodyPost_ret (v := .tuple #[chV ⟨67, { data := #[] }, n⟩, .bool true]) (by simp [results, Tryz.results105, go_sem, r0, r1, r2]) rfl ?_
     exact ⟨_, true, rfl, fun _ => HY.out, fun h => (by cases h), Nat.zero_le _, below_set3s HA.out.b (Nat.le_refl _) _ _ _⟩
    ·have HN : Hid (¬ ∃ c, Bx.IsCh b c) := fun ⟨c, hc⟩ => hs6 (HSz.out c hc)
     have hd6 : ((b.size : Int) == 6) = false := by rw [beq_eq_false_iff_ne]; omega
     have r0 := HA.out.r.c 0 _ rfl; have r1 := HA.out.r.c 1 _ rfl; have r2 := HA.out.r.c 2 _ rfl
     have f0 := HA.out.r.f 0 (by simp); have f1 := HA.out.r.f 1 (by simp); have f2 := HA.out.r.f 2 (by simp)
     have c0 := HA.out.c.c 0 _ rfl; have c1 := HA.out.c.c 1 _ rfl; have c2 := HA.out.c.c 2 _ rfl
     have hrl := HA.out.r.ty.lt
     have hcl := HA.out.c.ty.lt
     have hne := HA.out.ne
     go_wp2_with fail
     refine bodyPost_ret (v := .tuple #[chV ⟨67, { data := #[] }, n⟩, .bool false]) (by simp [results, Tryz.results105, go_sem, r0, r1, r2]) rfl ?_
     exact ⟨_, false, rfl, fun h => (by cases h), fun _ => HN.out, Nat.zero_le _, below_set3s HA.out.b (Nat.le_refl _) _ _ _⟩
   ·have h67' : (k == 67) = false := by rw [beq_eq_false_iff_ne]; exact h67
    by_cases h83 : k = 83
    ·subst h83
     have HSz : Hid (∀ c, Bx.IsCh b c → b.size = 3) := fun c hc => (chg_size hpos HK.out hkb hc).2.2 (Or.inl rfl)
     have HYs : Hid (b.size = 3 → Bx.IsCh b ⟨83, { data := #[] }, numW (b.extract 1 b.size).data.toList⟩) := fun e => chg_N hpos HK.out (Or.inl rfl) e
     have HNm : Hid (∀ W : World, Calls Tryz.prog 149 #[.string (b.extract 1 b.size)] W fun e w' => e = .returned (.int .i64 (numW (b.extract 1 b.size).data.toList)) ∧ w' = W) := fun W => number_any _ W (by rw [ByteArray.size_extract]; omega)
     go_wp2_with fail
     refine (HNm.out _).mono ?_
     rintro e w4 ⟨rfl, hw⟩
     have hw' := hw.symm
     subst hw'
     clear hw
     generalize numW (b.extract 1 b.size).data.toList = n at *
     have g2 : W.cell? ⟨q, 2, none⟩ = some (.int .i64 0) := HA.out.c.c 2 _ rfl
     have gf := HA.out.c.f 2 (by simp)
     have hcl := HA.out.c.ty.lt
     go_upto_region 16 with fail
     clear g2 gf hcl hk
     have HA1 : ChgA w (W.setCell ⟨q, 2, none⟩ (.int .i64 n)) q 83 { data := #[] } n := ⟨HA.out.r.far (by have := HA.out.ne; omega) _ _, HA.out.c.set 2 (by simp) _, HA.out.b.setCell (by have := HA.out.ne; exact Nat.le_of_lt this) _, HA.out.ne⟩
     clear HA
     generalize W.setCell ⟨q, 2, none⟩ (.int .i64 n) = W3 at *
     have HA : Hid (ChgA w W3 q 83 { data := #[] } n) := HA1
     clear HA1
     by_cases hs6 : b.size = 3
     ·have HY : Hid (Bx.IsCh b ⟨83, { data := #[] }, n⟩) := HYs.out hs6
      have hd6 : ((b.size : Int) == 3) = true := by rw [beq_iff_eq]; omega
      have hd7 : decide ((b.size : Int) = 3) = true := decide_eq_true (by omega)
      clear hs6 hd7 HSz HYs
      have r0 := HA.out.r.c 0 _ rfl; have r1 := HA.out.r.c 1 _ rfl; have r2 := HA.out.r.c 2 _ rfl
      have f0 := HA.out.r.f 0 (by simp); have f1 := HA.out.r.f 1 (by simp); have f2 := HA.out.r.f 2 (by simp)
      have c0 := HA.out.c.c 0 _ rfl; have c1 := HA.out.c.c 1 _ rfl; have c2 := HA.out.c.c 2 _ rfl
      have hrl := HA.out.r.ty.lt
      have hcl := HA.out.c.ty.lt
      have hne := HA.out.ne
      go_wp2_with fail
      refine bodyPost_ret (v := .tuple #[chV ⟨83, { data := #[] }, n⟩, .bool true]) (by simp [results, Tryz.results105, go_sem, r0, r1, r2]) rfl ?_
      exact ⟨_, true, rfl, fun _ => HY.out, fun h => (by cases h), Nat.zero_le _, below_set3s HA.out.b (Nat.le_refl _) _ _ _⟩
     ·have HN : Hid (¬ ∃ c, Bx.IsCh b c) := fun ⟨c, hc⟩ => hs6 (HSz.out c hc)
      have hd6 : ((b.size : Int) == 3) = false := by rw [beq_eq_false_iff_ne]; omega
      have r0 := HA.out.r.c 0 _ rfl; have r1 := HA.out.r.c 1 _ rfl; have r2 := HA.out.r.c 2 _ rfl
      have f0 := HA.out.r.f 0 (by simp); have f1 := HA.out.r.f 1 (by simp); have f2 := HA.out.r.f 2 (by simp)
      have c0 := HA.out.c.c 0 _ rfl; have c1 := HA.out.c.c 1 _ rfl; have c2 := HA.out.c.c 2 _ rfl
      have hrl := HA.out.r.ty.lt
      have hcl := HA.out.c.ty.lt
      have hne := HA.out.ne
      go_wp2_with fail
      refine bodyPost_ret (v := .tuple #[chV ⟨83, { data := #[] }, n⟩, .bool false]) (by simp [results, Tryz.results105, go_sem, r0, r1, r2]) rfl ?_
      exact ⟨_, false, rfl, fun h => (by cases h), fun _ => HN.out, Nat.zero_le _, below_set3s HA.out.b (Nat.le_refl _) _ _ _⟩
    ·have h83' : (k == 83) = false := by rw [beq_eq_false_iff_ne]; exact h83
     by_cases h68 : k = 68
     ·subst h68
      have HSz : Hid (∀ c, Bx.IsCh b c → b.size = 3) := fun c hc => (chg_size hpos HK.out hkb hc).2.2 (Or.inr (Or.inl rfl))
      have HYs : Hid (b.size = 3 → Bx.IsCh b ⟨68, { data := #[] }, numW (b.extract 1 b.size).data.toList⟩) := fun e => chg_N hpos HK.out (Or.inr (Or.inl rfl)) e
      have HNm : Hid (∀ W : World, Calls Tryz.prog 149 #[.string (b.extract 1 b.size)] W fun e w' => e = .returned (.int .i64 (numW (b.extract 1 b.size).data.toList)) ∧ w' = W) := fun W => number_any _ W (by rw [ByteArray.size_extract]; omega)
      go_wp2_with fail
      refine (HNm.out _).mono ?_
      rintro e w4 ⟨rfl, hw⟩
      have hw' := hw.symm
      subst hw'
      clear hw
      generalize numW (b.extract 1 b.size).data.toList = n at *
      have g2 : W.cell? ⟨q, 2, none⟩ = some (.int .i64 0) := HA.out.c.c 2 _ rfl
      have gf := HA.out.c.f 2 (by simp)
      have hcl := HA.out.c.ty.lt
      go_upto_region 16 with fail
      clear g2 gf hcl hk
      have HA1 : ChgA w (W.setCell ⟨q, 2, none⟩ (.int .i64 n)) q 68 { data := #[] } n := ⟨HA.out.r.far (by have := HA.out.ne; omega) _ _, HA.out.c.set 2 (by simp) _, HA.out.b.setCell (by have := HA.out.ne; exact Nat.le_of_lt this) _, HA.out.ne⟩
      clear HA
      generalize W.setCell ⟨q, 2, none⟩ (.int .i64 n) = W3 at *
      have HA : Hid (ChgA w W3 q 68 { data := #[] } n) := HA1
      clear HA1
      by_cases hs6 : b.size = 3
      ·have HY : Hid (Bx.IsCh b ⟨68, { data := #[] }, n⟩) := HYs.out hs6
       have hd6 : ((b.size : Int) == 3) = true := by rw [beq_iff_eq]; omega
       have hd7 : decide ((b.size : Int) = 3) = true := decide_eq_true (by omega)
       clear hs6 hd7 HSz HYs
       have r0 := HA.out.r.c 0 _ rfl; have r1 := HA.out.r.c 1 _ rfl; have r2 := HA.out.r.c 2 _ rfl
       have f0 := HA.out.r.f 0 (by simp); have f1 := HA.out.r.f 1 (by simp); have f2 := HA.out.r.f 2 (by simp)
       have c0 := HA.out.c.c 0 _ rfl; have c1 := HA.out.c.c 1 _ rfl; have c2 := HA.out.c.c 2 _ rfl
       have hrl := HA.out.r.ty.lt
       have hcl := HA.out.c.ty.lt
       have hne := HA.out.ne
       go_wp2_with fail
       refine bodyPost_ret (v := .tuple #[chV ⟨68, { data := #[] }, n⟩, .bool true]) (by simp [results, Tryz.results105, go_sem, r0, r1, r2]) rfl ?_
       exact ⟨_, true, rfl, fun _ => HY.out, fun h => (by cases h), Nat.zero_le _, below_set3s HA.out.b (Nat.le_refl _) _ _ _⟩
      ·have HN : Hid (¬ ∃ c, Bx.IsCh b c) := fun ⟨c, hc⟩ => hs6 (HSz.out c hc)
       have hd6 : ((b.size : Int) == 3) = false := by rw [beq_eq_false_iff_ne]; omega
       have r0 := HA.out.r.c 0 _ rfl; have r1 := HA.out.r.c 1 _ rfl; have r2 := HA.out.r.c 2 _ rfl
       have f0 := HA.out.r.f 0 (by simp); have f1 := HA.out.r.f 1 (by simp); have f2 := HA.out.r.f 2 (by simp)
       have c0 := HA.out.c.c 0 _ rfl; have c1 := HA.out.c.c 1 _ rfl; have c2 := HA.out.c.c 2 _ rfl
       have hrl := HA.out.r.ty.lt
       have hcl := HA.out.c.ty.lt
       have hne := HA.out.ne
       go_wp2_with fail
       refine bodyPost_ret (v := .tuple #[chV ⟨68, { data := #[] }, n⟩, .bool false]) (by simp [results, Tryz.results105, go_sem, r0, r1, r2]) rfl ?_
       exact ⟨_, false, rfl, fun h => (by cases h), fun _ => HN.out, Nat.zero_le _, below_set3s HA.out.b (Nat.le_refl _) _ _ _⟩
     ·have h68' : (k == 68) = false := by rw [beq_eq_false_iff_ne]; exact h68
      by_cases h70 : k = 70
      ·subst h70
       have HSz : Hid (∀ c, Bx.IsCh b c → b.size = 3) := fun c hc => (chg_size hpos HK.out hkb hc).2.2 (Or.inr (Or.inr (Or.inl rfl)))
       have HYs : Hid (b.size = 3 → Bx.IsCh b ⟨70, { data := #[] }, numW (b.extract 1 b.size).data.toList⟩) := fun e => chg_N hpos HK.out (Or.inr (Or.inr (Or.inl rfl))) e
       have HNm : Hid (∀ W : World, Calls Tryz.prog 149 #[.string (b.extract 1 b.size)] W fun e w' => e = .returned (.int .i64 (numW (b.extract 1 b.size).data.toList)) ∧ w' = W) := fun W => number_any _ W (by rw [ByteArray.size_extract]; omega)
       go_wp2_with fail
       refine (HNm.out _).mono ?_
       rintro e w4 ⟨rfl, hw⟩
       have hw' := hw.symm
       subst hw'
       clear hw
       generalize numW (b.extract 1 b.size).data.toList = n at *
       have g2 : W.cell? ⟨q, 2, none⟩ = some (.int .i64 0) := HA.out.c.c 2 _ rfl
       have gf := HA.out.c.f 2 (by simp)
       have hcl := HA.out.c.ty.lt
       go_upto_region 16 with fail
       clear g2 gf hcl hk
       have HA1 : ChgA w (W.setCell ⟨q, 2, none⟩ (.int .i64 n)) q 70 { data := #[] } n := ⟨HA.out.r.far (by have := HA.out.ne; omega) _ _, HA.out.c.set 2 (by simp) _, HA.out.b.setCell (by have := HA.out.ne; exact Nat.le_of_lt this) _, HA.out.ne⟩
       clear HA
       generalize W.setCell ⟨q, 2, none⟩ (.int .i64 n) = W3 at *
       have HA : Hid (ChgA w W3 q 70 { data := #[] } n) := HA1
       clear HA1
       by_cases hs6 : b.size = 3
       ·have HY : Hid (Bx.IsCh b ⟨70, { data := #[] }, n⟩) := HYs.out hs6
        have hd6 : ((b.size : Int) == 3) = true := by rw [beq_iff_eq]; omega
        have hd7 : decide ((b.size : Int) = 3) = true := decide_eq_true (by omega)
        clear hs6 hd7 HSz HYs
        have r0 := HA.out.r.c 0 _ rfl; have r1 := HA.out.r.c 1 _ rfl; have r2 := HA.out.r.c 2 _ rfl
        have f0 := HA.out.r.f 0 (by simp); have f1 := HA.out.r.f 1 (by simp); have f2 := HA.out.r.f 2 (by simp)
        have c0 := HA.out.c.c 0 _ rfl; have c1 := HA.out.c.c 1 _ rfl; have c2 := HA.out.c.c 2 _ rfl
        have hrl := HA.out.r.ty.lt
        have hcl := HA.out.c.ty.lt
        have hne := HA.out.ne
        go_wp2_with fail
        refine bodyPost_ret (v := .tuple #[chV ⟨70, { data := #[] }, n⟩, .bool true]) (by simp [results, Tryz.results105, go_sem, r0, r1, r2]) rfl ?_
        exact ⟨_, true, rfl, fun _ => HY.out, fun h => (by cases h), Nat.zero_le _, below_set3s HA.out.b (Nat.le_refl _) _ _ _⟩
       ·have HN : Hid (¬ ∃ c, Bx.IsCh b c) := fun ⟨c, hc⟩ => hs6 (HSz.out c hc)
        have hd6 : ((b.size : Int) == 3) = false := by rw [beq_eq_false_iff_ne]; omega
        have r0 := HA.out.r.c 0 _ rfl; have r1 := HA.out.r.c 1 _ rfl; have r2 := HA.out.r.c 2 _ rfl
        have f0 := HA.out.r.f 0 (by simp); have f1 := HA.out.r.f 1 (by simp); have f2 := HA.out.r.f 2 (by simp)
        have c0 := HA.out.c.c 0 _ rfl; have c1 := HA.out.c.c 1 _ rfl; have c2 := HA.out.c.c 2 _ rfl
        have hrl := HA.out.r.ty.lt
        have hcl := HA.out.c.ty.lt
        have hne := HA.out.ne
        go_wp2_with fail
        refine bodyPost_ret (v := .tuple #[chV ⟨70, { data := #[] }, n⟩, .bool false]) (by simp [results, Tryz.results105, go_sem, r0, r1, r2]) rfl ?_
        exact ⟨_, false, rfl, fun h => (by cases h), fun _ => HN.out, Nat.zero_le _, below_set3s HA.out.b (Nat.le_refl _) _ _ _⟩
      ·have h70' : (k == 70) = false := by rw [beq_eq_false_iff_ne]; exact h70
       by_cases h75 : k = 75
       ·subst h75
        have HSz : Hid (∀ c, Bx.IsCh b c → b.size = 3) := fun c hc => (chg_size hpos HK.out hkb hc).2.2 (Or.inr (Or.inr (Or.inr rfl)))
        have HYs : Hid (b.size = 3 → Bx.IsCh b ⟨75, { data := #[] }, numW (b.extract 1 b.size).data.toList⟩) := fun e => chg_N hpos HK.out (Or.inr (Or.inr (Or.inr rfl))) e
        have HNm : Hid (∀ W : World, Calls Tryz.prog 149 #[.string (b.extract 1 b.size)] W fun e w' => e = .returned (.int .i64 (numW (b.extract 1 b.size).data.toList)) ∧ w' = W) := fun W => number_any _ W (by rw [ByteArray.size_extract]; omega)
        go_wp2_with fail
        refine (HNm.out _).mono ?_
        rintro e w4 ⟨rfl, hw⟩
        have hw' := hw.symm
        subst hw'
        clear hw
        generalize numW (b.extract 1 b.size).data.toList = n at *
        have g2 : W.cell? ⟨q, 2, none⟩ = some (.int .i64 0) := HA.out.c.c 2 _ rfl
        have gf := HA.out.c.f 2 (by simp)
        have hcl := HA.out.c.ty.lt
        go_upto_region 16 with fail
        clear g2 gf hcl hk
        have HA1 : ChgA w (W.setCell ⟨q, 2, none⟩ (.int .i64 n)) q 75 { data := #[] } n := ⟨HA.out.r.far (by have := HA.out.ne; omega) _ _, HA.out.c.set 2 (by simp) _, HA.out.b.setCell (by have := HA.out.ne; exact Nat.le_of_lt this) _, HA.out.ne⟩
        clear HA
        generalize W.setCell ⟨q, 2, none⟩ (.int .i64 n) = W3 at *
        have HA : Hid (ChgA w W3 q 75 { data := #[] } n) := HA1
        clear HA1
        by_cases hs6 : b.size = 3
        ·have HY : Hid (Bx.IsCh b ⟨75, { data := #[] }, n⟩) := HYs.out hs6
         have hd6 : ((b.size : Int) == 3) = true := by rw [beq_iff_eq]; omega
         have hd7 : decide ((b.size : Int) = 3) = true := decide_eq_true (by omega)
         clear hs6 hd7 HSz HYs
         have r0 := HA.out.r.c 0 _ rfl; have r1 := HA.out.r.c 1 _ rfl; have r2 := HA.out.r.c 2 _ rfl
         have f0 := HA.out.r.f 0 (by simp); have f1 := HA.out.r.f 1 (by simp); have f2 := HA.out.r.f 2 (by simp)
         have c0 := HA.out.c.c 0 _ rfl; have c1 := HA.out.c.c 1 _ rfl; have c2 := HA.out.c.c 2 _ rfl
         have hrl := HA.out.r.ty.lt
         have hcl := HA.out.c.ty.lt
         have hne := HA.out.ne
         go_wp2_with fail
         refine bodyPost_ret (v := .tuple #[chV ⟨75, { data := #[] }, n⟩, .bool true]) (by simp [results, Tryz.results105, go_sem, r0, r1, r2]) rfl ?_
         exact ⟨_, true, rfl, fun _ => HY.out, fun h => (by cases h), Nat.zero_le _, below_set3s HA.out.b (Nat.le_refl _) _ _ _⟩
        ·have HN : Hid (¬ ∃ c, Bx.IsCh b c) := fun ⟨c, hc⟩ => hs6 (HSz.out c hc)
         have hd6 : ((b.size : Int) == 3) = false := by rw [beq_eq_false_iff_ne]; omega
         have r0 := HA.out.r.c 0 _ rfl; have r1 := HA.out.r.c 1 _ rfl; have r2 := HA.out.r.c 2 _ rfl
         have f0 := HA.out.r.f 0 (by simp); have f1 := HA.out.r.f 1 (by simp); have f2 := HA.out.r.f 2 (by simp)
         have c0 := HA.out.c.c 0 _ rfl; have c1 := HA.out.c.c 1 _ rfl; have c2 := HA.out.c.c 2 _ rfl
         have hrl := HA.out.r.ty.lt
         have hcl := HA.out.c.ty.lt
         have hne := HA.out.ne
         go_wp2_with fail
         refine bodyPost_ret (v := .tuple #[chV ⟨75, { data := #[] }, n⟩, .bool false]) (by simp [results, Tryz.results105, go_sem, r0, r1, r2]) rfl ?_
         exact ⟨_, false, rfl, fun h => (by cases h), fun _ => HN.out, Nat.zero_le _, below_set3s HA.out.b (Nat.le_refl _) _ _ _⟩
       ·have h75' : (k == 75) = false := by rw [beq_eq_false_iff_ne]; exact h75
        have HN : Hid (¬ ∃ c, Bx.IsCh b c) := chg_none hpos HK.out hkb ⟨h84, h67, h83, h68, h70, h75⟩
        have r0 := HA.out.r.c 0 _ rfl; have r1 := HA.out.r.c 1 _ rfl; have r2 := HA.out.r.c 2 _ rfl
        have f0 := HA.out.r.f 0 (by simp); have f1 := HA.out.r.f 1 (by simp); have f2 := HA.out.r.f 2 (by simp)
        have c0 := HA.out.c.c 0 _ rfl; have c1 := HA.out.c.c 1 _ rfl; have c2 := HA.out.c.c 2 _ rfl
        have hrl := HA.out.r.ty.lt
        have hcl := HA.out.c.ty.lt
        have hne := HA.out.ne
        go_wp2_with fail
        refine bodyPost_ret (v := .tuple #[chV ⟨k, { data := #[] }, 0⟩, .bool false]) (by simp [results, Tryz.results105, go_sem, r0, r1, r2]) rfl ?_
        exact ⟨_, false, rfl, fun h => (by cases h), fun _ => HN.out, Nat.zero_le _, below_set3s HA.out.b (Nat.le_refl _) _ _ _⟩
end Go.Proofs.YtdajolpoiffimaaGreatDoor

namespace Go.Proofs.YtdajolpoiffimaaGreatDoor
open Go.RowKit
attribute [local go_sem] Bx.be_size

theorem rcat_take {α : Type} (f : α → ByteArray) (l : List α) (k : Nat) (h : k < l.length) : Bx.cat ((l.take (k + 1)).map f) = Bx.cat ((l.take k).map f) ++ f l[k] := by
 rw [List.take_succ_eq_append_getElem h, List.map_append, List.map_cons, List.map_nil, Bx.cat_snoc]
theorem rsl_enc (x : Bx.Sl) (y : ByteArray) (hy : y = Bx.be (Bx.mk1 x.runs) 1) (t : ByteArray) : t ++ Bx.be x.num 2 ++ Bx.be x.line 1 ++ Bx.be x.minute 5 ++ Bx.be x.att 1 ++ Bx.be x.frm 5 ++ y = t ++ Bx.encSl x := by
 subst hy; unfold Bx.encSl; simp only [ByteArray.append_assoc]
/-- The head of a whole state. -/
def whHead (s : Bx.St) : ByteArray := { data := #[90] } ++ Bx.be (s.clock + 1) 5 ++ Bx.be s.next 2 ++ Bx.be s.tab.size 2 ++ s.tab ++ Bx.be s.slots.length 1
theorem wh_all (s : Bx.St) : whHead s ++ Bx.cat (s.slots.map Bx.encSl) ++ Bx.be s.ends.length 1 ++ Bx.cat (s.ends.map Bx.encEn) = Bx.wholeS s := by
 unfold whHead Bx.wholeS Bx.encSt
 have e : ({ data := #[90] } : ByteArray) = Bx.b1 90 := by decide
 rw [e]; simp only [ByteArray.append_assoc]
theorem whHead_size (s : Bx.St) : (whHead s).size = 11 + s.tab.size := by
 unfold whHead
 simp only [ByteArray.size_append, Bx.be_size]
 have : ({ data := #[90] } : ByteArray).size = 1 := rfl
 omega
theorem rbytes_at (n : Int) (k : Nat) (w : World) (h1 : 0 ≤ n) (h2 : n ≤ 9223372036854775807) (hk : k ≤ 10) : Calls Tryz.prog 108 #[.int .i64 n, .int .i64 k] w fun e w' => e = .returned (.string (Bx.be n k)) ∧ Below w.heap.size w w' := bytes_any k n w h1 h2 hk
set_option maxRecDepth 10000 in
set_option maxHeartbeats 4000000 in
theorem whole_any (s : Bx.St) (sl en : Value) (w : World) (hf : Bx.StFit s) (h8 : s.slots.length ≤ 255) (h6 : s.ends.length ≤ 6) (hS : StAt w s sl en) :
 Calls Tryz.prog 60 #[stV s sl en] w fun e w' => e = .returned (.string (Bx.wholeS s)) ∧ Below w.heap.size w w' := by
 obtain ⟨ad, cap, rfl, hcap⟩ := hS.sl.form
 obtain ⟨ad2, cap2, rfl, hcap2⟩ := hS.en.form
 have hb0 := below_alloc w (stO s (.slice ad s.slots.length cap) (.slice ad2 s.ends.length cap2))
 have hI := StIn.new w s (.slice ad s.slots.length cap) (.slice ad2 s.ends.length cap2)
 have HF : Hid (Bx.StFit s) := hf
 obtain ⟨f1, f2⟩ := hf.c
 obtain ⟨f3, f4⟩ := hf.n
 have f5 := hf.t
 have wr1 : IntKind.i64.wrap (s.clock + 1) = s.clock + 1 := by rw [IntKind.wrap_i64]; omega
 have HS0 : Hid (StAt w s (.slice ad s.slots.length cap) (.slice ad2 s.ends.length cap2)) := hS
 clear hf hS
 go_enter Tryz.func60, Tryz.ntmps60
 go_upto_region 1 with fail
 generalize w.alloc (stO s (.slice ad s.slots.length cap) (.slice ad2 s.ends.length cap2)) = W at *
 have HI : Hid (StIn W w.heap.size s (.slice ad s.slots.length cap) (.slice ad2 s.ends.length cap2)) := hI
 have HB : Hid (Below w.heap.size w W) := hb0
 have HS : Hid (StAt W s (.slice ad s.slots.length cap) (.slice ad2 s.ends.length cap2)) := HS0.out.later hb0
 obtain ⟨c0, c1, c2, c3, c4⟩ := hI
 have hq : w.heap.size < W.heap.size := World.block_lt_of_cell? _ _ c0
 clear hb0 HS0
 have C0 : Hid (∀ w : World, Below W.heap.size W w → Calls Tryz.prog 108 #[.int .i64 (s.clock + 1), .int .i64 5] w fun e w' => e = .returned (.string (Bx.be (s.clock + 1) 5)) ∧ Below W.heap.size W w') := fun w hb => (rbytes_at (s.clock + 1) 5 w (by omega) (by omega) (by decide)).mono fun _ _ h => ⟨h.1, hb.trans (h.2.mono hb.size)⟩
 have C1 : Hid (∀ w : World, Below W.heap.size W w → Calls Tryz.prog 108 #[.int .i64 s.next, .int .i64 2] w fun e w' => e = .returned (.string (Bx.be s.next 2)) ∧ Below W.heap.size W w') := fun w hb => (rbytes_at s.next 2 w (by omega) (by omega) (by decide)).mono fun _ _ h => ⟨h.1, hb.trans (h.2.mono hb.size)⟩
 have C2 : Hid (∀ w : World, Below W.heap.size W w → Calls Tryz.prog 108 #[.int .i64 (s.tab.size : Int), .int .i64 2] w fun e w' => e = .returned (.string (Bx.be (s.tab.size : Int) 2)) ∧ Below W.heap.size W w') := fun w hb => (rbytes_at (s.tab.size : Int) 2 w (by omega) (by omega) (by decide)).mono fun _ _ h => ⟨h.1, hb.trans (h.2.mono hb.size)⟩
 have C3 : Hid (∀ w : World, Below W.heap.size W w → Calls Tryz.prog 108 #[.int .i64 (s.slots.length : Int), .int .i64 1] w fun e w' => e = .returned (.string (Bx.be (s.slots.length : Int) 1)) ∧ Below W.heap.size W w') := fun w hb => (rbytes_at (s.slots.length : Int) 1 w (by omega) (by omega) (by decide)).mono fun _ _ h => ⟨h.1, hb.trans (h.2.mono hb.size)⟩
 have q1 : ¬ 9223372036854775807 < 10 + s.tab.size := by omega
 have q2 : ¬ 9223372036854775807 < 10 + s.tab.size + 1 := by omega
 go_wp2_with fail
 go_cut [3] from 8 to 29 (fun s3 wx => s3 = .string (whHead s) ∧ Below W.heap.size W wx)
 case first =>
  go_region_held3 (fun w' => ∀ b o, b < W.heap.size → w'.cell? ⟨b, o, none⟩ = W.cell? ⟨b, o, none⟩)
   ((intro b' o' h1; first | (with_reducible exact hbD.cell (p := ⟨b', o', none⟩) h1) | (with_reducible exact hbC.cell (p := ⟨b', o', none⟩) h1) | (with_reducible exact hbB.cell (p := ⟨b', o', none⟩) h1) | (with_reducible exact hbA.cell (p := ⟨b', o', none⟩) h1) | (with_reducible exact ((Below.refl _ _).drew).cell (p := ⟨b', o', none⟩) h1) | rfl))
   ((go_at_call 108;
     first
     | (with_reducible refine (C0.out _ ?hb).mono ?_; (case hb => first | exact hbD | exact hbC | exact hbB | exact hbA | exact (Below.refl _ _).drew | exact Below.refl _ _); rintro e v0 ⟨rfl, hbA⟩)
     | (with_reducible refine (C1.out _ ?hb).mono ?_; (case hb => first | exact hbD | exact hbC | exact hbB | exact hbA | exact (Below.refl _ _).drew | exact Below.refl _ _); rintro e v1 ⟨rfl, hbB⟩)
     | (with_reducible refine (C2.out _ ?hb).mono ?_; (case hb => first | exact hbD | exact hbC | exact hbB | exact hbA | exact (Below.refl _ _).drew | exact Below.refl _ _); rintro e v2 ⟨rfl, hbC⟩)
     | (with_reducible refine (C3.out _ ?hb).mono ?_; (case hb => first | exact hbD | exact hbC | exact hbB | exact hbA | exact (Below.refl _ _).drew | exact Below.refl _ _); rintro e v3 ⟨rfl, hbD⟩)))
  go_wp2_with fail
  go_meet
  exact ⟨rfl, hbD⟩
 case rest =>
  obtain ⟨rfl, hbc⟩ := hcut
  rename World => wh
  have HBc : Hid (Below w.heap.size w wh) := HB.out.trans (hbc.mono HB.out.size)
  have HIc : Hid (StIn wh w.heap.size s (.slice ad s.slots.length cap) (.slice ad2 s.ends.length cap2)) := HI.out.later hbc
  have HSc : Hid (StAt wh s (.slice ad s.slots.length cap) (.slice ad2 s.ends.length cap2)) := HS.out.later hbc
  have hqc : w.heap.size < wh.heap.size := Nat.lt_of_lt_of_le hq hbc.size
  clear c0 c1 c2 c3 c4 hq q1 q2 C0 C1 C2 C3 hbc HI HS HB wr1
  have hz0 := whHead_size s
  go_wp2_with fail
  go_loopw [3, 4] (fun tv i wr => ∃ k : Nat, k ≤ s.slots.length ∧ i = .int .i64 k ∧ tv = .string (whHead s ++ Bx.cat ((s.slots.take k).map Bx.encSl)) ∧ Below wh.heap.size wh wr) (fun _ i _ => s.slots.length - (intOf i).toNat)
  case atStart => exact ⟨0, Nat.zero_le _, rfl, by simp [Bx.cat], Below.refl _ _⟩
  case round =>
   rename World => wa
   obtain ⟨k, hk, rfl, rfl, hbr⟩ := hrel
   have HBr : Hid (Below wh.heap.size wh wa) := hbr
   have HIr : Hid (StIn wa w.heap.size s (.slice ad s.slots.length cap) (.slice ad2 s.ends.length cap2)) := HIc.out.later hbr
   have HSr : Hid (StAt wa s (.slice ad s.slots.length cap) (.slice ad2 s.ends.length cap2)) := HSc.out.later hbr
   have c3 : wa.cell? ⟨w.heap.size, 3, none⟩ = some (.slice ad s.slots.length cap) := HIr.out.c3
   have hqa : w.heap.size < wa.heap.size := Nat.lt_of_lt_of_le hqc hbr.size
   clear hbr
   have hz : (whHead s ++ Bx.cat ((s.slots.take k).map Bx.encSl)).size ≤ 80000 := by
    have h1 := Bx.cat_size Bx.encSl 15 (s.slots.take k) (fun x _ => Bx.encSl_size _)
    have h2 : (s.slots.take k).length ≤ 255 := by simp; omega
    rw [ByteArray.size_append, h1, hz0]; omega
   by_cases hlt : k < s.slots.length
   ·obtain ⟨eb, off, cap', hv, _, hc⟩ := HSr.out.sl.1.some' (by omega)
    cases hv
    obtain ⟨d0, d1, d2, d3, d4, d5⟩ := slot_cells hc k hlt
    clear hc
    have b1 : (0 : Int) ≤ (k : Int) := by omega
    have b2 : (k : Int) < (s.slots.length : Int) := by omega
    have hx := HF.out.es _ (List.getElem_mem hlt)
    have HN : Hid (whHead s ++ Bx.cat ((s.slots.take (k + 1)).map Bx.encSl) = (whHead s ++ Bx.cat ((s.slots.take k).map Bx.encSl)) ++ Bx.encSl s.slots[k]) := by
     unfold Hid; rw [rcat_take Bx.encSl s.slots k hlt, ByteArray.append_assoc]
    generalize s.slots[k] = x at *
    generalize whHead s ++ Bx.cat ((s.slots.take k).map Bx.encSl) = tx at *
    have n1 := hx.n; have n2 := hx.l; have n3 := hx.m; have n4 := hx.a; have n5 := hx.f
    clear hx
    have hb2 := below_alloc wa (.cells #[.int .i64 x.num, .int .i64 x.line, .int .i64 x.minute, .int .i64 x.att, .int .i64 x.frm, .bool x.runs] 167)
    have hX := Cl.new wa [.int .i64 x.num, .int .i64 x.line, .int .i64 x.minute, .int .i64 x.att, .int .i64 x.frm, .bool x.runs] 167
    go_upto_region 6 with fail
    have hX' : Cl (wa.alloc (.cells #[.int .i64 x.num, .int .i64 x.line, .int .i64 x.minute, .int .i64 x.att, .int .i64 x.frm, .bool x.runs] 167)) wa.heap.size 167 [.int .i64 x.num, .int .i64 x.line, .int .i64 x.minute, .int .i64 x.att, .int .i64 x.frm, .bool x.runs] := hX
    clear hX d0 d1 d2 d3 d4 d5 c3
    have HB2 : Hid (Below wh.heap.size wh (wa.alloc (.cells #[.int .i64 x.num, .int .i64 x.line, .int .i64 x.minute, .int .i64 x.att, .int .i64 x.frm, .bool x.runs] 167))) := HBr.out.trans (hb2.mono HBr.out.size)
    clear hb2 HBr hqa
    generalize wa.alloc (.cells #[.int .i64 x.num, .int .i64 x.line, .int .i64 x.minute, .int .i64 x.att, .int .i64 x.frm, .bool x.runs] 167) = W2 at *
    generalize wa.heap.size = xq at *
    have HX : Hid (Cl W2 xq 167 [.int .i64 x.num, .int .i64 x.line, .int .i64 x.minute, .int .i64 x.att, .int .i64 x.frm, .bool x.runs]) := hX'
    have e0 := hX'.c 0 _ rfl; have e1 := hX'.c 1 _ rfl; have e2 := hX'.c 2 _ rfl; have e3 := hX'.c 3 _ rfl; have e4 := hX'.c 4 _ rfl
    have hxl := hX'.ty.lt
    clear hX'
    have C0 : Hid (∀ w : World, Below W2.heap.size W2 w → Calls Tryz.prog 108 #[.int .i64 x.num, .int .i64 2] w fun e w' => e = .returned (.string (Bx.be x.num 2)) ∧ Below W2.heap.size W2 w') := fun w hb => (rbytes_at x.num 2 w (by omega) (by omega) (by decide)).mono fun _ _ h => ⟨h.1, hb.trans (h.2.mono hb.size)⟩
    have C1 : Hid (∀ w : World, Below W2.heap.size W2 w → Calls Tryz.prog 108 #[.int .i64 x.line, .int .i64 1] w fun e w' => e = .returned (.string (Bx.be x.line 1)) ∧ Below W2.heap.size W2 w') := fun w hb => (rbytes_at x.line 1 w (by omega) (by omega) (by decide)).mono fun _ _ h => ⟨h.1, hb.trans (h.2.mono hb.size)⟩
    have C2 : Hid (∀ w : World, Below W2.heap.size W2 w → Calls Tryz.prog 108 #[.int .i64 x.minute, .int .i64 5] w fun e w' => e = .returned (.string (Bx.be x.minute 5)) ∧ Below W2.heap.size W2 w') := fun w hb => (rbytes_at x.minute 5 w (by omega) (by omega) (by decide)).mono fun _ _ h => ⟨h.1, hb.trans (h.2.mono hb.size)⟩
    have C3 : Hid (∀ w : World, Below W2.heap.size W2 w → Calls Tryz.prog 108 #[.int .i64 x.att, .int .i64 1] w fun e w' => e = .returned (.string (Bx.be x.att 1)) ∧ Below W2.heap.size W2 w') := fun w hb => (rbytes_at x.att 1 w (by omega) (by omega) (by decide)).mono fun _ _ h => ⟨h.1, hb.trans (h.2.mono hb.size)⟩
    have C4 : Hid (∀ w : World, Below W2.heap.size W2 w → Calls Tryz.prog 108 #[.int .i64 x.frm, .int .i64 5] w fun e w' => e = .returned (.string (Bx.be x.frm 5)) ∧ Below W2.heap.size W2 w') := fun w hb => (rbytes_at x.frm 5 w (by omega) (by omega) (by decide)).mono fun _ _ h => ⟨h.1, hb.trans (h.2.mono hb.size)⟩
    have q1 : ¬ 9223372036854775807 < tx.size + 2 := by omega
    have q2 : ¬ 9223372036854775807 < tx.size + 2 + 1 := by omega
    have q3 : ¬ 9223372036854775807 < tx.size + 2 + 1 + 5 := by omega
    have q4 : ¬ 9223372036854775807 < tx.size + 2 + 1 + 5 + 1 := by omega
    have q5 : ¬ 9223372036854775807 < tx.size + 2 + 1 + 5 + 1 + 5 := by omega
    have r1 : ¬ 9223372036854775807 < tx.size + 3 := by omega
    have r2 : ¬ 9223372036854775807 < tx.size + 8 := by omega
    have r3 : ¬ 9223372036854775807 < tx.size + 9 := by omega
    have r4 : ¬ 9223372036854775807 < tx.size + 14 := by omega
    have r5 : ¬ 9223372036854775807 < tx.size + 15 := by omega
    go_wp2_with fail
    go_cut [3] from 30 to 68 (fun s3 wx => s3 = .string (tx ++ Bx.be x.num 2 ++ Bx.be x.line 1 ++ Bx.be x.minute 5 ++ Bx.be x.att 1 ++ Bx.be x.frm 5) ∧ Below W2.heap.size W2 wx)
    case first =>
     go_region_held3 (fun w' => ∀ b o, b < W2.heap.size → w'.cell? ⟨b, o, none⟩ = W2.cell? ⟨b, o, none⟩)
      ((intro b' o' h1; first | (with_reducible exact hbE.cell (p := ⟨b', o', none⟩) h1) | (with_reducible exact hbD.cell (p := ⟨b', o', none⟩) h1) | (with_reducible exact hbC.cell (p := ⟨b', o', none⟩) h1) | (with_reducible exact hbB.cell (p := ⟨b', o', none⟩) h1) | (with_reducible exact hbA.cell (p := ⟨b', o', none⟩) h1) | (with_reducible exact ((Below.refl _ _).drew).cell (p := ⟨b', o', none⟩) h1) | rfl))
      ((go_at_call 108;
        first
        | (with_reducible refine (C0.out _ ?hb).mono ?_; (case hb => first | exact hbE | exact hbD | exact hbC | exact hbB | exact hbA | exact (Below.refl _ _).drew | exact Below.refl _ _); rintro e v0 ⟨rfl, hbA⟩)
        | (with_reducible refine (C1.out _ ?hb).mono ?_; (case hb => first | exact hbE | exact hbD | exact hbC | exact hbB | exact hbA | exact (Below.refl _ _).drew | exact Below.refl _ _); rintro e v1 ⟨rfl, hbB⟩)
        | (with_reducible refine (C2.out _ ?hb).mono ?_; (case hb => first | exact hbE | exact hbD | exact hbC | exact hbB | exact hbA | exact (Below.refl _ _).drew | exact Below.refl _ _); rintro e v2 ⟨rfl, hbC⟩)
        | (with_reducible refine (C3.out _ ?hb).mono ?_; (case hb => first | exact hbE | exact hbD | exact hbC | exact hbB | exact hbA | exact (Below.refl _ _).drew | exact Below.refl _ _); rintro e v3 ⟨rfl, hbD⟩)
        | (with_reducible refine (C4.out _ ?hb).mono ?_; (case hb => first | exact hbE | exact hbD | exact hbC | exact hbB | exact hbA | exact (Below.refl _ _).drew | exact Below.refl _ _); rintro e v4 ⟨rfl, hbE⟩)))
     go_wp2_with fail
     go_meet
     exact ⟨rfl, hbE⟩
    case rest =>
     obtain ⟨rfl, hbw⟩ := hcut
     rename World => wd
     have HBd : Hid (Below wh.heap.size wh wd) := HB2.out.trans (hbw.mono HB2.out.size)
     have hXd := HX.out.later hbw
     have e5 : wd.cell? ⟨xq, 5, none⟩ = some (.bool x.runs) := hXd.c 5 _ rfl
     have hxd := hXd.ty.lt
     have q6 : ¬ 9223372036854775807 < tx.size + 2 + 1 + 5 + 1 + 5 + 1 := by omega
     have q7 : ¬ 9223372036854775807 < tx.size + 14 + 1 := by omega
     clear hXd hbw HB2 HX e0 e1 e2 e3 e4 hxl C0 C1 C2 C3 C4
     cases hr : x.runs
     ·rw [hr] at e5
      have HE : Hid (tx ++ Bx.be x.num 2 ++ Bx.be x.line 1 ++ Bx.be x.minute 5 ++ Bx.be x.att 1 ++ Bx.be x.frm 5 ++ { data := #[0] } = tx ++ Bx.encSl x) := rsl_enc x _ (by rw [hr]; decide) tx
      clear hr
      go_wp2_with fail
      go_roundw
      case rel => exact ⟨k + 1, by omega, by go_num, by rw [HN.out, ← HE.out], HBd.out⟩
      case measure => simp [intOf]; omega
     ·rw [hr] at e5
      have HE : Hid (tx ++ Bx.be x.num 2 ++ Bx.be x.line 1 ++ Bx.be x.minute 5 ++ Bx.be x.att 1 ++ Bx.be x.frm 5 ++ { data := #[1] } = tx ++ Bx.encSl x) := rsl_enc x _ (by rw [hr]; decide) tx
      clear hr
      go_wp2_with fail
      go_roundw
      case rel => exact ⟨k + 1, by omega, by go_num, by rw [HN.out, ← HE.out], HBd.out⟩
      case measure => simp [intOf]; omega
   ·obtain rfl : k = s.slots.length := by omega
    have b2 : ¬ (s.slots.length : Int) < (s.slots.length : Int) := by omega
    rw [List.take_length] at hz ⊢
    have HBa : Hid (Below w.heap.size w wa) := HBc.out.trans (HBr.out.mono HBc.out.size)
    obtain ⟨g0, g1, g2, g3, g4⟩ := HIr.out
    have HAll : Hid (whHead s ++ Bx.cat (s.slots.map Bx.encSl) ++ Bx.be s.ends.length 1 ++ Bx.cat (s.ends.map Bx.encEn) = Bx.wholeS s) := wh_all s
    clear hlt c3
    go_wp2_with fail
    refine (last_any s _ _ wa h6 HSr.out).mono ?_
    rintro e w5 ⟨rfl, hb5⟩
    have HB5 : Hid (Below w.heap.size w w5) := HBa.out.trans (hb5.mono HBa.out.size)
    have HE5 : Hid (TRow w5 95 (.slice ad2 s.ends.length cap2) s.ends.length (s.ends.flatMap enC)) := HSr.out.en.later hb5
    clear g0 g1 g2 g3 g4 hb5 HBa
    generalize whHead s ++ Bx.cat (s.slots.map Bx.encSl) = ty at *
    have q1 : ¬ 9223372036854775807 < ty.size + 1 := by omega
    go_wp2_with fail
    refine (rbytes_at (s.ends.length : Int) 1 _ (by omega) (by omega) (by decide)).mono ?_
    rintro e w6 ⟨rfl, hb6⟩
    have HB6 : Hid (Below w.heap.size w w6) := HB5.out.trans (hb6.mono HB5.out.size)
    have HE6 : Hid (TRow w6 95 (.slice ad2 s.ends.length cap2) s.ends.length (s.ends.flatMap enC)) := HE5.out.later hb6
    clear hb6 HB5 HE5
    have hz6 : (ty ++ Bx.be s.ends.length 1).size ≤ 80001 := by rw [ByteArray.size_append, Bx.be_size]; omega
    go_wp2_with fail
    clear q1
    generalize ty ++ Bx.be s.ends.length 1 = tz at *
    go_loopw [3, 7] (fun tv i wr => ∃ k : Nat, k ≤ s.ends.length ∧ i = .int .i64 k ∧ tv = .string (tz ++ Bx.cat ((s.ends.take k).map Bx.encEn)) ∧ Below w6.heap.size w6 wr) (fun _ i _ => s.ends.length - (intOf i).toNat)
    case atStart => exact ⟨0, Nat.zero_le _, rfl, by simp [Bx.cat], Below.refl _ _⟩
    case round =>
     obtain ⟨k, hk, rfl, rfl, hbr⟩ := hrel
     have HBq : Hid (Below w6.heap.size w6 wr) := hbr
     have hE := HE6.out.later hbr
     clear hbr
     by_cases hlt : k < s.ends.length
     ·obtain ⟨eb, off, cap', hv, _, hc⟩ := hE.1.some' (by omega)
      cases hv
      have d0 : wr.cell? ⟨eb, off + k * 2, none⟩ = some (.int .i64 s.ends[k].num) := RowAt.cell enC_len hc k hlt 0 (by decide)
      have d1 : wr.cell? ⟨eb, off + k * 2 + 1, none⟩ = some (.string s.ends[k].how) := RowAt.cell enC_len hc k hlt 1 (by decide)
      have hebl : eb < wr.heap.size := World.block_lt_of_cell? _ _ d0
      clear hc hE
      have b1 : (0 : Int) ≤ (k : Int) := by omega
      have b2 : (k : Int) < (s.ends.length : Int) := by omega
      have hx := HF.out.ee _ (List.getElem_mem hlt)
      have HN : Hid (tz ++ Bx.cat ((s.ends.take (k + 1)).map Bx.encEn) = (tz ++ Bx.cat ((s.ends.take k).map Bx.encEn)) ++ Bx.be s.ends[k].num 2 ++ s.ends[k].how) := by
       unfold Hid; rw [rcat_take Bx.encEn s.ends k hlt]; unfold Bx.encEn; simp only [ByteArray.append_assoc]
      have hzk : (tz ++ Bx.cat ((s.ends.take k).map Bx.encEn)).size ≤ 90000 := by
       have h1 := Bx.cat_size Bx.encEn 3 (s.ends.take k) (fun x hx => by have := (HF.out.ee x (List.mem_of_mem_take hx)).h; unfold Bx.encEn; rw [ByteArray.size_append, Bx.be_size, this])
       have h2 : (s.ends.take k).length ≤ 6 := by simp; omega
       rw [ByteArray.size_append, h1]; omega
      generalize s.ends[k] = x at *
      generalize tz ++ Bx.cat ((s.ends.take k).map Bx.encEn) = tx at *
      have n1 := hx.n; have n2 := hx.h
      clear hx
      have q1 : ¬ 9223372036854775807 < tx.size + 2 := by omega
      have q2 : ¬ 9223372036854775807 < tx.size + 2 + x.how.size := by omega
      have q3 : ¬ 9223372036854775807 < tx.size + (2 + x.how.size) := by omega
      have HH : Hid (x.how.size = 1) := n2
      clear n2
      have C0 : Hid (∀ w : World, Below wr.heap.size wr w → Calls Tryz.prog 108 #[.int .i64 x.num, .int .i64 2] w fun e w' => e = .returned (.string (Bx.be x.num 2)) ∧ Below wr.heap.size wr w') := fun w hb => (rbytes_at x.num 2 w (by omega) (by omega) (by decide)).mono fun _ _ h => ⟨h.1, hb.trans (h.2.mono hb.size)⟩
      go_wp2_with fail
      go_region_held3 (fun w' => ∀ b o, b < wr.heap.size → w'.cell? ⟨b, o, none⟩ = wr.cell? ⟨b, o, none⟩)
       ((intro b' o' h1; first | (with_reducible exact hbA.cell (p := ⟨b', o', none⟩) h1) | (with_reducible exact ((Below.refl _ _).drew).cell (p := ⟨b', o', none⟩) h1) | rfl))
       ((go_at_call 108;
         first
         | (with_reducible refine (C0.out _ ?hb).mono ?_; (case hb => first | exact hbA | exact (Below.refl _ _).drew | exact Below.refl _ _); rintro e v0 ⟨rfl, hbA⟩)))
      rename ∀ (b o : Nat), b < wr.heap.size → _ = wr.cell? _ => hSold
      have HBw : Hid (Below w6.heap.size w6 v0) := HBq.out.trans (hbA.mono HBq.out.size)
      clear hSold hbA HBq d0 d1 hebl C0 q1 q2 q3
      go_wp2_with fail
      go_roundw
      case rel => exact ⟨k + 1, by omega, by go_num, by rw [HN.out], HBw.out⟩
      case measure => simp [intOf]; omega
     ·obtain rfl : k = s.ends.length := by omega
      have b2 : ¬ (s.ends.length : Int) < (s.ends.length : Int) := by omega
      rw [List.take_length, HAll.out]
      clear hlt
      go_wp2_with fail
      go_ret
      exact ⟨rfl, HB6.out.trans (HBq.out.mono HB6.out.size)⟩
end Go.Proofs.YtdajolpoiffimaaGreatDoor
