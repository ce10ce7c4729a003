/-
  PrgFail, PrgMay, PrgMay2, PrgMay3, PrgMay4, PrgPart, PrgRead, PrgRead2, PrgRead3, PrgBody.
-/
import Derived.Deep.RegionHeld3
import Derived.Test.YtdajolpoiffimaaGreatDoorO1
import Derived.Test.YtdajolpoiffimaaGreatDoorO2
import Derived.Test.YtdajolpoiffimaaGreatDoorO6
import Derived.Test.YtdajolpoiffimaaGreatDoorO7
import Derived.Test.YtdajolpoiffimaaGreatDoorO8

namespace Go.Proofs.YtdajolpoiffimaaGreatDoor
open Go.RowKit

theorem keep2 {w : World} {a b q o1 o2 o3 : Nat} {u v x : Value} (h1 : w.cell? ⟨a, o1, none⟩ = some u) (h2 : w.cell? ⟨b, o2, none⟩ = some v) (n1 : a ≠ q) (n2 : b ≠ q) :
 (w.setCell ⟨q, o3, none⟩ x).drew.cell? ⟨a, o1, none⟩ = some u ∧ (w.setCell ⟨q, o3, none⟩ x).drew.cell? ⟨b, o2, none⟩ = some v :=
 ⟨(World.cell?_setCell_other _ _ _ _ (fun e => n1 (by cases e; rfl))).trans h1, (World.cell?_setCell_other _ _ _ _ (fun e => n2 (by cases e; rfl))).trans h2⟩
set_option maxRecDepth 10000 in
set_option maxHeartbeats 4000000 in
theorem withFail_any (s : Px.St) (n : Int) (sl en : Value) (w : World) (hO : Px.Ok s) (hT : TabLH w) (hS : PAt w s sl en) :
 Calls Tryz.prog 74 #[pstV s sl en, .int .i64 n] w fun e w' => ChgR (Px.failP s n) w' e ∧ Below w.heap.size w w' := by
 obtain ⟨ad, cap, rfl, hcap⟩ := hS.sl.form
 obtain ⟨ad2, cap2, rfl, hcap2⟩ := hS.en.form
 have HO : Hid (Px.Ok s) := hO
 have hl : s.slots.length ≤ 10000 := by have := hO.len; omega
 have he : s.ends.length ≤ 10000 := by have : s.ends.length ≤ 6 := hO.st.en; omega
 have hc1 : -1 ≤ s.clock := hO.st.c1
 have hc2 : s.clock ≤ 4223371679 := hO.st.c2
 have HS : Hid (PAt w s (.slice ad s.slots.length cap) (.slice ad2 s.ends.length cap2)) := hS
 have hP := PRes.new w s (.slice ad s.slots.length cap) (.slice ad2 s.ends.length cap2)
 clear hS hO
 go_enter Tryz.func74, Tryz.ntmps74
 go_upto_region 1 with fail
 generalize (w.alloc (pstO s (.slice ad s.slots.length cap) (.slice ad2 s.ends.length cap2))).alloc pzO = W at *
 have HSW : Hid (PAt W s (.slice ad s.slots.length cap) (.slice ad2 s.ends.length cap2)) := HS.out.later hP.bel
 have HT : Hid (TabLH W) := hT.later hP.bel
 have HP : Hid (PRes w W s (.slice ad s.slots.length cap) (.slice ad2 s.ends.length cap2)) := hP
 obtain ⟨i0, i1, i2, i3, i4⟩ := hP.st
 clear hP hT
 go_wp2_with fail
 refine (pfind_any s n _ _ _ hl HSW.out).mono ?_
 rintro e w1 ⟨hF, hb1⟩
 clear i0 i1 i2 i3 i4
 have HP1 := HP.out.later hb1
 have HS1 := HSW.out.later hb1
 have HT1 := HT.out.later hb1
 clear HP HSW hb1 HT
 rcases hF with ⟨x, hf, rfl⟩ | ⟨hf, rfl⟩
 rotate_left
 ·have HM : Hid (Px.failP s n = (Px.st0, 8)) := by unfold Hid Px.failP; rw [hf]
  clear hf
  generalize Px.sl0 = x at *
  have HPW2 := HP1.later (below_alloc w1 (psO x))
  clear HP1 HS1 HT1
  go_upto_region 2 with fail
  generalize w1.alloc (psO x) = W2 at *
  obtain ⟨⟨⟨u0, r0⟩, f0⟩, ⟨⟨u1, r1⟩, f1⟩, ⟨⟨u2, r2⟩, f2⟩, ⟨⟨u3, r3⟩, f3⟩, ⟨⟨u4, r4⟩, f4⟩⟩ := HPW2.five
  have HB2 : Hid (Below w.heap.size w W2) := HPW2.bel
  clear HPW2
  go_wp2_with fail
  refine bodyPost_ret (v := .tuple #[.agg #[.string { data := #[] }, .int .i64 0, .int .i64 0, .slice none 0 0, .slice none 0 0], .int .i64 8]) (by simp [results, Tryz.results74, go_sem, r0, r1, r2, r3, r4]) rfl ⟨ChgR.err HM.out, below_set5' HB2.out (by omega) _ _ _ _ _⟩
 have HFx : Hid (Px.find s.slots n = some x) := hf
 have hxm : x ∈ s.slots := List.mem_of_find?_eq_some hf
 have HEx : Hid _ := HO.out.each hxm
 obtain ⟨hx1, hx2', hx3, hx4, hx5, hx6⟩ := HEx.out
 have hx7 : x.att ≤ 5 := HO.out.st.att5 (List.mem_map.2 ⟨x, hxm, rfl⟩ : Px.absS x ∈ _)
 obtain ⟨j, hj⟩ : ∃ j : Nat, x.line = (j : Int) + 1 := ⟨(x.line - 1).toNat, by omega⟩
 have hjt : j < tn s.tab := by omega
 have HJ : Hid (x.line = (j : Int) + 1) := hj
 have HP2 := HP1.later (below_alloc w1 (psO x))
 have HS2 := HS1.later (below_alloc w1 (psO x))
 have HT2 := HT1.later (below_alloc w1 (psO x))
 have hx2 := PsIn.new w1 x
 have hq0 : w.heap.size + 1 < w1.heap.size := HP1.lt
 clear HP1 HS1 HT1 hf hx6 hx4 hxm hj hx2'
 go_upto_region 2 with fail
 generalize w1.alloc (psO x) = W2 at *
 generalize w1.heap.size = xq at *
 have HPP2 : Hid (PRes w W2 s (.slice ad s.slots.length cap) (.slice ad2 s.ends.length cap2)) := HP2
 have HSS2 : Hid (PAt W2 s (.slice ad s.slots.length cap) (.slice ad2 s.ends.length cap2)) := HS2
 have HTT2 : Hid (TabLH W2) := HT2
 have HX2 : Hid (PsIn W2 xq x) := hx2
 obtain ⟨x0, x1, x2, x3, x4, x5, x6, x7⟩ := hx2
 clear HP2 HS2 HT2
 go_wp2_with fail
 refine (runs_any x W2).mono ?_
 rintro e w3 ⟨rfl, hb3⟩
 clear x0 x1 x2 x3 x4 x5 x6 x7
 have HPw3 := HPP2.out.later hb3
 have HSw3 : Hid (PAt w3 s (.slice ad s.slots.length cap) (.slice ad2 s.ends.length cap2)) := HSS2.out.later hb3
 have HTw3 : Hid (TabLH w3) := HTT2.out.later hb3
 have HXw3 : Hid (PsIn w3 xq x) := HX2.out.later hb3
 clear HPP2 HSS2 HTT2 HX2 hb3
 cases hr : decide (0 < x.step)
 ·have HM : Hid (Px.failP s n = (Px.st0, 9)) := by unfold Hid Px.failP; rw [HFx.out]; simp only; rw [if_pos (by have := of_decide_eq_false hr; omega)]
  clear hr
  obtain ⟨⟨⟨u0, r0⟩, f0⟩, ⟨⟨u1, r1⟩, f1⟩, ⟨⟨u2, r2⟩, f2⟩, ⟨⟨u3, r3⟩, f3⟩, ⟨⟨u4, r4⟩, f4⟩⟩ := HPw3.five
  have HB2 : Hid (Below w.heap.size w w3) := HPw3.bel
  clear HPw3
  go_wp2_with fail
  refine bodyPost_ret (v := .tuple #[.agg #[.string { data := #[] }, .int .i64 0, .int .i64 0, .slice none 0 0, .slice none 0 0], .int .i64 9]) (by simp [results, Tryz.results74, go_sem, r0, r1, r2, r3, r4]) rfl ⟨ChgR.err HM.out, below_set5' HB2.out (by omega) _ _ _ _ _⟩
 have hrs : 0 < x.step := of_decide_eq_true hr
 have HM0 : Hid (Px.failP s n = if obt (pt (tl s.tab j) 5) 2 - 48 ≤ x.att then (Px.ended s n ⟨#[97]⟩, 0) else ({ s with slots := Px.repl s.slots (Px.again s x) }, 0)) := by
  unfold Hid Px.failP; rw [HFx.out]; simp only; rw [if_neg (by omega), hA_eq]
  have : Px.opt s x.line 2 = obt (pt (tl s.tab j) 5) 2 := by
   unfold Px.opt; rw [HJ.out, show ((j : Int) + 1 - 1).toNat = j by omega]; rfl
  rw [this]
 clear hr hrs
 obtain ⟨i0, i1, i2, i3, i4⟩ := HPw3.st
 obtain ⟨x0, x1, x2, x3, x4, x5, x6, x7⟩ := HXw3.out
 have HPP3 : Hid (PRes w w3 s (.slice ad s.slots.length cap) (.slice ad2 s.ends.length cap2)) := HPw3
 clear HPw3
 go_wp2_with fail
 refine (pline_any s x.line j _ _ _ HJ.out hjt HO.out.st.tab HTw3.out HSw3.out).mono ?_
 rintro e w4 ⟨⟨v, rfl, bb, cc, ads, caps, rfl, _, _⟩, hb4⟩
 clear i0 i1 i2 i3 i4 x0 x1 x2 x3 x4 x5 x6 x7
 have g12 : (w4.alloc (lnO (tl s.tab j) bb cc ads caps)).cell? ⟨w4.heap.size, 12, none⟩ = some (.int .i64 (obt (pt (tl s.tab j) 5) 2 - 48)) := by simp [go_sem]
 have HP5 := (HPP3.out.later hb4).later (below_alloc w4 (lnO (tl s.tab j) bb cc ads caps))
 have HS5 := (HSw3.out.later hb4).later (below_alloc w4 (lnO (tl s.tab j) bb cc ads caps))
 have HX5 := (HXw3.out.later hb4).later (below_alloc w4 (lnO (tl s.tab j) bb cc ads caps))
 clear HPP3 HSw3 HTw3 HXw3 hb4
 go_upto_region 7 with fail
 generalize w4.alloc (lnO (tl s.tab j) bb cc ads caps) = W5 at *
 generalize w4.heap.size = lq at *
 generalize obt (pt (tl s.tab j) 5) 2 - 48 = most at *
 have HPP5 : Hid (PRes w W5 s (.slice ad s.slots.length cap) (.slice ad2 s.ends.length cap2)) := HP5
 have HSS5 : Hid (PAt W5 s (.slice ad s.slots.length cap) (.slice ad2 s.ends.length cap2)) := HS5
 have HXX5 : Hid (PsIn W5 xq x) := HX5
 obtain ⟨i0, i1, i2, i3, i4⟩ := HP5.st
 obtain ⟨x0, x1, x2, x3, x4, x5, x6, x7⟩ := HX5
 clear HP5 HS5
 by_cases ha : most ≤ x.att
 ·have HM : Hid (Px.failP s n = (Px.ended s n ⟨#[97]⟩, 0)) := by unfold Hid; rw [HM0.out, if_pos ha]
  clear HM0
  go_wp2_with fail
  refine (ended_any s n ⟨#[97]⟩ _ _ _ hl he HSS5.out).mono ?_
  rintro e w6 ⟨⟨sl4, en4, rfl, hst4⟩, hb6⟩
  clear i0 i1 i2 i3 i4 x0 x1 x2 x3 x4 x5 x6 x7 g12
  have HPw4 := HPP5.out.later hb6
  obtain ⟨ad4, cap4, hv4, _⟩ := hst4.sl.form
  obtain ⟨ad5, cap5, hv5, _⟩ := hst4.en.form
  subst hv4 hv5
  have H4 : Hid (PAt w6 (Px.ended s n ⟨#[97]⟩) (.slice ad4 (Px.ended s n ⟨#[97]⟩).slots.length cap4) (.slice ad5 (Px.ended s n ⟨#[97]⟩).ends.length cap5)) := hst4
  have HT4 : Hid (Typed w6 (w.heap.size + 1) 65) := HPw4.ty
  have HB4 : Hid (Below w.heap.size w w6) := HPw4.bel
  obtain ⟨⟨⟨u0, r0⟩, f0⟩, ⟨⟨u1, r1⟩, f1⟩, ⟨⟨u2, r2⟩, f2⟩, ⟨⟨u3, r3⟩, f3⟩, ⟨⟨u4, r4⟩, f4⟩⟩ := HPw4.five
  clear hst4 hb6 HPw4 HPP5 HSS5 HXX5
  go_wp2_with fail
  refine bodyPost_ret (v := .tuple #[pstV (Px.ended s n ⟨#[97]⟩) (.slice ad4 (Px.ended s n ⟨#[97]⟩).slots.length cap4) (.slice ad5 (Px.ended s n ⟨#[97]⟩).ends.length cap5), .int .i64 0]) (by simp [results, Tryz.results74, go_sem, r0, r1, r2, r3, r4]) rfl ⟨ChgR.ok HM.out (H4.out.store HT4.out _ _ _ _ _), below_set5' HB4.out (by omega) _ _ _ _ _⟩
 ·have HM : Hid (Px.failP s n = ({ s with slots := Px.repl s.slots (Px.again s x) }, 0)) := by unfold Hid; rw [HM0.out, if_neg ha]
  clear HM0
  have hdl := Px.delay_bd' x.att
  have q1 : IntKind.i64.wrap (s.clock + Bx.delay x.att) = s.clock + Bx.delay x.att := by rw [IntKind.wrap_i64]; omega
  have q2 : IntKind.i64.wrap (x.att + 1) = x.att + 1 := by rw [IntKind.wrap_i64]; omega
  go_wp2_with fail
  refine (waiting_any x _).mono ?_
  rintro e w6 ⟨rfl, hb6⟩
  have HP6 := HPP5.out.later hb6
  have HS6 := HSS5.out.later hb6
  have HX6 := HXX5.out.later hb6
  have hxl : xq < w6.heap.size := World.block_lt_of_cell? _ _ HX6.c3
  have hwl : w.heap.size + 1 < w6.heap.size := HP6.lt
  clear hb6 HPP5 HSS5 HXX5 i0 i1 i2 i3 i4 x0 x1 x2 x3 x4 x5 x6 x7 g12
  have hbA := below_alloc w6 (psO { waitS x with att := x.att + 1 })
  have hI7 := (HP6.later hbA).st.c1
  have hX7 := (HX6.later hbA).c3
  obtain ⟨x0, x1, x2, x3, x4, x5, x6, x7⟩ := HX6
  go_upto_region 11 with fail
  clear x0 x1 x2 x3 x4 x5 x6 x7
  have HBx : Hid (Below w6.heap.size w6 ((w6.alloc (psO { waitS x with att := x.att + 1 })).setCell ⟨w6.heap.size, 4, none⟩ (.int .i64 (s.clock + Bx.delay x.att)))) := hbA.setCell (by simp) _
  have HYx : Hid (PsIn ((w6.alloc (psO { waitS x with att := x.att + 1 })).setCell ⟨w6.heap.size, 4, none⟩ (.int .i64 (s.clock + Bx.delay x.att))) w6.heap.size (Px.again s x)) := ⟨by simp [go_sem, waitS, Px.again], by simp [go_sem, waitS, Px.again], by simp [go_sem, waitS, Px.again], by simp [go_sem, waitS, Px.again], by simp [go_sem, waitS, Px.again], by simp [go_sem, waitS, Px.again], by simp [go_sem, waitS, Px.again], by simp [go_sem, waitS, Px.again]⟩
  have y4 : (w6.alloc (psO { waitS x with att := x.att + 1 })).cell? ⟨w6.heap.size, 4, none⟩ = some (.int .i64 x.frm) := by simp [go_sem, waitS]
  have g4 : (w6.alloc (psO { waitS x with att := x.att + 1 })).frozen? ⟨w6.heap.size, 4, none⟩ = false := by simp [go_sem]
  have hn1 : w.heap.size ≠ w6.heap.size := by omega
  have hn2 : xq ≠ w6.heap.size := by omega
  have hsz7 : w6.heap.size < (w6.alloc (psO { waitS x with att := x.att + 1 })).heap.size := by simp
  generalize w6.alloc (psO { waitS x with att := x.att + 1 }) = W7 at *
  have HP6' : Hid (PRes w w6 s (.slice ad s.slots.length cap) (.slice ad2 s.ends.length cap2)) := HP6
  have HS6' : Hid (PAt w6 s (.slice ad s.slots.length cap) (.slice ad2 s.ends.length cap2)) := HS6
  clear HP6 HS6 hbA
  go_wp2_with fail
  go_region_held3 (fun w' => w'.cell? ⟨w.heap.size, 1, none⟩ = some (.int .i64 s.clock) ∧ w'.cell? ⟨xq, 3, none⟩ = some (.int .i64 x.att)) ((first | exact keep2 hI7 hX7 hn1 hn2 | go_keep))
   (first
    | (go_at_call 124; refine (delay_any _ _ hx5 hx7).mono ?_; rintro e w8 ⟨rfl, rfl⟩))
  have HPx := (HP6'.out.later HBx.out).later (Below.refl _ _).drew
  have HSx := (HS6'.out.later HBx.out).later (Below.refl _ _).drew
  have HYx := HYx.out.later (Below.refl _ _).drew
  clear HP6' HS6' HBx y4 g4 hI7 hX7
  generalize w6.heap.size = aq at *
  generalize (W7.setCell ⟨aq, 4, none⟩ (.int .i64 (s.clock + Bx.delay x.att))).drew = W7 at *
  generalize Px.again s x = y at *
  have HP8 := HPx.later (below_alloc W7 (pstO s (.slice ad s.slots.length cap) (.slice ad2 s.ends.length cap2)))
  have HS8 := HSx.later (below_alloc W7 (pstO s (.slice ad s.slots.length cap) (.slice ad2 s.ends.length cap2)))
  have HY8 := HYx.later (below_alloc W7 (pstO s (.slice ad s.slots.length cap) (.slice ad2 s.ends.length cap2)))
  have hA := PW.new W7 s (.slice ad s.slots.length cap) (.slice ad2 s.ends.length cap2)
  have hWq := HPx.lt
  obtain ⟨i0, i1, i2, i3, i4⟩ := HPx.st
  clear HSx HYx
  go_upto_region 13 with fail
  clear i0 i1 i2 i3 i4 HPx
  generalize W7.alloc (pstO s (.slice ad s.slots.length cap) (.slice ad2 s.ends.length cap2)) = W8 at *
  generalize W7.heap.size = q at *
  have HPP8 : Hid (PRes w W8 s (.slice ad s.slots.length cap) (.slice ad2 s.ends.length cap2)) := HP8
  have HSS8 : Hid (PAt W8 s (.slice ad s.slots.length cap) (.slice ad2 s.ends.length cap2)) := HS8
  have HAA8 : Hid (PW W8 q s (.slice ad s.slots.length cap) (.slice ad2 s.ends.length cap2)) := hA
  obtain ⟨i0, i1, i2, i3, i4⟩ := HP8.st
  obtain ⟨y0, y1, y2, y3, y4, y5, y6, y7⟩ := HY8
  clear HP8 HS8 hA
  go_wp2_with fail
  refine (preplaced_any s.slots y _ _ hl HSS8.out.sl.1).mono ?_
  rintro e w9 ⟨⟨v9, rfl, hown9⟩, hb9⟩
  clear i0 i1 i2 i3 i4 y0 y1 y2 y3 y4 y5 y6 y7
  obtain ⟨ad9, cap9, hv9, _⟩ := (RowAt.of_own hown9).form
  subst hv9
  have hA9 := HAA8.out.later hb9
  have a3 := hA9.st.c3
  have f3' := hA9.f 3 (by decide)
  have hq9 := hA9.ty.lt
  have HP10 := (HPP8.out.later hb9).set hWq 3 (.slice ad9 (Px.repl s.slots y).length cap9)
  have HA10 := hA9.slots (Px.repl s.slots y) (.slice ad9 (Px.repl s.slots y).length cap9)
  have HE10 := ((HSS8.out.later hb9).set hA9.ty (by decide) (by decide) 3 (.slice ad9 (Px.repl s.slots y).length cap9)).en
  have HO10 := (TRow.of_own hown9).set hA9.ty (by decide) 3 (.slice ad9 (Px.repl s.slots y).length cap9)
  clear hA9 hown9 hb9 HPP8 HSS8 HAA8
  go_upto_region 14 with fail
  clear a3 f3'
  generalize w9.setCell ⟨q, 3, none⟩ (.slice ad9 (Px.repl s.slots y).length cap9) = W10 at *
  have HX : Hid (PEnd w W10 q { s with slots := Px.repl s.slots y } (.slice ad9 (Px.repl s.slots y).length cap9) (.slice ad2 s.ends.length cap2)) := ⟨HA10, ⟨HO10, HE10⟩, HP10.z, HP10.ty, HP10.bel⟩
  obtain ⟨⟨⟨u0, r0⟩, f0⟩, ⟨⟨u1, r1⟩, f1⟩, ⟨⟨u2, r2⟩, f2⟩, ⟨⟨u3, r3⟩, f3⟩, ⟨⟨u4, r4⟩, f4⟩⟩ := HP10.five
  obtain ⟨c0, c1, c2, c3, c4⟩ := HA10.st
  clear HP10 HA10 HE10 HO10
  go_wp2_with fail
  refine bodyPost_ret (v := .tuple #[pstV { s with slots := Px.repl s.slots y } (.slice ad9 (Px.repl s.slots y).length cap9) (.slice ad2 s.ends.length cap2), .int .i64 0]) (by simp [results, Tryz.results74, go_sem, r0, r1, r2, r3, r4]) rfl ⟨ChgR.ok HM.out (HX.out.fin _ _ _ _ _).1, (HX.out.fin _ _ _ _ _).2⟩
end Go.Proofs.YtdajolpoiffimaaGreatDoor

namespace Go.Proofs.YtdajolpoiffimaaGreatDoor
open Go.RowKit

/-- The answer is yes just where something holds. -/
def AnsB (e : Ending) (P : Prop) : Prop := ∃ b, e = .returned (.bool b) ∧ (b = true ↔ P)
theorem AnsB.yes {P : Prop} (h : P) : AnsB (.returned (.bool true)) P := ⟨true, rfl, ⟨fun _ => h, fun _ => rfl⟩⟩
theorem lit_ne {h : ByteArray} {l : List UInt8} (e : ¬ h = ⟨l.toArray⟩) : (h.toList == l) = false := by
 cases q : (h.toList == l)
 ·rfl
 ·have : h.toList = l := by simpa using q
  rw [ByteArray.toList_eq] at this
  exact (e (Bx.ba_ext (by simpa using this))).elim
theorem AnsB.no {P : Prop} (h : ¬ P) : AnsB (.returned (.bool false)) P := ⟨false, rfl, ⟨fun e => (by cases e), fun e => (h e).elim⟩⟩
set_option maxHeartbeats 1000000 in
theorem isHow_any (h : ByteArray) (w : World) : Calls Tryz.prog 204 #[.string h] w fun e w' => AnsB e (h = Bx.hD ∨ h = Bx.hA ∨ h = Bx.hK ∨ h = Bx.hS) ∧ w' = w := by
 have HD : Hid (Bx.hD = ⟨#[100]⟩) := rfl
 have HA : Hid (Bx.hA = ⟨#[97]⟩) := rfl
 have HK : Hid (Bx.hK = ⟨#[107]⟩) := rfl
 have HS : Hid (Bx.hS = ⟨#[115]⟩) := rfl
 by_cases h1 : h = ⟨#[100]⟩
 ·subst h1
  go_enter Tryz.func204, Tryz.ntmps204
  go_wp2_with fail
  go_ret
  exact ⟨AnsB.yes (Or.inl rfl), rfl⟩
 by_cases h2 : h = ⟨#[97]⟩
 ·subst h2
  go_enter Tryz.func204, Tryz.ntmps204
  go_wp2_with fail
  go_ret
  exact ⟨AnsB.yes (Or.inr (Or.inl rfl)), rfl⟩
 by_cases h3 : h = ⟨#[107]⟩
 ·subst h3
  go_enter Tryz.func204, Tryz.ntmps204
  go_wp2_with fail
  go_ret
  exact ⟨AnsB.yes (Or.inr (Or.inr (Or.inl rfl))), rfl⟩
 by_cases h4 : h = ⟨#[115]⟩
 ·subst h4
  go_enter Tryz.func204, Tryz.ntmps204
  go_wp2_with fail
  go_ret
  exact ⟨AnsB.yes (Or.inr (Or.inr (Or.inr rfl))), rfl⟩
 have HN : Hid (¬ (h = Bx.hD ∨ h = Bx.hA ∨ h = Bx.hK ∨ h = Bx.hS)) := by
  rintro (q | q | q | q)
  ·exact h1 (q.trans HD.out)
  ·exact h2 (q.trans HA.out)
  ·exact h3 (q.trans HK.out)
  ·exact h4 (q.trans HS.out)
 have t1 := lit_ne (l := [100]) h1; have t2 := lit_ne (l := [97]) h2; have t3 := lit_ne (l := [107]) h3; have t4 := lit_ne (l := [115]) h4
 clear h1 h2 h3 h4
 go_enter Tryz.func204, Tryz.ntmps204
 go_wp2_with fail
 go_ret
 exact ⟨AnsB.no HN.out, rfl⟩

/-- How often a number is there. -/
def cntS (l : List Px.Sl) (n : Int) (k : Nat) : Nat := ((l.take k).filter fun x => x.num == n).length
def cntE (l : List Bx.En) (n : Int) (k : Nat) : Nat := ((l.take k).filter fun x => x.num == n).length
theorem cnt_yes {α : Type} {l : List α} {p : α → Bool} {k : Nat} (h : k < l.length) (e : p l[k] = true) : ((l.take (k + 1)).filter p).length = ((l.take k).filter p).length + 1 := by
 rw [List.take_succ_eq_append_getElem h, List.filter_append, List.filter_cons_of_pos e]; simp
theorem cnt_no {α : Type} {l : List α} {p : α → Bool} {k : Nat} (h : k < l.length) (e : p l[k] = false) : ((l.take (k + 1)).filter p).length = ((l.take k).filter p).length := by
 rw [List.take_succ_eq_append_getElem h, List.filter_append, List.filter_cons_of_neg (by rw [e]; simp)]; simp
theorem cnt_le {α : Type} (l : List α) (p : α → Bool) (k : Nat) : ((l.take k).filter p).length ≤ k := by
 have := List.length_filter_le p (l.take k)
 simp at this ⊢; omega
def timesP (s : Px.St) (n : Int) : Nat := (s.slots.filter fun x => x.num == n).length + (s.ends.filter fun x => x.num == n).length
set_option maxRecDepth 10000 in
set_option maxHeartbeats 2000000 in
theorem times_any (s : Px.St) (n : Int) (sl en : Value) (w : World) (hl : s.slots.length ≤ 10000) (hle : s.ends.length ≤ 10000) (hS : PAt w s sl en) :
 Calls Tryz.prog 205 #[pstV s sl en, .int .i64 n] w fun e w' => e = .returned (.int .i64 (timesP s n : Nat)) ∧ Below w.heap.size w w' := by
 obtain ⟨ad, cap, rfl, hcap⟩ := hS.sl.form
 obtain ⟨ad2, cap2, rfl, hcap2⟩ := hS.en.form
 have HR : Hid (RowAt w (.slice ad s.slots.length cap) s.slots.length (s.slots.flatMap psC)) := hS.sl.1
 have HR2 : Hid (RowAt w (.slice ad2 s.ends.length cap2) s.ends.length (s.ends.flatMap enC)) := hS.en.1
 clear hS
 have hb0 := below_alloc w (pstO s (.slice ad s.slots.length cap) (.slice ad2 s.ends.length cap2))
 have hI := PIn.new w s (.slice ad s.slots.length cap) (.slice ad2 s.ends.length cap2)
 go_enter Tryz.func205, Tryz.ntmps205
 go_upto_region 1 with fail
 generalize w.alloc (pstO s (.slice ad s.slots.length cap) (.slice ad2 s.ends.length cap2)) = W at *
 have HB : Hid (Below w.heap.size w W) := hb0
 have HR' : Hid (RowAt W (.slice ad s.slots.length cap) s.slots.length (s.slots.flatMap psC)) := HR.out.later hb0
 have HE' : Hid (RowAt W (.slice ad2 s.ends.length cap2) s.ends.length (s.ends.flatMap enC)) := HR2.out.later hb0
 have i3 := hI.c3
 have i4 := hI.c4
 clear hI hb0 HR HR2
 go_wp2_with fail
 go_loop [5, 6] (fun c i => ∃ k : Nat, k ≤ s.slots.length ∧ i = .int .i64 k ∧ c = .int .i64 (cntS s.slots n k : Nat)) (fun _ i => s.slots.length - (intOf i).toNat)
 case atStart => exact ⟨0, Nat.zero_le _, rfl, rfl⟩
 case round =>
  obtain ⟨k, hk, rfl, rfl⟩ := hrel
  have hcb : cntS s.slots n k ≤ k := cnt_le _ _ _
  by_cases hlt : k < s.slots.length
  ·obtain ⟨b, off, cap', hv, _, hc⟩ := HR'.out.some' (by omega)
   cases hv
   obtain ⟨d0, d1, d2, d3, d4, d5, d6, d7⟩ := ps_cells hc k hlt
   clear hc d1 d2 d3 d4 d5 d6 d7
   have b1 : (0 : Int) ≤ (k : Int) := by omega
   have b2 : (k : Int) < (s.slots.length : Int) := by omega
   cases he : (s.slots[k].num == n)
   ·have HF : Hid (cntS s.slots n (k + 1) = cntS s.slots n k) := cnt_no hlt he
    generalize s.slots[k] = x at *
    generalize cntS s.slots n k = r at *
    go_wp2_with fail
    go_round
    case rel => exact ⟨k + 1, by omega, by go_num, by rw [HF.out]⟩
    case measure => simp [intOf]; omega
   ·have HF : Hid (cntS s.slots n (k + 1) = cntS s.slots n k + 1) := cnt_yes hlt he
    generalize s.slots[k] = x at *
    generalize cntS s.slots n k = r at *
    go_wp2_with fail
    go_round
    case rel => exact ⟨k + 1, by omega, by go_num, by rw [HF.out]; go_num⟩
    case measure => simp [intOf]; omega
  ·obtain rfl : k = s.slots.length := by omega
   have HC : Hid (cntS s.slots n s.slots.length = (s.slots.filter fun x => x.num == n).length) := by unfold Hid cntS; rw [List.take_length]
   generalize cntS s.slots n s.slots.length = r at *
   go_wp2_with fail
   go_loop [5, 7] (fun c i => ∃ k : Nat, k ≤ s.ends.length ∧ i = .int .i64 k ∧ c = .int .i64 ((r + cntE s.ends n k : Nat) : Int)) (fun _ i => s.ends.length - (intOf i).toNat)
   case atStart => exact ⟨0, Nat.zero_le _, rfl, rfl⟩
   case round =>
    obtain ⟨k, hk, rfl, rfl⟩ := hrel
    have hcb2 : cntE s.ends n k ≤ k := cnt_le _ _ _
    by_cases hlt : k < s.ends.length
    ·obtain ⟨b, off, cap', hv, _, hc⟩ := HE'.out.some' (by omega)
     cases hv
     have d0 : W.cell? ⟨b, off + k * 2, none⟩ = some (.int .i64 s.ends[k].num) := RowAt.cell enC_len hc k hlt 0 (by decide)
     clear hc
     have b1 : (0 : Int) ≤ (k : Int) := by omega
     have b2 : (k : Int) < (s.ends.length : Int) := by omega
     cases he : (s.ends[k].num == n)
     ·have HF : Hid (cntE s.ends n (k + 1) = cntE s.ends n k) := cnt_no hlt he
      generalize s.ends[k] = x at *
      generalize cntE s.ends n k = r2 at *
      go_wp2_with fail
      go_round
      case rel => exact ⟨k + 1, by omega, by go_num, by rw [HF.out]⟩
      case measure => simp [intOf]; omega
     ·have HF : Hid (cntE s.ends n (k + 1) = cntE s.ends n k + 1) := cnt_yes hlt he
      generalize s.ends[k] = x at *
      generalize cntE s.ends n k = r2 at *
      go_wp2_with fail
      go_round
      case rel => exact ⟨k + 1, by omega, by go_num, by rw [HF.out]; go_num⟩
      case measure => simp [intOf]; omega
    ·obtain rfl : k = s.ends.length := by omega
     have HF : Hid (r + cntE s.ends n s.ends.length = timesP s n) := by unfold Hid timesP; rw [← HC.out]; unfold cntE; rw [List.take_length]
     go_wp2_with fail
     go_ret
     exact ⟨ret_int' (by rw [← HF.out]; simp), HB.out⟩

/-- From when on: as the program asks. -/
def FromP (s : Px.St) (x : Px.Sl) : Prop := (x.att = 1 → x.frm = x.minute) ∧ (¬ x.att = 1 → x.minute < x.frm ∧ x.frm ≤ s.clock + 10)
set_option maxHeartbeats 1000000 in
theorem pfrom_any (s : Px.St) (x : Px.Sl) (sl en : Value) (w : World) (c1 : -1 ≤ s.clock) (c2 : s.clock ≤ 4223371679) (hS : PAt w s sl en) :
 Calls Tryz.prog 219 #[pstV s sl en, psV x] w fun e w' => AnsB e (FromP s x) ∧ Below w.heap.size w w' := by
 obtain ⟨ad, cap, rfl, hcap⟩ := hS.sl.form
 obtain ⟨ad2, cap2, rfl, hcap2⟩ := hS.en.form
 clear hS
 have hb0 := (below_alloc w (pstO s (.slice ad s.slots.length cap) (.slice ad2 s.ends.length cap2))).alloc (by simp) (psO x)
 have hI := (PIn.new w s (.slice ad s.slots.length cap) (.slice ad2 s.ends.length cap2)).later (below_alloc _ (psO x))
 have hX := PsIn.new (w.alloc (pstO s (.slice ad s.slots.length cap) (.slice ad2 s.ends.length cap2))) x
 have hz : (w.alloc (pstO s (.slice ad s.slots.length cap) (.slice ad2 s.ends.length cap2))).heap.size = w.heap.size + 1 := by simp
 rw [hz] at hX
 go_enter Tryz.func219, Tryz.ntmps219
 go_upto_region 1 with fail
 clear hz
 generalize (w.alloc (pstO s (.slice ad s.slots.length cap) (.slice ad2 s.ends.length cap2))).alloc (psO x) = W at *
 have HB : Hid (Below w.heap.size w W) := hb0
 have i1 := hI.c1
 have x2 := hX.c2; have x3 := hX.c3; have x4 := hX.c4
 clear hI hX hb0
 by_cases ha : x.att = 1
 ·cases hf : (x.frm == x.minute)
  ·have HN : Hid (¬ FromP s x) := fun q => by have := q.1 ha; simp [this] at hf
   go_wp2_with fail
   go_ret
   exact ⟨AnsB.no HN.out, HB.out⟩
  ·have HN : Hid (FromP s x) := ⟨fun _ => by simpa using hf, fun q => (q ha).elim⟩
   go_wp2_with fail
   go_ret
   exact ⟨AnsB.yes HN.out, HB.out⟩
 ·by_cases h1 : x.minute < x.frm
  ·by_cases h2 : x.frm ≤ s.clock + 10
   ·have HN : Hid (FromP s x) := ⟨fun q => (ha q).elim, fun _ => ⟨h1, h2⟩⟩
    go_wp2_with fail
    go_ret
    exact ⟨AnsB.yes HN.out, HB.out⟩
   ·have HN : Hid (¬ FromP s x) := fun q => h2 (q.2 ha).2
    go_wp2_with fail
    go_ret
    exact ⟨AnsB.no HN.out, HB.out⟩
  ·have HN : Hid (¬ FromP s x) := fun q => h1 (q.2 ha).1
   go_wp2_with fail
   go_ret
   exact ⟨AnsB.no HN.out, HB.out⟩
end Go.Proofs.YtdajolpoiffimaaGreatDoor

namespace Go.Proofs.YtdajolpoiffimaaGreatDoor
open Go.RowKit

abbrev ln0 : List Value := [.bool false, .slice none 0 0, .bool false, .slice none 0 0, .bool false, .slice none 0 0, .bool false, .slice none 0 0, .bool false, .slice none 0 0, .bool false, .int .u8 0, .int .i64 0, .slice none 0 0]
theorem below_set14 {n R : Nat} {w w' : World} (h : Below n w w') (hR : n ≤ R) (v0 v1 v2 v3 v4 v5 v6 v7 v8 v9 v10 v11 v12 v13 : Value) : Below n w ((((((((((((((w'.setCell ⟨R, 0, none⟩ v0).setCell ⟨R, 1, none⟩ v1).setCell ⟨R, 2, none⟩ v2).setCell ⟨R, 3, none⟩ v3).setCell ⟨R, 4, none⟩ v4).setCell ⟨R, 5, none⟩ v5).setCell ⟨R, 6, none⟩ v6).setCell ⟨R, 7, none⟩ v7).setCell ⟨R, 8, none⟩ v8).setCell ⟨R, 9, none⟩ v9).setCell ⟨R, 10, none⟩ v10).setCell ⟨R, 11, none⟩ v11).setCell ⟨R, 12, none⟩ v12).setCell ⟨R, 13, none⟩ v13) := by
 repeat (refine Below.setCell ?_ hR _)
 exact h
set_option maxRecDepth 10000 in
set_option maxHeartbeats 2000000 in
theorem pline_none (s : Px.St) (n : Int) (sl en : Value) (w : World) (hn : ¬ (1 ≤ n ∧ n ≤ tn s.tab)) (hC : ChkR s.tab 0 0) (hT : TabLH w) (hS : PAt w s sl en) :
 Calls Tryz.prog 122 #[pstV s sl en, .int .i64 n] w fun e w' => e = .returned (.agg ln0.toArray) ∧ Below w.heap.size w w' := by
 obtain ⟨ad, cap, rfl, hcap⟩ := hS.sl.form
 obtain ⟨ad2, cap2, rfl, hcap2⟩ := hS.en.form
 have HS : Hid (PAt w s (.slice ad s.slots.length cap) (.slice ad2 s.ends.length cap2)) := hS
 have HC : Hid (ChkR s.tab 0 0) := hC
 have h4 := tn_le hC
 have hb0 := (below_alloc w (pstO s (.slice ad s.slots.length cap) (.slice ad2 s.ends.length cap2))).alloc (by simp) (.cells #[.bool false, .slice none 0 0, .bool false, .slice none 0 0, .bool false, .slice none 0 0, .bool false, .slice none 0 0, .bool false, .slice none 0 0, .bool false, .int .u8 0, .int .i64 0, .slice none 0 0] 193)
 have hI := (PIn.new w s (.slice ad s.slots.length cap) (.slice ad2 s.ends.length cap2)).later (below_alloc _ (.cells #[.bool false, .slice none 0 0, .bool false, .slice none 0 0, .bool false, .slice none 0 0, .bool false, .slice none 0 0, .bool false, .slice none 0 0, .bool false, .int .u8 0, .int .i64 0, .slice none 0 0] 193))
 have hZ := ZCell.new (w.alloc (pstO s (.slice ad s.slots.length cap) (.slice ad2 s.ends.length cap2))) #[.bool false, .slice none 0 0, .bool false, .slice none 0 0, .bool false, .slice none 0 0, .bool false, .slice none 0 0, .bool false, .slice none 0 0, .bool false, .int .u8 0, .int .i64 0, .slice none 0 0] 193
 have hZ' : ZCell ((w.alloc (pstO s (.slice ad s.slots.length cap) (.slice ad2 s.ends.length cap2))).alloc (.cells #[.bool false, .slice none 0 0, .bool false, .slice none 0 0, .bool false, .slice none 0 0, .bool false, .slice none 0 0, .bool false, .slice none 0 0, .bool false, .int .u8 0, .int .i64 0, .slice none 0 0] 193)) (w.heap.size + 1) 14 := by simpa using hZ
 have hq : w.heap.size + 1 < ((w.alloc (pstO s (.slice ad s.slots.length cap) (.slice ad2 s.ends.length cap2))).alloc (.cells #[.bool false, .slice none 0 0, .bool false, .slice none 0 0, .bool false, .slice none 0 0, .bool false, .slice none 0 0, .bool false, .slice none 0 0, .bool false, .int .u8 0, .int .i64 0, .slice none 0 0] 193)).heap.size := by simp
 clear hZ hS hC
 go_enter Tryz.func122, Tryz.ntmps122
 go_upto_region 1 with fail
 generalize (w.alloc (pstO s (.slice ad s.slots.length cap) (.slice ad2 s.ends.length cap2))).alloc (.cells #[.bool false, .slice none 0 0, .bool false, .slice none 0 0, .bool false, .slice none 0 0, .bool false, .slice none 0 0, .bool false, .slice none 0 0, .bool false, .int .u8 0, .int .i64 0, .slice none 0 0] 193) = W at *
 have HT : Hid (TabLH W) := hT.later hb0
 have HSW : Hid (PAt W s (.slice ad s.slots.length cap) (.slice ad2 s.ends.length cap2)) := HS.out.later hb0
 obtain ⟨i0, i1, i2, i3, i4⟩ := hI
 have HB : Hid (Below w.heap.size w W) := hb0
 have hsW := hb0.size
 clear hb0 hT HS
 go_wp2_with fail
 refine (plines_any s _ _ _ HC.out HT.out HSW.out).mono ?_
 rintro e w1 ⟨⟨g, c, rfl, hnc, hL⟩, hb1⟩
 have HZ := hZ'.later hq hb1
 have HB1 : Hid (Below w.heap.size w w1) := HB.out.trans (hb1.mono hsW)
 obtain ⟨⟨u0, r0⟩, f0⟩ := HZ 0 (by decide)
 obtain ⟨⟨u1, r1⟩, f1⟩ := HZ 1 (by decide)
 obtain ⟨⟨u2, r2⟩, f2⟩ := HZ 2 (by decide)
 obtain ⟨⟨u3, r3⟩, f3⟩ := HZ 3 (by decide)
 obtain ⟨⟨u4, r4⟩, f4⟩ := HZ 4 (by decide)
 obtain ⟨⟨u5, r5⟩, f5⟩ := HZ 5 (by decide)
 obtain ⟨⟨u6, r6⟩, f6⟩ := HZ 6 (by decide)
 obtain ⟨⟨u7, r7⟩, f7⟩ := HZ 7 (by decide)
 obtain ⟨⟨u8, r8⟩, f8⟩ := HZ 8 (by decide)
 obtain ⟨⟨u9, r9⟩, f9⟩ := HZ 9 (by decide)
 obtain ⟨⟨u10, r10⟩, f10⟩ := HZ 10 (by decide)
 obtain ⟨⟨u11, r11⟩, f11⟩ := HZ 11 (by decide)
 obtain ⟨⟨u12, r12⟩, f12⟩ := HZ 12 (by decide)
 obtain ⟨⟨u13, r13⟩, f13⟩ := HZ 13 (by decide)
 clear hL HZ hb1 hZ' HT HSW i0 i1 i2 i3 i4
 by_cases hlo : n < 1
 ·go_wp2_with fail
  refine bodyPost_ret (v := .agg ln0.toArray) (by simp [results, Tryz.results122, go_sem, r0, r1, r2, r3, r4, r5, r6, r7, r8, r9, r10, r11, r12, r13]) rfl ⟨rfl, below_set14 HB1.out (by omega) _ _ _ _ _ _ _ _ _ _ _ _ _ _⟩
 ·have hhi : (tn s.tab : Int) < n := by omega
  go_wp2_with fail
  refine bodyPost_ret (v := .agg ln0.toArray) (by simp [results, Tryz.results122, go_sem, r0, r1, r2, r3, r4, r5, r6, r7, r8, r9, r10, r11, r12, r13]) rfl ⟨rfl, below_set14 HB1.out (by omega) _ _ _ _ _ _ _ _ _ _ _ _ _ _⟩

/-- A slot that may be: as the program asks. -/
def SlP (s : Px.St) (x : Px.Sl) : Prop := (1 ≤ x.line ∧ x.line ≤ tn s.tab) ∧ (1 ≤ x.att ∧ x.att ≤ Px.opt s x.line 2 - 48) ∧ x.minute ≤ s.clock ∧ FromP s x ∧ (0 < x.step → x.frm ≤ s.clock ∧ (Px.opt s x.line 0 = 120 → runsOf s x.line = 1))
set_option maxRecDepth 10000 in
set_option maxHeartbeats 2000000 in
theorem slotMay_none (s : Px.St) (x : Px.Sl) (sl en : Value) (w : World) (hn : ¬ (1 ≤ x.line ∧ x.line ≤ tn s.tab)) (hC : ChkR s.tab 0 0) (hT : TabLH w) (hS : PAt w s sl en) :
 Calls Tryz.prog 203 #[pstV s sl en, psV x] w fun e w' => AnsB e (SlP s x) ∧ Below w.heap.size w w' := by
 have HN : Hid (¬ SlP s x) := fun q => hn q.1
 obtain ⟨ad, cap, rfl, hcap⟩ := hS.sl.form
 obtain ⟨ad2, cap2, rfl, hcap2⟩ := hS.en.form
 have hb0 := (below_alloc w (pstO s (.slice ad s.slots.length cap) (.slice ad2 s.ends.length cap2))).alloc (by simp) (psO x)
 have hI := (PIn.new w s (.slice ad s.slots.length cap) (.slice ad2 s.ends.length cap2)).later (below_alloc _ (psO x))
 have hX := PsIn.new (w.alloc (pstO s (.slice ad s.slots.length cap) (.slice ad2 s.ends.length cap2))) x
 have hz : (w.alloc (pstO s (.slice ad s.slots.length cap) (.slice ad2 s.ends.length cap2))).heap.size = w.heap.size + 1 := by simp
 rw [hz] at hX
 have HC : Hid (ChkR s.tab 0 0) := hC
 have HNn : Hid (¬ (1 ≤ x.line ∧ x.line ≤ tn s.tab)) := hn
 clear hC hn
 go_enter Tryz.func203, Tryz.ntmps203
 go_upto_region 1 with fail
 clear hz
 generalize (w.alloc (pstO s (.slice ad s.slots.length cap) (.slice ad2 s.ends.length cap2))).alloc (psO x) = W at *
 have HB : Hid (Below w.heap.size w W) := hb0
 have HT : Hid (TabLH W) := hT.later hb0
 have HS : Hid (PAt W s (.slice ad s.slots.length cap) (.slice ad2 s.ends.length cap2)) := hS.later hb0
 have HX : Hid (PsIn W (w.heap.size + 1) x) := hX
 obtain ⟨i0, i1, i2, i3, i4⟩ := hI
 have x1 := hX.c1
 clear hX hb0 hT hS
 go_wp2_with fail
 refine (pline_none s x.line _ _ _ HNn.out HC.out HT.out HS.out).mono ?_
 rintro e w1 ⟨rfl, hb1⟩
 have g12 : (w1.alloc (.cells ln0.toArray 193)).cell? ⟨w1.heap.size, 12, none⟩ = some (.int .i64 0) := by simp [go_sem]
 have hb2 : Below W.heap.size W (w1.alloc (.cells ln0.toArray 193)) := hb1.alloc hb1.size _
 have y3 := (HX.out.later hb2).c3
 have HB2 : Hid (Below w.heap.size w (w1.alloc (.cells ln0.toArray 193))) := HB.out.trans (hb2.mono HB.out.size)
 clear hb1 hb2 i0 i1 i2 i3 i4 x1
 go_upto_region 2 with fail
 generalize w1.alloc (.cells ln0.toArray 193) = W2 at *
 generalize w1.heap.size = lq at *
 by_cases h1 : x.att < 1
 ·go_wp2_with fail
  go_ret
  exact ⟨AnsB.no HN.out, HB2.out⟩
 ·have h2 : 0 < x.att := by omega
  go_wp2_with fail
  go_ret
  exact ⟨AnsB.no HN.out, HB2.out⟩
set_option maxRecDepth 10000 in
set_option maxHeartbeats 2000000 in
theorem slotMay_some (s : Px.St) (x : Px.Sl) (sl en : Value) (w : World) (hn : 1 ≤ x.line ∧ x.line ≤ tn s.tab) (c1 : -1 ≤ s.clock) (c2 : s.clock ≤ 4223371679) (hl : s.slots.length ≤ 10000) (hC : ChkR s.tab 0 0) (hT : TabLH w) (hS : PAt w s sl en) :
 Calls Tryz.prog 203 #[pstV s sl en, psV x] w fun e w' => AnsB e (SlP s x) ∧ Below w.heap.size w w' := by
 obtain ⟨j, hj⟩ : ∃ j : Nat, x.line = (j : Int) + 1 := ⟨(x.line - 1).toNat, by omega⟩
 have hjt : j < tn s.tab := by omega
 have HJ : Hid (x.line = (j : Int) + 1) := hj
 have Ho2 : Hid (obt (pt (tl s.tab j) 5) 2 = Px.opt s x.line 2) := by unfold Hid Px.opt; rw [hj, show ((j : Int) + 1 - 1).toNat = j by omega]; rfl
 have Ho0 : Hid ((obt (pt (tl s.tab j) 5) 0 == 120) = (Px.opt s x.line 0 == 120)) := by unfold Hid Px.opt; rw [hj, show ((j : Int) + 1 - 1).toNat = j by omega]; rfl
 have HN : Hid (1 ≤ x.line ∧ x.line ≤ tn s.tab) := hn
 obtain ⟨ad, cap, rfl, hcap⟩ := hS.sl.form
 obtain ⟨ad2, cap2, rfl, hcap2⟩ := hS.en.form
 have hb0 := (below_alloc w (pstO s (.slice ad s.slots.length cap) (.slice ad2 s.ends.length cap2))).alloc (by simp) (psO x)
 have hI := (PIn.new w s (.slice ad s.slots.length cap) (.slice ad2 s.ends.length cap2)).later (below_alloc _ (psO x))
 have hX := PsIn.new (w.alloc (pstO s (.slice ad s.slots.length cap) (.slice ad2 s.ends.length cap2))) x
 have hz : (w.alloc (pstO s (.slice ad s.slots.length cap) (.slice ad2 s.ends.length cap2))).heap.size = w.heap.size + 1 := by simp
 rw [hz] at hX
 have HC : Hid (ChkR s.tab 0 0) := hC
 clear hC hn hj
 go_enter Tryz.func203, Tryz.ntmps203
 go_upto_region 1 with fail
 clear hz
 generalize (w.alloc (pstO s (.slice ad s.slots.length cap) (.slice ad2 s.ends.length cap2))).alloc (psO x) = W at *
 have HB : Hid (Below w.heap.size w W) := hb0
 have HT : Hid (TabLH W) := hT.later hb0
 have HS : Hid (PAt W s (.slice ad s.slots.length cap) (.slice ad2 s.ends.length cap2)) := hS.later hb0
 have HX : Hid (PsIn W (w.heap.size + 1) x) := hX
 have HI : Hid (PIn W w.heap.size s (.slice ad s.slots.length cap) (.slice ad2 s.ends.length cap2)) := hI
 obtain ⟨i0, i1, i2, i3, i4⟩ := hI
 have x1 := hX.c1
 clear hX hb0 hT hS
 go_wp2_with fail
 refine (pline_any s x.line j _ _ _ HJ.out hjt HC.out HT.out HS.out).mono ?_
 rintro e w1 ⟨⟨v, rfl, bb, cc, ads, caps, rfl, _, _⟩, hb1⟩
 have g12 : (w1.alloc (lnO (tl s.tab j) bb cc ads caps)).cell? ⟨w1.heap.size, 12, none⟩ = some (.int .i64 (obt (pt (tl s.tab j) 5) 2 - 48)) := by simp [go_sem]
 have g10 : (w1.alloc (lnO (tl s.tab j) bb cc ads caps)).cell? ⟨w1.heap.size, 10, none⟩ = some (.bool (obt (pt (tl s.tab j) 5) 0 == 120)) := by simp [go_sem]
 have hb2 : Below W.heap.size W (w1.alloc (lnO (tl s.tab j) bb cc ads caps)) := hb1.alloc hb1.size _
 rw [Ho2.out] at g12
 rw [Ho0.out] at g10
 have hX2 := HX.out.later hb2
 have hI2 := HI.out.later hb2
 have HS2 : Hid (PAt (w1.alloc (lnO (tl s.tab j) bb cc ads caps)) s (.slice ad s.slots.length cap) (.slice ad2 s.ends.length cap2)) := HS.out.later hb2
 have HB2 : Hid (Below w.heap.size w (w1.alloc (lnO (tl s.tab j) bb cc ads caps))) := HB.out.trans (hb2.mono HB.out.size)
 clear hb1 hb2 i0 i1 i2 i3 i4 x1 HS HT HX HI
 go_upto_region 2 with fail
 generalize w1.alloc (lnO (tl s.tab j) bb cc ads caps) = W2 at *
 generalize w1.heap.size = lq at *
 have HX2 : Hid (PsIn W2 (w.heap.size + 1) x) := hX2
 have HI2 : Hid (PIn W2 w.heap.size s (.slice ad s.slots.length cap) (.slice ad2 s.ends.length cap2)) := hI2
 obtain ⟨x0, x1, x2, x3, x4, x5, x6, x7⟩ := hX2
 obtain ⟨i0, i1, i2, i3, i4⟩ := hI2
 by_cases h1 : x.att < 1
 ·have HF : Hid (¬ SlP s x) := fun q => by have := q.2.1.1; omega
  go_wp2_with fail
  go_ret
  exact ⟨AnsB.no HF.out, HB2.out⟩
 by_cases h2 : Px.opt s x.line 2 - 48 < x.att
 ·have HF : Hid (¬ SlP s x) := fun q => by have := q.2.1.2; omega
  generalize Px.opt s x.line 2 - 48 = most at *
  go_wp2_with fail
  go_ret
  exact ⟨AnsB.no HF.out, HB2.out⟩
 have HA : Hid (1 ≤ x.att ∧ x.att ≤ Px.opt s x.line 2 - 48) := ⟨by omega, by omega⟩
 generalize Px.opt s x.line 2 - 48 = most at g12 h2
 by_cases h3 : s.clock < x.minute
 ·have HF : Hid (¬ SlP s x) := fun q => by have := q.2.2.1; omega
  go_wp2_with fail
  go_ret
  exact ⟨AnsB.no HF.out, HB2.out⟩
 have HM : Hid (x.minute ≤ s.clock) := by unfold Hid; omega
 go_wp2_with fail
 refine (pfrom_any s x _ _ _ c1 c2 HS2.out).mono ?_
 rintro e w3 ⟨⟨b, rfl, hb⟩, hb3⟩
 have HB3 : Hid (Below w.heap.size w w3) := HB2.out.trans (hb3.mono HB2.out.size)
 have HS3 : Hid (PAt w3 s (.slice ad s.slots.length cap) (.slice ad2 s.ends.length cap2)) := HS2.out.later hb3
 have hX3 := HX2.out.later hb3
 have hI3 := HI2.out.later hb3
 have k10 := cell_later hb3 g10
 clear x0 x1 x2 x3 x4 x5 x6 x7 i0 i1 i2 i3 i4 g12 g10 hb3 h1 h2 h3 HX2 HI2 HS2 HB2
 cases b
 ·have HF : Hid (¬ SlP s x) := fun q => by have := hb.2 q.2.2.2.1; cases this
  clear hb
  go_wp2_with fail
  go_ret
  exact ⟨AnsB.no HF.out, HB3.out⟩
 have HFr : Hid (FromP s x) := hb.1 rfl
 have HX3 : Hid (PsIn w3 (w.heap.size + 1) x) := hX3
 have HI3 : Hid (PIn w3 w.heap.size s (.slice ad s.slots.length cap) (.slice ad2 s.ends.length cap2)) := hI3
 obtain ⟨x0, x1, x2, x3, x4, x5, x6, x7⟩ := hX3
 clear hb hI3
 go_wp2_with fail
 refine (runs_any x w3).mono ?_
 rintro e w4 ⟨rfl, hb4⟩
 have HB4 : Hid (Below w.heap.size w w4) := HB3.out.trans (hb4.mono HB3.out.size)
 have HS4 : Hid (PAt w4 s (.slice ad s.slots.length cap) (.slice ad2 s.ends.length cap2)) := HS3.out.later hb4
 have hX4 := HX3.out.later hb4
 have hI4 := HI3.out.later hb4
 have l10 := cell_later hb4 k10
 clear x0 x1 x2 x3 x4 x5 x6 x7 k10 hb4 HX3 HI3 HS3 HB3
 cases hr : decide (0 < x.step)
 ·have HF : Hid (SlP s x) := ⟨HN.out, HA.out, HM.out, HFr.out, fun q => by have := of_decide_eq_false hr; omega⟩
  clear hr
  go_wp2_with fail
  go_ret
  exact ⟨AnsB.yes HF.out, HB4.out⟩
 have hrp : 0 < x.step := of_decide_eq_true hr
 have HRn : Hid (0 < x.step) := hrp
 clear hrp
 obtain ⟨x0, x1, x2, x3, x4, x5, x6, x7⟩ := hX4
 obtain ⟨i0, i1, i2, i3, i4⟩ := hI4
 clear hr
 by_cases h4 : s.clock < x.frm
 ·have HF : Hid (¬ SlP s x) := fun q => by have := (q.2.2.2.2 HRn.out).1; omega
  go_wp2_with fail
  go_ret
  exact ⟨AnsB.no HF.out, HB4.out⟩
 have HL : Hid (x.frm ≤ s.clock) := by unfold Hid; omega
 cases ho : (Px.opt s x.line 0 == 120)
 ·have hno : ¬ Px.opt s x.line 0 = 120 := by simpa using ho
  have HF : Hid (SlP s x) := ⟨HN.out, HA.out, HM.out, HFr.out, fun _ => ⟨HL.out, fun q => (hno q).elim⟩⟩
  rw [ho] at l10
  clear ho hno
  go_wp2_with fail
  go_ret
  exact ⟨AnsB.yes HF.out, HB4.out⟩
 have hop : Px.opt s x.line 0 = 120 := by simpa using ho
 have HOp : Hid (Px.opt s x.line 0 = 120) := hop
 clear hop
 rw [ho] at l10
 clear ho
 go_wp2_with fail
 refine (runningOf_any s x.line _ _ _ hl HS4.out).mono ?_
 rintro e w5 ⟨rfl, hb5⟩
 have HB5 : Hid (Below w.heap.size w w5) := HB4.out.trans (hb5.mono HB4.out.size)
 have hrl := runsOf_le s x.line
 have Hro : Hid (∀ r, runsOf s x.line = r → (SlP s x ↔ r = 1)) := by
  rintro r rfl
  exact ⟨fun q => (q.2.2.2.2 HRn.out).2 HOp.out, fun q => ⟨HN.out, HA.out, HM.out, HFr.out, fun _ => ⟨HL.out, fun _ => q⟩⟩⟩
 have Hr1 := Hro.out _ rfl
 have HR1 : Hid (SlP s x ↔ runsOf s x.line = 1) := Hr1
 clear x0 x1 x2 x3 x4 x5 x6 x7 i0 i1 i2 i3 i4 l10 hb5 Hr1 Hro h4
 generalize runsOf s x.line = r at *
 cases h5 : ((r : Int) == 1)
 ·have HF : Hid (¬ SlP s x) := fun q => by have := HR1.out.1 q; subst this; simp at h5
  go_wp2_with fail
  go_ret
  exact ⟨AnsB.no HF.out, HB5.out⟩
 ·have HF : Hid (SlP s x) := HR1.out.2 (by have : (r : Int) = 1 := by simpa using h5
                                           omega)
  go_wp2_with fail
  go_ret
  exact ⟨AnsB.yes HF.out, HB5.out⟩
end Go.Proofs.YtdajolpoiffimaaGreatDoor

namespace Go.Proofs.YtdajolpoiffimaaGreatDoor
open Go.RowKit

theorem pslotMay_any (s : Px.St) (x : Px.Sl) (sl en : Value) (w : World) (c1 : -1 ≤ s.clock) (c2 : s.clock ≤ 4223371679) (hl : s.slots.length ≤ 10000) (hC : ChkR s.tab 0 0) (hT : TabLH w) (hS : PAt w s sl en) :
 Calls Tryz.prog 203 #[pstV s sl en, psV x] w fun e w' => AnsB e (SlP s x) ∧ Below w.heap.size w w' := by
 by_cases hn : 1 ≤ x.line ∧ x.line ≤ tn s.tab
 ·exact slotMay_some s x sl en w hn c1 c2 hl hC hT hS
 ·exact slotMay_none s x sl en w hn hC hT hS
/-- The number ahead of a place. -/
def prevN (l : List Px.Sl) : Nat → Int
 | 0 => 0
 | k + 1 => (l.getD k Px.sl0).num
def SlAt (s : Px.St) (j : Nat) : Prop := prevN s.slots j < (s.slots.getD j Px.sl0).num ∧ (s.slots.getD j Px.sl0).num < s.next ∧ SlP s (s.slots.getD j Px.sl0)
def SlsP (s : Px.St) : Prop := s.slots.length ≤ 8 ∧ ∀ j, j < s.slots.length → SlAt s j
set_option maxRecDepth 10000 in
set_option maxHeartbeats 2000000 in
theorem pslotsMay_any (s : Px.St) (sl en : Value) (w : World) (c1 : -1 ≤ s.clock) (c2 : s.clock ≤ 4223371679) (hl : s.slots.length ≤ 10000) (hC : ChkR s.tab 0 0) (hT : TabLH w) (hS : PAt w s sl en) :
 Calls Tryz.prog 179 #[pstV s sl en] w fun e w' => AnsB e (SlsP s) ∧ Below w.heap.size w w' := by
 obtain ⟨ad, cap, rfl, hcap⟩ := hS.sl.form
 obtain ⟨ad2, cap2, rfl, hcap2⟩ := hS.en.form
 have HS : Hid (PAt w s (.slice ad s.slots.length cap) (.slice ad2 s.ends.length cap2)) := hS
 have HC : Hid (ChkR s.tab 0 0) := hC
 have hb0 := below_alloc w (pstO s (.slice ad s.slots.length cap) (.slice ad2 s.ends.length cap2))
 have hI := PIn.new w s (.slice ad s.slots.length cap) (.slice ad2 s.ends.length cap2)
 clear hS hC
 go_enter Tryz.func179, Tryz.ntmps179
 go_upto_region 1 with fail
 generalize w.alloc (pstO s (.slice ad s.slots.length cap) (.slice ad2 s.ends.length cap2)) = W at *
 have HB : Hid (Below w.heap.size w W) := hb0
 have HSW : Hid (PAt W s (.slice ad s.slots.length cap) (.slice ad2 s.ends.length cap2)) := HS.out.later hb0
 have HT : Hid (TabLH W) := hT.later hb0
 have HI : Hid (PIn W w.heap.size s (.slice ad s.slots.length cap) (.slice ad2 s.ends.length cap2)) := hI
 have i3 := hI.c3
 have hsW := hb0.size
 clear hI hb0 HS hT
 by_cases h8 : 8 < s.slots.length
 ·have HF : Hid (¬ SlsP s) := fun q => by have := q.1; omega
  go_wp2_with fail
  go_ret
  exact ⟨AnsB.no HF.out, HB.out⟩
 have H8 : Hid (s.slots.length ≤ 8) := by unfold Hid; omega
 have z8 : ¬ (8 : Int) < (s.slots.length : Int) := by omega
 go_wp2_with fail
 clear i3
 go_loopw [3, 4] (fun l i wr => ∃ k : Nat, k ≤ s.slots.length ∧ i = .int .i64 k ∧ l = .int .i64 (prevN s.slots k) ∧ (∀ j, j < k → SlAt s j) ∧ Below W.heap.size W wr) (fun _ i _ => s.slots.length - (intOf i).toNat)
 case atStart => exact ⟨0, Nat.zero_le _, rfl, rfl, fun j h => by omega, Below.refl _ _⟩
 case round =>
  obtain ⟨k, hk, rfl, rfl, hall, hbr⟩ := hrel
  have HA : Hid (∀ j, j < k → SlAt s j) := hall
  have hIr := HI.out.later hbr
  have hsz := hbr.size
  clear hall
  by_cases hlt : k < s.slots.length
  ·obtain ⟨b, off, cap', hv, _, hc⟩ := (HSW.out.sl.1.later hbr).some' (by omega)
   cases hv
   obtain ⟨d0, d1, d2, d3, d4, d5, d6, d7⟩ := ps_cells hc k hlt
   clear hc
   have b1 : (0 : Int) ≤ (k : Int) := by omega
   have b2 : (k : Int) < (s.slots.length : Int) := by omega
   have HX : Hid (s.slots.getD k Px.sl0 = s.slots[k]) := by unfold Hid; simp [hlt]
   have HP1 : Hid (prevN s.slots (k + 1) = s.slots[k].num) := by show (s.slots.getD k Px.sl0).num = _; rw [HX.out]
   have HK : Hid (SlsP s → prevN s.slots k < s.slots[k].num ∧ s.slots[k].num < s.next ∧ SlP s s.slots[k]) := fun q => by have := q.2 k hlt; unfold SlAt at this; rw [HX.out] at this; exact this
   have HK2 : Hid (prevN s.slots k < s.slots[k].num → s.slots[k].num < s.next → SlP s s.slots[k] → ∀ j, j < k + 1 → SlAt s j) := fun a1 a2 a3 j hj => by
    by_cases e : j = k
    ·subst e; unfold SlAt; rw [HX.out]; exact ⟨a1, a2, a3⟩
    ·exact HA.out j (by omega)
   generalize s.slots[k] = x at *
   generalize prevN s.slots k = last at *
   have hxI := PsIn.new wr x
   have hbA := below_alloc wr (psO x)
   have i3 := hIr.c3
   have hI2 := hIr.later hbA
   go_upto_region 8 with fail
   clear d0 d1 d2 d3 d4 d5 d6 d7 i3 hIr
   generalize wr.alloc (psO x) = W2 at *
   generalize wr.heap.size = xq at *
   have hB2 : Below W.heap.size W W2 := hbr.trans (hbA.mono hsz)
   have HB2 : Hid (Below W.heap.size W W2) := hB2
   have HSW2 : Hid (PAt W2 s _ _) := HSW.out.later hB2
   have HX2 : Hid (PsIn W2 xq x) := hxI
   have HI2 : Hid (PIn W2 w.heap.size s _ _) := hI2
   obtain ⟨x0, x1, x2, x3, x4, x5, x6, x7⟩ := hxI
   obtain ⟨i0, i1, i2, i3, i4⟩ := hI2
   clear hbr hbA hB2
   by_cases h1 : x.num ≤ last
   ·have HF : Hid (¬ SlsP s) := fun q => by have := (HK.out q).1; omega
    go_wp2_with fail
    go_ret
    exact ⟨AnsB.no HF.out, HB.out.trans (HB2.out.mono hsW)⟩
   by_cases h2 : s.next ≤ x.num
   ·have HF : Hid (¬ SlsP s) := fun q => by have := (HK.out q).2.1; omega
    go_wp2_with fail
    go_ret
    exact ⟨AnsB.no HF.out, HB.out.trans (HB2.out.mono hsW)⟩
   have HL1 : Hid (last < x.num) := by unfold Hid; omega
   have HL2 : Hid (x.num < s.next) := by unfold Hid; omega
   go_wp2_with fail
   refine (pslotMay_any s x _ _ _ c1 c2 hl HC.out (HT.out.later HB2.out) HSW2.out).mono ?_
   rintro e w3 ⟨⟨bo, rfl, hbo⟩, hb3⟩
   have hB3 : Below W.heap.size W w3 := HB2.out.trans (hb3.mono HB2.out.size)
   have y0 := (HX2.out.later hb3).c0
   have hyq := World.block_lt_of_cell? _ _ y0
   clear x0 x1 x2 x3 x4 x5 x6 x7 i0 i1 i2 i3 i4 h1 h2 hb3 HX2 HI2 HSW2
   cases bo
   ·have HF : Hid (¬ SlsP s) := fun q => by have := hbo.2 (HK.out q).2.2; cases this
    have HB3 : Hid (Below w.heap.size w w3) := HB.out.trans (hB3.mono hsW)
    clear hbo hB3
    go_wp2_with fail
    go_ret
    exact ⟨AnsB.no HF.out, HB3.out⟩
   ·have HN : Hid (∀ j, j < k + 1 → SlAt s j) := HK2.out HL1.out HL2.out (hbo.1 rfl)
    have HB3 : Hid (Below W.heap.size W w3) := hB3
    clear hbo hB3
    go_wp2_with fail
    go_roundw
    case rel => exact ⟨k + 1, by omega, by go_num, by rw [HP1.out], HN.out, HB3.out⟩
    case measure => simp [intOf]; omega
  ·have HF : Hid (SlsP s) := ⟨H8.out, fun j hj => HA.out j (by omega)⟩
   have i3 := hIr.c3
   have HBr : Hid (Below w.heap.size w wr) := HB.out.trans (hbr.mono hsW)
   clear hIr hbr
   go_wp2_with fail
   go_ret
   exact ⟨AnsB.yes HF.out, HBr.out⟩
/-- An end that may be: as the program asks. -/
def EnAt (s : Px.St) (x : Bx.En) : Prop := (1 ≤ x.num ∧ x.num < s.next) ∧ (x.how = Bx.hD ∨ x.how = Bx.hA ∨ x.how = Bx.hK ∨ x.how = Bx.hS) ∧ timesP s x.num = 1
def EnsP (s : Px.St) : Prop := s.ends.length ≤ 6 ∧ ∀ x ∈ s.ends, EnAt s x
abbrev enO (x : Bx.En) : Obj := .cells #[.int .i64 x.num, .string x.how] 95
theorem timesP_le (s : Px.St) (n : Int) : timesP s n ≤ s.slots.length + s.ends.length := Nat.add_le_add (List.length_filter_le _ _) (List.length_filter_le _ _)
set_option maxRecDepth 10000 in
set_option maxHeartbeats 2000000 in
theorem pendsMay_any (s : Px.St) (sl en : Value) (w : World) (hl : s.slots.length ≤ 10000) (hle : s.ends.length ≤ 10000) (hS : PAt w s sl en) :
 Calls Tryz.prog 180 #[pstV s sl en] w fun e w' => AnsB e (EnsP s) ∧ Below w.heap.size w w' := by
 obtain ⟨ad, cap, rfl, hcap⟩ := hS.sl.form
 obtain ⟨ad2, cap2, rfl, hcap2⟩ := hS.en.form
 have HS : Hid (PAt w s (.slice ad s.slots.length cap) (.slice ad2 s.ends.length cap2)) := hS
 have hb0 := below_alloc w (pstO s (.slice ad s.slots.length cap) (.slice ad2 s.ends.length cap2))
 have hI := PIn.new w s (.slice ad s.slots.length cap) (.slice ad2 s.ends.length cap2)
 clear hS
 go_enter Tryz.func180, Tryz.ntmps180
 go_upto_region 1 with fail
 generalize w.alloc (pstO s (.slice ad s.slots.length cap) (.slice ad2 s.ends.length cap2)) = W at *
 have HB : Hid (Below w.heap.size w W) := hb0
 have HSW : Hid (PAt W s (.slice ad s.slots.length cap) (.slice ad2 s.ends.length cap2)) := HS.out.later hb0
 have HI : Hid (PIn W w.heap.size s (.slice ad s.slots.length cap) (.slice ad2 s.ends.length cap2)) := hI
 have i4 := hI.c4
 have hsW := hb0.size
 clear hI hb0 HS
 by_cases h6 : 6 < s.ends.length
 ·have HF : Hid (¬ EnsP s) := fun q => by have := q.1; omega
  go_wp2_with fail
  go_ret
  exact ⟨AnsB.no HF.out, HB.out⟩
 have H6 : Hid (s.ends.length ≤ 6) := by unfold Hid; omega
 have z6 : ¬ (6 : Int) < (s.ends.length : Int) := by omega
 go_wp2_with fail
 clear i4
 go_loopw [3] (fun i wr => ∃ k : Nat, k ≤ s.ends.length ∧ i = .int .i64 k ∧ (∀ j (hj : j < s.ends.length), j < k → EnAt s s.ends[j]) ∧ Below W.heap.size W wr) (fun i _ => s.ends.length - (intOf i).toNat)
 case atStart => exact ⟨0, Nat.zero_le _, rfl, fun j _ h => by omega, Below.refl _ _⟩
 case round =>
  obtain ⟨k, hk, rfl, hall, hbr⟩ := hrel
  have HA : Hid (∀ j (hj : j < s.ends.length), j < k → EnAt s s.ends[j]) := hall
  have hIr := HI.out.later hbr
  have hsz := hbr.size
  clear hall
  by_cases hlt : k < s.ends.length
  ·obtain ⟨b, off, cap', hv, _, hc⟩ := (HSW.out.en.1.later hbr).some' (by omega)
   cases hv
   have d0 : wr.cell? ⟨b, off + k * 2, none⟩ = some (.int .i64 s.ends[k].num) := RowAt.cell enC_len hc k hlt 0 (by decide)
   have d1 : wr.cell? ⟨b, off + k * 2 + 1, none⟩ = some (.string s.ends[k].how) := RowAt.cell enC_len hc k hlt 1 (by decide)
   clear hc
   have b1 : (0 : Int) ≤ (k : Int) := by omega
   have b2 : (k : Int) < (s.ends.length : Int) := by omega
   have HK : Hid (EnsP s → EnAt s s.ends[k]) := fun q => q.2 _ (List.getElem_mem hlt)
   have HK2 : Hid (EnAt s s.ends[k] → ∀ j (hj : j < s.ends.length), j < k + 1 → EnAt s s.ends[j]) := fun a j hj hjk => by
    by_cases e : j = k
    ·subst e; exact a
    ·exact HA.out j hj (by omega)
   generalize s.ends[k] = x at *
   have g0 : (wr.alloc (enO x)).cell? ⟨wr.heap.size, 0, none⟩ = some (.int .i64 x.num) := by simp [go_sem]
   have g1 : (wr.alloc (enO x)).cell? ⟨wr.heap.size, 1, none⟩ = some (.string x.how) := by simp [go_sem]
   have hbA := below_alloc wr (enO x)
   have i4 := hIr.c4
   have hI2 := hIr.later hbA
   go_upto_region 7 with fail
   clear d0 d1 i4 hIr
   generalize wr.alloc (enO x) = W2 at *
   generalize wr.heap.size = xq at *
   have hB2 : Below W.heap.size W W2 := hbr.trans (hbA.mono hsz)
   have HB2 : Hid (Below W.heap.size W W2) := hB2
   have HSW2 : Hid (PAt W2 s _ _) := HSW.out.later hB2
   have HBf : Hid (Below w.heap.size w W2) := HB.out.trans (hB2.mono hsW)
   have hxl := World.block_lt_of_cell? _ _ g0
   obtain ⟨i0, i1, i2, i3, i4⟩ := hI2
   clear hbr hbA hB2
   by_cases h1 : x.num < 1
   ·have HF : Hid (¬ EnsP s) := fun q => by have := (HK.out q).1.1; omega
    go_wp2_with fail
    go_ret
    exact ⟨AnsB.no HF.out, HBf.out⟩
   by_cases h2 : s.next ≤ x.num
   ·have HF : Hid (¬ EnsP s) := fun q => by have := (HK.out q).1.2; omega
    go_wp2_with fail
    go_ret
    exact ⟨AnsB.no HF.out, HBf.out⟩
   have HL : Hid (1 ≤ x.num ∧ x.num < s.next) := ⟨by omega, by omega⟩
   go_wp2_with fail
   refine (isHow_any x.how _).mono ?_
   rintro e w3 ⟨⟨bo, rfl, hbo⟩, rfl⟩
   cases bo
   ·have HF : Hid (¬ EnsP s) := fun q => by have := hbo.2 (HK.out q).2.1; cases this
    clear hbo
    go_wp2_with fail
    go_ret
    exact ⟨AnsB.no HF.out, HBf.out⟩
   have HH : Hid (x.how = Bx.hD ∨ x.how = Bx.hA ∨ x.how = Bx.hK ∨ x.how = Bx.hS) := hbo.1 rfl
   clear hbo
   go_wp2_with fail
   refine (times_any s x.num _ _ _ hl hle HSW2.out).mono ?_
   rintro e w4 ⟨rfl, hb4⟩
   have htl := timesP_le s x.num
   have HTm : Hid (∀ r, timesP s x.num = r → (EnAt s x ↔ r = 1)) := by
    rintro r rfl
    exact ⟨fun q => q.2.2, fun q => ⟨HL.out, HH.out, q⟩⟩
   have HT1 : Hid (EnAt s x ↔ timesP s x.num = 1) := HTm.out _ rfl
   have HB4 : Hid (Below W.heap.size W w4) := HB2.out.trans (hb4.mono HB2.out.size)
   clear hb4 HTm i0 i1 i2 i3 i4 h1 h2 g0 g1
   generalize timesP s x.num = r at *
   cases h5 : ((r : Int) != 1)
   ·have hr1 : r = 1 := by have : (r : Int) = 1 := by simpa using h5
                           omega
    have HN : Hid (∀ j (hj : j < s.ends.length), j < k + 1 → EnAt s s.ends[j]) := HK2.out (HT1.out.2 hr1)
    clear hr1
    go_wp2_with fail
    go_roundw
    case rel => exact ⟨k + 1, by omega, by go_num, HN.out, HB4.out⟩
    case measure => simp [intOf]; omega
   ·have HF : Hid (¬ EnsP s) := fun q => by
     have := HT1.out.1 (HK.out q)
     subst this; simp at h5
    go_wp2_with fail
    go_ret
    exact ⟨AnsB.no HF.out, HB.out.trans (HB4.out.mono hsW)⟩
  ·have HF : Hid (EnsP s) := ⟨H6.out, fun x hx => by
    obtain ⟨j, hj, rfl⟩ := List.mem_iff_getElem.1 hx
    exact HA.out j hj (by omega)⟩
   have i4 := hIr.c4
   have HBr : Hid (Below w.heap.size w wr) := HB.out.trans (hbr.mono hsW)
   clear hIr hbr
   go_wp2_with fail
   go_ret
   exact ⟨AnsB.yes HF.out, HBr.out⟩
end Go.Proofs.YtdajolpoiffimaaGreatDoor

namespace Go.Proofs.YtdajolpoiffimaaGreatDoor
open Go.RowKit

def MayP (s : Px.St) : Prop := (-1 ≤ s.clock ∧ s.clock ≤ 4223371679) ∧ (1 ≤ s.next ∧ s.next ≤ 10000) ∧ ChkR s.tab 0 0 ∧ SlsP s ∧ EnsP s
set_option maxRecDepth 10000 in
set_option maxHeartbeats 2000000 in
theorem pmay_any (s : Px.St) (sl en : Value) (w : World) (ht : s.tab.size ≤ maxLen) (hl : s.slots.length ≤ 10000) (hle : s.ends.length ≤ 10000) (hT : TabLH w) (hS : PAt w s sl en) :
 Calls Tryz.prog 146 #[pstV s sl en] w fun e w' => AnsB e (MayP s) ∧ Below w.heap.size w w' := by
 obtain ⟨ad, cap, rfl, hcap⟩ := hS.sl.form
 obtain ⟨ad2, cap2, rfl, hcap2⟩ := hS.en.form
 have HS : Hid (PAt w s (.slice ad s.slots.length cap) (.slice ad2 s.ends.length cap2)) := hS
 have HSz : Hid (s.tab.size ≤ maxLen) := ht
 have hb0 := below_alloc w (pstO s (.slice ad s.slots.length cap) (.slice ad2 s.ends.length cap2))
 have hI := PIn.new w s (.slice ad s.slots.length cap) (.slice ad2 s.ends.length cap2)
 clear hS ht
 go_enter Tryz.func146, Tryz.ntmps146
 go_upto_region 1 with fail
 generalize w.alloc (pstO s (.slice ad s.slots.length cap) (.slice ad2 s.ends.length cap2)) = W at *
 have HB : Hid (Below w.heap.size w W) := hb0
 have HSW : Hid (PAt W s (.slice ad s.slots.length cap) (.slice ad2 s.ends.length cap2)) := HS.out.later hb0
 have HT : Hid (TabLH W) := hT.later hb0
 have HI : Hid (PIn W w.heap.size s (.slice ad s.slots.length cap) (.slice ad2 s.ends.length cap2)) := hI
 obtain ⟨i0, i1, i2, i3, i4⟩ := hI
 clear hb0 HS hT
 by_cases h1 : s.clock < -1
 ·have HF : Hid (¬ MayP s) := fun q => by have := q.1.1; omega
  go_wp2_with fail
  go_ret
  exact ⟨AnsB.no HF.out, HB.out⟩
 by_cases h2 : 4223371679 < s.clock
 ·have HF : Hid (¬ MayP s) := fun q => by have := q.1.2; omega
  go_wp2_with fail
  go_ret
  exact ⟨AnsB.no HF.out, HB.out⟩
 by_cases h3 : s.next < 1
 ·have HF : Hid (¬ MayP s) := fun q => by have := q.2.1.1; omega
  go_wp2_with fail
  go_ret
  exact ⟨AnsB.no HF.out, HB.out⟩
 by_cases h4 : 10000 < s.next
 ·have HF : Hid (¬ MayP s) := fun q => by have := q.2.1.2; omega
  go_wp2_with fail
  go_ret
  exact ⟨AnsB.no HF.out, HB.out⟩
 have c1 : -1 ≤ s.clock := by omega
 have c2 : s.clock ≤ 4223371679 := by omega
 have HCl : Hid (-1 ≤ s.clock ∧ s.clock ≤ 4223371679) := ⟨c1, c2⟩
 have HNx : Hid (1 ≤ s.next ∧ s.next ≤ 10000) := ⟨by omega, by omega⟩
 go_wp2_with fail
 refine (read_any _ _ HSz.out HT.out).mono ?_
 rintro e w1 ⟨⟨a, r, adr, n', c, rfl, hK, _⟩, hb1⟩
 have HK : Hid (ChkR s.tab a r) := hK
 have hbd := hK.bd
 have g2 : (w1.alloc (.cells #[.slice adr n' c, .int .i64 a, .int .i64 r] 175)).cell? ⟨w1.heap.size, 2, none⟩ = some (.int .i64 r) := by simp [go_sem]
 have hb2 : Below W.heap.size W (w1.alloc (.cells #[.slice adr n' c, .int .i64 a, .int .i64 r] 175)) := hb1.alloc hb1.size _
 have hI2 := HI.out.later hb2
 have HS2 : Hid (PAt (w1.alloc (.cells #[.slice adr n' c, .int .i64 a, .int .i64 r] 175)) s (.slice ad s.slots.length cap) (.slice ad2 s.ends.length cap2)) := HSW.out.later hb2
 have HT2 : Hid (TabLH (w1.alloc (.cells #[.slice adr n' c, .int .i64 a, .int .i64 r] 175))) := HT.out.later hb2
 have HB2 : Hid (Below w.heap.size w (w1.alloc (.cells #[.slice adr n' c, .int .i64 a, .int .i64 r] 175))) := HB.out.trans (hb2.mono HB.out.size)
 clear hb1 hb2 i0 i1 i2 i3 i4 hK h1 h2 h3 h4 HI HSW HT
 go_upto_region 6 with fail
 generalize w1.alloc (.cells #[.slice adr n' c, .int .i64 a, .int .i64 r] 175) = W2 at *
 generalize w1.heap.size = rq at *
 have hrl := World.block_lt_of_cell? _ _ g2
 have HI2 : Hid (PIn W2 w.heap.size s (.slice ad s.slots.length cap) (.slice ad2 s.ends.length cap2)) := hI2
 obtain ⟨i0, i1, i2, i3, i4⟩ := hI2
 by_cases hr : r = 0
 rotate_left
 ·have hr' : (r != 0) = true := by simpa using hr
  have HF : Hid (¬ MayP s) := fun q => hr (q.2.2.1.uniq HK.out).2.symm
  clear hr
  go_wp2_with fail
  go_ret
  exact ⟨AnsB.no HF.out, HB2.out⟩
 subst hr
 have ha := HK.out.zero rfl
 subst ha
 go_wp2_with fail
 refine (pslotsMay_any s _ _ _ c1 c2 hl HK.out HT2.out HS2.out).mono ?_
 rintro e w3 ⟨⟨b, rfl, hb⟩, hb3⟩
 have HB3 : Hid (Below w.heap.size w w3) := HB2.out.trans (hb3.mono HB2.out.size)
 have HS3 : Hid (PAt w3 s (.slice ad s.slots.length cap) (.slice ad2 s.ends.length cap2)) := HS2.out.later hb3
 have hI3 := HI2.out.later hb3
 clear i0 i1 i2 i3 i4 hb3 g2
 cases b
 ·have HF : Hid (¬ MayP s) := fun q => by have := hb.2 q.2.2.2.1; cases this
  clear hb
  go_wp2_with fail
  go_ret
  exact ⟨AnsB.no HF.out, HB3.out⟩
 have HSl : Hid (SlsP s) := hb.1 rfl
 clear hb
 obtain ⟨i0, i1, i2, i3, i4⟩ := hI3
 go_wp2_with fail
 refine (pendsMay_any s _ _ _ hl hle HS3.out).mono ?_
 rintro e w4 ⟨⟨b, rfl, hb⟩, hb4⟩
 have HB4 : Hid (Below w.heap.size w w4) := HB3.out.trans (hb4.mono HB3.out.size)
 clear i0 i1 i2 i3 i4 hb4
 cases b
 ·have HF : Hid (¬ MayP s) := fun q => by have := hb.2 q.2.2.2.2; cases this
  clear hb
  go_wp2_with fail
  go_ret
  exact ⟨AnsB.no HF.out, HB4.out⟩
 ·have HF : Hid (MayP s) := ⟨HCl.out, HNx.out, HK.out, HSl.out, hb.1 rfl⟩
  clear hb
  go_wp2_with fail
  go_ret
  exact ⟨AnsB.yes HF.out, HB4.out⟩

/-! What the program asks is what the document asks. -/
theorem rise_of {l : List Px.Sl} (h : ∀ j, j < l.length → prevN l j < (l.getD j Px.sl0).num) : (l.Pairwise fun a b => a.num < b.num) ∧ ∀ x ∈ l, 1 ≤ x.num := by
 have step : ∀ j (hj : j + 1 < l.length), (l[j]'(by omega)).num < l[j + 1].num := by
  intro j hj
  have := h (j + 1) hj
  simp [prevN, hj, show j < l.length by omega] at this
  exact this
 have up : ∀ d i (hd : i + d + 1 < l.length), (l[i]'(by omega)).num < l[i + d + 1].num := by
  intro d
  induction d with
  | zero => intro i hd; exact step i hd
  | succ d ih =>
    intro i hd
    have h1 := ih i (by omega)
    have h2 := step (i + d + 1) (by omega)
    have e : i + (d + 1) + 1 = i + d + 1 + 1 := by omega
    simp only [e]
    omega
 constructor
 ·rw [List.pairwise_iff_getElem]
  intro i j hi hj hij
  have := up (j - i - 1) i (by omega)
  have e : i + (j - i - 1) + 1 = j := by omega
  simp only [e] at this
  exact this
 ·intro x hx
  obtain ⟨j, hj, rfl⟩ := List.mem_iff_getElem.1 hx
  have h0 := h 0 (by omega)
  simp [prevN, show 0 < l.length by omega] at h0
  by_cases e : j = 0
  ·subst e; omega
  ·have := up (j - 1) 0 (by omega)
   have e' : 0 + (j - 1) + 1 = j := by omega
   simp only [e'] at this
   omega
theorem of_rise {l : List Px.Sl} (h : l.Pairwise fun a b => a.num < b.num) (h1 : ∀ x ∈ l, 1 ≤ x.num) : ∀ j, j < l.length → prevN l j < (l.getD j Px.sl0).num := by
 intro j hj
 have e : l.getD j Px.sl0 = l[j] := by simp [hj]
 rw [e]
 cases j with
 | zero => have := h1 _ (List.getElem_mem hj); show (0 : Int) < _; omega
 | succ j =>
   have e2 : l.getD j Px.sl0 = l[j] := by simp [show j < l.length by omega]
   show (l.getD j Px.sl0).num < _
   rw [e2]
   exact List.pairwise_iff_getElem.1 h j (j + 1) (by omega) hj (by omega)
theorem may_iff {s : Px.St} (hf : ∀ x ∈ s.slots, 0 ≤ x.minute) : MayP s ↔ Bx.MayS (Px.abs s) := by
 have hopt : ∀ l i, Bx.opt (Px.abs s) l i = Px.opt s l i := fun _ _ => rfl
 have key := Bx.one_of (fun x y : Px.Sl => decide (y.line = x.line) && decide (0 < y.step) || !decide (0 < x.step)) (by intro x; cases decide (0 < x.step) <;> simp)
 have lockI : (∀ x ∈ s.slots, (0 < x.step ∧ Px.opt s x.line 0 = 120) → runsOf s x.line = 1) ↔ s.slots.Pairwise fun a b => a.line = b.line → Px.opt s a.line 0 = 120 → 0 < a.step → 0 < b.step → False := by
  have e : ∀ x ∈ s.slots, (0 < x.step ∧ Px.opt s x.line 0 = 120) → s.slots.filter (fun y => decide (y.line = x.line) && decide (0 < y.step) || !decide (0 < x.step)) = s.slots.filter (onP x.line) := fun x _ h => by
   refine List.filter_congr fun y _ => ?_
   unfold onP; simp [h.1]
  have k := key s.slots (fun x => 0 < x.step ∧ Px.opt s x.line 0 = 120) (by
   intro x y hp ⟨hx1, hx2⟩
   simp [hx1] at hp
   exact ⟨⟨hp.2, by rw [hp.1]; exact hx2⟩, by simp [hp.2, hp.1, hx1]⟩)
  constructor
  ·intro h
   have := k.1 (fun x hx c => by rw [e x hx c]; exact h x hx c)
   refine this.imp fun {a b} q hl ho ha hb => q ⟨ha, ho⟩ (by simp [ha, hb, hl])
  ·intro h x hx c
   have := k.2 (h.imp fun {a b} q c2 hp => by
    simp [c2.1] at hp
    exact q hp.1.symm c2.2 c2.1 hp.2) x hx c
   rw [e x hx c] at this; exact this
 have endsI : (∀ x ∈ s.ends, timesP s x.num = 1) ↔ (∀ x ∈ s.ends, ∀ y ∈ s.slots, y.num ≠ x.num) ∧ s.ends.Pairwise fun a b => a.num ≠ b.num := by
  have k := Bx.one_of (fun x y : Bx.En => y.num == x.num) (by intro x; simp) s.ends (fun _ => True) (by intro x y hp _; exact ⟨trivial, by simp at hp ⊢; exact hp.symm⟩)
  have pos : ∀ x ∈ s.ends, 1 ≤ (s.ends.filter fun y => y.num == x.num).length := fun x hx => List.length_pos_of_mem (List.mem_filter.2 ⟨hx, by simp⟩)
  constructor
  ·intro h
   have h1 : ∀ x ∈ s.ends, (s.slots.filter fun y => y.num == x.num).length = 0 ∧ (s.ends.filter fun y => y.num == x.num).length = 1 := fun x hx => by
    have := h x hx; have := pos x hx; unfold timesP at *; omega
   refine ⟨fun x hx y hy e => ?_, ?_⟩
   ·have h2 := (h1 x hx).1
    have h3 : y ∈ s.slots.filter fun y => y.num == x.num := List.mem_filter.2 ⟨hy, by simpa using e⟩
    have := List.length_pos_of_mem h3; omega
   ·exact (k.1 fun x hx _ => (h1 x hx).2).imp fun {a b} q e => q trivial (by simpa using e.symm)
  ·rintro ⟨h1, h2⟩ x hx
   have a1 : s.slots.filter (fun y => y.num == x.num) = [] := List.filter_eq_nil_iff.2 fun y hy e => h1 x hx y hy (by simpa using e)
   have a2 := k.2 (h2.imp fun {a b} q _ e => q (by simpa using e : b.num = a.num).symm) x hx trivial
   unfold timesP; rw [a1, a2]; rfl
 constructor
 ·rintro ⟨⟨c1, c2⟩, ⟨n1, n2⟩, hC, ⟨h8, hs⟩, h6, he⟩
  obtain ⟨hr, h1⟩ := rise_of (fun j hj => (hs j hj).1)
  have each : ∀ x ∈ s.slots, x.num < s.next ∧ SlP s x := fun x hx => by
   obtain ⟨j, hj, rfl⟩ := List.mem_iff_getElem.1 hx
   have := hs j hj
   unfold SlAt at this
   simp [hj] at this
   exact this.2
  obtain ⟨e1, e2⟩ := endsI.1 fun x hx => (he x hx).2.2
  refine ⟨hC, c1, c2, n1, n2, by simpa [Px.abs] using h8, h6, ?_, ?_, e2, ?_, ?_⟩
  ·simp only [Px.abs]; rw [List.pairwise_map]; exact hr
  ·simp only [Px.abs]; rw [List.pairwise_map]
   refine (lockI.1 fun x hx c => (each x hx).2.2.2.2.2 c.1 |>.2 c.2).imp fun {a b} q hl ho ha hb => q hl ho (of_decide_eq_true ha) (of_decide_eq_true hb)
  ·intro y hy
   obtain ⟨x, hx, rfl⟩ := List.mem_map.1 hy
   obtain ⟨q1, q2, q3, q4, q5, q6⟩ := each x hx
   exact ⟨⟨h1 x hx, q1⟩, q2, hf x hx, q4, q3, q5.1, q5.2, fun e => (q6 (of_decide_eq_true e)).1⟩
  ·intro x hx
   refine ⟨(he x hx).1, (he x hx).2.1, fun y hy => ?_⟩
   obtain ⟨z, hz, rfl⟩ := List.mem_map.1 hy
   exact e1 x hx z hz
 ·intro h
  have h8 : s.slots.length ≤ 8 := by have := h.sl; simpa [Px.abs] using this
  have hr : s.slots.Pairwise fun a b => a.num < b.num := by have := h.rise; simp only [Px.abs] at this; rw [List.pairwise_map] at this; exact this
  have hm : ∀ x ∈ s.slots, Bx.MaySl (Px.abs s) (Px.absS x) := fun x hx => h.es _ (List.mem_map.2 ⟨x, hx, rfl⟩)
  have hlk : s.slots.Pairwise fun a b => a.line = b.line → Px.opt s a.line 0 = 120 → 0 < a.step → 0 < b.step → False := by
   have := h.lock; simp only [Px.abs] at this; rw [List.pairwise_map] at this
   exact this.imp fun {a b} q hl ho ha hb => q hl ho (decide_eq_true ha) (decide_eq_true hb)
  refine ⟨⟨h.c1, h.c2⟩, ⟨h.n1, h.n2⟩, h.tab, ⟨h8, fun j hj => ?_⟩, h.en, fun x hx => ?_⟩
  ·have hp := of_rise hr (fun x hx => (hm x hx).n.1) j hj
   have hx : s.slots.getD j Px.sl0 ∈ s.slots := by simp [hj]
   have q := hm _ hx
   refine ⟨hp, q.n.2, q.l, q.a, q.m, ⟨q.f1, q.f2⟩, fun e => ⟨q.r (decide_eq_true e), fun ho => lockI.2 hlk _ hx ⟨e, ho⟩⟩⟩
  ·have q := h.ee x hx
   refine ⟨q.n, q.h, endsI.2 ⟨fun z hz y hy => (h.ee z hz).o (Px.absS y) (List.mem_map.2 ⟨y, hy, rfl⟩), h.dif⟩ x hx⟩
end Go.Proofs.YtdajolpoiffimaaGreatDoor

namespace Go.Proofs.YtdajolpoiffimaaGreatDoor
open Go.RowKit

/-- What is left of a text, in memory. -/
abbrev ptC (p : Bx.PS) : List Value := [.string p.rest, .bool p.wrong]
abbrev PtIn (w : World) (q : Nat) (p : Bx.PS) : Prop := Cl w q 213 (ptC p)
theorem PtIn.c0 {w : World} {q : Nat} {p : Bx.PS} (h : PtIn w q p) : w.cell? ⟨q, 0, none⟩ = some (.string p.rest) := h.c 0 _ rfl
theorem PtIn.c1 {w : World} {q : Nat} {p : Bx.PS} (h : PtIn w q p) : w.cell? ⟨q, 1, none⟩ = some (.bool p.wrong) := h.c 1 _ rfl
theorem PtIn.f0 {w : World} {q : Nat} {p : Bx.PS} (h : PtIn w q p) : w.frozen? ⟨q, 0, none⟩ = false := h.f 0 (by simp)
theorem PtIn.f1 {w : World} {q : Nat} {p : Bx.PS} (h : PtIn w q p) : w.frozen? ⟨q, 1, none⟩ = false := h.f 1 (by simp)
theorem txtP_size (k : Int) (p : Bx.PS) : (Bx.txtP k p).2.rest.size ≤ p.rest.size := by
 unfold Bx.txtP; split
 ·exact Nat.le_refl _
 ·simp
theorem numP_size (k : Nat) (p : Bx.PS) : (Bx.numP k p).2.rest.size ≤ p.rest.size := txtP_size _ _

set_option maxHeartbeats 1000000 in
theorem ptext_any (p : Bx.PS) (q : Nat) (k : Int) (w : World) (_hs : p.rest.size ≤ 100000) (hp : PtIn w q p) :
 Calls Tryz.prog 143 #[.pointer (some ⟨q, 0, none⟩), .int .i64 k] w fun e w' => e = .returned (.string (Bx.txtP k p).1) ∧ PtIn w' q (Bx.txtP k p).2 ∧ w.grownBy w' (some q) := by
 have HP : Hid (PtIn w q p) := hp
 have c0 := hp.c0; have c1 := hp.c1; have f0 := hp.f0; have f1 := hp.f1
 have hq := hp.ty.lt
 clear hp
 by_cases hk : k < 0
 ·have HE : Hid (Bx.txtP k p = (ByteArray.empty, ⟨p.rest, true⟩)) := if_pos (Or.inl hk)
  have HF : Hid (PtIn (w.setCell ⟨q, 1, none⟩ (.bool true)) q ⟨p.rest, true⟩) := HP.out.set 1 (by simp) _
  have HG : Hid (w.grownBy (w.setCell ⟨q, 1, none⟩ (.bool true)) (some q)) := grow_set (grow_refl w _) 1 _
  go_enter Tryz.func143, Tryz.ntmps143
  go_wp2_with fail
  go_ret
  rw [HE.out]
  exact ⟨rfl, HF.out, HG.out⟩
 ·by_cases hl : (p.rest.size : Int) < k
  ·have HE : Hid (Bx.txtP k p = (ByteArray.empty, ⟨p.rest, true⟩)) := if_pos (Or.inr hl)
   have HF : Hid (PtIn (w.setCell ⟨q, 1, none⟩ (.bool true)) q ⟨p.rest, true⟩) := HP.out.set 1 (by simp) _
   have HG : Hid (w.grownBy (w.setCell ⟨q, 1, none⟩ (.bool true)) (some q)) := grow_set (grow_refl w _) 1 _
   go_enter Tryz.func143, Tryz.ntmps143
   go_wp2_with fail
   go_ret
   rw [HE.out]
   exact ⟨rfl, HF.out, HG.out⟩
  ·obtain ⟨n, rfl⟩ : ∃ n : Nat, k = n := ⟨k.toNat, by omega⟩
   have hn : n ≤ p.rest.size := by omega
   have HE : Hid (Bx.txtP n p = (p.rest.extract 0 n, ⟨p.rest.extract n p.rest.size, p.wrong⟩)) := by
    unfold Hid Bx.txtP; rw [if_neg (by omega), Int.toNat_natCast]
   have HF : Hid (PtIn (w.setCell ⟨q, 0, none⟩ (.string (p.rest.extract n p.rest.size))) q ⟨p.rest.extract n p.rest.size, p.wrong⟩) := HP.out.set 0 (by simp) _
   have HG : Hid (w.grownBy (w.setCell ⟨q, 0, none⟩ (.string (p.rest.extract n p.rest.size))) (some q)) := grow_set (grow_refl w _) 0 _
   go_enter Tryz.func143, Tryz.ntmps143
   go_wp2_with fail
   go_ret
   rw [HE.out]
   exact ⟨rfl, HF.out, HG.out⟩
theorem nb_take (s : ByteArray) (k : Nat) (h : k < s.size) : Bx.nb (s.data.toList.take (k + 1)) = Bx.nb (s.data.toList.take k) * 256 + (s[k].toNat : Int) := by
 rw [Crc.take_snoc s k h, Bx.nb_snoc]
theorem nb_take_lt (s : ByteArray) (k : Nat) (hk : k ≤ 5) : 0 ≤ Bx.nb (s.data.toList.take k) ∧ Bx.nb (s.data.toList.take k) < 1099511627776 := by
 refine ⟨Bx.nb_nonneg _, ?_⟩
 have h1 := Bx.nb_lt (s.data.toList.take k)
 have h2 : (s.data.toList.take k).length ≤ 5 := by simp; omega
 generalize (s.data.toList.take k).length = n at h1 h2
 have : n = 0 ∨ n = 1 ∨ n = 2 ∨ n = 3 ∨ n = 4 ∨ n = 5 := by omega
 rcases this with rfl | rfl | rfl | rfl | rfl | rfl <;> simp at h1 <;> omega
set_option maxHeartbeats 1000000 in
theorem pnumber_any (p : Bx.PS) (q k : Nat) (k' : Int) (w : World) (hk' : k' = k) (hk : k ≤ 5) (hs : p.rest.size ≤ 100000) (hp : PtIn w q p) :
 Calls Tryz.prog 142 #[.pointer (some ⟨q, 0, none⟩), .int .i64 k'] w fun e w' => e = .returned (.int .i64 (Bx.numP k p).1) ∧ PtIn w' q (Bx.numP k p).2 ∧ w.grownBy w' (some q) := by
 subst hk'
 have HP : Hid (PtIn w q p) := hp
 clear hp
 go_enter Tryz.func142, Tryz.ntmps142
 go_wp2_with fail
 refine (ptext_any p q k _ hs HP.out).mono ?_
 rintro e w1 ⟨rfl, hp1, hg1⟩
 have HP1 : Hid (PtIn w1 q (Bx.numP k p).2) := hp1
 have HG1 : Hid (w.grownBy w1 (some q)) := hg1
 have HN : Hid ((Bx.numP k p).1 = Bx.nb (Bx.txtP k p).1.data.toList) := rfl
 have hz : (Bx.txtP k p).1.size ≤ 5 := by
  unfold Bx.txtP; split
  ·simp
  ·simp; omega
 generalize (Bx.txtP k p).1 = t at *
 clear hp1 hg1
 go_wp2_with fail
 go_loop [6, 7] (fun n i => ∃ j : Nat, j ≤ t.size ∧ i = .int .i64 j ∧ n = .int .i64 (Bx.nb (t.data.toList.take j))) (fun _ i => t.size - (intOf i).toNat)
 case atStart => exact ⟨0, Nat.zero_le _, rfl, rfl⟩
 case round =>
  obtain ⟨j, hj, rfl, rfl⟩ := hrel
  obtain ⟨n1, n2⟩ := nb_take_lt t j (by omega)
  by_cases hlt : j < t.size
  ·have HS : Hid (Bx.nb (t.data.toList.take (j + 1)) = Bx.nb (t.data.toList.take j) * 256 + (t[j].toNat : Int)) := nb_take t j hlt
   have hb : t[j].toNat < 256 := t[j].toNat_lt
   generalize Bx.nb (t.data.toList.take j) = n at *
   go_wp2_with fail
   go_round
   case rel => exact ⟨j + 1, by omega, by go_num, by rw [HS.out]⟩
   case measure => simp [intOf]; omega
  ·obtain rfl : j = t.size := by omega
   have HL : Hid (Bx.nb (t.data.toList.take t.size) = Bx.nb t.data.toList) := by unfold Hid; rw [List.take_of_length_le (by simp)]
   go_wp2_with fail
   go_ret
   exact ⟨ret_int' (by rw [HN.out, HL.out]), HP1.out, HG1.out⟩
set_option maxHeartbeats 1000000 in
theorem pright_any (p : Bx.PS) (q : Nat) (w : World) (hp : PtIn w q p) :
 Calls Tryz.prog 178 #[.pointer (some ⟨q, 0, none⟩)] w fun e w' => e = .returned (.bool (!p.wrong && p.rest.toList.isEmpty)) ∧ w' = w := by
 have c0 := hp.c0; have c1 := hp.c1
 have hq := hp.ty.lt
 clear hp
 go_enter Tryz.func178, Tryz.ntmps178
 cases hw : p.wrong
 ·rw [hw] at c1
  go_wp2_with fail
  go_ret
  exact ⟨rfl, rfl⟩
 ·rw [hw] at c1
  go_wp2_with fail
  go_ret
  exact ⟨rfl, rfl⟩
end Go.Proofs.YtdajolpoiffimaaGreatDoor

namespace Go.Proofs.YtdajolpoiffimaaGreatDoor
open Go.RowKit

theorem grow_new {w w1 : World} {r : Option Nat} (h : w.grownBy w1 r) {g : Nat} (hg : w.heap.size ≤ g) (j : Nat) (u : Value) : w.grownBy (w1.setCell ⟨g, j, none⟩ u) r := by
 have e : ∀ k, k < w.heap.size → (w1.setCell ⟨g, j, none⟩ u).heap[k]? = w1.heap[k]? := fun k hk => ((Below.refl w.heap.size w1).setCell (p := ⟨g, j, none⟩) hg u).block k hk
 have z := ((Below.refl w.heap.size w1).setCell (p := ⟨g, j, none⟩) hg u).size
 exact ⟨h.os, h.tape, h.output, Nat.le_trans h.size z, fun k hk hn => (e k hk).trans (h.block k hk hn)⟩
theorem grow_new8 {w w1 : World} {r : Option Nat} (h : w.grownBy w1 r) {g : Nat} (hg : w.heap.size ≤ g) (u0 u1 u2 u3 u4 u5 u6 u7 : Value) : w.grownBy ((((((((w1.setCell ⟨g, 0, none⟩ u0).setCell ⟨g, 1, none⟩ u1).setCell ⟨g, 2, none⟩ u2).setCell ⟨g, 3, none⟩ u3).setCell ⟨g, 4, none⟩ u4).setCell ⟨g, 5, none⟩ u5).setCell ⟨g, 6, none⟩ u6).setCell ⟨g, 7, none⟩ u7) r :=
 grow_new (grow_new (grow_new (grow_new (grow_new (grow_new (grow_new (grow_new h hg _ _) hg _ _) hg _ _) hg _ _) hg _ _) hg _ _) hg _ _) hg _ _
theorem Cl.far8 {w1 : World} {q g : Nat} {t : TypeId} {cs : List Value} (h : Cl w1 q t cs) (hn : q ≠ g) (u0 u1 u2 u3 u4 u5 u6 u7 : Value) : Cl ((((((((w1.setCell ⟨g, 0, none⟩ u0).setCell ⟨g, 1, none⟩ u1).setCell ⟨g, 2, none⟩ u2).setCell ⟨g, 3, none⟩ u3).setCell ⟨g, 4, none⟩ u4).setCell ⟨g, 5, none⟩ u5).setCell ⟨g, 6, none⟩ u6).setCell ⟨g, 7, none⟩ u7) q t cs :=
 (((((((h.far hn _ _).far hn _ _).far hn _ _).far hn _ _).far hn _ _).far hn _ _).far hn _ _).far hn _ _
/-- Where readSlot is: the parts, the slot, the result. -/
structure RS (w W : World) (q : Nat) (p : Bx.PS) (x : Px.Sl) : Prop where
 p : PtIn W q p
 x : Cl W (w.heap.size + 1) 154 (psC x)
 z : Cl W w.heap.size 154 (psC Px.sl0)
 g : w.grownBy W (some q)
 q : q < w.heap.size
theorem RS.call {w W W' : World} {q : Nat} {p p' : Bx.PS} {x : Px.Sl} (h : RS w W q p x) (hp : PtIn W' q p') (hg : W.grownBy W' (some q)) : RS w W' q p' x :=
 ⟨hp, h.x.grow hg (by have := h.q; omega), h.z.grow hg (by have := h.q; omega), grow_trans h.g hg, h.q⟩
theorem RS.put {w W : World} {q : Nat} {p : Bx.PS} {x : Px.Sl} (h : RS w W q p x) (y : Px.Sl) (j : Nat) (v : Value) (hj : j < 8) (hy : psC y = (psC x).set j v) : RS w (W.setCell ⟨w.heap.size + 1, j, none⟩ v) q p y :=
 ⟨h.p.far (by have := h.q; omega) _ _, by rw [hy]; exact h.x.set j (by simpa [psC] using hj) v, h.z.far (by omega) _ _, grow_new h.g (by omega) _ _, h.q⟩
set_option maxRecDepth 10000 in
set_option maxHeartbeats 2000000 in
theorem preadSlot_any (p : Bx.PS) (q : Nat) (w : World) (hs : p.rest.size ≤ 100000) (hp : PtIn w q p) :
 Calls Tryz.prog 218 #[.pointer (some ⟨q, 0, none⟩)] w fun e w' => e = .returned (psV (Px.rdSlot p).1) ∧ PtIn w' q (Px.rdSlot p).2 ∧ w.grownBy w' (some q) := by
 obtain ⟨a, pa, ha⟩ : ∃ a q, Bx.numP 2 p = (a, q) := ⟨_, _, pr_eta _⟩
 obtain ⟨b, pb, hb⟩ : ∃ a q, Bx.numP 1 pa = (a, q) := ⟨_, _, pr_eta _⟩
 obtain ⟨c, pc, hc⟩ : ∃ a q, Bx.numP 5 pb = (a, q) := ⟨_, _, pr_eta _⟩
 obtain ⟨d, pd, hd⟩ : ∃ a q, Bx.numP 1 pc = (a, q) := ⟨_, _, pr_eta _⟩
 obtain ⟨e, pe, he⟩ : ∃ a q, Bx.numP 5 pd = (a, q) := ⟨_, _, pr_eta _⟩
 obtain ⟨f, pf, hf⟩ : ∃ a q, Bx.numP 1 pe = (a, q) := ⟨_, _, pr_eta _⟩
 have HE : Hid (Px.rdSlot p = (⟨a, b, c, d, e, if f = 1 then 1 else 0, 0, ByteArray.empty⟩, if f = 1 ∨ f = 0 then pf else ⟨pf.rest, true⟩)) := Px.rdSlot_eq ha hb hc hd he hf
 have sa := numP_size 2 p; have sb := numP_size 1 pa; have sc := numP_size 5 pb; have sd := numP_size 1 pc; have se := numP_size 5 pd
 rw [ha] at sa; rw [hb] at sb; rw [hc] at sc; rw [hd] at sd; rw [he] at se
 simp only at sa sb sc sd se
 have Ha : Hid (Bx.numP 2 p = (a, pa)) := ha
 have Hb : Hid (Bx.numP 1 pa = (b, pb)) := hb
 have Hc : Hid (Bx.numP 5 pb = (c, pc)) := hc
 have Hd : Hid (Bx.numP 1 pc = (d, pd)) := hd
 have He : Hid (Bx.numP 5 pd = (e, pe)) := he
 have Hf : Hid (Bx.numP 1 pe = (f, pf)) := hf
 clear ha hb hc hd he hf
 have hR : RS w ((w.alloc (.cells #[.int .i64 0, .int .i64 0, .int .i64 0, .int .i64 0, .int .i64 0, .int .i64 0, .int .i64 0, .string { data := #[] }] 154)).alloc (.cells #[.int .i64 0, .int .i64 0, .int .i64 0, .int .i64 0, .int .i64 0, .int .i64 0, .int .i64 0, .string { data := #[] }] 154)) q p Px.sl0 := by
  have b1 := below_alloc w (.cells #[.int .i64 0, .int .i64 0, .int .i64 0, .int .i64 0, .int .i64 0, .int .i64 0, .int .i64 0, .string { data := #[] }] 154)
  have b2 := below_alloc (w.alloc (.cells #[.int .i64 0, .int .i64 0, .int .i64 0, .int .i64 0, .int .i64 0, .int .i64 0, .int .i64 0, .string { data := #[] }] 154)) (.cells #[.int .i64 0, .int .i64 0, .int .i64 0, .int .i64 0, .int .i64 0, .int .i64 0, .int .i64 0, .string { data := #[] }] 154)
  have n1 : Cl (w.alloc (.cells #[.int .i64 0, .int .i64 0, .int .i64 0, .int .i64 0, .int .i64 0, .int .i64 0, .int .i64 0, .string { data := #[] }] 154)) w.heap.size 154 (psC Px.sl0) := Cl.new w (psC Px.sl0) 154
  have n2 := Cl.new (w.alloc (.cells #[.int .i64 0, .int .i64 0, .int .i64 0, .int .i64 0, .int .i64 0, .int .i64 0, .int .i64 0, .string { data := #[] }] 154)) (psC Px.sl0) 154
  have hz : (w.alloc (.cells #[.int .i64 0, .int .i64 0, .int .i64 0, .int .i64 0, .int .i64 0, .int .i64 0, .int .i64 0, .string { data := #[] }] 154)).heap.size = w.heap.size + 1 := by simp
  rw [hz] at n2
  exact ⟨(hp.later b1).later b2, n2, n1.later b2, grow_of_below (b1.trans (b2.mono b1.size)) _, hp.ty.lt⟩
 clear hp
 go_enter Tryz.func218, Tryz.ntmps218
 go_upto_region 2 with fail
 generalize (w.alloc (.cells #[.int .i64 0, .int .i64 0, .int .i64 0, .int .i64 0, .int .i64 0, .int .i64 0, .int .i64 0, .string { data := #[] }] 154)).alloc (.cells #[.int .i64 0, .int .i64 0, .int .i64 0, .int .i64 0, .int .i64 0, .int .i64 0, .int .i64 0, .string { data := #[] }] 154) = W at *
 have HR0 : Hid (RS w W q p Px.sl0) := hR
 clear hR
 go_wp2_with fail
 refine (pnumber_any p q 2 _ _ rfl (by decide) (by omega) HR0.out.p).mono ?_
 rintro ex w0 ⟨rfl, hp1, hg1⟩
 rw [Ha.out] at hp1 ⊢
 have hR1 := HR0.out.call hp1 hg1
 have r0 := hR1.x.c 0 _ rfl
 have t0 := hR1.x.f 0 (by simp [psC])
 have y0 := hR1.x.ty.lt
 have hT1 := hR1.put (⟨a, 0, 0, 0, 0, 0, 0, ByteArray.empty⟩ : Px.Sl) 0 (.int .i64 a) (by decide) rfl
 clear hp1 hg1 hR1 HR0
 go_upto_region 3 with fail
 clear r0 t0 y0
 generalize w0.setCell ⟨w.heap.size + 1, 0, none⟩ (.int .i64 a) = W1 at *
 have HR1 : Hid (RS w W1 q pa (⟨a, 0, 0, 0, 0, 0, 0, ByteArray.empty⟩ : Px.Sl)) := hT1
 clear hT1
 go_wp2_with fail
 refine (pnumber_any pa q 1 _ _ rfl (by decide) (by omega) HR1.out.p).mono ?_
 rintro ex w1 ⟨rfl, hp1, hg1⟩
 rw [Hb.out] at hp1 ⊢
 have hR2 := HR1.out.call hp1 hg1
 have r1 := hR2.x.c 1 _ rfl
 have t1 := hR2.x.f 1 (by simp [psC])
 have y1 := hR2.x.ty.lt
 have hT2 := hR2.put (⟨a, b, 0, 0, 0, 0, 0, ByteArray.empty⟩ : Px.Sl) 1 (.int .i64 b) (by decide) rfl
 clear hp1 hg1 hR2 HR1
 go_upto_region 4 with fail
 clear r1 t1 y1
 generalize w1.setCell ⟨w.heap.size + 1, 1, none⟩ (.int .i64 b) = W2 at *
 have HR2 : Hid (RS w W2 q pb (⟨a, b, 0, 0, 0, 0, 0, ByteArray.empty⟩ : Px.Sl)) := hT2
 clear hT2
 go_wp2_with fail
 refine (pnumber_any pb q 5 _ _ rfl (by decide) (by omega) HR2.out.p).mono ?_
 rintro ex w2 ⟨rfl, hp1, hg1⟩
 rw [Hc.out] at hp1 ⊢
 have hR3 := HR2.out.call hp1 hg1
 have r2 := hR3.x.c 2 _ rfl
 have t2 := hR3.x.f 2 (by simp [psC])
 have y2 := hR3.x.ty.lt
 have hT3 := hR3.put (⟨a, b, c, 0, 0, 0, 0, ByteArray.empty⟩ : Px.Sl) 2 (.int .i64 c) (by decide) rfl
 clear hp1 hg1 hR3 HR2
 go_upto_region 5 with fail
 clear r2 t2 y2
 generalize w2.setCell ⟨w.heap.size + 1, 2, none⟩ (.int .i64 c) = W3 at *
 have HR3 : Hid (RS w W3 q pc (⟨a, b, c, 0, 0, 0, 0, ByteArray.empty⟩ : Px.Sl)) := hT3
 clear hT3
 go_wp2_with fail
 refine (pnumber_any pc q 1 _ _ rfl (by decide) (by omega) HR3.out.p).mono ?_
 rintro ex w3 ⟨rfl, hp1, hg1⟩
 rw [Hd.out] at hp1 ⊢
 have hR4 := HR3.out.call hp1 hg1
 have r3 := hR4.x.c 3 _ rfl
 have t3 := hR4.x.f 3 (by simp [psC])
 have y3 := hR4.x.ty.lt
 have hT4 := hR4.put (⟨a, b, c, d, 0, 0, 0, ByteArray.empty⟩ : Px.Sl) 3 (.int .i64 d) (by decide) rfl
 clear hp1 hg1 hR4 HR3
 go_upto_region 6 with fail
 clear r3 t3 y3
 generalize w3.setCell ⟨w.heap.size + 1, 3, none⟩ (.int .i64 d) = W4 at *
 have HR4 : Hid (RS w W4 q pd (⟨a, b, c, d, 0, 0, 0, ByteArray.empty⟩ : Px.Sl)) := hT4
 clear hT4
 go_wp2_with fail
 refine (pnumber_any pd q 5 _ _ rfl (by decide) (by omega) HR4.out.p).mono ?_
 rintro ex w4 ⟨rfl, hp1, hg1⟩
 rw [He.out] at hp1 ⊢
 have hR5 := HR4.out.call hp1 hg1
 have r4 := hR5.x.c 4 _ rfl
 have t4 := hR5.x.f 4 (by simp [psC])
 have y4 := hR5.x.ty.lt
 have hT5 := hR5.put (⟨a, b, c, d, e, 0, 0, ByteArray.empty⟩ : Px.Sl) 4 (.int .i64 e) (by decide) rfl
 clear hp1 hg1 hR5 HR4
 go_upto_region 7 with fail
 clear r4 t4 y4
 generalize w4.setCell ⟨w.heap.size + 1, 4, none⟩ (.int .i64 e) = W5 at *
 have HR5 : Hid (RS w W5 q pe (⟨a, b, c, d, e, 0, 0, ByteArray.empty⟩ : Px.Sl)) := hT5
 clear hT5
 go_wp2_with fail
 refine (pnumber_any pe q 1 _ _ rfl (by decide) (by omega) HR5.out.p).mono ?_
 rintro ex w6 ⟨rfl, hp1, hg1⟩
 rw [Hf.out] at hp1 ⊢
 simp only at hp1
 have hR := HR5.out.call hp1 hg1
 clear hp1 hg1 HR5
 by_cases h1 : f = 1
 ·subst h1
  have HF : Hid (Px.rdSlot p = (⟨a, b, c, d, e, 1, 0, ByteArray.empty⟩, pf)) := by unfold Hid; rw [HE.out, if_pos rfl, if_pos (Or.inl rfl)]
  have hT := hR.put (⟨a, b, c, d, e, 1, 0, ByteArray.empty⟩ : Px.Sl) 5 (.int .i64 1) (by decide) rfl
  have r5 := hR.x.c 5 _ rfl
  have t5 := hR.x.f 5 (by simp [psC])
  have y5 := hR.x.ty.lt
  clear HE hR
  go_upto_region 12 with fail
  clear r5 t5 y5
  generalize w6.setCell ⟨w.heap.size + 1, 5, none⟩ (.int .i64 1) = W7 at *
  have HT : Hid (RS w W7 q pf ⟨a, b, c, d, e, 1, 0, ByteArray.empty⟩) := hT
  have x0 := hT.x.c 0 _ rfl; have x1 := hT.x.c 1 _ rfl; have x2 := hT.x.c 2 _ rfl; have x3 := hT.x.c 3 _ rfl; have x4 := hT.x.c 4 _ rfl; have x5 := hT.x.c 5 _ rfl; have x6 := hT.x.c 6 _ rfl; have x7 := hT.x.c 7 _ rfl
  have z0 := hT.z.c 0 _ rfl; have z1 := hT.z.c 1 _ rfl; have z2 := hT.z.c 2 _ rfl; have z3 := hT.z.c 3 _ rfl; have z4 := hT.z.c 4 _ rfl; have z5 := hT.z.c 5 _ rfl; have z6 := hT.z.c 6 _ rfl; have z7 := hT.z.c 7 _ rfl
  have f0 := hT.z.f 0 (by simp [psC]); have f1 := hT.z.f 1 (by simp [psC]); have f2 := hT.z.f 2 (by simp [psC]); have f3 := hT.z.f 3 (by simp [psC]); have f4 := hT.z.f 4 (by simp [psC]); have f5 := hT.z.f 5 (by simp [psC]); have f6 := hT.z.f 6 (by simp [psC]); have f7 := hT.z.f 7 (by simp [psC])
  have yz := hT.z.ty.lt
  have yx := hT.x.ty.lt
  clear hT
  go_wp2_with fail
  refine bodyPost_ret (v := psV ⟨a, b, c, d, e, 1, 0, ByteArray.empty⟩) (by simp [results, Tryz.results218, go_sem, z0, z1, z2, z3, z4, z5, z6, z7]) rfl ?_
  rw [HF.out]
  exact ⟨rfl, HT.out.p.far8 (by have := HT.out.q; omega) _ _ _ _ _ _ _ _, grow_new8 HT.out.g (Nat.le_refl _) _ _ _ _ _ _ _ _⟩
 ·by_cases h0 : f = 0
  ·subst h0
   have HF : Hid (Px.rdSlot p = (⟨a, b, c, d, e, 0, 0, ByteArray.empty⟩, pf)) := by unfold Hid; rw [HE.out, if_neg (by decide), if_pos (Or.inr rfl)]
   have hT := hR
   clear HE hR h1
   go_upto_region 12 with fail
   generalize w6 = W7 at *
   have HT : Hid (RS w W7 q pf ⟨a, b, c, d, e, 0, 0, ByteArray.empty⟩) := hT
   have x0 := hT.x.c 0 _ rfl; have x1 := hT.x.c 1 _ rfl; have x2 := hT.x.c 2 _ rfl; have x3 := hT.x.c 3 _ rfl; have x4 := hT.x.c 4 _ rfl; have x5 := hT.x.c 5 _ rfl; have x6 := hT.x.c 6 _ rfl; have x7 := hT.x.c 7 _ rfl
   have z0 := hT.z.c 0 _ rfl; have z1 := hT.z.c 1 _ rfl; have z2 := hT.z.c 2 _ rfl; have z3 := hT.z.c 3 _ rfl; have z4 := hT.z.c 4 _ rfl; have z5 := hT.z.c 5 _ rfl; have z6 := hT.z.c 6 _ rfl; have z7 := hT.z.c 7 _ rfl
   have f0 := hT.z.f 0 (by simp [psC]); have f1 := hT.z.f 1 (by simp [psC]); have f2 := hT.z.f 2 (by simp [psC]); have f3 := hT.z.f 3 (by simp [psC]); have f4 := hT.z.f 4 (by simp [psC]); have f5 := hT.z.f 5 (by simp [psC]); have f6 := hT.z.f 6 (by simp [psC]); have f7 := hT.z.f 7 (by simp [psC])
   have yz := hT.z.ty.lt
   have yx := hT.x.ty.lt
   clear hT
   go_wp2_with fail
   refine bodyPost_ret (v := psV ⟨a, b, c, d, e, 0, 0, ByteArray.empty⟩) (by simp [results, Tryz.results218, go_sem, z0, z1, z2, z3, z4, z5, z6, z7]) rfl ?_
   rw [HF.out]
   exact ⟨rfl, HT.out.p.far8 (by have := HT.out.q; omega) _ _ _ _ _ _ _ _, grow_new8 HT.out.g (Nat.le_refl _) _ _ _ _ _ _ _ _⟩
  ·have HF : Hid (Px.rdSlot p = (⟨a, b, c, d, e, 0, 0, ByteArray.empty⟩, ⟨pf.rest, true⟩)) := by unfold Hid; rw [HE.out, if_neg h1, if_neg (by omega)]
   have hT : RS w (w6.setCell ⟨q, 1, none⟩ (.bool true)) q ⟨pf.rest, true⟩ ⟨a, b, c, d, e, 0, 0, ByteArray.empty⟩ := ⟨hR.p.set 1 (by simp) _, hR.x.far (by have := hR.q; omega) _ _, hR.z.far (by have := hR.q; omega) _ _, grow_set hR.g _ _, hR.q⟩
   have r5 := hR.p.c1
   have t5 := hR.p.f1
   have y5 := hR.p.ty.lt
   clear HE hR
   go_upto_region 12 with fail
   clear r5 t5 y5 h1 h0
   generalize w6.setCell ⟨q, 1, none⟩ (.bool true) = W7 at *
   have HT : Hid (RS w W7 q ⟨pf.rest, true⟩ ⟨a, b, c, d, e, 0, 0, ByteArray.empty⟩) := hT
   have x0 := hT.x.c 0 _ rfl; have x1 := hT.x.c 1 _ rfl; have x2 := hT.x.c 2 _ rfl; have x3 := hT.x.c 3 _ rfl; have x4 := hT.x.c 4 _ rfl; have x5 := hT.x.c 5 _ rfl; have x6 := hT.x.c 6 _ rfl; have x7 := hT.x.c 7 _ rfl
   have z0 := hT.z.c 0 _ rfl; have z1 := hT.z.c 1 _ rfl; have z2 := hT.z.c 2 _ rfl; have z3 := hT.z.c 3 _ rfl; have z4 := hT.z.c 4 _ rfl; have z5 := hT.z.c 5 _ rfl; have z6 := hT.z.c 6 _ rfl; have z7 := hT.z.c 7 _ rfl
   have f0 := hT.z.f 0 (by simp [psC]); have f1 := hT.z.f 1 (by simp [psC]); have f2 := hT.z.f 2 (by simp [psC]); have f3 := hT.z.f 3 (by simp [psC]); have f4 := hT.z.f 4 (by simp [psC]); have f5 := hT.z.f 5 (by simp [psC]); have f6 := hT.z.f 6 (by simp [psC]); have f7 := hT.z.f 7 (by simp [psC])
   have yz := hT.z.ty.lt
   have yx := hT.x.ty.lt
   clear hT
   go_wp2_with fail
   refine bodyPost_ret (v := psV ⟨a, b, c, d, e, 0, 0, ByteArray.empty⟩) (by simp [results, Tryz.results218, go_sem, z0, z1, z2, z3, z4, z5, z6, z7]) rfl ?_
   rw [HF.out]
   exact ⟨rfl, HT.out.p.far8 (by have := HT.out.q; omega) _ _ _ _ _ _ _ _, grow_new8 HT.out.g (Nat.le_refl _) _ _ _ _ _ _ _ _⟩
end Go.Proofs.YtdajolpoiffimaaGreatDoor

namespace Go.Proofs.YtdajolpoiffimaaGreatDoor
open Go.RowKit

theorem own_grow {w w' : World} {base size n q : Nat} {e : TypeId} {v : Value} {xs : List Value} (h : w.grownBy w' (some q)) (hq : q < base) (ho : w.ownsRow base e size v n xs) : w'.ownsRow base e size v n xs := by
 refine ⟨ho.1, ?_⟩
 rcases ho.2 with h2 | ⟨g, cap, cur, hv, hbase, hg, h3⟩
 ·exact Or.inl h2
 ·refine Or.inr ⟨g, cap, cur, hv, hbase, ?_, h3⟩
  rw [h.block g (heap_lt hg) (fun e => by cases e; omega)]; exact hg
theorem grow_alloc {w w1 : World} {r : Option Nat} (h : w.grownBy w1 r) (o : Obj) : w.grownBy (w1.alloc o) r := grow_trans h (grow_of_below (below_alloc w1 o) r)
/-- A row that is grown, of blocks that are newer than some. -/
theorem grow_row {w w1 w2 : World} {r rv : Option Nat} (h : w.grownBy w1 r) (hg : w1.grownBy w2 rv) (hl : ∀ k, rv = some k → w.heap.size ≤ k) : w.grownBy w2 r :=
 ⟨hg.os.trans h.os, hg.tape.trans h.tape, hg.output.trans h.output, Nat.le_trans h.size hg.size, fun k hk hn => (hg.block k (Nat.lt_of_lt_of_le hk h.size) (fun e => by have := hl k e.symm; omega)).trans (h.block k hk hn)⟩
theorem Cl.grow' {W W' : World} {q : Nat} {r : Option Nat} {t : TypeId} {cs : List Value} (h : Cl W q t cs) (hb : W.grownBy W' r) (hne : ¬ some q = r) : Cl W' q t cs := by
 have e := hb.block q h.ty.lt hne
 refine ⟨fun j v hj => ?_, fun j hj => ?_, ?_⟩
 ·rw [World.cell?_of_block (a := ⟨q, j, none⟩) e]; exact h.c j v hj
 ·rw [World.frozen?_of_block (a := ⟨q, j, none⟩) e]; exact h.f j hj
 ·obtain ⟨cur, fr, hc⟩ := h.ty; exact ⟨cur, fr, e.trans hc⟩
/-- So many slots are read. -/
structure RdI (w wr : World) (q : Nat) (p p' : Bx.PS) (v : Value) (e : TypeId) (sz : Nat) (n : Nat) (cs : List Value) : Prop where
 pt : PtIn wr q p'
 ow : wr.ownsRow w.heap.size e sz v n cs
 gr : w.grownBy wr (some q)
 lt : q < w.heap.size
 le : p'.rest.size ≤ p.rest.size
theorem rdSlot_size (p : Bx.PS) : (Px.rdSlot p).2.rest.size ≤ p.rest.size := by
 obtain ⟨a, pa, ha⟩ : ∃ a q, Bx.numP 2 p = (a, q) := ⟨_, _, pr_eta _⟩
 obtain ⟨b, pb, hb⟩ : ∃ a q, Bx.numP 1 pa = (a, q) := ⟨_, _, pr_eta _⟩
 obtain ⟨c, pc, hc⟩ : ∃ a q, Bx.numP 5 pb = (a, q) := ⟨_, _, pr_eta _⟩
 obtain ⟨d, pd, hd⟩ : ∃ a q, Bx.numP 1 pc = (a, q) := ⟨_, _, pr_eta _⟩
 obtain ⟨e, pe, he⟩ : ∃ a q, Bx.numP 5 pd = (a, q) := ⟨_, _, pr_eta _⟩
 obtain ⟨f, pf, hf⟩ : ∃ a q, Bx.numP 1 pe = (a, q) := ⟨_, _, pr_eta _⟩
 have sa := numP_size 2 p; have sb := numP_size 1 pa; have sc := numP_size 5 pb; have sd := numP_size 1 pc; have se := numP_size 5 pd; have sf := numP_size 1 pe
 rw [ha] at sa; rw [hb] at sb; rw [hc] at sc; rw [hd] at sd; rw [he] at se; rw [hf] at sf
 rw [Px.rdSlot_eq ha hb hc hd he hf]
 simp only at sa sb sc sd se sf ⊢
 split
 ·omega
 ·show pf.rest.size ≤ p.rest.size; omega

set_option maxRecDepth 10000 in
set_option maxHeartbeats 2000000 in
theorem preadSlots_any (p : Bx.PS) (q : Nat) (w : World) (hs : p.rest.size ≤ 100000) (hp : PtIn w q p) :
 Calls Tryz.prog 201 #[.pointer (some ⟨q, 0, none⟩)] w fun e w' => (∃ v, e = .returned v ∧ w'.ownsRow w.heap.size 154 8 v (Px.rdSlots p).1.length ((Px.rdSlots p).1.flatMap psC)) ∧ PtIn w' q (Px.rdSlots p).2 ∧ w.grownBy w' (some q) := by
 obtain ⟨i0, hi, hz0, hz1, hz2⟩ := info_parts info_ps
 have HP : Hid (PtIn w q p) := hp
 have hq := hp.ty.lt
 clear hp
 go_enter Tryz.func201, Tryz.ntmps201
 go_wp2_with fail
 refine (pnumber_any p q 1 _ _ rfl (by decide) hs HP.out).mono ?_
 rintro ex w1 ⟨rfl, hp1, hg1⟩
 have HE : Hid (Px.rdSlots p = Px.rdSlotsK (Bx.numP 1 p).1.toNat (Bx.numP 1 p).2) := rfl
 have hb1 := Bx.numP_bd 1 p
 have hb2 := Bx.numP_lt 1 p
 have hsz := numP_size 1 p
 generalize (Bx.numP 1 p).2 = p1 at *
 generalize (Bx.numP 1 p).1 = m at *
 obtain ⟨n, rfl⟩ : ∃ n : Nat, m = n := ⟨m.toNat, by omega⟩
 have hn : n ≤ 255 := by simp at hb2; omega
 rw [Int.toNat_natCast] at HE
 have HI : Hid (RdI w (w1.alloc (.cells #[] 154)) q p p1 (.slice (some ⟨w1.heap.size, 0, none⟩) 0 0) 154 8 0 []) :=
  ⟨hp1.later (below_alloc _ _), own_mono' (own_empty w1 154 8) hg1.size, grow_alloc hg1 _, hq, hsz⟩
 clear hp1 hg1 HP hb1 hb2
 go_wp2_with fail
 go_loopw [4, 5] (fun v i wr => ∃ (k : Nat) (p' : Bx.PS) (L : List Px.Sl), k ≤ n ∧ i = .int .i64 k ∧ RdI w wr q p p' v 154 8 L.length (L.flatMap psC) ∧ L.length = k ∧ Px.rdSlots p = (L ++ (Px.rdSlotsK (n - k) p').1, (Px.rdSlotsK (n - k) p').2)) (fun _ i _ => n - (intOf i).toNat)
 case atStart => exact ⟨0, p1, [], Nat.zero_le _, rfl, HI.out, rfl, by rw [HE.out]; simp⟩
 case round =>
  obtain ⟨k, p', L, hk, rfl, hI, hLk, hE⟩ := hrel
  have HE2 : Hid (Px.rdSlots p = (L ++ (Px.rdSlotsK (n - k) p').1, (Px.rdSlotsK (n - k) p').2)) := hE
  have HI2 : Hid (RdI w wr q p p' _ 154 8 L.length (L.flatMap psC)) := hI
  have HLk : Hid (L.length = k) := hLk
  have c1 := hI.pt.c1
  have hql := hI.pt.ty.lt
  have hps := hI.le
  have hLb : L.length ≤ 255 := by omega
  clear hE hI hLk
  by_cases hlt : k < n
  ·cases hw : p'.wrong
   ·rw [hw] at c1
    have HN : Hid (Px.rdSlots p = (L ++ [(Px.rdSlot p').1] ++ (Px.rdSlotsK (n - (k + 1)) (Px.rdSlot p').2).1, (Px.rdSlotsK (n - (k + 1)) (Px.rdSlot p').2).2)) := by
     unfold Hid
     rw [HE2.out, show n - k = (n - (k + 1)) + 1 by omega, Px.rdSlotsK, if_neg (by rw [hw]; simp)]
     simp
    have hsl := rdSlot_size p'
    clear hw
    go_wp2_with fail
    refine (preadSlot_any p' q _ (by omega) HI2.out.pt).mono ?_
    rintro ex w2 ⟨rfl, hp2, hg2⟩
    generalize (Px.rdSlot p').2 = p2 at *
    generalize (Px.rdSlot p').1 = x at *
    have ho2 := own_grow hg2 HI2.out.lt HI2.out.ow
    have hG2 := grow_trans HI2.out.gr hg2
    have hI3 : PsIn (w2.alloc (psO x)) w2.heap.size x := PsIn.new w2 x
    have ho3 := ho2.alloc (psO x)
    have hp3 := hp2.later (below_alloc w2 (psO x))
    have hG3 := grow_alloc hG2 (psO x)
    clear hp2 hg2 ho2 hG2 c1
    go_upto_region 7 with fail
    generalize w2.alloc (psO x) = W3 at *
    generalize w2.heap.size = xq at *
    have HP3 : Hid (PtIn W3 q p2) := hp3
    have HG3 : Hid (w.grownBy W3 (some q)) := hG3
    obtain ⟨x0, x1, x2, x3, x4, x5, x6, x7⟩ := hI3
    have HS2 : Hid (p2.rest.size ≤ p.rest.size) := by unfold Hid; omega
    have hq3 := hG3.size
    clear hp3 hG3 HE2 HI2
    go_wp2_with (at_builtin; refine wpList_append_lies _ rfl (.tmp 24) (.tmp 26) 62 rfl w.heap.size 154 i0 (.agg #[.int .i64 0, .int .i64 0, .int .i64 0, .int .i64 0, .int .i64 0, .int .i64 0, .int .i64 0, .string ByteArray.empty]) 8 72 Tryz.underlying62 hi hz0 hz1 hz2 rfl (by decide) _ _ _ rfl (ho3.alloc _) ⟨W3.heap.size, 0, none⟩ 1 1 (psC x) rfl rfl (psC_new _ _ _) (psC_one x) (by decide) ?c3 ?c4 ?c5 _ rfl ?_)
    case c3 => unfold maxLen; omega
    case c4 => omega
    case c5 => simp; omega
    ·intro g cap1 w4 hown' hgrow _ hlt'
     have hlo := fun k' e => (ho3.lt k' e).1
     have HI4 : Hid (RdI w w4 q p p2 (.slice (some ⟨g, 0, none⟩) (L.length + 1) cap1) 154 8 (L ++ [x]).length ((L ++ [x]).flatMap psC)) :=
      ⟨(HP3.out.later (below_alloc _ _)).grow' hgrow (fun e => by have := hlo q e.symm; omega), by simpa using hown', grow_row (grow_alloc HG3.out _) hgrow hlo, hq, HS2.out⟩
     clear hown' hgrow ho3 x0 x1 x2 x3 x4 x5 x6 x7
     go_wp2_with fail
     go_roundw
     case rel => exact ⟨k + 1, p2, L ++ [x], by omega, by go_num, HI4.out, by simp [HLk.out], HN.out⟩
     case measure => simp [intOf]; omega
   ·rw [hw] at c1
    have HF : Hid (Px.rdSlots p = (L, p')) := by
     unfold Hid
     rw [HE2.out, show n - k = (n - (k + 1)) + 1 by omega, Px.rdSlotsK, if_pos hw]
     simp
    clear hw
    go_wp2_with fail
    go_ret
    rw [HF.out]
    exact ⟨⟨_, rfl, HI2.out.ow⟩, HI2.out.pt, HI2.out.gr⟩
  ·have HF : Hid (Px.rdSlots p = (L, p')) := by
    unfold Hid
    rw [HE2.out, show n - k = 0 by omega, Px.rdSlotsK]
    simp
   go_wp2_with fail
   go_ret
   rw [HF.out]
   exact ⟨⟨_, rfl, HI2.out.ow⟩, HI2.out.pt, HI2.out.gr⟩

theorem rdEnd_eq (p : Bx.PS) : Px.rdEnd p = (⟨(Bx.numP 2 p).1, (Bx.txtP 1 (Bx.numP 2 p).2).1⟩, (Bx.txtP 1 (Bx.numP 2 p).2).2) := rfl
set_option maxRecDepth 10000 in
set_option maxHeartbeats 2000000 in
theorem preadEnds_any (p : Bx.PS) (q : Nat) (w : World) (hs : p.rest.size ≤ 100000) (hp : PtIn w q p) :
 Calls Tryz.prog 202 #[.pointer (some ⟨q, 0, none⟩)] w fun e w' => (∃ v, e = .returned v ∧ w'.ownsRow w.heap.size 95 2 v (Px.rdEnds p).1.length ((Px.rdEnds p).1.flatMap enC)) ∧ PtIn w' q (Px.rdEnds p).2 ∧ w.grownBy w' (some q) := by
 obtain ⟨i0, hi, hz0, hz1, hz2⟩ := info_parts info_en
 have HP : Hid (PtIn w q p) := hp
 have hq := hp.ty.lt
 clear hp
 go_enter Tryz.func202, Tryz.ntmps202
 go_wp2_with fail
 refine (pnumber_any p q 1 _ _ rfl (by decide) hs HP.out).mono ?_
 rintro ex w1 ⟨rfl, hp1, hg1⟩
 have HE : Hid (Px.rdEnds p = Px.rdEndsK (Bx.numP 1 p).1.toNat (Bx.numP 1 p).2) := rfl
 have hb1 := Bx.numP_bd 1 p
 have hb2 := Bx.numP_lt 1 p
 have hsz := numP_size 1 p
 generalize (Bx.numP 1 p).2 = p1 at *
 generalize (Bx.numP 1 p).1 = m at *
 obtain ⟨n, rfl⟩ : ∃ n : Nat, m = n := ⟨m.toNat, by omega⟩
 have hn : n ≤ 255 := by simp at hb2; omega
 rw [Int.toNat_natCast] at HE
 have HI : Hid (RdI w (w1.alloc (.cells #[] 95)) q p p1 (.slice (some ⟨w1.heap.size, 0, none⟩) 0 0) 95 2 0 []) :=
  ⟨hp1.later (below_alloc _ _), own_mono' (own_empty w1 95 2) hg1.size, grow_alloc hg1 _, hq, hsz⟩
 clear hp1 hg1 HP hb1 hb2
 go_wp2_with fail
 go_loopw [4, 5] (fun v i wr => ∃ (k : Nat) (p' : Bx.PS) (L : List Bx.En), k ≤ n ∧ i = .int .i64 k ∧ RdI w wr q p p' v 95 2 L.length (L.flatMap enC) ∧ L.length = k ∧ Px.rdEnds p = (L ++ (Px.rdEndsK (n - k) p').1, (Px.rdEndsK (n - k) p').2)) (fun _ i _ => n - (intOf i).toNat)
 case atStart => exact ⟨0, p1, [], Nat.zero_le _, rfl, HI.out, rfl, by rw [HE.out]; simp⟩
 case round =>
  obtain ⟨k, p', L, hk, rfl, hI, hLk, hE⟩ := hrel
  have HE2 : Hid (Px.rdEnds p = (L ++ (Px.rdEndsK (n - k) p').1, (Px.rdEndsK (n - k) p').2)) := hE
  have HI2 : Hid (RdI w wr q p p' _ 95 2 L.length (L.flatMap enC)) := hI
  have HLk : Hid (L.length = k) := hLk
  have c1 := hI.pt.c1
  have hql := hI.pt.ty.lt
  have hps := hI.le
  have hLb : L.length ≤ 255 := by omega
  clear hE hI hLk
  by_cases hlt : k < n
  ·cases hw : p'.wrong
   ·rw [hw] at c1
    have HN : Hid (Px.rdEnds p = (L ++ [(⟨(Bx.numP 2 p').1, (Bx.txtP 1 (Bx.numP 2 p').2).1⟩ : Bx.En)] ++ (Px.rdEndsK (n - (k + 1)) (Bx.txtP 1 (Bx.numP 2 p').2).2).1, (Px.rdEndsK (n - (k + 1)) (Bx.txtP 1 (Bx.numP 2 p').2).2).2)) := by
     unfold Hid
     rw [HE2.out, show n - k = (n - (k + 1)) + 1 by omega, Px.rdEndsK, if_neg (by rw [hw]; simp), rdEnd_eq]
     simp
    have hsl := numP_size 2 p'
    have hsl2 := txtP_size 1 (Bx.numP 2 p').2
    clear hw
    go_wp2_with fail
    refine (pnumber_any p' q 2 _ _ rfl (by decide) (by omega) HI2.out.pt).mono ?_
    rintro ex w2 ⟨rfl, hp2, hg2⟩
    generalize (Bx.numP 2 p').2 = p2 at *
    generalize (Bx.numP 2 p').1 = nm at *
    have HP2 : Hid (PtIn w2 q p2) := hp2
    have HO2 : Hid (w2.ownsRow w.heap.size 95 2 _ L.length (L.flatMap enC)) := own_grow hg2 HI2.out.lt HI2.out.ow
    have HG2 : Hid (w.grownBy w2 (some q)) := grow_trans HI2.out.gr hg2
    clear hp2 hg2 c1
    go_wp2_with fail
    refine (ptext_any p2 q 1 _ (by omega) HP2.out).mono ?_
    rintro ex w3 ⟨rfl, hp3, hg3⟩
    generalize (Bx.txtP 1 p2).2 = p3 at *
    generalize (Bx.txtP 1 p2).1 = how at *
    have ho3 := own_grow hg3 HI2.out.lt HO2.out
    have HP3 : Hid (PtIn w3 q p3) := hp3
    have HG3 : Hid (w.grownBy w3 (some q)) := grow_trans HG2.out hg3
    have HS2 : Hid (p3.rest.size ≤ p.rest.size) := by unfold Hid; omega
    have hq3 := HG3.out.size
    clear hp3 hg3 HE2 HI2 HO2
    go_wp2_with (at_builtin; refine wpList_append_lies _ rfl (.tmp 27) (.tmp 31) 63 rfl w.heap.size 95 i0 (.agg #[.int .i64 0, .string ByteArray.empty]) 2 24 Tryz.underlying63 hi hz0 hz1 hz2 rfl (by decide) _ _ _ rfl (ho3.alloc _) ⟨w3.heap.size, 0, none⟩ 1 1 (enC ⟨nm, how⟩) rfl rfl (enC_new' _ _ _) (enC_one' _) (by decide) ?c3 ?c4 ?c5 _ rfl ?_)
    case c3 => unfold maxLen; omega
    case c4 => omega
    case c5 => simp; omega
    ·intro g cap1 w4 hown' hgrow _ hlt'
     have hlo := fun k' e => (ho3.lt k' e).1
     have HI4 : Hid (RdI w w4 q p p3 (.slice (some ⟨g, 0, none⟩) (L.length + 1) cap1) 95 2 (L ++ [(⟨nm, how⟩ : Bx.En)]).length ((L ++ [(⟨nm, how⟩ : Bx.En)]).flatMap enC)) :=
      ⟨(HP3.out.later (below_alloc _ _)).grow' hgrow (fun e => by have := hlo q e.symm; omega), by simpa using hown', grow_row (grow_alloc HG3.out _) hgrow hlo, hq, HS2.out⟩
     clear hown' hgrow ho3
     go_wp2_with fail
     go_roundw
     case rel => exact ⟨k + 1, p3, L ++ [(⟨nm, how⟩ : Bx.En)], by omega, by go_num, HI4.out, by simp [HLk.out], HN.out⟩
     case measure => simp [intOf]; omega
   ·rw [hw] at c1
    have HF : Hid (Px.rdEnds p = (L, p')) := by
     unfold Hid
     rw [HE2.out, show n - k = (n - (k + 1)) + 1 by omega, Px.rdEndsK, if_pos hw]
     simp
    clear hw
    go_wp2_with fail
    go_ret
    rw [HF.out]
    exact ⟨⟨_, rfl, HI2.out.ow⟩, HI2.out.pt, HI2.out.gr⟩
  ·have HF : Hid (Px.rdEnds p = (L, p')) := by
    unfold Hid
    rw [HE2.out, show n - k = 0 by omega, Px.rdEndsK]
    simp
   go_wp2_with fail
   go_ret
   rw [HF.out]
   exact ⟨⟨_, rfl, HI2.out.ow⟩, HI2.out.pt, HI2.out.gr⟩
end Go.Proofs.YtdajolpoiffimaaGreatDoor

namespace Go.Proofs.YtdajolpoiffimaaGreatDoor
open Go.RowKit

theorem rdSlots_size (p : Bx.PS) : (Px.rdSlots p).2.rest.size ≤ p.rest.size := by
 have : ∀ k p, (Px.rdSlotsK k p).2.rest.size ≤ p.rest.size := by
  intro k
  induction k with
  | zero => intro p; exact Nat.le_refl _
  | succ k ih =>
    intro p
    rw [Px.rdSlotsK]; split
    ·exact Nat.le_refl _
    ·exact Nat.le_trans (ih _) (rdSlot_size p)
 exact Nat.le_trans (this _ _) (numP_size 1 p)
theorem TRow.grow' {w w' : World} {e : TypeId} {v : Value} {n q : Nat} {cs : List Value} {t : TypeId} (h : TRow w e v n cs) (hg : w.grownBy w' (some q)) (ht : Typed w q t) (hne : e ≠ t) : TRow w' e v n cs := by
 have far : ∀ b off m cap, v = .slice (some ⟨b, off, none⟩) m cap → ¬ some b = some q := fun b off m cap hv e' => by
  cases e'
  obtain ⟨c1, f1, h1⟩ := h.2 _ off m cap hv
  obtain ⟨c2, f2, h2⟩ := ht
  rw [h1] at h2; cases h2; exact hne rfl
 refine ⟨?_, fun b off m cap hv => ?_⟩
 ·rcases h.1 with a | ⟨b, off, cap, hv, hle, hc⟩
  ·exact Or.inl a
  ·exact Or.inr ⟨b, off, cap, hv, hle, fun j hj => by
    have hl : b < w.heap.size := World.block_lt_of_cell? _ _ (hc j hj)
    rw [World.cell?_of_block (a := ⟨b, off + j, none⟩) (hg.block b hl (far b off n cap hv))]; exact hc j hj⟩
 ·obtain ⟨c1, f1, h1⟩ := h.2 b off m cap hv
  exact ⟨c1, f1, (hg.block b (heap_lt h1) (far b off m cap hv)).trans h1⟩
theorem grow_new5 {w w1 : World} {r : Option Nat} (h : w.grownBy w1 r) {g : Nat} (hg : w.heap.size ≤ g) (u0 u1 u2 u3 u4 : Value) : w.grownBy (((((w1.setCell ⟨g, 0, none⟩ u0).setCell ⟨g, 1, none⟩ u1).setCell ⟨g, 2, none⟩ u2).setCell ⟨g, 3, none⟩ u3).setCell ⟨g, 4, none⟩ u4) r :=
 grow_new (grow_new (grow_new (grow_new (grow_new h hg _ _) hg _ _) hg _ _) hg _ _) hg _ _
theorem Cl.far5 {w1 : World} {q g : Nat} {t : TypeId} {cs : List Value} (h : Cl w1 q t cs) (hn : q ≠ g) (u0 u1 u2 u3 u4 : Value) : Cl (((((w1.setCell ⟨g, 0, none⟩ u0).setCell ⟨g, 1, none⟩ u1).setCell ⟨g, 2, none⟩ u2).setCell ⟨g, 3, none⟩ u3).setCell ⟨g, 4, none⟩ u4) q t cs :=
 ((((h.far hn _ _).far hn _ _).far hn _ _).far hn _ _).far hn _ _
/-- Where readState is. -/
structure RZ (w W : World) (q : Nat) (p : Bx.PS) : Prop where
 p : PtIn W q p
 z : Cl W w.heap.size 65 [.string { data := #[] }, .int .i64 0, .int .i64 0, .slice none 0 0, .slice none 0 0]
 g : w.grownBy W (some q)
 q : q < w.heap.size
theorem RZ.call {w W W' : World} {q : Nat} {p p' : Bx.PS} (h : RZ w W q p) (hp : PtIn W' q p') (hg : W.grownBy W' (some q)) : RZ w W' q p' :=
 ⟨hp, h.z.grow hg (by have := h.q; omega), grow_trans h.g hg, h.q⟩
set_option maxRecDepth 10000 in
set_option maxHeartbeats 2000000 in
theorem preadState_any (p : Bx.PS) (q : Nat) (w : World) (hs : p.rest.size ≤ 100000) (hp : PtIn w q p) :
 Calls Tryz.prog 177 #[.pointer (some ⟨q, 0, none⟩)] w fun e w' => (∃ sl en, e = .returned (pstV (Px.rdState p).1 sl en) ∧ PAt w' (Px.rdState p).1 sl en) ∧ PtIn w' q (Px.rdState p).2 ∧ w.grownBy w' (some q) := by
 obtain ⟨c, pc, hc⟩ : ∃ a q, Bx.numP 5 p = (a, q) := ⟨_, _, pr_eta _⟩
 obtain ⟨n, pn, hn⟩ : ∃ a q, Bx.numP 2 pc = (a, q) := ⟨_, _, pr_eta _⟩
 obtain ⟨l, pl, hl⟩ : ∃ a q, Bx.numP 2 pn = (a, q) := ⟨_, _, pr_eta _⟩
 obtain ⟨t, pt, ht⟩ : ∃ a q, Bx.txtP l pl = (a, q) := ⟨_, _, pr_eta _⟩
 obtain ⟨sl, ps, hsl⟩ : ∃ a q, Px.rdSlots pt = (a, q) := ⟨_, _, pr_eta _⟩
 obtain ⟨en, pe, hen⟩ : ∃ a q, Px.rdEnds ps = (a, q) := ⟨_, _, pr_eta _⟩
 have HE : Hid (Px.rdState p = (⟨t, c - 1, n, sl, en⟩, pe)) := Px.rdState_eq hc hn hl ht hsl hen
 have sa := numP_size 5 p; have sb := numP_size 2 pc; have sc := numP_size 2 pn; have sd := txtP_size l pl; have se := rdSlots_size pt
 have c1 := Bx.numP_bd 5 p; have c2 := Bx.numP_lt 5 p
 rw [hc] at sa c1 c2; rw [hn] at sb; rw [hl] at sc; rw [ht] at sd; rw [hsl] at se
 simp only at sa sb sc sd se c1 c2
 have c3 : c < 1099511627776 := by simpa using c2
 have Hc : Hid (Bx.numP 5 p = (c, pc)) := hc
 have Hn : Hid (Bx.numP 2 pc = (n, pn)) := hn
 have Hl : Hid (Bx.numP 2 pn = (l, pl)) := hl
 have Ht : Hid (Bx.txtP l pl = (t, pt)) := ht
 have Hs : Hid (Px.rdSlots pt = (sl, ps)) := hsl
 have He : Hid (Px.rdEnds ps = (en, pe)) := hen
 clear hc hn hl ht hsl hen c2
 have hR : RZ w (w.alloc (.cells #[.string { data := #[] }, .int .i64 0, .int .i64 0, .slice none 0 0, .slice none 0 0] 65)) q p := by
  have b1 := below_alloc w (.cells #[.string { data := #[] }, .int .i64 0, .int .i64 0, .slice none 0 0, .slice none 0 0] 65)
  exact ⟨hp.later b1, Cl.new w [.string { data := #[] }, .int .i64 0, .int .i64 0, .slice none 0 0, .slice none 0 0] 65, grow_of_below b1 _, hp.ty.lt⟩
 clear hp
 go_enter Tryz.func177, Tryz.ntmps177
 go_upto_region 1 with fail
 generalize w.alloc (.cells #[.string { data := #[] }, .int .i64 0, .int .i64 0, .slice none 0 0, .slice none 0 0] 65) = W at *
 have HR0 : Hid (RZ w W q p) := hR
 clear hR
 go_wp2_with fail
 refine (pnumber_any p q 5 _ _ rfl (by decide) (by omega) HR0.out.p).mono ?_
 rintro ex w1 ⟨rfl, hp1, hg1⟩
 rw [Hc.out] at hp1 ⊢
 simp only at hp1
 have HR1 : Hid (RZ w w1 q pc) := HR0.out.call hp1 hg1
 clear hp1 hg1 HR0
 go_wp2_with fail
 refine (pnumber_any pc q 2 _ _ rfl (by decide) (by omega) HR1.out.p).mono ?_
 rintro ex w2 ⟨rfl, hp1, hg1⟩
 rw [Hn.out] at hp1 ⊢
 simp only at hp1
 have HR2 : Hid (RZ w w2 q pn) := HR1.out.call hp1 hg1
 clear hp1 hg1 HR1
 go_wp2_with fail
 refine (pnumber_any pn q 2 _ _ rfl (by decide) (by omega) HR2.out.p).mono ?_
 rintro ex w3 ⟨rfl, hp1, hg1⟩
 rw [Hl.out] at hp1 ⊢
 simp only at hp1
 have HR3 : Hid (RZ w w3 q pl) := HR2.out.call hp1 hg1
 clear hp1 hg1 HR2
 go_wp2_with fail
 refine (ptext_any pl q l _ (by omega) HR3.out.p).mono ?_
 rintro ex w4 ⟨rfl, hp1, hg1⟩
 rw [Ht.out] at hp1 ⊢
 simp only at hp1
 have HR4 : Hid (RZ w w4 q pt) := HR3.out.call hp1 hg1
 clear hp1 hg1 HR3
 go_wp2_with fail
 refine (preadSlots_any pt q _ (by omega) HR4.out.p).mono ?_
 rintro ex w5 ⟨⟨v5, rfl, ho5⟩, hp1, hg1⟩
 rw [Hs.out] at hp1 ho5
 simp only at hp1 ho5
 have HR5 : Hid (RZ w w5 q ps) := HR4.out.call hp1 hg1
 have hT5 := TRow.of_own ho5
 obtain ⟨ad5, cap5, hv5, _⟩ := hT5.form
 subst hv5
 have HT5 : Hid (TRow w5 154 (.slice ad5 sl.length cap5) sl.length (sl.flatMap psC)) := hT5
 clear hp1 hg1 HR4 ho5 hT5
 go_wp2_with fail
 refine (preadEnds_any ps q _ (by omega) HR5.out.p).mono ?_
 rintro ex w6 ⟨⟨v6, rfl, ho6⟩, hp1, hg1⟩
 rw [He.out] at hp1 ho6
 simp only at hp1 ho6
 have HR6 : Hid (RZ w w6 q pe) := HR5.out.call hp1 hg1
 have hT6 := TRow.of_own ho6
 obtain ⟨ad6, cap6, hv6, _⟩ := hT6.form
 subst hv6
 have HT6 : Hid (PAt w6 ⟨t, c - 1, n, sl, en⟩ (.slice ad5 sl.length cap5) (.slice ad6 en.length cap6)) := ⟨HT5.out.grow' hg1 HR5.out.p.ty (by decide), hT6⟩
 clear hp1 hg1 HR5 ho6 hT6 HT5
 have z0 := HR6.out.z.c 0 _ rfl; have z1 := HR6.out.z.c 1 _ rfl; have z2 := HR6.out.z.c 2 _ rfl; have z3 := HR6.out.z.c 3 _ rfl; have z4 := HR6.out.z.c 4 _ rfl
 have f0 := HR6.out.z.f 0 (by simp); have f1 := HR6.out.z.f 1 (by simp); have f2 := HR6.out.z.f 2 (by simp); have f3 := HR6.out.z.f 3 (by simp); have f4 := HR6.out.z.f 4 (by simp)
 have yz := HR6.out.z.ty.lt
 go_wp2_with fail
 refine bodyPost_ret (v := pstV ⟨t, c - 1, n, sl, en⟩ (.slice ad5 sl.length cap5) (.slice ad6 en.length cap6)) (by simp [results, Tryz.results177, go_sem, z0, z1, z2, z3, z4]) rfl ?_
 rw [HE.out]
 exact ⟨⟨_, _, rfl, HT6.out.store HR6.out.z.ty _ _ _ _ _⟩, HR6.out.p.far5 (by have := HR6.out.q; omega) _ _ _ _ _, grow_new5 HR6.out.g (Nat.le_refl _) _ _ _ _ _⟩
end Go.Proofs.YtdajolpoiffimaaGreatDoor

namespace Go.Proofs.YtdajolpoiffimaaGreatDoor
open Go.RowKit

/-- What a frame tells. -/
structure Ct where
 kind : ByteArray
 tab : ByteArray
 num : Int
 st : Px.St
 size : Int
abbrev ctC (c : Ct) (sl en : Value) : List Value := [.string c.kind, .string c.tab, .int .i64 c.num, .string c.st.tab, .int .i64 c.st.clock, .int .i64 c.st.next, sl, en, .int .i64 c.size]
abbrev ctV (c : Ct) (sl en : Value) : Value := .agg (ctC c sl en).toArray
def ct0 : Ct := ⟨ByteArray.empty, ByteArray.empty, 0, Px.st0, 0⟩
abbrev nilS : Value := .slice none 0 0
/-- A change, as a frame tells it; a whole state, as a frame tells it. -/
def IsC (b : ByteArray) (c : Ct) : Prop := ∃ h : Bx.Ch, Bx.IsCh b h ∧ c.kind = Bx.b1 h.kind ∧ c.tab = h.tab ∧ c.num = h.n
def IsW (b : ByteArray) (c : Ct) : Prop := c.kind = Bx.b1 90 ∧ Bx.wholeS (Px.abs c.st) = b ∧ Bx.StFit (Px.abs c.st) ∧ (∀ x ∈ c.st.slots, Px.Fresh x) ∧ -1 ≤ c.st.clock
/-- What readBody answers. -/
inductive BodyR (b : ByteArray) (w' : World) : Ending → Prop
 | ch (c : Ct) (h : IsC b c) (hs : c.st = Px.st0) (hz : c.size = 0) : BodyR b w' (.returned (.tuple #[ctV c nilS nilS, .bool true]))
 | wh (c : Ct) (sl en : Value) (h : IsW b c) (hz : c.size = 0) (ha : PAt w' c.st sl en) : BodyR b w' (.returned (.tuple #[ctV c sl en, .bool true]))
 | no (c : Ct) (sl en : Value) (h1 : ¬ ∃ h, Bx.IsCh b h) (h2 : ¬ ∃ s, Bx.StFit s ∧ Bx.wholeS s = b) (ha : (∃ ad cap, sl = .slice ad c.st.slots.length cap) ∧ ∃ ad cap, en = .slice ad c.st.ends.length cap) : BodyR b w' (.returned (.tuple #[ctV c sl en, .bool false]))
theorem below_set9 {n R : Nat} {w w' : World} (h : Below n w w') (hR : n ≤ R) (v0 v1 v2 v3 v4 v5 v6 v7 v8 : Value) : Below n w (((((((((w'.setCell ⟨R, 0, none⟩ v0).setCell ⟨R, 1, none⟩ v1).setCell ⟨R, 2, none⟩ v2).setCell ⟨R, 3, none⟩ v3).setCell ⟨R, 4, none⟩ v4).setCell ⟨R, 5, none⟩ v5).setCell ⟨R, 6, none⟩ v6).setCell ⟨R, 7, none⟩ v7).setCell ⟨R, 8, none⟩ v8) := by
 repeat (refine Below.setCell ?_ hR _)
 exact h
/-- Where readBody is: the result, the parts, the content. -/
structure RB (w W : World) (p : Bx.PS) (cs : List Value) : Prop where
 z : Cl W w.heap.size 148 (ctC ct0 nilS nilS)
 p : PtIn W (w.heap.size + 1) p
 c : Cl W (w.heap.size + 2) 148 cs
 b : Below w.heap.size w W
theorem RB.call {w W W' : World} {p p' : Bx.PS} {cs : List Value} (h : RB w W p cs) (hp : PtIn W' (w.heap.size + 1) p') (hg : W.grownBy W' (some (w.heap.size + 1))) : RB w W' p' cs :=
 ⟨h.z.grow hg (by omega), hp, h.c.grow hg (by omega), ⟨hg.os.trans h.b.os, hg.tape.trans h.b.tape, hg.output.trans h.b.output, Nat.le_trans h.b.size hg.size, fun k hk => (hg.block k (Nat.lt_of_lt_of_le hk h.b.size) (fun e => by cases e; omega)).trans (h.b.block k hk)⟩⟩
theorem RB.put {w W : World} {p : Bx.PS} {cs : List Value} (h : RB w W p cs) (j : Nat) (v : Value) (hj : j < cs.length) : RB w (W.setCell ⟨w.heap.size + 2, j, none⟩ v) p (cs.set j v) :=
 ⟨h.z.far (by omega) _ _, h.p.far (by omega) _ _, h.c.set j hj v, h.b.setCell (by show w.heap.size ≤ w.heap.size + 2; omega) _⟩
theorem RB.new (w : World) (b : ByteArray) : RB w (((w.alloc (.cells (ctC ct0 nilS nilS).toArray 148)).alloc (.cells (ptC ⟨b, false⟩).toArray 213)).alloc (.cells (ctC ct0 nilS nilS).toArray 148)) ⟨b, false⟩ (ctC ct0 nilS nilS) := by
 have b1 := below_alloc w (.cells (ctC ct0 nilS nilS).toArray 148)
 have z1 : (w.alloc (.cells (ctC ct0 nilS nilS).toArray 148)).heap.size = w.heap.size + 1 := by simp
 have b2 := below_alloc (w.alloc (.cells (ctC ct0 nilS nilS).toArray 148)) (.cells (ptC ⟨b, false⟩).toArray 213)
 have z2 : ((w.alloc (.cells (ctC ct0 nilS nilS).toArray 148)).alloc (.cells (ptC ⟨b, false⟩).toArray 213)).heap.size = w.heap.size + 2 := by simp
 have b3 := below_alloc ((w.alloc (.cells (ctC ct0 nilS nilS).toArray 148)).alloc (.cells (ptC ⟨b, false⟩).toArray 213)) (.cells (ctC ct0 nilS nilS).toArray 148)
 have n2 := Cl.new (w.alloc (.cells (ctC ct0 nilS nilS).toArray 148)) (ptC ⟨b, false⟩) 213
 have n3 := Cl.new ((w.alloc (.cells (ctC ct0 nilS nilS).toArray 148)).alloc (.cells (ptC ⟨b, false⟩).toArray 213)) (ctC ct0 nilS nilS) 148
 rw [z1] at n2
 rw [z2] at n3
 exact ⟨((Cl.new w (ctC ct0 nilS nilS) 148).later b2).later b3, n2.later b3, n3, (b1.trans (b2.mono b1.size)).trans (b3.mono (by rw [z2]; omega))⟩
theorem lit_eq {h : ByteArray} {l : List UInt8} (e : h = ⟨l.toArray⟩) : (h.toList == l) = true := by
 subst e; simp [ByteArray.toList_eq]
theorem isEmpty_iff (r : ByteArray) : r.toList.isEmpty = true ↔ r = ByteArray.empty := by
 rw [ByteArray.toList_eq]
 constructor
 ·intro h; exact Bx.ba_ext (by simpa using h)
 ·intro h; subst h; rfl
theorem txt1_head (b : ByteArray) (h : 0 < b.size) : ∃ k : Int, 0 ≤ k ∧ k < 256 ∧ Bx.txtP 1 ⟨b, false⟩ = (Bx.b1 k, ⟨b.extract 1 b.size, false⟩) ∧ b = Bx.b1 k ++ b.extract 1 b.size := by
 obtain ⟨t, q, ht⟩ : ∃ t q, Bx.txtP 1 ⟨b, false⟩ = (t, q) := ⟨_, _, pr_eta _⟩
 have e : Bx.txtP 1 ⟨b, false⟩ = (b.extract 0 1, ⟨b.extract 1 b.size, false⟩) := by unfold Bx.txtP; rw [if_neg (by simp; omega)]; rfl
 have hs : (b.extract 0 1).size = 1 := by simp; omega
 have hb := Bx.be_nB' hs
 rw [← Bx.b1_be] at hb
 have hlt := Bx.nb_lt (b.extract 0 1).data.toList
 rw [Bx.ba_len, hs] at hlt
 have h9 : Bx.nB (b.extract 0 1) < 256 := hlt
 refine ⟨Bx.nB (b.extract 0 1), Bx.nb_nonneg _, h9, by rw [e, hb], by rw [hb]; exact (Bx.ext_split b 1).symm⟩
theorem b1_lit (k : Int) (h0 : 0 ≤ k) (h1 : k < 256) (n : UInt8) : Bx.b1 k = ⟨[n].toArray⟩ ↔ k = (n.toNat : Int) := by
 constructor
 ·intro h
  have h2 : Bx.nB (Bx.b1 k) = k := by rw [Bx.b1_be]; exact Bx.nB_be k 1 h0 (by simpa using h1)
  rw [h] at h2
  rw [← h2]; simp [Bx.nB, Bx.nb]
 ·intro h
  subst h
  refine Bx.ba_ext ?_
  rw [Bx.b1_list]
  simp
  have : ((n.toNat : Int) % 256).toNat = n.toNat := by have := n.toNat_lt; omega
  rw [this]; simp
theorem PAt.store9 {W : World} {q : Nat} {s : Px.St} {sl en : Value} (h : PAt W s sl en) (ty : Typed W q 148) (u0 u1 u2 u3 u4 u5 u6 u7 u8 : Value) :
 PAt (((((((((W.setCell ⟨q, 0, none⟩ u0).setCell ⟨q, 1, none⟩ u1).setCell ⟨q, 2, none⟩ u2).setCell ⟨q, 3, none⟩ u3).setCell ⟨q, 4, none⟩ u4).setCell ⟨q, 5, none⟩ u5).setCell ⟨q, 6, none⟩ u6).setCell ⟨q, 7, none⟩ u7).setCell ⟨q, 8, none⟩ u8) s sl en := by
 have q : ∀ (w : World) (j : Nat) (u : Value), (Typed w q 148 ∧ PAt w s sl en) → (Typed (w.setCell ⟨q, j, none⟩ u) q 148 ∧ PAt (w.setCell ⟨q, j, none⟩ u) s sl en) := fun w j u h => ⟨h.1.setCell _ _ _, h.2.set h.1 (by decide) (by decide) _ _⟩
 exact (q _ _ _ (q _ _ _ (q _ _ _ (q _ _ _ (q _ _ _ (q _ _ _ (q _ _ _ (q _ _ _ (q _ _ _ ⟨ty, h⟩))))))))).2

set_option maxRecDepth 10000 in
set_option maxHeartbeats 4000000 in
theorem readBody_T (b : ByteArray) (k : Int) (w : World) (hb : b.size ≤ 100000) (h0 : 0 ≤ k) (h1 : k < 256) (hk : k = 84) (ht : Bx.txtP 1 ⟨b, false⟩ = (Bx.b1 k, ⟨b.extract 1 b.size, false⟩)) (he : b = Bx.b1 k ++ b.extract 1 b.size) :
 Calls Tryz.prog 145 #[.string b] w fun e w' => BodyR b w' e ∧ Below w.heap.size w w' := by
 have HT : Hid (Bx.txtP 1 ⟨b, false⟩ = (Bx.b1 k, ⟨b.extract 1 b.size, false⟩)) := ht
 have HE : Hid (b = Bx.b1 k ++ b.extract 1 b.size) := he
 have hsz : (b.extract 1 b.size).size ≤ 100000 := by simp; omega
 have e84 : ((Bx.b1 k).toList == [84]) = true := lit_eq ((b1_lit k h0 h1 84).2 (by rw [hk]; rfl))
 have e67 : ((Bx.b1 k).toList == [67]) = false := lit_ne (l := [67]) (fun q => by have := (b1_lit k h0 h1 67).1 q; simp at this; omega)
 have e83 : ((Bx.b1 k).toList == [83]) = false := lit_ne (l := [83]) (fun q => by have := (b1_lit k h0 h1 83).1 q; simp at this; omega)
 have e68 : ((Bx.b1 k).toList == [68]) = false := lit_ne (l := [68]) (fun q => by have := (b1_lit k h0 h1 68).1 q; simp at this; omega)
 have e70 : ((Bx.b1 k).toList == [70]) = false := lit_ne (l := [70]) (fun q => by have := (b1_lit k h0 h1 70).1 q; simp at this; omega)
 have e75 : ((Bx.b1 k).toList == [75]) = false := lit_ne (l := [75]) (fun q => by have := (b1_lit k h0 h1 75).1 q; simp at this; omega)
 have e90 : ((Bx.b1 k).toList == [90]) = false := lit_ne (l := [90]) (fun q => by have := (b1_lit k h0 h1 90).1 q; simp at this; omega)
 have HKd : Hid (∀ kd, kd = Bx.b1 k → kd = Bx.b1 k) := fun _ h => h
 generalize hkd : Bx.b1 k = kd at *
 have HKD : Hid (Bx.b1 k = kd) := hkd
 generalize hr : b.extract 1 b.size = r at *
 have HRr : Hid (b.extract 1 b.size = r) := hr
 clear hkd hr ht he HKd
 have hN := RB.new w b
 go_enter Tryz.func145, Tryz.ntmps145
 go_upto_region 3 with fail
 have hN' : RB w (((w.alloc (.cells #[.string { data := #[] }, .string { data := #[] }, .int .i64 0, .string { data := #[] }, .int .i64 0, .int .i64 0, .slice none 0 0, .slice none 0 0, .int .i64 0] 148)).alloc (.cells #[.string b, .bool false] 213)).alloc (.cells #[.string { data := #[] }, .string { data := #[] }, .int .i64 0, .string { data := #[] }, .int .i64 0, .int .i64 0, .slice none 0 0, .slice none 0 0, .int .i64 0] 148)) ⟨b, false⟩ (ctC ct0 nilS nilS) := hN
 clear hN
 generalize ((w.alloc (.cells #[.string { data := #[] }, .string { data := #[] }, .int .i64 0, .string { data := #[] }, .int .i64 0, .int .i64 0, .slice none 0 0, .slice none 0 0, .int .i64 0] 148)).alloc (.cells #[.string b, .bool false] 213)).alloc (.cells #[.string { data := #[] }, .string { data := #[] }, .int .i64 0, .string { data := #[] }, .int .i64 0, .int .i64 0, .slice none 0 0, .slice none 0 0, .int .i64 0] 148) = W at *
 have HN0 : Hid (RB w W ⟨b, false⟩ (ctC ct0 nilS nilS)) := hN'
 clear hN'
 go_wp2_with fail
 refine (ptext_any ⟨b, false⟩ (w.heap.size + 1) 1 _ hb HN0.out.p).mono ?_
 rintro ex w1 ⟨rfl, hp1, hg1⟩
 rw [HT.out] at hp1 ⊢
 simp only at hp1
 have hR1 := HN0.out.call hp1 hg1
 have s0 := hR1.c.c 0 _ rfl
 have t0 := hR1.c.f 0 (by simp)
 have y0 := hR1.c.ty.lt
 have hT1 := hR1.put 0 (.string kd) (by simp)
 clear hp1 hg1 hR1 HN0
 go_upto_region 4 with fail
 clear s0 t0 y0
 generalize w1.setCell ⟨w.heap.size + 2, 0, none⟩ (.string kd) = W1 at *
 have HR1 : Hid (RB w W1 ⟨r, false⟩ ((ctC ct0 nilS nilS).set 0 (.string kd))) := hT1
 have k0 := hT1.c.c 0 _ rfl
 have yk := hT1.c.ty.lt
 have pc0 := hT1.p.c0
 have yp := hT1.p.ty.lt
 clear hT1
 have HA : Hid (Bx.txtP (r.size : Int) ⟨r, false⟩ = (r, ⟨ByteArray.empty, false⟩)) := by
  have := Bx.txtP_app r ByteArray.empty false (r.size : Int) rfl
  rw [ByteArray.append_empty] at this; exact this
 go_wp2_with fail
 refine (ptext_any ⟨r, false⟩ (w.heap.size + 1) r.size _ hsz HR1.out.p).mono ?_
 rintro ex w2 ⟨rfl, hp1, hg1⟩
 rw [HA.out] at hp1 ⊢
 simp only at hp1
 have hR2 := HR1.out.call hp1 hg1
 have s0 := hR2.c.c 1 _ rfl
 have t0 := hR2.c.f 1 (by simp)
 have y0 := hR2.c.ty.lt
 have hT3 := hR2.put 1 (.string r) (by simp)
 clear hp1 hg1 hR2 HR1 k0 yk pc0 yp
 go_upto_region 18 with fail
 clear s0 t0 y0
 generalize w2.setCell ⟨w.heap.size + 2, 1, none⟩ (.string r) = W3 at *
 have HR3 : Hid (RB w W3 ⟨ByteArray.empty, false⟩ (((ctC ct0 nilS nilS).set 0 (.string kd)).set 1 (.string r))) := hT3
 clear hT3
 go_wp2_with fail
 refine (pright_any ⟨ByteArray.empty, false⟩ (w.heap.size + 1) _ HR3.out.p).mono ?_
 rintro ex w4 ⟨rfl, rfl⟩
 have hR := HR3.out
 have x0 := hR.c.c 0 _ rfl; have x1 := hR.c.c 1 _ rfl; have x2 := hR.c.c 2 _ rfl; have x3 := hR.c.c 3 _ rfl; have x4 := hR.c.c 4 _ rfl; have x5 := hR.c.c 5 _ rfl; have x6 := hR.c.c 6 _ rfl; have x7 := hR.c.c 7 _ rfl; have x8 := hR.c.c 8 _ rfl
 have z0 := hR.z.c 0 _ rfl; have z1 := hR.z.c 1 _ rfl; have z2 := hR.z.c 2 _ rfl; have z3 := hR.z.c 3 _ rfl; have z4 := hR.z.c 4 _ rfl; have z5 := hR.z.c 5 _ rfl; have z6 := hR.z.c 6 _ rfl; have z7 := hR.z.c 7 _ rfl; have z8 := hR.z.c 8 _ rfl
 have f0 := hR.z.f 0 (by simp); have f1 := hR.z.f 1 (by simp); have f2 := hR.z.f 2 (by simp); have f3 := hR.z.f 3 (by simp); have f4 := hR.z.f 4 (by simp); have f5 := hR.z.f 5 (by simp); have f6 := hR.z.f 6 (by simp); have f7 := hR.z.f 7 (by simp); have f8 := hR.z.f 8 (by simp)
 have yz := hR.z.ty.lt
 have yx := hR.c.ty.lt
 clear hR
 have HF : Hid (IsC b ⟨kd, r, 0, Px.st0, 0⟩) := by
  refine ⟨⟨84, r, 0⟩, ?_, by rw [← HKD.out, hk], rfl, rfl⟩
  have := Bx.body_T r
  rw [HE.out, ← HKD.out, hk]; exact this
 go_wp2_with fail
 refine bodyPost_ret (v := .tuple #[ctV ⟨kd, r, 0, Px.st0, 0⟩ nilS nilS, .bool true]) (by simp [results, Tryz.results145, go_sem, z0, z1, z2, z3, z4, z5, z6, z7, z8, ct0, Px.st0]) rfl ⟨BodyR.ch _ HF.out rfl rfl, below_set9 HR3.out.b (Nat.le_refl _) _ _ _ _ _ _ _ _ _⟩

set_option maxRecDepth 10000 in
set_option maxHeartbeats 4000000 in
theorem readBody_C (b : ByteArray) (k : Int) (w : World) (hb : b.size ≤ 100000) (h0 : 0 ≤ k) (h1 : k < 256) (hk : k = 67) (ht : Bx.txtP 1 ⟨b, false⟩ = (Bx.b1 k, ⟨b.extract 1 b.size, false⟩)) (he : b = Bx.b1 k ++ b.extract 1 b.size) :
 Calls Tryz.prog 145 #[.string b] w fun e w' => BodyR b w' e ∧ Below w.heap.size w w' := by
 have HT : Hid (Bx.txtP 1 ⟨b, false⟩ = (Bx.b1 k, ⟨b.extract 1 b.size, false⟩)) := ht
 have HE : Hid (b = Bx.b1 k ++ b.extract 1 b.size) := he
 have hsz : (b.extract 1 b.size).size ≤ 100000 := by simp; omega
 have e84 : ((Bx.b1 k).toList == [84]) = false := lit_ne (l := [84]) (fun q => by have := (b1_lit k h0 h1 84).1 q; simp at this; omega)
 have e67 : ((Bx.b1 k).toList == [67]) = true := lit_eq ((b1_lit k h0 h1 67).2 (by rw [hk]; rfl))
 have e83 : ((Bx.b1 k).toList == [83]) = false := lit_ne (l := [83]) (fun q => by have := (b1_lit k h0 h1 83).1 q; simp at this; omega)
 have e68 : ((Bx.b1 k).toList == [68]) = false := lit_ne (l := [68]) (fun q => by have := (b1_lit k h0 h1 68).1 q; simp at this; omega)
 have e70 : ((Bx.b1 k).toList == [70]) = false := lit_ne (l := [70]) (fun q => by have := (b1_lit k h0 h1 70).1 q; simp at this; omega)
 have e75 : ((Bx.b1 k).toList == [75]) = false := lit_ne (l := [75]) (fun q => by have := (b1_lit k h0 h1 75).1 q; simp at this; omega)
 have e90 : ((Bx.b1 k).toList == [90]) = false := lit_ne (l := [90]) (fun q => by have := (b1_lit k h0 h1 90).1 q; simp at this; omega)
 have HKd : Hid (∀ kd, kd = Bx.b1 k → kd = Bx.b1 k) := fun _ h => h
 generalize hkd : Bx.b1 k = kd at *
 have HKD : Hid (Bx.b1 k = kd) := hkd
 generalize hr : b.extract 1 b.size = r at *
 have HRr : Hid (b.extract 1 b.size = r) := hr
 clear hkd hr ht he HKd
 have hN := RB.new w b
 go_enter Tryz.func145, Tryz.ntmps145
 go_upto_region 3 with fail
 have hN' : RB w (((w.alloc (.cells #[.string { data := #[] }, .string { data := #[] }, .int .i64 0, .string { data := #[] }, .int .i64 0, .int .i64 0, .slice none 0 0, .slice none 0 0, .int .i64 0] 148)).alloc (.cells #[.string b, .bool false] 213)).alloc (.cells #[.string { data := #[] }, .string { data := #[] }, .int .i64 0, .string { data := #[] }, .int .i64 0, .int .i64 0, .slice none 0 0, .slice none 0 0, .int .i64 0] 148)) ⟨b, false⟩ (ctC ct0 nilS nilS) := hN
 clear hN
 generalize ((w.alloc (.cells #[.string { data := #[] }, .string { data := #[] }, .int .i64 0, .string { data := #[] }, .int .i64 0, .int .i64 0, .slice none 0 0, .slice none 0 0, .int .i64 0] 148)).alloc (.cells #[.string b, .bool false] 213)).alloc (.cells #[.string { data := #[] }, .string { data := #[] }, .int .i64 0, .string { data := #[] }, .int .i64 0, .int .i64 0, .slice none 0 0, .slice none 0 0, .int .i64 0] 148) = W at *
 have HN0 : Hid (RB w W ⟨b, false⟩ (ctC ct0 nilS nilS)) := hN'
 clear hN'
 go_wp2_with fail
 refine (ptext_any ⟨b, false⟩ (w.heap.size + 1) 1 _ hb HN0.out.p).mono ?_
 rintro ex w1 ⟨rfl, hp1, hg1⟩
 rw [HT.out] at hp1 ⊢
 simp only at hp1
 have hR1 := HN0.out.call hp1 hg1
 have s0 := hR1.c.c 0 _ rfl
 have t0 := hR1.c.f 0 (by simp)
 have y0 := hR1.c.ty.lt
 have hT1 := hR1.put 0 (.string kd) (by simp)
 clear hp1 hg1 hR1 HN0
 go_upto_region 4 with fail
 clear s0 t0 y0
 generalize w1.setCell ⟨w.heap.size + 2, 0, none⟩ (.string kd) = W1 at *
 have HR1 : Hid (RB w W1 ⟨r, false⟩ ((ctC ct0 nilS nilS).set 0 (.string kd))) := hT1
 have k0 := hT1.c.c 0 _ rfl
 have yk := hT1.c.ty.lt
 have pc0 := hT1.p.c0
 have yp := hT1.p.ty.lt
 clear hT1
 obtain ⟨n, q, hnq⟩ : ∃ n q, Bx.numP 5 ⟨r, false⟩ = (n, q) := ⟨_, _, pr_eta _⟩
 have HA : Hid (Bx.numP 5 ⟨r, false⟩ = (n, q)) := hnq
 clear hnq
 go_wp2_with fail
 refine (pnumber_any ⟨r, false⟩ (w.heap.size + 1) 5 _ _ rfl (by decide) hsz HR1.out.p).mono ?_
 rintro ex w2 ⟨rfl, hp1, hg1⟩
 rw [HA.out] at hp1 ⊢
 simp only at hp1
 have hR2 := HR1.out.call hp1 hg1
 have s0 := hR2.c.c 2 _ rfl
 have t0 := hR2.c.f 2 (by simp)
 have y0 := hR2.c.ty.lt
 have hT3 := hR2.put 2 (.int .i64 n) (by simp)
 clear hp1 hg1 hR2 HR1 k0 yk pc0 yp
 go_upto_region 18 with fail
 clear s0 t0 y0
 generalize w2.setCell ⟨w.heap.size + 2, 2, none⟩ (.int .i64 n) = W3 at *
 have HR3 : Hid (RB w W3 q (((ctC ct0 nilS nilS).set 0 (.string kd)).set 2 (.int .i64 n))) := hT3
 clear hT3
 go_wp2_with fail
 refine (pright_any q (w.heap.size + 1) _ HR3.out.p).mono ?_
 rintro ex w4 ⟨rfl, rfl⟩
 have hR := HR3.out
 have x0 := hR.c.c 0 _ rfl; have x1 := hR.c.c 1 _ rfl; have x2 := hR.c.c 2 _ rfl; have x3 := hR.c.c 3 _ rfl; have x4 := hR.c.c 4 _ rfl; have x5 := hR.c.c 5 _ rfl; have x6 := hR.c.c 6 _ rfl; have x7 := hR.c.c 7 _ rfl; have x8 := hR.c.c 8 _ rfl
 have z0 := hR.z.c 0 _ rfl; have z1 := hR.z.c 1 _ rfl; have z2 := hR.z.c 2 _ rfl; have z3 := hR.z.c 3 _ rfl; have z4 := hR.z.c 4 _ rfl; have z5 := hR.z.c 5 _ rfl; have z6 := hR.z.c 6 _ rfl; have z7 := hR.z.c 7 _ rfl; have z8 := hR.z.c 8 _ rfl
 have f0 := hR.z.f 0 (by simp); have f1 := hR.z.f 1 (by simp); have f2 := hR.z.f 2 (by simp); have f3 := hR.z.f 3 (by simp); have f4 := hR.z.f 4 (by simp); have f5 := hR.z.f 5 (by simp); have f6 := hR.z.f 6 (by simp); have f7 := hR.z.f 7 (by simp); have f8 := hR.z.f 8 (by simp)
 have yz := hR.z.ty.lt
 have yx := hR.c.ty.lt
 clear hR
 cases hw : (!q.wrong && q.rest.toList.isEmpty)
 ·have hno : ¬ (q.wrong = false ∧ q.rest = ByteArray.empty) := by
   rintro ⟨a1, a2⟩
   rw [a1, (isEmpty_iff _).2 a2] at hw; cases hw
  have HF : Hid ((¬ ∃ h, Bx.IsCh b h) ∧ ¬ ∃ s, Bx.StFit s ∧ Bx.wholeS s = b) := by
   refine ⟨?_, ?_⟩
   ·rw [HE.out, ← HKD.out, hk]; exact Bx.body_C_no HA.out hno
   ·rintro ⟨s, _, e⟩
    rw [HE.out, ← HKD.out] at e
    exact Bx.whole_no ⟨h0, h1⟩ (by omega) ⟨s, e⟩
  clear hw hno
  go_wp2_with fail
  refine bodyPost_ret (v := .tuple #[ctV ⟨kd, ByteArray.empty, n, Px.st0, 0⟩ nilS nilS, .bool false]) (by simp [results, Tryz.results145, go_sem, z0, z1, z2, z3, z4, z5, z6, z7, z8, ct0, Px.st0]) rfl ⟨BodyR.no _ _ _ HF.out.1 HF.out.2 ⟨⟨none, 0, rfl⟩, ⟨none, 0, rfl⟩⟩, below_set9 HR3.out.b (Nat.le_refl _) _ _ _ _ _ _ _ _ _⟩
 ·have hyes : q.wrong = false ∧ q.rest = ByteArray.empty := by
   simp only [Bool.and_eq_true, Bool.not_eq_true'] at hw
   exact ⟨hw.1, (isEmpty_iff _).1 hw.2⟩
  have HF : Hid (IsC b ⟨kd, ByteArray.empty, n, Px.st0, 0⟩) := by
   refine ⟨⟨k, ByteArray.empty, n⟩, ?_, HKD.out.symm, rfl, rfl⟩
   rw [HE.out, ← HKD.out]; exact (by subst hk; exact Bx.body_C_yes HA.out hyes.1 hyes.2)
  clear hw hyes
  go_wp2_with fail
  refine bodyPost_ret (v := .tuple #[ctV ⟨kd, ByteArray.empty, n, Px.st0, 0⟩ nilS nilS, .bool true]) (by simp [results, Tryz.results145, go_sem, z0, z1, z2, z3, z4, z5, z6, z7, z8, ct0, Px.st0]) rfl ⟨BodyR.ch _ HF.out rfl rfl, below_set9 HR3.out.b (Nat.le_refl _) _ _ _ _ _ _ _ _ _⟩

end Go.Proofs.YtdajolpoiffimaaGreatDoor
