/-
  PrgTalk, PrgWhole, PrgXa, TabDue, TabChkTop, PrgClock, PrgLate, PrgArr, PrgLoad, PrgCancel, PrgWClk.
-/
import Derived.Deep.Cut
import Derived.Deep.RegionHeld3
import Derived.Deep.DrawnRows
import Derived.Deep.RegionWith
import Derived.Test.YtdajolpoiffimabGreatDoorC1
import Derived.Test.YtdajolpoiffimabGreatDoorC2
import Derived.Test.YtdajolpoiffimabGreatDoorC4
import Derived.Test.YtdajolpoiffimabGreatDoorC5
import Derived.Test.YtdajolpoiffimabGreatDoorC6
import Derived.Test.YtdajolpoiffimabGreatDoorC7

namespace Go.Proofs.YtdajolpoiffimabGreatDoor
open Go.RowKit

abbrev tzO : Obj := .cells #[.string { data := #[] }, .int .i64 0, .int .i64 0, .slice none 0 0, .slice none 0 0, .string { data := #[] }, .bool false] 110
/-- Behind the head of Hear: the state in its block, the result's block. -/
structure TRes (w W : World) (s : Px.St) (sl en : Value) : Prop where
  st : PIn W w.heap.size s sl en
  z : ZCell W (w.heap.size + 1) 7
  ty : Typed W (w.heap.size + 1) 110
  bel : Below w.heap.size w W
  lt : w.heap.size + 1 < W.heap.size
theorem TRes.new (w : World) (s : Px.St) (sl en : Value) : TRes w ((w.alloc (pstO s sl en)).alloc tzO) s sl en := by
  have hZ := ZCell.new (w.alloc (pstO s sl en)) #[.string { data := #[] }, .int .i64 0, .int .i64 0, .slice none 0 0, .slice none 0 0, .string { data := #[] }, .bool false] 110
  have hT := Typed.new (w.alloc (pstO s sl en)) #[.string { data := #[] }, .int .i64 0, .int .i64 0, .slice none 0 0, .slice none 0 0, .string { data := #[] }, .bool false] 110
  exact ⟨(PIn.new w s sl en).later (below_alloc _ _), by simpa using hZ, by simpa using hT, (below_alloc w _).alloc (by simp) _, by simp⟩
theorem TRes.later {w W W' : World} {s : Px.St} {sl en : Value} (h : TRes w W s sl en) (hb : Below W.heap.size W W') : TRes w W' s sl en :=
  ⟨h.st.later hb, h.z.later h.lt hb, h.ty.later hb, h.bel.trans (hb.mono h.bel.size), Nat.lt_of_lt_of_le h.lt hb.size⟩
theorem TRes.set {w W : World} {s : Px.St} {sl en : Value} (h : TRes w W s sl en) {q : Nat} (hq : w.heap.size + 1 < q) (j : Nat) (u : Value) : TRes w (W.setCell ⟨q, j, none⟩ u) s sl en := by
  have oth : ∀ (a i : Nat), a ≤ w.heap.size + 1 → (W.setCell ⟨q, j, none⟩ u).cell? ⟨a, i, none⟩ = W.cell? ⟨a, i, none⟩ := fun a i ha => World.cell?_setCell_other _ _ _ _ (by first | (simp; done) | (simp; omega))
  obtain ⟨c0, c1, c2, c3, c4⟩ := h.st
  refine ⟨⟨?_, ?_, ?_, ?_, ?_⟩, fun i hi => ⟨?_, ?_⟩, h.ty.setCell _ _ _, h.bel.setCell (by first | (simp; done) | (simp; omega)) _, by have := h.lt; simpa [World.setCell] using this⟩
  · rw [oth _ _ (by omega)]; exact c0
  · rw [oth _ _ (by omega)]; exact c1
  · rw [oth _ _ (by omega)]; exact c2
  · rw [oth _ _ (by omega)]; exact c3
  · rw [oth _ _ (by omega)]; exact c4
  · obtain ⟨u', hu⟩ := (h.z i hi).1
    exact ⟨u', by rw [oth _ _ (by omega)]; exact hu⟩
  · rw [World.frozen?_setCell]; exact (h.z i hi).2
theorem PsIn.set {W : World} {q : Nat} {x : Px.Sl} (h : PsIn W q x) {g : Nat} (hg : g ≠ q) (j : Nat) (u : Value) : PsIn (W.setCell ⟨g, j, none⟩ u) q x := by
  have oth : ∀ (i : Nat), (W.setCell ⟨g, j, none⟩ u).cell? ⟨q, i, none⟩ = W.cell? ⟨q, i, none⟩ := fun i => World.cell?_setCell_other _ _ _ _ (by simp)
  obtain ⟨c0, c1, c2, c3, c4, c5, c6, c7⟩ := h
  exact ⟨(oth _).trans c0, (oth _).trans c1, (oth _).trans c2, (oth _).trans c3, (oth _).trans c4, (oth _).trans c5, (oth _).trans c6, (oth _).trans c7⟩
theorem below_set7 {n q : Nat} {w w' : World} (h : Below n w w') (hq : n ≤ q) (u0 u1 u2 u3 u4 u5 u6 : Value) : Below n w (((((((w'.setCell ⟨q, 0, none⟩ u0).setCell ⟨q, 1, none⟩ u1).setCell ⟨q, 2, none⟩ u2).setCell ⟨q, 3, none⟩ u3).setCell ⟨q, 4, none⟩ u4).setCell ⟨q, 5, none⟩ u5).setCell ⟨q, 6, none⟩ u6) :=
  ((((((h.setCell hq _).setCell hq _).setCell hq _).setCell hq _).setCell hq _).setCell hq _).setCell hq _
theorem PAt.store7 {W : World} {q : Nat} {s : Px.St} {sl en : Value} (h : PAt W s sl en) (ty : Typed W q 110) (u0 u1 u2 u3 u4 u5 u6 : Value) : PAt (((((((W.setCell ⟨q, 0, none⟩ u0).setCell ⟨q, 1, none⟩ u1).setCell ⟨q, 2, none⟩ u2).setCell ⟨q, 3, none⟩ u3).setCell ⟨q, 4, none⟩ u4).setCell ⟨q, 5, none⟩ u5).setCell ⟨q, 6, none⟩ u6) s sl en := by
  have st : ∀ (w : World) (j : Nat) (u : Value), (Typed w q 110 ∧ PAt w s sl en) → (Typed (w.setCell ⟨q, j, none⟩ u) q 110 ∧ PAt (w.setCell ⟨q, j, none⟩ u) s sl en) := fun w j u h => ⟨h.1.setCell _ _ _, h.2.set h.1 (by decide) (by decide) _ _⟩
  exact ((st _ _ _ (st _ _ _ (st _ _ _ (st _ _ _ (st _ _ _ (st _ _ _ (st _ _ _ ⟨ty, h⟩)))))))).2
theorem PsIn.hear {W : World} {q : Nat} {y : Px.Sl} (h : PsIn W q y) (k : ByteArray) : PsIn (W.setCell ⟨q, 7, none⟩ (.string k)) q { y with heard := k } := by
  obtain ⟨c0, c1, c2, c3, c4, c5, c6, c7⟩ := h
  refine ⟨?_, ?_, ?_, ?_, ?_, ?_, ?_, ?_⟩ <;> simp [go_sem, c0, c1, c2, c3, c4, c5, c6, c7]
/-- What Hear answers. -/
abbrev talkV (s : Px.St) (sl en : Value) (said : ByteArray) (over : Bool) : Value := .agg #[.string s.tab, .int .i64 s.clock, .int .i64 s.next, sl, en, .string said, .bool over]
inductive TalkR (s : Px.St) (n : Int) (x : ByteArray) (w' : World) : Ending → Prop
  | none (h : Px.find s.slots n = .none) : TalkR s n x w' (.returned (.tuple #[.agg #[.string { data := #[] }, .int .i64 0, .int .i64 0, .slice none 0 0, .slice none 0 0, .string { data := #[] }, .bool false], .int .i64 8]))
  | wait (y : Px.Sl) (h : Px.find s.slots n = some y) (hs : y.step ≤ 0) : TalkR s n x w' (.returned (.tuple #[.agg #[.string { data := #[] }, .int .i64 0, .int .i64 0, .slice none 0 0, .slice none 0 0, .string { data := #[] }, .bool false], .int .i64 9]))
  | ok (y : Px.Sl) (sl en : Value) (said : ByteArray) (over : Bool) (t : Px.St) (h : Px.find s.slots n = some y) (hs : ¬ y.step ≤ 0) (ht : t = Px.talkT s y x) (h1 : said = (Px.talkS s y x).2) (h2 : over = decide (((Px.stepsL s y).length : Int) < (Px.talkS s y x).1.step)) (ha : PAt w' t sl en) : TalkR s n x w' (.returned (.tuple #[talkV t sl en said over, .int .i64 0]))

set_option maxRecDepth 10000 in
set_option maxHeartbeats 4000000 in
theorem hear_any (s : Px.St) (n : Int) (x : ByteArray) (sl en : Value) (w : World) (hO : Px.Ok s) (hxz : x.size ≤ 100) (hT : TabLH w) (hS : PAt w s sl en) :
    Calls Tryz.prog 56 #[pstV s sl en, .int .i64 n, .string x] w fun e w' => TalkR s n x w' e ∧ Below w.heap.size w w' := by
  obtain ⟨ad, cap, rfl, hcap⟩ := hS.sl.form
  obtain ⟨ad2, cap2, rfl, hcap2⟩ := hS.en.form
  have HO : Hid (Px.Ok s) := hO
  have hl : s.slots.length ≤ 10000 := by have := hO.len; omega
  have HS : Hid (PAt w s (.slice ad s.slots.length cap) (.slice ad2 s.ends.length cap2)) := hS
  have hP := TRes.new w s (.slice ad s.slots.length cap) (.slice ad2 s.ends.length cap2)
  clear hS hO
  go_enter Tryz.func56, Tryz.ntmps56
  go_upto_region 1 with fail
  generalize (w.alloc (pstO s (.slice ad s.slots.length cap) (.slice ad2 s.ends.length cap2))).alloc tzO = W at *
  have HSW : Hid (PAt W s (.slice ad s.slots.length cap) (.slice ad2 s.ends.length cap2)) := HS.out.later hP.bel
  have HT : Hid (TabLH W) := hT.later hP.bel
  have HP : Hid (TRes w W s (.slice ad s.slots.length cap) (.slice ad2 s.ends.length cap2)) := hP
  obtain ⟨i0, i1, i2, i3, i4⟩ := hP.st
  clear hP hT
  go_wp2_with fail
  refine (pfind_any s n _ _ _ hl HSW.out).mono ?_
  rintro e w1 ⟨hF, hb1⟩
  clear i0 i1 i2 i3 i4
  have HP1 := HP.out.later hb1
  have HS1 := HSW.out.later hb1
  have HT1 := HT.out.later hb1
  clear HP HSW hb1 HT
  rcases hF with ⟨y, hf, rfl⟩ | ⟨hf, rfl⟩
  rotate_left
  · have HM : Hid (Px.find s.slots n = none) := hf
    clear hf
    generalize Px.sl0 = x at *
    have HPW2 := HP1.later (below_alloc w1 (psO x))
    clear HP1 HS1 HT1
    go_upto_region 2 with fail
    generalize w1.alloc (psO x) = W2 at *
    obtain ⟨⟨u0, r0⟩, f0⟩ := HPW2.z 0 (by decide)
    obtain ⟨⟨u1, r1⟩, f1⟩ := HPW2.z 1 (by decide)
    obtain ⟨⟨u2, r2⟩, f2⟩ := HPW2.z 2 (by decide)
    obtain ⟨⟨u3, r3⟩, f3⟩ := HPW2.z 3 (by decide)
    obtain ⟨⟨u4, r4⟩, f4⟩ := HPW2.z 4 (by decide)
    obtain ⟨⟨u5, r5⟩, f5⟩ := HPW2.z 5 (by decide)
    obtain ⟨⟨u6, r6⟩, f6⟩ := HPW2.z 6 (by decide)
    have HB2 : Hid (Below w.heap.size w W2) := HPW2.bel
    clear HPW2
    go_wp2_with fail
    refine bodyPost_ret (v := .tuple #[.agg #[.string { data := #[] }, .int .i64 0, .int .i64 0, .slice none 0 0, .slice none 0 0, .string { data := #[] }, .bool false], .int .i64 8]) (by simp [results, Tryz.results56, go_sem, r0, r1, r2, r3, r4, r5, r6]) rfl ⟨TalkR.none HM.out, below_set7 HB2.out (by omega) _ _ _ _ _ _ _⟩
  have HFx : Hid (Px.find s.slots n = some y) := hf
  have hxm : y ∈ s.slots := List.mem_of_find?_eq_some hf
  obtain ⟨hx1, hx2', hx3, hx4, hx5, hx6⟩ := HO.out.each hxm
  obtain ⟨_, _, he3, he4, he5, _⟩ := HO.out.ex y hxm
  obtain ⟨j, hj⟩ : ∃ j : Nat, y.line = (j : Int) + 1 := ⟨(y.line - 1).toNat, by omega⟩
  have hjt : j < tn s.tab := by omega
  have HJ : Hid (y.line = (j : Int) + 1) := hj
  have hjl : (y.line - 1).toNat = j := by omega
  have hLP := HO.out.st.tab.lines.2.2 j (by exact hjt)
  have hL5 : Hid ((stps (tl s.tab j)).length ≤ 5) := (stepsOf_len hLP).2
  have hsz : Hid (∀ z ∈ stps (tl s.tab j), 2 ≤ z.size ∧ z.size ≤ 9) := step_sz hLP
  have hst6 : Hid (y.step ≤ ((stps (tl s.tab j)).length : Int)) := by rw [hjl] at he4; exact he4
  have HTS : Hid (Px.stepsL s y = stps (tl s.tab j)) := by unfold Hid Px.stepsL; rw [hjl]; rfl
  have HSL : Hid (PAt w1 s (.slice ad s.slots.length cap) (.slice ad2 s.ends.length cap2)) := HS1
  have HP2 := HP1.later (below_alloc w1 (psO y))
  have HT2 := HT1.later (below_alloc w1 (psO y))
  have hx2 := PsIn.new w1 y
  have hf7 : (w1.alloc (psO y)).frozen? ⟨w1.heap.size, 7, none⟩ = false := by simp [go_sem]
  have hty : Typed (w1.alloc (psO y)) w1.heap.size 143 := Typed.new _ _ _
  have hq0 : w.heap.size + 1 < w1.heap.size := HP1.lt
  have hB2 := below_alloc w1 (psO y)
  clear HP1 HS1 HT1 hf hx6 hx4 hxm hj hx2' hjl hLP he4 hx1 hx3 hx5
  go_upto_region 2 with fail
  generalize w1.alloc (psO y) = W2 at *
  have HPP2 : Hid (TRes w W2 s (.slice ad s.slots.length cap) (.slice ad2 s.ends.length cap2)) := HP2
  have HTT2 : Hid (TabLH W2) := HT2
  have HX2 : Hid (PsIn W2 w1.heap.size y) := hx2
  have HB2 : Hid (Below w1.heap.size w1 W2) := hB2
  have HF7 : Hid (W2.frozen? ⟨w1.heap.size, 7, none⟩ = false) := hf7
  have HTy : Hid (Typed W2 w1.heap.size 143) := hty
  obtain ⟨x0, x1, x2, x3, x4, x5, x6, x7⟩ := hx2
  clear HP2 HT2 hB2 hf7 hty
  go_wp2_with fail
  refine (runs_any y W2).mono ?_
  rintro e w3 ⟨rfl, hb3⟩
  clear x0 x1 x2 x3 x4 x5 x6 x7
  have HPw3 := HPP2.out.later hb3
  have HTw3 : Hid (TabLH w3) := HTT2.out.later hb3
  have HXw3 : Hid (PsIn w3 w1.heap.size y) := HX2.out.later hb3
  have HBw3 : Hid (Below w1.heap.size w1 w3) := HB2.out.trans (hb3.mono HB2.out.size)
  have HF7w3 : Hid (w3.frozen? ⟨w1.heap.size, 7, none⟩ = false) := (hb3.frozen (p := ⟨w1.heap.size, 7, none⟩) HTy.out.lt).trans HF7.out
  have HTyw3 : Hid (Typed w3 w1.heap.size 143) := HTy.out.later hb3
  clear HPP2 HTT2 HX2 hb3 HB2 HF7 HTy
  cases hr : decide (0 < y.step)
  · have hs0 : Hid (y.step ≤ 0) := by have := of_decide_eq_false hr; unfold Hid; omega
    clear hr
    obtain ⟨⟨u0, r0⟩, f0⟩ := HPw3.z 0 (by decide)
    obtain ⟨⟨u1, r1⟩, f1⟩ := HPw3.z 1 (by decide)
    obtain ⟨⟨u2, r2⟩, f2⟩ := HPw3.z 2 (by decide)
    obtain ⟨⟨u3, r3⟩, f3⟩ := HPw3.z 3 (by decide)
    obtain ⟨⟨u4, r4⟩, f4⟩ := HPw3.z 4 (by decide)
    obtain ⟨⟨u5, r5⟩, f5⟩ := HPw3.z 5 (by decide)
    obtain ⟨⟨u6, r6⟩, f6⟩ := HPw3.z 6 (by decide)
    have HB2 : Hid (Below w.heap.size w w3) := HPw3.bel
    clear HPw3
    go_wp2_with fail
    refine bodyPost_ret (v := .tuple #[.agg #[.string { data := #[] }, .int .i64 0, .int .i64 0, .slice none 0 0, .slice none 0 0, .string { data := #[] }, .bool false], .int .i64 9]) (by simp [results, Tryz.results56, go_sem, r0, r1, r2, r3, r4, r5, r6]) rfl ⟨TalkR.wait y HFx.out hs0.out, below_set7 HB2.out (by omega) _ _ _ _ _ _ _⟩
  have hrs : Hid (0 < y.step) := by unfold Hid; exact of_decide_eq_true hr
  clear hr
  obtain ⟨i0, i1, i2, i3, i4⟩ := HPw3.st
  obtain ⟨x0, x1, x2, x3, x4, x5, x6, x7⟩ := HXw3.out
  have HPP3 : Hid (TRes w w3 s (.slice ad s.slots.length cap) (.slice ad2 s.ends.length cap2)) := HPw3
  clear HPw3
  go_wp2_with fail
  refine (pline_any s y.line j _ _ _ HJ.out hjt HO.out.st.tab HTw3.out (HSL.out.later HBw3.out)).mono ?_
  rintro e w4 ⟨⟨v, rfl, bb, cc, ads, caps, rfl, _, hsp⟩, hb4⟩
  clear i0 i1 i2 i3 i4 x0 x1 x2 x3 x4 x5 x6 x7
  have g13 : (w4.alloc (lnO (tl s.tab j) bb cc ads caps)).cell? ⟨w4.heap.size, 13, none⟩ = some (.slice ads (stps (tl s.tab j)).length caps) := by simp [go_sem]
  have hlq : w4.heap.size < (w4.alloc (lnO (tl s.tab j) bb cc ads caps)).heap.size := by simp
  have HP5 := (HPP3.out.later hb4).later (below_alloc w4 (lnO (tl s.tab j) bb cc ads caps))
  have HX5 := (HXw3.out.later hb4).later (below_alloc w4 (lnO (tl s.tab j) bb cc ads caps))
  have hbb : Below w3.heap.size w3 (w4.alloc (lnO (tl s.tab j) bb cc ads caps)) := hb4.alloc hb4.size _
  have HB5 := HBw3.out.trans (hbb.mono HBw3.out.size)
  have hF75 := (hbb.frozen (p := ⟨w1.heap.size, 7, none⟩) HTyw3.out.lt).trans HF7w3.out
  have hTy5 := HTyw3.out.later hbb
  have hxlt := HTyw3.out.lt
  have hle4 := hb4.size
  have HSP5 := TRow.later hsp (below_alloc w4 (lnO (tl s.tab j) bb cc ads caps))
  clear HPP3 HTw3 HXw3 hb4 hbb HBw3 HF7w3 HTyw3 hsp
  go_upto_region 7 with fail
  generalize w4.alloc (lnO (tl s.tab j) bb cc ads caps) = W5 at *
  generalize w4.heap.size = lq at *
  have hne : w1.heap.size ≠ lq := by omega
  have HX6 : PsIn (W5.setCell ⟨w1.heap.size, 7, none⟩ (.string (y.heard ++ x))) w1.heap.size (Px.heardS y x) := HX5.hear (y.heard ++ x)
  have HP6 := HP5.set hq0 7 (.string (y.heard ++ x))
  have HB6 := HB5.setCell (show w1.heap.size ≤ (⟨w1.heap.size, 7, none⟩ : Addr).block from Nat.le_refl _) (.string (y.heard ++ x))
  have g13' : (W5.setCell ⟨w1.heap.size, 7, none⟩ (.string (y.heard ++ x))).cell? ⟨lq, 13, none⟩ = some (.slice ads (stps (tl s.tab j)).length caps) := by
    rw [World.cell?_setCell_other _ _ _ _ (by simp)]; exact g13
  have HSP6 := TRow.set HSP5 hTy5 (by decide) 7 (.string (y.heard ++ x))
  have hlq6 : lq < (W5.setCell ⟨w1.heap.size, 7, none⟩ (.string (y.heard ++ x))).heap.size := by simpa [World.setCell] using hlq
  obtain ⟨x0, x1, x2, x3, x4, x5, x6, x7⟩ := HX5
  have hhz : y.heard.size ≤ 8 := he5
  have hcat : ¬ 9223372036854775807 < y.heard.size + x.size := by omega
  have HTT : Hid (Px.talkS s y x = Px.goF (stps (tl s.tab j)) s.clock ((stps (tl s.tab j)).length + 1) (Px.heardS y x)) := by unfold Hid Px.talkS; rw [HTS.out]
  have hp1 : Hid (1 ≤ (Px.heardS y x).step) := by have := hrs.out; show 1 ≤ y.step; omega
  have hp2 : Hid ((Px.heardS y x).step ≤ ((stps (tl s.tab j)).length : Int) + 1) := by have := hst6.out; show y.step ≤ _; omega
  have hp3 : Hid ((Px.heardS y x).heard.size ≤ 100000) := by show (y.heard ++ x).size ≤ 100000; rw [ByteArray.size_append]; omega
  clear HP5 HB5 HSP5 g13 hTy5
  go_upto_region 8 with fail
  clear x0 x1 x2 x3 x4 x5 x6 x7 hF75
  generalize W5.setCell ⟨w1.heap.size, 7, none⟩ (.string (y.heard ++ x)) = W6 at *
  generalize Px.heardS y x = y' at *
  have HPP6 : Hid (TRes w W6 s (.slice ad s.slots.length cap) (.slice ad2 s.ends.length cap2)) := HP6
  have HSP : Hid (StepsAt W6 (tl s.tab j) (.slice ads (stps (tl s.tab j)).length caps)) := HSP6
  have HB : Hid (Below w1.heap.size w1 W6) := HB6
  have HG13 : Hid (W6.cell? ⟨lq, 13, none⟩ = some (.slice ads (stps (tl s.tab j)).length caps)) := g13'
  obtain ⟨i0, i1, i2, i3, i4⟩ := HP6.st
  obtain ⟨x0, x1, x2, x3, x4, x5, x6, x7⟩ := HX6
  clear HP6 HSP6 HB6
  go_wp2_with fail
  refine (goOn_any y' (stps (tl s.tab j)) _ s.clock W6 hL5.out hsz.out hp1.out hp2.out hp3.out HSP.out.1).mono ?_
  rintro e w7 ⟨rfl, hb7⟩
  clear i0 i1 i2 i3 i4 x0 x1 x2 x3 x4 x5 x6 x7 g13'
  generalize Px.goF (stps (tl s.tab j)) s.clock ((stps (tl s.tab j)).length + 1) y' = p at *
  obtain ⟨X, said⟩ := p
  have HPx := (HPP6.out.later hb7).later (below_alloc w7 (psO X))
  have HSx := HSL.out.later (HB.out.trans ((hb7.alloc hb7.size (psO X)).mono HB.out.size))
  have HYx := PsIn.new w7 X
  have HGx := cell_later (below_alloc w7 (psO X)) (cell_later hb7 HG13.out)
  have hax : lq < w7.heap.size := Nat.lt_of_lt_of_le hlq6 hb7.size
  have haq : w7.heap.size < (w7.alloc (psO X)).heap.size := by simp
  simp only
  clear HPP6 HB HG13 hb7 HSP
  go_upto_region 9 with fail
  generalize w7.alloc (psO X) = W8 at *
  generalize w7.heap.size = aq at *
  have HP9 := HPx.later (below_alloc W8 (pstO s (.slice ad s.slots.length cap) (.slice ad2 s.ends.length cap2)))
  have HS9 := HSx.later (below_alloc W8 (pstO s (.slice ad s.slots.length cap) (.slice ad2 s.ends.length cap2)))
  have HY9 := HYx.later (below_alloc W8 (pstO s (.slice ad s.slots.length cap) (.slice ad2 s.ends.length cap2)))
  have HG9 := cell_later (below_alloc W8 (pstO s (.slice ad s.slots.length cap) (.slice ad2 s.ends.length cap2))) HGx
  have hA := PW.new W8 s (.slice ad s.slots.length cap) (.slice ad2 s.ends.length cap2)
  have hWq := HPx.lt
  obtain ⟨i0, i1, i2, i3, i4⟩ := HPx.st
  clear HSx HYx HGx
  go_upto_region 10 with fail
  clear i0 i1 i2 i3 i4 HPx
  generalize W8.alloc (pstO s (.slice ad s.slots.length cap) (.slice ad2 s.ends.length cap2)) = W9 at *
  generalize W8.heap.size = q at *
  have hqa : q ≠ aq := by omega
  have hql : q ≠ lq := by omega
  have HPP9 : Hid (TRes w W9 s (.slice ad s.slots.length cap) (.slice ad2 s.ends.length cap2)) := HP9
  have HSS9 : Hid (PAt W9 s (.slice ad s.slots.length cap) (.slice ad2 s.ends.length cap2)) := HS9
  have HAA9 : Hid (PW W9 q s (.slice ad s.slots.length cap) (.slice ad2 s.ends.length cap2)) := hA
  have HYY9 : Hid (PsIn W9 aq X) := HY9
  have HGG9 : Hid (W9.cell? ⟨lq, 13, none⟩ = some (.slice ads (stps (tl s.tab j)).length caps)) := HG9
  obtain ⟨i0, i1, i2, i3, i4⟩ := HP9.st
  obtain ⟨y0, y1, y2, y3, y4, y5, y6, y7⟩ := HY9
  clear HP9 HS9 hA HG9
  go_wp2_with fail
  refine (preplaced_any s.slots X _ _ hl HSS9.out.sl.1).mono ?_
  rintro e w10 ⟨⟨v10, rfl, hown10⟩, hb10⟩
  clear i0 i1 i2 i3 i4 y0 y1 y2 y3 y4 y5 y6 y7
  obtain ⟨ad9, cap9, hv9, _⟩ := (RowAt.of_own hown10).form
  subst hv9
  have hA10 := HAA9.out.later hb10
  have a3 := hA10.st.c3
  have f3' := hA10.f 3 (by decide)
  have hq10 := hA10.ty.lt
  have HP11 := (HPP9.out.later hb10).set hWq 3 (.slice ad9 (Px.repl s.slots X).length cap9)
  have HA11 := hA10.slots (Px.repl s.slots X) (.slice ad9 (Px.repl s.slots X).length cap9)
  have HE11 := ((HSS9.out.later hb10).set hA10.ty (by decide) (by decide) 3 (.slice ad9 (Px.repl s.slots X).length cap9)).en
  have HO11 := (TRow.of_own hown10).set hA10.ty (by decide) 3 (.slice ad9 (Px.repl s.slots X).length cap9)
  have HY11 := (HYY9.out.later hb10).set hqa 3 (.slice ad9 (Px.repl s.slots X).length cap9)
  have HG11 : (w10.setCell ⟨q, 3, none⟩ (.slice ad9 (Px.repl s.slots X).length cap9)).cell? ⟨lq, 13, none⟩ = some (.slice ads (stps (tl s.tab j)).length caps) := by
    rw [World.cell?_setCell_other _ _ _ _ (by simp)]; exact cell_later hb10 HGG9.out
  clear hA10 hown10 hb10 HPP9 HSS9 HAA9 HYY9 HGG9
  go_upto_region 11 with fail
  clear a3 f3'
  generalize w10.setCell ⟨q, 3, none⟩ (.slice ad9 (Px.repl s.slots X).length cap9) = W11 at *
  have HPA : Hid (PAt W11 { s with slots := Px.repl s.slots X } (.slice ad9 (Px.repl s.slots X).length cap9) (.slice ad2 s.ends.length cap2)) := ⟨HO11, HE11⟩
  have HTy11 : Hid (Typed W11 (w.heap.size + 1) 110) := HP11.ty
  have HB11 : Hid (Below w.heap.size w W11) := HP11.bel
  obtain ⟨⟨u0, r0⟩, f0⟩ := HP11.z 0 (by decide)
  obtain ⟨⟨u1, r1⟩, f1⟩ := HP11.z 1 (by decide)
  obtain ⟨⟨u2, r2⟩, f2⟩ := HP11.z 2 (by decide)
  obtain ⟨⟨u3, r3⟩, f3⟩ := HP11.z 3 (by decide)
  obtain ⟨⟨u4, r4⟩, f4⟩ := HP11.z 4 (by decide)
  obtain ⟨⟨u5, r5⟩, f5⟩ := HP11.z 5 (by decide)
  obtain ⟨⟨u6, r6⟩, f6⟩ := HP11.z 6 (by decide)
  obtain ⟨c0, c1, c2, c3, c4⟩ := HA11.st
  obtain ⟨y0, y1, y2, y3, y4, y5, y6, y7⟩ := HY11
  have hl5 := hL5.out
  clear HP11 HA11 HE11 HO11
  go_wp2_with fail
  refine bodyPost_ret (v := .tuple #[talkV { s with slots := Px.repl s.slots X } (.slice ad9 (Px.repl s.slots X).length cap9) (.slice ad2 s.ends.length cap2) said (decide (((stps (tl s.tab j)).length : Int) < X.step)), .int .i64 0]) (by simp [results, Tryz.results56, go_sem, r0, r1, r2, r3, r4, r5, r6]) rfl ⟨?_, below_set7 HB11.out (by omega) _ _ _ _ _ _ _⟩
  refine TalkR.ok y _ _ said _ _ HFx.out (by have := hrs.out; omega) ?_ ?_ ?_ (HPA.out.store7 HTy11.out _ _ _ _ _ _ _)
  · unfold Px.talkT; rw [HTT.out]
  · rw [HTT.out]
  · rw [HTT.out, HTS.out]
end Go.Proofs.YtdajolpoiffimabGreatDoor

namespace Go.Proofs.YtdajolpoiffimabGreatDoor
open Go.RowKit
attribute [local go_sem] Bx.be_size

theorem sl_enc (x : Bx.Sl) (m : Int) (hm : m = Bx.mk1 x.runs) : Bx.be x.num 2 ++ Bx.be x.line 1 ++ Bx.be x.minute 5 ++ Bx.be x.att 1 ++ Bx.be x.frm 5 ++ Bx.be m 1 = Bx.encSl x := by
  subst hm; unfold Bx.encSl; simp only [ByteArray.append_assoc]
set_option maxRecDepth 10000 in
set_option maxHeartbeats 2000000 in
theorem pslotPart_any (x : Px.Sl) (w : World) (hf : Bx.SlFit (Px.absS x)) :
    Calls Tryz.prog 104 #[psV x] w fun e w' => e = .returned (.string (Bx.encSl (Px.absS x))) ∧ Below w.heap.size w w' := by
  have n1 := hf.n; have n2 := hf.l; have n3 := hf.m; have n4 := hf.a; have n5 := hf.f
  simp only [Px.absS] at n1 n2 n3 n4 n5
  obtain ⟨a1, b1⟩ := n1
  obtain ⟨a2, b2⟩ := n2
  obtain ⟨a3, b3⟩ := n3
  obtain ⟨a4, b4⟩ := n4
  obtain ⟨a5, b5⟩ := n5
  have HE : Hid (∀ m : Int, m = Bx.mk1 (decide (0 < x.step)) → Bx.be x.num 2 ++ Bx.be x.line 1 ++ Bx.be x.minute 5 ++ Bx.be x.att 1 ++ Bx.be x.frm 5 ++ Bx.be m 1 = Bx.encSl (Px.absS x)) := fun m hm => sl_enc (Px.absS x) m hm
  have hb0 := below_alloc w (psO x)
  have hI := PsIn.new w x
  clear hf
  go_enter Tryz.func104, Tryz.ntmps104
  go_upto_region 1 with fail
  generalize w.alloc (psO x) = W at *
  have HI : Hid (PsIn W w.heap.size x) := hI
  have HB : Hid (Below w.heap.size w W) := hb0
  have c0 := hI.c0
  clear hI hb0
  go_wp2_with fail
  refine (digits_at _ _ x.num 2 _ rfl rfl (by omega) (by omega) (by decide)).mono ?_
  rintro e w1 ⟨rfl, hb1⟩
  have HI1 : Hid (PsIn w1 w.heap.size x) := HI.out.later hb1
  have HB1 : Hid (Below w.heap.size w w1) := HB.out.trans (hb1.mono HB.out.size)
  clear HI HB hb1 c0
  have c1 := HI1.out.c1
  go_wp2_with fail
  refine (digits_at _ _ x.line 1 _ rfl rfl (by omega) (by omega) (by decide)).mono ?_
  rintro e w2 ⟨rfl, hb1⟩
  have HI2 : Hid (PsIn w2 w.heap.size x) := HI1.out.later hb1
  have HB2 : Hid (Below w.heap.size w w2) := HB1.out.trans (hb1.mono HB1.out.size)
  clear HI1 HB1 hb1 c1
  have c2 := HI2.out.c2
  go_wp2_with fail
  refine (digits_at _ _ x.minute 5 _ rfl rfl (by omega) (by omega) (by decide)).mono ?_
  rintro e w3 ⟨rfl, hb1⟩
  have HI3 : Hid (PsIn w3 w.heap.size x) := HI2.out.later hb1
  have HB3 : Hid (Below w.heap.size w w3) := HB2.out.trans (hb1.mono HB2.out.size)
  clear HI2 HB2 hb1 c2
  have c3 := HI3.out.c3
  go_wp2_with fail
  refine (digits_at _ _ x.att 1 _ rfl rfl (by omega) (by omega) (by decide)).mono ?_
  rintro e w4 ⟨rfl, hb1⟩
  have HI4 : Hid (PsIn w4 w.heap.size x) := HI3.out.later hb1
  have HB4 : Hid (Below w.heap.size w w4) := HB3.out.trans (hb1.mono HB3.out.size)
  clear HI3 HB3 hb1 c3
  have c4 := HI4.out.c4
  go_wp2_with fail
  refine (digits_at _ _ x.frm 5 _ rfl rfl (by omega) (by omega) (by decide)).mono ?_
  rintro e w5 ⟨rfl, hb1⟩
  have HI5 : Hid (PsIn w5 w.heap.size x) := HI4.out.later hb1
  have HB5 : Hid (Below w.heap.size w w5) := HB4.out.trans (hb1.mono HB4.out.size)
  clear HI4 HB4 hb1 c4
  obtain ⟨d0, d1, d2, d3, d4, d5, d6, d7⟩ := HI5.out
  go_wp2_with fail
  refine (runs_any x _).mono ?_
  rintro e w6 ⟨rfl, hb1⟩
  have HB6 : Hid (Below w.heap.size w w6) := HB5.out.trans (hb1.mono HB5.out.size)
  clear HI5 HB5 hb1 d0 d1 d2 d3 d4 d5 d6 d7
  by_cases hr : 0 < x.step
  · have hrd : decide (0 < x.step) = true := decide_eq_true hr
    have HE1 : Hid (Bx.be x.num 2 ++ Bx.be x.line 1 ++ Bx.be x.minute 5 ++ Bx.be x.att 1 ++ Bx.be x.frm 5 ++ Bx.be 1 1 = Bx.encSl (Px.absS x)) := HE.out 1 (by rw [hrd]; rfl)
    clear HE hr
    go_wp2_with fail
    refine (digits_at _ _ 1 1 _ rfl rfl (by omega) (by omega) (by decide)).mono ?_
    rintro e w7 ⟨rfl, hb1⟩
    have HB7 : Hid (Below w.heap.size w w7) := HB6.out.trans (hb1.mono HB6.out.size)
    clear HB6 hb1
    go_wp2_with fail
    go_ret
    exact ⟨ret_str HE1.out, HB7.out⟩
  · have hrd : decide (0 < x.step) = false := decide_eq_false hr
    have HE1 : Hid (Bx.be x.num 2 ++ Bx.be x.line 1 ++ Bx.be x.minute 5 ++ Bx.be x.att 1 ++ Bx.be x.frm 5 ++ Bx.be 0 1 = Bx.encSl (Px.absS x)) := HE.out 0 (by rw [hrd]; rfl)
    clear HE hr
    go_wp2_with fail
    refine (digits_at _ _ 0 1 _ rfl rfl (by omega) (by omega) (by decide)).mono ?_
    rintro e w7 ⟨rfl, hb1⟩
    have HB7 : Hid (Below w.heap.size w w7) := HB6.out.trans (hb1.mono HB6.out.size)
    clear HB6 hb1
    go_wp2_with fail
    go_ret
    exact ⟨ret_str HE1.out, HB7.out⟩
/-- The slots' texts, one behind the other. -/
def encA (x : Px.Sl) : ByteArray := Bx.encSl (Px.absS x)
theorem cat_take {α : Type} (f : α → ByteArray) (l : List α) (k : Nat) (h : k < l.length) : Bx.cat ((l.take (k + 1)).map f) = Bx.cat ((l.take k).map f) ++ f l[k] := by
  rw [List.take_succ_eq_append_getElem h, List.map_append, List.map_cons, List.map_nil, Bx.cat_snoc]
set_option maxRecDepth 10000 in
set_option maxHeartbeats 2000000 in
theorem pslotsPart_any (l : List Px.Sl) (sl : Value) (w : World) (hl : l.length ≤ 255) (hf : ∀ x ∈ l, Bx.SlFit (Px.absS x)) (hS : RowAt w sl l.length (l.flatMap psC)) :
    Calls Tryz.prog 66 #[sl] w fun e w' => e = .returned (.string (Bx.be l.length 1 ++ Bx.cat (l.map encA))) ∧ Below w.heap.size w w' := by
  obtain ⟨ad, cap, rfl, hcap⟩ := hS.form
  have HR : Hid (RowAt w (.slice ad l.length cap) l.length (l.flatMap psC)) := hS
  have HF : Hid (∀ x ∈ l, Bx.SlFit (Px.absS x)) := hf
  clear hS hf
  go_enter Tryz.func66, Tryz.ntmps66
  go_wp2_with fail
  refine (digits_at _ _ (l.length : Int) 1 _ rfl rfl (by omega) (by omega) (by decide)).mono ?_
  rintro e w1 ⟨rfl, hb1⟩
  have HB1 : Hid (Below w.heap.size w w1) := hb1
  clear hb1
  go_wp2_with fail
  go_loopw [3, 4] (fun tv i wr => ∃ k : Nat, k ≤ l.length ∧ i = .int .i64 k ∧ tv = .string (Bx.be l.length 1 ++ Bx.cat ((l.take k).map encA)) ∧ Below w.heap.size w wr) (fun _ i _ => l.length - (intOf i).toNat)
  case atStart => exact ⟨0, Nat.zero_le _, rfl, by simp [Bx.cat], HB1.out⟩
  case round =>
    obtain ⟨k, hk, rfl, rfl, hbr⟩ := hrel
    have HBr : Hid (Below w.heap.size w wr) := hbr
    by_cases hlt : k < l.length
    · obtain ⟨b, off, cap', hv, _, hc⟩ := (HR.out.later hbr).some' (by omega)
      cases hv
      obtain ⟨d0, d1, d2, d3, d4, d5, d6, d7⟩ := ps_cells hc k hlt
      have b1 : (0 : Int) ≤ (k : Int) := by omega
      have b2 : (k : Int) < (l.length : Int) := by omega
      have HFx := HF.out _ (List.getElem_mem hlt)
      have HN : Hid (Bx.be l.length 1 ++ Bx.cat ((l.take (k + 1)).map encA) = (Bx.be l.length 1 ++ Bx.cat ((l.take k).map encA)) ++ Bx.encSl (Px.absS l[k])) := by
        unfold Hid; rw [cat_take encA l k hlt, ByteArray.append_assoc]; rfl
      have hz : (Bx.be l.length 1 ++ Bx.cat ((l.take k).map encA)).size ≤ 10000 := by
        have h1 := Bx.cat_size encA 15 (l.take k) (fun x _ => Bx.encSl_size _)
        have h2 : (l.take k).length ≤ 255 := by simp; omega
        rw [ByteArray.size_append, Bx.be_size, h1]; omega
      have hz2 : (Bx.encSl (Px.absS l[k])).size = 15 := Bx.encSl_size _
      have q9 : ¬ 9223372036854775807 < (Bx.be l.length 1 ++ Bx.cat ((l.take k).map encA)).size + 15 := by omega
      clear hc hbr
      generalize l[k] = x at *
      generalize Bx.be l.length 1 ++ Bx.cat ((l.take k).map encA) = tx at *
      go_wp2_with fail
      refine (pslotPart_any x _ HFx).mono ?_
      rintro e w2 ⟨rfl, hb2⟩
      have HB2 : Hid (Below w.heap.size w w2) := HBr.out.trans (hb2.mono HBr.out.size)
      clear hb2 HBr d0 d1 d2 d3 d4 d5 d6 d7
      generalize Bx.encSl (Px.absS x) = en at *
      go_wp2_with fail
      go_roundw
      case rel => exact ⟨k + 1, by omega, by go_num, by rw [HN.out], HB2.out⟩
      case measure => simp [intOf]; omega
    · obtain rfl : k = l.length := by omega
      have HL : Hid (l.take l.length = l) := List.take_length
      generalize l.take l.length = l' at *
      go_wp2_with fail
      go_ret
      exact ⟨ret_str (by rw [HL.out]), HBr.out⟩
set_option maxRecDepth 10000 in
set_option maxHeartbeats 2000000 in
theorem pendsPart_any (l : List Bx.En) (sl : Value) (w : World) (hl : l.length ≤ 255) (hf : ∀ x ∈ l, Bx.EnFit x) (hS : RowAt w sl l.length (l.flatMap enC)) :
    Calls Tryz.prog 67 #[sl] w fun e w' => e = .returned (.string (Bx.be l.length 1 ++ Bx.cat (l.map Bx.encEn))) ∧ Below w.heap.size w w' := by
  obtain ⟨ad, cap, rfl, hcap⟩ := hS.form
  have HR : Hid (RowAt w (.slice ad l.length cap) l.length (l.flatMap enC)) := hS
  have HF : Hid (∀ x ∈ l, Bx.EnFit x) := hf
  clear hS hf
  go_enter Tryz.func67, Tryz.ntmps67
  go_wp2_with fail
  refine (digits_at _ _ (l.length : Int) 1 _ rfl rfl (by omega) (by omega) (by decide)).mono ?_
  rintro e w1 ⟨rfl, hb1⟩
  have HB1 : Hid (Below w.heap.size w w1) := hb1
  clear hb1
  go_wp2_with fail
  go_loopw [3, 4] (fun tv i wr => ∃ k : Nat, k ≤ l.length ∧ i = .int .i64 k ∧ tv = .string (Bx.be l.length 1 ++ Bx.cat ((l.take k).map Bx.encEn)) ∧ Below w.heap.size w wr) (fun _ i _ => l.length - (intOf i).toNat)
  case atStart => exact ⟨0, Nat.zero_le _, rfl, by simp [Bx.cat], HB1.out⟩
  case round =>
    obtain ⟨k, hk, rfl, rfl, hbr⟩ := hrel
    have HBr : Hid (Below w.heap.size w wr) := hbr
    by_cases hlt : k < l.length
    · obtain ⟨b, off, cap', hv, _, hc⟩ := (HR.out.later hbr).some' (by omega)
      cases hv
      have d0 : wr.cell? ⟨b, off + k * 2, none⟩ = some (.int .i64 l[k].num) := RowAt.cell enC_len hc k hlt 0 (by decide)
      have d1 : wr.cell? ⟨b, off + k * 2 + 1, none⟩ = some (.string l[k].how) := RowAt.cell enC_len hc k hlt 1 (by decide)
      have b1 : (0 : Int) ≤ (k : Int) := by omega
      have b2 : (k : Int) < (l.length : Int) := by omega
      have HFx := HF.out _ (List.getElem_mem hlt)
      obtain ⟨e1, e2⟩ := HFx.n
      have hh := HFx.h
      have HN : Hid (Bx.be l.length 1 ++ Bx.cat ((l.take (k + 1)).map Bx.encEn) = (Bx.be l.length 1 ++ Bx.cat ((l.take k).map Bx.encEn)) ++ Bx.be l[k].num 2 ++ l[k].how) := by
        unfold Hid; rw [cat_take Bx.encEn l k hlt]; unfold Bx.encEn; simp only [ByteArray.append_assoc]
      have hz : (Bx.be l.length 1 ++ Bx.cat ((l.take k).map Bx.encEn)).size ≤ 10000 := by
        have h1 := Bx.cat_size Bx.encEn 3 (l.take k) (fun x hx => by unfold Bx.encEn; rw [ByteArray.size_append, Bx.be_size, (HF.out x (List.mem_of_mem_take hx)).h])
        have h2 : (l.take k).length ≤ 255 := by simp; omega
        rw [ByteArray.size_append, Bx.be_size, h1]; omega
      have q8 : ¬ 9223372036854775807 < (Bx.be l.length 1 ++ Bx.cat ((l.take k).map Bx.encEn)).size + 2 := by omega
      have q9 : ¬ 9223372036854775807 < (Bx.be l.length 1 ++ Bx.cat ((l.take k).map Bx.encEn)).size + 2 + l[k].how.size := by omega
      have HLt : Hid (b < wr.heap.size) := World.block_lt_of_cell? _ _ d0
      clear hc hbr HFx hh
      generalize l[k] = x at *
      generalize Bx.be l.length 1 ++ Bx.cat ((l.take k).map Bx.encEn) = tx at *
      go_wp2_with fail
      refine (digits_at _ _ x.num 2 _ rfl rfl (by omega) (by omega) (by decide)).mono ?_
      rintro e w2 ⟨rfl, hb2⟩
      have HB2 : Hid (Below w.heap.size w w2) := HBr.out.trans (hb2.mono HBr.out.size)
      have d1' := cell_later hb2 d1
      clear hb2 HBr d0 d1
      go_wp2_with fail
      go_roundw
      case rel => exact ⟨k + 1, by omega, by go_num, by rw [HN.out], HB2.out⟩
      case measure => simp [intOf]; omega
    · obtain rfl : k = l.length := by omega
      have HL : Hid (l.take l.length = l) := List.take_length
      generalize l.take l.length = l' at *
      go_wp2_with fail
      go_ret
      exact ⟨ret_str (by rw [HL.out]), HBr.out⟩
end Go.Proofs.YtdajolpoiffimabGreatDoor

namespace Go.Proofs.YtdajolpoiffimabGreatDoor
open Go.RowKit

def slotA (l : List Px.Sl) (i : Int) : Px.Sl × Int := if 0 ≤ i ∧ i < (l.length : Int) then (l.getD i.toNat Px.sl0, 0) else (Px.sl0, 4)
def endA (l : List Bx.En) (i : Int) : Bx.En × Int := if 0 ≤ i ∧ i < (l.length : Int) then (l.getD i.toNat ⟨0, ByteArray.empty⟩, 0) else (⟨0, ByteArray.empty⟩, 4)
theorem slotA_no {l : List Px.Sl} {i : Int} (h : i < 0 ∨ (l.length : Int) ≤ i) : slotA l i = (Px.sl0, 4) := if_neg (by omega)
theorem slotA_yes {l : List Px.Sl} {k : Nat} (h : k < l.length) : slotA l (k : Int) = (l[k], 0) := by
  unfold slotA; rw [if_pos (by omega), Int.toNat_natCast]; simp [h]
theorem endA_no {l : List Bx.En} {i : Int} (h : i < 0 ∨ (l.length : Int) ≤ i) : endA l i = (⟨0, ByteArray.empty⟩, 4) := if_neg (by omega)
theorem endA_yes {l : List Bx.En} {k : Nat} (h : k < l.length) : endA l (k : Int) = (l[k], 0) := by
  unfold endA; rw [if_pos (by omega), Int.toNat_natCast]; simp [h]
theorem slotR_eq {l : List Px.Sl} {i : Int} {e : Ending} (h : SlotR l i e) : e = .returned (.tuple #[paslV (slotA l i).1, .int .i64 (slotA l i).2]) := by
  cases h with
  | no h => rw [slotA_no h]; rfl
  | yes k hk h => subst h; rw [slotA_yes hk]
abbrev enV (x : Bx.En) : Value := .agg #[.int .i64 x.num, .string x.how]
theorem endR_eq {l : List Bx.En} {i : Int} {e : Ending} (h : EndR l i e) : e = .returned (.tuple #[enV (endA l i).1, .int .i64 (endA l i).2]) := by
  cases h with
  | no h => rw [endA_no h]; rfl
  | yes k hk h => subst h; rw [endA_yes hk]
theorem xslot_any (b : Px.Bo) (B : Nat) (i : Int) (w : World) (hO : Px.Ok b.st) (hB : ∃ sl en, PB w B b sl en) :
    Calls Tryz.prog 32 #[.pointer (some ⟨B, 0, none⟩), .int .i64 i] w fun e w' => e = .returned (.tuple #[paslV (slotA b.st.slots i).1, .int .i64 (slotA b.st.slots i).2]) ∧ Below w.heap.size w w' := by
  obtain ⟨sl, en, hB⟩ := hB
  exact (pslot_any b B i sl en w (by have := hO.len; omega) hB).mono fun e w' h => ⟨slotR_eq h.1, h.2⟩
theorem xend_any (b : Px.Bo) (B : Nat) (i : Int) (w : World) (hO : Px.Ok b.st) (hB : ∃ sl en, PB w B b sl en) :
    Calls Tryz.prog 33 #[.pointer (some ⟨B, 0, none⟩), .int .i64 i] w fun e w' => e = .returned (.tuple #[enV (endA b.st.ends i).1, .int .i64 (endA b.st.ends i).2]) ∧ Below w.heap.size w w' := by
  obtain ⟨sl, en, hB⟩ := hB
  exact (pend_any b B i sl en w (by have : b.st.ends.length ≤ 6 := hO.st.en; omega) hB).mono fun e w' h => ⟨endR_eq h.1, h.2⟩
theorem xlook_any (b : Px.Bo) (B : Nat) (w : World) (hB : ∃ sl en, PB w B b sl en) :
    Calls Tryz.prog 23 #[.pointer (some ⟨B, 0, none⟩)] w fun e w' => e = .returned (pviewV b.st) ∧ Below w.heap.size w w' := by
  obtain ⟨sl, en, hB⟩ := hB; exact plook_any b B sl en w hB
theorem xlog_any (b : Px.Bo) (B : Nat) (w : World) (hB : ∃ sl en, PB w B b sl en) :
    Calls Tryz.prog 8 #[.pointer (some ⟨B, 0, none⟩)] w fun e w' => e = .returned (.string b.log) ∧ w' = w := by
  obtain ⟨sl, en, hB⟩ := hB; exact plog_any b B sl en w hB
end Go.Proofs.YtdajolpoiffimabGreatDoor

namespace Go.Proofs.YtdajolpoiffimabGreatDoor
open Go.RowKit

/-- A field of a line holds a value: the call, at a world that holds the line. -/
theorem lineField_any (s : ByteArray) (bb cc : Nat → Nat) (t : Nat) (v : Int) (w : World) (x : Bool) (hx : x = Txt.hldB (lo t) (hi t) v (pt s t)) (hs : s.size ≤ 300) (ht : t < 5) (hP : LineP s) (hA : LineAt w s bb cc) (v1 : 0 ≤ v) (v2 : v ≤ 60) :
    Calls Tryz.prog 163 #[.agg #[.bool (Txt.opn (pt s t)), .slice (some ⟨bb t, 0, none⟩) (Txt.pcs 44 (pt s t)).length (cc t)], .int .i64 v] w fun e w' => e = .returned (.bool x) ∧ Below w.heap.size w w' :=
  hx ▸ fieldHolds_any (pt s t) (lo t) (hi t) v _ (bb t) (cc t) w (hP.sz hs t ht) (lohi t).1 (lohi t).2.2.2 v1 v2 (hP.fl t ht) (hA t ht).2 (hA t ht).1

set_option maxHeartbeats 2000000 in
theorem dueOnDay_any (s : ByteArray) (bb cc : Nat → Nat) (ads : Option Addr) (ns caps : Nat) (y m d h i k : Int) (w : World) (hs : s.size ≤ 300) (hP : LineP s) (hA : LineAt w s bb cc) (d1 : 0 ≤ d) (d2 : d ≤ 60) (k1 : 0 ≤ k) (k2 : k ≤ 60) :
    Calls Tryz.prog 164 #[lineV s bb cc (.slice ads ns caps), dateV y m d h i k] w fun e w' => e = .returned (.bool (dayB s d k)) ∧ Below w.heap.size w w' := by
  have HP : Hid (LineP s) := hP
  have HA : Hid (∀ o1 o2, LineAt ((w.alloc o1).alloc o2) s bb cc) := fun o1 o2 => (hA.later (below_alloc _ _)).later (below_alloc _ _)
  obtain ⟨x, hx⟩ : ∃ x : Bool, x = Txt.hldB (lo 2) (hi 2) d (pt s 2) := ⟨_, rfl⟩
  obtain ⟨z, hz⟩ : ∃ z : Bool, z = Txt.hldB (lo 4) (hi 4) k (pt s 4) := ⟨_, rfl⟩
  have HX : Hid (x = Txt.hldB (lo 2) (hi 2) d (pt s 2)) := hx
  have HZ : Hid (z = Txt.hldB (lo 4) (hi 4) k (pt s 4)) := hz
  have HD : Hid (dayB s d k = if (Txt.opn (pt s 2) || Txt.opn (pt s 4)) = true then (x && z) else (x || z)) := by unfold Hid; rw [dayB, hx, hz]
  clear hx hz
  clear hP hA
  go_enter Tryz.func164, Tryz.ntmps164
  go_wp2_with fail
  refine (lineField_any s bb cc 2 _ _ x HX.out hs (by decide) HP.out (HA.out _ _) d1 d2).mono ?_
  rintro e w1 ⟨rfl, hb1⟩
  have HA1 : Hid (LineAt w1 s bb cc) := (HA.out _ _).later hb1
  have B1 : Hid (Below w.heap.size w w1) := ((below_alloc w _).alloc (by simp) _).trans (hb1.mono (by simp; omega))
  obtain ⟨hc1, hf1⟩ := bcell hb1
  have hz1 : w.heap.size + 1 < w1.heap.size := by have := hb1.size; simp at this; omega
  have hz0 : w.heap.size < w1.heap.size := by omega
  clear hb1 HA
  go_wp2_with fail
  refine (lineField_any s bb cc 4 _ _ z HZ.out hs (by decide) HP.out HA1.out k1 k2).mono ?_
  rintro e w2 ⟨rfl, hb2⟩
  have B2 : Hid (Below w.heap.size w w2) := B1.out.trans (hb2.mono (by omega))
  obtain ⟨hc2, hf2⟩ := bcell hb2
  clear hb2
  clear HX HZ
  have leaf : ∀ r : Bool, r = dayB s d k → Hid (r = dayB s d k) := fun _ h => h
  cases ho2 : Txt.opn (pt s 2)
  · cases ho4 : Txt.opn (pt s 4)
    · have D : Hid ((x || z) = dayB s d k) := by unfold Hid; rw [HD.out, ho2, ho4]; rfl
      clear HD leaf
      cases x
      · go_wp2_with fail
        go_ret
        exact ⟨ret_bool' D.out, B2.out⟩
      · go_wp2_with fail
        go_ret
        exact ⟨ret_bool' D.out, B2.out⟩
    · have D : Hid ((x && z) = dayB s d k) := by unfold Hid; rw [HD.out, ho2, ho4]; rfl
      clear HD leaf
      cases x
      · go_wp2_with fail
        go_ret
        exact ⟨ret_bool' D.out, B2.out⟩
      · go_wp2_with fail
        go_ret
        exact ⟨ret_bool' D.out, B2.out⟩
  · have D : Hid ((x && z) = dayB s d k) := by unfold Hid; rw [HD.out, ho2]; rfl
    clear HD leaf
    cases x
    · go_wp2_with fail
      go_ret
      exact ⟨ret_bool' D.out, B2.out⟩
    · go_wp2_with fail
      go_ret
      exact ⟨ret_bool' D.out, B2.out⟩

set_option maxHeartbeats 2000000 in
theorem due_any (s : ByteArray) (bb cc : Nat → Nat) (ads : Option Addr) (ns caps : Nat) (y m d h i k : Int) (w : World) (hs : s.size ≤ 300) (hP : LineP s) (hA : LineAt w s bb cc) (m1 : 0 ≤ m) (m2 : m ≤ 60) (d1 : 0 ≤ d) (d2 : d ≤ 60) (h1 : 0 ≤ h) (h2 : h ≤ 60) (i1 : 0 ≤ i) (i2 : i ≤ 60) (k1 : 0 ≤ k) (k2 : k ≤ 60) :
    Calls Tryz.prog 124 #[lineV s bb cc (.slice ads ns caps), dateV y m d h i k] w fun e w' => e = .returned (.bool (dueB s m d h i k)) ∧ Below w.heap.size w w' := by
  have HP : Hid (LineP s) := hP
  have HA : Hid (∀ o1 o2, LineAt ((w.alloc o1).alloc o2) s bb cc) := fun o1 o2 => (hA.later (below_alloc _ _)).later (below_alloc _ _)
  obtain ⟨x, hx⟩ : ∃ x : Bool, x = Txt.hldB (lo 0) (hi 0) i (pt s 0) := ⟨_, rfl⟩
  obtain ⟨y', hy⟩ : ∃ x : Bool, x = Txt.hldB (lo 1) (hi 1) h (pt s 1) := ⟨_, rfl⟩
  obtain ⟨z, hz⟩ : ∃ z : Bool, z = Txt.hldB (lo 3) (hi 3) m (pt s 3) := ⟨_, rfl⟩
  have HX : Hid (x = Txt.hldB (lo 0) (hi 0) i (pt s 0)) := hx
  have HY : Hid (y' = Txt.hldB (lo 1) (hi 1) h (pt s 1)) := hy
  have HZ : Hid (z = Txt.hldB (lo 3) (hi 3) m (pt s 3)) := hz
  have HD : Hid (dueB s m d h i k = (x && (y' && (z && dayB s d k)))) := by unfold Hid; rw [dueB, hx, hy, hz]
  clear hP hA hx hy hz
  go_enter Tryz.func124, Tryz.ntmps124
  go_wp2_with fail
  refine (lineField_any s bb cc 0 _ _ x HX.out hs (by decide) HP.out (HA.out _ _) i1 i2).mono ?_
  rintro e w1 ⟨rfl, hb1⟩
  have HA1 : Hid (LineAt w1 s bb cc) := (HA.out _ _).later hb1
  have B1 : Hid (Below w.heap.size w w1) := ((below_alloc w _).alloc (by simp) _).trans (hb1.mono (by simp; omega))
  obtain ⟨hc1, hf1⟩ := bcell hb1
  have hz1 : w.heap.size + 1 < w1.heap.size := by have := hb1.size; simp at this; omega
  have hz0 : w.heap.size < w1.heap.size := by omega
  clear hb1 HA HX
  cases x
  · have D : Hid (false = dueB s m d h i k) := by unfold Hid; rw [HD.out]; rfl
    clear HD
    go_wp2_with fail
    go_ret
    exact ⟨ret_bool' D.out, B1.out⟩
  go_wp2_with fail
  refine (lineField_any s bb cc 1 _ _ y' HY.out hs (by decide) HP.out HA1.out h1 h2).mono ?_
  rintro e w2 ⟨rfl, hb2⟩
  have HA2 : Hid (LineAt w2 s bb cc) := HA1.out.later hb2
  have B2 : Hid (Below w.heap.size w w2) := B1.out.trans (hb2.mono (by omega))
  obtain ⟨hc2, hf2⟩ := bcell hb2
  have hz2 : w.heap.size + 1 < w2.heap.size := by have := hb2.size; omega
  have hz20 : w.heap.size < w2.heap.size := by omega
  clear hb2 HA1 HY
  cases y'
  · have D : Hid (false = dueB s m d h i k) := by unfold Hid; rw [HD.out]; rfl
    clear HD
    go_wp2_with fail
    go_ret
    exact ⟨ret_bool' D.out, B2.out⟩
  go_wp2_with fail
  refine (lineField_any s bb cc 3 _ _ z HZ.out hs (by decide) HP.out HA2.out m1 m2).mono ?_
  rintro e w3 ⟨rfl, hb3⟩
  have HA3 : Hid (LineAt w3 s bb cc) := HA2.out.later hb3
  have B3 : Hid (Below w.heap.size w w3) := B2.out.trans (hb3.mono (by omega))
  obtain ⟨hc3, hf3⟩ := bcell hb3
  have hz3 : w.heap.size + 1 < w3.heap.size := by have := hb3.size; omega
  clear hb3 HA2 HZ
  cases z
  · have D : Hid (false = dueB s m d h i k) := by unfold Hid; rw [HD.out]; rfl
    clear HD
    go_wp2_with fail
    go_ret
    exact ⟨ret_bool' D.out, B3.out⟩
  have D : Hid (dayB s d k = dueB s m d h i k) := by unfold Hid; rw [HD.out]; rfl
  clear HD
  go_wp2_with fail
  refine (dueOnDay_any s bb cc ads ns caps y m d h i k _ hs HP.out HA3.out d1 d2 k1 k2).mono ?_
  rintro e w4 ⟨rfl, hb4⟩
  have B4 : Hid (Below w.heap.size w w4) := B3.out.trans (hb4.mono (by omega))
  clear hb4
  go_wp2_with fail
  go_ret
  exact ⟨ret_bool' D.out, B4.out⟩
end Go.Proofs.YtdajolpoiffimabGreatDoor

namespace Go.Proofs.YtdajolpoiffimabGreatDoor
open Go.RowKit

attribute [local go_sem ↓] Go.wp_at_zero Go.wp_at_succ

set_option maxHeartbeats 1000000 in
theorem ccheck_any (s : ByteArray) (w : World) (hs : s.size ≤ maxLen) (hT : TabLH w) :
    Calls Tryz.prog 43 #[.string s] w fun e w' => (∃ a r : Int, e = .returned (.tuple #[.int .i64 a, .int .i64 r]) ∧ ChkR s a r) ∧ Below w.heap.size w w' := by
  have HT : Hid (TabLH w) := hT
  have HS : Hid (s.size ≤ maxLen) := hs
  clear hT hs
  go_enter Tryz.func43, Tryz.ntmps43
  go_wp2_with fail
  refine (read_any _ _ HS.out HT.out).mono ?_
  rintro e w1 ⟨⟨a, r, ad, n, c, rfl, hC, hL⟩, hb⟩
  have K : Hid (ChkR s a r) := hC
  clear hL hC
  go_wp2_with fail
  go_quiet (fail)
  go_wp2_with fail
  go_ret2
  exact ⟨⟨a, r, rfl, K.out⟩, below_drewN (hb.alloc hb.size _) _⟩
end Go.Proofs.YtdajolpoiffimabGreatDoor

namespace Go.Proofs.YtdajolpoiffimabGreatDoor
open Go.RowKit

set_option maxHeartbeats 1000000 in
theorem pahead_any (s : Px.St) (m : Int) (sl en : Value) (w : World) (c1 : -1 ≤ s.clock) (c2 : s.clock ≤ 4223371679) (m1 : 0 ≤ m) (m2 : m ≤ 4223371679) (hS : PAt w s sl en) :
    Calls Tryz.prog 85 #[pstV s sl en, .int .i64 m] w fun e w' => e = .returned (.bool (Px.aheadP s m)) ∧ Below w.heap.size w w' := by
  obtain ⟨ad, cap, rfl, hcap⟩ := hS.sl.form
  obtain ⟨ad2, cap2, rfl, hcap2⟩ := hS.en.form
  clear hS
  by_cases h1 : m ≤ s.clock
  · have HM : Hid (Px.aheadP s m = false) := decide_eq_false (by omega)
    go_enter Tryz.func85, Tryz.ntmps85
    go_wp2_with fail
    go_ret
    exact ⟨ret_bool' HM.out.symm, below_alloc _ _⟩
  by_cases h2 : s.clock = -1
  · have HM : Hid (Px.aheadP s m = true) := decide_eq_true (by omega)
    have h2' : (s.clock == -1) = true := by simpa using h2
    clear h2
    go_enter Tryz.func85, Tryz.ntmps85
    go_wp2_with fail
    go_ret
    exact ⟨ret_bool' HM.out.symm, below_alloc _ _⟩
  have h2' : (s.clock == -1) = false := by simpa using h2
  by_cases h3 : m - s.clock ≤ 1500
  · have HM : Hid (Px.aheadP s m = true) := decide_eq_true (by omega)
    clear h2
    go_enter Tryz.func85, Tryz.ntmps85
    go_wp2_with fail
    go_ret
    exact ⟨ret_bool' HM.out.symm, below_alloc _ _⟩
  · have HM : Hid (Px.aheadP s m = false) := decide_eq_false (by omega)
    clear h2
    go_enter Tryz.func85, Tryz.ntmps85
    go_wp2_with fail
    go_ret
    exact ⟨ret_bool' HM.out.symm, below_alloc _ _⟩
set_option maxHeartbeats 1000000 in
theorem firstNew_any (s : Px.St) (m : Int) (sl en : Value) (w : World) (c1 : -1 ≤ s.clock) (c2 : s.clock ≤ 4223371679) (hS : PAt w s sl en) :
    Calls Tryz.prog 87 #[pstV s sl en, .int .i64 m] w fun e w' => e = .returned (.int .i64 (Px.newA s m)) ∧ Below w.heap.size w w' := by
  obtain ⟨ad, cap, rfl, hcap⟩ := hS.sl.form
  obtain ⟨ad2, cap2, rfl, hcap2⟩ := hS.en.form
  clear hS
  by_cases h2 : s.clock = -1
  · have HM : Hid (Px.newA s m = m) := if_pos h2
    have h2' : (s.clock == -1) = true := by simpa using h2
    clear h2
    go_enter Tryz.func87, Tryz.ntmps87
    go_wp2_with fail
    go_ret
    exact ⟨ret_int' HM.out.symm, below_alloc _ _⟩
  · have HM : Hid (Px.newA s m = s.clock + 1) := if_neg h2
    have h2' : (s.clock == -1) = false := by simpa using h2
    clear h2
    go_enter Tryz.func87, Tryz.ntmps87
    go_wp2_with fail
    go_ret
    exact ⟨ret_int' HM.out.symm, below_alloc _ _⟩
set_option maxHeartbeats 1000000 in
theorem pcounts_any (l : ByteArray) (bb cc : Nat → Nat) (ads : Option Addr) (ns caps : Nat) (now later : Bool) (w : World) :
    Calls Tryz.prog 125 #[lineV l bb cc (.slice ads ns caps), .bool now, .bool later] w fun e w' => e = .returned (.bool (Px.cntB (obt (pt l 5) 1) now later)) ∧ Below w.heap.size w w' := by
  have HM : Hid (∀ c, Px.cntB c now later = if c = 108 then !later else if c = 110 then now else true) := fun _ => rfl
  cases h1 : (obt (pt l 5) 1 == 108)
  · have n1 : ¬ obt (pt l 5) 1 = 108 := by simpa using h1
    cases h2 : (obt (pt l 5) 1 == 110)
    · have n2 : ¬ obt (pt l 5) 1 = 110 := by simpa using h2
      have HV : Hid (Px.cntB (obt (pt l 5) 1) now later = true) := by unfold Hid; rw [HM.out, if_neg n1, if_neg n2]
      clear n1 n2 HM
      go_enter Tryz.func125, Tryz.ntmps125
      go_wp2_with fail
      go_ret
      exact ⟨ret_bool' HV.out.symm, below_alloc _ _⟩
    · have n2 : obt (pt l 5) 1 = 110 := by simpa using h2
      have HV : Hid (Px.cntB (obt (pt l 5) 1) now later = now) := by unfold Hid; rw [HM.out, if_neg n1, if_pos n2]
      clear n1 n2 HM
      go_enter Tryz.func125, Tryz.ntmps125
      go_wp2_with fail
      go_ret
      exact ⟨ret_bool' HV.out.symm, below_alloc _ _⟩
  · have n1 : obt (pt l 5) 1 = 108 := by simpa using h1
    have HV : Hid (Px.cntB (obt (pt l 5) 1) now later = !later) := by unfold Hid; rw [HM.out, if_pos n1]
    clear n1 HM
    go_enter Tryz.func125, Tryz.ntmps125
    go_wp2_with fail
    go_ret
    exact ⟨ret_bool' HV.out.symm, below_alloc _ _⟩

/-- An arrival's cells. -/
def arC (p : Nat × Int) : List Value := [.int .i64 ((p.1 : Int) + 1), .int .i64 p.2]
theorem arC_len (p : Nat × Int) : (arC p).length = 2 := rfl
theorem arC_one (p : Nat × Int) : ∀ u ∈ arC p, u.oneCell' = true := by intro u hu; simp [arC] at hu; rcases hu with rfl | rfl <;> rfl
theorem info_ar : (Tryz.prog.info? 141).map (fun i => (i.zero, i.size, i.bytes)) = some (some (.agg #[.int .i64 0, .int .i64 0]), 2, 16) := by kernel_rfl
/-- Which lines have been met, in a block of its own. -/
def MetAt (w : World) (M : Nat) (f : Nat → Bool) : Prop := w.heap[M]? = some (.cells #[.bool (f 0), .bool (f 1), .bool (f 2), .bool (f 3)] 192 (0, 0))
theorem MetAt.lt {w : World} {M : Nat} {f : Nat → Bool} (h : MetAt w M f) : M < w.heap.size := heap_lt h
theorem MetAt.cell {w : World} {M : Nat} {f : Nat → Bool} (h : MetAt w M f) (i : Nat) (hi : i < 4) : w.cell? ⟨M, i, none⟩ = some (.bool (f i)) ∧ w.frozen? ⟨M, i, none⟩ = false := by
  constructor
  · rw [cell_of_row _ _ i _ _ (0, 0) h]
    match i, hi with
    | 0, _ => rfl
    | 1, _ => rfl
    | 2, _ => rfl
    | 3, _ => rfl
  · unfold World.frozen?; rw [h]; simp
theorem MetAt.later {w w' : World} {M : Nat} {f : Nat → Bool} (h : MetAt w M f) (hb : Below w.heap.size w w') : MetAt w' M f := (hb.block M h.lt).trans h
theorem MetAt.grown {w w' : World} {M base size n : Nat} {f : Nat → Bool} {v : Value} {xs : List Value} (h : MetAt w M f) (ho : w.ownsRow base 141 size v n xs) (hg : w.grownBy w' v.ownBlock) : MetAt w' M f := by
  refine (hg.block M h.lt ?_).trans h
  intro e
  rcases ho.2 with ⟨rfl, _⟩ | ⟨g, cap, cur, rfl, _, hg', _⟩
  · cases e
  · have : M = g := by simpa [Value.ownBlock] using e
    subst this
    rw [h] at hg'; cases hg'
theorem MetAt.set {w : World} {M : Nat} {f : Nat → Bool} (h : MetAt w M f) (i : Nat) (hi : i < 4) (b : Bool) : MetAt (w.setCell ⟨M, i, none⟩ (.bool b)) M (fun j => if j = i then b else f j) := by
  unfold MetAt at h ⊢
  have : (w.setCell ⟨M, i, none⟩ (.bool b)).heap[M]? = some (.cells (#[.bool (f 0), .bool (f 1), .bool (f 2), .bool (f 3)].setIfInBounds i (.bool b)) 192 (0, 0)) := by
    simp [World.setCell, Array.getElem?_modify, h]
  rw [this]
  match i, hi with
  | 0, _ => rfl
  | 1, _ => rfl
  | 2, _ => rfl
  | 3, _ => rfl
theorem MetAt.new (w : World) : MetAt (w.alloc (.cells #[.bool false, .bool false, .bool false, .bool false] 192)) w.heap.size (fun _ => false) := by
  unfold MetAt; show (w.heap.push _)[w.heap.size]? = _; simp
end Go.Proofs.YtdajolpoiffimabGreatDoor

namespace Go.Proofs.YtdajolpoiffimabGreatDoor
open Go.RowKit

/-- A block that holds just these cells. -/
def BlkAt (w : World) (q : Nat) (cs : Array Value) (e : TypeId) : Prop := w.heap[q]? = some (.cells cs e (0, 0))
theorem BlkAt.lt {w : World} {q : Nat} {cs : Array Value} {e : TypeId} (h : BlkAt w q cs e) : q < w.heap.size := heap_lt h
theorem BlkAt.new (w : World) (cs : Array Value) (e : TypeId) : BlkAt (w.alloc (.cells cs e)) w.heap.size cs e := by unfold BlkAt; show (w.heap.push _)[w.heap.size]? = _; simp
theorem BlkAt.later {w w' : World} {q : Nat} {cs : Array Value} {e : TypeId} (h : BlkAt w q cs e) (hb : Below w.heap.size w w') : BlkAt w' q cs e := (hb.block q h.lt).trans h
theorem BlkAt.cell {w : World} {q : Nat} {cs : Array Value} {e : TypeId} (h : BlkAt w q cs e) (i : Nat) (hi : i < cs.size) : w.cell? ⟨q, i, none⟩ = some cs[i] := by
  rw [cell_of_row _ _ i _ _ (0, 0) h]; simp [hi]
theorem BlkAt.grown {w w' : World} {q base size n : Nat} {cs : Array Value} {e e' : TypeId} {v : Value} {xs : List Value} (h : BlkAt w q cs e) (ho : w.ownsRow base e' size v n xs) (hg : w.grownBy w' v.ownBlock) (hne : e ≠ e') : BlkAt w' q cs e := by
  refine (hg.block q h.lt ?_).trans h
  intro eq
  rcases ho.2 with ⟨rfl, _⟩ | ⟨g, cap, cur, rfl, _, hg', _⟩
  · cases eq
  · have : q = g := by simpa [Value.ownBlock] using eq
    subst this
    rw [h] at hg'; cases hg'; exact hne rfl
theorem BlkAt.other {w : World} {q M : Nat} {cs : Array Value} {e : TypeId} (h : BlkAt w q cs e) (hne : q ≠ M) (j : Nat) (u : Value) : BlkAt (w.setCell ⟨M, j, none⟩ u) q cs e := (Below.heap_setCell _ _ _ _ hne).trans h
/-- A cell of a block that is not the row's is written. -/
theorem own_other {w : World} {M base size n : Nat} {e : TypeId} {f : Nat → Bool} {v : Value} {xs : List Value} (ho : w.ownsRow base e size v n xs) (h : MetAt w M f) (hne : e ≠ 192) (j : Nat) (u : Value) : (w.setCell ⟨M, j, none⟩ u).ownsRow base e size v n xs := by
  refine ⟨ho.1, ?_⟩
  rcases ho.2 with h2 | ⟨g, cap, cur, hv, hbase, hg, h3⟩
  · exact Or.inl h2
  · refine Or.inr ⟨g, cap, cur, hv, hbase, ?_, h3⟩
    have hgm : g ≠ M := by
      intro eq; subst eq
      unfold MetAt at h; rw [hg] at h; cases h; exact hne rfl
    exact (Below.heap_setCell _ _ _ _ hgm).trans hg
/-- What holds while the minutes are gone through. -/
structure LfIn (w wr : World) (v : Value) (out : List (Nat × Int)) (f : Nat → Bool) : Prop where
  own : wr.ownsRow w.heap.size 141 2 v out.length (out.reverse.flatMap arC)
  met : MetAt wr (w.heap.size + 1) f
  bel : Below w.heap.size w wr
theorem LfIn.later {w wr w' : World} {v : Value} {out : List (Nat × Int)} {f : Nat → Bool} (h : LfIn w wr v out f) (hb : Below wr.heap.size wr w') : LfIn w w' v out f :=
  ⟨own_below h.own hb, h.met.later hb, h.bel.trans (hb.mono h.bel.size)⟩
theorem LfIn.start (w : World) : LfIn w ((w.alloc (.cells #[] 141)).alloc (.cells #[.bool false, .bool false, .bool false, .bool false] 192)) (.slice (some ⟨w.heap.size, 0, none⟩) 0 0) [] (fun _ => false) := by
  have h := MetAt.new (w.alloc (.cells #[] 141))
  exact ⟨(own_empty w 141 2).alloc _, by simpa using h, (below_alloc w _).alloc (by simp) _⟩
theorem LfIn.met' {w wr : World} {v : Value} {out : List (Nat × Int)} {f : Nat → Bool} (h : LfIn w wr v out f) (i : Nat) (hi : i < 4) : LfIn w (wr.setCell ⟨w.heap.size + 1, i, none⟩ (.bool true)) v out (fun j => if j = i then true else f j) :=
  ⟨own_other h.own h.met (by decide) _ _, h.met.set i hi true, h.bel.setCell (by simp) _⟩
theorem LfIn.app {w wr w' : World} {v v' : Value} {out : List (Nat × Int)} {p : Nat × Int} {f : Nat → Bool} (h : LfIn w wr v out f) (hg : wr.grownBy w' v.ownBlock) (ho : w'.ownsRow w.heap.size 141 2 v' (out.length + 1) (out.reverse.flatMap arC ++ arC p)) : LfIn w w' v' (p :: out) f :=
  ⟨by simpa [List.flatMap_append] using ho, h.met.grown h.own hg, h.bel.grown hg h.bel.size (fun k e => (h.own.lt k e).1)⟩
theorem arC_new (w : World) (i : Nat) (t : Int) (e : TypeId) : ∀ j u, (arC (i, t))[j]? = some u → (w.alloc (.cells #[.int .i64 ((i : Int) + 1), .int .i64 t] e)).cell? ((⟨w.heap.size, 0, none⟩ : Addr).add j) = some u := by
  intro j u hj
  match j, hj with
  | 0, hj => simp [arC] at hj; subst hj; simp [Addr.add, go_sem]
  | 1, hj => simp [arC] at hj; subst hj; simp [Addr.add, go_sem]
theorem lns_len (tab : ByteArray) : (Bx.lns tab).length = tn tab := by unfold Bx.lns; rw [List.length_map, Bx.linesOf_len]
theorem lns_at (tab : ByteArray) (k : Nat) (h : k < (Bx.lns tab).length) : (Bx.lns tab)[k] = lnOf (tl tab k) := by
  have h' : k < (Bx.linesOf tab).length := by rw [lns_len] at h; rw [Bx.linesOf_len]; exact h
  show ((Bx.linesOf tab).map lnOf)[k]'(by simpa using h') = _
  rw [List.getElem_map, Bx.linesOf_at tab k h']

theorem due_x (s : ByteArray) (bb cc : Nat → Nat) (ads : Option Addr) (ns caps : Nat) (y m d h i k : Int) (w : World) (x : Bool) (hx : x = dueB s m d h i k) (hs : s.size ≤ 300) (hP : LineP s) (hA : LineAt w s bb cc) (m1 : 0 ≤ m) (m2 : m ≤ 60) (d1 : 0 ≤ d) (d2 : d ≤ 60) (h1 : 0 ≤ h) (h2 : h ≤ 60) (i1 : 0 ≤ i) (i2 : i ≤ 60) (k1 : 0 ≤ k) (k2 : k ≤ 60) :
    Calls Tryz.prog 124 #[lineV s bb cc (.slice ads ns caps), dateV y m d h i k] w fun e w' => e = .returned (.bool x) ∧ Below w.heap.size w w' :=
  hx ▸ due_any s bb cc ads ns caps y m d h i k w hs hP hA m1 m2 d1 d2 h1 h2 i1 i2 k1 k2
theorem counts_x (l : ByteArray) (bb cc : Nat → Nat) (ads : Option Addr) (ns caps : Nat) (now later : Bool) (w : World) (z : Bool) (hz : z = Px.cntB (obt (pt l 5) 1) now later) :
    Calls Tryz.prog 125 #[lineV l bb cc (.slice ads ns caps), .bool now, .bool later] w fun e w' => e = .returned (.bool z) ∧ Below w.heap.size w w' := hz ▸ pcounts_any l bb cc ads ns caps now later w
set_option maxRecDepth 10000 in
set_option maxHeartbeats 8000000 in
theorem latestFirst_any (tab : ByteArray) (g c : Nat) (a m : Int) (w : World) (hC : ChkR tab 0 0) (a0 : 0 ≤ a) (ha : a ≤ m) (hm : m ≤ 4223371679) (hj : m - a ≤ 1500) (hM : Tab w) (hL : PLinesAt w g tab) :
    Calls Tryz.prog 88 #[.slice (some ⟨g, 0, none⟩) (tn tab) c, .int .i64 a, .int .i64 m] w fun e w' => (∃ v, e = .returned v ∧ w'.ownsRow w.heap.size 141 2 v (Bx.comes (Bx.lns tab) a m).length ((Bx.comes (Bx.lns tab) a m).reverse.flatMap arC)) ∧ Below w.heap.size w w' := by
  obtain ⟨i0, hinf, hz0, hz1, hz2⟩ := info_parts info_ar
  have HM : Hid (Tab w) := hM
  have HL : Hid (PLinesAt w g tab) := hL
  have h4 := tn_le hC
  obtain ⟨hs3, _, hP⟩ := hC.lines
  have HP : Hid (∀ j : Nat, j < tn tab → LineP (tl tab j)) := hP
  have hlen := lns_len tab
  have HLen : Hid ((Bx.lns tab).length = tn tab) := hlen
  have H0 : Hid (LfIn w _ _ [] (fun _ => false)) := LfIn.start w
  clear hM hL hC hP hlen
  go_enter Tryz.func88, Tryz.ntmps88
  go_wp2_with fail
  go_loopw [7, 9] (fun v x wr => ∃ (t : Int) (out : List (Nat × Int)) (f : Nat → Bool), a - 1 ≤ t ∧ t ≤ m ∧ x = .int .i64 t ∧ Px.From (Bx.lns tab) m t (tn tab) out ∧ (out.length : Int) ≤ (m - t) * 4 ∧ (∀ i (h : i < (Bx.lns tab).length), f i = Px.metB (Bx.lns tab)[i] m t) ∧ LfIn w wr v out f) (fun _ x _ => (intOf x + 1 - a).toNat)
  case atStart => exact ⟨m, [], _, by omega, Int.le_refl _, rfl, by rw [← HLen.out]; exact Px.From.start _ _, by simp, fun i h => (Px.met_start _ _).symm, H0.out⟩
  case round =>
    clear H0
    obtain ⟨t, out, f, t1, t2, rfl, hFr, hol, hmet, HI⟩ := hrel
    have HFr : Hid (Px.From (Bx.lns tab) m t (tn tab) out) := hFr
    have HMet : Hid (∀ i (h : i < (Bx.lns tab).length), f i = Px.metB (Bx.lns tab)[i] m t) := hmet
    clear hFr hmet
    by_cases hat : a ≤ t
    · have hTw : Hid (Tab wr) := HM.out.later HI.bel
      go_wp2_with fail
      refine (cdate_yes _ _ hTw.out (by omega) (by omega)).mono ?_
      rintro e w2 ⟨⟨y, mo, d, HD, rfl⟩, hb2⟩
      have hdue : Hid (∀ s, dueB s mo d (t % 1440 / 60) (t % 60) ((t / 1440 + 4) % 7) = dueT s t) := fun s => dueT_of HD
      have bm : 0 ≤ mo ∧ mo ≤ 60 := by have := HD.m1; have := HD.m2; omega
      have bd : 0 ≤ d ∧ d ≤ 60 := by have := HD.d1; have := HD.d2; have := Cal.dim_lo y mo; omega
      have HI3 := (HI.later hb2).later (below_alloc w2 (.cells #[.int .i64 y, .int .i64 mo, .int .i64 d, .int .i64 (t % 1440 / 60), .int .i64 (t % 60), .int .i64 ((t / 1440 + 4) % 7)] 194))
      have hBk := BlkAt.new w2 #[.int .i64 y, .int .i64 mo, .int .i64 d, .int .i64 (t % 1440 / 60), .int .i64 (t % 60), .int .i64 ((t / 1440 + 4) % 7)] 194
      have hMq : w.heap.size + 1 < w2.heap.size := Nat.lt_of_lt_of_le HI.met.lt hb2.size
      clear HI hb2 HD hTw
      go_upto_region 7 with fail
      generalize w2.alloc (.cells #[.int .i64 y, .int .i64 mo, .int .i64 d, .int .i64 (t % 1440 / 60), .int .i64 (t % 60), .int .i64 ((t / 1440 + 4) % 7)] 194) = W3 at *
      generalize w2.heap.size = dq at *
      have HI3' : Hid (LfIn w W3 _ out f) := HI3
      have HBk : Hid (BlkAt W3 dq #[.int .i64 y, .int .i64 mo, .int .i64 d, .int .i64 (t % 1440 / 60), .int .i64 (t % 60), .int .i64 ((t / 1440 + 4) % 7)] 194) := hBk
      clear HI3 hBk
      go_wp2_with fail
      go_loopw [7, 12] (fun v x wr2 => ∃ (i : Int) (out2 : List (Nat × Int)) (f2 : Nat → Bool), -1 ≤ i ∧ i < (tn tab : Int) ∧ x = .int .i64 i ∧ Px.From (Bx.lns tab) m t (i + 1).toNat out2 ∧ (out2.length : Int) ≤ (m - t) * 4 + ((tn tab : Int) - 1 - i) ∧ (∀ k (h : k < (Bx.lns tab).length), f2 k = if i < (k : Int) then Px.metB (Bx.lns tab)[k] m (t - 1) else Px.metB (Bx.lns tab)[k] m t) ∧ LfIn w wr2 v out2 f2 ∧ BlkAt wr2 dq #[.int .i64 y, .int .i64 mo, .int .i64 d, .int .i64 (t % 1440 / 60), .int .i64 (t % 60), .int .i64 ((t / 1440 + 4) % 7)] 194) (fun _ x _ => (intOf x + 1).toNat)
      case atStart =>
        refine ⟨(tn tab : Int) - 1, out, f, by omega, by omega, by go_num, ?_, by omega, fun k h => ?_, HI3'.out, HBk.out⟩
        · have : ((tn tab : Int) - 1 + 1).toNat = tn tab := by omega
          rw [this]; exact HFr.out
        · have := HLen.out
          rw [if_neg (by omega)]; exact HMet.out k h
      case round =>
        clear HFr HMet HI3' HBk
        obtain ⟨i, out2, f2, i1, i2, rfl, hFr2, hol2, hmet2, HI2, hBk2⟩ := hrel
        have HFr2 : Hid (Px.From (Bx.lns tab) m t (i + 1).toNat out2) := hFr2
        have HMet2 : Hid (∀ k (h : k < (Bx.lns tab).length), f2 k = if i < (k : Int) then Px.metB (Bx.lns tab)[k] m (t - 1) else Px.metB (Bx.lns tab)[k] m t) := hmet2
        have HBk2 : Hid (BlkAt wr dq #[.int .i64 y, .int .i64 mo, .int .i64 d, .int .i64 (t % 1440 / 60), .int .i64 (t % 60), .int .i64 ((t / 1440 + 4) % 7)] 194) := hBk2
        clear hFr2 hmet2 hBk2
        by_cases hi0 : 0 ≤ i
        · obtain ⟨k, rfl⟩ : ∃ k : Nat, i = (k : Int) := ⟨i.toNat, by omega⟩
          have hk : k < tn tab := by omega
          have hk4 : k < 4 := by omega
          have hkl : Hid (k < (Bx.lns tab).length) := by have := HLen.out; unfold Hid; omega
          obtain ⟨bb, cc, sv, hcl, hla, hsp⟩ := HL.out k hk
          obtain ⟨ads, caps, hvs⟩ : ∃ ad cap, sv = .slice ad (stps (tl tab k)).length cap := by
            obtain ⟨ad, cap, e, _⟩ := TRow.form hsp; exact ⟨ad, cap, e⟩
          subst hvs
          have L0 : wr.cell? ⟨g, k * 14, none⟩ = some (.bool (Txt.opn (pt (tl tab k) 0))) := cell_later HI2.bel ((hcl 0 (by decide)).trans rfl)
          have L1 : wr.cell? ⟨g, k * 14 + 1, none⟩ = some (.slice (some ⟨bb 0, 0, none⟩) (Txt.pcs 44 (pt (tl tab k) 0)).length (cc 0)) := cell_later HI2.bel ((hcl 1 (by decide)).trans rfl)
          have L2 : wr.cell? ⟨g, k * 14 + 2, none⟩ = some (.bool (Txt.opn (pt (tl tab k) 1))) := cell_later HI2.bel ((hcl 2 (by decide)).trans rfl)
          have L3 : wr.cell? ⟨g, k * 14 + 3, none⟩ = some (.slice (some ⟨bb 1, 0, none⟩) (Txt.pcs 44 (pt (tl tab k) 1)).length (cc 1)) := cell_later HI2.bel ((hcl 3 (by decide)).trans rfl)
          have L4 : wr.cell? ⟨g, k * 14 + 4, none⟩ = some (.bool (Txt.opn (pt (tl tab k) 2))) := cell_later HI2.bel ((hcl 4 (by decide)).trans rfl)
          have L5 : wr.cell? ⟨g, k * 14 + 5, none⟩ = some (.slice (some ⟨bb 2, 0, none⟩) (Txt.pcs 44 (pt (tl tab k) 2)).length (cc 2)) := cell_later HI2.bel ((hcl 5 (by decide)).trans rfl)
          have L6 : wr.cell? ⟨g, k * 14 + 6, none⟩ = some (.bool (Txt.opn (pt (tl tab k) 3))) := cell_later HI2.bel ((hcl 6 (by decide)).trans rfl)
          have L7 : wr.cell? ⟨g, k * 14 + 7, none⟩ = some (.slice (some ⟨bb 3, 0, none⟩) (Txt.pcs 44 (pt (tl tab k) 3)).length (cc 3)) := cell_later HI2.bel ((hcl 7 (by decide)).trans rfl)
          have L8 : wr.cell? ⟨g, k * 14 + 8, none⟩ = some (.bool (Txt.opn (pt (tl tab k) 4))) := cell_later HI2.bel ((hcl 8 (by decide)).trans rfl)
          have L9 : wr.cell? ⟨g, k * 14 + 9, none⟩ = some (.slice (some ⟨bb 4, 0, none⟩) (Txt.pcs 44 (pt (tl tab k) 4)).length (cc 4)) := cell_later HI2.bel ((hcl 9 (by decide)).trans rfl)
          have L10 : wr.cell? ⟨g, k * 14 + 10, none⟩ = some (.bool (obt (pt (tl tab k) 5) 0 == 120)) := cell_later HI2.bel ((hcl 10 (by decide)).trans rfl)
          have L11 : wr.cell? ⟨g, k * 14 + 11, none⟩ = some (.int .u8 (obt (pt (tl tab k) 5) 1)) := cell_later HI2.bel ((hcl 11 (by decide)).trans rfl)
          have L12 : wr.cell? ⟨g, k * 14 + 12, none⟩ = some (.int .i64 (obt (pt (tl tab k) 5) 2 - 48)) := cell_later HI2.bel ((hcl 12 (by decide)).trans rfl)
          have L13 : wr.cell? ⟨g, k * 14 + 13, none⟩ = some (.slice ads (stps (tl tab k)).length caps) := cell_later HI2.bel ((hcl 13 (by decide)).trans rfl)
          have HLA : Hid (LineAt wr (tl tab k) bb cc) := hla.later HI2.bel
          have D0 : wr.cell? ⟨dq, 0, none⟩ = some (.int .i64 y) := HBk2.out.cell 0 (show 0 < 6 by decide)
          have D1 : wr.cell? ⟨dq, 1, none⟩ = some (.int .i64 mo) := HBk2.out.cell 1 (show 1 < 6 by decide)
          have D2 : wr.cell? ⟨dq, 2, none⟩ = some (.int .i64 d) := HBk2.out.cell 2 (show 2 < 6 by decide)
          have D3 : wr.cell? ⟨dq, 3, none⟩ = some (.int .i64 (t % 1440 / 60)) := HBk2.out.cell 3 (show 3 < 6 by decide)
          have D4 : wr.cell? ⟨dq, 4, none⟩ = some (.int .i64 (t % 60)) := HBk2.out.cell 4 (show 4 < 6 by decide)
          have D5 : wr.cell? ⟨dq, 5, none⟩ = some (.int .i64 ((t / 1440 + 4) % 7)) := HBk2.out.cell 5 (show 5 < 6 by decide)
          have hgl : g < wr.heap.size := World.block_lt_of_cell? _ _ L0
          have hdl : dq < wr.heap.size := HBk2.out.lt
          have hsz : Hid ((tl tab k).size ≤ 300) := tl_sz hs3 k (by have := tn_lt tab; omega)
          have b0 : (0 : Int) ≤ (k : Int) := by omega
          have b1 : (k : Int) < (tn tab : Int) := by omega
          have b5 : (k : Int) < 4 := by omega
          have b4 : decide ((4 : Int) ≤ (k : Int)) = false := decide_eq_false (by omega)
          have HLk : Hid ((Bx.lns tab)[k]'hkl.out = lnOf (tl tab k)) := lns_at tab k hkl.out
          obtain ⟨x, hx⟩ : ∃ x : Bool, x = dueB (tl tab k) mo d (t % 1440 / 60) (t % 60) ((t / 1440 + 4) % 7) := ⟨_, rfl⟩
          have HX : Hid (x = dueB (tl tab k) mo d (t % 1440 / 60) (t % 60) ((t / 1440 + 4) % 7)) := hx
          have HXd : Hid (((Bx.lns tab)[k]'hkl.out).due t = x) := by unfold Hid; rw [HLk.out, hx, hdue.out]; rfl
          have HI2' : Hid (LfIn w wr _ out2 f2) := HI2
          clear hcl hla hsp hx HI2
          go_wp2_with fail
          go_region_held3 (fun w' => ∀ b o, b < wr.heap.size → w'.cell? ⟨b, o, none⟩ = wr.cell? ⟨b, o, none⟩)
            ((intro b' o' h1; first | (exact hbC.cell (p := ⟨b', o', none⟩) h1) | rfl))
            ((go_at_call 124; refine (due_x (tl tab k) bb cc ads (stps (tl tab k)).length caps _ _ _ _ _ _ _ x HX.out hsz.out (HP.out k hk) ?hla bm.1 bm.2 bd.1 bd.2 (by omega) (by omega) (by omega) (by omega) (by omega) (by omega)).mono ?_; (case hla => exact HLA.out.later (Below.refl _ _).drew); rintro e w4 ⟨rfl, hb4⟩; have hbC : Below wr.heap.size wr w4 := (Below.refl _ _).drew.trans hb4))
          rename ∀ (b o : Nat), b < wr.heap.size → w4.cell? ⟨b, o, none⟩ = wr.cell? ⟨b, o, none⟩ => hSold
          clear hSold
          have HI4 := HI2'.out.later hbC
          have HBk4 := HBk2.out.later hbC
          have HFk : Hid (Px.From (Bx.lns tab) m t (k + 1) out2) := by
            have := HFr2.out
            rw [show ((k : Int) + 1).toNat = k + 1 by omega] at this; exact this
          have HMk : Hid (f2 k = Px.metB ((Bx.lns tab)[k]'hkl.out) m t) := by unfold Hid; rw [HMet2.out k hkl.out, if_neg (by omega)]
          have hk1 : ((k : Int) - 1 + 1).toNat = k := by omega
          cases x
          · have HFr3 : Hid (Px.From (Bx.lns tab) m t ((k : Int) - 1 + 1).toNat out2) := by unfold Hid; rw [hk1]; exact HFk.out.no hkl.out (Px.cnt_due HXd.out)
            have HMet3 : Hid (∀ j (h : j < (Bx.lns tab).length), f2 j = if (k : Int) - 1 < (j : Int) then Px.metB (Bx.lns tab)[j] m (t - 1) else Px.metB (Bx.lns tab)[j] m t) := by
              intro j h
              by_cases q : j = k
              · subst q; rw [if_pos (by omega), HMk.out, Px.met_no HXd.out]
              · rw [HMet2.out j h]
                by_cases q' : (k : Int) < (j : Int)
                · rw [if_pos q', if_pos (by omega)]
                · rw [if_neg q', if_neg (by omega)]
            clear L0 L1 L2 L3 L4 L5 L6 L7 L8 L9 L10 L11 L12 L13 D0 D1 D2 D3 D4 D5 hb4 hbC HI2' HBk2 HFr2 HMet2 HFk HMk HXd HLk
            go_wp2_with fail
            go_roundw
            case rel => exact ⟨(k : Int) - 1, out2, f2, by omega, by omega, by go_num, HFr3.out, by omega, HMet3.out, HI4, HBk4⟩
            case measure => simp [intOf]
          · have HMet3 : Hid (∀ j (h : j < (Bx.lns tab).length), (if j = k then true else f2 j) = if (k : Int) - 1 < (j : Int) then Px.metB (Bx.lns tab)[j] m (t - 1) else Px.metB (Bx.lns tab)[j] m t) := by
              intro j h
              by_cases q : j = k
              · subst q; rw [if_pos rfl, if_pos (by omega), Px.met_yes HXd.out t2]
              · rw [if_neg q, HMet2.out j h]
                by_cases q' : (k : Int) < (j : Int)
                · rw [if_pos q', if_pos (by omega)]
                · rw [if_neg q', if_neg (by omega)]
            obtain ⟨z, hz⟩ : ∃ z : Bool, z = Px.cntB (obt (pt (tl tab k) 5) 1) (t == m) (f2 k) := ⟨_, rfl⟩
            have HZ : Hid (z = Px.cntB (obt (pt (tl tab k) 5) 1) (t == m) (f2 k)) := hz
            have HCn : Hid (z = true ↔ Bx.Cnt ((Bx.lns tab)[k]'hkl.out) m t) := by
              have := Px.cnt_iff (m := m) HXd.out
              unfold Hid; rw [← this, hz, HMk.out]
              have e : ((Bx.lns tab)[k]'hkl.out).catch' = obt (pt (tl tab k) 5) 1 := by rw [HLk.out]; rfl
              rw [e]
            replace L0 := cell_later hbC L0
            replace L1 := cell_later hbC L1
            replace L2 := cell_later hbC L2
            replace L3 := cell_later hbC L3
            replace L4 := cell_later hbC L4
            replace L5 := cell_later hbC L5
            replace L6 := cell_later hbC L6
            replace L7 := cell_later hbC L7
            replace L8 := cell_later hbC L8
            replace L9 := cell_later hbC L9
            replace L10 := cell_later hbC L10
            replace L11 := cell_later hbC L11
            replace L12 := cell_later hbC L12
            replace L13 := cell_later hbC L13
            obtain ⟨mc, mf⟩ := HI4.met.cell k hk4
            have hgl4 : g < w4.heap.size := World.block_lt_of_cell? _ _ L0
            have hml4 : w.heap.size + 1 < w4.heap.size := HI4.met.lt
            have HI4' : Hid (LfIn w w4 _ out2 f2) := HI4
            have HBk4' : Hid (BlkAt w4 dq #[.int .i64 y, .int .i64 mo, .int .i64 d, .int .i64 (t % 1440 / 60), .int .i64 (t % 60), .int .i64 ((t / 1440 + 4) % 7)] 194) := HBk4
            clear D0 D1 D2 D3 D4 D5 hb4 hbC HI2' HBk2 HFr2 HMet2 HMk HXd HLk hz HI4 HBk4 HX HLA
            go_wp2_with fail
            go_region_held3 (fun w' => ∀ b o, b < w4.heap.size → w'.cell? ⟨b, o, none⟩ = w4.cell? ⟨b, o, none⟩)
              ((intro b' o' h1; first | (exact hbE.cell (p := ⟨b', o', none⟩) h1) | rfl))
              ((go_at_call 125; refine (counts_x (tl tab k) bb cc ads (stps (tl tab k)).length caps (t == m) (f2 k) _ z HZ.out).mono ?_; rintro e w5 ⟨rfl, hb5⟩; have hbE : Below w4.heap.size w4 w5 := (Below.refl _ _).drew.trans hb5))
            rename ∀ (b o : Nat), b < w4.heap.size → w5.cell? ⟨b, o, none⟩ = w4.cell? ⟨b, o, none⟩ => hSold
            clear hSold
            have HI5 := HI4'.out.later hbE
            have HBk5 := HBk4'.out.later hbE
            clear L0 L1 L2 L3 L4 L5 L6 L7 L8 L9 L10 L11 L12 L13 mc mf hb5 hbE HI4' HBk4' HZ
            cases z
            · have HFr3 : Hid (Px.From (Bx.lns tab) m t ((k : Int) - 1 + 1).toNat out2) := by unfold Hid; rw [hk1]; exact HFk.out.no hkl.out (fun h => by have := HCn.out.2 h; cases this)
              obtain ⟨mc, mf⟩ := HI5.met.cell k hk4
              have hml5 : w.heap.size + 1 < w5.heap.size := HI5.met.lt
              have HI6 := HI5.met' k hk4
              have HBk6 := HBk5.other (M := w.heap.size + 1) (by omega) k (.bool true)
              clear HI5 HBk5 HFk HCn
              go_wp2_with fail
              go_roundw
              case rel => exact ⟨(k : Int) - 1, out2, _, by omega, by omega, by go_num, HFr3.out, by omega, HMet3.out, HI6, HBk6⟩
              case measure => first | (simp [intOf]; done) | (simp [intOf]; omega)
            · have HFr3 : Hid (Px.From (Bx.lns tab) m t ((k : Int) - 1 + 1).toNat ((k, t) :: out2)) := by unfold Hid; rw [hk1]; exact HFk.out.yes hkl.out t2 (HCn.out.1 rfl)
              have HO5 : Hid (w5.ownsRow w.heap.size 141 2 _ out2.length (out2.reverse.flatMap arC)) := HI5.own
              have hs5 : Hid (w.heap.size ≤ w5.heap.size) := HI5.bel.size
              have hol3 : out2.length ≤ 10000 := by omega
              go_wp2_with (at_builtin; refine wpList_append_lies _ rfl (.tmp 58) (.tmp 63) 137 rfl w.heap.size 141 i0 (.agg #[.int .i64 0, .int .i64 0]) 2 16 Tryz.underlying137 hinf hz0 hz1 hz2 rfl (by decide) _ _ _ rfl (HO5.out.alloc _) ⟨w5.heap.size, 0, none⟩ 1 1 (arC (k, t)) rfl rfl (arC_new _ _ _ _) (arC_one _) (by decide) ?c3 ?c4 ?c5 _ rfl ?_)
              case c3 => unfold maxLen; omega
              case c4 => omega
              case c5 => have := hs5.out; simp; omega
              · intro g' cap' w6 hown' hgrow _ hlt'
                have HI6 := (HI5.later (below_alloc w5 (.cells #[.int .i64 ((k : Int) + 1), .int .i64 t] 141))).app (p := (k, t)) hgrow (by simpa using hown')
                have HBk6 := (HBk5.later (below_alloc w5 (.cells #[.int .i64 ((k : Int) + 1), .int .i64 t] 141))).grown (HO5.out.alloc _) hgrow (by decide)
                obtain ⟨mc, mf⟩ := HI6.met.cell k hk4
                have hml6 : w.heap.size + 1 < w6.heap.size := HI6.met.lt
                have HI7 := HI6.met' k hk4
                have HBk7 := HBk6.other (M := w.heap.size + 1) (by omega) k (.bool true)
                clear hown' hgrow HI5 HBk5 HI6 HBk6 HFk HCn HO5
                go_wp2_with fail
                go_roundw
                case rel => exact ⟨(k : Int) - 1, (k, t) :: out2, _, by omega, by omega, by go_num, HFr3.out, by simp; omega, HMet3.out, HI7, HBk7⟩
                case measure => first | (simp [intOf]; done) | (simp [intOf]; omega)
        · have hin : i = -1 := by omega
          have HFr3 : Hid (Px.From (Bx.lns tab) m (t - 1) (tn tab) out2) := by
            have := HFr2.out
            rw [show (i + 1).toNat = 0 by omega] at this
            have q := this.down
            rw [HLen.out] at q; exact q
          have HMet3 : Hid (∀ j (h : j < (Bx.lns tab).length), f2 j = Px.metB (Bx.lns tab)[j] m (t - 1)) := fun j h => by rw [HMet2.out j h, if_pos (by omega)]
          clear HFr2 HMet2 HBk2 hin
          go_wp2_with fail
          go_roundw
          case rel => exact ⟨t - 1, out2, f2, by omega, by omega, by go_num, HFr3.out, by omega, HMet3.out, HI2⟩
          case measure => first | (simp [intOf]; done) | (simp [intOf]; omega)
    · have HE : Hid (out = Bx.comes (Bx.lns tab) a m) := by
        have := HFr.out
        rw [show t = a - 1 by omega, ← HLen.out] at this
        exact this.done
      have HOw := HI.own
      rw [HE.out] at HOw
      have HBe : Hid (Below w.heap.size w wr) := HI.bel
      clear HI HFr HMet
      go_wp2_with fail
      go_ret
      exact ⟨⟨_, rfl, HOw⟩, HBe.out⟩
end Go.Proofs.YtdajolpoiffimabGreatDoor

namespace Go.Proofs.YtdajolpoiffimabGreatDoor
open Go.RowKit

/-- Behind the head of withArrival: the state, the arrival, the result's block. -/
structure ARes (w W : World) (s : Px.St) (sl en : Value) (p : Nat × Int) : Prop where
  st : PIn W w.heap.size s sl en
  a0 : W.cell? ⟨w.heap.size + 1, 0, none⟩ = some (.int .i64 ((p.1 : Int) + 1))
  a1 : W.cell? ⟨w.heap.size + 1, 1, none⟩ = some (.int .i64 p.2)
  z : ZCell W (w.heap.size + 2) 5
  ty : Typed W (w.heap.size + 2) 77
  bel : Below w.heap.size w W
  lt : w.heap.size + 2 < W.heap.size
theorem ARes.new (w : World) (s : Px.St) (sl en : Value) (p : Nat × Int) : ARes w (((w.alloc (pstO s sl en)).alloc (.cells #[.int .i64 ((p.1 : Int) + 1), .int .i64 p.2] 141)).alloc pzO) s sl en p := by
  have hZ := ZCell.new ((w.alloc (pstO s sl en)).alloc (.cells #[.int .i64 ((p.1 : Int) + 1), .int .i64 p.2] 141)) #[.string { data := #[] }, .int .i64 0, .int .i64 0, .slice none 0 0, .slice none 0 0] 77
  have hT := Typed.new ((w.alloc (pstO s sl en)).alloc (.cells #[.int .i64 ((p.1 : Int) + 1), .int .i64 p.2] 141)) #[.string { data := #[] }, .int .i64 0, .int .i64 0, .slice none 0 0, .slice none 0 0] 77
  refine ⟨((PIn.new w s sl en).later (below_alloc _ _)).later (below_alloc _ _), by simp [go_sem], by simp [go_sem], by simpa using hZ, by simpa using hT, ((below_alloc w _).alloc (by simp) _).alloc (by simp; omega) _, by simp⟩
theorem ARes.later {w W W' : World} {s : Px.St} {sl en : Value} {p : Nat × Int} (h : ARes w W s sl en p) (hb : Below W.heap.size W W') : ARes w W' s sl en p :=
  ⟨h.st.later hb, cell_later hb h.a0, cell_later hb h.a1, h.z.later h.lt hb, h.ty.later hb, h.bel.trans (hb.mono h.bel.size), Nat.lt_of_lt_of_le h.lt hb.size⟩
theorem ARes.set {w W : World} {s : Px.St} {sl en : Value} {p : Nat × Int} (h : ARes w W s sl en p) {q : Nat} (hq : w.heap.size + 2 < q) (j : Nat) (u : Value) : ARes w (W.setCell ⟨q, j, none⟩ u) s sl en p := by
  have oth : ∀ (a i : Nat), a ≤ w.heap.size + 2 → (W.setCell ⟨q, j, none⟩ u).cell? ⟨a, i, none⟩ = W.cell? ⟨a, i, none⟩ := fun a i ha => World.cell?_setCell_other _ _ _ _ (by first | (simp; done) | (simp; omega))
  obtain ⟨c0, c1, c2, c3, c4⟩ := h.st
  refine ⟨⟨?_, ?_, ?_, ?_, ?_⟩, ?_, ?_, fun i hi => ⟨?_, ?_⟩, h.ty.setCell _ _ _, h.bel.setCell (by first | (simp; done) | (simp; omega)) _, by have := h.lt; simpa [World.setCell] using this⟩
  · rw [oth _ _ (by omega)]; exact c0
  · rw [oth _ _ (by omega)]; exact c1
  · rw [oth _ _ (by omega)]; exact c2
  · rw [oth _ _ (by omega)]; exact c3
  · rw [oth _ _ (by omega)]; exact c4
  · rw [oth _ _ (by omega)]; exact h.a0
  · rw [oth _ _ (by omega)]; exact h.a1
  · obtain ⟨u', hu⟩ := (h.z i hi).1
    exact ⟨u', by rw [oth _ _ (by omega)]; exact hu⟩
  · rw [World.frozen?_setCell]; exact (h.z i hi).2
theorem arr_end' {s : Px.St} {p : Nat × Int} (h : 8 ≤ s.slots.length) : Px.arr s p = { { s with next := s.next + 1 } with ends := Bx.push s.ends ⟨s.next, ⟨#[115]⟩⟩ } := by
  unfold Px.arr; rw [if_pos h]; rfl
theorem arr_slot' {s : Px.St} {p : Nat × Int} (h : ¬ 8 ≤ s.slots.length) : Px.arr s p = { { s with next := s.next + 1 } with slots := s.slots ++ [Px.slotOf p s.next] } := by
  unfold Px.arr; rw [if_neg h]

set_option maxRecDepth 10000 in
set_option maxHeartbeats 4000000 in
theorem withArrival_any (s : Px.St) (p : Nat × Int) (sl en : Value) (w : World) (hl : s.slots.length ≤ 10000) (he : s.ends.length ≤ 10000) (n1 : 0 ≤ s.next) (n2 : s.next ≤ 100000) (hS : PAt w s sl en) :
    Calls Tryz.prog 89 #[pstV s sl en, .agg #[.int .i64 ((p.1 : Int) + 1), .int .i64 p.2]] w fun e w' => (∃ sl' en', e = .returned (pstV (Px.arr s p) sl' en') ∧ PAt w' (Px.arr s p) sl' en') ∧ Below w.heap.size w w' := by
  obtain ⟨ad, cap, rfl, hcap⟩ := hS.sl.form
  obtain ⟨ad2, cap2, rfl, hcap2⟩ := hS.en.form
  have HS : Hid (PAt w s (.slice ad s.slots.length cap) (.slice ad2 s.ends.length cap2)) := hS
  have hP := ARes.new w s (.slice ad s.slots.length cap) (.slice ad2 s.ends.length cap2) p
  clear hS
  go_enter Tryz.func89, Tryz.ntmps89
  go_upto_region 1 with fail
  generalize ((w.alloc (pstO s (.slice ad s.slots.length cap) (.slice ad2 s.ends.length cap2))).alloc (.cells #[.int .i64 ((p.1 : Int) + 1), .int .i64 p.2] 141)).alloc pzO = W at *
  have HSW : PAt W s (.slice ad s.slots.length cap) (.slice ad2 s.ends.length cap2) := HS.out.later hP.bel
  obtain ⟨i0, i1, i2, i3, i4⟩ := hP.st
  have hP2 := hP.later (below_alloc W (pstO s (.slice ad s.slots.length cap) (.slice ad2 s.ends.length cap2)))
  have HS2 := HSW.later (below_alloc W (pstO s (.slice ad s.slots.length cap) (.slice ad2 s.ends.length cap2)))
  have hA := PW.new W s (.slice ad s.slots.length cap) (.slice ad2 s.ends.length cap2)
  have hWq := hP.lt
  go_upto_region 3 with fail
  clear i0 i1 i2 i3 i4 hP HSW
  generalize W.alloc (pstO s (.slice ad s.slots.length cap) (.slice ad2 s.ends.length cap2)) = W2 at *
  generalize W.heap.size = q at *
  have a2 := hA.st.c2
  have g2 := hA.f 2 (by decide)
  have hq2 := hA.ty.lt
  have HP3 := hP2.set hWq 2 (.int .i64 (s.next + 1))
  have HA3 := hA.next (s.next + 1)
  have HS3 := HS2.set hA.ty (by decide) (by decide) 2 (.int .i64 (s.next + 1))
  clear hP2 HS2 hA
  go_upto_region 4 with fail
  clear a2 g2
  generalize W2.setCell ⟨q, 2, none⟩ (.int .i64 (s.next + 1)) = W3 at *
  have HPP3 : Hid (ARes w W3 s (.slice ad s.slots.length cap) (.slice ad2 s.ends.length cap2) p) := HP3
  have HAA3 : Hid (PW W3 q { s with next := s.next + 1 } (.slice ad s.slots.length cap) (.slice ad2 s.ends.length cap2)) := HA3
  have HSS3 : Hid (PAt W3 s (.slice ad s.slots.length cap) (.slice ad2 s.ends.length cap2)) := HS3
  obtain ⟨i0, i1, i2, i3, i4⟩ := HP3.st
  have b0 := HP3.a0
  have b1 := HP3.a1
  clear HP3 HA3 HS3
  by_cases h8 : 8 ≤ s.slots.length
  · have HM : Hid (Px.arr s p = { { s with next := s.next + 1 } with ends := Bx.push s.ends ⟨s.next, ⟨#[115]⟩⟩ }) := arr_end' h8
    go_wp2_with fail
    refine (pwithEnd_any s.ends ⟨s.next, ⟨#[115]⟩⟩ _ _ he HSS3.out.en.1).mono ?_
    rintro e w5 ⟨⟨v5, rfl, hown5⟩, hb5⟩
    clear i0 i1 i2 i3 i4 b0 b1
    obtain ⟨ad5, cap5, hv5, _⟩ := (RowAt.of_own hown5).form
    subst hv5
    have hA5 := HAA3.out.later hb5
    have a4 := hA5.st.c4
    have g4 := hA5.f 4 (by decide)
    have hq5 := hA5.ty.lt
    have HP6 := (HPP3.out.later hb5).set hWq 4 (.slice ad5 (Bx.push s.ends ⟨s.next, ⟨#[115]⟩⟩).length cap5)
    have HA6 := hA5.ends (Bx.push s.ends ⟨s.next, ⟨#[115]⟩⟩) (.slice ad5 (Bx.push s.ends ⟨s.next, ⟨#[115]⟩⟩).length cap5)
    have HO6 := ((HSS3.out.later hb5).set hA5.ty (by decide) (by decide) 4 (.slice ad5 (Bx.push s.ends ⟨s.next, ⟨#[115]⟩⟩).length cap5)).sl
    have HE6 := (TRow.of_own hown5).set hA5.ty (by decide) 4 (.slice ad5 (Bx.push s.ends ⟨s.next, ⟨#[115]⟩⟩).length cap5)
    clear hA5 hown5 hb5 HPP3 HAA3 HSS3
    go_upto_region 6 with fail
    clear a4 g4
    generalize w5.setCell ⟨q, 4, none⟩ (.slice ad5 (Bx.push s.ends ⟨s.next, ⟨#[115]⟩⟩).length cap5) = W6 at *
    have HPA : Hid (PAt W6 { { s with next := s.next + 1 } with ends := Bx.push s.ends ⟨s.next, ⟨#[115]⟩⟩ } (.slice ad s.slots.length cap) (.slice ad5 (Bx.push s.ends ⟨s.next, ⟨#[115]⟩⟩).length cap5)) := ⟨HO6, HE6⟩
    have HTy : Hid (Typed W6 (w.heap.size + 2) 77) := HP6.ty
    have HB : Hid (Below w.heap.size w W6) := HP6.bel
    obtain ⟨⟨u0, r0⟩, f0⟩ := HP6.z 0 (by decide)
    obtain ⟨⟨u1, r1⟩, f1⟩ := HP6.z 1 (by decide)
    obtain ⟨⟨u2, r2⟩, f2⟩ := HP6.z 2 (by decide)
    obtain ⟨⟨u3, r3⟩, f3⟩ := HP6.z 3 (by decide)
    obtain ⟨⟨u4, r4⟩, f4⟩ := HP6.z 4 (by decide)
    obtain ⟨c0, c1, c2, c3, c4⟩ := HA6.st
    clear HP6 HA6 HO6 HE6
    go_wp2_with fail
    refine bodyPost_ret (v := pstV { { s with next := s.next + 1 } with ends := Bx.push s.ends ⟨s.next, ⟨#[115]⟩⟩ } (.slice ad s.slots.length cap) (.slice ad5 (Bx.push s.ends ⟨s.next, ⟨#[115]⟩⟩).length cap5)) (by simp [results, Tryz.results89, go_sem, r0, r1, r2, r3, r4]) rfl ?_
    rw [HM.out]
    exact ⟨⟨_, _, rfl, HPA.out.store HTy.out _ _ _ _ _⟩, below_set5' HB.out (by omega) _ _ _ _ _⟩
  · have HM : Hid (Px.arr s p = { { s with next := s.next + 1 } with slots := s.slots ++ [Px.slotOf p s.next] }) := arr_slot' h8
    have hx3 : PsIn (W3.alloc (.cells #[.int .i64 s.next, .int .i64 ((p.1 : Int) + 1), .int .i64 p.2, .int .i64 1, .int .i64 p.2, .int .i64 0, .int .i64 0, .string { data := #[] }] 143)) W3.heap.size (Px.slotOf p s.next) := PsIn.new W3 (Px.slotOf p s.next)
    have HP4 := HPP3.out.later (below_alloc W3 (.cells #[.int .i64 s.next, .int .i64 ((p.1 : Int) + 1), .int .i64 p.2, .int .i64 1, .int .i64 p.2, .int .i64 0, .int .i64 0, .string { data := #[] }] 143))
    have HA4 := HAA3.out.later (below_alloc W3 (.cells #[.int .i64 s.next, .int .i64 ((p.1 : Int) + 1), .int .i64 p.2, .int .i64 1, .int .i64 p.2, .int .i64 0, .int .i64 0, .string { data := #[] }] 143))
    have HS4 := HSS3.out.later (below_alloc W3 (.cells #[.int .i64 s.next, .int .i64 ((p.1 : Int) + 1), .int .i64 p.2, .int .i64 1, .int .i64 p.2, .int .i64 0, .int .i64 0, .string { data := #[] }] 143))
    clear HPP3 HAA3 HSS3
    go_upto_region 8 with fail
    clear i0 i1 i2 i3 i4 b0 b1
    generalize W3.alloc (.cells #[.int .i64 s.next, .int .i64 ((p.1 : Int) + 1), .int .i64 p.2, .int .i64 1, .int .i64 p.2, .int .i64 0, .int .i64 0, .string { data := #[] }] 143) = W4 at *
    generalize W3.heap.size = sq at *
    generalize Px.slotOf p s.next = x at *
    have HPP4 : Hid (ARes w W4 s (.slice ad s.slots.length cap) (.slice ad2 s.ends.length cap2) p) := HP4
    have HAA4 : Hid (PW W4 q { s with next := s.next + 1 } (.slice ad s.slots.length cap) (.slice ad2 s.ends.length cap2)) := HA4
    have HSS4 : Hid (PAt W4 s (.slice ad s.slots.length cap) (.slice ad2 s.ends.length cap2)) := HS4
    obtain ⟨i0, i1, i2, i3, i4⟩ := HP4.st
    obtain ⟨x0, x1, x2, x3, x4, x5, x6, x7⟩ := hx3
    clear HP4 HA4 HS4
    go_wp2_with fail
    refine (pwithSlot_any s.slots x _ _ hl HSS4.out.sl.1).mono ?_
    rintro e w5 ⟨⟨v5, rfl, hown5⟩, hb5⟩
    clear i0 i1 i2 i3 i4 x0 x1 x2 x3 x4 x5 x6 x7
    obtain ⟨ad5, cap5, hv5, _⟩ := (RowAt.of_own hown5).form
    subst hv5
    have hA5 := HAA4.out.later hb5
    have a3 := hA5.st.c3
    have g3 := hA5.f 3 (by decide)
    have hq5 := hA5.ty.lt
    have HP6 := (HPP4.out.later hb5).set hWq 3 (.slice ad5 (s.slots ++ [x]).length cap5)
    have HA6 := hA5.slots (s.slots ++ [x]) (.slice ad5 (s.slots ++ [x]).length cap5)
    have HE6 := ((HSS4.out.later hb5).set hA5.ty (by decide) (by decide) 3 (.slice ad5 (s.slots ++ [x]).length cap5)).en
    have HO6 := (TRow.of_own hown5).set hA5.ty (by decide) 3 (.slice ad5 (s.slots ++ [x]).length cap5)
    clear hA5 hown5 hb5 HPP4 HAA4 HSS4
    generalize hnn : (s.slots ++ [x]).length = nn at *
    have HNN : Hid ((s.slots ++ [x]).length = nn) := hnn
    clear hnn
    go_upto_region 9 with fail
    clear a3 g3
    generalize w5.setCell ⟨q, 3, none⟩ (.slice ad5 nn cap5) = W6 at *
    have HPA : Hid (PAt W6 { { s with next := s.next + 1 } with slots := s.slots ++ [x] } (.slice ad5 nn cap5) (.slice ad2 s.ends.length cap2)) := ⟨by show TRow W6 _ _ (s.slots ++ [x]).length _; rw [HNN.out]; exact HO6, HE6⟩
    have HTy : Hid (Typed W6 (w.heap.size + 2) 77) := HP6.ty
    have HB : Hid (Below w.heap.size w W6) := HP6.bel
    obtain ⟨⟨u0, r0⟩, f0⟩ := HP6.z 0 (by decide)
    obtain ⟨⟨u1, r1⟩, f1⟩ := HP6.z 1 (by decide)
    obtain ⟨⟨u2, r2⟩, f2⟩ := HP6.z 2 (by decide)
    obtain ⟨⟨u3, r3⟩, f3⟩ := HP6.z 3 (by decide)
    obtain ⟨⟨u4, r4⟩, f4⟩ := HP6.z 4 (by decide)
    obtain ⟨c0, c1, c2, c3, c4⟩ := HA6.st
    clear HP6 HA6 HO6 HE6
    go_wp2_with fail
    refine bodyPost_ret (v := pstV { { s with next := s.next + 1 } with slots := s.slots ++ [x] } (.slice ad5 nn cap5) (.slice ad2 s.ends.length cap2)) (by simp [results, Tryz.results89, go_sem, r0, r1, r2, r3, r4]) rfl ?_
    rw [HM.out]
    exact ⟨⟨_, _, rfl, HPA.out.store HTy.out _ _ _ _ _⟩, below_set5' HB.out (by omega) _ _ _ _ _⟩
end Go.Proofs.YtdajolpoiffimabGreatDoor

namespace Go.Proofs.YtdajolpoiffimabGreatDoor
open Go.RowKit

/-- The box, whatever its slices are. -/
def PBx (w : World) (B : Nat) (b : Px.Bo) : Prop := ∃ sl en, PB w B b sl en
/-- What a method of the box does: it answers, the box is this one then, nothing else that was there is changed. -/
theorem frame_sz (c : Bx.Ch) (h : c.tab.size ≤ 300) : (Bx.frame (Bx.body c)).size ≤ 400 := by
  rw [Bx.frame_size]; have := Bx.body_size c; omega
inductive LoadA (b : Px.Bo) (B : Nat) (tab : ByteArray) (w : World) : Ending → World → Prop
  | mk (w' : World) (b' : Px.Bo) (a r : Int) (h : Px.LoadB b tab b' a r) (hB : PBx w' B b') (hg : w.grownBy w' (some B)) : LoadA b B tab w (.returned (.tuple #[.int .i64 a, .int .i64 r])) w'
set_option maxRecDepth 10000 in
set_option maxHeartbeats 4000000 in
theorem pload_any (b : Px.Bo) (B : Nat) (tab : ByteArray) (sl en : Value) (w : World) (hO : Px.Ok b.st) (hlg : b.log.size ≤ 10000) (hs : tab.size ≤ maxLen) (hT : TabLH w) (hB : PB w B b sl en) :
    Calls Tryz.prog 21 #[.pointer (some ⟨B, 0, none⟩), .string tab] w fun e w' => LoadA b B tab w e w' := by
  obtain ⟨ad, cap, rfl, hcap⟩ := hB.rows.sl.form
  obtain ⟨ad2, cap2, rfl, hcap2⟩ := hB.rows.en.form
  have HB : Hid (PB w B b (.slice ad b.st.slots.length cap) (.slice ad2 b.st.ends.length cap2)) := hB
  have HT : Hid (TabLH w) := hT
  have HS : Hid (tab.size ≤ maxLen) := hs
  have hl : b.st.slots.length ≤ 10000 := by have := hO.len; omega
  clear hB hT hs
  go_enter Tryz.func21, Tryz.ntmps21
  go_wp2_with fail
  refine (ccheck_any _ _ HS.out HT.out).mono ?_
  rintro e w1 ⟨⟨a, r, rfl, hC⟩, hb1⟩
  have HB1 := HB.out.later hb1
  have HG1 : Hid (w.grownBy w1 (some B)) := grow_of_below hb1 _
  have HC : Hid (ChkR tab a r) := hC
  have HT1 : Hid (TabLH w1) := HT.out.later hb1
  have hbd := hC.bd
  by_cases hr : r = 0
  rotate_left
  · have hr' : (r != 0) = true := by simpa using hr
    have HA : Hid (LoadA b B tab w (.returned (.tuple #[.int .i64 a, .int .i64 r])) w1) := LoadA.mk w1 b a r (Or.inl ⟨hr, hC, rfl⟩) ⟨_, _, HB1⟩ HG1.out
    clear hr hC HB1 hb1
    go_wp2_with fail
    go_ret2
    exact HA.out
  subst hr
  have ha := hC.zero rfl
  subst ha
  have h300 := hC.lines.1
  have hlt := HB1.ty.lt
  have e2 := HB1.c2; have e3 := HB1.c3; have e4 := HB1.c4; have e5 := HB1.c5; have e6 := HB1.c6
  have HB1' : Hid (PB w1 B b (.slice ad b.st.slots.length cap) (.slice ad2 b.st.ends.length cap2)) := HB1
  clear hC HB1 hb1 hbd
  go_wp2_with fail
  refine (withTab_any b.st tab _ _ _ HS.out HT1.out hl HB1'.out.rows).mono ?_
  rintro e w2 ⟨⟨aa, rr, hKr, hch⟩, hb2⟩
  obtain ⟨rfl, rfl⟩ := HC.out.uniq hKr
  rw [show tabC b.st tab 0 = Px.tabP b.st tab from if_pos rfl] at hch
  obtain ⟨sl2, en2, rfl, hat2⟩ := hch
  obtain ⟨ad3, cap3, hv3, _⟩ := hat2.sl.form
  obtain ⟨ad4, cap4, hv4, _⟩ := hat2.en.form
  subst hv3 hv4
  clear e2 e3 e4 e5 e6
  have HG2 : Hid (w.grownBy w2 (some B)) := grow_trans HG1.out (grow_of_below hb2 _)
  have HB2 := HB1'.out.later hb2
  by_cases h0 : 0 < b.st.slots.length
  · have e : Px.tabP b.st tab = (Px.st0, 5) := if_pos h0
    rw [e]
    have HB3 := HB2.later (below_alloc w2 (.cells #[.string { data := #[] }, .int .i64 0, .int .i64 0, .slice ad3 (Px.tabP b.st tab).1.slots.length cap3, .slice ad4 (Px.tabP b.st tab).1.ends.length cap4] 77))
    have HGx : Hid (∀ o, w.grownBy (w2.alloc o) (some B)) := fun o => grow_trans HG2.out (grow_of_below (below_alloc w2 o) _)
    have HBx : Hid (∀ o, PB (w2.alloc o) B b (.slice ad b.st.slots.length cap) (.slice ad2 b.st.ends.length cap2)) := fun o => HB2.later (below_alloc w2 o)
    clear hb2 HB2 HB3 hat2
    go_wp2_with fail
    go_ret2
    exact LoadA.mk _ b 0 5 (Or.inr (Or.inl ⟨HC.out, h0, rfl, rfl, rfl⟩)) ⟨_, _, HBx.out _⟩ (HGx.out _)
  · have e : Px.tabP b.st tab = ({ b.st with tab := tab }, 0) := if_neg h0
    rw [e] at hat2 ⊢
    have hz0 : b.st.slots.length = 0 := by omega
    have HZ0 : Hid (b.st.slots.length = 0) := hz0
    have HI3 := PIn.new w2 { b.st with tab := tab } (.slice ad3 b.st.slots.length cap3) (.slice ad4 b.st.ends.length cap4)
    have HB3 := HB2.later (below_alloc w2 (pstO { b.st with tab := tab } (.slice ad3 b.st.slots.length cap3) (.slice ad4 b.st.ends.length cap4)))
    have HA3 := hat2.later (below_alloc w2 (pstO { b.st with tab := tab } (.slice ad3 b.st.slots.length cap3) (.slice ad4 b.st.ends.length cap4)))
    have HG3 := grow_trans HG2.out (grow_of_below (below_alloc w2 (pstO { b.st with tab := tab } (.slice ad3 b.st.slots.length cap3) (.slice ad4 b.st.ends.length cap4))) (some B))
    clear hb2 HB2 hat2 hz0
    go_upto_region 5 with fail
    generalize w2.alloc (pstO { b.st with tab := tab } (.slice ad3 b.st.slots.length cap3) (.slice ad4 b.st.ends.length cap4)) = W3 at *
    generalize w2.heap.size = q at *
    have HB3' : Hid (PB W3 B b (.slice ad b.st.slots.length cap) (.slice ad2 b.st.ends.length cap2)) := HB3
    have HA3' : Hid (PAt W3 { b.st with tab := tab } (.slice ad3 b.st.slots.length cap3) (.slice ad4 b.st.ends.length cap4)) := HA3
    have HI3' : Hid (PIn W3 q { b.st with tab := tab } (.slice ad3 b.st.slots.length cap3) (.slice ad4 b.st.ends.length cap4)) := HI3
    have HG3' : Hid (w.grownBy W3 (some B)) := HG3
    clear HB3 HA3 HI3 HG3
    go_wp2_with fail
    refine (ftab_any tab _ h300).mono ?_
    rintro e w4 ⟨rfl, hb4⟩
    have HB4 : Hid (PB w4 B b (.slice ad b.st.slots.length cap) (.slice ad2 b.st.ends.length cap2)) := HB3'.out.later hb4
    have HA4 : Hid (PAt w4 { b.st with tab := tab } (.slice ad3 b.st.slots.length cap3) (.slice ad4 b.st.ends.length cap4)) := HA3'.out.later hb4
    obtain ⟨i0, i1, i2, i3, i4⟩ := HI3'.out.later hb4
    have HG4 : Hid (w.grownBy w4 (some B)) := grow_trans HG3'.out (grow_of_below hb4 _)
    have hfz := frame_sz (chT tab) h300
    have HFr : Hid (Bx.frames [chT tab] = Bx.frame (Bx.body (chT tab))) := Px.frames_one _
    generalize Bx.frame (Bx.body (chT tab)) = fr at *
    clear hb4 HB3' HA3' HI3' HG3'
    go_wp2_with fail
    refine (commit_any b B { b.st with tab := tab } fr _ _ _ _ _ (by omega) (by omega) HB4.out HA4.out).mono ?_
    intro e w5 hcm
    clear i0 i1 i2 i3 i4
    cases hcm with
    | no _ h hb =>
      have HG5 : Hid (w.grownBy w5 (some B)) := grow_trans HG4.out (grow_of_below hb _)
      have HB5 : Hid (PB w5 B b (.slice ad b.st.slots.length cap) (.slice ad2 b.st.ends.length cap2)) := HB4.out.later hb
      have hR : Hid (b.room < (b.log.size : Int) + (Bx.frames [chT tab]).size) := by unfold Hid; rw [HFr.out]; exact h
      clear hb h
      go_wp2_with fail
      go_ret2
      exact LoadA.mk _ b 0 13 (Or.inr (Or.inr (Or.inl ⟨HC.out, HZ0.out, hR.out, rfl, rfl, rfl⟩))) ⟨_, _, HB5.out⟩ HG5.out
    | yes _ h hB hg =>
      have HG5 : Hid (w.grownBy w5 (some B)) := grow_trans HG4.out hg
      have HB5 : Hid (PB w5 B { b with st := { b.st with tab := tab }, log := b.log ++ fr } _ _) := hB
      have hR : Hid (¬ b.room < (b.log.size : Int) + (Bx.frames [chT tab]).size) := by unfold Hid; rw [HFr.out]; exact h
      clear hg hB h
      go_wp2_with fail
      go_ret2
      exact LoadA.mk _ _ 0 0 (Or.inr (Or.inr (Or.inr ⟨HC.out, HZ0.out, (by have := hR.out; omega), rfl, rfl, rfl⟩))) ⟨_, _, by rw [HFr.out]; exact HB5.out⟩ HG5.out
end Go.Proofs.YtdajolpoiffimabGreatDoor

namespace Go.Proofs.YtdajolpoiffimabGreatDoor
open Go.RowKit

set_option maxRecDepth 10000 in
set_option maxHeartbeats 2000000 in
theorem withCancel_any (s : Px.St) (n : Int) (sl en : Value) (w : World) (hl : s.slots.length ≤ 10000) (he : s.ends.length ≤ 10000) (hS : PAt w s sl en) :
    Calls Tryz.prog 59 #[pstV s sl en, .int .i64 n] w fun e w' => ChgR (Px.cancelP s n) w' e ∧ Below w.heap.size w w' := by
  obtain ⟨ad, cap, rfl, hcap⟩ := hS.sl.form
  obtain ⟨ad2, cap2, rfl, hcap2⟩ := hS.en.form
  have HS : Hid (PAt w s (.slice ad s.slots.length cap) (.slice ad2 s.ends.length cap2)) := hS
  have hP := PRes.new w s (.slice ad s.slots.length cap) (.slice ad2 s.ends.length cap2)
  clear hS
  go_enter Tryz.func59, Tryz.ntmps59
  go_upto_region 1 with fail
  generalize (w.alloc (pstO s (.slice ad s.slots.length cap) (.slice ad2 s.ends.length cap2))).alloc pzO = W at *
  have HSW : Hid (PAt W s (.slice ad s.slots.length cap) (.slice ad2 s.ends.length cap2)) := HS.out.later hP.bel
  have HP : Hid (PRes w W s (.slice ad s.slots.length cap) (.slice ad2 s.ends.length cap2)) := hP
  obtain ⟨i0, i1, i2, i3, i4⟩ := hP.st
  clear hP
  go_wp2_with fail
  refine (pfind_any s n _ _ _ hl HSW.out).mono ?_
  rintro e w1 ⟨hF, hb1⟩
  clear i0 i1 i2 i3 i4
  have HP1 := HP.out.later hb1
  have HS1 := HSW.out.later hb1
  clear HP HSW hb1
  rcases hF with ⟨x, hf, rfl⟩ | ⟨hf, rfl⟩
  rotate_left
  · have HM : Hid (Px.cancelP s n = (Px.st0, 8)) := by unfold Hid Px.cancelP; rw [hf]
    clear hf
    generalize Px.sl0 = x at *
    have HPW2 := HP1.later (below_alloc w1 (psO x))
    clear HP1 HS1
    go_upto_region 2 with fail
    generalize w1.alloc (psO x) = W2 at *
    obtain ⟨⟨⟨u0, r0⟩, f0⟩, ⟨⟨u1, r1⟩, f1⟩, ⟨⟨u2, r2⟩, f2⟩, ⟨⟨u3, r3⟩, f3⟩, ⟨⟨u4, r4⟩, f4⟩⟩ := HPW2.five
    have HB2 : Hid (Below w.heap.size w W2) := HPW2.bel
    clear HPW2
    go_wp2_with fail
    refine bodyPost_ret (v := .tuple #[.agg #[.string { data := #[] }, .int .i64 0, .int .i64 0, .slice none 0 0, .slice none 0 0], .int .i64 8]) (by simp [results, Tryz.results59, go_sem, r0, r1, r2, r3, r4]) rfl ⟨ChgR.err HM.out, below_set5' HB2.out (by omega) _ _ _ _ _⟩
  have HFx : Hid (Px.find s.slots n = some x) := hf
  have HP2 := HP1.later (below_alloc w1 (psO x))
  have HS2 := HS1.later (below_alloc w1 (psO x))
  have hx2 := PsIn.new w1 x
  have hq1 : w1.heap.size < (w1.alloc (psO x)).heap.size := by simp
  have hq0 : w.heap.size + 1 < w1.heap.size := HP1.lt
  clear HP1 HS1 hf
  go_upto_region 2 with fail
  generalize w1.alloc (psO x) = W2 at *
  generalize w1.heap.size = xq at *
  have HPP2 : Hid (PRes w W2 s (.slice ad s.slots.length cap) (.slice ad2 s.ends.length cap2)) := HP2
  have HSS2 : Hid (PAt W2 s (.slice ad s.slots.length cap) (.slice ad2 s.ends.length cap2)) := HS2
  have HX2 : Hid (PsIn W2 xq x) := hx2
  obtain ⟨x0, x1, x2, x3, x4, x5, x6, x7⟩ := hx2
  clear HP2 HS2
  have HM : Hid (Px.cancelP s n = (Px.ended s x.num ⟨#[107]⟩, 0)) := by unfold Hid Px.cancelP; rw [HFx.out, hK_eq]
  obtain ⟨i0, i1, i2, i3, i4⟩ := HPP2.out.st
  go_wp2_with fail
  refine (ended_any s x.num ⟨#[107]⟩ _ _ _ hl he HSS2.out).mono ?_
  rintro e w4 ⟨⟨sl4, en4, rfl, hst4⟩, hb4⟩
  clear i0 i1 i2 i3 i4 x0 x1 x2 x3 x4 x5 x6 x7
  have HPw4 := HPP2.out.later hb4
  obtain ⟨ad4, cap4, hv4, _⟩ := hst4.sl.form
  obtain ⟨ad5, cap5, hv5, _⟩ := hst4.en.form
  subst hv4 hv5
  have H4 : Hid (PAt w4 (Px.ended s x.num ⟨#[107]⟩) (.slice ad4 (Px.ended s x.num ⟨#[107]⟩).slots.length cap4) (.slice ad5 (Px.ended s x.num ⟨#[107]⟩).ends.length cap5)) := hst4
  have HT4 : Hid (Typed w4 (w.heap.size + 1) 77) := HPw4.ty
  have HB4 : Hid (Below w.heap.size w w4) := HPw4.bel
  obtain ⟨⟨⟨u0, r0⟩, f0⟩, ⟨⟨u1, r1⟩, f1⟩, ⟨⟨u2, r2⟩, f2⟩, ⟨⟨u3, r3⟩, f3⟩, ⟨⟨u4, r4⟩, f4⟩⟩ := HPw4.five
  clear hst4 hb4 HPw4 HPP2 HSS2
  go_wp2_with fail
  refine bodyPost_ret (v := .tuple #[pstV (Px.ended s x.num ⟨#[107]⟩) (.slice ad4 (Px.ended s x.num ⟨#[107]⟩).slots.length cap4) (.slice ad5 (Px.ended s x.num ⟨#[107]⟩).ends.length cap5), .int .i64 0]) (by simp [results, Tryz.results59, go_sem, r0, r1, r2, r3, r4]) rfl ⟨ChgR.ok HM.out (H4.out.store HT4.out _ _ _ _ _), below_set5' HB4.out (by omega) _ _ _ _ _⟩

set_option maxHeartbeats 1000000 in
theorem fcancel_any (n : Int) (w : World) (h1 : 0 ≤ n) (h2 : n ≤ 100000) :
    Calls Tryz.prog 60 #[.int .i64 n] w fun e w' => e = .returned (.string (Bx.frame (Bx.body (chK n)))) ∧ Below w.heap.size w w' := by
  go_enter Tryz.func60, Tryz.ntmps60
  go_wp2_with fail
  refine (ofSlot_any 75 75 n _ (by decide) (by omega) (by omega) h1 h2).mono ?_
  rintro e w1 ⟨rfl, b1⟩
  go_wp2_with fail
  go_ret
  exact ⟨rfl, b1⟩
/-- An error, and the box then. -/
inductive AnsC (p : Px.Bo × Int) (B : Nat) (w : World) : Ending → World → Prop
  | mk (w' : World) (hB : PBx w' B p.1) (hg : w.grownBy w' (some B)) : AnsC p B w (.returned (.int .i64 p.2)) w'
theorem AnsC.of {p : Px.Bo × Int} {B : Nat} {w w' : World} {b : Px.Bo} {r : Int} (h : p = (b, r)) (hB : PBx w' B b) (hg : w.grownBy w' (some B)) : AnsC p B w (.returned (.int .i64 r)) w' := by
  subst h; exact AnsC.mk w' hB hg
theorem cancel_bd (s : Px.St) (n : Int) : (Px.cancelP s n).2 = 0 ∨ (Px.cancelP s n).2 = 8 := by
  unfold Px.cancelP
  cases Px.find s.slots n with
  | none => right; rfl
  | some x => left; rfl
theorem cancel_num {s : Px.St} (h : Px.Ok s) {n : Int} (h0 : (Px.cancelP s n).2 = 0) : 0 ≤ n ∧ n ≤ 100000 := by
  unfold Px.cancelP at h0
  cases q : Px.find s.slots n with
  | none => rw [q] at h0; cases h0
  | some x =>
    have hm := List.mem_of_find?_eq_some q
    have hnn : x.num = n := by simpa using List.find?_some q
    have := h.each hm; have : s.next ≤ 10000 := h.st.n2
    omega

set_option maxRecDepth 10000 in
set_option maxHeartbeats 4000000 in
theorem pcancel_any (b : Px.Bo) (B : Nat) (n : Int) (sl en : Value) (w : World) (hO : Px.Ok b.st) (hlg : b.log.size ≤ 10000) (hB : PB w B b sl en) :
    Calls Tryz.prog 30 #[.pointer (some ⟨B, 0, none⟩), .int .i64 n] w fun e w' => AnsC (Px.cancelB b n) B w e w' := by
  obtain ⟨ad, cap, rfl, hcap⟩ := hB.rows.sl.form
  obtain ⟨ad2, cap2, rfl, hcap2⟩ := hB.rows.en.form
  have HB : Hid (PB w B b (.slice ad b.st.slots.length cap) (.slice ad2 b.st.ends.length cap2)) := hB
  have HO : Hid (Px.Ok b.st) := hO
  have hl : b.st.slots.length ≤ 8 := hO.len
  have he : b.st.ends.length ≤ 6 := hO.st.en
  have hlt := hB.ty.lt
  have e2 := hB.c2; have e3 := hB.c3; have e4 := hB.c4; have e5 := hB.c5; have e6 := hB.c6
  clear hB hO
  go_enter Tryz.func30, Tryz.ntmps30
  go_wp2_with fail
  refine (withCancel_any b.st n _ _ _ (by omega) (by omega) HB.out.rows).mono ?_
  rintro e w1 ⟨⟨slt, ent, rfl, hat⟩, hb1⟩
  have HB1 := HB.out.later hb1
  have HG1 := grow_of_below hb1 (some B)
  clear e2 e3 e4 e5 e6 hb1
  obtain ⟨ad3, cap3, hv3, _⟩ := hat.sl.form
  obtain ⟨ad4, cap4, hv4, _⟩ := hat.en.form
  subst hv3 hv4
  have hbd := cancel_bd b.st n
  by_cases hd : (Px.cancelP b.st n).2 = 0
  rotate_left
  · have HM : Hid (Px.cancelB b n = (b, (Px.cancelP b.st n).2)) := by unfold Hid Px.cancelB; rw [if_pos hd]
    have hd' : ((Px.cancelP b.st n).2 != 0) = true := by simpa using hd
    have HBx : Hid (∀ o, PB (w1.alloc o) B b (.slice ad b.st.slots.length cap) (.slice ad2 b.st.ends.length cap2)) := fun o => HB1.later (below_alloc w1 o)
    have HGx : Hid (∀ o, w.grownBy (w1.alloc o) (some B)) := fun o => grow_trans HG1 (grow_of_below (below_alloc w1 o) _)
    clear hd HB1 HG1 hat
    generalize (Px.cancelP b.st n).2 = r at *
    generalize (Px.cancelP b.st n).1 = t at *
    go_wp2_with fail
    go_ret
    exact AnsC.of HM.out ⟨_, _, HBx.out _⟩ (HGx.out _)
  obtain ⟨hn1, hn2⟩ := cancel_num HO.out hd
  have HM0 : Hid (Px.cancelB b n = if b.room < (b.log.size : Int) + (Bx.frame (Bx.body (chK n))).size then (b, 13) else ({ b with st := (Px.cancelP b.st n).1, log := b.log ++ Bx.frame (Bx.body (chK n)) }, 0)) := by
    unfold Hid Px.cancelB; rw [if_neg (by omega), Px.frames_one]
  rw [hd]
  clear hbd hd
  generalize (Px.cancelP b.st n).1 = t at *
  have HB2 := HB1.later (below_alloc w1 (pstO t (.slice ad3 t.slots.length cap3) (.slice ad4 t.ends.length cap4)))
  have HG2 := grow_trans HG1 (grow_of_below (below_alloc w1 (pstO t (.slice ad3 t.slots.length cap3) (.slice ad4 t.ends.length cap4))) (some B))
  have HA2 := hat.later (below_alloc w1 (pstO t (.slice ad3 t.slots.length cap3) (.slice ad4 t.ends.length cap4)))
  have HI2 := PIn.new w1 t (.slice ad3 t.slots.length cap3) (.slice ad4 t.ends.length cap4)
  clear HB1 HG1 hat
  go_upto_region 2 with fail
  generalize w1.alloc (pstO t (.slice ad3 t.slots.length cap3) (.slice ad4 t.ends.length cap4)) = W2 at *
  generalize w1.heap.size = tq at *
  have HB2' : Hid (PB W2 B b (.slice ad b.st.slots.length cap) (.slice ad2 b.st.ends.length cap2)) := HB2
  have HG2' : Hid (w.grownBy W2 (some B)) := HG2
  have HA2' : Hid (PAt W2 t (.slice ad3 t.slots.length cap3) (.slice ad4 t.ends.length cap4)) := HA2
  have HI2' : Hid (PIn W2 tq t (.slice ad3 t.slots.length cap3) (.slice ad4 t.ends.length cap4)) := HI2
  clear HB2 HG2 HA2 HI2
  go_wp2_with fail
  refine (fcancel_any n _ hn1 hn2).mono ?_
  rintro e w3 ⟨rfl, hb3⟩
  have HB3 : Hid (PB w3 B b (.slice ad b.st.slots.length cap) (.slice ad2 b.st.ends.length cap2)) := HB2'.out.later hb3
  have HG3 : Hid (w.grownBy w3 (some B)) := grow_trans HG2'.out (grow_of_below hb3 _)
  have HA3 : Hid (PAt w3 t (.slice ad3 t.slots.length cap3) (.slice ad4 t.ends.length cap4)) := HA2'.out.later hb3
  obtain ⟨i0, i1, i2, i3, i4⟩ := HI2'.out.later hb3
  have hfz : (Bx.frame (Bx.body (chK n))).size ≤ 10000 := by have := frame_sz (chK n) (by show (0 : Nat) ≤ 300; omega); omega
  clear hb3 HB2' HG2' HA2' HI2'
  generalize Bx.frame (Bx.body (chK n)) = fr at *
  go_wp2_with fail
  refine (commit_any b B t fr _ _ _ _ _ (by omega) (by omega) HB3.out HA3.out).mono ?_
  intro e w5 hcm
  clear i0 i1 i2 i3 i4
  cases hcm with
  | no _ h hb =>
    have HM2 : Hid (AnsC (Px.cancelB b n) B w (.returned (.int .i64 13)) w5) := AnsC.of (by rw [HM0.out, if_pos h]) ⟨_, _, HB3.out.later hb⟩ (grow_trans HG3.out (grow_of_below hb _))
    clear hb h
    go_wp2_with fail
    go_ret
    exact HM2.out
  | yes _ h hB hg =>
    have HM2 : Hid (AnsC (Px.cancelB b n) B w (.returned (.int .i64 0)) w5) := AnsC.of (by rw [HM0.out, if_neg h]) ⟨_, _, hB⟩ (grow_trans HG3.out hg)
    clear hB hg h
    go_wp2_with fail
    go_ret
    exact HM2.out
end Go.Proofs.YtdajolpoiffimabGreatDoor

namespace Go.Proofs.YtdajolpoiffimabGreatDoor
open Go.RowKit

theorem drew_cell (w : World) (p : Addr) : w.drew.cell? p = w.cell? p := rfl
theorem parr_len {s : Px.St} (p : Nat × Int) (h : s.slots.length ≤ 8) (he : s.ends.length ≤ 6) : (Px.arr s p).slots.length ≤ 8 ∧ (Px.arr s p).ends.length ≤ 6 ∧ (Px.arr s p).next = s.next + 1 := by
  unfold Px.arr; split
  · exact ⟨h, by show (Bx.push _ _).length ≤ 6; simp [Bx.push]; omega, rfl⟩
  · exact ⟨by simp; omega, he, rfl⟩
theorem parrs_len (l : List (Nat × Int)) (s : Px.St) (h : s.slots.length ≤ 8) (he : s.ends.length ≤ 6) : (l.foldl Px.arr s).slots.length ≤ 8 ∧ (l.foldl Px.arr s).ends.length ≤ 6 ∧ (l.foldl Px.arr s).next = s.next + l.length := by
  induction l generalizing s with
  | nil => exact ⟨h, he, by simp⟩
  | cons p r ih =>
    obtain ⟨h1, h2, h3⟩ := parr_len p h he
    obtain ⟨i1, i2, i3⟩ := ih (Px.arr s p) h1 h2
    exact ⟨i1, i2, by rw [List.foldl_cons, i3, h3]; simp; omega⟩
theorem parrs_take (l : List (Nat × Int)) (s : Px.St) (k : Nat) (h : k < l.length) : (l.take (k + 1)).foldl Px.arr s = Px.arr ((l.take k).foldl Px.arr s) l[k] := by
  rw [List.take_succ_eq_append_getElem h, List.foldl_append]; rfl
theorem PW.put {W : World} {q : Nat} {s : Px.St} {sl en : Value} (h : PW W q s sl en) (t : Px.St) (sl' en' : Value) :
    PW (((((W.setCell ⟨q, 0, none⟩ (.string t.tab)).setCell ⟨q, 1, none⟩ (.int .i64 t.clock)).setCell ⟨q, 2, none⟩ (.int .i64 t.next)).setCell ⟨q, 3, none⟩ sl').setCell ⟨q, 4, none⟩ en') q t sl' en' := by
  obtain ⟨⟨c0, c1, c2, c3, c4⟩, f, ty⟩ := h
  refine ⟨⟨?_, ?_, ?_, ?_, ?_⟩, fun j hj => ?_, ((((ty.setCell _ _ _).setCell _ _ _).setCell _ _ _).setCell _ _ _).setCell _ _ _⟩
  case refine_6 => simp [go_sem, f j hj]
  all_goals simp [go_sem, c0, c1, c2, c3, c4]
/-- What holds while the arrivals are put in. -/
structure CkIn (w wr : World) (q : Nat) (s t : Px.St) (sl en slt ent v : Value) (n : Nat) (cells : List Value) : Prop where
  res : PRes w wr s sl en
  pw : PW wr q t slt ent
  at' : PAt wr t slt ent
  row : TRow wr 141 v n cells
theorem CkIn.later {w wr w' : World} {q : Nat} {s t : Px.St} {sl en slt ent v : Value} {n : Nat} {cells : List Value} (h : CkIn w wr q s t sl en slt ent v n cells) (hb : Below wr.heap.size wr w') : CkIn w w' q s t sl en slt ent v n cells :=
  ⟨h.res.later hb, h.pw.later hb, h.at'.later hb, h.row.later hb⟩
theorem CkIn.put {w wr : World} {q : Nat} {s t u : Px.St} {sl en slt ent slu enu v : Value} {n : Nat} {cells : List Value} (h : CkIn w wr q s t sl en slt ent v n cells) (hq : w.heap.size + 1 < q) (hu : PAt wr u slu enu) :
    CkIn w (((((wr.setCell ⟨q, 0, none⟩ (.string u.tab)).setCell ⟨q, 1, none⟩ (.int .i64 u.clock)).setCell ⟨q, 2, none⟩ (.int .i64 u.next)).setCell ⟨q, 3, none⟩ slu).setCell ⟨q, 4, none⟩ enu) q s u sl en slu enu v n cells := by
  refine ⟨((((h.res.set hq _ _).set hq _ _).set hq _ _).set hq _ _).set hq _ _, h.pw.put u slu enu, hu.store h.pw.ty _ _ _ _ _, ?_⟩
  have st : ∀ (w : World) (j : Nat) (x : Value), (Typed w q 77 ∧ TRow w 141 v n cells) → (Typed (w.setCell ⟨q, j, none⟩ x) q 77 ∧ TRow (w.setCell ⟨q, j, none⟩ x) 141 v n cells) := fun w j x h => ⟨h.1.setCell _ _ _, h.2.set h.1 (by decide) _ _⟩
  exact (st _ _ _ (st _ _ _ (st _ _ _ (st _ _ _ (st _ _ _ ⟨h.pw.ty, h.row⟩))))).2
theorem arC_at {w : World} {L : List (Nat × Int)} {b off : Nat} (c : ∀ j (h : j < (L.flatMap arC).length), w.cell? ⟨b, off + j, none⟩ = some (L.flatMap arC)[j]) (i : Nat) (hi : i < L.length) :
    w.cell? ⟨b, off + i * 2, none⟩ = some (.int .i64 ((L[i].1 : Int) + 1)) ∧ w.cell? ⟨b, off + i * 2 + 1, none⟩ = some (.int .i64 L[i].2) :=
  ⟨RowAt.cell arC_len c i hi 0 (by decide), RowAt.cell arC_len c i hi 1 (by decide)⟩

set_option maxRecDepth 10000 in
set_option maxHeartbeats 8000000 in
theorem withClock_any (s : Px.St) (m : Int) (sl en : Value) (w : World) (hO : Px.Ok s) (hT : TabLH w) (hM : Tab w) (hS : PAt w s sl en) :
    Calls Tryz.prog 47 #[pstV s sl en, .int .i64 m] w fun e w' => ChgR (Px.clockP s m) w' e ∧ Below w.heap.size w w' := by
  obtain ⟨ad, cap, rfl, hcap⟩ := hS.sl.form
  obtain ⟨ad2, cap2, rfl, hcap2⟩ := hS.en.form
  have HO : Hid (Px.Ok s) := hO
  have hc1 : -1 ≤ s.clock := hO.st.c1
  have hc2 : s.clock ≤ 4223371679 := hO.st.c2
  have hn1 : 1 ≤ s.next := hO.st.n1
  have hn2 : s.next ≤ 10000 := hO.st.n2
  have HCE := Px.clock_err' s m
  have HCE' : Hid _ := HCE
  have HS : Hid (PAt w s (.slice ad s.slots.length cap) (.slice ad2 s.ends.length cap2)) := hS
  have hP := PRes.new w s (.slice ad s.slots.length cap) (.slice ad2 s.ends.length cap2)
  clear hS hO HCE
  go_enter Tryz.func47, Tryz.ntmps47
  go_upto_region 1 with fail
  generalize (w.alloc (pstO s (.slice ad s.slots.length cap) (.slice ad2 s.ends.length cap2))).alloc pzO = W at *
  have HSW : Hid (PAt W s (.slice ad s.slots.length cap) (.slice ad2 s.ends.length cap2)) := HS.out.later hP.bel
  have HT : Hid (TabLH W) := hT.later hP.bel
  have HMM : Hid (Tab W) := hM.later hP.bel
  have HP : Hid (PRes w W s (.slice ad s.slots.length cap) (.slice ad2 s.ends.length cap2)) := hP
  obtain ⟨i0, i1, i2, i3, i4⟩ := hP.st
  clear hP hT hM
  by_cases h4 : m < 0 ∨ 4223371679 < m
  · have HM : Hid (Px.clockP s m = (Px.st0, 4)) := HCE'.out.1 h4
    have HPW := HP.out
    clear HP HSW HT HMM
    rcases h4 with h4 | h4
    · obtain ⟨⟨⟨u0, r0⟩, f0⟩, ⟨⟨u1, r1⟩, f1⟩, ⟨⟨u2, r2⟩, f2⟩, ⟨⟨u3, r3⟩, f3⟩, ⟨⟨u4, r4⟩, f4⟩⟩ := HPW.five
      have HB2 : Hid (Below w.heap.size w W) := HPW.bel
      clear HPW
      go_wp2_with fail
      refine bodyPost_ret (v := .tuple #[.agg #[.string { data := #[] }, .int .i64 0, .int .i64 0, .slice none 0 0, .slice none 0 0], .int .i64 4]) (by simp [results, Tryz.results47, go_sem, r0, r1, r2, r3, r4]) rfl ⟨ChgR.err HM.out, below_set5' HB2.out (by omega) _ _ _ _ _⟩
    · by_cases h5 : m < 0
      · omega
      · obtain ⟨⟨⟨u0, r0⟩, f0⟩, ⟨⟨u1, r1⟩, f1⟩, ⟨⟨u2, r2⟩, f2⟩, ⟨⟨u3, r3⟩, f3⟩, ⟨⟨u4, r4⟩, f4⟩⟩ := HPW.five
        have HB2 : Hid (Below w.heap.size w W) := HPW.bel
        clear HPW
        go_wp2_with fail
        refine bodyPost_ret (v := .tuple #[.agg #[.string { data := #[] }, .int .i64 0, .int .i64 0, .slice none 0 0, .slice none 0 0], .int .i64 4]) (by simp [results, Tryz.results47, go_sem, r0, r1, r2, r3, r4]) rfl ⟨ChgR.err HM.out, below_set5' HB2.out (by omega) _ _ _ _ _⟩
  have m1 : 0 ≤ m := by omega
  have m2 : m ≤ 4223371679 := by omega
  go_wp2_with fail
  refine (pahead_any s m _ _ _ hc1 hc2 m1 m2 HSW.out).mono ?_
  rintro e w1 ⟨rfl, hb1⟩
  clear i0 i1 i2 i3 i4
  have HPw1 := HP.out.later hb1
  have HS1 : Hid (PAt w1 s (.slice ad s.slots.length cap) (.slice ad2 s.ends.length cap2)) := HSW.out.later hb1
  have HT1 : Hid (TabLH w1) := HT.out.later hb1
  have HM1 : Hid (Tab w1) := HMM.out.later hb1
  clear HP HSW HT HMM hb1
  cases hah : Px.aheadP s m
  · have HM : Hid (Px.clockP s m = (Px.st0, 6)) := HCE'.out.2.1 h4 hah
    clear hah h4
    obtain ⟨⟨⟨u0, r0⟩, f0⟩, ⟨⟨u1, r1⟩, f1⟩, ⟨⟨u2, r2⟩, f2⟩, ⟨⟨u3, r3⟩, f3⟩, ⟨⟨u4, r4⟩, f4⟩⟩ := HPw1.five
    have HB2 : Hid (Below w.heap.size w w1) := HPw1.bel
    clear HPw1
    go_wp2_with fail
    refine bodyPost_ret (v := .tuple #[.agg #[.string { data := #[] }, .int .i64 0, .int .i64 0, .slice none 0 0, .slice none 0 0], .int .i64 6]) (by simp [results, Tryz.results47, go_sem, r0, r1, r2, r3, r4]) rfl ⟨ChgR.err HM.out, below_set5' HB2.out (by omega) _ _ _ _ _⟩
  have hao : s.clock < m ∧ (s.clock = -1 ∨ m - s.clock ≤ 1500) := by unfold Px.aheadP at hah; exact of_decide_eq_true hah
  have hnw : 0 ≤ Px.newA s m ∧ Px.newA s m ≤ m ∧ m - Px.newA s m ≤ 1500 := by unfold Px.newA; split <;> omega
  have HCE2 : Hid (Px.clockP s m = if 10000 < s.next + ((Px.comesP s m).length : Int) then (Px.st0, 7) else ({ (Px.comesP s m).foldl Px.arr s with clock := m }, 0)) := HCE'.out.2.2 h4 hah
  clear hah h4 hao HCE'
  obtain ⟨i0, i1, i2, i3, i4⟩ := HPw1.st
  have HP1 : Hid (PRes w w1 s (.slice ad s.slots.length cap) (.slice ad2 s.ends.length cap2)) := HPw1
  clear HPw1
  go_wp2_with fail
  refine (plines_any s _ _ _ HO.out.st.tab HT1.out HS1.out).mono ?_
  rintro e w2 ⟨⟨g, c, rfl, hgc, hL⟩, hb2⟩
  clear i0 i1 i2 i3 i4
  have HPw2 := HP1.out.later hb2
  have HS2 : Hid (PAt w2 s (.slice ad s.slots.length cap) (.slice ad2 s.ends.length cap2)) := HS1.out.later hb2
  have HM2 : Hid (Tab w2) := HM1.out.later hb2
  have HL2 : Hid (PLinesAt w2 g s.tab) := hL
  have HP2 : Hid (PRes w w2 s (.slice ad s.slots.length cap) (.slice ad2 s.ends.length cap2)) := HPw2
  obtain ⟨i0, i1, i2, i3, i4⟩ := HPw2.st
  clear HPw2 HP1 HS1 HT1 HM1 hb2 hL
  go_wp2_with fail
  refine (firstNew_any s m _ _ _ hc1 hc2 HS2.out).mono ?_
  rintro e w3 ⟨rfl, hb3⟩
  clear i0 i1 i2 i3 i4
  have HP3 : Hid (PRes w w3 s (.slice ad s.slots.length cap) (.slice ad2 s.ends.length cap2)) := HP2.out.later hb3
  have HS3 : Hid (PAt w3 s (.slice ad s.slots.length cap) (.slice ad2 s.ends.length cap2)) := HS2.out.later hb3
  have HM3 : Hid (Tab w3) := HM2.out.later hb3
  have HL3 : Hid (PLinesAt w3 g s.tab) := HL2.out.later hb3
  clear HP2 HS2 HM2 HL2 hb3
  go_wp2_with fail
  refine (latestFirst_any s.tab g c (Px.newA s m) m w3 HO.out.st.tab hnw.1 hnw.2.1 m2 hnw.2.2 HM3.out HL3.out).mono ?_
  rintro e w4 ⟨⟨v, rfl, hown⟩, hb4⟩
  have HPw4 := HP3.out.later hb4
  have HSw4 := HS3.out.later hb4
  have hrow := TRow.of_own hown
  obtain ⟨adv, capv, hvv, _⟩ := hrow.form
  subst hvv
  have HR4 : Hid (TRow w4 141 (.slice adv (Bx.comes (Bx.lns s.tab) (Px.newA s m) m).length capv) (Bx.comes (Bx.lns s.tab) (Px.newA s m) m).length ((Bx.comes (Bx.lns s.tab) (Px.newA s m) m).reverse.flatMap arC)) := hrow
  have HCm : Hid (Px.comesP s m = Bx.comes (Bx.lns s.tab) (Px.newA s m) m) := rfl
  rw [HCm.out] at HCE2
  have hcl : (Bx.comes (Bx.lns s.tab) (Px.newA s m) m).length ≤ 100000 := by
    have h1 := Bx.comes_len (Bx.lns s.tab) (Px.newA s m) m
    have h2 := lns_len s.tab
    have h3 := tn_le HO.out.st.tab
    have h5 : (m + 1 - Px.newA s m).toNat ≤ 1501 := by omega
    have h6 : (m + 1 - Px.newA s m).toNat * (Bx.lns s.tab).length ≤ 1501 * 4 := Nat.mul_le_mul h5 (by rw [h2]; exact h3)
    omega
  clear hown hb4 hrow HP3 HS3 HM3 HL3 HCm
  generalize Bx.comes (Bx.lns s.tab) (Px.newA s m) m = C at *
  obtain ⟨i0, i1, i2, i3, i4⟩ := HPw4.st
  by_cases h7 : 10000 < s.next + (C.length : Int)
  · have HM : Hid (Px.clockP s m = (Px.st0, 7)) := by unfold Hid; rw [HCE2.out, if_pos h7]
    clear HCE2 HR4
    obtain ⟨⟨⟨u0, r0⟩, f0⟩, ⟨⟨u1, r1⟩, f1⟩, ⟨⟨u2, r2⟩, f2⟩, ⟨⟨u3, r3⟩, f3⟩, ⟨⟨u4, r4⟩, f4⟩⟩ := HPw4.five
    have HB2 : Hid (Below w.heap.size w w4) := HPw4.bel
    clear HPw4
    go_wp2_with fail
    refine bodyPost_ret (v := .tuple #[.agg #[.string { data := #[] }, .int .i64 0, .int .i64 0, .slice none 0 0, .slice none 0 0], .int .i64 7]) (by simp [results, Tryz.results47, go_sem, r0, r1, r2, r3, r4]) rfl ⟨ChgR.err HM.out, below_set5' HB2.out (by omega) _ _ _ _ _⟩
  have HM : Hid (Px.clockP s m = ({ C.foldl Px.arr s with clock := m }, 0)) := by unfold Hid; rw [HCE2.out, if_neg h7]
  clear HCE2
  have HK5 : CkIn w (w4.alloc (pstO s (.slice ad s.slots.length cap) (.slice ad2 s.ends.length cap2))) w4.heap.size s s (.slice ad s.slots.length cap) (.slice ad2 s.ends.length cap2) (.slice ad s.slots.length cap) (.slice ad2 s.ends.length cap2) (.slice adv C.length capv) C.length (C.reverse.flatMap arC) :=
    ⟨HPw4.later (below_alloc _ _), PW.new w4 s (.slice ad s.slots.length cap) (.slice ad2 s.ends.length cap2), HSw4.later (below_alloc _ _), HR4.out.later (below_alloc _ _)⟩
  have hq4 : w.heap.size + 1 < w4.heap.size := HPw4.lt
  clear HPw4 HSw4 HR4
  go_upto_region 11 with fail
  clear i0 i1 i2 i3 i4
  generalize w4.alloc (pstO s (.slice ad s.slots.length cap) (.slice ad2 s.ends.length cap2)) = W5 at *
  generalize w4.heap.size = q at *
  have HK : Hid (CkIn w W5 q s s (.slice ad s.slots.length cap) (.slice ad2 s.ends.length cap2) (.slice ad s.slots.length cap) (.slice ad2 s.ends.length cap2) (.slice adv C.length capv) C.length (C.reverse.flatMap arC)) := HK5
  have hsl8 : s.slots.length ≤ 8 := HO.out.len
  have hen6 : s.ends.length ≤ 6 := HO.out.st.en
  clear HK5
  go_wp2_with fail
  go_loopw [10] (fun x wr => ∃ (j : Nat) (slt ent : Value), j ≤ C.length ∧ x = .int .i64 ((C.length : Int) - 1 - (j : Int)) ∧ CkIn w wr q s ((C.take j).foldl Px.arr s) (.slice ad s.slots.length cap) (.slice ad2 s.ends.length cap2) slt ent (.slice adv C.length capv) C.length (C.reverse.flatMap arC)) (fun x _ => (intOf x + 1).toNat)
  case atStart => exact ⟨0, _, _, Nat.zero_le _, by go_num, HK.out⟩
  case round =>
    clear HK
    obtain ⟨j, slt, ent, hj, rfl, HI⟩ := hrel
    obtain ⟨hl1, hl2, hl3⟩ := parrs_len (C.take j) s hsl8 hen6
    have hl4 : (C.take j).length = j := by simp; omega
    rw [hl4] at hl3
    by_cases hlt : j < C.length
    · have HTk : Hid ((C.take (j + 1)).foldl Px.arr s = Px.arr ((C.take j).foldl Px.arr s) C[j]) := parrs_take C s j hlt
      obtain ⟨k, hk⟩ : ∃ k : Nat, (C.length : Int) - 1 - (j : Int) = (k : Int) := ⟨C.length - 1 - j, by omega⟩
      have hkl : k < C.reverse.length := by rw [List.length_reverse]; omega
      have hce : C.reverse[k] = C[j] := by
        rw [List.getElem_reverse]; congr 1; omega
      obtain ⟨b, off, cap', hv, _, hcc⟩ := HI.row.1.some' (by omega)
      cases hv
      obtain ⟨d0, d1⟩ := arC_at hcc k hkl
      rw [hce] at d0 d1
      obtain ⟨adt, capt, hvt, _⟩ := HI.at'.sl.form
      obtain ⟨ade, cape, hve, _⟩ := HI.at'.en.form
      subst hvt hve
      have hbl : b < wr.heap.size := World.block_lt_of_cell? _ _ d0
      have hql : q < wr.heap.size := HI.pw.ty.lt
      obtain ⟨c0, c1, c2, c3, c4⟩ := HI.pw.st
      have f0 := HI.pw.f 0 (by decide); have f1 := HI.pw.f 1 (by decide); have f2 := HI.pw.f 2 (by decide); have f3 := HI.pw.f 3 (by decide); have f4 := HI.pw.f 4 (by decide)
      have HI' : Hid (CkIn w wr q s ((C.take j).foldl Px.arr s) (.slice ad s.slots.length cap) (.slice ad2 s.ends.length cap2) _ _ _ C.length (C.reverse.flatMap arC)) := HI
      have HKk : Hid ((C.length : Int) - 1 - (j : Int) = (k : Int)) := hk
      have bk0 : (0 : Int) ≤ (k : Int) := by omega
      have bk1 : (k : Int) < (C.length : Int) := by omega
      have HA : Hid (PAt wr ((C.take j).foldl Px.arr s) _ _) := HI.at'
      rw [hk]
      generalize (C.take j).foldl Px.arr s = t at *
      generalize C[j] = p at *
      have hl5 : t.slots.length ≤ 10000 := by omega
      have hl6 : t.ends.length ≤ 10000 := by omega
      have hl7 : 0 ≤ t.next := by omega
      have hl8 : t.next ≤ 100000 := by omega
      have HL3 : Hid (t.next = s.next + (j : Int)) := hl3
      clear hcc HI hk hl4 hce hkl hl3
      go_wp2_with fail
      go_region_with ((go_at_call 89; refine (withArrival_any t p _ _ _ hl5 hl6 hl7 hl8 ?hs).mono ?_; (case hs => exact HA.out.later (Below.refl _ _).drew); rintro e w6 ⟨⟨slu, enu, rfl, hst6⟩, hb6⟩; have hbC : Below wr.heap.size wr w6 := (Below.refl _ _).drew.trans hb6; obtain ⟨adu, capu, rfl, hcu⟩ := hst6.sl.form; obtain ⟨adv2, capv2, rfl, hcv⟩ := hst6.en.form; obtain ⟨hcC, hfC⟩ := bcell hbC; clear hb6))
      all_goals
        have HI6 := (HI'.out.later hbC).put hq4 hst6
        clear hbC hst6
        go_wp2_with fail
        go_roundw
        (case rel => exact ⟨j + 1, _, _, by omega, (by have h := HKk.out; congr 1; omega), by rw [HTk.out]; exact HI6⟩)
        (case measure => first | (simp [intOf]; done) | (simp [intOf]; omega))
    · obtain rfl : j = C.length := by omega
      have HTk : Hid (C.take C.length = C) := List.take_length
      rw [HTk.out] at HI
      have hx : (C.length : Int) - 1 - (C.length : Int) = -1 := by omega
      rw [hx]
      obtain ⟨adt, capt, hvt, _⟩ := HI.at'.sl.form
      obtain ⟨ade, cape, hve, _⟩ := HI.at'.en.form
      subst hvt hve
      clear hl1 hl2 hl3 hl4 hj HTk
      have hA := HI.pw
      have a1 := hA.st.c1
      have g1 := hA.f 1 (by decide)
      have hql := hA.ty.lt
      generalize C.foldl Px.arr s = t at *
      have HP7 := HI.res.set hq4 1 (.int .i64 m)
      have HA7 := hA.clock m
      have HS7 := HI.at'.set hA.ty (by decide) (by decide) 1 (.int .i64 m)
      clear hA HI
      go_upto_region 16 with fail
      clear a1 g1
      generalize wr.setCell ⟨q, 1, none⟩ (.int .i64 m) = W7 at *
      have HX : Hid (PEnd w W7 q { t with clock := m } (.slice adt t.slots.length capt) (.slice ade t.ends.length cape)) := ⟨HA7, ⟨HS7.sl, HS7.en⟩, HP7.z, HP7.ty, HP7.bel⟩
      obtain ⟨⟨⟨u0, r0⟩, f0⟩, ⟨⟨u1, r1⟩, f1⟩, ⟨⟨u2, r2⟩, f2⟩, ⟨⟨u3, r3⟩, f3⟩, ⟨⟨u4, r4⟩, f4⟩⟩ := HP7.five
      obtain ⟨c0, c1, c2, c3, c4⟩ := HA7.st
      clear HP7 HA7 HS7
      go_wp2_with fail
      refine bodyPost_ret (v := .tuple #[pstV { t with clock := m } (.slice adt t.slots.length capt) (.slice ade t.ends.length cape), .int .i64 0]) (by simp [results, Tryz.results47, go_sem, r0, r1, r2, r3, r4]) rfl ⟨ChgR.ok HM.out (HX.out.fin _ _ _ _ _).1, (HX.out.fin _ _ _ _ _).2⟩
end Go.Proofs.YtdajolpoiffimabGreatDoor
