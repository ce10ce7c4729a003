/-
  PrgBox, PrgAsk, PrgAsk2, PrgFail, PrgStart, PrgHear, PrgGo, PrgTalk, TabDue, TabChkTop, PrgClock, PrgLate.
-/
import Derived.Deep.RegionHeld3
import Derived.Deep.Cut
import Derived.Deep.DrawnRows
import Derived.Test.YtdajolpoiffimaaGreatDoorL1
import Derived.Test.YtdajolpoiffimaaGreatDoorL2
import Derived.Test.YtdajolpoiffimaaGreatDoorL7
import Derived.Test.YtdajolpoiffimaaGreatDoorL8

namespace Go.Proofs.YtdajolpoiffimaaGreatDoor
open Go.RowKit

abbrev pbO (b : Px.Bo) (sl en : Value) : Obj := .cells #[.int .i64 b.limit, .int .i64 b.room, .string b.st.tab, .int .i64 b.st.clock, .int .i64 b.st.next, sl, en, .string b.log] 67
/-- A box lies in a block. -/
structure PB (w : World) (B : Nat) (b : Px.Bo) (sl en : Value) : Prop where
  c0 : w.cell? ⟨B, 0, none⟩ = some (.int .i64 b.limit)
  c1 : w.cell? ⟨B, 1, none⟩ = some (.int .i64 b.room)
  c2 : w.cell? ⟨B, 2, none⟩ = some (.string b.st.tab)
  c3 : w.cell? ⟨B, 3, none⟩ = some (.int .i64 b.st.clock)
  c4 : w.cell? ⟨B, 4, none⟩ = some (.int .i64 b.st.next)
  c5 : w.cell? ⟨B, 5, none⟩ = some sl
  c6 : w.cell? ⟨B, 6, none⟩ = some en
  c7 : w.cell? ⟨B, 7, none⟩ = some (.string b.log)
  f : ∀ j : Nat, j < 8 → w.frozen? ⟨B, j, none⟩ = false
  ty : Typed w B 67
  rows : PAt w b.st sl en
theorem PB.later {w w' : World} {B : Nat} {b : Px.Bo} {sl en : Value} (h : PB w B b sl en) (hb : Below w.heap.size w w') : PB w' B b sl en :=
  ⟨cell_later hb h.c0, cell_later hb h.c1, cell_later hb h.c2, cell_later hb h.c3, cell_later hb h.c4, cell_later hb h.c5, cell_later hb h.c6, cell_later hb h.c7,
   fun j hj => (hb.frozen (p := ⟨B, j, none⟩) h.ty.lt).trans (h.f j hj), h.ty.later hb, h.rows.later hb⟩
theorem PB.new (w : World) (l r : Int) : PB (w.alloc (pbO ⟨l, r, Px.first, ByteArray.empty⟩ (.slice none 0 0) (.slice none 0 0))) w.heap.size ⟨l, r, Px.first, ByteArray.empty⟩ (.slice none 0 0) (.slice none 0 0) := by
  refine ⟨?_, ?_, ?_, ?_, ?_, ?_, ?_, ?_, fun j _ => ?_, Typed.new _ _ _, ⟨TRow.nil _ _, TRow.nil _ _⟩⟩
  all_goals simp [go_sem]
theorem PB.put {w : World} {B : Nat} {b : Px.Bo} {sl en : Value} (h : PB w B b sl en) (t : Px.St) (slt ent : Value) (log : ByteArray) (ht : PAt w t slt ent) :
    PB ((((((w.setCell ⟨B, 2, none⟩ (.string t.tab)).setCell ⟨B, 3, none⟩ (.int .i64 t.clock)).setCell ⟨B, 4, none⟩ (.int .i64 t.next)).setCell ⟨B, 5, none⟩ slt).setCell ⟨B, 6, none⟩ ent).setCell ⟨B, 7, none⟩ (.string log)) B { b with st := t, log := log } slt ent := by
  obtain ⟨c0, c1, c2, c3, c4, c5, c6, c7, f, ty, _⟩ := h
  have st : ∀ (w : World) (j : Nat) (x : Value), (Typed w B 67 ∧ PAt w t slt ent) → (Typed (w.setCell ⟨B, j, none⟩ x) B 67 ∧ PAt (w.setCell ⟨B, j, none⟩ x) t slt ent) := fun w j x h => ⟨h.1.setCell _ _ _, h.2.set h.1 (by decide) (by decide) _ _⟩
  have hs := st _ 7 (.string log) (st _ 6 ent (st _ 5 slt (st _ 4 (.int .i64 t.next) (st _ 3 (.int .i64 t.clock) (st _ 2 (.string t.tab) ⟨ty, ht⟩)))))
  refine ⟨?_, ?_, ?_, ?_, ?_, ?_, ?_, ?_, fun j hj => ?_, hs.1, hs.2⟩
  case refine_9 => simp [go_sem, f j hj]
  all_goals simp [go_sem, c0, c1, c2, c3, c4, c5, c6, c7]

set_option maxHeartbeats 1000000 in
theorem pfirst_any (w : World) : Calls Tryz.prog 66 #[] w fun e w' => e = .returned (pstV Px.first (.slice none 0 0) (.slice none 0 0)) ∧ Below w.heap.size w w' := by
  go_enter Tryz.func66, Tryz.ntmps66
  go_wp2_with fail
  refine bodyPost_ret (v := pstV Px.first (.slice none 0 0) (.slice none 0 0)) (by simp [results, Tryz.results66, go_sem, Px.first]; rfl) rfl ⟨rfl, below_alloc _ _⟩
set_option maxHeartbeats 1000000 in
theorem pnew_no (l r : Int) (w : World) (h : mayB l r = false) : Calls Tryz.prog 28 #[.int .i64 l, .int .i64 r] w fun e w' => e = .returned (.tuple #[.pointer none, .int .i64 4]) ∧ w' = w := by
  have h' : ¬ (1 ≤ l ∧ l ≤ 4 ∧ 600 ≤ r ∧ r ≤ 4000) := of_decide_eq_false h
  by_cases h1 : l < 1
  · go_enter Tryz.func28, Tryz.ntmps28
    go_wp2_with fail
    go_ret2
    exact ⟨rfl, rfl⟩
  by_cases h2 : 4 < l
  · go_enter Tryz.func28, Tryz.ntmps28
    go_wp2_with fail
    go_ret2
    exact ⟨rfl, rfl⟩
  by_cases h3 : r < 600
  · go_enter Tryz.func28, Tryz.ntmps28
    go_wp2_with fail
    go_ret2
    exact ⟨rfl, rfl⟩
  have h4 : 4000 < r := by omega
  go_enter Tryz.func28, Tryz.ntmps28
  go_wp2_with fail
  go_ret2
  exact ⟨rfl, rfl⟩
set_option maxHeartbeats 1000000 in
theorem pnew_yes (l r : Int) (w : World) (h : mayB l r = true) : Calls Tryz.prog 28 #[.int .i64 l, .int .i64 r] w fun e w' => (∃ B, e = .returned (.tuple #[.pointer (some ⟨B, 0, none⟩), .int .i64 0]) ∧ w.heap.size ≤ B ∧ PB w' B ⟨l, r, Px.first, ByteArray.empty⟩ (.slice none 0 0) (.slice none 0 0)) ∧ Below w.heap.size w w' := by
  obtain ⟨h1, h2, h3, h4⟩ : 1 ≤ l ∧ l ≤ 4 ∧ 600 ≤ r ∧ r ≤ 4000 := of_decide_eq_true h
  clear h
  go_enter Tryz.func28, Tryz.ntmps28
  go_wp2_with fail
  refine (pfirst_any w).mono ?_
  rintro e w1 ⟨rfl, hb1⟩
  have hB : Hid (PB (w1.alloc (pbO ⟨l, r, Px.first, ByteArray.empty⟩ (.slice none 0 0) (.slice none 0 0))) w1.heap.size ⟨l, r, Px.first, ByteArray.empty⟩ (.slice none 0 0) (.slice none 0 0)) := PB.new w1 l r
  have hBl : Hid (∀ o, Below w.heap.size w (w1.alloc o)) := fun o => hb1.alloc hb1.size o
  have hsz : w.heap.size ≤ w1.heap.size := hb1.size
  clear hb1
  go_wp2_with fail
  go_ret2
  exact ⟨⟨w1.heap.size, rfl, hsz, hB.out⟩, hBl.out _⟩

/-- What commit answers: the changes are kept, all of them or none. -/
inductive CommitR (b : Px.Bo) (B : Nat) (t : Px.St) (fr : ByteArray) (slt ent : Value) (w : World) : Ending → World → Prop
  | no (w' : World) (h : b.room < (b.log.size : Int) + fr.size) (hb : Below w.heap.size w w') : CommitR b B t fr slt ent w (.returned (.int .i64 13)) w'
  | yes (w' : World) (h : ¬ b.room < (b.log.size : Int) + fr.size) (hB : PB w' B { b with st := t, log := b.log ++ fr } slt ent) (hg : w.grownBy w' (some B)) : CommitR b B t fr slt ent w (.returned (.int .i64 0)) w'
set_option maxRecDepth 10000 in
set_option maxHeartbeats 2000000 in
theorem commit_any (b : Px.Bo) (B : Nat) (t : Px.St) (fr : ByteArray) (sl en slt ent : Value) (w : World) (hl : b.log.size ≤ 100000) (hf : fr.size ≤ 100000) (hB : PB w B b sl en) (ht : PAt w t slt ent) :
    Calls Tryz.prog 70 #[.pointer (some ⟨B, 0, none⟩), pstV t slt ent, .string fr] w fun e w' => CommitR b B t fr slt ent w e w' := by
  obtain ⟨ad, cap, rfl, hcap⟩ := ht.sl.form
  obtain ⟨ad2, cap2, rfl, hcap2⟩ := ht.en.form
  have hb0 := below_alloc w (pstO t (.slice ad t.slots.length cap) (.slice ad2 t.ends.length cap2))
  have hI := PIn.new w t (.slice ad t.slots.length cap) (.slice ad2 t.ends.length cap2)
  have hB1 := hB.later hb0
  have ht1 := ht.later hb0
  clear hB ht
  go_enter Tryz.func70, Tryz.ntmps70
  go_upto_region 1 with fail
  generalize w.alloc (pstO t (.slice ad t.slots.length cap) (.slice ad2 t.ends.length cap2)) = W at *
  have HB1 : Hid (PB W B b sl en) := hB1
  have HT1 : Hid (PAt W t (.slice ad t.slots.length cap) (.slice ad2 t.ends.length cap2)) := ht1
  have HB0 : Hid (Below w.heap.size w W) := hb0
  have hlt := hB1.ty.lt
  have e0 := hB1.c0; have e1 := hB1.c1; have e2 := hB1.c2; have e3 := hB1.c3; have e4 := hB1.c4; have e5 := hB1.c5; have e6 := hB1.c6; have e7 := hB1.c7
  obtain ⟨i0, i1, i2, i3, i4⟩ := hI
  have g2 := hB1.f 2 (by decide); have g3 := hB1.f 3 (by decide); have g4 := hB1.f 4 (by decide); have g5 := hB1.f 5 (by decide); have g6 := hB1.f 6 (by decide); have g7 := hB1.f 7 (by decide)
  have z0 : ¬ 9223372036854775807 < b.log.size + fr.size := by omega
  clear hB1 ht1 hb0
  by_cases hr : b.room < (b.log.size : Int) + (fr.size : Int)
  · have hd : decide (b.room < (b.log.size : Int) + (fr.size : Int)) = true := decide_eq_true hr
    go_wp2_with fail
    go_quiet (fail)
    go_wp2_with fail
    go_ret
    exact CommitR.no _ hr (below_drewN HB0.out _)
  · have hd : decide (b.room < (b.log.size : Int) + (fr.size : Int)) = false := decide_eq_false hr
    go_wp2_with fail
    go_quiet (fail)
    have hbd : Below W.heap.size W (W.drewN nq) := below_drewN (Below.refl _ _) nq
    have HB2 := HB1.out.later hbd
    have HT2 := HT1.out.later hbd
    have hg0 : Hid (w.grownBy (W.drewN nq) (some B)) := grow_of_below (HB0.out.trans (hbd.mono HB0.out.size)) _
    obtain ⟨j0, j1, j2, j3, j4⟩ : PIn (W.drewN nq) w.heap.size t (.slice ad t.slots.length cap) (.slice ad2 t.ends.length cap2) := (⟨i0, i1, i2, i3, i4⟩ : PIn W w.heap.size t _ _).later hbd
    have hlt2 := HB2.ty.lt
    clear i0 i1 i2 i3 i4 e0 e1 e2 e3 e4 e5 e6 e7 g2 g3 g4 g5 g6 g7
    generalize W.drewN nq = W2 at *
    have e0 := HB2.c0; have e1 := HB2.c1; have e2 := HB2.c2; have e3 := HB2.c3; have e4 := HB2.c4; have e5 := HB2.c5; have e6 := HB2.c6; have e7 := HB2.c7
    have g2 := HB2.f 2 (by decide); have g3 := HB2.f 3 (by decide); have g4 := HB2.f 4 (by decide); have g5 := HB2.f 5 (by decide); have g6 := HB2.f 6 (by decide); have g7 := HB2.f 7 (by decide)
    have HF : Hid (PB _ B { b with st := t, log := b.log ++ fr } (.slice ad t.slots.length cap) (.slice ad2 t.ends.length cap2)) := HB2.put t _ _ (b.log ++ fr) HT2
    clear HB2 HT2 hbd
    go_wp2_with fail
    go_ret
    exact CommitR.yes _ (by omega) HF.out (grow_set (grow_set (grow_set (grow_set (grow_set (grow_set hg0.out _ _) _ _) _ _) _ _) _ _) _ _)
end Go.Proofs.YtdajolpoiffimaaGreatDoor

namespace Go.Proofs.YtdajolpoiffimaaGreatDoor
open Go.RowKit

abbrev pviewV (s : Px.St) : Value := .agg #[.int .i64 s.clock, .int .i64 s.next, .int .i64 s.slots.length, .int .i64 s.ends.length, .string s.tab]
set_option maxHeartbeats 1000000 in
theorem slook_any (s : Px.St) (sl en : Value) (w : World) (hS : PAt w s sl en) :
    Calls Tryz.prog 76 #[pstV s sl en] w fun e w' => e = .returned (pviewV s) ∧ Below w.heap.size w w' := by
  obtain ⟨ad, cap, rfl, hcap⟩ := hS.sl.form
  obtain ⟨ad2, cap2, rfl, hcap2⟩ := hS.en.form
  clear hS
  go_enter Tryz.func76, Tryz.ntmps76
  go_wp2_with fail
  refine bodyPost_ret (v := pviewV s) (by simp [results, Tryz.results76, go_sem]) rfl ⟨rfl, (below_alloc w _).alloc (by simp) _⟩
set_option maxHeartbeats 1000000 in
theorem plook_any (b : Px.Bo) (B : Nat) (sl en : Value) (w : World) (hB : PB w B b sl en) :
    Calls Tryz.prog 31 #[.pointer (some ⟨B, 0, none⟩)] w fun e w' => e = .returned (pviewV b.st) ∧ Below w.heap.size w w' := by
  obtain ⟨ad, cap, rfl, hcap⟩ := hB.rows.sl.form
  obtain ⟨ad2, cap2, rfl, hcap2⟩ := hB.rows.en.form
  have hb0 := below_alloc w (.cells #[.int .i64 0, .int .i64 0, .int .i64 0, .int .i64 0, .string { data := #[] }] 78)
  have hB1 := hB.later hb0
  have hZ := ZCell.new w #[.int .i64 0, .int .i64 0, .int .i64 0, .int .i64 0, .string { data := #[] }] 78
  have hzl : w.heap.size < (w.alloc (.cells #[.int .i64 0, .int .i64 0, .int .i64 0, .int .i64 0, .string { data := #[] }] 78)).heap.size := by simp
  clear hB
  go_enter Tryz.func31, Tryz.ntmps31
  go_upto_region 1 with fail
  generalize w.alloc (.cells #[.int .i64 0, .int .i64 0, .int .i64 0, .int .i64 0, .string { data := #[] }] 78) = W at *
  have hlt := hB1.ty.lt
  have e2 := hB1.c2; have e3 := hB1.c3; have e4 := hB1.c4; have e5 := hB1.c5; have e6 := hB1.c6
  have HR : Hid (PAt W b.st (.slice ad b.st.slots.length cap) (.slice ad2 b.st.ends.length cap2)) := hB1.rows
  clear hB1
  go_wp2_with fail
  refine (slook_any b.st _ _ _ HR.out).mono ?_
  rintro e w1 ⟨rfl, hb1⟩
  have hZ1 : ZCell w1 w.heap.size 5 := ZCell.later hZ hzl hb1
  have HB : Hid (Below w.heap.size w w1) := hb0.trans (hb1.mono hb0.size)
  obtain ⟨⟨u0, r0⟩, f0⟩ := hZ1 0 (by decide)
  obtain ⟨⟨u1, r1⟩, f1⟩ := hZ1 1 (by decide)
  obtain ⟨⟨u2, r2⟩, f2⟩ := hZ1 2 (by decide)
  obtain ⟨⟨u3, r3⟩, f3⟩ := hZ1 3 (by decide)
  obtain ⟨⟨u4, r4⟩, f4⟩ := hZ1 4 (by decide)
  clear hZ1 hZ hb1 hb0 e2 e3 e4 e5 e6
  go_wp2_with fail
  refine bodyPost_ret (v := pviewV b.st) (by simp [results, Tryz.results31, go_sem, r0, r1, r2, r3, r4]) rfl ⟨rfl, below_set5' HB.out (Nat.le_refl _) _ _ _ _ _⟩
abbrev paslV (x : Px.Sl) : Value := .agg #[.int .i64 x.num, .int .i64 x.line, .int .i64 x.minute, .int .i64 x.att, .int .i64 x.frm, .int .i64 x.step]
abbrev paslZ : Value := .agg #[.int .i64 0, .int .i64 0, .int .i64 0, .int .i64 0, .int .i64 0, .int .i64 0]
theorem below_set6 {n q : Nat} {w w' : World} (h : Below n w w') (hq : n ≤ q) (u0 u1 u2 u3 u4 u5 : Value) : Below n w ((((((w'.setCell ⟨q, 0, none⟩ u0).setCell ⟨q, 1, none⟩ u1).setCell ⟨q, 2, none⟩ u2).setCell ⟨q, 3, none⟩ u3).setCell ⟨q, 4, none⟩ u4).setCell ⟨q, 5, none⟩ u5) :=
  (((((h.setCell hq _).setCell hq _).setCell hq _).setCell hq _).setCell hq _).setCell hq _
/-- What Slot answers, what End does. -/
inductive SlotR (l : List Px.Sl) (i : Int) : Ending → Prop
  | no (h : i < 0 ∨ (l.length : Int) ≤ i) : SlotR l i (.returned (.tuple #[paslZ, .int .i64 4]))
  | yes (k : Nat) (hk : k < l.length) (h : i = (k : Int)) : SlotR l i (.returned (.tuple #[paslV l[k], .int .i64 0]))
inductive EndR (l : List Bx.En) (i : Int) : Ending → Prop
  | no (h : i < 0 ∨ (l.length : Int) ≤ i) : EndR l i (.returned (.tuple #[.agg #[.int .i64 0, .string { data := #[] }], .int .i64 4]))
  | yes (k : Nat) (hk : k < l.length) (h : i = (k : Int)) : EndR l i (.returned (.tuple #[.agg #[.int .i64 l[k].num, .string l[k].how], .int .i64 0]))
theorem EndR.yes' {l : List Bx.En} {i : Int} {k : Nat} {x : Bx.En} (hk : k < l.length) (h : i = (k : Int)) (hx : l[k] = x) : EndR l i (.returned (.tuple #[.agg #[.int .i64 x.num, .string x.how], .int .i64 0])) := by subst hx; exact EndR.yes k hk h
theorem SlotR.yes' {l : List Px.Sl} {i : Int} {k : Nat} {x : Px.Sl} (hk : k < l.length) (h : i = (k : Int)) (hx : l[k] = x) : SlotR l i (.returned (.tuple #[paslV x, .int .i64 0])) := by subst hx; exact SlotR.yes k hk h
set_option maxRecDepth 10000 in
set_option maxHeartbeats 2000000 in
theorem sslot_any (s : Px.St) (i : Int) (sl en : Value) (w : World) (hl : s.slots.length ≤ 10000) (hS : PAt w s sl en) :
    Calls Tryz.prog 111 #[pstV s sl en, .int .i64 i] w fun e w' => SlotR s.slots i e ∧ Below w.heap.size w w' := by
  obtain ⟨ad, cap, rfl, hcap⟩ := hS.sl.form
  obtain ⟨ad2, cap2, rfl, hcap2⟩ := hS.en.form
  have HR : Hid (RowAt w (.slice ad s.slots.length cap) s.slots.length (s.slots.flatMap psC)) := hS.sl.1
  have hb0 := (below_alloc w (pstO s (.slice ad s.slots.length cap) (.slice ad2 s.ends.length cap2))).alloc (by simp) (.cells #[.int .i64 0, .int .i64 0, .int .i64 0, .int .i64 0, .int .i64 0, .int .i64 0] 97)
  have hI := (PIn.new w s (.slice ad s.slots.length cap) (.slice ad2 s.ends.length cap2)).later (below_alloc _ (.cells #[.int .i64 0, .int .i64 0, .int .i64 0, .int .i64 0, .int .i64 0, .int .i64 0] 97))
  have hZ := ZCell.new (w.alloc (pstO s (.slice ad s.slots.length cap) (.slice ad2 s.ends.length cap2))) #[.int .i64 0, .int .i64 0, .int .i64 0, .int .i64 0, .int .i64 0, .int .i64 0] 97
  have hZ' : ZCell ((w.alloc (pstO s (.slice ad s.slots.length cap) (.slice ad2 s.ends.length cap2))).alloc (.cells #[.int .i64 0, .int .i64 0, .int .i64 0, .int .i64 0, .int .i64 0, .int .i64 0] 97)) (w.heap.size + 1) 6 := by simpa using hZ
  have hq : w.heap.size + 1 < ((w.alloc (pstO s (.slice ad s.slots.length cap) (.slice ad2 s.ends.length cap2))).alloc (.cells #[.int .i64 0, .int .i64 0, .int .i64 0, .int .i64 0, .int .i64 0, .int .i64 0] 97)).heap.size := by simp
  clear hS hZ
  go_enter Tryz.func111, Tryz.ntmps111
  go_upto_region 1 with fail
  generalize (w.alloc (pstO s (.slice ad s.slots.length cap) (.slice ad2 s.ends.length cap2))).alloc (.cells #[.int .i64 0, .int .i64 0, .int .i64 0, .int .i64 0, .int .i64 0, .int .i64 0] 97) = W at *
  have HB : Hid (Below w.heap.size w W) := hb0
  have HR' : Hid (RowAt W (.slice ad s.slots.length cap) s.slots.length (s.slots.flatMap psC)) := HR.out.later hb0
  have i3 := hI.c3
  clear hI hb0 HR
  by_cases h0 : i < 0
  · obtain ⟨⟨u0, r0⟩, f0⟩ := hZ' 0 (by decide)
    obtain ⟨⟨u1, r1⟩, f1⟩ := hZ' 1 (by decide)
    obtain ⟨⟨u2, r2⟩, f2⟩ := hZ' 2 (by decide)
    obtain ⟨⟨u3, r3⟩, f3⟩ := hZ' 3 (by decide)
    obtain ⟨⟨u4, r4⟩, f4⟩ := hZ' 4 (by decide)
    obtain ⟨⟨u5, r5⟩, f5⟩ := hZ' 5 (by decide)
    clear hZ'
    go_wp2_with fail
    refine bodyPost_ret (v := .tuple #[paslZ, .int .i64 4]) (by simp [results, Tryz.results111, go_sem, r0, r1, r2, r3, r4, r5]) rfl ⟨SlotR.no (Or.inl h0), below_set6 HB.out (by omega) _ _ _ _ _ _⟩
  by_cases h1 : (s.slots.length : Int) ≤ i
  · obtain ⟨⟨u0, r0⟩, f0⟩ := hZ' 0 (by decide)
    obtain ⟨⟨u1, r1⟩, f1⟩ := hZ' 1 (by decide)
    obtain ⟨⟨u2, r2⟩, f2⟩ := hZ' 2 (by decide)
    obtain ⟨⟨u3, r3⟩, f3⟩ := hZ' 3 (by decide)
    obtain ⟨⟨u4, r4⟩, f4⟩ := hZ' 4 (by decide)
    obtain ⟨⟨u5, r5⟩, f5⟩ := hZ' 5 (by decide)
    clear hZ'
    go_wp2_with fail
    refine bodyPost_ret (v := .tuple #[paslZ, .int .i64 4]) (by simp [results, Tryz.results111, go_sem, r0, r1, r2, r3, r4, r5]) rfl ⟨SlotR.no (Or.inr h1), below_set6 HB.out (by omega) _ _ _ _ _ _⟩
  obtain ⟨k, rfl⟩ : ∃ k : Nat, i = (k : Int) := ⟨i.toNat, by omega⟩
  have hlt : k < s.slots.length := by omega
  obtain ⟨b, off, cap', hv, _, hc⟩ := HR'.out.some' (by omega)
  cases hv
  obtain ⟨d0, d1, d2, d3, d4, d5, d6, d7⟩ := ps_cells hc k hlt
  have hxe : Hid (∃ x, s.slots[k] = x) := ⟨_, rfl⟩
  obtain ⟨x, hx⟩ := hxe.out
  have HX : Hid (s.slots[k] = x) := hx
  rw [hx] at d0 d1 d2 d3 d4 d5 d6 d7
  have b1 : (0 : Int) ≤ (k : Int) := by omega
  have b2 : (k : Int) < (s.slots.length : Int) := by omega
  have hxI := PsIn.new W x
  have hbA := below_alloc W (psO x)
  have hZ2 := hZ'.later hq hbA
  have HB2 : Hid (Below w.heap.size w (W.alloc (psO x))) := HB.out.alloc HB.out.size _
  clear hc hx hxe
  go_upto_region 4 with fail
  clear d0 d1 d2 d3 d4 d5 d6 d7 i3
  generalize W.alloc (psO x) = W2 at *
  generalize W.heap.size = xq at *
  obtain ⟨x0, x1, x2, x3, x4, x5, x6, x7⟩ := hxI
  have y0 : (W2.alloc (.cells #[.int .i64 x.num, .int .i64 x.line, .int .i64 x.minute, .int .i64 x.att, .int .i64 x.frm, .int .i64 x.step] 97)).cell? ⟨W2.heap.size, 0, none⟩ = some (.int .i64 x.num) := by simp [go_sem]
  have y1 : (W2.alloc (.cells #[.int .i64 x.num, .int .i64 x.line, .int .i64 x.minute, .int .i64 x.att, .int .i64 x.frm, .int .i64 x.step] 97)).cell? ⟨W2.heap.size, 1, none⟩ = some (.int .i64 x.line) := by simp [go_sem]
  have y2 : (W2.alloc (.cells #[.int .i64 x.num, .int .i64 x.line, .int .i64 x.minute, .int .i64 x.att, .int .i64 x.frm, .int .i64 x.step] 97)).cell? ⟨W2.heap.size, 2, none⟩ = some (.int .i64 x.minute) := by simp [go_sem]
  have y3 : (W2.alloc (.cells #[.int .i64 x.num, .int .i64 x.line, .int .i64 x.minute, .int .i64 x.att, .int .i64 x.frm, .int .i64 x.step] 97)).cell? ⟨W2.heap.size, 3, none⟩ = some (.int .i64 x.att) := by simp [go_sem]
  have y4 : (W2.alloc (.cells #[.int .i64 x.num, .int .i64 x.line, .int .i64 x.minute, .int .i64 x.att, .int .i64 x.frm, .int .i64 x.step] 97)).cell? ⟨W2.heap.size, 4, none⟩ = some (.int .i64 x.frm) := by simp [go_sem]
  have y5 : (W2.alloc (.cells #[.int .i64 x.num, .int .i64 x.line, .int .i64 x.minute, .int .i64 x.att, .int .i64 x.frm, .int .i64 x.step] 97)).cell? ⟨W2.heap.size, 5, none⟩ = some (.int .i64 x.step) := by simp [go_sem]
  have hZ3 := hZ2.later (World.block_lt_of_cell? _ _ (hZ2 0 (by decide)).1.choose_spec) (below_alloc W2 (.cells #[.int .i64 x.num, .int .i64 x.line, .int .i64 x.minute, .int .i64 x.att, .int .i64 x.frm, .int .i64 x.step] 97))
  have HB3 : Hid (Below w.heap.size w (W2.alloc (.cells #[.int .i64 x.num, .int .i64 x.line, .int .i64 x.minute, .int .i64 x.att, .int .i64 x.frm, .int .i64 x.step] 97))) := HB2.out.alloc HB2.out.size _
  clear hZ' hZ2 hbA
  go_upto_region 5 with fail
  clear x0 x1 x2 x3 x4 x5 x6 x7
  generalize W2.alloc (.cells #[.int .i64 x.num, .int .i64 x.line, .int .i64 x.minute, .int .i64 x.att, .int .i64 x.frm, .int .i64 x.step] 97) = W3 at *
  generalize W2.heap.size = yq at *
  obtain ⟨⟨u0, r0⟩, f0⟩ := hZ3 0 (by decide)
  obtain ⟨⟨u1, r1⟩, f1⟩ := hZ3 1 (by decide)
  obtain ⟨⟨u2, r2⟩, f2⟩ := hZ3 2 (by decide)
  obtain ⟨⟨u3, r3⟩, f3⟩ := hZ3 3 (by decide)
  obtain ⟨⟨u4, r4⟩, f4⟩ := hZ3 4 (by decide)
  obtain ⟨⟨u5, r5⟩, f5⟩ := hZ3 5 (by decide)
  clear hZ3
  go_wp2_with fail
  refine bodyPost_ret (v := .tuple #[paslV x, .int .i64 0]) (by simp [results, Tryz.results111, go_sem, r0, r1, r2, r3, r4, r5]) rfl ⟨SlotR.yes' hlt rfl HX.out, below_set6 HB3.out (by omega) _ _ _ _ _ _⟩
set_option maxRecDepth 10000 in
set_option maxHeartbeats 2000000 in
theorem send_any (s : Px.St) (i : Int) (sl en : Value) (w : World) (hl : s.ends.length ≤ 10000) (hS : PAt w s sl en) :
    Calls Tryz.prog 113 #[pstV s sl en, .int .i64 i] w fun e w' => EndR s.ends i e ∧ Below w.heap.size w w' := by
  obtain ⟨ad, cap, rfl, hcap⟩ := hS.sl.form
  obtain ⟨ad2, cap2, rfl, hcap2⟩ := hS.en.form
  have HR : Hid (RowAt w (.slice ad2 s.ends.length cap2) s.ends.length (s.ends.flatMap enC)) := hS.en.1
  have hb0 := (below_alloc w (pstO s (.slice ad s.slots.length cap) (.slice ad2 s.ends.length cap2))).alloc (by simp) (.cells #[.int .i64 0, .string { data := #[] }] 95)
  have hI := (PIn.new w s (.slice ad s.slots.length cap) (.slice ad2 s.ends.length cap2)).later (below_alloc _ (.cells #[.int .i64 0, .string { data := #[] }] 95))
  have hZ := ZCell.new (w.alloc (pstO s (.slice ad s.slots.length cap) (.slice ad2 s.ends.length cap2))) #[.int .i64 0, .string { data := #[] }] 95
  have hZ' : ZCell ((w.alloc (pstO s (.slice ad s.slots.length cap) (.slice ad2 s.ends.length cap2))).alloc (.cells #[.int .i64 0, .string { data := #[] }] 95)) (w.heap.size + 1) 2 := by simpa using hZ
  clear hS hZ
  go_enter Tryz.func113, Tryz.ntmps113
  go_upto_region 1 with fail
  generalize (w.alloc (pstO s (.slice ad s.slots.length cap) (.slice ad2 s.ends.length cap2))).alloc (.cells #[.int .i64 0, .string { data := #[] }] 95) = W at *
  have HB : Hid (Below w.heap.size w W) := hb0
  have HR' : Hid (RowAt W (.slice ad2 s.ends.length cap2) s.ends.length (s.ends.flatMap enC)) := HR.out.later hb0
  have i4 := hI.c4
  obtain ⟨⟨u0, r0⟩, f0⟩ := hZ' 0 (by decide)
  obtain ⟨⟨u1, r1⟩, f1⟩ := hZ' 1 (by decide)
  clear hI hb0 HR hZ'
  by_cases h0 : i < 0
  · go_wp2_with fail
    refine bodyPost_ret (v := .tuple #[.agg #[.int .i64 0, .string { data := #[] }], .int .i64 4]) (by simp [results, Tryz.results113, go_sem, r0, r1]) rfl ⟨EndR.no (Or.inl h0), (HB.out.setCell (by simp) _).setCell (by simp) _⟩
  by_cases h1 : (s.ends.length : Int) ≤ i
  · go_wp2_with fail
    refine bodyPost_ret (v := .tuple #[.agg #[.int .i64 0, .string { data := #[] }], .int .i64 4]) (by simp [results, Tryz.results113, go_sem, r0, r1]) rfl ⟨EndR.no (Or.inr h1), (HB.out.setCell (by simp) _).setCell (by simp) _⟩
  obtain ⟨k, rfl⟩ : ∃ k : Nat, i = (k : Int) := ⟨i.toNat, by omega⟩
  have hlt : k < s.ends.length := by omega
  obtain ⟨b, off, cap', hv, _, hc⟩ := HR'.out.some' (by omega)
  cases hv
  have d0 : W.cell? ⟨b, off + k * 2, none⟩ = some (.int .i64 s.ends[k].num) := RowAt.cell enC_len hc k hlt 0 (by decide)
  have d1 : W.cell? ⟨b, off + k * 2 + 1, none⟩ = some (.string s.ends[k].how) := RowAt.cell enC_len hc k hlt 1 (by decide)
  have hxe : Hid (∃ x, s.ends[k] = x) := ⟨_, rfl⟩
  obtain ⟨x, hx⟩ := hxe.out
  have HX : Hid (s.ends[k] = x) := hx
  rw [hx] at d0 d1
  have b1 : (0 : Int) ≤ (k : Int) := by omega
  have b2 : (k : Int) < (s.ends.length : Int) := by omega
  clear hc hx hxe
  go_wp2_with fail
  refine bodyPost_ret (v := .tuple #[.agg #[.int .i64 x.num, .string x.how], .int .i64 0]) (by simp [results, Tryz.results113, go_sem, r0, r1]) rfl ⟨EndR.yes' hlt rfl HX.out, (HB.out.setCell (by simp) _).setCell (by simp) _⟩
end Go.Proofs.YtdajolpoiffimaaGreatDoor

namespace Go.Proofs.YtdajolpoiffimaaGreatDoor
open Go.RowKit

set_option maxHeartbeats 1000000 in
theorem pslot_any (b : Px.Bo) (B : Nat) (i : Int) (sl en : Value) (w : World) (hl : b.st.slots.length ≤ 10000) (hB : PB w B b sl en) :
    Calls Tryz.prog 62 #[.pointer (some ⟨B, 0, none⟩), .int .i64 i] w fun e w' => SlotR b.st.slots i e ∧ Below w.heap.size w w' := by
  obtain ⟨ad, cap, rfl, hcap⟩ := hB.rows.sl.form
  obtain ⟨ad2, cap2, rfl, hcap2⟩ := hB.rows.en.form
  have hb0 := below_alloc w (.cells #[.int .i64 0, .int .i64 0, .int .i64 0, .int .i64 0, .int .i64 0, .int .i64 0] 97)
  have hB1 := hB.later hb0
  have hZ := ZCell.new w #[.int .i64 0, .int .i64 0, .int .i64 0, .int .i64 0, .int .i64 0, .int .i64 0] 97
  have hzl : w.heap.size < (w.alloc (.cells #[.int .i64 0, .int .i64 0, .int .i64 0, .int .i64 0, .int .i64 0, .int .i64 0] 97)).heap.size := by simp
  clear hB
  go_enter Tryz.func62, Tryz.ntmps62
  go_upto_region 1 with fail
  generalize w.alloc (.cells #[.int .i64 0, .int .i64 0, .int .i64 0, .int .i64 0, .int .i64 0, .int .i64 0] 97) = W at *
  have hlt := hB1.ty.lt
  have e2 := hB1.c2; have e3 := hB1.c3; have e4 := hB1.c4; have e5 := hB1.c5; have e6 := hB1.c6
  have HR : Hid (PAt W b.st (.slice ad b.st.slots.length cap) (.slice ad2 b.st.ends.length cap2)) := hB1.rows
  clear hB1
  go_wp2_with fail
  refine (sslot_any b.st i _ _ _ hl HR.out).mono ?_
  rintro e w1 ⟨hA, hb1⟩
  have hZ1 : ZCell w1 w.heap.size 6 := ZCell.later hZ hzl hb1
  have HB : Hid (Below w.heap.size w w1) := hb0.trans (hb1.mono hb0.size)
  obtain ⟨⟨u0, r0⟩, f0⟩ := hZ1 0 (by decide)
  obtain ⟨⟨u1, r1⟩, f1⟩ := hZ1 1 (by decide)
  obtain ⟨⟨u2, r2⟩, f2⟩ := hZ1 2 (by decide)
  obtain ⟨⟨u3, r3⟩, f3⟩ := hZ1 3 (by decide)
  obtain ⟨⟨u4, r4⟩, f4⟩ := hZ1 4 (by decide)
  obtain ⟨⟨u5, r5⟩, f5⟩ := hZ1 5 (by decide)
  clear hZ1 hZ hb1 hb0 e2 e3 e4 e5 e6
  cases hA with
  | no h =>
    go_wp2_with fail
    refine bodyPost_ret (v := .tuple #[paslZ, .int .i64 4]) (by simp [results, Tryz.results62, go_sem, r0, r1, r2, r3, r4, r5]) rfl ⟨SlotR.no h, below_set6 HB.out (Nat.le_refl _) _ _ _ _ _ _⟩
  | yes k hk h =>
    have HX : Hid (∃ x, b.st.slots[k] = x) := ⟨_, rfl⟩
    obtain ⟨x, hx⟩ := HX.out
    have HE : Hid (b.st.slots[k] = x) := hx
    rw [hx]
    clear hx HX
    go_wp2_with fail
    refine bodyPost_ret (v := .tuple #[paslV x, .int .i64 0]) (by simp [results, Tryz.results62, go_sem, r0, r1, r2, r3, r4, r5]) rfl ⟨SlotR.yes' hk h HE.out, below_set6 HB.out (Nat.le_refl _) _ _ _ _ _ _⟩
set_option maxHeartbeats 1000000 in
theorem pend_any (b : Px.Bo) (B : Nat) (i : Int) (sl en : Value) (w : World) (hl : b.st.ends.length ≤ 10000) (hB : PB w B b sl en) :
    Calls Tryz.prog 64 #[.pointer (some ⟨B, 0, none⟩), .int .i64 i] w fun e w' => EndR b.st.ends i e ∧ Below w.heap.size w w' := by
  obtain ⟨ad, cap, rfl, hcap⟩ := hB.rows.sl.form
  obtain ⟨ad2, cap2, rfl, hcap2⟩ := hB.rows.en.form
  have hb0 := below_alloc w (.cells #[.int .i64 0, .string { data := #[] }] 95)
  have hB1 := hB.later hb0
  have hZ := ZCell.new w #[.int .i64 0, .string { data := #[] }] 95
  have hzl : w.heap.size < (w.alloc (.cells #[.int .i64 0, .string { data := #[] }] 95)).heap.size := by simp
  clear hB
  go_enter Tryz.func64, Tryz.ntmps64
  go_upto_region 1 with fail
  generalize w.alloc (.cells #[.int .i64 0, .string { data := #[] }] 95) = W at *
  have hlt := hB1.ty.lt
  have e2 := hB1.c2; have e3 := hB1.c3; have e4 := hB1.c4; have e5 := hB1.c5; have e6 := hB1.c6
  have HR : Hid (PAt W b.st (.slice ad b.st.slots.length cap) (.slice ad2 b.st.ends.length cap2)) := hB1.rows
  clear hB1
  go_wp2_with fail
  refine (send_any b.st i _ _ _ hl HR.out).mono ?_
  rintro e w1 ⟨hA, hb1⟩
  have hZ1 : ZCell w1 w.heap.size 2 := ZCell.later hZ hzl hb1
  have HB : Hid (Below w.heap.size w w1) := hb0.trans (hb1.mono hb0.size)
  obtain ⟨⟨u0, r0⟩, f0⟩ := hZ1 0 (by decide)
  obtain ⟨⟨u1, r1⟩, f1⟩ := hZ1 1 (by decide)
  clear hZ1 hZ hb1 hb0 e2 e3 e4 e5 e6
  cases hA with
  | no h =>
    go_wp2_with fail
    refine bodyPost_ret (v := .tuple #[.agg #[.int .i64 0, .string { data := #[] }], .int .i64 4]) (by simp [results, Tryz.results64, go_sem, r0, r1]) rfl ⟨EndR.no h, (HB.out.setCell (Nat.le_refl _) _).setCell (Nat.le_refl _) _⟩
  | yes k hk h =>
    have HX : Hid (∃ x, b.st.ends[k] = x) := ⟨_, rfl⟩
    obtain ⟨x, hx⟩ := HX.out
    have HE : Hid (b.st.ends[k] = x) := hx
    rw [hx]
    clear hx HX
    go_wp2_with fail
    refine bodyPost_ret (v := .tuple #[.agg #[.int .i64 x.num, .string x.how], .int .i64 0]) (by simp [results, Tryz.results64, go_sem, r0, r1]) rfl ⟨EndR.yes' hk h HE.out, (HB.out.setCell (Nat.le_refl _) _).setCell (Nat.le_refl _) _⟩
set_option maxHeartbeats 1000000 in
theorem plog_any (b : Px.Bo) (B : Nat) (sl en : Value) (w : World) (hB : PB w B b sl en) :
    Calls Tryz.prog 11 #[.pointer (some ⟨B, 0, none⟩)] w fun e w' => e = .returned (.string b.log) ∧ w' = w := by
  have hlt := hB.ty.lt
  have e7 := hB.c7
  clear hB
  go_enter Tryz.func11, Tryz.ntmps11
  go_wp2_with fail
  go_ret
  exact ⟨rfl, rfl⟩
end Go.Proofs.YtdajolpoiffimaaGreatDoor

namespace Go.Proofs.YtdajolpoiffimaaGreatDoor
open Go.RowKit

theorem keep2 {w : World} {a b q o1 o2 o3 : Nat} {u v x : Value} (h1 : w.cell? ⟨a, o1, none⟩ = some u) (h2 : w.cell? ⟨b, o2, none⟩ = some v) (n1 : a ≠ q) (n2 : b ≠ q) :
    (w.setCell ⟨q, o3, none⟩ x).drew.cell? ⟨a, o1, none⟩ = some u ∧ (w.setCell ⟨q, o3, none⟩ x).drew.cell? ⟨b, o2, none⟩ = some v :=
  ⟨(World.cell?_setCell_other _ _ _ _ (fun e => n1 (by cases e; rfl))).trans h1, (World.cell?_setCell_other _ _ _ _ (fun e => n2 (by cases e; rfl))).trans h2⟩
set_option maxRecDepth 10000 in
set_option maxHeartbeats 4000000 in
theorem withFail_any (s : Px.St) (n : Int) (sl en : Value) (w : World) (hO : Px.Ok s) (hT : TabLH w) (hS : PAt w s sl en) :
    Calls Tryz.prog 74 #[pstV s sl en, .int .i64 n] w fun e w' => ChgR (Px.failP s n) w' e ∧ Below w.heap.size w w' := by
  obtain ⟨ad, cap, rfl, hcap⟩ := hS.sl.form
  obtain ⟨ad2, cap2, rfl, hcap2⟩ := hS.en.form
  have HO : Hid (Px.Ok s) := hO
  have hl : s.slots.length ≤ 10000 := by have := hO.len; omega
  have he : s.ends.length ≤ 10000 := by have : s.ends.length ≤ 6 := hO.st.en; omega
  have hc1 : -1 ≤ s.clock := hO.st.c1
  have hc2 : s.clock ≤ 4223371679 := hO.st.c2
  have HS : Hid (PAt w s (.slice ad s.slots.length cap) (.slice ad2 s.ends.length cap2)) := hS
  have hP := PRes.new w s (.slice ad s.slots.length cap) (.slice ad2 s.ends.length cap2)
  clear hS hO
  go_enter Tryz.func74, Tryz.ntmps74
  go_upto_region 1 with fail
  generalize (w.alloc (pstO s (.slice ad s.slots.length cap) (.slice ad2 s.ends.length cap2))).alloc pzO = W at *
  have HSW : Hid (PAt W s (.slice ad s.slots.length cap) (.slice ad2 s.ends.length cap2)) := HS.out.later hP.bel
  have HT : Hid (TabLH W) := hT.later hP.bel
  have HP : Hid (PRes w W s (.slice ad s.slots.length cap) (.slice ad2 s.ends.length cap2)) := hP
  obtain ⟨i0, i1, i2, i3, i4⟩ := hP.st
  clear hP hT
  go_wp2_with fail
  refine (pfind_any s n _ _ _ hl HSW.out).mono ?_
  rintro e w1 ⟨hF, hb1⟩
  clear i0 i1 i2 i3 i4
  have HP1 := HP.out.later hb1
  have HS1 := HSW.out.later hb1
  have HT1 := HT.out.later hb1
  clear HP HSW hb1 HT
  rcases hF with ⟨x, hf, rfl⟩ | ⟨hf, rfl⟩
  rotate_left
  · have HM : Hid (Px.failP s n = (Px.st0, 8)) := by unfold Hid Px.failP; rw [hf]
    clear hf
    generalize Px.sl0 = x at *
    have HPW2 := HP1.later (below_alloc w1 (psO x))
    clear HP1 HS1 HT1
    go_upto_region 2 with fail
    generalize w1.alloc (psO x) = W2 at *
    obtain ⟨⟨⟨u0, r0⟩, f0⟩, ⟨⟨u1, r1⟩, f1⟩, ⟨⟨u2, r2⟩, f2⟩, ⟨⟨u3, r3⟩, f3⟩, ⟨⟨u4, r4⟩, f4⟩⟩ := HPW2.five
    have HB2 : Hid (Below w.heap.size w W2) := HPW2.bel
    clear HPW2
    go_wp2_with fail
    refine bodyPost_ret (v := .tuple #[.agg #[.string { data := #[] }, .int .i64 0, .int .i64 0, .slice none 0 0, .slice none 0 0], .int .i64 8]) (by simp [results, Tryz.results74, go_sem, r0, r1, r2, r3, r4]) rfl ⟨ChgR.err HM.out, below_set5' HB2.out (by omega) _ _ _ _ _⟩
  have HFx : Hid (Px.find s.slots n = some x) := hf
  have hxm : x ∈ s.slots := List.mem_of_find?_eq_some hf
  have HEx : Hid _ := HO.out.each hxm
  obtain ⟨hx1, hx2', hx3, hx4, hx5, hx6⟩ := HEx.out
  have hx7 : x.att ≤ 5 := HO.out.st.att5 (List.mem_map.2 ⟨x, hxm, rfl⟩ : Px.absS x ∈ _)
  obtain ⟨j, hj⟩ : ∃ j : Nat, x.line = (j : Int) + 1 := ⟨(x.line - 1).toNat, by omega⟩
  have hjt : j < tn s.tab := by omega
  have HJ : Hid (x.line = (j : Int) + 1) := hj
  have HP2 := HP1.later (below_alloc w1 (psO x))
  have HS2 := HS1.later (below_alloc w1 (psO x))
  have HT2 := HT1.later (below_alloc w1 (psO x))
  have hx2 := PsIn.new w1 x
  have hq0 : w.heap.size + 1 < w1.heap.size := HP1.lt
  clear HP1 HS1 HT1 hf hx6 hx4 hxm hj hx2'
  go_upto_region 2 with fail
  generalize w1.alloc (psO x) = W2 at *
  generalize w1.heap.size = xq at *
  have HPP2 : Hid (PRes w W2 s (.slice ad s.slots.length cap) (.slice ad2 s.ends.length cap2)) := HP2
  have HSS2 : Hid (PAt W2 s (.slice ad s.slots.length cap) (.slice ad2 s.ends.length cap2)) := HS2
  have HTT2 : Hid (TabLH W2) := HT2
  have HX2 : Hid (PsIn W2 xq x) := hx2
  obtain ⟨x0, x1, x2, x3, x4, x5, x6, x7⟩ := hx2
  clear HP2 HS2 HT2
  go_wp2_with fail
  refine (runs_any x W2).mono ?_
  rintro e w3 ⟨rfl, hb3⟩
  clear x0 x1 x2 x3 x4 x5 x6 x7
  have HPw3 := HPP2.out.later hb3
  have HSw3 : Hid (PAt w3 s (.slice ad s.slots.length cap) (.slice ad2 s.ends.length cap2)) := HSS2.out.later hb3
  have HTw3 : Hid (TabLH w3) := HTT2.out.later hb3
  have HXw3 : Hid (PsIn w3 xq x) := HX2.out.later hb3
  clear HPP2 HSS2 HTT2 HX2 hb3
  cases hr : decide (0 < x.step)
  · have HM : Hid (Px.failP s n = (Px.st0, 9)) := by unfold Hid Px.failP; rw [HFx.out]; simp only; rw [if_pos (by have := of_decide_eq_false hr; omega)]
    clear hr
    obtain ⟨⟨⟨u0, r0⟩, f0⟩, ⟨⟨u1, r1⟩, f1⟩, ⟨⟨u2, r2⟩, f2⟩, ⟨⟨u3, r3⟩, f3⟩, ⟨⟨u4, r4⟩, f4⟩⟩ := HPw3.five
    have HB2 : Hid (Below w.heap.size w w3) := HPw3.bel
    clear HPw3
    go_wp2_with fail
    refine bodyPost_ret (v := .tuple #[.agg #[.string { data := #[] }, .int .i64 0, .int .i64 0, .slice none 0 0, .slice none 0 0], .int .i64 9]) (by simp [results, Tryz.results74, go_sem, r0, r1, r2, r3, r4]) rfl ⟨ChgR.err HM.out, below_set5' HB2.out (by omega) _ _ _ _ _⟩
  have hrs : 0 < x.step := of_decide_eq_true hr
  have HM0 : Hid (Px.failP s n = if obt (pt (tl s.tab j) 5) 2 - 48 ≤ x.att then (Px.ended s n ⟨#[97]⟩, 0) else ({ s with slots := Px.repl s.slots (Px.again s x) }, 0)) := by
    unfold Hid Px.failP; rw [HFx.out]; simp only; rw [if_neg (by omega), hA_eq]
    have : Px.opt s x.line 2 = obt (pt (tl s.tab j) 5) 2 := by
      unfold Px.opt; rw [HJ.out, show ((j : Int) + 1 - 1).toNat = j by omega]; rfl
    rw [this]
  clear hr hrs
  obtain ⟨i0, i1, i2, i3, i4⟩ := HPw3.st
  obtain ⟨x0, x1, x2, x3, x4, x5, x6, x7⟩ := HXw3.out
  have HPP3 : Hid (PRes w w3 s (.slice ad s.slots.length cap) (.slice ad2 s.ends.length cap2)) := HPw3
  clear HPw3
  go_wp2_with fail
  refine (pline_any s x.line j _ _ _ HJ.out hjt HO.out.st.tab HTw3.out HSw3.out).mono ?_
  rintro e w4 ⟨⟨v, rfl, bb, cc, ads, caps, rfl, _, _⟩, hb4⟩
  clear i0 i1 i2 i3 i4 x0 x1 x2 x3 x4 x5 x6 x7
  have g12 : (w4.alloc (lnO (tl s.tab j) bb cc ads caps)).cell? ⟨w4.heap.size, 12, none⟩ = some (.int .i64 (obt (pt (tl s.tab j) 5) 2 - 48)) := by simp [go_sem]
  have HP5 := (HPP3.out.later hb4).later (below_alloc w4 (lnO (tl s.tab j) bb cc ads caps))
  have HS5 := (HSw3.out.later hb4).later (below_alloc w4 (lnO (tl s.tab j) bb cc ads caps))
  have HX5 := (HXw3.out.later hb4).later (below_alloc w4 (lnO (tl s.tab j) bb cc ads caps))
  clear HPP3 HSw3 HTw3 HXw3 hb4
  go_upto_region 7 with fail
  generalize w4.alloc (lnO (tl s.tab j) bb cc ads caps) = W5 at *
  generalize w4.heap.size = lq at *
  generalize obt (pt (tl s.tab j) 5) 2 - 48 = most at *
  have HPP5 : Hid (PRes w W5 s (.slice ad s.slots.length cap) (.slice ad2 s.ends.length cap2)) := HP5
  have HSS5 : Hid (PAt W5 s (.slice ad s.slots.length cap) (.slice ad2 s.ends.length cap2)) := HS5
  have HXX5 : Hid (PsIn W5 xq x) := HX5
  obtain ⟨i0, i1, i2, i3, i4⟩ := HP5.st
  obtain ⟨x0, x1, x2, x3, x4, x5, x6, x7⟩ := HX5
  clear HP5 HS5
  by_cases ha : most ≤ x.att
  · have HM : Hid (Px.failP s n = (Px.ended s n ⟨#[97]⟩, 0)) := by unfold Hid; rw [HM0.out, if_pos ha]
    clear HM0
    go_wp2_with fail
    refine (ended_any s n ⟨#[97]⟩ _ _ _ hl he HSS5.out).mono ?_
    rintro e w6 ⟨⟨sl4, en4, rfl, hst4⟩, hb6⟩
    clear i0 i1 i2 i3 i4 x0 x1 x2 x3 x4 x5 x6 x7 g12
    have HPw4 := HPP5.out.later hb6
    obtain ⟨ad4, cap4, hv4, _⟩ := hst4.sl.form
    obtain ⟨ad5, cap5, hv5, _⟩ := hst4.en.form
    subst hv4 hv5
    have H4 : Hid (PAt w6 (Px.ended s n ⟨#[97]⟩) (.slice ad4 (Px.ended s n ⟨#[97]⟩).slots.length cap4) (.slice ad5 (Px.ended s n ⟨#[97]⟩).ends.length cap5)) := hst4
    have HT4 : Hid (Typed w6 (w.heap.size + 1) 65) := HPw4.ty
    have HB4 : Hid (Below w.heap.size w w6) := HPw4.bel
    obtain ⟨⟨⟨u0, r0⟩, f0⟩, ⟨⟨u1, r1⟩, f1⟩, ⟨⟨u2, r2⟩, f2⟩, ⟨⟨u3, r3⟩, f3⟩, ⟨⟨u4, r4⟩, f4⟩⟩ := HPw4.five
    clear hst4 hb6 HPw4 HPP5 HSS5 HXX5
    go_wp2_with fail
    refine bodyPost_ret (v := .tuple #[pstV (Px.ended s n ⟨#[97]⟩) (.slice ad4 (Px.ended s n ⟨#[97]⟩).slots.length cap4) (.slice ad5 (Px.ended s n ⟨#[97]⟩).ends.length cap5), .int .i64 0]) (by simp [results, Tryz.results74, go_sem, r0, r1, r2, r3, r4]) rfl ⟨ChgR.ok HM.out (H4.out.store HT4.out _ _ _ _ _), below_set5' HB4.out (by omega) _ _ _ _ _⟩
  · have HM : Hid (Px.failP s n = ({ s with slots := Px.repl s.slots (Px.again s x) }, 0)) := by unfold Hid; rw [HM0.out, if_neg ha]
    clear HM0
    have hdl := Px.delay_bd' x.att
    have q1 : IntKind.i64.wrap (s.clock + Bx.delay x.att) = s.clock + Bx.delay x.att := by rw [IntKind.wrap_i64]; omega
    have q2 : IntKind.i64.wrap (x.att + 1) = x.att + 1 := by rw [IntKind.wrap_i64]; omega
    go_wp2_with fail
    refine (waiting_any x _).mono ?_
    rintro e w6 ⟨rfl, hb6⟩
    have HP6 := HPP5.out.later hb6
    have HS6 := HSS5.out.later hb6
    have HX6 := HXX5.out.later hb6
    have hxl : xq < w6.heap.size := World.block_lt_of_cell? _ _ HX6.c3
    have hwl : w.heap.size + 1 < w6.heap.size := HP6.lt
    clear hb6 HPP5 HSS5 HXX5 i0 i1 i2 i3 i4 x0 x1 x2 x3 x4 x5 x6 x7 g12
    have hbA := below_alloc w6 (psO { waitS x with att := x.att + 1 })
    have hI7 := (HP6.later hbA).st.c1
    have hX7 := (HX6.later hbA).c3
    obtain ⟨x0, x1, x2, x3, x4, x5, x6, x7⟩ := HX6
    go_upto_region 11 with fail
    clear x0 x1 x2 x3 x4 x5 x6 x7
    have HBx : Hid (Below w6.heap.size w6 ((w6.alloc (psO { waitS x with att := x.att + 1 })).setCell ⟨w6.heap.size, 4, none⟩ (.int .i64 (s.clock + Bx.delay x.att)))) := hbA.setCell (by simp) _
    have HYx : Hid (PsIn ((w6.alloc (psO { waitS x with att := x.att + 1 })).setCell ⟨w6.heap.size, 4, none⟩ (.int .i64 (s.clock + Bx.delay x.att))) w6.heap.size (Px.again s x)) := ⟨by simp [go_sem, waitS, Px.again], by simp [go_sem, waitS, Px.again], by simp [go_sem, waitS, Px.again], by simp [go_sem, waitS, Px.again], by simp [go_sem, waitS, Px.again], by simp [go_sem, waitS, Px.again], by simp [go_sem, waitS, Px.again], by simp [go_sem, waitS, Px.again]⟩
    have y4 : (w6.alloc (psO { waitS x with att := x.att + 1 })).cell? ⟨w6.heap.size, 4, none⟩ = some (.int .i64 x.frm) := by simp [go_sem, waitS]
    have g4 : (w6.alloc (psO { waitS x with att := x.att + 1 })).frozen? ⟨w6.heap.size, 4, none⟩ = false := by simp [go_sem]
    have hn1 : w.heap.size ≠ w6.heap.size := by omega
    have hn2 : xq ≠ w6.heap.size := by omega
    have hsz7 : w6.heap.size < (w6.alloc (psO { waitS x with att := x.att + 1 })).heap.size := by simp
    generalize w6.alloc (psO { waitS x with att := x.att + 1 }) = W7 at *
    have HP6' : Hid (PRes w w6 s (.slice ad s.slots.length cap) (.slice ad2 s.ends.length cap2)) := HP6
    have HS6' : Hid (PAt w6 s (.slice ad s.slots.length cap) (.slice ad2 s.ends.length cap2)) := HS6
    clear HP6 HS6 hbA
    go_wp2_with fail
    go_region_held3 (fun w' => w'.cell? ⟨w.heap.size, 1, none⟩ = some (.int .i64 s.clock) ∧ w'.cell? ⟨xq, 3, none⟩ = some (.int .i64 x.att)) ((first | exact keep2 hI7 hX7 hn1 hn2 | go_keep))
      (first
        | (go_at_call 124; refine (delay_any _ _ hx5 hx7).mono ?_; rintro e w8 ⟨rfl, rfl⟩))
    have HPx := (HP6'.out.later HBx.out).later (Below.refl _ _).drew
    have HSx := (HS6'.out.later HBx.out).later (Below.refl _ _).drew
    have HYx := HYx.out.later (Below.refl _ _).drew
    clear HP6' HS6' HBx y4 g4 hI7 hX7
    generalize w6.heap.size = aq at *
    generalize (W7.setCell ⟨aq, 4, none⟩ (.int .i64 (s.clock + Bx.delay x.att))).drew = W7 at *
    generalize Px.again s x = y at *
    have HP8 := HPx.later (below_alloc W7 (pstO s (.slice ad s.slots.length cap) (.slice ad2 s.ends.length cap2)))
    have HS8 := HSx.later (below_alloc W7 (pstO s (.slice ad s.slots.length cap) (.slice ad2 s.ends.length cap2)))
    have HY8 := HYx.later (below_alloc W7 (pstO s (.slice ad s.slots.length cap) (.slice ad2 s.ends.length cap2)))
    have hA := PW.new W7 s (.slice ad s.slots.length cap) (.slice ad2 s.ends.length cap2)
    have hWq := HPx.lt
    obtain ⟨i0, i1, i2, i3, i4⟩ := HPx.st
    clear HSx HYx
    go_upto_region 13 with fail
    clear i0 i1 i2 i3 i4 HPx
    generalize W7.alloc (pstO s (.slice ad s.slots.length cap) (.slice ad2 s.ends.length cap2)) = W8 at *
    generalize W7.heap.size = q at *
    have HPP8 : Hid (PRes w W8 s (.slice ad s.slots.length cap) (.slice ad2 s.ends.length cap2)) := HP8
    have HSS8 : Hid (PAt W8 s (.slice ad s.slots.length cap) (.slice ad2 s.ends.length cap2)) := HS8
    have HAA8 : Hid (PW W8 q s (.slice ad s.slots.length cap) (.slice ad2 s.ends.length cap2)) := hA
    obtain ⟨i0, i1, i2, i3, i4⟩ := HP8.st
    obtain ⟨y0, y1, y2, y3, y4, y5, y6, y7⟩ := HY8
    clear HP8 HS8 hA
    go_wp2_with fail
    refine (preplaced_any s.slots y _ _ hl HSS8.out.sl.1).mono ?_
    rintro e w9 ⟨⟨v9, rfl, hown9⟩, hb9⟩
    clear i0 i1 i2 i3 i4 y0 y1 y2 y3 y4 y5 y6 y7
    obtain ⟨ad9, cap9, hv9, _⟩ := (RowAt.of_own hown9).form
    subst hv9
    have hA9 := HAA8.out.later hb9
    have a3 := hA9.st.c3
    have f3' := hA9.f 3 (by decide)
    have hq9 := hA9.ty.lt
    have HP10 := (HPP8.out.later hb9).set hWq 3 (.slice ad9 (Px.repl s.slots y).length cap9)
    have HA10 := hA9.slots (Px.repl s.slots y) (.slice ad9 (Px.repl s.slots y).length cap9)
    have HE10 := ((HSS8.out.later hb9).set hA9.ty (by decide) (by decide) 3 (.slice ad9 (Px.repl s.slots y).length cap9)).en
    have HO10 := (TRow.of_own hown9).set hA9.ty (by decide) 3 (.slice ad9 (Px.repl s.slots y).length cap9)
    clear hA9 hown9 hb9 HPP8 HSS8 HAA8
    go_upto_region 14 with fail
    clear a3 f3'
    generalize w9.setCell ⟨q, 3, none⟩ (.slice ad9 (Px.repl s.slots y).length cap9) = W10 at *
    have HX : Hid (PEnd w W10 q { s with slots := Px.repl s.slots y } (.slice ad9 (Px.repl s.slots y).length cap9) (.slice ad2 s.ends.length cap2)) := ⟨HA10, ⟨HO10, HE10⟩, HP10.z, HP10.ty, HP10.bel⟩
    obtain ⟨⟨⟨u0, r0⟩, f0⟩, ⟨⟨u1, r1⟩, f1⟩, ⟨⟨u2, r2⟩, f2⟩, ⟨⟨u3, r3⟩, f3⟩, ⟨⟨u4, r4⟩, f4⟩⟩ := HP10.five
    obtain ⟨c0, c1, c2, c3, c4⟩ := HA10.st
    clear HP10 HA10 HE10 HO10
    go_wp2_with fail
    refine bodyPost_ret (v := .tuple #[pstV { s with slots := Px.repl s.slots y } (.slice ad9 (Px.repl s.slots y).length cap9) (.slice ad2 s.ends.length cap2), .int .i64 0]) (by simp [results, Tryz.results74, go_sem, r0, r1, r2, r3, r4]) rfl ⟨ChgR.ok HM.out (HX.out.fin _ _ _ _ _).1, (HX.out.fin _ _ _ _ _).2⟩
end Go.Proofs.YtdajolpoiffimaaGreatDoor

namespace Go.Proofs.YtdajolpoiffimaaGreatDoor
open Go.RowKit

set_option maxRecDepth 10000 in
set_option maxHeartbeats 4000000 in
theorem withStart_any (s : Px.St) (n : Int) (sl en : Value) (w : World) (hO : Px.Ok s) (hT : TabLH w) (hS : PAt w s sl en) :
    Calls Tryz.prog 80 #[pstV s sl en, .int .i64 n] w fun e w' => ChgR (Px.startP s n) w' e ∧ Below w.heap.size w w' := by
  obtain ⟨ad, cap, rfl, hcap⟩ := hS.sl.form
  obtain ⟨ad2, cap2, rfl, hcap2⟩ := hS.en.form
  have HO : Hid (Px.Ok s) := hO
  have hl : s.slots.length ≤ 10000 := by have := hO.len; omega
  have he : s.ends.length ≤ 10000 := by have : s.ends.length ≤ 6 := hO.st.en; omega
  have hc1 : -1 ≤ s.clock := hO.st.c1
  have hc2 : s.clock ≤ 4223371679 := hO.st.c2
  have HS : Hid (PAt w s (.slice ad s.slots.length cap) (.slice ad2 s.ends.length cap2)) := hS
  have hP := PRes.new w s (.slice ad s.slots.length cap) (.slice ad2 s.ends.length cap2)
  clear hS hO
  go_enter Tryz.func80, Tryz.ntmps80
  go_upto_region 1 with fail
  generalize (w.alloc (pstO s (.slice ad s.slots.length cap) (.slice ad2 s.ends.length cap2))).alloc pzO = W at *
  have HSW : Hid (PAt W s (.slice ad s.slots.length cap) (.slice ad2 s.ends.length cap2)) := HS.out.later hP.bel
  have HT : Hid (TabLH W) := hT.later hP.bel
  have HP : Hid (PRes w W s (.slice ad s.slots.length cap) (.slice ad2 s.ends.length cap2)) := hP
  obtain ⟨i0, i1, i2, i3, i4⟩ := hP.st
  clear hP hT
  go_wp2_with fail
  refine (pfind_any s n _ _ _ hl HSW.out).mono ?_
  rintro e w1 ⟨hF, hb1⟩
  clear i0 i1 i2 i3 i4
  have HP1 := HP.out.later hb1
  have HS1 := HSW.out.later hb1
  have HT1 := HT.out.later hb1
  clear HP HSW hb1 HT
  rcases hF with ⟨x, hf, rfl⟩ | ⟨hf, rfl⟩
  rotate_left
  · have HM : Hid (Px.startP s n = (Px.st0, 8)) := by unfold Hid Px.startP; rw [hf]
    clear hf
    generalize Px.sl0 = x at *
    have HPW2 := HP1.later (below_alloc w1 (psO x))
    clear HP1 HS1 HT1
    go_upto_region 2 with fail
    generalize w1.alloc (psO x) = W2 at *
    obtain ⟨⟨⟨u0, r0⟩, f0⟩, ⟨⟨u1, r1⟩, f1⟩, ⟨⟨u2, r2⟩, f2⟩, ⟨⟨u3, r3⟩, f3⟩, ⟨⟨u4, r4⟩, f4⟩⟩ := HPW2.five
    have HB2 : Hid (Below w.heap.size w W2) := HPW2.bel
    clear HPW2
    go_wp2_with fail
    refine bodyPost_ret (v := .tuple #[.agg #[.string { data := #[] }, .int .i64 0, .int .i64 0, .slice none 0 0, .slice none 0 0], .int .i64 8]) (by simp [results, Tryz.results80, go_sem, r0, r1, r2, r3, r4]) rfl ⟨ChgR.err HM.out, below_set5' HB2.out (by omega) _ _ _ _ _⟩
  have HFx : Hid (Px.find s.slots n = some x) := hf
  have hxm : x ∈ s.slots := List.mem_of_find?_eq_some hf
  have HEx : Hid _ := HO.out.each hxm
  obtain ⟨hx1, hx2', hx3, hx4, hx5, hx6⟩ := HEx.out
  have hx7 : x.att ≤ 5 := HO.out.st.att5 (List.mem_map.2 ⟨x, hxm, rfl⟩ : Px.absS x ∈ _)
  obtain ⟨j, hj⟩ : ∃ j : Nat, x.line = (j : Int) + 1 := ⟨(x.line - 1).toNat, by omega⟩
  have hjt : j < tn s.tab := by omega
  have HJ : Hid (x.line = (j : Int) + 1) := hj
  have HP2 := HP1.later (below_alloc w1 (psO x))
  have HS2 := HS1.later (below_alloc w1 (psO x))
  have HT2 := HT1.later (below_alloc w1 (psO x))
  have hx2 := PsIn.new w1 x
  have hq0 : w.heap.size + 1 < w1.heap.size := HP1.lt
  clear HP1 HS1 HT1 hf hx6 hx4 hxm hj hx2'
  go_upto_region 2 with fail
  generalize w1.alloc (psO x) = W2 at *
  generalize w1.heap.size = xq at *
  have HPP2 : Hid (PRes w W2 s (.slice ad s.slots.length cap) (.slice ad2 s.ends.length cap2)) := HP2
  have HSS2 : Hid (PAt W2 s (.slice ad s.slots.length cap) (.slice ad2 s.ends.length cap2)) := HS2
  have HTT2 : Hid (TabLH W2) := HT2
  have HX2 : Hid (PsIn W2 xq x) := hx2
  obtain ⟨x0, x1, x2, x3, x4, x5, x6, x7⟩ := hx2
  clear HP2 HS2 HT2
  go_wp2_with fail
  refine (runs_any x W2).mono ?_
  rintro e w3 ⟨rfl, hb3⟩
  clear x0 x1 x2 x3 x4 x5 x6 x7
  have HPw3 := HPP2.out.later hb3
  have HSw3 : Hid (PAt w3 s (.slice ad s.slots.length cap) (.slice ad2 s.ends.length cap2)) := HSS2.out.later hb3
  have HTw3 : Hid (TabLH w3) := HTT2.out.later hb3
  have HXw3 : Hid (PsIn w3 xq x) := HX2.out.later hb3
  clear HPP2 HSS2 HTT2 HX2 hb3
  cases hr : decide (0 < x.step)
  rotate_left
  · have HM : Hid (Px.startP s n = (Px.st0, 9)) := by unfold Hid Px.startP; rw [HFx.out]; simp only; rw [if_pos (of_decide_eq_true hr)]
    clear hr
    obtain ⟨⟨⟨u0, r0⟩, f0⟩, ⟨⟨u1, r1⟩, f1⟩, ⟨⟨u2, r2⟩, f2⟩, ⟨⟨u3, r3⟩, f3⟩, ⟨⟨u4, r4⟩, f4⟩⟩ := HPw3.five
    have HB2 : Hid (Below w.heap.size w w3) := HPw3.bel
    clear HPw3
    go_wp2_with fail
    refine bodyPost_ret (v := .tuple #[.agg #[.string { data := #[] }, .int .i64 0, .int .i64 0, .slice none 0 0, .slice none 0 0], .int .i64 9]) (by simp [results, Tryz.results80, go_sem, r0, r1, r2, r3, r4]) rfl ⟨ChgR.err HM.out, below_set5' HB2.out (by omega) _ _ _ _ _⟩
  have hrs : ¬ 0 < x.step := of_decide_eq_false hr
  have HM0 : Hid (Px.startP s n = if s.clock < x.frm then (Px.st0, 10) else if Px.lockP s x.line = true then (Px.st0, 11) else ({ s with slots := Px.repl s.slots (Px.beg s x) }, 0)) := by
    unfold Hid Px.startP; rw [HFx.out]; simp only; rw [if_neg hrs]
  clear hr hrs
  obtain ⟨i0, i1, i2, i3, i4⟩ := HPw3.st
  obtain ⟨x0, x1, x2, x3, x4, x5, x6, x7⟩ := HXw3.out
  by_cases h10 : s.clock < x.frm
  · have HM : Hid (Px.startP s n = (Px.st0, 10)) := by unfold Hid; rw [HM0.out, if_pos h10]
    clear HM0
    obtain ⟨⟨⟨u0, r0⟩, f0⟩, ⟨⟨u1, r1⟩, f1⟩, ⟨⟨u2, r2⟩, f2⟩, ⟨⟨u3, r3⟩, f3⟩, ⟨⟨u4, r4⟩, f4⟩⟩ := HPw3.five
    have HB2 : Hid (Below w.heap.size w w3) := HPw3.bel
    clear HPw3
    go_wp2_with fail
    refine bodyPost_ret (v := .tuple #[.agg #[.string { data := #[] }, .int .i64 0, .int .i64 0, .slice none 0 0, .slice none 0 0], .int .i64 10]) (by simp [results, Tryz.results80, go_sem, r0, r1, r2, r3, r4]) rfl ⟨ChgR.err HM.out, below_set5' HB2.out (by omega) _ _ _ _ _⟩
  have HM1 : Hid (Px.startP s n = if Px.lockP s x.line = true then (Px.st0, 11) else ({ s with slots := Px.repl s.slots (Px.beg s x) }, 0)) := by unfold Hid; rw [HM0.out, if_neg h10]
  have HPP3 : Hid (PRes w w3 s (.slice ad s.slots.length cap) (.slice ad2 s.ends.length cap2)) := HPw3
  clear HM0 HPw3
  go_wp2_with fail
  refine (plocked_any s x.line j _ _ _ HJ.out hjt hl HO.out.st.tab HTw3.out HSw3.out).mono ?_
  rintro e w5 ⟨rfl, hb5⟩
  clear i0 i1 i2 i3 i4 x0 x1 x2 x3 x4 x5 x6 x7
  have HPw5 := HPP3.out.later hb5
  have HSw5 := HSw3.out.later hb5
  have HXw5 := HXw3.out.later hb5
  clear HPP3 HSw3 HTw3 HXw3 hb5
  cases hk : Px.lockP s x.line
  rotate_left
  · have HM : Hid (Px.startP s n = (Px.st0, 11)) := by unfold Hid; rw [HM1.out, hk]; rfl
    clear HM1 hk HSw5 HXw5
    obtain ⟨⟨⟨u0, r0⟩, f0⟩, ⟨⟨u1, r1⟩, f1⟩, ⟨⟨u2, r2⟩, f2⟩, ⟨⟨u3, r3⟩, f3⟩, ⟨⟨u4, r4⟩, f4⟩⟩ := HPw5.five
    have HB2 : Hid (Below w.heap.size w w5) := HPw5.bel
    clear HPw5
    go_wp2_with fail
    refine bodyPost_ret (v := .tuple #[.agg #[.string { data := #[] }, .int .i64 0, .int .i64 0, .slice none 0 0, .slice none 0 0], .int .i64 11]) (by simp [results, Tryz.results80, go_sem, r0, r1, r2, r3, r4]) rfl ⟨ChgR.err HM.out, below_set5' HB2.out (by omega) _ _ _ _ _⟩
  have HM : Hid (Px.startP s n = ({ s with slots := Px.repl s.slots (Px.beg s x) }, 0)) := by unfold Hid; rw [HM1.out, hk]; rfl
  clear HM1 hk
  have hb6 : Below w5.heap.size w5 (w5.alloc (.cells #[.int .i64 x.num, .int .i64 x.line, .int .i64 x.minute, .int .i64 x.att, .int .i64 x.frm, .int .i64 1, .int .i64 s.clock, .string x.heard] 154)) := below_alloc w5 _
  have HPx := HPw5.later hb6
  have HSx := HSw5.later hb6
  have HYx : PsIn (w5.alloc (.cells #[.int .i64 x.num, .int .i64 x.line, .int .i64 x.minute, .int .i64 x.att, .int .i64 x.frm, .int .i64 1, .int .i64 s.clock, .string x.heard] 154)) w5.heap.size (Px.beg s x) := PsIn.new w5 (Px.beg s x)
  obtain ⟨i0, i1, i2, i3, i4⟩ := HPw5.st
  have hzz := HPw5.lt
  have hz0 : w.heap.size < w5.heap.size := by omega
  obtain ⟨x0, x1, x2, x3, x4, x5, x6, x7⟩ := HXw5
  clear HPw5 HSw5 hb6
  go_upto_region 13 with fail
  clear i0 i1 i2 i3 i4 x0 x1 x2 x3 x4 x5 x6 x7
  generalize w5.alloc (.cells #[.int .i64 x.num, .int .i64 x.line, .int .i64 x.minute, .int .i64 x.att, .int .i64 x.frm, .int .i64 1, .int .i64 s.clock, .string x.heard] 154) = W7 at *
  generalize w5.heap.size = aq at *
  generalize Px.beg s x = y at *
  have HP8 := HPx.later (below_alloc W7 (pstO s (.slice ad s.slots.length cap) (.slice ad2 s.ends.length cap2)))
  have HS8 := HSx.later (below_alloc W7 (pstO s (.slice ad s.slots.length cap) (.slice ad2 s.ends.length cap2)))
  have HY8 := HYx.later (below_alloc W7 (pstO s (.slice ad s.slots.length cap) (.slice ad2 s.ends.length cap2)))
  have hA := PW.new W7 s (.slice ad s.slots.length cap) (.slice ad2 s.ends.length cap2)
  have hWq := HPx.lt
  obtain ⟨i0, i1, i2, i3, i4⟩ := HPx.st
  clear HSx HYx
  go_upto_region 14 with fail
  clear i0 i1 i2 i3 i4 HPx
  generalize W7.alloc (pstO s (.slice ad s.slots.length cap) (.slice ad2 s.ends.length cap2)) = W8 at *
  generalize W7.heap.size = q at *
  have HPP8 : Hid (PRes w W8 s (.slice ad s.slots.length cap) (.slice ad2 s.ends.length cap2)) := HP8
  have HSS8 : Hid (PAt W8 s (.slice ad s.slots.length cap) (.slice ad2 s.ends.length cap2)) := HS8
  have HAA8 : Hid (PW W8 q s (.slice ad s.slots.length cap) (.slice ad2 s.ends.length cap2)) := hA
  obtain ⟨i0, i1, i2, i3, i4⟩ := HP8.st
  obtain ⟨y0, y1, y2, y3, y4, y5, y6, y7⟩ := HY8
  clear HP8 HS8 hA
  go_wp2_with fail
  refine (preplaced_any s.slots y _ _ hl HSS8.out.sl.1).mono ?_
  rintro e w9 ⟨⟨v9, rfl, hown9⟩, hb9⟩
  clear i0 i1 i2 i3 i4 y0 y1 y2 y3 y4 y5 y6 y7
  obtain ⟨ad9, cap9, hv9, _⟩ := (RowAt.of_own hown9).form
  subst hv9
  have hA9 := HAA8.out.later hb9
  have a3 := hA9.st.c3
  have f3' := hA9.f 3 (by decide)
  have hq9 := hA9.ty.lt
  have HP10 := (HPP8.out.later hb9).set hWq 3 (.slice ad9 (Px.repl s.slots y).length cap9)
  have HA10 := hA9.slots (Px.repl s.slots y) (.slice ad9 (Px.repl s.slots y).length cap9)
  have HE10 := ((HSS8.out.later hb9).set hA9.ty (by decide) (by decide) 3 (.slice ad9 (Px.repl s.slots y).length cap9)).en
  have HO10 := (TRow.of_own hown9).set hA9.ty (by decide) 3 (.slice ad9 (Px.repl s.slots y).length cap9)
  clear hA9 hown9 hb9 HPP8 HSS8 HAA8
  go_upto_region 15 with fail
  clear a3 f3'
  generalize w9.setCell ⟨q, 3, none⟩ (.slice ad9 (Px.repl s.slots y).length cap9) = W10 at *
  have HX : Hid (PEnd w W10 q { s with slots := Px.repl s.slots y } (.slice ad9 (Px.repl s.slots y).length cap9) (.slice ad2 s.ends.length cap2)) := ⟨HA10, ⟨HO10, HE10⟩, HP10.z, HP10.ty, HP10.bel⟩
  obtain ⟨⟨⟨u0, r0⟩, f0⟩, ⟨⟨u1, r1⟩, f1⟩, ⟨⟨u2, r2⟩, f2⟩, ⟨⟨u3, r3⟩, f3⟩, ⟨⟨u4, r4⟩, f4⟩⟩ := HP10.five
  obtain ⟨c0, c1, c2, c3, c4⟩ := HA10.st
  clear HP10 HA10 HE10 HO10
  go_wp2_with fail
  refine bodyPost_ret (v := .tuple #[pstV { s with slots := Px.repl s.slots y } (.slice ad9 (Px.repl s.slots y).length cap9) (.slice ad2 s.ends.length cap2), .int .i64 0]) (by simp [results, Tryz.results80, go_sem, r0, r1, r2, r3, r4]) rfl ⟨ChgR.ok HM.out (HX.out.fin _ _ _ _ _).1, (HX.out.fin _ _ _ _ _).2⟩
end Go.Proofs.YtdajolpoiffimaaGreatDoor

namespace Go.Proofs.YtdajolpoiffimaaGreatDoor
open Go.RowKit

theorem behL_drop {u : List UInt8} {t : List UInt8} {k : Nat} (h : k < t.length) (hp : u.isPrefixOf (t.drop k) = false) : behL u (t.drop k) = behL u (t.drop (k + 1)) := by
  rw [List.drop_eq_getElem_cons h] at hp ⊢
  exact behL_no hp
set_option maxHeartbeats 1000000 in
theorem pbehind_any (t u : ByteArray) (w : World) (ht : t.size ≤ 1000000) (hu : u.size ≤ 1000) (hu1 : 0 < u.size) :
    Calls Tryz.prog 163 #[.string t, .string u] w fun e w' => e = .returned (.tuple #[.string (behS t u), .bool (behB t u)]) ∧ w' = w := by
  go_enter Tryz.func163, Tryz.ntmps163
  go_wp2_with fail
  go_loop [6] (fun v => ∃ k : Nat, v = .int .i64 k ∧ k ≤ t.size ∧ behL u.data.toList (t.data.toList.drop k) = behL u.data.toList t.data.toList) (fun v => t.size + 1 - (intOf v).toNat)
  case atStart => exact ⟨0, rfl, Nat.zero_le _, by rw [List.drop_zero]⟩
  case round =>
    obtain ⟨k, rfl, hk, hbe⟩ := hrel
    have Hbe : Hid (behL u.data.toList (t.data.toList.drop k) = behL u.data.toList t.data.toList) := hbe
    clear hbe
    have hul : u.data.toList.length = u.size := by simp
    have htl : t.data.toList.length = t.size := by simp
    by_cases hlt : k + u.size ≤ t.size
    · have z1 : (k : Int) + (u.size : Int) ≤ (t.size : Int) := by omega
      have z2 : (0 : Int) ≤ (k : Int) := by omega
      have z3 : (k : Int) ≤ (k : Int) + (u.size : Int) := by omega
      have z4 : ((k : Int) + (u.size : Int)).toNat = k + u.size := by omega
      have z5 : ((k : Int)).toNat = k := by omega
      have hext : (t.extract k (k + u.size)).data.toList = (t.data.toList.drop k).take u.size := by
        rw [ext_list]; congr 1; omega
      cases he : ((t.extract k (k + u.size)).toList == u.toList)
      · have hp : u.data.toList.isPrefixOf (t.data.toList.drop k) = false := by
          cases hh : u.data.toList.isPrefixOf (t.data.toList.drop k)
          · rfl
          · have h1 := List.prefix_iff_eq_take.1 (List.isPrefixOf_iff_prefix.1 hh)
            have h2 : (t.extract k (k + u.size)).toList = u.toList := by
              rw [ByteArray.toList_eq, ByteArray.toList_eq, hext, ← hul, ← h1]
            rw [h2] at he; simp at he
        have HN : Hid (behL u.data.toList (t.data.toList.drop (k + 1)) = behL u.data.toList t.data.toList) := by
          unfold Hid
          rw [← behL_drop (by omega) hp]; exact Hbe.out
        clear hp hul htl hext
        go_wp2_with fail
        go_round
        case rel => exact ⟨k + 1, by go_num, by omega, HN.out⟩
        case measure => simp [intOf]; omega
      · have hp : u.data.toList.isPrefixOf (t.data.toList.drop k) = true := by
          have h2 : (t.extract k (k + u.size)).toList = u.toList := by simpa using he
          rw [ByteArray.toList_eq, ByteArray.toList_eq, hext] at h2
          rw [List.isPrefixOf_iff_prefix, List.prefix_iff_eq_take, hul]; exact h2.symm
        have HN : Hid (behL u.data.toList t.data.toList = some (t.data.toList.drop (k + u.size))) := by
          unfold Hid; rw [← Hbe.out, behL_yes hp, hul, List.drop_drop]
        have HS : Hid (behS t u = t.extract (k + u.size) t.size ∧ behB t u = true) := by
          unfold Hid behS behB; rw [HN.out]
          refine ⟨?_, rfl⟩
          apply ByteArray.ext
          apply Array.toList_inj.1
          rw [ext_list]
          show (t.data.toList.drop (k + u.size)) = _
          rw [List.take_of_length_le (by rw [List.length_drop, htl]; omega)]
        clear hp hul htl hext HN
        go_wp2_with fail
        go_ret2
        rw [HS.out.1, HS.out.2]
        exact ⟨rfl, rfl⟩
    · have z1 : ¬ (k : Int) + (u.size : Int) ≤ (t.size : Int) := by omega
      have HS : Hid (behS t u = ByteArray.empty ∧ behB t u = false) := by
        unfold Hid behS behB
        rw [← Hbe.out, behL_short (by rw [List.length_drop, hul, htl]; omega)]
        exact ⟨rfl, rfl⟩
      clear hul htl
      go_wp2_with fail
      go_ret2
      rw [HS.out.1, HS.out.2]
      exact ⟨rfl, rfl⟩

set_option maxHeartbeats 1000000 in
theorem ending_any (t : ByteArray) (k : Nat) (n : Int) (w : World) (hn : n = (k : Int)) (ht : t.size ≤ 1000000) (hk : k ≤ 1000) :
    Calls Tryz.prog 164 #[.string t, .int .i64 n] w fun e w' => e = .returned (.string (Px.lastB t k)) ∧ w' = w := by
  subst hn
  by_cases h : k < t.size
  · have HL : Hid (Px.lastB t k = t.extract (t.size - k) t.size) := by unfold Hid Px.lastB; rw [if_pos h]
    have z1 : ¬ (t.size : Int) ≤ (k : Int) := by omega
    have z2 : ((t.size : Int) - (k : Int)).toNat = t.size - k := by omega
    have z3 : (0 : Int) ≤ (t.size : Int) - (k : Int) := by omega
    have z4 : (t.size : Int) - (k : Int) ≤ (t.size : Int) := by omega
    go_enter Tryz.func164, Tryz.ntmps164
    go_wp2_with fail
    go_ret
    rw [HL.out]
    exact ⟨rfl, rfl⟩
  · have HL : Hid (Px.lastB t k = t) := by unfold Hid Px.lastB; rw [if_neg h]
    have z1 : (t.size : Int) ≤ (k : Int) := by omega
    go_enter Tryz.func164, Tryz.ntmps164
    go_wp2_with fail
    go_ret
    rw [HL.out]
    exact ⟨rfl, rfl⟩
end Go.Proofs.YtdajolpoiffimaaGreatDoor

namespace Go.Proofs.YtdajolpoiffimaaGreatDoor
open Go.RowKit

/-- What holds while a slot talks: it lies in its block, behind it the result's. -/
structure GIn (w wr : World) (y : Px.Sl) : Prop where
  ps : PsIn wr w.heap.size y
  fb : ∀ j : Nat, j < 8 → wr.frozen? ⟨w.heap.size, j, none⟩ = false
  z : ZCell wr (w.heap.size + 1) 8
  bel : Below w.heap.size w wr
  lt : w.heap.size + 1 < wr.heap.size
theorem GIn.new (w : World) (x : Px.Sl) : GIn w ((w.alloc (psO x)).alloc (.cells #[.int .i64 0, .int .i64 0, .int .i64 0, .int .i64 0, .int .i64 0, .int .i64 0, .int .i64 0, .string { data := #[] }] 154)) x := by
  have hZ := ZCell.new (w.alloc (psO x)) #[.int .i64 0, .int .i64 0, .int .i64 0, .int .i64 0, .int .i64 0, .int .i64 0, .int .i64 0, .string { data := #[] }] 154
  refine ⟨(PsIn.new w x).later (below_alloc _ _), fun j _ => ?_, by simpa using hZ, (below_alloc w _).alloc (by simp) _, by simp⟩
  rw [(below_alloc (w.alloc (psO x)) _).frozen (p := ⟨w.heap.size, j, none⟩) (by simp)]; simp [go_sem]
/-- A cell of the slot is written. -/
theorem GIn.set {w wr : World} {y y' : Px.Sl} (h : GIn w wr y) (j : Nat) (u : Value) (hps : PsIn (wr.setCell ⟨w.heap.size, j, none⟩ u) w.heap.size y') : GIn w (wr.setCell ⟨w.heap.size, j, none⟩ u) y' := by
  refine ⟨hps, fun i hi => by rw [World.frozen?_setCell]; exact h.fb i hi, fun i hi => ⟨?_, by rw [World.frozen?_setCell]; exact (h.z i hi).2⟩, h.bel.setCell (by simp) _, by have := h.lt; simpa [World.setCell] using this⟩
  obtain ⟨v, hv⟩ := (h.z i hi).1
  exact ⟨v, by rw [World.cell?_setCell_other _ _ _ _ (by simp)]; exact hv⟩
theorem GIn.step {w wr : World} {y : Px.Sl} (h : GIn w wr y) (k : Int) : GIn w (wr.setCell ⟨w.heap.size, 5, none⟩ (.int .i64 k)) { y with step := k } := by
  refine h.set 5 _ ?_
  obtain ⟨c0, c1, c2, c3, c4, c5, c6, c7⟩ := h.ps
  refine ⟨?_, ?_, ?_, ?_, ?_, ?_, ?_, ?_⟩ <;> simp [go_sem, c0, c1, c2, c3, c4, c5, c6, c7]
theorem GIn.ans {w wr : World} {y : Px.Sl} (h : GIn w wr y) (k : Int) : GIn w (wr.setCell ⟨w.heap.size, 6, none⟩ (.int .i64 k)) { y with ans := k } := by
  refine h.set 6 _ ?_
  obtain ⟨c0, c1, c2, c3, c4, c5, c6, c7⟩ := h.ps
  refine ⟨?_, ?_, ?_, ?_, ?_, ?_, ?_, ?_⟩ <;> simp [go_sem, c0, c1, c2, c3, c4, c5, c6, c7]
theorem GIn.heard {w wr : World} {y : Px.Sl} (h : GIn w wr y) (k : ByteArray) : GIn w (wr.setCell ⟨w.heap.size, 7, none⟩ (.string k)) { y with heard := k } := by
  refine h.set 7 _ ?_
  obtain ⟨c0, c1, c2, c3, c4, c5, c6, c7⟩ := h.ps
  refine ⟨?_, ?_, ?_, ?_, ?_, ?_, ?_, ?_⟩ <;> simp [go_sem, c0, c1, c2, c3, c4, c5, c6, c7]
theorem below_set8 {n q : Nat} {w w' : World} (h : Below n w w') (hq : n ≤ q) (u0 u1 u2 u3 u4 u5 u6 u7 : Value) : Below n w ((((((((w'.setCell ⟨q, 0, none⟩ u0).setCell ⟨q, 1, none⟩ u1).setCell ⟨q, 2, none⟩ u2).setCell ⟨q, 3, none⟩ u3).setCell ⟨q, 4, none⟩ u4).setCell ⟨q, 5, none⟩ u5).setCell ⟨q, 6, none⟩ u6).setCell ⟨q, 7, none⟩ u7) :=
  (((((((h.setCell hq _).setCell hq _).setCell hq _).setCell hq _).setCell hq _).setCell hq _).setCell hq _).setCell hq _
theorem ret_go {x : Px.Sl} {a : ByteArray} {p : Px.Sl × ByteArray} (h : p = (x, a)) : Ending.returned (.tuple #[psV x, .string a]) = .returned (.tuple #[psV p.1, .string p.2]) := by subst h; rfl
theorem behB_no {t u : ByteArray} (h : behB t u = false) : behS t u = ByteArray.empty := by
  unfold behB at h; unfold behS
  cases q : behL u.data.toList t.data.toList with
  | none => rfl
  | some l => rw [q] at h; simp at h

set_option maxRecDepth 10000 in
set_option maxHeartbeats 4000000 in
theorem goOn_any (x : Px.Sl) (L : List ByteArray) (sv : Value) (c : Int) (w : World) (hL5 : L.length ≤ 5) (hsz : ∀ z ∈ L, 2 ≤ z.size ∧ z.size ≤ 9) (hs1 : 1 ≤ x.step) (hs2 : x.step ≤ (L.length : Int) + 1) (hh : x.heard.size ≤ 100000) (hR : RowAt w sv L.length (L.flatMap spC)) :
    Calls Tryz.prog 128 #[psV x, sv, .int .i64 c] w fun e w' => e = .returned (.tuple #[psV (Px.goF L c (L.length + 1) x).1, .string (Px.goF L c (L.length + 1) x).2]) ∧ Below w.heap.size w w' := by
  obtain ⟨ad, cap, rfl, hcap⟩ := hR.form
  have HR : Hid (RowAt w (.slice ad L.length cap) L.length (L.flatMap spC)) := hR
  have HG := GIn.new w x
  have hx5 := HG.ps.c5
  obtain ⟨k0, hk0⟩ : ∃ k : Nat, x.step = (k : Int) + 1 := ⟨(x.step - 1).toNat, by omega⟩
  have HK : Hid (x.step = (k0 : Int) + 1) := hk0
  rw [hk0] at hx5
  have hk5 : k0 ≤ 5 := by omega
  clear hR hk0
  go_enter Tryz.func128, Tryz.ntmps128
  go_upto_region 1 with fail
  generalize (w.alloc (psO x)).alloc (.cells #[.int .i64 0, .int .i64 0, .int .i64 0, .int .i64 0, .int .i64 0, .int .i64 0, .int .i64 0, .string { data := #[] }] 154) = W at *
  have HGW : Hid (GIn w W x) := HG
  clear HG
  go_wp2_with fail
  clear hx5
  go_loopw [8, 9] (fun v i wr => ∃ (k n : Nat) (y : Px.Sl) (a : ByteArray), k ≤ L.length ∧ i = .int .i64 k ∧ y.step = (k : Int) + 1 ∧ v = .string a ∧ a.size ≤ 9 * k ∧ y.heard.size ≤ 100000 ∧ L.length + 1 ≤ k + n ∧ Px.goF L c (L.length + 1) x = ((Px.goF L c n y).1, a ++ (Px.goF L c n y).2) ∧ GIn w wr y) (fun _ i _ => L.length - (intOf i).toNat)
  case atStart => exact ⟨k0, L.length + 1, x, ByteArray.empty, by have := HK.out; omega, rfl, HK.out, rfl, by simp, hh, by omega, by rw [Px.ba_nil_app], HGW.out⟩
  case round =>
    obtain ⟨k, n, y, a, hk, rfl, hy5, rfl, ha, hyh, hn, hgo, HI⟩ := hrel
    have HGo : Hid (Px.goF L c (L.length + 1) x = ((Px.goF L c n y).1, a ++ (Px.goF L c n y).2)) := hgo
    have HY5 : Hid (y.step = (k : Int) + 1) := hy5
    clear hgo
    obtain ⟨c0, c1, c2, c3, c4, c5, c6, c7⟩ := HI.ps
    have hb1 := HI.bel.size
    have g5 := HI.fb 5 (by decide)
    have g6 := HI.fb 6 (by decide)
    have g7 := HI.fb 7 (by decide)
    have hlt0 : w.heap.size < wr.heap.size := by have := HI.lt; omega
    obtain ⟨m, rfl⟩ : ∃ m, n = m + 1 := ⟨n - 1, by omega⟩
    by_cases hlt : k < L.length
    · obtain ⟨b, off, cap', hv, _, hc⟩ := (HR.out.later HI.bel).some' (by omega)
      cases hv
      have d0 : wr.cell? ⟨b, off + k * 2, none⟩ = some (.bool (sayB L[k])) := RowAt.cell spC_len hc k hlt 0 (by decide)
      have d1 : wr.cell? ⟨b, off + k * 2 + 1, none⟩ = some (.string (L[k].extract 1 L[k].size)) := RowAt.cell spC_len hc k hlt 1 (by decide)
      clear hc
      have hwz := Px.word_size hlt hsz
      have hwe := word_eq hlt
      have HE : Hid (Px.goF L c (m + 1) y = if sayB L[k] = true then ((Px.goF L c m { y with step := (k : Int) + 2 }).1, wordAt L k ++ (Px.goF L c m { y with step := (k : Int) + 2 }).2)
          else if behB y.heard (wordAt L k) = false then ({ y with heard := Px.lastB y.heard ((wordAt L k).size - 1) }, ByteArray.empty)
          else Px.goF L c m { y with step := (k : Int) + 2, heard := behS y.heard (wordAt L k), ans := c }) := by
        unfold Hid
        rw [Px.goF, if_neg (by omega), HY5.out, show ((k : Int) + 1 - 1).toNat = k by omega, show (k : Int) + 1 + 1 = (k : Int) + 2 by omega]
        have : L.getD k ByteArray.empty = L[k] := by simp [hlt]
        rw [this]
      rw [hwe] at d1
      have b1 : (0 : Int) ≤ (k : Int) := by omega
      have b2 : (k : Int) < (L.length : Int) := by omega
      have hsy : Hid (∃ q, sayB L[k] = q) := ⟨_, rfl⟩
      obtain ⟨q, hq⟩ := hsy.out
      rw [hq] at d0 HE
      clear hq hsy hwe
      rw [hy5] at c5
      clear hy5
      have hwl : Hid ((wordAt L k).size ≤ 8) := hwz.2
      generalize wordAt L k = u at *
      cases q
      · have HE' : Hid (Px.goF L c (m + 1) y = if behB y.heard u = false then ({ y with heard := Px.lastB y.heard (u.size - 1) }, ByteArray.empty) else Px.goF L c m { y with step := (k : Int) + 2, heard := behS y.heard u, ans := c }) := by
          unfold Hid; rw [HE.out, if_neg (by simp)]
        clear HE
        go_wp2_with fail
        refine (pbehind_any y.heard u wr (by omega) (by omega) (by omega)).mono ?_
        rintro e w2 ⟨rfl, rfl⟩
        cases hbb : behB y.heard u
        · have HE2 : Hid (Px.goF L c (L.length + 1) x = ({ y with heard := Px.lastB y.heard (u.size - 1) }, a)) := by
            unfold Hid; rw [HGo.out, HE'.out, if_pos hbb, Px.ba_app_nil]
          clear HE' HGo hbb
          have u1 : (u.size : Int) - 1 = ((u.size - 1 : Nat) : Int) := by omega
          go_wp2_with fail
          refine (ending_any y.heard (u.size - 1) _ w2 (by rw [← u1]) (by omega) (by omega)).mono ?_
          rintro e w3 ⟨rfl, rfl⟩
          have HI2 := HI.heard (Px.lastB y.heard (u.size - 1))
          clear HI d0 d1
          go_upto_region 11 with fail
          clear c0 c1 c2 c3 c4 c5 c6 c7 g5 g6 g7
          generalize w3.setCell ⟨w.heap.size, 7, none⟩ (.string (Px.lastB y.heard (u.size - 1))) = W4 at *
          have HP : Hid (∃ z : Px.Sl, { y with heard := Px.lastB y.heard (u.size - 1) } = z) := ⟨_, rfl⟩
          obtain ⟨z, hz⟩ := HP.out
          rw [hz] at HI2 HE2
          clear hz HP
          obtain ⟨e0, e1, e2, e3, e4, e5, e6, e7⟩ := HI2.ps
          obtain ⟨⟨u0, r0⟩, f0⟩ := HI2.z 0 (by decide)
          obtain ⟨⟨u1, r1⟩, f1⟩ := HI2.z 1 (by decide)
          obtain ⟨⟨u2, r2⟩, f2⟩ := HI2.z 2 (by decide)
          obtain ⟨⟨u3, r3⟩, f3⟩ := HI2.z 3 (by decide)
          obtain ⟨⟨u4, r4⟩, f4⟩ := HI2.z 4 (by decide)
          obtain ⟨⟨u5, r5⟩, f5⟩ := HI2.z 5 (by decide)
          obtain ⟨⟨u6, r6⟩, f6⟩ := HI2.z 6 (by decide)
          obtain ⟨⟨u7, r7⟩, f7⟩ := HI2.z 7 (by decide)
          have HB : Hid (Below w.heap.size w W4) := HI2.bel
          clear HI2
          go_wp2_with fail
          refine bodyPost_ret (v := .tuple #[psV z, .string a]) (by simp [results, Tryz.results128, go_sem, r0, r1, r2, r3, r4, r5, r6, r7]) rfl ⟨ret_go HE2.out, below_set8 HB.out (by omega) _ _ _ _ _ _ _ _⟩
        · have HGo2 : Hid (Px.goF L c (L.length + 1) x = ((Px.goF L c m { y with step := (k : Int) + 2, heard := behS y.heard u, ans := c }).1, a ++ (Px.goF L c m { y with step := (k : Int) + 2, heard := behS y.heard u, ans := c }).2)) := by
            unfold Hid; rw [HGo.out, HE'.out, if_neg (by rw [hbb]; simp)]
          have hss := behS_size y.heard u
          clear HE' HGo hbb
          have HI4 := ((HI.heard (behS y.heard u)).ans c).step ((k : Int) + 2)
          clear HI d0 d1
          generalize behS y.heard u = rest at *
          go_wp2_with fail
          go_roundw
          case rel => exact ⟨k + 1, m, _, a, by omega, by go_num, by show (k : Int) + 2 = ((k + 1 : Nat) : Int) + 1; omega, rfl, by omega, by show rest.size ≤ 100000; omega, by omega, HGo2.out, HI4⟩
          case measure => simp [intOf]; omega
      · have HGo2 : Hid (Px.goF L c (L.length + 1) x = ((Px.goF L c m { y with step := (k : Int) + 2 }).1, (a ++ u) ++ (Px.goF L c m { y with step := (k : Int) + 2 }).2)) := by
          unfold Hid; rw [HGo.out, HE.out, if_pos rfl, ByteArray.append_assoc]
        clear HE HGo
        have HI4 := HI.step ((k : Int) + 2)
        clear HI
        go_wp2_with fail
        go_roundw
        case rel => exact ⟨k + 1, m, { y with step := (k : Int) + 2 }, a ++ u, by omega, by go_num, by show (k : Int) + 2 = ((k + 1 : Nat) : Int) + 1; omega, rfl, by have := hwl.out; simp [ByteArray.size_append]; omega, hyh, by omega, HGo2.out, HI4⟩
        case measure => simp [intOf]; omega
    · have HE2 : Hid (Px.goF L c (L.length + 1) x = (y, a)) := by
        unfold Hid; rw [HGo.out]
        have : Px.goF L c (m + 1) y = (y, ByteArray.empty) := by rw [Px.goF, if_pos (by have := HY5.out; omega)]
        rw [this, Px.ba_app_nil]
      have z1 : ¬ (k : Int) < (L.length : Int) := by omega
      clear hy5
      obtain ⟨⟨u0, r0⟩, f0⟩ := HI.z 0 (by decide)
      obtain ⟨⟨u1, r1⟩, f1⟩ := HI.z 1 (by decide)
      obtain ⟨⟨u2, r2⟩, f2⟩ := HI.z 2 (by decide)
      obtain ⟨⟨u3, r3⟩, f3⟩ := HI.z 3 (by decide)
      obtain ⟨⟨u4, r4⟩, f4⟩ := HI.z 4 (by decide)
      obtain ⟨⟨u5, r5⟩, f5⟩ := HI.z 5 (by decide)
      obtain ⟨⟨u6, r6⟩, f6⟩ := HI.z 6 (by decide)
      obtain ⟨⟨u7, r7⟩, f7⟩ := HI.z 7 (by decide)
      have HB : Hid (Below w.heap.size w wr) := HI.bel
      clear HI HGo
      go_wp2_with fail
      refine bodyPost_ret (v := .tuple #[psV y, .string a]) (by simp [results, Tryz.results128, go_sem, r0, r1, r2, r3, r4, r5, r6, r7]) rfl ⟨ret_go HE2.out, below_set8 HB.out (by omega) _ _ _ _ _ _ _ _⟩
end Go.Proofs.YtdajolpoiffimaaGreatDoor

namespace Go.Proofs.YtdajolpoiffimaaGreatDoor
open Go.RowKit

abbrev tzO : Obj := .cells #[.string { data := #[] }, .int .i64 0, .int .i64 0, .slice none 0 0, .slice none 0 0, .string { data := #[] }, .bool false] 135
/-- Behind the head of Hear: the state in its block, the result's block. -/
structure TRes (w W : World) (s : Px.St) (sl en : Value) : Prop where
  st : PIn W w.heap.size s sl en
  z : ZCell W (w.heap.size + 1) 7
  ty : Typed W (w.heap.size + 1) 135
  bel : Below w.heap.size w W
  lt : w.heap.size + 1 < W.heap.size
theorem TRes.new (w : World) (s : Px.St) (sl en : Value) : TRes w ((w.alloc (pstO s sl en)).alloc tzO) s sl en := by
  have hZ := ZCell.new (w.alloc (pstO s sl en)) #[.string { data := #[] }, .int .i64 0, .int .i64 0, .slice none 0 0, .slice none 0 0, .string { data := #[] }, .bool false] 135
  have hT := Typed.new (w.alloc (pstO s sl en)) #[.string { data := #[] }, .int .i64 0, .int .i64 0, .slice none 0 0, .slice none 0 0, .string { data := #[] }, .bool false] 135
  exact ⟨(PIn.new w s sl en).later (below_alloc _ _), by simpa using hZ, by simpa using hT, (below_alloc w _).alloc (by simp) _, by simp⟩
theorem TRes.later {w W W' : World} {s : Px.St} {sl en : Value} (h : TRes w W s sl en) (hb : Below W.heap.size W W') : TRes w W' s sl en :=
  ⟨h.st.later hb, h.z.later h.lt hb, h.ty.later hb, h.bel.trans (hb.mono h.bel.size), Nat.lt_of_lt_of_le h.lt hb.size⟩
theorem TRes.set {w W : World} {s : Px.St} {sl en : Value} (h : TRes w W s sl en) {q : Nat} (hq : w.heap.size + 1 < q) (j : Nat) (u : Value) : TRes w (W.setCell ⟨q, j, none⟩ u) s sl en := by
  have oth : ∀ (a i : Nat), a ≤ w.heap.size + 1 → (W.setCell ⟨q, j, none⟩ u).cell? ⟨a, i, none⟩ = W.cell? ⟨a, i, none⟩ := fun a i ha => World.cell?_setCell_other _ _ _ _ (by first | (simp; done) | (simp; omega))
  obtain ⟨c0, c1, c2, c3, c4⟩ := h.st
  refine ⟨⟨?_, ?_, ?_, ?_, ?_⟩, fun i hi => ⟨?_, ?_⟩, h.ty.setCell _ _ _, h.bel.setCell (by first | (simp; done) | (simp; omega)) _, by have := h.lt; simpa [World.setCell] using this⟩
  · rw [oth _ _ (by omega)]; exact c0
  · rw [oth _ _ (by omega)]; exact c1
  · rw [oth _ _ (by omega)]; exact c2
  · rw [oth _ _ (by omega)]; exact c3
  · rw [oth _ _ (by omega)]; exact c4
  · obtain ⟨u', hu⟩ := (h.z i hi).1
    exact ⟨u', by rw [oth _ _ (by omega)]; exact hu⟩
  · rw [World.frozen?_setCell]; exact (h.z i hi).2
theorem PsIn.set {W : World} {q : Nat} {x : Px.Sl} (h : PsIn W q x) {g : Nat} (hg : g ≠ q) (j : Nat) (u : Value) : PsIn (W.setCell ⟨g, j, none⟩ u) q x := by
  have oth : ∀ (i : Nat), (W.setCell ⟨g, j, none⟩ u).cell? ⟨q, i, none⟩ = W.cell? ⟨q, i, none⟩ := fun i => World.cell?_setCell_other _ _ _ _ (by simp)
  obtain ⟨c0, c1, c2, c3, c4, c5, c6, c7⟩ := h
  exact ⟨(oth _).trans c0, (oth _).trans c1, (oth _).trans c2, (oth _).trans c3, (oth _).trans c4, (oth _).trans c5, (oth _).trans c6, (oth _).trans c7⟩
theorem below_set7 {n q : Nat} {w w' : World} (h : Below n w w') (hq : n ≤ q) (u0 u1 u2 u3 u4 u5 u6 : Value) : Below n w (((((((w'.setCell ⟨q, 0, none⟩ u0).setCell ⟨q, 1, none⟩ u1).setCell ⟨q, 2, none⟩ u2).setCell ⟨q, 3, none⟩ u3).setCell ⟨q, 4, none⟩ u4).setCell ⟨q, 5, none⟩ u5).setCell ⟨q, 6, none⟩ u6) :=
  ((((((h.setCell hq _).setCell hq _).setCell hq _).setCell hq _).setCell hq _).setCell hq _).setCell hq _
theorem PAt.store7 {W : World} {q : Nat} {s : Px.St} {sl en : Value} (h : PAt W s sl en) (ty : Typed W q 135) (u0 u1 u2 u3 u4 u5 u6 : Value) : PAt (((((((W.setCell ⟨q, 0, none⟩ u0).setCell ⟨q, 1, none⟩ u1).setCell ⟨q, 2, none⟩ u2).setCell ⟨q, 3, none⟩ u3).setCell ⟨q, 4, none⟩ u4).setCell ⟨q, 5, none⟩ u5).setCell ⟨q, 6, none⟩ u6) s sl en := by
  have st : ∀ (w : World) (j : Nat) (u : Value), (Typed w q 135 ∧ PAt w s sl en) → (Typed (w.setCell ⟨q, j, none⟩ u) q 135 ∧ PAt (w.setCell ⟨q, j, none⟩ u) s sl en) := fun w j u h => ⟨h.1.setCell _ _ _, h.2.set h.1 (by decide) (by decide) _ _⟩
  exact ((st _ _ _ (st _ _ _ (st _ _ _ (st _ _ _ (st _ _ _ (st _ _ _ (st _ _ _ ⟨ty, h⟩)))))))).2
theorem PsIn.hear {W : World} {q : Nat} {y : Px.Sl} (h : PsIn W q y) (k : ByteArray) : PsIn (W.setCell ⟨q, 7, none⟩ (.string k)) q { y with heard := k } := by
  obtain ⟨c0, c1, c2, c3, c4, c5, c6, c7⟩ := h
  refine ⟨?_, ?_, ?_, ?_, ?_, ?_, ?_, ?_⟩ <;> simp [go_sem, c0, c1, c2, c3, c4, c5, c6, c7]
/-- What Hear answers. -/
abbrev talkV (s : Px.St) (sl en : Value) (said : ByteArray) (over : Bool) : Value := .agg #[.string s.tab, .int .i64 s.clock, .int .i64 s.next, sl, en, .string said, .bool over]
inductive TalkR (s : Px.St) (n : Int) (x : ByteArray) (w' : World) : Ending → Prop
  | none (h : Px.find s.slots n = .none) : TalkR s n x w' (.returned (.tuple #[.agg #[.string { data := #[] }, .int .i64 0, .int .i64 0, .slice none 0 0, .slice none 0 0, .string { data := #[] }, .bool false], .int .i64 8]))
  | wait (y : Px.Sl) (h : Px.find s.slots n = some y) (hs : y.step ≤ 0) : TalkR s n x w' (.returned (.tuple #[.agg #[.string { data := #[] }, .int .i64 0, .int .i64 0, .slice none 0 0, .slice none 0 0, .string { data := #[] }, .bool false], .int .i64 9]))
  | ok (y : Px.Sl) (sl en : Value) (said : ByteArray) (over : Bool) (t : Px.St) (h : Px.find s.slots n = some y) (hs : ¬ y.step ≤ 0) (ht : t = Px.talkT s y x) (h1 : said = (Px.talkS s y x).2) (h2 : over = decide (((Px.stepsL s y).length : Int) < (Px.talkS s y x).1.step)) (ha : PAt w' t sl en) : TalkR s n x w' (.returned (.tuple #[talkV t sl en said over, .int .i64 0]))

set_option maxRecDepth 10000 in
set_option maxHeartbeats 4000000 in
theorem hear_any (s : Px.St) (n : Int) (x : ByteArray) (sl en : Value) (w : World) (hO : Px.Ok s) (hxz : x.size ≤ 100) (hT : TabLH w) (hS : PAt w s sl en) :
    Calls Tryz.prog 82 #[pstV s sl en, .int .i64 n, .string x] w fun e w' => TalkR s n x w' e ∧ Below w.heap.size w w' := by
  obtain ⟨ad, cap, rfl, hcap⟩ := hS.sl.form
  obtain ⟨ad2, cap2, rfl, hcap2⟩ := hS.en.form
  have HO : Hid (Px.Ok s) := hO
  have hl : s.slots.length ≤ 10000 := by have := hO.len; omega
  have HS : Hid (PAt w s (.slice ad s.slots.length cap) (.slice ad2 s.ends.length cap2)) := hS
  have hP := TRes.new w s (.slice ad s.slots.length cap) (.slice ad2 s.ends.length cap2)
  clear hS hO
  go_enter Tryz.func82, Tryz.ntmps82
  go_upto_region 1 with fail
  generalize (w.alloc (pstO s (.slice ad s.slots.length cap) (.slice ad2 s.ends.length cap2))).alloc tzO = W at *
  have HSW : Hid (PAt W s (.slice ad s.slots.length cap) (.slice ad2 s.ends.length cap2)) := HS.out.later hP.bel
  have HT : Hid (TabLH W) := hT.later hP.bel
  have HP : Hid (TRes w W s (.slice ad s.slots.length cap) (.slice ad2 s.ends.length cap2)) := hP
  obtain ⟨i0, i1, i2, i3, i4⟩ := hP.st
  clear hP hT
  go_wp2_with fail
  refine (pfind_any s n _ _ _ hl HSW.out).mono ?_
  rintro e w1 ⟨hF, hb1⟩
  clear i0 i1 i2 i3 i4
  have HP1 := HP.out.later hb1
  have HS1 := HSW.out.later hb1
  have HT1 := HT.out.later hb1
  clear HP HSW hb1 HT
  rcases hF with ⟨y, hf, rfl⟩ | ⟨hf, rfl⟩
  rotate_left
  · have HM : Hid (Px.find s.slots n = none) := hf
    clear hf
    generalize Px.sl0 = x at *
    have HPW2 := HP1.later (below_alloc w1 (psO x))
    clear HP1 HS1 HT1
    go_upto_region 2 with fail
    generalize w1.alloc (psO x) = W2 at *
    obtain ⟨⟨u0, r0⟩, f0⟩ := HPW2.z 0 (by decide)
    obtain ⟨⟨u1, r1⟩, f1⟩ := HPW2.z 1 (by decide)
    obtain ⟨⟨u2, r2⟩, f2⟩ := HPW2.z 2 (by decide)
    obtain ⟨⟨u3, r3⟩, f3⟩ := HPW2.z 3 (by decide)
    obtain ⟨⟨u4, r4⟩, f4⟩ := HPW2.z 4 (by decide)
    obtain ⟨⟨u5, r5⟩, f5⟩ := HPW2.z 5 (by decide)
    obtain ⟨⟨u6, r6⟩, f6⟩ := HPW2.z 6 (by decide)
    have HB2 : Hid (Below w.heap.size w W2) := HPW2.bel
    clear HPW2
    go_wp2_with fail
    refine bodyPost_ret (v := .tuple #[.agg #[.string { data := #[] }, .int .i64 0, .int .i64 0, .slice none 0 0, .slice none 0 0, .string { data := #[] }, .bool false], .int .i64 8]) (by simp [results, Tryz.results82, go_sem, r0, r1, r2, r3, r4, r5, r6]) rfl ⟨TalkR.none HM.out, below_set7 HB2.out (by omega) _ _ _ _ _ _ _⟩
  have HFx : Hid (Px.find s.slots n = some y) := hf
  have hxm : y ∈ s.slots := List.mem_of_find?_eq_some hf
  obtain ⟨hx1, hx2', hx3, hx4, hx5, hx6⟩ := HO.out.each hxm
  obtain ⟨_, _, he3, he4, he5, _⟩ := HO.out.ex y hxm
  obtain ⟨j, hj⟩ : ∃ j : Nat, y.line = (j : Int) + 1 := ⟨(y.line - 1).toNat, by omega⟩
  have hjt : j < tn s.tab := by omega
  have HJ : Hid (y.line = (j : Int) + 1) := hj
  have hjl : (y.line - 1).toNat = j := by omega
  have hLP := HO.out.st.tab.lines.2.2 j (by exact hjt)
  have hL5 : Hid ((stps (tl s.tab j)).length ≤ 5) := (stepsOf_len hLP).2
  have hsz : Hid (∀ z ∈ stps (tl s.tab j), 2 ≤ z.size ∧ z.size ≤ 9) := step_sz hLP
  have hst6 : Hid (y.step ≤ ((stps (tl s.tab j)).length : Int)) := by rw [hjl] at he4; exact he4
  have HTS : Hid (Px.stepsL s y = stps (tl s.tab j)) := by unfold Hid Px.stepsL; rw [hjl]; rfl
  have HSL : Hid (PAt w1 s (.slice ad s.slots.length cap) (.slice ad2 s.ends.length cap2)) := HS1
  have HP2 := HP1.later (below_alloc w1 (psO y))
  have HT2 := HT1.later (below_alloc w1 (psO y))
  have hx2 := PsIn.new w1 y
  have hf7 : (w1.alloc (psO y)).frozen? ⟨w1.heap.size, 7, none⟩ = false := by simp [go_sem]
  have hty : Typed (w1.alloc (psO y)) w1.heap.size 154 := Typed.new _ _ _
  have hq0 : w.heap.size + 1 < w1.heap.size := HP1.lt
  have hB2 := below_alloc w1 (psO y)
  clear HP1 HS1 HT1 hf hx6 hx4 hxm hj hx2' hjl hLP he4 hx1 hx3 hx5
  go_upto_region 2 with fail
  generalize w1.alloc (psO y) = W2 at *
  have HPP2 : Hid (TRes w W2 s (.slice ad s.slots.length cap) (.slice ad2 s.ends.length cap2)) := HP2
  have HTT2 : Hid (TabLH W2) := HT2
  have HX2 : Hid (PsIn W2 w1.heap.size y) := hx2
  have HB2 : Hid (Below w1.heap.size w1 W2) := hB2
  have HF7 : Hid (W2.frozen? ⟨w1.heap.size, 7, none⟩ = false) := hf7
  have HTy : Hid (Typed W2 w1.heap.size 154) := hty
  obtain ⟨x0, x1, x2, x3, x4, x5, x6, x7⟩ := hx2
  clear HP2 HT2 hB2 hf7 hty
  go_wp2_with fail
  refine (runs_any y W2).mono ?_
  rintro e w3 ⟨rfl, hb3⟩
  clear x0 x1 x2 x3 x4 x5 x6 x7
  have HPw3 := HPP2.out.later hb3
  have HTw3 : Hid (TabLH w3) := HTT2.out.later hb3
  have HXw3 : Hid (PsIn w3 w1.heap.size y) := HX2.out.later hb3
  have HBw3 : Hid (Below w1.heap.size w1 w3) := HB2.out.trans (hb3.mono HB2.out.size)
  have HF7w3 : Hid (w3.frozen? ⟨w1.heap.size, 7, none⟩ = false) := (hb3.frozen (p := ⟨w1.heap.size, 7, none⟩) HTy.out.lt).trans HF7.out
  have HTyw3 : Hid (Typed w3 w1.heap.size 154) := HTy.out.later hb3
  clear HPP2 HTT2 HX2 hb3 HB2 HF7 HTy
  cases hr : decide (0 < y.step)
  · have hs0 : Hid (y.step ≤ 0) := by have := of_decide_eq_false hr; unfold Hid; omega
    clear hr
    obtain ⟨⟨u0, r0⟩, f0⟩ := HPw3.z 0 (by decide)
    obtain ⟨⟨u1, r1⟩, f1⟩ := HPw3.z 1 (by decide)
    obtain ⟨⟨u2, r2⟩, f2⟩ := HPw3.z 2 (by decide)
    obtain ⟨⟨u3, r3⟩, f3⟩ := HPw3.z 3 (by decide)
    obtain ⟨⟨u4, r4⟩, f4⟩ := HPw3.z 4 (by decide)
    obtain ⟨⟨u5, r5⟩, f5⟩ := HPw3.z 5 (by decide)
    obtain ⟨⟨u6, r6⟩, f6⟩ := HPw3.z 6 (by decide)
    have HB2 : Hid (Below w.heap.size w w3) := HPw3.bel
    clear HPw3
    go_wp2_with fail
    refine bodyPost_ret (v := .tuple #[.agg #[.string { data := #[] }, .int .i64 0, .int .i64 0, .slice none 0 0, .slice none 0 0, .string { data := #[] }, .bool false], .int .i64 9]) (by simp [results, Tryz.results82, go_sem, r0, r1, r2, r3, r4, r5, r6]) rfl ⟨TalkR.wait y HFx.out hs0.out, below_set7 HB2.out (by omega) _ _ _ _ _ _ _⟩
  have hrs : Hid (0 < y.step) := by unfold Hid; exact of_decide_eq_true hr
  clear hr
  obtain ⟨i0, i1, i2, i3, i4⟩ := HPw3.st
  obtain ⟨x0, x1, x2, x3, x4, x5, x6, x7⟩ := HXw3.out
  have HPP3 : Hid (TRes w w3 s (.slice ad s.slots.length cap) (.slice ad2 s.ends.length cap2)) := HPw3
  clear HPw3
  go_wp2_with fail
  refine (pline_any s y.line j _ _ _ HJ.out hjt HO.out.st.tab HTw3.out (HSL.out.later HBw3.out)).mono ?_
  rintro e w4 ⟨⟨v, rfl, bb, cc, ads, caps, rfl, _, hsp⟩, hb4⟩
  clear i0 i1 i2 i3 i4 x0 x1 x2 x3 x4 x5 x6 x7
  have g13 : (w4.alloc (lnO (tl s.tab j) bb cc ads caps)).cell? ⟨w4.heap.size, 13, none⟩ = some (.slice ads (stps (tl s.tab j)).length caps) := by simp [go_sem]
  have hlq : w4.heap.size < (w4.alloc (lnO (tl s.tab j) bb cc ads caps)).heap.size := by simp
  have HP5 := (HPP3.out.later hb4).later (below_alloc w4 (lnO (tl s.tab j) bb cc ads caps))
  have HX5 := (HXw3.out.later hb4).later (below_alloc w4 (lnO (tl s.tab j) bb cc ads caps))
  have hbb : Below w3.heap.size w3 (w4.alloc (lnO (tl s.tab j) bb cc ads caps)) := hb4.alloc hb4.size _
  have HB5 := HBw3.out.trans (hbb.mono HBw3.out.size)
  have hF75 := (hbb.frozen (p := ⟨w1.heap.size, 7, none⟩) HTyw3.out.lt).trans HF7w3.out
  have hTy5 := HTyw3.out.later hbb
  have hxlt := HTyw3.out.lt
  have hle4 := hb4.size
  have HSP5 := TRow.later hsp (below_alloc w4 (lnO (tl s.tab j) bb cc ads caps))
  clear HPP3 HTw3 HXw3 hb4 hbb HBw3 HF7w3 HTyw3 hsp
  go_upto_region 7 with fail
  generalize w4.alloc (lnO (tl s.tab j) bb cc ads caps) = W5 at *
  generalize w4.heap.size = lq at *
  have hne : w1.heap.size ≠ lq := by omega
  have HX6 : PsIn (W5.setCell ⟨w1.heap.size, 7, none⟩ (.string (y.heard ++ x))) w1.heap.size (Px.heardS y x) := HX5.hear (y.heard ++ x)
  have HP6 := HP5.set hq0 7 (.string (y.heard ++ x))
  have HB6 := HB5.setCell (show w1.heap.size ≤ (⟨w1.heap.size, 7, none⟩ : Addr).block from Nat.le_refl _) (.string (y.heard ++ x))
  have g13' : (W5.setCell ⟨w1.heap.size, 7, none⟩ (.string (y.heard ++ x))).cell? ⟨lq, 13, none⟩ = some (.slice ads (stps (tl s.tab j)).length caps) := by
    rw [World.cell?_setCell_other _ _ _ _ (by simp)]; exact g13
  have HSP6 := TRow.set HSP5 hTy5 (by decide) 7 (.string (y.heard ++ x))
  have hlq6 : lq < (W5.setCell ⟨w1.heap.size, 7, none⟩ (.string (y.heard ++ x))).heap.size := by simpa [World.setCell] using hlq
  obtain ⟨x0, x1, x2, x3, x4, x5, x6, x7⟩ := HX5
  have hhz : y.heard.size ≤ 8 := he5
  have hcat : ¬ 9223372036854775807 < y.heard.size + x.size := by omega
  have HTT : Hid (Px.talkS s y x = Px.goF (stps (tl s.tab j)) s.clock ((stps (tl s.tab j)).length + 1) (Px.heardS y x)) := by unfold Hid Px.talkS; rw [HTS.out]
  have hp1 : Hid (1 ≤ (Px.heardS y x).step) := by have := hrs.out; show 1 ≤ y.step; omega
  have hp2 : Hid ((Px.heardS y x).step ≤ ((stps (tl s.tab j)).length : Int) + 1) := by have := hst6.out; show y.step ≤ _; omega
  have hp3 : Hid ((Px.heardS y x).heard.size ≤ 100000) := by show (y.heard ++ x).size ≤ 100000; rw [ByteArray.size_append]; omega
  clear HP5 HB5 HSP5 g13 hTy5
  go_upto_region 8 with fail
  clear x0 x1 x2 x3 x4 x5 x6 x7 hF75
  generalize W5.setCell ⟨w1.heap.size, 7, none⟩ (.string (y.heard ++ x)) = W6 at *
  generalize Px.heardS y x = y' at *
  have HPP6 : Hid (TRes w W6 s (.slice ad s.slots.length cap) (.slice ad2 s.ends.length cap2)) := HP6
  have HSP : Hid (StepsAt W6 (tl s.tab j) (.slice ads (stps (tl s.tab j)).length caps)) := HSP6
  have HB : Hid (Below w1.heap.size w1 W6) := HB6
  have HG13 : Hid (W6.cell? ⟨lq, 13, none⟩ = some (.slice ads (stps (tl s.tab j)).length caps)) := g13'
  obtain ⟨i0, i1, i2, i3, i4⟩ := HP6.st
  obtain ⟨x0, x1, x2, x3, x4, x5, x6, x7⟩ := HX6
  clear HP6 HSP6 HB6
  go_wp2_with fail
  refine (goOn_any y' (stps (tl s.tab j)) _ s.clock W6 hL5.out hsz.out hp1.out hp2.out hp3.out HSP.out.1).mono ?_
  rintro e w7 ⟨rfl, hb7⟩
  clear i0 i1 i2 i3 i4 x0 x1 x2 x3 x4 x5 x6 x7 g13'
  generalize Px.goF (stps (tl s.tab j)) s.clock ((stps (tl s.tab j)).length + 1) y' = p at *
  obtain ⟨X, said⟩ := p
  have HPx := (HPP6.out.later hb7).later (below_alloc w7 (psO X))
  have HSx := HSL.out.later (HB.out.trans ((hb7.alloc hb7.size (psO X)).mono HB.out.size))
  have HYx := PsIn.new w7 X
  have HGx := cell_later (below_alloc w7 (psO X)) (cell_later hb7 HG13.out)
  have hax : lq < w7.heap.size := Nat.lt_of_lt_of_le hlq6 hb7.size
  have haq : w7.heap.size < (w7.alloc (psO X)).heap.size := by simp
  simp only
  clear HPP6 HB HG13 hb7 HSP
  go_upto_region 9 with fail
  generalize w7.alloc (psO X) = W8 at *
  generalize w7.heap.size = aq at *
  have HP9 := HPx.later (below_alloc W8 (pstO s (.slice ad s.slots.length cap) (.slice ad2 s.ends.length cap2)))
  have HS9 := HSx.later (below_alloc W8 (pstO s (.slice ad s.slots.length cap) (.slice ad2 s.ends.length cap2)))
  have HY9 := HYx.later (below_alloc W8 (pstO s (.slice ad s.slots.length cap) (.slice ad2 s.ends.length cap2)))
  have HG9 := cell_later (below_alloc W8 (pstO s (.slice ad s.slots.length cap) (.slice ad2 s.ends.length cap2))) HGx
  have hA := PW.new W8 s (.slice ad s.slots.length cap) (.slice ad2 s.ends.length cap2)
  have hWq := HPx.lt
  obtain ⟨i0, i1, i2, i3, i4⟩ := HPx.st
  clear HSx HYx HGx
  go_upto_region 10 with fail
  clear i0 i1 i2 i3 i4 HPx
  generalize W8.alloc (pstO s (.slice ad s.slots.length cap) (.slice ad2 s.ends.length cap2)) = W9 at *
  generalize W8.heap.size = q at *
  have hqa : q ≠ aq := by omega
  have hql : q ≠ lq := by omega
  have HPP9 : Hid (TRes w W9 s (.slice ad s.slots.length cap) (.slice ad2 s.ends.length cap2)) := HP9
  have HSS9 : Hid (PAt W9 s (.slice ad s.slots.length cap) (.slice ad2 s.ends.length cap2)) := HS9
  have HAA9 : Hid (PW W9 q s (.slice ad s.slots.length cap) (.slice ad2 s.ends.length cap2)) := hA
  have HYY9 : Hid (PsIn W9 aq X) := HY9
  have HGG9 : Hid (W9.cell? ⟨lq, 13, none⟩ = some (.slice ads (stps (tl s.tab j)).length caps)) := HG9
  obtain ⟨i0, i1, i2, i3, i4⟩ := HP9.st
  obtain ⟨y0, y1, y2, y3, y4, y5, y6, y7⟩ := HY9
  clear HP9 HS9 hA HG9
  go_wp2_with fail
  refine (preplaced_any s.slots X _ _ hl HSS9.out.sl.1).mono ?_
  rintro e w10 ⟨⟨v10, rfl, hown10⟩, hb10⟩
  clear i0 i1 i2 i3 i4 y0 y1 y2 y3 y4 y5 y6 y7
  obtain ⟨ad9, cap9, hv9, _⟩ := (RowAt.of_own hown10).form
  subst hv9
  have hA10 := HAA9.out.later hb10
  have a3 := hA10.st.c3
  have f3' := hA10.f 3 (by decide)
  have hq10 := hA10.ty.lt
  have HP11 := (HPP9.out.later hb10).set hWq 3 (.slice ad9 (Px.repl s.slots X).length cap9)
  have HA11 := hA10.slots (Px.repl s.slots X) (.slice ad9 (Px.repl s.slots X).length cap9)
  have HE11 := ((HSS9.out.later hb10).set hA10.ty (by decide) (by decide) 3 (.slice ad9 (Px.repl s.slots X).length cap9)).en
  have HO11 := (TRow.of_own hown10).set hA10.ty (by decide) 3 (.slice ad9 (Px.repl s.slots X).length cap9)
  have HY11 := (HYY9.out.later hb10).set hqa 3 (.slice ad9 (Px.repl s.slots X).length cap9)
  have HG11 : (w10.setCell ⟨q, 3, none⟩ (.slice ad9 (Px.repl s.slots X).length cap9)).cell? ⟨lq, 13, none⟩ = some (.slice ads (stps (tl s.tab j)).length caps) := by
    rw [World.cell?_setCell_other _ _ _ _ (by simp)]; exact cell_later hb10 HGG9.out
  clear hA10 hown10 hb10 HPP9 HSS9 HAA9 HYY9 HGG9
  go_upto_region 11 with fail
  clear a3 f3'
  generalize w10.setCell ⟨q, 3, none⟩ (.slice ad9 (Px.repl s.slots X).length cap9) = W11 at *
  have HPA : Hid (PAt W11 { s with slots := Px.repl s.slots X } (.slice ad9 (Px.repl s.slots X).length cap9) (.slice ad2 s.ends.length cap2)) := ⟨HO11, HE11⟩
  have HTy11 : Hid (Typed W11 (w.heap.size + 1) 135) := HP11.ty
  have HB11 : Hid (Below w.heap.size w W11) := HP11.bel
  obtain ⟨⟨u0, r0⟩, f0⟩ := HP11.z 0 (by decide)
  obtain ⟨⟨u1, r1⟩, f1⟩ := HP11.z 1 (by decide)
  obtain ⟨⟨u2, r2⟩, f2⟩ := HP11.z 2 (by decide)
  obtain ⟨⟨u3, r3⟩, f3⟩ := HP11.z 3 (by decide)
  obtain ⟨⟨u4, r4⟩, f4⟩ := HP11.z 4 (by decide)
  obtain ⟨⟨u5, r5⟩, f5⟩ := HP11.z 5 (by decide)
  obtain ⟨⟨u6, r6⟩, f6⟩ := HP11.z 6 (by decide)
  obtain ⟨c0, c1, c2, c3, c4⟩ := HA11.st
  obtain ⟨y0, y1, y2, y3, y4, y5, y6, y7⟩ := HY11
  have hl5 := hL5.out
  clear HP11 HA11 HE11 HO11
  go_wp2_with fail
  refine bodyPost_ret (v := .tuple #[talkV { s with slots := Px.repl s.slots X } (.slice ad9 (Px.repl s.slots X).length cap9) (.slice ad2 s.ends.length cap2) said (decide (((stps (tl s.tab j)).length : Int) < X.step)), .int .i64 0]) (by simp [results, Tryz.results82, go_sem, r0, r1, r2, r3, r4, r5, r6]) rfl ⟨?_, below_set7 HB11.out (by omega) _ _ _ _ _ _ _⟩
  refine TalkR.ok y _ _ said _ _ HFx.out (by have := hrs.out; omega) ?_ ?_ ?_ (HPA.out.store7 HTy11.out _ _ _ _ _ _ _)
  · unfold Px.talkT; rw [HTT.out]
  · rw [HTT.out]
  · rw [HTT.out, HTS.out]
end Go.Proofs.YtdajolpoiffimaaGreatDoor

namespace Go.Proofs.YtdajolpoiffimaaGreatDoor
open Go.RowKit

/-- A field of a line holds a value: the call, at a world that holds the line. -/
theorem lineField_any (s : ByteArray) (bb cc : Nat → Nat) (t : Nat) (v : Int) (w : World) (x : Bool) (hx : x = Txt.hldB (lo t) (hi t) v (pt s t)) (hs : s.size ≤ 300) (ht : t < 5) (hP : LineP s) (hA : LineAt w s bb cc) (v1 : 0 ≤ v) (v2 : v ≤ 60) :
    Calls Tryz.prog 195 #[.agg #[.bool (Txt.opn (pt s t)), .slice (some ⟨bb t, 0, none⟩) (Txt.pcs 44 (pt s t)).length (cc t)], .int .i64 v] w fun e w' => e = .returned (.bool x) ∧ Below w.heap.size w w' :=
  hx ▸ fieldHolds_any (pt s t) (lo t) (hi t) v _ (bb t) (cc t) w (hP.sz hs t ht) (lohi t).1 (lohi t).2.2.2 v1 v2 (hP.fl t ht) (hA t ht).2 (hA t ht).1

set_option maxHeartbeats 2000000 in
theorem dueOnDay_any (s : ByteArray) (bb cc : Nat → Nat) (ads : Option Addr) (ns caps : Nat) (y m d h i k : Int) (w : World) (hs : s.size ≤ 300) (hP : LineP s) (hA : LineAt w s bb cc) (d1 : 0 ≤ d) (d2 : d ≤ 60) (k1 : 0 ≤ k) (k2 : k ≤ 60) :
    Calls Tryz.prog 196 #[lineV s bb cc (.slice ads ns caps), dateV y m d h i k] w fun e w' => e = .returned (.bool (dayB s d k)) ∧ Below w.heap.size w w' := by
  have HP : Hid (LineP s) := hP
  have HA : Hid (∀ o1 o2, LineAt ((w.alloc o1).alloc o2) s bb cc) := fun o1 o2 => (hA.later (below_alloc _ _)).later (below_alloc _ _)
  obtain ⟨x, hx⟩ : ∃ x : Bool, x = Txt.hldB (lo 2) (hi 2) d (pt s 2) := ⟨_, rfl⟩
  obtain ⟨z, hz⟩ : ∃ z : Bool, z = Txt.hldB (lo 4) (hi 4) k (pt s 4) := ⟨_, rfl⟩
  have HX : Hid (x = Txt.hldB (lo 2) (hi 2) d (pt s 2)) := hx
  have HZ : Hid (z = Txt.hldB (lo 4) (hi 4) k (pt s 4)) := hz
  have HD : Hid (dayB s d k = if (Txt.opn (pt s 2) || Txt.opn (pt s 4)) = true then (x && z) else (x || z)) := by unfold Hid; rw [dayB, hx, hz]
  clear hx hz
  clear hP hA
  go_enter Tryz.func196, Tryz.ntmps196
  go_wp2_with fail
  refine (lineField_any s bb cc 2 _ _ x HX.out hs (by decide) HP.out (HA.out _ _) d1 d2).mono ?_
  rintro e w1 ⟨rfl, hb1⟩
  have HA1 : Hid (LineAt w1 s bb cc) := (HA.out _ _).later hb1
  have B1 : Hid (Below w.heap.size w w1) := ((below_alloc w _).alloc (by simp) _).trans (hb1.mono (by simp; omega))
  obtain ⟨hc1, hf1⟩ := bcell hb1
  have hz1 : w.heap.size + 1 < w1.heap.size := by have := hb1.size; simp at this; omega
  have hz0 : w.heap.size < w1.heap.size := by omega
  clear hb1 HA
  go_wp2_with fail
  refine (lineField_any s bb cc 4 _ _ z HZ.out hs (by decide) HP.out HA1.out k1 k2).mono ?_
  rintro e w2 ⟨rfl, hb2⟩
  have B2 : Hid (Below w.heap.size w w2) := B1.out.trans (hb2.mono (by omega))
  obtain ⟨hc2, hf2⟩ := bcell hb2
  clear hb2
  clear HX HZ
  have leaf : ∀ r : Bool, r = dayB s d k → Hid (r = dayB s d k) := fun _ h => h
  cases ho2 : Txt.opn (pt s 2)
  · cases ho4 : Txt.opn (pt s 4)
    · have D : Hid ((x || z) = dayB s d k) := by unfold Hid; rw [HD.out, ho2, ho4]; rfl
      clear HD leaf
      cases x
      · go_wp2_with fail
        go_ret
        exact ⟨ret_bool' D.out, B2.out⟩
      · go_wp2_with fail
        go_ret
        exact ⟨ret_bool' D.out, B2.out⟩
    · have D : Hid ((x && z) = dayB s d k) := by unfold Hid; rw [HD.out, ho2, ho4]; rfl
      clear HD leaf
      cases x
      · go_wp2_with fail
        go_ret
        exact ⟨ret_bool' D.out, B2.out⟩
      · go_wp2_with fail
        go_ret
        exact ⟨ret_bool' D.out, B2.out⟩
  · have D : Hid ((x && z) = dayB s d k) := by unfold Hid; rw [HD.out, ho2]; rfl
    clear HD leaf
    cases x
    · go_wp2_with fail
      go_ret
      exact ⟨ret_bool' D.out, B2.out⟩
    · go_wp2_with fail
      go_ret
      exact ⟨ret_bool' D.out, B2.out⟩

set_option maxHeartbeats 2000000 in
theorem due_any (s : ByteArray) (bb cc : Nat → Nat) (ads : Option Addr) (ns caps : Nat) (y m d h i k : Int) (w : World) (hs : s.size ≤ 300) (hP : LineP s) (hA : LineAt w s bb cc) (m1 : 0 ≤ m) (m2 : m ≤ 60) (d1 : 0 ≤ d) (d2 : d ≤ 60) (h1 : 0 ≤ h) (h2 : h ≤ 60) (i1 : 0 ≤ i) (i2 : i ≤ 60) (k1 : 0 ≤ k) (k2 : k ≤ 60) :
    Calls Tryz.prog 157 #[lineV s bb cc (.slice ads ns caps), dateV y m d h i k] w fun e w' => e = .returned (.bool (dueB s m d h i k)) ∧ Below w.heap.size w w' := by
  have HP : Hid (LineP s) := hP
  have HA : Hid (∀ o1 o2, LineAt ((w.alloc o1).alloc o2) s bb cc) := fun o1 o2 => (hA.later (below_alloc _ _)).later (below_alloc _ _)
  obtain ⟨x, hx⟩ : ∃ x : Bool, x = Txt.hldB (lo 0) (hi 0) i (pt s 0) := ⟨_, rfl⟩
  obtain ⟨y', hy⟩ : ∃ x : Bool, x = Txt.hldB (lo 1) (hi 1) h (pt s 1) := ⟨_, rfl⟩
  obtain ⟨z, hz⟩ : ∃ z : Bool, z = Txt.hldB (lo 3) (hi 3) m (pt s 3) := ⟨_, rfl⟩
  have HX : Hid (x = Txt.hldB (lo 0) (hi 0) i (pt s 0)) := hx
  have HY : Hid (y' = Txt.hldB (lo 1) (hi 1) h (pt s 1)) := hy
  have HZ : Hid (z = Txt.hldB (lo 3) (hi 3) m (pt s 3)) := hz
  have HD : Hid (dueB s m d h i k = (x && (y' && (z && dayB s d k)))) := by unfold Hid; rw [dueB, hx, hy, hz]
  clear hP hA hx hy hz
  go_enter Tryz.func157, Tryz.ntmps157
  go_wp2_with fail
  refine (lineField_any s bb cc 0 _ _ x HX.out hs (by decide) HP.out (HA.out _ _) i1 i2).mono ?_
  rintro e w1 ⟨rfl, hb1⟩
  have HA1 : Hid (LineAt w1 s bb cc) := (HA.out _ _).later hb1
  have B1 : Hid (Below w.heap.size w w1) := ((below_alloc w _).alloc (by simp) _).trans (hb1.mono (by simp; omega))
  obtain ⟨hc1, hf1⟩ := bcell hb1
  have hz1 : w.heap.size + 1 < w1.heap.size := by have := hb1.size; simp at this; omega
  have hz0 : w.heap.size < w1.heap.size := by omega
  clear hb1 HA HX
  cases x
  · have D : Hid (false = dueB s m d h i k) := by unfold Hid; rw [HD.out]; rfl
    clear HD
    go_wp2_with fail
    go_ret
    exact ⟨ret_bool' D.out, B1.out⟩
  go_wp2_with fail
  refine (lineField_any s bb cc 1 _ _ y' HY.out hs (by decide) HP.out HA1.out h1 h2).mono ?_
  rintro e w2 ⟨rfl, hb2⟩
  have HA2 : Hid (LineAt w2 s bb cc) := HA1.out.later hb2
  have B2 : Hid (Below w.heap.size w w2) := B1.out.trans (hb2.mono (by omega))
  obtain ⟨hc2, hf2⟩ := bcell hb2
  have hz2 : w.heap.size + 1 < w2.heap.size := by have := hb2.size; omega
  have hz20 : w.heap.size < w2.heap.size := by omega
  clear hb2 HA1 HY
  cases y'
  · have D : Hid (false = dueB s m d h i k) := by unfold Hid; rw [HD.out]; rfl
    clear HD
    go_wp2_with fail
    go_ret
    exact ⟨ret_bool' D.out, B2.out⟩
  go_wp2_with fail
  refine (lineField_any s bb cc 3 _ _ z HZ.out hs (by decide) HP.out HA2.out m1 m2).mono ?_
  rintro e w3 ⟨rfl, hb3⟩
  have HA3 : Hid (LineAt w3 s bb cc) := HA2.out.later hb3
  have B3 : Hid (Below w.heap.size w w3) := B2.out.trans (hb3.mono (by omega))
  obtain ⟨hc3, hf3⟩ := bcell hb3
  have hz3 : w.heap.size + 1 < w3.heap.size := by have := hb3.size; omega
  clear hb3 HA2 HZ
  cases z
  · have D : Hid (false = dueB s m d h i k) := by unfold Hid; rw [HD.out]; rfl
    clear HD
    go_wp2_with fail
    go_ret
    exact ⟨ret_bool' D.out, B3.out⟩
  have D : Hid (dayB s d k = dueB s m d h i k) := by unfold Hid; rw [HD.out]; rfl
  clear HD
  go_wp2_with fail
  refine (dueOnDay_any s bb cc ads ns caps y m d h i k _ hs HP.out HA3.out d1 d2 k1 k2).mono ?_
  rintro e w4 ⟨rfl, hb4⟩
  have B4 : Hid (Below w.heap.size w w4) := B3.out.trans (hb4.mono (by omega))
  clear hb4
  go_wp2_with fail
  go_ret
  exact ⟨ret_bool' D.out, B4.out⟩
end Go.Proofs.YtdajolpoiffimaaGreatDoor

namespace Go.Proofs.YtdajolpoiffimaaGreatDoor
open Go.RowKit

attribute [local go_sem ↓] Go.wp_at_zero Go.wp_at_succ

set_option maxHeartbeats 1000000 in
theorem ccheck_any (s : ByteArray) (w : World) (hs : s.size ≤ maxLen) (hT : TabLH w) :
    Calls Tryz.prog 67 #[.string s] w fun e w' => (∃ a r : Int, e = .returned (.tuple #[.int .i64 a, .int .i64 r]) ∧ ChkR s a r) ∧ Below w.heap.size w w' := by
  have HT : Hid (TabLH w) := hT
  have HS : Hid (s.size ≤ maxLen) := hs
  clear hT hs
  go_enter Tryz.func67, Tryz.ntmps67
  go_wp2_with fail
  refine (read_any _ _ HS.out HT.out).mono ?_
  rintro e w1 ⟨⟨a, r, ad, n, c, rfl, hC, hL⟩, hb⟩
  have K : Hid (ChkR s a r) := hC
  clear hL hC
  go_wp2_with fail
  go_quiet (fail)
  go_wp2_with fail
  go_ret2
  exact ⟨⟨a, r, rfl, K.out⟩, below_drewN (hb.alloc hb.size _) _⟩
end Go.Proofs.YtdajolpoiffimaaGreatDoor

namespace Go.Proofs.YtdajolpoiffimaaGreatDoor
open Go.RowKit

set_option maxHeartbeats 1000000 in
theorem pahead_any (s : Px.St) (m : Int) (sl en : Value) (w : World) (c1 : -1 ≤ s.clock) (c2 : s.clock ≤ 4223371679) (m1 : 0 ≤ m) (m2 : m ≤ 4223371679) (hS : PAt w s sl en) :
    Calls Tryz.prog 115 #[pstV s sl en, .int .i64 m] w fun e w' => e = .returned (.bool (Px.aheadP s m)) ∧ Below w.heap.size w w' := by
  obtain ⟨ad, cap, rfl, hcap⟩ := hS.sl.form
  obtain ⟨ad2, cap2, rfl, hcap2⟩ := hS.en.form
  clear hS
  by_cases h1 : m ≤ s.clock
  · have HM : Hid (Px.aheadP s m = false) := decide_eq_false (by omega)
    go_enter Tryz.func115, Tryz.ntmps115
    go_wp2_with fail
    go_ret
    exact ⟨ret_bool' HM.out.symm, below_alloc _ _⟩
  by_cases h2 : s.clock = -1
  · have HM : Hid (Px.aheadP s m = true) := decide_eq_true (by omega)
    have h2' : (s.clock == -1) = true := by simpa using h2
    clear h2
    go_enter Tryz.func115, Tryz.ntmps115
    go_wp2_with fail
    go_ret
    exact ⟨ret_bool' HM.out.symm, below_alloc _ _⟩
  have h2' : (s.clock == -1) = false := by simpa using h2
  by_cases h3 : m - s.clock ≤ 1500
  · have HM : Hid (Px.aheadP s m = true) := decide_eq_true (by omega)
    clear h2
    go_enter Tryz.func115, Tryz.ntmps115
    go_wp2_with fail
    go_ret
    exact ⟨ret_bool' HM.out.symm, below_alloc _ _⟩
  · have HM : Hid (Px.aheadP s m = false) := decide_eq_false (by omega)
    clear h2
    go_enter Tryz.func115, Tryz.ntmps115
    go_wp2_with fail
    go_ret
    exact ⟨ret_bool' HM.out.symm, below_alloc _ _⟩
set_option maxHeartbeats 1000000 in
theorem firstNew_any (s : Px.St) (m : Int) (sl en : Value) (w : World) (c1 : -1 ≤ s.clock) (c2 : s.clock ≤ 4223371679) (hS : PAt w s sl en) :
    Calls Tryz.prog 117 #[pstV s sl en, .int .i64 m] w fun e w' => e = .returned (.int .i64 (Px.newA s m)) ∧ Below w.heap.size w w' := by
  obtain ⟨ad, cap, rfl, hcap⟩ := hS.sl.form
  obtain ⟨ad2, cap2, rfl, hcap2⟩ := hS.en.form
  clear hS
  by_cases h2 : s.clock = -1
  · have HM : Hid (Px.newA s m = m) := if_pos h2
    have h2' : (s.clock == -1) = true := by simpa using h2
    clear h2
    go_enter Tryz.func117, Tryz.ntmps117
    go_wp2_with fail
    go_ret
    exact ⟨ret_int' HM.out.symm, below_alloc _ _⟩
  · have HM : Hid (Px.newA s m = s.clock + 1) := if_neg h2
    have h2' : (s.clock == -1) = false := by simpa using h2
    clear h2
    go_enter Tryz.func117, Tryz.ntmps117
    go_wp2_with fail
    go_ret
    exact ⟨ret_int' HM.out.symm, below_alloc _ _⟩
set_option maxHeartbeats 1000000 in
theorem pcounts_any (l : ByteArray) (bb cc : Nat → Nat) (ads : Option Addr) (ns caps : Nat) (now later : Bool) (w : World) :
    Calls Tryz.prog 158 #[lineV l bb cc (.slice ads ns caps), .bool now, .bool later] w fun e w' => e = .returned (.bool (Px.cntB (obt (pt l 5) 1) now later)) ∧ Below w.heap.size w w' := by
  have HM : Hid (∀ c, Px.cntB c now later = if c = 108 then !later else if c = 110 then now else true) := fun _ => rfl
  cases h1 : (obt (pt l 5) 1 == 108)
  · have n1 : ¬ obt (pt l 5) 1 = 108 := by simpa using h1
    cases h2 : (obt (pt l 5) 1 == 110)
    · have n2 : ¬ obt (pt l 5) 1 = 110 := by simpa using h2
      have HV : Hid (Px.cntB (obt (pt l 5) 1) now later = true) := by unfold Hid; rw [HM.out, if_neg n1, if_neg n2]
      clear n1 n2 HM
      go_enter Tryz.func158, Tryz.ntmps158
      go_wp2_with fail
      go_ret
      exact ⟨ret_bool' HV.out.symm, below_alloc _ _⟩
    · have n2 : obt (pt l 5) 1 = 110 := by simpa using h2
      have HV : Hid (Px.cntB (obt (pt l 5) 1) now later = now) := by unfold Hid; rw [HM.out, if_neg n1, if_pos n2]
      clear n1 n2 HM
      go_enter Tryz.func158, Tryz.ntmps158
      go_wp2_with fail
      go_ret
      exact ⟨ret_bool' HV.out.symm, below_alloc _ _⟩
  · have n1 : obt (pt l 5) 1 = 108 := by simpa using h1
    have HV : Hid (Px.cntB (obt (pt l 5) 1) now later = !later) := by unfold Hid; rw [HM.out, if_pos n1]
    clear n1 HM
    go_enter Tryz.func158, Tryz.ntmps158
    go_wp2_with fail
    go_ret
    exact ⟨ret_bool' HV.out.symm, below_alloc _ _⟩

/-- An arrival's cells. -/
def arC (p : Nat × Int) : List Value := [.int .i64 ((p.1 : Int) + 1), .int .i64 p.2]
theorem arC_len (p : Nat × Int) : (arC p).length = 2 := rfl
theorem arC_one (p : Nat × Int) : ∀ u ∈ arC p, u.oneCell' = true := by intro u hu; simp [arC] at hu; rcases hu with rfl | rfl <;> rfl
theorem info_ar : (Tryz.prog.info? 182).map (fun i => (i.zero, i.size, i.bytes)) = some (some (.agg #[.int .i64 0, .int .i64 0]), 2, 16) := by kernel_rfl
/-- Which lines have been met, in a block of its own. -/
def MetAt (w : World) (M : Nat) (f : Nat → Bool) : Prop := w.heap[M]? = some (.cells #[.bool (f 0), .bool (f 1), .bool (f 2), .bool (f 3)] 225 (0, 0))
theorem MetAt.lt {w : World} {M : Nat} {f : Nat → Bool} (h : MetAt w M f) : M < w.heap.size := heap_lt h
theorem MetAt.cell {w : World} {M : Nat} {f : Nat → Bool} (h : MetAt w M f) (i : Nat) (hi : i < 4) : w.cell? ⟨M, i, none⟩ = some (.bool (f i)) ∧ w.frozen? ⟨M, i, none⟩ = false := by
  constructor
  · rw [cell_of_row _ _ i _ _ (0, 0) h]
    match i, hi with
    | 0, _ => rfl
    | 1, _ => rfl
    | 2, _ => rfl
    | 3, _ => rfl
  · unfold World.frozen?; rw [h]; simp
theorem MetAt.later {w w' : World} {M : Nat} {f : Nat → Bool} (h : MetAt w M f) (hb : Below w.heap.size w w') : MetAt w' M f := (hb.block M h.lt).trans h
theorem MetAt.grown {w w' : World} {M base size n : Nat} {f : Nat → Bool} {v : Value} {xs : List Value} (h : MetAt w M f) (ho : w.ownsRow base 182 size v n xs) (hg : w.grownBy w' v.ownBlock) : MetAt w' M f := by
  refine (hg.block M h.lt ?_).trans h
  intro e
  rcases ho.2 with ⟨rfl, _⟩ | ⟨g, cap, cur, rfl, _, hg', _⟩
  · cases e
  · have : M = g := by simpa [Value.ownBlock] using e
    subst this
    rw [h] at hg'; cases hg'
theorem MetAt.set {w : World} {M : Nat} {f : Nat → Bool} (h : MetAt w M f) (i : Nat) (hi : i < 4) (b : Bool) : MetAt (w.setCell ⟨M, i, none⟩ (.bool b)) M (fun j => if j = i then b else f j) := by
  unfold MetAt at h ⊢
  have : (w.setCell ⟨M, i, none⟩ (.bool b)).heap[M]? = some (.cells (#[.bool (f 0), .bool (f 1), .bool (f 2), .bool (f 3)].setIfInBounds i (.bool b)) 225 (0, 0)) := by
    simp [World.setCell, Array.getElem?_modify, h]
  rw [this]
  match i, hi with
  | 0, _ => rfl
  | 1, _ => rfl
  | 2, _ => rfl
  | 3, _ => rfl
theorem MetAt.new (w : World) : MetAt (w.alloc (.cells #[.bool false, .bool false, .bool false, .bool false] 225)) w.heap.size (fun _ => false) := by
  unfold MetAt; show (w.heap.push _)[w.heap.size]? = _; simp
end Go.Proofs.YtdajolpoiffimaaGreatDoor

namespace Go.Proofs.YtdajolpoiffimaaGreatDoor
open Go.RowKit

/-- A block that holds just these cells. -/
def BlkAt (w : World) (q : Nat) (cs : Array Value) (e : TypeId) : Prop := w.heap[q]? = some (.cells cs e (0, 0))
theorem BlkAt.lt {w : World} {q : Nat} {cs : Array Value} {e : TypeId} (h : BlkAt w q cs e) : q < w.heap.size := heap_lt h
theorem BlkAt.new (w : World) (cs : Array Value) (e : TypeId) : BlkAt (w.alloc (.cells cs e)) w.heap.size cs e := by unfold BlkAt; show (w.heap.push _)[w.heap.size]? = _; simp
theorem BlkAt.later {w w' : World} {q : Nat} {cs : Array Value} {e : TypeId} (h : BlkAt w q cs e) (hb : Below w.heap.size w w') : BlkAt w' q cs e := (hb.block q h.lt).trans h
theorem BlkAt.cell {w : World} {q : Nat} {cs : Array Value} {e : TypeId} (h : BlkAt w q cs e) (i : Nat) (hi : i < cs.size) : w.cell? ⟨q, i, none⟩ = some cs[i] := by
  rw [cell_of_row _ _ i _ _ (0, 0) h]; simp [hi]
theorem BlkAt.grown {w w' : World} {q base size n : Nat} {cs : Array Value} {e e' : TypeId} {v : Value} {xs : List Value} (h : BlkAt w q cs e) (ho : w.ownsRow base e' size v n xs) (hg : w.grownBy w' v.ownBlock) (hne : e ≠ e') : BlkAt w' q cs e := by
  refine (hg.block q h.lt ?_).trans h
  intro eq
  rcases ho.2 with ⟨rfl, _⟩ | ⟨g, cap, cur, rfl, _, hg', _⟩
  · cases eq
  · have : q = g := by simpa [Value.ownBlock] using eq
    subst this
    rw [h] at hg'; cases hg'; exact hne rfl
theorem BlkAt.other {w : World} {q M : Nat} {cs : Array Value} {e : TypeId} (h : BlkAt w q cs e) (hne : q ≠ M) (j : Nat) (u : Value) : BlkAt (w.setCell ⟨M, j, none⟩ u) q cs e := (Below.heap_setCell _ _ _ _ hne).trans h
/-- A cell of a block that is not the row's is written. -/
theorem own_other {w : World} {M base size n : Nat} {e : TypeId} {f : Nat → Bool} {v : Value} {xs : List Value} (ho : w.ownsRow base e size v n xs) (h : MetAt w M f) (hne : e ≠ 225) (j : Nat) (u : Value) : (w.setCell ⟨M, j, none⟩ u).ownsRow base e size v n xs := by
  refine ⟨ho.1, ?_⟩
  rcases ho.2 with h2 | ⟨g, cap, cur, hv, hbase, hg, h3⟩
  · exact Or.inl h2
  · refine Or.inr ⟨g, cap, cur, hv, hbase, ?_, h3⟩
    have hgm : g ≠ M := by
      intro eq; subst eq
      unfold MetAt at h; rw [hg] at h; cases h; exact hne rfl
    exact (Below.heap_setCell _ _ _ _ hgm).trans hg
/-- What holds while the minutes are gone through. -/
structure LfIn (w wr : World) (v : Value) (out : List (Nat × Int)) (f : Nat → Bool) : Prop where
  own : wr.ownsRow w.heap.size 182 2 v out.length (out.reverse.flatMap arC)
  met : MetAt wr (w.heap.size + 1) f
  bel : Below w.heap.size w wr
theorem LfIn.later {w wr w' : World} {v : Value} {out : List (Nat × Int)} {f : Nat → Bool} (h : LfIn w wr v out f) (hb : Below wr.heap.size wr w') : LfIn w w' v out f :=
  ⟨own_below h.own hb, h.met.later hb, h.bel.trans (hb.mono h.bel.size)⟩
theorem LfIn.start (w : World) : LfIn w ((w.alloc (.cells #[] 182)).alloc (.cells #[.bool false, .bool false, .bool false, .bool false] 225)) (.slice (some ⟨w.heap.size, 0, none⟩) 0 0) [] (fun _ => false) := by
  have h := MetAt.new (w.alloc (.cells #[] 182))
  exact ⟨(own_empty w 182 2).alloc _, by simpa using h, (below_alloc w _).alloc (by simp) _⟩
theorem LfIn.met' {w wr : World} {v : Value} {out : List (Nat × Int)} {f : Nat → Bool} (h : LfIn w wr v out f) (i : Nat) (hi : i < 4) : LfIn w (wr.setCell ⟨w.heap.size + 1, i, none⟩ (.bool true)) v out (fun j => if j = i then true else f j) :=
  ⟨own_other h.own h.met (by decide) _ _, h.met.set i hi true, h.bel.setCell (by simp) _⟩
theorem LfIn.app {w wr w' : World} {v v' : Value} {out : List (Nat × Int)} {p : Nat × Int} {f : Nat → Bool} (h : LfIn w wr v out f) (hg : wr.grownBy w' v.ownBlock) (ho : w'.ownsRow w.heap.size 182 2 v' (out.length + 1) (out.reverse.flatMap arC ++ arC p)) : LfIn w w' v' (p :: out) f :=
  ⟨by simpa [List.flatMap_append] using ho, h.met.grown h.own hg, h.bel.grown hg h.bel.size (fun k e => (h.own.lt k e).1)⟩
theorem arC_new (w : World) (i : Nat) (t : Int) (e : TypeId) : ∀ j u, (arC (i, t))[j]? = some u → (w.alloc (.cells #[.int .i64 ((i : Int) + 1), .int .i64 t] e)).cell? ((⟨w.heap.size, 0, none⟩ : Addr).add j) = some u := by
  intro j u hj
  match j, hj with
  | 0, hj => simp [arC] at hj; subst hj; simp [Addr.add, go_sem]
  | 1, hj => simp [arC] at hj; subst hj; simp [Addr.add, go_sem]
theorem lns_len (tab : ByteArray) : (Bx.lns tab).length = tn tab := by unfold Bx.lns; rw [List.length_map, Bx.linesOf_len]
theorem lns_at (tab : ByteArray) (k : Nat) (h : k < (Bx.lns tab).length) : (Bx.lns tab)[k] = lnOf (tl tab k) := by
  have h' : k < (Bx.linesOf tab).length := by rw [lns_len] at h; rw [Bx.linesOf_len]; exact h
  show ((Bx.linesOf tab).map lnOf)[k]'(by simpa using h') = _
  rw [List.getElem_map, Bx.linesOf_at tab k h']

theorem due_x (s : ByteArray) (bb cc : Nat → Nat) (ads : Option Addr) (ns caps : Nat) (y m d h i k : Int) (w : World) (x : Bool) (hx : x = dueB s m d h i k) (hs : s.size ≤ 300) (hP : LineP s) (hA : LineAt w s bb cc) (m1 : 0 ≤ m) (m2 : m ≤ 60) (d1 : 0 ≤ d) (d2 : d ≤ 60) (h1 : 0 ≤ h) (h2 : h ≤ 60) (i1 : 0 ≤ i) (i2 : i ≤ 60) (k1 : 0 ≤ k) (k2 : k ≤ 60) :
    Calls Tryz.prog 157 #[lineV s bb cc (.slice ads ns caps), dateV y m d h i k] w fun e w' => e = .returned (.bool x) ∧ Below w.heap.size w w' :=
  hx ▸ due_any s bb cc ads ns caps y m d h i k w hs hP hA m1 m2 d1 d2 h1 h2 i1 i2 k1 k2
theorem counts_x (l : ByteArray) (bb cc : Nat → Nat) (ads : Option Addr) (ns caps : Nat) (now later : Bool) (w : World) (z : Bool) (hz : z = Px.cntB (obt (pt l 5) 1) now later) :
    Calls Tryz.prog 158 #[lineV l bb cc (.slice ads ns caps), .bool now, .bool later] w fun e w' => e = .returned (.bool z) ∧ Below w.heap.size w w' := hz ▸ pcounts_any l bb cc ads ns caps now later w
set_option maxRecDepth 10000 in
set_option maxHeartbeats 8000000 in
theorem latestFirst_any (tab : ByteArray) (g c : Nat) (a m : Int) (w : World) (hC : ChkR tab 0 0) (a0 : 0 ≤ a) (ha : a ≤ m) (hm : m ≤ 4223371679) (hj : m - a ≤ 1500) (hM : Tab w) (hL : PLinesAt w g tab) :
    Calls Tryz.prog 118 #[.slice (some ⟨g, 0, none⟩) (tn tab) c, .int .i64 a, .int .i64 m] w fun e w' => (∃ v, e = .returned v ∧ w'.ownsRow w.heap.size 182 2 v (Bx.comes (Bx.lns tab) a m).length ((Bx.comes (Bx.lns tab) a m).reverse.flatMap arC)) ∧ Below w.heap.size w w' := by
  obtain ⟨i0, hinf, hz0, hz1, hz2⟩ := info_parts info_ar
  have HM : Hid (Tab w) := hM
  have HL : Hid (PLinesAt w g tab) := hL
  have h4 := tn_le hC
  obtain ⟨hs3, _, hP⟩ := hC.lines
  have HP : Hid (∀ j : Nat, j < tn tab → LineP (tl tab j)) := hP
  have hlen := lns_len tab
  have HLen : Hid ((Bx.lns tab).length = tn tab) := hlen
  have H0 : Hid (LfIn w _ _ [] (fun _ => false)) := LfIn.start w
  clear hM hL hC hP hlen
  go_enter Tryz.func118, Tryz.ntmps118
  go_wp2_with fail
  go_loopw [7, 9] (fun v x wr => ∃ (t : Int) (out : List (Nat × Int)) (f : Nat → Bool), a - 1 ≤ t ∧ t ≤ m ∧ x = .int .i64 t ∧ Px.From (Bx.lns tab) m t (tn tab) out ∧ (out.length : Int) ≤ (m - t) * 4 ∧ (∀ i (h : i < (Bx.lns tab).length), f i = Px.metB (Bx.lns tab)[i] m t) ∧ LfIn w wr v out f) (fun _ x _ => (intOf x + 1 - a).toNat)
  case atStart => exact ⟨m, [], _, by omega, Int.le_refl _, rfl, by rw [← HLen.out]; exact Px.From.start _ _, by simp, fun i h => (Px.met_start _ _).symm, H0.out⟩
  case round =>
    clear H0
    obtain ⟨t, out, f, t1, t2, rfl, hFr, hol, hmet, HI⟩ := hrel
    have HFr : Hid (Px.From (Bx.lns tab) m t (tn tab) out) := hFr
    have HMet : Hid (∀ i (h : i < (Bx.lns tab).length), f i = Px.metB (Bx.lns tab)[i] m t) := hmet
    clear hFr hmet
    by_cases hat : a ≤ t
    · have hTw : Hid (Tab wr) := HM.out.later HI.bel
      go_wp2_with fail
      refine (cdate_yes _ _ hTw.out (by omega) (by omega)).mono ?_
      rintro e w2 ⟨⟨y, mo, d, HD, rfl⟩, hb2⟩
      have hdue : Hid (∀ s, dueB s mo d (t % 1440 / 60) (t % 60) ((t / 1440 + 4) % 7) = dueT s t) := fun s => dueT_of HD
      have bm : 0 ≤ mo ∧ mo ≤ 60 := by have := HD.m1; have := HD.m2; omega
      have bd : 0 ≤ d ∧ d ≤ 60 := by have := HD.d1; have := HD.d2; have := Cal.dim_lo y mo; omega
      have HI3 := (HI.later hb2).later (below_alloc w2 (.cells #[.int .i64 y, .int .i64 mo, .int .i64 d, .int .i64 (t % 1440 / 60), .int .i64 (t % 60), .int .i64 ((t / 1440 + 4) % 7)] 227))
      have hBk := BlkAt.new w2 #[.int .i64 y, .int .i64 mo, .int .i64 d, .int .i64 (t % 1440 / 60), .int .i64 (t % 60), .int .i64 ((t / 1440 + 4) % 7)] 227
      have hMq : w.heap.size + 1 < w2.heap.size := Nat.lt_of_lt_of_le HI.met.lt hb2.size
      clear HI hb2 HD hTw
      go_upto_region 7 with fail
      generalize w2.alloc (.cells #[.int .i64 y, .int .i64 mo, .int .i64 d, .int .i64 (t % 1440 / 60), .int .i64 (t % 60), .int .i64 ((t / 1440 + 4) % 7)] 227) = W3 at *
      generalize w2.heap.size = dq at *
      have HI3' : Hid (LfIn w W3 _ out f) := HI3
      have HBk : Hid (BlkAt W3 dq #[.int .i64 y, .int .i64 mo, .int .i64 d, .int .i64 (t % 1440 / 60), .int .i64 (t % 60), .int .i64 ((t / 1440 + 4) % 7)] 227) := hBk
      clear HI3 hBk
      go_wp2_with fail
      go_loopw [7, 12] (fun v x wr2 => ∃ (i : Int) (out2 : List (Nat × Int)) (f2 : Nat → Bool), -1 ≤ i ∧ i < (tn tab : Int) ∧ x = .int .i64 i ∧ Px.From (Bx.lns tab) m t (i + 1).toNat out2 ∧ (out2.length : Int) ≤ (m - t) * 4 + ((tn tab : Int) - 1 - i) ∧ (∀ k (h : k < (Bx.lns tab).length), f2 k = if i < (k : Int) then Px.metB (Bx.lns tab)[k] m (t - 1) else Px.metB (Bx.lns tab)[k] m t) ∧ LfIn w wr2 v out2 f2 ∧ BlkAt wr2 dq #[.int .i64 y, .int .i64 mo, .int .i64 d, .int .i64 (t % 1440 / 60), .int .i64 (t % 60), .int .i64 ((t / 1440 + 4) % 7)] 227) (fun _ x _ => (intOf x + 1).toNat)
      case atStart =>
        refine ⟨(tn tab : Int) - 1, out, f, by omega, by omega, by go_num, ?_, by omega, fun k h => ?_, HI3'.out, HBk.out⟩
        · have : ((tn tab : Int) - 1 + 1).toNat = tn tab := by omega
          rw [this]; exact HFr.out
        · have := HLen.out
          rw [if_neg (by omega)]; exact HMet.out k h
      case round =>
        clear HFr HMet HI3' HBk
        obtain ⟨i, out2, f2, i1, i2, rfl, hFr2, hol2, hmet2, HI2, hBk2⟩ := hrel
        have HFr2 : Hid (Px.From (Bx.lns tab) m t (i + 1).toNat out2) := hFr2
        have HMet2 : Hid (∀ k (h : k < (Bx.lns tab).length), f2 k = if i < (k : Int) then Px.metB (Bx.lns tab)[k] m (t - 1) else Px.metB (Bx.lns tab)[k] m t) := hmet2
        have HBk2 : Hid (BlkAt wr dq #[.int .i64 y, .int .i64 mo, .int .i64 d, .int .i64 (t % 1440 / 60), .int .i64 (t % 60), .int .i64 ((t / 1440 + 4) % 7)] 227) := hBk2
        clear hFr2 hmet2 hBk2
        by_cases hi0 : 0 ≤ i
        · obtain ⟨k, rfl⟩ : ∃ k : Nat, i = (k : Int) := ⟨i.toNat, by omega⟩
          have hk : k < tn tab := by omega
          have hk4 : k < 4 := by omega
          have hkl : Hid (k < (Bx.lns tab).length) := by have := HLen.out; unfold Hid; omega
          obtain ⟨bb, cc, sv, hcl, hla, hsp⟩ := HL.out k hk
          obtain ⟨ads, caps, hvs⟩ : ∃ ad cap, sv = .slice ad (stps (tl tab k)).length cap := by
            obtain ⟨ad, cap, e, _⟩ := TRow.form hsp; exact ⟨ad, cap, e⟩
          subst hvs
          have L0 : wr.cell? ⟨g, k * 14, none⟩ = some (.bool (Txt.opn (pt (tl tab k) 0))) := cell_later HI2.bel ((hcl 0 (by decide)).trans rfl)
          have L1 : wr.cell? ⟨g, k * 14 + 1, none⟩ = some (.slice (some ⟨bb 0, 0, none⟩) (Txt.pcs 44 (pt (tl tab k) 0)).length (cc 0)) := cell_later HI2.bel ((hcl 1 (by decide)).trans rfl)
          have L2 : wr.cell? ⟨g, k * 14 + 2, none⟩ = some (.bool (Txt.opn (pt (tl tab k) 1))) := cell_later HI2.bel ((hcl 2 (by decide)).trans rfl)
          have L3 : wr.cell? ⟨g, k * 14 + 3, none⟩ = some (.slice (some ⟨bb 1, 0, none⟩) (Txt.pcs 44 (pt (tl tab k) 1)).length (cc 1)) := cell_later HI2.bel ((hcl 3 (by decide)).trans rfl)
          have L4 : wr.cell? ⟨g, k * 14 + 4, none⟩ = some (.bool (Txt.opn (pt (tl tab k) 2))) := cell_later HI2.bel ((hcl 4 (by decide)).trans rfl)
          have L5 : wr.cell? ⟨g, k * 14 + 5, none⟩ = some (.slice (some ⟨bb 2, 0, none⟩) (Txt.pcs 44 (pt (tl tab k) 2)).length (cc 2)) := cell_later HI2.bel ((hcl 5 (by decide)).trans rfl)
          have L6 : wr.cell? ⟨g, k * 14 + 6, none⟩ = some (.bool (Txt.opn (pt (tl tab k) 3))) := cell_later HI2.bel ((hcl 6 (by decide)).trans rfl)
          have L7 : wr.cell? ⟨g, k * 14 + 7, none⟩ = some (.slice (some ⟨bb 3, 0, none⟩) (Txt.pcs 44 (pt (tl tab k) 3)).length (cc 3)) := cell_later HI2.bel ((hcl 7 (by decide)).trans rfl)
          have L8 : wr.cell? ⟨g, k * 14 + 8, none⟩ = some (.bool (Txt.opn (pt (tl tab k) 4))) := cell_later HI2.bel ((hcl 8 (by decide)).trans rfl)
          have L9 : wr.cell? ⟨g, k * 14 + 9, none⟩ = some (.slice (some ⟨bb 4, 0, none⟩) (Txt.pcs 44 (pt (tl tab k) 4)).length (cc 4)) := cell_later HI2.bel ((hcl 9 (by decide)).trans rfl)
          have L10 : wr.cell? ⟨g, k * 14 + 10, none⟩ = some (.bool (obt (pt (tl tab k) 5) 0 == 120)) := cell_later HI2.bel ((hcl 10 (by decide)).trans rfl)
          have L11 : wr.cell? ⟨g, k * 14 + 11, none⟩ = some (.int .u8 (obt (pt (tl tab k) 5) 1)) := cell_later HI2.bel ((hcl 11 (by decide)).trans rfl)
          have L12 : wr.cell? ⟨g, k * 14 + 12, none⟩ = some (.int .i64 (obt (pt (tl tab k) 5) 2 - 48)) := cell_later HI2.bel ((hcl 12 (by decide)).trans rfl)
          have L13 : wr.cell? ⟨g, k * 14 + 13, none⟩ = some (.slice ads (stps (tl tab k)).length caps) := cell_later HI2.bel ((hcl 13 (by decide)).trans rfl)
          have HLA : Hid (LineAt wr (tl tab k) bb cc) := hla.later HI2.bel
          have D0 : wr.cell? ⟨dq, 0, none⟩ = some (.int .i64 y) := HBk2.out.cell 0 (show 0 < 6 by decide)
          have D1 : wr.cell? ⟨dq, 1, none⟩ = some (.int .i64 mo) := HBk2.out.cell 1 (show 1 < 6 by decide)
          have D2 : wr.cell? ⟨dq, 2, none⟩ = some (.int .i64 d) := HBk2.out.cell 2 (show 2 < 6 by decide)
          have D3 : wr.cell? ⟨dq, 3, none⟩ = some (.int .i64 (t % 1440 / 60)) := HBk2.out.cell 3 (show 3 < 6 by decide)
          have D4 : wr.cell? ⟨dq, 4, none⟩ = some (.int .i64 (t % 60)) := HBk2.out.cell 4 (show 4 < 6 by decide)
          have D5 : wr.cell? ⟨dq, 5, none⟩ = some (.int .i64 ((t / 1440 + 4) % 7)) := HBk2.out.cell 5 (show 5 < 6 by decide)
          have hgl : g < wr.heap.size := World.block_lt_of_cell? _ _ L0
          have hdl : dq < wr.heap.size := HBk2.out.lt
          have hsz : Hid ((tl tab k).size ≤ 300) := tl_sz hs3 k (by have := tn_lt tab; omega)
          have b0 : (0 : Int) ≤ (k : Int) := by omega
          have b1 : (k : Int) < (tn tab : Int) := by omega
          have b5 : (k : Int) < 4 := by omega
          have b4 : decide ((4 : Int) ≤ (k : Int)) = false := decide_eq_false (by omega)
          have HLk : Hid ((Bx.lns tab)[k]'hkl.out = lnOf (tl tab k)) := lns_at tab k hkl.out
          obtain ⟨x, hx⟩ : ∃ x : Bool, x = dueB (tl tab k) mo d (t % 1440 / 60) (t % 60) ((t / 1440 + 4) % 7) := ⟨_, rfl⟩
          have HX : Hid (x = dueB (tl tab k) mo d (t % 1440 / 60) (t % 60) ((t / 1440 + 4) % 7)) := hx
          have HXd : Hid (((Bx.lns tab)[k]'hkl.out).due t = x) := by unfold Hid; rw [HLk.out, hx, hdue.out]; rfl
          have HI2' : Hid (LfIn w wr _ out2 f2) := HI2
          clear hcl hla hsp hx HI2
          go_wp2_with fail
          go_region_held3 (fun w' => ∀ b o, b < wr.heap.size → w'.cell? ⟨b, o, none⟩ = wr.cell? ⟨b, o, none⟩)
            ((intro b' o' h1; first | (exact hbC.cell (p := ⟨b', o', none⟩) h1) | rfl))
            ((go_at_call 157; refine (due_x (tl tab k) bb cc ads (stps (tl tab k)).length caps _ _ _ _ _ _ _ x HX.out hsz.out (HP.out k hk) ?hla bm.1 bm.2 bd.1 bd.2 (by omega) (by omega) (by omega) (by omega) (by omega) (by omega)).mono ?_; (case hla => exact HLA.out.later (Below.refl _ _).drew); rintro e w4 ⟨rfl, hb4⟩; have hbC : Below wr.heap.size wr w4 := (Below.refl _ _).drew.trans hb4))
          rename ∀ (b o : Nat), b < wr.heap.size → w4.cell? ⟨b, o, none⟩ = wr.cell? ⟨b, o, none⟩ => hSold
          clear hSold
          have HI4 := HI2'.out.later hbC
          have HBk4 := HBk2.out.later hbC
          have HFk : Hid (Px.From (Bx.lns tab) m t (k + 1) out2) := by
            have := HFr2.out
            rw [show ((k : Int) + 1).toNat = k + 1 by omega] at this; exact this
          have HMk : Hid (f2 k = Px.metB ((Bx.lns tab)[k]'hkl.out) m t) := by unfold Hid; rw [HMet2.out k hkl.out, if_neg (by omega)]
          have hk1 : ((k : Int) - 1 + 1).toNat = k := by omega
          cases x
          · have HFr3 : Hid (Px.From (Bx.lns tab) m t ((k : Int) - 1 + 1).toNat out2) := by unfold Hid; rw [hk1]; exact HFk.out.no hkl.out (Px.cnt_due HXd.out)
            have HMet3 : Hid (∀ j (h : j < (Bx.lns tab).length), f2 j = if (k : Int) - 1 < (j : Int) then Px.metB (Bx.lns tab)[j] m (t - 1) else Px.metB (Bx.lns tab)[j] m t) := by
              intro j h
              by_cases q : j = k
              · subst q; rw [if_pos (by omega), HMk.out, Px.met_no HXd.out]
              · rw [HMet2.out j h]
                by_cases q' : (k : Int) < (j : Int)
                · rw [if_pos q', if_pos (by omega)]
                · rw [if_neg q', if_neg (by omega)]
            clear L0 L1 L2 L3 L4 L5 L6 L7 L8 L9 L10 L11 L12 L13 D0 D1 D2 D3 D4 D5 hb4 hbC HI2' HBk2 HFr2 HMet2 HFk HMk HXd HLk
            go_wp2_with fail
            go_roundw
            case rel => exact ⟨(k : Int) - 1, out2, f2, by omega, by omega, by go_num, HFr3.out, by omega, HMet3.out, HI4, HBk4⟩
            case measure => simp [intOf]
          · have HMet3 : Hid (∀ j (h : j < (Bx.lns tab).length), (if j = k then true else f2 j) = if (k : Int) - 1 < (j : Int) then Px.metB (Bx.lns tab)[j] m (t - 1) else Px.metB (Bx.lns tab)[j] m t) := by
              intro j h
              by_cases q : j = k
              · subst q; rw [if_pos rfl, if_pos (by omega), Px.met_yes HXd.out t2]
              · rw [if_neg q, HMet2.out j h]
                by_cases q' : (k : Int) < (j : Int)
                · rw [if_pos q', if_pos (by omega)]
                · rw [if_neg q', if_neg (by omega)]
            obtain ⟨z, hz⟩ : ∃ z : Bool, z = Px.cntB (obt (pt (tl tab k) 5) 1) (t == m) (f2 k) := ⟨_, rfl⟩
            have HZ : Hid (z = Px.cntB (obt (pt (tl tab k) 5) 1) (t == m) (f2 k)) := hz
            have HCn : Hid (z = true ↔ Bx.Cnt ((Bx.lns tab)[k]'hkl.out) m t) := by
              have := Px.cnt_iff (m := m) HXd.out
              unfold Hid; rw [← this, hz, HMk.out]
              have e : ((Bx.lns tab)[k]'hkl.out).catch' = obt (pt (tl tab k) 5) 1 := by rw [HLk.out]; rfl
              rw [e]
            replace L0 := cell_later hbC L0
            replace L1 := cell_later hbC L1
            replace L2 := cell_later hbC L2
            replace L3 := cell_later hbC L3
            replace L4 := cell_later hbC L4
            replace L5 := cell_later hbC L5
            replace L6 := cell_later hbC L6
            replace L7 := cell_later hbC L7
            replace L8 := cell_later hbC L8
            replace L9 := cell_later hbC L9
            replace L10 := cell_later hbC L10
            replace L11 := cell_later hbC L11
            replace L12 := cell_later hbC L12
            replace L13 := cell_later hbC L13
            obtain ⟨mc, mf⟩ := HI4.met.cell k hk4
            have hgl4 : g < w4.heap.size := World.block_lt_of_cell? _ _ L0
            have hml4 : w.heap.size + 1 < w4.heap.size := HI4.met.lt
            have HI4' : Hid (LfIn w w4 _ out2 f2) := HI4
            have HBk4' : Hid (BlkAt w4 dq #[.int .i64 y, .int .i64 mo, .int .i64 d, .int .i64 (t % 1440 / 60), .int .i64 (t % 60), .int .i64 ((t / 1440 + 4) % 7)] 227) := HBk4
            clear D0 D1 D2 D3 D4 D5 hb4 hbC HI2' HBk2 HFr2 HMet2 HMk HXd HLk hz HI4 HBk4 HX HLA
            go_wp2_with fail
            go_region_held3 (fun w' => ∀ b o, b < w4.heap.size → w'.cell? ⟨b, o, none⟩ = w4.cell? ⟨b, o, none⟩)
              ((intro b' o' h1; first | (exact hbE.cell (p := ⟨b', o', none⟩) h1) | rfl))
              ((go_at_call 158; refine (counts_x (tl tab k) bb cc ads (stps (tl tab k)).length caps (t == m) (f2 k) _ z HZ.out).mono ?_; rintro e w5 ⟨rfl, hb5⟩; have hbE : Below w4.heap.size w4 w5 := (Below.refl _ _).drew.trans hb5))
            rename ∀ (b o : Nat), b < w4.heap.size → w5.cell? ⟨b, o, none⟩ = w4.cell? ⟨b, o, none⟩ => hSold
            clear hSold
            have HI5 := HI4'.out.later hbE
            have HBk5 := HBk4'.out.later hbE
            clear L0 L1 L2 L3 L4 L5 L6 L7 L8 L9 L10 L11 L12 L13 mc mf hb5 hbE HI4' HBk4' HZ
            cases z
            · have HFr3 : Hid (Px.From (Bx.lns tab) m t ((k : Int) - 1 + 1).toNat out2) := by unfold Hid; rw [hk1]; exact HFk.out.no hkl.out (fun h => by have := HCn.out.2 h; cases this)
              obtain ⟨mc, mf⟩ := HI5.met.cell k hk4
              have hml5 : w.heap.size + 1 < w5.heap.size := HI5.met.lt
              have HI6 := HI5.met' k hk4
              have HBk6 := HBk5.other (M := w.heap.size + 1) (by omega) k (.bool true)
              clear HI5 HBk5 HFk HCn
              go_wp2_with fail
              go_roundw
              case rel => exact ⟨(k : Int) - 1, out2, _, by omega, by omega, by go_num, HFr3.out, by omega, HMet3.out, HI6, HBk6⟩
              case measure => first | (simp [intOf]; done) | (simp [intOf]; omega)
            · have HFr3 : Hid (Px.From (Bx.lns tab) m t ((k : Int) - 1 + 1).toNat ((k, t) :: out2)) := by unfold Hid; rw [hk1]; exact HFk.out.yes hkl.out t2 (HCn.out.1 rfl)
              have HO5 : Hid (w5.ownsRow w.heap.size 182 2 _ out2.length (out2.reverse.flatMap arC)) := HI5.own
              have hs5 : Hid (w.heap.size ≤ w5.heap.size) := HI5.bel.size
              have hol3 : out2.length ≤ 10000 := by omega
              go_wp2_with (at_builtin; refine wpList_append_lies _ rfl (.tmp 58) (.tmp 63) 178 rfl w.heap.size 182 i0 (.agg #[.int .i64 0, .int .i64 0]) 2 16 Tryz.underlying178 hinf hz0 hz1 hz2 rfl (by decide) _ _ _ rfl (HO5.out.alloc _) ⟨w5.heap.size, 0, none⟩ 1 1 (arC (k, t)) rfl rfl (arC_new _ _ _ _) (arC_one _) (by decide) ?c3 ?c4 ?c5 _ rfl ?_)
              case c3 => unfold maxLen; omega
              case c4 => omega
              case c5 => have := hs5.out; simp; omega
              · intro g' cap' w6 hown' hgrow _ hlt'
                have HI6 := (HI5.later (below_alloc w5 (.cells #[.int .i64 ((k : Int) + 1), .int .i64 t] 182))).app (p := (k, t)) hgrow (by simpa using hown')
                have HBk6 := (HBk5.later (below_alloc w5 (.cells #[.int .i64 ((k : Int) + 1), .int .i64 t] 182))).grown (HO5.out.alloc _) hgrow (by decide)
                obtain ⟨mc, mf⟩ := HI6.met.cell k hk4
                have hml6 : w.heap.size + 1 < w6.heap.size := HI6.met.lt
                have HI7 := HI6.met' k hk4
                have HBk7 := HBk6.other (M := w.heap.size + 1) (by omega) k (.bool true)
                clear hown' hgrow HI5 HBk5 HI6 HBk6 HFk HCn HO5
                go_wp2_with fail
                go_roundw
                case rel => exact ⟨(k : Int) - 1, (k, t) :: out2, _, by omega, by omega, by go_num, HFr3.out, by simp; omega, HMet3.out, HI7, HBk7⟩
                case measure => first | (simp [intOf]; done) | (simp [intOf]; omega)
        · have hin : i = -1 := by omega
          have HFr3 : Hid (Px.From (Bx.lns tab) m (t - 1) (tn tab) out2) := by
            have := HFr2.out
            rw [show (i + 1).toNat = 0 by omega] at this
            have q := this.down
            rw [HLen.out] at q; exact q
          have HMet3 : Hid (∀ j (h : j < (Bx.lns tab).length), f2 j = Px.metB (Bx.lns tab)[j] m (t - 1)) := fun j h => by rw [HMet2.out j h, if_pos (by omega)]
          clear HFr2 HMet2 HBk2 hin
          go_wp2_with fail
          go_roundw
          case rel => exact ⟨t - 1, out2, f2, by omega, by omega, by go_num, HFr3.out, by omega, HMet3.out, HI2⟩
          case measure => first | (simp [intOf]; done) | (simp [intOf]; omega)
    · have HE : Hid (out = Bx.comes (Bx.lns tab) a m) := by
        have := HFr.out
        rw [show t = a - 1 by omega, ← HLen.out] at this
        exact this.done
      have HOw := HI.own
      rw [HE.out] at HOw
      have HBe : Hid (Below w.heap.size w wr) := HI.bel
      clear HI HFr HMet
      go_wp2_with fail
      go_ret
      exact ⟨⟨_, rfl, HOw⟩, HBe.out⟩
end Go.Proofs.YtdajolpoiffimaaGreatDoor
