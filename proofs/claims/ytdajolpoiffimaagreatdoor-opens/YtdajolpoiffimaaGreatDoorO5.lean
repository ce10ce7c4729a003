/-
  RefBox, RefDo, RefNum, RefInt, RefNumM, RefNext, RefTold, RefAdd, RefHush, RefLoad, RefTick, RefAsk, RefSteps, RefStart, RefStart2, RefHear, RefHear2, RefFeed.
-/
import Derived.Deep.RegionHeld3
import Derived.Deep.CutRange
import Derived.Deep.RegionLaw
import Derived.Test.YtdajolpoiffimaaGreatDoorO1
import Derived.Test.YtdajolpoiffimaaGreatDoorO2
import Derived.Test.YtdajolpoiffimaaGreatDoorO4

namespace Go.Proofs.YtdajolpoiffimaaGreatDoor
open Go.RowKit

def tkC (x : Bx.Tk) : List Value := [.int .i64 x.num, .int .i64 x.at', .int .i64 x.since, .string x.heard]
theorem tkC_len (x : Bx.Tk) : (tkC x).length = 4 := rfl
abbrev bxO (b : Bx.Bo) (sl en tk : Value) : Obj := .cells #[.int .i64 b.limit, .int .i64 b.room, .string b.now.tab, .int .i64 b.now.clock, .int .i64 b.now.next, sl, en, .string b.text, tk] 115
/-- A box lies in a block. -/
structure BoxIn (w : World) (B : Nat) (b : Bx.Bo) (sl en tk : Value) : Prop where
 c0 : w.cell? ⟨B, 0, none⟩ = some (.int .i64 b.limit)
 c1 : w.cell? ⟨B, 1, none⟩ = some (.int .i64 b.room)
 c2 : w.cell? ⟨B, 2, none⟩ = some (.string b.now.tab)
 c3 : w.cell? ⟨B, 3, none⟩ = some (.int .i64 b.now.clock)
 c4 : w.cell? ⟨B, 4, none⟩ = some (.int .i64 b.now.next)
 c5 : w.cell? ⟨B, 5, none⟩ = some sl
 c6 : w.cell? ⟨B, 6, none⟩ = some en
 c7 : w.cell? ⟨B, 7, none⟩ = some (.string b.text)
 c8 : w.cell? ⟨B, 8, none⟩ = some tk
 f : ∀ j : Nat, j < 9 → w.frozen? ⟨B, j, none⟩ = false
 ty : Typed w B 115
 rows : StAt w b.now sl en
 tk : w.ownsRow (B + 1) 172 4 tk b.talks.length (b.talks.flatMap tkC)
theorem BoxIn.tkr {w : World} {B : Nat} {b : Bx.Bo} {sl en tk : Value} (h : BoxIn w B b sl en tk) : TRow w 172 tk b.talks.length (b.talks.flatMap tkC) := TRow.of_own h.tk
theorem BoxIn.later {w w' : World} {B : Nat} {b : Bx.Bo} {sl en tk : Value} (h : BoxIn w B b sl en tk) (hb : Below w.heap.size w w') : BoxIn w' B b sl en tk :=
 ⟨cell_later hb h.c0, cell_later hb h.c1, cell_later hb h.c2, cell_later hb h.c3, cell_later hb h.c4, cell_later hb h.c5, cell_later hb h.c6, cell_later hb h.c7, cell_later hb h.c8,
  fun j hj => (hb.frozen (p := ⟨B, j, none⟩) h.ty.lt).trans (h.f j hj), h.ty.later hb, h.rows.later hb, own_below h.tk hb⟩
/-- A block of one's own, whatever it holds. -/
def ZIn (W : World) (q n : Nat) : Prop := ∀ j : Nat, j < n → (∃ u, W.cell? ⟨q, j, none⟩ = some u) ∧ W.frozen? ⟨q, j, none⟩ = false
theorem ZIn.new (w : World) (cs : Array Value) (t : TypeId) : ZIn (w.alloc (.cells cs t)) w.heap.size cs.size := by
 intro j hj
 have hb : (w.alloc (.cells cs t)).heap[w.heap.size]? = some (.cells cs t (0, 0)) := by show (w.heap.push (.cells cs t))[w.heap.size]? = _; simp
 refine ⟨⟨cs[j], ?_⟩, ?_⟩
 ·rw [cell_of_row _ _ j cs t (0, 0) hb]; simp [hj]
 ·unfold World.frozen?; rw [hb]; simp
theorem ZIn.later {W W' : World} {q n : Nat} (h : ZIn W q n) (hq : q < W.heap.size) (hb : Below W.heap.size W W') : ZIn W' q n :=
 fun j hj => ⟨(h j hj).1.elim fun u hu => ⟨u, cell_later hb hu⟩, (hb.frozen (p := ⟨q, j, none⟩) hq).trans (h j hj).2⟩
set_option maxHeartbeats 1000000 in
theorem bstate_any (b : Bx.Bo) (B : Nat) (sl en tk : Value) (w : World) (hB : BoxIn w B b sl en tk) :
 Calls Tryz.prog 48 #[.pointer (some ⟨B, 0, none⟩)] w fun e w' => e = .returned (stV b.now sl en) ∧ Below w.heap.size w w' := by
 obtain ⟨ad, cap, rfl, hcap⟩ := hB.rows.sl.form
 obtain ⟨ad2, cap2, rfl, hcap2⟩ := hB.rows.en.form
 have hlt := hB.ty.lt
 obtain ⟨c0, c1, c2, c3, c4, c5, c6, c7, c8, _, _, _, _⟩ := hB
 go_enter Tryz.func48, Tryz.ntmps48
 go_wp2_with fail
 refine bodyPost_ret (v := stV b.now (.slice ad b.now.slots.length cap) (.slice ad2 b.now.ends.length cap2)) (by simp [results, Tryz.results48, go_sem]) rfl ⟨rfl, below_alloc _ _⟩

set_option maxHeartbeats 1000000 in
theorem rfirst_any (w : World) : Calls Tryz.prog 88 #[] w fun e w' => e = .returned (stV Bx.first nilV nilV) ∧ Below w.heap.size w w' := by
 go_enter Tryz.func88, Tryz.ntmps88
 go_wp2_with fail
 refine bodyPost_ret (v := stV Bx.first nilV nilV) (by simp [results, Tryz.results88, go_sem, Bx.first]; rfl) rfl ⟨rfl, below_alloc _ _⟩

set_option maxHeartbeats 1000000 in
theorem may_any (l r : Int) (w : World) : Calls Tryz.prog 56 #[.int .i64 l, .int .i64 r] w fun e w' => e = .returned (.bool (mayB l r)) ∧ w' = w := by
 have HM : Hid (mayB l r = decide (1 ≤ l ∧ l ≤ 4 ∧ 600 ≤ r ∧ r ≤ 4000)) := rfl
 by_cases h1 : 1 ≤ l
 ·by_cases h2 : l ≤ 4
  ·by_cases h3 : 600 ≤ r
   ·by_cases h4 : r ≤ 4000
    ·have HM' : Hid (mayB l r = true) := by unfold Hid; rw [HM.out]; exact decide_eq_true ⟨h1, h2, h3, h4⟩
     have e1 : decide (1 ≤ l) = true := decide_eq_true h1
     have e2 : decide (l ≤ 4) = true := decide_eq_true h2
     have e3 : decide (600 ≤ r) = true := decide_eq_true h3
     clear HM
     go_enter Tryz.func56, Tryz.ntmps56
     go_wp2_with fail
     go_ret
     exact ⟨ret_bool' HM'.out.symm, rfl⟩
    ·have HM' : Hid (decide (r ≤ 4000) = mayB l r) := by unfold Hid; rw [HM.out, decide_eq_false h4]; exact (decide_eq_false (by omega)).symm
     have e1 : decide (1 ≤ l) = true := decide_eq_true h1
     have e2 : decide (l ≤ 4) = true := decide_eq_true h2
     have e3 : decide (600 ≤ r) = true := decide_eq_true h3
     clear HM h4
     go_enter Tryz.func56, Tryz.ntmps56
     go_wp2_with fail
     go_ret
     exact ⟨ret_bool' HM'.out, rfl⟩
   ·have HM' : Hid (mayB l r = false) := by unfold Hid; rw [HM.out]; exact decide_eq_false (by omega)
    have e1 : decide (1 ≤ l) = true := decide_eq_true h1
    have e2 : decide (l ≤ 4) = true := decide_eq_true h2
    have e3 : decide (600 ≤ r) = false := decide_eq_false h3
    clear HM h3
    go_enter Tryz.func56, Tryz.ntmps56
    go_wp2_with fail
    go_ret
    exact ⟨ret_bool' HM'.out.symm, rfl⟩
  ·have HM' : Hid (mayB l r = false) := by unfold Hid; rw [HM.out]; exact decide_eq_false (by omega)
   have e1 : decide (1 ≤ l) = true := decide_eq_true h1
   have e2 : decide (l ≤ 4) = false := decide_eq_false h2
   clear HM h2
   go_enter Tryz.func56, Tryz.ntmps56
   go_wp2_with fail
   go_ret
   exact ⟨ret_bool' HM'.out.symm, rfl⟩
 ·have HM' : Hid (mayB l r = false) := by unfold Hid; rw [HM.out]; exact decide_eq_false (by omega)
  have e1 : decide (1 ≤ l) = false := decide_eq_false h1
  clear HM h1
  go_enter Tryz.func56, Tryz.ntmps56
  go_wp2_with fail
  go_ret
  exact ⟨ret_bool' HM'.out.symm, rfl⟩

set_option maxHeartbeats 1000000 in
theorem rlog_any (b : Bx.Bo) (B : Nat) (sl en tk : Value) (w : World) (hB : BoxIn w B b sl en tk) :
 Calls Tryz.prog 45 #[.pointer (some ⟨B, 0, none⟩)] w fun e w' => e = .returned (.string b.text) ∧ w' = w := by
 obtain ⟨c0, c1, c2, c3, c4, c5, c6, c7, c8, _, _, _, _⟩ := hB
 go_enter Tryz.func45, Tryz.ntmps45
 go_wp2_with fail
 go_ret
 exact ⟨rfl, rfl⟩

set_option maxHeartbeats 1000000 in
theorem last_any (s : Bx.St) (sl en : Value) (w : World) (hE : s.ends.length ≤ 6) (hS : StAt w s sl en) :
 Calls Tryz.prog 110 #[stV s sl en] w fun e w' => e = .returned en ∧ Below w.heap.size w w' := by
 obtain ⟨ad, cap, rfl, hcap⟩ := hS.sl.form
 obtain ⟨ad2, cap2, rfl, hcap2⟩ := hS.en.form
 have z : ¬ (6 : Int) < (s.ends.length : Int) := by omega
 clear hS
 go_enter Tryz.func110, Tryz.ntmps110
 go_wp2_with fail
 go_ret
 exact ⟨rfl, below_alloc _ _⟩
/-- What Look tells. -/
abbrev viewV (s : Bx.St) : Value := .agg #[.int .i64 s.clock, .int .i64 s.next, .int .i64 s.slots.length, .int .i64 s.ends.length, .string s.tab]
set_option maxHeartbeats 1000000 in
theorem rlook_any (b : Bx.Bo) (B : Nat) (sl en tk : Value) (w : World) (hE : b.now.ends.length ≤ 6) (hB : BoxIn w B b sl en tk) :
 Calls Tryz.prog 61 #[.pointer (some ⟨B, 0, none⟩)] w fun e w' => e = .returned (viewV b.now) ∧ Below w.heap.size w w' := by
 obtain ⟨ad, cap, rfl, hcap⟩ := hB.rows.sl.form
 obtain ⟨ad2, cap2, rfl, hcap2⟩ := hB.rows.en.form
 have HB : Hid (BoxIn w B b (.slice ad b.now.slots.length cap) (.slice ad2 b.now.ends.length cap2) tk) := hB
 clear hB
 go_enter Tryz.func61, Tryz.ntmps61
 go_wp2_with fail
 refine (bstate_any b B _ _ tk _ (HB.out.later (below_alloc _ _))).mono ?_
 rintro e w1 ⟨rfl, hb1⟩
 have hS1 := (HB.out.later (below_alloc _ _)).rows.later hb1
 have hI := StIn.new w1 b.now (.slice ad b.now.slots.length cap) (.slice ad2 b.now.ends.length cap2)
 have hb2 := below_alloc w1 (stO b.now (.slice ad b.now.slots.length cap) (.slice ad2 b.now.ends.length cap2))
 have HS2 : Hid (StAt _ b.now (.slice ad b.now.slots.length cap) (.slice ad2 b.now.ends.length cap2)) := hS1.later hb2
 have hz1 := hb1.size
 go_wp2_with fail
 refine (last_any b.now _ _ _ hE HS2.out).mono ?_
 rintro e w2 ⟨rfl, hb3⟩
 have HZ : ZIn w2 w.heap.size 5 := ((((ZIn.new w #[.int .i64 0, .int .i64 0, .int .i64 0, .int .i64 0, .string { data := #[] }] 78).later (by simp) hb1).later (by simp at hz1; omega) hb2).later (by simp at hz1; simp; omega) hb3)
 obtain ⟨⟨u0, r0⟩, f0⟩ := HZ 0 (by decide)
 obtain ⟨⟨u1, r1⟩, f1⟩ := HZ 1 (by decide)
 obtain ⟨⟨u2, r2⟩, f2⟩ := HZ 2 (by decide)
 obtain ⟨⟨u3, r3⟩, f3⟩ := HZ 3 (by decide)
 obtain ⟨⟨u4, r4⟩, f4⟩ := HZ 4 (by decide)
 obtain ⟨d0, d1, d2, d3, d4⟩ := hI.later hb3
 have hz3 := hb3.size
 simp at hz1 hz3
 have B3 : Hid (Below w.heap.size w w2) := (((below_alloc w _).trans (hb1.mono (by simp))).trans (hb2.mono (by omega))).trans (hb3.mono (by simp; omega))
 clear HZ hI hS1 HS2 hb1 hb2 hb3
 go_wp2_with fail
 refine bodyPost_ret (v := viewV b.now) (by simp [results, Tryz.results61, go_sem, r0, r1, r2, r3, r4]) rfl ⟨rfl, ?_⟩
 repeat (refine Below.setCell ?_ (by simp) _)
 exact B3.out
end Go.Proofs.YtdajolpoiffimaaGreatDoor

namespace Go.Proofs.YtdajolpoiffimaaGreatDoor
open Go.RowKit

abbrev chO (c : Bx.Ch) : Obj := .cells #[.int .u8 c.kind, .string c.tab, .int .i64 c.n] 141
structure ChIn (W : World) (q : Nat) (c : Bx.Ch) : Prop where
 c0 : W.cell? ⟨q, 0, none⟩ = some (.int .u8 c.kind)
 c1 : W.cell? ⟨q, 1, none⟩ = some (.string c.tab)
 c2 : W.cell? ⟨q, 2, none⟩ = some (.int .i64 c.n)
theorem ChIn.later {W W' : World} {q : Nat} {c : Bx.Ch} (h : ChIn W q c) (hb : Below W.heap.size W W') : ChIn W' q c := ⟨cell_later hb h.c0, cell_later hb h.c1, cell_later hb h.c2⟩
theorem ChIn.new (w : World) (c : Bx.Ch) : ChIn (w.alloc (chO c)) w.heap.size c := ⟨by simp [go_sem], by simp [go_sem], by simp [go_sem]⟩
/-- The world in which a change is done. -/
structure DIn (w W : World) (s : Bx.St) (sl en : Value) (c : Bx.Ch) : Prop where
 st : StW W w.heap.size s sl en
 ch : ChIn W (w.heap.size + 1) c
 rs : StW W (w.heap.size + 2) stZ nilV nilV
 bel : Below w.heap.size w W
theorem DIn.later {w W W' : World} {s : Bx.St} {sl en : Value} {c : Bx.Ch} (h : DIn w W s sl en c) (hb : Below W.heap.size W W') : DIn w W' s sl en c :=
 ⟨h.st.later hb, h.ch.later hb, h.rs.later hb, h.bel.trans (hb.mono h.bel.size)⟩
theorem DIn.new (w : World) (s : Bx.St) (sl en : Value) (c : Bx.Ch) : DIn w (((w.alloc (stO s sl en)).alloc (chO c)).alloc (stO stZ nilV nilV)) s sl en c := by
 have b1 := below_alloc (w.alloc (stO s sl en)) (chO c)
 have b2 := below_alloc ((w.alloc (stO s sl en)).alloc (chO c)) (stO stZ nilV nilV)
 refine ⟨((StW.new w s sl en).later b1).later b2, ?_, ?_, ((below_alloc w _).alloc (by simp) _).alloc (by simp; omega) _⟩
 ·have := (ChIn.new (w.alloc (stO s sl en)) c).later b2
  simpa using this
 ·have := StW.new ((w.alloc (stO s sl en)).alloc (chO c)) stZ nilV nilV
  simpa using this
set_option maxRecDepth 10000 in
set_option maxHeartbeats 4000000 in
theorem do_any (s : Bx.St) (c : Bx.Ch) (sl en : Value) (w : World) (hO : Bx.StOk s) (ht : c.tab.size ≤ maxLen) (hS : StAt w s sl en) :
 Calls Tryz.prog 106 #[stV s sl en, chV c] w fun e w' => (∃ sl' en', e = .returned (.tuple #[stV (Bx.doP s c).1 sl' en', .bool (Bx.doP s c).2]) ∧ StAt w' (Bx.doP s c).1 sl' en') ∧ Below w.heap.size w w' := by
 obtain ⟨ad, cap, rfl, hcap⟩ := hS.sl.form
 obtain ⟨ad2, cap2, rfl, hcap2⟩ := hS.en.form
 have HS : Hid (StAt w s (.slice ad s.slots.length cap) (.slice ad2 s.ends.length cap2)) := hS
 have HO : Hid (Bx.StOk s) := hO
 have HD : Hid (DIn w _ s (.slice ad s.slots.length cap) (.slice ad2 s.ends.length cap2) c) := DIn.new w s _ _ c
 clear hS hO
 go_enter Tryz.func106, Tryz.ntmps106
 go_upto_region 1 with fail
 generalize ((w.alloc (stO s (.slice ad s.slots.length cap) (.slice ad2 s.ends.length cap2))).alloc (chO c)).alloc (stO stZ nilV nilV) = W at *
 have hD := HD.out
 cases k1 : (c.kind == 84)
 ·have m1 : ¬ c.kind = 84 := by simpa using k1
  cases k2 : (c.kind == 67)
  ·have m2 : ¬ c.kind = 67 := by simpa using k2
   have HP : Hid (Bx.doP s c = Bx.aboutP s c.kind c.n) := by unfold Hid Bx.doP; rw [if_neg m1, if_neg m2]
   obtain ⟨⟨⟨d0, d1, d2, d3, d4⟩, _, _⟩, ⟨e0, e1, e2⟩, _, _⟩ := hD
   clear m1 m2
   go_wp2_with fail
   refine (about_any s c.kind c.n _ _ _ HO.out (HS.out.later HD.out.bel)).mono ?_
   rintro e w1 ⟨⟨sl', en', rfl, hst⟩, hb1⟩
   obtain ⟨ad3, cap3, rfl, _⟩ := hst.sl.form
   obtain ⟨ad4, cap4, rfl, _⟩ := hst.en.form
   have hD1 := HD.out.later hb1
   have H4 : Hid (StAt _ (Bx.aboutP s c.kind c.n).1 _ _) := hst.store hD1.rs.ty (.string (Bx.aboutP s c.kind c.n).1.tab) (.int .i64 (Bx.aboutP s c.kind c.n).1.clock) (.int .i64 (Bx.aboutP s c.kind c.n).1.next) (.slice ad3 (Bx.aboutP s c.kind c.n).1.slots.length cap3) (.slice ad4 (Bx.aboutP s c.kind c.n).1.ends.length cap4)
   have B4 : Hid (Below w.heap.size w w1) := hD1.bel
   obtain ⟨⟨r0, r1, r2, r3, r4⟩, f, _⟩ := hD1.rs
   have f0 := f 0 (by decide); have f1 := f 1 (by decide); have f2 := f 2 (by decide); have f3 := f 3 (by decide); have f4 := f 4 (by decide)
   clear f hD1 d0 d1 d2 d3 d4 e0 e1 e2
   go_wp2_with fail
   refine bodyPost_ret (v := .tuple #[stV (Bx.aboutP s c.kind c.n).1 (.slice ad3 (Bx.aboutP s c.kind c.n).1.slots.length cap3) (.slice ad4 (Bx.aboutP s c.kind c.n).1.ends.length cap4), .bool (Bx.aboutP s c.kind c.n).2]) (by simp [results, Tryz.results106, go_sem, r0, r1, r2, r3, r4]) rfl ?_
   rw [HP.out]
   exact ⟨⟨_, _, rfl, H4.out⟩, below_set5 B4.out (by omega) _ _ _ _ _⟩
  ·have m2 : c.kind = 67 := by simpa using k2
   have HP : Hid (Bx.doP s c = Bx.clockedP s c.n) := by unfold Hid Bx.doP; rw [if_neg m1, if_pos m2]
   obtain ⟨⟨⟨d0, d1, d2, d3, d4⟩, _, _⟩, ⟨e0, e1, e2⟩, _, _⟩ := hD
   clear m1 m2
   go_wp2_with fail
   refine (clocked_any s _ _ c.n _ HO.out (HS.out.later HD.out.bel)).mono ?_
   rintro e w1 ⟨⟨sl', en', rfl, hst⟩, hb1⟩
   obtain ⟨ad3, cap3, rfl, _⟩ := hst.sl.form
   obtain ⟨ad4, cap4, rfl, _⟩ := hst.en.form
   have hD1 := HD.out.later hb1
   have H4 : Hid (StAt _ (Bx.clockedP s c.n).1 _ _) := hst.store hD1.rs.ty (.string (Bx.clockedP s c.n).1.tab) (.int .i64 (Bx.clockedP s c.n).1.clock) (.int .i64 (Bx.clockedP s c.n).1.next) (.slice ad3 (Bx.clockedP s c.n).1.slots.length cap3) (.slice ad4 (Bx.clockedP s c.n).1.ends.length cap4)
   have B4 : Hid (Below w.heap.size w w1) := hD1.bel
   obtain ⟨⟨r0, r1, r2, r3, r4⟩, f, _⟩ := hD1.rs
   have f0 := f 0 (by decide); have f1 := f 1 (by decide); have f2 := f 2 (by decide); have f3 := f 3 (by decide); have f4 := f 4 (by decide)
   clear f hD1 d0 d1 d2 d3 d4 e0 e1 e2
   go_wp2_with fail
   refine bodyPost_ret (v := .tuple #[stV (Bx.clockedP s c.n).1 (.slice ad3 (Bx.clockedP s c.n).1.slots.length cap3) (.slice ad4 (Bx.clockedP s c.n).1.ends.length cap4), .bool (Bx.clockedP s c.n).2]) (by simp [results, Tryz.results106, go_sem, r0, r1, r2, r3, r4]) rfl ?_
   rw [HP.out]
   exact ⟨⟨_, _, rfl, H4.out⟩, below_set5 B4.out (by omega) _ _ _ _ _⟩
 ·have m1 : c.kind = 84 := by simpa using k1
  have HP : Hid (Bx.doP s c = open Classical in if ChkR c.tab 0 0 ∧ s.slots.length = 0 then ({ s with tab := c.tab }, true) else (s, false)) := by unfold Hid Bx.doP; rw [if_pos m1]
  clear m1
  obtain ⟨⟨⟨d0, d1, d2, d3, d4⟩, _, _⟩, ⟨e0, e1, e2⟩, _, _⟩ := hD
  go_wp2_with fail
  refine (rcheck_any c.tab _ ht).mono ?_
  rintro e w1 ⟨⟨a, r, rfl, hCk, hr0⟩, hb1⟩
  have hD1 := HD.out.later hb1
  have HD1 : Hid (DIn w w1 s (.slice ad s.slots.length cap) (.slice ad2 s.ends.length cap2) c) := hD1
  clear d0 d1 d2 d3 d4 e0 e1 e2
  obtain ⟨⟨⟨d0, d1, d2, d3, d4⟩, fs, _⟩, ⟨e0, e1, e2⟩, ⟨⟨r0, r1, r2, r3, r4⟩, f, _⟩, _⟩ := hD1
  have f0 := f 0 (by decide); have f1 := f 1 (by decide); have f2 := f 2 (by decide); have f3 := f 3 (by decide); have f4 := f 4 (by decide)
  have g0 := fs 0 (by decide)
  have HCk : Hid (ChkR c.tab a r) := hCk
  have B4 : Hid (Below w.heap.size w w1) := HD1.out.bel
  clear f fs hCk
  by_cases hok : r = 0 ∧ s.slots.length = 0
  ·obtain ⟨h1, h2⟩ := hok
   subst h1
   have hCk0 : ChkR c.tab 0 0 := by have := HCk.out; rwa [this.zero rfl] at this
   have HP' : Hid (Bx.doP s c = ({ s with tab := c.tab }, true)) := by unfold Hid; rw [HP.out, if_pos ⟨hCk0, h2⟩]
   have H4 : Hid (StAt _ { s with tab := c.tab } (.slice ad s.slots.length cap) (.slice ad2 s.ends.length cap2)) := (show StAt (w1.setCell ⟨w.heap.size, 0, none⟩ (.string c.tab)) { s with tab := c.tab } (.slice ad s.slots.length cap) (.slice ad2 s.ends.length cap2) from ⟨((HS.out.later B4.out).set HD1.out.st.ty (by decide) (by decide) 0 (.string c.tab)).sl, ((HS.out.later B4.out).set HD1.out.st.ty (by decide) (by decide) 0 (.string c.tab)).en⟩).store (HD1.out.rs.ty.setCell _ _ _) (.string c.tab) (.int .i64 s.clock) (.int .i64 s.next) (.slice ad s.slots.length cap) (.slice ad2 s.ends.length cap2)
   have z1 : ¬ (0 : Int) < (s.slots.length : Int) := by omega
   clear h2 hCk0 HP
   go_wp2_with fail
   refine bodyPost_ret (v := .tuple #[stV { s with tab := c.tab } (.slice ad s.slots.length cap) (.slice ad2 s.ends.length cap2), .bool true]) (by simp [results, Tryz.results106, go_sem, r0, r1, r2, r3, r4]) rfl ?_
   rw [HP'.out]
   exact ⟨⟨_, _, rfl, H4.out⟩, below_set5 (B4.out.setCell (by simp) _) (by omega) _ _ _ _ _⟩
  ·have HP' : Hid (Bx.doP s c = (s, false)) := by
    unfold Hid; rw [HP.out, if_neg (fun h => hok ⟨(h.1.uniq HCk.out).2.symm, h.2⟩)]
   have H4 : Hid (StAt _ s (.slice ad s.slots.length cap) (.slice ad2 s.ends.length cap2)) := (HS.out.later B4.out).store HD1.out.rs.ty (.string s.tab) (.int .i64 s.clock) (.int .i64 s.next) (.slice ad s.slots.length cap) (.slice ad2 s.ends.length cap2)
   clear HP
   cases z0 : (r != 0)
   ·have hr : r = 0 := by simpa using z0
    have z1 : (0 : Int) < (s.slots.length : Int) := by
     rcases Nat.eq_zero_or_pos s.slots.length with h | h
     ·exact absurd ⟨hr, h⟩ hok
     ·omega
    clear hr hok
    go_wp2_with fail
    refine bodyPost_ret (v := .tuple #[stV s (.slice ad s.slots.length cap) (.slice ad2 s.ends.length cap2), .bool false]) (by simp [results, Tryz.results106, go_sem, r0, r1, r2, r3, r4]) rfl ?_
    rw [HP'.out]
    exact ⟨⟨_, _, rfl, H4.out⟩, below_set5 B4.out (by omega) _ _ _ _ _⟩
   ·clear hok
    go_wp2_with fail
    refine bodyPost_ret (v := .tuple #[stV s (.slice ad s.slots.length cap) (.slice ad2 s.ends.length cap2), .bool false]) (by simp [results, Tryz.results106, go_sem, r0, r1, r2, r3, r4]) rfl ?_
    rw [HP'.out]
    exact ⟨⟨_, _, rfl, H4.out⟩, below_set5 B4.out (by omega) _ _ _ _ _⟩
end Go.Proofs.YtdajolpoiffimaaGreatDoor

namespace Go.Proofs.YtdajolpoiffimaaGreatDoor
open Go.RowKit

set_option maxHeartbeats 1000000 in
theorem number_any (s : ByteArray) (w : World) (hs : s.size ≤ 100000) :
 Calls Tryz.prog 149 #[.string s] w fun e w' => e = .returned (.int .i64 (numW s.data.toList)) ∧ w' = w := by
 go_enter Tryz.func149, Tryz.ntmps149
 go_wp2_with fail
 go_loop [0, 3] (fun v x => ∃ (y : ByteArray) (n : Int), v = .string y ∧ x = .int .i64 n ∧ y.size ≤ 100000 ∧ y.data.toList.foldl numS n = numW s.data.toList) (fun v _ => strSize v)
 case atStart => exact ⟨s, 0, rfl, rfl, hs, rfl⟩
 case round =>
  obtain ⟨y, n, rfl, rfl, hy, hn⟩ := hrel
  have Hn : Hid (y.data.toList.foldl numS n = numW s.data.toList) := hn
  clear hn
  by_cases hlt : 0 < y.size
  ·have z1 : (0 : Int) < (y.size : Int) := by omega
   have HN : Hid ((y.extract 1 y.size).data.toList.foldl numS (wrap64 (wrap64 (n * 256) + wrap64 (y[0].toNat : Int))) = numW s.data.toList) := by
    unfold Hid
    rw [← Hn.out, ext_list]
    have hyl : y.data.toList.length = y.size := by simp
    have h0 := head_at hlt
    cases hy2 : y.data.toList with
    | nil => rw [hy2] at hyl; simp at hyl; omega
    | cons a r =>
      rw [hy2] at h0 hyl
      have ha : a = y[0] := by simpa using h0
      simp at hyl
      rw [List.drop_one, List.tail_cons, List.take_of_length_le (by omega), List.foldl_cons, ha]; rfl
   go_wp2_with fail
   go_round
   case rel => exact ⟨_, _, rfl, rfl, by simp; omega, HN.out⟩
   case measure => simp [strSize]; omega
  ·have z1 : ¬ (0 : Int) < (y.size : Int) := by omega
   have HN : Hid (n = numW s.data.toList) := by
    unfold Hid; rw [← Hn.out]
    have hyl : y.data.toList.length = y.size := by simp
    have : y.data.toList = [] := List.eq_nil_of_length_eq_zero (by omega)
    rw [this]; rfl
   go_wp2_with fail
   go_ret
   exact ⟨ret_int HN.out, rfl⟩

set_option maxHeartbeats 1000000 in
theorem part_any (s : ByteArray) (a n : Nat) (w : World) (hs : s.size ≤ 100000) (ha : a ≤ 100000) (hn : n ≤ 100000) :
 Calls Tryz.prog 181 #[.string s, .int .i64 a, .int .i64 n] w fun e w' => e = .returned (.string (partK s a n)) ∧ w' = w := by
 have q0 : IntKind.i64.wrap ((a : Int) + (n : Int)) = (a : Int) + (n : Int) := by rw [IntKind.wrap_i64]; omega
 go_enter Tryz.func181, Tryz.ntmps181
 go_wp2_with fail
 go_loop [7, 8] (fun v i => ∃ k : Nat, k ≤ n ∧ i = .int .i64 ((a + k : Nat) : Int) ∧ v = .string (partK s a k)) (fun _ i => a + n - (intOf i).toNat)
 case atStart => exact ⟨0, Nat.zero_le _, by simp, rfl⟩
 case round =>
  obtain ⟨k, hk, rfl, rfl⟩ := hrel
  have hpz := partK_size s a k
  by_cases hlt : k < n
  ·have z1 : ((a + k : Nat) : Int) < (a : Int) + (n : Int) := by omega
   by_cases hin : a + k < s.size
   ·have HN : Hid (partK s a (k + 1) = partK s a k ++ s.extract (a + k) (a + k + 1)) := by unfold Hid; rw [partK, if_pos hin]
    have z2 : ((a + k : Nat) : Int) < (s.size : Int) := by omega
    have q1 : ¬ 9223372036854775807 < (partK s a k).size + (s.extract (a + k) (a + k + 1)).size := by simp; omega
    have q2 : ¬ 9223372036854775807 < (partK s a k).size + 1 := by omega
    go_wp2_with fail
    go_round
    case rel => exact ⟨k + 1, by omega, by go_num, by rw [HN.out]⟩
    case measure => simp [intOf]; omega
   ·have HN : Hid (partK s a (k + 1) = partK s a k ++ { data := #[0] }) := by unfold Hid; rw [partK, if_neg hin]
    have z2 : ¬ ((a + k : Nat) : Int) < (s.size : Int) := by omega
    have q2 : ¬ 9223372036854775807 < (partK s a k).size + 1 := by omega
    go_wp2_with fail
    go_round
    case rel => exact ⟨k + 1, by omega, by go_num, by rw [HN.out]⟩
    case measure => simp [intOf]; omega
  ·obtain rfl : k = n := by omega
   have z1 : ¬ ((a + k : Nat) : Int) < (a : Int) + (k : Int) := by omega
   go_wp2_with fail
   go_ret
   exact ⟨rfl, rfl⟩
end Go.Proofs.YtdajolpoiffimaaGreatDoor

namespace Go.Proofs.YtdajolpoiffimaaGreatDoor
open Go.RowKit

theorem StW.slots {W : World} {q : Nat} {t : Bx.St} {sl en : Value} (h : StW W q t sl en) (L : List Bx.Sl) (v : Value) : StW (W.setCell ⟨q, 3, none⟩ v) q { t with slots := L } v en := by
 obtain ⟨⟨c0, c1, c2, c3, c4⟩, f, ty⟩ := h
 refine ⟨⟨?_, ?_, ?_, ?_, ?_⟩, fun j hj => ?_, ty.setCell _ _ _⟩
 case refine_6 => simp [go_sem, f j hj]
 all_goals simp [go_sem, c0, c1, c2, c3, c4]
/-- What holds while slots are made to wait. -/
structure IntAt (w wr : World) (s : Bx.St) (k : Nat) (slk en : Value) : Prop where
 st : StW wr w.heap.size { s with slots := intK s.slots k } slk en
 rs : StW wr (w.heap.size + 1) stZ nilV nilV
 rows : StAt wr { s with slots := intK s.slots k } slk en
 bel : Below w.heap.size w wr

set_option maxRecDepth 10000 in
set_option maxHeartbeats 2000000 in
theorem int_any (s : Bx.St) (sl en : Value) (w : World) (hl : s.slots.length ≤ 10000) (hS : StAt w s sl en) :
 Calls Tryz.prog 58 #[stV s sl en] w fun e w' => (∃ sl', e = .returned (stV (intS s) sl' en) ∧ StAt w' (intS s) sl' en) ∧ Below w.heap.size w w' := by
 obtain ⟨ad, cap, rfl, hcap⟩ := hS.sl.form
 obtain ⟨ad2, cap2, rfl, hcap2⟩ := hS.en.form
 have b0 := below_alloc w (stO s (.slice ad s.slots.length cap) (.slice ad2 s.ends.length cap2))
 have b1 := below_alloc (w.alloc (stO s (.slice ad s.slots.length cap) (.slice ad2 s.ends.length cap2))) (stO stZ nilV nilV)
 have A1 : Hid (IntAt w ((w.alloc (stO s (.slice ad s.slots.length cap) (.slice ad2 s.ends.length cap2))).alloc (stO stZ nilV nilV)) s 0 (.slice ad s.slots.length cap) (.slice ad2 s.ends.length cap2)) := by
  have e : ({ s with slots := intK s.slots 0 } : Bx.St) = s := by simp [intK]
  refine ⟨by rw [e]; exact (StW.new w s _ _).later b1, ?_, by rw [e]; exact (hS.later b0).later b1, b0.trans (b1.mono (by simp))⟩
  have := StW.new (w.alloc (stO s (.slice ad s.slots.length cap) (.slice ad2 s.ends.length cap2))) stZ nilV nilV
  simpa using this
 clear hS b0 b1
 go_enter Tryz.func58, Tryz.ntmps58
 go_wp2_with fail
 generalize (w.alloc (stO s (.slice ad s.slots.length cap) (.slice ad2 s.ends.length cap2))).alloc (stO stZ nilV nilV) = W at *
 go_loopw [3] (fun iv wr => ∃ k : Nat, k ≤ s.slots.length ∧ iv = .int .i64 k ∧ ∃ slk, IntAt w wr s k slk (.slice ad2 s.ends.length cap2)) (fun iv _ => s.slots.length - (intOf iv).toNat)
 case atStart => exact ⟨0, Nat.zero_le _, rfl, _, A1.out⟩
 case round =>
  obtain ⟨k, hk, rfl, slk, hC⟩ := hrel
  obtain ⟨adk, capk, rfl, hck⟩ := hC.rows.sl.form
  by_cases hlt : k < s.slots.length
  ·obtain ⟨st, rs, rows, bel⟩ := hC
   have hTl : ({ s with slots := intK s.slots k } : Bx.St).slots.length = s.slots.length := intK_len s.slots k hk
   have hTe : ({ s with slots := intK s.slots k } : Bx.St).ends = s.ends := rfl
   have hTk : Bx.slAt ({ s with slots := intK s.slots k } : Bx.St) k = s.slots[k] := by
    rw [← slAt_eq _ k (by rw [hTl]; exact hlt)]; exact intK_at s.slots k hlt
   have HNx : Hid (({ s with slots := intK s.slots (k + 1) } : Bx.St) = { ({ s with slots := intK s.slots k } : Bx.St) with slots := Bx.putL (intK s.slots k) k (clr s.slots[k]) }) := by
    unfold Hid; rw [putL_set, intK_next s.slots k hlt]
   have HNy : Hid (∀ (L : List Bx.Sl), L = Bx.putL ({ s with slots := intK s.slots k } : Bx.St).slots k (clr (Bx.slAt ({ s with slots := intK s.slots k } : Bx.St) k)) → ({ s with slots := intK s.slots (k + 1) } : Bx.St) = { ({ s with slots := intK s.slots k } : Bx.St) with slots := L }) := by
    intro L hL; rw [hL, hTk]; exact HNx.out
   clear HNx hTk
   rw [← hTe] at st rows hcap2 ⊢
   generalize ({ s with slots := intK s.slots k } : Bx.St) = T at *
   have HT : Hid (StAt wr T (.slice adk T.slots.length capk) (.slice ad2 T.ends.length cap2)) := rows
   have HSt : Hid (StW wr w.heap.size T (.slice adk T.slots.length capk) (.slice ad2 T.ends.length cap2)) := st
   have HRs : Hid (StW wr (w.heap.size + 1) stZ nilV nilV) := rs
   have HBl : Hid (Below w.heap.size w wr) := bel
   have hkT : k < T.slots.length := by omega
   have HlT : Hid (T.slots.length = s.slots.length) := hTl
   have HeT : Hid (T.ends = s.ends) := hTe
   have hl2 : T.slots.length ≤ 10000 := by omega
   clear hTl hTe st rs rows bel
   obtain ⟨b, off, cap', hv, _, hc⟩ := HT.out.sl.1.some' (by omega)
   cases hv
   obtain ⟨y0, y1, y2, y3, y4, y5⟩ := slot_cells hc k hkT
   rw [slAt_eq T k hkT] at y0 y1 y2 y3 y4 y5
   obtain ⟨⟨d0, d1, d2, d3, d4⟩, _, _⟩ := HSt.out
   have z1 : (0 : Int) ≤ (k : Int) := by omega
   have z2 : (k : Int) < (T.slots.length : Int) := by omega
   have hlq : w.heap.size < wr.heap.size := HSt.out.ty.lt
   have hbx := below_alloc wr (.cells #[.int .i64 (Bx.slAt T k).num, .int .i64 (Bx.slAt T k).line, .int .i64 (Bx.slAt T k).minute, .int .i64 (Bx.slAt T k).att, .int .i64 (Bx.slAt T k).frm, .bool false] 167)
   have hX : SlIn (wr.alloc (.cells #[.int .i64 (Bx.slAt T k).num, .int .i64 (Bx.slAt T k).line, .int .i64 (Bx.slAt T k).minute, .int .i64 (Bx.slAt T k).att, .int .i64 (Bx.slAt T k).frm, .bool false] 167)) wr.heap.size (clr (Bx.slAt T k)) := SlIn.new wr (clr (Bx.slAt T k))
   clear hc
   go_upto_region 6 with fail
   clear d0 d1 d2 d3 d4 y0 y1 y2 y3 y4 y5
   generalize wr.alloc (.cells #[.int .i64 (Bx.slAt T k).num, .int .i64 (Bx.slAt T k).line, .int .i64 (Bx.slAt T k).minute, .int .i64 (Bx.slAt T k).att, .int .i64 (Bx.slAt T k).frm, .bool false] 167) = W6 at *
   have HT6 : Hid (StAt W6 T (.slice (some ⟨b, off, none⟩) T.slots.length capk) (.slice ad2 T.ends.length cap2)) := HT.out.later hbx
   have HSt6 : Hid (StW W6 w.heap.size T (.slice (some ⟨b, off, none⟩) T.slots.length capk) (.slice ad2 T.ends.length cap2)) := HSt.out.later hbx
   have HRs6 : Hid (StW W6 (w.heap.size + 1) stZ nilV nilV) := HRs.out.later hbx
   have HBl6 : Hid (Below w.heap.size w W6) := HBl.out.trans (hbx.mono HBl.out.size)
   clear hbx HT HSt HRs HBl
   generalize wr.heap.size = xq at *
   obtain ⟨x0, x1, x2, x3, x4, x5⟩ := hX
   obtain ⟨⟨d0, d1, d2, d3, d4⟩, _, _⟩ := HSt6.out
   generalize hxx : clr (Bx.slAt T k) = x at *
   have Hxx : Hid (clr (Bx.slAt T k) = x) := hxx
   clear hxx
   go_wp2_with fail
   refine (put_any T k x _ _ _ hl2 HT6.out).mono ?_
   rintro e w7 ⟨⟨v7, rfl, hown7⟩, hb7⟩
   have hR7 := TRow.of_own hown7
   obtain ⟨ad7, cap7, rfl, _⟩ := hR7.form
   have hS7 := HSt6.out.later hb7
   have hQ7 := HRs6.out.later hb7
   have HN : Hid (IntAt w (w7.setCell ⟨w.heap.size, 3, none⟩ (.slice ad7 (Bx.putL T.slots k x).length cap7)) s (k + 1) (.slice ad7 (Bx.putL T.slots k x).length cap7) (.slice ad2 T.ends.length cap2)) := by
    have e := HNy.out (Bx.putL T.slots k x) rfl
    refine ⟨by rw [e]; exact hS7.slots _ _, ?_, ?_, (HBl6.out.trans (hb7.mono HBl6.out.size)).setCell (by simp) _⟩
    ·obtain ⟨⟨c0, c1, c2, c3, c4⟩, f, ty1⟩ := hQ7
     refine ⟨⟨?_, ?_, ?_, ?_, ?_⟩, fun j hj => ?_, ty1.setCell _ _ _⟩
     case refine_6 => simp [go_sem, f j hj]
     all_goals simp [go_sem, c0, c1, c2, c3, c4]
    ·rw [e]; exact ⟨hR7.set hS7.ty (by decide) _ _, (HT6.out.en.later hb7).set hS7.ty (by decide) _ _⟩
   have e3 := hS7.st.c3
   have g3 := hS7.f 3 (by decide)
   clear d0 d1 d2 d3 d4 x0 x1 x2 x3 x4 x5 hown7 hb7 hS7 hQ7 hR7
   go_wp2_with fail
   go_roundw
   case rel => exact ⟨k + 1, by omega, by go_num, _, HN.out⟩
   case measure => simp [intOf]; omega
  ·obtain rfl : k = s.slots.length := by omega
   have HeI : Hid (({ s with slots := intK s.slots s.slots.length } : Bx.St) = intS s) := by unfold Hid intS intK; simp
   obtain ⟨st, rs, rows, bel⟩ := hC
   rw [HeI.out] at st rows
   have HC7 : Hid (StAt _ (intS s) (.slice adk (intS s).slots.length capk) (.slice ad2 s.ends.length cap2)) := rows.store rs.ty (.string (intS s).tab) (.int .i64 (intS s).clock) (.int .i64 (intS s).next) (.slice adk (intS s).slots.length capk) (.slice ad2 s.ends.length cap2)
   have HB6 : Hid (Below w.heap.size w wr) := bel
   obtain ⟨⟨d0, d1, d2, d3, d4⟩, _, _⟩ := st
   obtain ⟨⟨r0, r1, r2, r3, r4⟩, f, _⟩ := rs
   have f0 := f 0 (by decide); have f1 := f 1 (by decide); have f2 := f 2 (by decide); have f3 := f 3 (by decide); have f4 := f 4 (by decide)
   have z9 : ¬ (s.slots.length : Int) < ((intS s).slots.length : Int) := by simp [intS]
   clear f rows bel
   go_wp2_with fail
   refine bodyPost_ret (v := stV (intS s) (.slice adk (intS s).slots.length capk) (.slice ad2 s.ends.length cap2)) (by simp [results, Tryz.results58, go_sem, r0, r1, r2, r3, r4]) rfl ?_
   exact ⟨⟨_, rfl, HC7.out⟩, below_set5 HB6.out (by omega) _ _ _ _ _⟩
end Go.Proofs.YtdajolpoiffimaaGreatDoor


namespace Go.Proofs.YtdajolpoiffimaaGreatDoor
open Go.RowKit

/-- What next tells. -/
def NextR (s : ByteArray) (b more : ByteArray) (ok : Bool) : Prop := (ok = true → Bx.Nx s b more) ∧ (ok = false → ¬ ∃ b more, Bx.Nx s b more)
theorem ext_mid (x y z : ByteArray) (a b : Nat) (ha : a = x.size) (hb : b = x.size + y.size) : (x ++ y ++ z).extract a b = y := by
 have hx : x.data.toList.length = x.size := by simp
 have hy : y.data.toList.length = y.size := by simp
 refine Bx.ba_ext ?_
 rw [ext_list, ByteArray.data_append, ByteArray.data_append, Array.toList_append, Array.toList_append, ha, hb, List.append_assoc, ← hx, List.drop_left, Nat.add_sub_cancel_left, ← hy, List.take_left]
theorem ext_first (x y : ByteArray) (b : Nat) (hb : b = x.size) : (x ++ y).extract 0 b = x := by
 have := ext_mid ByteArray.empty x y 0 b rfl (by rw [hb]; simp)
 simpa using this
theorem nx_size {s b more : ByteArray} (h : Bx.Nx s b more) : s.size = b.size + 6 + more.size ∧ b.size < 65536 ∧ numW (s.extract 0 2).data.toList = (b.size : Int) ∧ s.extract 2 (2 + b.size) = b ∧ s.extract 0 (6 + b.size) = Bx.frame b := by
 obtain ⟨e, hb⟩ := h
 have hz : s.size = b.size + 6 + more.size := by rw [e, ByteArray.size_append, Bx.frame_size]
 have h3 : s = Bx.be b.size 2 ++ b ++ (Bx.be (Crc.sumR b) 4 ++ more) := by rw [e]; unfold Bx.frame; simp only [ByteArray.append_assoc]
 refine ⟨hz, hb, ?_, ?_, ?_⟩
 ·have : s.extract 0 2 = Bx.be b.size 2 := by rw [h3, ByteArray.append_assoc]; exact ext_first _ _ 2 (by rw [Bx.be_size])
  rw [this]; exact numW_be _ 2 (by omega) (by simp; omega) (by decide)
 ·rw [h3]; exact ext_mid _ _ _ _ _ (by rw [Bx.be_size]) (by rw [Bx.be_size])
 ·rw [e]; exact ext_first _ _ _ (by rw [Bx.frame_size]; omega)
theorem next_yes {s : ByteArray} {n : Nat} (hn : n < 65536) (h6 : 6 + n ≤ s.size) (h : s.extract 0 (6 + n) = Bx.frame (s.extract 2 (2 + n))) : Bx.Nx s (s.extract 2 (2 + n)) (s.extract (6 + n) s.size) := by
 refine ⟨?_, ?_⟩
 ·rw [← h]; exact (Bx.ext_split s (6 + n)).symm
 ·rw [ByteArray.size_extract]; omega
theorem next_no {s : ByteArray} {n : Nat} (hn : numW (s.extract 0 2).data.toList = (n : Int)) (h : s.size < 6 + n ∨ ¬ s.extract 0 (6 + n) = Bx.frame (s.extract 2 (2 + n))) : ¬ ∃ b more, Bx.Nx s b more := by
 rintro ⟨b, more, hN⟩
 obtain ⟨h1, h2, h3, h4, h5⟩ := nx_size hN
 have e : n = b.size := by omega
 subst e
 rcases h with h | h
 ·omega
 ·exact h (by rw [h4, h5])
theorem next_small {s : ByteArray} (h : s.size < 2) : ¬ ∃ b more, Bx.Nx s b more := by
 rintro ⟨b, more, hN⟩
 have := (nx_size hN).1
 omega
theorem list_ba {x y : ByteArray} : (x.toList == y.toList) = true ↔ x = y := by
 constructor
 ·intro h
  have h2 : x.toList = y.toList := by simpa using h
  exact Bx.ba_ext (by simpa [ByteArray.toList_eq] using h2)
 ·rintro rfl; simp
def NextP (s : ByteArray) (w w' : World) (e : Ending) : Prop := ∃ b more ok, e = .returned (.tuple #[.string b, .string more, .bool ok]) ∧ NextR s b more ok ∧ (ok = true → more.size < s.size) ∧ Below w.heap.size w w'
set_option maxHeartbeats 1000000 in
theorem next_any (s : ByteArray) (w : World) (hs : s.size ≤ 100000) :
 Calls Tryz.prog 103 #[.string s] w fun e w' => NextP s w w' e := by
 by_cases h2 : s.size < 2
 ·have HN : Hid (¬ ∃ b more, Bx.Nx s b more) := next_small h2
  have z1 : (s.size : Int) < 2 := by omega
  go_enter Tryz.func103, Tryz.ntmps103
  go_wp2_with fail
  go_ret3
  exact ⟨_, _, false, rfl, ⟨fun h => (by cases h), fun _ => HN.out⟩, fun h => (by cases h), Below.refl _ _⟩
 ·have z1 : ¬ (s.size : Int) < 2 := by omega
  obtain ⟨k1, k2, k3⟩ := be_numW (x := s.extract 0 2) (k := 2) (by rw [ByteArray.size_extract]; omega) (by decide)
  obtain ⟨n, hn⟩ : ∃ n : Nat, numW (s.extract 0 2).data.toList = (n : Int) := ⟨(numW (s.extract 0 2).data.toList).toNat, by omega⟩
  have hn2 : n < 65536 := by rw [hn] at k3; simp at k3; omega
  have HNo : Hid (s.size < 6 + n ∨ ¬ s.extract 0 (6 + n) = Bx.frame (s.extract 2 (2 + n)) → ¬ ∃ b more, Bx.Nx s b more) := next_no hn
  have HYes : Hid (6 + n ≤ s.size → s.extract 0 (6 + n) = Bx.frame (s.extract 2 (2 + n)) → Bx.Nx s (s.extract 2 (2 + n)) (s.extract (6 + n) s.size)) := next_yes hn2
  have HNm : Hid (∀ W : World, Calls Tryz.prog 149 #[.string (s.extract 0 2)] W fun e w' => e = .returned (.int .i64 (n : Int)) ∧ w' = W) := by
   intro W; rw [← hn]; exact number_any (s.extract 0 2) W (by simp; omega)
  clear hn k1 k2 k3
  have y1 : 2 ≤ s.size := by omega
  go_enter Tryz.func103, Tryz.ntmps103
  go_wp2_with fail
  refine (HNm.out _).mono ?_
  rintro e w2 ⟨rfl, hw2⟩
  have hw3 := hw2.symm
  subst hw3
  clear hw2
  have q1 : IntKind.i64.wrap (6 + (n : Int)) = 6 + (n : Int) := by rw [IntKind.wrap_i64]; omega
  have q2 : IntKind.i64.wrap (2 + (n : Int)) = 2 + (n : Int) := by rw [IntKind.wrap_i64]; omega
  by_cases h6 : (s.size : Int) < 6 + (n : Int)
  ·have HN : Hid (¬ ∃ b more, Bx.Nx s b more) := HNo.out (Or.inl (by omega))
   clear HNo HYes
   go_wp2_with fail
   go_ret3
   exact ⟨_, _, false, rfl, ⟨fun h => (by cases h), fun _ => HN.out⟩, fun h => (by cases h), Below.refl _ _⟩
  ·have y2 : (2 + (n : Int)).toNat = 2 + n := by omega
   have y3 : (6 + (n : Int)).toNat = 6 + n := by omega
   have y4 : 2 + (n : Int) ≤ (s.size : Int) := by omega
   have y5 : 6 + (n : Int) ≤ (s.size : Int) := by omega
   have y6 : (2 : Int) ≤ 2 + (n : Int) := by omega
   have y7 : (0 : Int) ≤ 6 + (n : Int) := by omega
   have HSz : Hid ((s.extract (6 + n) s.size).size < s.size) := by unfold Hid; rw [ByteArray.size_extract]; omega
   go_wp2_with fail
   refine (frame_any (s.extract 2 (2 + n)) _ (by simp; omega)).mono ?_
   rintro e w4 ⟨rfl, hb4⟩
   have HB4 : Hid (Below w.heap.size w w4) := hb4
   clear hb4
   go_wp2_with fail
   go_quiet (fail)
   go_wp2_with fail
   go_ret3
   refine ⟨_, _, _, rfl, ⟨fun h => HYes.out (by omega) (list_ba.1 h), fun h => HNo.out (Or.inr fun e => ?_)⟩, fun _ => HSz.out, below_drewN HB4.out _⟩
   rw [list_ba.2 e] at h; cases h
end Go.Proofs.YtdajolpoiffimaaGreatDoor

namespace Go.Proofs.YtdajolpoiffimaaGreatDoor
open Go.RowKit

end Go.Proofs.YtdajolpoiffimaaGreatDoor

namespace Go.Proofs.YtdajolpoiffimaaGreatDoor
open Go.RowKit

set_option maxHeartbeats 1000000 in
theorem talk_any (b : Bx.Bo) (B : Nat) (n : Int) (sl en tk : Value) (w : World) (hl : b.talks.length ≤ 10000) (hB : BoxIn w B b sl en tk) :
 Calls Tryz.prog 112 #[.pointer (some ⟨B, 0, none⟩), .int .i64 n] w fun e w' => e = .returned (.int .i64 (talkOf b.talks n)) ∧ w' = w := by
 obtain ⟨ad, cap, rfl, hcap⟩ := hB.tkr.form
 have HR : Hid (RowAt w (.slice ad b.talks.length cap) b.talks.length (b.talks.flatMap tkC)) := hB.tkr.1
 obtain ⟨c0, c1, c2, c3, c4, c5, c6, c7, c8, _, _, _, _⟩ := hB
 go_enter Tryz.func112, Tryz.ntmps112
 go_wp2_with fail
 go_loop [5] (fun i => ∃ k : Nat, k ≤ b.talks.length ∧ i = .int .i64 k ∧ ∀ j (h : j < b.talks.length), j < k → ¬ b.talks[j].num = n) (fun i => b.talks.length - (intOf i).toNat)
 case atStart => exact ⟨0, Nat.zero_le _, rfl, fun j _ h => by omega⟩
 case round =>
  obtain ⟨k, hk, rfl, hno⟩ := hrel
  have Hno : Hid (∀ j (h : j < b.talks.length), j < k → ¬ b.talks[j].num = n) := hno
  clear hno
  by_cases hlt : k < b.talks.length
  ·obtain ⟨b', off, cap', hv, _, hc⟩ := HR.out.some' (by omega)
   cases hv
   have x0 : w.cell? ⟨b', off + k * 4, none⟩ = some (.int .i64 b.talks[k].num) := RowAt.cell tkC_len hc k hlt 0 (by decide)
   clear hc
   have b1 : (0 : Int) ≤ (k : Int) := by omega
   have b2 : (k : Int) < (b.talks.length : Int) := by omega
   cases he : (b.talks[k].num == n)
   ·have HN : Hid (∀ j (h : j < b.talks.length), j < k + 1 → ¬ b.talks[j].num = n) := by
     intro j h hj
     by_cases e : j = k
     ·subst e; simpa using he
     ·exact Hno.out j h (by omega)
    generalize b.talks[k].num = x at *
    go_wp2_with fail
    go_round
    case rel => exact ⟨k + 1, by omega, by go_num, HN.out⟩
    case measure => simp [intOf]; omega
   ·have HN : Hid (talkOf b.talks n = k) := talkOf_some hlt (by simpa using he) (fun j h hj => Hno.out j h hj)
    generalize b.talks[k].num = x at *
    go_wp2_with fail
    go_ret
    exact ⟨ret_int HN.out.symm, rfl⟩
  ·obtain rfl : k = b.talks.length := by omega
   have HN : Hid (talkOf b.talks n = -1) := talkOf_none (fun j h => Hno.out j h h)
   go_wp2_with fail
   go_ret
   exact ⟨ret_int HN.out.symm, rfl⟩
end Go.Proofs.YtdajolpoiffimaaGreatDoor

namespace Go.Proofs.YtdajolpoiffimaaGreatDoor
open Go.RowKit

end Go.Proofs.YtdajolpoiffimaaGreatDoor

namespace Go.Proofs.YtdajolpoiffimaaGreatDoor
open Go.RowKit

end Go.Proofs.YtdajolpoiffimaaGreatDoor

namespace Go.Proofs.YtdajolpoiffimaaGreatDoor
open Go.RowKit

end Go.Proofs.YtdajolpoiffimaaGreatDoor

namespace Go.Proofs.YtdajolpoiffimaaGreatDoor
open Go.RowKit

/-- A slot as it is told. -/
abbrev aslV (x : Bx.Sl) (step : Int) : Value := .agg #[.int .i64 x.num, .int .i64 x.line, .int .i64 x.minute, .int .i64 x.att, .int .i64 x.frm, .int .i64 step]
abbrev aslZ : Value := .agg #[.int .i64 0, .int .i64 0, .int .i64 0, .int .i64 0, .int .i64 0, .int .i64 0]
/-- At which step a slot is. -/
def stepOf (b : Bx.Bo) (n : Int) : Int := if 0 ≤ talkOf b.talks n then (tkAt b (talkOf b.talks n).toNat).at' + 1 else 0

set_option maxHeartbeats 1000000 in
theorem rend_no (b : Bx.Bo) (B : Nat) (i : Int) (sl en tk : Value) (w : World) (hE : b.now.ends.length ≤ 6) (hi : i < 0 ∨ (b.now.ends.length : Int) ≤ i) (hB : BoxIn w B b sl en tk) :
 Calls Tryz.prog 65 #[.pointer (some ⟨B, 0, none⟩), .int .i64 i] w fun e w' => e = .returned (.tuple #[.agg #[.int .i64 0, .string ByteArray.empty], .int .i64 4]) ∧ Below w.heap.size w w' := by
 obtain ⟨ad, cap, rfl, hcap⟩ := hB.rows.sl.form
 obtain ⟨ad2, cap2, rfl, hcap2⟩ := hB.rows.en.form
 have HB : Hid (BoxIn w B b (.slice ad b.now.slots.length cap) (.slice ad2 b.now.ends.length cap2) tk) := hB
 clear hB
 go_enter Tryz.func65, Tryz.ntmps65
 go_wp2_with fail
 refine (bstate_any b B _ _ tk _ (HB.out.later (below_alloc _ _))).mono ?_
 rintro e w1 ⟨rfl, hb1⟩
 have hb0 := below_alloc w (.cells #[.int .i64 0, .string { data := #[] }] 95)
 have hZ := (ZIn.new w #[.int .i64 0, .string { data := #[] }] 95).later (by simp) hb1
 have hz1 := hb1.size
 have hS1 := (HB.out.later hb0).rows.later hb1
 have hI := StIn.new w1 b.now (.slice ad b.now.slots.length cap) (.slice ad2 b.now.ends.length cap2)
 have hb2 := below_alloc w1 (stO b.now (.slice ad b.now.slots.length cap) (.slice ad2 b.now.ends.length cap2))
 have HS2 : Hid (StAt _ b.now (.slice ad b.now.slots.length cap) (.slice ad2 b.now.ends.length cap2)) := hS1.later hb2
 simp at hz1
 go_wp2_with fail
 refine (last_any b.now _ _ _ hE HS2.out).mono ?_
 rintro e w2 ⟨rfl, hb3⟩
 have HZ : ZIn w2 w.heap.size 2 := ((hZ.later (by omega) hb2).later (by simp; omega) hb3)
 obtain ⟨⟨u0, r0⟩, f0⟩ := HZ 0 (by decide)
 obtain ⟨⟨u1, r1⟩, f1⟩ := HZ 1 (by decide)
 have B3 : Hid (Below w.heap.size w w2) := ((hb0.trans (hb1.mono (by simp))).trans (hb2.mono (by omega))).trans (hb3.mono (by simp; omega))
 clear HZ hZ hI hS1 HS2 hb1 hb2 hb3 hb0
 by_cases h0 : i < 0
 ·go_wp2_with fail
  refine bodyPost_ret (v := .tuple #[.agg #[.int .i64 0, .string ByteArray.empty], .int .i64 4]) (by simp [results, Tryz.results65, go_sem, r0, r1]; rfl) rfl ⟨rfl, ?_⟩
  repeat (refine Below.setCell ?_ (by simp) _)
  exact B3.out
 ·have h1 : (b.now.ends.length : Int) ≤ i := by omega
  clear hi
  go_wp2_with fail
  refine bodyPost_ret (v := .tuple #[.agg #[.int .i64 0, .string ByteArray.empty], .int .i64 4]) (by simp [results, Tryz.results65, go_sem, r0, r1]; rfl) rfl ⟨rfl, ?_⟩
  repeat (refine Below.setCell ?_ (by simp) _)
  exact B3.out

set_option maxHeartbeats 1000000 in
theorem rend_yes (b : Bx.Bo) (B i : Nat) (sl en tk : Value) (w : World) (hE : b.now.ends.length ≤ 6) (hi : i < b.now.ends.length) (hB : BoxIn w B b sl en tk) :
 Calls Tryz.prog 65 #[.pointer (some ⟨B, 0, none⟩), .int .i64 i] w fun e w' => e = .returned (.tuple #[.agg #[.int .i64 b.now.ends[i].num, .string b.now.ends[i].how], .int .i64 0]) ∧ Below w.heap.size w w' := by
 obtain ⟨ad, cap, rfl, hcap⟩ := hB.rows.sl.form
 obtain ⟨ad2, cap2, rfl, hcap2⟩ := hB.rows.en.form
 have HB : Hid (BoxIn w B b (.slice ad b.now.slots.length cap) (.slice ad2 b.now.ends.length cap2) tk) := hB
 clear hB
 go_enter Tryz.func65, Tryz.ntmps65
 go_wp2_with fail
 refine (bstate_any b B _ _ tk _ (HB.out.later (below_alloc _ _))).mono ?_
 rintro e w1 ⟨rfl, hb1⟩
 have hb0 := below_alloc w (.cells #[.int .i64 0, .string { data := #[] }] 95)
 have hZ := (ZIn.new w #[.int .i64 0, .string { data := #[] }] 95).later (by simp) hb1
 have hz1 := hb1.size
 have hS1 := (HB.out.later hb0).rows.later hb1
 have hI := StIn.new w1 b.now (.slice ad b.now.slots.length cap) (.slice ad2 b.now.ends.length cap2)
 have hb2 := below_alloc w1 (stO b.now (.slice ad b.now.slots.length cap) (.slice ad2 b.now.ends.length cap2))
 have HS2 : Hid (StAt _ b.now (.slice ad b.now.slots.length cap) (.slice ad2 b.now.ends.length cap2)) := hS1.later hb2
 simp at hz1
 go_wp2_with fail
 refine (last_any b.now _ _ _ hE HS2.out).mono ?_
 rintro e w2 ⟨rfl, hb3⟩
 have HZ : ZIn w2 w.heap.size 2 := ((hZ.later (by omega) hb2).later (by simp; omega) hb3)
 obtain ⟨⟨u0, r0⟩, f0⟩ := HZ 0 (by decide)
 obtain ⟨⟨u1, r1⟩, f1⟩ := HZ 1 (by decide)
 have B3 : Hid (Below w.heap.size w w2) := ((hb0.trans (hb1.mono (by simp))).trans (hb2.mono (by omega))).trans (hb3.mono (by simp; omega))
 obtain ⟨b5, off5, cap5, hv5, _, hc5⟩ := (HS2.out.later hb3).en.1.some' (by omega)
 cases hv5
 obtain ⟨e0, e1⟩ := end_cells hc5 i hi
 have z1 : (0 : Int) ≤ (i : Int) := by omega
 have z2 : (i : Int) < (b.now.ends.length : Int) := by omega
 have z3 : ¬ (b.now.ends.length : Int) ≤ (i : Int) := by omega
 clear HZ hZ hI hS1 HS2 hb1 hb2 hb3 hb0 hc5
 go_wp2_with fail
 refine bodyPost_ret (v := .tuple #[.agg #[.int .i64 b.now.ends[i].num, .string b.now.ends[i].how], .int .i64 0]) (by simp [results, Tryz.results65, go_sem, r0, r1]) rfl ⟨rfl, ?_⟩
 repeat (refine Below.setCell ?_ (by simp) _)
 exact B3.out

set_option maxHeartbeats 1000000 in
theorem rslot_no (b : Bx.Bo) (B : Nat) (i : Int) (sl en tk : Value) (w : World) (hi : i < 0 ∨ (b.now.slots.length : Int) ≤ i) (hB : BoxIn w B b sl en tk) :
 Calls Tryz.prog 63 #[.pointer (some ⟨B, 0, none⟩), .int .i64 i] w fun e w' => e = .returned (.tuple #[aslZ, .int .i64 4]) ∧ Below w.heap.size w w' := by
 obtain ⟨ad, cap, rfl, hcap⟩ := hB.rows.sl.form
 obtain ⟨ad2, cap2, rfl, hcap2⟩ := hB.rows.en.form
 have HB : Hid (BoxIn w B b (.slice ad b.now.slots.length cap) (.slice ad2 b.now.ends.length cap2) tk) := hB
 clear hB
 go_enter Tryz.func63, Tryz.ntmps63
 go_wp2_with fail
 refine (bstate_any b B _ _ tk _ (HB.out.later (below_alloc _ _))).mono ?_
 rintro e w1 ⟨rfl, hb1⟩
 have hb0 := below_alloc w (.cells #[.int .i64 0, .int .i64 0, .int .i64 0, .int .i64 0, .int .i64 0, .int .i64 0] 97)
 have hZ := (ZIn.new w #[.int .i64 0, .int .i64 0, .int .i64 0, .int .i64 0, .int .i64 0, .int .i64 0] 97).later (by simp) hb1
 have hz1 := hb1.size
 have hI := StIn.new w1 b.now (.slice ad b.now.slots.length cap) (.slice ad2 b.now.ends.length cap2)
 have hb2 := below_alloc w1 (stO b.now (.slice ad b.now.slots.length cap) (.slice ad2 b.now.ends.length cap2))
 simp at hz1
 have HZ : ZIn (w1.alloc (stO b.now (.slice ad b.now.slots.length cap) (.slice ad2 b.now.ends.length cap2))) w.heap.size 6 := hZ.later (by omega) hb2
 have B3 : Hid (Below w.heap.size w (w1.alloc (stO b.now (.slice ad b.now.slots.length cap) (.slice ad2 b.now.ends.length cap2)))) := (hb0.trans (hb1.mono (by simp))).trans (hb2.mono (by omega))
 go_upto_region 2 with fail
 generalize w1.alloc (stO b.now (.slice ad b.now.slots.length cap) (.slice ad2 b.now.ends.length cap2)) = W at *
 generalize w1.heap.size = sq at *
 obtain ⟨⟨u0, r0⟩, f0⟩ := HZ 0 (by decide)
 obtain ⟨⟨u1, r1⟩, f1⟩ := HZ 1 (by decide)
 obtain ⟨⟨u2, r2⟩, f2⟩ := HZ 2 (by decide)
 obtain ⟨⟨u3, r3⟩, f3⟩ := HZ 3 (by decide)
 obtain ⟨⟨u4, r4⟩, f4⟩ := HZ 4 (by decide)
 obtain ⟨⟨u5, r5⟩, f5⟩ := HZ 5 (by decide)
 have d3 := hI.c3
 clear HZ hZ hI hb1 hb2 hb0
 by_cases h0 : i < 0
 ·go_wp2_with fail
  refine bodyPost_ret (v := .tuple #[aslZ, .int .i64 4]) (by simp [results, Tryz.results63, go_sem, r0, r1, r2, r3, r4, r5]) rfl ⟨rfl, ?_⟩
  repeat (refine Below.setCell ?_ (by simp) _)
  exact B3.out
 ·have h1 : (b.now.slots.length : Int) ≤ i := by omega
  clear hi
  go_wp2_with fail
  refine bodyPost_ret (v := .tuple #[aslZ, .int .i64 4]) (by simp [results, Tryz.results63, go_sem, r0, r1, r2, r3, r4, r5]) rfl ⟨rfl, ?_⟩
  repeat (refine Below.setCell ?_ (by simp) _)
  exact B3.out

set_option maxRecDepth 10000 in
set_option maxHeartbeats 2000000 in
theorem rslot_yes (b : Bx.Bo) (B i : Nat) (sl en tk : Value) (w : World) (hO : BoOk b) (hi : i < b.now.slots.length) (hB : BoxIn w B b sl en tk) :
 Calls Tryz.prog 63 #[.pointer (some ⟨B, 0, none⟩), .int .i64 i] w fun e w' => e = .returned (.tuple #[aslV (Bx.slAt b.now i) (stepOf b (Bx.slAt b.now i).num), .int .i64 0]) ∧ Below w.heap.size w w' := by
 obtain ⟨ad, cap, rfl, hcap⟩ := hB.rows.sl.form
 obtain ⟨ad2, cap2, rfl, hcap2⟩ := hB.rows.en.form
 obtain ⟨ad3, cap3, rfl, hcap3⟩ := hB.tkr.form
 have HB : Hid (BoxIn w B b (.slice ad b.now.slots.length cap) (.slice ad2 b.now.ends.length cap2) (.slice ad3 b.talks.length cap3)) := hB
 have HO : Hid (BoOk b) := hO
 have ht100 := hO.tks
 clear hB hO
 go_enter Tryz.func63, Tryz.ntmps63
 go_wp2_with fail
 refine (bstate_any b B _ _ _ _ (HB.out.later (below_alloc _ _))).mono ?_
 rintro e w1 ⟨rfl, hb1⟩
 have hb0 := below_alloc w (.cells #[.int .i64 0, .int .i64 0, .int .i64 0, .int .i64 0, .int .i64 0, .int .i64 0] 97)
 have hZ := (ZIn.new w #[.int .i64 0, .int .i64 0, .int .i64 0, .int .i64 0, .int .i64 0, .int .i64 0] 97).later (by simp) hb1
 have hz1 := hb1.size
 have hI := StIn.new w1 b.now (.slice ad b.now.slots.length cap) (.slice ad2 b.now.ends.length cap2)
 have hb2 := below_alloc w1 (stO b.now (.slice ad b.now.slots.length cap) (.slice ad2 b.now.ends.length cap2))
 simp at hz1
 have HZ : Hid (ZIn (w1.alloc (stO b.now (.slice ad b.now.slots.length cap) (.slice ad2 b.now.ends.length cap2))) w.heap.size 6) := hZ.later (by omega) hb2
 have B3 : Hid (Below w.heap.size w (w1.alloc (stO b.now (.slice ad b.now.slots.length cap) (.slice ad2 b.now.ends.length cap2)))) := (hb0.trans (hb1.mono (by simp))).trans (hb2.mono (by omega))
 have HB2 : Hid (BoxIn (w1.alloc (stO b.now (.slice ad b.now.slots.length cap) (.slice ad2 b.now.ends.length cap2))) B b (.slice ad b.now.slots.length cap) (.slice ad2 b.now.ends.length cap2) (.slice ad3 b.talks.length cap3)) := ((HB.out.later hb0).later hb1).later hb2
 have hqW : w.heap.size < (w1.alloc (stO b.now (.slice ad b.now.slots.length cap) (.slice ad2 b.now.ends.length cap2))).heap.size := by simp; omega
 go_upto_region 2 with fail
 generalize w1.alloc (stO b.now (.slice ad b.now.slots.length cap) (.slice ad2 b.now.ends.length cap2)) = W at *
 generalize w1.heap.size = sq at *
 have d3 := hI.c3
 clear hZ hI hb1 hb2 hb0 HB hz1
 obtain ⟨b5, off5, cap5, hv5, _, hc5⟩ := HB2.out.rows.sl.1.some' (by omega)
 cases hv5
 obtain ⟨y0, y1, y2, y3, y4, y5⟩ := slot_cells hc5 i hi
 rw [slAt_eq b.now i hi] at y0 y1 y2 y3 y4 y5
 have z1 : (0 : Int) ≤ (i : Int) := by omega
 have z2 : (i : Int) < (b.now.slots.length : Int) := by omega
 have z3 : ¬ (b.now.slots.length : Int) ≤ (i : Int) := by omega
 have HSp : Hid (stepOf b (Bx.slAt b.now i).num = if 0 ≤ talkOf b.talks (Bx.slAt b.now i).num then (tkAt b (talkOf b.talks (Bx.slAt b.now i).num).toNat).at' + 1 else 0) := rfl
 clear hc5
 have hbx := (below_alloc W (slO (Bx.slAt b.now i))).alloc (by simp) (.cells #[.int .i64 (Bx.slAt b.now i).num, .int .i64 (Bx.slAt b.now i).line, .int .i64 (Bx.slAt b.now i).minute, .int .i64 (Bx.slAt b.now i).att, .int .i64 (Bx.slAt b.now i).frm, .int .i64 0] 97)
 have HB4 : Hid (BoxIn _ B b (.slice (some ⟨b5, off5, none⟩) b.now.slots.length cap) (.slice ad2 b.now.ends.length cap2) (.slice ad3 b.talks.length cap3)) := HB2.out.later hbx
 have hlB : B < W.heap.size := HB2.out.ty.lt
 obtain ⟨⟨u0, r0⟩, f0⟩ := HZ.out 0 (by decide)
 obtain ⟨⟨u1, r1⟩, f1⟩ := HZ.out 1 (by decide)
 obtain ⟨⟨u2, r2⟩, f2⟩ := HZ.out 2 (by decide)
 obtain ⟨⟨u3, r3⟩, f3⟩ := HZ.out 3 (by decide)
 obtain ⟨⟨u4, r4⟩, f4⟩ := HZ.out 4 (by decide)
 obtain ⟨⟨u5, r5⟩, f5⟩ := HZ.out 5 (by decide)
 have c8 := HB2.out.c8
 have HRt : Hid (RowAt W (.slice ad3 b.talks.length cap3) b.talks.length (b.talks.flatMap tkC)) := HB2.out.tkr.1
 clear hbx HZ HB2
 go_wp2_with fail
 refine (talk_any b B (Bx.slAt b.now i).num _ _ _ _ (by omega) HB4.out).mono ?_
 rintro e w6 ⟨rfl, hw6⟩
 subst hw6
 have htb := talkOf_bd b.talks (Bx.slAt b.now i).num
 generalize hFF : talkOf b.talks (Bx.slAt b.now i).num = F at *
 clear hFF
 by_cases hneg : F < 0
 ·have HS0 : Hid (stepOf b (Bx.slAt b.now i).num = 0) := by unfold Hid; rw [HSp.out, if_neg (by omega)]
  have q1 : ¬ (0 : Int) ≤ F := by omega
  clear HSp y0 y1 y2 y3 y4 y5
  go_wp2_with fail
  refine bodyPost_ret (v := .tuple #[aslV (Bx.slAt b.now i) 0, .int .i64 0]) (by simp [results, Tryz.results63, go_sem, r0, r1, r2, r3, r4, r5, hqW]) rfl ?_
  rw [HS0.out]
  refine ⟨rfl, Below.alloc (Below.alloc ?_ (by simp; omega) _) (by simp; omega) _⟩
  repeat (refine Below.setCell ?_ (by simp) _)
  exact B3.out
 ·obtain ⟨j, hjF⟩ : ∃ j : Nat, F = j := Int.eq_ofNat_of_zero_le (by omega)
  subst hjF
  have hjj : j < b.talks.length := by omega
  have HS0 : Hid (stepOf b (Bx.slAt b.now i).num = (tkAt b j).at' + 1) := by unfold Hid; rw [HSp.out, if_pos (by omega)]; simp
  have q1 : (0 : Int) ≤ (j : Int) := by omega
  have q2 : (j : Int) < (b.talks.length : Int) := by omega
  obtain ⟨b6, off6, cap6, hv6, _, hc6⟩ := HRt.out.some' (by omega)
  cases hv6
  have t1 : W.cell? ⟨b6, off6 + j * 4 + 1, none⟩ = some (.int .i64 (tkAt b j).at') := by rw [← tkAt_eq b j hjj]; exact RowAt.cell tkC_len hc6 j hjj 1 (by decide)
  have hlb6 : b6 < W.heap.size := World.block_lt_of_cell? _ _ t1
  have hat := HO.out.ats _ (List.getElem_mem hjj)
  rw [tkAt_eq b j hjj] at hat
  have q3 : IntKind.i64.wrap ((tkAt b j).at' + 1) = (tkAt b j).at' + 1 := by rw [IntKind.wrap_i64]; omega
  clear HSp y0 y1 y2 y3 y4 y5 hc6 htb hneg
  go_wp2_with fail
  refine bodyPost_ret (v := .tuple #[aslV (Bx.slAt b.now i) ((tkAt b j).at' + 1), .int .i64 0]) (by simp [results, Tryz.results63, go_sem, r0, r1, r2, r3, r4, r5, hqW]) rfl ?_
  rw [HS0.out]
  refine ⟨rfl, Below.alloc (Below.alloc ?_ (by simp; omega) _) (by simp; omega) _⟩
  repeat (refine Below.setCell ?_ (by simp) _)
  exact B3.out
end Go.Proofs.YtdajolpoiffimaaGreatDoor

namespace Go.Proofs.YtdajolpoiffimaaGreatDoor
open Go.RowKit

end Go.Proofs.YtdajolpoiffimaaGreatDoor

namespace Go.Proofs.YtdajolpoiffimaaGreatDoor
open Go.RowKit

end Go.Proofs.YtdajolpoiffimaaGreatDoor

namespace Go.Proofs.YtdajolpoiffimaaGreatDoor
open Go.RowKit

end Go.Proofs.YtdajolpoiffimaaGreatDoor

namespace Go.Proofs.YtdajolpoiffimaaGreatDoor
open Go.RowKit

end Go.Proofs.YtdajolpoiffimaaGreatDoor

namespace Go.Proofs.YtdajolpoiffimaaGreatDoor
open Go.RowKit

end Go.Proofs.YtdajolpoiffimaaGreatDoor

namespace Go.Proofs.YtdajolpoiffimaaGreatDoor
open Go.RowKit

end Go.Proofs.YtdajolpoiffimaaGreatDoor
