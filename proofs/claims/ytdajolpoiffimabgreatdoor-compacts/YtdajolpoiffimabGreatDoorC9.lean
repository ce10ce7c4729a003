/-
  PrgCTalk, PrgFeed, PrgBStart, PrgTick, PrgX.
-/
import Derived.Deep.RegionHeld3
import Derived.Deep.DrawnRows
import Derived.Test.YtdajolpoiffimabGreatDoorC2
import Derived.Test.YtdajolpoiffimabGreatDoorC3
import Derived.Test.YtdajolpoiffimabGreatDoorC6
import Derived.Test.YtdajolpoiffimabGreatDoorC7
import Derived.Test.YtdajolpoiffimabGreatDoorC8

namespace Go.Proofs.YtdajolpoiffimabGreatDoor
open Go.RowKit

/-- An answer of a text and an error, and the box then. -/
inductive AnsA (p : Px.Bo × ByteArray × Int) (B : Nat) (w : World) : Ending → World → Prop
  | mk (w' : World) (hB : PBx w' B p.1) (hg : w.grownBy w' (some B)) : AnsA p B w (.returned (.tuple #[.string p.2.1, .int .i64 p.2.2])) w'
theorem AnsA.of {p : Px.Bo × ByteArray × Int} {B : Nat} {w w' : World} {b : Px.Bo} {x : ByteArray} {r : Int} (h : p = (b, x, r)) (hB : PBx w' B b) (hg : w.grownBy w' (some B)) : AnsA p B w (.returned (.tuple #[.string x, .int .i64 r])) w' := by
  subst h; exact AnsA.mk w' hB hg
/-- The change Done behind the frames, if the talk is over; then all is kept, or nothing. -/
def ctB (b : Px.Bo) (t : Px.St) (n : Int) (fr said : ByteArray) (over : Bool) : Px.Bo × ByteArray × Int :=
  if over = true then (if ¬ (Px.doneP t n).2 = 0 then (b, ByteArray.empty, (Px.doneP t n).2) else Px.commitB b (Px.doneP t n).1 (fr ++ Bx.frame (Bx.body (chD n))) said) else Px.commitB b t fr said
theorem done_err {t : Px.St} {n : Int} (h : ¬ (Px.doneP t n).2 = 0) : (Px.doneP t n) = (Px.st0, (Px.doneP t n).2) := by
  unfold Px.doneP at h ⊢
  cases q : Px.find t.slots n with
  | none => rfl
  | some x =>
    rw [q] at h
    simp only at h ⊢
    by_cases s : x.step ≤ 0
    · rw [if_pos s]
    · rw [if_neg s] at h; exact absurd rfl h
theorem done_bd (t : Px.St) (n : Int) : (Px.doneP t n).2 = 0 ∨ (Px.doneP t n).2 = 8 ∨ (Px.doneP t n).2 = 9 := by
  unfold Px.doneP
  cases Px.find t.slots n with
  | none => right; left; rfl
  | some x => simp only; split
              · right; right; rfl
              · left; rfl
set_option maxRecDepth 10000 in
set_option maxHeartbeats 4000000 in
theorem commitTalk_no (b : Px.Bo) (B : Nat) (t : Px.St) (n : Int) (fr said : ByteArray) (sl en slt ent : Value) (w : World) (hlg : b.log.size ≤ 10000) (hfr : fr.size ≤ 10000) (hB : PB w B b sl en) (ht : PAt w t slt ent) :
    Calls Tryz.prog 58 #[.pointer (some ⟨B, 0, none⟩), talkV t slt ent said false, .int .i64 n, .string fr] w fun e w' => AnsA (ctB b t n fr said false) B w e w' := by
  obtain ⟨ad, cap, rfl, hcap⟩ := ht.sl.form
  obtain ⟨ad2, cap2, rfl, hcap2⟩ := ht.en.form
  have hb0 := (below_alloc w (.cells #[.string t.tab, .int .i64 t.clock, .int .i64 t.next, .slice ad t.slots.length cap, .slice ad2 t.ends.length cap2, .string said, .bool false] 110)).alloc (by simp) (pstO t (.slice ad t.slots.length cap) (.slice ad2 t.ends.length cap2))
  have hI := PIn.new (w.alloc (.cells #[.string t.tab, .int .i64 t.clock, .int .i64 t.next, .slice ad t.slots.length cap, .slice ad2 t.ends.length cap2, .string said, .bool false] 110)) t (.slice ad t.slots.length cap) (.slice ad2 t.ends.length cap2)
  have hI' : PIn ((w.alloc (.cells #[.string t.tab, .int .i64 t.clock, .int .i64 t.next, .slice ad t.slots.length cap, .slice ad2 t.ends.length cap2, .string said, .bool false] 110)).alloc (pstO t (.slice ad t.slots.length cap) (.slice ad2 t.ends.length cap2))) (w.heap.size + 1) t (.slice ad t.slots.length cap) (.slice ad2 t.ends.length cap2) := by simpa using hI
  have k5 : ((w.alloc (.cells #[.string t.tab, .int .i64 t.clock, .int .i64 t.next, .slice ad t.slots.length cap, .slice ad2 t.ends.length cap2, .string said, .bool false] 110)).alloc (pstO t (.slice ad t.slots.length cap) (.slice ad2 t.ends.length cap2))).cell? ⟨w.heap.size, 5, none⟩ = some (.string said) := cell_later (below_alloc _ _) (by simp [go_sem])
  have k6 : ((w.alloc (.cells #[.string t.tab, .int .i64 t.clock, .int .i64 t.next, .slice ad t.slots.length cap, .slice ad2 t.ends.length cap2, .string said, .bool false] 110)).alloc (pstO t (.slice ad t.slots.length cap) (.slice ad2 t.ends.length cap2))).cell? ⟨w.heap.size, 6, none⟩ = some (.bool false) := cell_later (below_alloc _ _) (by simp [go_sem])
  have hBlt := hB.ty.lt
  have HB1 := hB.later hb0
  have HA1 := ht.later hb0
  have HG1 := grow_of_below hb0 (some B)
  clear hI hB ht hb0
  go_enter Tryz.func58, Tryz.ntmps58
  go_upto_region 2 with fail
  generalize (w.alloc (.cells #[.string t.tab, .int .i64 t.clock, .int .i64 t.next, .slice ad t.slots.length cap, .slice ad2 t.ends.length cap2, .string said, .bool false] 110)).alloc (pstO t (.slice ad t.slots.length cap) (.slice ad2 t.ends.length cap2)) = W at *
  have HB1' : Hid (PB W B b sl en) := HB1
  have HA1' : Hid (PAt W t (.slice ad t.slots.length cap) (.slice ad2 t.ends.length cap2)) := HA1
  have HG1' : Hid (w.grownBy W (some B)) := HG1
  have HK5 : Hid (W.cell? ⟨w.heap.size, 5, none⟩ = some (.string said)) := k5
  have hne : some w.heap.size ≠ some B := by intro e; cases e; omega
  obtain ⟨i0, i1, i2, i3, i4⟩ := hI'
  clear HB1 HA1 HG1
  go_wp2_with fail
  refine (commit_any b B t fr _ _ _ _ _ (by omega) (by omega) HB1'.out HA1'.out).mono ?_
  intro e w5 hcm
  clear i0 i1 i2 i3 i4 k5 k6
  have HM : Hid (ctB b t n fr said false = Px.commitB b t fr said) := by unfold Hid ctB; rw [if_neg (by simp)]
  have HBx : Hid (PB W B b sl en) := HB1'.out
  have HGx : Hid (w.grownBy W (some B)) := HG1'.out
  cases hcm with
  | no _ h hb =>
    have HM2 : Hid (AnsA (ctB b t n fr said false) B w (.returned (.tuple #[.string ByteArray.empty, .int .i64 13])) w5) := AnsA.of (by rw [HM.out]; unfold Px.commitB; rw [if_pos h]) ⟨_, _, HBx.out.later hb⟩ (grow_trans HGx.out (grow_of_below hb _))
    clear hb h
    go_wp2_with fail
    go_ret2
    exact HM2.out
  | yes _ h hB hg =>
    have HM2 : Hid (AnsA (ctB b t n fr said false) B w (.returned (.tuple #[.string said, .int .i64 0])) w5) := AnsA.of (by rw [HM.out]; unfold Px.commitB; rw [if_neg h]) ⟨_, _, hB⟩ (grow_trans HGx.out hg)
    have k5 := hg.cell HK5.out hne
    clear hB hg h
    go_wp2_with fail
    go_ret2
    exact HM2.out

set_option maxRecDepth 10000 in
set_option maxHeartbeats 4000000 in
theorem commitTalk_yes (b : Px.Bo) (B : Nat) (t : Px.St) (n : Int) (fr said : ByteArray) (sl en slt ent : Value) (w : World) (hlg : b.log.size ≤ 10000) (hfr : fr.size ≤ 10000) (hl : t.slots.length ≤ 10000) (he : t.ends.length ≤ 10000) (n1 : 0 ≤ n) (n2 : n ≤ 100000) (hB : PB w B b sl en) (ht : PAt w t slt ent) :
    Calls Tryz.prog 58 #[.pointer (some ⟨B, 0, none⟩), talkV t slt ent said true, .int .i64 n, .string fr] w fun e w' => AnsA (ctB b t n fr said true) B w e w' := by
  obtain ⟨ad, cap, rfl, hcap⟩ := ht.sl.form
  obtain ⟨ad2, cap2, rfl, hcap2⟩ := ht.en.form
  have hb0 := (below_alloc w (.cells #[.string t.tab, .int .i64 t.clock, .int .i64 t.next, .slice ad t.slots.length cap, .slice ad2 t.ends.length cap2, .string said, .bool true] 110)).alloc (by simp) (pstO t (.slice ad t.slots.length cap) (.slice ad2 t.ends.length cap2))
  have hI := PW.new (w.alloc (.cells #[.string t.tab, .int .i64 t.clock, .int .i64 t.next, .slice ad t.slots.length cap, .slice ad2 t.ends.length cap2, .string said, .bool true] 110)) t (.slice ad t.slots.length cap) (.slice ad2 t.ends.length cap2)
  have hI' : PW ((w.alloc (.cells #[.string t.tab, .int .i64 t.clock, .int .i64 t.next, .slice ad t.slots.length cap, .slice ad2 t.ends.length cap2, .string said, .bool true] 110)).alloc (pstO t (.slice ad t.slots.length cap) (.slice ad2 t.ends.length cap2))) (w.heap.size + 1) t (.slice ad t.slots.length cap) (.slice ad2 t.ends.length cap2) := by simpa using hI
  have k5 : ((w.alloc (.cells #[.string t.tab, .int .i64 t.clock, .int .i64 t.next, .slice ad t.slots.length cap, .slice ad2 t.ends.length cap2, .string said, .bool true] 110)).alloc (pstO t (.slice ad t.slots.length cap) (.slice ad2 t.ends.length cap2))).cell? ⟨w.heap.size, 5, none⟩ = some (.string said) := cell_later (below_alloc _ _) (by simp [go_sem])
  have k6 : ((w.alloc (.cells #[.string t.tab, .int .i64 t.clock, .int .i64 t.next, .slice ad t.slots.length cap, .slice ad2 t.ends.length cap2, .string said, .bool true] 110)).alloc (pstO t (.slice ad t.slots.length cap) (.slice ad2 t.ends.length cap2))).cell? ⟨w.heap.size, 6, none⟩ = some (.bool true) := cell_later (below_alloc _ _) (by simp [go_sem])
  have hBlt := hB.ty.lt
  have HBw : Hid (PB w B b sl en) := hB
  have HB1 := hB.later hb0
  have HA1 := ht.later hb0
  clear hI hB ht
  go_enter Tryz.func58, Tryz.ntmps58
  go_upto_region 2 with fail
  generalize (w.alloc (.cells #[.string t.tab, .int .i64 t.clock, .int .i64 t.next, .slice ad t.slots.length cap, .slice ad2 t.ends.length cap2, .string said, .bool true] 110)).alloc (pstO t (.slice ad t.slots.length cap) (.slice ad2 t.ends.length cap2)) = W at *
  have HB1' : Hid (PB W B b sl en) := HB1
  have HA1' : Hid (PAt W t (.slice ad t.slots.length cap) (.slice ad2 t.ends.length cap2)) := HA1
  have HI1 : Hid (PW W (w.heap.size + 1) t (.slice ad t.slots.length cap) (.slice ad2 t.ends.length cap2)) := hI'
  have HBl1 : Hid (Below w.heap.size w W) := hb0
  have HK5 : Hid (W.cell? ⟨w.heap.size, 5, none⟩ = some (.string said)) := k5
  have hne : some w.heap.size ≠ some B := by intro e; cases e; omega
  obtain ⟨i0, i1, i2, i3, i4⟩ := hI'.st
  clear HB1 HA1 hI' hb0
  go_wp2_with fail
  refine (withDone_any t n _ _ _ hl he HA1'.out).mono ?_
  rintro e w2 ⟨⟨sl2, en2, rfl, hat2⟩, hb2⟩
  obtain ⟨ad3, cap3, hv3, _⟩ := hat2.sl.form
  obtain ⟨ad4, cap4, hv4, _⟩ := hat2.en.form
  subst hv3 hv4
  clear i0 i1 i2 i3 i4 k5 k6
  have HB2 := HB1'.out.later hb2
  have HI2 := HI1.out.later hb2
  have HBl2 := HBl1.out.trans (hb2.mono HBl1.out.size)
  have k52 := cell_later hb2 HK5.out
  clear hb2 HB1' HI1 HBl1 HK5 HA1'
  by_cases hd : (Px.doneP t n).2 = 0
  rotate_left
  · have HM : Hid (ctB b t n fr said true = (b, ByteArray.empty, (Px.doneP t n).2)) := by unfold Hid ctB; rw [if_pos rfl, if_pos hd]
    have hd' : ((Px.doneP t n).2 != 0) = true := by simpa using hd
    have hbd := done_bd t n
    have HBx : Hid (∀ o, PB (w2.alloc o) B b sl en) := fun o => HB2.later (below_alloc w2 o)
    have HGx : Hid (∀ o, w.grownBy (w2.alloc o) (some B)) := fun o => grow_of_below (HBl2.alloc HBl2.size o) _
    clear hd HB2 HI2 HBl2 k52 hat2
    go_wp2_with fail
    go_ret2
    exact AnsA.of HM.out ⟨_, _, HBx.out _⟩ (HGx.out _)
  · have HD : Hid (Px.doneP t n = (Px.ended t n Bx.hD, 0)) := by
      unfold Hid
      unfold Px.doneP at hd ⊢
      cases q : Px.find t.slots n with
      | none => rw [q] at hd; cases hd
      | some x =>
        rw [q] at hd; simp only at hd ⊢
        by_cases s : x.step ≤ 0
        · rw [if_pos s] at hd; cases hd
        · rw [if_neg s]
    have HM : Hid (ctB b t n fr said true = Px.commitB b (Px.ended t n Bx.hD) (fr ++ Bx.frame (Bx.body (chD n))) said) := by
      unfold Hid ctB; rw [if_pos rfl, if_neg (by rw [hd]; simp), HD.out]
    rw [HD.out] at hat2 ⊢
    clear hd HD
    generalize Px.ended t n Bx.hD = u at *
    have HI3 := HI2.later (below_alloc w2 (pstO u (.slice ad3 u.slots.length cap3) (.slice ad4 u.ends.length cap4)))
    have HU3 := PIn.new w2 u (.slice ad3 u.slots.length cap3) (.slice ad4 u.ends.length cap4)
    have HA3 := hat2.later (below_alloc w2 (pstO u (.slice ad3 u.slots.length cap3) (.slice ad4 u.ends.length cap4)))
    have HBl3 := HBl2.alloc HBl2.size (pstO u (.slice ad3 u.slots.length cap3) (.slice ad4 u.ends.length cap4))
    have k53 := cell_later (below_alloc w2 (pstO u (.slice ad3 u.slots.length cap3) (.slice ad4 u.ends.length cap4))) k52
    clear HB2 HI2 hat2 HBl2 k52
    go_upto_region 4 with fail
    generalize w2.alloc (pstO u (.slice ad3 u.slots.length cap3) (.slice ad4 u.ends.length cap4)) = W3 at *
    generalize w2.heap.size = dq at *
    have HI4 : PW (((((W3.setCell ⟨w.heap.size + 1, 0, none⟩ (.string u.tab)).setCell ⟨w.heap.size + 1, 1, none⟩ (.int .i64 u.clock)).setCell ⟨w.heap.size + 1, 2, none⟩ (.int .i64 u.next)).setCell ⟨w.heap.size + 1, 3, none⟩ (.slice ad3 u.slots.length cap3)).setCell ⟨w.heap.size + 1, 4, none⟩ (.slice ad4 u.ends.length cap4)) (w.heap.size + 1) u (.slice ad3 u.slots.length cap3) (.slice ad4 u.ends.length cap4) := HI3.put u (.slice ad3 u.slots.length cap3) (.slice ad4 u.ends.length cap4)
    have HA4 : PAt (((((W3.setCell ⟨w.heap.size + 1, 0, none⟩ (.string u.tab)).setCell ⟨w.heap.size + 1, 1, none⟩ (.int .i64 u.clock)).setCell ⟨w.heap.size + 1, 2, none⟩ (.int .i64 u.next)).setCell ⟨w.heap.size + 1, 3, none⟩ (.slice ad3 u.slots.length cap3)).setCell ⟨w.heap.size + 1, 4, none⟩ (.slice ad4 u.ends.length cap4)) u (.slice ad3 u.slots.length cap3) (.slice ad4 u.ends.length cap4) := HA3.store HI3.ty _ _ _ _ _
    have HBl4 : Below w.heap.size w (((((W3.setCell ⟨w.heap.size + 1, 0, none⟩ (.string u.tab)).setCell ⟨w.heap.size + 1, 1, none⟩ (.int .i64 u.clock)).setCell ⟨w.heap.size + 1, 2, none⟩ (.int .i64 u.next)).setCell ⟨w.heap.size + 1, 3, none⟩ (.slice ad3 u.slots.length cap3)).setCell ⟨w.heap.size + 1, 4, none⟩ (.slice ad4 u.ends.length cap4)) := below_set5' HBl3 (by omega) _ _ _ _ _
    have k54 : (((((W3.setCell ⟨w.heap.size + 1, 0, none⟩ (.string u.tab)).setCell ⟨w.heap.size + 1, 1, none⟩ (.int .i64 u.clock)).setCell ⟨w.heap.size + 1, 2, none⟩ (.int .i64 u.next)).setCell ⟨w.heap.size + 1, 3, none⟩ (.slice ad3 u.slots.length cap3)).setCell ⟨w.heap.size + 1, 4, none⟩ (.slice ad4 u.ends.length cap4)).cell? ⟨w.heap.size, 5, none⟩ = some (.string said) := by simp [go_sem, k53]
    obtain ⟨i0, i1, i2, i3, i4⟩ := HI3.st
    have g0 := HI3.f 0 (by decide); have g1 := HI3.f 1 (by decide); have g2 := HI3.f 2 (by decide); have g3 := HI3.f 3 (by decide); have g4 := HI3.f 4 (by decide)
    have hq3 := HI3.ty.lt
    obtain ⟨d0, d1, d2, d3, d4⟩ := HU3
    clear HI3 HA3 HBl3 k53
    go_upto_region 7 with fail
    clear i0 i1 i2 i3 i4 g0 g1 g2 g3 g4 d0 d1 d2 d3 d4
    generalize ((((W3.setCell ⟨w.heap.size + 1, 0, none⟩ (.string u.tab)).setCell ⟨w.heap.size + 1, 1, none⟩ (.int .i64 u.clock)).setCell ⟨w.heap.size + 1, 2, none⟩ (.int .i64 u.next)).setCell ⟨w.heap.size + 1, 3, none⟩ (.slice ad3 u.slots.length cap3)).setCell ⟨w.heap.size + 1, 4, none⟩ (.slice ad4 u.ends.length cap4) = W5 at *
    have HI5 : Hid (PW W5 (w.heap.size + 1) u (.slice ad3 u.slots.length cap3) (.slice ad4 u.ends.length cap4)) := HI4
    have HA5 : Hid (PAt W5 u (.slice ad3 u.slots.length cap3) (.slice ad4 u.ends.length cap4)) := HA4
    have HBl5 : Hid (Below w.heap.size w W5) := HBl4
    have HK55 : Hid (W5.cell? ⟨w.heap.size, 5, none⟩ = some (.string said)) := k54
    clear HI4 HA4 HBl4 k54
    have hfz := frame_sz (chD n) (by show (0 : Nat) ≤ 300; omega)
    go_wp2_with fail
    refine (fdone_any n _ n1 n2).mono ?_
    rintro e w6 ⟨rfl, hb6⟩
    have HBx : Hid (PB w6 B b sl en) := HBw.out.later (HBl5.out.trans (hb6.mono HBl5.out.size))
    have HGx : Hid (w.grownBy w6 (some B)) := grow_of_below (HBl5.out.trans (hb6.mono HBl5.out.size)) _
    have HA6 : Hid (PAt w6 u (.slice ad3 u.slots.length cap3) (.slice ad4 u.ends.length cap4)) := HA5.out.later hb6
    obtain ⟨i0, i1, i2, i3, i4⟩ := (HI5.out.later hb6).st
    have HK5 : Hid (w6.cell? ⟨w.heap.size, 5, none⟩ = some (.string said)) := cell_later hb6 HK55.out
    have hap : (fr ++ Bx.frame (Bx.body (chD n))).size ≤ 100000 := by rw [ByteArray.size_append]; omega
    have hap2 : ¬ 9223372036854775807 < fr.size + (Bx.frame (Bx.body (chD n))).size := by omega
    generalize Bx.frame (Bx.body (chD n)) = fd at *
    clear hb6 HI5 HA5 HBl5 HK55
    go_wp2_with fail
    refine (commit_any b B u (fr ++ fd) _ _ _ _ _ (by omega) hap HBx.out HA6.out).mono ?_
    intro e w5 hcm
    clear i0 i1 i2 i3 i4
    cases hcm with
    | no _ h hb =>
      have HM2 : Hid (AnsA (ctB b t n fr said true) B w (.returned (.tuple #[.string ByteArray.empty, .int .i64 13])) w5) := AnsA.of (by rw [HM.out]; unfold Px.commitB; rw [if_pos h]) ⟨_, _, HBx.out.later hb⟩ (grow_trans HGx.out (grow_of_below hb _))
      clear hb h
      go_wp2_with fail
      go_ret2
      exact HM2.out
    | yes _ h hB hg =>
      have HM2 : Hid (AnsA (ctB b t n fr said true) B w (.returned (.tuple #[.string said, .int .i64 0])) w5) := AnsA.of (by rw [HM.out]; unfold Px.commitB; rw [if_neg h]) ⟨_, _, hB⟩ (grow_trans HGx.out hg)
      have k5 := hg.cell HK5.out hne
      clear hB hg h
      go_wp2_with fail
      go_ret2
      exact HM2.out
end Go.Proofs.YtdajolpoiffimabGreatDoor

namespace Go.Proofs.YtdajolpoiffimabGreatDoor
open Go.RowKit

theorem talkB_eq (b : Px.Bo) (s : Px.St) (n : Int) (x fr : ByteArray) (y : Px.Sl) (hf : Px.find s.slots n = some y) (hs : ¬ y.step ≤ 0) :
    Px.talkB b s n x fr = ctB b (Px.talkT s y x) n fr (Px.talkS s y x).2 (decide (((Px.stepsL s y).length : Int) < (Px.talkS s y x).1.step)) := by
  unfold Px.talkB ctB
  rw [hf]
  simp only
  rw [if_neg hs]
  by_cases q : ((Px.stepsL s y).length : Int) < (Px.talkS s y x).1.step
  · rw [if_pos q, if_pos (decide_eq_true q)]
  · rw [if_neg q, if_neg (by simp [q])]
theorem repl_len (l : List Px.Sl) (x : Px.Sl) : (Px.repl l x).length = l.length := by simp [Px.repl]
set_option maxRecDepth 10000 in
set_option maxHeartbeats 4000000 in
theorem pfeed_any (b : Px.Bo) (B : Nat) (n : Int) (x : ByteArray) (sl en : Value) (w : World) (hO : Px.Ok b.st) (hlg : b.log.size ≤ 10000) (hT : TabLH w) (hB : PB w B b sl en) :
    Calls Tryz.prog 28 #[.pointer (some ⟨B, 0, none⟩), .int .i64 n, .string x] w fun e w' => AnsA (Px.feedB b n x) B w e w' := by
  obtain ⟨ad, cap, rfl, hcap⟩ := hB.rows.sl.form
  obtain ⟨ad2, cap2, rfl, hcap2⟩ := hB.rows.en.form
  have HB : Hid (PB w B b (.slice ad b.st.slots.length cap) (.slice ad2 b.st.ends.length cap2)) := hB
  have HT : Hid (TabLH w) := hT
  have HO : Hid (Px.Ok b.st) := hO
  have hl : b.st.slots.length ≤ 8 := hO.len
  have he : b.st.ends.length ≤ 6 := hO.st.en
  have hlt := hB.ty.lt
  have e2 := hB.c2; have e3 := hB.c3; have e4 := hB.c4; have e5 := hB.c5; have e6 := hB.c6
  clear hB hT hO
  by_cases h40 : 40 < x.size
  · have HM : Hid (Px.feedB b n x = (b, ByteArray.empty, 1)) := if_pos h40
    have h40' : (40 : Int) < (x.size : Int) := by omega
    go_enter Tryz.func28, Tryz.ntmps28
    go_wp2_with fail
    go_ret2
    exact AnsA.of HM.out ⟨_, _, HB.out⟩ (grow_refl _ _)
  have HM0 : Hid (Px.feedB b n x = Px.talkB b b.st n x ByteArray.empty) := if_neg h40
  have h40' : ¬ (40 : Int) < (x.size : Int) := by omega
  go_enter Tryz.func28, Tryz.ntmps28
  go_wp2_with fail
  refine (hear_any b.st n x _ _ _ HO.out (by omega) HT.out HB.out.rows).mono ?_
  rintro e w1 ⟨hR, hb1⟩
  have HB1 := HB.out.later hb1
  have HG1 := grow_of_below hb1 (some B)
  clear e2 e3 e4 e5 e6 hb1
  cases hR with
  | none h =>
    have HM : Hid (Px.feedB b n x = (b, ByteArray.empty, 8)) := by unfold Hid; rw [HM0.out]; unfold Px.talkB; rw [h]
    have HBx : Hid (∀ o, PB (w1.alloc o) B b (.slice ad b.st.slots.length cap) (.slice ad2 b.st.ends.length cap2)) := fun o => HB1.later (below_alloc w1 o)
    have HGx : Hid (∀ o, w.grownBy (w1.alloc o) (some B)) := fun o => grow_trans HG1 (grow_of_below (below_alloc w1 o) _)
    clear HB1 HG1 h
    go_wp2_with fail
    go_ret2
    exact AnsA.of HM.out ⟨_, _, HBx.out _⟩ (HGx.out _)
  | wait y h hs =>
    have HM : Hid (Px.feedB b n x = (b, ByteArray.empty, 9)) := by unfold Hid; rw [HM0.out]; unfold Px.talkB; rw [h]; simp only; rw [if_pos hs]
    have HBx : Hid (∀ o, PB (w1.alloc o) B b (.slice ad b.st.slots.length cap) (.slice ad2 b.st.ends.length cap2)) := fun o => HB1.later (below_alloc w1 o)
    have HGx : Hid (∀ o, w.grownBy (w1.alloc o) (some B)) := fun o => grow_trans HG1 (grow_of_below (below_alloc w1 o) _)
    clear HB1 HG1 h hs
    go_wp2_with fail
    go_ret2
    exact AnsA.of HM.out ⟨_, _, HBx.out _⟩ (HGx.out _)
  | ok y sl2 en2 said over t h hs ht h1 h2 ha =>
    have HM : Hid (Px.feedB b n x = ctB b t n ByteArray.empty said over) := by unfold Hid; rw [HM0.out, talkB_eq b b.st n x _ y h hs, ht, h1, h2]
    have hn : 0 ≤ n ∧ n ≤ 100000 := by
      have hm := List.mem_of_find?_eq_some h
      have hnn : y.num = n := by simpa using List.find?_some h
      have := HO.out.each hm; have : b.st.next ≤ 10000 := HO.out.st.n2
      omega
    have htl : t.slots.length ≤ 10000 ∧ t.ends.length ≤ 10000 := by
      rw [ht]
      have : (Px.talkT b.st y x).slots.length = b.st.slots.length := repl_len _ _
      have : (Px.talkT b.st y x).ends = b.st.ends := rfl
      constructor
      · omega
      · rw [this]; omega
    obtain ⟨ad3, cap3, hv3, _⟩ := ha.sl.form
    obtain ⟨ad4, cap4, hv4, _⟩ := ha.en.form
    subst hv3 hv4
    have HB2 := HB1.later (below_alloc w1 (.cells #[.string t.tab, .int .i64 t.clock, .int .i64 t.next, .slice ad3 t.slots.length cap3, .slice ad4 t.ends.length cap4, .string said, .bool over] 110))
    have HA2 := ha.later (below_alloc w1 (.cells #[.string t.tab, .int .i64 t.clock, .int .i64 t.next, .slice ad3 t.slots.length cap3, .slice ad4 t.ends.length cap4, .string said, .bool over] 110))
    have HG2 := grow_trans HG1 (grow_of_below (below_alloc w1 (.cells #[.string t.tab, .int .i64 t.clock, .int .i64 t.next, .slice ad3 t.slots.length cap3, .slice ad4 t.ends.length cap4, .string said, .bool over] 110)) (some B))
    have y0 : (w1.alloc (.cells #[.string t.tab, .int .i64 t.clock, .int .i64 t.next, .slice ad3 t.slots.length cap3, .slice ad4 t.ends.length cap4, .string said, .bool over] 110)).cell? ⟨w1.heap.size, 0, none⟩ = some (.string t.tab) := by simp [go_sem]
    have y1 : (w1.alloc (.cells #[.string t.tab, .int .i64 t.clock, .int .i64 t.next, .slice ad3 t.slots.length cap3, .slice ad4 t.ends.length cap4, .string said, .bool over] 110)).cell? ⟨w1.heap.size, 1, none⟩ = some (.int .i64 t.clock) := by simp [go_sem]
    have y2 : (w1.alloc (.cells #[.string t.tab, .int .i64 t.clock, .int .i64 t.next, .slice ad3 t.slots.length cap3, .slice ad4 t.ends.length cap4, .string said, .bool over] 110)).cell? ⟨w1.heap.size, 2, none⟩ = some (.int .i64 t.next) := by simp [go_sem]
    have y3 : (w1.alloc (.cells #[.string t.tab, .int .i64 t.clock, .int .i64 t.next, .slice ad3 t.slots.length cap3, .slice ad4 t.ends.length cap4, .string said, .bool over] 110)).cell? ⟨w1.heap.size, 3, none⟩ = some (.slice ad3 t.slots.length cap3) := by simp [go_sem]
    have y4 : (w1.alloc (.cells #[.string t.tab, .int .i64 t.clock, .int .i64 t.next, .slice ad3 t.slots.length cap3, .slice ad4 t.ends.length cap4, .string said, .bool over] 110)).cell? ⟨w1.heap.size, 4, none⟩ = some (.slice ad4 t.ends.length cap4) := by simp [go_sem]
    have y5 : (w1.alloc (.cells #[.string t.tab, .int .i64 t.clock, .int .i64 t.next, .slice ad3 t.slots.length cap3, .slice ad4 t.ends.length cap4, .string said, .bool over] 110)).cell? ⟨w1.heap.size, 5, none⟩ = some (.string said) := by simp [go_sem]
    have y6 : (w1.alloc (.cells #[.string t.tab, .int .i64 t.clock, .int .i64 t.next, .slice ad3 t.slots.length cap3, .slice ad4 t.ends.length cap4, .string said, .bool over] 110)).cell? ⟨w1.heap.size, 6, none⟩ = some (.bool over) := by simp [go_sem]
    clear HB1 HG1 h hs ht h1 h2 ha
    go_upto_region 4 with fail
    generalize w1.alloc (.cells #[.string t.tab, .int .i64 t.clock, .int .i64 t.next, .slice ad3 t.slots.length cap3, .slice ad4 t.ends.length cap4, .string said, .bool over] 110) = W2 at *
    generalize w1.heap.size = tq at *
    have HB2' : Hid (PB W2 B b (.slice ad b.st.slots.length cap) (.slice ad2 b.st.ends.length cap2)) := HB2
    have HA2' : Hid (PAt W2 t (.slice ad3 t.slots.length cap3) (.slice ad4 t.ends.length cap4)) := HA2
    have HG2' : Hid (w.grownBy W2 (some B)) := HG2
    clear HB2 HA2 HG2
    have HX : Hid (∀ e w3, AnsA (ctB b t n ByteArray.empty said over) B W2 e w3 → ∃ y r, e = .returned (.tuple #[.string y, .int .i64 r]) ∧ AnsA (Px.feedB b n x) B w (.returned (.tuple #[.string y, .int .i64 r])) w3) := by
      intro e w3 hA
      cases hA with
      | mk _ hB hg => exact ⟨_, _, rfl, by rw [← HM.out] at hB ⊢; exact AnsA.mk w3 hB (grow_trans HG2'.out hg)⟩
    have hc := htl.1
    have hd := htl.2
    cases over
    · go_wp2_with fail
      refine (commitTalk_no b B t n _ said _ _ _ _ W2 hlg (by decide) HB2'.out HA2'.out).mono ?_
      intro e w3 hA3
      obtain ⟨y', r', rfl, hF⟩ := HX.out _ _ hA3
      have HF : Hid (AnsA (Px.feedB b n x) B w (.returned (.tuple #[.string y', .int .i64 r'])) w3) := hF
      clear hA3 hF y0 y1 y2 y3 y4 y5 y6
      go_wp2_with fail
      go_ret2
      exact HF.out
    · go_wp2_with fail
      refine (commitTalk_yes b B t n _ said _ _ _ _ W2 hlg (by decide) hc hd hn.1 hn.2 HB2'.out HA2'.out).mono ?_
      intro e w3 hA3
      obtain ⟨y', r', rfl, hF⟩ := HX.out _ _ hA3
      have HF : Hid (AnsA (Px.feedB b n x) B w (.returned (.tuple #[.string y', .int .i64 r'])) w3) := hF
      clear hA3 hF y0 y1 y2 y3 y4 y5 y6
      go_wp2_with fail
      go_ret2
      exact HF.out
end Go.Proofs.YtdajolpoiffimabGreatDoor

namespace Go.Proofs.YtdajolpoiffimabGreatDoor
open Go.RowKit

theorem start_okP {s : Px.St} (h : Px.Ok s) (n : Int) (h0 : (Px.startP s n).2 = 0) : Px.Ok (Px.startP s n).1 ∧ (Px.startP s n).1.slots.length = s.slots.length ∧ 0 ≤ n ∧ n ≤ 100000 := by
  rcases Px.start_abs h.dist n with ⟨e8, hf⟩ | ⟨i, hi, hF, hn, hc⟩
  · omega
  rcases hc with ⟨e, q⟩ | ⟨e, q1, q2⟩ | ⟨e, q1, q2, q3⟩ | ⟨e, q1, q2, q3, q4, q5⟩
  · omega
  · omega
  · omega
  have hy : s.slots[i] ∈ s.slots := List.getElem_mem hi
  have hst : Bx.StOk (Px.abs (Px.startP s n).1) := by
    have := Bx.about_ok h.st 83 n
    rw [q5] at this; exact this
  have hh0 := h.ex _ hy
  have hyh : s.slots[i].heard = ByteArray.empty := hh0.2.2.2.2.2 (by omega)
  obtain ⟨s1, s5, sz⟩ := Px.steps_size h hy
  have he := h.each hy
  have hnx : s.next ≤ 10000 := h.st.n2
  refine ⟨?_, ?_, by omega, by omega⟩
  · rw [q4] at hst ⊢
    exact h.repl _ hst ⟨h.st.c1, h.st.c2, by show (0 : Int) ≤ 1; omega, by show (1 : Int) ≤ ((Px.stepsL s s.slots[i]).length : Int); omega, by show s.slots[i].heard.size ≤ 8; omega, fun q => by simp [Px.beg] at q⟩
  · rw [q4]; exact repl_len _ _
theorem start_bd (s : Px.St) (n : Int) : (Px.startP s n).2 = 0 ∨ (Px.startP s n).2 = 8 ∨ (Px.startP s n).2 = 9 ∨ (Px.startP s n).2 = 10 ∨ (Px.startP s n).2 = 11 := by
  unfold Px.startP
  cases Px.find s.slots n with
  | none => right; left; rfl
  | some x => simp only; repeat' split
              all_goals simp

set_option maxRecDepth 10000 in
set_option maxHeartbeats 4000000 in
theorem pstart_any (b : Px.Bo) (B : Nat) (n : Int) (sl en : Value) (w : World) (hO : Px.Ok b.st) (hlg : b.log.size ≤ 10000) (hT : TabLH w) (hB : PB w B b sl en) :
    Calls Tryz.prog 25 #[.pointer (some ⟨B, 0, none⟩), .int .i64 n] w fun e w' => AnsA (Px.startB b n) B w e w' := by
  obtain ⟨ad, cap, rfl, hcap⟩ := hB.rows.sl.form
  obtain ⟨ad2, cap2, rfl, hcap2⟩ := hB.rows.en.form
  have HB : Hid (PB w B b (.slice ad b.st.slots.length cap) (.slice ad2 b.st.ends.length cap2)) := hB
  have HT : Hid (TabLH w) := hT
  have HO : Hid (Px.Ok b.st) := hO
  have hl : b.st.slots.length ≤ 8 := hO.len
  have he : b.st.ends.length ≤ 6 := hO.st.en
  have hlt := hB.ty.lt
  have e2 := hB.c2; have e3 := hB.c3; have e4 := hB.c4; have e5 := hB.c5; have e6 := hB.c6
  clear hB hT hO
  go_enter Tryz.func25, Tryz.ntmps25
  go_wp2_with fail
  refine (withStart_any b.st n _ _ _ HO.out HT.out HB.out.rows).mono ?_
  rintro e w1 ⟨⟨slt, ent, rfl, hat⟩, hb1⟩
  have HB1 := HB.out.later hb1
  have HG1 := grow_of_below hb1 (some B)
  have HT1 := HT.out.later hb1
  clear e2 e3 e4 e5 e6 hb1
  obtain ⟨ad3, cap3, hv3, _⟩ := hat.sl.form
  obtain ⟨ad4, cap4, hv4, _⟩ := hat.en.form
  subst hv3 hv4
  have hbd := start_bd b.st n
  by_cases hd : (Px.startP b.st n).2 = 0
  rotate_left
  · have HM : Hid (Px.startB b n = (b, ByteArray.empty, (Px.startP b.st n).2)) := by unfold Hid Px.startB; rw [if_pos hd]
    have hd' : ((Px.startP b.st n).2 != 0) = true := by simpa using hd
    have HBx : Hid (∀ o, PB (w1.alloc o) B b (.slice ad b.st.slots.length cap) (.slice ad2 b.st.ends.length cap2)) := fun o => HB1.later (below_alloc w1 o)
    have HGx : Hid (∀ o, w.grownBy (w1.alloc o) (some B)) := fun o => grow_trans HG1 (grow_of_below (below_alloc w1 o) _)
    clear hd HB1 HG1 hat HT1
    generalize (Px.startP b.st n).2 = r at *
    generalize (Px.startP b.st n).1 = t at *
    go_wp2_with fail
    go_ret2
    exact AnsA.of HM.out ⟨_, _, HBx.out _⟩ (HGx.out _)
  obtain ⟨hok1, hlen1, hn1, hn2⟩ := start_okP HO.out n hd
  have HOT : Hid (Px.Ok (Px.startP b.st n).1) := hok1
  have htl : (Px.startP b.st n).1.slots.length ≤ 8 := hok1.len
  have hte : (Px.startP b.st n).1.ends.length ≤ 6 := hok1.st.en
  have HM0 : Hid (Px.startB b n = if b.limit < ((Px.runs (Px.startP b.st n).1 : Nat) : Int) then (b, ByteArray.empty, 12) else Px.talkB b (Px.startP b.st n).1 n ByteArray.empty (Bx.frame (Bx.body (chS n)))) := by
    unfold Hid Px.startB; rw [if_neg (by omega)]
  rw [hd]
  clear hbd hd hok1 hlen1
  generalize (Px.startP b.st n).1 = t at *
  have HB2 := HB1.later (below_alloc w1 (pstO t (.slice ad3 t.slots.length cap3) (.slice ad4 t.ends.length cap4)))
  have HG2 := grow_trans HG1 (grow_of_below (below_alloc w1 (pstO t (.slice ad3 t.slots.length cap3) (.slice ad4 t.ends.length cap4))) (some B))
  have HA2 := hat.later (below_alloc w1 (pstO t (.slice ad3 t.slots.length cap3) (.slice ad4 t.ends.length cap4)))
  have HT2 := HT1.later (below_alloc w1 (pstO t (.slice ad3 t.slots.length cap3) (.slice ad4 t.ends.length cap4)))
  have HI2 := PIn.new w1 t (.slice ad3 t.slots.length cap3) (.slice ad4 t.ends.length cap4)
  have hq2 : w1.heap.size < (w1.alloc (pstO t (.slice ad3 t.slots.length cap3) (.slice ad4 t.ends.length cap4))).heap.size := by simp
  clear HB1 HG1 hat HT1
  go_upto_region 2 with fail
  generalize w1.alloc (pstO t (.slice ad3 t.slots.length cap3) (.slice ad4 t.ends.length cap4)) = W2 at *
  generalize w1.heap.size = tq at *
  have HB2' : Hid (PB W2 B b (.slice ad b.st.slots.length cap) (.slice ad2 b.st.ends.length cap2)) := HB2
  have HG2' : Hid (w.grownBy W2 (some B)) := HG2
  have HA2' : Hid (PAt W2 t (.slice ad3 t.slots.length cap3) (.slice ad4 t.ends.length cap4)) := HA2
  have HT2' : Hid (TabLH W2) := HT2
  have HI2' : Hid (PIn W2 tq t (.slice ad3 t.slots.length cap3) (.slice ad4 t.ends.length cap4)) := HI2
  obtain ⟨i0, i1, i2, i3, i4⟩ := HI2
  have c0 := HB2.c0
  have hB2 : B < W2.heap.size := HB2.ty.lt
  have hrl : ((Px.runs t : Nat) : Int) ≤ 100 := by
    have : Px.runs t ≤ t.slots.length := by unfold Px.runs; exact List.length_filter_le _ _
    omega
  clear HB2 HG2 HA2 HT2
  go_wp2_with fail
  go_region_held3 (fun w' => ∀ b o, b < W2.heap.size → w'.cell? ⟨b, o, none⟩ = W2.cell? ⟨b, o, none⟩)
    ((intro b' o' h1; first | (exact hbC.cell (p := ⟨b', o', none⟩) h1) | rfl))
    ((go_at_call 55; refine (running_any t _ _ _ ?hl ?hs).mono ?_; (case hl => omega); (case hs => exact HA2'.out.later (Below.refl _ _).drew); rintro e w4 ⟨rfl, hb4⟩; have hbC : Below W2.heap.size W2 w4 := (Below.refl _ _).drew.trans hb4))
  rename ∀ (b o : Nat), b < W2.heap.size → w4.cell? ⟨b, o, none⟩ = W2.cell? ⟨b, o, none⟩ => hSold
  clear hSold
  have HB4 : Hid (PB w4 B b (.slice ad b.st.slots.length cap) (.slice ad2 b.st.ends.length cap2)) := HB2'.out.later hbC
  have HG4 : Hid (w.grownBy w4 (some B)) := grow_trans HG2'.out (grow_of_below hbC _)
  have HA4 : Hid (PAt w4 t (.slice ad3 t.slots.length cap3) (.slice ad4 t.ends.length cap4)) := HA2'.out.later hbC
  have HT4 : Hid (TabLH w4) := HT2'.out.later hbC
  have HI4 := HI2'.out.later hbC
  clear i0 i1 i2 i3 i4 c0 hB2 HB2' HG2' HA2' HT2' HI2' hbC hb4
  by_cases h12 : b.limit < ((Px.runs t : Nat) : Int)
  · have HM : Hid (Px.startB b n = (b, ByteArray.empty, 12)) := by unfold Hid; rw [HM0.out, if_pos h12]
    have h12' : decide (b.limit < ((Px.runs t : Nat) : Int)) = true := decide_eq_true h12
    clear HI4
    go_wp2_with fail
    go_ret2
    exact AnsA.of HM.out ⟨_, _, HB4.out⟩ HG4.out
  have HM1 : Hid (Px.startB b n = Px.talkB b t n ByteArray.empty (Bx.frame (Bx.body (chS n)))) := by unfold Hid; rw [HM0.out, if_neg h12]
  have h12' : decide (b.limit < ((Px.runs t : Nat) : Int)) = false := decide_eq_false h12
  clear HM0
  obtain ⟨i0, i1, i2, i3, i4⟩ := HI4
  go_wp2_with fail
  refine (hear_any t n _ _ _ _ HOT.out (by show (0 : Nat) ≤ 100; omega) HT4.out HA4.out).mono ?_
  rintro e w5 ⟨hR, hb5⟩
  have HB5 := HB4.out.later hb5
  have HG5 := grow_trans HG4.out (grow_of_below hb5 (some B))
  clear i0 i1 i2 i3 i4 hb5 HB4 HG4 HA4 HT4
  cases hR with
  | none h =>
    have HM : Hid (Px.startB b n = (b, ByteArray.empty, 8)) := by unfold Hid; rw [HM1.out]; unfold Px.talkB; rw [h]
    have HBx : Hid (∀ o, PB (w5.alloc o) B b (.slice ad b.st.slots.length cap) (.slice ad2 b.st.ends.length cap2)) := fun o => HB5.later (below_alloc w5 o)
    have HGx : Hid (∀ o, w.grownBy (w5.alloc o) (some B)) := fun o => grow_trans HG5 (grow_of_below (below_alloc w5 o) _)
    clear HB5 HG5 h
    go_wp2_with fail
    go_ret2
    exact AnsA.of HM.out ⟨_, _, HBx.out _⟩ (HGx.out _)
  | wait y h hs =>
    have HM : Hid (Px.startB b n = (b, ByteArray.empty, 9)) := by unfold Hid; rw [HM1.out]; unfold Px.talkB; rw [h]; simp only; rw [if_pos hs]
    have HBx : Hid (∀ o, PB (w5.alloc o) B b (.slice ad b.st.slots.length cap) (.slice ad2 b.st.ends.length cap2)) := fun o => HB5.later (below_alloc w5 o)
    have HGx : Hid (∀ o, w.grownBy (w5.alloc o) (some B)) := fun o => grow_trans HG5 (grow_of_below (below_alloc w5 o) _)
    clear HB5 HG5 h hs
    go_wp2_with fail
    go_ret2
    exact AnsA.of HM.out ⟨_, _, HBx.out _⟩ (HGx.out _)
  | ok y sl2 en2 said over u h hs ht h1 h2 ha =>
    have HM : Hid (Px.startB b n = ctB b u n (Bx.frame (Bx.body (chS n))) said over) := by unfold Hid; rw [HM1.out, talkB_eq b t n _ _ y h hs, ht, h1, h2]; rfl
    have htu : u.slots.length ≤ 10000 ∧ u.ends.length ≤ 10000 := by
      rw [ht]
      have : (Px.talkT t y ByteArray.empty).slots.length = t.slots.length := repl_len _ _
      have e2 : (Px.talkT t y ByteArray.empty).ends = t.ends := rfl
      constructor
      · show (Px.talkT t y ByteArray.empty).slots.length ≤ 10000; omega
      · show (Px.talkT t y ByteArray.empty).ends.length ≤ 10000; rw [e2]; omega
    obtain ⟨ad5, cap5, hv5, _⟩ := ha.sl.form
    obtain ⟨ad6, cap6, hv6, _⟩ := ha.en.form
    subst hv5 hv6
    have HB6 := HB5.later (below_alloc w5 (.cells #[.string u.tab, .int .i64 u.clock, .int .i64 u.next, .slice ad5 u.slots.length cap5, .slice ad6 u.ends.length cap6, .string said, .bool over] 110))
    have HA6 := ha.later (below_alloc w5 (.cells #[.string u.tab, .int .i64 u.clock, .int .i64 u.next, .slice ad5 u.slots.length cap5, .slice ad6 u.ends.length cap6, .string said, .bool over] 110))
    have HG6 := grow_trans HG5 (grow_of_below (below_alloc w5 (.cells #[.string u.tab, .int .i64 u.clock, .int .i64 u.next, .slice ad5 u.slots.length cap5, .slice ad6 u.ends.length cap6, .string said, .bool over] 110)) (some B))
    have y0 : (w5.alloc (.cells #[.string u.tab, .int .i64 u.clock, .int .i64 u.next, .slice ad5 u.slots.length cap5, .slice ad6 u.ends.length cap6, .string said, .bool over] 110)).cell? ⟨w5.heap.size, 0, none⟩ = some (.string u.tab) := by simp [go_sem]
    have y1 : (w5.alloc (.cells #[.string u.tab, .int .i64 u.clock, .int .i64 u.next, .slice ad5 u.slots.length cap5, .slice ad6 u.ends.length cap6, .string said, .bool over] 110)).cell? ⟨w5.heap.size, 1, none⟩ = some (.int .i64 u.clock) := by simp [go_sem]
    have y2 : (w5.alloc (.cells #[.string u.tab, .int .i64 u.clock, .int .i64 u.next, .slice ad5 u.slots.length cap5, .slice ad6 u.ends.length cap6, .string said, .bool over] 110)).cell? ⟨w5.heap.size, 2, none⟩ = some (.int .i64 u.next) := by simp [go_sem]
    have y3 : (w5.alloc (.cells #[.string u.tab, .int .i64 u.clock, .int .i64 u.next, .slice ad5 u.slots.length cap5, .slice ad6 u.ends.length cap6, .string said, .bool over] 110)).cell? ⟨w5.heap.size, 3, none⟩ = some (.slice ad5 u.slots.length cap5) := by simp [go_sem]
    have y4 : (w5.alloc (.cells #[.string u.tab, .int .i64 u.clock, .int .i64 u.next, .slice ad5 u.slots.length cap5, .slice ad6 u.ends.length cap6, .string said, .bool over] 110)).cell? ⟨w5.heap.size, 4, none⟩ = some (.slice ad6 u.ends.length cap6) := by simp [go_sem]
    have y5 : (w5.alloc (.cells #[.string u.tab, .int .i64 u.clock, .int .i64 u.next, .slice ad5 u.slots.length cap5, .slice ad6 u.ends.length cap6, .string said, .bool over] 110)).cell? ⟨w5.heap.size, 5, none⟩ = some (.string said) := by simp [go_sem]
    have y6 : (w5.alloc (.cells #[.string u.tab, .int .i64 u.clock, .int .i64 u.next, .slice ad5 u.slots.length cap5, .slice ad6 u.ends.length cap6, .string said, .bool over] 110)).cell? ⟨w5.heap.size, 6, none⟩ = some (.bool over) := by simp [go_sem]
    clear HB5 HG5 h hs ht h1 h2 ha
    go_upto_region 7 with fail
    generalize w5.alloc (.cells #[.string u.tab, .int .i64 u.clock, .int .i64 u.next, .slice ad5 u.slots.length cap5, .slice ad6 u.ends.length cap6, .string said, .bool over] 110) = W6 at *
    generalize w5.heap.size = uq at *
    have HB6' : Hid (PB W6 B b (.slice ad b.st.slots.length cap) (.slice ad2 b.st.ends.length cap2)) := HB6
    have HA6' : Hid (PAt W6 u (.slice ad5 u.slots.length cap5) (.slice ad6 u.ends.length cap6)) := HA6
    have HG6' : Hid (w.grownBy W6 (some B)) := HG6
    clear HB6 HA6 HG6
    go_wp2_with fail
    refine (fstart_any n _ hn1 hn2).mono ?_
    rintro e w7 ⟨rfl, hb7⟩
    have hfz : (Bx.frame (Bx.body (chS n))).size ≤ 10000 := by have := frame_sz (chS n) (by show (0 : Nat) ≤ 300; omega); omega
    have HB7 : Hid (PB w7 B b (.slice ad b.st.slots.length cap) (.slice ad2 b.st.ends.length cap2)) := HB6'.out.later hb7
    have HA7 : Hid (PAt w7 u (.slice ad5 u.slots.length cap5) (.slice ad6 u.ends.length cap6)) := HA6'.out.later hb7
    have HG7 : Hid (w.grownBy w7 (some B)) := grow_trans HG6'.out (grow_of_below hb7 _)
    replace y0 := cell_later hb7 y0
    replace y1 := cell_later hb7 y1
    replace y2 := cell_later hb7 y2
    replace y3 := cell_later hb7 y3
    replace y4 := cell_later hb7 y4
    replace y5 := cell_later hb7 y5
    replace y6 := cell_later hb7 y6
    clear hb7 HB6' HA6' HG6'
    have HX : Hid (∀ e w3, AnsA (ctB b u n (Bx.frame (Bx.body (chS n))) said over) B w7 e w3 → ∃ y r, e = .returned (.tuple #[.string y, .int .i64 r]) ∧ AnsA (Px.startB b n) B w (.returned (.tuple #[.string y, .int .i64 r])) w3) := by
      intro e w3 hA
      cases hA with
      | mk _ hB hg => exact ⟨_, _, rfl, by rw [← HM.out] at hB ⊢; exact AnsA.mk w3 hB (grow_trans HG7.out hg)⟩
    have hc := htu.1
    have hd := htu.2
    clear HM1
    generalize Bx.frame (Bx.body (chS n)) = fr at *
    cases over
    · go_wp2_with fail
      refine (commitTalk_no b B u n _ said _ _ _ _ w7 hlg hfz HB7.out HA7.out).mono ?_
      intro e w3 hA3
      obtain ⟨y', r', rfl, hF⟩ := HX.out _ _ hA3
      have HF : Hid (AnsA (Px.startB b n) B w (.returned (.tuple #[.string y', .int .i64 r'])) w3) := hF
      clear hA3 hF y0 y1 y2 y3 y4 y5 y6
      go_wp2_with fail
      go_ret2
      exact HF.out
    · go_wp2_with fail
      refine (commitTalk_yes b B u n _ said _ _ _ _ w7 hlg hfz hc hd hn1 hn2 HB7.out HA7.out).mono ?_
      intro e w3 hA3
      obtain ⟨y', r', rfl, hF⟩ := HX.out _ _ hA3
      have HF : Hid (AnsA (Px.startB b n) B w (.returned (.tuple #[.string y', .int .i64 r'])) w3) := hF
      clear hA3 hF y0 y1 y2 y3 y4 y5 y6
      go_wp2_with fail
      go_ret2
      exact HF.out
end Go.Proofs.YtdajolpoiffimabGreatDoor

namespace Go.Proofs.YtdajolpoiffimabGreatDoor
open Go.RowKit

/-- An answer of a number and an error, and the box then. -/
inductive AnsT (p : Px.Bo × Int × Int) (B : Nat) (w : World) : Ending → World → Prop
  | mk (w' : World) (hB : PBx w' B p.1) (hg : w.grownBy w' (some B)) : AnsT p B w (.returned (.tuple #[.int .i64 p.2.1, .int .i64 p.2.2])) w'
theorem AnsT.of {p : Px.Bo × Int × Int} {B : Nat} {w w' : World} {b : Px.Bo} {x r : Int} (h : p = (b, x, r)) (hB : PBx w' B b) (hg : w.grownBy w' (some B)) : AnsT p B w (.returned (.tuple #[.int .i64 x, .int .i64 r])) w' := by
  subst h; exact AnsT.mk w' hB hg
theorem clock_bd (s : Px.St) (m : Int) : (Px.clockP s m).2 = 0 ∨ (Px.clockP s m).2 = 4 ∨ (Px.clockP s m).2 = 6 ∨ (Px.clockP s m).2 = 7 := by
  rw [Px.clock_err]; repeat' split
  all_goals simp
theorem fail_bd (s : Px.St) (n : Int) : (Px.failP s n).2 = 0 ∨ (Px.failP s n).2 = 8 ∨ (Px.failP s n).2 = 9 := by
  unfold Px.failP
  cases Px.find s.slots n with
  | none => right; left; rfl
  | some x => simp only; repeat' split
              all_goals simp
theorem fails_ok (l : List Int) : ∀ (p : Px.St × ByteArray), Px.Ok p.1 → Px.Ok (l.foldl Px.failStep p).1 := by
  induction l with
  | nil => intro p h; exact h
  | cons n r ih =>
    intro p h
    apply ih
    unfold Px.failStep
    by_cases q : (Px.failP p.1 n).2 = 0
    · rw [if_pos q]; exact Px.fail_ok h n q
    · rw [if_neg q]; exact h
theorem fails_sz (l : List Int) : ∀ (p : Px.St × ByteArray), (l.foldl Px.failStep p).2.size ≤ p.2.size + 400 * l.length := by
  induction l with
  | nil => intro p; simp
  | cons n r ih =>
    intro p
    have h1 := ih (Px.failStep p n)
    have h2 : (Px.failStep p n).2.size ≤ p.2.size + 400 := by
      unfold Px.failStep
      by_cases q : (Px.failP p.1 n).2 = 0
      · rw [if_pos q]; have := frame_sz (chF n) (by show (0 : Nat) ≤ 300; omega); show (p.2 ++ _).size ≤ _; rw [ByteArray.size_append]; omega
      · rw [if_neg q]; omega
    rw [List.foldl_cons, List.length_cons]; omega
theorem fails_take (l : List Int) (p : Px.St × ByteArray) (k : Nat) (h : k < l.length) : (l.take (k + 1)).foldl Px.failStep p = Px.failStep ((l.take k).foldl Px.failStep p) l[k] := by
  rw [List.take_succ_eq_append_getElem h, List.foldl_append]; rfl
theorem late_mem {s : Px.St} (h : Px.Ok s) {n : Int} (hn : n ∈ Px.late s) : 0 ≤ n ∧ n ≤ 100000 := by
  unfold Px.late at hn
  obtain ⟨x, hx, rfl⟩ := List.mem_map.1 hn
  have := h.each (List.mem_filter.1 hx).1
  have : s.next ≤ 10000 := h.st.n2
  omega
theorem late_len (s : Px.St) : (Px.late s).length ≤ s.slots.length := by unfold Px.late; rw [List.length_map]; exact List.length_filter_le _ _
/-- What holds while the slots that were not answered fail. -/
structure TkIn (w wr : World) (q : Nat) (t : Px.St) (slt ent v : Value) (L : List Int) : Prop where
  pw : PW wr q t slt ent
  at' : PAt wr t slt ent
  row : TRow wr 3 v L.length (L.map (Value.int .i64))
  bel : Below w.heap.size w wr
theorem TkIn.later {w wr w' : World} {q : Nat} {t : Px.St} {slt ent v : Value} {L : List Int} (h : TkIn w wr q t slt ent v L) (hb : Below wr.heap.size wr w') : TkIn w w' q t slt ent v L :=
  ⟨h.pw.later hb, h.at'.later hb, h.row.later hb, h.bel.trans (hb.mono h.bel.size)⟩
theorem TkIn.put {w wr : World} {q : Nat} {t u : Px.St} {slt ent slu enu v : Value} {L : List Int} (h : TkIn w wr q t slt ent v L) (hq : w.heap.size ≤ q) (hu : PAt wr u slu enu) :
    TkIn w (((((wr.setCell ⟨q, 0, none⟩ (.string u.tab)).setCell ⟨q, 1, none⟩ (.int .i64 u.clock)).setCell ⟨q, 2, none⟩ (.int .i64 u.next)).setCell ⟨q, 3, none⟩ slu).setCell ⟨q, 4, none⟩ enu) q u slu enu v L := by
  refine ⟨h.pw.put u slu enu, hu.store h.pw.ty _ _ _ _ _, ?_, below_set5' h.bel hq _ _ _ _ _⟩
  have st : ∀ (w : World) (j : Nat) (x : Value), (Typed w q 77 ∧ TRow w 3 v L.length (L.map (Value.int .i64))) → (Typed (w.setCell ⟨q, j, none⟩ x) q 77 ∧ TRow (w.setCell ⟨q, j, none⟩ x) 3 v L.length (L.map (Value.int .i64))) := fun w j x h => ⟨h.1.setCell _ _ _, h.2.set h.1 (by decide) _ _⟩
  exact (st _ _ _ (st _ _ _ (st _ _ _ (st _ _ _ (st _ _ _ ⟨h.pw.ty, h.row⟩))))).2

set_option maxRecDepth 10000 in
set_option maxHeartbeats 8000000 in
theorem ptick_any (b : Px.Bo) (B : Nat) (m : Int) (sl en : Value) (w : World) (hO : Px.Ok b.st) (hlg : b.log.size ≤ 10000) (hT : TabLH w) (hM : Tab w) (hB : PB w B b sl en) :
    Calls Tryz.prog 22 #[.pointer (some ⟨B, 0, none⟩), .int .i64 m] w fun e w' => AnsT (Px.tickB b m) B w e w' := by
  obtain ⟨ad, cap, rfl, hcap⟩ := hB.rows.sl.form
  obtain ⟨ad2, cap2, rfl, hcap2⟩ := hB.rows.en.form
  have HB : Hid (PB w B b (.slice ad b.st.slots.length cap) (.slice ad2 b.st.ends.length cap2)) := hB
  have HT : Hid (TabLH w) := hT
  have HM' : Hid (Tab w) := hM
  have HO : Hid (Px.Ok b.st) := hO
  have hl : b.st.slots.length ≤ 8 := hO.len
  have he : b.st.ends.length ≤ 6 := hO.st.en
  have hn1 : 1 ≤ b.st.next := hO.st.n1
  have hn2 : b.st.next ≤ 10000 := hO.st.n2
  have hlt := hB.ty.lt
  have e2 := hB.c2; have e3 := hB.c3; have e4 := hB.c4; have e5 := hB.c5; have e6 := hB.c6
  clear hB hT hO hM
  go_enter Tryz.func22, Tryz.ntmps22
  go_wp2_with fail
  refine (withClock_any b.st m _ _ _ HO.out HT.out HM'.out HB.out.rows).mono ?_
  rintro e w1 ⟨⟨slt, ent, rfl, hat⟩, hb1⟩
  have HB1 := HB.out.later hb1
  have HG1 := grow_of_below hb1 (some B)
  have HBl1 := hb1
  clear e2 e3 e4 e5 e6 hb1
  obtain ⟨ad3, cap3, hv3, _⟩ := hat.sl.form
  obtain ⟨ad4, cap4, hv4, _⟩ := hat.en.form
  subst hv3 hv4
  have hbd := clock_bd b.st m
  by_cases hd : (Px.clockP b.st m).2 = 0
  rotate_left
  · have HM : Hid (Px.tickB b m = (b, 0, (Px.clockP b.st m).2)) := by unfold Hid Px.tickB; rw [if_pos hd]
    have hd' : ((Px.clockP b.st m).2 != 0) = true := by simpa using hd
    have HBx : Hid (∀ o, PB (w1.alloc o) B b (.slice ad b.st.slots.length cap) (.slice ad2 b.st.ends.length cap2)) := fun o => HB1.later (below_alloc w1 o)
    have HGx : Hid (∀ o, w.grownBy (w1.alloc o) (some B)) := fun o => grow_trans HG1 (grow_of_below (below_alloc w1 o) _)
    clear hd HB1 HG1 hat HBl1
    generalize (Px.clockP b.st m).2 = r at *
    generalize (Px.clockP b.st m).1 = t at *
    go_wp2_with fail
    go_ret2
    exact AnsT.of HM.out ⟨_, _, HBx.out _⟩ (HGx.out _)
  have hok1 := Px.clock_ok HO.out hd
  have hcs := Px.clock_st hd
  have hm1 := hcs.1
  have hm2 := hcs.2.1
  have HOT : Hid (Px.Ok (Px.clockP b.st m).1) := hok1
  have htl : (Px.clockP b.st m).1.slots.length ≤ 8 := hok1.len
  have hte : (Px.clockP b.st m).1.ends.length ≤ 6 := hok1.st.en
  have htn1 : 1 ≤ (Px.clockP b.st m).1.next := hok1.st.n1
  have htn2 : (Px.clockP b.st m).1.next ≤ 10000 := hok1.st.n2
  have htc1 : -1 ≤ (Px.clockP b.st m).1.clock := hok1.st.c1
  have htc2 : (Px.clockP b.st m).1.clock ≤ 4223371679 := hok1.st.c2
  have HM0 : Hid (Px.tickB b m = if b.room < (b.log.size : Int) + ((Px.late (Px.clockP b.st m).1).foldl Px.failStep ((Px.clockP b.st m).1, Bx.frame (Bx.body (chCl m)))).2.size then (b, 0, 13)
      else ({ b with st := ((Px.late (Px.clockP b.st m).1).foldl Px.failStep ((Px.clockP b.st m).1, Bx.frame (Bx.body (chCl m)))).1, log := b.log ++ ((Px.late (Px.clockP b.st m).1).foldl Px.failStep ((Px.clockP b.st m).1, Bx.frame (Bx.body (chCl m)))).2 }, (Px.clockP b.st m).1.next - b.st.next, 0)) := by
    unfold Hid Px.tickB; rw [if_neg (by omega)]; rfl
  rw [hd]
  clear hbd hd hok1 hcs
  generalize (Px.clockP b.st m).1 = t at *
  have HB2 := HB1.later (below_alloc w1 (pstO t (.slice ad3 t.slots.length cap3) (.slice ad4 t.ends.length cap4)))
  have HBl2 := HBl1.alloc HBl1.size (pstO t (.slice ad3 t.slots.length cap3) (.slice ad4 t.ends.length cap4))
  have HA2 := hat.later (below_alloc w1 (pstO t (.slice ad3 t.slots.length cap3) (.slice ad4 t.ends.length cap4)))
  have HI2 := PW.new w1 t (.slice ad3 t.slots.length cap3) (.slice ad4 t.ends.length cap4)
  have hq : w.heap.size ≤ w1.heap.size := HBl1.size
  clear HB1 HG1 hat HBl1
  go_upto_region 2 with fail
  generalize w1.alloc (pstO t (.slice ad3 t.slots.length cap3) (.slice ad4 t.ends.length cap4)) = W2 at *
  generalize w1.heap.size = q at *
  have HBl2' : Hid (Below w.heap.size w W2) := HBl2
  have HA2' : Hid (PAt W2 t (.slice ad3 t.slots.length cap3) (.slice ad4 t.ends.length cap4)) := HA2
  have HI2' : Hid (PW W2 q t (.slice ad3 t.slots.length cap3) (.slice ad4 t.ends.length cap4)) := HI2
  obtain ⟨i0, i1, i2, i3, i4⟩ := HI2.st
  have c4 := HB2.c4
  have hB2 : B < W2.heap.size := HB2.ty.lt
  clear HB2 HBl2 HA2 HI2
  go_wp2_with fail
  go_quiet (fail)
  clear c4 i0 i1 i2 i3 i4
  go_wp2_with fail
  refine (fclock_any m _ hm1 hm2).mono ?_
  rintro e w3 ⟨rfl, hb3'⟩
  have hb3 : Below W2.heap.size W2 w3 := (below_drewN (Below.refl _ _) nq).trans hb3'
  clear hb3'
  have HBl3 : Hid (Below w.heap.size w w3) := HBl2'.out.trans (hb3.mono HBl2'.out.size)
  have HA3 : Hid (PAt w3 t (.slice ad3 t.slots.length cap3) (.slice ad4 t.ends.length cap4)) := HA2'.out.later hb3
  have HI3 : Hid (PW w3 q t (.slice ad3 t.slots.length cap3) (.slice ad4 t.ends.length cap4)) := HI2'.out.later hb3
  obtain ⟨i0, i1, i2, i3, i4⟩ := HI3.out.st
  clear hb3 HBl2' HA2' HI2'
  have hfz : (Bx.frame (Bx.body (chCl m))).size ≤ 400 := frame_sz (chCl m) (by show (0 : Nat) ≤ 300; omega)
  generalize Bx.frame (Bx.body (chCl m)) = fr at *
  go_wp2_with fail
  refine (unanswered_any t _ _ _ (by omega) htc1 htc2 HA3.out).mono ?_
  rintro e w4 ⟨⟨v, rfl, hown⟩, hb4⟩
  have hrow := TRow.of_own hown
  obtain ⟨adv, capv, hvv, _⟩ := hrow.form
  subst hvv
  have HK0 : Hid (TkIn w w4 q t (.slice ad3 t.slots.length cap3) (.slice ad4 t.ends.length cap4) (.slice adv (Px.late t).length capv) (Px.late t)) :=
    ⟨HI3.out.later hb4, HA3.out.later hb4, hrow, HBl3.out.trans (hb4.mono HBl3.out.size)⟩
  have hll := late_len t
  have HLm : Hid (∀ n ∈ Px.late t, 0 ≤ n ∧ n ≤ 100000) := fun n hn => late_mem HOT.out hn
  clear i0 i1 i2 i3 i4 hown hb4 hrow HBl3 HA3 HI3
  generalize Px.late t = L at *
  go_wp2_with fail
  go_loopw [9, 11] (fun f i wr => ∃ (k : Nat) (slt ent : Value), k ≤ L.length ∧ i = .int .i64 k ∧ f = .string ((L.take k).foldl Px.failStep (t, fr)).2 ∧ TkIn w wr q ((L.take k).foldl Px.failStep (t, fr)).1 slt ent (.slice adv L.length capv) L) (fun _ i _ => L.length - (intOf i).toNat)
  case atStart => exact ⟨0, _, _, Nat.zero_le _, rfl, rfl, HK0.out⟩
  case round =>
    clear HK0
    obtain ⟨k, slt, ent, hk, rfl, rfl, HI⟩ := hrel
    have hok := fails_ok (L.take k) (t, fr) HOT.out
    have hsz := fails_sz (L.take k) (t, fr)
    have hl4 : (L.take k).length = k := by simp; omega
    rw [hl4] at hsz
    by_cases hkl : k < L.length
    · have HTk : Hid ((L.take (k + 1)).foldl Px.failStep (t, fr) = Px.failStep ((L.take k).foldl Px.failStep (t, fr)) L[k]) := fails_take L (t, fr) k hkl
      obtain ⟨hn0, hn1'⟩ := HLm.out L[k] (List.getElem_mem hkl)
      obtain ⟨b', off, cap', hv, _, hcc⟩ := HI.row.1.some' (by omega)
      cases hv
      have d0 : wr.cell? ⟨b', off + k, none⟩ = some (.int .i64 L[k]) := by
        have := hcc k (by simpa using hkl); simpa using this
      obtain ⟨adt, capt, hvt, _⟩ := HI.at'.sl.form
      obtain ⟨ade, cape, hve, _⟩ := HI.at'.en.form
      subst hvt hve
      have hbl : b' < wr.heap.size := World.block_lt_of_cell? _ _ d0
      have hql : q < wr.heap.size := HI.pw.ty.lt
      obtain ⟨c0, c1, c2, c3, c4⟩ := HI.pw.st
      have HI' : Hid (TkIn w wr q ((L.take k).foldl Px.failStep (t, fr)).1 _ _ _ L) := HI
      have HOk : Hid (Px.Ok ((L.take k).foldl Px.failStep (t, fr)).1) := hok
      have bk0 : (0 : Int) ≤ (k : Int) := by omega
      have bk1 : (k : Int) < (L.length : Int) := by omega
      have HTw : Hid (TabLH wr) := HT.out.later HI.bel
      clear hcc HI hok
      generalize ((L.take k).foldl Px.failStep (t, fr)) = P at *
      generalize hnn : L[k] = n at *
      have HNn : Hid (L[k]'hkl = n) := hnn
      clear hnn
      obtain ⟨T, f⟩ := P
      simp only at *
      go_wp2_with fail
      go_cut [12, 13] from 45 to 52 (fun s12 s13 wx => ∃ g slu enu, s12 = .pointer (some ⟨g, 0, none⟩) ∧ s13 = .int .i64 (Px.failP T n).2 ∧ PIn wx g (Px.failP T n).1 slu enu ∧ PAt wx (Px.failP T n).1 slu enu ∧ Below wr.heap.size wr wx)
      case first =>
        have HA1 : Hid (PAt wr.drew T (.slice adt T.slots.length capt) (.slice ade T.ends.length cape)) := HI'.out.at'.later (Below.refl _ _).drew
        have HA2 : Hid (PAt (wr.alloc pzO).drew T (.slice adt T.slots.length capt) (.slice ade T.ends.length cape)) := (HI'.out.at'.later (below_alloc _ _)).later (Below.refl _ _).drew
        have HT1 : Hid (TabLH wr.drew) := HTw.out.later (Below.refl _ _).drew
        have HT2 : Hid (TabLH (wr.alloc pzO).drew) := (HTw.out.later (below_alloc _ _)).later (Below.refl _ _).drew
        go_region_with (first
          | (go_at_call 50; refine (withFail_any T n (.slice adt T.slots.length capt) (.slice ade T.ends.length cape) wr.drew HOk.out HT1.out HA1.out).mono ?_; rintro e w2 ⟨⟨sl2, en2, rfl, hst2⟩, hb2⟩; obtain ⟨ad5, cap5, rfl, hc5⟩ := hst2.sl.form; obtain ⟨ad6, cap6, rfl, hc6⟩ := hst2.en.form; have hbA : Below wr.heap.size wr w2 := (Below.refl _ _).drew.trans hb2)
          | (go_at_call 50; refine (withFail_any T n (.slice adt T.slots.length capt) (.slice ade T.ends.length cape) (wr.alloc pzO).drew HOk.out HT2.out HA2.out).mono ?_; rintro e w2 ⟨⟨sl2, en2, rfl, hst2⟩, hb2⟩; obtain ⟨ad5, cap5, rfl, hc5⟩ := hst2.sl.form; obtain ⟨ad6, cap6, rfl, hc6⟩ := hst2.en.form; have hbB : Below wr.heap.size wr w2 := (below_alloc _ _).drew.trans (hb2.mono (by simp)); have hZ := ((PW.new wr Px.st0 (.slice none 0 0) (.slice none 0 0)).later (Below.refl _ _).drew).later hb2; obtain ⟨⟨z0, z1, z2, z3, z4⟩, zf, zt⟩ := hZ; have HZ : Hid (PW w2 wr.heap.size Px.st0 (.slice none 0 0) (.slice none 0 0)) := ((PW.new wr Px.st0 (.slice none 0 0) (.slice none 0 0)).later (Below.refl _ _).drew).later hb2; have zf0 := zf 0 (by decide); have zf1 := zf 1 (by decide); have zf2 := zf 2 (by decide); have zf3 := zf 3 (by decide); have zf4 := zf 4 (by decide)))
        all_goals (go_wp2_with fail; go_meet)
        all_goals (first | (have hgo := hbA; exact ⟨_, _, _, rfl, rfl, PIn.new w2 (Px.failP T n).1 _ _, hst2.later (below_alloc _ _), hgo.alloc hgo.size _⟩) | exact ⟨_, _, _, rfl, rfl, (HZ.out.put (Px.failP T n).1 _ _).st, hst2.store HZ.out.ty _ _ _ _ _, below_set5' hbB (Nat.le_refl _) _ _ _ _ _⟩)
      case rest =>
        obtain ⟨g, slu, enu, rfl, rfl, hI5, hS5, hb5⟩ := hcut
        obtain ⟨ad5, cap5, rfl, hc5⟩ := hS5.sl.form
        obtain ⟨ad6, cap6, rfl, hc6⟩ := hS5.en.form
        have HI5 := HI'.out.later hb5
        clear c0 c1 c2 c3 c4 HI'
        have hbf := fail_bd T n
        have HFs : Hid (Px.failStep (T, f) n = if (Px.failP T n).2 = 0 then ((Px.failP T n).1, f ++ Bx.frame (Bx.body (chF n))) else (T, f)) := rfl
        by_cases hF : (Px.failP T n).2 = 0
        · have HN : Hid ((L.take (k + 1)).foldl Px.failStep (t, fr) = ((Px.failP T n).1, f ++ Bx.frame (Bx.body (chF n)))) := by unfold Hid; rw [HTk.out, HFs.out, if_pos hF]
          have HI6 := HI5.put hq hS5
          obtain ⟨d0', d1', d2', d3', d4'⟩ := hI5
          obtain ⟨⟨e0, e1, e2, e3, e4⟩, fq, _⟩ := HI5.pw
          have g0 := fq 0 (by decide); have g1 := fq 1 (by decide); have g2 := fq 2 (by decide); have g3 := fq 3 (by decide); have g4 := fq 4 (by decide)
          rw [hF]
          have hfz2 : (Bx.frame (Bx.body (chF n))).size ≤ 400 := frame_sz (chF n) (by show (0 : Nat) ≤ 300; omega)
          clear HFs HTk hF hbf HI5 hS5 hb5 fq d0
          generalize (Px.failP T n).1 = U at *
          go_upto_region 13 with fail
          clear d0' d1' d2' d3' d4' e0 e1 e2 e3 e4 g0 g1 g2 g3 g4
          have HI6' : Hid (TkIn w _ q U (.slice ad5 U.slots.length cap5) (.slice ad6 U.ends.length cap6) (.slice (some ⟨b', off, none⟩) L.length capv) L) := HI6
          clear HI6
          generalize ((((wc.setCell ⟨q, 0, none⟩ (.string U.tab)).setCell ⟨q, 1, none⟩ (.int .i64 U.clock)).setCell ⟨q, 2, none⟩ (.int .i64 U.next)).setCell ⟨q, 3, none⟩ (.slice ad5 U.slots.length cap5)).setCell ⟨q, 4, none⟩ (.slice ad6 U.ends.length cap6) = W6 at *
          have d0 : W6.cell? ⟨b', off + k, none⟩ = some (.int .i64 n) := by
            obtain ⟨b2, off2, cap2', hv, _, hcc⟩ := HI6'.out.row.1.some' (by omega)
            cases hv
            have := hcc k (by simpa using hkl); simpa [HNn.out] using this
          go_wp2_with fail
          refine (ffail_any n _ hn0 hn1').mono ?_
          rintro e w7 ⟨rfl, hb7⟩
          have HI7 : Hid (TkIn w w7 q U (.slice ad5 U.slots.length cap5) (.slice ad6 U.ends.length cap6) (.slice (some ⟨b', off, none⟩) L.length capv) L) := HI6'.out.later hb7
          clear HI6' hb7 d0
          generalize Bx.frame (Bx.body (chF n)) = fn at *
          have hap : ¬ 9223372036854775807 < f.size + fn.size := by omega
          go_wp2_with fail
          go_roundw
          case rel => exact ⟨k + 1, _, _, by omega, by go_num, by rw [HN.out], by rw [HN.out]; exact HI7.out⟩
          case measure => simp [intOf]; omega
        · have HN : Hid ((L.take (k + 1)).foldl Px.failStep (t, fr) = (T, f)) := by unfold Hid; rw [HTk.out, HFs.out, if_neg hF]
          have hF' : ((Px.failP T n).2 == 0) = false := by simpa using hF
          have HI6 : Hid (TkIn w wc q T (.slice adt T.slots.length capt) (.slice ade T.ends.length cape) (.slice (some ⟨b', off, none⟩) L.length capv) L) := HI5
          clear HI5 hI5 hS5 hb5 HFs HTk d0 hF
          generalize (Px.failP T n).2 = r at *
          generalize (Px.failP T n).1 = U at *
          go_wp2_with fail
          go_roundw
          case rel => exact ⟨k + 1, _, _, by omega, by go_num, by rw [HN.out], by rw [HN.out]; exact HI6.out⟩
          case measure => simp [intOf]; omega
    · obtain rfl : k = L.length := by omega
      have HTk : Hid (L.take L.length = L) := List.take_length
      rw [HTk.out] at HI hsz hok ⊢
      obtain ⟨adt, capt, hvt, _⟩ := HI.at'.sl.form
      obtain ⟨ade, cape, hve, _⟩ := HI.at'.en.form
      subst hvt hve
      obtain ⟨c0, c1, c2, c3, c4⟩ := HI.pw.st
      have HBx : Hid (PB wr B b (.slice ad b.st.slots.length cap) (.slice ad2 b.st.ends.length cap2)) := HB.out.later HI.bel
      have HGx : Hid (w.grownBy wr (some B)) := grow_of_below HI.bel _
      have HA : Hid (PAt wr (L.foldl Px.failStep (t, fr)).1 _ _) := HI.at'
      clear HI hok HTk
      generalize L.foldl Px.failStep (t, fr) = P at *
      obtain ⟨T, f⟩ := P
      simp only at *
      go_wp2_with fail
      refine (commit_any b B T f _ _ _ _ _ (by omega) (by omega) HBx.out HA.out).mono ?_
      intro e w5 hcm
      clear c0 c1 c2 c3 c4
      cases hcm with
      | no _ h hb =>
        have HM2 : Hid (AnsT (Px.tickB b m) B w (.returned (.tuple #[.int .i64 0, .int .i64 13])) w5) := AnsT.of (by rw [HM0.out, if_pos h]) ⟨_, _, HBx.out.later hb⟩ (grow_trans HGx.out (grow_of_below hb _))
        clear hb h
        go_wp2_with fail
        go_ret2
        exact HM2.out
      | yes _ h hB hg =>
        have HM2 : Hid (AnsT (Px.tickB b m) B w (.returned (.tuple #[.int .i64 (t.next - b.st.next), .int .i64 0])) w5) := AnsT.of (by rw [HM0.out, if_neg h]) ⟨_, _, hB⟩ (grow_trans HGx.out hg)
        clear hB hg h
        go_wp2_with fail
        go_ret2
        exact HM2.out
end Go.Proofs.YtdajolpoiffimabGreatDoor

namespace Go.Proofs.YtdajolpoiffimabGreatDoor
open Go.RowKit

theorem xtick_any (b : Px.Bo) (B : Nat) (m : Int) (w : World) (hO : Px.Ok b.st) (hlg : b.log.size ≤ 10000) (hT : TabLH w) (hM : Tab w) (hB : ∃ sl en, PB w B b sl en) :
    Calls Tryz.prog 22 #[.pointer (some ⟨B, 0, none⟩), .int .i64 m] w fun e w' => e = .returned (.tuple #[.int .i64 (Px.tickB b m).2.1, .int .i64 (Px.tickB b m).2.2]) ∧ (∃ sl en, PB w' B (Px.tickB b m).1 sl en) ∧ w.grownBy w' (some B) := by
  obtain ⟨sl, en, hB⟩ := hB
  refine (ptick_any b B m sl en w hO hlg hT hM hB).mono fun e w' h => ?_
  cases h with
  | mk _ hB hg => exact ⟨rfl, hB, hg⟩
theorem xstart_any (b : Px.Bo) (B : Nat) (n : Int) (w : World) (hO : Px.Ok b.st) (hlg : b.log.size ≤ 10000) (hT : TabLH w) (hB : ∃ sl en, PB w B b sl en) :
    Calls Tryz.prog 25 #[.pointer (some ⟨B, 0, none⟩), .int .i64 n] w fun e w' => e = .returned (.tuple #[.string (Px.startB b n).2.1, .int .i64 (Px.startB b n).2.2]) ∧ (∃ sl en, PB w' B (Px.startB b n).1 sl en) ∧ w.grownBy w' (some B) := by
  obtain ⟨sl, en, hB⟩ := hB
  refine (pstart_any b B n sl en w hO hlg hT hB).mono fun e w' h => ?_
  cases h with
  | mk _ hB hg => exact ⟨rfl, hB, hg⟩
theorem xfeed_any (b : Px.Bo) (B : Nat) (n : Int) (x : ByteArray) (w : World) (hO : Px.Ok b.st) (hlg : b.log.size ≤ 10000) (hT : TabLH w) (hB : ∃ sl en, PB w B b sl en) :
    Calls Tryz.prog 28 #[.pointer (some ⟨B, 0, none⟩), .int .i64 n, .string x] w fun e w' => e = .returned (.tuple #[.string (Px.feedB b n x).2.1, .int .i64 (Px.feedB b n x).2.2]) ∧ (∃ sl en, PB w' B (Px.feedB b n x).1 sl en) ∧ w.grownBy w' (some B) := by
  obtain ⟨sl, en, hB⟩ := hB
  refine (pfeed_any b B n x sl en w hO hlg hT hB).mono fun e w' h => ?_
  cases h with
  | mk _ hB hg => exact ⟨rfl, hB, hg⟩
theorem xload_any (b : Px.Bo) (B : Nat) (tab : ByteArray) (w : World) (hO : Px.Ok b.st) (hlg : b.log.size ≤ 10000) (hs : tab.size ≤ maxLen) (hT : TabLH w) (hB : ∃ sl en, PB w B b sl en) :
    Calls Tryz.prog 21 #[.pointer (some ⟨B, 0, none⟩), .string tab] w fun e w' => ∃ b' a r, e = .returned (.tuple #[.int .i64 a, .int .i64 r]) ∧ Px.LoadB b tab b' a r ∧ (∃ sl en, PB w' B b' sl en) ∧ w.grownBy w' (some B) := by
  obtain ⟨sl, en, hB⟩ := hB
  refine (pload_any b B tab sl en w hO hlg hs hT hB).mono fun e w' h => ?_
  cases h with
  | mk _ b' a r hl hB hg => exact ⟨b', a, r, rfl, hl, hB, hg⟩
end Go.Proofs.YtdajolpoiffimabGreatDoor
