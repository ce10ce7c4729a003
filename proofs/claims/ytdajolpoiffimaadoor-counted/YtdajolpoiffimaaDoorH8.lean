/-
  PrgTick, PrgX, Base, KCall, HearW, HearW2, HearW3, KBase, KNums, LaterM, LaterW, LaterW2.
-/
import Derived.Test.YtdajolpoiffimaaDoorRows
import Derived.ProofKit
import Derived.OpenShut
import Derived.Deep.DeepHandedRow
import Derived.Lib.LaidTab
import Derived.ShutString
import Derived.Stop.LaidErr
import Derived.Carry
import Derived.Test.YtdajolpoiffimaaDoorH1
import Derived.Test.YtdajolpoiffimaaDoorH2
import Derived.Test.YtdajolpoiffimaaDoorH3
import Derived.Test.YtdajolpoiffimaaDoorH4
import Derived.Test.YtdajolpoiffimaaDoorH6
import Derived.Test.YtdajolpoiffimaaDoorH7

namespace Go.Proofs.YtdajolpoiffimaaDoor
open Go.RowKit

/-- An answer of a number and an error, and the box then. -/
inductive AnsT (p : Px.Bo × Int × Int) (B : Nat) (w : World) : Ending → World → Prop
  | mk (w' : World) (hB : PBx w' B p.1) (hg : w.grownBy w' (some B)) : AnsT p B w (.returned (.tuple #[.int .i64 p.2.1, .int .i64 p.2.2])) w'
theorem AnsT.of {p : Px.Bo × Int × Int} {B : Nat} {w w' : World} {b : Px.Bo} {x r : Int} (h : p = (b, x, r)) (hB : PBx w' B b) (hg : w.grownBy w' (some B)) : AnsT p B w (.returned (.tuple #[.int .i64 x, .int .i64 r])) w' := by
  subst h; exact AnsT.mk w' hB hg
theorem clock_bd (s : Px.St) (m : Int) : (Px.clockP s m).2 = 0 ∨ (Px.clockP s m).2 = 4 ∨ (Px.clockP s m).2 = 6 ∨ (Px.clockP s m).2 = 7 := by
  rw [Px.clock_err]; repeat' split
  all_goals simp
theorem fail_bd (s : Px.St) (n : Int) : (Px.failP s n).2 = 0 ∨ (Px.failP s n).2 = 8 ∨ (Px.failP s n).2 = 9 := by
  unfold Px.failP
  cases Px.find s.slots n with
  | none => right; left; rfl
  | some x => simp only; repeat' split
              all_goals simp
theorem fails_ok (l : List Int) : ∀ (p : Px.St × ByteArray), Px.Ok p.1 → Px.Ok (l.foldl Px.failStep p).1 := by
  induction l with
  | nil => intro p h; exact h
  | cons n r ih =>
    intro p h
    apply ih
    unfold Px.failStep
    by_cases q : (Px.failP p.1 n).2 = 0
    · rw [if_pos q]; exact Px.fail_ok h n q
    · rw [if_neg q]; exact h
theorem fails_sz (l : List Int) : ∀ (p : Px.St × ByteArray), (l.foldl Px.failStep p).2.size ≤ p.2.size + 400 * l.length := by
  induction l with
  | nil => intro p; simp
  | cons n r ih =>
    intro p
    have h1 := ih (Px.failStep p n)
    have h2 : (Px.failStep p n).2.size ≤ p.2.size + 400 := by
      unfold Px.failStep
      by_cases q : (Px.failP p.1 n).2 = 0
      · rw [if_pos q]; have := frame_sz (chF n) (by show (0 : Nat) ≤ 300; omega); show (p.2 ++ _).size ≤ _; rw [ByteArray.size_append]; omega
      · rw [if_neg q]; omega
    rw [List.foldl_cons, List.length_cons]; omega
theorem fails_take (l : List Int) (p : Px.St × ByteArray) (k : Nat) (h : k < l.length) : (l.take (k + 1)).foldl Px.failStep p = Px.failStep ((l.take k).foldl Px.failStep p) l[k] := by
  rw [List.take_succ_eq_append_getElem h, List.foldl_append]; rfl
theorem late_mem {s : Px.St} (h : Px.Ok s) {n : Int} (hn : n ∈ Px.late s) : 0 ≤ n ∧ n ≤ 100000 := by
  unfold Px.late at hn
  obtain ⟨x, hx, rfl⟩ := List.mem_map.1 hn
  have := h.each (List.mem_filter.1 hx).1
  have : s.next ≤ 10000 := h.st.n2
  omega
theorem late_len (s : Px.St) : (Px.late s).length ≤ s.slots.length := by unfold Px.late; rw [List.length_map]; exact List.length_filter_le _ _
/-- What holds while the slots that were not answered fail. -/
structure TkIn (w wr : World) (q : Nat) (t : Px.St) (slt ent v : Value) (L : List Int) : Prop where
  pw : PW wr q t slt ent
  at' : PAt wr t slt ent
  row : TRow wr 3 v L.length (L.map (Value.int .i64))
  bel : Below w.heap.size w wr
theorem TkIn.later {w wr w' : World} {q : Nat} {t : Px.St} {slt ent v : Value} {L : List Int} (h : TkIn w wr q t slt ent v L) (hb : Below wr.heap.size wr w') : TkIn w w' q t slt ent v L :=
  ⟨h.pw.later hb, h.at'.later hb, h.row.later hb, h.bel.trans (hb.mono h.bel.size)⟩
theorem TkIn.put {w wr : World} {q : Nat} {t u : Px.St} {slt ent slu enu v : Value} {L : List Int} (h : TkIn w wr q t slt ent v L) (hq : w.heap.size ≤ q) (hu : PAt wr u slu enu) :
    TkIn w (((((wr.setCell ⟨q, 0, none⟩ (.string u.tab)).setCell ⟨q, 1, none⟩ (.int .i64 u.clock)).setCell ⟨q, 2, none⟩ (.int .i64 u.next)).setCell ⟨q, 3, none⟩ slu).setCell ⟨q, 4, none⟩ enu) q u slu enu v L := by
  refine ⟨h.pw.put u slu enu, hu.store h.pw.ty _ _ _ _ _, ?_, below_set5' h.bel hq _ _ _ _ _⟩
  have st : ∀ (w : World) (j : Nat) (x : Value), (Typed w q 93 ∧ TRow w 3 v L.length (L.map (Value.int .i64))) → (Typed (w.setCell ⟨q, j, none⟩ x) q 93 ∧ TRow (w.setCell ⟨q, j, none⟩ x) 3 v L.length (L.map (Value.int .i64))) := fun w j x h => ⟨h.1.setCell _ _ _, h.2.set h.1 (by decide) _ _⟩
  exact (st _ _ _ (st _ _ _ (st _ _ _ (st _ _ _ (st _ _ _ ⟨h.pw.ty, h.row⟩))))).2

set_option maxRecDepth 10000 in
set_option maxHeartbeats 8000000 in
theorem ptick_any (b : Px.Bo) (B : Nat) (m : Int) (sl en : Value) (w : World) (hO : Px.Ok b.st) (hlg : b.log.size ≤ 10000) (hT : TabLH w) (hM : Tab w) (hB : PB w B b sl en) :
    Calls Tryd.prog 23 #[.pointer (some ⟨B, 0, none⟩), .int .i64 m] w fun e w' => AnsT (Px.tickB b m) B w e w' := by
  obtain ⟨ad, cap, rfl, hcap⟩ := hB.rows.sl.form
  obtain ⟨ad2, cap2, rfl, hcap2⟩ := hB.rows.en.form
  have HB : Hid (PB w B b (.slice ad b.st.slots.length cap) (.slice ad2 b.st.ends.length cap2)) := hB
  have HT : Hid (TabLH w) := hT
  have HM' : Hid (Tab w) := hM
  have HO : Hid (Px.Ok b.st) := hO
  have hl : b.st.slots.length ≤ 8 := hO.len
  have he : b.st.ends.length ≤ 6 := hO.st.en
  have hn1 : 1 ≤ b.st.next := hO.st.n1
  have hn2 : b.st.next ≤ 10000 := hO.st.n2
  have hlt := hB.ty.lt
  have e2 := hB.c2; have e3 := hB.c3; have e4 := hB.c4; have e5 := hB.c5; have e6 := hB.c6
  clear hB hT hO hM
  go_enter Tryd.func23, Tryd.ntmps23
  go_wp2_with fail
  refine (withClock_any b.st m _ _ _ HO.out HT.out HM'.out HB.out.rows).mono ?_
  rintro e w1 ⟨⟨slt, ent, rfl, hat⟩, hb1⟩
  have HB1 := HB.out.later hb1
  have HG1 := grow_of_below hb1 (some B)
  have HBl1 := hb1
  clear e2 e3 e4 e5 e6 hb1
  obtain ⟨ad3, cap3, hv3, _⟩ := hat.sl.form
  obtain ⟨ad4, cap4, hv4, _⟩ := hat.en.form
  subst hv3 hv4
  have hbd := clock_bd b.st m
  by_cases hd : (Px.clockP b.st m).2 = 0
  rotate_left
  · have HM : Hid (Px.tickB b m = (b, 0, (Px.clockP b.st m).2)) := by unfold Hid Px.tickB; rw [if_pos hd]
    have hd' : ((Px.clockP b.st m).2 != 0) = true := by simpa using hd
    have HBx : Hid (∀ o, PB (w1.alloc o) B b (.slice ad b.st.slots.length cap) (.slice ad2 b.st.ends.length cap2)) := fun o => HB1.later (below_alloc w1 o)
    have HGx : Hid (∀ o, w.grownBy (w1.alloc o) (some B)) := fun o => grow_trans HG1 (grow_of_below (below_alloc w1 o) _)
    clear hd HB1 HG1 hat HBl1
    generalize (Px.clockP b.st m).2 = r at *
    generalize (Px.clockP b.st m).1 = t at *
    go_wp2_with fail
    go_ret2
    exact AnsT.of HM.out ⟨_, _, HBx.out _⟩ (HGx.out _)
  have hok1 := Px.clock_ok HO.out hd
  have hcs := Px.clock_st hd
  have hm1 := hcs.1
  have hm2 := hcs.2.1
  have HOT : Hid (Px.Ok (Px.clockP b.st m).1) := hok1
  have htl : (Px.clockP b.st m).1.slots.length ≤ 8 := hok1.len
  have hte : (Px.clockP b.st m).1.ends.length ≤ 6 := hok1.st.en
  have htn1 : 1 ≤ (Px.clockP b.st m).1.next := hok1.st.n1
  have htn2 : (Px.clockP b.st m).1.next ≤ 10000 := hok1.st.n2
  have htc1 : -1 ≤ (Px.clockP b.st m).1.clock := hok1.st.c1
  have htc2 : (Px.clockP b.st m).1.clock ≤ 4223371679 := hok1.st.c2
  have HM0 : Hid (Px.tickB b m = if b.room < (b.log.size : Int) + ((Px.late (Px.clockP b.st m).1).foldl Px.failStep ((Px.clockP b.st m).1, Bx.frame (Bx.body (chCl m)))).2.size then (b, 0, 13)
      else ({ b with st := ((Px.late (Px.clockP b.st m).1).foldl Px.failStep ((Px.clockP b.st m).1, Bx.frame (Bx.body (chCl m)))).1, log := b.log ++ ((Px.late (Px.clockP b.st m).1).foldl Px.failStep ((Px.clockP b.st m).1, Bx.frame (Bx.body (chCl m)))).2 }, (Px.clockP b.st m).1.next - b.st.next, 0)) := by
    unfold Hid Px.tickB; rw [if_neg (by omega)]; rfl
  rw [hd]
  clear hbd hd hok1 hcs
  generalize (Px.clockP b.st m).1 = t at *
  have HB2 := HB1.later (below_alloc w1 (pstO t (.slice ad3 t.slots.length cap3) (.slice ad4 t.ends.length cap4)))
  have HBl2 := HBl1.alloc HBl1.size (pstO t (.slice ad3 t.slots.length cap3) (.slice ad4 t.ends.length cap4))
  have HA2 := hat.later (below_alloc w1 (pstO t (.slice ad3 t.slots.length cap3) (.slice ad4 t.ends.length cap4)))
  have HI2 := PW.new w1 t (.slice ad3 t.slots.length cap3) (.slice ad4 t.ends.length cap4)
  have hq : w.heap.size ≤ w1.heap.size := HBl1.size
  clear HB1 HG1 hat HBl1
  go_upto_region 2 with fail
  generalize w1.alloc (pstO t (.slice ad3 t.slots.length cap3) (.slice ad4 t.ends.length cap4)) = W2 at *
  generalize w1.heap.size = q at *
  have HBl2' : Hid (Below w.heap.size w W2) := HBl2
  have HA2' : Hid (PAt W2 t (.slice ad3 t.slots.length cap3) (.slice ad4 t.ends.length cap4)) := HA2
  have HI2' : Hid (PW W2 q t (.slice ad3 t.slots.length cap3) (.slice ad4 t.ends.length cap4)) := HI2
  obtain ⟨i0, i1, i2, i3, i4⟩ := HI2.st
  have c4 := HB2.c4
  have hB2 : B < W2.heap.size := HB2.ty.lt
  clear HB2 HBl2 HA2 HI2
  go_wp2_with fail
  go_quiet (fail)
  clear c4 i0 i1 i2 i3 i4
  go_wp2_with fail
  refine (fclock_any m _ hm1 hm2).mono ?_
  rintro e w3 ⟨rfl, hb3'⟩
  have hb3 : Below W2.heap.size W2 w3 := (below_drewN (Below.refl _ _) nq).trans hb3'
  clear hb3'
  have HBl3 : Hid (Below w.heap.size w w3) := HBl2'.out.trans (hb3.mono HBl2'.out.size)
  have HA3 : Hid (PAt w3 t (.slice ad3 t.slots.length cap3) (.slice ad4 t.ends.length cap4)) := HA2'.out.later hb3
  have HI3 : Hid (PW w3 q t (.slice ad3 t.slots.length cap3) (.slice ad4 t.ends.length cap4)) := HI2'.out.later hb3
  obtain ⟨i0, i1, i2, i3, i4⟩ := HI3.out.st
  clear hb3 HBl2' HA2' HI2'
  have hfz : (Bx.frame (Bx.body (chCl m))).size ≤ 400 := frame_sz (chCl m) (by show (0 : Nat) ≤ 300; omega)
  generalize Bx.frame (Bx.body (chCl m)) = fr at *
  go_wp2_with fail
  refine (unanswered_any t _ _ _ (by omega) htc1 htc2 HA3.out).mono ?_
  rintro e w4 ⟨⟨v, rfl, hown⟩, hb4⟩
  have hrow := TRow.of_own hown
  obtain ⟨adv, capv, hvv, _⟩ := hrow.form
  subst hvv
  have HK0 : Hid (TkIn w w4 q t (.slice ad3 t.slots.length cap3) (.slice ad4 t.ends.length cap4) (.slice adv (Px.late t).length capv) (Px.late t)) :=
    ⟨HI3.out.later hb4, HA3.out.later hb4, hrow, HBl3.out.trans (hb4.mono HBl3.out.size)⟩
  have hll := late_len t
  have HLm : Hid (∀ n ∈ Px.late t, 0 ≤ n ∧ n ≤ 100000) := fun n hn => late_mem HOT.out hn
  clear i0 i1 i2 i3 i4 hown hb4 hrow HBl3 HA3 HI3
  generalize Px.late t = L at *
  go_wp2_with fail
  go_loopw [9, 11] (fun f i wr => ∃ (k : Nat) (slt ent : Value), k ≤ L.length ∧ i = .int .i64 k ∧ f = .string ((L.take k).foldl Px.failStep (t, fr)).2 ∧ TkIn w wr q ((L.take k).foldl Px.failStep (t, fr)).1 slt ent (.slice adv L.length capv) L) (fun _ i _ => L.length - (intOf i).toNat)
  case atStart => exact ⟨0, _, _, Nat.zero_le _, rfl, rfl, HK0.out⟩
  case round =>
    clear HK0
    obtain ⟨k, slt, ent, hk, rfl, rfl, HI⟩ := hrel
    have hok := fails_ok (L.take k) (t, fr) HOT.out
    have hsz := fails_sz (L.take k) (t, fr)
    have hl4 : (L.take k).length = k := by simp; omega
    rw [hl4] at hsz
    by_cases hkl : k < L.length
    · have HTk : Hid ((L.take (k + 1)).foldl Px.failStep (t, fr) = Px.failStep ((L.take k).foldl Px.failStep (t, fr)) L[k]) := fails_take L (t, fr) k hkl
      obtain ⟨hn0, hn1'⟩ := HLm.out L[k] (List.getElem_mem hkl)
      obtain ⟨b', off, cap', hv, _, hcc⟩ := HI.row.1.some' (by omega)
      cases hv
      have d0 : wr.cell? ⟨b', off + k, none⟩ = some (.int .i64 L[k]) := by
        have := hcc k (by simpa using hkl); simpa using this
      obtain ⟨adt, capt, hvt, _⟩ := HI.at'.sl.form
      obtain ⟨ade, cape, hve, _⟩ := HI.at'.en.form
      subst hvt hve
      have hbl : b' < wr.heap.size := World.block_lt_of_cell? _ _ d0
      have hql : q < wr.heap.size := HI.pw.ty.lt
      obtain ⟨c0, c1, c2, c3, c4⟩ := HI.pw.st
      have HI' : Hid (TkIn w wr q ((L.take k).foldl Px.failStep (t, fr)).1 _ _ _ L) := HI
      have HOk : Hid (Px.Ok ((L.take k).foldl Px.failStep (t, fr)).1) := hok
      have bk0 : (0 : Int) ≤ (k : Int) := by omega
      have bk1 : (k : Int) < (L.length : Int) := by omega
      have HTw : Hid (TabLH wr) := HT.out.later HI.bel
      clear hcc HI hok
      generalize ((L.take k).foldl Px.failStep (t, fr)) = P at *
      generalize hnn : L[k] = n at *
      have HNn : Hid (L[k]'hkl = n) := hnn
      clear hnn
      obtain ⟨T, f⟩ := P
      simp only at *
      go_wp2_with fail
      go_cut [12, 13] from 45 to 52 (fun s12 s13 wx => ∃ g slu enu, s12 = .pointer (some ⟨g, 0, none⟩) ∧ s13 = .int .i64 (Px.failP T n).2 ∧ PIn wx g (Px.failP T n).1 slu enu ∧ PAt wx (Px.failP T n).1 slu enu ∧ Below wr.heap.size wr wx)
      case first =>
        have HA1 : Hid (PAt wr.drew T (.slice adt T.slots.length capt) (.slice ade T.ends.length cape)) := HI'.out.at'.later (Below.refl _ _).drew
        have HA2 : Hid (PAt (wr.alloc pzO).drew T (.slice adt T.slots.length capt) (.slice ade T.ends.length cape)) := (HI'.out.at'.later (below_alloc _ _)).later (Below.refl _ _).drew
        have HT1 : Hid (TabLH wr.drew) := HTw.out.later (Below.refl _ _).drew
        have HT2 : Hid (TabLH (wr.alloc pzO).drew) := (HTw.out.later (below_alloc _ _)).later (Below.refl _ _).drew
        go_region_with (first
          | (go_at_call 50; refine (withFail_any T n (.slice adt T.slots.length capt) (.slice ade T.ends.length cape) wr.drew HOk.out HT1.out HA1.out).mono ?_; rintro e w2 ⟨⟨sl2, en2, rfl, hst2⟩, hb2⟩; obtain ⟨ad5, cap5, rfl, hc5⟩ := hst2.sl.form; obtain ⟨ad6, cap6, rfl, hc6⟩ := hst2.en.form; have hbA : Below wr.heap.size wr w2 := (Below.refl _ _).drew.trans hb2)
          | (go_at_call 50; refine (withFail_any T n (.slice adt T.slots.length capt) (.slice ade T.ends.length cape) (wr.alloc pzO).drew HOk.out HT2.out HA2.out).mono ?_; rintro e w2 ⟨⟨sl2, en2, rfl, hst2⟩, hb2⟩; obtain ⟨ad5, cap5, rfl, hc5⟩ := hst2.sl.form; obtain ⟨ad6, cap6, rfl, hc6⟩ := hst2.en.form; have hbB : Below wr.heap.size wr w2 := (below_alloc _ _).drew.trans (hb2.mono (by simp)); have hZ := ((PW.new wr Px.st0 (.slice none 0 0) (.slice none 0 0)).later (Below.refl _ _).drew).later hb2; obtain ⟨⟨z0, z1, z2, z3, z4⟩, zf, zt⟩ := hZ; have HZ : Hid (PW w2 wr.heap.size Px.st0 (.slice none 0 0) (.slice none 0 0)) := ((PW.new wr Px.st0 (.slice none 0 0) (.slice none 0 0)).later (Below.refl _ _).drew).later hb2; have zf0 := zf 0 (by decide); have zf1 := zf 1 (by decide); have zf2 := zf 2 (by decide); have zf3 := zf 3 (by decide); have zf4 := zf 4 (by decide)))
        all_goals (go_wp2_with fail; go_meet)
        all_goals (first | (have hgo := hbA; exact ⟨_, _, _, rfl, rfl, PIn.new w2 (Px.failP T n).1 _ _, hst2.later (below_alloc _ _), hgo.alloc hgo.size _⟩) | exact ⟨_, _, _, rfl, rfl, (HZ.out.put (Px.failP T n).1 _ _).st, hst2.store HZ.out.ty _ _ _ _ _, below_set5' hbB (Nat.le_refl _) _ _ _ _ _⟩)
      case rest =>
        obtain ⟨g, slu, enu, rfl, rfl, hI5, hS5, hb5⟩ := hcut
        obtain ⟨ad5, cap5, rfl, hc5⟩ := hS5.sl.form
        obtain ⟨ad6, cap6, rfl, hc6⟩ := hS5.en.form
        have HI5 := HI'.out.later hb5
        clear c0 c1 c2 c3 c4 HI'
        have hbf := fail_bd T n
        have HFs : Hid (Px.failStep (T, f) n = if (Px.failP T n).2 = 0 then ((Px.failP T n).1, f ++ Bx.frame (Bx.body (chF n))) else (T, f)) := rfl
        by_cases hF : (Px.failP T n).2 = 0
        · have HN : Hid ((L.take (k + 1)).foldl Px.failStep (t, fr) = ((Px.failP T n).1, f ++ Bx.frame (Bx.body (chF n)))) := by unfold Hid; rw [HTk.out, HFs.out, if_pos hF]
          have HI6 := HI5.put hq hS5
          obtain ⟨d0', d1', d2', d3', d4'⟩ := hI5
          obtain ⟨⟨e0, e1, e2, e3, e4⟩, fq, _⟩ := HI5.pw
          have g0 := fq 0 (by decide); have g1 := fq 1 (by decide); have g2 := fq 2 (by decide); have g3 := fq 3 (by decide); have g4 := fq 4 (by decide)
          rw [hF]
          have hfz2 : (Bx.frame (Bx.body (chF n))).size ≤ 400 := frame_sz (chF n) (by show (0 : Nat) ≤ 300; omega)
          clear HFs HTk hF hbf HI5 hS5 hb5 fq d0
          generalize (Px.failP T n).1 = U at *
          go_upto_region 13 with fail
          clear d0' d1' d2' d3' d4' e0 e1 e2 e3 e4 g0 g1 g2 g3 g4
          have HI6' : Hid (TkIn w _ q U (.slice ad5 U.slots.length cap5) (.slice ad6 U.ends.length cap6) (.slice (some ⟨b', off, none⟩) L.length capv) L) := HI6
          clear HI6
          generalize ((((wc.setCell ⟨q, 0, none⟩ (.string U.tab)).setCell ⟨q, 1, none⟩ (.int .i64 U.clock)).setCell ⟨q, 2, none⟩ (.int .i64 U.next)).setCell ⟨q, 3, none⟩ (.slice ad5 U.slots.length cap5)).setCell ⟨q, 4, none⟩ (.slice ad6 U.ends.length cap6) = W6 at *
          have d0 : W6.cell? ⟨b', off + k, none⟩ = some (.int .i64 n) := by
            obtain ⟨b2, off2, cap2', hv, _, hcc⟩ := HI6'.out.row.1.some' (by omega)
            cases hv
            have := hcc k (by simpa using hkl); simpa [HNn.out] using this
          go_wp2_with fail
          refine (ffail_any n _ hn0 hn1').mono ?_
          rintro e w7 ⟨rfl, hb7⟩
          have HI7 : Hid (TkIn w w7 q U (.slice ad5 U.slots.length cap5) (.slice ad6 U.ends.length cap6) (.slice (some ⟨b', off, none⟩) L.length capv) L) := HI6'.out.later hb7
          clear HI6' hb7 d0
          generalize Bx.frame (Bx.body (chF n)) = fn at *
          have hap : ¬ 9223372036854775807 < f.size + fn.size := by omega
          go_wp2_with fail
          go_roundw
          case rel => exact ⟨k + 1, _, _, by omega, by go_num, by rw [HN.out], by rw [HN.out]; exact HI7.out⟩
          case measure => simp [intOf]; omega
        · have HN : Hid ((L.take (k + 1)).foldl Px.failStep (t, fr) = (T, f)) := by unfold Hid; rw [HTk.out, HFs.out, if_neg hF]
          have hF' : ((Px.failP T n).2 == 0) = false := by simpa using hF
          have HI6 : Hid (TkIn w wc q T (.slice adt T.slots.length capt) (.slice ade T.ends.length cape) (.slice (some ⟨b', off, none⟩) L.length capv) L) := HI5
          clear HI5 hI5 hS5 hb5 HFs HTk d0 hF
          generalize (Px.failP T n).2 = r at *
          generalize (Px.failP T n).1 = U at *
          go_wp2_with fail
          go_roundw
          case rel => exact ⟨k + 1, _, _, by omega, by go_num, by rw [HN.out], by rw [HN.out]; exact HI6.out⟩
          case measure => simp [intOf]; omega
    · obtain rfl : k = L.length := by omega
      have HTk : Hid (L.take L.length = L) := List.take_length
      rw [HTk.out] at HI hsz hok ⊢
      obtain ⟨adt, capt, hvt, _⟩ := HI.at'.sl.form
      obtain ⟨ade, cape, hve, _⟩ := HI.at'.en.form
      subst hvt hve
      obtain ⟨c0, c1, c2, c3, c4⟩ := HI.pw.st
      have HBx : Hid (PB wr B b (.slice ad b.st.slots.length cap) (.slice ad2 b.st.ends.length cap2)) := HB.out.later HI.bel
      have HGx : Hid (w.grownBy wr (some B)) := grow_of_below HI.bel _
      have HA : Hid (PAt wr (L.foldl Px.failStep (t, fr)).1 _ _) := HI.at'
      clear HI hok HTk
      generalize L.foldl Px.failStep (t, fr) = P at *
      obtain ⟨T, f⟩ := P
      simp only at *
      go_wp2_with fail
      refine (commit_any b B T f _ _ _ _ _ (by omega) (by omega) HBx.out HA.out).mono ?_
      intro e w5 hcm
      clear c0 c1 c2 c3 c4
      cases hcm with
      | no _ h hb =>
        have HM2 : Hid (AnsT (Px.tickB b m) B w (.returned (.tuple #[.int .i64 0, .int .i64 13])) w5) := AnsT.of (by rw [HM0.out, if_pos h]) ⟨_, _, HBx.out.later hb⟩ (grow_trans HGx.out (grow_of_below hb _))
        clear hb h
        go_wp2_with fail
        go_ret2
        exact HM2.out
      | yes _ h hB hg =>
        have HM2 : Hid (AnsT (Px.tickB b m) B w (.returned (.tuple #[.int .i64 (t.next - b.st.next), .int .i64 0])) w5) := AnsT.of (by rw [HM0.out, if_neg h]) ⟨_, _, hB⟩ (grow_trans HGx.out hg)
        clear hB hg h
        go_wp2_with fail
        go_ret2
        exact HM2.out
end Go.Proofs.YtdajolpoiffimaaDoor

namespace Go.Proofs.YtdajolpoiffimaaDoor
open Go.RowKit

def slotA (l : List Px.Sl) (i : Int) : Px.Sl × Int := if 0 ≤ i ∧ i < (l.length : Int) then (l.getD i.toNat Px.sl0, 0) else (Px.sl0, 4)
def endA (l : List Bx.En) (i : Int) : Bx.En × Int := if 0 ≤ i ∧ i < (l.length : Int) then (l.getD i.toNat ⟨0, ByteArray.empty⟩, 0) else (⟨0, ByteArray.empty⟩, 4)
theorem slotA_no {l : List Px.Sl} {i : Int} (h : i < 0 ∨ (l.length : Int) ≤ i) : slotA l i = (Px.sl0, 4) := if_neg (by omega)
theorem slotA_yes {l : List Px.Sl} {k : Nat} (h : k < l.length) : slotA l (k : Int) = (l[k], 0) := by
  unfold slotA; rw [if_pos (by omega), Int.toNat_natCast]; simp [h]
theorem endA_no {l : List Bx.En} {i : Int} (h : i < 0 ∨ (l.length : Int) ≤ i) : endA l i = (⟨0, ByteArray.empty⟩, 4) := if_neg (by omega)
theorem endA_yes {l : List Bx.En} {k : Nat} (h : k < l.length) : endA l (k : Int) = (l[k], 0) := by
  unfold endA; rw [if_pos (by omega), Int.toNat_natCast]; simp [h]
theorem slotR_eq {l : List Px.Sl} {i : Int} {e : Ending} (h : SlotR l i e) : e = .returned (.tuple #[paslV (slotA l i).1, .int .i64 (slotA l i).2]) := by
  cases h with
  | no h => rw [slotA_no h]; rfl
  | yes k hk h => subst h; rw [slotA_yes hk]
abbrev enV (x : Bx.En) : Value := .agg #[.int .i64 x.num, .string x.how]
theorem endR_eq {l : List Bx.En} {i : Int} {e : Ending} (h : EndR l i e) : e = .returned (.tuple #[enV (endA l i).1, .int .i64 (endA l i).2]) := by
  cases h with
  | no h => rw [endA_no h]; rfl
  | yes k hk h => subst h; rw [endA_yes hk]
theorem xslot_any (b : Px.Bo) (B : Nat) (i : Int) (w : World) (hO : Px.Ok b.st) (hB : ∃ sl en, PB w B b sl en) :
    Calls Tryd.prog 30 #[.pointer (some ⟨B, 0, none⟩), .int .i64 i] w fun e w' => e = .returned (.tuple #[paslV (slotA b.st.slots i).1, .int .i64 (slotA b.st.slots i).2]) ∧ Below w.heap.size w w' := by
  obtain ⟨sl, en, hB⟩ := hB
  exact (pslot_any b B i sl en w (by have := hO.len; omega) hB).mono fun e w' h => ⟨slotR_eq h.1, h.2⟩
theorem xend_any (b : Px.Bo) (B : Nat) (i : Int) (w : World) (hO : Px.Ok b.st) (hB : ∃ sl en, PB w B b sl en) :
    Calls Tryd.prog 29 #[.pointer (some ⟨B, 0, none⟩), .int .i64 i] w fun e w' => e = .returned (.tuple #[enV (endA b.st.ends i).1, .int .i64 (endA b.st.ends i).2]) ∧ Below w.heap.size w w' := by
  obtain ⟨sl, en, hB⟩ := hB
  exact (pend_any b B i sl en w (by have : b.st.ends.length ≤ 6 := hO.st.en; omega) hB).mono fun e w' h => ⟨endR_eq h.1, h.2⟩
theorem xlook_any (b : Px.Bo) (B : Nat) (w : World) (hB : ∃ sl en, PB w B b sl en) :
    Calls Tryd.prog 25 #[.pointer (some ⟨B, 0, none⟩)] w fun e w' => e = .returned (pviewV b.st) ∧ Below w.heap.size w w' := by
  obtain ⟨sl, en, hB⟩ := hB; exact plook_any b B sl en w hB
theorem xlog_any (b : Px.Bo) (B : Nat) (w : World) (hB : ∃ sl en, PB w B b sl en) :
    Calls Tryd.prog 90 #[.pointer (some ⟨B, 0, none⟩)] w fun e w' => e = .returned (.string b.log) ∧ w' = w := by
  obtain ⟨sl, en, hB⟩ := hB; exact plog_any b B sl en w hB
theorem xtick_any (b : Px.Bo) (B : Nat) (m : Int) (w : World) (hO : Px.Ok b.st) (hlg : b.log.size ≤ 10000) (hT : TabLH w) (hM : Tab w) (hB : ∃ sl en, PB w B b sl en) :
    Calls Tryd.prog 23 #[.pointer (some ⟨B, 0, none⟩), .int .i64 m] w fun e w' => e = .returned (.tuple #[.int .i64 (Px.tickB b m).2.1, .int .i64 (Px.tickB b m).2.2]) ∧ (∃ sl en, PB w' B (Px.tickB b m).1 sl en) ∧ w.grownBy w' (some B) := by
  obtain ⟨sl, en, hB⟩ := hB
  refine (ptick_any b B m sl en w hO hlg hT hM hB).mono fun e w' h => ?_
  cases h with
  | mk _ hB hg => exact ⟨rfl, hB, hg⟩
theorem xstart_any (b : Px.Bo) (B : Nat) (n : Int) (w : World) (hO : Px.Ok b.st) (hlg : b.log.size ≤ 10000) (hT : TabLH w) (hB : ∃ sl en, PB w B b sl en) :
    Calls Tryd.prog 55 #[.pointer (some ⟨B, 0, none⟩), .int .i64 n] w fun e w' => e = .returned (.tuple #[.string (Px.startB b n).2.1, .int .i64 (Px.startB b n).2.2]) ∧ (∃ sl en, PB w' B (Px.startB b n).1 sl en) ∧ w.grownBy w' (some B) := by
  obtain ⟨sl, en, hB⟩ := hB
  refine (pstart_any b B n sl en w hO hlg hT hB).mono fun e w' h => ?_
  cases h with
  | mk _ hB hg => exact ⟨rfl, hB, hg⟩
theorem xfeed_any (b : Px.Bo) (B : Nat) (n : Int) (x : ByteArray) (w : World) (hO : Px.Ok b.st) (hlg : b.log.size ≤ 10000) (hT : TabLH w) (hB : ∃ sl en, PB w B b sl en) :
    Calls Tryd.prog 56 #[.pointer (some ⟨B, 0, none⟩), .int .i64 n, .string x] w fun e w' => e = .returned (.tuple #[.string (Px.feedB b n x).2.1, .int .i64 (Px.feedB b n x).2.2]) ∧ (∃ sl en, PB w' B (Px.feedB b n x).1 sl en) ∧ w.grownBy w' (some B) := by
  obtain ⟨sl, en, hB⟩ := hB
  refine (pfeed_any b B n x sl en w hO hlg hT hB).mono fun e w' h => ?_
  cases h with
  | mk _ hB hg => exact ⟨rfl, hB, hg⟩
theorem xload_any (b : Px.Bo) (B : Nat) (tab : ByteArray) (w : World) (hO : Px.Ok b.st) (hlg : b.log.size ≤ 10000) (hs : tab.size ≤ maxLen) (hT : TabLH w) (hB : ∃ sl en, PB w B b sl en) :
    Calls Tryd.prog 32 #[.pointer (some ⟨B, 0, none⟩), .string tab] w fun e w' => ∃ b' a r, e = .returned (.tuple #[.int .i64 a, .int .i64 r]) ∧ Px.LoadB b tab b' a r ∧ (∃ sl en, PB w' B b' sl en) ∧ w.grownBy w' (some B) := by
  obtain ⟨sl, en, hB⟩ := hB
  refine (pload_any b B tab sl en w hO hlg hs hT hB).mono fun e w' h => ?_
  cases h with
  | mk _ b' a r hl hB hg => exact ⟨b', a, r, rfl, hl, hB, hg⟩
end Go.Proofs.YtdajolpoiffimaaDoor

namespace Go.Proofs.YtdajolpoiffimaaDoor
open Go.ChangeShapes Go.WideShapes Go.ChangeAt Go.RowKit

theorem own : ownKnob Tryd.prog.godebug = none := by kernel_rfl
theorem laidOut : laidOutB Tryd.prog = true := by kernel_rfl
theorem gTab : Tryd.prog.globalNamed "bellman/calendar.monthLengths" = some 0 := by kernel_rfl
theorem gTabType : (Tryd.prog.globals[0]?).map (·.type) = some 162 := by kernel_rfl
theorem cellsTab : Tryd.prog.cellsOf 162 = 12 := by kernel_rfl
theorem cellsInt : Tryd.prog.cellsOf 3 = 1 := by kernel_rfl
theorem cellsDate : Tryd.prog.cellsOf 23 = 6 := by kernel_rfl

theorem tab_of {W : World} (h : Lib.TabIs Tryd.prog W "bellman/calendar.monthLengths" .i64 [31, 28, 31, 30, 31, 30, 31, 31, 30, 31, 30, 31]) : Tab W := by
  intro m m1 m2
  have : m = 1 ∨ m = 2 ∨ m = 3 ∨ m = 4 ∨ m = 5 ∨ m = 6 ∨ m = 7 ∨ m = 8 ∨ m = 9 ∨ m = 10 ∨ m = 11 ∨ m = 12 := by omega
  rcases this with rfl | rfl | rfl | rfl | rfl | rfl | rfl | rfl | rfl | rfl | rfl | rfl
  · exact h.cell gTab 0 (by decide)
  · exact h.cell gTab 1 (by decide)
  · exact h.cell gTab 2 (by decide)
  · exact h.cell gTab 3 (by decide)
  · exact h.cell gTab 4 (by decide)
  · exact h.cell gTab 5 (by decide)
  · exact h.cell gTab 6 (by decide)
  · exact h.cell gTab 7 (by decide)
  · exact h.cell gTab 8 (by decide)
  · exact h.cell gTab 9 (by decide)
  · exact h.cell gTab 10 (by decide)
  · exact h.cell gTab 11 (by decide)

theorem six {α : Type} {cs : Array α} (h : cs.size = 6) : ∃ a b c d e f, cs = #[a, b, c, d, e, f] := by
  obtain ⟨l⟩ := cs
  match l, h with
  | [a, b, c, d, e, f], _ => exact ⟨a, b, c, d, e, f, rfl⟩
theorem someAt {α : Type} {xs : List α} {n i : Nat} (h : xs.length = n) (hi : i < n) : ∃ x, xs[i]? = some x := ⟨xs[i], by simp⟩

set_option maxRecDepth 10000 in
/-- A date that comes in is six numbers. -/
theorem open_date {H : Type} {enc : TypeId × Value → H} {w : World} {r : Reach} {b0 base : Nat} {spare : Nat → Bool} {held : Bool} {v : Value} {x : DataW H} {p : List MemPlace}
    (hv : Value.okWide Tryd.prog w r b0 23 v) (h : DataW.Trod enc Tryd.prog w base spare held 23 v x p) : ∃ y m d h' i k : Int, v = dateV y m d h' i k := by
  obtain ⟨cs, rfl, hsz⟩ := okWide_struct Tryd.underlying23 hv
  obtain ⟨c0, c1, c2, c3, c4, c5, rfl⟩ := six (hsz.trans cellsDate)
  obtain ⟨fuel, hf⟩ := h
  obtain ⟨xs, n, _, _, _, hlen, hfld⟩ := DataW.trod_struct Tryd.underlying23 hf
  have q : ∀ (j : Nat) (c : Value) (y : DataW H × List MemPlace), DataW.trod enc Tryd.prog w base spare held n 3 [c] = some y → ∃ z : Int, c = .int .i64 z := by
    intro j c y hy
    obtain ⟨z, e, _, _⟩ := DataW.trod_int Tryd.underlying3 hy
    exact ⟨z, by simpa using e⟩
  obtain ⟨x0, e0⟩ := someAt hlen (i := 0) (by decide)
  obtain ⟨x1, e1⟩ := someAt hlen (i := 1) (by decide)
  obtain ⟨x2, e2⟩ := someAt hlen (i := 2) (by decide)
  obtain ⟨x3, e3⟩ := someAt hlen (i := 3) (by decide)
  obtain ⟨x4, e4⟩ := someAt hlen (i := 4) (by decide)
  obtain ⟨x5, e5⟩ := someAt hlen (i := 5) (by decide)
  have h0 := hfld 0 _ rfl
  have h1 := hfld 1 _ rfl
  have h2 := hfld 2 _ rfl
  have h3 := hfld 3 _ rfl
  have h4 := hfld 4 _ rfl
  have h5 := hfld 5 _ rfl
  simp only [Value.cells] at h0 h1 h2 h3 h4 h5
  obtain ⟨a, rfl⟩ := q 0 c0 x0 (h0.trans e0)
  obtain ⟨b, rfl⟩ := q 1 c1 x1 (h1.trans e1)
  obtain ⟨c, rfl⟩ := q 2 c2 x2 (h2.trans e2)
  obtain ⟨d, rfl⟩ := q 3 c3 x3 (h3.trans e3)
  obtain ⟨e, rfl⟩ := q 4 c4 x4 (h4.trans e4)
  obtain ⟨f, rfl⟩ := q 5 c5 x5 (h5.trans e5)
  exact ⟨a, b, c, d, e, f, rfl⟩

end Go.Proofs.YtdajolpoiffimaaDoor

namespace Go.Proofs.YtdajolpoiffimaaDoor
open Go.RowKit

theorem below_grow {w W W' : World} {B : Nat} (h : Below w.heap.size w W) (hg : W.grownBy W' (some B)) (hB : w.heap.size ≤ B) : Below w.heap.size w W' :=
  ⟨hg.os.trans h.os, hg.tape.trans h.tape, hg.output.trans h.output, Nat.le_trans h.size hg.size, fun k hk => (hg.block k (Nat.lt_of_lt_of_le hk h.size) (fun e => by cases e; omega)).trans (h.block k hk)⟩
/-- A box that was made behind a world. -/
structure KB (w0 w : World) (B : Nat) (b : Px.Bo) : Prop where
  lo : w0.heap.size ≤ B
  bl : Below w0.heap.size w0 w
  pb : ∃ sl en, PB w B b sl en
theorem KB.grow {w0 w w' : World} {B : Nat} {b b' : Px.Bo} (h : KB w0 w B b) (hg : w.grownBy w' (some B)) (hp : ∃ sl en, PB w' B b' sl en) : KB w0 w' B b' := ⟨h.lo, below_grow h.bl hg h.lo, hp⟩
theorem KB.later {w0 w w' : World} {B : Nat} {b : Px.Bo} (h : KB w0 w B b) (hb : Below w.heap.size w w') : KB w0 w' B b := by
  obtain ⟨sl, en, hp⟩ := h.pb
  exact ⟨h.lo, h.bl.trans (hb.mono h.bl.size), sl, en, hp.later hb⟩
theorem KB.alloc {w0 w : World} {B : Nat} {b : Px.Bo} (h : KB w0 w B b) (o : Obj) : KB w0 (w.alloc o) B b := h.later (below_alloc _ _)
theorem KB.typ {w0 w : World} {B : Nat} {b : Px.Bo} (h : KB w0 w B b) : Typed w B 96 := by obtain ⟨sl, en, hp⟩ := h.pb; exact hp.ty
/-- A list of numbers in memory. -/
def NumsAt (w : World) (v : Value) (K : List Int) : Prop := ∃ ad cap, v = .slice ad K.length cap ∧ K.length ≤ cap ∧ ∀ i (h : i < K.length), ∃ b off, ad = some ⟨b, off, none⟩ ∧ w.cell? ⟨b, off + i, none⟩ = some (.int .i64 K[i])
theorem NumsAt.later {w w' : World} {v : Value} {K : List Int} (h : NumsAt w v K) (hb : Below w.heap.size w w') : NumsAt w' v K := by
  obtain ⟨ad, cap, h1, h2, h3⟩ := h
  refine ⟨ad, cap, h1, h2, fun i hi => ?_⟩
  obtain ⟨b, off, e, c⟩ := h3 i hi
  exact ⟨b, off, e, cell_later hb c⟩
theorem NumsAt.form {w : World} {v : Value} {K : List Int} (h : NumsAt w v K) : ∃ ad cap, v = .slice ad K.length cap ∧ K.length ≤ cap := by
  obtain ⟨ad, cap, h1, h2, _⟩ := h; exact ⟨ad, cap, h1, h2⟩
theorem nums_at {w : World} {v : Value} {K : List Int} (h : NumsAt w v K) {k : Nat} (hk : k < K.length) : ∃ b off cap, v = .slice (some ⟨b, off, none⟩) K.length cap ∧ w.cell? ⟨b, off + k, none⟩ = some (.int .i64 K[k]) := by
  obtain ⟨ad, cap, h1, h2, h3⟩ := h
  obtain ⟨b, off, rfl, c⟩ := h3 k hk
  exact ⟨b, off, cap, h1, c⟩
theorem slot_one (x : Px.Sl) : slotA [x] 0 = (x, 0) := by unfold slotA; rw [if_pos (by simp)]; rfl
theorem end_one (x : Bx.En) : endA [x] 0 = (x, 0) := by unfold endA; rw [if_pos (by simp)]; rfl
/-- The tables. -/
structure TT (w : World) : Prop where
  lh : TabLH w
  mo : Tab w
theorem TT.later {w w' : World} (h : TT w) (hb : Below w.heap.size w w') : TT w' := ⟨h.lh.later hb, h.mo.later hb⟩
theorem ktick_any (b : Px.Bo) (B : Nat) (m : Int) (w0 w : World) (hO : Px.Ok b.st) (hlg : b.log.size ≤ 10000) (hT : TT w0) (hB : KB w0 w B b) :
    Calls Tryd.prog 23 #[.pointer (some ⟨B, 0, none⟩), .int .i64 m] w fun e w' => e = .returned (.tuple #[.int .i64 (Px.tickB b m).2.1, .int .i64 (Px.tickB b m).2.2]) ∧ KB w0 w' B (Px.tickB b m).1 ∧ w.grownBy w' (some B) :=
  (xtick_any b B m w hO hlg (hT.lh.later hB.bl) (hT.mo.later hB.bl) hB.pb).mono fun _ _ h => ⟨h.1, hB.grow h.2.2 h.2.1, h.2.2⟩
theorem kstart_any (b : Px.Bo) (B : Nat) (n : Int) (w0 w : World) (hO : Px.Ok b.st) (hlg : b.log.size ≤ 10000) (hT : TT w0) (hB : KB w0 w B b) :
    Calls Tryd.prog 55 #[.pointer (some ⟨B, 0, none⟩), .int .i64 n] w fun e w' => e = .returned (.tuple #[.string (Px.startB b n).2.1, .int .i64 (Px.startB b n).2.2]) ∧ KB w0 w' B (Px.startB b n).1 ∧ w.grownBy w' (some B) :=
  (xstart_any b B n w hO hlg (hT.lh.later hB.bl) hB.pb).mono fun _ _ h => ⟨h.1, hB.grow h.2.2 h.2.1, h.2.2⟩
theorem kload_any (b : Px.Bo) (B : Nat) (tab : ByteArray) (w0 w : World) (hO : Px.Ok b.st) (hlg : b.log.size ≤ 10000) (hs : tab.size ≤ maxLen) (hT : TT w0) (hB : KB w0 w B b) :
    Calls Tryd.prog 32 #[.pointer (some ⟨B, 0, none⟩), .string tab] w fun e w' => ∃ b' a r, e = .returned (.tuple #[.int .i64 a, .int .i64 r]) ∧ Px.LoadB b tab b' a r ∧ KB w0 w' B b' ∧ w.grownBy w' (some B) :=
  (xload_any b B tab w hO hlg hs (hT.lh.later hB.bl) hB.pb).mono fun _ _ ⟨b', a, r, h1, h2, h3, h4⟩ => ⟨b', a, r, h1, h2, hB.grow h4 h3, h4⟩
theorem klook_any (b : Px.Bo) (B : Nat) (w0 w : World) (hB : KB w0 w B b) :
    Calls Tryd.prog 25 #[.pointer (some ⟨B, 0, none⟩)] w fun e w' => e = .returned (pviewV b.st) ∧ KB w0 w' B b ∧ Below w.heap.size w w' :=
  (xlook_any b B w hB.pb).mono fun _ _ h => ⟨h.1, hB.later h.2, h.2⟩
theorem kfeed_any (b : Px.Bo) (B : Nat) (n : Int) (x : ByteArray) (w0 w : World) (hO : Px.Ok b.st) (hlg : b.log.size ≤ 10000) (hT : TT w0) (hB : KB w0 w B b) :
    Calls Tryd.prog 56 #[.pointer (some ⟨B, 0, none⟩), .int .i64 n, .string x] w fun e w' => e = .returned (.tuple #[.string (Px.feedB b n x).2.1, .int .i64 (Px.feedB b n x).2.2]) ∧ KB w0 w' B (Px.feedB b n x).1 ∧ w.grownBy w' (some B) :=
  (xfeed_any b B n x w hO hlg (hT.lh.later hB.bl) hB.pb).mono fun _ _ h => ⟨h.1, hB.grow h.2.2 h.2.1, h.2.2⟩
theorem kslot_any (b : Px.Bo) (B : Nat) (i : Int) (w0 w : World) (hO : Px.Ok b.st) (hB : KB w0 w B b) :
    Calls Tryd.prog 30 #[.pointer (some ⟨B, 0, none⟩), .int .i64 i] w fun e w' => e = .returned (.tuple #[paslV (slotA b.st.slots i).1, .int .i64 (slotA b.st.slots i).2]) ∧ KB w0 w' B b ∧ Below w.heap.size w w' :=
  (xslot_any b B i w hO hB.pb).mono fun _ _ h => ⟨h.1, hB.later h.2, h.2⟩
theorem kend_any (b : Px.Bo) (B : Nat) (i : Int) (w0 w : World) (hO : Px.Ok b.st) (hB : KB w0 w B b) :
    Calls Tryd.prog 29 #[.pointer (some ⟨B, 0, none⟩), .int .i64 i] w fun e w' => e = .returned (.tuple #[enV (endA b.st.ends i).1, .int .i64 (endA b.st.ends i).2]) ∧ KB w0 w' B b ∧ Below w.heap.size w w' :=
  (xend_any b B i w hO hB.pb).mono fun _ _ h => ⟨h.1, hB.later h.2, h.2⟩
theorem klog_any (b : Px.Bo) (B : Nat) (w0 w : World) (hB : KB w0 w B b) :
    Calls Tryd.prog 90 #[.pointer (some ⟨B, 0, none⟩)] w fun e w' => e = .returned (.string b.log) ∧ w' = w :=
  xlog_any b B w hB.pb
theorem knew_any (l r : Int) (w : World) (h : mayB l r = true) : Calls Tryd.prog 31 #[.int .i64 l, .int .i64 r] w fun e w' => ∃ B, e = .returned (.tuple #[.pointer (some ⟨B, 0, none⟩), .int .i64 0]) ∧ KB w w' B ⟨l, r, Px.first, ByteArray.empty⟩ :=
  (pnew_yes l r w h).mono fun _ _ ⟨⟨B, h1, h2, h3⟩, h4⟩ => ⟨B, h1, h2, h4, _, _, h3⟩
end Go.Proofs.YtdajolpoiffimaaDoor

namespace Go.Proofs.YtdajolpoiffimaaDoor
open Go.RowKit

set_option maxHeartbeats 1000000 in
theorem kfind_any (t u : ByteArray) (w : World) (ht : t.size ≤ 10000000) (hu : u.size ≤ 1000) (hu1 : 0 < u.size) :
    Calls Tryd.prog 28 #[.string t, .string u] w fun e w' => ((∃ p : Nat, e = .returned (.int .i64 p) ∧ p ≤ t.size ∧ behL u.data.toList t.data.toList = some (t.data.toList.drop p)) ∨ (e = .returned (.int .i64 (-1)) ∧ behL u.data.toList t.data.toList = none)) ∧ w' = w := by
  go_enter Tryd.func28, Tryd.ntmps28
  go_wp2_with fail
  go_loop [5] (fun v => ∃ k : Nat, v = .int .i64 k ∧ k ≤ t.size ∧ behL u.data.toList (t.data.toList.drop k) = behL u.data.toList t.data.toList) (fun v => t.size + 1 - (intOf v).toNat)
  case atStart => exact ⟨0, rfl, Nat.zero_le _, by rw [List.drop_zero]⟩
  case round =>
    obtain ⟨k, rfl, hk, hbe⟩ := hrel
    have Hbe : Hid (behL u.data.toList (t.data.toList.drop k) = behL u.data.toList t.data.toList) := hbe
    clear hbe
    have hul : u.data.toList.length = u.size := by simp
    have htl : t.data.toList.length = t.size := by simp
    by_cases hlt : k + u.size ≤ t.size
    · have z1 : (k : Int) + (u.size : Int) ≤ (t.size : Int) := by omega
      have z2 : (0 : Int) ≤ (k : Int) := by omega
      have z3 : (k : Int) ≤ (k : Int) + (u.size : Int) := by omega
      have z4 : ((k : Int) + (u.size : Int)).toNat = k + u.size := by omega
      have z5 : ((k : Int)).toNat = k := by omega
      have hext : (t.extract k (k + u.size)).data.toList = (t.data.toList.drop k).take u.size := by
        rw [ext_list]; congr 1; omega
      cases he : ((t.extract k (k + u.size)).toList == u.toList)
      · have hp : u.data.toList.isPrefixOf (t.data.toList.drop k) = false := by
          cases hh : u.data.toList.isPrefixOf (t.data.toList.drop k)
          · rfl
          · have h1 := List.prefix_iff_eq_take.1 (List.isPrefixOf_iff_prefix.1 hh)
            have h2 : (t.extract k (k + u.size)).toList = u.toList := by
              rw [ByteArray.toList_eq, ByteArray.toList_eq, hext, ← hul, ← h1]
            rw [h2] at he; simp at he
        have HN : Hid (behL u.data.toList (t.data.toList.drop (k + 1)) = behL u.data.toList t.data.toList) := by
          unfold Hid
          rw [← behL_drop (by omega) hp]; exact Hbe.out
        clear hp hul htl hext
        go_wp2_with fail
        go_round
        case rel => exact ⟨k + 1, by go_num, by omega, HN.out⟩
        case measure => simp [intOf]; omega
      · have hp : u.data.toList.isPrefixOf (t.data.toList.drop k) = true := by
          have h2 : (t.extract k (k + u.size)).toList = u.toList := by simpa using he
          rw [ByteArray.toList_eq, ByteArray.toList_eq, hext] at h2
          rw [List.isPrefixOf_iff_prefix, List.prefix_iff_eq_take, hul]; exact h2.symm
        have HN : Hid (behL u.data.toList t.data.toList = some (t.data.toList.drop (k + u.size))) := by
          unfold Hid; rw [← Hbe.out, behL_yes hp, hul, List.drop_drop]
        clear hp hul htl hext
        go_wp2_with fail
        go_ret
        exact ⟨Or.inl ⟨k + u.size, by go_num, hlt, HN.out⟩, rfl⟩
    · have z1 : ¬ (k : Int) + (u.size : Int) ≤ (t.size : Int) := by omega
      have HS : Hid (behL u.data.toList t.data.toList = none) := by
        unfold Hid
        rw [← Hbe.out, behL_short (by rw [List.length_drop, hul, htl]; omega)]
      clear hul htl
      go_wp2_with fail
      go_ret
      exact ⟨Or.inr ⟨rfl, HS.out⟩, rfl⟩

namespace Hs
theorem ok1 : Px.Ok b1.st := by
  have h0 : Px.Rel b0 d0 := Px.Rel.new (by decide)
  have hL : LoadR d0 tab (addB d0 [chT tab]) 0 0 := Or.inr (Or.inr (Or.inr ⟨chk, rfl, by show ¬ (4000 : Int) < ((0 : Nat) : Int) + _; have := tsz; omega, rfl, rfl, rfl⟩))
  have hB : Px.LoadB b0 tab b1 0 0 := Or.inr (Or.inr (Or.inr ⟨chk, rfl, by show ¬ (4000 : Int) < ((0 : Nat) : Int) + _; have := tsz; omega, rfl, rfl, rfl⟩))
  exact (Px.load_rel h0 hB hL).2.2.ok
theorem ok0 : Px.Ok b0.st := (show Px.Rel b0 d0 from Px.Rel.new (by decide)).ok
theorem ok2 : Px.Ok b2.st := by obtain ⟨d, h⟩ := rel2; exact h.ok
theorem log1 : b1.log.size ≤ 10000 := by
  show (ByteArray.empty ++ Bx.frames [chT tab]).size ≤ 10000
  have := tsz
  rw [ByteArray.size_append]; simp; omega
theorem log2 : b2.log.size ≤ 10000 := by
  show ((ByteArray.empty ++ Bx.frames [chT tab]) ++ Bx.frame (Bx.body (chCl 7))).size ≤ 10000
  have h1 := tsz
  have h2 : (Bx.frame (Bx.body (chCl 7))).size ≤ 0 + 12 := Px.fsz _
  rw [ByteArray.size_append, ByteArray.size_append]; simp; omega
end Hs
set_option maxHeartbeats 1000000 in
theorem kstarted_any (w : World) (hT : TabLH w) (hM : Tab w) :
    Calls Tryd.prog 26 #[] w fun e w' => (∃ B, e = .returned (.tuple #[.pointer (some ⟨B, 0, none⟩), .bool true]) ∧ w.heap.size ≤ B ∧ ∃ sl en, PB w' B (Px.startB Hs.b2 1).1 sl en) ∧ Below w.heap.size w w' := by
  have HT : Hid (TabLH w) := hT
  have HM : Hid (Tab w) := hM
  clear hT hM
  go_enter Tryd.func26, Tryd.ntmps26
  go_wp2_with fail
  refine (pnew_yes 1 4000 _ (by decide)).mono ?_
  rintro e w1 ⟨⟨B, rfl, hB, hx⟩, hb1⟩
  have HX : Hid (∃ sl en, PB w1 B Hs.b0 sl en) := ⟨_, _, hx⟩
  have HB1 : Hid (Below w.heap.size w w1) := hb1
  have HlB : Hid (w.heap.size ≤ B) := hB
  clear hx hb1 hB
  go_wp2_with fail
  refine (xload_any Hs.b0 B Hs.tab _ Hs.ok0 (by decide) (by unfold maxLen; decide) (HT.out.later HB1.out) HX.out).mono ?_
  rintro e w2 ⟨b', a, r, rfl, hl, hx, hg⟩
  obtain ⟨rfl, rfl, rfl⟩ := Hs.load1 hl
  have HX2 : Hid (∃ sl en, PB w2 B Hs.b1 sl en) := hx
  have HB2 : Hid (Below w.heap.size w w2) := below_grow HB1.out hg HlB.out
  clear hx hg hl HX HB1
  go_wp2_with fail
  refine (xtick_any Hs.b1 B 7 _ Hs.ok1 Hs.log1 (HT.out.later HB2.out) (HM.out.later HB2.out) HX2.out).mono ?_
  rintro e w3 ⟨rfl, hx, hg⟩
  rw [Hs.tick7] at hx ⊢
  have HX3 : Hid (∃ sl en, PB w3 B Hs.b2 sl en) := hx
  have HB3 : Hid (Below w.heap.size w w3) := below_grow HB2.out hg HlB.out
  clear hx hg HX2 HB2
  go_wp2_with fail
  refine (xstart_any Hs.b2 B 1 _ Hs.ok2 Hs.log2 (HT.out.later HB3.out) HX3.out).mono ?_
  rintro e w4 ⟨rfl, hx, hg⟩
  rw [Hs.start1.1]
  have HX4 : Hid (∃ sl en, PB w4 B (Px.startB Hs.b2 1).1 sl en) := hx
  have HB4 : Hid (Below w.heap.size w w4) := below_grow HB3.out hg HlB.out
  clear hx hg HX3 HB3
  go_wp2_with fail
  go_ret2
  exact ⟨⟨B, rfl, HlB.out, HX4.out⟩, HB4.out⟩
end Go.Proofs.YtdajolpoiffimaaDoor

namespace Go.Proofs.YtdajolpoiffimaaDoor
open Go.RowKit

theorem ext_app (s : ByteArray) (n : Nat) : s.data.toList = (s.extract 0 n).data.toList ++ (s.extract n s.size).data.toList := by
  have h := congrArg (fun x : ByteArray => x.data.toList) (Bx.ext_split s n)
  have h2 : (s.extract 0 n ++ s.extract n s.size).data.toList = (s.extract 0 n).data.toList ++ (s.extract n s.size).data.toList := by rw [ByteArray.data_append, Array.toList_append]
  exact h.symm.trans h2

/-- Where hear is. -/
def HearI (w0 wr : World) (B : Nat) (text : ByteArray) (rest said : ByteArray) (k : Nat) : Prop :=
  ∃ x b, text.data.toList = x ++ rest.data.toList ∧ k ≤ x.length ∧ said = Hs.saidK 0 (Hs.scan Hs.words x).1 ∧ Hs.HInv b x ∧ (∃ sl en, PB wr B b sl en) ∧ Below w0.heap.size w0 wr
/-- What hear leaves. -/
def HearO (w0 wr : World) (B : Nat) (text : ByteArray) : Prop := ∃ x b, Hs.HInv b x ∧ (Hs.scan Hs.words x).1 = (Hs.scan Hs.words text.data.toList).1 ∧ (∃ sl en, PB wr B b sl en) ∧ Below w0.heap.size w0 wr
set_option maxRecDepth 10000 in
set_option maxHeartbeats 4000000 in
theorem khear_any (text : ByteArray) (K : List Int) (kv : Value) (B : Nat) (w0 w : World) (hs : text.size ≤ 10000000) (hT : TabLH w0) (hK : NumsAt w0 kv K) (hKl : K.length ≤ 10000000) (hKb : ∀ c ∈ K, -9223372036854775808 ≤ c ∧ c ≤ 9223372036854775807)
    (hB : w0.heap.size ≤ B) (hb : Below w0.heap.size w0 w) (hx : ∃ sl en, PB w B (Px.startB Hs.b2 1).1 sl en) :
    Calls Tryd.prog 27 #[.pointer (some ⟨B, 0, none⟩), .string text, kv] w fun e w' => e = .returned (.tuple #[.string (Hs.saidK 0 (Hs.scan Hs.words text.data.toList).1), .bool true]) ∧ HearO w0 w' B text := by
  obtain ⟨kad, kcap, rfl, hkc⟩ := hK.form
  have HK : Hid (NumsAt w0 (.slice kad K.length kcap) K) := hK
  have HT : Hid (TabLH w0) := hT
  have HKb : Hid (∀ c ∈ K, -9223372036854775808 ≤ c ∧ c ≤ 9223372036854775807) := hKb
  have HlB : Hid (w0.heap.size ≤ B) := hB
  have H0 : Hid (HearI w0 w B text text ByteArray.empty 0) := ⟨[], _, rfl, Nat.zero_le _, rfl, Hs.HInv.start, hx, hb⟩
  clear hK hT hKb hB hb hx
  go_enter Tryd.func27, Tryd.ntmps27
  go_wp2_with fail
  go_loopw [1, 8, 9] (fun tv sv iv wr => ∃ (rest said : ByteArray) (k : Nat), tv = .string rest ∧ sv = .string said ∧ iv = .int .i64 k ∧ HearI w0 wr B text rest said k) (fun tv _ _ _ => match tv with | .string s => s.size | _ => 0)
  case atStart => exact ⟨text, ByteArray.empty, 0, rfl, rfl, rfl, H0.out⟩
  case round =>
    obtain ⟨rest, said, k, rfl, rfl, rfl, hI⟩ := hrel
    obtain ⟨x, b, htx, hkx, hsd, hinv, hpb, hbw⟩ := hI
    have htl : text.data.toList.length = text.size := by simp
    have hrl : rest.data.toList.length = rest.size := by simp
    have hlen : x.length + rest.size = text.size := by rw [← htl, htx, List.length_append, hrl]
    have HX : Hid (text.data.toList = x ++ rest.data.toList) := htx
    have HI : Hid (Hs.HInv b x) := hinv
    have HP : Hid (∃ sl en, PB wr B b sl en) := hpb
    have HW : Hid (Below w0.heap.size w0 wr) := hbw
    have HS : Hid (said = Hs.saidK 0 (Hs.scan Hs.words x).1) := hsd
    have hsz : said.size ≤ 2 := by rw [hsd]; unfold Hs.saidK; split <;> decide
    clear htx hinv hpb hbw hsd htl hrl
    by_cases hpos : 0 < rest.size
    rotate_left
    · have hz : rest.size = 0 := by omega
      have hr0 : rest.data.toList = [] := by
        have : rest.data.toList.length = 0 := by simpa using hz
        exact List.eq_nil_of_length_eq_zero this
      have hxx : x = text.data.toList := by have := HX.out; rw [hr0, List.append_nil] at this; exact this.symm
      have HO : Hid (said = Hs.saidK 0 (Hs.scan Hs.words text.data.toList).1 ∧ HearO w0 wr B text) := by
        refine ⟨by rw [← hxx]; exact HS.out, x, b, HI.out, by rw [hxx], HP.out, HW.out⟩
      clear hr0 hxx
      go_wp2_with fail
      go_ret2
      rw [← HO.out.1]
      exact ⟨rfl, HO.out.2⟩
    have HPc : Hid (∀ y : ByteArray, 1 ≤ y.size → y.size ≤ 40 →
        ((Hs.scan Hs.words x).1 = 3 ∧ Px.feedB b 1 y = (b, { data := #[] }, 8) ∧ b.st.slots = [] ∧ said = Hs.saidK 0 (Hs.scan Hs.words text.data.toList).1 ∧ (Hs.scan Hs.words x).1 = (Hs.scan Hs.words text.data.toList).1) ∨
        ((Px.feedB b 1 y).2.2 = 0 ∧ (Px.feedB b 1 y).2.1.size ≤ 2 ∧ ∀ z wz, rest.data.toList = y.data.toList ++ z.data.toList → (∃ sl en, PB wz B (Px.feedB b 1 y).1 sl en) → Below w0.heap.size w0 wz → HearI w0 wz B text z (said ++ (Px.feedB b 1 y).2.1) (k + 1))) := by
      intro y n1 hy
      by_cases h3 : (Hs.scan Hs.words x).1 = 3
      · left
        have hfull : (Hs.scan Hs.words text.data.toList).1 = 3 := by rw [HX.out]; exact Hs.scan_full _ _ _ h3
        exact ⟨h3, HI.out.refuse h3 _ hy, (HI.out.over h3).1, by rw [hfull, HS.out, h3], by rw [hfull, h3]⟩
      · right
        have hlt : (Hs.scan Hs.words x).1 < 3 := by have := Hs.scan3 x; omega
        obtain ⟨f1, f2⟩ := HI.out.feed hlt y hy
        refine ⟨by rw [f1], by rw [f1]; show (Hs.saidK _ _).size ≤ 2; unfold Hs.saidK; split <;> decide, fun z wz hap hp hw => ⟨x ++ y.data.toList, _, ?_, ?_, ?_, f2, hp, hw⟩⟩
        · rw [HX.out, List.append_assoc, ← hap]
        · have : y.data.toList.length = y.size := by simp
          rw [List.length_append, this]; omega
        · rw [f1, HS.out]; exact Hs.said_app (Hs.scan_mono _ _)
    by_cases hK0 : (0 : Int) < (K.length : Int)
    rotate_left
    · by_cases h40 : rest.size < 40
      · have z0 : (rest.size : Int) < 40 := by omega
        have z1 : ((rest.size : Int)).toNat = rest.size := by omega
        have z2 : (0 : Int) ≤ (rest.size : Int) := by omega
        have HSe : Hid (said ++ ({ data := #[] } : ByteArray) = said) := by show said ++ ByteArray.empty = said; simp
        have hq := HPc.out rest (by omega) (by omega)
        go_wp2_with fail
        refine (xfeed_any b B 1 rest _ HI.out.ok.1 HI.out.ok.2 (HT.out.later HW.out) HP.out).mono ?_
        rintro e w1 ⟨rfl, hx1, hg1⟩
        have hb1 := below_grow HW.out hg1 HlB.out
        rcases hq with ⟨h3, hf, hsl, hsd, hsc⟩ | ⟨hf, hsz2, hnext⟩
        · rw [hf] at hx1 ⊢
          have HP1 : Hid (∃ sl en, PB w1 B b sl en) := hx1
          have HO : Hid (said = Hs.saidK 0 (Hs.scan Hs.words text.data.toList).1 ∧ (Hs.scan Hs.words x).1 = (Hs.scan Hs.words text.data.toList).1) := ⟨hsd, hsc⟩
          have HB1 : Hid (Below w0.heap.size w0 w1) := hb1
          have HV : Hid ((pviewV b.st) = .agg #[.int .i64 b.st.clock, .int .i64 b.st.next, .int .i64 0, .int .i64 b.st.ends.length, .string b.st.tab]) := by
            unfold Hid; show Value.agg _ = _; rw [hsl]; rfl
          clear hx1 hg1 hb1 hf hsl hsd hsc h3
          go_wp2_with fail
          refine (xlook_any b B _ HP1.out).mono ?_
          rintro e w2 ⟨rfl, hb2⟩
          rw [HV.out]
          have HP2 : Hid (∀ o, ∃ sl en, PB (w2.alloc o) B b sl en) := fun o => by
            obtain ⟨sl, en, h⟩ := HP1.out
            exact ⟨sl, en, (h.later hb2).later (below_alloc _ _)⟩
          have HB2 : Hid (∀ o, Below w0.heap.size w0 (w2.alloc o)) := fun o => (HB1.out.trans (hb2.mono HB1.out.size)).alloc (by have h1 := HB1.out.size; have h2 := hb2.size; omega) o
          clear hb2 HP1 HB1 HV
          go_wp2_with fail
          go_ret2
          rw [← HO.out.1]
          refine ⟨?_, x, b, HI.out, HO.out.2, HP2.out _, HB2.out _⟩
          show Ending.returned (Value.tuple #[Value.string _, Value.bool _]) = _
          first | rfl | (rw [HSe.out])
        · have HNx : Hid (∀ z wz, rest.data.toList = rest.data.toList ++ z.data.toList → (∃ sl en, PB wz B (Px.feedB b 1 rest).1 sl en) → Below w0.heap.size w0 wz → HearI w0 wz B text z (said ++ (Px.feedB b 1 rest).2.1) (k + 1)) := hnext
          rw [hf]
          have HP1 : Hid (∃ sl en, PB w1 B (Px.feedB b 1 rest).1 sl en) := hx1
          have HB1 : Hid (Below w0.heap.size w0 w1) := hb1
          clear hx1 hg1 hb1 hf hnext
          generalize (Px.feedB b 1 rest).1 = b' at *
          generalize (Px.feedB b 1 rest).2.1 = sd at *
          have q9 : ¬ 9223372036854775807 < said.size + sd.size := by omega
          go_wp2_with fail
          refine (xlook_any b' B _ HP1.out).mono ?_
          rintro e w2 ⟨rfl, hb2⟩
          have HP2 : Hid (∀ o, ∃ sl en, PB (w2.alloc o) B b' sl en) := fun o => by
            obtain ⟨sl, en, h⟩ := HP1.out
            exact ⟨sl, en, (h.later hb2).later (below_alloc _ _)⟩
          have HB2 : Hid (∀ o, Below w0.heap.size w0 (w2.alloc o)) := fun o => (HB1.out.trans (hb2.mono HB1.out.size)).alloc (by have h1 := HB1.out.size; have h2 := hb2.size; omega) o
          clear hb2 HP1 HB1
          go_wp2_with fail
          go_roundw
          case rel => exact ⟨_, _, k + 1, rfl, rfl, by go_num, HNx.out _ _ (by simp) (HP2.out _) (HB2.out _)⟩
          case measure => simp; omega

      · have z0 : ¬ (rest.size : Int) < 40 := by omega
        have z2 : (40 : Int) ≤ (rest.size : Int) := by omega
        have HSe : Hid (said ++ ({ data := #[] } : ByteArray) = said) := by show said ++ ByteArray.empty = said; simp
        have hq := HPc.out (rest.extract 0 40) (by simp; omega) (by simp; omega)
        go_wp2_with fail
        refine (xfeed_any b B 1 (rest.extract 0 40) _ HI.out.ok.1 HI.out.ok.2 (HT.out.later HW.out) HP.out).mono ?_
        rintro e w1 ⟨rfl, hx1, hg1⟩
        have hb1 := below_grow HW.out hg1 HlB.out
        rcases hq with ⟨h3, hf, hsl, hsd, hsc⟩ | ⟨hf, hsz2, hnext⟩
        · rw [hf] at hx1 ⊢
          have HP1 : Hid (∃ sl en, PB w1 B b sl en) := hx1
          have HO : Hid (said = Hs.saidK 0 (Hs.scan Hs.words text.data.toList).1 ∧ (Hs.scan Hs.words x).1 = (Hs.scan Hs.words text.data.toList).1) := ⟨hsd, hsc⟩
          have HB1 : Hid (Below w0.heap.size w0 w1) := hb1
          have HV : Hid ((pviewV b.st) = .agg #[.int .i64 b.st.clock, .int .i64 b.st.next, .int .i64 0, .int .i64 b.st.ends.length, .string b.st.tab]) := by
            unfold Hid; show Value.agg _ = _; rw [hsl]; rfl
          clear hx1 hg1 hb1 hf hsl hsd hsc h3
          go_wp2_with fail
          refine (xlook_any b B _ HP1.out).mono ?_
          rintro e w2 ⟨rfl, hb2⟩
          rw [HV.out]
          have HP2 : Hid (∀ o, ∃ sl en, PB (w2.alloc o) B b sl en) := fun o => by
            obtain ⟨sl, en, h⟩ := HP1.out
            exact ⟨sl, en, (h.later hb2).later (below_alloc _ _)⟩
          have HB2 : Hid (∀ o, Below w0.heap.size w0 (w2.alloc o)) := fun o => (HB1.out.trans (hb2.mono HB1.out.size)).alloc (by have h1 := HB1.out.size; have h2 := hb2.size; omega) o
          clear hb2 HP1 HB1 HV
          go_wp2_with fail
          go_ret2
          rw [← HO.out.1]
          refine ⟨?_, x, b, HI.out, HO.out.2, HP2.out _, HB2.out _⟩
          show Ending.returned (Value.tuple #[Value.string _, Value.bool _]) = _
          first | rfl | (rw [HSe.out])
        · have HNx : Hid (∀ z wz, rest.data.toList = (rest.extract 0 40).data.toList ++ z.data.toList → (∃ sl en, PB wz B (Px.feedB b 1 (rest.extract 0 40)).1 sl en) → Below w0.heap.size w0 wz → HearI w0 wz B text z (said ++ (Px.feedB b 1 (rest.extract 0 40)).2.1) (k + 1)) := hnext
          rw [hf]
          have HP1 : Hid (∃ sl en, PB w1 B (Px.feedB b 1 (rest.extract 0 40)).1 sl en) := hx1
          have HB1 : Hid (Below w0.heap.size w0 w1) := hb1
          clear hx1 hg1 hb1 hf hnext
          generalize (Px.feedB b 1 (rest.extract 0 40)).1 = b' at *
          generalize (Px.feedB b 1 (rest.extract 0 40)).2.1 = sd at *
          have q9 : ¬ 9223372036854775807 < said.size + sd.size := by omega
          go_wp2_with fail
          refine (xlook_any b' B _ HP1.out).mono ?_
          rintro e w2 ⟨rfl, hb2⟩
          have HP2 : Hid (∀ o, ∃ sl en, PB (w2.alloc o) B b' sl en) := fun o => by
            obtain ⟨sl, en, h⟩ := HP1.out
            exact ⟨sl, en, (h.later hb2).later (below_alloc _ _)⟩
          have HB2 : Hid (∀ o, Below w0.heap.size w0 (w2.alloc o)) := fun o => (HB1.out.trans (hb2.mono HB1.out.size)).alloc (by have h1 := HB1.out.size; have h2 := hb2.size; omega) o
          clear hb2 HP1 HB1
          go_wp2_with fail
          go_roundw
          case rel => exact ⟨_, _, k + 1, rfl, rfl, by go_num, HNx.out _ _ (ext_app rest 40) (HP2.out _) (HB2.out _)⟩
          case measure => simp; omega

    · have hmod : k % K.length < K.length := Nat.mod_lt _ (by omega)
      obtain ⟨kb, koff, kcap', hv, kc⟩ := nums_at (HK.out.later HW.out) hmod
      cases hv
      have hkb := HKb.out _ (List.getElem_mem hmod)
      generalize K[k % K.length] = cc at *
      have y0 : (k : Int).tmod (K.length : Int) = ((k % K.length : Nat) : Int) := by rw [Int.tmod_eq_emod_of_nonneg (by omega)]; omega
      have y1 : (0 : Int) ≤ ((k % K.length : Nat) : Int) := by omega
      have y2 : ((k % K.length : Nat) : Int) < (K.length : Int) := by omega
      have y3 : ((k % K.length : Nat) : Int).toNat = k % K.length := by omega
      have y4 : ¬ (K.length : Int) = 0 := by omega
      generalize k % K.length = kk at *
      go_wp2_with fail
      refine (pick_any cc 40 _ hkb.1 hkb.2 (by omega) (by omega)).mono ?_
      rintro e w' ⟨⟨a, a1, a2, rfl⟩, rfl⟩
      obtain ⟨m, rfl⟩ : ∃ m : Nat, a = (m : Int) := ⟨a.toNat, by omega⟩
      clear kc hkb y0 y1 y2 y3 y4 hmod
      by_cases hgt : rest.size < 1 + m
      · have z0 : (rest.size : Int) < 1 + (m : Int) := by omega
        have z1 : ((rest.size : Int)).toNat = rest.size := by omega
        have z2 : (0 : Int) ≤ (rest.size : Int) := by omega
        have HSe : Hid (said ++ ({ data := #[] } : ByteArray) = said) := by show said ++ ByteArray.empty = said; simp
        have hq := HPc.out rest (by omega) (by omega)
        go_wp2_with fail
        refine (xfeed_any b B 1 rest _ HI.out.ok.1 HI.out.ok.2 (HT.out.later HW.out) HP.out).mono ?_
        rintro e w1 ⟨rfl, hx1, hg1⟩
        have hb1 := below_grow HW.out hg1 HlB.out
        rcases hq with ⟨h3, hf, hsl, hsd, hsc⟩ | ⟨hf, hsz2, hnext⟩
        · rw [hf] at hx1 ⊢
          have HP1 : Hid (∃ sl en, PB w1 B b sl en) := hx1
          have HO : Hid (said = Hs.saidK 0 (Hs.scan Hs.words text.data.toList).1 ∧ (Hs.scan Hs.words x).1 = (Hs.scan Hs.words text.data.toList).1) := ⟨hsd, hsc⟩
          have HB1 : Hid (Below w0.heap.size w0 w1) := hb1
          have HV : Hid ((pviewV b.st) = .agg #[.int .i64 b.st.clock, .int .i64 b.st.next, .int .i64 0, .int .i64 b.st.ends.length, .string b.st.tab]) := by
            unfold Hid; show Value.agg _ = _; rw [hsl]; rfl
          clear hx1 hg1 hb1 hf hsl hsd hsc h3
          go_wp2_with fail
          refine (xlook_any b B _ HP1.out).mono ?_
          rintro e w2 ⟨rfl, hb2⟩
          rw [HV.out]
          have HP2 : Hid (∀ o, ∃ sl en, PB (w2.alloc o) B b sl en) := fun o => by
            obtain ⟨sl, en, h⟩ := HP1.out
            exact ⟨sl, en, (h.later hb2).later (below_alloc _ _)⟩
          have HB2 : Hid (∀ o, Below w0.heap.size w0 (w2.alloc o)) := fun o => (HB1.out.trans (hb2.mono HB1.out.size)).alloc (by have h1 := HB1.out.size; have h2 := hb2.size; omega) o
          clear hb2 HP1 HB1 HV
          go_wp2_with fail
          go_ret2
          rw [← HO.out.1]
          refine ⟨?_, x, b, HI.out, HO.out.2, HP2.out _, HB2.out _⟩
          show Ending.returned (Value.tuple #[Value.string _, Value.bool _]) = _
          first | rfl | (rw [HSe.out])
        · have HNx : Hid (∀ z wz, rest.data.toList = rest.data.toList ++ z.data.toList → (∃ sl en, PB wz B (Px.feedB b 1 rest).1 sl en) → Below w0.heap.size w0 wz → HearI w0 wz B text z (said ++ (Px.feedB b 1 rest).2.1) (k + 1)) := hnext
          rw [hf]
          have HP1 : Hid (∃ sl en, PB w1 B (Px.feedB b 1 rest).1 sl en) := hx1
          have HB1 : Hid (Below w0.heap.size w0 w1) := hb1
          clear hx1 hg1 hb1 hf hnext
          generalize (Px.feedB b 1 rest).1 = b' at *
          generalize (Px.feedB b 1 rest).2.1 = sd at *
          have q9 : ¬ 9223372036854775807 < said.size + sd.size := by omega
          go_wp2_with fail
          refine (xlook_any b' B _ HP1.out).mono ?_
          rintro e w2 ⟨rfl, hb2⟩
          have HP2 : Hid (∀ o, ∃ sl en, PB (w2.alloc o) B b' sl en) := fun o => by
            obtain ⟨sl, en, h⟩ := HP1.out
            exact ⟨sl, en, (h.later hb2).later (below_alloc _ _)⟩
          have HB2 : Hid (∀ o, Below w0.heap.size w0 (w2.alloc o)) := fun o => (HB1.out.trans (hb2.mono HB1.out.size)).alloc (by have h1 := HB1.out.size; have h2 := hb2.size; omega) o
          clear hb2 HP1 HB1
          go_wp2_with fail
          go_roundw
          case rel => exact ⟨_, _, k + 1, rfl, rfl, by go_num, HNx.out _ _ (by simp) (HP2.out _) (HB2.out _)⟩
          case measure => simp; omega

      · have z0 : ¬ (rest.size : Int) < 1 + (m : Int) := by omega
        have z1 : (1 + (m : Int)).toNat = 1 + m := by omega
        have z2 : (0 : Int) ≤ 1 + (m : Int) := by omega
        have z3 : 1 + (m : Int) ≤ (rest.size : Int) := by omega
        have HSe : Hid (said ++ ({ data := #[] } : ByteArray) = said) := by show said ++ ByteArray.empty = said; simp
        have hq := HPc.out (rest.extract 0 (1 + m)) (by simp; omega) (by simp; omega)
        go_wp2_with fail
        refine (xfeed_any b B 1 (rest.extract 0 (1 + m)) _ HI.out.ok.1 HI.out.ok.2 (HT.out.later HW.out) HP.out).mono ?_
        rintro e w1 ⟨rfl, hx1, hg1⟩
        have hb1 := below_grow HW.out hg1 HlB.out
        rcases hq with ⟨h3, hf, hsl, hsd, hsc⟩ | ⟨hf, hsz2, hnext⟩
        · rw [hf] at hx1 ⊢
          have HP1 : Hid (∃ sl en, PB w1 B b sl en) := hx1
          have HO : Hid (said = Hs.saidK 0 (Hs.scan Hs.words text.data.toList).1 ∧ (Hs.scan Hs.words x).1 = (Hs.scan Hs.words text.data.toList).1) := ⟨hsd, hsc⟩
          have HB1 : Hid (Below w0.heap.size w0 w1) := hb1
          have HV : Hid ((pviewV b.st) = .agg #[.int .i64 b.st.clock, .int .i64 b.st.next, .int .i64 0, .int .i64 b.st.ends.length, .string b.st.tab]) := by
            unfold Hid; show Value.agg _ = _; rw [hsl]; rfl
          clear hx1 hg1 hb1 hf hsl hsd hsc h3
          go_wp2_with fail
          refine (xlook_any b B _ HP1.out).mono ?_
          rintro e w2 ⟨rfl, hb2⟩
          rw [HV.out]
          have HP2 : Hid (∀ o, ∃ sl en, PB (w2.alloc o) B b sl en) := fun o => by
            obtain ⟨sl, en, h⟩ := HP1.out
            exact ⟨sl, en, (h.later hb2).later (below_alloc _ _)⟩
          have HB2 : Hid (∀ o, Below w0.heap.size w0 (w2.alloc o)) := fun o => (HB1.out.trans (hb2.mono HB1.out.size)).alloc (by have h1 := HB1.out.size; have h2 := hb2.size; omega) o
          clear hb2 HP1 HB1 HV
          go_wp2_with fail
          go_ret2
          rw [← HO.out.1]
          refine ⟨?_, x, b, HI.out, HO.out.2, HP2.out _, HB2.out _⟩
          show Ending.returned (Value.tuple #[Value.string _, Value.bool _]) = _
          first | rfl | (rw [HSe.out])
        · have HNx : Hid (∀ z wz, rest.data.toList = (rest.extract 0 (1 + m)).data.toList ++ z.data.toList → (∃ sl en, PB wz B (Px.feedB b 1 (rest.extract 0 (1 + m))).1 sl en) → Below w0.heap.size w0 wz → HearI w0 wz B text z (said ++ (Px.feedB b 1 (rest.extract 0 (1 + m))).2.1) (k + 1)) := hnext
          rw [hf]
          have HP1 : Hid (∃ sl en, PB w1 B (Px.feedB b 1 (rest.extract 0 (1 + m))).1 sl en) := hx1
          have HB1 : Hid (Below w0.heap.size w0 w1) := hb1
          clear hx1 hg1 hb1 hf hnext
          generalize (Px.feedB b 1 (rest.extract 0 (1 + m))).1 = b' at *
          generalize (Px.feedB b 1 (rest.extract 0 (1 + m))).2.1 = sd at *
          have q9 : ¬ 9223372036854775807 < said.size + sd.size := by omega
          go_wp2_with fail
          refine (xlook_any b' B _ HP1.out).mono ?_
          rintro e w2 ⟨rfl, hb2⟩
          have HP2 : Hid (∀ o, ∃ sl en, PB (w2.alloc o) B b' sl en) := fun o => by
            obtain ⟨sl, en, h⟩ := HP1.out
            exact ⟨sl, en, (h.later hb2).later (below_alloc _ _)⟩
          have HB2 : Hid (∀ o, Below w0.heap.size w0 (w2.alloc o)) := fun o => (HB1.out.trans (hb2.mono HB1.out.size)).alloc (by have h1 := HB1.out.size; have h2 := hb2.size; omega) o
          clear hb2 HP1 HB1
          go_wp2_with fail
          go_roundw
          case rel => exact ⟨_, _, k + 1, rfl, rfl, by go_num, HNx.out _ _ (ext_app rest (1 + m)) (HP2.out _) (HB2.out _)⟩
          case measure => simp; omega

end Go.Proofs.YtdajolpoiffimaaDoor

namespace Go.Proofs.YtdajolpoiffimaaDoor
open Go.RowKit

abbrev wdO : Obj := .cells #[.string { data := #[121, 101, 115] }, .string { data := #[110, 111] }, .string { data := #[101, 110, 100] }] 9
def ScanI (text : ByteArray) (j : Nat) (r : ByteArray) : Prop := r.size ≤ text.size ∧ (Hs.scan Hs.words text.data.toList).1 = j + (Hs.scan (Hs.words.drop j) r.data.toList).1
theorem ScanI.yes {text r : ByteArray} {j p : Nat} {wd : List UInt8} (h : ScanI text j r) (hd : Hs.words.drop j = wd :: Hs.words.drop (j + 1)) (hb : behL wd r.data.toList = some (r.data.toList.drop p)) : ScanI text (j + 1) (r.extract p r.size) := by
  refine ⟨by have := h.1; simp; omega, ?_⟩
  have e : (r.extract p r.size).data.toList = r.data.toList.drop p := by
    rw [ext_list]; exact List.take_of_length_le (by simp)
  rw [h.2, hd, Hs.scan_yes hb, e]; omega
theorem ScanI.no {text r : ByteArray} {j : Nat} {wd : List UInt8} (h : ScanI text j r) (hd : Hs.words.drop j = wd :: Hs.words.drop (j + 1)) (hb : behL wd r.data.toList = none) : (Hs.scan Hs.words text.data.toList).1 = j := by
  rw [h.2, hd, Hs.scan_no hb]; omega
theorem ScanI.all {text r : ByteArray} (h : ScanI text 3 r) : (Hs.scan Hs.words text.data.toList).1 = 3 := by
  rw [h.2]; rfl
set_option maxRecDepth 10000 in
set_option maxHeartbeats 4000000 in
theorem khears_any (text : ByteArray) (K : List Int) (kv : Value) (w : World) (hs : text.size ≤ 10000000) (hT : TT w) (hK : NumsAt w kv K) (hKl : K.length ≤ 10000000) (hKb : ∀ c ∈ K, -9223372036854775808 ≤ c ∧ c ≤ 9223372036854775807) :
    Calls Tryd.prog 7 #[.string text, kv] w fun e w' => e = .returned (.bool true) ∧ Below w.heap.size w w' := by
  obtain ⟨kad, kcap, rfl, hkc⟩ := hK.form
  have HK : Hid (NumsAt w (.slice kad K.length kcap) K) := hK
  have HT : Hid (TT w) := hT
  have HKb : Hid (∀ c ∈ K, -9223372036854775808 ≤ c ∧ c ≤ 9223372036854775807) := hKb
  clear hK hT hKb
  go_enter Tryd.func7, Tryd.ntmps7
  go_wp2_with fail
  refine (kstarted_any _ HT.out.lh HT.out.mo).mono ?_
  rintro e w1 ⟨⟨B, rfl, hB, hx⟩, hb1⟩
  have HlB : Hid (w.heap.size ≤ B) := hB
  have HX1 : Hid (∃ sl en, PB w1 B (Px.startB Hs.b2 1).1 sl en) := hx
  have HB1 : Hid (Below w.heap.size w w1) := hb1
  clear hB hx hb1
  go_wp2_with fail
  refine (khear_any text K _ B w _ hs HT.out.lh HK.out hKl HKb.out HlB.out HB1.out HX1.out).mono ?_
  rintro e w2 ⟨rfl, ⟨x, b, hI, hsc, hp, hb2⟩⟩
  have HI : Hid (Hs.HInv b x) := hI
  have HSc : Hid ((Hs.scan Hs.words x).1 = (Hs.scan Hs.words text.data.toList).1) := hsc
  have HP : Hid (KB w (w2.alloc wdO) B b) := by
    have : KB w w2 B b := ⟨HlB.out, hb2, hp⟩
    exact this.alloc _
  have hw0 : (w2.alloc wdO).cell? ⟨w2.heap.size, 0, none⟩ = some (.string { data := #[121, 101, 115] }) := by simp [go_sem]
  have hw1 : (w2.alloc wdO).cell? ⟨w2.heap.size, 1, none⟩ = some (.string { data := #[110, 111] }) := by simp [go_sem]
  have hw2 : (w2.alloc wdO).cell? ⟨w2.heap.size, 2, none⟩ = some (.string { data := #[101, 110, 100] }) := by simp [go_sem]
  have hlt : w2.heap.size < (w2.alloc wdO).heap.size := by simp
  have HJ : Hid (∃ J, J = Hs.saidK 0 (Hs.scan Hs.words text.data.toList).1) := ⟨_, rfl⟩
  obtain ⟨sd, hsd⟩ := HJ.out
  rw [← hsd]
  have HSd : Hid (sd = Hs.saidK 0 (Hs.scan Hs.words text.data.toList).1) := hsd
  clear hI hsc hp hb2 HX1 HB1 HJ hsd
  go_upto_region 11 with fail
  generalize w2.alloc wdO = W at *
  generalize w2.heap.size = wq at *
  go_wp2_with fail
  go_loop [8, 9, 10, 12] (fun wv sv rv kv' => ∃ (j : Nat) (r : ByteArray), j ≤ 3 ∧ kv' = .int .i64 j ∧ rv = .string r ∧ wv = .string (Hs.saidK 0 j) ∧ sv = .int .i64 ((Hs.att j : Int) + 1) ∧ ScanI text j r) (fun _ _ _ k => 3 - (intOf k).toNat)
  case atStart => exact ⟨0, text, by omega, rfl, rfl, rfl, rfl, Nat.le_refl _, by simp⟩
  case round =>
    obtain ⟨j, r, hj, rfl, rfl, rfl, rfl, hsi⟩ := hrel
    have HSI : Hid (ScanI text j r) := hsi
    have hr := hsi.1
    clear hsi
    have : j = 0 ∨ j = 1 ∨ j = 2 ∨ j = 3 := by omega
    rcases this with rfl | rfl | rfl | rfl
    · rw [show ((Hs.att 0 : Nat) : Int) + 1 = 2 from rfl, show Hs.saidK 0 0 = { data := #[] } from rfl]
      go_wp2_with fail
      refine (kfind_any r { data := #[121, 101, 115] } _ (by omega) (by decide) (by decide)).mono ?_
      rintro e w' ⟨⟨p, rfl, hp, hbe⟩ | ⟨rfl, hbe⟩, rfl⟩
      · have HN : Hid (ScanI text 1 (r.extract p r.size)) := HSI.out.yes rfl hbe
        have z1 : ¬ (p : Int) < 0 := by omega
        have z2 : (0 : Int) ≤ (p : Int) := by omega
        have z3 : (p : Int) ≤ (r.size : Int) := by omega
        have z4 : ((p : Int)).toNat = p := by omega
        clear hbe
        go_wp2_with fail
        go_round
        case rel => exact ⟨1, r.extract p r.size, by omega, rfl, rfl, rfl, rfl, HN.out⟩
        case measure => simp [intOf]
      · have hJ : (Hs.scan Hs.words text.data.toList).1 = 0 := HSI.out.no rfl hbe
        have hxJ : (Hs.scan Hs.words x).1 = 0 := HSc.out.trans hJ
        obtain ⟨he0, s, hss, n1, n2, n3, n4, n5, n6⟩ := HI.out.runs (by omega)
        rw [hxJ] at n6
        have HVw : Hid (pviewV b.st = .agg #[.int .i64 b.st.clock, .int .i64 b.st.next, .int .i64 1, .int .i64 0, .string b.st.tab]) := by
          unfold Hid; show Value.agg _ = _; rw [hss, he0]; rfl
        have HSl : Hid (slotA b.st.slots 0 = (s, 0) ∧ paslV s = .agg #[.int .i64 1, .int .i64 1, .int .i64 7, .int .i64 1, .int .i64 7, .int .i64 2]) := by
          refine ⟨by rw [hss]; exact slot_one _, ?_⟩
          show Value.agg _ = _
          rw [n1, n2, n3, n4, n5, n6]; rfl
        have hsd2 : sd = { data := #[] } := by rw [HSd.out, hJ]; rfl
        subst hsd2
        clear hJ hxJ he0 hss n1 n2 n3 n4 n5 n6 hbe hw0 hw1 hw2
        go_wp2_with fail
        refine (klook_any b B w _ HP.out).mono ?_
        rintro e w5 ⟨rfl, hs5, _⟩
        rw [HVw.out]
        have HP5 : Hid (∀ o, KB w (w5.alloc o) B b) := fun o => hs5.alloc o
        clear hs5 HVw
        go_wp2_with fail
        refine (kslot_any b B 0 w _ HI.out.ok.1 (HP5.out _)).mono ?_
        rintro e w6 ⟨rfl, hs6, hg6⟩
        rw [HSl.out.1, HSl.out.2]
        have HP6 : Hid (∀ o, Below w.heap.size w (w6.alloc o)) := fun o => (hs6.alloc o).bl
        have h2 : w6.cell? ⟨w5.heap.size, 2, none⟩ = some (.int .i64 1) := by
          have h0 : (w5.alloc (.cells #[.int .i64 b.st.clock, .int .i64 b.st.next, .int .i64 1, .int .i64 0, .string b.st.tab] 59)).cell? ⟨w5.heap.size, 2, none⟩ = some (.int .i64 1) := by simp [go_sem]
          exact cell_later hg6 h0
        have h3 : w6.cell? ⟨w5.heap.size, 3, none⟩ = some (.int .i64 0) := by
          have h0 : (w5.alloc (.cells #[.int .i64 b.st.clock, .int .i64 b.st.next, .int .i64 1, .int .i64 0, .string b.st.tab] 59)).cell? ⟨w5.heap.size, 3, none⟩ = some (.int .i64 0) := by simp [go_sem]
          exact cell_later hg6 h0
        have h4 : w5.heap.size < w6.heap.size := by have := hg6.size; simp at this; omega
        clear hs6 hg6 HP5
        go_wp2_with fail
        go_ret
        exact ⟨rfl, HP6.out _⟩
    · rw [show ((Hs.att 1 : Nat) : Int) + 1 = 3 from rfl, show Hs.saidK 0 1 = { data := #[] } from rfl]
      go_wp2_with fail
      refine (kfind_any r { data := #[110, 111] } _ (by omega) (by decide) (by decide)).mono ?_
      rintro e w' ⟨⟨p, rfl, hp, hbe⟩ | ⟨rfl, hbe⟩, rfl⟩
      · have HN : Hid (ScanI text 2 (r.extract p r.size)) := HSI.out.yes rfl hbe
        have z1 : ¬ (p : Int) < 0 := by omega
        have z2 : (0 : Int) ≤ (p : Int) := by omega
        have z3 : (p : Int) ≤ (r.size : Int) := by omega
        have z4 : ((p : Int)).toNat = p := by omega
        clear hbe
        go_wp2_with fail
        go_round
        case rel => exact ⟨2, r.extract p r.size, by omega, rfl, rfl, rfl, rfl, HN.out⟩
        case measure => simp [intOf]
      · have hJ : (Hs.scan Hs.words text.data.toList).1 = 1 := HSI.out.no rfl hbe
        have hxJ : (Hs.scan Hs.words x).1 = 1 := HSc.out.trans hJ
        obtain ⟨he0, s, hss, n1, n2, n3, n4, n5, n6⟩ := HI.out.runs (by omega)
        rw [hxJ] at n6
        have HVw : Hid (pviewV b.st = .agg #[.int .i64 b.st.clock, .int .i64 b.st.next, .int .i64 1, .int .i64 0, .string b.st.tab]) := by
          unfold Hid; show Value.agg _ = _; rw [hss, he0]; rfl
        have HSl : Hid (slotA b.st.slots 0 = (s, 0) ∧ paslV s = .agg #[.int .i64 1, .int .i64 1, .int .i64 7, .int .i64 1, .int .i64 7, .int .i64 3]) := by
          refine ⟨by rw [hss]; exact slot_one _, ?_⟩
          show Value.agg _ = _
          rw [n1, n2, n3, n4, n5, n6]; rfl
        have hsd2 : sd = { data := #[] } := by rw [HSd.out, hJ]; rfl
        subst hsd2
        clear hJ hxJ he0 hss n1 n2 n3 n4 n5 n6 hbe hw0 hw1 hw2
        go_wp2_with fail
        refine (klook_any b B w _ HP.out).mono ?_
        rintro e w5 ⟨rfl, hs5, _⟩
        rw [HVw.out]
        have HP5 : Hid (∀ o, KB w (w5.alloc o) B b) := fun o => hs5.alloc o
        clear hs5 HVw
        go_wp2_with fail
        refine (kslot_any b B 0 w _ HI.out.ok.1 (HP5.out _)).mono ?_
        rintro e w6 ⟨rfl, hs6, hg6⟩
        rw [HSl.out.1, HSl.out.2]
        have HP6 : Hid (∀ o, Below w.heap.size w (w6.alloc o)) := fun o => (hs6.alloc o).bl
        have h2 : w6.cell? ⟨w5.heap.size, 2, none⟩ = some (.int .i64 1) := by
          have h0 : (w5.alloc (.cells #[.int .i64 b.st.clock, .int .i64 b.st.next, .int .i64 1, .int .i64 0, .string b.st.tab] 59)).cell? ⟨w5.heap.size, 2, none⟩ = some (.int .i64 1) := by simp [go_sem]
          exact cell_later hg6 h0
        have h3 : w6.cell? ⟨w5.heap.size, 3, none⟩ = some (.int .i64 0) := by
          have h0 : (w5.alloc (.cells #[.int .i64 b.st.clock, .int .i64 b.st.next, .int .i64 1, .int .i64 0, .string b.st.tab] 59)).cell? ⟨w5.heap.size, 3, none⟩ = some (.int .i64 0) := by simp [go_sem]
          exact cell_later hg6 h0
        have h4 : w5.heap.size < w6.heap.size := by have := hg6.size; simp at this; omega
        clear hs6 hg6 HP5
        go_wp2_with fail
        go_ret
        exact ⟨rfl, HP6.out _⟩
    · rw [show ((Hs.att 2 : Nat) : Int) + 1 = 5 from rfl, show Hs.saidK 0 2 = { data := #[113, 50] } from rfl]
      go_wp2_with fail
      refine (kfind_any r { data := #[101, 110, 100] } _ (by omega) (by decide) (by decide)).mono ?_
      rintro e w' ⟨⟨p, rfl, hp, hbe⟩ | ⟨rfl, hbe⟩, rfl⟩
      · have HN : Hid (ScanI text 3 (r.extract p r.size)) := HSI.out.yes rfl hbe
        have z1 : ¬ (p : Int) < 0 := by omega
        have z2 : (0 : Int) ≤ (p : Int) := by omega
        have z3 : (p : Int) ≤ (r.size : Int) := by omega
        have z4 : ((p : Int)).toNat = p := by omega
        clear hbe
        go_wp2_with fail
        go_round
        case rel => exact ⟨3, r.extract p r.size, by omega, rfl, rfl, rfl, rfl, HN.out⟩
        case measure => simp [intOf]
      · have hJ : (Hs.scan Hs.words text.data.toList).1 = 2 := HSI.out.no rfl hbe
        have hxJ : (Hs.scan Hs.words x).1 = 2 := HSc.out.trans hJ
        obtain ⟨he0, s, hss, n1, n2, n3, n4, n5, n6⟩ := HI.out.runs (by omega)
        rw [hxJ] at n6
        have HVw : Hid (pviewV b.st = .agg #[.int .i64 b.st.clock, .int .i64 b.st.next, .int .i64 1, .int .i64 0, .string b.st.tab]) := by
          unfold Hid; show Value.agg _ = _; rw [hss, he0]; rfl
        have HSl : Hid (slotA b.st.slots 0 = (s, 0) ∧ paslV s = .agg #[.int .i64 1, .int .i64 1, .int .i64 7, .int .i64 1, .int .i64 7, .int .i64 5]) := by
          refine ⟨by rw [hss]; exact slot_one _, ?_⟩
          show Value.agg _ = _
          rw [n1, n2, n3, n4, n5, n6]; rfl
        have hsd2 : sd = { data := #[113, 50] } := by rw [HSd.out, hJ]; rfl
        subst hsd2
        clear hJ hxJ he0 hss n1 n2 n3 n4 n5 n6 hbe hw0 hw1 hw2
        go_wp2_with fail
        refine (klook_any b B w _ HP.out).mono ?_
        rintro e w5 ⟨rfl, hs5, _⟩
        rw [HVw.out]
        have HP5 : Hid (∀ o, KB w (w5.alloc o) B b) := fun o => hs5.alloc o
        clear hs5 HVw
        go_wp2_with fail
        refine (kslot_any b B 0 w _ HI.out.ok.1 (HP5.out _)).mono ?_
        rintro e w6 ⟨rfl, hs6, hg6⟩
        rw [HSl.out.1, HSl.out.2]
        have HP6 : Hid (∀ o, Below w.heap.size w (w6.alloc o)) := fun o => (hs6.alloc o).bl
        have h2 : w6.cell? ⟨w5.heap.size, 2, none⟩ = some (.int .i64 1) := by
          have h0 : (w5.alloc (.cells #[.int .i64 b.st.clock, .int .i64 b.st.next, .int .i64 1, .int .i64 0, .string b.st.tab] 59)).cell? ⟨w5.heap.size, 2, none⟩ = some (.int .i64 1) := by simp [go_sem]
          exact cell_later hg6 h0
        have h3 : w6.cell? ⟨w5.heap.size, 3, none⟩ = some (.int .i64 0) := by
          have h0 : (w5.alloc (.cells #[.int .i64 b.st.clock, .int .i64 b.st.next, .int .i64 1, .int .i64 0, .string b.st.tab] 59)).cell? ⟨w5.heap.size, 3, none⟩ = some (.int .i64 0) := by simp [go_sem]
          exact cell_later hg6 h0
        have h4 : w5.heap.size < w6.heap.size := by have := hg6.size; simp at this; omega
        clear hs6 hg6 HP5
        go_wp2_with fail
        go_ret
        exact ⟨rfl, HP6.out _⟩
    · have hJ : (Hs.scan Hs.words text.data.toList).1 = 3 := HSI.out.all
      have hxJ : (Hs.scan Hs.words x).1 = 3 := HSc.out.trans hJ
      obtain ⟨hss, he0⟩ := HI.out.over hxJ
      have HVw : Hid (pviewV b.st = .agg #[.int .i64 b.st.clock, .int .i64 b.st.next, .int .i64 0, .int .i64 1, .string b.st.tab]) := by
        unfold Hid; show Value.agg _ = _; rw [hss, he0]; rfl
      have HEn : Hid (endA b.st.ends 0 = (⟨1, { data := #[100] }⟩, 0)) := by unfold Hid; rw [he0, hD_eq]; exact end_one _
      have hsd2 : sd = { data := #[113, 50] } := by rw [HSd.out, hJ]; rfl
      subst hsd2
      rw [show ((Hs.att 3 : Nat) : Int) + 1 = 6 from rfl, show Hs.saidK 0 3 = { data := #[113, 50] } from rfl]
      clear hJ hxJ he0 hss hw0 hw1 hw2
      go_wp2_with fail
      refine (klook_any b B w _ HP.out).mono ?_
      rintro e w5 ⟨rfl, hs5, _⟩
      rw [HVw.out]
      have HP5 : Hid (∀ o, KB w (w5.alloc o) B b) := fun o => hs5.alloc o
      clear hs5 HVw
      go_wp2_with fail
      refine (kend_any b B 0 w _ HI.out.ok.1 (HP5.out _)).mono ?_
      rintro e w6 ⟨rfl, hs6, hg6⟩
      rw [HEn.out]
      have HP6 : Hid (∀ o, Below w.heap.size w (w6.alloc o)) := fun o => (hs6.alloc o).bl
      have h2 : w6.cell? ⟨w5.heap.size, 2, none⟩ = some (.int .i64 0) := by
        have h0 : (w5.alloc (.cells #[.int .i64 b.st.clock, .int .i64 b.st.next, .int .i64 0, .int .i64 1, .string b.st.tab] 59)).cell? ⟨w5.heap.size, 2, none⟩ = some (.int .i64 0) := by simp [go_sem]
        exact cell_later hg6 h0
      have h3 : w6.cell? ⟨w5.heap.size, 3, none⟩ = some (.int .i64 1) := by
        have h0 : (w5.alloc (.cells #[.int .i64 b.st.clock, .int .i64 b.st.next, .int .i64 0, .int .i64 1, .string b.st.tab] 59)).cell? ⟨w5.heap.size, 3, none⟩ = some (.int .i64 1) := by simp [go_sem]
        exact cell_later hg6 h0
      have h4 : w5.heap.size < w6.heap.size := by have := hg6.size; simp at this; omega
      clear hs6 hg6 HP5
      go_wp2_with fail
      go_ret
      exact ⟨rfl, HP6.out _⟩
end Go.Proofs.YtdajolpoiffimaaDoor

namespace Go.Proofs.YtdajolpoiffimaaDoor
open Go.ChangeShapes Go.WideShapes Go.ChangeAt Go.RowKit

namespace Kb
theorem gL : Tryd.prog.globalNamed "bellman/crontab.leastValues" = some 1 := by kernel_rfl
theorem gG : Tryd.prog.globalNamed "bellman/crontab.greatestValues" = some 2 := by kernel_rfl
theorem gLType : (Tryd.prog.globals[1]?).map (·.type) = some 165 := by kernel_rfl
theorem gGType : (Tryd.prog.globals[2]?).map (·.type) = some 165 := by kernel_rfl
theorem cells5 : Tryd.prog.cellsOf 165 = 5 := by kernel_rfl
theorem tt_of {W : World} (h0 : Lib.TabIs Tryd.prog W "bellman/calendar.monthLengths" .i64 [31, 28, 31, 30, 31, 30, 31, 31, 30, 31, 30, 31]) (h1 : Lib.TabIs Tryd.prog W "bellman/crontab.leastValues" .i64 [0, 0, 1, 1, 0]) (h2 : Lib.TabIs Tryd.prog W "bellman/crontab.greatestValues" .i64 [59, 23, 31, 12, 6]) : TT W := by
  refine ⟨?_, tab_of h0⟩
  intro j hj
  have : j = 0 ∨ j = 1 ∨ j = 2 ∨ j = 3 ∨ j = 4 := by omega
  rcases this with rfl | rfl | rfl | rfl | rfl
  · exact ⟨h1.cell gL 0 (by decide), h2.cell gG 0 (by decide)⟩
  · exact ⟨h1.cell gL 1 (by decide), h2.cell gG 1 (by decide)⟩
  · exact ⟨h1.cell gL 2 (by decide), h2.cell gG 2 (by decide)⟩
  · exact ⟨h1.cell gL 3 (by decide), h2.cell gG 3 (by decide)⟩
  · exact ⟨h1.cell gL 4 (by decide), h2.cell gG 4 (by decide)⟩
theorem one_le {H : Type} (d : DataW H) : 1 ≤ Rows.uptoBulk d := by
  cases d with
  | lit l => cases l <;> simp [Rows.uptoBulk]
  | nil => simp [Rows.uptoBulk]
  | ptr d => simp [Rows.uptoBulk]
  | slice elems spare => simp [Rows.uptoBulk]
  | agg parts => simp [Rows.uptoBulk]
  | iface t d => simp [Rows.uptoBulk]
  | map entries => simp [Rows.uptoBulk]
  | held h => simp [Rows.uptoBulk]
theorem app_bulk {H : Type} (l r : List (DataW H)) : Rows.uptoBulkAll l ≤ Rows.uptoBulkAll (l ++ r) := by
  induction l with
  | nil => simp [Rows.uptoBulkAll]
  | cons x l ih => simp only [List.cons_append, Rows.uptoBulkAll]; omega
theorem length_le {H : Type} (l : List (DataW H)) : l.length ≤ Rows.uptoBulkAll l := by
  induction l with
  | nil => simp [Rows.uptoBulkAll]
  | cons x r ih => have := one_le x; simp only [Rows.uptoBulkAll, List.length_cons]; omega
/-- What a variable's block holds, laid. -/
def put (cs : Array Value) : Obj → Obj
  | .cells _ t frozen => .cells cs t frozen
  | o => o
/-- A world for the witness: the settled one, the tables holding what their initialisers lay. -/
noncomputable def laidWorld (os : Os) : World :=
  { World.holding Tryd.prog os ⟨#[], #[], []⟩ with heap := (((World.holding Tryd.prog os ⟨#[], #[], []⟩).heap.modify 0 (put #[.int .i64 31, .int .i64 28, .int .i64 31, .int .i64 30, .int .i64 31, .int .i64 30, .int .i64 31, .int .i64 31, .int .i64 30, .int .i64 31, .int .i64 30, .int .i64 31])).modify 1 (put #[.int .i64 0, .int .i64 0, .int .i64 1, .int .i64 1, .int .i64 0])).modify 2 (put #[.int .i64 59, .int .i64 23, .int .i64 31, .int .i64 12, .int .i64 6]) }
end Kb
end Go.Proofs.YtdajolpoiffimaaDoor

namespace Go.Proofs.YtdajolpoiffimaaDoor
open Go.ChangeShapes Go.WideShapes Go.ChangeAt Go.RowKit

namespace Kb
set_option maxRecDepth 100000 in
theorem open_nums {H : Type} {enc : TypeId × Value → H} {W : World} {r : Reach} {b0 : Nat} {v : Value} {d : DataW H} {ps : List MemPlace} (hval : Value.okWide Tryd.prog W r b0 47 v) (hd : DataW.Trod enc Tryd.prog W 0 (fun _ => true) true 47 v d ps) :
    ∃ K : List Int, NumsAt W v K ∧ (∀ c ∈ K, -9223372036854775808 ≤ c ∧ c ≤ 9223372036854775807) ∧ K.length ≤ maxLen ∧ ((d = .nil ∧ K = []) ∨ ∃ elems spare, d = .slice elems spare ∧ elems.length = K.length) := by
  obtain ⟨a0, n0, c0, rfl⟩ := okWide_slice Tryd.underlying47 hval
  obtain ⟨fuel, hf⟩ := hd
  have hf' : DataW.trod enc Tryd.prog W 0 (fun _ => true) true fuel 47 [.slice a0 n0 c0] = some (d, ps) := by simpa [Value.cells] using hf
  rcases open_ints Tryd.underlying47 Tryd.underlying3 cellsInt hf' with ⟨h1, h2⟩ | ⟨a, len, cap, zs, h1, hb, hl, hm, hz, h2, hx, hwf⟩
  · simp at h1
    obtain ⟨rfl, rfl, rfl⟩ := h1
    simp only [Prod.mk.injEq] at h2
    exact ⟨[], ⟨none, 0, rfl, Nat.le_refl _, fun i h => absurd h (by simp)⟩, by simp, by simp, Or.inl ⟨h2.1, rfl⟩⟩
  · simp at h1
    obtain ⟨rfl, rfl, rfl⟩ := h1
    simp only [Prod.mk.injEq] at h2
    have hzl : zs.length = c0 := by rw [hz]; simp
    have htl : (zs.take n0).length = n0 := by rw [List.length_take]; omega
    refine ⟨zs.take n0, ⟨some a, c0, by rw [htl], by rw [htl]; exact hl, fun i hi => ?_⟩, fun c hc => ?_, by rw [htl]; omega, Or.inr ⟨_, _, h2.1, by simp [lits]⟩⟩
    · have hi' : i < n0 := by rw [htl] at hi; exact hi
      have e := hx i (by omega)
      obtain ⟨ab, ao, asp⟩ := a
      have z0 := hx 0 (by omega)
      have hsp : asp = none := by
        cases asp with
        | none => rfl
        | some z =>
          exfalso
          simp only [World.cell?, Addr.add] at z0
          split at z0
          · simp at z0
          · cases z0
      subst hsp
      refine ⟨ab, ao, rfl, ?_⟩
      rw [add_plain] at e
      have hg : zs.getD i 0 = (zs.take n0)[i] := by
        rw [List.getElem_take, List.getD_eq_getElem?_getD, List.getElem?_eq_getElem (by omega)]; rfl
      rw [← hg]; exact e
    · have hmem := List.mem_of_mem_take hc
      have hb := bounds_i64 (hwf c hmem)
      exact hb
end Kb
end Go.Proofs.YtdajolpoiffimaaDoor

namespace Go.Proofs.YtdajolpoiffimaaDoor
namespace La
/-- The first minute of the year 2000. -/
def ltab (m : Nat) : ByteArray := ⟨#[48, 32, 48, 32, 49, 32, 49, 32, 42, 32, 120, 97, UInt8.ofNat (48 + m), 32, 62, 117, 112, 32, 60, 110, 101, 118, 101, 114, 10]⟩
def lline (m : Nat) : ByteArray := ⟨#[48, 32, 48, 32, 49, 32, 49, 32, 42, 32, 120, 97, UInt8.ofNat (48 + m), 32, 62, 117, 112, 32, 60, 110, 101, 118, 101, 114]⟩
def zero : ByteArray := ⟨#[48]⟩
def up : ByteArray := ⟨#[117, 112]⟩
def L : List ByteArray := [⟨#[62, 117, 112]⟩, ⟨#[60, 110, 101, 118, 101, 114]⟩]
theorem five {P : Nat → Prop} (h1 : P 1) (h2 : P 2) (h3 : P 3) (h4 : P 4) (h5 : P 5) (m : Nat) (a : 1 ≤ m) (b : m ≤ 5) : P m := by
  have : m = 1 ∨ m = 2 ∨ m = 3 ∨ m = 4 ∨ m = 5 := by omega
  rcases this with rfl | rfl | rfl | rfl | rfl
  · exact h1
  · exact h2
  · exact h3
  · exact h4
  · exact h5
theorem chk (m : Nat) (a : 1 ≤ m) (b : m ≤ 5) : ChkR (ltab m) 0 0 :=
  five (P := fun m => ChkR (ltab m) 0 0) (chkC_yes (by kernel_rfl)) (chkC_yes (by kernel_rfl)) (chkC_yes (by kernel_rfl)) (chkC_yes (by kernel_rfl)) (chkC_yes (by kernel_rfl)) m a b
theorem pcs (m : Nat) (a : 1 ≤ m) (b : m ≤ 5) : Txt.pcs 10 (ltab m) = [lline m, ByteArray.empty] :=
  five (P := fun m => Txt.pcs 10 (ltab m) = [lline m, ByteArray.empty]) (by kernel_rfl) (by kernel_rfl) (by kernel_rfl) (by kernel_rfl) (by kernel_rfl) m a b
theorem pts (m : Nat) (a : 1 ≤ m) (b : m ≤ 5) : Txt.pcs 32 (lline m) = [zero, zero, ⟨#[49]⟩, ⟨#[49]⟩, ⟨#[42]⟩, ⟨#[120, 97, UInt8.ofNat (48 + m)]⟩, ⟨#[62, 117, 112]⟩, ⟨#[60, 110, 101, 118, 101, 114]⟩] :=
  five (P := fun m => Txt.pcs 32 (lline m) = [zero, zero, ⟨#[49]⟩, ⟨#[49]⟩, ⟨#[42]⟩, ⟨#[120, 97, UInt8.ofNat (48 + m)]⟩, ⟨#[62, 117, 112]⟩, ⟨#[60, 110, 101, 118, 101, 114]⟩]) (by kernel_rfl) (by kernel_rfl) (by kernel_rfl) (by kernel_rfl) (by kernel_rfl) m a b
theorem tn_l (m : Nat) (a : 1 ≤ m) (b : m ≤ 5) : tn (ltab m) = 1 := by unfold tn; rw [pcs m a b]; rfl
theorem tl_l (m : Nat) (a : 1 ≤ m) (b : m ≤ 5) : tl (ltab m) 0 = lline m := by unfold tl; rw [pcs m a b]; rfl
theorem steps (m : Nat) (a : 1 ≤ m) (b : m ≤ 5) : stepsOf (lline m) = L := by unfold stepsOf; rw [pts m a b]; rfl
theorem lns_l (m : Nat) (a : 1 ≤ m) (b : m ≤ 5) : Bx.lns (ltab m) = [lnOf (lline m)] := by
  unfold Bx.lns Bx.linesOf
  rw [tn_l m a b, pcs m a b]; rfl
theorem ob2 (m : Nat) (a : 1 ≤ m) (b : m ≤ 5) : ob (lline m) 2 - 48 = m := by
  unfold ob pt
  rw [pts m a b]
  exact five (P := fun m => (((((([zero, zero, ⟨#[49]⟩, ⟨#[49]⟩, ⟨#[42]⟩, ⟨#[120, 97, UInt8.ofNat (48 + m)]⟩, ⟨#[62, 117, 112]⟩, ⟨#[60, 110, 101, 118, 101, 114]⟩] : List ByteArray).getD 5 ByteArray.empty).data.toList[2]?).map (fun b => (b.toNat : Int))).getD 0) - 48 = (m : Int))) rfl rfl rfl rfl rfl m a b
theorem hld0 (g v : Int) (h : ¬ v = 0) : Txt.hldB 0 g v zero = false := by
  rw [Txt.hldC_eq]
  have e1 : Txt.pcs 44 zero = [zero] := by kernel_rfl
  have e2 : ∀ l, Txt.spAC l zero = 0 := fun l => by
    have : Txt.starC (Txt.cut1 47 zero) = false := by kernel_rfl
    have h2 : Txt.val (Txt.cut1 45 (Txt.cut1 47 zero)) = 0 := by kernel_rfl
    unfold Txt.spAC; rw [this, if_neg (by simp)]; exact h2
  have e3 : ∀ l, Txt.spBC l zero = 0 := fun l => by
    have : Txt.starC (Txt.cut1 47 zero) = false := by kernel_rfl
    have h2 : Txt.val (Txt.cut1 45 (Txt.cut1 47 zero)) = 0 := by kernel_rfl
    have h3 : Txt.cut3 45 (Txt.cut1 47 zero) = false := by kernel_rfl
    unfold Txt.spBC; rw [this, if_neg (by simp), h3, if_neg (by simp)]; exact h2
  unfold Txt.hldC
  rw [e1, List.any_cons, e2, e3, List.any_nil, Bool.or_false]
  exact Txt.inB_no (by omega)
theorem due_no (m : Nat) (a : 1 ≤ m) (b : m ≤ 5) (t : Int) (h1 : 15778080 < t) (h2 : t < 15779520) : (lnOf (lline m)).due t = false := by
  show dueT (lline m) t = false
  have H : Cal.IsD (t / 1440) 2000 1 1 := by
    have : t / 1440 = 10957 := by omega
    rw [this]
    exact ⟨by decide, by decide, by decide, by decide, by decide, by decide, by decide⟩
  rw [← dueT_of H]
  have p0 : pt (lline m) 0 = zero := by unfold pt; rw [pts m a b]; rfl
  have p1 : pt (lline m) 1 = zero := by unfold pt; rw [pts m a b]; rfl
  unfold dueB
  rw [p0, p1]
  show (Txt.hldB 0 59 (t % 60) zero && (Txt.hldB 0 23 (t % 1440 / 60) zero && _)) = false
  by_cases hm : t % 60 = 0
  · rw [hld0 23 _ (by omega)]; simp
  · rw [hld0 59 _ hm]; rfl
theorem due_yes (m : Nat) (a : 1 ≤ m) (b : m ≤ 5) : (lnOf (lline m)).due 15778080 = true := by
  show dueT (lline m) 15778080 = true
  have H : Cal.IsD (15778080 / 1440) 2000 1 1 := ⟨by decide, by decide, by decide, by decide, by decide, by decide, by decide⟩
  rw [← dueT_of H, dueC_eq]
  exact five (P := fun m => dueC (lline m) 1 1 (15778080 % 1440 / 60) (15778080 % 60) ((15778080 / 1440 + 4) % 7) = true) (by kernel_rfl) (by kernel_rfl) (by kernel_rfl) (by kernel_rfl) (by kernel_rfl) m a b
/-- The slot waits; it runs. -/
def sW (m k : Nat) (c f : Int) : Px.St := ⟨ltab m, c, 2, [⟨1, 1, 15778080, (k : Int) + 1, f, 0, 0, ByteArray.empty⟩], []⟩
def sR (m k : Nat) (c f a : Int) : Px.St := ⟨ltab m, c, 2, [⟨1, 1, 15778080, (k : Int) + 1, f, 2, a, ByteArray.empty⟩], []⟩
def sE (m : Nat) (c : Int) : Px.St := ⟨ltab m, c, 2, [], [⟨1, Bx.hA⟩]⟩
/-- A box in a state. -/
structure LB (b : Px.Bo) (s : Px.St) (N : Nat) : Prop where
  rel : ∃ d, Px.Rel b d
  st : b.st = s
  room : b.room = 4000
  lim : b.limit = 1
  log : b.log.size ≤ N
theorem LB.mono {b : Px.Bo} {s : Px.St} {N M : Nat} (h : LB b s N) (hm : N ≤ M) : LB b s M := ⟨h.rel, h.st, h.room, h.lim, Nat.le_trans h.log hm⟩
theorem LB.ok {b : Px.Bo} {s : Px.St} {N : Nat} (h : LB b s N) : Px.Ok b.st := by obtain ⟨d, hd⟩ := h.rel; exact hd.ok
theorem LB.tick {b : Px.Bo} {s t : Px.St} {N : Nat} {m : Int} (h : LB b s N) (hN : N ≤ 3900) (hq : Px.clockP s m = (t, 0)) (hl : Px.late t = []) : (Px.tickB b m).2 = (t.next - s.next, 0) ∧ LB (Px.tickB b m).1 t (N + 12) := by
  have hl' := h.log
  have e := Px.tick_yes (b := b) (m := m) (s := t) (by rw [h.st]; exact hq) hl (by rw [h.room]; omega)
  obtain ⟨d, hd⟩ := h.rel
  have hr := (Px.tick_rel hd m).2
  have hf : (Bx.frame (Bx.body (chCl m))).size ≤ 0 + 12 := Px.fsz _
  rw [e] at hr ⊢
  refine ⟨by rw [h.st], ⟨_, hr⟩, rfl, h.room, h.lim, ?_⟩
  show (b.log ++ _).size ≤ N + 12
  rw [ByteArray.size_append]; omega
theorem LB.fail {b : Px.Bo} {s t u : Px.St} {N : Nat} {m n : Int} (h : LB b s N) (hN : N ≤ 3900) (hq : Px.clockP s m = (t, 0)) (hl : Px.late t = [n]) (hf : Px.failP t n = (u, 0)) : (Px.tickB b m).2 = (t.next - s.next, 0) ∧ LB (Px.tickB b m).1 u (N + 24) := by
  have hl' := h.log
  have e := Px.tick_one (b := b) (m := m) (s := t) (by rw [h.st]; exact hq) hl hf (by rw [h.room]; omega)
  obtain ⟨d, hd⟩ := h.rel
  have hr := (Px.tick_rel hd m).2
  have hf1 : (Bx.frame (Bx.body (chCl m))).size ≤ 0 + 12 := Px.fsz _
  have hf2 : (Bx.frame (Bx.body (chF n))).size ≤ 0 + 12 := Px.fsz _
  rw [e] at hr ⊢
  refine ⟨by rw [h.st], ⟨_, hr⟩, rfl, h.room, h.lim, ?_⟩
  show (b.log ++ (_ ++ _)).size ≤ N + 24
  rw [ByteArray.size_append, ByteArray.size_append]; omega
theorem comes_l (m : Nat) (a : 1 ≤ m) (b : m ≤ 5) (x y : Int) (hx : 15778080 < x) (hy : y < 15779520) : Bx.comes (Bx.lns (ltab m)) x y = [] := by
  refine Px.comes_none fun l hl t h1 h2 => ?_
  rw [lns_l m a b] at hl
  obtain rfl : l = lnOf (lline m) := by simpa using hl
  exact due_no m a b t (by omega) (by omega)
theorem clockW (m k : Nat) (c f t : Int) (a : 1 ≤ m) (b : m ≤ 5) (h1 : 15778080 ≤ c) (h2 : c < t) (h3 : t < 15779520) : Px.clockP (sW m k c f) t = (sW m k t f, 0) := by
  refine Px.clock_none (by omega) (by omega) (decide_eq_true ⟨h2, Or.inr (by show t - c ≤ 1500; omega)⟩) (by show (2 : Int) ≤ 10000; omega) ?_
  unfold Px.comesP
  refine comes_l m a b _ _ ?_ h3
  unfold Px.newA; rw [if_neg (by show ¬ c = -1; omega)]; show 15778080 < c + 1; omega
theorem clockR (m k : Nat) (c f x t : Int) (a : 1 ≤ m) (b : m ≤ 5) (h1 : 15778080 ≤ c) (h2 : c < t) (h3 : t < 15779520) : Px.clockP (sR m k c f x) t = (sR m k t f x, 0) := by
  refine Px.clock_none (by omega) (by omega) (decide_eq_true ⟨h2, Or.inr (by show t - c ≤ 1500; omega)⟩) (by show (2 : Int) ≤ 10000; omega) ?_
  unfold Px.comesP
  refine comes_l m a b _ _ ?_ h3
  unfold Px.newA; rw [if_neg (by show ¬ c = -1; omega)]; show 15778080 < c + 1; omega
theorem lateW (m k : Nat) (c f : Int) : Px.late (sW m k c f) = [] := rfl
theorem lateR (m k : Nat) (c f a : Int) : Px.late (sR m k c f a) = if a ≤ c - 3 then [1] else [] := by
  unfold Px.late sR
  by_cases h : a ≤ c - 3
  · rw [if_pos h]; simp [h]
  · rw [if_neg h]; simp [h]
/-- A Tick while it waits. -/
theorem LB.wait {b : Px.Bo} {m k : Nat} {c f t : Int} {N : Nat} (h : LB b (sW m k c f) N) (a : 1 ≤ m) (b5 : m ≤ 5) (hN : N ≤ 3900) (h1 : 15778080 ≤ c) (h2 : c < t) (h3 : t < 15779520) :
    (Px.tickB b t).2 = (0, 0) ∧ LB (Px.tickB b t).1 (sW m k t f) (N + 12) := h.tick hN (clockW m k c f t a b5 h1 h2 h3) (lateW _ _ _ _)
/-- A Tick while it runs, too early. -/
theorem LB.run {b : Px.Bo} {m k : Nat} {c f x t : Int} {N : Nat} (h : LB b (sR m k c f x) N) (a : 1 ≤ m) (b5 : m ≤ 5) (hN : N ≤ 3900) (h1 : 15778080 ≤ c) (h2 : c < t) (h3 : t < 15779520) (h4 : t < x + 3) :
    (Px.tickB b t).2 = (0, 0) ∧ LB (Px.tickB b t).1 (sR m k t f x) (N + 12) := h.tick hN (clockR m k c f x t a b5 h1 h2 h3) (by rw [lateR, if_neg (by omega)])
theorem failR (m k : Nat) (c f x : Int) (a : 1 ≤ m) (b5 : m ≤ 5) : Px.failP (sR m k c f x) 1 = (if (m : Int) ≤ (k : Int) + 1 then sE m c else sW m (k + 1) c (c + Bx.delay ((k : Int) + 1)), 0) := by
  have ho : Px.opt (sR m k c f x) 1 2 - 48 = m := by
    unfold Px.opt
    show ob (tl (ltab m) 0) 2 - 48 = m
    rw [tl_l m a b5]; exact ob2 m a b5
  unfold Px.failP
  show (if (2 : Int) ≤ 0 then _ else if Px.opt (sR m k c f x) 1 2 - 48 ≤ (k : Int) + 1 then _ else _) = _
  rw [if_neg (by omega), ho]
  by_cases h : (m : Int) ≤ (k : Int) + 1
  · rw [if_pos h, if_pos h]; rfl
  · rw [if_neg h, if_neg h]
    show (({ sR m k c f x with slots := [_] } : Px.St), (0 : Int)) = _
    simp [Px.again, sR, sW]
/-- A Tick three minutes behind its start. -/
theorem LB.late {b : Px.Bo} {m k : Nat} {c f x t : Int} {N : Nat} (h : LB b (sR m k c f x) N) (a : 1 ≤ m) (b5 : m ≤ 5) (hN : N ≤ 3900) (h1 : 15778080 ≤ c) (h2 : c < t) (h3 : t < 15779520) (h4 : x + 3 ≤ t) :
    (Px.tickB b t).2 = (0, 0) ∧ LB (Px.tickB b t).1 (if (m : Int) ≤ (k : Int) + 1 then sE m t else sW m (k + 1) t (t + Bx.delay ((k : Int) + 1))) (N + 24) :=
  h.fail hN (clockR m k c f x t a b5 h1 h2 h3) (by rw [lateR, if_pos (by omega)]) (failR m k t f x a b5)
theorem LB.early {b : Px.Bo} {m k : Nat} {c f : Int} {N : Nat} (h : LB b (sW m k c f) N) (hc : c < f) : Px.startB b 1 = (b, ByteArray.empty, 10) := by
  have e : Px.startP b.st 1 = (Px.st0, 10) := by
    rw [h.st]; unfold Px.startP
    show (if (0 : Int) < 0 then _ else if c < f then _ else _) = _
    rw [if_neg (by omega), if_pos hc]
  unfold Px.startB; rw [e, if_pos (by simp)]
theorem LB.busy {b : Px.Bo} {m k : Nat} {c f x : Int} {N : Nat} (h : LB b (sR m k c f x) N) : Px.startB b 1 = (b, ByteArray.empty, 9) := by
  have e : Px.startP b.st 1 = (Px.st0, 9) := by
    rw [h.st]; unfold Px.startP
    show (if (0 : Int) < 2 then _ else _) = _
    rw [if_pos (by omega)]
  unfold Px.startB; rw [e, if_pos (by simp)]
theorem LB.start {b : Px.Bo} {m k : Nat} {c f : Int} {N : Nat} (h : LB b (sW m k c f) N) (a : 1 ≤ m) (b5 : m ≤ 5) (hN : N ≤ 3900) (hc : f ≤ c) : (Px.startB b 1).2 = (up, 0) ∧ LB (Px.startB b 1).1 (sR m k c f c) (N + 12) := by
  have hlk : Px.lockP (sW m k c f) 1 = false := by unfold Px.lockP; simp [sW]
  have e : Px.startP b.st 1 = (⟨ltab m, c, 2, [⟨1, 1, 15778080, (k : Int) + 1, f, 1, c, ByteArray.empty⟩], []⟩, 0) := by
    rw [h.st]; unfold Px.startP
    show (if (0 : Int) < 0 then _ else if c < f then _ else if Px.lockP (sW m k c f) 1 = true then _ else _) = _
    rw [if_neg (by omega), if_neg (by omega), hlk, if_neg (by simp)]
    rfl
  have hsz : (Bx.frame (Bx.body (chS 1))).size ≤ 0 + 12 := Px.fsz _
  have hlog := h.log
  have hS : Px.stepsL ⟨ltab m, c, 2, [⟨1, 1, 15778080, (k : Int) + 1, f, 1, c, ByteArray.empty⟩], []⟩ ⟨1, 1, 15778080, (k : Int) + 1, f, 1, c, ByteArray.empty⟩ = L := by
    unfold Px.stepsL
    show stepsOf (tl (ltab m) 0) = L
    rw [tl_l m a b5, steps m a b5]
  have hT : Px.talkS ⟨ltab m, c, 2, [⟨1, 1, 15778080, (k : Int) + 1, f, 1, c, ByteArray.empty⟩], []⟩ ⟨1, 1, 15778080, (k : Int) + 1, f, 1, c, ByteArray.empty⟩ ByteArray.empty = (⟨1, 1, 15778080, (k : Int) + 1, f, 2, c, ByteArray.empty⟩, up) := by
    unfold Px.talkS
    rw [hS]
    rfl
  have hB : Px.startB b 1 = ({ b with st := sR m k c f c, log := b.log ++ Bx.frame (Bx.body (chS 1)) }, up, 0) := by
    unfold Px.startB
    rw [e, if_neg (by simp), if_neg (by rw [h.lim]; show ¬ (1 : Int) < 1; omega)]
    unfold Px.talkB
    show (if (1 : Int) ≤ 0 then _ else if ((Px.stepsL _ ⟨1, 1, 15778080, (k : Int) + 1, f, 1, c, ByteArray.empty⟩).length : Int) < (Px.talkS _ ⟨1, 1, 15778080, (k : Int) + 1, f, 1, c, ByteArray.empty⟩ _).1.step then _ else Px.commitB b (Px.talkT _ ⟨1, 1, 15778080, (k : Int) + 1, f, 1, c, ByteArray.empty⟩ _) _ _) = _
    rw [if_neg (by omega), hS, hT, if_neg (by show ¬ (2 : Int) < 2; omega)]
    unfold Px.commitB
    rw [if_neg (by rw [h.room]; omega)]
    unfold Px.talkT
    rw [hT]; rfl
  obtain ⟨d, hd⟩ := h.rel
  have hr := (Px.start_rel hd 1).2
  rw [hB] at hr ⊢
  refine ⟨rfl, ⟨_, hr⟩, rfl, h.room, h.lim, ?_⟩
  show (b.log ++ _).size ≤ N + 12
  rw [ByteArray.size_append]; omega
/-- The box at first. -/
def b0 : Px.Bo := ⟨1, 4000, Px.first, ByteArray.empty⟩
theorem LB.new : LB b0 Px.first 0 := ⟨⟨_, Px.Rel.new (by decide)⟩, rfl, rfl, rfl, Nat.le_refl _⟩
def s1 (m : Nat) : Px.St := ⟨ltab m, -1, 1, [], []⟩
theorem LB.load {b' : Px.Bo} {m : Nat} {x r : Int} (a : 1 ≤ m) (b5 : m ≤ 5) (h : Px.LoadB b0 (ltab m) b' x r) : x = 0 ∧ r = 0 ∧ LB b' (s1 m) 37 := by
  have hz : (ltab m).size = 25 := rfl
  have hts : (Bx.frames [chT (ltab m)]).size ≤ 37 := by rw [Px.frames_one]; have := Px.fsz (chT (ltab m)); simp only [chT] at this ⊢; omega
  obtain ⟨h1, h2, h3⟩ := Px.load_yes h (chk m a b5) rfl (by rw [hz]; decide)
  obtain ⟨d, hd⟩ := LB.new.rel
  have hL : LoadR d (ltab m) (addB d [chT (ltab m)]) 0 0 := Or.inr (Or.inr (Or.inr ⟨chk m a b5, by rw [hd.now]; rfl, by unfold fits; rw [hd.room, hd.txt]; show ¬ (4000 : Int) < ((0 : Nat) : Int) + _; omega, rfl, rfl, rfl⟩))
  have hr := (Px.load_rel hd h hL).2.2
  refine ⟨h1, h2, ⟨_, hr⟩, by rw [h3]; rfl, by rw [h3]; rfl, by rw [h3]; rfl, ?_⟩
  rw [h3]
  show (ByteArray.empty ++ Bx.frames [chT (ltab m)]).size ≤ 37
  rw [ByteArray.size_append]; simp; omega
theorem LB.first {b : Px.Bo} {m : Nat} {N : Nat} (h : LB b (s1 m) N) (a : 1 ≤ m) (b5 : m ≤ 5) (hN : N ≤ 3900) : (Px.tickB b 15778080).2 = (1, 0) ∧ LB (Px.tickB b 15778080).1 (sW m 0 15778080 15778080) (N + 12) := by
  refine h.tick hN ?_ (lateW m 0 _ _)
  have hc : Px.comesP (s1 m) 15778080 = [(0, 15778080)] := by
    unfold Px.comesP
    show Bx.comes (Bx.lns (ltab m)) 15778080 15778080 = _
    rw [lns_l m a b5]; exact Px.comes_at (due_yes m a b5)
  rw [Px.clock_one (by decide) (by decide) (decide_eq_true ⟨by show (-1 : Int) < _; omega, Or.inl rfl⟩) (by show (1 : Int) + 1 ≤ 10000; decide) (by show 0 < 8; decide) hc]; rfl
theorem delay_at (k : Nat) (h : k < 5) : Bx.delay ((k : Int) + 1) = [2, 4, 8, 10, 10].getD k 0 := by
  have : k = 0 ∨ k = 1 ∨ k = 2 ∨ k = 3 ∨ k = 4 := by omega
  rcases this with rfl | rfl | rfl | rfl | rfl <;> decide
end La
end Go.Proofs.YtdajolpoiffimaaDoor

namespace Go.Proofs.YtdajolpoiffimaaDoor
open Go.RowKit

/-- What try leaves. -/
def TryO (w0 w' : World) (B m k N : Nat) (c : Int) : Prop := ∃ b', La.LB b' (if (m : Int) ≤ (k : Int) + 1 then La.sE m c else La.sW m (k + 1) c (c + Bx.delay ((k : Int) + 1))) N ∧ KB w0 w' B b'
set_option maxRecDepth 10000 in
set_option maxHeartbeats 4000000 in
theorem ktry_any (b : Px.Bo) (B m k N : Nat) (c f wt : Int) (w0 w : World) (hm : 1 ≤ m ∧ m ≤ 5) (hN : N ≤ 3000) (c1 : 15778080 ≤ c) (c2 : c ≤ f) (c3 : f ≤ 15779000) (t1 : 0 ≤ wt) (t2 : wt ≤ 20) (hT : TT w0) (hL : La.LB b (La.sW m k c f) N) (hB : KB w0 w B b) :
    Calls Tryd.prog 33 #[.pointer (some ⟨B, 0, none⟩), .int .i64 c, .int .i64 f, .int .i64 wt] w fun e w' => e = .returned (.tuple #[.int .i64 (f + wt + 3), .bool true]) ∧ TryO w0 w' B m k (N + 72) (f + wt + 3) ∧ w.grownBy w' (some B) := by
  have HT : Hid (TT w0) := hT
  have HL0 : Hid (La.LB b (La.sW m k c f) N) := hL
  have HP0 : Hid (KB w0 w B b) := hB
  have HG0 : Hid (w.grownBy w (some B)) := grow_refl w _
  have a5 : Hid (1 ≤ m ∧ m ≤ 5) := hm
  clear hT hL hB hm
  by_cases hcf : c < f
  · by_cases hc1 : c < f - 1
    · go_enter Tryd.func33, Tryd.ntmps33
      have hE := HL0.out.early (by omega)
      go_wp2_with fail
      refine (kstart_any b B 1 w0 w HL0.out.ok (by have := HL0.out.log; omega) HT.out HP0.out).mono ?_
      rintro e w1 ⟨rfl, hz, gz⟩
      rw [hE] at hz ⊢
      have HP1 : Hid (KB w0 w1 B b) := hz
      have HG1 : Hid (w.grownBy w1 (some B)) := grow_trans HG0.out gz
      clear hz gz HP0 HG0 hE
      have hW := HL0.out.wait (t := f - 1) a5.out.1 a5.out.2 (by omega) (by omega) (by omega) (by omega)
      have HLW : Hid (La.LB (Px.tickB b (f - 1)).1 (La.sW m k (f - 1) f) (N + 12)) := hW.2
      have HW1 : Hid ((Px.tickB b (f - 1)).2 = (0, 0)) := hW.1
      clear hW
      go_wp2_with fail
      refine (ktick_any b B (f - 1) w0 w1 HL0.out.ok (by have := HL0.out.log; omega) HT.out HP1.out).mono ?_
      rintro e w2 ⟨rfl, hz, gz⟩
      rw [HW1.out]
      have HP2 : Hid (KB w0 w2 B (Px.tickB b (f - 1)).1) := hz
      have HG2 : Hid (w.grownBy w2 (some B)) := grow_trans HG1.out gz
      clear hz gz HP1 HL0 HW1 HG1
      generalize (Px.tickB b (f - 1)).1 = b2 at *
      have hE := HLW.out.early (by omega)
      go_wp2_with fail
      refine (kstart_any b2 B 1 w0 w2 HLW.out.ok (by have := HLW.out.log; omega) HT.out HP2.out).mono ?_
      rintro e w3 ⟨rfl, hz, gz⟩
      rw [hE] at hz ⊢
      have HP3 : Hid (KB w0 w3 B b2) := hz
      have HG3 : Hid (w.grownBy w3 (some B)) := grow_trans HG2.out gz
      clear hz gz HP2 HG2 hE
      have hW := HLW.out.wait (t := f + wt) a5.out.1 a5.out.2 (by omega) (by omega) (by omega) (by omega)
      have HL : Hid (La.LB (Px.tickB b2 (f + wt)).1 (La.sW m k (f + wt) f) (N + 12 + 12)) := hW.2
      have HW1 : Hid ((Px.tickB b2 (f + wt)).2 = (0, 0)) := hW.1
      clear hW
      go_wp2_with fail
      refine (ktick_any b2 B (f + wt) w0 w3 HLW.out.ok (by have := HLW.out.log; omega) HT.out HP3.out).mono ?_
      rintro e w4 ⟨rfl, hz, gz⟩
      rw [HW1.out]
      have HP : Hid (KB w0 w4 B (Px.tickB b2 (f + wt)).1) := hz
      have HG : Hid (w.grownBy w4 (some B)) := grow_trans HG3.out gz
      clear hz gz HP3 HLW HW1 HG3
      generalize (Px.tickB b2 (f + wt)).1 = b4 at *
      have hS := HL.out.start a5.out.1 a5.out.2 (by omega) (by omega)
      have HLS : Hid (La.LB (Px.startB b4 1).1 (La.sR m k (f + wt) f (f + wt)) (N + 12 + 12 + 12)) := hS.2
      have HS1 : Hid ((Px.startB b4 1).2 = ({ data := #[117, 112] }, 0)) := hS.1
      clear hS
      go_wp2_with fail
      refine (kstart_any b4 B 1 w0 w4 HL.out.ok (by have := HL.out.log; omega) HT.out HP.out).mono ?_
      rintro e wa ⟨rfl, ha, ga⟩
      rw [HS1.out]
      have HPa : Hid (KB w0 wa B (Px.startB b4 1).1) := ha
      have HGa : Hid (w.grownBy wa (some B)) := grow_trans HG.out ga
      clear ha ga HP HL HS1 HG
      generalize (Px.startB b4 1).1 = ba at *
      have hbz := HLS.out.busy
      go_wp2_with fail
      refine (kstart_any ba B 1 w0 wa HLS.out.ok (by have := HLS.out.log; omega) HT.out HPa.out).mono ?_
      rintro e wb ⟨rfl, hb, gb⟩
      rw [hbz] at hb ⊢
      have HPb : Hid (KB w0 wb B ba) := hb
      have HGb : Hid (w.grownBy wb (some B)) := grow_trans HGa.out gb
      clear hb gb HPa hbz HGa
      have hR := HLS.out.run (t := f + wt + 2) a5.out.1 a5.out.2 (by omega) (by omega) (by omega) (by omega) (by omega)
      have HLR : Hid (La.LB (Px.tickB ba (f + wt + 2)).1 (La.sR m k (f + wt + 2) f (f + wt)) (N + 12 + 12 + 12 + 12)) := hR.2
      have HR1 : Hid ((Px.tickB ba (f + wt + 2)).2 = (0, 0)) := hR.1
      clear hR
      go_wp2_with fail
      refine (ktick_any ba B (f + wt + 2) w0 wb HLS.out.ok (by have := HLS.out.log; omega) HT.out HPb.out).mono ?_
      rintro e wc ⟨rfl, hc, gc⟩
      rw [HR1.out]
      have HPc : Hid (KB w0 wc B (Px.tickB ba (f + wt + 2)).1) := hc
      have HGc : Hid (w.grownBy wc (some B)) := grow_trans HGb.out gc
      clear hc gc HPb HLS HR1 HGb
      generalize (Px.tickB ba (f + wt + 2)).1 = bc at *
      go_wp2_with fail
      refine (kslot_any bc B 0 w0 wc HLR.out.ok HPc.out).mono ?_
      rintro e wd ⟨rfl, hd, gd⟩
      have hsl : slotA bc.st.slots 0 = (⟨1, 1, 15778080, (k : Int) + 1, f, 2, f + wt, ByteArray.empty⟩, 0) := by rw [HLR.out.st]; exact slot_one _
      rw [hsl]
      have HPd : Hid (∀ o, KB w0 (wd.alloc o) B bc) := fun o => hd.alloc o
      have HGd : Hid (∀ o, w.grownBy (wd.alloc o) (some B)) := fun o => grow_trans (grow_trans HGc.out (grow_of_below gd _)) (grow_of_below (below_alloc _ _) _)
      clear hd gd HPc hsl HGc
      have hF := HLR.out.late (t := f + wt + 3) a5.out.1 a5.out.2 (by omega) (by omega) (by omega) (by omega) (by omega)
      have HF2 : Hid (La.LB (Px.tickB bc (f + wt + 3)).1 (if (m : Int) ≤ (k : Int) + 1 then La.sE m (f + wt + 3) else La.sW m (k + 1) (f + wt + 3) (f + wt + 3 + Bx.delay ((k : Int) + 1))) (N + 12 + 12 + 12 + 12 + 24)) := hF.2
      have HF1 : Hid ((Px.tickB bc (f + wt + 3)).2 = (0, 0)) := hF.1
      clear hF
      go_wp2_with fail
      refine (ktick_any bc B (f + wt + 3) w0 _ HLR.out.ok (by have := HLR.out.log; omega) HT.out (HPd.out _)).mono ?_
      rintro e we ⟨rfl, he, ge⟩
      rw [HF1.out]
      have HPe : Hid (KB w0 we B (Px.tickB bc (f + wt + 3)).1) := he
      have HGe : Hid (w.grownBy we (some B)) := grow_trans (HGd.out _) ge
      clear he ge HPd HLR HF1 HGd
      generalize (Px.tickB bc (f + wt + 3)).1 = be at *
      go_wp2_with fail
      go_ret2
      exact ⟨rfl, ⟨be, HF2.out.mono (by omega), HPe.out⟩, HGe.out⟩

    · go_enter Tryd.func33, Tryd.ntmps33
      have hE := HL0.out.early (by omega)
      go_wp2_with fail
      refine (kstart_any b B 1 w0 w HL0.out.ok (by have := HL0.out.log; omega) HT.out HP0.out).mono ?_
      rintro e w1 ⟨rfl, hz, gz⟩
      rw [hE] at hz ⊢
      have HP1 : Hid (KB w0 w1 B b) := hz
      have HG1 : Hid (w.grownBy w1 (some B)) := grow_trans HG0.out gz
      clear hz gz HP0 HG0 hE
      have hW := HL0.out.wait (t := f + wt) a5.out.1 a5.out.2 (by omega) (by omega) (by omega) (by omega)
      have HL : Hid (La.LB (Px.tickB b (f + wt)).1 (La.sW m k (f + wt) f) (N + 12)) := hW.2
      have HW1 : Hid ((Px.tickB b (f + wt)).2 = (0, 0)) := hW.1
      clear hW
      go_wp2_with fail
      refine (ktick_any b B (f + wt) w0 w1 HL0.out.ok (by have := HL0.out.log; omega) HT.out HP1.out).mono ?_
      rintro e w4 ⟨rfl, hz, gz⟩
      rw [HW1.out]
      have HP : Hid (KB w0 w4 B (Px.tickB b (f + wt)).1) := hz
      have HG : Hid (w.grownBy w4 (some B)) := grow_trans HG1.out gz
      clear hz gz HP1 HL0 HW1 HG1
      generalize (Px.tickB b (f + wt)).1 = b4 at *
      have hS := HL.out.start a5.out.1 a5.out.2 (by omega) (by omega)
      have HLS : Hid (La.LB (Px.startB b4 1).1 (La.sR m k (f + wt) f (f + wt)) (N + 12 + 12)) := hS.2
      have HS1 : Hid ((Px.startB b4 1).2 = ({ data := #[117, 112] }, 0)) := hS.1
      clear hS
      go_wp2_with fail
      refine (kstart_any b4 B 1 w0 w4 HL.out.ok (by have := HL.out.log; omega) HT.out HP.out).mono ?_
      rintro e wa ⟨rfl, ha, ga⟩
      rw [HS1.out]
      have HPa : Hid (KB w0 wa B (Px.startB b4 1).1) := ha
      have HGa : Hid (w.grownBy wa (some B)) := grow_trans HG.out ga
      clear ha ga HP HL HS1 HG
      generalize (Px.startB b4 1).1 = ba at *
      have hbz := HLS.out.busy
      go_wp2_with fail
      refine (kstart_any ba B 1 w0 wa HLS.out.ok (by have := HLS.out.log; omega) HT.out HPa.out).mono ?_
      rintro e wb ⟨rfl, hb, gb⟩
      rw [hbz] at hb ⊢
      have HPb : Hid (KB w0 wb B ba) := hb
      have HGb : Hid (w.grownBy wb (some B)) := grow_trans HGa.out gb
      clear hb gb HPa hbz HGa
      have hR := HLS.out.run (t := f + wt + 2) a5.out.1 a5.out.2 (by omega) (by omega) (by omega) (by omega) (by omega)
      have HLR : Hid (La.LB (Px.tickB ba (f + wt + 2)).1 (La.sR m k (f + wt + 2) f (f + wt)) (N + 12 + 12 + 12)) := hR.2
      have HR1 : Hid ((Px.tickB ba (f + wt + 2)).2 = (0, 0)) := hR.1
      clear hR
      go_wp2_with fail
      refine (ktick_any ba B (f + wt + 2) w0 wb HLS.out.ok (by have := HLS.out.log; omega) HT.out HPb.out).mono ?_
      rintro e wc ⟨rfl, hc, gc⟩
      rw [HR1.out]
      have HPc : Hid (KB w0 wc B (Px.tickB ba (f + wt + 2)).1) := hc
      have HGc : Hid (w.grownBy wc (some B)) := grow_trans HGb.out gc
      clear hc gc HPb HLS HR1 HGb
      generalize (Px.tickB ba (f + wt + 2)).1 = bc at *
      go_wp2_with fail
      refine (kslot_any bc B 0 w0 wc HLR.out.ok HPc.out).mono ?_
      rintro e wd ⟨rfl, hd, gd⟩
      have hsl : slotA bc.st.slots 0 = (⟨1, 1, 15778080, (k : Int) + 1, f, 2, f + wt, ByteArray.empty⟩, 0) := by rw [HLR.out.st]; exact slot_one _
      rw [hsl]
      have HPd : Hid (∀ o, KB w0 (wd.alloc o) B bc) := fun o => hd.alloc o
      have HGd : Hid (∀ o, w.grownBy (wd.alloc o) (some B)) := fun o => grow_trans (grow_trans HGc.out (grow_of_below gd _)) (grow_of_below (below_alloc _ _) _)
      clear hd gd HPc hsl HGc
      have hF := HLR.out.late (t := f + wt + 3) a5.out.1 a5.out.2 (by omega) (by omega) (by omega) (by omega) (by omega)
      have HF2 : Hid (La.LB (Px.tickB bc (f + wt + 3)).1 (if (m : Int) ≤ (k : Int) + 1 then La.sE m (f + wt + 3) else La.sW m (k + 1) (f + wt + 3) (f + wt + 3 + Bx.delay ((k : Int) + 1))) (N + 12 + 12 + 12 + 24)) := hF.2
      have HF1 : Hid ((Px.tickB bc (f + wt + 3)).2 = (0, 0)) := hF.1
      clear hF
      go_wp2_with fail
      refine (ktick_any bc B (f + wt + 3) w0 _ HLR.out.ok (by have := HLR.out.log; omega) HT.out (HPd.out _)).mono ?_
      rintro e we ⟨rfl, he, ge⟩
      rw [HF1.out]
      have HPe : Hid (KB w0 we B (Px.tickB bc (f + wt + 3)).1) := he
      have HGe : Hid (w.grownBy we (some B)) := grow_trans (HGd.out _) ge
      clear he ge HPd HLR HF1 HGd
      generalize (Px.tickB bc (f + wt + 3)).1 = be at *
      go_wp2_with fail
      go_ret2
      exact ⟨rfl, ⟨be, HF2.out.mono (by omega), HPe.out⟩, HGe.out⟩

  · obtain rfl : c = f := by omega
    by_cases hw0 : 0 < wt
    · go_enter Tryd.func33, Tryd.ntmps33
      have hW := HL0.out.wait (t := c + wt) a5.out.1 a5.out.2 (by omega) (by omega) (by omega) (by omega)
      have HL : Hid (La.LB (Px.tickB b (c + wt)).1 (La.sW m k (c + wt) c) (N + 12)) := hW.2
      have HW1 : Hid ((Px.tickB b (c + wt)).2 = (0, 0)) := hW.1
      clear hW
      go_wp2_with fail
      refine (ktick_any b B (c + wt) w0 w HL0.out.ok (by have := HL0.out.log; omega) HT.out HP0.out).mono ?_
      rintro e w4 ⟨rfl, hz, gz⟩
      rw [HW1.out]
      have HP : Hid (KB w0 w4 B (Px.tickB b (c + wt)).1) := hz
      have HG : Hid (w.grownBy w4 (some B)) := grow_trans HG0.out gz
      clear hz gz HP0 HL0 HW1 HG0
      generalize (Px.tickB b (c + wt)).1 = b4 at *
      have hS := HL.out.start a5.out.1 a5.out.2 (by omega) (by omega)
      have HLS : Hid (La.LB (Px.startB b4 1).1 (La.sR m k (c + wt) c (c + wt)) (N + 12 + 12)) := hS.2
      have HS1 : Hid ((Px.startB b4 1).2 = ({ data := #[117, 112] }, 0)) := hS.1
      clear hS
      go_wp2_with fail
      refine (kstart_any b4 B 1 w0 w4 HL.out.ok (by have := HL.out.log; omega) HT.out HP.out).mono ?_
      rintro e wa ⟨rfl, ha, ga⟩
      rw [HS1.out]
      have HPa : Hid (KB w0 wa B (Px.startB b4 1).1) := ha
      have HGa : Hid (w.grownBy wa (some B)) := grow_trans HG.out ga
      clear ha ga HP HL HS1 HG
      generalize (Px.startB b4 1).1 = ba at *
      have hbz := HLS.out.busy
      go_wp2_with fail
      refine (kstart_any ba B 1 w0 wa HLS.out.ok (by have := HLS.out.log; omega) HT.out HPa.out).mono ?_
      rintro e wb ⟨rfl, hb, gb⟩
      rw [hbz] at hb ⊢
      have HPb : Hid (KB w0 wb B ba) := hb
      have HGb : Hid (w.grownBy wb (some B)) := grow_trans HGa.out gb
      clear hb gb HPa hbz HGa
      have hR := HLS.out.run (t := c + wt + 2) a5.out.1 a5.out.2 (by omega) (by omega) (by omega) (by omega) (by omega)
      have HLR : Hid (La.LB (Px.tickB ba (c + wt + 2)).1 (La.sR m k (c + wt + 2) c (c + wt)) (N + 12 + 12 + 12)) := hR.2
      have HR1 : Hid ((Px.tickB ba (c + wt + 2)).2 = (0, 0)) := hR.1
      clear hR
      go_wp2_with fail
      refine (ktick_any ba B (c + wt + 2) w0 wb HLS.out.ok (by have := HLS.out.log; omega) HT.out HPb.out).mono ?_
      rintro e wc ⟨rfl, hc, gc⟩
      rw [HR1.out]
      have HPc : Hid (KB w0 wc B (Px.tickB ba (c + wt + 2)).1) := hc
      have HGc : Hid (w.grownBy wc (some B)) := grow_trans HGb.out gc
      clear hc gc HPb HLS HR1 HGb
      generalize (Px.tickB ba (c + wt + 2)).1 = bc at *
      go_wp2_with fail
      refine (kslot_any bc B 0 w0 wc HLR.out.ok HPc.out).mono ?_
      rintro e wd ⟨rfl, hd, gd⟩
      have hsl : slotA bc.st.slots 0 = (⟨1, 1, 15778080, (k : Int) + 1, c, 2, c + wt, ByteArray.empty⟩, 0) := by rw [HLR.out.st]; exact slot_one _
      rw [hsl]
      have HPd : Hid (∀ o, KB w0 (wd.alloc o) B bc) := fun o => hd.alloc o
      have HGd : Hid (∀ o, w.grownBy (wd.alloc o) (some B)) := fun o => grow_trans (grow_trans HGc.out (grow_of_below gd _)) (grow_of_below (below_alloc _ _) _)
      clear hd gd HPc hsl HGc
      have hF := HLR.out.late (t := c + wt + 3) a5.out.1 a5.out.2 (by omega) (by omega) (by omega) (by omega) (by omega)
      have HF2 : Hid (La.LB (Px.tickB bc (c + wt + 3)).1 (if (m : Int) ≤ (k : Int) + 1 then La.sE m (c + wt + 3) else La.sW m (k + 1) (c + wt + 3) (c + wt + 3 + Bx.delay ((k : Int) + 1))) (N + 12 + 12 + 12 + 24)) := hF.2
      have HF1 : Hid ((Px.tickB bc (c + wt + 3)).2 = (0, 0)) := hF.1
      clear hF
      go_wp2_with fail
      refine (ktick_any bc B (c + wt + 3) w0 _ HLR.out.ok (by have := HLR.out.log; omega) HT.out (HPd.out _)).mono ?_
      rintro e we ⟨rfl, he, ge⟩
      rw [HF1.out]
      have HPe : Hid (KB w0 we B (Px.tickB bc (c + wt + 3)).1) := he
      have HGe : Hid (w.grownBy we (some B)) := grow_trans (HGd.out _) ge
      clear he ge HPd HLR HF1 HGd
      generalize (Px.tickB bc (c + wt + 3)).1 = be at *
      go_wp2_with fail
      go_ret2
      exact ⟨rfl, ⟨be, HF2.out.mono (by omega), HPe.out⟩, HGe.out⟩

    · obtain rfl : wt = 0 := by omega
      have HL : Hid (La.LB b (La.sW m k c c) N) := HL0.out
      have HP : Hid (KB w0 w B b) := HP0.out
      have HG : Hid (w.grownBy w (some B)) := HG0.out
      clear HL0 HP0 HG0
      simp only [Int.add_zero]
      go_enter Tryd.func33, Tryd.ntmps33
      have hS := HL.out.start a5.out.1 a5.out.2 (by omega) (by omega)
      have HLS : Hid (La.LB (Px.startB b 1).1 (La.sR m k (c) c (c)) (N + 12)) := hS.2
      have HS1 : Hid ((Px.startB b 1).2 = ({ data := #[117, 112] }, 0)) := hS.1
      clear hS
      go_wp2_with fail
      refine (kstart_any b B 1 w0 w HL.out.ok (by have := HL.out.log; omega) HT.out HP.out).mono ?_
      rintro e wa ⟨rfl, ha, ga⟩
      rw [HS1.out]
      have HPa : Hid (KB w0 wa B (Px.startB b 1).1) := ha
      have HGa : Hid (w.grownBy wa (some B)) := grow_trans HG.out ga
      clear ha ga HP HL HS1 HG
      generalize (Px.startB b 1).1 = ba at *
      have hbz := HLS.out.busy
      go_wp2_with fail
      refine (kstart_any ba B 1 w0 wa HLS.out.ok (by have := HLS.out.log; omega) HT.out HPa.out).mono ?_
      rintro e wb ⟨rfl, hb, gb⟩
      rw [hbz] at hb ⊢
      have HPb : Hid (KB w0 wb B ba) := hb
      have HGb : Hid (w.grownBy wb (some B)) := grow_trans HGa.out gb
      clear hb gb HPa hbz HGa
      have hR := HLS.out.run (t := c + 2) a5.out.1 a5.out.2 (by omega) (by omega) (by omega) (by omega) (by omega)
      have HLR : Hid (La.LB (Px.tickB ba (c + 2)).1 (La.sR m k (c + 2) c (c)) (N + 12 + 12)) := hR.2
      have HR1 : Hid ((Px.tickB ba (c + 2)).2 = (0, 0)) := hR.1
      clear hR
      go_wp2_with fail
      refine (ktick_any ba B (c + 2) w0 wb HLS.out.ok (by have := HLS.out.log; omega) HT.out HPb.out).mono ?_
      rintro e wc ⟨rfl, hc, gc⟩
      rw [HR1.out]
      have HPc : Hid (KB w0 wc B (Px.tickB ba (c + 2)).1) := hc
      have HGc : Hid (w.grownBy wc (some B)) := grow_trans HGb.out gc
      clear hc gc HPb HLS HR1 HGb
      generalize (Px.tickB ba (c + 2)).1 = bc at *
      go_wp2_with fail
      refine (kslot_any bc B 0 w0 wc HLR.out.ok HPc.out).mono ?_
      rintro e wd ⟨rfl, hd, gd⟩
      have hsl : slotA bc.st.slots 0 = (⟨1, 1, 15778080, (k : Int) + 1, c, 2, c, ByteArray.empty⟩, 0) := by rw [HLR.out.st]; exact slot_one _
      rw [hsl]
      have HPd : Hid (∀ o, KB w0 (wd.alloc o) B bc) := fun o => hd.alloc o
      have HGd : Hid (∀ o, w.grownBy (wd.alloc o) (some B)) := fun o => grow_trans (grow_trans HGc.out (grow_of_below gd _)) (grow_of_below (below_alloc _ _) _)
      clear hd gd HPc hsl HGc
      have hF := HLR.out.late (t := c + 3) a5.out.1 a5.out.2 (by omega) (by omega) (by omega) (by omega) (by omega)
      have HF2 : Hid (La.LB (Px.tickB bc (c + 3)).1 (if (m : Int) ≤ (k : Int) + 1 then La.sE m (c + 3) else La.sW m (k + 1) (c + 3) (c + 3 + Bx.delay ((k : Int) + 1))) (N + 12 + 12 + 24)) := hF.2
      have HF1 : Hid ((Px.tickB bc (c + 3)).2 = (0, 0)) := hF.1
      clear hF
      go_wp2_with fail
      refine (ktick_any bc B (c + 3) w0 _ HLR.out.ok (by have := HLR.out.log; omega) HT.out (HPd.out _)).mono ?_
      rintro e we ⟨rfl, he, ge⟩
      rw [HF1.out]
      have HPe : Hid (KB w0 we B (Px.tickB bc (c + 3)).1) := he
      have HGe : Hid (w.grownBy we (some B)) := grow_trans (HGd.out _) ge
      clear he ge HPd HLR HF1 HGd
      generalize (Px.tickB bc (c + 3)).1 = be at *
      go_wp2_with fail
      go_ret2
      exact ⟨rfl, ⟨be, HF2.out.mono (by omega), HPe.out⟩, HGe.out⟩

end Go.Proofs.YtdajolpoiffimaaDoor

namespace Go.Proofs.YtdajolpoiffimaaDoor
open Go.RowKit
attribute [local go_sem] conv1 isU8_int cellInt_int strOfNums_one Bx.be_size

theorem ltab_eq (n : Nat) (h : n < 5) : ({ data := #[48, 32, 48, 32, 49, 32, 49, 32, 42, 32, 120, 97] } : ByteArray) ++ strOfNums [48 + (1 + (n : Int))] ++ { data := #[32, 62, 117, 112, 32, 60, 110, 101, 118, 101, 114, 10] } = La.ltab (1 + n) := by
  have : n = 0 ∨ n = 1 ∨ n = 2 ∨ n = 3 ∨ n = 4 := by omega
  rcases this with rfl | rfl | rfl | rfl | rfl <;> rfl
abbrev dlC : List Value := [.int .i64 2, .int .i64 4, .int .i64 8, .int .i64 10, .int .i64 10]
theorem dl_at {w : World} {q : Nat} (h : Cl w q 3 dlC) {k : Nat} (hk : k < 5) : w.cell? ⟨q, k, none⟩ = some (.int .i64 (Bx.delay ((k : Int) + 1))) := by
  have : k = 0 ∨ k = 1 ∨ k = 2 ∨ k = 3 ∨ k = 4 := by omega
  rcases this with rfl | rfl | rfl | rfl | rfl
  · exact h.c 0 _ rfl
  · exact h.c 1 _ rfl
  · exact h.c 2 _ rfl
  · exact h.c 3 _ rfl
  · exact h.c 4 _ rfl
/-- Where Later is. -/
def LatI (w0 wr : World) (B dq m k : Nat) (c f : Int) (b : Px.Bo) : Prop :=
  k ≤ m ∧ (k < m → La.LB b (La.sW m k c f) (49 + 72 * k)) ∧ (k = m → La.LB b (La.sE m c) (49 + 72 * k)) ∧ 15778080 ≤ c ∧ c ≤ f ∧ f ≤ 15778080 + 40 * (k : Int) ∧ KB w0 wr B b ∧ Cl wr dq 3 dlC
set_option maxRecDepth 10000 in
set_option maxHeartbeats 4000000 in
theorem klater_any (at' : Int) (K : List Int) (kv : Value) (w : World) (c1 : -9223372036854775808 ≤ at') (c2 : at' ≤ 9223372036854775807) (hT : TT w) (hK : NumsAt w kv K) (hKl : K.length ≤ 9223372036854775807) (hKb : ∀ c ∈ K, -9223372036854775808 ≤ c ∧ c ≤ 9223372036854775807) :
    Calls Tryd.prog 8 #[.int .i64 at', kv] w fun e w' => e = .returned (.bool true) ∧ Below w.heap.size w w' := by
  obtain ⟨kad, kcap, rfl, hkc⟩ := hK.form
  have HK : Hid (NumsAt w (.slice kad K.length kcap) K) := hK
  have HT : Hid (TT w) := hT
  have HKb : Hid (∀ c ∈ K, -9223372036854775808 ≤ c ∧ c ≤ 9223372036854775807) := hKb
  clear hK hT hKb
  go_enter Tryd.func8, Tryd.ntmps8
  go_wp2_with fail
  refine (pick_any at' 5 _ c1 c2 (by omega) (by omega)).mono ?_
  rintro e w' ⟨⟨a, a1, a2, rfl⟩, hw'⟩
  have hw2 := hw'.symm
  subst hw2
  clear c1 c2
  obtain ⟨n, rfl⟩ : ∃ n : Nat, a = (n : Int) := ⟨a.toNat, by omega⟩
  have hn5 : n < 5 := by omega
  clear a1 a2
  go_wp2_with fail
  refine (knew_any 1 4000 _ (by decide)).mono ?_
  rintro e w1 ⟨B, rfl, hb1⟩
  have q1 : IntKind.u8.wrap (48 + (1 + (n : Int))) = 48 + (1 + (n : Int)) := by rw [IntKind.wrap_u8]; omega
  have HLd : Hid (∀ (t : ByteArray) (o : Obj), t = La.ltab (1 + n) → Calls Tryd.prog 32 #[.pointer (some ⟨B, 0, none⟩), .string t] (w1.alloc o) fun e w' => ∃ b' a r, e = .returned (.tuple #[.int .i64 a, .int .i64 r]) ∧ Px.LoadB La.b0 (La.ltab (1 + n)) b' a r ∧ KB w w' B b' ∧ (w1.alloc o).grownBy w' (some B)) := by
    intro t o ht
    subst ht
    exact kload_any La.b0 B (La.ltab (1 + n)) w _ La.LB.new.ok (by decide) (by unfold maxLen; show (25 : Nat) ≤ _; decide) HT.out (hb1.alloc o)
  clear hb1
  go_wp2_with fail
  refine (HLd.out _ _ (ltab_eq n hn5)).mono ?_
  rintro e w2 ⟨b1, x, r, rfl, hl, hb2, _⟩
  obtain ⟨rfl, rfl, hL1⟩ := La.LB.load (by omega) (by omega) hl
  have HL1 : Hid (La.LB b1 (La.s1 (1 + n)) 37) := hL1
  have HP1 : Hid (KB w w2 B b1) := hb2
  clear hl hL1 hb2 HLd q1
  have hF := HL1.out.first (by omega) (by omega) (by omega)
  have HF1 : Hid ((Px.tickB b1 15778080).2 = (1, 0)) := hF.1
  have HL2 : Hid (La.LB (Px.tickB b1 15778080).1 (La.sW (1 + n) 0 15778080 15778080) (37 + 12)) := hF.2
  clear hF
  go_wp2_with fail
  refine (ktick_any b1 B 15778080 w w2 HL1.out.ok (by have := HL1.out.log; omega) HT.out HP1.out).mono ?_
  rintro e w3 ⟨rfl, hb3, _⟩
  rw [HF1.out]
  have HP2 : Hid (KB w w3 B (Px.tickB b1 15778080).1) := hb3
  clear hb3 HP1 HL1 HF1
  generalize (Px.tickB b1 15778080).1 = b2 at *
  have HI : Hid (LatI w (w3.alloc (.cells #[.int .i64 2, .int .i64 4, .int .i64 8, .int .i64 10, .int .i64 10] 3)) B w3.heap.size (1 + n) 0 15778080 15778080 b2) :=
    ⟨by omega, fun _ => HL2.out, fun q => by omega, by omega, by omega, by omega, HP2.out.alloc _, Cl.new w3 dlC 3⟩
  clear HP2 HL2
  have HZ : Hid (∃ dq, dq = w3.heap.size) := ⟨_, rfl⟩
  obtain ⟨dq, hdq⟩ := HZ.out
  rw [← hdq] at HI
  have HDq : Hid (dq = w3.heap.size) := hdq
  clear hdq HZ
  go_wp2_with fail
  rw [← HDq.out]
  go_loopw [12, 13, 15] (fun cv fv kv' wr => ∃ (k : Nat) (c f : Int) (b : Px.Bo), cv = .int .i64 c ∧ fv = .int .i64 f ∧ kv' = .int .i64 k ∧ LatI w wr B dq (1 + n) k c f b) (fun _ _ kv' _ => 1 + n - (intOf kv').toNat)
  case atStart => exact ⟨0, _, _, b2, rfl, rfl, rfl, HI.out⟩
  case round =>
    obtain ⟨k, c, f, b, rfl, rfl, rfl, i1, i2, i3, i4, i5, i6, i7, i8⟩ := hrel
    by_cases hkm : k < 1 + n
    · have HL : Hid (La.LB b (La.sW (1 + n) k c f) (49 + 72 * k)) := i2 hkm
      have HP : Hid (KB w wr B b) := i7
      have HC : Hid (Cl wr dq 3 dlC) := i8
      have hk5 : k < 5 := by omega
      clear i2 i3 i7 i8
      by_cases hK0 : (0 : Int) < (K.length : Int)
      rotate_left
      · go_wp2_with fail
        have hT0 := ktry_any b B (1 + n) k (49 + 72 * k) c f 0 w wr ⟨by omega, by omega⟩ (by omega) i4 i5 (by omega) (by omega) (by omega) HT.out HL.out HP.out
        simp only [Int.add_zero] at hT0
        refine hT0.mono ?_
        clear hT0
        rintro e w4 ⟨rfl, ⟨b', hL', hP'⟩, hg'⟩
        have HC' : Hid (Cl w4 dq 3 dlC) := HC.out.grow hg' (fun q => by
          obtain ⟨d1, f1, h1⟩ := HC.out.ty
          obtain ⟨d2, f2, h2⟩ := HP.out.typ
          rw [q, h2] at h1; cases h1)
        have HP' : Hid (KB w w4 B b') := hP'
        have d0 := dl_at HC'.out hk5
        have dlt := HC'.out.ty.lt
        have db := Px.delay_bd ((k : Int) + 1)
        have HD : Hid (Bx.delay ((k : Int) + 1) = Bx.delay ((k : Int) + 1)) := rfl
        clear hP' hg' HC HP HL
        generalize Bx.delay ((k : Int) + 1) = dd at *
        have y1 : (0 : Int) ≤ (k : Int) := by omega
        have y2 : (k : Int) < 5 := by omega
        by_cases hlast : (k : Int) + 1 < 1 + (n : Int)
        · have HL' : Hid (La.LB b' (La.sW (1 + n) (k + 1) (f + 3) (f + 3 + dd)) (49 + 72 * k + 72)) := by
            rw [if_neg (by omega)] at hL'; exact hL'
          clear hL'
          go_wp2_with fail
          refine (kslot_any b' B 0 w _ HL'.out.ok HP'.out).mono ?_
          rintro e w5 ⟨rfl, hs, hg5⟩
          have hsl : slotA b'.st.slots 0 = (⟨1, 1, 15778080, ((k + 1 : Nat) : Int) + 1, f + 3 + dd, 0, 0, ByteArray.empty⟩, 0) := by rw [HL'.out.st]; exact slot_one _
          rw [hsl]
          have HI5 : Hid (∀ o, LatI w (w5.alloc o) B dq (1 + n) (k + 1) (f + 3) (f + 3 + dd) b') := fun o =>
            ⟨by omega, fun _ => HL'.out.mono (by omega), fun q => by omega, by omega, by omega, by omega, hs.alloc o, (HC'.out.later hg5).later (below_alloc _ _)⟩
          have e1 : ((k + 1 : Nat) : Int) + 1 = (k : Int) + 2 := by omega
          rw [e1]
          clear hs hg5 hsl HP' HC' HL' d0 e1
          go_wp2_with fail
          go_roundw
          case rel => exact ⟨k + 1, _, _, b', rfl, rfl, by go_num, HI5.out _⟩
          case measure => simp [intOf]; omega
        · have HL' : Hid (La.LB b' (La.sE (1 + n) (f + 3)) (49 + 72 * k + 72)) := by
            rw [if_pos (by omega)] at hL'; exact hL'
          clear hL'
          go_wp2_with fail
          refine (kslot_any b' B 0 w _ HL'.out.ok HP'.out).mono ?_
          rintro e w5 ⟨rfl, hs, hg5⟩
          have hsl : slotA b'.st.slots 0 = (Px.sl0, 4) := by rw [HL'.out.st]; exact slotA_no (Or.inr (by show ((0 : Nat) : Int) ≤ 0; omega))
          rw [hsl]
          have HI5 : Hid (∀ o, LatI w (w5.alloc o) B dq (1 + n) (k + 1) (f + 3) (f + 3 + dd) b') := fun o =>
            ⟨by omega, fun q => by omega, fun _ => HL'.out.mono (by omega), by omega, by omega, by omega, hs.alloc o, (HC'.out.later hg5).later (below_alloc _ _)⟩
          clear hs hg5 hsl HP' HC' HL' d0
          go_wp2_with fail
          go_roundw
          case rel => exact ⟨k + 1, _, _, b', rfl, rfl, by go_num, HI5.out _⟩
          case measure => simp [intOf]; omega

      · have hmod : k % K.length < K.length := Nat.mod_lt _ (by omega)
        obtain ⟨kb, koff, kcap', hv, kc⟩ := nums_at (HK.out.later HP.out.bl) hmod
        cases hv
        have hkb := HKb.out _ (List.getElem_mem hmod)
        generalize K[k % K.length] = cc at *
        have y0 : (k : Int).tmod (K.length : Int) = ((k % K.length : Nat) : Int) := by rw [Int.tmod_eq_emod_of_nonneg (by omega)]; omega
        have y1 : (0 : Int) ≤ ((k % K.length : Nat) : Int) := by omega
        have y2 : ((k % K.length : Nat) : Int) < (K.length : Int) := by omega
        have y3 : ((k % K.length : Nat) : Int).toNat = k % K.length := by omega
        have y4 : ¬ (K.length : Int) = 0 := by omega
        generalize k % K.length = kk at *
        go_wp2_with fail
        refine (pick_any cc 21 _ hkb.1 hkb.2 (by omega) (by omega)).mono ?_
        rintro e w' ⟨⟨wt, a1, a2, rfl⟩, hw'⟩
        have hw2 := hw'.symm
        subst hw2
        clear kc hkb y0 y1 y2 y3 y4 hmod
        go_wp2_with fail
        have hT0 := ktry_any b B (1 + n) k (49 + 72 * k) c f wt w wr ⟨by omega, by omega⟩ (by omega) i4 i5 (by omega) (by omega) (by omega) HT.out HL.out HP.out
        refine hT0.mono ?_
        clear hT0
        rintro e w4 ⟨rfl, ⟨b', hL', hP'⟩, hg'⟩
        have HC' : Hid (Cl w4 dq 3 dlC) := HC.out.grow hg' (fun q => by
          obtain ⟨d1, f1, h1⟩ := HC.out.ty
          obtain ⟨d2, f2, h2⟩ := HP.out.typ
          rw [q, h2] at h1; cases h1)
        have HP' : Hid (KB w w4 B b') := hP'
        have d0 := dl_at HC'.out hk5
        have dlt := HC'.out.ty.lt
        have db := Px.delay_bd ((k : Int) + 1)
        have HD : Hid (Bx.delay ((k : Int) + 1) = Bx.delay ((k : Int) + 1)) := rfl
        clear hP' hg' HC HP HL
        generalize Bx.delay ((k : Int) + 1) = dd at *
        have y1 : (0 : Int) ≤ (k : Int) := by omega
        have y2 : (k : Int) < 5 := by omega
        by_cases hlast : (k : Int) + 1 < 1 + (n : Int)
        · have HL' : Hid (La.LB b' (La.sW (1 + n) (k + 1) (f + wt + 3) (f + wt + 3 + dd)) (49 + 72 * k + 72)) := by
            rw [if_neg (by omega)] at hL'; exact hL'
          clear hL'
          go_wp2_with fail
          refine (kslot_any b' B 0 w _ HL'.out.ok HP'.out).mono ?_
          rintro e w5 ⟨rfl, hs, hg5⟩
          have hsl : slotA b'.st.slots 0 = (⟨1, 1, 15778080, ((k + 1 : Nat) : Int) + 1, f + wt + 3 + dd, 0, 0, ByteArray.empty⟩, 0) := by rw [HL'.out.st]; exact slot_one _
          rw [hsl]
          have HI5 : Hid (∀ o, LatI w (w5.alloc o) B dq (1 + n) (k + 1) (f + wt + 3) (f + wt + 3 + dd) b') := fun o =>
            ⟨by omega, fun _ => HL'.out.mono (by omega), fun q => by omega, by omega, by omega, by omega, hs.alloc o, (HC'.out.later hg5).later (below_alloc _ _)⟩
          have e1 : ((k + 1 : Nat) : Int) + 1 = (k : Int) + 2 := by omega
          rw [e1]
          clear hs hg5 hsl HP' HC' HL' d0 e1
          go_wp2_with fail
          go_roundw
          case rel => exact ⟨k + 1, _, _, b', rfl, rfl, by go_num, HI5.out _⟩
          case measure => simp [intOf]; omega
        · have HL' : Hid (La.LB b' (La.sE (1 + n) (f + wt + 3)) (49 + 72 * k + 72)) := by
            rw [if_pos (by omega)] at hL'; exact hL'
          clear hL'
          go_wp2_with fail
          refine (kslot_any b' B 0 w _ HL'.out.ok HP'.out).mono ?_
          rintro e w5 ⟨rfl, hs, hg5⟩
          have hsl : slotA b'.st.slots 0 = (Px.sl0, 4) := by rw [HL'.out.st]; exact slotA_no (Or.inr (by show ((0 : Nat) : Int) ≤ 0; omega))
          rw [hsl]
          have HI5 : Hid (∀ o, LatI w (w5.alloc o) B dq (1 + n) (k + 1) (f + wt + 3) (f + wt + 3 + dd) b') := fun o =>
            ⟨by omega, fun q => by omega, fun _ => HL'.out.mono (by omega), by omega, by omega, by omega, hs.alloc o, (HC'.out.later hg5).later (below_alloc _ _)⟩
          clear hs hg5 hsl HP' HC' HL' d0
          go_wp2_with fail
          go_roundw
          case rel => exact ⟨k + 1, _, _, b', rfl, rfl, by go_num, HI5.out _⟩
          case measure => simp [intOf]; omega

    · have HL : Hid (La.LB b (La.sE (1 + n) c) (49 + 72 * k)) := i3 (by omega)
      have HP : Hid (KB w wr B b) := i7
      clear i2 i3 i7 i8
      go_wp2_with fail
      refine (klook_any b B w _ HP.out).mono ?_
      rintro e w5 ⟨rfl, hs, _⟩
      have hv : pviewV b.st = .agg #[.int .i64 c, .int .i64 2, .int .i64 0, .int .i64 1, .string (La.ltab (1 + n))] := by rw [HL.out.st]; rfl
      rw [hv]
      have HP5 : Hid (∀ o, KB w (w5.alloc o) B b) := fun o => hs.alloc o
      clear hs hv HP
      go_wp2_with fail
      refine (kend_any b B 0 w _ HL.out.ok (HP5.out _)).mono ?_
      rintro e w6 ⟨rfl, hs, hg6⟩
      have he : endA b.st.ends 0 = (⟨1, { data := #[97] }⟩, 0) := by rw [HL.out.st, ← hA_eq]; exact end_one _
      rw [he]
      have HP6 : Hid (∀ o, Below w.heap.size w (w6.alloc o)) := fun o => (hs.alloc o).bl
      have h2 : w6.cell? ⟨w5.heap.size, 2, none⟩ = some (.int .i64 0) := by
        have h0 : (w5.alloc (.cells #[.int .i64 c, .int .i64 2, .int .i64 0, .int .i64 1, .string (La.ltab (1 + n))] 59)).cell? ⟨w5.heap.size, 2, none⟩ = some (.int .i64 0) := by simp [go_sem]
        exact cell_later hg6 h0
      have h3 : w5.heap.size < w6.heap.size := by have := hg6.size; simp at this; omega
      clear hs hg6 he HP5
      go_wp2_with fail
      go_ret
      exact ⟨rfl, HP6.out _⟩
end Go.Proofs.YtdajolpoiffimaaDoor
