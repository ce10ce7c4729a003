/-
  PrgWClk, PrgCTalk, PrgFeed, PrgBStart, PrgTick, PrgX, Base, Duo, DuoAsk, KCallA, KeepM, KeepM2.
-/
import Derived.Deep.RegionWith
import Derived.Deep.RegionHeld3
import Derived.Deep.DrawnRows
import Derived.Test.YtdajolpoiffimaaGreatDoorRows
import Derived.ProofKit
import Derived.OpenShut
import Derived.Deep.DeepHandedRow
import Derived.Lib.LaidTab
import Derived.Test.YtdajolpoiffimaaGreatDoorO2
import Derived.Test.YtdajolpoiffimaaGreatDoorO5
import Derived.Test.YtdajolpoiffimaaGreatDoorO6
import Derived.Test.YtdajolpoiffimaaGreatDoorO8
import Derived.Test.YtdajolpoiffimaaGreatDoorO10

namespace Go.Proofs.YtdajolpoiffimaaGreatDoor
open Go.RowKit

theorem parr_len {s : Px.St} (p : Nat × Int) (h : s.slots.length ≤ 8) (he : s.ends.length ≤ 6) : (Px.arr s p).slots.length ≤ 8 ∧ (Px.arr s p).ends.length ≤ 6 ∧ (Px.arr s p).next = s.next + 1 := by
 unfold Px.arr; split
 ·exact ⟨h, by show (Bx.push _ _).length ≤ 6; simp [Bx.push]; omega, rfl⟩
 ·exact ⟨by simp; omega, he, rfl⟩
theorem parrs_len (l : List (Nat × Int)) (s : Px.St) (h : s.slots.length ≤ 8) (he : s.ends.length ≤ 6) : (l.foldl Px.arr s).slots.length ≤ 8 ∧ (l.foldl Px.arr s).ends.length ≤ 6 ∧ (l.foldl Px.arr s).next = s.next + l.length := by
 induction l generalizing s with
 | nil => exact ⟨h, he, by simp⟩
 | cons p r ih =>
   obtain ⟨h1, h2, h3⟩ := parr_len p h he
   obtain ⟨i1, i2, i3⟩ := ih (Px.arr s p) h1 h2
   exact ⟨i1, i2, by rw [List.foldl_cons, i3, h3]; simp; omega⟩
theorem parrs_take (l : List (Nat × Int)) (s : Px.St) (k : Nat) (h : k < l.length) : (l.take (k + 1)).foldl Px.arr s = Px.arr ((l.take k).foldl Px.arr s) l[k] := by
 rw [List.take_succ_eq_append_getElem h, List.foldl_append]; rfl
theorem PW.put {W : World} {q : Nat} {s : Px.St} {sl en : Value} (h : PW W q s sl en) (t : Px.St) (sl' en' : Value) :
 PW (((((W.setCell ⟨q, 0, none⟩ (.string t.tab)).setCell ⟨q, 1, none⟩ (.int .i64 t.clock)).setCell ⟨q, 2, none⟩ (.int .i64 t.next)).setCell ⟨q, 3, none⟩ sl').setCell ⟨q, 4, none⟩ en') q t sl' en' := by
 obtain ⟨⟨c0, c1, c2, c3, c4⟩, f, ty⟩ := h
 refine ⟨⟨?_, ?_, ?_, ?_, ?_⟩, fun j hj => ?_, ((((ty.setCell _ _ _).setCell _ _ _).setCell _ _ _).setCell _ _ _).setCell _ _ _⟩
 case refine_6 => simp [go_sem, f j hj]
 all_goals simp [go_sem, c0, c1, c2, c3, c4]
/-- What holds while the arrivals are put in. -/
structure CkIn (w wr : World) (q : Nat) (s t : Px.St) (sl en slt ent v : Value) (n : Nat) (cells : List Value) : Prop where
 res : PRes w wr s sl en
 pw : PW wr q t slt ent
 at' : PAt wr t slt ent
 row : TRow wr 182 v n cells
theorem CkIn.later {w wr w' : World} {q : Nat} {s t : Px.St} {sl en slt ent v : Value} {n : Nat} {cells : List Value} (h : CkIn w wr q s t sl en slt ent v n cells) (hb : Below wr.heap.size wr w') : CkIn w w' q s t sl en slt ent v n cells :=
 ⟨h.res.later hb, h.pw.later hb, h.at'.later hb, h.row.later hb⟩
theorem CkIn.put {w wr : World} {q : Nat} {s t u : Px.St} {sl en slt ent slu enu v : Value} {n : Nat} {cells : List Value} (h : CkIn w wr q s t sl en slt ent v n cells) (hq : w.heap.size + 1 < q) (hu : PAt wr u slu enu) :
 CkIn w (((((wr.setCell ⟨q, 0, none⟩ (.string u.tab)).setCell ⟨q, 1, none⟩ (.int .i64 u.clock)).setCell ⟨q, 2, none⟩ (.int .i64 u.next)).setCell ⟨q, 3, none⟩ slu).setCell ⟨q, 4, none⟩ enu) q s u sl en slu enu v n cells := by
 refine ⟨((((h.res.set hq _ _).set hq _ _).set hq _ _).set hq _ _).set hq _ _, h.pw.put u slu enu, hu.store h.pw.ty _ _ _ _ _, ?_⟩
 have st : ∀ (w : World) (j : Nat) (x : Value), (Typed w q 65 ∧ TRow w 182 v n cells) → (Typed (w.setCell ⟨q, j, none⟩ x) q 65 ∧ TRow (w.setCell ⟨q, j, none⟩ x) 182 v n cells) := fun w j x h => ⟨h.1.setCell _ _ _, h.2.set h.1 (by decide) _ _⟩
 exact (st _ _ _ (st _ _ _ (st _ _ _ (st _ _ _ (st _ _ _ ⟨h.pw.ty, h.row⟩))))).2
theorem arC_at {w : World} {L : List (Nat × Int)} {b off : Nat} (c : ∀ j (h : j < (L.flatMap arC).length), w.cell? ⟨b, off + j, none⟩ = some (L.flatMap arC)[j]) (i : Nat) (hi : i < L.length) :
 w.cell? ⟨b, off + i * 2, none⟩ = some (.int .i64 ((L[i].1 : Int) + 1)) ∧ w.cell? ⟨b, off + i * 2 + 1, none⟩ = some (.int .i64 L[i].2) :=
 ⟨RowAt.cell arC_len c i hi 0 (by decide), RowAt.cell arC_len c i hi 1 (by decide)⟩

set_option maxRecDepth 10000 in
set_option maxHeartbeats 8000000 in
theorem withClock_any (s : Px.St) (m : Int) (sl en : Value) (w : World) (hO : Px.Ok s) (hT : TabLH w) (hM : Tab w) (hS : PAt w s sl en) :
 Calls Tryz.prog 71 #[pstV s sl en, .int .i64 m] w fun e w' => ChgR (Px.clockP s m) w' e ∧ Below w.heap.size w w' := by
 obtain ⟨ad, cap, rfl, hcap⟩ := hS.sl.form
 obtain ⟨ad2, cap2, rfl, hcap2⟩ := hS.en.form
 have HO : Hid (Px.Ok s) := hO
 have hc1 : -1 ≤ s.clock := hO.st.c1
 have hc2 : s.clock ≤ 4223371679 := hO.st.c2
 have hn1 : 1 ≤ s.next := hO.st.n1
 have hn2 : s.next ≤ 10000 := hO.st.n2
 have HCE := Px.clock_err' s m
 have HCE' : Hid _ := HCE
 have HS : Hid (PAt w s (.slice ad s.slots.length cap) (.slice ad2 s.ends.length cap2)) := hS
 have hP := PRes.new w s (.slice ad s.slots.length cap) (.slice ad2 s.ends.length cap2)
 clear hS hO HCE
 go_enter Tryz.func71, Tryz.ntmps71
 go_upto_region 1 with fail
 generalize (w.alloc (pstO s (.slice ad s.slots.length cap) (.slice ad2 s.ends.length cap2))).alloc pzO = W at *
 have HSW : Hid (PAt W s (.slice ad s.slots.length cap) (.slice ad2 s.ends.length cap2)) := HS.out.later hP.bel
 have HT : Hid (TabLH W) := hT.later hP.bel
 have HMM : Hid (Tab W) := hM.later hP.bel
 have HP : Hid (PRes w W s (.slice ad s.slots.length cap) (.slice ad2 s.ends.length cap2)) := hP
 obtain ⟨i0, i1, i2, i3, i4⟩ := hP.st
 clear hP hT hM
 by_cases h4 : m < 0 ∨ 4223371679 < m
 ·have HM : Hid (Px.clockP s m = (Px.st0, 4)) := HCE'.out.1 h4
  have HPW := HP.out
  clear HP HSW HT HMM
  rcases h4 with h4 | h4
  ·obtain ⟨⟨⟨u0, r0⟩, f0⟩, ⟨⟨u1, r1⟩, f1⟩, ⟨⟨u2, r2⟩, f2⟩, ⟨⟨u3, r3⟩, f3⟩, ⟨⟨u4, r4⟩, f4⟩⟩ := HPW.five
   have HB2 : Hid (Below w.heap.size w W) := HPW.bel
   clear HPW
   go_wp2_with fail
   refine bodyPost_ret (v := .tuple #[.agg #[.string { data := #[] }, .int .i64 0, .int .i64 0, .slice none 0 0, .slice none 0 0], .int .i64 4]) (by simp [results, Tryz.results71, go_sem, r0, r1, r2, r3, r4]) rfl ⟨ChgR.err HM.out, below_set5' HB2.out (by omega) _ _ _ _ _⟩
  ·by_cases h5 : m < 0
   ·omega
   ·obtain ⟨⟨⟨u0, r0⟩, f0⟩, ⟨⟨u1, r1⟩, f1⟩, ⟨⟨u2, r2⟩, f2⟩, ⟨⟨u3, r3⟩, f3⟩, ⟨⟨u4, r4⟩, f4⟩⟩ := HPW.five
    have HB2 : Hid (Below w.heap.size w W) := HPW.bel
    clear HPW
    go_wp2_with fail
    refine bodyPost_ret (v := .tuple #[.agg #[.string { data := #[] }, .int .i64 0, .int .i64 0, .slice none 0 0, .slice none 0 0], .int .i64 4]) (by simp [results, Tryz.results71, go_sem, r0, r1, r2, r3, r4]) rfl ⟨ChgR.err HM.out, below_set5' HB2.out (by omega) _ _ _ _ _⟩
 have m1 : 0 ≤ m := by omega
 have m2 : m ≤ 4223371679 := by omega
 go_wp2_with fail
 refine (pahead_any s m _ _ _ hc1 hc2 m1 m2 HSW.out).mono ?_
 rintro e w1 ⟨rfl, hb1⟩
 clear i0 i1 i2 i3 i4
 have HPw1 := HP.out.later hb1
 have HS1 : Hid (PAt w1 s (.slice ad s.slots.length cap) (.slice ad2 s.ends.length cap2)) := HSW.out.later hb1
 have HT1 : Hid (TabLH w1) := HT.out.later hb1
 have HM1 : Hid (Tab w1) := HMM.out.later hb1
 clear HP HSW HT HMM hb1
 cases hah : Px.aheadP s m
 ·have HM : Hid (Px.clockP s m = (Px.st0, 6)) := HCE'.out.2.1 h4 hah
  clear hah h4
  obtain ⟨⟨⟨u0, r0⟩, f0⟩, ⟨⟨u1, r1⟩, f1⟩, ⟨⟨u2, r2⟩, f2⟩, ⟨⟨u3, r3⟩, f3⟩, ⟨⟨u4, r4⟩, f4⟩⟩ := HPw1.five
  have HB2 : Hid (Below w.heap.size w w1) := HPw1.bel
  clear HPw1
  go_wp2_with fail
  refine bodyPost_ret (v := .tuple #[.agg #[.string { data := #[] }, .int .i64 0, .int .i64 0, .slice none 0 0, .slice none 0 0], .int .i64 6]) (by simp [results, Tryz.results71, go_sem, r0, r1, r2, r3, r4]) rfl ⟨ChgR.err HM.out, below_set5' HB2.out (by omega) _ _ _ _ _⟩
 have hao : s.clock < m ∧ (s.clock = -1 ∨ m - s.clock ≤ 1500) := by unfold Px.aheadP at hah; exact of_decide_eq_true hah
 have hnw : 0 ≤ Px.newA s m ∧ Px.newA s m ≤ m ∧ m - Px.newA s m ≤ 1500 := by unfold Px.newA; split <;> omega
 have HCE2 : Hid (Px.clockP s m = if 10000 < s.next + ((Px.comesP s m).length : Int) then (Px.st0, 7) else ({ (Px.comesP s m).foldl Px.arr s with clock := m }, 0)) := HCE'.out.2.2 h4 hah
 clear hah h4 hao HCE'
 obtain ⟨i0, i1, i2, i3, i4⟩ := HPw1.st
 have HP1 : Hid (PRes w w1 s (.slice ad s.slots.length cap) (.slice ad2 s.ends.length cap2)) := HPw1
 clear HPw1
 go_wp2_with fail
 refine (plines_any s _ _ _ HO.out.st.tab HT1.out HS1.out).mono ?_
 rintro e w2 ⟨⟨g, c, rfl, hgc, hL⟩, hb2⟩
 clear i0 i1 i2 i3 i4
 have HPw2 := HP1.out.later hb2
 have HS2 : Hid (PAt w2 s (.slice ad s.slots.length cap) (.slice ad2 s.ends.length cap2)) := HS1.out.later hb2
 have HM2 : Hid (Tab w2) := HM1.out.later hb2
 have HL2 : Hid (PLinesAt w2 g s.tab) := hL
 have HP2 : Hid (PRes w w2 s (.slice ad s.slots.length cap) (.slice ad2 s.ends.length cap2)) := HPw2
 obtain ⟨i0, i1, i2, i3, i4⟩ := HPw2.st
 clear HPw2 HP1 HS1 HT1 HM1 hb2 hL
 go_wp2_with fail
 refine (firstNew_any s m _ _ _ hc1 hc2 HS2.out).mono ?_
 rintro e w3 ⟨rfl, hb3⟩
 clear i0 i1 i2 i3 i4
 have HP3 : Hid (PRes w w3 s (.slice ad s.slots.length cap) (.slice ad2 s.ends.length cap2)) := HP2.out.later hb3
 have HS3 : Hid (PAt w3 s (.slice ad s.slots.length cap) (.slice ad2 s.ends.length cap2)) := HS2.out.later hb3
 have HM3 : Hid (Tab w3) := HM2.out.later hb3
 have HL3 : Hid (PLinesAt w3 g s.tab) := HL2.out.later hb3
 clear HP2 HS2 HM2 HL2 hb3
 go_wp2_with fail
 refine (latestFirst_any s.tab g c (Px.newA s m) m w3 HO.out.st.tab hnw.1 hnw.2.1 m2 hnw.2.2 HM3.out HL3.out).mono ?_
 rintro e w4 ⟨⟨v, rfl, hown⟩, hb4⟩
 have HPw4 := HP3.out.later hb4
 have HSw4 := HS3.out.later hb4
 have hrow := TRow.of_own hown
 obtain ⟨adv, capv, hvv, _⟩ := hrow.form
 subst hvv
 have HR4 : Hid (TRow w4 182 (.slice adv (Bx.comes (Bx.lns s.tab) (Px.newA s m) m).length capv) (Bx.comes (Bx.lns s.tab) (Px.newA s m) m).length ((Bx.comes (Bx.lns s.tab) (Px.newA s m) m).reverse.flatMap arC)) := hrow
 have HCm : Hid (Px.comesP s m = Bx.comes (Bx.lns s.tab) (Px.newA s m) m) := rfl
 rw [HCm.out] at HCE2
 have hcl : (Bx.comes (Bx.lns s.tab) (Px.newA s m) m).length ≤ 100000 := by
  have h1 := Bx.comes_len (Bx.lns s.tab) (Px.newA s m) m
  have h2 := lns_len s.tab
  have h3 := tn_le HO.out.st.tab
  have h5 : (m + 1 - Px.newA s m).toNat ≤ 1501 := by omega
  have h6 : (m + 1 - Px.newA s m).toNat * (Bx.lns s.tab).length ≤ 1501 * 4 := Nat.mul_le_mul h5 (by rw [h2]; exact h3)
  omega
 clear hown hb4 hrow HP3 HS3 HM3 HL3 HCm
 generalize Bx.comes (Bx.lns s.tab) (Px.newA s m) m = C at *
 obtain ⟨i0, i1, i2, i3, i4⟩ := HPw4.st
 by_cases h7 : 10000 < s.next + (C.length : Int)
 ·have HM : Hid (Px.clockP s m = (Px.st0, 7)) := by unfold Hid; rw [HCE2.out, if_pos h7]
  clear HCE2 HR4
  obtain ⟨⟨⟨u0, r0⟩, f0⟩, ⟨⟨u1, r1⟩, f1⟩, ⟨⟨u2, r2⟩, f2⟩, ⟨⟨u3, r3⟩, f3⟩, ⟨⟨u4, r4⟩, f4⟩⟩ := HPw4.five
  have HB2 : Hid (Below w.heap.size w w4) := HPw4.bel
  clear HPw4
  go_wp2_with fail
  refine bodyPost_ret (v := .tuple #[.agg #[.string { data := #[] }, .int .i64 0, .int .i64 0, .slice none 0 0, .slice none 0 0], .int .i64 7]) (by simp [results, Tryz.results71, go_sem, r0, r1, r2, r3, r4]) rfl ⟨ChgR.err HM.out, below_set5' HB2.out (by omega) _ _ _ _ _⟩
 have HM : Hid (Px.clockP s m = ({ C.foldl Px.arr s with clock := m }, 0)) := by unfold Hid; rw [HCE2.out, if_neg h7]
 clear HCE2
 have HK5 : CkIn w (w4.alloc (pstO s (.slice ad s.slots.length cap) (.slice ad2 s.ends.length cap2))) w4.heap.size s s (.slice ad s.slots.length cap) (.slice ad2 s.ends.length cap2) (.slice ad s.slots.length cap) (.slice ad2 s.ends.length cap2) (.slice adv C.length capv) C.length (C.reverse.flatMap arC) :=
  ⟨HPw4.later (below_alloc _ _), PW.new w4 s (.slice ad s.slots.length cap) (.slice ad2 s.ends.length cap2), HSw4.later (below_alloc _ _), HR4.out.later (below_alloc _ _)⟩
 have hq4 : w.heap.size + 1 < w4.heap.size := HPw4.lt
 clear HPw4 HSw4 HR4
 go_upto_region 11 with fail
 clear i0 i1 i2 i3 i4
 generalize w4.alloc (pstO s (.slice ad s.slots.length cap) (.slice ad2 s.ends.length cap2)) = W5 at *
 generalize w4.heap.size = q at *
 have HK : Hid (CkIn w W5 q s s (.slice ad s.slots.length cap) (.slice ad2 s.ends.length cap2) (.slice ad s.slots.length cap) (.slice ad2 s.ends.length cap2) (.slice adv C.length capv) C.length (C.reverse.flatMap arC)) := HK5
 have hsl8 : s.slots.length ≤ 8 := HO.out.len
 have hen6 : s.ends.length ≤ 6 := HO.out.st.en
 clear HK5
 go_wp2_with fail
 go_loopw [10] (fun x wr => ∃ (j : Nat) (slt ent : Value), j ≤ C.length ∧ x = .int .i64 ((C.length : Int) - 1 - (j : Int)) ∧ CkIn w wr q s ((C.take j).foldl Px.arr s) (.slice ad s.slots.length cap) (.slice ad2 s.ends.length cap2) slt ent (.slice adv C.length capv) C.length (C.reverse.flatMap arC)) (fun x _ => (intOf x + 1).toNat)
 case atStart => exact ⟨0, _, _, Nat.zero_le _, by go_num, HK.out⟩
 case round =>
  clear HK
  obtain ⟨j, slt, ent, hj, rfl, HI⟩ := hrel
  obtain ⟨hl1, hl2, hl3⟩ := parrs_len (C.take j) s hsl8 hen6
  have hl4 : (C.take j).length = j := by simp; omega
  rw [hl4] at hl3
  by_cases hlt : j < C.length
  ·have HTk : Hid ((C.take (j + 1)).foldl Px.arr s = Px.arr ((C.take j).foldl Px.arr s) C[j]) := parrs_take C s j hlt
   obtain ⟨k, hk⟩ : ∃ k : Nat, (C.length : Int) - 1 - (j : Int) = (k : Int) := ⟨C.length - 1 - j, by omega⟩
   have hkl : k < C.reverse.length := by rw [List.length_reverse]; omega
   have hce : C.reverse[k] = C[j] := by
    rw [List.getElem_reverse]; congr 1; omega
   obtain ⟨b, off, cap', hv, _, hcc⟩ := HI.row.1.some' (by omega)
   cases hv
   obtain ⟨d0, d1⟩ := arC_at hcc k hkl
   rw [hce] at d0 d1
   obtain ⟨adt, capt, hvt, _⟩ := HI.at'.sl.form
   obtain ⟨ade, cape, hve, _⟩ := HI.at'.en.form
   subst hvt hve
   have hbl : b < wr.heap.size := World.block_lt_of_cell? _ _ d0
   have hql : q < wr.heap.size := HI.pw.ty.lt
   obtain ⟨c0, c1, c2, c3, c4⟩ := HI.pw.st
   have f0 := HI.pw.f 0 (by decide); have f1 := HI.pw.f 1 (by decide); have f2 := HI.pw.f 2 (by decide); have f3 := HI.pw.f 3 (by decide); have f4 := HI.pw.f 4 (by decide)
   have HI' : Hid (CkIn w wr q s ((C.take j).foldl Px.arr s) (.slice ad s.slots.length cap) (.slice ad2 s.ends.length cap2) _ _ _ C.length (C.reverse.flatMap arC)) := HI
   have HKk : Hid ((C.length : Int) - 1 - (j : Int) = (k : Int)) := hk
   have bk0 : (0 : Int) ≤ (k : Int) := by omega
   have bk1 : (k : Int) < (C.length : Int) := by omega
   have HA : Hid (PAt wr ((C.take j).foldl Px.arr s) _ _) := HI.at'
   rw [hk]
   generalize (C.take j).foldl Px.arr s = t at *
   generalize C[j] = p at *
   have hl5 : t.slots.length ≤ 10000 := by omega
   have hl6 : t.ends.length ≤ 10000 := by omega
   have hl7 : 0 ≤ t.next := by omega
   have hl8 : t.next ≤ 100000 := by omega
   have HL3 : Hid (t.next = s.next + (j : Int)) := hl3
   clear hcc HI hk hl4 hce hkl hl3
   go_wp2_with fail
   go_region_with ((go_at_call 119; refine (withArrival_any t p _ _ _ hl5 hl6 hl7 hl8 ?hs).mono ?_; (case hs => exact HA.out.later (Below.refl _ _).drew); rintro e w6 ⟨⟨slu, enu, rfl, hst6⟩, hb6⟩; have hbC : Below wr.heap.size wr w6 := (Below.refl _ _).drew.trans hb6; obtain ⟨adu, capu, rfl, hcu⟩ := hst6.sl.form; obtain ⟨adv2, capv2, rfl, hcv⟩ := hst6.en.form; obtain ⟨hcC, hfC⟩ := bcell hbC; clear hb6))
   all_goals
    have HI6 := (HI'.out.later hbC).put hq4 hst6
    clear hbC hst6
    go_wp2_with fail
    go_roundw
    (case rel => exact ⟨j + 1, _, _, by omega, (by have h := HKk.out; congr 1; omega), by rw [HTk.out]; exact HI6⟩)
    (case measure => first | (simp [intOf]; done) | (simp [intOf]; omega))
  ·obtain rfl : j = C.length := by omega
   have HTk : Hid (C.take C.length = C) := List.take_length
   rw [HTk.out] at HI
   have hx : (C.length : Int) - 1 - (C.length : Int) = -1 := by omega
   rw [hx]
   obtain ⟨adt, capt, hvt, _⟩ := HI.at'.sl.form
   obtain ⟨ade, cape, hve, _⟩ := HI.at'.en.form
   subst hvt hve
   clear hl1 hl2 hl3 hl4 hj HTk
   have hA := HI.pw
   have a1 := hA.st.c1
   have g1 := hA.f 1 (by decide)
   have hql := hA.ty.lt
   generalize C.foldl Px.arr s = t at *
   have HP7 := HI.res.set hq4 1 (.int .i64 m)
   have HA7 := hA.clock m
   have HS7 := HI.at'.set hA.ty (by decide) (by decide) 1 (.int .i64 m)
   clear hA HI
   go_upto_region 16 with fail
   clear a1 g1
   generalize wr.setCell ⟨q, 1, none⟩ (.int .i64 m) = W7 at *
   have HX : Hid (PEnd w W7 q { t with clock := m } (.slice adt t.slots.length capt) (.slice ade t.ends.length cape)) := ⟨HA7, ⟨HS7.sl, HS7.en⟩, HP7.z, HP7.ty, HP7.bel⟩
   obtain ⟨⟨⟨u0, r0⟩, f0⟩, ⟨⟨u1, r1⟩, f1⟩, ⟨⟨u2, r2⟩, f2⟩, ⟨⟨u3, r3⟩, f3⟩, ⟨⟨u4, r4⟩, f4⟩⟩ := HP7.five
   obtain ⟨c0, c1, c2, c3, c4⟩ := HA7.st
   clear HP7 HA7 HS7
   go_wp2_with fail
   refine bodyPost_ret (v := .tuple #[pstV { t with clock := m } (.slice adt t.slots.length capt) (.slice ade t.ends.length cape), .int .i64 0]) (by simp [results, Tryz.results71, go_sem, r0, r1, r2, r3, r4]) rfl ⟨ChgR.ok HM.out (HX.out.fin _ _ _ _ _).1, (HX.out.fin _ _ _ _ _).2⟩
end Go.Proofs.YtdajolpoiffimaaGreatDoor

namespace Go.Proofs.YtdajolpoiffimaaGreatDoor
open Go.RowKit

end Go.Proofs.YtdajolpoiffimaaGreatDoor

namespace Go.Proofs.YtdajolpoiffimaaGreatDoor
open Go.RowKit

end Go.Proofs.YtdajolpoiffimaaGreatDoor

namespace Go.Proofs.YtdajolpoiffimaaGreatDoor
open Go.RowKit

end Go.Proofs.YtdajolpoiffimaaGreatDoor

namespace Go.Proofs.YtdajolpoiffimaaGreatDoor
open Go.RowKit

end Go.Proofs.YtdajolpoiffimaaGreatDoor

namespace Go.Proofs.YtdajolpoiffimaaGreatDoor
open Go.RowKit

end Go.Proofs.YtdajolpoiffimaaGreatDoor

namespace Go.Proofs.YtdajolpoiffimaaGreatDoor
open Go.ChangeShapes Go.WideShapes Go.ChangeAt Go.RowKit

theorem own : ownKnob Tryz.prog.godebug = none := by kernel_rfl
theorem gTab : Tryz.prog.globalNamed "bellman/calendar.monthLengths" = some 2 := by kernel_rfl
theorem gTabType : (Tryz.prog.globals[2]?).map (·.type) = some 277 := by kernel_rfl
theorem cellsTab : Tryz.prog.cellsOf 277 = 12 := by kernel_rfl
theorem cellsInt : Tryz.prog.cellsOf 3 = 1 := by kernel_rfl
theorem tab_of {W : World} (h : Lib.TabIs Tryz.prog W "bellman/calendar.monthLengths" .i64 [31, 28, 31, 30, 31, 30, 31, 31, 30, 31, 30, 31]) : Tab W := by
 intro m m1 m2
 have : m = 1 ∨ m = 2 ∨ m = 3 ∨ m = 4 ∨ m = 5 ∨ m = 6 ∨ m = 7 ∨ m = 8 ∨ m = 9 ∨ m = 10 ∨ m = 11 ∨ m = 12 := by omega
 rcases this with rfl | rfl | rfl | rfl | rfl | rfl | rfl | rfl | rfl | rfl | rfl | rfl
 ·exact h.cell gTab 0 (by decide)
 ·exact h.cell gTab 1 (by decide)
 ·exact h.cell gTab 2 (by decide)
 ·exact h.cell gTab 3 (by decide)
 ·exact h.cell gTab 4 (by decide)
 ·exact h.cell gTab 5 (by decide)
 ·exact h.cell gTab 6 (by decide)
 ·exact h.cell gTab 7 (by decide)
 ·exact h.cell gTab 8 (by decide)
 ·exact h.cell gTab 9 (by decide)
 ·exact h.cell gTab 10 (by decide)
 ·exact h.cell gTab 11 (by decide)

theorem six {α : Type} {cs : Array α} (h : cs.size = 6) : ∃ a b c d e f, cs = #[a, b, c, d, e, f] := by
 obtain ⟨l⟩ := cs
 match l, h with
 | [a, b, c, d, e, f], _ => exact ⟨a, b, c, d, e, f, rfl⟩
end Go.Proofs.YtdajolpoiffimaaGreatDoor

namespace Go.Proofs.YtdajolpoiffimaaGreatDoor
open Go.RowKit

/-- Nothing that was there is changed, but for some blocks. -/
structure Kept (S : Nat → Prop) (w w' : World) : Prop where
 os : w'.os = w.os
 tape : w'.tape = w.tape
 output : w'.output = w.output
 size : w.heap.size ≤ w'.heap.size
 block : ∀ k, k < w.heap.size → ¬ S k → w'.heap[k]? = w.heap[k]?
theorem Kept.of_below {w w' : World} (S : Nat → Prop) (h : Below w.heap.size w w') : Kept S w w' := ⟨h.os, h.tape, h.output, h.size, fun k hk _ => h.block k hk⟩
theorem Kept.cell {S : Nat → Prop} {w w' : World} {g j : Nat} {v : Value} (h : Kept S w w') (hn : ¬ S g) (hc : w.cell? ⟨g, j, none⟩ = some v) : w'.cell? ⟨g, j, none⟩ = some v := by
 have hl : g < w.heap.size := World.block_lt_of_cell? _ _ hc
 rw [World.cell?_of_block (a := ⟨g, j, none⟩) (h.block g hl hn)]; exact hc
theorem Kept.typed {S : Nat → Prop} {w w' : World} {g : Nat} {e : TypeId} (h : Kept S w w') (hn : ¬ S g) (ht : Typed w g e) : Typed w' g e := by
 have hl := ht.lt
 obtain ⟨cur, fr, hc⟩ := ht
 exact ⟨cur, fr, (h.block g hl hn).trans hc⟩
theorem Kept.row {S : Nat → Prop} {w w' : World} {e : TypeId} {v : Value} {n : Nat} {cells : List Value} (h : Kept S w w') (hs : ∀ g, S g → ¬ Typed w g e) (hr : TRow w e v n cells) : TRow w' e v n cells := by
 have far : ∀ b off m cap, v = .slice (some ⟨b, off, none⟩) m cap → ¬ S b := fun b off m cap hv q => hs b q (hr.2 b off m cap hv)
 refine ⟨?_, fun b off m cap hv => ?_⟩
 ·rcases hr.1 with a | ⟨b, off, cap, hv, hle, hc⟩
  ·exact Or.inl a
  ·exact Or.inr ⟨b, off, cap, hv, hle, fun j hj => h.cell (far b off n cap hv) (hc j hj)⟩
 ·exact h.typed (far b off m cap hv) (hr.2 b off m cap hv)
theorem Kept.own {S : Nat → Prop} {w w' : World} {base size n : Nat} {e : TypeId} {v : Value} {xs : List Value} (h : Kept S w w') (hs : ∀ g, v.ownBlock = some g → ¬ S g) (ho : w.ownsRow base e size v n xs) : w'.ownsRow base e size v n xs := by
 refine ⟨ho.1, ?_⟩
 rcases ho.2 with h2 | ⟨g, cap, cur, hv, hbase, hg, h3⟩
 ·exact Or.inl h2
 ·refine Or.inr ⟨g, cap, cur, hv, hbase, ?_, h3⟩
  rw [h.block g (heap_lt hg) (hs g (by rw [hv]; rfl))]; exact hg
theorem Kept.pb {S : Nat → Prop} {w w' : World} {B : Nat} {b : Px.Bo} {sl en : Value} (h : Kept S w w') (hB : ¬ S B) (h1 : ∀ g, S g → ¬ Typed w g 154) (h2 : ∀ g, S g → ¬ Typed w g 95) (hb : PB w B b sl en) : PB w' B b sl en :=
 ⟨h.cell hB hb.c0, h.cell hB hb.c1, h.cell hB hb.c2, h.cell hB hb.c3, h.cell hB hb.c4, h.cell hB hb.c5, h.cell hB hb.c6, h.cell hB hb.c7,
  fun j hj => (World.frozen?_of_block (a := ⟨B, j, none⟩) (h.block B hb.ty.lt hB)).trans (hb.f j hj), h.typed hB hb.ty, ⟨h.row h1 hb.rows.sl, h.row h2 hb.rows.en⟩⟩
theorem Kept.bi {S : Nat → Prop} {w w' : World} {D : Nat} {d : Bx.Bo} {sl en tk : Value} (h : Kept S w w') (hD : ¬ S D) (h1 : ∀ g, S g → ¬ Typed w g 167) (h2 : ∀ g, S g → ¬ Typed w g 95) (ht : ∀ g, tk.ownBlock = some g → ¬ S g) (hb : BoxIn w D d sl en tk) : BoxIn w' D d sl en tk :=
 ⟨h.cell hD hb.c0, h.cell hD hb.c1, h.cell hD hb.c2, h.cell hD hb.c3, h.cell hD hb.c4, h.cell hD hb.c5, h.cell hD hb.c6, h.cell hD hb.c7, h.cell hD hb.c8,
  fun j hj => (World.frozen?_of_block (a := ⟨D, j, none⟩) (h.block D hb.ty.lt hD)).trans (hb.f j hj), h.typed hD hb.ty, ⟨h.row h1 hb.rows.sl, h.row h2 hb.rows.en⟩, h.own ht hb.tk⟩
/-- The blocks that a pair may write. -/
def Ft (B D : Nat) (tk : Value) (g : Nat) : Prop := g = B ∨ g = D ∨ tk.ownBlock = some g
/-- A pair in memory. -/
structure PairIn (w : World) (P B D : Nat) (l r : Int) : Prop where
 c0 : w.cell? ⟨P, 0, none⟩ = some (.pointer (some ⟨B, 0, none⟩))
 c1 : w.cell? ⟨P, 1, none⟩ = some (.pointer (some ⟨D, 0, none⟩))
 c2 : w.cell? ⟨P, 2, none⟩ = some (.int .i64 l)
 c3 : w.cell? ⟨P, 3, none⟩ = some (.int .i64 r)
 ty : Typed w P 33
theorem PairIn.kept {S : Nat → Prop} {w w' : World} {P B D : Nat} {l r : Int} (h : Kept S w w') (hP : ¬ S P) (hp : PairIn w P B D l r) : PairIn w' P B D l r :=
 ⟨h.cell hP hp.c0, h.cell hP hp.c1, h.cell hP hp.c2, h.cell hP hp.c3, h.typed hP hp.ty⟩
/-- A pair and its boxes, which say the same. -/
structure Duo (w : World) (base P B D : Nat) (tk : Value) (b : Px.Bo) (d : Bx.Bo) : Prop where
 p : PairIn w P B D b.limit b.room
 x : ∃ sl en, PB w B b sl en
 y : ∃ sl en, BoxIn w D d sl en tk
 rel : Px.Rel b d
 lo : base ≤ P ∧ base ≤ B ∧ base ≤ D
/-- Something else is written: a pair stays as it is. -/
theorem Duo.kept {S : Nat → Prop} {w w' : World} {base P B D : Nat} {tk : Value} {b : Px.Bo} {d : Bx.Bo} (h : Duo w base P B D tk b d) (hk : Kept S w w') (hs : ∀ g, S g → ¬ Ft B D tk g) (h0 : ∀ g, S g → ¬ Typed w g 33)
 (h1 : ∀ g, S g → ¬ Typed w g 154) (h2 : ∀ g, S g → ¬ Typed w g 95) (h3 : ∀ g, S g → ¬ Typed w g 167) : Duo w' base P B D tk b d := by
 obtain ⟨hp, ⟨sl, en, hx⟩, ⟨sl', en', hy⟩, hr, hl⟩ := h
 exact ⟨PairIn.kept hk (fun q => h0 P q hp.ty) hp, ⟨sl, en, hk.pb (fun q => hs B q (Or.inl rfl)) h1 h2 hx⟩, ⟨sl', en', hk.bi (fun q => hs D q (Or.inr (Or.inl rfl))) h3 h2 (fun g e q => hs g q (Or.inr (Or.inr e))) hy⟩, hr, hl⟩
theorem Duo.later {w w' : World} {base P B D : Nat} {tk : Value} {b : Px.Bo} {d : Bx.Bo} (h : Duo w base P B D tk b d) (hb : Below w.heap.size w w') : Duo w' base P B D tk b d :=
 h.kept (S := fun _ => False) (Kept.of_below _ hb) (fun _ q => q.elim) (fun _ q => q.elim) (fun _ q => q.elim) (fun _ q => q.elim) (fun _ q => q.elim)
end Go.Proofs.YtdajolpoiffimaaGreatDoor

namespace Go.Proofs.YtdajolpoiffimaaGreatDoor
open Go.RowKit

theorem yslot_any (b : Px.Bo) (d : Bx.Bo) (D : Nat) (tk : Value) (i : Int) (w : World) (hr : Px.Rel b d) (hD : ∃ sl en, BoxIn w D d sl en tk) :
 Calls Tryz.prog 63 #[.pointer (some ⟨D, 0, none⟩), .int .i64 i] w fun e w' => e = .returned (.tuple #[paslV (slotA b.st.slots i).1, .int .i64 (slotA b.st.slots i).2]) ∧ Below w.heap.size w w' := by
 obtain ⟨sl, en, hD⟩ := hD
 by_cases hi : i < 0 ∨ (b.st.slots.length : Int) ≤ i
 ·refine (rslot_no d D i sl en tk w (by rw [hr.slen]; exact hi) hD).mono fun e w' h => ⟨?_, h.2⟩
  rw [slotA_no hi, h.1]; rfl
 ·obtain ⟨k, rfl⟩ : ∃ k : Nat, i = (k : Int) := ⟨i.toNat, by omega⟩
  have hk : k < b.st.slots.length := by omega
  refine (rslot_yes d D k sl en tk w hr.boOk (by rw [hr.slen]; exact hk) hD).mono fun e w' h => ⟨?_, h.2⟩
  rw [slotA_yes hk, h.1, hr.sl hk]
  have : stepOf d (Px.absS b.st.slots[k]).num = b.st.slots[k].step := hr.step (List.getElem_mem hk)
  rw [this]; rfl
theorem yend_any (b : Px.Bo) (d : Bx.Bo) (D : Nat) (tk : Value) (i : Int) (w : World) (hr : Px.Rel b d) (hD : ∃ sl en, BoxIn w D d sl en tk) :
 Calls Tryz.prog 65 #[.pointer (some ⟨D, 0, none⟩), .int .i64 i] w fun e w' => e = .returned (.tuple #[enV (endA b.st.ends i).1, .int .i64 (endA b.st.ends i).2]) ∧ Below w.heap.size w w' := by
 obtain ⟨sl, en, hD⟩ := hD
 have hE : d.now.ends.length ≤ 6 := by rw [hr.ends]; exact hr.ok.st.en
 by_cases hi : i < 0 ∨ (b.st.ends.length : Int) ≤ i
 ·refine (rend_no d D i sl en tk w hE (by rw [hr.ends]; exact hi) hD).mono fun e w' h => ⟨?_, h.2⟩
  rw [endA_no hi, h.1]
 ·obtain ⟨k, rfl⟩ : ∃ k : Nat, i = (k : Int) := ⟨i.toNat, by omega⟩
  have hk : k < b.st.ends.length := by omega
  have hk' : k < d.now.ends.length := by rw [hr.ends]; exact hk
  refine (rend_yes d D k sl en tk w hE hk' hD).mono fun e w' h => ⟨?_, h.2⟩
  have e' : d.now.ends[k] = b.st.ends[k] := by congr 1; exact hr.ends
  rw [endA_yes hk, h.1, e']
theorem ylook_any (b : Px.Bo) (d : Bx.Bo) (D : Nat) (tk : Value) (w : World) (hr : Px.Rel b d) (hD : ∃ sl en, BoxIn w D d sl en tk) :
 Calls Tryz.prog 61 #[.pointer (some ⟨D, 0, none⟩)] w fun e w' => e = .returned (pviewV b.st) ∧ Below w.heap.size w w' := by
 obtain ⟨sl, en, hD⟩ := hD
 have hE : d.now.ends.length ≤ 6 := by rw [hr.ends]; exact hr.ok.st.en
 refine (rlook_any d D sl en tk w hE hD).mono fun e w' h => ⟨?_, h.2⟩
 have : viewV d.now = pviewV b.st := by
  have h1 := hr.slen; have h2 := hr.ends
  unfold viewV pviewV
  rw [h1, h2, hr.now]; rfl
 rw [h.1, this]
theorem ylog_any (b : Px.Bo) (d : Bx.Bo) (D : Nat) (tk : Value) (w : World) (hr : Px.Rel b d) (hD : ∃ sl en, BoxIn w D d sl en tk) :
 Calls Tryz.prog 45 #[.pointer (some ⟨D, 0, none⟩)] w fun e w' => e = .returned (.string b.log) ∧ w' = w := by
 obtain ⟨sl, en, hD⟩ := hD
 refine (rlog_any d D sl en tk w hD).mono fun e w' h => ?_
 rw [hr.txt] at h; exact h
end Go.Proofs.YtdajolpoiffimaaGreatDoor

namespace Go.Proofs.YtdajolpoiffimaaGreatDoor
open Go.RowKit

/-- A box that was made behind a world. -/
structure KB (w0 w : World) (B : Nat) (b : Px.Bo) : Prop where
 lo : w0.heap.size ≤ B
 bl : Below w0.heap.size w0 w
 pb : ∃ sl en, PB w B b sl en
/-- The tables. -/
structure TT (w : World) : Prop where
 lh : TabLH w
 mo : Tab w
theorem TT.later {w w' : World} (h : TT w) (hb : Below w.heap.size w w') : TT w' := ⟨h.lh.later hb, fun m a b => cell_later hb (h.mo m a b)⟩
end Go.Proofs.YtdajolpoiffimaaGreatDoor

namespace Go.Proofs.YtdajolpoiffimaaGreatDoor
namespace Bx
end Bx
namespace Px
/-- Start. -/
theorem start_told {s : St} (h : Ok s) (n : Int) (h0 : (startP s n).2 = 0) : Bx.told (abs s) [chS n] = abs (startP s n).1 := by
 rcases start_abs h.dist n with ⟨q, _⟩ | ⟨i, hi, _, hn, q⟩
 ·omega
 ·rcases q with ⟨q, _⟩ | ⟨q, _⟩ | ⟨q, _⟩ | ⟨_, _, _, _, _, q⟩
  ·omega
  ·omega
  ·omega
  ·exact (told_one _ _).trans (tell_about (by decide) (by decide) q)
theorem startP_ok {s : St} (h : Ok s) (n : Int) (h0 : (startP s n).2 = 0) : Ok (startP s n).1 := by
 rcases start_abs h.dist n with ⟨e8, hf⟩ | ⟨i, hi, hF, hn, hc⟩
 ·omega
 rcases hc with ⟨e, q⟩ | ⟨e, q1, q2⟩ | ⟨e, q1, q2, q3⟩ | ⟨e, q1, q2, q3, q4, q5⟩
 ·omega
 ·omega
 ·omega
 have hy : s.slots[i] ∈ s.slots := List.getElem_mem hi
 have hst : Bx.StOk (abs (startP s n).1) := by
  have := Bx.about_ok h.st 83 n
  rw [q5] at this; exact this
 have hh0 := h.ex _ hy
 have hyh : s.slots[i].heard = ByteArray.empty := hh0.2.2.2.2.2 (by omega)
 obtain ⟨s1, s5, sz⟩ := steps_size h hy
 rw [q4] at hst ⊢
 exact h.repl _ hst ⟨h.st.c1, h.st.c2, by show (0 : Int) ≤ 1; omega, by show (1 : Int) ≤ ((stepsL s s.slots[i]).length : Int); omega, by show s.slots[i].heard.size ≤ 8; omega, fun q => by simp [beg] at q⟩
end Px
end Go.Proofs.YtdajolpoiffimaaGreatDoor

namespace Go.Proofs.YtdajolpoiffimaaGreatDoor
namespace Bx
/-- The state, interrupted. -/
def intS (s : St) : St := { s with slots := s.slots.map fun x => { x with runs := false } }
theorem MayS.int {s : St} (h : MayS s) : MayS (intS s) := by
 refine ⟨h.tab, h.c1, h.c2, h.n1, h.n2, by simpa [intS] using h.sl, h.en, ?_, ?_, h.dif, ?_, ?_⟩
 ·show (s.slots.map _).Pairwise _
  rw [List.pairwise_map]; exact h.rise
 ·show (s.slots.map _).Pairwise _
  rw [List.pairwise_map]
  exact h.lock.imp fun _ _ _ q => by cases q
 ·intro x hx
  obtain ⟨y, hy, rfl⟩ := List.mem_map.1 hx
  have q := h.es y hy
  exact ⟨q.n, q.l, q.m0, q.m, q.a, q.f1, q.f2, fun e => by cases e⟩
 ·intro x hx
  have q := h.ee x hx
  refine ⟨q.n, q.h, fun z hz => ?_⟩
  obtain ⟨y, hy, rfl⟩ := List.mem_map.1 hz
  exact q.o y hy
end Bx
namespace Px
theorem whole_le {s : Bx.St} (h : Bx.MayS s) : (Bx.frame (Bx.wholeS s)).size ≤ 456 := by rw [Bx.frame_size]; have := Bx.wholeS_size h; omega
/-- The program's state, interrupted. -/
def wait (x : Sl) : Sl := { x with step := 0, ans := 0, heard := ByteArray.empty }
def intP (s : St) : St := { s with slots := s.slots.map wait }
theorem int_abs (s : St) : abs (intP s) = Bx.intS (abs s) := by
 unfold abs intP Bx.intS
 simp only [List.map_map]
 rfl
def openB (l r : Int) (s : St) : Bo := ⟨l, r, intP s, Bx.frame (Bx.wholeS (abs (intP s)))⟩
theorem int_ok {s : St} (h : Bx.MayS (abs s)) : Ok (intP s) := by
 have hm : Bx.MayS (abs (intP s)) := by rw [int_abs]; exact h.int
 refine ⟨hm.ok, ?_, fun x hx => ?_⟩
 ·have := hm.rise
  unfold abs at this
  rw [List.pairwise_map] at this
  exact this
 ·obtain ⟨y, _, rfl⟩ := List.mem_map.1 hx
  exact ⟨by show (-1 : Int) ≤ 0; omega, by show (0 : Int) ≤ _; omega, by show (0 : Int) ≤ 0; omega, by show (0 : Int) ≤ ((_ : Nat) : Int); omega, by show (0 : Nat) ≤ 8; omega, fun _ => rfl⟩
end Px
end Go.Proofs.YtdajolpoiffimaaGreatDoor
