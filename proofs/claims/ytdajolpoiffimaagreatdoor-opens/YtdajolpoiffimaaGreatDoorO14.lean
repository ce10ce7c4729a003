/-
  SnapM, CompM, SaysM, RefSays.
-/
import Derived.Test.YtdajolpoiffimaaGreatDoorO5
import Derived.Test.YtdajolpoiffimaaGreatDoorO11
import Derived.Test.YtdajolpoiffimaaGreatDoorO13

namespace Go.Proofs.YtdajolpoiffimaaGreatDoor
namespace Kp
end Kp
namespace Bx
end Bx
namespace Kp
end Kp
end Go.Proofs.YtdajolpoiffimaaGreatDoor

namespace Go.Proofs.YtdajolpoiffimaaGreatDoor
namespace Bx
theorem says_may {fl : Bool} {s u : St} {r q : ByteArray} (h : Says fl s r u q) (hs : MayS s) : MayS u := by
 induction h with
 | stop => exact hs
 | go h1 h2 _ ih =>
   refine ih ?_
   rcases h2 with ⟨_, h⟩ | ⟨c, _, _, rfl⟩
   ·exact h.1
   ·exact hs.do c
end Bx
namespace Px
end Px
end Go.Proofs.YtdajolpoiffimaaGreatDoor

namespace Go.Proofs.YtdajolpoiffimaaGreatDoor
open Go.RowKit

theorem b1_head {b r : ByteArray} {k : Int} (e : b = Bx.b1 k ++ r) (h0 : 0 < b.size) : (b[0].toNat : Int) = k % 256 := by
 subst e
 rw [ByteArray.getElem_append_left (by rw [Bx.b1_size]; decide)]
 exact Bx.byte_of k
theorem z_head {b : ByteArray} {t : Bx.St} (h : Bx.IsZ b t) : ∃ h0 : 0 < b.size, (b[0].toNat : Int) = 90 := by
 obtain ⟨_, e⟩ := h
 have h0 : 0 < b.size := by rw [← e]; unfold Bx.wholeS; rw [ByteArray.size_append, Bx.b1_size]; omega
 exact ⟨h0, b1_head (k := 90) (r := Bx.encSt t) e.symm h0⟩
theorem ch_head {b : ByteArray} {c : Bx.Ch} (h : Bx.IsCh b c) (h0 : 0 < b.size) : ¬ (b[0].toNat : Int) = 90 := by
 obtain ⟨f, e⟩ := h
 have hk := f.kind
 have := b1_head (k := c.kind) e.symm h0
 omega
theorem stp_z {b : ByteArray} {S t : Bx.St} (h : Bx.IsZ b t) : Bx.Stp true S b t := Or.inl ⟨rfl, h⟩
theorem no_stp_z {b : ByteArray} {S : Bx.St} {fl : Bool} (h0 : 0 < b.size) (h90 : (b[0].toNat : Int) = 90) (hn : ¬ ∃ t, Bx.IsZ b t) : ¬ ∃ t, Bx.Stp fl S b t := by
 rintro ⟨t, ⟨_, h⟩ | ⟨c, h, _⟩⟩
 ·exact hn ⟨t, h⟩
 ·exact ch_head h h0 h90
theorem no_stp_c {b : ByteArray} {S : Bx.St} {fl : Bool} (hz : ¬ (fl = true ∧ ∃ h0 : 0 < b.size, (b[0].toNat : Int) = 90)) (hn : ∀ c, Bx.IsCh b c → (Bx.doP S c).2 = false) : ¬ ∃ t, Bx.Stp fl S b t := by
 rintro ⟨t, ⟨hf, h⟩ | ⟨c, h, h2, _⟩⟩
 ·exact hz ⟨hf, z_head h⟩
 ·rw [hn c h] at h2; cases h2
theorem stp_c {b : ByteArray} {S : Bx.St} {fl : Bool} {c : Bx.Ch} (h : Bx.IsCh b c) (h2 : (Bx.doP S c).2 = true) : Bx.Stp fl S b (Bx.doP S c).1 := Or.inr ⟨c, h, h2, rfl⟩
/-- No step: what the log says. -/
theorem no_nx {fl : Bool} {S : Bx.St} {r : ByteArray} (h : ¬ ∃ b more, Bx.Nx r b more) : Bx.Says fl S r S r := Bx.Says.stop _ _ _ (by rintro ⟨b, more, _, h1, _⟩; exact h ⟨b, more, h1⟩)
theorem no_go {fl : Bool} {S : Bx.St} {r b more : ByteArray} (h1 : Bx.Nx r b more) (h : ¬ ∃ t, Bx.Stp fl S b t) : Bx.Says fl S r S r := by
 refine Bx.Says.stop _ _ _ ?_
 rintro ⟨b', more', t, h2, h3⟩
 obtain ⟨rfl, _⟩ := h1.uniq h2
 exact h ⟨t, h3⟩
theorem stp_may {fl : Bool} {S t : Bx.St} {b : ByteArray} (h : Bx.Stp fl S b t) (hm : Bx.MayS S) : Bx.MayS t := by
 rcases h with ⟨_, h⟩ | ⟨c, _, _, rfl⟩
 ·exact h.1
 ·exact hm.do c
/-- How far the document's Says has come. -/
structure SayQ (log : ByteArray) (fl : Bool) (S : Bx.St) (r : ByteArray) : Prop where
 may : Bx.MayS S
 say : ∀ u x, Bx.Says fl S r u x → Bx.Says true Bx.first log u x
 f1 : fl = true → r = log
 f2 : fl = false → r.size < log.size
theorem SayQ.begin (log : ByteArray) : SayQ log true Bx.first log := ⟨Bx.first_may, fun _ _ h => h, fun _ => rfl, fun h => (by cases h)⟩
theorem SayQ.le {log : ByteArray} {fl : Bool} {S : Bx.St} {r : ByteArray} (h : SayQ log fl S r) : r.size ≤ log.size := by
 cases fl with
 | true => rw [h.f1 rfl]; exact Nat.le_refl _
 | false => exact Nat.le_of_lt (h.f2 rfl)
theorem SayQ.first {log : ByteArray} {fl : Bool} {S : Bx.St} {r : ByteArray} (h : SayQ log fl S r) : (r.toList == log.toList) = fl := by
 cases fl with
 | true => rw [h.f1 rfl]; simp
 | false =>
   have h1 := h.f2 rfl
   cases e : (r.toList == log.toList) with
   | false => rfl
   | true =>
     have h2 : r.toList = log.toList := by simpa using e
     have h3 : r = log := Bx.ba_ext (by simpa [ByteArray.toList_eq] using h2)
     rw [h3] at h1; omega
theorem SayQ.next {log : ByteArray} {fl : Bool} {S t : Bx.St} {r b more : ByteArray} (h : SayQ log fl S r) (hN : Bx.Nx r b more) (hS : Bx.Stp fl S b t) : SayQ log false t more :=
 ⟨stp_may hS h.may, fun u x hs => h.say u x (Bx.Says.go hN hS hs), fun e => (by cases e), fun _ => (by have := hN.lt; have := h.le; omega)⟩
end Go.Proofs.YtdajolpoiffimaaGreatDoor

namespace Go.Proofs.YtdajolpoiffimaaGreatDoor
open Go.RowKit

theorem StW.far {W : World} {q g : Nat} {s : Bx.St} {sl en : Value} (h : StW W q s sl en) (hne : q ≠ g) (j : Nat) (v : Value) : StW (W.setCell ⟨g, j, none⟩ v) q s sl en := by
 obtain ⟨⟨c0, c1, c2, c3, c4⟩, f, ty⟩ := h
 have e : ∀ k u, W.cell? ⟨q, k, none⟩ = some u → (W.setCell ⟨g, j, none⟩ v).cell? ⟨q, k, none⟩ = some u := fun k u hu => (World.cell?_setCell_other _ _ _ _ (fun x => hne (by cases x; rfl))).trans hu
 exact ⟨⟨e _ _ c0, e _ _ c1, e _ _ c2, e _ _ c3, e _ _ c4⟩, fun k hk => by rw [World.frozen?_setCell]; exact f k hk, ty.setCell _ _ _⟩
theorem StW.far5 {W : World} {q g : Nat} {s : Bx.St} {sl en : Value} (h : StW W q s sl en) (hne : q ≠ g) (u0 u1 u2 u3 u4 : Value) :
 StW (((((W.setCell ⟨g, 0, none⟩ u0).setCell ⟨g, 1, none⟩ u1).setCell ⟨g, 2, none⟩ u2).setCell ⟨g, 3, none⟩ u3).setCell ⟨g, 4, none⟩ u4) q s sl en :=
 ((((h.far hne _ _).far hne _ _).far hne _ _).far hne _ _).far hne _ _
/-- The state that was said so far lies in block q. -/
structure SayI (w wr : World) (q : Nat) (S : Bx.St) (sl en : Value) : Prop where
 st : StW wr q S sl en
 rs : StW wr w.heap.size stZ nilV nilV
 rows : StAt wr S sl en
 bel : Below w.heap.size w wr
theorem SayI.later {w wr w' : World} {q : Nat} {S : Bx.St} {sl en : Value} (h : SayI w wr q S sl en) (hb : Below wr.heap.size wr w') : SayI w w' q S sl en :=
 ⟨h.st.later hb, h.rs.later hb, h.rows.later hb, h.bel.trans (hb.mono h.bel.size)⟩
theorem SayI.put {w wr : World} {q x : Nat} {S : Bx.St} {sl en : Value} (h : SayI w wr q S sl en) (hR : w.heap.size < x) (hq : q ≠ x) (ty : Typed wr x 104) (u0 u1 u2 u3 u4 : Value) :
 SayI w (((((wr.setCell ⟨x, 0, none⟩ u0).setCell ⟨x, 1, none⟩ u1).setCell ⟨x, 2, none⟩ u2).setCell ⟨x, 3, none⟩ u3).setCell ⟨x, 4, none⟩ u4) q S sl en :=
 ⟨h.st.far5 hq _ _ _ _ _, h.rs.far5 (Nat.ne_of_lt hR) _ _ _ _ _, h.rows.store ty _ _ _ _ _, below_set5 h.bel (Nat.le_of_lt hR) _ _ _ _ _⟩
theorem SayI.new {w wr : World} {q : Nat} {S t : Bx.St} {sl en sl' en' : Value} (h : SayI w wr q S sl en) (hR : w.heap.size < q) (ht : StAt wr t sl' en') :
 SayI w (((((wr.setCell ⟨q, 0, none⟩ (.string t.tab)).setCell ⟨q, 1, none⟩ (.int .i64 t.clock)).setCell ⟨q, 2, none⟩ (.int .i64 t.next)).setCell ⟨q, 3, none⟩ sl').setCell ⟨q, 4, none⟩ en') q t sl' en' :=
 ⟨h.st.store t sl' en', h.rs.far5 (Nat.ne_of_lt hR) _ _ _ _ _, ht.store h.st.ty _ _ _ _ _, below_set5 h.bel (Nat.le_of_lt hR) _ _ _ _ _⟩
theorem SayI.ch {w wr : World} {q y : Nat} {S : Bx.St} {sl en : Value} (h : SayI w wr q S sl en) (hR : w.heap.size < y) (hq : q ≠ y) (ty : Typed wr y 141) (u0 u1 u2 : Value) :
 SayI w (((wr.setCell ⟨y, 0, none⟩ u0).setCell ⟨y, 1, none⟩ u1).setCell ⟨y, 2, none⟩ u2) q S sl en :=
 ⟨((h.st.far hq _ _).far hq _ _).far hq _ _, ((h.rs.far (Nat.ne_of_lt hR) _ _).far (Nat.ne_of_lt hR) _ _).far (Nat.ne_of_lt hR) _ _, ((h.rows.set ty (by decide) (by decide) _ _).set (ty.setCell _ _ _) (by decide) (by decide) _ _).set ((ty.setCell _ _ _).setCell _ _ _) (by decide) (by decide) _ _, ((h.bel.setCell (Nat.le_of_lt hR) _).setCell (Nat.le_of_lt hR) _).setCell (Nat.le_of_lt hR) _⟩
theorem nonempty_list {b : ByteArray} (h : 0 < b.size) : b.toList.isEmpty = false := by
 cases hc : b.toList.isEmpty
 ·rfl
 ·exfalso
  have hz : b.toList.length = 0 := by simpa [List.isEmpty_iff] using hc
  have hz2 : b.toList.length = b.size := by simp [ByteArray.toList_eq]
  omega
theorem empty_list' {b : ByteArray} (h : ¬ 0 < b.size) : b = { data := #[] } := by
 have : b = ByteArray.empty := by simpa using h
 rw [this]; rfl
theorem first_rows (W : World) : StAt W Bx.first (.slice none 0 0) (.slice none 0 0) := ⟨TRow.nil _ _, TRow.nil _ _⟩
/-- What Says tells. -/
def SaysP (log : ByteArray) (w w' : World) (e : Ending) : Prop := ∃ S sl en r n, e = .returned (.tuple #[stV S sl en, .int .i64 n]) ∧ StAt w' S sl en ∧ Bx.Says true Bx.first log S r ∧ n + (r.size : Int) = (log.size : Int) ∧ Below w.heap.size w w'
set_option maxRecDepth 10000 in
set_option maxHeartbeats 8000000 in
theorem lsays_any (log : ByteArray) (w : World) (hs : log.size ≤ 100000) : Calls Tryz.prog 57 #[.string log] w fun e w' => SaysP log w w' e := by
 have hb0 := below_alloc w (stO stZ nilV nilV)
 have hz := StW.new w stZ nilV nilV
 have HQ0 : Hid (SayQ log true Bx.first log) := SayQ.begin log
 have HFs : Hid (∀ W : World, Calls Tryz.prog 88 #[] W fun e w' => e = .returned (stV Bx.first (.slice none 0 0) (.slice none 0 0)) ∧ Below W.heap.size W w') := fun W => rfirst_any W
 have HRw : Hid (∀ W : World, StAt W Bx.first (.slice none 0 0) (.slice none 0 0)) := fun W => first_rows W
 generalize Bx.first = F at *
 go_enter Tryz.func57, Tryz.ntmps57
 go_upto_region 1 with fail
 have hz' : StW (w.alloc (stO stZ nilV nilV)) w.heap.size stZ nilV nilV := hz
 clear hz
 generalize w.alloc (stO stZ nilV nilV) = W0 at *
 have HZ0 : Hid (StW W0 w.heap.size stZ nilV nilV) := hz'
 have HB0 : Hid (Below w.heap.size w W0) := hb0
 have hlt0 := hz'.ty.lt
 clear hz' hb0
 go_wp2_with fail
 refine (HFs.out _).mono ?_
 rintro e w1 ⟨rfl, hb1⟩
 have hb2 := hb1.trans ((below_alloc w1 (stO F (.slice none 0 0) (.slice none 0 0))).mono hb1.size)
 have hI := StW.new w1 F (.slice none 0 0) (.slice none 0 0)
 have hsz1 := hb1.size
 clear hb1
 go_upto_region 2 with fail
 have hI' : StW (w1.alloc (stO F (.slice none 0 0) (.slice none 0 0))) w1.heap.size F (.slice none 0 0) (.slice none 0 0) := hI
 clear hI
 have hRq : w.heap.size < w1.heap.size := Nat.lt_of_lt_of_le hlt0 hsz1
 generalize w1.alloc (stO F (.slice none 0 0) (.slice none 0 0)) = W at *
 generalize w1.heap.size = q at *
 have HI0 : Hid (SayI w W q F (.slice none 0 0) (.slice none 0 0)) := ⟨hI', HZ0.out.later hb2, HRw.out _, HB0.out.trans (hb2.mono HB0.out.size)⟩
 clear hI' hb2 HZ0 HB0 hlt0 hsz1 HFs HRw
 go_wp2_with fail
 go_loopw [5] (fun rest wr => ∃ fl S r sl en, rest = .string r ∧ SayI w wr q S sl en ∧ SayQ log fl S r) (fun rest _ => strSize rest)
 case atStart => exact ⟨true, _, _, _, _, rfl, HI0.out, HQ0.out⟩
 case round =>
  obtain ⟨fl, S, r, sl, en, rfl, hI, hQ⟩ := hrel
  obtain ⟨ad, cap, rfl, hcap⟩ := hI.rows.sl.form
  obtain ⟨ad2, cap2, rfl, hcap2⟩ := hI.rows.en.form
  have HI : Hid (SayI w wr q S (.slice ad S.slots.length cap) (.slice ad2 S.ends.length cap2)) := hI
  have HQ : Hid (SayQ log fl S r) := hQ
  have hrl := hQ.le
  have hfirst := hQ.first
  have q1 : IntKind.i64.wrap ((log.size : Int) - (r.size : Int)) = (log.size : Int) - (r.size : Int) := by rw [IntKind.wrap_i64]; omega
  clear hI hQ HI0 HQ0
  go_wp2_with fail
  refine (next_any r _ (by omega)).mono ?_
  rintro e w1 ⟨bb, more, ok, rfl, hN, hlt, hb1⟩
  have HI1 : Hid (SayI w w1 q S (.slice ad S.slots.length cap) (.slice ad2 S.ends.length cap2)) := HI.out.later hb1
  have HNr : Hid (NextR r bb more ok) := hN
  clear HI hN hb1
  cases ok
  ·have HN : Hid (Bx.Says true Bx.first log S r) := HQ.out.say _ _ (no_nx (HNr.out.2 rfl))
   obtain ⟨⟨⟨c0, c1, c2, c3, c4⟩, _, _⟩, ⟨⟨r0, r1, r2, r3, r4⟩, f, _⟩, _, _⟩ := HI1.out
   have f0 := f 0 (by decide); have f1 := f 1 (by decide); have f2 := f 2 (by decide); have f3 := f 3 (by decide); have f4 := f 4 (by decide)
   have H4 : Hid (StAt _ S (.slice ad S.slots.length cap) (.slice ad2 S.ends.length cap2)) := HI1.out.rows.store HI1.out.rs.ty (.string S.tab) (.int .i64 S.clock) (.int .i64 S.next) (.slice ad S.slots.length cap) (.slice ad2 S.ends.length cap2)
   clear f hfirst hlt
   go_wp2_with fail
   refine bodyPost_ret (v := .tuple #[stV S (.slice ad S.slots.length cap) (.slice ad2 S.ends.length cap2), .int .i64 ((log.size : Int) - (r.size : Int))]) (by simp [results, Tryz.results57, go_sem, r0, r1, r2, r3, r4]) rfl ?_
   exact ⟨_, _, _, _, _, rfl, H4.out, HN.out, by omega, below_set5 HI1.out.bel (Nat.le_refl _) _ _ _ _ _⟩
  ·have HNx : Hid (Bx.Nx r bb more) := HNr.out.1 rfl
   have hbz := HNx.out.2
   have hml := hlt rfl
   clear HNr hlt
   obtain ⟨⟨c0, c1, c2, c3, c4⟩, _, _⟩ := HI1.out.st
   have hql := HI1.out.st.ty.lt
   have hb2 := below_alloc w1 (stO S (.slice ad S.slots.length cap) (.slice ad2 S.ends.length cap2))
   have hX := StW.new w1 S (.slice ad S.slots.length cap) (.slice ad2 S.ends.length cap2)
   have hRw1 := HI1.out.rs.ty.lt
   go_upto_region 7 with fail
   have hX' : StW (w1.alloc (stO S (.slice ad S.slots.length cap) (.slice ad2 S.ends.length cap2))) w1.heap.size S (.slice ad S.slots.length cap) (.slice ad2 S.ends.length cap2) := hX
   have HI2 : Hid (SayI w (w1.alloc (stO S (.slice ad S.slots.length cap) (.slice ad2 S.ends.length cap2))) q S (.slice ad S.slots.length cap) (.slice ad2 S.ends.length cap2)) := HI1.out.later hb2
   have hqx : q ≠ w1.heap.size := Nat.ne_of_lt hql
   have hRx : w.heap.size < w1.heap.size := hRw1
   clear hX c0 c1 c2 c3 c4 hql hRw1 hb2 HI1
   generalize w1.alloc (stO S (.slice ad S.slots.length cap) (.slice ad2 S.ends.length cap2)) = W1 at *
   generalize w1.heap.size = x at *
   have HX : Hid (StW W1 x S (.slice ad S.slots.length cap) (.slice ad2 S.ends.length cap2)) := hX'
   clear hX'
   by_cases hz : fl = true ∧ ∃ h0 : 0 < bb.size, (bb[0].toNat : Int) = 90
   ·obtain ⟨hfl, h0, h90⟩ := hz
    have HFl : Hid (fl = true) := hfl
    rw [hfl] at hfirst
    clear hfl
    have H0 : Hid (0 < bb.size) := h0
    have H90 : Hid ((bb[0].toNat : Int) = 90) := h90
    have hemp := nonempty_list h0
    have z2 : (0 : Int) < (bb.size : Int) := by omega
    have h90b := beq_iff_eq.2 h90
    clear h90
    go_wp2_with fail
    refine (held_any bb _ (by omega)).mono ?_
    rintro e w2 ⟨t, slt, ent, ok2, rfl, hAt, hyes, hno, hb2⟩
    obtain ⟨ad3, cap3, rfl, hcap3⟩ := hAt.sl.form
    obtain ⟨ad4, cap4, rfl, hcap4⟩ := hAt.en.form
    have HXb : Hid (StW w2 x S (.slice ad S.slots.length cap) (.slice ad2 S.ends.length cap2)) := HX.out.later hb2
    have HIb : Hid (SayI w w2 q S (.slice ad S.slots.length cap) (.slice ad2 S.ends.length cap2)) := HI2.out.later hb2
    have HAb : Hid (StAt w2 t (.slice ad3 t.slots.length cap3) (.slice ad4 t.ends.length cap4)) := hAt
    have Hy : Hid (ok2 = true → Bx.IsZ bb t) := hyes
    have Hn : Hid (ok2 = false → ¬ ∃ t, Bx.IsZ bb t) := hno
    clear hAt hyes hno hb2 HX HI2 hemp h90b
    have HX3 : Hid (StW _ x t (.slice ad3 t.slots.length cap3) (.slice ad4 t.ends.length cap4)) := HXb.out.store t (.slice ad3 t.slots.length cap3) (.slice ad4 t.ends.length cap4)
    have HI3 : Hid (SayI w _ q S (.slice ad S.slots.length cap) (.slice ad2 S.ends.length cap2)) := HIb.out.put hRx hqx HXb.out.ty (.string t.tab) (.int .i64 t.clock) (.int .i64 t.next) (.slice ad3 t.slots.length cap3) (.slice ad4 t.ends.length cap4)
    have HA3 : Hid (StAt _ t (.slice ad3 t.slots.length cap3) (.slice ad4 t.ends.length cap4)) := HAb.out.store HXb.out.ty (.string t.tab) (.int .i64 t.clock) (.int .i64 t.next) (.slice ad3 t.slots.length cap3) (.slice ad4 t.ends.length cap4)
    obtain ⟨⟨x0, x1, x2, x3, x4⟩, xf, _⟩ := HXb.out
    have xf0 := xf 0 (by decide); have xf1 := xf 1 (by decide); have xf2 := xf 2 (by decide); have xf3 := xf 3 (by decide); have xf4 := xf 4 (by decide)
    have hxl := HXb.out.ty.lt
    clear xf
    go_upto_region 13 with fail
    clear x0 x1 x2 x3 x4 xf0 xf1 xf2 xf3 xf4 hxl HXb HIb HAb
    generalize ((((w2.setCell ⟨x, 0, none⟩ (.string t.tab)).setCell ⟨x, 1, none⟩ (.int .i64 t.clock)).setCell ⟨x, 2, none⟩ (.int .i64 t.next)).setCell ⟨x, 3, none⟩ (.slice ad3 t.slots.length cap3)).setCell ⟨x, 4, none⟩ (.slice ad4 t.ends.length cap4) = W5 at *
    have HI5 : Hid (SayI w W5 q S (.slice ad S.slots.length cap) (.slice ad2 S.ends.length cap2)) := HI3
    have HX5 : Hid (StW W5 x t (.slice ad3 t.slots.length cap3) (.slice ad4 t.ends.length cap4)) := HX3
    have HA5 : Hid (StAt W5 t (.slice ad3 t.slots.length cap3) (.slice ad4 t.ends.length cap4)) := HA3
    clear HI3 HX3 HA3
    cases ok2
    ·have HN : Hid (Bx.Says true Bx.first log S r) := HQ.out.say _ _ (no_go HNx.out (no_stp_z H0.out H90.out (Hn.out rfl)))
     obtain ⟨⟨⟨c0, c1, c2, c3, c4⟩, _, _⟩, ⟨⟨r0, r1, r2, r3, r4⟩, f, _⟩, _, _⟩ := HI5.out
     have f0 := f 0 (by decide); have f1 := f 1 (by decide); have f2 := f 2 (by decide); have f3 := f 3 (by decide); have f4 := f 4 (by decide)
     have H4 : Hid (StAt _ S (.slice ad S.slots.length cap) (.slice ad2 S.ends.length cap2)) := HI5.out.rows.store HI5.out.rs.ty (.string S.tab) (.int .i64 S.clock) (.int .i64 S.next) (.slice ad S.slots.length cap) (.slice ad2 S.ends.length cap2)
     clear f HX5 HA5
     go_wp2_with fail
     refine bodyPost_ret (v := .tuple #[stV S (.slice ad S.slots.length cap) (.slice ad2 S.ends.length cap2), .int .i64 ((log.size : Int) - (r.size : Int))]) (by simp [results, Tryz.results57, go_sem, r0, r1, r2, r3, r4]) rfl ?_
     exact ⟨_, _, _, _, _, rfl, H4.out, HN.out, by omega, below_set5 HI5.out.bel (Nat.le_refl _) _ _ _ _ _⟩
    ·have HQ2 : Hid (SayQ log false t more) := HQ.out.next HNx.out (by rw [HFl.out]; exact stp_z (Hy.out rfl))
     have HI6 : Hid (SayI w _ q t (.slice ad3 t.slots.length cap3) (.slice ad4 t.ends.length cap4)) := HI5.out.new hRq HA5.out
     obtain ⟨⟨c0, c1, c2, c3, c4⟩, qf, _⟩ := HI5.out.st
     obtain ⟨⟨x0, x1, x2, x3, x4⟩, _, _⟩ := HX5.out
     have qf0 := qf 0 (by decide); have qf1 := qf 1 (by decide); have qf2 := qf 2 (by decide); have qf3 := qf 3 (by decide); have qf4 := qf 4 (by decide)
     have hql := HI5.out.st.ty.lt
     have hxl := HX5.out.ty.lt
     clear qf HI5 HX5 HA5
     go_wp2_with fail
     go_roundw
     case rel => exact ⟨false, t, more, _, _, rfl, HI6.out, HQ2.out⟩
     case measure => simp [strSize]; omega
   ·have HZ : Hid (¬ (fl = true ∧ ∃ h0 : 0 < bb.size, (bb[0].toNat : Int) = 90)) := hz
    have h3 : fl = false ∨ (fl = true ∧ ¬ 0 < bb.size) ∨ (fl = true ∧ ∃ h0 : 0 < bb.size, ((bb[0].toNat : Int) == 90) = false) := by
     cases fl
     ·exact Or.inl rfl
     ·by_cases h0 : 0 < bb.size
      ·exact Or.inr (Or.inr ⟨rfl, h0, by simpa using fun e => hz ⟨rfl, h0, e⟩⟩)
      ·exact Or.inr (Or.inl ⟨rfl, h0⟩)
    clear hz
    rcases h3 with h3 | ⟨h3, h4⟩ | ⟨h3, h0, h5⟩
    case' inl =>
     rw [h3] at hfirst
     clear h3
    case' inr.inl =>
     rw [h3] at hfirst
     have hemp : bb.toList.isEmpty = true := by rw [empty_list' h4]; simp [ByteArray.toList_eq]
     clear h3 h4
    case' inr.inr =>
     rw [h3] at hfirst
     have hemp := nonempty_list h0
     have z2 : (0 : Int) < (bb.size : Int) := by omega
     clear h3
    all_goals
     have hbY := below_alloc W1 (.cells #[.int .u8 0, .string { data := #[] }, .int .i64 0] 141)
     have hY := Cl.new W1 [.int .u8 0, .string { data := #[] }, .int .i64 0] 141
     have hxW := HX.out.ty.lt
     have hqW := HI2.out.st.ty.lt
     have hRW := HI2.out.rs.ty.lt
     go_upto_region 10 with fail
     have hY' : Cl (W1.alloc (.cells #[.int .u8 0, .string { data := #[] }, .int .i64 0] 141)) W1.heap.size 141 [.int .u8 0, .string { data := #[] }, .int .i64 0] := hY
     have HI4 : Hid (SayI w (W1.alloc (.cells #[.int .u8 0, .string { data := #[] }, .int .i64 0] 141)) q S (.slice ad S.slots.length cap) (.slice ad2 S.ends.length cap2)) := HI2.out.later hbY
     have HX4 : Hid (StW (W1.alloc (.cells #[.int .u8 0, .string { data := #[] }, .int .i64 0] 141)) x S (.slice ad S.slots.length cap) (.slice ad2 S.ends.length cap2)) := HX.out.later hbY
     have hqy : q ≠ W1.heap.size := Nat.ne_of_lt hqW
     have hRy : w.heap.size < W1.heap.size := hRW
     have hxy : x ≠ W1.heap.size := Nat.ne_of_lt hxW
     clear hY hbY HI2 HX hxW hqW hRW
     generalize W1.alloc (.cells #[.int .u8 0, .string { data := #[] }, .int .i64 0] 141) = W2 at *
     generalize W1.heap.size = y at *
     have HY : Hid (Cl W2 y 141 [.int .u8 0, .string { data := #[] }, .int .i64 0]) := hY'
     clear hY'
     try clear hemp
     try clear h5
     go_wp2_with fail
     refine (changed_any bb _ (by omega)).mono ?_
     rintro e w3 ⟨ch, ok2, rfl, hyes, hno, htab, hb3⟩
     have Hy : Hid (ok2 = true → Bx.IsCh bb ch) := hyes
     have Hn : Hid (ok2 = false → ¬ ∃ c, Bx.IsCh bb c) := hno
     have hY3 := HY.out.later hb3
     have HI5 : Hid (SayI w _ q S (.slice ad S.slots.length cap) (.slice ad2 S.ends.length cap2)) := (HI4.out.later hb3).ch hRy hqy hY3.ty (.int .u8 ch.kind) (.string ch.tab) (.int .i64 ch.n)
     have HX5 : Hid (StW _ x S (.slice ad S.slots.length cap) (.slice ad2 S.ends.length cap2)) := (((HX4.out.later hb3).far hxy 0 (.int .u8 ch.kind)).far hxy 1 (.string ch.tab)).far hxy 2 (.int .i64 ch.n)
     have HY5 : Hid (Cl _ y 141 [.int .u8 ch.kind, .string ch.tab, .int .i64 ch.n]) := ((hY3.set 0 (by simp) (.int .u8 ch.kind)).set 1 (by simp) (.string ch.tab)).set 2 (by simp) (.int .i64 ch.n)
     have y0 := hY3.c 0 _ rfl; have y1 := hY3.c 1 _ rfl; have y2 := hY3.c 2 _ rfl
     have yf0 := hY3.f 0 (by simp); have yf1 := hY3.f 1 (by simp); have yf2 := hY3.f 2 (by simp)
     have hyl := hY3.ty.lt
     clear hyes hno hb3 hY3 HI4 HX4 HY
     go_upto_region 11 with fail
     clear y0 y1 y2 yf0 yf1 yf2 hyl
     generalize ((w3.setCell ⟨y, 0, none⟩ (.int .u8 ch.kind)).setCell ⟨y, 1, none⟩ (.string ch.tab)).setCell ⟨y, 2, none⟩ (.int .i64 ch.n) = W4 at *
     have HI6 : Hid (SayI w W4 q S (.slice ad S.slots.length cap) (.slice ad2 S.ends.length cap2)) := HI5
     have HX6 : Hid (StW W4 x S (.slice ad S.slots.length cap) (.slice ad2 S.ends.length cap2)) := HX5
     have HY6 : Hid (Cl W4 y 141 [.int .u8 ch.kind, .string ch.tab, .int .i64 ch.n]) := HY5
     clear HI5 HX5 HY5
     cases ok2
     ·have HN : Hid (Bx.Says true Bx.first log S r) := HQ.out.say _ _ (no_go HNx.out (no_stp_c HZ.out fun c hc => absurd ⟨c, hc⟩ (Hn.out rfl)))
      obtain ⟨⟨⟨c0, c1, c2, c3, c4⟩, _, _⟩, ⟨⟨r0, r1, r2, r3, r4⟩, f, _⟩, _, _⟩ := HI6.out
      have f0 := f 0 (by decide); have f1 := f 1 (by decide); have f2 := f 2 (by decide); have f3 := f 3 (by decide); have f4 := f 4 (by decide)
      have H4 : Hid (StAt _ S (.slice ad S.slots.length cap) (.slice ad2 S.ends.length cap2)) := HI6.out.rows.store HI6.out.rs.ty (.string S.tab) (.int .i64 S.clock) (.int .i64 S.next) (.slice ad S.slots.length cap) (.slice ad2 S.ends.length cap2)
      clear f HX6 HY6
      go_wp2_with fail
      refine bodyPost_ret (v := .tuple #[stV S (.slice ad S.slots.length cap) (.slice ad2 S.ends.length cap2), .int .i64 ((log.size : Int) - (r.size : Int))]) (by simp [results, Tryz.results57, go_sem, r0, r1, r2, r3, r4]) rfl ?_
      exact ⟨_, _, _, _, _, rfl, H4.out, HN.out, by omega, below_set5 HI6.out.bel (Nat.le_refl _) _ _ _ _ _⟩
     ·have HCh : Hid (Bx.IsCh bb ch) := Hy.out rfl
      have HCu : Hid (∀ c, Bx.IsCh bb c → c = ch) := fun c hc => hc.uniq HCh.out
      obtain ⟨⟨c0, c1, c2, c3, c4⟩, _, _⟩ := HI6.out.st
      have k0 := HY6.out.c 0 _ rfl; have k1 := HY6.out.c 1 _ rfl; have k2 := HY6.out.c 2 _ rfl
      have hql := HI6.out.st.ty.lt
      have hyl := HY6.out.ty.lt
      clear Hy Hn
      go_wp2_with fail
      refine (do_any S ch _ _ _ HQ.out.may.ok (by unfold maxLen; omega) HI6.out.rows).mono ?_
      rintro e w5 ⟨⟨slt, ent, rfl, hAt⟩, hb5⟩
      have HD : Hid (∀ t o, Bx.doP S ch = (t, o) → (o = true → Bx.Stp fl S bb t) ∧ (o = false → ¬ ∃ t, Bx.Stp fl S bb t)) := by
       intro t o ho
       refine ⟨fun e => ?_, fun e => ?_⟩
       ·have := stp_c (fl := fl) (S := S) HCh.out (by rw [ho]; exact e)
        rw [ho] at this; exact this
       ·refine no_stp_c HZ.out fun c hc => ?_
        rw [HCu.out c hc, ho]; exact e
      obtain ⟨t, ok3, hto⟩ : ∃ t o, Bx.doP S ch = (t, o) := ⟨_, _, rfl⟩
      have hD := HD.out t ok3 hto
      have Hd1 : Hid (ok3 = true → Bx.Stp fl S bb t) := hD.1
      have Hd2 : Hid (ok3 = false → ¬ ∃ t, Bx.Stp fl S bb t) := hD.2
      rw [hto] at hAt ⊢
      clear hD HD hto
      simp only at hAt ⊢
      obtain ⟨ad3, cap3, rfl, hcap3⟩ := hAt.sl.form
      obtain ⟨ad4, cap4, rfl, hcap4⟩ := hAt.en.form
      have HXb : Hid (StW w5 x S (.slice ad S.slots.length cap) (.slice ad2 S.ends.length cap2)) := HX6.out.later hb5
      have HIb : Hid (SayI w w5 q S (.slice ad S.slots.length cap) (.slice ad2 S.ends.length cap2)) := HI6.out.later hb5
      have HAb : Hid (StAt w5 t (.slice ad3 t.slots.length cap3) (.slice ad4 t.ends.length cap4)) := hAt
      clear hAt hb5 c0 c1 c2 c3 c4 k0 k1 k2 hql hyl HI6 HX6 HY6
      have HX3 : Hid (StW _ x t (.slice ad3 t.slots.length cap3) (.slice ad4 t.ends.length cap4)) := HXb.out.store t (.slice ad3 t.slots.length cap3) (.slice ad4 t.ends.length cap4)
      have HI3 : Hid (SayI w _ q S (.slice ad S.slots.length cap) (.slice ad2 S.ends.length cap2)) := HIb.out.put hRx hqx HXb.out.ty (.string t.tab) (.int .i64 t.clock) (.int .i64 t.next) (.slice ad3 t.slots.length cap3) (.slice ad4 t.ends.length cap4)
      have HA3 : Hid (StAt _ t (.slice ad3 t.slots.length cap3) (.slice ad4 t.ends.length cap4)) := HAb.out.store HXb.out.ty (.string t.tab) (.int .i64 t.clock) (.int .i64 t.next) (.slice ad3 t.slots.length cap3) (.slice ad4 t.ends.length cap4)
      obtain ⟨⟨x0, x1, x2, x3, x4⟩, xf, _⟩ := HXb.out
      have xf0 := xf 0 (by decide); have xf1 := xf 1 (by decide); have xf2 := xf 2 (by decide); have xf3 := xf 3 (by decide); have xf4 := xf 4 (by decide)
      have hxl := HXb.out.ty.lt
      clear xf
      go_upto_region 13 with fail
      clear x0 x1 x2 x3 x4 xf0 xf1 xf2 xf3 xf4 hxl HXb HIb HAb
      generalize ((((w5.setCell ⟨x, 0, none⟩ (.string t.tab)).setCell ⟨x, 1, none⟩ (.int .i64 t.clock)).setCell ⟨x, 2, none⟩ (.int .i64 t.next)).setCell ⟨x, 3, none⟩ (.slice ad3 t.slots.length cap3)).setCell ⟨x, 4, none⟩ (.slice ad4 t.ends.length cap4) = W5 at *
      have HI5 : Hid (SayI w W5 q S (.slice ad S.slots.length cap) (.slice ad2 S.ends.length cap2)) := HI3
      have HX5 : Hid (StW W5 x t (.slice ad3 t.slots.length cap3) (.slice ad4 t.ends.length cap4)) := HX3
      have HA5 : Hid (StAt W5 t (.slice ad3 t.slots.length cap3) (.slice ad4 t.ends.length cap4)) := HA3
      clear HI3 HX3 HA3
      cases ok3
      ·have HN : Hid (Bx.Says true Bx.first log S r) := HQ.out.say _ _ (no_go HNx.out (Hd2.out rfl))
       obtain ⟨⟨⟨c0, c1, c2, c3, c4⟩, _, _⟩, ⟨⟨r0, r1, r2, r3, r4⟩, f, _⟩, _, _⟩ := HI5.out
       have f0 := f 0 (by decide); have f1 := f 1 (by decide); have f2 := f 2 (by decide); have f3 := f 3 (by decide); have f4 := f 4 (by decide)
       have H4 : Hid (StAt _ S (.slice ad S.slots.length cap) (.slice ad2 S.ends.length cap2)) := HI5.out.rows.store HI5.out.rs.ty (.string S.tab) (.int .i64 S.clock) (.int .i64 S.next) (.slice ad S.slots.length cap) (.slice ad2 S.ends.length cap2)
       clear f HX5 HA5
       go_wp2_with fail
       refine bodyPost_ret (v := .tuple #[stV S (.slice ad S.slots.length cap) (.slice ad2 S.ends.length cap2), .int .i64 ((log.size : Int) - (r.size : Int))]) (by simp [results, Tryz.results57, go_sem, r0, r1, r2, r3, r4]) rfl ?_
       exact ⟨_, _, _, _, _, rfl, H4.out, HN.out, by omega, below_set5 HI5.out.bel (Nat.le_refl _) _ _ _ _ _⟩
      ·have HQ2 : Hid (SayQ log false t more) := HQ.out.next HNx.out (Hd1.out rfl)
       have HI6 : Hid (SayI w _ q t (.slice ad3 t.slots.length cap3) (.slice ad4 t.ends.length cap4)) := HI5.out.new hRq HA5.out
       obtain ⟨⟨c0, c1, c2, c3, c4⟩, qf, _⟩ := HI5.out.st
       obtain ⟨⟨x0, x1, x2, x3, x4⟩, _, _⟩ := HX5.out
       have qf0 := qf 0 (by decide); have qf1 := qf 1 (by decide); have qf2 := qf 2 (by decide); have qf3 := qf 3 (by decide); have qf4 := qf 4 (by decide)
       have hql := HI5.out.st.ty.lt
       have hxl := HX5.out.ty.lt
       clear qf HI5 HX5 HA5
       go_wp2_with fail
       go_roundw
       case rel => exact ⟨false, t, more, _, _, rfl, HI6.out, HQ2.out⟩
       case measure => simp [strSize]; omega
end Go.Proofs.YtdajolpoiffimaaGreatDoor
