/-
  KBtw, KInt, KReop, SurvM, SurvM2.
-/
import Derived.Test.YtdajolpoiffimabGreatDoorC11
import Derived.Test.YtdajolpoiffimabGreatDoorC13

namespace Go.Proofs.YtdajolpoiffimabGreatDoor
open Go.RowKit

theorem below_set6s {n q : Nat} {w w' : World} (h : Below n w w') (hq : n ≤ q) (u0 u1 u2 u3 u4 u5 : Value) : Below n w ((((((w'.setCell ⟨q, 0, none⟩ u0).setCell ⟨q, 1, none⟩ u1).setCell ⟨q, 2, none⟩ u2).setCell ⟨q, 3, none⟩ u3).setCell ⟨q, 4, none⟩ u4).setCell ⟨q, 5, none⟩ u5) :=
  (((((h.setCell hq _).setCell hq _).setCell hq _).setCell hq _).setCell hq _).setCell hq _
theorem Cl.six {w : World} {q : Nat} {t : TypeId} (h : Cl w q t asZ) (u0 u1 u2 u3 u4 u5 : Value) : Cl ((((((w.setCell ⟨q, 0, none⟩ u0).setCell ⟨q, 1, none⟩ u1).setCell ⟨q, 2, none⟩ u2).setCell ⟨q, 3, none⟩ u3).setCell ⟨q, 4, none⟩ u4).setCell ⟨q, 5, none⟩ u5) q t [u0, u1, u2, u3, u4, u5] :=
  (((((h.set 0 (by simp) u0).set 1 (by simp) u1).set 2 (by simp) u2).set 3 (by simp) u3).set 4 (by simp) u4).set 5 (by simp) u5
/-- The cells of a slot of a row. -/
structure Yc (w : World) (b o : Nat) (y : Kp.Ts) : Prop where
  c0 : w.cell? ⟨b, o, none⟩ = some (.int .i64 y.num)
  c1 : w.cell? ⟨b, o + 1, none⟩ = some (.int .i64 y.line)
  c2 : w.cell? ⟨b, o + 2, none⟩ = some (.int .i64 y.minute)
  c3 : w.cell? ⟨b, o + 3, none⟩ = some (.int .i64 y.att)
  c4 : w.cell? ⟨b, o + 4, none⟩ = some (.int .i64 y.frm)
  c5 : w.cell? ⟨b, o + 5, none⟩ = some (.int .i64 y.step)
theorem Yc.later {w w' : World} {b o : Nat} {y : Kp.Ts} (h : Yc w b o y) (hb : Below w.heap.size w w') : Yc w' b o y := ⟨cell_later hb h.c0, cell_later hb h.c1, cell_later hb h.c2, cell_later hb h.c3, cell_later hb h.c4, cell_later hb h.c5⟩
/-- The three Snaps in memory. -/
structure Bt (w : World) (p : Nat) (a z r : Kp.Sn) (A A2 C C2 D D2 : Value) : Prop where
  ca : Cl w p 40 (snC a A A2)
  cz : Cl w (p + 1) 40 (snC z C C2)
  cr : Cl w (p + 2) 40 (snC r D D2)
  sa : SnAt w a A A2
  sz : SnAt w z C C2
  sr : SnAt w r D D2
theorem Bt.later {w w' : World} {p : Nat} {a z r : Kp.Sn} {A A2 C C2 D D2 : Value} (h : Bt w p a z r A A2 C C2 D D2) (hb : Below w.heap.size w w') : Bt w' p a z r A A2 C C2 D D2 := ⟨h.ca.later hb, h.cz.later hb, h.cr.later hb, h.sa.later hb, h.sz.later hb, h.sr.later hb⟩
theorem Bt.new (w : World) (a z r : Kp.Sn) (A A2 C C2 D D2 : Value) (ha : SnAt w a A A2) (hz : SnAt w z C C2) (hr : SnAt w r D D2) : Bt (((w.alloc (snO a A A2)).alloc (snO z C C2)).alloc (snO r D D2)) w.heap.size a z r A A2 C C2 D D2 := by
  have b1 := below_alloc w (snO a A A2)
  have b2 := below_alloc (w.alloc (snO a A A2)) (snO z C C2)
  have b3 := below_alloc ((w.alloc (snO a A A2)).alloc (snO z C C2)) (snO r D D2)
  have e1 : (w.alloc (snO a A A2)).heap.size = w.heap.size + 1 := by simp
  have e2 : ((w.alloc (snO a A A2)).alloc (snO z C C2)).heap.size = w.heap.size + 2 := by simp
  refine ⟨((Cl.new w (snC a A A2) _).later b2).later b3, ?_, ?_, ((ha.later b1).later b2).later b3, ((hz.later b1).later b2).later b3, ((hr.later b1).later b2).later b3⟩
  · have := (Cl.new (w.alloc (snO a A A2)) (snC z C C2) 40).later b3
    rw [e1] at this; exact this
  · have := Cl.new ((w.alloc (snO a A A2)).alloc (snO z C C2)) (snC r D D2) 40
    rw [e2] at this; exact this
theorem ofA_snd {s : Kp.Sn} {n : Int} : (Kp.ofA s n).2 = (Kp.fnd s n).isSome := by
  unfold Kp.ofA; cases Kp.fnd s n <;> rfl
theorem ofA_fst {s : Kp.Sn} {n : Int} {x : Kp.Ts} (h : Kp.fnd s n = some x) : Kp.ofA s n = (x, true) := by unfold Kp.ofA; rw [h]
set_option maxRecDepth 10000 in
set_option maxHeartbeats 40000000 in
theorem kbetween_any (a z r : Kp.Sn) (A A2 C C2 D D2 : Value) (w : World) (hla : a.slots.length ≤ 10000) (hlz : z.slots.length ≤ 10000) (hlr : r.slots.length ≤ 10000) (ha : SnAt w a A A2) (hz : SnAt w z C C2) (hr : SnAt w r D D2) (hB : Kp.Btw a z r) :
    Calls Tryz.prog 14 #[snV a A A2, snV z C C2, snV r D D2] w fun e w' => e = .returned (.bool true) ∧ Below w.heap.size w w' := by
  obtain ⟨ad, cap, rfl, _⟩ := ha.sl.form
  obtain ⟨ad2, cap2, rfl, _⟩ := ha.en.form
  obtain ⟨zd, zap, rfl, _⟩ := hz.sl.form
  obtain ⟨zd2, zap2, rfl, _⟩ := hz.en.form
  obtain ⟨rd, rap, rfl, _⟩ := hr.sl.form
  obtain ⟨rd2, rap2, rfl, _⟩ := hr.en.form
  have HBt : Hid (Kp.Btw a z r) := hB
  have HT0 := Bt.new w a z r (.slice ad a.slots.length cap) (.slice ad2 a.ends.length cap2) (.slice zd z.slots.length zap) (.slice zd2 z.ends.length zap2) (.slice rd r.slots.length rap) (.slice rd2 r.ends.length rap2) ha hz hr
  have hb0 := ((below_alloc w (snO a (.slice ad a.slots.length cap) (.slice ad2 a.ends.length cap2))).alloc (by simp) (snO z (.slice zd z.slots.length zap) (.slice zd2 z.ends.length zap2))).alloc (by simp; omega) (snO r (.slice rd r.slots.length rap) (.slice rd2 r.ends.length rap2))
  clear ha hz hr hB
  go_enter Tryz.func14, Tryz.ntmps14
  go_upto_region 1 with fail
  have HT' : Bt (((w.alloc (snO a (.slice ad a.slots.length cap) (.slice ad2 a.ends.length cap2))).alloc (snO z (.slice zd z.slots.length zap) (.slice zd2 z.ends.length zap2))).alloc (snO r (.slice rd r.slots.length rap) (.slice rd2 r.ends.length rap2))) w.heap.size a z r (.slice ad a.slots.length cap) (.slice ad2 a.ends.length cap2) (.slice zd z.slots.length zap) (.slice zd2 z.ends.length zap2) (.slice rd r.slots.length rap) (.slice rd2 r.ends.length rap2) := HT0
  clear HT0
  generalize (((w.alloc (snO a (.slice ad a.slots.length cap) (.slice ad2 a.ends.length cap2))).alloc (snO z (.slice zd z.slots.length zap) (.slice zd2 z.ends.length zap2))).alloc (snO r (.slice rd r.slots.length rap) (.slice rd2 r.ends.length rap2))) = W at *
  have HT : Hid (Bt W w.heap.size a z r (.slice ad a.slots.length cap) (.slice ad2 a.ends.length cap2) (.slice zd z.slots.length zap) (.slice zd2 z.ends.length zap2) (.slice rd r.slots.length rap) (.slice rd2 r.ends.length rap2)) := HT'
  have HB0 : Hid (Below w.heap.size w W) := hb0
  clear HT' hb0
  have a0 := (HT.out.ca).c 0 _ rfl
  have a1 := (HT.out.ca).c 1 _ rfl
  have a2 := (HT.out.ca).c 2 _ rfl
  have a3 := (HT.out.ca).c 3 _ rfl
  have a4 := (HT.out.ca).c 4 _ rfl
  have a5 := (HT.out.ca).c 5 _ rfl
  have a6 := (HT.out.ca).c 6 _ rfl
  have hal := (HT.out.ca).ty.lt
  have z0 := (HT.out.cz).c 0 _ rfl
  have z1 := (HT.out.cz).c 1 _ rfl
  have z2 := (HT.out.cz).c 2 _ rfl
  have z3 := (HT.out.cz).c 3 _ rfl
  have z4 := (HT.out.cz).c 4 _ rfl
  have z5 := (HT.out.cz).c 5 _ rfl
  have z6 := (HT.out.cz).c 6 _ rfl
  have hzl := (HT.out.cz).ty.lt
  have r0 := (HT.out.cr).c 0 _ rfl
  have r1 := (HT.out.cr).c 1 _ rfl
  have r2 := (HT.out.cr).c 2 _ rfl
  have r3 := (HT.out.cr).c 3 _ rfl
  have r4 := (HT.out.cr).c 4 _ rfl
  have r5 := (HT.out.cr).c 5 _ rfl
  have r6 := (HT.out.cr).c 6 _ rfl
  have hrl := (HT.out.cr).ty.lt
  have HCl : Hid (r.clock = a.clock ∨ (¬ r.clock = a.clock ∧ r.clock = z.clock)) := by
    unfold Hid
    by_cases e : r.clock = a.clock
    · exact Or.inl e
    · exact Or.inr ⟨e, HBt.out.clk.resolve_left e⟩
  have HNx : Hid (r.next = a.next ∨ (¬ r.next = a.next ∧ r.next = z.next)) := by
    unfold Hid
    by_cases e : r.next = a.next
    · exact Or.inl e
    · exact Or.inr ⟨e, HBt.out.nxt.resolve_left e⟩
  have htb := HBt.out.tab
  rw [← htb] at z4
  clear htb
  go_cut [64] from 22 to 63 (fun s1 wx => s1 = .bool false ∧ wx = W)
  case first =>
    rcases HCl.out with e | ⟨e, e'⟩
    all_goals
      rcases HNx.out with h | ⟨h, h'⟩
    · rw [← e] at a0
      rw [← h] at a1
      clear e h HCl HNx
      go_wp2_with fail
      go_meet
      exact ⟨rfl, rfl⟩
    · rw [← e] at a0
      rw [← h'] at z1
      have hd2 : (r.next != a.next) = true := by simpa using h
      clear e h h' HCl HNx
      go_wp2_with fail
      go_meet
      exact ⟨rfl, rfl⟩
    · have hd1 : (r.clock != a.clock) = true := by simpa using e
      rw [← e'] at z0
      rw [← h] at a1
      clear e e' h HCl HNx
      go_wp2_with fail
      go_meet
      exact ⟨rfl, rfl⟩
    · have hd1 : (r.clock != a.clock) = true := by simpa using e
      rw [← e'] at z0
      have hd2 : (r.next != a.next) = true := by simpa using h
      rw [← h'] at z1
      clear e e' h h' HCl HNx
      go_wp2_with fail
      go_meet
      exact ⟨rfl, rfl⟩
  case rest =>
    obtain ⟨rfl, hwc⟩ := hcut
    have hwc' := hwc.symm
    subst hwc'
    clear hwc
    clear HCl HNx
    clear a0 a1 a2 a3 a4 a5 a6 z0 z1 z2 z3 z4 z5 z6 r0 r1 r2 r3 r4 r5 r6 hal hzl hrl
    go_wp2_with fail
    go_loopw [7] (fun i wr => ∃ k : Nat, k ≤ r.slots.length ∧ i = .int .i64 k ∧ Below W.heap.size W wr) (fun i _ => r.slots.length - (intOf i).toNat)
    case atStart => exact ⟨0, Nat.zero_le _, rfl, Below.refl _ _⟩
    case round =>
      rename World => wa
      obtain ⟨k, hk, rfl, hbr⟩ := hrel
      have HBa : Hid (Below W.heap.size W wa) := hbr
      have HTW := HT
      clear HT
      have HT : Hid (Bt wa w.heap.size a z r (.slice ad a.slots.length cap) (.slice ad2 a.ends.length cap2) (.slice zd z.slots.length zap) (.slice zd2 z.ends.length zap2) (.slice rd r.slots.length rap) (.slice rd2 r.ends.length rap2)) := HTW.out.later hbr
      clear hbr
      by_cases hlt : k < r.slots.length
      · obtain ⟨eb, off, cap', hv, _, hc⟩ := HT.out.sr.sl.1.some' (by omega)
        cases hv
        obtain ⟨d0, d1, d2, d3, d4, d5⟩ := ts_cells hc k hlt
        clear hc
        have b1 : (0 : Int) ≤ (k : Int) := by omega
        have b2 : (k : Int) < (r.slots.length : Int) := by omega
        have HSl : Hid ((∃ x, Kp.fnd a r.slots[k].num = some x ∧ r.slots[k] = Kp.stillT x) ∨ (∃ x, Kp.fnd z r.slots[k].num = some x ∧ r.slots[k] = Kp.stillT x)) := HBt.out.sl _ (List.getElem_mem hlt)
        generalize r.slots[k] = y at *
        have HT2 : Hid (Bt wa w.heap.size a z r (.slice ad a.slots.length cap) (.slice ad2 a.ends.length cap2) (.slice zd z.slots.length zap) (.slice zd2 z.ends.length zap2) (.slice (some ⟨eb, off, none⟩) r.slots.length rap) (.slice rd2 r.ends.length rap2)) := HT.out
        clear HT
        have HT := HT2
        clear HT2
        have a0 := (HT.out.ca).c 0 _ rfl
        have a1 := (HT.out.ca).c 1 _ rfl
        have a2 := (HT.out.ca).c 2 _ rfl
        have a3 := (HT.out.ca).c 3 _ rfl
        have a4 := (HT.out.ca).c 4 _ rfl
        have a5 := (HT.out.ca).c 5 _ rfl
        have a6 := (HT.out.ca).c 6 _ rfl
        have hal := (HT.out.ca).ty.lt
        have r0 := (HT.out.cr).c 0 _ rfl
        have r1 := (HT.out.cr).c 1 _ rfl
        have r2 := (HT.out.cr).c 2 _ rfl
        have r3 := (HT.out.cr).c 3 _ rfl
        have r4 := (HT.out.cr).c 4 _ rfl
        have r5 := (HT.out.cr).c 5 _ rfl
        have r6 := (HT.out.cr).c 6 _ rfl
        have hrl := (HT.out.cr).ty.lt
        have hebl : eb < wa.heap.size := World.block_lt_of_cell? _ _ d0
        have HSd : Hid (SnAt wa.drew a (.slice ad a.slots.length cap) (.slice ad2 a.ends.length cap2)) := (HT.out.sa).later (Below.refl _ _).drew
        have HSd2 : Hid (SnAt (wa.alloc (.cells #[.int .i64 0, .int .i64 0, .int .i64 0, .int .i64 0, .int .i64 0, .int .i64 0] 81)).drew a (.slice ad a.slots.length cap) (.slice ad2 a.ends.length cap2)) := ((HT.out.sa).later (below_alloc _ _)).later (Below.refl _ _).drew
        go_wp2_with fail
        go_cut [8, 9] from 65 to 121 (fun s1 s2 wx => ∃ q, s1 = .pointer (some ⟨q, 0, none⟩) ∧ s2 = .bool (Kp.ofA a y.num).2 ∧ Below wa.heap.size wa wx ∧ Cl wx q 81 (tsC (Kp.ofA a y.num).1))
        case first =>
          go_region_held3 (fun w' => ∀ b o, b < wa.heap.size → w'.cell? ⟨b, o, none⟩ = wa.cell? ⟨b, o, none⟩)
            ((intro b' o' h1; first | (with_reducible exact (below_set6s hbB (Nat.le_refl _) _ _ _ _ _ _).cell (p := ⟨b', o', none⟩) h1) | (with_reducible exact (hbA.trans ((below_alloc w2 _).mono hbA.size)).cell (p := ⟨b', o', none⟩) h1) | (with_reducible exact hbB.cell (p := ⟨b', o', none⟩) h1) | (with_reducible exact hbA.cell (p := ⟨b', o', none⟩) h1) | (with_reducible exact ((below_alloc wa _).drew).cell (p := ⟨b', o', none⟩) h1) | (with_reducible exact (below_alloc wa _).cell (p := ⟨b', o', none⟩) h1) | (with_reducible exact ((Below.refl _ _).drew).cell (p := ⟨b', o', none⟩) h1) | rfl))
            (first
            | (go_at_call 36; refine (kof_any a (.slice ad a.slots.length cap) (.slice ad2 a.ends.length cap2) y.num wa.drew hla HSd.out).mono ?_; rintro e w2 ⟨rfl, hb2⟩; have hbA : Below wa.heap.size wa w2 := (Below.refl _ _).drew.trans hb2)
            | (go_at_call 36; refine (kof_any a (.slice ad a.slots.length cap) (.slice ad2 a.ends.length cap2) y.num (wa.alloc (.cells #[.int .i64 0, .int .i64 0, .int .i64 0, .int .i64 0, .int .i64 0, .int .i64 0] 81)).drew hla HSd2.out).mono ?_; rintro e w2 ⟨rfl, hb2⟩; have hbB : Below wa.heap.size wa w2 := (below_alloc _ _).drew.trans (hb2.mono (by simp)); have hZ := ((Cl.new wa asZ 81).later (Below.refl _ _).drew).later hb2; have HZ : Hid (Cl w2 wa.heap.size 81 asZ) := hZ; have z0 := hZ.c 0 _ rfl; have z1 := hZ.c 1 _ rfl; have z2 := hZ.c 2 _ rfl; have z3 := hZ.c 3 _ rfl; have z4 := hZ.c 4 _ rfl; have z5 := hZ.c 5 _ rfl; have zf0 := hZ.f 0 (by simp); have zf1 := hZ.f 1 (by simp); have zf2 := hZ.f 2 (by simp); have zf3 := hZ.f 3 (by simp); have zf4 := hZ.f 4 (by simp); have zf5 := hZ.f 5 (by simp); have hzl := hZ.ty.lt; clear hZ))
          all_goals (go_wp2_with fail; go_meet)
          all_goals (first | (have hgo := hbA; exact ⟨_, rfl, rfl, hgo.trans ((below_alloc _ _).mono hgo.size), Cl.new w2 (tsC (Kp.ofA a y.num).1) 81⟩) | exact ⟨_, rfl, rfl, below_set6s hbB (Nat.le_refl _) _ _ _ _ _ _, HZ.out.six _ _ _ _ _ _⟩)
        case rest =>
          obtain ⟨q1, rfl, rfl, hb1, hq1⟩ := hcut
          rename World => wb
          have HBb : Hid (Below W.heap.size W wb) := HBa.out.trans (hb1.mono HBa.out.size)
          have HQ1 : Hid (Cl wb q1 81 (tsC (Kp.ofA a y.num).1)) := hq1
          have HTb : Hid (Bt wb w.heap.size a z r (.slice ad a.slots.length cap) (.slice ad2 a.ends.length cap2) (.slice zd z.slots.length zap) (.slice zd2 z.ends.length zap2) (.slice (some ⟨eb, off, none⟩) r.slots.length rap) (.slice rd2 r.ends.length rap2)) := HT.out.later hb1
          replace d0 := cell_later hb1 d0; replace d1 := cell_later hb1 d1; replace d2 := cell_later hb1 d2; replace d3 := cell_later hb1 d3; replace d4 := cell_later hb1 d4; replace d5 := cell_later hb1 d5
          clear hebl HSd HSd2 a0 a1 a2 a3 a4 a5 a6 r0 r1 r2 r3 r4 r5 r6 hal hrl hb1 hq1 HT
          have HT := HTb
          clear HTb
          have z0 := (HT.out.cz).c 0 _ rfl
          have z1 := (HT.out.cz).c 1 _ rfl
          have z2 := (HT.out.cz).c 2 _ rfl
          have z3 := (HT.out.cz).c 3 _ rfl
          have z4 := (HT.out.cz).c 4 _ rfl
          have z5 := (HT.out.cz).c 5 _ rfl
          have z6 := (HT.out.cz).c 6 _ rfl
          have hzl := (HT.out.cz).ty.lt
          have r0 := (HT.out.cr).c 0 _ rfl
          have r1 := (HT.out.cr).c 1 _ rfl
          have r2 := (HT.out.cr).c 2 _ rfl
          have r3 := (HT.out.cr).c 3 _ rfl
          have r4 := (HT.out.cr).c 4 _ rfl
          have r5 := (HT.out.cr).c 5 _ rfl
          have r6 := (HT.out.cr).c 6 _ rfl
          have hrl := (HT.out.cr).ty.lt
          have hebl : eb < wb.heap.size := World.block_lt_of_cell? _ _ d0
          have HSd : Hid (SnAt wb.drew z (.slice zd z.slots.length zap) (.slice zd2 z.ends.length zap2)) := (HT.out.sz).later (Below.refl _ _).drew
          have HSd2 : Hid (SnAt (wb.alloc (.cells #[.int .i64 0, .int .i64 0, .int .i64 0, .int .i64 0, .int .i64 0, .int .i64 0] 81)).drew z (.slice zd z.slots.length zap) (.slice zd2 z.ends.length zap2)) := ((HT.out.sz).later (below_alloc _ _)).later (Below.refl _ _).drew
          go_wp2_with fail
          go_cut [10, 11] from 65 to 121 (fun s1 s2 wx => ∃ q, s1 = .pointer (some ⟨q, 0, none⟩) ∧ s2 = .bool (Kp.ofA z y.num).2 ∧ Below wb.heap.size wb wx ∧ Cl wx q 81 (tsC (Kp.ofA z y.num).1))
          case first =>
            go_region_held3 (fun w' => ∀ b o, b < wb.heap.size → w'.cell? ⟨b, o, none⟩ = wb.cell? ⟨b, o, none⟩)
              ((intro b' o' h1; first | (with_reducible exact (below_set6s hbB (Nat.le_refl _) _ _ _ _ _ _).cell (p := ⟨b', o', none⟩) h1) | (with_reducible exact (hbA.trans ((below_alloc w2 _).mono hbA.size)).cell (p := ⟨b', o', none⟩) h1) | (with_reducible exact hbB.cell (p := ⟨b', o', none⟩) h1) | (with_reducible exact hbA.cell (p := ⟨b', o', none⟩) h1) | (with_reducible exact ((below_alloc wb _).drew).cell (p := ⟨b', o', none⟩) h1) | (with_reducible exact (below_alloc wb _).cell (p := ⟨b', o', none⟩) h1) | (with_reducible exact ((Below.refl _ _).drew).cell (p := ⟨b', o', none⟩) h1) | rfl))
              (first
              | (go_at_call 36; refine (kof_any z (.slice zd z.slots.length zap) (.slice zd2 z.ends.length zap2) y.num wb.drew hlz HSd.out).mono ?_; rintro e w2 ⟨rfl, hb2⟩; have hbA : Below wb.heap.size wb w2 := (Below.refl _ _).drew.trans hb2)
              | (go_at_call 36; refine (kof_any z (.slice zd z.slots.length zap) (.slice zd2 z.ends.length zap2) y.num (wb.alloc (.cells #[.int .i64 0, .int .i64 0, .int .i64 0, .int .i64 0, .int .i64 0, .int .i64 0] 81)).drew hlz HSd2.out).mono ?_; rintro e w2 ⟨rfl, hb2⟩; have hbB : Below wb.heap.size wb w2 := (below_alloc _ _).drew.trans (hb2.mono (by simp)); have hZ := ((Cl.new wb asZ 81).later (Below.refl _ _).drew).later hb2; have HZ : Hid (Cl w2 wb.heap.size 81 asZ) := hZ; have z0 := hZ.c 0 _ rfl; have z1 := hZ.c 1 _ rfl; have z2 := hZ.c 2 _ rfl; have z3 := hZ.c 3 _ rfl; have z4 := hZ.c 4 _ rfl; have z5 := hZ.c 5 _ rfl; have zf0 := hZ.f 0 (by simp); have zf1 := hZ.f 1 (by simp); have zf2 := hZ.f 2 (by simp); have zf3 := hZ.f 3 (by simp); have zf4 := hZ.f 4 (by simp); have zf5 := hZ.f 5 (by simp); have hzl := hZ.ty.lt; clear hZ))
            all_goals (go_wp2_with fail; go_meet)
            all_goals (first | (have hgo := hbA; exact ⟨_, rfl, rfl, hgo.trans ((below_alloc _ _).mono hgo.size), Cl.new w2 (tsC (Kp.ofA z y.num).1) 81⟩) | exact ⟨_, rfl, rfl, below_set6s hbB (Nat.le_refl _) _ _ _ _ _ _, HZ.out.six _ _ _ _ _ _⟩)
          case rest =>
            obtain ⟨q2, rfl, rfl, hb2, hq2⟩ := hcut
            rename World => wc
            have HBc : Hid (Below W.heap.size W wc) := HBb.out.trans (hb2.mono HBb.out.size)
            have hq1 := HQ1.out.later hb2
            have HTc : Hid (Bt wc w.heap.size a z r (.slice ad a.slots.length cap) (.slice ad2 a.ends.length cap2) (.slice zd z.slots.length zap) (.slice zd2 z.ends.length zap2) (.slice (some ⟨eb, off, none⟩) r.slots.length rap) (.slice rd2 r.ends.length rap2)) := HT.out.later hb2
            replace d0 := cell_later hb2 d0; replace d1 := cell_later hb2 d1; replace d2 := cell_later hb2 d2; replace d3 := cell_later hb2 d3; replace d4 := cell_later hb2 d4; replace d5 := cell_later hb2 d5
            clear hebl HSd HSd2 z0 z1 z2 z3 z4 z5 z6 r0 r1 r2 r3 r4 r5 r6 hzl hrl hb2 HT HQ1
            have HT := HTc
            clear HTc
            have HQ2 : Hid (Cl wc q2 81 (tsC (Kp.ofA z y.num).1)) := hq2
            have HY : Hid (Yc wc eb (off + k * 6) y) := ⟨d0, d1, d2, d3, d4, d5⟩
            have HQ1c : Hid (Cl wc q1 81 (tsC (Kp.ofA a y.num).1)) := hq1
            clear hq1 hq2 d0 d1 d2 d3 d4 d5
            clear HBb
            cases hfa : Kp.fnd a y.num with
            | none =>
              have hofa : Kp.ofA a y.num = (Kp.ts0, false) := by unfold Kp.ofA; rw [hfa]
              rw [hofa]
              clear HQ1c
              cases hfz : Kp.fnd z y.num with
              | none => exact absurd HSl.out (by unfold Hid at HSl; rw [hfa, hfz]; rintro (⟨x, h, _⟩ | ⟨x, h, _⟩) <;> cases h)
              | some za =>
                have hor : ∃ x, Kp.fnd z y.num = some x ∧ y = Kp.stillT x := (HSl.out).resolve_left (fun ⟨x, h, _⟩ => by rw [hfa] at h; cases h)
                obtain ⟨x, hx1, hx2⟩ := hor
                rw [hfz] at hx1
                cases hx1
                clear HSl hfa hofa
                have hnumz := (Kp.fnd_some hfz).2
                rw [ofA_fst hfz] at HQ2 ⊢
                obtain ⟨zn, zl, zm, zt, zf, zs⟩ := za
                simp only at hnumz
                subst hnumz
                have HQnz : Hid (Cl wc q2 81 [.int .i64 y.num, .int .i64 zl, .int .i64 zm, .int .i64 zt, .int .i64 zf, .int .i64 zs]) := HQ2.out
                clear HQ2
                clear hfz
                have k1 : y.line = zl := congrArg Kp.Ts.line hx2
                have k2 : y.minute = zm := congrArg Kp.Ts.minute hx2
                have k3 : y.att = zt := congrArg Kp.Ts.att hx2
                have k4 : y.frm = zf := congrArg Kp.Ts.frm hx2
                have HS5 : Hid (y.step = 0) := congrArg Kp.Ts.step hx2
                clear hx2
                subst k1 k2 k3 k4
                go_wp2_with fail
                go_quiet (fail)
                have hbq : Below wc.heap.size wc (wc.drewN nq) := below_drewN (Below.refl _ _) nq
                have HBn : Hid (Below W.heap.size W (wc.drewN nq)) := HBc.out.trans (hbq.mono HBc.out.size)
                have HTn : Hid (Bt (wc.drewN nq) w.heap.size a z r _ _ _ _ _ _) := HT.out.later hbq
                have HYn : Hid (Yc (wc.drewN nq) eb (off + k * 6) y) := HY.out.later hbq
                have HOn : Hid (Cl (wc.drewN nq) q2 81 [.int .i64 y.num, .int .i64 y.line, .int .i64 y.minute, .int .i64 y.att, .int .i64 y.frm, .int .i64 zs]) := HQnz.out.later hbq
                clear hbq HBc HT HY HQnz
                generalize wc.drewN nq = wd at *
                have HBc := HBn
                have HT := HTn
                have HY := HYn
                have HQnz := HOn
                clear HBn HTn HYn HOn
                obtain ⟨d0, d1, d2, d3, d4, d5⟩ := HY.out
                have hebl : eb < wd.heap.size := World.block_lt_of_cell? _ _ d0
                have r5 := HT.out.cr.c 5 _ rfl
                have hrl := HT.out.cr.ty.lt
                have x0 := HQnz.out.c 0 _ rfl; have x1 := HQnz.out.c 1 _ rfl; have x2 := HQnz.out.c 2 _ rfl; have x3 := HQnz.out.c 3 _ rfl; have x4 := HQnz.out.c 4 _ rfl; have x5 := HQnz.out.c 5 _ rfl
                have hxl := HQnz.out.ty.lt
                have CS : Hid (∀ w : World, Below wd.heap.size wd w → Calls Tryz.prog 35 #[.agg #[.int .i64 y.num, .int .i64 y.line, .int .i64 y.minute, .int .i64 y.att, .int .i64 y.frm, .int .i64 zs]] w fun e w' => e = .returned (.agg #[.int .i64 y.num, .int .i64 y.line, .int .i64 y.minute, .int .i64 y.att, .int .i64 y.frm, .int .i64 0]) ∧ Below wd.heap.size wd w') := fun w hb => (kstill_any ⟨y.num, y.line, y.minute, y.att, y.frm, zs⟩ w).mono fun _ _ h => ⟨h.1, hb.trans (h.2.mono hb.size)⟩
                go_wp2_with fail
                go_cut [13] from 65 to 121 (fun s1 wx => s1 = .bool true ∧ Below wd.heap.size wd wx)
                case' first =>
                  rw [HS5.out] at d5
                  go_region_held3 (fun w' => ∀ b o, b < wd.heap.size → w'.cell? ⟨b, o, none⟩ = wd.cell? ⟨b, o, none⟩)
                    ((intro b' o' h1; first | (with_reducible exact hbC.cell (p := ⟨b', o', none⟩) h1) | (with_reducible exact ((Below.refl _ _).drew).cell (p := ⟨b', o', none⟩) h1) | rfl))
                    ((go_at_call 35; with_reducible refine (CS.out _ ?hb).mono ?_; (case hb => first | exact (Below.refl _ _).drew | exact Below.refl _ _); rintro e w5 ⟨rfl, hbC⟩))
                  go_wp2_with fail
                  go_meet
                  exact ⟨rfl, hbC⟩
                case' rest =>
                  obtain ⟨rfl, hb5⟩ := hcut
                  rename World => we
                  have HBn : Hid (Below W.heap.size W we) := HBc.out.trans (hb5.mono HBc.out.size)
                  have HTn : Hid (Bt we w.heap.size a z r _ _ _ _ _ _) := HT.out.later hb5
                  have HYn : Hid (Yc we eb (off + k * 6) y) := HY.out.later hb5
                  clear x0 x1 x2 x3 x4 x5 hxl r5 hrl hebl d0 d1 d2 d3 d4 d5 hb5 HBc HT HY CS
                  have HBc := HBn
                  have HT := HTn
                  have HY := HYn
                  clear HBn HTn HYn
                  clear HT HY
                  go_wp2_with fail
                  go_roundw
                  case rel => exact ⟨k + 1, by omega, by go_num, HBc.out⟩
                  case measure => simp [intOf]; omega
            | some xa =>
              have hnumx := (Kp.fnd_some hfa).2
              rw [ofA_fst hfa] at HQ1c ⊢
              obtain ⟨xn, xl, xm, xt, xf, xs⟩ := xa
              simp only at hnumx
              subst hnumx
              have HQnx : Hid (Cl wc q1 81 [.int .i64 y.num, .int .i64 xl, .int .i64 xm, .int .i64 xt, .int .i64 xf, .int .i64 xs]) := HQ1c.out
              clear HQ1c
              cases hfz : Kp.fnd z y.num with
              | none =>
                have hofz : Kp.ofA z y.num = (Kp.ts0, false) := by unfold Kp.ofA; rw [hfz]
                rw [hofz]
                clear HQ2
                have hor : ∃ x, Kp.fnd a y.num = some x ∧ y = Kp.stillT x := (HSl.out).resolve_right (fun ⟨x, h, _⟩ => by rw [hfz] at h; cases h)
                obtain ⟨x, hx1, hx2⟩ := hor
                rw [hfa] at hx1
                cases hx1
                clear HSl hfa hfz hofz
                have k1 : y.line = xl := congrArg Kp.Ts.line hx2
                have k2 : y.minute = xm := congrArg Kp.Ts.minute hx2
                have k3 : y.att = xt := congrArg Kp.Ts.att hx2
                have k4 : y.frm = xf := congrArg Kp.Ts.frm hx2
                have HS5 : Hid (y.step = 0) := congrArg Kp.Ts.step hx2
                clear hx2
                subst k1 k2 k3 k4
                obtain ⟨d0, d1, d2, d3, d4, d5⟩ := HY.out
                have hebl : eb < wc.heap.size := World.block_lt_of_cell? _ _ d0
                have r5 := HT.out.cr.c 5 _ rfl
                have hrl := HT.out.cr.ty.lt
                have x0 := HQnx.out.c 0 _ rfl; have x1 := HQnx.out.c 1 _ rfl; have x2 := HQnx.out.c 2 _ rfl; have x3 := HQnx.out.c 3 _ rfl; have x4 := HQnx.out.c 4 _ rfl; have x5 := HQnx.out.c 5 _ rfl
                have hxl := HQnx.out.ty.lt
                have CS : Hid (∀ w : World, Below wc.heap.size wc w → Calls Tryz.prog 35 #[.agg #[.int .i64 y.num, .int .i64 y.line, .int .i64 y.minute, .int .i64 y.att, .int .i64 y.frm, .int .i64 xs]] w fun e w' => e = .returned (.agg #[.int .i64 y.num, .int .i64 y.line, .int .i64 y.minute, .int .i64 y.att, .int .i64 y.frm, .int .i64 0]) ∧ Below wc.heap.size wc w') := fun w hb => (kstill_any ⟨y.num, y.line, y.minute, y.att, y.frm, xs⟩ w).mono fun _ _ h => ⟨h.1, hb.trans (h.2.mono hb.size)⟩
                go_wp2_with fail
                go_cut [12] from 65 to 121 (fun s1 wx => s1 = .bool true ∧ Below wc.heap.size wc wx)
                case' first =>
                  rw [HS5.out] at d5
                  go_region_held3 (fun w' => ∀ b o, b < wc.heap.size → w'.cell? ⟨b, o, none⟩ = wc.cell? ⟨b, o, none⟩)
                    ((intro b' o' h1; first | (with_reducible exact hbC.cell (p := ⟨b', o', none⟩) h1) | (with_reducible exact ((Below.refl _ _).drew).cell (p := ⟨b', o', none⟩) h1) | rfl))
                    ((go_at_call 35; with_reducible refine (CS.out _ ?hb).mono ?_; (case hb => first | exact (Below.refl _ _).drew | exact Below.refl _ _); rintro e w5 ⟨rfl, hbC⟩))
                  go_wp2_with fail
                  go_meet
                  exact ⟨rfl, hbC⟩
                case' rest =>
                  obtain ⟨rfl, hb5⟩ := hcut
                  rename World => wd
                  have HBn : Hid (Below W.heap.size W wd) := HBc.out.trans (hb5.mono HBc.out.size)
                  have HTn : Hid (Bt wd w.heap.size a z r _ _ _ _ _ _) := HT.out.later hb5
                  have HYn : Hid (Yc wd eb (off + k * 6) y) := HY.out.later hb5
                  clear x0 x1 x2 x3 x4 x5 hxl r5 hrl hebl d0 d1 d2 d3 d4 d5 hb5 HBc HT HY CS
                  have HBc := HBn
                  have HT := HTn
                  have HY := HYn
                  clear HBn HTn HYn
                  go_wp2_with fail
                  go_quiet (fail)
                  have hbq : Below wd.heap.size wd (wd.drewN nq) := below_drewN (Below.refl _ _) nq
                  have HBn : Hid (Below W.heap.size W (wd.drewN nq)) := HBc.out.trans (hbq.mono HBc.out.size)
                  have HTn : Hid (Bt (wd.drewN nq) w.heap.size a z r _ _ _ _ _ _) := HT.out.later hbq
                  have HYn : Hid (Yc (wd.drewN nq) eb (off + k * 6) y) := HY.out.later hbq
                  clear hbq HBc HT HY
                  generalize wd.drewN nq = we at *
                  have HBc := HBn
                  have HT := HTn
                  have HY := HYn
                  clear HBn HTn HYn
                  clear HT HY
                  go_wp2_with fail
                  go_roundw
                  case rel => exact ⟨k + 1, by omega, by go_num, HBc.out⟩
                  case measure => simp [intOf]; omega
              | some za =>
                have hnumz := (Kp.fnd_some hfz).2
                rw [ofA_fst hfz] at HQ2 ⊢
                obtain ⟨zn, zl, zm, zt, zf, zs⟩ := za
                simp only at hnumz
                subst hnumz
                have HQnz : Hid (Cl wc q2 81 [.int .i64 y.num, .int .i64 zl, .int .i64 zm, .int .i64 zt, .int .i64 zf, .int .i64 zs]) := HQ2.out
                clear HQ2
                rcases HSl.out with ⟨x, hx1, hx2⟩ | ⟨x, hx1, hx2⟩
                · rw [hfa] at hx1
                  cases hx1
                  clear HSl hfa hfz
                  have k1 : y.line = xl := congrArg Kp.Ts.line hx2
                  have k2 : y.minute = xm := congrArg Kp.Ts.minute hx2
                  have k3 : y.att = xt := congrArg Kp.Ts.att hx2
                  have k4 : y.frm = xf := congrArg Kp.Ts.frm hx2
                  have HS5 : Hid (y.step = 0) := congrArg Kp.Ts.step hx2
                  clear hx2
                  subst k1 k2 k3 k4
                  obtain ⟨d0, d1, d2, d3, d4, d5⟩ := HY.out
                  have hebl : eb < wc.heap.size := World.block_lt_of_cell? _ _ d0
                  have r5 := HT.out.cr.c 5 _ rfl
                  have hrl := HT.out.cr.ty.lt
                  have x0 := HQnx.out.c 0 _ rfl; have x1 := HQnx.out.c 1 _ rfl; have x2 := HQnx.out.c 2 _ rfl; have x3 := HQnx.out.c 3 _ rfl; have x4 := HQnx.out.c 4 _ rfl; have x5 := HQnx.out.c 5 _ rfl
                  have hxl := HQnx.out.ty.lt
                  have CS : Hid (∀ w : World, Below wc.heap.size wc w → Calls Tryz.prog 35 #[.agg #[.int .i64 y.num, .int .i64 y.line, .int .i64 y.minute, .int .i64 y.att, .int .i64 y.frm, .int .i64 xs]] w fun e w' => e = .returned (.agg #[.int .i64 y.num, .int .i64 y.line, .int .i64 y.minute, .int .i64 y.att, .int .i64 y.frm, .int .i64 0]) ∧ Below wc.heap.size wc w') := fun w hb => (kstill_any ⟨y.num, y.line, y.minute, y.att, y.frm, xs⟩ w).mono fun _ _ h => ⟨h.1, hb.trans (h.2.mono hb.size)⟩
                  go_wp2_with fail
                  go_cut [12] from 65 to 121 (fun s1 wx => s1 = .bool true ∧ Below wc.heap.size wc wx)
                  case' first =>
                    rw [HS5.out] at d5
                    go_region_held3 (fun w' => ∀ b o, b < wc.heap.size → w'.cell? ⟨b, o, none⟩ = wc.cell? ⟨b, o, none⟩)
                      ((intro b' o' h1; first | (with_reducible exact hbC.cell (p := ⟨b', o', none⟩) h1) | (with_reducible exact ((Below.refl _ _).drew).cell (p := ⟨b', o', none⟩) h1) | rfl))
                      ((go_at_call 35; with_reducible refine (CS.out _ ?hb).mono ?_; (case hb => first | exact (Below.refl _ _).drew | exact Below.refl _ _); rintro e w5 ⟨rfl, hbC⟩))
                    go_wp2_with fail
                    go_meet
                    exact ⟨rfl, hbC⟩
                  case' rest =>
                    obtain ⟨rfl, hb5⟩ := hcut
                    rename World => wd
                    have HBn : Hid (Below W.heap.size W wd) := HBc.out.trans (hb5.mono HBc.out.size)
                    have HTn : Hid (Bt wd w.heap.size a z r _ _ _ _ _ _) := HT.out.later hb5
                    have HYn : Hid (Yc wd eb (off + k * 6) y) := HY.out.later hb5
                    have HOn : Hid (Cl wd q2 81 [.int .i64 y.num, .int .i64 zl, .int .i64 zm, .int .i64 zt, .int .i64 zf, .int .i64 zs]) := HQnz.out.later hb5
                    clear x0 x1 x2 x3 x4 x5 hxl r5 hrl hebl d0 d1 d2 d3 d4 d5 hb5 HBc HT HY CS HQnz
                    have HBc := HBn
                    have HT := HTn
                    have HY := HYn
                    have HQnz := HOn
                    clear HBn HTn HYn HOn
                    obtain ⟨d0, d1, d2, d3, d4, d5⟩ := HY.out
                    have hebl : eb < wd.heap.size := World.block_lt_of_cell? _ _ d0
                    have r5 := HT.out.cr.c 5 _ rfl
                    have hrl := HT.out.cr.ty.lt
                    have x0 := HQnz.out.c 0 _ rfl; have x1 := HQnz.out.c 1 _ rfl; have x2 := HQnz.out.c 2 _ rfl; have x3 := HQnz.out.c 3 _ rfl; have x4 := HQnz.out.c 4 _ rfl; have x5 := HQnz.out.c 5 _ rfl
                    have hxl := HQnz.out.ty.lt
                    have CS : Hid (∀ w : World, Below wd.heap.size wd w → Calls Tryz.prog 35 #[.agg #[.int .i64 y.num, .int .i64 zl, .int .i64 zm, .int .i64 zt, .int .i64 zf, .int .i64 zs]] w fun e w' => e = .returned (.agg #[.int .i64 y.num, .int .i64 zl, .int .i64 zm, .int .i64 zt, .int .i64 zf, .int .i64 0]) ∧ Below wd.heap.size wd w') := fun w hb => (kstill_any ⟨y.num, zl, zm, zt, zf, zs⟩ w).mono fun _ _ h => ⟨h.1, hb.trans (h.2.mono hb.size)⟩
                    go_wp2_with fail
                    go_cut [13] from 65 to 121 (fun s1 wx => ∃ β : Bool, s1 = .bool β ∧ Below wd.heap.size wd wx)
                    case' first =>
                      by_cases h1 : y.line = zl
                      · subst h1
                        by_cases h2 : y.minute = zm
                        · subst h2
                          by_cases h3 : y.att = zt
                          · subst h3
                            by_cases h4 : y.frm = zf
                            · subst h4
                              by_cases h5 : y.step = 0
                              · rw [h5] at d5
                                clear h5
                                go_region_held3 (fun w' => ∀ b o, b < wd.heap.size → w'.cell? ⟨b, o, none⟩ = wd.cell? ⟨b, o, none⟩)
                                  ((intro b' o' h1; first | (with_reducible exact hbC.cell (p := ⟨b', o', none⟩) h1) | (with_reducible exact ((Below.refl _ _).drew).cell (p := ⟨b', o', none⟩) h1) | rfl))
                                  ((go_at_call 35; with_reducible refine (CS.out _ ?hb).mono ?_; (case hb => first | exact (Below.refl _ _).drew | exact Below.refl _ _); rintro e w5 ⟨rfl, hbC⟩))
                                go_wp2_with fail
                                go_meet
                                exact ⟨true, rfl, hbC⟩
                              · have hd5 : (y.step == 0) = false := by rw [beq_eq_false_iff_ne]; exact h5
                                go_region_held3 (fun w' => ∀ b o, b < wd.heap.size → w'.cell? ⟨b, o, none⟩ = wd.cell? ⟨b, o, none⟩)
                                  ((intro b' o' h1; first | (with_reducible exact hbC.cell (p := ⟨b', o', none⟩) h1) | (with_reducible exact ((Below.refl _ _).drew).cell (p := ⟨b', o', none⟩) h1) | rfl))
                                  ((go_at_call 35; with_reducible refine (CS.out _ ?hb).mono ?_; (case hb => first | exact (Below.refl _ _).drew | exact Below.refl _ _); rintro e w5 ⟨rfl, hbC⟩))
                                go_wp2_with fail
                                go_meet
                                exact ⟨false, rfl, hbC⟩
                            · have hd4 : (y.frm == zf) = false := by rw [beq_eq_false_iff_ne]; exact h4
                              go_region_held3 (fun w' => ∀ b o, b < wd.heap.size → w'.cell? ⟨b, o, none⟩ = wd.cell? ⟨b, o, none⟩)
                                ((intro b' o' h1; first | (with_reducible exact hbC.cell (p := ⟨b', o', none⟩) h1) | (with_reducible exact ((Below.refl _ _).drew).cell (p := ⟨b', o', none⟩) h1) | rfl))
                                ((go_at_call 35; with_reducible refine (CS.out _ ?hb).mono ?_; (case hb => first | exact (Below.refl _ _).drew | exact Below.refl _ _); rintro e w5 ⟨rfl, hbC⟩))
                              go_wp2_with fail
                              go_meet
                              exact ⟨false, rfl, hbC⟩
                          · have hd3 : (y.att == zt) = false := by rw [beq_eq_false_iff_ne]; exact h3
                            go_region_held3 (fun w' => ∀ b o, b < wd.heap.size → w'.cell? ⟨b, o, none⟩ = wd.cell? ⟨b, o, none⟩)
                              ((intro b' o' h1; first | (with_reducible exact hbC.cell (p := ⟨b', o', none⟩) h1) | (with_reducible exact ((Below.refl _ _).drew).cell (p := ⟨b', o', none⟩) h1) | rfl))
                              ((go_at_call 35; with_reducible refine (CS.out _ ?hb).mono ?_; (case hb => first | exact (Below.refl _ _).drew | exact Below.refl _ _); rintro e w5 ⟨rfl, hbC⟩))
                            go_wp2_with fail
                            go_meet
                            exact ⟨false, rfl, hbC⟩
                        · have hd2 : (y.minute == zm) = false := by rw [beq_eq_false_iff_ne]; exact h2
                          go_region_held3 (fun w' => ∀ b o, b < wd.heap.size → w'.cell? ⟨b, o, none⟩ = wd.cell? ⟨b, o, none⟩)
                            ((intro b' o' h1; first | (with_reducible exact hbC.cell (p := ⟨b', o', none⟩) h1) | (with_reducible exact ((Below.refl _ _).drew).cell (p := ⟨b', o', none⟩) h1) | rfl))
                            ((go_at_call 35; with_reducible refine (CS.out _ ?hb).mono ?_; (case hb => first | exact (Below.refl _ _).drew | exact Below.refl _ _); rintro e w5 ⟨rfl, hbC⟩))
                          go_wp2_with fail
                          go_meet
                          exact ⟨false, rfl, hbC⟩
                      · have hd1 : (y.line == zl) = false := by rw [beq_eq_false_iff_ne]; exact h1
                        go_region_held3 (fun w' => ∀ b o, b < wd.heap.size → w'.cell? ⟨b, o, none⟩ = wd.cell? ⟨b, o, none⟩)
                          ((intro b' o' h1; first | (with_reducible exact hbC.cell (p := ⟨b', o', none⟩) h1) | (with_reducible exact ((Below.refl _ _).drew).cell (p := ⟨b', o', none⟩) h1) | rfl))
                          ((go_at_call 35; with_reducible refine (CS.out _ ?hb).mono ?_; (case hb => first | exact (Below.refl _ _).drew | exact Below.refl _ _); rintro e w5 ⟨rfl, hbC⟩))
                        go_wp2_with fail
                        go_meet
                        exact ⟨false, rfl, hbC⟩
                    case' rest =>
                      obtain ⟨β, rfl, hb5⟩ := hcut
                      rename World => we
                      have HBn : Hid (Below W.heap.size W we) := HBc.out.trans (hb5.mono HBc.out.size)
                      have HTn : Hid (Bt we w.heap.size a z r _ _ _ _ _ _) := HT.out.later hb5
                      have HYn : Hid (Yc we eb (off + k * 6) y) := HY.out.later hb5
                      clear x0 x1 x2 x3 x4 x5 hxl r5 hrl hebl d0 d1 d2 d3 d4 d5 hb5 HBc HT HY CS
                      have HBc := HBn
                      have HT := HTn
                      have HY := HYn
                      clear HBn HTn HYn
                      cases β
                      all_goals
                        clear HT HY
                        go_wp2_with fail
                        go_roundw
                        case rel => exact ⟨k + 1, by omega, by go_num, HBc.out⟩
                        case measure => simp [intOf]; omega
                · rw [hfz] at hx1
                  cases hx1
                  clear HSl hfa hfz
                  have k1 : y.line = zl := congrArg Kp.Ts.line hx2
                  have k2 : y.minute = zm := congrArg Kp.Ts.minute hx2
                  have k3 : y.att = zt := congrArg Kp.Ts.att hx2
                  have k4 : y.frm = zf := congrArg Kp.Ts.frm hx2
                  have HS5 : Hid (y.step = 0) := congrArg Kp.Ts.step hx2
                  clear hx2
                  subst k1 k2 k3 k4
                  obtain ⟨d0, d1, d2, d3, d4, d5⟩ := HY.out
                  have hebl : eb < wc.heap.size := World.block_lt_of_cell? _ _ d0
                  have r5 := HT.out.cr.c 5 _ rfl
                  have hrl := HT.out.cr.ty.lt
                  have x0 := HQnx.out.c 0 _ rfl; have x1 := HQnx.out.c 1 _ rfl; have x2 := HQnx.out.c 2 _ rfl; have x3 := HQnx.out.c 3 _ rfl; have x4 := HQnx.out.c 4 _ rfl; have x5 := HQnx.out.c 5 _ rfl
                  have hxl := HQnx.out.ty.lt
                  have CS : Hid (∀ w : World, Below wc.heap.size wc w → Calls Tryz.prog 35 #[.agg #[.int .i64 y.num, .int .i64 xl, .int .i64 xm, .int .i64 xt, .int .i64 xf, .int .i64 xs]] w fun e w' => e = .returned (.agg #[.int .i64 y.num, .int .i64 xl, .int .i64 xm, .int .i64 xt, .int .i64 xf, .int .i64 0]) ∧ Below wc.heap.size wc w') := fun w hb => (kstill_any ⟨y.num, xl, xm, xt, xf, xs⟩ w).mono fun _ _ h => ⟨h.1, hb.trans (h.2.mono hb.size)⟩
                  go_wp2_with fail
                  go_cut [12] from 65 to 121 (fun s1 wx => ∃ β : Bool, s1 = .bool β ∧ Below wc.heap.size wc wx)
                  case' first =>
                    by_cases h1 : y.line = xl
                    · subst h1
                      by_cases h2 : y.minute = xm
                      · subst h2
                        by_cases h3 : y.att = xt
                        · subst h3
                          by_cases h4 : y.frm = xf
                          · subst h4
                            by_cases h5 : y.step = 0
                            · rw [h5] at d5
                              clear h5
                              go_region_held3 (fun w' => ∀ b o, b < wc.heap.size → w'.cell? ⟨b, o, none⟩ = wc.cell? ⟨b, o, none⟩)
                                ((intro b' o' h1; first | (with_reducible exact hbC.cell (p := ⟨b', o', none⟩) h1) | (with_reducible exact ((Below.refl _ _).drew).cell (p := ⟨b', o', none⟩) h1) | rfl))
                                ((go_at_call 35; with_reducible refine (CS.out _ ?hb).mono ?_; (case hb => first | exact (Below.refl _ _).drew | exact Below.refl _ _); rintro e w5 ⟨rfl, hbC⟩))
                              go_wp2_with fail
                              go_meet
                              exact ⟨true, rfl, hbC⟩
                            · have hd5 : (y.step == 0) = false := by rw [beq_eq_false_iff_ne]; exact h5
                              go_region_held3 (fun w' => ∀ b o, b < wc.heap.size → w'.cell? ⟨b, o, none⟩ = wc.cell? ⟨b, o, none⟩)
                                ((intro b' o' h1; first | (with_reducible exact hbC.cell (p := ⟨b', o', none⟩) h1) | (with_reducible exact ((Below.refl _ _).drew).cell (p := ⟨b', o', none⟩) h1) | rfl))
                                ((go_at_call 35; with_reducible refine (CS.out _ ?hb).mono ?_; (case hb => first | exact (Below.refl _ _).drew | exact Below.refl _ _); rintro e w5 ⟨rfl, hbC⟩))
                              go_wp2_with fail
                              go_meet
                              exact ⟨false, rfl, hbC⟩
                          · have hd4 : (y.frm == xf) = false := by rw [beq_eq_false_iff_ne]; exact h4
                            go_region_held3 (fun w' => ∀ b o, b < wc.heap.size → w'.cell? ⟨b, o, none⟩ = wc.cell? ⟨b, o, none⟩)
                              ((intro b' o' h1; first | (with_reducible exact hbC.cell (p := ⟨b', o', none⟩) h1) | (with_reducible exact ((Below.refl _ _).drew).cell (p := ⟨b', o', none⟩) h1) | rfl))
                              ((go_at_call 35; with_reducible refine (CS.out _ ?hb).mono ?_; (case hb => first | exact (Below.refl _ _).drew | exact Below.refl _ _); rintro e w5 ⟨rfl, hbC⟩))
                            go_wp2_with fail
                            go_meet
                            exact ⟨false, rfl, hbC⟩
                        · have hd3 : (y.att == xt) = false := by rw [beq_eq_false_iff_ne]; exact h3
                          go_region_held3 (fun w' => ∀ b o, b < wc.heap.size → w'.cell? ⟨b, o, none⟩ = wc.cell? ⟨b, o, none⟩)
                            ((intro b' o' h1; first | (with_reducible exact hbC.cell (p := ⟨b', o', none⟩) h1) | (with_reducible exact ((Below.refl _ _).drew).cell (p := ⟨b', o', none⟩) h1) | rfl))
                            ((go_at_call 35; with_reducible refine (CS.out _ ?hb).mono ?_; (case hb => first | exact (Below.refl _ _).drew | exact Below.refl _ _); rintro e w5 ⟨rfl, hbC⟩))
                          go_wp2_with fail
                          go_meet
                          exact ⟨false, rfl, hbC⟩
                      · have hd2 : (y.minute == xm) = false := by rw [beq_eq_false_iff_ne]; exact h2
                        go_region_held3 (fun w' => ∀ b o, b < wc.heap.size → w'.cell? ⟨b, o, none⟩ = wc.cell? ⟨b, o, none⟩)
                          ((intro b' o' h1; first | (with_reducible exact hbC.cell (p := ⟨b', o', none⟩) h1) | (with_reducible exact ((Below.refl _ _).drew).cell (p := ⟨b', o', none⟩) h1) | rfl))
                          ((go_at_call 35; with_reducible refine (CS.out _ ?hb).mono ?_; (case hb => first | exact (Below.refl _ _).drew | exact Below.refl _ _); rintro e w5 ⟨rfl, hbC⟩))
                        go_wp2_with fail
                        go_meet
                        exact ⟨false, rfl, hbC⟩
                    · have hd1 : (y.line == xl) = false := by rw [beq_eq_false_iff_ne]; exact h1
                      go_region_held3 (fun w' => ∀ b o, b < wc.heap.size → w'.cell? ⟨b, o, none⟩ = wc.cell? ⟨b, o, none⟩)
                        ((intro b' o' h1; first | (with_reducible exact hbC.cell (p := ⟨b', o', none⟩) h1) | (with_reducible exact ((Below.refl _ _).drew).cell (p := ⟨b', o', none⟩) h1) | rfl))
                        ((go_at_call 35; with_reducible refine (CS.out _ ?hb).mono ?_; (case hb => first | exact (Below.refl _ _).drew | exact Below.refl _ _); rintro e w5 ⟨rfl, hbC⟩))
                      go_wp2_with fail
                      go_meet
                      exact ⟨false, rfl, hbC⟩
                  case' rest =>
                    obtain ⟨β, rfl, hb5⟩ := hcut
                    rename World => wd
                    have HBn : Hid (Below W.heap.size W wd) := HBc.out.trans (hb5.mono HBc.out.size)
                    have HTn : Hid (Bt wd w.heap.size a z r _ _ _ _ _ _) := HT.out.later hb5
                    have HYn : Hid (Yc wd eb (off + k * 6) y) := HY.out.later hb5
                    have HOn : Hid (Cl wd q2 81 [.int .i64 y.num, .int .i64 y.line, .int .i64 y.minute, .int .i64 y.att, .int .i64 y.frm, .int .i64 zs]) := HQnz.out.later hb5
                    clear x0 x1 x2 x3 x4 x5 hxl r5 hrl hebl d0 d1 d2 d3 d4 d5 hb5 HBc HT HY CS HQnz
                    have HBc := HBn
                    have HT := HTn
                    have HY := HYn
                    have HQnz := HOn
                    clear HBn HTn HYn HOn
                    cases β
                    all_goals
                      obtain ⟨d0, d1, d2, d3, d4, d5⟩ := HY.out
                      have hebl : eb < wd.heap.size := World.block_lt_of_cell? _ _ d0
                      have r5 := HT.out.cr.c 5 _ rfl
                      have hrl := HT.out.cr.ty.lt
                      have x0 := HQnz.out.c 0 _ rfl; have x1 := HQnz.out.c 1 _ rfl; have x2 := HQnz.out.c 2 _ rfl; have x3 := HQnz.out.c 3 _ rfl; have x4 := HQnz.out.c 4 _ rfl; have x5 := HQnz.out.c 5 _ rfl
                      have hxl := HQnz.out.ty.lt
                      have CS : Hid (∀ w : World, Below wd.heap.size wd w → Calls Tryz.prog 35 #[.agg #[.int .i64 y.num, .int .i64 y.line, .int .i64 y.minute, .int .i64 y.att, .int .i64 y.frm, .int .i64 zs]] w fun e w' => e = .returned (.agg #[.int .i64 y.num, .int .i64 y.line, .int .i64 y.minute, .int .i64 y.att, .int .i64 y.frm, .int .i64 0]) ∧ Below wd.heap.size wd w') := fun w hb => (kstill_any ⟨y.num, y.line, y.minute, y.att, y.frm, zs⟩ w).mono fun _ _ h => ⟨h.1, hb.trans (h.2.mono hb.size)⟩
                      go_wp2_with fail
                      go_cut [13] from 65 to 121 (fun s1 wx => s1 = .bool true ∧ Below wd.heap.size wd wx)
                      case' first =>
                        rw [HS5.out] at d5
                        go_region_held3 (fun w' => ∀ b o, b < wd.heap.size → w'.cell? ⟨b, o, none⟩ = wd.cell? ⟨b, o, none⟩)
                          ((intro b' o' h1; first | (with_reducible exact hbC.cell (p := ⟨b', o', none⟩) h1) | (with_reducible exact ((Below.refl _ _).drew).cell (p := ⟨b', o', none⟩) h1) | rfl))
                          ((go_at_call 35; with_reducible refine (CS.out _ ?hb).mono ?_; (case hb => first | exact (Below.refl _ _).drew | exact Below.refl _ _); rintro e w5 ⟨rfl, hbC⟩))
                        go_wp2_with fail
                        go_meet
                        exact ⟨rfl, hbC⟩
                      case' rest =>
                        obtain ⟨rfl, hb5⟩ := hcut
                        rename World => we
                        have HBn : Hid (Below W.heap.size W we) := HBc.out.trans (hb5.mono HBc.out.size)
                        have HTn : Hid (Bt we w.heap.size a z r _ _ _ _ _ _) := HT.out.later hb5
                        have HYn : Hid (Yc we eb (off + k * 6) y) := HY.out.later hb5
                        clear x0 x1 x2 x3 x4 x5 hxl r5 hrl hebl d0 d1 d2 d3 d4 d5 hb5 HBc HT HY CS
                        have HBc := HBn
                        have HT := HTn
                        have HY := HYn
                        clear HBn HTn HYn
                        clear HT HY
                        go_wp2_with fail
                        go_roundw
                        case rel => exact ⟨k + 1, by omega, by go_num, HBc.out⟩
                        case measure => simp [intOf]; omega
      · obtain rfl : k = r.slots.length := by omega
        have b2 : ¬ (r.slots.length : Int) < (r.slots.length : Int) := by omega
        have r5 := HT.out.cr.c 5 _ rfl
        have hrl := HT.out.cr.ty.lt
        clear hlt
        go_wp2_with fail
        clear r5 hrl b2
        go_loopw [14] (fun i wr => ∃ k : Nat, k ≤ a.slots.length ∧ i = .int .i64 k ∧ Below W.heap.size W wr) (fun i _ => a.slots.length - (intOf i).toNat)
        case atStart => exact ⟨0, Nat.zero_le _, rfl, HBa.out⟩
        case round =>
          clear HT HBa
          rename World => wb
          obtain ⟨k, hk, rfl, hbr⟩ := hrel
          have HBb : Hid (Below W.heap.size W wb) := hbr
          have HT : Hid (Bt wb w.heap.size a z r (.slice ad a.slots.length cap) (.slice ad2 a.ends.length cap2) (.slice zd z.slots.length zap) (.slice zd2 z.ends.length zap2) (.slice rd r.slots.length rap) (.slice rd2 r.ends.length rap2)) := HTW.out.later hbr
          clear hbr
          by_cases hlt : k < a.slots.length
          · obtain ⟨eb, off, cap', hv, _, hc⟩ := HT.out.sa.sl.1.some' (by omega)
            cases hv
            obtain ⟨d0, d1, d2, d3, d4, d5⟩ := ts_cells hc k hlt
            clear hc d1 d2 d3 d4 d5
            have b1 : (0 : Int) ≤ (k : Int) := by omega
            have b2 : (k : Int) < (a.slots.length : Int) := by omega
            have HSl : Hid ((Kp.fnd z a.slots[k].num).isSome = true → (Kp.fnd r a.slots[k].num).isSome = true) := HBt.out.az _ (List.getElem_mem hlt)
            generalize a.slots[k].num = yn at *
            have HT2 : Hid (Bt wb w.heap.size a z r (.slice (some ⟨eb, off, none⟩) a.slots.length cap) (.slice ad2 a.ends.length cap2) (.slice zd z.slots.length zap) (.slice zd2 z.ends.length zap2) (.slice rd r.slots.length rap) (.slice rd2 r.ends.length rap2)) := HT.out
            clear HT
            have HT := HT2
            clear HT2
            have a0 := (HT.out.ca).c 0 _ rfl
            have a1 := (HT.out.ca).c 1 _ rfl
            have a2 := (HT.out.ca).c 2 _ rfl
            have a3 := (HT.out.ca).c 3 _ rfl
            have a4 := (HT.out.ca).c 4 _ rfl
            have a5 := (HT.out.ca).c 5 _ rfl
            have a6 := (HT.out.ca).c 6 _ rfl
            have hal := (HT.out.ca).ty.lt
            have z0 := (HT.out.cz).c 0 _ rfl
            have z1 := (HT.out.cz).c 1 _ rfl
            have z2 := (HT.out.cz).c 2 _ rfl
            have z3 := (HT.out.cz).c 3 _ rfl
            have z4 := (HT.out.cz).c 4 _ rfl
            have z5 := (HT.out.cz).c 5 _ rfl
            have z6 := (HT.out.cz).c 6 _ rfl
            have hzl := (HT.out.cz).ty.lt
            have hebl : eb < wb.heap.size := World.block_lt_of_cell? _ _ d0
            have HSd : Hid (SnAt wb.drew z (.slice zd z.slots.length zap) (.slice zd2 z.ends.length zap2)) := (HT.out.sz).later (Below.refl _ _).drew
            have HSd2 : Hid (SnAt (wb.alloc (.cells #[.int .i64 0, .int .i64 0, .int .i64 0, .int .i64 0, .int .i64 0, .int .i64 0] 81)).drew z (.slice zd z.slots.length zap) (.slice zd2 z.ends.length zap2)) := ((HT.out.sz).later (below_alloc _ _)).later (Below.refl _ _).drew
            go_wp2_with fail
            go_cut [15, 16] from 122 to 155 (fun s1 s2 wx => ∃ q, s1 = .pointer (some ⟨q, 0, none⟩) ∧ s2 = .bool (Kp.ofA z yn).2 ∧ Below wb.heap.size wb wx ∧ Cl wx q 81 (tsC (Kp.ofA z yn).1))
            case first =>
              go_region_held3 (fun w' => ∀ b o, b < wb.heap.size → w'.cell? ⟨b, o, none⟩ = wb.cell? ⟨b, o, none⟩)
                ((intro b' o' h1; first | (with_reducible exact (below_set6s hbB (Nat.le_refl _) _ _ _ _ _ _).cell (p := ⟨b', o', none⟩) h1) | (with_reducible exact (hbA.trans ((below_alloc w2 _).mono hbA.size)).cell (p := ⟨b', o', none⟩) h1) | (with_reducible exact hbB.cell (p := ⟨b', o', none⟩) h1) | (with_reducible exact hbA.cell (p := ⟨b', o', none⟩) h1) | (with_reducible exact ((below_alloc wb _).drew).cell (p := ⟨b', o', none⟩) h1) | (with_reducible exact (below_alloc wb _).cell (p := ⟨b', o', none⟩) h1) | (with_reducible exact ((Below.refl _ _).drew).cell (p := ⟨b', o', none⟩) h1) | rfl))
                (first
                | (go_at_call 36; refine (kof_any z (.slice zd z.slots.length zap) (.slice zd2 z.ends.length zap2) yn wb.drew hlz HSd.out).mono ?_; rintro e w2 ⟨rfl, hb2⟩; have hbA : Below wb.heap.size wb w2 := (Below.refl _ _).drew.trans hb2)
                | (go_at_call 36; refine (kof_any z (.slice zd z.slots.length zap) (.slice zd2 z.ends.length zap2) yn (wb.alloc (.cells #[.int .i64 0, .int .i64 0, .int .i64 0, .int .i64 0, .int .i64 0, .int .i64 0] 81)).drew hlz HSd2.out).mono ?_; rintro e w2 ⟨rfl, hb2⟩; have hbB : Below wb.heap.size wb w2 := (below_alloc _ _).drew.trans (hb2.mono (by simp)); have hZ := ((Cl.new wb asZ 81).later (Below.refl _ _).drew).later hb2; have HZ : Hid (Cl w2 wb.heap.size 81 asZ) := hZ; have z0 := hZ.c 0 _ rfl; have z1 := hZ.c 1 _ rfl; have z2 := hZ.c 2 _ rfl; have z3 := hZ.c 3 _ rfl; have z4 := hZ.c 4 _ rfl; have z5 := hZ.c 5 _ rfl; have zf0 := hZ.f 0 (by simp); have zf1 := hZ.f 1 (by simp); have zf2 := hZ.f 2 (by simp); have zf3 := hZ.f 3 (by simp); have zf4 := hZ.f 4 (by simp); have zf5 := hZ.f 5 (by simp); have hzl := hZ.ty.lt; clear hZ))
              all_goals (go_wp2_with fail; go_meet)
              all_goals (first | (have hgo := hbA; exact ⟨_, rfl, rfl, hgo.trans ((below_alloc _ _).mono hgo.size), Cl.new w2 (tsC (Kp.ofA z yn).1) 81⟩) | exact ⟨_, rfl, rfl, below_set6s hbB (Nat.le_refl _) _ _ _ _ _ _, HZ.out.six _ _ _ _ _ _⟩)
            case rest =>
              obtain ⟨q1, rfl, rfl, hb1, _⟩ := hcut
              have HBc : Hid (Below W.heap.size W wc) := HBb.out.trans (hb1.mono HBb.out.size)
              have HTc : Hid (Bt wc w.heap.size a z r (.slice (some ⟨eb, off, none⟩) a.slots.length cap) (.slice ad2 a.ends.length cap2) (.slice zd z.slots.length zap) (.slice zd2 z.ends.length zap2) (.slice rd r.slots.length rap) (.slice rd2 r.ends.length rap2)) := HT.out.later hb1
              replace d0 := cell_later hb1 d0
              clear hebl HSd HSd2 a0 a1 a2 a3 a4 a5 a6 z0 z1 z2 z3 z4 z5 z6 hal hzl hb1 HT
              have HT := HTc
              clear HTc
              rename World => wd
              have a0 := (HT.out.ca).c 0 _ rfl
              have a1 := (HT.out.ca).c 1 _ rfl
              have a2 := (HT.out.ca).c 2 _ rfl
              have a3 := (HT.out.ca).c 3 _ rfl
              have a4 := (HT.out.ca).c 4 _ rfl
              have a5 := (HT.out.ca).c 5 _ rfl
              have a6 := (HT.out.ca).c 6 _ rfl
              have hal := (HT.out.ca).ty.lt
              have r0 := (HT.out.cr).c 0 _ rfl
              have r1 := (HT.out.cr).c 1 _ rfl
              have r2 := (HT.out.cr).c 2 _ rfl
              have r3 := (HT.out.cr).c 3 _ rfl
              have r4 := (HT.out.cr).c 4 _ rfl
              have r5 := (HT.out.cr).c 5 _ rfl
              have r6 := (HT.out.cr).c 6 _ rfl
              have hrl := (HT.out.cr).ty.lt
              have hebl : eb < wd.heap.size := World.block_lt_of_cell? _ _ d0
              have HSd : Hid (SnAt wd.drew r (.slice rd r.slots.length rap) (.slice rd2 r.ends.length rap2)) := (HT.out.sr).later (Below.refl _ _).drew
              have HSd2 : Hid (SnAt (wd.alloc (.cells #[.int .i64 0, .int .i64 0, .int .i64 0, .int .i64 0, .int .i64 0, .int .i64 0] 81)).drew r (.slice rd r.slots.length rap) (.slice rd2 r.ends.length rap2)) := ((HT.out.sr).later (below_alloc _ _)).later (Below.refl _ _).drew
              go_wp2_with fail
              go_cut [17, 18] from 122 to 155 (fun s1 s2 wx => ∃ q, s1 = .pointer (some ⟨q, 0, none⟩) ∧ s2 = .bool (Kp.ofA r yn).2 ∧ Below wd.heap.size wd wx ∧ Cl wx q 81 (tsC (Kp.ofA r yn).1))
              case first =>
                go_region_held3 (fun w' => ∀ b o, b < wd.heap.size → w'.cell? ⟨b, o, none⟩ = wd.cell? ⟨b, o, none⟩)
                  ((intro b' o' h1; first | (with_reducible exact (below_set6s hbB (Nat.le_refl _) _ _ _ _ _ _).cell (p := ⟨b', o', none⟩) h1) | (with_reducible exact (hbA.trans ((below_alloc w2 _).mono hbA.size)).cell (p := ⟨b', o', none⟩) h1) | (with_reducible exact hbB.cell (p := ⟨b', o', none⟩) h1) | (with_reducible exact hbA.cell (p := ⟨b', o', none⟩) h1) | (with_reducible exact ((below_alloc wd _).drew).cell (p := ⟨b', o', none⟩) h1) | (with_reducible exact (below_alloc wd _).cell (p := ⟨b', o', none⟩) h1) | (with_reducible exact ((Below.refl _ _).drew).cell (p := ⟨b', o', none⟩) h1) | rfl))
                  (first
                  | (go_at_call 36; refine (kof_any r (.slice rd r.slots.length rap) (.slice rd2 r.ends.length rap2) yn wd.drew hlr HSd.out).mono ?_; rintro e w2 ⟨rfl, hb2⟩; have hbA : Below wd.heap.size wd w2 := (Below.refl _ _).drew.trans hb2)
                  | (go_at_call 36; refine (kof_any r (.slice rd r.slots.length rap) (.slice rd2 r.ends.length rap2) yn (wd.alloc (.cells #[.int .i64 0, .int .i64 0, .int .i64 0, .int .i64 0, .int .i64 0, .int .i64 0] 81)).drew hlr HSd2.out).mono ?_; rintro e w2 ⟨rfl, hb2⟩; have hbB : Below wd.heap.size wd w2 := (below_alloc _ _).drew.trans (hb2.mono (by simp)); have hZ := ((Cl.new wd asZ 81).later (Below.refl _ _).drew).later hb2; have HZ : Hid (Cl w2 wd.heap.size 81 asZ) := hZ; have z0 := hZ.c 0 _ rfl; have z1 := hZ.c 1 _ rfl; have z2 := hZ.c 2 _ rfl; have z3 := hZ.c 3 _ rfl; have z4 := hZ.c 4 _ rfl; have z5 := hZ.c 5 _ rfl; have zf0 := hZ.f 0 (by simp); have zf1 := hZ.f 1 (by simp); have zf2 := hZ.f 2 (by simp); have zf3 := hZ.f 3 (by simp); have zf4 := hZ.f 4 (by simp); have zf5 := hZ.f 5 (by simp); have hzl := hZ.ty.lt; clear hZ))
                all_goals (go_wp2_with fail; go_meet)
                all_goals (first | (have hgo := hbA; exact ⟨_, rfl, rfl, hgo.trans ((below_alloc _ _).mono hgo.size), Cl.new w2 (tsC (Kp.ofA r yn).1) 81⟩) | exact ⟨_, rfl, rfl, below_set6s hbB (Nat.le_refl _) _ _ _ _ _ _, HZ.out.six _ _ _ _ _ _⟩)
              case rest =>
                obtain ⟨q2, rfl, rfl, hb2, _⟩ := hcut
                have HBd : Hid (Below W.heap.size W wc) := HBc.out.trans (hb2.mono HBc.out.size)
                clear hebl HSd HSd2 a0 a1 a2 a3 a4 a5 a6 r0 r1 r2 r3 r4 r5 r6 hal hrl hb2 HT d0
                rw [ofA_snd, ofA_snd]
                have himp := HSl.out
                generalize (Kp.fnd z yn).isSome = β at *
                generalize (Kp.fnd r yn).isSome = γ at *
                clear HSl
                cases β <;> cases γ
                case true.false => exact absurd (himp rfl) (by decide)
                all_goals
                  clear himp
                  go_wp2_with fail
                  go_roundw
                  case rel => exact ⟨k + 1, by omega, by go_num, HBd.out⟩
                  case measure => simp [intOf]; omega
          · obtain rfl : k = a.slots.length := by omega
            have b2 : ¬ (a.slots.length : Int) < (a.slots.length : Int) := by omega
            have a5 := HT.out.ca.c 5 _ rfl
            have hal := HT.out.ca.ty.lt
            clear hlt
            go_wp2_with fail
            clear a5 hal b2
            go_loopw [19] (fun i wr => ∃ k : Nat, k ≤ z.slots.length ∧ i = .int .i64 k ∧ Below W.heap.size W wr) (fun i _ => z.slots.length - (intOf i).toNat)
            case atStart => exact ⟨0, Nat.zero_le _, rfl, HBb.out⟩
            case round =>
              clear HT HBb
              obtain ⟨k, hk, rfl, hbr⟩ := hrel
              have HBb : Hid (Below W.heap.size W wr) := hbr
              have HT : Hid (Bt wr w.heap.size a z r (.slice ad a.slots.length cap) (.slice ad2 a.ends.length cap2) (.slice zd z.slots.length zap) (.slice zd2 z.ends.length zap2) (.slice rd r.slots.length rap) (.slice rd2 r.ends.length rap2)) := HTW.out.later hbr
              clear hbr
              by_cases hlt : k < z.slots.length
              · obtain ⟨eb, off, cap', hv, _, hc⟩ := HT.out.sz.sl.1.some' (by omega)
                cases hv
                obtain ⟨d0, d1, d2, d3, d4, d5⟩ := ts_cells hc k hlt
                clear hc d1 d2 d3 d4 d5
                have b1 : (0 : Int) ≤ (k : Int) := by omega
                have b2 : (k : Int) < (z.slots.length : Int) := by omega
                have HSl : Hid (r.next = z.next → (Kp.fnd r z.slots[k].num).isSome = true) := fun e => HBt.out.zr e _ (List.getElem_mem hlt)
                generalize z.slots[k].num = yn at *
                have HT2 : Hid (Bt wr w.heap.size a z r (.slice ad a.slots.length cap) (.slice ad2 a.ends.length cap2) (.slice (some ⟨eb, off, none⟩) z.slots.length zap) (.slice zd2 z.ends.length zap2) (.slice rd r.slots.length rap) (.slice rd2 r.ends.length rap2)) := HT.out
                clear HT
                have HT := HT2
                clear HT2
                have z0 := (HT.out.cz).c 0 _ rfl
                have z1 := (HT.out.cz).c 1 _ rfl
                have z2 := (HT.out.cz).c 2 _ rfl
                have z3 := (HT.out.cz).c 3 _ rfl
                have z4 := (HT.out.cz).c 4 _ rfl
                have z5 := (HT.out.cz).c 5 _ rfl
                have z6 := (HT.out.cz).c 6 _ rfl
                have hzl := (HT.out.cz).ty.lt
                have r0 := (HT.out.cr).c 0 _ rfl
                have r1 := (HT.out.cr).c 1 _ rfl
                have r2 := (HT.out.cr).c 2 _ rfl
                have r3 := (HT.out.cr).c 3 _ rfl
                have r4 := (HT.out.cr).c 4 _ rfl
                have r5 := (HT.out.cr).c 5 _ rfl
                have r6 := (HT.out.cr).c 6 _ rfl
                have hrl := (HT.out.cr).ty.lt
                have hebl : eb < wr.heap.size := World.block_lt_of_cell? _ _ d0
                have HSd : Hid (SnAt wr.drew r (.slice rd r.slots.length rap) (.slice rd2 r.ends.length rap2)) := (HT.out.sr).later (Below.refl _ _).drew
                have HSd2 : Hid (SnAt (wr.alloc (.cells #[.int .i64 0, .int .i64 0, .int .i64 0, .int .i64 0, .int .i64 0, .int .i64 0] 81)).drew r (.slice rd r.slots.length rap) (.slice rd2 r.ends.length rap2)) := ((HT.out.sr).later (below_alloc _ _)).later (Below.refl _ _).drew
                go_wp2_with fail
                go_cut [20, 21] from 156 to 184 (fun s1 s2 wx => ∃ q, s1 = .pointer (some ⟨q, 0, none⟩) ∧ s2 = .bool (Kp.ofA r yn).2 ∧ Below wr.heap.size wr wx ∧ Cl wx q 81 (tsC (Kp.ofA r yn).1))
                case first =>
                  go_region_held3 (fun w' => ∀ b o, b < wr.heap.size → w'.cell? ⟨b, o, none⟩ = wr.cell? ⟨b, o, none⟩)
                    ((intro b' o' h1; first | (with_reducible exact (below_set6s hbB (Nat.le_refl _) _ _ _ _ _ _).cell (p := ⟨b', o', none⟩) h1) | (with_reducible exact (hbA.trans ((below_alloc w2 _).mono hbA.size)).cell (p := ⟨b', o', none⟩) h1) | (with_reducible exact hbB.cell (p := ⟨b', o', none⟩) h1) | (with_reducible exact hbA.cell (p := ⟨b', o', none⟩) h1) | (with_reducible exact ((below_alloc wr _).drew).cell (p := ⟨b', o', none⟩) h1) | (with_reducible exact (below_alloc wr _).cell (p := ⟨b', o', none⟩) h1) | (with_reducible exact ((Below.refl _ _).drew).cell (p := ⟨b', o', none⟩) h1) | rfl))
                    (first
                    | (go_at_call 36; refine (kof_any r (.slice rd r.slots.length rap) (.slice rd2 r.ends.length rap2) yn wr.drew hlr HSd.out).mono ?_; rintro e w2 ⟨rfl, hb2⟩; have hbA : Below wr.heap.size wr w2 := (Below.refl _ _).drew.trans hb2)
                    | (go_at_call 36; refine (kof_any r (.slice rd r.slots.length rap) (.slice rd2 r.ends.length rap2) yn (wr.alloc (.cells #[.int .i64 0, .int .i64 0, .int .i64 0, .int .i64 0, .int .i64 0, .int .i64 0] 81)).drew hlr HSd2.out).mono ?_; rintro e w2 ⟨rfl, hb2⟩; have hbB : Below wr.heap.size wr w2 := (below_alloc _ _).drew.trans (hb2.mono (by simp)); have hZ := ((Cl.new wr asZ 81).later (Below.refl _ _).drew).later hb2; have HZ : Hid (Cl w2 wr.heap.size 81 asZ) := hZ; have z0 := hZ.c 0 _ rfl; have z1 := hZ.c 1 _ rfl; have z2 := hZ.c 2 _ rfl; have z3 := hZ.c 3 _ rfl; have z4 := hZ.c 4 _ rfl; have z5 := hZ.c 5 _ rfl; have zf0 := hZ.f 0 (by simp); have zf1 := hZ.f 1 (by simp); have zf2 := hZ.f 2 (by simp); have zf3 := hZ.f 3 (by simp); have zf4 := hZ.f 4 (by simp); have zf5 := hZ.f 5 (by simp); have hzl := hZ.ty.lt; clear hZ))
                  all_goals (go_wp2_with fail; go_meet)
                  all_goals (first | (have hgo := hbA; exact ⟨_, rfl, rfl, hgo.trans ((below_alloc _ _).mono hgo.size), Cl.new w2 (tsC (Kp.ofA r yn).1) 81⟩) | exact ⟨_, rfl, rfl, below_set6s hbB (Nat.le_refl _) _ _ _ _ _ _, HZ.out.six _ _ _ _ _ _⟩)
                case rest =>
                  obtain ⟨q1, rfl, rfl, hb1, _⟩ := hcut
                  have HBc : Hid (Below W.heap.size W wc) := HBb.out.trans (hb1.mono HBb.out.size)
                  have HTc : Hid (Bt wc w.heap.size a z r (.slice ad a.slots.length cap) (.slice ad2 a.ends.length cap2) (.slice (some ⟨eb, off, none⟩) z.slots.length zap) (.slice zd2 z.ends.length zap2) (.slice rd r.slots.length rap) (.slice rd2 r.ends.length rap2)) := HT.out.later hb1
                  clear hebl HSd HSd2 z0 z1 z2 z3 z4 z5 z6 r0 r1 r2 r3 r4 r5 r6 hzl hrl hb1 HT d0
                  have r1 : wc.cell? ⟨w.heap.size + 2, 1, none⟩ = some (.int .i64 r.next) := HTc.out.cr.c 1 _ rfl
                  have z1 : wc.cell? ⟨w.heap.size + 1, 1, none⟩ = some (.int .i64 z.next) := HTc.out.cz.c 1 _ rfl
                  have hrl := HTc.out.cr.ty.lt
                  have hzl := HTc.out.cz.ty.lt
                  rw [ofA_snd]
                  by_cases hnx : r.next = z.next
                  · have himp := HSl.out hnx
                    rw [← hnx] at z1
                    rw [himp]
                    clear hnx himp HSl
                    go_wp2_with fail
                    go_roundw
                    case rel => exact ⟨k + 1, by omega, by go_num, HBc.out⟩
                    case measure => simp [intOf]; omega
                  · have hd : decide (r.next = z.next) = false := decide_eq_false hnx
                    have hd2 : (r.next == z.next) = false := by rw [beq_eq_false_iff_ne]; exact hnx
                    go_wp2_with fail
                    go_roundw
                    case rel => exact ⟨k + 1, by omega, by go_num, HBc.out⟩
                    case measure => simp [intOf]; omega
              · obtain rfl : k = z.slots.length := by omega
                have b2 : ¬ (z.slots.length : Int) < (z.slots.length : Int) := by omega
                have z5 := HT.out.cz.c 5 _ rfl
                have hzl := HT.out.cz.ty.lt
                clear hlt
                go_wp2_with fail
                go_ret
                exact ⟨rfl, HB0.out.trans (HBb.out.mono HB0.out.size)⟩
end Go.Proofs.YtdajolpoiffimabGreatDoor

namespace Go.Proofs.YtdajolpoiffimabGreatDoor
open Go.RowKit

set_option maxRecDepth 10000 in
set_option maxHeartbeats 8000000 in
theorem kint_any (x : Kp.Sn) (sl en : Value) (w : World) (hl : x.slots.length ≤ 10000) (hS : SnAt w x sl en) :
    Calls Tryz.prog 11 #[snV x sl en] w fun e w' => (∃ sl', e = .returned (snV (Kp.intT x) sl' en) ∧ SnAt w' (Kp.intT x) sl' en) ∧ Below w.heap.size w w' := by
  obtain ⟨i0', hi, hz0, hz1, hz2⟩ := info_parts info_as
  obtain ⟨ad, cap, rfl, hcap⟩ := hS.sl.form
  obtain ⟨ad2, cap2, rfl, hcap2⟩ := hS.en.form
  have hb0 := (below_alloc w (snO x (.slice ad x.slots.length cap) (.slice ad2 x.ends.length cap2))).alloc (by simp) (.cells #[.int .i64 0, .int .i64 0, .int .i64 0, .int .i64 0, .string { data := #[] }, .slice none 0 0, .slice none 0 0] 40)
  have hI := (Cl.new w (snC x (.slice ad x.slots.length cap) (.slice ad2 x.ends.length cap2)) 40).later (below_alloc _ (.cells #[.int .i64 0, .int .i64 0, .int .i64 0, .int .i64 0, .string { data := #[] }, .slice none 0 0, .slice none 0 0] 40))
  have hz := Cl.new (w.alloc (snO x (.slice ad x.slots.length cap) (.slice ad2 x.ends.length cap2))) snZ 40
  have hsz : (w.alloc (snO x (.slice ad x.slots.length cap) (.slice ad2 x.ends.length cap2))).heap.size = w.heap.size + 1 := by simp
  rw [hsz] at hz
  clear hsz
  go_enter Tryz.func11, Tryz.ntmps11
  go_upto_region 1 with fail
  have hI' : Cl ((w.alloc (snO x (.slice ad x.slots.length cap) (.slice ad2 x.ends.length cap2))).alloc (.cells #[.int .i64 0, .int .i64 0, .int .i64 0, .int .i64 0, .string { data := #[] }, .slice none 0 0, .slice none 0 0] 40)) w.heap.size 40 (snC x (.slice ad x.slots.length cap) (.slice ad2 x.ends.length cap2)) := hI
  have hz' : Cl ((w.alloc (snO x (.slice ad x.slots.length cap) (.slice ad2 x.ends.length cap2))).alloc (.cells #[.int .i64 0, .int .i64 0, .int .i64 0, .int .i64 0, .string { data := #[] }, .slice none 0 0, .slice none 0 0] 40)) (w.heap.size + 1) 40 snZ := hz
  clear hI hz
  generalize (w.alloc (snO x (.slice ad x.slots.length cap) (.slice ad2 x.ends.length cap2))).alloc (.cells #[.int .i64 0, .int .i64 0, .int .i64 0, .int .i64 0, .string { data := #[] }, .slice none 0 0, .slice none 0 0] 40) = W0 at *
  have HB0 : Hid (Below w.heap.size w W0) := hb0
  have HS0 : Hid (SnAt W0 x (.slice ad x.slots.length cap) (.slice ad2 x.ends.length cap2)) := hS.later hb0
  have HI0 : Hid (Cl W0 w.heap.size 40 (snC x (.slice ad x.slots.length cap) (.slice ad2 x.ends.length cap2))) := hI'
  have HZ0 : Hid (Cl W0 (w.heap.size + 1) 40 snZ) := hz'
  have i0 := hI'.c 0 _ rfl; have i1 := hI'.c 1 _ rfl; have i2 := hI'.c 2 _ rfl; have i3 := hI'.c 3 _ rfl; have i4 := hI'.c 4 _ rfl; have i6 := hI'.c 6 _ rfl
  have hq0 := hI'.ty.lt
  have hR0 := hz'.ty.lt
  clear hI' hz' hb0 hS
  have hbn := below_alloc W0 (.cells #[.int .i64 x.clock, .int .i64 x.next, .int .i64 x.slots.length, .int .i64 x.ends.length, .string x.tab, .slice none 0 0, (.slice ad2 x.ends.length cap2)] 40)
  have hn := Cl.new W0 [.int .i64 x.clock, .int .i64 x.next, .int .i64 x.slots.length, .int .i64 x.ends.length, .string x.tab, .slice none 0 0, (.slice ad2 x.ends.length cap2)] 40
  go_upto_region 2 with fail
  have hn' : Cl (W0.alloc (.cells #[.int .i64 x.clock, .int .i64 x.next, .int .i64 x.slots.length, .int .i64 x.ends.length, .string x.tab, .slice none 0 0, (.slice ad2 x.ends.length cap2)] 40)) W0.heap.size 40 [.int .i64 x.clock, .int .i64 x.next, .int .i64 x.slots.length, .int .i64 x.ends.length, .string x.tab, .slice none 0 0, (.slice ad2 x.ends.length cap2)] := hn
  clear hn i0 i1 i2 i3 i4 i6
  generalize W0.alloc (.cells #[.int .i64 x.clock, .int .i64 x.next, .int .i64 x.slots.length, .int .i64 x.ends.length, .string x.tab, .slice none 0 0, (.slice ad2 x.ends.length cap2)] 40) = W at *
  have HIW : Hid (Cl W w.heap.size 40 (snC x (.slice ad x.slots.length cap) (.slice ad2 x.ends.length cap2))) := HI0.out.later hbn
  have HZW : Hid (Cl W (w.heap.size + 1) 40 snZ) := HZ0.out.later hbn
  have HSW : Hid (SnAt W x (.slice ad x.slots.length cap) (.slice ad2 x.ends.length cap2)) := HS0.out.later hbn
  have HBW : Hid (Below w.heap.size w W) := HB0.out.trans (hbn.mono HB0.out.size)
  have hne1 : w.heap.size ≠ W0.heap.size := by omega
  have hne2 : w.heap.size + 1 ≠ W0.heap.size := by omega
  have hlo : w.heap.size < W0.heap.size := by omega
  generalize W0.heap.size = q at *
  have HN : Hid (Cl W q 40 [.int .i64 x.clock, .int .i64 x.next, .int .i64 x.slots.length, .int .i64 x.ends.length, .string x.tab, .slice none 0 0, (.slice ad2 x.ends.length cap2)]) := hn'
  have HTq : Hid (Typed W q 40) := hn'.ty
  have hqW := hn'.ty.lt
  clear hn' hbn hq0 hR0 HB0 HS0 HI0 HZ0
  go_wp2_with fail
  go_loopw [4] (fun i wr => ∃ (k : Nat) (v : Value), k ≤ x.slots.length ∧ i = .int .i64 k ∧ Cl wr q 40 [.int .i64 x.clock, .int .i64 x.next, .int .i64 x.slots.length, .int .i64 x.ends.length, .string x.tab, v, (.slice ad2 x.ends.length cap2)] ∧ wr.ownsRow W.heap.size 81 6 v ((x.slots.take k).map Kp.stillT).length (((x.slots.take k).map Kp.stillT).flatMap tsC) ∧ W.grownBy wr (some q)) (fun i _ => x.slots.length - (intOf i).toNat)
  case atStart => exact ⟨0, _, Nat.zero_le _, rfl, HN.out, World.ownsRow_nil _ _ _ _, grow_of_below (Below.refl _ _) _⟩
  case round =>
    obtain ⟨k, v, hk, rfl, hCl, hown, hgr⟩ := hrel
    have HGr : Hid (W.grownBy wr (some q)) := hgr
    have HCl : Hid (Cl wr q 40 [.int .i64 x.clock, .int .i64 x.next, .int .i64 x.slots.length, .int .i64 x.ends.length, .string x.tab, v, (.slice ad2 x.ends.length cap2)]) := hCl
    have hIr := HIW.out.grow hgr hne1
    have HIr : Hid (Cl wr w.heap.size 40 (snC x (.slice ad x.slots.length cap) (.slice ad2 x.ends.length cap2))) := hIr
    have HSr : Hid (SnAt wr x (.slice ad x.slots.length cap) (.slice ad2 x.ends.length cap2)) := HSW.out.grow' hgr HTq.out (by decide) (by decide)
    have i5 : wr.cell? ⟨w.heap.size, 5, none⟩ = some (.slice ad x.slots.length cap) := hIr.c 5 _ rfl
    have hqI := hIr.ty.lt
    have hqr := hCl.ty.lt
    have hszr := hgr.size
    obtain ⟨vd, vcap, hv, _⟩ := (RowAt.of_own hown).form
    subst hv
    have HOw : Hid (wr.ownsRow W.heap.size 81 6 _ _ _) := hown
    clear hCl hgr hown hIr
    by_cases hlt : k < x.slots.length
    · have hn : ((x.slots.take k).map Kp.stillT).length ≤ 10000 := by simp; omega
      have HF : Hid ((x.slots.take (k + 1)).map Kp.stillT = (x.slots.take k).map Kp.stillT ++ [Kp.stillT x.slots[k]]) := by
        unfold Hid; rw [List.take_succ_eq_append_getElem hlt]; rw [List.map_append]; rfl
      obtain ⟨eb, off, cap', hv, _, hc⟩ := HSr.out.sl.1.some' (by omega)
      cases hv
      obtain ⟨d0, d1, d2, d3, d4, d5⟩ := ts_cells hc k hlt
      clear hc
      have b1 : (0 : Int) ≤ (k : Int) := by omega
      have b2 : (k : Int) < (x.slots.length : Int) := by omega
      generalize x.slots[k] = y at *
      generalize (x.slots.take k).map Kp.stillT = L at *
      go_wp2_with fail
      refine (kstill_any y _).mono ?_
      rintro e w2 ⟨rfl, hb2⟩
      clear d0 d1 d2 d3 d4 d5 i5
      generalize Kp.stillT y = z at *
      have hb3 := hb2.trans ((below_alloc w2 (tsO z)).mono hb2.size)
      have hX := Cl.new w2 (tsC z) 81
      have hszx := hb2.size
      clear hb2
      go_upto_region 6 with fail
      have hX' : Cl (w2.alloc (tsO z)) w2.heap.size 81 (tsC z) := hX
      clear hX
      generalize w2.alloc (tsO z) = W2 at *
      generalize w2.heap.size = xq at *
      have hCl2 := HCl.out.later hb3
      have hown2 := own_below HOw.out hb3
      have s5 : W2.cell? ⟨q, 5, none⟩ = some (.slice vd L.length vcap) := hCl2.c 5 _ rfl
      have hq2 := hCl2.ty.lt
      have hx2 := hX'.ty.lt
      have e0 := hX'.c 0 _ rfl
      have e1 := hX'.c 1 _ rfl
      have e2 := hX'.c 2 _ rfl
      have e3 := hX'.c 3 _ rfl
      have e4 := hX'.c 4 _ rfl
      have e5 := hX'.c 5 _ rfl
      have hsz2 := hb3.size
      have HClr : Hid (Cl wr q 40 [.int .i64 x.clock, .int .i64 x.next, .int .i64 x.slots.length, .int .i64 x.ends.length, .string x.tab, (.slice vd L.length vcap), (.slice ad2 x.ends.length cap2)]) := HCl.out
      clear hX' HCl HOw
      go_wp2_with (at_builtin; refine wpList_append_lies _ rfl (.tmp 25) (.tmp 27) 37 rfl W.heap.size 81 i0' (.agg #[.int .i64 0, .int .i64 0, .int .i64 0, .int .i64 0, .int .i64 0, .int .i64 0]) 6 48 Tryz.underlying37 hi hz0 hz1 hz2 rfl (by decide) _ _ _ rfl (hown2.alloc _) ⟨W2.heap.size, 0, none⟩ 1 1 (tsC z) rfl rfl (tsC_new _ _ _) (tsC_one _) (by decide) ?c3 ?c4 ?c5 _ rfl ?_)
      case c3 => unfold maxLen; omega
      case c4 => omega
      case c5 => simp; omega
      · intro g cap1 w3 hown' hgrow _ hlt'
        have B1 : Below W.heap.size wr w3 := ((hb3.mono hszr).alloc (by omega) _).grown hgrow (by simp; omega) (fun k' e => (hown2.lt k' e).1)
        have hown3 : w3.ownsRow W.heap.size 81 6 (.slice (some ⟨g, 0, none⟩) (L.length + 1) cap1) (L ++ [z]).length ((L ++ [z]).flatMap tsC) := by simpa using hown'
        have hCl3 := HClr.out.below hqW B1
        have s5 : w3.cell? ⟨q, 5, none⟩ = some (.slice vd L.length vcap) := hCl3.c 5 _ rfl
        have f5 := hCl3.f 5 (by simp)
        have hq3 := hCl3.ty.lt
        have HG3 : Hid (W.grownBy (w3.setCell ⟨q, 5, none⟩ (.slice (some ⟨g, 0, none⟩) (L.length + 1) cap1)) (some q)) := grow_set (grow_below HGr.out B1 (by have := B1.size; omega)) _ _
        have HC3 : Hid (Cl (w3.setCell ⟨q, 5, none⟩ (.slice (some ⟨g, 0, none⟩) (L.length + 1) cap1)) q 40 [.int .i64 x.clock, .int .i64 x.next, .int .i64 x.slots.length, .int .i64 x.ends.length, .string x.tab, (.slice (some ⟨g, 0, none⟩) (L.length + 1) cap1), (.slice ad2 x.ends.length cap2)]) := hCl3.set 5 (by simp) _
        have HO3 : Hid ((w3.setCell ⟨q, 5, none⟩ (.slice (some ⟨g, 0, none⟩) (L.length + 1) cap1)).ownsRow _ _ _ _ _ _) := ownsRow_setCell_below hown3 (a := ⟨q, 5, none⟩) hqW (.slice (some ⟨g, 0, none⟩) (L.length + 1) cap1)
        clear hown' hgrow hown2 hown3 hCl2 hCl3 e0 e1 e2 e3 e4 e5 B1
        go_wp2_with fail
        go_roundw
        case rel => exact ⟨k + 1, _, by omega, by go_num, HC3.out, by rw [HF.out]; exact HO3.out, HG3.out⟩
        case measure => simp [intOf]; omega
    · obtain rfl : k = x.slots.length := by omega
      have b2 : ¬ (x.slots.length : Int) < (x.slots.length : Int) := by omega
      have HTs : Hid (TRow wr 81 (.slice vd ((x.slots.take x.slots.length).map Kp.stillT).length vcap) (Kp.intT x).slots.length ((Kp.intT x).slots.flatMap tsC)) := by
        have hTs := TRow.of_own HOw.out
        have e : (x.slots.take x.slots.length).map Kp.stillT = (Kp.intT x).slots := by rw [List.take_length]; rfl
        unfold Hid; rw [e] at hTs ⊢; exact hTs
      clear HOw hlt
      generalize ((x.slots.take x.slots.length).map Kp.stillT).length = n1 at *
      have HA : Hid (SnAt wr (Kp.intT x) (.slice vd n1 vcap) (.slice ad2 x.ends.length cap2)) := ⟨HTs.out, HSr.out.en⟩
      have hZr := HZW.out.grow HGr.out hne2
      have hCr := HCl.out
      have HB : Hid (Below w.heap.size w wr) := ⟨HGr.out.os.trans HBW.out.os, HGr.out.tape.trans HBW.out.tape, HGr.out.output.trans HBW.out.output, Nat.le_trans HBW.out.size HGr.out.size, fun k hk => (HGr.out.block k (Nat.lt_of_lt_of_le hk HBW.out.size) (fun e => by cases e; omega)).trans (HBW.out.block k hk)⟩
      have HT7 : Hid (Typed wr (w.heap.size + 1) 40) := hZr.ty
      have s0 := hCr.c 0 _ rfl; have s1 := hCr.c 1 _ rfl; have s2 := hCr.c 2 _ rfl; have s3 := hCr.c 3 _ rfl; have s4 := hCr.c 4 _ rfl; have s5 := hCr.c 5 _ rfl; have s6 := hCr.c 6 _ rfl
      have r0 := hZr.c 0 _ rfl; have r1 := hZr.c 1 _ rfl; have r2 := hZr.c 2 _ rfl; have r3 := hZr.c 3 _ rfl; have r4 := hZr.c 4 _ rfl; have r5 := hZr.c 5 _ rfl; have r6 := hZr.c 6 _ rfl
      have f0 := hZr.f 0 (by simp); have f1 := hZr.f 1 (by simp); have f2 := hZr.f 2 (by simp); have f3 := hZr.f 3 (by simp); have f4 := hZr.f 4 (by simp); have f5 := hZr.f 5 (by simp); have f6 := hZr.f 6 (by simp)
      have hRr := hZr.ty.lt
      have HSn : Hid (.agg #[.int .i64 x.clock, .int .i64 x.next, .int .i64 x.slots.length, .int .i64 x.ends.length, .string x.tab, (.slice vd n1 vcap), (.slice ad2 x.ends.length cap2)] = snV (Kp.intT x) (.slice vd n1 vcap) (.slice ad2 x.ends.length cap2)) := by unfold Hid Kp.intT; simp
      clear hZr hCr HCl HIr HSr HTs
      go_wp2_with fail
      refine bodyPost_ret (v := .agg #[.int .i64 x.clock, .int .i64 x.next, .int .i64 x.slots.length, .int .i64 x.ends.length, .string x.tab, (.slice vd n1 vcap), (.slice ad2 x.ends.length cap2)]) (by simp [results, Tryz.results11, go_sem, r0, r1, r2, r3, r4, r5, r6]) rfl ?_
      exact ⟨⟨_, congrArg _ HSn.out, HA.out.set7 HT7.out _ _ _ _ _ _ _⟩, below_set7s HB.out (by omega) _ _ _ _ _ _ _⟩
end Go.Proofs.YtdajolpoiffimabGreatDoor

namespace Go.Proofs.YtdajolpoiffimabGreatDoor
open Go.RowKit

/-- What reopened tells. -/
def RopR (lg : ByteArray) (w w' : World) (e : Ending) : Prop := ∃ (s : Px.St) (q : ByteArray) (n : Int) (sl en : Value), e = .returned (.tuple #[snV (Kp.snB (Px.abs s)) sl en, .int .i64 n, .bool true]) ∧ Bx.Says true Bx.first lg (Px.abs s) q ∧ n + (q.size : Int) = (lg.size : Int) ∧ Bx.MayS (Px.abs s) ∧ SnAt w' (Kp.snB (Px.abs s)) sl en ∧ Below w.heap.size w w'
set_option maxRecDepth 10000 in
set_option maxHeartbeats 4000000 in
theorem kreop_any (lg : ByteArray) (w : World) (P : Nat) (l r : Int) (cs : List Value) (p : Cl w P 33 cs) (e1 : cs[1]? = some (.int .i64 l)) (e2 : cs[2]? = some (.int .i64 r)) (hm : mayB l r = true) (hlg : lg.size ≤ 4000) (hT : TT w) :
    Calls Tryz.prog 10 #[.pointer (some ⟨P, 0, none⟩), .string lg] w fun e w' => RopR lg w w' e := by
  have hb0 := below_alloc w (.cells #[.int .i64 0, .int .i64 0, .int .i64 0, .int .i64 0, .string { data := #[] }, .slice none 0 0, .slice none 0 0] 40)
  have hz := Cl.new w snZ 40
  have HP0 : Hid (Cl _ P 33 cs) := p.later hb0
  have HT0 : Hid (TT (w.alloc (.cells #[.int .i64 0, .int .i64 0, .int .i64 0, .int .i64 0, .string { data := #[] }, .slice none 0 0, .slice none 0 0] 40)).drew) := hT.later hb0.drew
  have HM : Hid (mayB l r = true) := hm
  have HE : Hid (cs[1]? = some (.int .i64 l) ∧ cs[2]? = some (.int .i64 r)) := ⟨e1, e2⟩
  clear p hT hm e1 e2
  go_enter Tryz.func10, Tryz.ntmps10
  go_upto_region 1 with fail
  have hz' : Cl (w.alloc (.cells #[.int .i64 0, .int .i64 0, .int .i64 0, .int .i64 0, .string { data := #[] }, .slice none 0 0, .slice none 0 0] 40)) w.heap.size 40 snZ := hz
  clear hz
  generalize w.alloc (.cells #[.int .i64 0, .int .i64 0, .int .i64 0, .int .i64 0, .string { data := #[] }, .slice none 0 0, .slice none 0 0] 40) = W at *
  have HZ0 : Hid (Cl W w.heap.size 40 snZ) := hz'
  have HB0 : Hid (Below w.heap.size w W) := hb0
  have c1 : W.cell? ⟨P, 1, none⟩ = some (.int .i64 l) := HP0.out.c 1 _ HE.out.1
  have c2 : W.cell? ⟨P, 2, none⟩ = some (.int .i64 r) := HP0.out.c 2 _ HE.out.2
  have hP := HP0.out.ty.lt
  clear hz' hb0
  go_wp2_with fail
  go_region_held3 (fun w' => ∀ b o, b < W.heap.size → w'.cell? ⟨b, o, none⟩ = W.cell? ⟨b, o, none⟩)
    ((intro b' o' h1; first | (exact hbC.cell (p := ⟨b', o', none⟩) h1) | rfl))
    ((go_at_call 34; refine (popen_yes l r lg _ HM.out hlg HT0.out).mono ?_; rintro e w5 ⟨s, q, n, B', rfl, hs, hn, hKB⟩; have hbC : Below W.heap.size W w5 := (Below.refl _ _).drew.trans hKB.bl))
  rename ∀ (b o : Nat), b < W.heap.size → w5.cell? ⟨b, o, none⟩ = W.cell? ⟨b, o, none⟩ => hSold
  have HMay : Hid (Bx.MayS (Px.abs s)) := Bx.says_may hs Bx.first_may
  have HSays : Hid (Bx.Says true Bx.first lg (Px.abs s) q ∧ n + (q.size : Int) = (lg.size : Int)) := ⟨hs, hn⟩
  have HB5 : Hid (Below w.heap.size w w5) := HB0.out.trans (hbC.mono HB0.out.size)
  have HZ5 : Hid (Cl w5 w.heap.size 40 snZ) := HZ0.out.later hbC
  have HPB : Hid (∃ sl en, PB w5 B' (Px.openB l r s) sl en) := hKB.pb
  have HOk : Hid (Px.Ok (Px.openB l r s).st) := Px.int_ok HMay.out
  have HSn : Hid (Kp.snOf (Px.openB l r s).st = Kp.snB (Px.abs s)) := Kp.sn_open s
  clear hSold c1 c2 hP hs hn hKB hbC
  go_wp2_with fail
  refine (ksnap_any (Px.openB l r s) B' w5 HOk.out HPB.out).mono ?_
  rw [HSn.out]
  obtain ⟨x, hx⟩ : ∃ x, Kp.snB (Px.abs s) = x := ⟨_, rfl⟩
  have HXe : Hid (Kp.snB (Px.abs s) = x) := hx
  rw [hx]
  clear hx
  rintro e w6 ⟨⟨sl, en, rfl, hA⟩, hb6⟩
  obtain ⟨ad, cap, rfl, _⟩ := hA.sl.form
  obtain ⟨ad2, cap2, rfl, _⟩ := hA.en.form
  have hbx := hb6.trans ((below_alloc w6 (snO x (.slice ad x.slots.length cap) (.slice ad2 x.ends.length cap2))).mono hb6.size)
  have hI := Cl.new w6 (snC x (.slice ad x.slots.length cap) (.slice ad2 x.ends.length cap2)) 40
  have hA2 := hA.later (below_alloc w6 (snO x (.slice ad x.slots.length cap) (.slice ad2 x.ends.length cap2)))
  clear hA hb6
  go_upto_region 5 with fail
  have hI' : Cl (w6.alloc (snO x (.slice ad x.slots.length cap) (.slice ad2 x.ends.length cap2))) w6.heap.size 40 (snC x (.slice ad x.slots.length cap) (.slice ad2 x.ends.length cap2)) := hI
  clear hI
  generalize w6.alloc (snO x (.slice ad x.slots.length cap) (.slice ad2 x.ends.length cap2)) = W7 at *
  generalize w6.heap.size = qx at *
  have hZ7 := HZ5.out.later hbx
  have HA7 : Hid (SnAt W7 x (.slice ad x.slots.length cap) (.slice ad2 x.ends.length cap2)) := hA2
  have HB7 : Hid (Below w.heap.size w W7) := HB5.out.trans (hbx.mono HB5.out.size)
  have HT7 : Hid (Typed W7 w.heap.size 40) := hZ7.ty
  have s0 := hI'.c 0 _ rfl; have s1 := hI'.c 1 _ rfl; have s2 := hI'.c 2 _ rfl; have s3 := hI'.c 3 _ rfl; have s4 := hI'.c 4 _ rfl; have s5 := hI'.c 5 _ rfl; have s6 := hI'.c 6 _ rfl
  have r0 := hZ7.c 0 _ rfl; have r1 := hZ7.c 1 _ rfl; have r2 := hZ7.c 2 _ rfl; have r3 := hZ7.c 3 _ rfl; have r4 := hZ7.c 4 _ rfl; have r5 := hZ7.c 5 _ rfl; have r6 := hZ7.c 6 _ rfl
  have f0 := hZ7.f 0 (by simp); have f1 := hZ7.f 1 (by simp); have f2 := hZ7.f 2 (by simp); have f3 := hZ7.f 3 (by simp); have f4 := hZ7.f 4 (by simp); have f5 := hZ7.f 5 (by simp); have f6 := hZ7.f 6 (by simp)
  have hq7 := hI'.ty.lt
  have hR7 := hZ7.ty.lt
  clear hI' hZ7 hbx hA2 HZ5 HB5
  go_wp2_with fail
  refine bodyPost_ret (v := .tuple #[snV x (.slice ad x.slots.length cap) (.slice ad2 x.ends.length cap2), .int .i64 n, .bool true]) (by simp [results, Tryz.results10, go_sem, r0, r1, r2, r3, r4, r5, r6]) rfl ?_
  refine ⟨s, q, n, (.slice ad x.slots.length cap), (.slice ad2 x.ends.length cap2), by rw [HXe.out], HSays.out.1, HSays.out.2, HMay.out, ?_, below_set7s HB7.out (Nat.le_refl _) _ _ _ _ _ _ _⟩
  rw [HXe.out]
  exact HA7.out.set7 HT7.out _ _ _ _ _ _ _
end Go.Proofs.YtdajolpoiffimabGreatDoor

namespace Go.Proofs.YtdajolpoiffimabGreatDoor
namespace Bx
theorem A_num (s : St) (kind n : Int) {y : Sl} (hy : y ∈ (aboutP s kind n).1.slots) : ∃ x ∈ s.slots, x.num = y.num := by
  unfold aboutP at hy
  split at hy
  · exact ⟨y, hy, rfl⟩
  · rename_i hn
    obtain ⟨hi, hnum⟩ := find_num hn
    have hf := find_nat hn
    generalize (find s n).toNat = i at *
    rw [hf] at hy
    have er : ∀ (m : Int) (how : ByteArray), y ∈ (with' s (withoutL s.slots i) m how).slots → ∃ x ∈ s.slots, x.num = y.num := by
      intro m how q
      have q' : y ∈ withoutL s.slots i := q
      rw [Px.without_erase] at q'
      exact ⟨y, (List.eraseIdx_sublist _ _).subset q', rfl⟩
    have pu : ∀ (z : Sl) (m : Int) (how : ByteArray), z.num = s.slots[i].num → y ∈ (with' s (putL s.slots i z) m how).slots → ∃ x ∈ s.slots, x.num = y.num := by
      intro z m how hz q
      have q' : y ∈ putL s.slots i z := q
      rw [put_set] at q'
      rcases List.mem_or_eq_of_mem_set q' with p | p
      · exact ⟨y, p, rfl⟩
      · exact ⟨s.slots[i], List.getElem_mem hi, by rw [p, hz]⟩
    split at hy
    · exact er _ _ hy
    · split at hy
      · split at hy
        · exact ⟨y, hy, rfl⟩
        · refine pu _ _ _ ?_ hy
          rw [slAt_eq hi]
      · split at hy
        · exact er _ _ hy
        · split at hy
          · have hy' : y ∈ (failed s i).slots := hy
            unfold failed at hy'
            split at hy'
            · exact er _ _ hy'
            · refine pu _ _ _ ?_ hy'
              rw [slAt_eq hi]
          · exact ⟨y, hy, rfl⟩
theorem tellA_num (s : St) {k n : Int} {t : ByteArray} (h1 : ¬ k = 84) (h2 : ¬ k = 67) {y : Sl} (hy : y ∈ (tell s ⟨k, t, n⟩).slots) : ∃ x ∈ s.slots, x.num = y.num := by
  unfold tell at hy
  rw [Px.do_about _ _ _ _ h1 h2] at hy
  split at hy
  · exact A_num s k n hy
  · exact ⟨y, hy, rfl⟩
theorem toldA_num (L : List Ch) : ∀ {s : St}, Px.About L → ∀ {y : Sl}, y ∈ (told s L).slots → ∃ x ∈ s.slots, x.num = y.num := by
  induction L with
  | nil => intro s _ y hy; exact ⟨y, hy, rfl⟩
  | cons c L ih =>
    intro s h y hy
    obtain ⟨k, t, n⟩ := c
    have hc := h ⟨k, t, n⟩ (by simp)
    obtain ⟨x, hx, e⟩ := ih (s := tell s ⟨k, t, n⟩) (fun a ha => h a (by simp [ha])) hy
    obtain ⟨z, hz, e2⟩ := tellA_num s hc.1 hc.2 hx
    exact ⟨z, hz, by rw [e2, e]⟩
end Bx
namespace Kp
/-- A Start changes nothing that is told of an interrupted box. -/
theorem snB_start (s : Bx.St) (n : Int) : snB (Bx.told s [chS n]) = snB s := by
  rw [Px.told_one]
  unfold Bx.tell
  have e : Bx.doP s (chS n) = Bx.aboutP s 83 n := Px.do_about _ _ _ _ (by decide) (by decide)
  rw [e]
  split
  · unfold Bx.aboutP
    split
    · rfl
    · rename_i hn
      obtain ⟨hi, hnum⟩ := Bx.find_num hn
      have hf := Bx.find_nat hn
      generalize (Bx.find s n).toNat = i at *
      rw [hf, if_neg (by decide), if_pos rfl]
      split
      · rfl
      · show snB (Bx.with' s (Bx.putL s.slots i _) 0 _) = _
        unfold snB Bx.with'
        rw [Bx.put_set, Bx.slAt_eq hi]
        simp only
        have : (s.slots.set i { s.slots[i] with runs := true }).map tsB = s.slots.map tsB := by
          rw [List.map_set]
          have h2 : i < (s.slots.map tsB).length := by simpa using hi
          have : tsB { s.slots[i] with runs := true } = (s.slots.map tsB)[i] := by rw [List.getElem_map]; rfl
          rw [this, List.set_getElem_self]
        rw [this, if_neg (by decide)]
  · rfl
theorem btw_start {b b' : Px.Bo} {l r : Int} {t : ByteArray} {c g : Int} (h : Px.KI b l r t c g) {n : Int} (ha : Px.Adv b b' [chS n, chD n]) :
    Btw (snOf b.st) (snOf b'.st) (snB (Bx.told (Px.abs b.st) [chS n])) := by
  have hk : Px.About [chS n, chD n] := fun x hx => by
    simp at hx
    rcases hx with rfl | rfl
    · exact ⟨by show ¬ (83 : Int) = 84; decide, by show ¬ (83 : Int) = 67; decide⟩
    · exact ⟨by show ¬ (68 : Int) = 84; decide, by show ¬ (68 : Int) = 67; decide⟩
  obtain ⟨k1, k2, k3⟩ := Px.told_keep _ (Px.abs b.st) hk
  rw [← ha.st] at k1 k2 k3
  rw [snB_start]
  refine ⟨Or.inl rfl, Or.inl rfl, k1.symm, ?_, ?_, ?_⟩
  · intro y hy
    obtain ⟨x, hx, rfl⟩ := List.mem_map.1 hy
    exact Or.inl (has_of h.may hx)
  · intro x hx _
    obtain ⟨q, hq, rfl⟩ := List.mem_map.1 hx
    exact is_B (y := Px.absS q) (List.mem_map.2 ⟨q, hq, rfl⟩) rfl
  · intro _ x hx
    obtain ⟨q, hq, rfl⟩ := List.mem_map.1 hx
    have hq2 : Px.absS q ∈ (Px.abs b'.st).slots := List.mem_map.2 ⟨q, hq, rfl⟩
    rw [ha.st] at hq2
    obtain ⟨u, hu, e⟩ := Bx.toldA_num _ hk hq2
    exact is_B hu (by rw [e]; rfl)
/-- What a call does, as a log that is cut tells it. -/
def Sur (b b' : Px.Bo) : Prop := ∃ L, Px.Adv b b' L ∧ ∀ k, 1 ≤ k → k < L.length → Btw (snOf b.st) (snOf b'.st) (snB (Bx.told (Px.abs b.st) (L.take k)))
theorem adv_refl {b : Px.Bo} {l r : Int} {t : ByteArray} {c g : Int} (h : Px.KI b l r t c g) : Px.Adv b b [] :=
  ⟨by simp [Bx.frames], rfl, Bx.May.nil _, ⟨rfl, rfl⟩, by have := h.log; have := h.room; omega⟩
theorem Sur.refl {b : Px.Bo} {l r : Int} {t : ByteArray} {c g : Int} (h : Px.KI b l r t c g) : Sur b b := ⟨[], adv_refl h, fun k h1 h2 => by simp at h2⟩
theorem sur_tick {b : Px.Bo} {l r : Int} {t : ByteArray} {c g : Int} (h : Px.KI b l r t c g) (m : Int) : Sur b (Px.tickB b m).1 := by
  rcases Px.tick_adv h.ok m with ⟨_, e, _⟩ | ⟨h0, _, ha⟩
  · rw [e]; exact Sur.refl h
  · exact ⟨_, ha, fun k h1 _ => btw_tick h h0 h1⟩
theorem sur_start {b : Px.Bo} {l r : Int} {t : ByteArray} {c g : Int} (h : Px.KI b l r t c g) (n : Int) : Sur b (Px.startB b n).1 := by
  rcases Px.start_adv h.ok n (Px.startP_ok h.ok n) with ⟨_, e, _⟩ | ⟨_, _, ha | ha⟩
  · rw [e]; exact Sur.refl h
  · exact ⟨_, ha, fun k h1 h2 => by simp at h2; omega⟩
  · refine ⟨_, ha, fun k h1 h2 => ?_⟩
    have : k = 1 := by simp at h2; omega
    subst this
    exact btw_start h ha
theorem sur_feed {b : Px.Bo} {l r : Int} {t : ByteArray} {c g : Int} (h : Px.KI b l r t c g) (n : Int) (x : ByteArray) : Sur b (Px.feedB b n x).1 := by
  rcases Px.feed_adv h.ok n x with ⟨_, e, _⟩ | ⟨_, ha | ha⟩
  · rw [e]; exact Sur.refl h
  · exact ⟨_, ha, fun k h1 h2 => by simp at h2⟩
  · exact ⟨_, ha, fun k h1 h2 => by simp at h2; omega⟩
theorem sur_cancel {b : Px.Bo} {l r : Int} {t : ByteArray} {c g : Int} (h : Px.KI b l r t c g) (n : Int) : Sur b (Px.cancelB b n).1 := by
  rcases Px.cancel_adv h.ok n with ⟨_, e⟩ | ⟨_, ha⟩
  · rw [e]; exact Sur.refl h
  · exact ⟨_, ha, fun k h1 h2 => by simp at h2; omega⟩
theorem frames_pos {L : List Bx.Ch} (h : (Bx.frames L).size = 0) : L = [] := by
  cases L with
  | nil => rfl
  | cons c L => rw [Bx.frames_cons, ByteArray.size_append, Bx.frame_size] at h; omega
theorem ext_all (s : ByteArray) (c : Nat) (h : s.size ≤ c) : s.extract 0 c = s := by
  have hl : s.data.toList.length = s.size := by simp
  refine Bx.ba_ext ?_
  rw [ByteArray.data_extract]
  simp [List.take_of_length_le (show s.data.toList.length ≤ c by omega)]
/-- What the cut log says. -/
theorem Sur.cut {b b' : Px.Bo} {l r : Int} {t : ByteArray} {c0 g : Int} (h : Px.KI b l r t c0 g) (hs : Sur b b') (c : Nat) (h1 : b.log.size ≤ c) (h2 : c ≤ b'.log.size) :
    ∃ S q, Bx.Says true Bx.first (b'.log.extract 0 c) S q ∧ q.size ≤ c ∧ b.log.size ≤ c - q.size ∧ (c = b'.log.size → q.size = 0 ∧ snB S = intT (snOf b'.st)) ∧
      (c - q.size = b.log.size → snB S = intT (snOf b.st)) ∧ (c < b'.log.size → ¬ c - q.size = b.log.size → Btw (snOf b.st) (snOf b'.st) (snB S)) := by
  obtain ⟨L, ha, hb⟩ := hs
  have hl := ha.log
  rw [hl] at h2 ⊢
  obtain ⟨k, q, g1, g2, g3, g4, g5⟩ := h.right.cut ha.may c h1 h2
  refine ⟨_, q, g2, by omega, by omega, fun e => ?_, fun e => ?_, fun e1 e2 => ?_⟩
  · have hk := g4 e
    have hz : (Bx.frames (L.take k)).size = (Bx.frames L).size := by rw [hk, List.take_length]
    rw [ByteArray.size_append] at e
    refine ⟨by omega, ?_⟩
    rw [sn_int, ha.st, hk, List.take_length]
  · have : L.take k = [] := frames_pos (by omega)
    rw [this, sn_int]; rfl
  · have hk := g5 e1
    have hk1 : 1 ≤ k := by
      rcases Nat.eq_zero_or_pos k with z | z
      · subst z
        have : (Bx.frames (L.take 0)).size = 0 := rfl
        omega
      · exact z
    exact hb k hk1 hk
/-- All of the log is right. -/
theorem right_says {b : Px.Bo} {l r : Int} {t : ByteArray} {c g : Int} (h : Px.KI b l r t c g) : Bx.Says true Bx.first b.log (Px.abs b.st) ByteArray.empty := h.right
theorem Sur.same {b b' : Px.Bo} (hs : Sur b b') (e : b'.log.size = b.log.size) : intT (snOf b.st) = intT (snOf b'.st) := by
  obtain ⟨L, ha, _⟩ := hs
  have : L = [] := frames_pos (by have := congrArg ByteArray.size ha.log; rw [ByteArray.size_append] at this; omega)
  subst this
  rw [sn_int, sn_int, ha.st]; rfl
theorem Sur.pre {b b' : Px.Bo} (hs : Sur b b') : b.log.size ≤ b'.log.size ∧ b'.log.extract 0 b.log.size = b.log := by
  obtain ⟨L, ha, _⟩ := hs
  refine ⟨by rw [ha.log, ByteArray.size_append]; omega, ?_⟩
  rw [ha.log, (Bx.split_at b.log.size).1 (Nat.le_refl _)]
  exact ext_all _ _ (Nat.le_refl _)
end Kp
end Go.Proofs.YtdajolpoiffimabGreatDoor

namespace Go.Proofs.YtdajolpoiffimabGreatDoor
theorem Sur.step {b : Px.Bo} {l r : Int} {t : ByteArray} {c g : Int} (h : Px.KI b l r t c g) (k n : Int) (s : ByteArray) (h5 : ¬ k = 5) (h6 : ¬ k = 6) : Kp.Sur b (stp l r k n s c g b).2.2 := by
  unfold stp
  by_cases h1 : k = 1
  · rw [if_pos h1]
    unfold onS
    by_cases h2 : 4223371679 < c + 1 + pk n 1500
    · rw [if_pos h2]; exact Kp.Sur.refl h
    · rw [if_neg h2]
      by_cases h3 : (Px.tickB b (c + 1 + pk n 1500)).2.2 = 0
      · rw [if_pos h3]; exact Kp.sur_tick h _
      · rw [if_neg h3]; exact Kp.Sur.refl h
  rw [if_neg h1]
  by_cases h2 : k = 2
  · rw [if_pos h2]; exact Kp.sur_start h _
  rw [if_neg h2]
  by_cases h3 : k = 3
  · rw [if_pos h3]; exact Kp.sur_feed h _ _
  rw [if_neg h3]
  by_cases h4 : k = 4
  · rw [if_pos h4]; exact Kp.sur_cancel h _
  rw [if_neg h4, if_neg h5, if_neg h6]; exact Kp.Sur.refl h
theorem extract_size {x : ByteArray} {c : Nat} (h : c ≤ x.size) : (x.extract 0 c).size = c := by rw [ByteArray.size_extract]; omega
/-- What is told by the box that is opened of the log that was cut. -/
structure Cut (b b' : Px.Bo) (c n : Int) (x : Kp.Sn) : Prop where
  le : n ≤ c
  ge : (b.log.size : Int) ≤ n
  all : c = (b'.log.size : Int) → n = c ∧ x = Kp.intT (Kp.snOf b'.st)
  none : n = (b.log.size : Int) → x = Kp.intT (Kp.snOf b.st)
  btw : ¬ c = (b'.log.size : Int) → ¬ n = (b.log.size : Int) → Kp.Btw (Kp.snOf b.st) (Kp.snOf b'.st) x
theorem Sur.opened {b b' : Px.Bo} {l r : Int} {t : ByteArray} {c0 g : Int} (h : Px.KI b l r t c0 g) (hs : Kp.Sur b b') {c : Nat} (h1 : b.log.size ≤ c) (h2 : c ≤ b'.log.size) {s : Px.St} {q : ByteArray} {n : Int}
    (hS : Bx.Says true Bx.first (b'.log.extract 0 c) (Px.abs s) q) (hn : n + (q.size : Int) = ((b'.log.extract 0 c).size : Int)) : Cut b b' c n (Kp.snB (Px.abs s)) := by
  obtain ⟨S, q', g1, g2, g3, g4, g5, g6⟩ := hs.cut h c h1 h2
  obtain ⟨e1, e2⟩ := hS.uniq g1
  subst e2
  rw [extract_size h2] at hn
  rw [e1]
  refine ⟨by omega, by omega, fun e => ?_, fun e => g5 (by omega), fun e e' => g6 (by omega) (by omega)⟩
  obtain ⟨z1, z2⟩ := g4 (by omega)
  exact ⟨by omega, z2⟩
/-- What is told by the box that is opened of a whole log. -/
theorem opened_all {b : Px.Bo} {l r : Int} {t : ByteArray} {c g : Int} (h : Px.KI b l r t c g) {s : Px.St} {q : ByteArray} {n : Int} (hs : Bx.Says true Bx.first b.log (Px.abs s) q) (hn : n + (q.size : Int) = (b.log.size : Int)) : n = (b.log.size : Int) ∧ Kp.snB (Px.abs s) = Kp.intT (Kp.snOf b.st) := by
  obtain ⟨e1, e2⟩ := hs.uniq h.right
  refine ⟨?_, by rw [e1, Kp.sn_int]⟩
  rw [e2] at hn
  have : (ByteArray.empty).size = 0 := rfl
  rw [this] at hn
  omega
end Go.Proofs.YtdajolpoiffimabGreatDoor
