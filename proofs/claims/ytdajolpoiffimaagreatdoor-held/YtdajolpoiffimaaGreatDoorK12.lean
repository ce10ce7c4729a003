/-
  KSlots, TakeM.
-/
import Derived.Test.YtdajolpoiffimaaGreatDoorK2
import Derived.Test.YtdajolpoiffimaaGreatDoorK11

namespace Go.Proofs.YtdajolpoiffimaaGreatDoor
open Go.RowKit

namespace Kp
def rnT (l : List Ts) : Nat := (l.filter fun x => decide (¬ x.step = 0)).length
theorem rnT_no {l : List Ts} {k : Nat} (h : k < l.length) (e : l[k].step = 0) : rnT (l.take (k + 1)) = rnT (l.take k) := by
  unfold rnT; rw [List.take_succ_eq_append_getElem h, List.filter_append]; simp [e]
theorem rnT_yes {l : List Ts} {k : Nat} (h : k < l.length) (e : ¬ l[k].step = 0) : rnT (l.take (k + 1)) = rnT (l.take k) + 1 := by
  unfold rnT; rw [List.take_succ_eq_append_getElem h, List.filter_append]; simp [e]
theorem rnT_le (l : List Ts) (k : Nat) : rnT (l.take k) ≤ l.length := by
  unfold rnT
  refine Nat.le_trans (List.length_filter_le _ _) ?_
  rw [List.length_take]; omega
end Kp
/-- A slot is such as may be. -/
structure SlotOk (t : ByteArray) (c n : Int) (x : Kp.Ts) : Prop where
  n0 : 1 ≤ x.num
  n1 : x.num < n
  a0 : 1 ≤ x.att
  a1 : x.att ≤ (Kp.optA t x.line).2
  m : x.minute ≤ c
  f0 : x.minute ≤ x.frm
  f1 : x.frm ≤ c + 10
  fa : x.att = 1 → x.frm = x.minute
  fb : ¬ x.att = 1 → ¬ x.frm = x.minute
  r : ¬ x.step = 0 → x.frm ≤ c
  bd : -100 ≤ x.minute ∧ x.num ≤ 10000
/-- The slots are such as may be. -/
structure SlotsOk (t : ByteArray) (l : Int) (x : Kp.Sn) : Prop where
  each : ∀ y ∈ x.slots, SlotOk t x.clock x.next y
  rise : x.slots.Pairwise fun a b => a.num < b.num
  lock : ∀ i (hi : i < x.slots.length) j (hj : j < x.slots.length), j < i → (Kp.optA t x.slots[i].line).1 = true → x.slots[j].line = x.slots[i].line → 0 < x.slots[j].step → x.slots[i].step = 0
  runs : (Kp.rnT x.slots : Int) ≤ l
theorem kopts_b (t : ByteArray) (n : Int) (w : World) (hs : t.size ≤ 300) :
    Calls Tryz.prog 77 #[.string t, .int .i64 n] w fun e w' => e = .returned (.tuple #[.bool (Kp.optA t n).1, .int .i64 (Kp.optA t n).2]) ∧ Below w.heap.size w w' :=
  (kopts_any t n w hs).mono fun _ _ ⟨h1, k, h2⟩ => ⟨h1, by rw [h2]; exact below_drewN (Below.refl _ _) k⟩
set_option maxRecDepth 10000 in
set_option maxHeartbeats 8000000 in
theorem kslots_any (x : Kp.Sn) (sl en : Value) (w0 w : World) (P B : Nat) (l r : Int) (t : ByteArray) (c g : Int) (b : Px.Bo) (hl : x.slots.length ≤ 8) (hts : t.size ≤ 300) (hcl : -1 ≤ x.clock) (hcl2 : x.clock ≤ 4223371679) (hE : SlotsOk t l x) (hS : SnAt w x sl en) (hW : KW w0 w P B l r t c g b) :
    Calls Tryz.prog 33 #[.pointer (some ⟨P, 0, none⟩), snV x sl en] w fun e w' => e = .returned (.bool true) ∧ Below w.heap.size w w' := by
  obtain ⟨ad, cap, rfl, hcap⟩ := hS.sl.form
  obtain ⟨ad2, cap2, rfl, hcap2⟩ := hS.en.form
  have HE : Hid (SlotsOk t l x) := hE
  have hb0 := below_alloc w (snO x (.slice ad x.slots.length cap) (.slice ad2 x.ends.length cap2))
  have hI := Cl.new w (snC x (.slice ad x.slots.length cap) (.slice ad2 x.ends.length cap2)) 82
  clear hE
  go_enter Tryz.func33, Tryz.ntmps33
  go_upto_region 1 with fail
  have hI' : Cl (w.alloc (snO x (.slice ad x.slots.length cap) (.slice ad2 x.ends.length cap2))) w.heap.size 82 (snC x (.slice ad x.slots.length cap) (.slice ad2 x.ends.length cap2)) := hI
  clear hI
  generalize w.alloc (snO x (.slice ad x.slots.length cap) (.slice ad2 x.ends.length cap2)) = W at *
  have HB : Hid (Below w.heap.size w W) := hb0
  have HS : Hid (SnAt W x (.slice ad x.slots.length cap) (.slice ad2 x.ends.length cap2)) := hS.later hb0
  have HI : Hid (Cl W w.heap.size 82 (snC x (.slice ad x.slots.length cap) (.slice ad2 x.ends.length cap2))) := hI'
  have HP : Hid (Cl W P 71 [.pointer (some ⟨B, 0, none⟩), .int .i64 l, .int .i64 r, .string t, .int .i64 c, .int .i64 g]) := hW.p.later hb0
  clear hI' hb0 hS hW
  go_wp2_with fail
  go_loopw [5, 6] (fun v i wr => ∃ k : Nat, k ≤ x.slots.length ∧ v = .int .i64 (Kp.rnT (x.slots.take k)) ∧ i = .int .i64 k ∧ Below W.heap.size W wr) (fun _ i _ => x.slots.length - (intOf i).toNat)
  case atStart => exact ⟨0, Nat.zero_le _, rfl, rfl, Below.refl _ _⟩
  case round =>
    rename World => wa
    obtain ⟨k, hk, rfl, rfl, hbr⟩ := hrel
    have HBr : Hid (Below W.heap.size W wa) := hbr
    have hIr := HI.out.later hbr
    have HIr : Hid (Cl wa w.heap.size 82 (snC x (.slice ad x.slots.length cap) (.slice ad2 x.ends.length cap2))) := hIr
    have HSr : Hid (SnAt wa x (.slice ad x.slots.length cap) (.slice ad2 x.ends.length cap2)) := HS.out.later hbr
    have HPr : Hid (Cl wa P 71 [.pointer (some ⟨B, 0, none⟩), .int .i64 l, .int .i64 r, .string t, .int .i64 c, .int .i64 g]) := HP.out.later hbr
    have i5 : wa.cell? ⟨w.heap.size, 5, none⟩ = some (.slice ad x.slots.length cap) := hIr.c 5 _ rfl
    have hq := hIr.ty.lt
    have hrl := Kp.rnT_le x.slots k
    clear hIr hbr
    by_cases hlt : k < x.slots.length
    · obtain ⟨b', off, cap', hv, _, hc⟩ := HSr.out.sl.1.some' (by omega)
      cases hv
      obtain ⟨d0, d1, d2, d3, d4, d5⟩ := ts_cells hc k hlt
      clear hc
      have b1 : (0 : Int) ≤ (k : Int) := by omega
      have b2 : (k : Int) < (x.slots.length : Int) := by omega
      have HOk : Hid (SlotOk t x.clock x.next x.slots[k]) := HE.out.each _ (List.getElem_mem hlt)
      have HRn : Hid (x.slots[k].step = 0 → Kp.rnT (x.slots.take (k + 1)) = Kp.rnT (x.slots.take k)) := Kp.rnT_no hlt
      have HRy : Hid (¬ x.slots[k].step = 0 → Kp.rnT (x.slots.take (k + 1)) = Kp.rnT (x.slots.take k) + 1) := Kp.rnT_yes hlt
      have HLk : Hid (∀ j (hj : j < x.slots.length), j < k → (Kp.optA t x.slots[k].line).1 = true → x.slots[j].line = x.slots[k].line → 0 < x.slots[j].step → x.slots[k].step = 0) := fun j hj h => HE.out.lock k hlt j hj h
      have HUp : Hid (∀ j (hj : j < x.slots.length), j < k → x.slots[j].num < x.slots[k].num) := fun j hj h => List.pairwise_iff_getElem.1 HE.out.rise j k hj hlt h
      generalize x.slots[k] = y at *
      generalize Kp.rnT (x.slots.take k) = R at *
      have hb2 := below_alloc wa (tsO y)
      have hY := Cl.new wa [.int .i64 y.num, .int .i64 y.line, .int .i64 y.minute, .int .i64 y.att, .int .i64 y.frm, .int .i64 y.step] 97
      go_upto_region 6 with fail
      have hY' : Cl (wa.alloc (tsO y)) wa.heap.size 97 [.int .i64 y.num, .int .i64 y.line, .int .i64 y.minute, .int .i64 y.att, .int .i64 y.frm, .int .i64 y.step] := hY
      clear hY d0 d1 d2 d3 d4 d5 i5
      have HB2 : Hid (Below W.heap.size W (wa.alloc (tsO y))) := HBr.out.trans (hb2.mono HBr.out.size)
      have HI2 := HIr.out.later hb2
      have HP2 := HPr.out.later hb2
      have HS2' := HSr.out.later hb2
      clear hb2 HIr HSr HBr HPr
      generalize wa.alloc (tsO y) = W2 at *
      generalize wa.heap.size = yq at *
      have HS2 : Hid (SnAt W2 x (.slice (some ⟨b', off, none⟩) x.slots.length cap) (.slice ad2 x.ends.length cap2)) := HS2'
      have HI2' : Hid (Cl W2 w.heap.size 82 (snC x (.slice (some ⟨b', off, none⟩) x.slots.length cap) (.slice ad2 x.ends.length cap2))) := HI2
      have HY : Hid (Cl W2 yq 97 [.int .i64 y.num, .int .i64 y.line, .int .i64 y.minute, .int .i64 y.att, .int .i64 y.frm, .int .i64 y.step]) := hY'
      have HP2' : Hid (Cl W2 P 71 [.pointer (some ⟨B, 0, none⟩), .int .i64 l, .int .i64 r, .string t, .int .i64 c, .int .i64 g]) := HP2
      have p3 : W2.cell? ⟨P, 3, none⟩ = some (.string t) := HP2.c 3 _ rfl
      have y1 : W2.cell? ⟨yq, 1, none⟩ = some (.int .i64 y.line) := hY'.c 1 _ rfl
      have hP2 := HP2.ty.lt
      have hy2 := hY'.ty.lt
      clear HS2' HI2 hY' HP2 hq
      go_wp2_with fail
      go_region_held3 (fun w' => ∀ b o, b < W2.heap.size → w'.cell? ⟨b, o, none⟩ = W2.cell? ⟨b, o, none⟩)
        ((intro b1' o1' h1; first | (exact hbC.cell (p := ⟨b1', o1', none⟩) h1) | rfl))
        ((go_at_call 77; refine (kopts_b t y.line _ hts).mono ?_; rintro e w3 ⟨rfl, hb3⟩; have hbC : Below W2.heap.size W2 w3 := (Below.refl _ _).drew.trans hb3))
      rename ∀ (b o : Nat), b < W2.heap.size → _ = W2.cell? _ => hSold
      have HB3 : Hid (Below W.heap.size W w3) := HB2.out.trans (hbC.mono HB2.out.size)
      have HS3 : Hid (SnAt w3 x (.slice (some ⟨b', off, none⟩) x.slots.length cap) (.slice ad2 x.ends.length cap2)) := HS2.out.later hbC
      have HI3 : Hid (Cl w3 w.heap.size 82 (snC x (.slice (some ⟨b', off, none⟩) x.slots.length cap) (.slice ad2 x.ends.length cap2))) := HI2'.out.later hbC
      have HY3 : Hid (Cl w3 yq 97 [.int .i64 y.num, .int .i64 y.line, .int .i64 y.minute, .int .i64 y.att, .int .i64 y.frm, .int .i64 y.step]) := HY.out.later hbC
      clear hSold hb3 hbC p3 y1 HB2 HS2 HI2' HY HP2' hP2 hy2
      have HOp : Hid (∃ one most, (Kp.optA t y.line).1 = one ∧ (Kp.optA t y.line).2 = most) := ⟨_, _, rfl, rfl⟩
      obtain ⟨one, most, ho1, ho2⟩ := HOp.out
      rw [ho1, ho2]
      have HOne : Hid ((Kp.optA t y.line).1 = one) := ho1
      have hmost : y.att ≤ most := by rw [← ho2]; exact HOk.out.a1
      clear ho1 ho2 HOp
      cases one with
      | false =>
        have y0 : w3.cell? ⟨yq, 0, none⟩ = some (.int .i64 y.num) := HY3.out.c 0 _ rfl
        have y3 : w3.cell? ⟨yq, 3, none⟩ = some (.int .i64 y.att) := HY3.out.c 3 _ rfl
        have i1 : w3.cell? ⟨w.heap.size, 1, none⟩ = some (.int .i64 x.next) := HI3.out.c 1 _ rfl
        have hy3 := HY3.out.ty.lt
        have hq3 := HI3.out.ty.lt
        have hd1 : decide (y.num < 1) = false := decide_eq_false (by have := HOk.out.n0; omega)
        have hd2 : decide (x.next ≤ y.num) = false := decide_eq_false (by have := HOk.out.n1; omega)
        have hd4 : decide (y.att < 1) = false := decide_eq_false (by have := HOk.out.a0; omega)
        have hd5 : decide (most < y.att) = false := decide_eq_false (by omega)
        by_cases hk0 : 0 < k
        case' pos =>
          have hkm : k - 1 < x.slots.length := by omega
          obtain ⟨b2', off2, cap2', hv, _, hc⟩ := HS3.out.sl.1.some' (by omega)
          cases hv
          obtain ⟨pd0, -, -, -, -, -⟩ := ts_cells hc (k - 1) hkm
          have hup := HUp.out (k - 1) hkm (by omega)
          have hkme : ((k - 1 : Nat) : Int) = (k : Int) - 1 := by omega
          generalize x.slots[k - 1] = pv at *
          generalize k - 1 = km at *
          have wr1 : IntKind.i64.wrap ((k : Int) - 1) = (km : Int) := by rw [IntKind.wrap_i64]; omega
          have b3 : (0 : Int) ≤ (km : Int) := by omega
          have b4 : (km : Int) < (x.slots.length : Int) := by omega
          have i5 : w3.cell? ⟨w.heap.size, 5, none⟩ = some (.slice (some ⟨b', off, none⟩) x.slots.length cap) := HI3.out.c 5 _ rfl
          have hd0 : decide (0 < k) = true := decide_eq_true hk0
          have hd3 : decide (y.num ≤ pv.num) = false := decide_eq_false (by omega)
          have hkl : km * 6 < x.slots.length * 6 := by omega
          clear hc hkme hup hk0 hkm hkl
          go_wp2_with fail
          go_quiet (fail)
          clear pd0 wr1 b3 b4 i5 hd0 hd3
        case' neg =>
          have hkz : True := trivial
          have hd0 : decide (0 < k) = false := decide_eq_false hk0
          go_wp2_with fail
          go_quiet (fail)
          clear hd0 hk0 hkz
        all_goals
          clear hd1 hd2 hd4 hd5 hy3 hq3
          have hbq : Below w3.heap.size w3 (w3.drewN nq) := below_drewN (Below.refl _ _) nq
          have HB5 : Hid (Below W.heap.size W (w3.drewN nq)) := HB3.out.trans (hbq.mono HB3.out.size)
          have HS5 : Hid (SnAt (w3.drewN nq) x (.slice (some ⟨b', off, none⟩) x.slots.length cap) (.slice ad2 x.ends.length cap2)) := HS3.out.later hbq
          have HI5' := HI3.out.later hbq
          have HY5' := HY3.out.later hbq
          clear hbq y0 y3 i1
          generalize w3.drewN nq = W5 at *
          have HI5 : Hid (Cl W5 w.heap.size 82 (snC x (.slice (some ⟨b', off, none⟩) x.slots.length cap) (.slice ad2 x.ends.length cap2))) := HI5'
          have HY5 : Hid (Cl W5 yq 97 [.int .i64 y.num, .int .i64 y.line, .int .i64 y.minute, .int .i64 y.att, .int .i64 y.frm, .int .i64 y.step]) := HY5'
          clear HI5' HY5'
          have y2 : W5.cell? ⟨yq, 2, none⟩ = some (.int .i64 y.minute) := HY5.out.c 2 _ rfl
          have y3 : W5.cell? ⟨yq, 3, none⟩ = some (.int .i64 y.att) := HY5.out.c 3 _ rfl
          have y4 : W5.cell? ⟨yq, 4, none⟩ = some (.int .i64 y.frm) := HY5.out.c 4 _ rfl
          have y5 : W5.cell? ⟨yq, 5, none⟩ = some (.int .i64 y.step) := HY5.out.c 5 _ rfl
          have i0 : W5.cell? ⟨w.heap.size, 0, none⟩ = some (.int .i64 x.clock) := HI5.out.c 0 _ rfl
          have hy5 := HY5.out.ty.lt
          have hq5 := HI5.out.ty.lt
          have m1 : ¬ x.clock < y.minute := by have := HOk.out.m; omega
          have m2 : ¬ y.frm < y.minute := by have := HOk.out.f0; omega
          have m3 : ¬ x.clock + 10 < y.frm := by have := HOk.out.f1; omega
          have HAtt : Hid ((y.att = 1 ∧ y.frm = y.minute) ∨ (¬ y.att = 1 ∧ ¬ y.frm = y.minute)) := by
            by_cases q : y.att = 1
            · exact Or.inl ⟨q, HOk.out.fa q⟩
            · exact Or.inr ⟨q, HOk.out.fb q⟩
          have HAb : Hid (decide (y.att = 1) = decide (y.frm = y.minute)) := by
            unfold Hid
            rcases HAtt.out with ⟨q1, q2⟩ | ⟨q1, q2⟩
            · rw [decide_eq_true q1, decide_eq_true q2]
            · rw [decide_eq_false q1, decide_eq_false q2]
          have hab : (y.att == 1) = (y.frm == y.minute) := HAb.out
          by_cases hs : y.step = 0
          · have HRr : Hid (Kp.rnT (x.slots.take (k + 1)) = R) := HRn.out hs
            go_wp2_with fail
            go_roundw
            case rel => exact ⟨k + 1, by omega, by rw [HRr.out], by go_num, HB5.out⟩
            case measure => simp [intOf]; omega
          · have HRr : Hid (Kp.rnT (x.slots.take (k + 1)) = R + 1) := HRy.out hs
            have m4 : ¬ x.clock < y.frm := by have := HOk.out.r hs; omega
            have HSs : Hid (¬ y.step = 0) := hs
            go_wp2_with fail
            go_loopw [10] (fun j wr => ∃ m : Nat, m ≤ k ∧ j = .int .i64 m ∧ Below W5.heap.size W5 wr) (fun j _ => k - (intOf j).toNat)
            case atStart => exact ⟨0, Nat.zero_le _, rfl, Below.refl _ _⟩
            case round =>
              obtain ⟨m, hm, rfl, hbm⟩ := hrel
              have HBm : Hid (Below W5.heap.size W5 wr) := hbm
              have hIm := HI5.out.later hbm
              have hYm := HY5.out.later hbm
              have i5 : wr.cell? ⟨w.heap.size, 5, none⟩ = some (.slice (some ⟨b', off, none⟩) x.slots.length cap) := hIm.c 5 _ rfl
              have y1 : wr.cell? ⟨yq, 1, none⟩ = some (.int .i64 y.line) := hYm.c 1 _ rfl
              have hqm := hIm.ty.lt
              have hym := hYm.ty.lt
              clear hIm hYm y2 y3 y4 y5 i0
              by_cases hlm : m < k
              · have hme : m < x.slots.length := by omega
                obtain ⟨b'', off', cap'', hv, _, hc⟩ := (HS5.out.sl.1.later hbm).some' (by omega)
                cases hv
                obtain ⟨d0, d1, d2, d3, d4, d5⟩ := ts_cells hc m hme
                clear hc hbm d0 d2 d3 d4
                have HLm := HLk.out m hme hlm
                have b3 : (0 : Int) ≤ (m : Int) := by omega
                have b4 : (m : Int) < (x.slots.length : Int) := by omega
                have b5 : (m : Int) < (k : Int) := by omega
                generalize x.slots[m] = z at *
                clear HLm
                go_wp2_with fail
                go_quiet (fail)
                go_wp2_with fail
                go_roundw
                case rel => exact ⟨m + 1, by omega, by go_num, below_drewN HBm.out _⟩
                case measure => simp [intOf]; omega
              · have b5 : ¬ (m : Int) < (k : Int) := by omega
                have HBn : Hid (Below W.heap.size W wr) := HB5.out.trans (hbm.mono HB5.out.size)
                clear hbm i5 y1
                go_wp2_with fail
                go_roundw
                case rel => exact ⟨k + 1, by omega, by rw [HRr.out]; exact congrArg (Value.int .i64) (by omega), by go_num, HBn.out⟩
                case measure => simp [intOf]; omega

      | true =>
        have y0 : w3.cell? ⟨yq, 0, none⟩ = some (.int .i64 y.num) := HY3.out.c 0 _ rfl
        have y3 : w3.cell? ⟨yq, 3, none⟩ = some (.int .i64 y.att) := HY3.out.c 3 _ rfl
        have i1 : w3.cell? ⟨w.heap.size, 1, none⟩ = some (.int .i64 x.next) := HI3.out.c 1 _ rfl
        have hy3 := HY3.out.ty.lt
        have hq3 := HI3.out.ty.lt
        have hd1 : decide (y.num < 1) = false := decide_eq_false (by have := HOk.out.n0; omega)
        have hd2 : decide (x.next ≤ y.num) = false := decide_eq_false (by have := HOk.out.n1; omega)
        have hd4 : decide (y.att < 1) = false := decide_eq_false (by have := HOk.out.a0; omega)
        have hd5 : decide (most < y.att) = false := decide_eq_false (by omega)
        by_cases hk0 : 0 < k
        case' pos =>
          have hkm : k - 1 < x.slots.length := by omega
          obtain ⟨b2', off2, cap2', hv, _, hc⟩ := HS3.out.sl.1.some' (by omega)
          cases hv
          obtain ⟨pd0, -, -, -, -, -⟩ := ts_cells hc (k - 1) hkm
          have hup := HUp.out (k - 1) hkm (by omega)
          have hkme : ((k - 1 : Nat) : Int) = (k : Int) - 1 := by omega
          generalize x.slots[k - 1] = pv at *
          generalize k - 1 = km at *
          have wr1 : IntKind.i64.wrap ((k : Int) - 1) = (km : Int) := by rw [IntKind.wrap_i64]; omega
          have b3 : (0 : Int) ≤ (km : Int) := by omega
          have b4 : (km : Int) < (x.slots.length : Int) := by omega
          have i5 : w3.cell? ⟨w.heap.size, 5, none⟩ = some (.slice (some ⟨b', off, none⟩) x.slots.length cap) := HI3.out.c 5 _ rfl
          have hd0 : decide (0 < k) = true := decide_eq_true hk0
          have hd3 : decide (y.num ≤ pv.num) = false := decide_eq_false (by omega)
          have hkl : km * 6 < x.slots.length * 6 := by omega
          clear hc hkme hup hk0 hkm hkl
          go_wp2_with fail
          go_quiet (fail)
          clear pd0 wr1 b3 b4 i5 hd0 hd3
        case' neg =>
          have hkz : True := trivial
          have hd0 : decide (0 < k) = false := decide_eq_false hk0
          go_wp2_with fail
          go_quiet (fail)
          clear hd0 hk0 hkz
        all_goals
          clear hd1 hd2 hd4 hd5 hy3 hq3
          have hbq : Below w3.heap.size w3 (w3.drewN nq) := below_drewN (Below.refl _ _) nq
          have HB5 : Hid (Below W.heap.size W (w3.drewN nq)) := HB3.out.trans (hbq.mono HB3.out.size)
          have HS5 : Hid (SnAt (w3.drewN nq) x (.slice (some ⟨b', off, none⟩) x.slots.length cap) (.slice ad2 x.ends.length cap2)) := HS3.out.later hbq
          have HI5' := HI3.out.later hbq
          have HY5' := HY3.out.later hbq
          clear hbq y0 y3 i1
          generalize w3.drewN nq = W5 at *
          have HI5 : Hid (Cl W5 w.heap.size 82 (snC x (.slice (some ⟨b', off, none⟩) x.slots.length cap) (.slice ad2 x.ends.length cap2))) := HI5'
          have HY5 : Hid (Cl W5 yq 97 [.int .i64 y.num, .int .i64 y.line, .int .i64 y.minute, .int .i64 y.att, .int .i64 y.frm, .int .i64 y.step]) := HY5'
          clear HI5' HY5'
          have y2 : W5.cell? ⟨yq, 2, none⟩ = some (.int .i64 y.minute) := HY5.out.c 2 _ rfl
          have y3 : W5.cell? ⟨yq, 3, none⟩ = some (.int .i64 y.att) := HY5.out.c 3 _ rfl
          have y4 : W5.cell? ⟨yq, 4, none⟩ = some (.int .i64 y.frm) := HY5.out.c 4 _ rfl
          have y5 : W5.cell? ⟨yq, 5, none⟩ = some (.int .i64 y.step) := HY5.out.c 5 _ rfl
          have i0 : W5.cell? ⟨w.heap.size, 0, none⟩ = some (.int .i64 x.clock) := HI5.out.c 0 _ rfl
          have hy5 := HY5.out.ty.lt
          have hq5 := HI5.out.ty.lt
          have m1 : ¬ x.clock < y.minute := by have := HOk.out.m; omega
          have m2 : ¬ y.frm < y.minute := by have := HOk.out.f0; omega
          have m3 : ¬ x.clock + 10 < y.frm := by have := HOk.out.f1; omega
          have HAtt : Hid ((y.att = 1 ∧ y.frm = y.minute) ∨ (¬ y.att = 1 ∧ ¬ y.frm = y.minute)) := by
            by_cases q : y.att = 1
            · exact Or.inl ⟨q, HOk.out.fa q⟩
            · exact Or.inr ⟨q, HOk.out.fb q⟩
          have HAb : Hid (decide (y.att = 1) = decide (y.frm = y.minute)) := by
            unfold Hid
            rcases HAtt.out with ⟨q1, q2⟩ | ⟨q1, q2⟩
            · rw [decide_eq_true q1, decide_eq_true q2]
            · rw [decide_eq_false q1, decide_eq_false q2]
          have hab : (y.att == 1) = (y.frm == y.minute) := HAb.out
          by_cases hs : y.step = 0
          · have HRr : Hid (Kp.rnT (x.slots.take (k + 1)) = R) := HRn.out hs
            go_wp2_with fail
            go_roundw
            case rel => exact ⟨k + 1, by omega, by rw [HRr.out], by go_num, HB5.out⟩
            case measure => simp [intOf]; omega
          · have HRr : Hid (Kp.rnT (x.slots.take (k + 1)) = R + 1) := HRy.out hs
            have m4 : ¬ x.clock < y.frm := by have := HOk.out.r hs; omega
            have HSs : Hid (¬ y.step = 0) := hs
            go_wp2_with fail
            go_loopw [10] (fun j wr => ∃ m : Nat, m ≤ k ∧ j = .int .i64 m ∧ Below W5.heap.size W5 wr) (fun j _ => k - (intOf j).toNat)
            case atStart => exact ⟨0, Nat.zero_le _, rfl, Below.refl _ _⟩
            case round =>
              obtain ⟨m, hm, rfl, hbm⟩ := hrel
              have HBm : Hid (Below W5.heap.size W5 wr) := hbm
              have hIm := HI5.out.later hbm
              have hYm := HY5.out.later hbm
              have i5 : wr.cell? ⟨w.heap.size, 5, none⟩ = some (.slice (some ⟨b', off, none⟩) x.slots.length cap) := hIm.c 5 _ rfl
              have y1 : wr.cell? ⟨yq, 1, none⟩ = some (.int .i64 y.line) := hYm.c 1 _ rfl
              have hqm := hIm.ty.lt
              have hym := hYm.ty.lt
              clear hIm hYm y2 y3 y4 y5 i0
              by_cases hlm : m < k
              · have hme : m < x.slots.length := by omega
                obtain ⟨b'', off', cap'', hv, _, hc⟩ := (HS5.out.sl.1.later hbm).some' (by omega)
                cases hv
                obtain ⟨d0, d1, d2, d3, d4, d5⟩ := ts_cells hc m hme
                clear hc hbm d0 d2 d3 d4
                have HLm := HLk.out m hme hlm
                have b3 : (0 : Int) ≤ (m : Int) := by omega
                have b4 : (m : Int) < (x.slots.length : Int) := by omega
                have b5 : (m : Int) < (k : Int) := by omega
                generalize x.slots[m] = z at *
                have HLm' : Hid (z.line = y.line → ¬ 0 < z.step) := fun q1 q2 => HSs.out (HLm HOne.out q1 q2)
                clear HLm
                by_cases hz : z.line = y.line
                · have hst : ¬ 0 < z.step := HLm'.out hz
                  have hd1 : decide (z.line = y.line) = true := decide_eq_true hz
                  have hd2 : decide (0 < z.step) = false := decide_eq_false hst
                  go_wp2_with fail
                  go_quiet (fail)
                  go_wp2_with fail
                  go_roundw
                  case rel => exact ⟨m + 1, by omega, by go_num, below_drewN HBm.out _⟩
                  case measure => simp [intOf]; omega
                · have hd1 : decide (z.line = y.line) = false := decide_eq_false hz
                  go_wp2_with fail
                  go_quiet (fail)
                  go_wp2_with fail
                  go_roundw
                  case rel => exact ⟨m + 1, by omega, by go_num, below_drewN HBm.out _⟩
                  case measure => simp [intOf]; omega
              · have b5 : ¬ (m : Int) < (k : Int) := by omega
                have HBn : Hid (Below W.heap.size W wr) := HB5.out.trans (hbm.mono HB5.out.size)
                clear hbm i5 y1
                go_wp2_with fail
                go_roundw
                case rel => exact ⟨k + 1, by omega, by rw [HRr.out]; exact congrArg (Value.int .i64) (by omega), by go_num, HBn.out⟩
                case measure => simp [intOf]; omega

    · obtain rfl : k = x.slots.length := by omega
      have b2 : ¬ (x.slots.length : Int) < (x.slots.length : Int) := by omega
      have hrn : (Kp.rnT (x.slots.take x.slots.length) : Int) ≤ l := by rw [List.take_length]; exact HE.out.runs
      have p1 : wa.cell? ⟨P, 1, none⟩ = some (.int .i64 l) := HPr.out.c 1 _ rfl
      have hPr := HPr.out.ty.lt
      generalize Kp.rnT (x.slots.take x.slots.length) = R at *
      have hd : decide ((R : Int) ≤ l) = true := decide_eq_true hrn
      go_wp2_with fail
      go_ret
      exact ⟨rfl, HB.out.trans (HBr.out.mono HB.out.size)⟩
end Go.Proofs.YtdajolpoiffimaaGreatDoor

namespace Go.Proofs.YtdajolpoiffimaaGreatDoor
namespace Bx
theorem nx_parse {log b more : ByteArray} (h : Nx log b more) : numP 2 ⟨log, false⟩ = ((b.size : Int), ⟨b ++ (be (Crc.sumR b) 4 ++ more), false⟩) ∧ txtP (b.size : Int) ⟨b ++ (be (Crc.sumR b) 4 ++ more), false⟩ = (b, ⟨be (Crc.sumR b) 4 ++ more, false⟩) ∧ numP 4 ⟨be (Crc.sumR b) 4 ++ more, false⟩ = (Crc.sumR b, ⟨more, false⟩) := by
  obtain ⟨e, hb⟩ := h
  have hs := sum_bd b
  refine ⟨?_, txtP_app _ _ _ _ rfl, numP_be _ 4 _ _ hs.1 (by simpa using hs.2)⟩
  have e2 : log = be (b.size : Int) 2 ++ (b ++ (be (Crc.sumR b) 4 ++ more)) := by rw [e]; unfold frame; simp only [ByteArray.append_assoc]
  rw [e2]
  exact numP_be _ 2 _ _ (by omega) (by simp; omega)
theorem take_math {log body : ByteArray} {l chk : Int} {p1 p2 p3 : PS} (h1 : numP 2 ⟨log, false⟩ = (l, p1)) (h2 : txtP l p1 = (body, p2)) (h3 : numP 4 p2 = (chk, p3)) :
    (p3.wrong = true → ¬ ∃ b more, Nx log b more) ∧ (p3.wrong = false → chk = Crc.sumR body → Nx log body p3.rest ∧ l = body.size) ∧ (¬ chk = Crc.sumR body → ¬ ∃ b more, Nx log b more) := by
  have key : ∀ b more, Nx log b more → p3.wrong = false ∧ chk = Crc.sumR body := by
    intro b more hN
    obtain ⟨a1, a2, a3⟩ := nx_parse hN
    rw [h1] at a1
    obtain ⟨rfl, rfl⟩ := Prod.mk.inj a1
    rw [h2] at a2
    obtain ⟨rfl, rfl⟩ := Prod.mk.inj a2
    rw [h3] at a3
    obtain ⟨rfl, rfl⟩ := Prod.mk.inj a3
    exact ⟨rfl, rfl⟩
  refine ⟨fun hw ⟨b, more, hN⟩ => ?_, fun hw hc => ?_, fun hc ⟨b, more, hN⟩ => hc (key b more hN).2⟩
  · rw [(key b more hN).1] at hw; cases hw
  · obtain ⟨w2, e2, _, _⟩ := Px.numP_r h3 hw
    obtain ⟨w1, e1, s1⟩ := Px.txtP_r h2 w2
    obtain ⟨_, e0, a0, b0⟩ := Px.numP_r h1 w1
    have hl : l = (body.size : Int) := s1.symm
    have e0' : log = be l 2 ++ p1.rest := e0
    refine ⟨⟨?_, by simp at b0; omega⟩, hl⟩
    rw [e0', e1, e2, hc, hl]
    unfold frame; simp only [ByteArray.append_assoc]
theorem body_tab (c : Ch) : c.kind = 84 → c.tab.size ≤ (body c).size := by
  intro h
  unfold body; rw [if_pos h, ByteArray.size_append]; omega
theorem txt_ok {k : Int} {p : PS} (h : p.wrong = true) : (txtP k p).2.wrong = true := txtP_wrong h
end Bx
end Go.Proofs.YtdajolpoiffimaaGreatDoor
