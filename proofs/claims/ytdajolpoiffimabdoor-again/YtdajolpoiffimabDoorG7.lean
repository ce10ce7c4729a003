/-
  PrgRead2, PrgRead3, PrgBody, PrgBodyM, PrgBodyN, PrgBodyZ, PrgStart, PrgHear, PrgGo, PrgTalk, PrgWhole, PrgXa, TabDue, TabChkTop, PrgClock.
-/
import Derived.Deep.Cut
import Derived.Test.YtdajolpoiffimabDoorG1
import Derived.Test.YtdajolpoiffimabDoorG2
import Derived.Test.YtdajolpoiffimabDoorG3
import Derived.Test.YtdajolpoiffimabDoorG4
import Derived.Test.YtdajolpoiffimabDoorG5
import Derived.Test.YtdajolpoiffimabDoorG6

namespace Go.Proofs.YtdajolpoiffimabDoor
open Go.RowKit

theorem own_grow {w w' : World} {base size n q : Nat} {e : TypeId} {v : Value} {xs : List Value} (h : w.grownBy w' (some q)) (hq : q < base) (ho : w.ownsRow base e size v n xs) : w'.ownsRow base e size v n xs := by
  refine ⟨ho.1, ?_⟩
  rcases ho.2 with h2 | ⟨g, cap, cur, hv, hbase, hg, h3⟩
  · exact Or.inl h2
  · refine Or.inr ⟨g, cap, cur, hv, hbase, ?_, h3⟩
    rw [h.block g (heap_lt hg) (fun e => by cases e; omega)]; exact hg
theorem grow_alloc {w w1 : World} {r : Option Nat} (h : w.grownBy w1 r) (o : Obj) : w.grownBy (w1.alloc o) r := grow_trans h (grow_of_below (below_alloc w1 o) r)
/-- A row that is grown, of blocks that are newer than some. -/
theorem grow_row {w w1 w2 : World} {r rv : Option Nat} (h : w.grownBy w1 r) (hg : w1.grownBy w2 rv) (hl : ∀ k, rv = some k → w.heap.size ≤ k) : w.grownBy w2 r :=
  ⟨hg.os.trans h.os, hg.tape.trans h.tape, hg.output.trans h.output, Nat.le_trans h.size hg.size, fun k hk hn => (hg.block k (Nat.lt_of_lt_of_le hk h.size) (fun e => by have := hl k e.symm; omega)).trans (h.block k hk hn)⟩
theorem Cl.grow' {W W' : World} {q : Nat} {r : Option Nat} {t : TypeId} {cs : List Value} (h : Cl W q t cs) (hb : W.grownBy W' r) (hne : ¬ some q = r) : Cl W' q t cs := by
  have e := hb.block q h.ty.lt hne
  refine ⟨fun j v hj => ?_, fun j hj => ?_, ?_⟩
  · rw [World.cell?_of_block (a := ⟨q, j, none⟩) e]; exact h.c j v hj
  · rw [World.frozen?_of_block (a := ⟨q, j, none⟩) e]; exact h.f j hj
  · obtain ⟨cur, fr, hc⟩ := h.ty; exact ⟨cur, fr, e.trans hc⟩
/-- So many slots are read. -/
structure RdI (w wr : World) (q : Nat) (p p' : Bx.PS) (v : Value) (e : TypeId) (sz : Nat) (n : Nat) (cs : List Value) : Prop where
  pt : PtIn wr q p'
  ow : wr.ownsRow w.heap.size e sz v n cs
  gr : w.grownBy wr (some q)
  lt : q < w.heap.size
  le : p'.rest.size ≤ p.rest.size
theorem rdSlot_size (p : Bx.PS) : (Px.rdSlot p).2.rest.size ≤ p.rest.size := by
  obtain ⟨a, pa, ha⟩ : ∃ a q, Bx.numP 2 p = (a, q) := ⟨_, _, pr_eta _⟩
  obtain ⟨b, pb, hb⟩ : ∃ a q, Bx.numP 1 pa = (a, q) := ⟨_, _, pr_eta _⟩
  obtain ⟨c, pc, hc⟩ : ∃ a q, Bx.numP 5 pb = (a, q) := ⟨_, _, pr_eta _⟩
  obtain ⟨d, pd, hd⟩ : ∃ a q, Bx.numP 1 pc = (a, q) := ⟨_, _, pr_eta _⟩
  obtain ⟨e, pe, he⟩ : ∃ a q, Bx.numP 5 pd = (a, q) := ⟨_, _, pr_eta _⟩
  obtain ⟨f, pf, hf⟩ : ∃ a q, Bx.numP 1 pe = (a, q) := ⟨_, _, pr_eta _⟩
  have sa := numP_size 2 p; have sb := numP_size 1 pa; have sc := numP_size 5 pb; have sd := numP_size 1 pc; have se := numP_size 5 pd; have sf := numP_size 1 pe
  rw [ha] at sa; rw [hb] at sb; rw [hc] at sc; rw [hd] at sd; rw [he] at se; rw [hf] at sf
  rw [Px.rdSlot_eq ha hb hc hd he hf]
  simp only at sa sb sc sd se sf ⊢
  split
  · omega
  · show pf.rest.size ≤ p.rest.size; omega

set_option maxRecDepth 10000 in
set_option maxHeartbeats 2000000 in
theorem preadSlots_any (p : Bx.PS) (q : Nat) (w : World) (hs : p.rest.size ≤ 100000) (hp : PtIn w q p) :
    Calls Tryd.prog 48 #[.pointer (some ⟨q, 0, none⟩)] w fun e w' => (∃ v, e = .returned v ∧ w'.ownsRow w.heap.size 70 8 v (Px.rdSlots p).1.length ((Px.rdSlots p).1.flatMap psC)) ∧ PtIn w' q (Px.rdSlots p).2 ∧ w.grownBy w' (some q) := by
  obtain ⟨i0, hi, hz0, hz1, hz2⟩ := info_parts info_ps
  have HP : Hid (PtIn w q p) := hp
  have hq := hp.ty.lt
  clear hp
  go_enter Tryd.func48, Tryd.ntmps48
  go_wp2_with fail
  refine (pnumber_any p q 1 _ _ rfl (by decide) hs HP.out).mono ?_
  rintro ex w1 ⟨rfl, hp1, hg1⟩
  have HE : Hid (Px.rdSlots p = Px.rdSlotsK (Bx.numP 1 p).1.toNat (Bx.numP 1 p).2) := rfl
  have hb1 := Bx.numP_bd 1 p
  have hb2 := Bx.numP_lt 1 p
  have hsz := numP_size 1 p
  generalize (Bx.numP 1 p).2 = p1 at *
  generalize (Bx.numP 1 p).1 = m at *
  obtain ⟨n, rfl⟩ : ∃ n : Nat, m = n := ⟨m.toNat, by omega⟩
  have hn : n ≤ 255 := by simp at hb2; omega
  rw [Int.toNat_natCast] at HE
  have HI : Hid (RdI w (w1.alloc (.cells #[] 70)) q p p1 (.slice (some ⟨w1.heap.size, 0, none⟩) 0 0) 70 8 0 []) :=
    ⟨hp1.later (below_alloc _ _), own_mono' (own_empty w1 70 8) hg1.size, grow_alloc hg1 _, hq, hsz⟩
  clear hp1 hg1 HP hb1 hb2
  go_wp2_with fail
  go_loopw [4, 5] (fun v i wr => ∃ (k : Nat) (p' : Bx.PS) (L : List Px.Sl), k ≤ n ∧ i = .int .i64 k ∧ RdI w wr q p p' v 70 8 L.length (L.flatMap psC) ∧ L.length = k ∧ Px.rdSlots p = (L ++ (Px.rdSlotsK (n - k) p').1, (Px.rdSlotsK (n - k) p').2)) (fun _ i _ => n - (intOf i).toNat)
  case atStart => exact ⟨0, p1, [], Nat.zero_le _, rfl, HI.out, rfl, by rw [HE.out]; simp⟩
  case round =>
    obtain ⟨k, p', L, hk, rfl, hI, hLk, hE⟩ := hrel
    have HE2 : Hid (Px.rdSlots p = (L ++ (Px.rdSlotsK (n - k) p').1, (Px.rdSlotsK (n - k) p').2)) := hE
    have HI2 : Hid (RdI w wr q p p' _ 70 8 L.length (L.flatMap psC)) := hI
    have HLk : Hid (L.length = k) := hLk
    have c1 := hI.pt.c1
    have hql := hI.pt.ty.lt
    have hps := hI.le
    have hLb : L.length ≤ 255 := by omega
    clear hE hI hLk
    by_cases hlt : k < n
    · cases hw : p'.wrong
      · rw [hw] at c1
        have HN : Hid (Px.rdSlots p = (L ++ [(Px.rdSlot p').1] ++ (Px.rdSlotsK (n - (k + 1)) (Px.rdSlot p').2).1, (Px.rdSlotsK (n - (k + 1)) (Px.rdSlot p').2).2)) := by
          unfold Hid
          rw [HE2.out, show n - k = (n - (k + 1)) + 1 by omega, Px.rdSlotsK, if_neg (by rw [hw]; simp)]
          simp
        have hsl := rdSlot_size p'
        clear hw
        go_wp2_with fail
        refine (preadSlot_any p' q _ (by omega) HI2.out.pt).mono ?_
        rintro ex w2 ⟨rfl, hp2, hg2⟩
        generalize (Px.rdSlot p').2 = p2 at *
        generalize (Px.rdSlot p').1 = x at *
        have ho2 := own_grow hg2 HI2.out.lt HI2.out.ow
        have hG2 := grow_trans HI2.out.gr hg2
        have hI3 : PsIn (w2.alloc (psO x)) w2.heap.size x := PsIn.new w2 x
        have ho3 := ho2.alloc (psO x)
        have hp3 := hp2.later (below_alloc w2 (psO x))
        have hG3 := grow_alloc hG2 (psO x)
        clear hp2 hg2 ho2 hG2 c1
        go_upto_region 7 with fail
        generalize w2.alloc (psO x) = W3 at *
        generalize w2.heap.size = xq at *
        have HP3 : Hid (PtIn W3 q p2) := hp3
        have HG3 : Hid (w.grownBy W3 (some q)) := hG3
        obtain ⟨x0, x1, x2, x3, x4, x5, x6, x7⟩ := hI3
        have HS2 : Hid (p2.rest.size ≤ p.rest.size) := by unfold Hid; omega
        have hq3 := hG3.size
        clear hp3 hG3 HE2 HI2
        go_wp2_with (at_builtin; refine wpList_append_lies _ rfl (.tmp 24) (.tmp 26) 47 rfl w.heap.size 70 i0 (.agg #[.int .i64 0, .int .i64 0, .int .i64 0, .int .i64 0, .int .i64 0, .int .i64 0, .int .i64 0, .string ByteArray.empty]) 8 72 Tryd.underlying47 hi hz0 hz1 hz2 rfl (by decide) _ _ _ rfl (ho3.alloc _) ⟨W3.heap.size, 0, none⟩ 1 1 (psC x) rfl rfl (psC_new _ _ _) (psC_one x) (by decide) ?c3 ?c4 ?c5 _ rfl ?_)
        case c3 => unfold maxLen; omega
        case c4 => omega
        case c5 => simp; omega
        · intro g cap1 w4 hown' hgrow _ hlt'
          have hlo := fun k' e => (ho3.lt k' e).1
          have HI4 : Hid (RdI w w4 q p p2 (.slice (some ⟨g, 0, none⟩) (L.length + 1) cap1) 70 8 (L ++ [x]).length ((L ++ [x]).flatMap psC)) :=
            ⟨(HP3.out.later (below_alloc _ _)).grow' hgrow (fun e => by have := hlo q e.symm; omega), by simpa using hown', grow_row (grow_alloc HG3.out _) hgrow hlo, hq, HS2.out⟩
          clear hown' hgrow ho3 x0 x1 x2 x3 x4 x5 x6 x7
          go_wp2_with fail
          go_roundw
          case rel => exact ⟨k + 1, p2, L ++ [x], by omega, by go_num, HI4.out, by simp [HLk.out], HN.out⟩
          case measure => simp [intOf]; omega
      · rw [hw] at c1
        have HF : Hid (Px.rdSlots p = (L, p')) := by
          unfold Hid
          rw [HE2.out, show n - k = (n - (k + 1)) + 1 by omega, Px.rdSlotsK, if_pos hw]
          simp
        clear hw
        go_wp2_with fail
        go_ret
        rw [HF.out]
        exact ⟨⟨_, rfl, HI2.out.ow⟩, HI2.out.pt, HI2.out.gr⟩
    · have HF : Hid (Px.rdSlots p = (L, p')) := by
        unfold Hid
        rw [HE2.out, show n - k = 0 by omega, Px.rdSlotsK]
        simp
      go_wp2_with fail
      go_ret
      rw [HF.out]
      exact ⟨⟨_, rfl, HI2.out.ow⟩, HI2.out.pt, HI2.out.gr⟩

theorem rdEnd_eq (p : Bx.PS) : Px.rdEnd p = (⟨(Bx.numP 2 p).1, (Bx.txtP 1 (Bx.numP 2 p).2).1⟩, (Bx.txtP 1 (Bx.numP 2 p).2).2) := rfl
set_option maxRecDepth 10000 in
set_option maxHeartbeats 2000000 in
theorem preadEnds_any (p : Bx.PS) (q : Nat) (w : World) (hs : p.rest.size ≤ 100000) (hp : PtIn w q p) :
    Calls Tryd.prog 49 #[.pointer (some ⟨q, 0, none⟩)] w fun e w' => (∃ v, e = .returned v ∧ w'.ownsRow w.heap.size 60 2 v (Px.rdEnds p).1.length ((Px.rdEnds p).1.flatMap enC)) ∧ PtIn w' q (Px.rdEnds p).2 ∧ w.grownBy w' (some q) := by
  obtain ⟨i0, hi, hz0, hz1, hz2⟩ := info_parts info_en
  have HP : Hid (PtIn w q p) := hp
  have hq := hp.ty.lt
  clear hp
  go_enter Tryd.func49, Tryd.ntmps49
  go_wp2_with fail
  refine (pnumber_any p q 1 _ _ rfl (by decide) hs HP.out).mono ?_
  rintro ex w1 ⟨rfl, hp1, hg1⟩
  have HE : Hid (Px.rdEnds p = Px.rdEndsK (Bx.numP 1 p).1.toNat (Bx.numP 1 p).2) := rfl
  have hb1 := Bx.numP_bd 1 p
  have hb2 := Bx.numP_lt 1 p
  have hsz := numP_size 1 p
  generalize (Bx.numP 1 p).2 = p1 at *
  generalize (Bx.numP 1 p).1 = m at *
  obtain ⟨n, rfl⟩ : ∃ n : Nat, m = n := ⟨m.toNat, by omega⟩
  have hn : n ≤ 255 := by simp at hb2; omega
  rw [Int.toNat_natCast] at HE
  have HI : Hid (RdI w (w1.alloc (.cells #[] 60)) q p p1 (.slice (some ⟨w1.heap.size, 0, none⟩) 0 0) 60 2 0 []) :=
    ⟨hp1.later (below_alloc _ _), own_mono' (own_empty w1 60 2) hg1.size, grow_alloc hg1 _, hq, hsz⟩
  clear hp1 hg1 HP hb1 hb2
  go_wp2_with fail
  go_loopw [4, 5] (fun v i wr => ∃ (k : Nat) (p' : Bx.PS) (L : List Bx.En), k ≤ n ∧ i = .int .i64 k ∧ RdI w wr q p p' v 60 2 L.length (L.flatMap enC) ∧ L.length = k ∧ Px.rdEnds p = (L ++ (Px.rdEndsK (n - k) p').1, (Px.rdEndsK (n - k) p').2)) (fun _ i _ => n - (intOf i).toNat)
  case atStart => exact ⟨0, p1, [], Nat.zero_le _, rfl, HI.out, rfl, by rw [HE.out]; simp⟩
  case round =>
    obtain ⟨k, p', L, hk, rfl, hI, hLk, hE⟩ := hrel
    have HE2 : Hid (Px.rdEnds p = (L ++ (Px.rdEndsK (n - k) p').1, (Px.rdEndsK (n - k) p').2)) := hE
    have HI2 : Hid (RdI w wr q p p' _ 60 2 L.length (L.flatMap enC)) := hI
    have HLk : Hid (L.length = k) := hLk
    have c1 := hI.pt.c1
    have hql := hI.pt.ty.lt
    have hps := hI.le
    have hLb : L.length ≤ 255 := by omega
    clear hE hI hLk
    by_cases hlt : k < n
    · cases hw : p'.wrong
      · rw [hw] at c1
        have HN : Hid (Px.rdEnds p = (L ++ [(⟨(Bx.numP 2 p').1, (Bx.txtP 1 (Bx.numP 2 p').2).1⟩ : Bx.En)] ++ (Px.rdEndsK (n - (k + 1)) (Bx.txtP 1 (Bx.numP 2 p').2).2).1, (Px.rdEndsK (n - (k + 1)) (Bx.txtP 1 (Bx.numP 2 p').2).2).2)) := by
          unfold Hid
          rw [HE2.out, show n - k = (n - (k + 1)) + 1 by omega, Px.rdEndsK, if_neg (by rw [hw]; simp), rdEnd_eq]
          simp
        have hsl := numP_size 2 p'
        have hsl2 := txtP_size 1 (Bx.numP 2 p').2
        clear hw
        go_wp2_with fail
        refine (pnumber_any p' q 2 _ _ rfl (by decide) (by omega) HI2.out.pt).mono ?_
        rintro ex w2 ⟨rfl, hp2, hg2⟩
        generalize (Bx.numP 2 p').2 = p2 at *
        generalize (Bx.numP 2 p').1 = nm at *
        have HP2 : Hid (PtIn w2 q p2) := hp2
        have HO2 : Hid (w2.ownsRow w.heap.size 60 2 _ L.length (L.flatMap enC)) := own_grow hg2 HI2.out.lt HI2.out.ow
        have HG2 : Hid (w.grownBy w2 (some q)) := grow_trans HI2.out.gr hg2
        clear hp2 hg2 c1
        go_wp2_with fail
        refine (ptext_any p2 q 1 _ (by omega) HP2.out).mono ?_
        rintro ex w3 ⟨rfl, hp3, hg3⟩
        generalize (Bx.txtP 1 p2).2 = p3 at *
        generalize (Bx.txtP 1 p2).1 = how at *
        have ho3 := own_grow hg3 HI2.out.lt HO2.out
        have HP3 : Hid (PtIn w3 q p3) := hp3
        have HG3 : Hid (w.grownBy w3 (some q)) := grow_trans HG2.out hg3
        have HS2 : Hid (p3.rest.size ≤ p.rest.size) := by unfold Hid; omega
        have hq3 := HG3.out.size
        clear hp3 hg3 HE2 HI2 HO2
        go_wp2_with (at_builtin; refine wpList_append_lies _ rfl (.tmp 27) (.tmp 31) 33 rfl w.heap.size 60 i0 (.agg #[.int .i64 0, .string ByteArray.empty]) 2 24 Tryd.underlying33 hi hz0 hz1 hz2 rfl (by decide) _ _ _ rfl (ho3.alloc _) ⟨w3.heap.size, 0, none⟩ 1 1 (enC ⟨nm, how⟩) rfl rfl (enC_new' _ _ _) (enC_one' _) (by decide) ?c3 ?c4 ?c5 _ rfl ?_)
        case c3 => unfold maxLen; omega
        case c4 => omega
        case c5 => simp; omega
        · intro g cap1 w4 hown' hgrow _ hlt'
          have hlo := fun k' e => (ho3.lt k' e).1
          have HI4 : Hid (RdI w w4 q p p3 (.slice (some ⟨g, 0, none⟩) (L.length + 1) cap1) 60 2 (L ++ [(⟨nm, how⟩ : Bx.En)]).length ((L ++ [(⟨nm, how⟩ : Bx.En)]).flatMap enC)) :=
            ⟨(HP3.out.later (below_alloc _ _)).grow' hgrow (fun e => by have := hlo q e.symm; omega), by simpa using hown', grow_row (grow_alloc HG3.out _) hgrow hlo, hq, HS2.out⟩
          clear hown' hgrow ho3
          go_wp2_with fail
          go_roundw
          case rel => exact ⟨k + 1, p3, L ++ [(⟨nm, how⟩ : Bx.En)], by omega, by go_num, HI4.out, by simp [HLk.out], HN.out⟩
          case measure => simp [intOf]; omega
      · rw [hw] at c1
        have HF : Hid (Px.rdEnds p = (L, p')) := by
          unfold Hid
          rw [HE2.out, show n - k = (n - (k + 1)) + 1 by omega, Px.rdEndsK, if_pos hw]
          simp
        clear hw
        go_wp2_with fail
        go_ret
        rw [HF.out]
        exact ⟨⟨_, rfl, HI2.out.ow⟩, HI2.out.pt, HI2.out.gr⟩
    · have HF : Hid (Px.rdEnds p = (L, p')) := by
        unfold Hid
        rw [HE2.out, show n - k = 0 by omega, Px.rdEndsK]
        simp
      go_wp2_with fail
      go_ret
      rw [HF.out]
      exact ⟨⟨_, rfl, HI2.out.ow⟩, HI2.out.pt, HI2.out.gr⟩
end Go.Proofs.YtdajolpoiffimabDoor

namespace Go.Proofs.YtdajolpoiffimabDoor
open Go.RowKit

theorem rdSlots_size (p : Bx.PS) : (Px.rdSlots p).2.rest.size ≤ p.rest.size := by
  have : ∀ k p, (Px.rdSlotsK k p).2.rest.size ≤ p.rest.size := by
    intro k
    induction k with
    | zero => intro p; exact Nat.le_refl _
    | succ k ih =>
      intro p
      rw [Px.rdSlotsK]; split
      · exact Nat.le_refl _
      · exact Nat.le_trans (ih _) (rdSlot_size p)
  exact Nat.le_trans (this _ _) (numP_size 1 p)
theorem rdEnds_size (p : Bx.PS) : (Px.rdEnds p).2.rest.size ≤ p.rest.size := by
  have : ∀ k p, (Px.rdEndsK k p).2.rest.size ≤ p.rest.size := by
    intro k
    induction k with
    | zero => intro p; exact Nat.le_refl _
    | succ k ih =>
      intro p
      rw [Px.rdEndsK]; split
      · exact Nat.le_refl _
      · exact Nat.le_trans (ih _) (Nat.le_trans (txtP_size _ _) (numP_size _ _))
  exact Nat.le_trans (this _ _) (numP_size 1 p)
theorem TRow.grow' {w w' : World} {e : TypeId} {v : Value} {n q : Nat} {cs : List Value} {t : TypeId} (h : TRow w e v n cs) (hg : w.grownBy w' (some q)) (ht : Typed w q t) (hne : e ≠ t) : TRow w' e v n cs := by
  have far : ∀ b off m cap, v = .slice (some ⟨b, off, none⟩) m cap → ¬ some b = some q := fun b off m cap hv e' => by
    cases e'
    obtain ⟨c1, f1, h1⟩ := h.2 _ off m cap hv
    obtain ⟨c2, f2, h2⟩ := ht
    rw [h1] at h2; cases h2; exact hne rfl
  refine ⟨?_, fun b off m cap hv => ?_⟩
  · rcases h.1 with a | ⟨b, off, cap, hv, hle, hc⟩
    · exact Or.inl a
    · exact Or.inr ⟨b, off, cap, hv, hle, fun j hj => by
        have hl : b < w.heap.size := World.block_lt_of_cell? _ _ (hc j hj)
        rw [World.cell?_of_block (a := ⟨b, off + j, none⟩) (hg.block b hl (far b off n cap hv))]; exact hc j hj⟩
  · obtain ⟨c1, f1, h1⟩ := h.2 b off m cap hv
    exact ⟨c1, f1, (hg.block b (heap_lt h1) (far b off m cap hv)).trans h1⟩
theorem grow_new5 {w w1 : World} {r : Option Nat} (h : w.grownBy w1 r) {g : Nat} (hg : w.heap.size ≤ g) (u0 u1 u2 u3 u4 : Value) : w.grownBy (((((w1.setCell ⟨g, 0, none⟩ u0).setCell ⟨g, 1, none⟩ u1).setCell ⟨g, 2, none⟩ u2).setCell ⟨g, 3, none⟩ u3).setCell ⟨g, 4, none⟩ u4) r :=
  grow_new (grow_new (grow_new (grow_new (grow_new h hg _ _) hg _ _) hg _ _) hg _ _) hg _ _
theorem Cl.far5 {w1 : World} {q g : Nat} {t : TypeId} {cs : List Value} (h : Cl w1 q t cs) (hn : q ≠ g) (u0 u1 u2 u3 u4 : Value) : Cl (((((w1.setCell ⟨g, 0, none⟩ u0).setCell ⟨g, 1, none⟩ u1).setCell ⟨g, 2, none⟩ u2).setCell ⟨g, 3, none⟩ u3).setCell ⟨g, 4, none⟩ u4) q t cs :=
  ((((h.far hn _ _).far hn _ _).far hn _ _).far hn _ _).far hn _ _
/-- Where readState is. -/
structure RZ (w W : World) (q : Nat) (p : Bx.PS) : Prop where
  p : PtIn W q p
  z : Cl W w.heap.size 49 [.string { data := #[] }, .int .i64 0, .int .i64 0, .slice none 0 0, .slice none 0 0]
  g : w.grownBy W (some q)
  q : q < w.heap.size
theorem RZ.call {w W W' : World} {q : Nat} {p p' : Bx.PS} (h : RZ w W q p) (hp : PtIn W' q p') (hg : W.grownBy W' (some q)) : RZ w W' q p' :=
  ⟨hp, h.z.grow hg (by have := h.q; omega), grow_trans h.g hg, h.q⟩
set_option maxRecDepth 10000 in
set_option maxHeartbeats 2000000 in
theorem preadState_any (p : Bx.PS) (q : Nat) (w : World) (hs : p.rest.size ≤ 100000) (hp : PtIn w q p) :
    Calls Tryd.prog 36 #[.pointer (some ⟨q, 0, none⟩)] w fun e w' => (∃ sl en, e = .returned (pstV (Px.rdState p).1 sl en) ∧ PAt w' (Px.rdState p).1 sl en) ∧ PtIn w' q (Px.rdState p).2 ∧ w.grownBy w' (some q) := by
  obtain ⟨c, pc, hc⟩ : ∃ a q, Bx.numP 5 p = (a, q) := ⟨_, _, pr_eta _⟩
  obtain ⟨n, pn, hn⟩ : ∃ a q, Bx.numP 2 pc = (a, q) := ⟨_, _, pr_eta _⟩
  obtain ⟨l, pl, hl⟩ : ∃ a q, Bx.numP 2 pn = (a, q) := ⟨_, _, pr_eta _⟩
  obtain ⟨t, pt, ht⟩ : ∃ a q, Bx.txtP l pl = (a, q) := ⟨_, _, pr_eta _⟩
  obtain ⟨sl, ps, hsl⟩ : ∃ a q, Px.rdSlots pt = (a, q) := ⟨_, _, pr_eta _⟩
  obtain ⟨en, pe, hen⟩ : ∃ a q, Px.rdEnds ps = (a, q) := ⟨_, _, pr_eta _⟩
  have HE : Hid (Px.rdState p = (⟨t, c - 1, n, sl, en⟩, pe)) := Px.rdState_eq hc hn hl ht hsl hen
  have sa := numP_size 5 p; have sb := numP_size 2 pc; have sc := numP_size 2 pn; have sd := txtP_size l pl; have se := rdSlots_size pt
  have c1 := Bx.numP_bd 5 p; have c2 := Bx.numP_lt 5 p
  rw [hc] at sa c1 c2; rw [hn] at sb; rw [hl] at sc; rw [ht] at sd; rw [hsl] at se
  simp only at sa sb sc sd se c1 c2
  have c3 : c < 1099511627776 := by simpa using c2
  have Hc : Hid (Bx.numP 5 p = (c, pc)) := hc
  have Hn : Hid (Bx.numP 2 pc = (n, pn)) := hn
  have Hl : Hid (Bx.numP 2 pn = (l, pl)) := hl
  have Ht : Hid (Bx.txtP l pl = (t, pt)) := ht
  have Hs : Hid (Px.rdSlots pt = (sl, ps)) := hsl
  have He : Hid (Px.rdEnds ps = (en, pe)) := hen
  clear hc hn hl ht hsl hen c2
  have hR : RZ w (w.alloc (.cells #[.string { data := #[] }, .int .i64 0, .int .i64 0, .slice none 0 0, .slice none 0 0] 49)) q p := by
    have b1 := below_alloc w (.cells #[.string { data := #[] }, .int .i64 0, .int .i64 0, .slice none 0 0, .slice none 0 0] 49)
    exact ⟨hp.later b1, Cl.new w [.string { data := #[] }, .int .i64 0, .int .i64 0, .slice none 0 0, .slice none 0 0] 49, grow_of_below b1 _, hp.ty.lt⟩
  clear hp
  go_enter Tryd.func36, Tryd.ntmps36
  go_upto_region 1 with fail
  generalize w.alloc (.cells #[.string { data := #[] }, .int .i64 0, .int .i64 0, .slice none 0 0, .slice none 0 0] 49) = W at *
  have HR0 : Hid (RZ w W q p) := hR
  clear hR
  go_wp2_with fail
  refine (pnumber_any p q 5 _ _ rfl (by decide) (by omega) HR0.out.p).mono ?_
  rintro ex w1 ⟨rfl, hp1, hg1⟩
  rw [Hc.out] at hp1 ⊢
  simp only at hp1
  have HR1 : Hid (RZ w w1 q pc) := HR0.out.call hp1 hg1
  clear hp1 hg1 HR0
  go_wp2_with fail
  refine (pnumber_any pc q 2 _ _ rfl (by decide) (by omega) HR1.out.p).mono ?_
  rintro ex w2 ⟨rfl, hp1, hg1⟩
  rw [Hn.out] at hp1 ⊢
  simp only at hp1
  have HR2 : Hid (RZ w w2 q pn) := HR1.out.call hp1 hg1
  clear hp1 hg1 HR1
  go_wp2_with fail
  refine (pnumber_any pn q 2 _ _ rfl (by decide) (by omega) HR2.out.p).mono ?_
  rintro ex w3 ⟨rfl, hp1, hg1⟩
  rw [Hl.out] at hp1 ⊢
  simp only at hp1
  have HR3 : Hid (RZ w w3 q pl) := HR2.out.call hp1 hg1
  clear hp1 hg1 HR2
  go_wp2_with fail
  refine (ptext_any pl q l _ (by omega) HR3.out.p).mono ?_
  rintro ex w4 ⟨rfl, hp1, hg1⟩
  rw [Ht.out] at hp1 ⊢
  simp only at hp1
  have HR4 : Hid (RZ w w4 q pt) := HR3.out.call hp1 hg1
  clear hp1 hg1 HR3
  go_wp2_with fail
  refine (preadSlots_any pt q _ (by omega) HR4.out.p).mono ?_
  rintro ex w5 ⟨⟨v5, rfl, ho5⟩, hp1, hg1⟩
  rw [Hs.out] at hp1 ho5
  simp only at hp1 ho5
  have HR5 : Hid (RZ w w5 q ps) := HR4.out.call hp1 hg1
  have hT5 := TRow.of_own ho5
  obtain ⟨ad5, cap5, hv5, _⟩ := hT5.form
  subst hv5
  have HT5 : Hid (TRow w5 70 (.slice ad5 sl.length cap5) sl.length (sl.flatMap psC)) := hT5
  clear hp1 hg1 HR4 ho5 hT5
  go_wp2_with fail
  refine (preadEnds_any ps q _ (by omega) HR5.out.p).mono ?_
  rintro ex w6 ⟨⟨v6, rfl, ho6⟩, hp1, hg1⟩
  rw [He.out] at hp1 ho6
  simp only at hp1 ho6
  have HR6 : Hid (RZ w w6 q pe) := HR5.out.call hp1 hg1
  have hT6 := TRow.of_own ho6
  obtain ⟨ad6, cap6, hv6, _⟩ := hT6.form
  subst hv6
  have HT6 : Hid (PAt w6 ⟨t, c - 1, n, sl, en⟩ (.slice ad5 sl.length cap5) (.slice ad6 en.length cap6)) := ⟨HT5.out.grow' hg1 HR5.out.p.ty (by decide), hT6⟩
  clear hp1 hg1 HR5 ho6 hT6 HT5
  have z0 := HR6.out.z.c 0 _ rfl; have z1 := HR6.out.z.c 1 _ rfl; have z2 := HR6.out.z.c 2 _ rfl; have z3 := HR6.out.z.c 3 _ rfl; have z4 := HR6.out.z.c 4 _ rfl
  have f0 := HR6.out.z.f 0 (by simp); have f1 := HR6.out.z.f 1 (by simp); have f2 := HR6.out.z.f 2 (by simp); have f3 := HR6.out.z.f 3 (by simp); have f4 := HR6.out.z.f 4 (by simp)
  have yz := HR6.out.z.ty.lt
  go_wp2_with fail
  refine bodyPost_ret (v := pstV ⟨t, c - 1, n, sl, en⟩ (.slice ad5 sl.length cap5) (.slice ad6 en.length cap6)) (by simp [results, Tryd.results36, go_sem, z0, z1, z2, z3, z4]) rfl ?_
  rw [HE.out]
  exact ⟨⟨_, _, rfl, HT6.out.store HR6.out.z.ty _ _ _ _ _⟩, HR6.out.p.far5 (by have := HR6.out.q; omega) _ _ _ _ _, grow_new5 HR6.out.g (Nat.le_refl _) _ _ _ _ _⟩
end Go.Proofs.YtdajolpoiffimabDoor

namespace Go.Proofs.YtdajolpoiffimabDoor
open Go.RowKit

/-- What a frame tells. -/
structure Ct where
  kind : ByteArray
  tab : ByteArray
  num : Int
  st : Px.St
  size : Int
abbrev ctC (c : Ct) (sl en : Value) : List Value := [.string c.kind, .string c.tab, .int .i64 c.num, .string c.st.tab, .int .i64 c.st.clock, .int .i64 c.st.next, sl, en, .int .i64 c.size]
abbrev ctV (c : Ct) (sl en : Value) : Value := .agg (ctC c sl en).toArray
def ct0 : Ct := ⟨ByteArray.empty, ByteArray.empty, 0, Px.st0, 0⟩
abbrev nilS : Value := .slice none 0 0
/-- A change, as a frame tells it; a whole state, as a frame tells it. -/
def IsC (b : ByteArray) (c : Ct) : Prop := ∃ h : Bx.Ch, Bx.IsCh b h ∧ c.kind = Bx.b1 h.kind ∧ c.tab = h.tab ∧ c.num = h.n
def IsW (b : ByteArray) (c : Ct) : Prop := c.kind = Bx.b1 90 ∧ Bx.wholeS (Px.abs c.st) = b ∧ Bx.StFit (Px.abs c.st) ∧ (∀ x ∈ c.st.slots, Px.Fresh x) ∧ -1 ≤ c.st.clock
/-- What readBody answers. -/
inductive BodyR (b : ByteArray) (w' : World) : Ending → Prop
  | ch (c : Ct) (h : IsC b c) (hs : c.st = Px.st0) (hz : c.size = 0) : BodyR b w' (.returned (.tuple #[ctV c nilS nilS, .bool true]))
  | wh (c : Ct) (sl en : Value) (h : IsW b c) (hz : c.size = 0) (ha : PAt w' c.st sl en) : BodyR b w' (.returned (.tuple #[ctV c sl en, .bool true]))
  | no (c : Ct) (sl en : Value) (h1 : ¬ ∃ h, Bx.IsCh b h) (h2 : ¬ ∃ s, Bx.StFit s ∧ Bx.wholeS s = b) (ha : (∃ ad cap, sl = .slice ad c.st.slots.length cap) ∧ ∃ ad cap, en = .slice ad c.st.ends.length cap) : BodyR b w' (.returned (.tuple #[ctV c sl en, .bool false]))
theorem below_set9 {n R : Nat} {w w' : World} (h : Below n w w') (hR : n ≤ R) (v0 v1 v2 v3 v4 v5 v6 v7 v8 : Value) : Below n w (((((((((w'.setCell ⟨R, 0, none⟩ v0).setCell ⟨R, 1, none⟩ v1).setCell ⟨R, 2, none⟩ v2).setCell ⟨R, 3, none⟩ v3).setCell ⟨R, 4, none⟩ v4).setCell ⟨R, 5, none⟩ v5).setCell ⟨R, 6, none⟩ v6).setCell ⟨R, 7, none⟩ v7).setCell ⟨R, 8, none⟩ v8) := by
  repeat (refine Below.setCell ?_ hR _)
  exact h
/-- Where readBody is: the result, the parts, the content. -/
structure RB (w W : World) (p : Bx.PS) (cs : List Value) : Prop where
  z : Cl W w.heap.size 64 (ctC ct0 nilS nilS)
  p : PtIn W (w.heap.size + 1) p
  c : Cl W (w.heap.size + 2) 64 cs
  b : Below w.heap.size w W
theorem RB.call {w W W' : World} {p p' : Bx.PS} {cs : List Value} (h : RB w W p cs) (hp : PtIn W' (w.heap.size + 1) p') (hg : W.grownBy W' (some (w.heap.size + 1))) : RB w W' p' cs :=
  ⟨h.z.grow hg (by omega), hp, h.c.grow hg (by omega), ⟨hg.os.trans h.b.os, hg.tape.trans h.b.tape, hg.output.trans h.b.output, Nat.le_trans h.b.size hg.size, fun k hk => (hg.block k (Nat.lt_of_lt_of_le hk h.b.size) (fun e => by cases e; omega)).trans (h.b.block k hk)⟩⟩
theorem RB.put {w W : World} {p : Bx.PS} {cs : List Value} (h : RB w W p cs) (j : Nat) (v : Value) (hj : j < cs.length) : RB w (W.setCell ⟨w.heap.size + 2, j, none⟩ v) p (cs.set j v) :=
  ⟨h.z.far (by omega) _ _, h.p.far (by omega) _ _, h.c.set j hj v, h.b.setCell (by show w.heap.size ≤ w.heap.size + 2; omega) _⟩
theorem RB.new (w : World) (b : ByteArray) : RB w (((w.alloc (.cells (ctC ct0 nilS nilS).toArray 64)).alloc (.cells (ptC ⟨b, false⟩).toArray 78)).alloc (.cells (ctC ct0 nilS nilS).toArray 64)) ⟨b, false⟩ (ctC ct0 nilS nilS) := by
  have b1 := below_alloc w (.cells (ctC ct0 nilS nilS).toArray 64)
  have z1 : (w.alloc (.cells (ctC ct0 nilS nilS).toArray 64)).heap.size = w.heap.size + 1 := by simp
  have b2 := below_alloc (w.alloc (.cells (ctC ct0 nilS nilS).toArray 64)) (.cells (ptC ⟨b, false⟩).toArray 78)
  have z2 : ((w.alloc (.cells (ctC ct0 nilS nilS).toArray 64)).alloc (.cells (ptC ⟨b, false⟩).toArray 78)).heap.size = w.heap.size + 2 := by simp
  have b3 := below_alloc ((w.alloc (.cells (ctC ct0 nilS nilS).toArray 64)).alloc (.cells (ptC ⟨b, false⟩).toArray 78)) (.cells (ctC ct0 nilS nilS).toArray 64)
  have n2 := Cl.new (w.alloc (.cells (ctC ct0 nilS nilS).toArray 64)) (ptC ⟨b, false⟩) 78
  have n3 := Cl.new ((w.alloc (.cells (ctC ct0 nilS nilS).toArray 64)).alloc (.cells (ptC ⟨b, false⟩).toArray 78)) (ctC ct0 nilS nilS) 64
  rw [z1] at n2
  rw [z2] at n3
  exact ⟨((Cl.new w (ctC ct0 nilS nilS) 64).later b2).later b3, n2.later b3, n3, (b1.trans (b2.mono b1.size)).trans (b3.mono (by rw [z2]; omega))⟩
theorem lit_eq {h : ByteArray} {l : List UInt8} (e : h = ⟨l.toArray⟩) : (h.toList == l) = true := by
  subst e; simp [ByteArray.toList_eq]
theorem isEmpty_iff (r : ByteArray) : r.toList.isEmpty = true ↔ r = ByteArray.empty := by
  rw [ByteArray.toList_eq]
  constructor
  · intro h; exact Bx.ba_ext (by simpa using h)
  · intro h; subst h; rfl
theorem txt1_head (b : ByteArray) (h : 0 < b.size) : ∃ k : Int, 0 ≤ k ∧ k < 256 ∧ Bx.txtP 1 ⟨b, false⟩ = (Bx.b1 k, ⟨b.extract 1 b.size, false⟩) ∧ b = Bx.b1 k ++ b.extract 1 b.size := by
  obtain ⟨t, q, ht⟩ : ∃ t q, Bx.txtP 1 ⟨b, false⟩ = (t, q) := ⟨_, _, pr_eta _⟩
  have e : Bx.txtP 1 ⟨b, false⟩ = (b.extract 0 1, ⟨b.extract 1 b.size, false⟩) := by unfold Bx.txtP; rw [if_neg (by simp; omega)]; rfl
  have hs : (b.extract 0 1).size = 1 := by simp; omega
  have hb := Bx.be_nB' hs
  rw [← Bx.b1_be] at hb
  have hlt := Bx.nb_lt (b.extract 0 1).data.toList
  rw [Bx.ba_len, hs] at hlt
  have h9 : Bx.nB (b.extract 0 1) < 256 := hlt
  refine ⟨Bx.nB (b.extract 0 1), Bx.nb_nonneg _, h9, by rw [e, hb], by rw [hb]; exact (Bx.ext_split b 1).symm⟩
theorem b1_lit (k : Int) (h0 : 0 ≤ k) (h1 : k < 256) (n : UInt8) : Bx.b1 k = ⟨[n].toArray⟩ ↔ k = (n.toNat : Int) := by
  constructor
  · intro h
    have h2 : Bx.nB (Bx.b1 k) = k := by rw [Bx.b1_be]; exact Bx.nB_be k 1 h0 (by simpa using h1)
    rw [h] at h2
    rw [← h2]; simp [Bx.nB, Bx.nb]
  · intro h
    subst h
    refine Bx.ba_ext ?_
    rw [Bx.b1_list]
    simp
    have : ((n.toNat : Int) % 256).toNat = n.toNat := by have := n.toNat_lt; omega
    rw [this]; simp
theorem PAt.store9 {W : World} {q : Nat} {s : Px.St} {sl en : Value} (h : PAt W s sl en) (ty : Typed W q 64) (u0 u1 u2 u3 u4 u5 u6 u7 u8 : Value) :
    PAt (((((((((W.setCell ⟨q, 0, none⟩ u0).setCell ⟨q, 1, none⟩ u1).setCell ⟨q, 2, none⟩ u2).setCell ⟨q, 3, none⟩ u3).setCell ⟨q, 4, none⟩ u4).setCell ⟨q, 5, none⟩ u5).setCell ⟨q, 6, none⟩ u6).setCell ⟨q, 7, none⟩ u7).setCell ⟨q, 8, none⟩ u8) s sl en := by
  have q : ∀ (w : World) (j : Nat) (u : Value), (Typed w q 64 ∧ PAt w s sl en) → (Typed (w.setCell ⟨q, j, none⟩ u) q 64 ∧ PAt (w.setCell ⟨q, j, none⟩ u) s sl en) := fun w j u h => ⟨h.1.setCell _ _ _, h.2.set h.1 (by decide) (by decide) _ _⟩
  exact (q _ _ _ (q _ _ _ (q _ _ _ (q _ _ _ (q _ _ _ (q _ _ _ (q _ _ _ (q _ _ _ (q _ _ _ ⟨ty, h⟩))))))))).2

set_option maxRecDepth 10000 in
set_option maxHeartbeats 4000000 in
theorem readBody_T (b : ByteArray) (k : Int) (w : World) (hb : b.size ≤ 100000) (h0 : 0 ≤ k) (h1 : k < 256) (hk : k = 84) (ht : Bx.txtP 1 ⟨b, false⟩ = (Bx.b1 k, ⟨b.extract 1 b.size, false⟩)) (he : b = Bx.b1 k ++ b.extract 1 b.size) :
    Calls Tryd.prog 31 #[.string b] w fun e w' => BodyR b w' e ∧ Below w.heap.size w w' := by
  have HT : Hid (Bx.txtP 1 ⟨b, false⟩ = (Bx.b1 k, ⟨b.extract 1 b.size, false⟩)) := ht
  have HE : Hid (b = Bx.b1 k ++ b.extract 1 b.size) := he
  have hsz : (b.extract 1 b.size).size ≤ 100000 := by simp; omega
  have e84 : ((Bx.b1 k).toList == [84]) = true := lit_eq ((b1_lit k h0 h1 84).2 (by rw [hk]; rfl))
  have e67 : ((Bx.b1 k).toList == [67]) = false := lit_ne (l := [67]) (fun q => by have := (b1_lit k h0 h1 67).1 q; simp at this; omega)
  have e83 : ((Bx.b1 k).toList == [83]) = false := lit_ne (l := [83]) (fun q => by have := (b1_lit k h0 h1 83).1 q; simp at this; omega)
  have e68 : ((Bx.b1 k).toList == [68]) = false := lit_ne (l := [68]) (fun q => by have := (b1_lit k h0 h1 68).1 q; simp at this; omega)
  have e70 : ((Bx.b1 k).toList == [70]) = false := lit_ne (l := [70]) (fun q => by have := (b1_lit k h0 h1 70).1 q; simp at this; omega)
  have e75 : ((Bx.b1 k).toList == [75]) = false := lit_ne (l := [75]) (fun q => by have := (b1_lit k h0 h1 75).1 q; simp at this; omega)
  have e90 : ((Bx.b1 k).toList == [90]) = false := lit_ne (l := [90]) (fun q => by have := (b1_lit k h0 h1 90).1 q; simp at this; omega)
  have HKd : Hid (∀ kd, kd = Bx.b1 k → kd = Bx.b1 k) := fun _ h => h
  generalize hkd : Bx.b1 k = kd at *
  have HKD : Hid (Bx.b1 k = kd) := hkd
  generalize hr : b.extract 1 b.size = r at *
  have HRr : Hid (b.extract 1 b.size = r) := hr
  clear hkd hr ht he HKd
  have hN := RB.new w b
  go_enter Tryd.func31, Tryd.ntmps31
  go_upto_region 3 with fail
  have hN' : RB w (((w.alloc (.cells #[.string { data := #[] }, .string { data := #[] }, .int .i64 0, .string { data := #[] }, .int .i64 0, .int .i64 0, .slice none 0 0, .slice none 0 0, .int .i64 0] 64)).alloc (.cells #[.string b, .bool false] 78)).alloc (.cells #[.string { data := #[] }, .string { data := #[] }, .int .i64 0, .string { data := #[] }, .int .i64 0, .int .i64 0, .slice none 0 0, .slice none 0 0, .int .i64 0] 64)) ⟨b, false⟩ (ctC ct0 nilS nilS) := hN
  clear hN
  generalize ((w.alloc (.cells #[.string { data := #[] }, .string { data := #[] }, .int .i64 0, .string { data := #[] }, .int .i64 0, .int .i64 0, .slice none 0 0, .slice none 0 0, .int .i64 0] 64)).alloc (.cells #[.string b, .bool false] 78)).alloc (.cells #[.string { data := #[] }, .string { data := #[] }, .int .i64 0, .string { data := #[] }, .int .i64 0, .int .i64 0, .slice none 0 0, .slice none 0 0, .int .i64 0] 64) = W at *
  have HN0 : Hid (RB w W ⟨b, false⟩ (ctC ct0 nilS nilS)) := hN'
  clear hN'
  go_wp2_with fail
  refine (ptext_any ⟨b, false⟩ (w.heap.size + 1) 1 _ hb HN0.out.p).mono ?_
  rintro ex w1 ⟨rfl, hp1, hg1⟩
  rw [HT.out] at hp1 ⊢
  simp only at hp1
  have hR1 := HN0.out.call hp1 hg1
  have s0 := hR1.c.c 0 _ rfl
  have t0 := hR1.c.f 0 (by simp)
  have y0 := hR1.c.ty.lt
  have hT1 := hR1.put 0 (.string kd) (by simp)
  clear hp1 hg1 hR1 HN0
  go_upto_region 4 with fail
  clear s0 t0 y0
  generalize w1.setCell ⟨w.heap.size + 2, 0, none⟩ (.string kd) = W1 at *
  have HR1 : Hid (RB w W1 ⟨r, false⟩ ((ctC ct0 nilS nilS).set 0 (.string kd))) := hT1
  have k0 := hT1.c.c 0 _ rfl
  have yk := hT1.c.ty.lt
  have pc0 := hT1.p.c0
  have yp := hT1.p.ty.lt
  clear hT1
  have HA : Hid (Bx.txtP (r.size : Int) ⟨r, false⟩ = (r, ⟨ByteArray.empty, false⟩)) := by
    have := Bx.txtP_app r ByteArray.empty false (r.size : Int) rfl
    rw [ByteArray.append_empty] at this; exact this
  go_wp2_with fail
  refine (ptext_any ⟨r, false⟩ (w.heap.size + 1) r.size _ hsz HR1.out.p).mono ?_
  rintro ex w2 ⟨rfl, hp1, hg1⟩
  rw [HA.out] at hp1 ⊢
  simp only at hp1
  have hR2 := HR1.out.call hp1 hg1
  have s0 := hR2.c.c 1 _ rfl
  have t0 := hR2.c.f 1 (by simp)
  have y0 := hR2.c.ty.lt
  have hT3 := hR2.put 1 (.string r) (by simp)
  clear hp1 hg1 hR2 HR1 k0 yk pc0 yp
  go_upto_region 18 with fail
  clear s0 t0 y0
  generalize w2.setCell ⟨w.heap.size + 2, 1, none⟩ (.string r) = W3 at *
  have HR3 : Hid (RB w W3 ⟨ByteArray.empty, false⟩ (((ctC ct0 nilS nilS).set 0 (.string kd)).set 1 (.string r))) := hT3
  clear hT3
  go_wp2_with fail
  refine (pright_any ⟨ByteArray.empty, false⟩ (w.heap.size + 1) _ HR3.out.p).mono ?_
  rintro ex w4 ⟨rfl, rfl⟩
  have hR := HR3.out
  have x0 := hR.c.c 0 _ rfl; have x1 := hR.c.c 1 _ rfl; have x2 := hR.c.c 2 _ rfl; have x3 := hR.c.c 3 _ rfl; have x4 := hR.c.c 4 _ rfl; have x5 := hR.c.c 5 _ rfl; have x6 := hR.c.c 6 _ rfl; have x7 := hR.c.c 7 _ rfl; have x8 := hR.c.c 8 _ rfl
  have z0 := hR.z.c 0 _ rfl; have z1 := hR.z.c 1 _ rfl; have z2 := hR.z.c 2 _ rfl; have z3 := hR.z.c 3 _ rfl; have z4 := hR.z.c 4 _ rfl; have z5 := hR.z.c 5 _ rfl; have z6 := hR.z.c 6 _ rfl; have z7 := hR.z.c 7 _ rfl; have z8 := hR.z.c 8 _ rfl
  have f0 := hR.z.f 0 (by simp); have f1 := hR.z.f 1 (by simp); have f2 := hR.z.f 2 (by simp); have f3 := hR.z.f 3 (by simp); have f4 := hR.z.f 4 (by simp); have f5 := hR.z.f 5 (by simp); have f6 := hR.z.f 6 (by simp); have f7 := hR.z.f 7 (by simp); have f8 := hR.z.f 8 (by simp)
  have yz := hR.z.ty.lt
  have yx := hR.c.ty.lt
  clear hR
  have HF : Hid (IsC b ⟨kd, r, 0, Px.st0, 0⟩) := by
    refine ⟨⟨84, r, 0⟩, ?_, by rw [← HKD.out, hk], rfl, rfl⟩
    have := Bx.body_T r
    rw [HE.out, ← HKD.out, hk]; exact this
  go_wp2_with fail
  refine bodyPost_ret (v := .tuple #[ctV ⟨kd, r, 0, Px.st0, 0⟩ nilS nilS, .bool true]) (by simp [results, Tryd.results31, go_sem, z0, z1, z2, z3, z4, z5, z6, z7, z8, ct0, Px.st0]) rfl ⟨BodyR.ch _ HF.out rfl rfl, below_set9 HR3.out.b (Nat.le_refl _) _ _ _ _ _ _ _ _ _⟩

set_option maxRecDepth 10000 in
set_option maxHeartbeats 4000000 in
theorem readBody_C (b : ByteArray) (k : Int) (w : World) (hb : b.size ≤ 100000) (h0 : 0 ≤ k) (h1 : k < 256) (hk : k = 67) (ht : Bx.txtP 1 ⟨b, false⟩ = (Bx.b1 k, ⟨b.extract 1 b.size, false⟩)) (he : b = Bx.b1 k ++ b.extract 1 b.size) :
    Calls Tryd.prog 31 #[.string b] w fun e w' => BodyR b w' e ∧ Below w.heap.size w w' := by
  have HT : Hid (Bx.txtP 1 ⟨b, false⟩ = (Bx.b1 k, ⟨b.extract 1 b.size, false⟩)) := ht
  have HE : Hid (b = Bx.b1 k ++ b.extract 1 b.size) := he
  have hsz : (b.extract 1 b.size).size ≤ 100000 := by simp; omega
  have e84 : ((Bx.b1 k).toList == [84]) = false := lit_ne (l := [84]) (fun q => by have := (b1_lit k h0 h1 84).1 q; simp at this; omega)
  have e67 : ((Bx.b1 k).toList == [67]) = true := lit_eq ((b1_lit k h0 h1 67).2 (by rw [hk]; rfl))
  have e83 : ((Bx.b1 k).toList == [83]) = false := lit_ne (l := [83]) (fun q => by have := (b1_lit k h0 h1 83).1 q; simp at this; omega)
  have e68 : ((Bx.b1 k).toList == [68]) = false := lit_ne (l := [68]) (fun q => by have := (b1_lit k h0 h1 68).1 q; simp at this; omega)
  have e70 : ((Bx.b1 k).toList == [70]) = false := lit_ne (l := [70]) (fun q => by have := (b1_lit k h0 h1 70).1 q; simp at this; omega)
  have e75 : ((Bx.b1 k).toList == [75]) = false := lit_ne (l := [75]) (fun q => by have := (b1_lit k h0 h1 75).1 q; simp at this; omega)
  have e90 : ((Bx.b1 k).toList == [90]) = false := lit_ne (l := [90]) (fun q => by have := (b1_lit k h0 h1 90).1 q; simp at this; omega)
  have HKd : Hid (∀ kd, kd = Bx.b1 k → kd = Bx.b1 k) := fun _ h => h
  generalize hkd : Bx.b1 k = kd at *
  have HKD : Hid (Bx.b1 k = kd) := hkd
  generalize hr : b.extract 1 b.size = r at *
  have HRr : Hid (b.extract 1 b.size = r) := hr
  clear hkd hr ht he HKd
  have hN := RB.new w b
  go_enter Tryd.func31, Tryd.ntmps31
  go_upto_region 3 with fail
  have hN' : RB w (((w.alloc (.cells #[.string { data := #[] }, .string { data := #[] }, .int .i64 0, .string { data := #[] }, .int .i64 0, .int .i64 0, .slice none 0 0, .slice none 0 0, .int .i64 0] 64)).alloc (.cells #[.string b, .bool false] 78)).alloc (.cells #[.string { data := #[] }, .string { data := #[] }, .int .i64 0, .string { data := #[] }, .int .i64 0, .int .i64 0, .slice none 0 0, .slice none 0 0, .int .i64 0] 64)) ⟨b, false⟩ (ctC ct0 nilS nilS) := hN
  clear hN
  generalize ((w.alloc (.cells #[.string { data := #[] }, .string { data := #[] }, .int .i64 0, .string { data := #[] }, .int .i64 0, .int .i64 0, .slice none 0 0, .slice none 0 0, .int .i64 0] 64)).alloc (.cells #[.string b, .bool false] 78)).alloc (.cells #[.string { data := #[] }, .string { data := #[] }, .int .i64 0, .string { data := #[] }, .int .i64 0, .int .i64 0, .slice none 0 0, .slice none 0 0, .int .i64 0] 64) = W at *
  have HN0 : Hid (RB w W ⟨b, false⟩ (ctC ct0 nilS nilS)) := hN'
  clear hN'
  go_wp2_with fail
  refine (ptext_any ⟨b, false⟩ (w.heap.size + 1) 1 _ hb HN0.out.p).mono ?_
  rintro ex w1 ⟨rfl, hp1, hg1⟩
  rw [HT.out] at hp1 ⊢
  simp only at hp1
  have hR1 := HN0.out.call hp1 hg1
  have s0 := hR1.c.c 0 _ rfl
  have t0 := hR1.c.f 0 (by simp)
  have y0 := hR1.c.ty.lt
  have hT1 := hR1.put 0 (.string kd) (by simp)
  clear hp1 hg1 hR1 HN0
  go_upto_region 4 with fail
  clear s0 t0 y0
  generalize w1.setCell ⟨w.heap.size + 2, 0, none⟩ (.string kd) = W1 at *
  have HR1 : Hid (RB w W1 ⟨r, false⟩ ((ctC ct0 nilS nilS).set 0 (.string kd))) := hT1
  have k0 := hT1.c.c 0 _ rfl
  have yk := hT1.c.ty.lt
  have pc0 := hT1.p.c0
  have yp := hT1.p.ty.lt
  clear hT1
  obtain ⟨n, q, hnq⟩ : ∃ n q, Bx.numP 5 ⟨r, false⟩ = (n, q) := ⟨_, _, pr_eta _⟩
  have HA : Hid (Bx.numP 5 ⟨r, false⟩ = (n, q)) := hnq
  clear hnq
  go_wp2_with fail
  refine (pnumber_any ⟨r, false⟩ (w.heap.size + 1) 5 _ _ rfl (by decide) hsz HR1.out.p).mono ?_
  rintro ex w2 ⟨rfl, hp1, hg1⟩
  rw [HA.out] at hp1 ⊢
  simp only at hp1
  have hR2 := HR1.out.call hp1 hg1
  have s0 := hR2.c.c 2 _ rfl
  have t0 := hR2.c.f 2 (by simp)
  have y0 := hR2.c.ty.lt
  have hT3 := hR2.put 2 (.int .i64 n) (by simp)
  clear hp1 hg1 hR2 HR1 k0 yk pc0 yp
  go_upto_region 18 with fail
  clear s0 t0 y0
  generalize w2.setCell ⟨w.heap.size + 2, 2, none⟩ (.int .i64 n) = W3 at *
  have HR3 : Hid (RB w W3 q (((ctC ct0 nilS nilS).set 0 (.string kd)).set 2 (.int .i64 n))) := hT3
  clear hT3
  go_wp2_with fail
  refine (pright_any q (w.heap.size + 1) _ HR3.out.p).mono ?_
  rintro ex w4 ⟨rfl, rfl⟩
  have hR := HR3.out
  have x0 := hR.c.c 0 _ rfl; have x1 := hR.c.c 1 _ rfl; have x2 := hR.c.c 2 _ rfl; have x3 := hR.c.c 3 _ rfl; have x4 := hR.c.c 4 _ rfl; have x5 := hR.c.c 5 _ rfl; have x6 := hR.c.c 6 _ rfl; have x7 := hR.c.c 7 _ rfl; have x8 := hR.c.c 8 _ rfl
  have z0 := hR.z.c 0 _ rfl; have z1 := hR.z.c 1 _ rfl; have z2 := hR.z.c 2 _ rfl; have z3 := hR.z.c 3 _ rfl; have z4 := hR.z.c 4 _ rfl; have z5 := hR.z.c 5 _ rfl; have z6 := hR.z.c 6 _ rfl; have z7 := hR.z.c 7 _ rfl; have z8 := hR.z.c 8 _ rfl
  have f0 := hR.z.f 0 (by simp); have f1 := hR.z.f 1 (by simp); have f2 := hR.z.f 2 (by simp); have f3 := hR.z.f 3 (by simp); have f4 := hR.z.f 4 (by simp); have f5 := hR.z.f 5 (by simp); have f6 := hR.z.f 6 (by simp); have f7 := hR.z.f 7 (by simp); have f8 := hR.z.f 8 (by simp)
  have yz := hR.z.ty.lt
  have yx := hR.c.ty.lt
  clear hR
  cases hw : (!q.wrong && q.rest.toList.isEmpty)
  · have hno : ¬ (q.wrong = false ∧ q.rest = ByteArray.empty) := by
      rintro ⟨a1, a2⟩
      rw [a1, (isEmpty_iff _).2 a2] at hw; cases hw
    have HF : Hid ((¬ ∃ h, Bx.IsCh b h) ∧ ¬ ∃ s, Bx.StFit s ∧ Bx.wholeS s = b) := by
      refine ⟨?_, ?_⟩
      · rw [HE.out, ← HKD.out, hk]; exact Bx.body_C_no HA.out hno
      · rintro ⟨s, _, e⟩
        rw [HE.out, ← HKD.out] at e
        exact Bx.whole_no ⟨h0, h1⟩ (by omega) ⟨s, e⟩
    clear hw hno
    go_wp2_with fail
    refine bodyPost_ret (v := .tuple #[ctV ⟨kd, ByteArray.empty, n, Px.st0, 0⟩ nilS nilS, .bool false]) (by simp [results, Tryd.results31, go_sem, z0, z1, z2, z3, z4, z5, z6, z7, z8, ct0, Px.st0]) rfl ⟨BodyR.no _ _ _ HF.out.1 HF.out.2 ⟨⟨none, 0, rfl⟩, ⟨none, 0, rfl⟩⟩, below_set9 HR3.out.b (Nat.le_refl _) _ _ _ _ _ _ _ _ _⟩
  · have hyes : q.wrong = false ∧ q.rest = ByteArray.empty := by
      simp only [Bool.and_eq_true, Bool.not_eq_true'] at hw
      exact ⟨hw.1, (isEmpty_iff _).1 hw.2⟩
    have HF : Hid (IsC b ⟨kd, ByteArray.empty, n, Px.st0, 0⟩) := by
      refine ⟨⟨k, ByteArray.empty, n⟩, ?_, HKD.out.symm, rfl, rfl⟩
      rw [HE.out, ← HKD.out]; exact (by subst hk; exact Bx.body_C_yes HA.out hyes.1 hyes.2)
    clear hw hyes
    go_wp2_with fail
    refine bodyPost_ret (v := .tuple #[ctV ⟨kd, ByteArray.empty, n, Px.st0, 0⟩ nilS nilS, .bool true]) (by simp [results, Tryd.results31, go_sem, z0, z1, z2, z3, z4, z5, z6, z7, z8, ct0, Px.st0]) rfl ⟨BodyR.ch _ HF.out rfl rfl, below_set9 HR3.out.b (Nat.le_refl _) _ _ _ _ _ _ _ _ _⟩

end Go.Proofs.YtdajolpoiffimabDoor

namespace Go.Proofs.YtdajolpoiffimabDoor
open Go.RowKit

set_option maxRecDepth 10000 in
set_option maxHeartbeats 4000000 in
theorem readBody_N70 (b : ByteArray) (k : Int) (w : World) (hb : b.size ≤ 100000) (h0 : 0 ≤ k) (h1 : k < 256) (hk : k = 70) (ht : Bx.txtP 1 ⟨b, false⟩ = (Bx.b1 k, ⟨b.extract 1 b.size, false⟩)) (he : b = Bx.b1 k ++ b.extract 1 b.size) :
    Calls Tryd.prog 31 #[.string b] w fun e w' => BodyR b w' e ∧ Below w.heap.size w w' := by
  have HT : Hid (Bx.txtP 1 ⟨b, false⟩ = (Bx.b1 k, ⟨b.extract 1 b.size, false⟩)) := ht
  have HE : Hid (b = Bx.b1 k ++ b.extract 1 b.size) := he
  have hsz : (b.extract 1 b.size).size ≤ 100000 := by simp; omega
  have e84 : ((Bx.b1 k).toList == [84]) = false := lit_ne (l := [84]) (fun q => by have := (b1_lit k h0 h1 84).1 q; simp at this; omega)
  have e67 : ((Bx.b1 k).toList == [67]) = false := lit_ne (l := [67]) (fun q => by have := (b1_lit k h0 h1 67).1 q; simp at this; omega)
  have e83 : ((Bx.b1 k).toList == [83]) = false := lit_ne (l := [83]) (fun q => by have := (b1_lit k h0 h1 83).1 q; simp at this; omega)
  have e68 : ((Bx.b1 k).toList == [68]) = false := lit_ne (l := [68]) (fun q => by have := (b1_lit k h0 h1 68).1 q; simp at this; omega)
  have e70 : ((Bx.b1 k).toList == [70]) = true := lit_eq ((b1_lit k h0 h1 70).2 (by rw [hk]; rfl))
  have e75 : ((Bx.b1 k).toList == [75]) = false := lit_ne (l := [75]) (fun q => by have := (b1_lit k h0 h1 75).1 q; simp at this; omega)
  have e90 : ((Bx.b1 k).toList == [90]) = false := lit_ne (l := [90]) (fun q => by have := (b1_lit k h0 h1 90).1 q; simp at this; omega)
  have HKd : Hid (∀ kd, kd = Bx.b1 k → kd = Bx.b1 k) := fun _ h => h
  generalize hkd : Bx.b1 k = kd at *
  have HKD : Hid (Bx.b1 k = kd) := hkd
  generalize hr : b.extract 1 b.size = r at *
  have HRr : Hid (b.extract 1 b.size = r) := hr
  clear hkd hr ht he HKd
  have hN := RB.new w b
  go_enter Tryd.func31, Tryd.ntmps31
  go_upto_region 3 with fail
  have hN' : RB w (((w.alloc (.cells #[.string { data := #[] }, .string { data := #[] }, .int .i64 0, .string { data := #[] }, .int .i64 0, .int .i64 0, .slice none 0 0, .slice none 0 0, .int .i64 0] 64)).alloc (.cells #[.string b, .bool false] 78)).alloc (.cells #[.string { data := #[] }, .string { data := #[] }, .int .i64 0, .string { data := #[] }, .int .i64 0, .int .i64 0, .slice none 0 0, .slice none 0 0, .int .i64 0] 64)) ⟨b, false⟩ (ctC ct0 nilS nilS) := hN
  clear hN
  generalize ((w.alloc (.cells #[.string { data := #[] }, .string { data := #[] }, .int .i64 0, .string { data := #[] }, .int .i64 0, .int .i64 0, .slice none 0 0, .slice none 0 0, .int .i64 0] 64)).alloc (.cells #[.string b, .bool false] 78)).alloc (.cells #[.string { data := #[] }, .string { data := #[] }, .int .i64 0, .string { data := #[] }, .int .i64 0, .int .i64 0, .slice none 0 0, .slice none 0 0, .int .i64 0] 64) = W at *
  have HN0 : Hid (RB w W ⟨b, false⟩ (ctC ct0 nilS nilS)) := hN'
  clear hN'
  go_wp2_with fail
  refine (ptext_any ⟨b, false⟩ (w.heap.size + 1) 1 _ hb HN0.out.p).mono ?_
  rintro ex w1 ⟨rfl, hp1, hg1⟩
  rw [HT.out] at hp1 ⊢
  simp only at hp1
  have hR1 := HN0.out.call hp1 hg1
  have s0 := hR1.c.c 0 _ rfl
  have t0 := hR1.c.f 0 (by simp)
  have y0 := hR1.c.ty.lt
  have hT1 := hR1.put 0 (.string kd) (by simp)
  clear hp1 hg1 hR1 HN0
  go_upto_region 4 with fail
  clear s0 t0 y0
  generalize w1.setCell ⟨w.heap.size + 2, 0, none⟩ (.string kd) = W1 at *
  have HR1 : Hid (RB w W1 ⟨r, false⟩ ((ctC ct0 nilS nilS).set 0 (.string kd))) := hT1
  have k0 := hT1.c.c 0 _ rfl
  have yk := hT1.c.ty.lt
  have pc0 := hT1.p.c0
  have yp := hT1.p.ty.lt
  clear hT1
  obtain ⟨n, q, hnq⟩ : ∃ n q, Bx.numP 2 ⟨r, false⟩ = (n, q) := ⟨_, _, pr_eta _⟩
  have HA : Hid (Bx.numP 2 ⟨r, false⟩ = (n, q)) := hnq
  clear hnq
  go_wp2_with fail
  refine (pnumber_any ⟨r, false⟩ (w.heap.size + 1) 2 _ _ rfl (by decide) hsz HR1.out.p).mono ?_
  rintro ex w2 ⟨rfl, hp1, hg1⟩
  rw [HA.out] at hp1 ⊢
  simp only at hp1
  have hR2 := HR1.out.call hp1 hg1
  have s0 := hR2.c.c 2 _ rfl
  have t0 := hR2.c.f 2 (by simp)
  have y0 := hR2.c.ty.lt
  have hT3 := hR2.put 2 (.int .i64 n) (by simp)
  clear hp1 hg1 hR2 HR1 k0 yk pc0 yp
  go_upto_region 18 with fail
  clear s0 t0 y0
  generalize w2.setCell ⟨w.heap.size + 2, 2, none⟩ (.int .i64 n) = W3 at *
  have HR3 : Hid (RB w W3 q (((ctC ct0 nilS nilS).set 0 (.string kd)).set 2 (.int .i64 n))) := hT3
  clear hT3
  go_wp2_with fail
  refine (pright_any q (w.heap.size + 1) _ HR3.out.p).mono ?_
  rintro ex w4 ⟨rfl, rfl⟩
  have hR := HR3.out
  have x0 := hR.c.c 0 _ rfl; have x1 := hR.c.c 1 _ rfl; have x2 := hR.c.c 2 _ rfl; have x3 := hR.c.c 3 _ rfl; have x4 := hR.c.c 4 _ rfl; have x5 := hR.c.c 5 _ rfl; have x6 := hR.c.c 6 _ rfl; have x7 := hR.c.c 7 _ rfl; have x8 := hR.c.c 8 _ rfl
  have z0 := hR.z.c 0 _ rfl; have z1 := hR.z.c 1 _ rfl; have z2 := hR.z.c 2 _ rfl; have z3 := hR.z.c 3 _ rfl; have z4 := hR.z.c 4 _ rfl; have z5 := hR.z.c 5 _ rfl; have z6 := hR.z.c 6 _ rfl; have z7 := hR.z.c 7 _ rfl; have z8 := hR.z.c 8 _ rfl
  have f0 := hR.z.f 0 (by simp); have f1 := hR.z.f 1 (by simp); have f2 := hR.z.f 2 (by simp); have f3 := hR.z.f 3 (by simp); have f4 := hR.z.f 4 (by simp); have f5 := hR.z.f 5 (by simp); have f6 := hR.z.f 6 (by simp); have f7 := hR.z.f 7 (by simp); have f8 := hR.z.f 8 (by simp)
  have yz := hR.z.ty.lt
  have yx := hR.c.ty.lt
  clear hR
  cases hw : (!q.wrong && q.rest.toList.isEmpty)
  · have hno : ¬ (q.wrong = false ∧ q.rest = ByteArray.empty) := by
      rintro ⟨a1, a2⟩
      rw [a1, (isEmpty_iff _).2 a2] at hw; cases hw
    have HF : Hid ((¬ ∃ h, Bx.IsCh b h) ∧ ¬ ∃ s, Bx.StFit s ∧ Bx.wholeS s = b) := by
      refine ⟨?_, ?_⟩
      · rw [HE.out, ← HKD.out, hk]; exact Bx.body_N_no (by decide) HA.out hno
      · rintro ⟨s, _, e⟩
        rw [HE.out, ← HKD.out] at e
        exact Bx.whole_no ⟨h0, h1⟩ (by omega) ⟨s, e⟩
    clear hw hno
    go_wp2_with fail
    refine bodyPost_ret (v := .tuple #[ctV ⟨kd, ByteArray.empty, n, Px.st0, 0⟩ nilS nilS, .bool false]) (by simp [results, Tryd.results31, go_sem, z0, z1, z2, z3, z4, z5, z6, z7, z8, ct0, Px.st0]) rfl ⟨BodyR.no _ _ _ HF.out.1 HF.out.2 ⟨⟨none, 0, rfl⟩, ⟨none, 0, rfl⟩⟩, below_set9 HR3.out.b (Nat.le_refl _) _ _ _ _ _ _ _ _ _⟩
  · have hyes : q.wrong = false ∧ q.rest = ByteArray.empty := by
      simp only [Bool.and_eq_true, Bool.not_eq_true'] at hw
      exact ⟨hw.1, (isEmpty_iff _).1 hw.2⟩
    have HF : Hid (IsC b ⟨kd, ByteArray.empty, n, Px.st0, 0⟩) := by
      refine ⟨⟨k, ByteArray.empty, n⟩, ?_, HKD.out.symm, rfl, rfl⟩
      rw [HE.out, ← HKD.out]; exact Bx.body_N_yes (by omega) HA.out hyes.1 hyes.2
    clear hw hyes
    go_wp2_with fail
    refine bodyPost_ret (v := .tuple #[ctV ⟨kd, ByteArray.empty, n, Px.st0, 0⟩ nilS nilS, .bool true]) (by simp [results, Tryd.results31, go_sem, z0, z1, z2, z3, z4, z5, z6, z7, z8, ct0, Px.st0]) rfl ⟨BodyR.ch _ HF.out rfl rfl, below_set9 HR3.out.b (Nat.le_refl _) _ _ _ _ _ _ _ _ _⟩

set_option maxRecDepth 10000 in
set_option maxHeartbeats 4000000 in
theorem readBody_N75 (b : ByteArray) (k : Int) (w : World) (hb : b.size ≤ 100000) (h0 : 0 ≤ k) (h1 : k < 256) (hk : k = 75) (ht : Bx.txtP 1 ⟨b, false⟩ = (Bx.b1 k, ⟨b.extract 1 b.size, false⟩)) (he : b = Bx.b1 k ++ b.extract 1 b.size) :
    Calls Tryd.prog 31 #[.string b] w fun e w' => BodyR b w' e ∧ Below w.heap.size w w' := by
  have HT : Hid (Bx.txtP 1 ⟨b, false⟩ = (Bx.b1 k, ⟨b.extract 1 b.size, false⟩)) := ht
  have HE : Hid (b = Bx.b1 k ++ b.extract 1 b.size) := he
  have hsz : (b.extract 1 b.size).size ≤ 100000 := by simp; omega
  have e84 : ((Bx.b1 k).toList == [84]) = false := lit_ne (l := [84]) (fun q => by have := (b1_lit k h0 h1 84).1 q; simp at this; omega)
  have e67 : ((Bx.b1 k).toList == [67]) = false := lit_ne (l := [67]) (fun q => by have := (b1_lit k h0 h1 67).1 q; simp at this; omega)
  have e83 : ((Bx.b1 k).toList == [83]) = false := lit_ne (l := [83]) (fun q => by have := (b1_lit k h0 h1 83).1 q; simp at this; omega)
  have e68 : ((Bx.b1 k).toList == [68]) = false := lit_ne (l := [68]) (fun q => by have := (b1_lit k h0 h1 68).1 q; simp at this; omega)
  have e70 : ((Bx.b1 k).toList == [70]) = false := lit_ne (l := [70]) (fun q => by have := (b1_lit k h0 h1 70).1 q; simp at this; omega)
  have e75 : ((Bx.b1 k).toList == [75]) = true := lit_eq ((b1_lit k h0 h1 75).2 (by rw [hk]; rfl))
  have e90 : ((Bx.b1 k).toList == [90]) = false := lit_ne (l := [90]) (fun q => by have := (b1_lit k h0 h1 90).1 q; simp at this; omega)
  have HKd : Hid (∀ kd, kd = Bx.b1 k → kd = Bx.b1 k) := fun _ h => h
  generalize hkd : Bx.b1 k = kd at *
  have HKD : Hid (Bx.b1 k = kd) := hkd
  generalize hr : b.extract 1 b.size = r at *
  have HRr : Hid (b.extract 1 b.size = r) := hr
  clear hkd hr ht he HKd
  have hN := RB.new w b
  go_enter Tryd.func31, Tryd.ntmps31
  go_upto_region 3 with fail
  have hN' : RB w (((w.alloc (.cells #[.string { data := #[] }, .string { data := #[] }, .int .i64 0, .string { data := #[] }, .int .i64 0, .int .i64 0, .slice none 0 0, .slice none 0 0, .int .i64 0] 64)).alloc (.cells #[.string b, .bool false] 78)).alloc (.cells #[.string { data := #[] }, .string { data := #[] }, .int .i64 0, .string { data := #[] }, .int .i64 0, .int .i64 0, .slice none 0 0, .slice none 0 0, .int .i64 0] 64)) ⟨b, false⟩ (ctC ct0 nilS nilS) := hN
  clear hN
  generalize ((w.alloc (.cells #[.string { data := #[] }, .string { data := #[] }, .int .i64 0, .string { data := #[] }, .int .i64 0, .int .i64 0, .slice none 0 0, .slice none 0 0, .int .i64 0] 64)).alloc (.cells #[.string b, .bool false] 78)).alloc (.cells #[.string { data := #[] }, .string { data := #[] }, .int .i64 0, .string { data := #[] }, .int .i64 0, .int .i64 0, .slice none 0 0, .slice none 0 0, .int .i64 0] 64) = W at *
  have HN0 : Hid (RB w W ⟨b, false⟩ (ctC ct0 nilS nilS)) := hN'
  clear hN'
  go_wp2_with fail
  refine (ptext_any ⟨b, false⟩ (w.heap.size + 1) 1 _ hb HN0.out.p).mono ?_
  rintro ex w1 ⟨rfl, hp1, hg1⟩
  rw [HT.out] at hp1 ⊢
  simp only at hp1
  have hR1 := HN0.out.call hp1 hg1
  have s0 := hR1.c.c 0 _ rfl
  have t0 := hR1.c.f 0 (by simp)
  have y0 := hR1.c.ty.lt
  have hT1 := hR1.put 0 (.string kd) (by simp)
  clear hp1 hg1 hR1 HN0
  go_upto_region 4 with fail
  clear s0 t0 y0
  generalize w1.setCell ⟨w.heap.size + 2, 0, none⟩ (.string kd) = W1 at *
  have HR1 : Hid (RB w W1 ⟨r, false⟩ ((ctC ct0 nilS nilS).set 0 (.string kd))) := hT1
  have k0 := hT1.c.c 0 _ rfl
  have yk := hT1.c.ty.lt
  have pc0 := hT1.p.c0
  have yp := hT1.p.ty.lt
  clear hT1
  obtain ⟨n, q, hnq⟩ : ∃ n q, Bx.numP 2 ⟨r, false⟩ = (n, q) := ⟨_, _, pr_eta _⟩
  have HA : Hid (Bx.numP 2 ⟨r, false⟩ = (n, q)) := hnq
  clear hnq
  go_wp2_with fail
  refine (pnumber_any ⟨r, false⟩ (w.heap.size + 1) 2 _ _ rfl (by decide) hsz HR1.out.p).mono ?_
  rintro ex w2 ⟨rfl, hp1, hg1⟩
  rw [HA.out] at hp1 ⊢
  simp only at hp1
  have hR2 := HR1.out.call hp1 hg1
  have s0 := hR2.c.c 2 _ rfl
  have t0 := hR2.c.f 2 (by simp)
  have y0 := hR2.c.ty.lt
  have hT3 := hR2.put 2 (.int .i64 n) (by simp)
  clear hp1 hg1 hR2 HR1 k0 yk pc0 yp
  go_upto_region 18 with fail
  clear s0 t0 y0
  generalize w2.setCell ⟨w.heap.size + 2, 2, none⟩ (.int .i64 n) = W3 at *
  have HR3 : Hid (RB w W3 q (((ctC ct0 nilS nilS).set 0 (.string kd)).set 2 (.int .i64 n))) := hT3
  clear hT3
  go_wp2_with fail
  refine (pright_any q (w.heap.size + 1) _ HR3.out.p).mono ?_
  rintro ex w4 ⟨rfl, rfl⟩
  have hR := HR3.out
  have x0 := hR.c.c 0 _ rfl; have x1 := hR.c.c 1 _ rfl; have x2 := hR.c.c 2 _ rfl; have x3 := hR.c.c 3 _ rfl; have x4 := hR.c.c 4 _ rfl; have x5 := hR.c.c 5 _ rfl; have x6 := hR.c.c 6 _ rfl; have x7 := hR.c.c 7 _ rfl; have x8 := hR.c.c 8 _ rfl
  have z0 := hR.z.c 0 _ rfl; have z1 := hR.z.c 1 _ rfl; have z2 := hR.z.c 2 _ rfl; have z3 := hR.z.c 3 _ rfl; have z4 := hR.z.c 4 _ rfl; have z5 := hR.z.c 5 _ rfl; have z6 := hR.z.c 6 _ rfl; have z7 := hR.z.c 7 _ rfl; have z8 := hR.z.c 8 _ rfl
  have f0 := hR.z.f 0 (by simp); have f1 := hR.z.f 1 (by simp); have f2 := hR.z.f 2 (by simp); have f3 := hR.z.f 3 (by simp); have f4 := hR.z.f 4 (by simp); have f5 := hR.z.f 5 (by simp); have f6 := hR.z.f 6 (by simp); have f7 := hR.z.f 7 (by simp); have f8 := hR.z.f 8 (by simp)
  have yz := hR.z.ty.lt
  have yx := hR.c.ty.lt
  clear hR
  cases hw : (!q.wrong && q.rest.toList.isEmpty)
  · have hno : ¬ (q.wrong = false ∧ q.rest = ByteArray.empty) := by
      rintro ⟨a1, a2⟩
      rw [a1, (isEmpty_iff _).2 a2] at hw; cases hw
    have HF : Hid ((¬ ∃ h, Bx.IsCh b h) ∧ ¬ ∃ s, Bx.StFit s ∧ Bx.wholeS s = b) := by
      refine ⟨?_, ?_⟩
      · rw [HE.out, ← HKD.out, hk]; exact Bx.body_N_no (by decide) HA.out hno
      · rintro ⟨s, _, e⟩
        rw [HE.out, ← HKD.out] at e
        exact Bx.whole_no ⟨h0, h1⟩ (by omega) ⟨s, e⟩
    clear hw hno
    go_wp2_with fail
    refine bodyPost_ret (v := .tuple #[ctV ⟨kd, ByteArray.empty, n, Px.st0, 0⟩ nilS nilS, .bool false]) (by simp [results, Tryd.results31, go_sem, z0, z1, z2, z3, z4, z5, z6, z7, z8, ct0, Px.st0]) rfl ⟨BodyR.no _ _ _ HF.out.1 HF.out.2 ⟨⟨none, 0, rfl⟩, ⟨none, 0, rfl⟩⟩, below_set9 HR3.out.b (Nat.le_refl _) _ _ _ _ _ _ _ _ _⟩
  · have hyes : q.wrong = false ∧ q.rest = ByteArray.empty := by
      simp only [Bool.and_eq_true, Bool.not_eq_true'] at hw
      exact ⟨hw.1, (isEmpty_iff _).1 hw.2⟩
    have HF : Hid (IsC b ⟨kd, ByteArray.empty, n, Px.st0, 0⟩) := by
      refine ⟨⟨k, ByteArray.empty, n⟩, ?_, HKD.out.symm, rfl, rfl⟩
      rw [HE.out, ← HKD.out]; exact Bx.body_N_yes (by omega) HA.out hyes.1 hyes.2
    clear hw hyes
    go_wp2_with fail
    refine bodyPost_ret (v := .tuple #[ctV ⟨kd, ByteArray.empty, n, Px.st0, 0⟩ nilS nilS, .bool true]) (by simp [results, Tryd.results31, go_sem, z0, z1, z2, z3, z4, z5, z6, z7, z8, ct0, Px.st0]) rfl ⟨BodyR.ch _ HF.out rfl rfl, below_set9 HR3.out.b (Nat.le_refl _) _ _ _ _ _ _ _ _ _⟩

end Go.Proofs.YtdajolpoiffimabDoor

namespace Go.Proofs.YtdajolpoiffimabDoor
open Go.RowKit

set_option maxRecDepth 10000 in
set_option maxHeartbeats 4000000 in
theorem readBody_N83 (b : ByteArray) (k : Int) (w : World) (hb : b.size ≤ 100000) (h0 : 0 ≤ k) (h1 : k < 256) (hk : k = 83) (ht : Bx.txtP 1 ⟨b, false⟩ = (Bx.b1 k, ⟨b.extract 1 b.size, false⟩)) (he : b = Bx.b1 k ++ b.extract 1 b.size) :
    Calls Tryd.prog 31 #[.string b] w fun e w' => BodyR b w' e ∧ Below w.heap.size w w' := by
  have HT : Hid (Bx.txtP 1 ⟨b, false⟩ = (Bx.b1 k, ⟨b.extract 1 b.size, false⟩)) := ht
  have HE : Hid (b = Bx.b1 k ++ b.extract 1 b.size) := he
  have hsz : (b.extract 1 b.size).size ≤ 100000 := by simp; omega
  have e84 : ((Bx.b1 k).toList == [84]) = false := lit_ne (l := [84]) (fun q => by have := (b1_lit k h0 h1 84).1 q; simp at this; omega)
  have e67 : ((Bx.b1 k).toList == [67]) = false := lit_ne (l := [67]) (fun q => by have := (b1_lit k h0 h1 67).1 q; simp at this; omega)
  have e83 : ((Bx.b1 k).toList == [83]) = true := lit_eq ((b1_lit k h0 h1 83).2 (by rw [hk]; rfl))
  have e68 : ((Bx.b1 k).toList == [68]) = false := lit_ne (l := [68]) (fun q => by have := (b1_lit k h0 h1 68).1 q; simp at this; omega)
  have e70 : ((Bx.b1 k).toList == [70]) = false := lit_ne (l := [70]) (fun q => by have := (b1_lit k h0 h1 70).1 q; simp at this; omega)
  have e75 : ((Bx.b1 k).toList == [75]) = false := lit_ne (l := [75]) (fun q => by have := (b1_lit k h0 h1 75).1 q; simp at this; omega)
  have e90 : ((Bx.b1 k).toList == [90]) = false := lit_ne (l := [90]) (fun q => by have := (b1_lit k h0 h1 90).1 q; simp at this; omega)
  have HKd : Hid (∀ kd, kd = Bx.b1 k → kd = Bx.b1 k) := fun _ h => h
  generalize hkd : Bx.b1 k = kd at *
  have HKD : Hid (Bx.b1 k = kd) := hkd
  generalize hr : b.extract 1 b.size = r at *
  have HRr : Hid (b.extract 1 b.size = r) := hr
  clear hkd hr ht he HKd
  have hN := RB.new w b
  go_enter Tryd.func31, Tryd.ntmps31
  go_upto_region 3 with fail
  have hN' : RB w (((w.alloc (.cells #[.string { data := #[] }, .string { data := #[] }, .int .i64 0, .string { data := #[] }, .int .i64 0, .int .i64 0, .slice none 0 0, .slice none 0 0, .int .i64 0] 64)).alloc (.cells #[.string b, .bool false] 78)).alloc (.cells #[.string { data := #[] }, .string { data := #[] }, .int .i64 0, .string { data := #[] }, .int .i64 0, .int .i64 0, .slice none 0 0, .slice none 0 0, .int .i64 0] 64)) ⟨b, false⟩ (ctC ct0 nilS nilS) := hN
  clear hN
  generalize ((w.alloc (.cells #[.string { data := #[] }, .string { data := #[] }, .int .i64 0, .string { data := #[] }, .int .i64 0, .int .i64 0, .slice none 0 0, .slice none 0 0, .int .i64 0] 64)).alloc (.cells #[.string b, .bool false] 78)).alloc (.cells #[.string { data := #[] }, .string { data := #[] }, .int .i64 0, .string { data := #[] }, .int .i64 0, .int .i64 0, .slice none 0 0, .slice none 0 0, .int .i64 0] 64) = W at *
  have HN0 : Hid (RB w W ⟨b, false⟩ (ctC ct0 nilS nilS)) := hN'
  clear hN'
  go_wp2_with fail
  refine (ptext_any ⟨b, false⟩ (w.heap.size + 1) 1 _ hb HN0.out.p).mono ?_
  rintro ex w1 ⟨rfl, hp1, hg1⟩
  rw [HT.out] at hp1 ⊢
  simp only at hp1
  have hR1 := HN0.out.call hp1 hg1
  have s0 := hR1.c.c 0 _ rfl
  have t0 := hR1.c.f 0 (by simp)
  have y0 := hR1.c.ty.lt
  have hT1 := hR1.put 0 (.string kd) (by simp)
  clear hp1 hg1 hR1 HN0
  go_upto_region 4 with fail
  clear s0 t0 y0
  generalize w1.setCell ⟨w.heap.size + 2, 0, none⟩ (.string kd) = W1 at *
  have HR1 : Hid (RB w W1 ⟨r, false⟩ ((ctC ct0 nilS nilS).set 0 (.string kd))) := hT1
  have k0 := hT1.c.c 0 _ rfl
  have yk := hT1.c.ty.lt
  have pc0 := hT1.p.c0
  have yp := hT1.p.ty.lt
  clear hT1
  obtain ⟨n, q, hnq⟩ : ∃ n q, Bx.numP 2 ⟨r, false⟩ = (n, q) := ⟨_, _, pr_eta _⟩
  have HA : Hid (Bx.numP 2 ⟨r, false⟩ = (n, q)) := hnq
  clear hnq
  go_wp2_with fail
  refine (pnumber_any ⟨r, false⟩ (w.heap.size + 1) 2 _ _ rfl (by decide) hsz HR1.out.p).mono ?_
  rintro ex w2 ⟨rfl, hp1, hg1⟩
  rw [HA.out] at hp1 ⊢
  simp only at hp1
  have hR2 := HR1.out.call hp1 hg1
  have s0 := hR2.c.c 2 _ rfl
  have t0 := hR2.c.f 2 (by simp)
  have y0 := hR2.c.ty.lt
  have hT3 := hR2.put 2 (.int .i64 n) (by simp)
  clear hp1 hg1 hR2 HR1 k0 yk pc0 yp
  go_upto_region 18 with fail
  clear s0 t0 y0
  generalize w2.setCell ⟨w.heap.size + 2, 2, none⟩ (.int .i64 n) = W3 at *
  have HR3 : Hid (RB w W3 q (((ctC ct0 nilS nilS).set 0 (.string kd)).set 2 (.int .i64 n))) := hT3
  clear hT3
  go_wp2_with fail
  refine (pright_any q (w.heap.size + 1) _ HR3.out.p).mono ?_
  rintro ex w4 ⟨rfl, rfl⟩
  have hR := HR3.out
  have x0 := hR.c.c 0 _ rfl; have x1 := hR.c.c 1 _ rfl; have x2 := hR.c.c 2 _ rfl; have x3 := hR.c.c 3 _ rfl; have x4 := hR.c.c 4 _ rfl; have x5 := hR.c.c 5 _ rfl; have x6 := hR.c.c 6 _ rfl; have x7 := hR.c.c 7 _ rfl; have x8 := hR.c.c 8 _ rfl
  have z0 := hR.z.c 0 _ rfl; have z1 := hR.z.c 1 _ rfl; have z2 := hR.z.c 2 _ rfl; have z3 := hR.z.c 3 _ rfl; have z4 := hR.z.c 4 _ rfl; have z5 := hR.z.c 5 _ rfl; have z6 := hR.z.c 6 _ rfl; have z7 := hR.z.c 7 _ rfl; have z8 := hR.z.c 8 _ rfl
  have f0 := hR.z.f 0 (by simp); have f1 := hR.z.f 1 (by simp); have f2 := hR.z.f 2 (by simp); have f3 := hR.z.f 3 (by simp); have f4 := hR.z.f 4 (by simp); have f5 := hR.z.f 5 (by simp); have f6 := hR.z.f 6 (by simp); have f7 := hR.z.f 7 (by simp); have f8 := hR.z.f 8 (by simp)
  have yz := hR.z.ty.lt
  have yx := hR.c.ty.lt
  clear hR
  cases hw : (!q.wrong && q.rest.toList.isEmpty)
  · have hno : ¬ (q.wrong = false ∧ q.rest = ByteArray.empty) := by
      rintro ⟨a1, a2⟩
      rw [a1, (isEmpty_iff _).2 a2] at hw; cases hw
    have HF : Hid ((¬ ∃ h, Bx.IsCh b h) ∧ ¬ ∃ s, Bx.StFit s ∧ Bx.wholeS s = b) := by
      refine ⟨?_, ?_⟩
      · rw [HE.out, ← HKD.out, hk]; exact Bx.body_N_no (by decide) HA.out hno
      · rintro ⟨s, _, e⟩
        rw [HE.out, ← HKD.out] at e
        exact Bx.whole_no ⟨h0, h1⟩ (by omega) ⟨s, e⟩
    clear hw hno
    go_wp2_with fail
    refine bodyPost_ret (v := .tuple #[ctV ⟨kd, ByteArray.empty, n, Px.st0, 0⟩ nilS nilS, .bool false]) (by simp [results, Tryd.results31, go_sem, z0, z1, z2, z3, z4, z5, z6, z7, z8, ct0, Px.st0]) rfl ⟨BodyR.no _ _ _ HF.out.1 HF.out.2 ⟨⟨none, 0, rfl⟩, ⟨none, 0, rfl⟩⟩, below_set9 HR3.out.b (Nat.le_refl _) _ _ _ _ _ _ _ _ _⟩
  · have hyes : q.wrong = false ∧ q.rest = ByteArray.empty := by
      simp only [Bool.and_eq_true, Bool.not_eq_true'] at hw
      exact ⟨hw.1, (isEmpty_iff _).1 hw.2⟩
    have HF : Hid (IsC b ⟨kd, ByteArray.empty, n, Px.st0, 0⟩) := by
      refine ⟨⟨k, ByteArray.empty, n⟩, ?_, HKD.out.symm, rfl, rfl⟩
      rw [HE.out, ← HKD.out]; exact Bx.body_N_yes (by omega) HA.out hyes.1 hyes.2
    clear hw hyes
    go_wp2_with fail
    refine bodyPost_ret (v := .tuple #[ctV ⟨kd, ByteArray.empty, n, Px.st0, 0⟩ nilS nilS, .bool true]) (by simp [results, Tryd.results31, go_sem, z0, z1, z2, z3, z4, z5, z6, z7, z8, ct0, Px.st0]) rfl ⟨BodyR.ch _ HF.out rfl rfl, below_set9 HR3.out.b (Nat.le_refl _) _ _ _ _ _ _ _ _ _⟩

set_option maxRecDepth 10000 in
set_option maxHeartbeats 4000000 in
theorem readBody_N68 (b : ByteArray) (k : Int) (w : World) (hb : b.size ≤ 100000) (h0 : 0 ≤ k) (h1 : k < 256) (hk : k = 68) (ht : Bx.txtP 1 ⟨b, false⟩ = (Bx.b1 k, ⟨b.extract 1 b.size, false⟩)) (he : b = Bx.b1 k ++ b.extract 1 b.size) :
    Calls Tryd.prog 31 #[.string b] w fun e w' => BodyR b w' e ∧ Below w.heap.size w w' := by
  have HT : Hid (Bx.txtP 1 ⟨b, false⟩ = (Bx.b1 k, ⟨b.extract 1 b.size, false⟩)) := ht
  have HE : Hid (b = Bx.b1 k ++ b.extract 1 b.size) := he
  have hsz : (b.extract 1 b.size).size ≤ 100000 := by simp; omega
  have e84 : ((Bx.b1 k).toList == [84]) = false := lit_ne (l := [84]) (fun q => by have := (b1_lit k h0 h1 84).1 q; simp at this; omega)
  have e67 : ((Bx.b1 k).toList == [67]) = false := lit_ne (l := [67]) (fun q => by have := (b1_lit k h0 h1 67).1 q; simp at this; omega)
  have e83 : ((Bx.b1 k).toList == [83]) = false := lit_ne (l := [83]) (fun q => by have := (b1_lit k h0 h1 83).1 q; simp at this; omega)
  have e68 : ((Bx.b1 k).toList == [68]) = true := lit_eq ((b1_lit k h0 h1 68).2 (by rw [hk]; rfl))
  have e70 : ((Bx.b1 k).toList == [70]) = false := lit_ne (l := [70]) (fun q => by have := (b1_lit k h0 h1 70).1 q; simp at this; omega)
  have e75 : ((Bx.b1 k).toList == [75]) = false := lit_ne (l := [75]) (fun q => by have := (b1_lit k h0 h1 75).1 q; simp at this; omega)
  have e90 : ((Bx.b1 k).toList == [90]) = false := lit_ne (l := [90]) (fun q => by have := (b1_lit k h0 h1 90).1 q; simp at this; omega)
  have HKd : Hid (∀ kd, kd = Bx.b1 k → kd = Bx.b1 k) := fun _ h => h
  generalize hkd : Bx.b1 k = kd at *
  have HKD : Hid (Bx.b1 k = kd) := hkd
  generalize hr : b.extract 1 b.size = r at *
  have HRr : Hid (b.extract 1 b.size = r) := hr
  clear hkd hr ht he HKd
  have hN := RB.new w b
  go_enter Tryd.func31, Tryd.ntmps31
  go_upto_region 3 with fail
  have hN' : RB w (((w.alloc (.cells #[.string { data := #[] }, .string { data := #[] }, .int .i64 0, .string { data := #[] }, .int .i64 0, .int .i64 0, .slice none 0 0, .slice none 0 0, .int .i64 0] 64)).alloc (.cells #[.string b, .bool false] 78)).alloc (.cells #[.string { data := #[] }, .string { data := #[] }, .int .i64 0, .string { data := #[] }, .int .i64 0, .int .i64 0, .slice none 0 0, .slice none 0 0, .int .i64 0] 64)) ⟨b, false⟩ (ctC ct0 nilS nilS) := hN
  clear hN
  generalize ((w.alloc (.cells #[.string { data := #[] }, .string { data := #[] }, .int .i64 0, .string { data := #[] }, .int .i64 0, .int .i64 0, .slice none 0 0, .slice none 0 0, .int .i64 0] 64)).alloc (.cells #[.string b, .bool false] 78)).alloc (.cells #[.string { data := #[] }, .string { data := #[] }, .int .i64 0, .string { data := #[] }, .int .i64 0, .int .i64 0, .slice none 0 0, .slice none 0 0, .int .i64 0] 64) = W at *
  have HN0 : Hid (RB w W ⟨b, false⟩ (ctC ct0 nilS nilS)) := hN'
  clear hN'
  go_wp2_with fail
  refine (ptext_any ⟨b, false⟩ (w.heap.size + 1) 1 _ hb HN0.out.p).mono ?_
  rintro ex w1 ⟨rfl, hp1, hg1⟩
  rw [HT.out] at hp1 ⊢
  simp only at hp1
  have hR1 := HN0.out.call hp1 hg1
  have s0 := hR1.c.c 0 _ rfl
  have t0 := hR1.c.f 0 (by simp)
  have y0 := hR1.c.ty.lt
  have hT1 := hR1.put 0 (.string kd) (by simp)
  clear hp1 hg1 hR1 HN0
  go_upto_region 4 with fail
  clear s0 t0 y0
  generalize w1.setCell ⟨w.heap.size + 2, 0, none⟩ (.string kd) = W1 at *
  have HR1 : Hid (RB w W1 ⟨r, false⟩ ((ctC ct0 nilS nilS).set 0 (.string kd))) := hT1
  have k0 := hT1.c.c 0 _ rfl
  have yk := hT1.c.ty.lt
  have pc0 := hT1.p.c0
  have yp := hT1.p.ty.lt
  clear hT1
  obtain ⟨n, q, hnq⟩ : ∃ n q, Bx.numP 2 ⟨r, false⟩ = (n, q) := ⟨_, _, pr_eta _⟩
  have HA : Hid (Bx.numP 2 ⟨r, false⟩ = (n, q)) := hnq
  clear hnq
  go_wp2_with fail
  refine (pnumber_any ⟨r, false⟩ (w.heap.size + 1) 2 _ _ rfl (by decide) hsz HR1.out.p).mono ?_
  rintro ex w2 ⟨rfl, hp1, hg1⟩
  rw [HA.out] at hp1 ⊢
  simp only at hp1
  have hR2 := HR1.out.call hp1 hg1
  have s0 := hR2.c.c 2 _ rfl
  have t0 := hR2.c.f 2 (by simp)
  have y0 := hR2.c.ty.lt
  have hT3 := hR2.put 2 (.int .i64 n) (by simp)
  clear hp1 hg1 hR2 HR1 k0 yk pc0 yp
  go_upto_region 18 with fail
  clear s0 t0 y0
  generalize w2.setCell ⟨w.heap.size + 2, 2, none⟩ (.int .i64 n) = W3 at *
  have HR3 : Hid (RB w W3 q (((ctC ct0 nilS nilS).set 0 (.string kd)).set 2 (.int .i64 n))) := hT3
  clear hT3
  go_wp2_with fail
  refine (pright_any q (w.heap.size + 1) _ HR3.out.p).mono ?_
  rintro ex w4 ⟨rfl, rfl⟩
  have hR := HR3.out
  have x0 := hR.c.c 0 _ rfl; have x1 := hR.c.c 1 _ rfl; have x2 := hR.c.c 2 _ rfl; have x3 := hR.c.c 3 _ rfl; have x4 := hR.c.c 4 _ rfl; have x5 := hR.c.c 5 _ rfl; have x6 := hR.c.c 6 _ rfl; have x7 := hR.c.c 7 _ rfl; have x8 := hR.c.c 8 _ rfl
  have z0 := hR.z.c 0 _ rfl; have z1 := hR.z.c 1 _ rfl; have z2 := hR.z.c 2 _ rfl; have z3 := hR.z.c 3 _ rfl; have z4 := hR.z.c 4 _ rfl; have z5 := hR.z.c 5 _ rfl; have z6 := hR.z.c 6 _ rfl; have z7 := hR.z.c 7 _ rfl; have z8 := hR.z.c 8 _ rfl
  have f0 := hR.z.f 0 (by simp); have f1 := hR.z.f 1 (by simp); have f2 := hR.z.f 2 (by simp); have f3 := hR.z.f 3 (by simp); have f4 := hR.z.f 4 (by simp); have f5 := hR.z.f 5 (by simp); have f6 := hR.z.f 6 (by simp); have f7 := hR.z.f 7 (by simp); have f8 := hR.z.f 8 (by simp)
  have yz := hR.z.ty.lt
  have yx := hR.c.ty.lt
  clear hR
  cases hw : (!q.wrong && q.rest.toList.isEmpty)
  · have hno : ¬ (q.wrong = false ∧ q.rest = ByteArray.empty) := by
      rintro ⟨a1, a2⟩
      rw [a1, (isEmpty_iff _).2 a2] at hw; cases hw
    have HF : Hid ((¬ ∃ h, Bx.IsCh b h) ∧ ¬ ∃ s, Bx.StFit s ∧ Bx.wholeS s = b) := by
      refine ⟨?_, ?_⟩
      · rw [HE.out, ← HKD.out, hk]; exact Bx.body_N_no (by decide) HA.out hno
      · rintro ⟨s, _, e⟩
        rw [HE.out, ← HKD.out] at e
        exact Bx.whole_no ⟨h0, h1⟩ (by omega) ⟨s, e⟩
    clear hw hno
    go_wp2_with fail
    refine bodyPost_ret (v := .tuple #[ctV ⟨kd, ByteArray.empty, n, Px.st0, 0⟩ nilS nilS, .bool false]) (by simp [results, Tryd.results31, go_sem, z0, z1, z2, z3, z4, z5, z6, z7, z8, ct0, Px.st0]) rfl ⟨BodyR.no _ _ _ HF.out.1 HF.out.2 ⟨⟨none, 0, rfl⟩, ⟨none, 0, rfl⟩⟩, below_set9 HR3.out.b (Nat.le_refl _) _ _ _ _ _ _ _ _ _⟩
  · have hyes : q.wrong = false ∧ q.rest = ByteArray.empty := by
      simp only [Bool.and_eq_true, Bool.not_eq_true'] at hw
      exact ⟨hw.1, (isEmpty_iff _).1 hw.2⟩
    have HF : Hid (IsC b ⟨kd, ByteArray.empty, n, Px.st0, 0⟩) := by
      refine ⟨⟨k, ByteArray.empty, n⟩, ?_, HKD.out.symm, rfl, rfl⟩
      rw [HE.out, ← HKD.out]; exact Bx.body_N_yes (by omega) HA.out hyes.1 hyes.2
    clear hw hyes
    go_wp2_with fail
    refine bodyPost_ret (v := .tuple #[ctV ⟨kd, ByteArray.empty, n, Px.st0, 0⟩ nilS nilS, .bool true]) (by simp [results, Tryd.results31, go_sem, z0, z1, z2, z3, z4, z5, z6, z7, z8, ct0, Px.st0]) rfl ⟨BodyR.ch _ HF.out rfl rfl, below_set9 HR3.out.b (Nat.le_refl _) _ _ _ _ _ _ _ _ _⟩

end Go.Proofs.YtdajolpoiffimabDoor

namespace Go.Proofs.YtdajolpoiffimabDoor
open Go.RowKit

set_option maxRecDepth 10000 in
set_option maxHeartbeats 4000000 in
theorem readBody_Z (b : ByteArray) (k : Int) (w : World) (hb : b.size ≤ 100000) (h0 : 0 ≤ k) (h1 : k < 256) (hk : k = 90) (ht : Bx.txtP 1 ⟨b, false⟩ = (Bx.b1 k, ⟨b.extract 1 b.size, false⟩)) (he : b = Bx.b1 k ++ b.extract 1 b.size) :
    Calls Tryd.prog 31 #[.string b] w fun e w' => BodyR b w' e ∧ Below w.heap.size w w' := by
  have HT : Hid (Bx.txtP 1 ⟨b, false⟩ = (Bx.b1 k, ⟨b.extract 1 b.size, false⟩)) := ht
  have HE : Hid (b = Bx.b1 k ++ b.extract 1 b.size) := he
  have hsz : (b.extract 1 b.size).size ≤ 100000 := by simp; omega
  have e84 : ((Bx.b1 k).toList == [84]) = false := lit_ne (l := [84]) (fun q => by have := (b1_lit k h0 h1 84).1 q; simp at this; omega)
  have e67 : ((Bx.b1 k).toList == [67]) = false := lit_ne (l := [67]) (fun q => by have := (b1_lit k h0 h1 67).1 q; simp at this; omega)
  have e83 : ((Bx.b1 k).toList == [83]) = false := lit_ne (l := [83]) (fun q => by have := (b1_lit k h0 h1 83).1 q; simp at this; omega)
  have e68 : ((Bx.b1 k).toList == [68]) = false := lit_ne (l := [68]) (fun q => by have := (b1_lit k h0 h1 68).1 q; simp at this; omega)
  have e70 : ((Bx.b1 k).toList == [70]) = false := lit_ne (l := [70]) (fun q => by have := (b1_lit k h0 h1 70).1 q; simp at this; omega)
  have e75 : ((Bx.b1 k).toList == [75]) = false := lit_ne (l := [75]) (fun q => by have := (b1_lit k h0 h1 75).1 q; simp at this; omega)
  have e90 : ((Bx.b1 k).toList == [90]) = true := lit_eq ((b1_lit k h0 h1 90).2 (by rw [hk]; rfl))
  have HKd : Hid (∀ kd, kd = Bx.b1 k → kd = Bx.b1 k) := fun _ h => h
  generalize hkd : Bx.b1 k = kd at *
  have HKD : Hid (Bx.b1 k = kd) := hkd
  generalize hr : b.extract 1 b.size = r at *
  have HRr : Hid (b.extract 1 b.size = r) := hr
  clear hkd hr ht he HKd
  have hN := RB.new w b
  go_enter Tryd.func31, Tryd.ntmps31
  go_upto_region 3 with fail
  have hN' : RB w (((w.alloc (.cells #[.string { data := #[] }, .string { data := #[] }, .int .i64 0, .string { data := #[] }, .int .i64 0, .int .i64 0, .slice none 0 0, .slice none 0 0, .int .i64 0] 64)).alloc (.cells #[.string b, .bool false] 78)).alloc (.cells #[.string { data := #[] }, .string { data := #[] }, .int .i64 0, .string { data := #[] }, .int .i64 0, .int .i64 0, .slice none 0 0, .slice none 0 0, .int .i64 0] 64)) ⟨b, false⟩ (ctC ct0 nilS nilS) := hN
  clear hN
  generalize ((w.alloc (.cells #[.string { data := #[] }, .string { data := #[] }, .int .i64 0, .string { data := #[] }, .int .i64 0, .int .i64 0, .slice none 0 0, .slice none 0 0, .int .i64 0] 64)).alloc (.cells #[.string b, .bool false] 78)).alloc (.cells #[.string { data := #[] }, .string { data := #[] }, .int .i64 0, .string { data := #[] }, .int .i64 0, .int .i64 0, .slice none 0 0, .slice none 0 0, .int .i64 0] 64) = W at *
  have HN0 : Hid (RB w W ⟨b, false⟩ (ctC ct0 nilS nilS)) := hN'
  clear hN'
  go_wp2_with fail
  refine (ptext_any ⟨b, false⟩ (w.heap.size + 1) 1 _ hb HN0.out.p).mono ?_
  rintro ex w1 ⟨rfl, hp1, hg1⟩
  rw [HT.out] at hp1 ⊢
  simp only at hp1
  have hR1 := HN0.out.call hp1 hg1
  have s0 := hR1.c.c 0 _ rfl
  have t0 := hR1.c.f 0 (by simp)
  have y0 := hR1.c.ty.lt
  have hT1 := hR1.put 0 (.string kd) (by simp)
  clear hp1 hg1 hR1 HN0
  go_upto_region 4 with fail
  clear s0 t0 y0
  generalize w1.setCell ⟨w.heap.size + 2, 0, none⟩ (.string kd) = W1 at *
  have HR1 : Hid (RB w W1 ⟨r, false⟩ ((ctC ct0 nilS nilS).set 0 (.string kd))) := hT1
  have k0 := hT1.c.c 0 _ rfl
  have yk := hT1.c.ty.lt
  have pc0 := hT1.p.c0
  have yp := hT1.p.ty.lt
  clear hT1
  go_wp2_with fail
  refine (preadState_any ⟨r, false⟩ (w.heap.size + 1) _ hsz HR1.out.p).mono ?_
  rintro ex w2 ⟨⟨sl, en, rfl, hat⟩, hp1, hg1⟩
  obtain ⟨st, q, hst⟩ : ∃ st q, Px.rdState ⟨r, false⟩ = (st, q) := ⟨_, _, pr_eta _⟩
  have HA : Hid (Px.rdState ⟨r, false⟩ = (st, q)) := hst
  have HFr : Hid ((∀ x ∈ st.slots, Px.Fresh x) ∧ -1 ≤ st.clock) := by have := Px.rdState_fresh ⟨r, false⟩; rw [hst] at this; exact this
  rw [hst] at hp1 hat ⊢
  simp only at hp1 hat
  obtain ⟨ad, cap, rfl, _⟩ := hat.sl.form
  obtain ⟨ad2, cap2, rfl, _⟩ := hat.en.form
  have hR2 := HR1.out.call hp1 hg1
  have s3 := hR2.c.c 3 _ rfl; have s4 := hR2.c.c 4 _ rfl; have s5 := hR2.c.c 5 _ rfl; have s6 := hR2.c.c 6 _ rfl; have s7 := hR2.c.c 7 _ rfl
  have t3 := hR2.c.f 3 (by simp); have t4 := hR2.c.f 4 (by simp); have t5 := hR2.c.f 5 (by simp); have t6 := hR2.c.f 6 (by simp); have t7 := hR2.c.f 7 (by simp)
  have y0 := hR2.c.ty.lt
  have hT3 := ((((hR2.put 3 (.string st.tab) (by simp)).put 4 (.int .i64 st.clock) (by simp)).put 5 (.int .i64 st.next) (by simp)).put 6 (.slice ad st.slots.length cap) (by simp)).put 7 (.slice ad2 st.ends.length cap2) (by simp)
  have hat3 : PAt (((((w2.setCell ⟨w.heap.size + 2, 3, none⟩ (.string st.tab)).setCell ⟨w.heap.size + 2, 4, none⟩ (.int .i64 st.clock)).setCell ⟨w.heap.size + 2, 5, none⟩ (.int .i64 st.next)).setCell ⟨w.heap.size + 2, 6, none⟩ (.slice ad st.slots.length cap)).setCell ⟨w.heap.size + 2, 7, none⟩ (.slice ad2 st.ends.length cap2)) st (.slice ad st.slots.length cap) (.slice ad2 st.ends.length cap2) := by
    have ty := hR2.c.ty
    exact ((((hat.set ty (by decide) (by decide) _ _).set (ty.setCell _ _ _) (by decide) (by decide) _ _).set ((ty.setCell _ _ _).setCell _ _ _) (by decide) (by decide) _ _).set (((ty.setCell _ _ _).setCell _ _ _).setCell _ _ _) (by decide) (by decide) _ _).set ((((ty.setCell _ _ _).setCell _ _ _).setCell _ _ _).setCell _ _ _) (by decide) (by decide) _ _
  clear hp1 hg1 hR2 HR1 k0 yk pc0 yp hat hst
  go_upto_region 18 with fail
  clear s3 s4 s5 s6 s7 t3 t4 t5 t6 t7 y0
  generalize ((((w2.setCell ⟨w.heap.size + 2, 3, none⟩ (.string st.tab)).setCell ⟨w.heap.size + 2, 4, none⟩ (.int .i64 st.clock)).setCell ⟨w.heap.size + 2, 5, none⟩ (.int .i64 st.next)).setCell ⟨w.heap.size + 2, 6, none⟩ (.slice ad st.slots.length cap)).setCell ⟨w.heap.size + 2, 7, none⟩ (.slice ad2 st.ends.length cap2) = W3 at *
  have HAt : Hid (PAt W3 st (.slice ad st.slots.length cap) (.slice ad2 st.ends.length cap2)) := hat3
  clear hat3
  have HR3 : Hid (RB w W3 q ((((((ctC ct0 nilS nilS).set 0 (.string kd)).set 3 (.string st.tab)).set 4 (.int .i64 st.clock)).set 5 (.int .i64 st.next)).set 6 (.slice ad st.slots.length cap) |>.set 7 (.slice ad2 st.ends.length cap2))) := hT3
  clear hT3
  go_wp2_with fail
  refine (pright_any q (w.heap.size + 1) _ HR3.out.p).mono ?_
  rintro ex w4 ⟨rfl, rfl⟩
  have hR := HR3.out
  have x0 := hR.c.c 0 _ rfl; have x1 := hR.c.c 1 _ rfl; have x2 := hR.c.c 2 _ rfl; have x3 := hR.c.c 3 _ rfl; have x4 := hR.c.c 4 _ rfl; have x5 := hR.c.c 5 _ rfl; have x6 := hR.c.c 6 _ rfl; have x7 := hR.c.c 7 _ rfl; have x8 := hR.c.c 8 _ rfl
  have z0 := hR.z.c 0 _ rfl; have z1 := hR.z.c 1 _ rfl; have z2 := hR.z.c 2 _ rfl; have z3 := hR.z.c 3 _ rfl; have z4 := hR.z.c 4 _ rfl; have z5 := hR.z.c 5 _ rfl; have z6 := hR.z.c 6 _ rfl; have z7 := hR.z.c 7 _ rfl; have z8 := hR.z.c 8 _ rfl
  have f0 := hR.z.f 0 (by simp); have f1 := hR.z.f 1 (by simp); have f2 := hR.z.f 2 (by simp); have f3 := hR.z.f 3 (by simp); have f4 := hR.z.f 4 (by simp); have f5 := hR.z.f 5 (by simp); have f6 := hR.z.f 6 (by simp); have f7 := hR.z.f 7 (by simp); have f8 := hR.z.f 8 (by simp)
  have yz := hR.z.ty.lt
  have yx := hR.c.ty.lt
  clear hR
  cases hw : (!q.wrong && q.rest.toList.isEmpty)
  · have hno : ¬ (q.wrong = false ∧ q.rest = ByteArray.empty) := by
      rintro ⟨a1, a2⟩
      rw [a1, (isEmpty_iff _).2 a2] at hw; cases hw
    have HF : Hid ((¬ ∃ h, Bx.IsCh b h) ∧ ¬ ∃ s, Bx.StFit s ∧ Bx.wholeS s = b) := by
      refine ⟨?_, ?_⟩
      · rw [HE.out, ← HKD.out]; exact Bx.body_no ⟨h0, h1⟩ (by omega)
      · rw [HE.out, ← HKD.out, hk]; exact Bx.whole_fit_no HA.out hno
    clear hw hno
    go_wp2_with fail
    refine bodyPost_ret (v := .tuple #[ctV ⟨kd, ByteArray.empty, 0, st, 0⟩ (.slice ad st.slots.length cap) (.slice ad2 st.ends.length cap2), .bool false]) (by simp [results, Tryd.results31, go_sem, z0, z1, z2, z3, z4, z5, z6, z7, z8, ct0, Px.st0]) rfl ⟨BodyR.no _ _ _ HF.out.1 HF.out.2 ⟨⟨ad, cap, rfl⟩, ⟨ad2, cap2, rfl⟩⟩, below_set9 HR3.out.b (Nat.le_refl _) _ _ _ _ _ _ _ _ _⟩
  · have hyes : q.wrong = false ∧ q.rest = ByteArray.empty := by
      simp only [Bool.and_eq_true, Bool.not_eq_true'] at hw
      exact ⟨hw.1, (isEmpty_iff _).1 hw.2⟩
    have HF : Hid (IsW b ⟨kd, ByteArray.empty, 0, st, 0⟩) := by
      have hz := Bx.whole_yes HA.out hyes.1 hyes.2
      refine ⟨by rw [← HKD.out, hk], ?_, hz.2, HFr.out.1, HFr.out.2⟩
      rw [HE.out, ← HKD.out, hk]; exact hz.1
    clear hw hyes
    go_wp2_with fail
    refine bodyPost_ret (v := .tuple #[ctV ⟨kd, ByteArray.empty, 0, st, 0⟩ (.slice ad st.slots.length cap) (.slice ad2 st.ends.length cap2), .bool true]) (by simp [results, Tryd.results31, go_sem, z0, z1, z2, z3, z4, z5, z6, z7, z8, ct0, Px.st0]) rfl ⟨BodyR.wh _ _ _ HF.out rfl (HAt.out.store9 HR3.out.z.ty _ _ _ _ _ _ _ _ _), below_set9 HR3.out.b (Nat.le_refl _) _ _ _ _ _ _ _ _ _⟩

set_option maxRecDepth 10000 in
set_option maxHeartbeats 4000000 in
theorem readBody_D (b : ByteArray) (k : Int) (w : World) (hb : b.size ≤ 100000) (h0 : 0 ≤ k) (h1 : k < 256) (hk : ¬ k = 84 ∧ ¬ k = 67 ∧ ¬ k = 83 ∧ ¬ k = 68 ∧ ¬ k = 70 ∧ ¬ k = 75 ∧ ¬ k = 90) (ht : Bx.txtP 1 ⟨b, false⟩ = (Bx.b1 k, ⟨b.extract 1 b.size, false⟩)) (he : b = Bx.b1 k ++ b.extract 1 b.size) :
    Calls Tryd.prog 31 #[.string b] w fun e w' => BodyR b w' e ∧ Below w.heap.size w w' := by
  have HT : Hid (Bx.txtP 1 ⟨b, false⟩ = (Bx.b1 k, ⟨b.extract 1 b.size, false⟩)) := ht
  have HE : Hid (b = Bx.b1 k ++ b.extract 1 b.size) := he
  have hsz : (b.extract 1 b.size).size ≤ 100000 := by simp; omega
  have e84 : ((Bx.b1 k).toList == [84]) = false := lit_ne (l := [84]) (fun q => by have := (b1_lit k h0 h1 84).1 q; simp at this; omega)
  have e67 : ((Bx.b1 k).toList == [67]) = false := lit_ne (l := [67]) (fun q => by have := (b1_lit k h0 h1 67).1 q; simp at this; omega)
  have e83 : ((Bx.b1 k).toList == [83]) = false := lit_ne (l := [83]) (fun q => by have := (b1_lit k h0 h1 83).1 q; simp at this; omega)
  have e68 : ((Bx.b1 k).toList == [68]) = false := lit_ne (l := [68]) (fun q => by have := (b1_lit k h0 h1 68).1 q; simp at this; omega)
  have e70 : ((Bx.b1 k).toList == [70]) = false := lit_ne (l := [70]) (fun q => by have := (b1_lit k h0 h1 70).1 q; simp at this; omega)
  have e75 : ((Bx.b1 k).toList == [75]) = false := lit_ne (l := [75]) (fun q => by have := (b1_lit k h0 h1 75).1 q; simp at this; omega)
  have e90 : ((Bx.b1 k).toList == [90]) = false := lit_ne (l := [90]) (fun q => by have := (b1_lit k h0 h1 90).1 q; simp at this; omega)
  have HKd : Hid (∀ kd, kd = Bx.b1 k → kd = Bx.b1 k) := fun _ h => h
  generalize hkd : Bx.b1 k = kd at *
  have HKD : Hid (Bx.b1 k = kd) := hkd
  generalize hr : b.extract 1 b.size = r at *
  have HRr : Hid (b.extract 1 b.size = r) := hr
  clear hkd hr ht he HKd
  have hN := RB.new w b
  go_enter Tryd.func31, Tryd.ntmps31
  go_upto_region 3 with fail
  have hN' : RB w (((w.alloc (.cells #[.string { data := #[] }, .string { data := #[] }, .int .i64 0, .string { data := #[] }, .int .i64 0, .int .i64 0, .slice none 0 0, .slice none 0 0, .int .i64 0] 64)).alloc (.cells #[.string b, .bool false] 78)).alloc (.cells #[.string { data := #[] }, .string { data := #[] }, .int .i64 0, .string { data := #[] }, .int .i64 0, .int .i64 0, .slice none 0 0, .slice none 0 0, .int .i64 0] 64)) ⟨b, false⟩ (ctC ct0 nilS nilS) := hN
  clear hN
  generalize ((w.alloc (.cells #[.string { data := #[] }, .string { data := #[] }, .int .i64 0, .string { data := #[] }, .int .i64 0, .int .i64 0, .slice none 0 0, .slice none 0 0, .int .i64 0] 64)).alloc (.cells #[.string b, .bool false] 78)).alloc (.cells #[.string { data := #[] }, .string { data := #[] }, .int .i64 0, .string { data := #[] }, .int .i64 0, .int .i64 0, .slice none 0 0, .slice none 0 0, .int .i64 0] 64) = W at *
  have HN0 : Hid (RB w W ⟨b, false⟩ (ctC ct0 nilS nilS)) := hN'
  clear hN'
  go_wp2_with fail
  refine (ptext_any ⟨b, false⟩ (w.heap.size + 1) 1 _ hb HN0.out.p).mono ?_
  rintro ex w1 ⟨rfl, hp1, hg1⟩
  rw [HT.out] at hp1 ⊢
  simp only at hp1
  have hR1 := HN0.out.call hp1 hg1
  have s0 := hR1.c.c 0 _ rfl
  have t0 := hR1.c.f 0 (by simp)
  have y0 := hR1.c.ty.lt
  have hT1 := hR1.put 0 (.string kd) (by simp)
  clear hp1 hg1 hR1 HN0
  go_upto_region 4 with fail
  clear s0 t0 y0
  generalize w1.setCell ⟨w.heap.size + 2, 0, none⟩ (.string kd) = W1 at *
  have HR1 : Hid (RB w W1 ⟨r, false⟩ ((ctC ct0 nilS nilS).set 0 (.string kd))) := hT1
  have k0 := hT1.c.c 0 _ rfl
  have yk := hT1.c.ty.lt
  have pc0 := hT1.p.c0
  have yp := hT1.p.ty.lt
  clear hT1
  have hR := HR1.out
  have z0 := hR.z.c 0 _ rfl; have z1 := hR.z.c 1 _ rfl; have z2 := hR.z.c 2 _ rfl; have z3 := hR.z.c 3 _ rfl; have z4 := hR.z.c 4 _ rfl; have z5 := hR.z.c 5 _ rfl; have z6 := hR.z.c 6 _ rfl; have z7 := hR.z.c 7 _ rfl; have z8 := hR.z.c 8 _ rfl
  have f0 := hR.z.f 0 (by simp); have f1 := hR.z.f 1 (by simp); have f2 := hR.z.f 2 (by simp); have f3 := hR.z.f 3 (by simp); have f4 := hR.z.f 4 (by simp); have f5 := hR.z.f 5 (by simp); have f6 := hR.z.f 6 (by simp); have f7 := hR.z.f 7 (by simp); have f8 := hR.z.f 8 (by simp)
  have yz := hR.z.ty.lt
  clear hR
  have HF : Hid ((¬ ∃ h, Bx.IsCh b h) ∧ ¬ ∃ s, Bx.StFit s ∧ Bx.wholeS s = b) := by
    refine ⟨?_, ?_⟩
    · rw [HE.out, ← HKD.out]; exact Bx.body_no ⟨h0, h1⟩ (by omega)
    · rintro ⟨s, _, e⟩
      rw [HE.out, ← HKD.out] at e
      exact Bx.whole_no ⟨h0, h1⟩ (by omega) ⟨s, e⟩
  go_wp2_with fail
  refine bodyPost_ret (v := .tuple #[ctV ct0 nilS nilS, .bool false]) (by simp [results, Tryd.results31, go_sem, z0, z1, z2, z3, z4, z5, z6, z7, z8, ct0, Px.st0]; rfl) rfl ⟨BodyR.no _ _ _ HF.out.1 HF.out.2 ⟨⟨none, 0, rfl⟩, ⟨none, 0, rfl⟩⟩, below_set9 HR1.out.b (Nat.le_refl _) _ _ _ _ _ _ _ _ _⟩

set_option maxRecDepth 10000 in
set_option maxHeartbeats 4000000 in
theorem readBody_E (b : ByteArray) (w : World) (hb : b = ByteArray.empty) :
    Calls Tryd.prog 31 #[.string b] w fun e w' => BodyR b w' e ∧ Below w.heap.size w w' := by
  have HT : Hid (Bx.txtP 1 ⟨b, false⟩ = (b, ⟨b, true⟩)) := by subst hb; unfold Hid Bx.txtP; rw [if_pos (by simp)]
  have e84 : (b.toList == [84]) = false := by subst hb; rw [ByteArray.toList_eq]; rfl
  have e67 : (b.toList == [67]) = false := by subst hb; rw [ByteArray.toList_eq]; rfl
  have e83 : (b.toList == [83]) = false := by subst hb; rw [ByteArray.toList_eq]; rfl
  have e68 : (b.toList == [68]) = false := by subst hb; rw [ByteArray.toList_eq]; rfl
  have e70 : (b.toList == [70]) = false := by subst hb; rw [ByteArray.toList_eq]; rfl
  have e75 : (b.toList == [75]) = false := by subst hb; rw [ByteArray.toList_eq]; rfl
  have e90 : (b.toList == [90]) = false := by subst hb; rw [ByteArray.toList_eq]; rfl
  have hbs : b.size ≤ 100000 := by subst hb; simp
  have HF : Hid ((¬ ∃ h, Bx.IsCh b h) ∧ ¬ ∃ s, Bx.StFit s ∧ Bx.wholeS s = b) := by subst hb; exact ⟨Bx.empty_no.1, fun ⟨s, _, e⟩ => Bx.empty_no.2 ⟨s, e⟩⟩
  clear hb
  have hN := RB.new w b
  go_enter Tryd.func31, Tryd.ntmps31
  go_upto_region 3 with fail
  have hN' : RB w (((w.alloc (.cells #[.string { data := #[] }, .string { data := #[] }, .int .i64 0, .string { data := #[] }, .int .i64 0, .int .i64 0, .slice none 0 0, .slice none 0 0, .int .i64 0] 64)).alloc (.cells #[.string b, .bool false] 78)).alloc (.cells #[.string { data := #[] }, .string { data := #[] }, .int .i64 0, .string { data := #[] }, .int .i64 0, .int .i64 0, .slice none 0 0, .slice none 0 0, .int .i64 0] 64)) ⟨b, false⟩ (ctC ct0 nilS nilS) := hN
  clear hN
  generalize ((w.alloc (.cells #[.string { data := #[] }, .string { data := #[] }, .int .i64 0, .string { data := #[] }, .int .i64 0, .int .i64 0, .slice none 0 0, .slice none 0 0, .int .i64 0] 64)).alloc (.cells #[.string b, .bool false] 78)).alloc (.cells #[.string { data := #[] }, .string { data := #[] }, .int .i64 0, .string { data := #[] }, .int .i64 0, .int .i64 0, .slice none 0 0, .slice none 0 0, .int .i64 0] 64) = W at *
  have HN0 : Hid (RB w W ⟨b, false⟩ (ctC ct0 nilS nilS)) := hN'
  clear hN'
  go_wp2_with fail
  refine (ptext_any ⟨b, false⟩ (w.heap.size + 1) 1 _ hbs HN0.out.p).mono ?_
  rintro ex w1 ⟨rfl, hp1, hg1⟩
  rw [HT.out] at hp1 ⊢
  simp only at hp1
  have hR1 := HN0.out.call hp1 hg1
  have s0 := hR1.c.c 0 _ rfl
  have t0 := hR1.c.f 0 (by simp)
  have y0 := hR1.c.ty.lt
  have hT1 := hR1.put 0 (.string b) (by simp)
  clear hp1 hg1 hR1 HN0
  go_upto_region 4 with fail
  clear s0 t0 y0
  generalize w1.setCell ⟨w.heap.size + 2, 0, none⟩ (.string b) = W1 at *
  have HR1 : Hid (RB w W1 ⟨b, true⟩ ((ctC ct0 nilS nilS).set 0 (.string b))) := hT1
  have k0 := hT1.c.c 0 _ rfl
  have yk := hT1.c.ty.lt
  clear hT1
  have hR := HR1.out
  have z0 := hR.z.c 0 _ rfl; have z1 := hR.z.c 1 _ rfl; have z2 := hR.z.c 2 _ rfl; have z3 := hR.z.c 3 _ rfl; have z4 := hR.z.c 4 _ rfl; have z5 := hR.z.c 5 _ rfl; have z6 := hR.z.c 6 _ rfl; have z7 := hR.z.c 7 _ rfl; have z8 := hR.z.c 8 _ rfl
  have f0 := hR.z.f 0 (by simp); have f1 := hR.z.f 1 (by simp); have f2 := hR.z.f 2 (by simp); have f3 := hR.z.f 3 (by simp); have f4 := hR.z.f 4 (by simp); have f5 := hR.z.f 5 (by simp); have f6 := hR.z.f 6 (by simp); have f7 := hR.z.f 7 (by simp); have f8 := hR.z.f 8 (by simp)
  have yz := hR.z.ty.lt
  clear hR
  go_wp2_with fail
  refine bodyPost_ret (v := .tuple #[ctV ct0 nilS nilS, .bool false]) (by simp [results, Tryd.results31, go_sem, z0, z1, z2, z3, z4, z5, z6, z7, z8, ct0, Px.st0]; rfl) rfl ⟨BodyR.no _ _ _ HF.out.1 HF.out.2 ⟨⟨none, 0, rfl⟩, ⟨none, 0, rfl⟩⟩, below_set9 HR1.out.b (Nat.le_refl _) _ _ _ _ _ _ _ _ _⟩

theorem readBody_any (b : ByteArray) (w : World) (hb : b.size ≤ 100000) : Calls Tryd.prog 31 #[.string b] w fun e w' => BodyR b w' e ∧ Below w.heap.size w w' := by
  by_cases h : b = ByteArray.empty
  · exact readBody_E b w h
  have hs : 0 < b.size := by
    rcases Nat.eq_zero_or_pos b.size with q | q
    · exact (h (by simpa using q)).elim
    · exact q
  obtain ⟨k, h0, h1, ht, he⟩ := txt1_head b hs
  by_cases k1 : k = 84
  · exact readBody_T b k w hb h0 h1 k1 ht he
  by_cases k2 : k = 67
  · exact readBody_C b k w hb h0 h1 k2 ht he
  by_cases k3 : k = 83
  · exact readBody_N83 b k w hb h0 h1 k3 ht he
  by_cases k4 : k = 68
  · exact readBody_N68 b k w hb h0 h1 k4 ht he
  by_cases k5 : k = 70
  · exact readBody_N70 b k w hb h0 h1 k5 ht he
  by_cases k6 : k = 75
  · exact readBody_N75 b k w hb h0 h1 k6 ht he
  by_cases k7 : k = 90
  · exact readBody_Z b k w hb h0 h1 k7 ht he
  exact readBody_D b k w hb h0 h1 ⟨k1, k2, k3, k4, k5, k6, k7⟩ ht he
end Go.Proofs.YtdajolpoiffimabDoor

namespace Go.Proofs.YtdajolpoiffimabDoor
open Go.RowKit

set_option maxRecDepth 10000 in
set_option maxHeartbeats 4000000 in
theorem withStart_any (s : Px.St) (n : Int) (sl en : Value) (w : World) (hO : Px.Ok s) (hT : TabLH w) (hS : PAt w s sl en) :
    Calls Tryd.prog 43 #[pstV s sl en, .int .i64 n] w fun e w' => ChgR (Px.startP s n) w' e ∧ Below w.heap.size w w' := by
  obtain ⟨ad, cap, rfl, hcap⟩ := hS.sl.form
  obtain ⟨ad2, cap2, rfl, hcap2⟩ := hS.en.form
  have HO : Hid (Px.Ok s) := hO
  have hl : s.slots.length ≤ 10000 := by have := hO.len; omega
  have he : s.ends.length ≤ 10000 := by have : s.ends.length ≤ 6 := hO.st.en; omega
  have hc1 : -1 ≤ s.clock := hO.st.c1
  have hc2 : s.clock ≤ 4223371679 := hO.st.c2
  have HS : Hid (PAt w s (.slice ad s.slots.length cap) (.slice ad2 s.ends.length cap2)) := hS
  have hP := PRes.new w s (.slice ad s.slots.length cap) (.slice ad2 s.ends.length cap2)
  clear hS hO
  go_enter Tryd.func43, Tryd.ntmps43
  go_upto_region 1 with fail
  generalize (w.alloc (pstO s (.slice ad s.slots.length cap) (.slice ad2 s.ends.length cap2))).alloc pzO = W at *
  have HSW : Hid (PAt W s (.slice ad s.slots.length cap) (.slice ad2 s.ends.length cap2)) := HS.out.later hP.bel
  have HT : Hid (TabLH W) := hT.later hP.bel
  have HP : Hid (PRes w W s (.slice ad s.slots.length cap) (.slice ad2 s.ends.length cap2)) := hP
  obtain ⟨i0, i1, i2, i3, i4⟩ := hP.st
  clear hP hT
  go_wp2_with fail
  refine (pfind_any s n _ _ _ hl HSW.out).mono ?_
  rintro e w1 ⟨hF, hb1⟩
  clear i0 i1 i2 i3 i4
  have HP1 := HP.out.later hb1
  have HS1 := HSW.out.later hb1
  have HT1 := HT.out.later hb1
  clear HP HSW hb1 HT
  rcases hF with ⟨x, hf, rfl⟩ | ⟨hf, rfl⟩
  rotate_left
  · have HM : Hid (Px.startP s n = (Px.st0, 8)) := by unfold Hid Px.startP; rw [hf]
    clear hf
    generalize Px.sl0 = x at *
    have HPW2 := HP1.later (below_alloc w1 (psO x))
    clear HP1 HS1 HT1
    go_upto_region 2 with fail
    generalize w1.alloc (psO x) = W2 at *
    obtain ⟨⟨⟨u0, r0⟩, f0⟩, ⟨⟨u1, r1⟩, f1⟩, ⟨⟨u2, r2⟩, f2⟩, ⟨⟨u3, r3⟩, f3⟩, ⟨⟨u4, r4⟩, f4⟩⟩ := HPW2.five
    have HB2 : Hid (Below w.heap.size w W2) := HPW2.bel
    clear HPW2
    go_wp2_with fail
    refine bodyPost_ret (v := .tuple #[.agg #[.string { data := #[] }, .int .i64 0, .int .i64 0, .slice none 0 0, .slice none 0 0], .int .i64 8]) (by simp [results, Tryd.results43, go_sem, r0, r1, r2, r3, r4]) rfl ⟨ChgR.err HM.out, below_set5' HB2.out (by omega) _ _ _ _ _⟩
  have HFx : Hid (Px.find s.slots n = some x) := hf
  have hxm : x ∈ s.slots := List.mem_of_find?_eq_some hf
  have HEx : Hid _ := HO.out.each hxm
  obtain ⟨hx1, hx2', hx3, hx4, hx5, hx6⟩ := HEx.out
  have hx7 : x.att ≤ 5 := HO.out.st.att5 (List.mem_map.2 ⟨x, hxm, rfl⟩ : Px.absS x ∈ _)
  obtain ⟨j, hj⟩ : ∃ j : Nat, x.line = (j : Int) + 1 := ⟨(x.line - 1).toNat, by omega⟩
  have hjt : j < tn s.tab := by omega
  have HJ : Hid (x.line = (j : Int) + 1) := hj
  have HP2 := HP1.later (below_alloc w1 (psO x))
  have HS2 := HS1.later (below_alloc w1 (psO x))
  have HT2 := HT1.later (below_alloc w1 (psO x))
  have hx2 := PsIn.new w1 x
  have hq0 : w.heap.size + 1 < w1.heap.size := HP1.lt
  clear HP1 HS1 HT1 hf hx6 hx4 hxm hj hx2'
  go_upto_region 2 with fail
  generalize w1.alloc (psO x) = W2 at *
  generalize w1.heap.size = xq at *
  have HPP2 : Hid (PRes w W2 s (.slice ad s.slots.length cap) (.slice ad2 s.ends.length cap2)) := HP2
  have HSS2 : Hid (PAt W2 s (.slice ad s.slots.length cap) (.slice ad2 s.ends.length cap2)) := HS2
  have HTT2 : Hid (TabLH W2) := HT2
  have HX2 : Hid (PsIn W2 xq x) := hx2
  obtain ⟨x0, x1, x2, x3, x4, x5, x6, x7⟩ := hx2
  clear HP2 HS2 HT2
  go_wp2_with fail
  refine (runs_any x W2).mono ?_
  rintro e w3 ⟨rfl, hb3⟩
  clear x0 x1 x2 x3 x4 x5 x6 x7
  have HPw3 := HPP2.out.later hb3
  have HSw3 : Hid (PAt w3 s (.slice ad s.slots.length cap) (.slice ad2 s.ends.length cap2)) := HSS2.out.later hb3
  have HTw3 : Hid (TabLH w3) := HTT2.out.later hb3
  have HXw3 : Hid (PsIn w3 xq x) := HX2.out.later hb3
  clear HPP2 HSS2 HTT2 HX2 hb3
  cases hr : decide (0 < x.step)
  rotate_left
  · have HM : Hid (Px.startP s n = (Px.st0, 9)) := by unfold Hid Px.startP; rw [HFx.out]; simp only; rw [if_pos (of_decide_eq_true hr)]
    clear hr
    obtain ⟨⟨⟨u0, r0⟩, f0⟩, ⟨⟨u1, r1⟩, f1⟩, ⟨⟨u2, r2⟩, f2⟩, ⟨⟨u3, r3⟩, f3⟩, ⟨⟨u4, r4⟩, f4⟩⟩ := HPw3.five
    have HB2 : Hid (Below w.heap.size w w3) := HPw3.bel
    clear HPw3
    go_wp2_with fail
    refine bodyPost_ret (v := .tuple #[.agg #[.string { data := #[] }, .int .i64 0, .int .i64 0, .slice none 0 0, .slice none 0 0], .int .i64 9]) (by simp [results, Tryd.results43, go_sem, r0, r1, r2, r3, r4]) rfl ⟨ChgR.err HM.out, below_set5' HB2.out (by omega) _ _ _ _ _⟩
  have hrs : ¬ 0 < x.step := of_decide_eq_false hr
  have HM0 : Hid (Px.startP s n = if s.clock < x.frm then (Px.st0, 10) else if Px.lockP s x.line = true then (Px.st0, 11) else ({ s with slots := Px.repl s.slots (Px.beg s x) }, 0)) := by
    unfold Hid Px.startP; rw [HFx.out]; simp only; rw [if_neg hrs]
  clear hr hrs
  obtain ⟨i0, i1, i2, i3, i4⟩ := HPw3.st
  obtain ⟨x0, x1, x2, x3, x4, x5, x6, x7⟩ := HXw3.out
  by_cases h10 : s.clock < x.frm
  · have HM : Hid (Px.startP s n = (Px.st0, 10)) := by unfold Hid; rw [HM0.out, if_pos h10]
    clear HM0
    obtain ⟨⟨⟨u0, r0⟩, f0⟩, ⟨⟨u1, r1⟩, f1⟩, ⟨⟨u2, r2⟩, f2⟩, ⟨⟨u3, r3⟩, f3⟩, ⟨⟨u4, r4⟩, f4⟩⟩ := HPw3.five
    have HB2 : Hid (Below w.heap.size w w3) := HPw3.bel
    clear HPw3
    go_wp2_with fail
    refine bodyPost_ret (v := .tuple #[.agg #[.string { data := #[] }, .int .i64 0, .int .i64 0, .slice none 0 0, .slice none 0 0], .int .i64 10]) (by simp [results, Tryd.results43, go_sem, r0, r1, r2, r3, r4]) rfl ⟨ChgR.err HM.out, below_set5' HB2.out (by omega) _ _ _ _ _⟩
  have HM1 : Hid (Px.startP s n = if Px.lockP s x.line = true then (Px.st0, 11) else ({ s with slots := Px.repl s.slots (Px.beg s x) }, 0)) := by unfold Hid; rw [HM0.out, if_neg h10]
  have HPP3 : Hid (PRes w w3 s (.slice ad s.slots.length cap) (.slice ad2 s.ends.length cap2)) := HPw3
  clear HM0 HPw3
  go_wp2_with fail
  refine (plocked_any s x.line j _ _ _ HJ.out hjt hl HO.out.st.tab HTw3.out HSw3.out).mono ?_
  rintro e w5 ⟨rfl, hb5⟩
  clear i0 i1 i2 i3 i4 x0 x1 x2 x3 x4 x5 x6 x7
  have HPw5 := HPP3.out.later hb5
  have HSw5 := HSw3.out.later hb5
  have HXw5 := HXw3.out.later hb5
  clear HPP3 HSw3 HTw3 HXw3 hb5
  cases hk : Px.lockP s x.line
  rotate_left
  · have HM : Hid (Px.startP s n = (Px.st0, 11)) := by unfold Hid; rw [HM1.out, hk]; rfl
    clear HM1 hk HSw5 HXw5
    obtain ⟨⟨⟨u0, r0⟩, f0⟩, ⟨⟨u1, r1⟩, f1⟩, ⟨⟨u2, r2⟩, f2⟩, ⟨⟨u3, r3⟩, f3⟩, ⟨⟨u4, r4⟩, f4⟩⟩ := HPw5.five
    have HB2 : Hid (Below w.heap.size w w5) := HPw5.bel
    clear HPw5
    go_wp2_with fail
    refine bodyPost_ret (v := .tuple #[.agg #[.string { data := #[] }, .int .i64 0, .int .i64 0, .slice none 0 0, .slice none 0 0], .int .i64 11]) (by simp [results, Tryd.results43, go_sem, r0, r1, r2, r3, r4]) rfl ⟨ChgR.err HM.out, below_set5' HB2.out (by omega) _ _ _ _ _⟩
  have HM : Hid (Px.startP s n = ({ s with slots := Px.repl s.slots (Px.beg s x) }, 0)) := by unfold Hid; rw [HM1.out, hk]; rfl
  clear HM1 hk
  have hb6 : Below w5.heap.size w5 (w5.alloc (.cells #[.int .i64 x.num, .int .i64 x.line, .int .i64 x.minute, .int .i64 x.att, .int .i64 x.frm, .int .i64 1, .int .i64 s.clock, .string x.heard] 70)) := below_alloc w5 _
  have HPx := HPw5.later hb6
  have HSx := HSw5.later hb6
  have HYx : PsIn (w5.alloc (.cells #[.int .i64 x.num, .int .i64 x.line, .int .i64 x.minute, .int .i64 x.att, .int .i64 x.frm, .int .i64 1, .int .i64 s.clock, .string x.heard] 70)) w5.heap.size (Px.beg s x) := PsIn.new w5 (Px.beg s x)
  obtain ⟨i0, i1, i2, i3, i4⟩ := HPw5.st
  have hzz := HPw5.lt
  have hz0 : w.heap.size < w5.heap.size := by omega
  obtain ⟨x0, x1, x2, x3, x4, x5, x6, x7⟩ := HXw5
  clear HPw5 HSw5 hb6
  go_upto_region 13 with fail
  clear i0 i1 i2 i3 i4 x0 x1 x2 x3 x4 x5 x6 x7
  generalize w5.alloc (.cells #[.int .i64 x.num, .int .i64 x.line, .int .i64 x.minute, .int .i64 x.att, .int .i64 x.frm, .int .i64 1, .int .i64 s.clock, .string x.heard] 70) = W7 at *
  generalize w5.heap.size = aq at *
  generalize Px.beg s x = y at *
  have HP8 := HPx.later (below_alloc W7 (pstO s (.slice ad s.slots.length cap) (.slice ad2 s.ends.length cap2)))
  have HS8 := HSx.later (below_alloc W7 (pstO s (.slice ad s.slots.length cap) (.slice ad2 s.ends.length cap2)))
  have HY8 := HYx.later (below_alloc W7 (pstO s (.slice ad s.slots.length cap) (.slice ad2 s.ends.length cap2)))
  have hA := PW.new W7 s (.slice ad s.slots.length cap) (.slice ad2 s.ends.length cap2)
  have hWq := HPx.lt
  obtain ⟨i0, i1, i2, i3, i4⟩ := HPx.st
  clear HSx HYx
  go_upto_region 14 with fail
  clear i0 i1 i2 i3 i4 HPx
  generalize W7.alloc (pstO s (.slice ad s.slots.length cap) (.slice ad2 s.ends.length cap2)) = W8 at *
  generalize W7.heap.size = q at *
  have HPP8 : Hid (PRes w W8 s (.slice ad s.slots.length cap) (.slice ad2 s.ends.length cap2)) := HP8
  have HSS8 : Hid (PAt W8 s (.slice ad s.slots.length cap) (.slice ad2 s.ends.length cap2)) := HS8
  have HAA8 : Hid (PW W8 q s (.slice ad s.slots.length cap) (.slice ad2 s.ends.length cap2)) := hA
  obtain ⟨i0, i1, i2, i3, i4⟩ := HP8.st
  obtain ⟨y0, y1, y2, y3, y4, y5, y6, y7⟩ := HY8
  clear HP8 HS8 hA
  go_wp2_with fail
  refine (preplaced_any s.slots y _ _ hl HSS8.out.sl.1).mono ?_
  rintro e w9 ⟨⟨v9, rfl, hown9⟩, hb9⟩
  clear i0 i1 i2 i3 i4 y0 y1 y2 y3 y4 y5 y6 y7
  obtain ⟨ad9, cap9, hv9, _⟩ := (RowAt.of_own hown9).form
  subst hv9
  have hA9 := HAA8.out.later hb9
  have a3 := hA9.st.c3
  have f3' := hA9.f 3 (by decide)
  have hq9 := hA9.ty.lt
  have HP10 := (HPP8.out.later hb9).set hWq 3 (.slice ad9 (Px.repl s.slots y).length cap9)
  have HA10 := hA9.slots (Px.repl s.slots y) (.slice ad9 (Px.repl s.slots y).length cap9)
  have HE10 := ((HSS8.out.later hb9).set hA9.ty (by decide) (by decide) 3 (.slice ad9 (Px.repl s.slots y).length cap9)).en
  have HO10 := (TRow.of_own hown9).set hA9.ty (by decide) 3 (.slice ad9 (Px.repl s.slots y).length cap9)
  clear hA9 hown9 hb9 HPP8 HSS8 HAA8
  go_upto_region 15 with fail
  clear a3 f3'
  generalize w9.setCell ⟨q, 3, none⟩ (.slice ad9 (Px.repl s.slots y).length cap9) = W10 at *
  have HX : Hid (PEnd w W10 q { s with slots := Px.repl s.slots y } (.slice ad9 (Px.repl s.slots y).length cap9) (.slice ad2 s.ends.length cap2)) := ⟨HA10, ⟨HO10, HE10⟩, HP10.z, HP10.ty, HP10.bel⟩
  obtain ⟨⟨⟨u0, r0⟩, f0⟩, ⟨⟨u1, r1⟩, f1⟩, ⟨⟨u2, r2⟩, f2⟩, ⟨⟨u3, r3⟩, f3⟩, ⟨⟨u4, r4⟩, f4⟩⟩ := HP10.five
  obtain ⟨c0, c1, c2, c3, c4⟩ := HA10.st
  clear HP10 HA10 HE10 HO10
  go_wp2_with fail
  refine bodyPost_ret (v := .tuple #[pstV { s with slots := Px.repl s.slots y } (.slice ad9 (Px.repl s.slots y).length cap9) (.slice ad2 s.ends.length cap2), .int .i64 0]) (by simp [results, Tryd.results43, go_sem, r0, r1, r2, r3, r4]) rfl ⟨ChgR.ok HM.out (HX.out.fin _ _ _ _ _).1, (HX.out.fin _ _ _ _ _).2⟩
end Go.Proofs.YtdajolpoiffimabDoor

namespace Go.Proofs.YtdajolpoiffimabDoor
open Go.RowKit

theorem behL_drop {u : List UInt8} {t : List UInt8} {k : Nat} (h : k < t.length) (hp : u.isPrefixOf (t.drop k) = false) : behL u (t.drop k) = behL u (t.drop (k + 1)) := by
  rw [List.drop_eq_getElem_cons h] at hp ⊢
  exact behL_no hp
end Go.Proofs.YtdajolpoiffimabDoor

namespace Go.Proofs.YtdajolpoiffimabDoor
open Go.RowKit

/-- What holds while a slot talks: it lies in its block, behind it the result's. -/
structure GIn (w wr : World) (y : Px.Sl) : Prop where
  ps : PsIn wr w.heap.size y
  fb : ∀ j : Nat, j < 8 → wr.frozen? ⟨w.heap.size, j, none⟩ = false
  z : ZCell wr (w.heap.size + 1) 8
  bel : Below w.heap.size w wr
  lt : w.heap.size + 1 < wr.heap.size
theorem GIn.new (w : World) (x : Px.Sl) : GIn w ((w.alloc (psO x)).alloc (.cells #[.int .i64 0, .int .i64 0, .int .i64 0, .int .i64 0, .int .i64 0, .int .i64 0, .int .i64 0, .string { data := #[] }] 70)) x := by
  have hZ := ZCell.new (w.alloc (psO x)) #[.int .i64 0, .int .i64 0, .int .i64 0, .int .i64 0, .int .i64 0, .int .i64 0, .int .i64 0, .string { data := #[] }] 70
  refine ⟨(PsIn.new w x).later (below_alloc _ _), fun j _ => ?_, by simpa using hZ, (below_alloc w _).alloc (by simp) _, by simp⟩
  rw [(below_alloc (w.alloc (psO x)) _).frozen (p := ⟨w.heap.size, j, none⟩) (by simp)]; simp [go_sem]
/-- A cell of the slot is written. -/
theorem GIn.set {w wr : World} {y y' : Px.Sl} (h : GIn w wr y) (j : Nat) (u : Value) (hps : PsIn (wr.setCell ⟨w.heap.size, j, none⟩ u) w.heap.size y') : GIn w (wr.setCell ⟨w.heap.size, j, none⟩ u) y' := by
  refine ⟨hps, fun i hi => by rw [World.frozen?_setCell]; exact h.fb i hi, fun i hi => ⟨?_, by rw [World.frozen?_setCell]; exact (h.z i hi).2⟩, h.bel.setCell (by simp) _, by have := h.lt; simpa [World.setCell] using this⟩
  obtain ⟨v, hv⟩ := (h.z i hi).1
  exact ⟨v, by rw [World.cell?_setCell_other _ _ _ _ (by simp)]; exact hv⟩
theorem GIn.step {w wr : World} {y : Px.Sl} (h : GIn w wr y) (k : Int) : GIn w (wr.setCell ⟨w.heap.size, 5, none⟩ (.int .i64 k)) { y with step := k } := by
  refine h.set 5 _ ?_
  obtain ⟨c0, c1, c2, c3, c4, c5, c6, c7⟩ := h.ps
  refine ⟨?_, ?_, ?_, ?_, ?_, ?_, ?_, ?_⟩ <;> simp [go_sem, c0, c1, c2, c3, c4, c5, c6, c7]
theorem GIn.ans {w wr : World} {y : Px.Sl} (h : GIn w wr y) (k : Int) : GIn w (wr.setCell ⟨w.heap.size, 6, none⟩ (.int .i64 k)) { y with ans := k } := by
  refine h.set 6 _ ?_
  obtain ⟨c0, c1, c2, c3, c4, c5, c6, c7⟩ := h.ps
  refine ⟨?_, ?_, ?_, ?_, ?_, ?_, ?_, ?_⟩ <;> simp [go_sem, c0, c1, c2, c3, c4, c5, c6, c7]
theorem GIn.heard {w wr : World} {y : Px.Sl} (h : GIn w wr y) (k : ByteArray) : GIn w (wr.setCell ⟨w.heap.size, 7, none⟩ (.string k)) { y with heard := k } := by
  refine h.set 7 _ ?_
  obtain ⟨c0, c1, c2, c3, c4, c5, c6, c7⟩ := h.ps
  refine ⟨?_, ?_, ?_, ?_, ?_, ?_, ?_, ?_⟩ <;> simp [go_sem, c0, c1, c2, c3, c4, c5, c6, c7]
theorem below_set8 {n q : Nat} {w w' : World} (h : Below n w w') (hq : n ≤ q) (u0 u1 u2 u3 u4 u5 u6 u7 : Value) : Below n w ((((((((w'.setCell ⟨q, 0, none⟩ u0).setCell ⟨q, 1, none⟩ u1).setCell ⟨q, 2, none⟩ u2).setCell ⟨q, 3, none⟩ u3).setCell ⟨q, 4, none⟩ u4).setCell ⟨q, 5, none⟩ u5).setCell ⟨q, 6, none⟩ u6).setCell ⟨q, 7, none⟩ u7) :=
  (((((((h.setCell hq _).setCell hq _).setCell hq _).setCell hq _).setCell hq _).setCell hq _).setCell hq _).setCell hq _
theorem ret_go {x : Px.Sl} {a : ByteArray} {p : Px.Sl × ByteArray} (h : p = (x, a)) : Ending.returned (.tuple #[psV x, .string a]) = .returned (.tuple #[psV p.1, .string p.2]) := by subst h; rfl
theorem behB_no {t u : ByteArray} (h : behB t u = false) : behS t u = ByteArray.empty := by
  unfold behB at h; unfold behS
  cases q : behL u.data.toList t.data.toList with
  | none => rfl
  | some l => rw [q] at h; simp at h

end Go.Proofs.YtdajolpoiffimabDoor

namespace Go.Proofs.YtdajolpoiffimabDoor
open Go.RowKit

theorem PsIn.set {W : World} {q : Nat} {x : Px.Sl} (h : PsIn W q x) {g : Nat} (hg : g ≠ q) (j : Nat) (u : Value) : PsIn (W.setCell ⟨g, j, none⟩ u) q x := by
  have oth : ∀ (i : Nat), (W.setCell ⟨g, j, none⟩ u).cell? ⟨q, i, none⟩ = W.cell? ⟨q, i, none⟩ := fun i => World.cell?_setCell_other _ _ _ _ (by simp)
  obtain ⟨c0, c1, c2, c3, c4, c5, c6, c7⟩ := h
  exact ⟨(oth _).trans c0, (oth _).trans c1, (oth _).trans c2, (oth _).trans c3, (oth _).trans c4, (oth _).trans c5, (oth _).trans c6, (oth _).trans c7⟩
theorem below_set7 {n q : Nat} {w w' : World} (h : Below n w w') (hq : n ≤ q) (u0 u1 u2 u3 u4 u5 u6 : Value) : Below n w (((((((w'.setCell ⟨q, 0, none⟩ u0).setCell ⟨q, 1, none⟩ u1).setCell ⟨q, 2, none⟩ u2).setCell ⟨q, 3, none⟩ u3).setCell ⟨q, 4, none⟩ u4).setCell ⟨q, 5, none⟩ u5).setCell ⟨q, 6, none⟩ u6) :=
  ((((((h.setCell hq _).setCell hq _).setCell hq _).setCell hq _).setCell hq _).setCell hq _).setCell hq _
theorem PsIn.hear {W : World} {q : Nat} {y : Px.Sl} (h : PsIn W q y) (k : ByteArray) : PsIn (W.setCell ⟨q, 7, none⟩ (.string k)) q { y with heard := k } := by
  obtain ⟨c0, c1, c2, c3, c4, c5, c6, c7⟩ := h
  refine ⟨?_, ?_, ?_, ?_, ?_, ?_, ?_, ?_⟩ <;> simp [go_sem, c0, c1, c2, c3, c4, c5, c6, c7]
/-- What Hear answers. -/
abbrev talkV (s : Px.St) (sl en : Value) (said : ByteArray) (over : Bool) : Value := .agg #[.string s.tab, .int .i64 s.clock, .int .i64 s.next, sl, en, .string said, .bool over]
inductive TalkR (s : Px.St) (n : Int) (x : ByteArray) (w' : World) : Ending → Prop
  | none (h : Px.find s.slots n = .none) : TalkR s n x w' (.returned (.tuple #[.agg #[.string { data := #[] }, .int .i64 0, .int .i64 0, .slice none 0 0, .slice none 0 0, .string { data := #[] }, .bool false], .int .i64 8]))
  | wait (y : Px.Sl) (h : Px.find s.slots n = some y) (hs : y.step ≤ 0) : TalkR s n x w' (.returned (.tuple #[.agg #[.string { data := #[] }, .int .i64 0, .int .i64 0, .slice none 0 0, .slice none 0 0, .string { data := #[] }, .bool false], .int .i64 9]))
  | ok (y : Px.Sl) (sl en : Value) (said : ByteArray) (over : Bool) (t : Px.St) (h : Px.find s.slots n = some y) (hs : ¬ y.step ≤ 0) (ht : t = Px.talkT s y x) (h1 : said = (Px.talkS s y x).2) (h2 : over = decide (((Px.stepsL s y).length : Int) < (Px.talkS s y x).1.step)) (ha : PAt w' t sl en) : TalkR s n x w' (.returned (.tuple #[talkV t sl en said over, .int .i64 0]))

end Go.Proofs.YtdajolpoiffimabDoor

namespace Go.Proofs.YtdajolpoiffimabDoor
open Go.RowKit
attribute [local go_sem] Bx.be_size

theorem sl_enc (x : Bx.Sl) (m : Int) (hm : m = Bx.mk1 x.runs) : Bx.be x.num 2 ++ Bx.be x.line 1 ++ Bx.be x.minute 5 ++ Bx.be x.att 1 ++ Bx.be x.frm 5 ++ Bx.be m 1 = Bx.encSl x := by
  subst hm; unfold Bx.encSl; simp only [ByteArray.append_assoc]
set_option maxRecDepth 10000 in
set_option maxHeartbeats 2000000 in
theorem pslotPart_any (x : Px.Sl) (w : World) (hf : Bx.SlFit (Px.absS x)) :
    Calls Tryd.prog 34 #[psV x] w fun e w' => e = .returned (.string (Bx.encSl (Px.absS x))) ∧ Below w.heap.size w w' := by
  have n1 := hf.n; have n2 := hf.l; have n3 := hf.m; have n4 := hf.a; have n5 := hf.f
  simp only [Px.absS] at n1 n2 n3 n4 n5
  obtain ⟨a1, b1⟩ := n1
  obtain ⟨a2, b2⟩ := n2
  obtain ⟨a3, b3⟩ := n3
  obtain ⟨a4, b4⟩ := n4
  obtain ⟨a5, b5⟩ := n5
  have HE : Hid (∀ m : Int, m = Bx.mk1 (decide (0 < x.step)) → Bx.be x.num 2 ++ Bx.be x.line 1 ++ Bx.be x.minute 5 ++ Bx.be x.att 1 ++ Bx.be x.frm 5 ++ Bx.be m 1 = Bx.encSl (Px.absS x)) := fun m hm => sl_enc (Px.absS x) m hm
  have hb0 := below_alloc w (psO x)
  have hI := PsIn.new w x
  clear hf
  go_enter Tryd.func34, Tryd.ntmps34
  go_upto_region 1 with fail
  generalize w.alloc (psO x) = W at *
  have HI : Hid (PsIn W w.heap.size x) := hI
  have HB : Hid (Below w.heap.size w W) := hb0
  have c0 := hI.c0
  clear hI hb0
  go_wp2_with fail
  refine (digits_at _ _ x.num 2 _ rfl rfl (by omega) (by omega) (by decide)).mono ?_
  rintro e w1 ⟨rfl, hb1⟩
  have HI1 : Hid (PsIn w1 w.heap.size x) := HI.out.later hb1
  have HB1 : Hid (Below w.heap.size w w1) := HB.out.trans (hb1.mono HB.out.size)
  clear HI HB hb1 c0
  have c1 := HI1.out.c1
  go_wp2_with fail
  refine (digits_at _ _ x.line 1 _ rfl rfl (by omega) (by omega) (by decide)).mono ?_
  rintro e w2 ⟨rfl, hb1⟩
  have HI2 : Hid (PsIn w2 w.heap.size x) := HI1.out.later hb1
  have HB2 : Hid (Below w.heap.size w w2) := HB1.out.trans (hb1.mono HB1.out.size)
  clear HI1 HB1 hb1 c1
  have c2 := HI2.out.c2
  go_wp2_with fail
  refine (digits_at _ _ x.minute 5 _ rfl rfl (by omega) (by omega) (by decide)).mono ?_
  rintro e w3 ⟨rfl, hb1⟩
  have HI3 : Hid (PsIn w3 w.heap.size x) := HI2.out.later hb1
  have HB3 : Hid (Below w.heap.size w w3) := HB2.out.trans (hb1.mono HB2.out.size)
  clear HI2 HB2 hb1 c2
  have c3 := HI3.out.c3
  go_wp2_with fail
  refine (digits_at _ _ x.att 1 _ rfl rfl (by omega) (by omega) (by decide)).mono ?_
  rintro e w4 ⟨rfl, hb1⟩
  have HI4 : Hid (PsIn w4 w.heap.size x) := HI3.out.later hb1
  have HB4 : Hid (Below w.heap.size w w4) := HB3.out.trans (hb1.mono HB3.out.size)
  clear HI3 HB3 hb1 c3
  have c4 := HI4.out.c4
  go_wp2_with fail
  refine (digits_at _ _ x.frm 5 _ rfl rfl (by omega) (by omega) (by decide)).mono ?_
  rintro e w5 ⟨rfl, hb1⟩
  have HI5 : Hid (PsIn w5 w.heap.size x) := HI4.out.later hb1
  have HB5 : Hid (Below w.heap.size w w5) := HB4.out.trans (hb1.mono HB4.out.size)
  clear HI4 HB4 hb1 c4
  obtain ⟨d0, d1, d2, d3, d4, d5, d6, d7⟩ := HI5.out
  go_wp2_with fail
  refine (runs_any x _).mono ?_
  rintro e w6 ⟨rfl, hb1⟩
  have HB6 : Hid (Below w.heap.size w w6) := HB5.out.trans (hb1.mono HB5.out.size)
  clear HI5 HB5 hb1 d0 d1 d2 d3 d4 d5 d6 d7
  by_cases hr : 0 < x.step
  · have hrd : decide (0 < x.step) = true := decide_eq_true hr
    have HE1 : Hid (Bx.be x.num 2 ++ Bx.be x.line 1 ++ Bx.be x.minute 5 ++ Bx.be x.att 1 ++ Bx.be x.frm 5 ++ Bx.be 1 1 = Bx.encSl (Px.absS x)) := HE.out 1 (by rw [hrd]; rfl)
    clear HE hr
    go_wp2_with fail
    refine (digits_at _ _ 1 1 _ rfl rfl (by omega) (by omega) (by decide)).mono ?_
    rintro e w7 ⟨rfl, hb1⟩
    have HB7 : Hid (Below w.heap.size w w7) := HB6.out.trans (hb1.mono HB6.out.size)
    clear HB6 hb1
    go_wp2_with fail
    go_ret
    exact ⟨ret_str HE1.out, HB7.out⟩
  · have hrd : decide (0 < x.step) = false := decide_eq_false hr
    have HE1 : Hid (Bx.be x.num 2 ++ Bx.be x.line 1 ++ Bx.be x.minute 5 ++ Bx.be x.att 1 ++ Bx.be x.frm 5 ++ Bx.be 0 1 = Bx.encSl (Px.absS x)) := HE.out 0 (by rw [hrd]; rfl)
    clear HE hr
    go_wp2_with fail
    refine (digits_at _ _ 0 1 _ rfl rfl (by omega) (by omega) (by decide)).mono ?_
    rintro e w7 ⟨rfl, hb1⟩
    have HB7 : Hid (Below w.heap.size w w7) := HB6.out.trans (hb1.mono HB6.out.size)
    clear HB6 hb1
    go_wp2_with fail
    go_ret
    exact ⟨ret_str HE1.out, HB7.out⟩
/-- The slots' texts, one behind the other. -/
def encA (x : Px.Sl) : ByteArray := Bx.encSl (Px.absS x)
theorem cat_take {α : Type} (f : α → ByteArray) (l : List α) (k : Nat) (h : k < l.length) : Bx.cat ((l.take (k + 1)).map f) = Bx.cat ((l.take k).map f) ++ f l[k] := by
  rw [List.take_succ_eq_append_getElem h, List.map_append, List.map_cons, List.map_nil, Bx.cat_snoc]
set_option maxRecDepth 10000 in
set_option maxHeartbeats 2000000 in
theorem pslotsPart_any (l : List Px.Sl) (sl : Value) (w : World) (hl : l.length ≤ 255) (hf : ∀ x ∈ l, Bx.SlFit (Px.absS x)) (hS : RowAt w sl l.length (l.flatMap psC)) :
    Calls Tryd.prog 22 #[sl] w fun e w' => e = .returned (.string (Bx.be l.length 1 ++ Bx.cat (l.map encA))) ∧ Below w.heap.size w w' := by
  obtain ⟨ad, cap, rfl, hcap⟩ := hS.form
  have HR : Hid (RowAt w (.slice ad l.length cap) l.length (l.flatMap psC)) := hS
  have HF : Hid (∀ x ∈ l, Bx.SlFit (Px.absS x)) := hf
  clear hS hf
  go_enter Tryd.func22, Tryd.ntmps22
  go_wp2_with fail
  refine (digits_at _ _ (l.length : Int) 1 _ rfl rfl (by omega) (by omega) (by decide)).mono ?_
  rintro e w1 ⟨rfl, hb1⟩
  have HB1 : Hid (Below w.heap.size w w1) := hb1
  clear hb1
  go_wp2_with fail
  go_loopw [3, 4] (fun tv i wr => ∃ k : Nat, k ≤ l.length ∧ i = .int .i64 k ∧ tv = .string (Bx.be l.length 1 ++ Bx.cat ((l.take k).map encA)) ∧ Below w.heap.size w wr) (fun _ i _ => l.length - (intOf i).toNat)
  case atStart => exact ⟨0, Nat.zero_le _, rfl, by simp [Bx.cat], HB1.out⟩
  case round =>
    obtain ⟨k, hk, rfl, rfl, hbr⟩ := hrel
    have HBr : Hid (Below w.heap.size w wr) := hbr
    by_cases hlt : k < l.length
    · obtain ⟨b, off, cap', hv, _, hc⟩ := (HR.out.later hbr).some' (by omega)
      cases hv
      obtain ⟨d0, d1, d2, d3, d4, d5, d6, d7⟩ := ps_cells hc k hlt
      have b1 : (0 : Int) ≤ (k : Int) := by omega
      have b2 : (k : Int) < (l.length : Int) := by omega
      have HFx := HF.out _ (List.getElem_mem hlt)
      have HN : Hid (Bx.be l.length 1 ++ Bx.cat ((l.take (k + 1)).map encA) = (Bx.be l.length 1 ++ Bx.cat ((l.take k).map encA)) ++ Bx.encSl (Px.absS l[k])) := by
        unfold Hid; rw [cat_take encA l k hlt, ByteArray.append_assoc]; rfl
      have hz : (Bx.be l.length 1 ++ Bx.cat ((l.take k).map encA)).size ≤ 10000 := by
        have h1 := Bx.cat_size encA 15 (l.take k) (fun x _ => Bx.encSl_size _)
        have h2 : (l.take k).length ≤ 255 := by simp; omega
        rw [ByteArray.size_append, Bx.be_size, h1]; omega
      have hz2 : (Bx.encSl (Px.absS l[k])).size = 15 := Bx.encSl_size _
      have q9 : ¬ 9223372036854775807 < (Bx.be l.length 1 ++ Bx.cat ((l.take k).map encA)).size + 15 := by omega
      clear hc hbr
      generalize l[k] = x at *
      generalize Bx.be l.length 1 ++ Bx.cat ((l.take k).map encA) = tx at *
      go_wp2_with fail
      refine (pslotPart_any x _ HFx).mono ?_
      rintro e w2 ⟨rfl, hb2⟩
      have HB2 : Hid (Below w.heap.size w w2) := HBr.out.trans (hb2.mono HBr.out.size)
      clear hb2 HBr d0 d1 d2 d3 d4 d5 d6 d7
      generalize Bx.encSl (Px.absS x) = en at *
      go_wp2_with fail
      go_roundw
      case rel => exact ⟨k + 1, by omega, by go_num, by rw [HN.out], HB2.out⟩
      case measure => simp [intOf]; omega
    · obtain rfl : k = l.length := by omega
      have HL : Hid (l.take l.length = l) := List.take_length
      generalize l.take l.length = l' at *
      go_wp2_with fail
      go_ret
      exact ⟨ret_str (by rw [HL.out]), HBr.out⟩
set_option maxRecDepth 10000 in
set_option maxHeartbeats 2000000 in
theorem pendsPart_any (l : List Bx.En) (sl : Value) (w : World) (hl : l.length ≤ 255) (hf : ∀ x ∈ l, Bx.EnFit x) (hS : RowAt w sl l.length (l.flatMap enC)) :
    Calls Tryd.prog 23 #[sl] w fun e w' => e = .returned (.string (Bx.be l.length 1 ++ Bx.cat (l.map Bx.encEn))) ∧ Below w.heap.size w w' := by
  obtain ⟨ad, cap, rfl, hcap⟩ := hS.form
  have HR : Hid (RowAt w (.slice ad l.length cap) l.length (l.flatMap enC)) := hS
  have HF : Hid (∀ x ∈ l, Bx.EnFit x) := hf
  clear hS hf
  go_enter Tryd.func23, Tryd.ntmps23
  go_wp2_with fail
  refine (digits_at _ _ (l.length : Int) 1 _ rfl rfl (by omega) (by omega) (by decide)).mono ?_
  rintro e w1 ⟨rfl, hb1⟩
  have HB1 : Hid (Below w.heap.size w w1) := hb1
  clear hb1
  go_wp2_with fail
  go_loopw [3, 4] (fun tv i wr => ∃ k : Nat, k ≤ l.length ∧ i = .int .i64 k ∧ tv = .string (Bx.be l.length 1 ++ Bx.cat ((l.take k).map Bx.encEn)) ∧ Below w.heap.size w wr) (fun _ i _ => l.length - (intOf i).toNat)
  case atStart => exact ⟨0, Nat.zero_le _, rfl, by simp [Bx.cat], HB1.out⟩
  case round =>
    obtain ⟨k, hk, rfl, rfl, hbr⟩ := hrel
    have HBr : Hid (Below w.heap.size w wr) := hbr
    by_cases hlt : k < l.length
    · obtain ⟨b, off, cap', hv, _, hc⟩ := (HR.out.later hbr).some' (by omega)
      cases hv
      have d0 : wr.cell? ⟨b, off + k * 2, none⟩ = some (.int .i64 l[k].num) := RowAt.cell enC_len hc k hlt 0 (by decide)
      have d1 : wr.cell? ⟨b, off + k * 2 + 1, none⟩ = some (.string l[k].how) := RowAt.cell enC_len hc k hlt 1 (by decide)
      have b1 : (0 : Int) ≤ (k : Int) := by omega
      have b2 : (k : Int) < (l.length : Int) := by omega
      have HFx := HF.out _ (List.getElem_mem hlt)
      obtain ⟨e1, e2⟩ := HFx.n
      have hh := HFx.h
      have HN : Hid (Bx.be l.length 1 ++ Bx.cat ((l.take (k + 1)).map Bx.encEn) = (Bx.be l.length 1 ++ Bx.cat ((l.take k).map Bx.encEn)) ++ Bx.be l[k].num 2 ++ l[k].how) := by
        unfold Hid; rw [cat_take Bx.encEn l k hlt]; unfold Bx.encEn; simp only [ByteArray.append_assoc]
      have hz : (Bx.be l.length 1 ++ Bx.cat ((l.take k).map Bx.encEn)).size ≤ 10000 := by
        have h1 := Bx.cat_size Bx.encEn 3 (l.take k) (fun x hx => by unfold Bx.encEn; rw [ByteArray.size_append, Bx.be_size, (HF.out x (List.mem_of_mem_take hx)).h])
        have h2 : (l.take k).length ≤ 255 := by simp; omega
        rw [ByteArray.size_append, Bx.be_size, h1]; omega
      have q8 : ¬ 9223372036854775807 < (Bx.be l.length 1 ++ Bx.cat ((l.take k).map Bx.encEn)).size + 2 := by omega
      have q9 : ¬ 9223372036854775807 < (Bx.be l.length 1 ++ Bx.cat ((l.take k).map Bx.encEn)).size + 2 + l[k].how.size := by omega
      have HLt : Hid (b < wr.heap.size) := World.block_lt_of_cell? _ _ d0
      clear hc hbr HFx hh
      generalize l[k] = x at *
      generalize Bx.be l.length 1 ++ Bx.cat ((l.take k).map Bx.encEn) = tx at *
      go_wp2_with fail
      refine (digits_at _ _ x.num 2 _ rfl rfl (by omega) (by omega) (by decide)).mono ?_
      rintro e w2 ⟨rfl, hb2⟩
      have HB2 : Hid (Below w.heap.size w w2) := HBr.out.trans (hb2.mono HBr.out.size)
      have d1' := cell_later hb2 d1
      clear hb2 HBr d0 d1
      go_wp2_with fail
      go_roundw
      case rel => exact ⟨k + 1, by omega, by go_num, by rw [HN.out], HB2.out⟩
      case measure => simp [intOf]; omega
    · obtain rfl : k = l.length := by omega
      have HL : Hid (l.take l.length = l) := List.take_length
      generalize l.take l.length = l' at *
      go_wp2_with fail
      go_ret
      exact ⟨ret_str (by rw [HL.out]), HBr.out⟩
end Go.Proofs.YtdajolpoiffimabDoor

namespace Go.Proofs.YtdajolpoiffimabDoor
open Go.RowKit

def slotA (l : List Px.Sl) (i : Int) : Px.Sl × Int := if 0 ≤ i ∧ i < (l.length : Int) then (l.getD i.toNat Px.sl0, 0) else (Px.sl0, 4)
def endA (l : List Bx.En) (i : Int) : Bx.En × Int := if 0 ≤ i ∧ i < (l.length : Int) then (l.getD i.toNat ⟨0, ByteArray.empty⟩, 0) else (⟨0, ByteArray.empty⟩, 4)
theorem slotA_no {l : List Px.Sl} {i : Int} (h : i < 0 ∨ (l.length : Int) ≤ i) : slotA l i = (Px.sl0, 4) := if_neg (by omega)
theorem slotA_yes {l : List Px.Sl} {k : Nat} (h : k < l.length) : slotA l (k : Int) = (l[k], 0) := by
  unfold slotA; rw [if_pos (by omega), Int.toNat_natCast]; simp [h]
theorem endA_no {l : List Bx.En} {i : Int} (h : i < 0 ∨ (l.length : Int) ≤ i) : endA l i = (⟨0, ByteArray.empty⟩, 4) := if_neg (by omega)
theorem endA_yes {l : List Bx.En} {k : Nat} (h : k < l.length) : endA l (k : Int) = (l[k], 0) := by
  unfold endA; rw [if_pos (by omega), Int.toNat_natCast]; simp [h]
theorem slotR_eq {l : List Px.Sl} {i : Int} {e : Ending} (h : SlotR l i e) : e = .returned (.tuple #[paslV (slotA l i).1, .int .i64 (slotA l i).2]) := by
  cases h with
  | no h => rw [slotA_no h]; rfl
  | yes k hk h => subst h; rw [slotA_yes hk]
abbrev enV (x : Bx.En) : Value := .agg #[.int .i64 x.num, .string x.how]
theorem endR_eq {l : List Bx.En} {i : Int} {e : Ending} (h : EndR l i e) : e = .returned (.tuple #[enV (endA l i).1, .int .i64 (endA l i).2]) := by
  cases h with
  | no h => rw [endA_no h]; rfl
  | yes k hk h => subst h; rw [endA_yes hk]
theorem xslot_any (b : Px.Bo) (B : Nat) (i : Int) (w : World) (hO : Px.Ok b.st) (hB : ∃ sl en, PB w B b sl en) :
    Calls Tryd.prog 15 #[.pointer (some ⟨B, 0, none⟩), .int .i64 i] w fun e w' => e = .returned (.tuple #[paslV (slotA b.st.slots i).1, .int .i64 (slotA b.st.slots i).2]) ∧ Below w.heap.size w w' := by
  obtain ⟨sl, en, hB⟩ := hB
  exact (pslot_any b B i sl en w (by have := hO.len; omega) hB).mono fun e w' h => ⟨slotR_eq h.1, h.2⟩
theorem xend_any (b : Px.Bo) (B : Nat) (i : Int) (w : World) (hO : Px.Ok b.st) (hB : ∃ sl en, PB w B b sl en) :
    Calls Tryd.prog 16 #[.pointer (some ⟨B, 0, none⟩), .int .i64 i] w fun e w' => e = .returned (.tuple #[enV (endA b.st.ends i).1, .int .i64 (endA b.st.ends i).2]) ∧ Below w.heap.size w w' := by
  obtain ⟨sl, en, hB⟩ := hB
  exact (pend_any b B i sl en w (by have : b.st.ends.length ≤ 6 := hO.st.en; omega) hB).mono fun e w' h => ⟨endR_eq h.1, h.2⟩
theorem xlook_any (b : Px.Bo) (B : Nat) (w : World) (hB : ∃ sl en, PB w B b sl en) :
    Calls Tryd.prog 14 #[.pointer (some ⟨B, 0, none⟩)] w fun e w' => e = .returned (pviewV b.st) ∧ Below w.heap.size w w' := by
  obtain ⟨sl, en, hB⟩ := hB; exact plook_any b B sl en w hB
theorem xlog_any (b : Px.Bo) (B : Nat) (w : World) (hB : ∃ sl en, PB w B b sl en) :
    Calls Tryd.prog 7 #[.pointer (some ⟨B, 0, none⟩)] w fun e w' => e = .returned (.string b.log) ∧ w' = w := by
  obtain ⟨sl, en, hB⟩ := hB; exact plog_any b B sl en w hB
end Go.Proofs.YtdajolpoiffimabDoor

namespace Go.Proofs.YtdajolpoiffimabDoor
open Go.RowKit

/-- A field of a line holds a value: the call, at a world that holds the line. -/
theorem lineField_any (s : ByteArray) (bb cc : Nat → Nat) (t : Nat) (v : Int) (w : World) (x : Bool) (hx : x = Txt.hldB (lo t) (hi t) v (pt s t)) (hs : s.size ≤ 300) (ht : t < 5) (hP : LineP s) (hA : LineAt w s bb cc) (v1 : 0 ≤ v) (v2 : v ≤ 60) :
    Calls Tryd.prog 85 #[.agg #[.bool (Txt.opn (pt s t)), .slice (some ⟨bb t, 0, none⟩) (Txt.pcs 44 (pt s t)).length (cc t)], .int .i64 v] w fun e w' => e = .returned (.bool x) ∧ Below w.heap.size w w' :=
  hx ▸ fieldHolds_any (pt s t) (lo t) (hi t) v _ (bb t) (cc t) w (hP.sz hs t ht) (lohi t).1 (lohi t).2.2.2 v1 v2 (hP.fl t ht) (hA t ht).2 (hA t ht).1

set_option maxHeartbeats 2000000 in
theorem dueOnDay_any (s : ByteArray) (bb cc : Nat → Nat) (ads : Option Addr) (ns caps : Nat) (y m d h i k : Int) (w : World) (hs : s.size ≤ 300) (hP : LineP s) (hA : LineAt w s bb cc) (d1 : 0 ≤ d) (d2 : d ≤ 60) (k1 : 0 ≤ k) (k2 : k ≤ 60) :
    Calls Tryd.prog 86 #[lineV s bb cc (.slice ads ns caps), dateV y m d h i k] w fun e w' => e = .returned (.bool (dayB s d k)) ∧ Below w.heap.size w w' := by
  have HP : Hid (LineP s) := hP
  have HA : Hid (∀ o1 o2, LineAt ((w.alloc o1).alloc o2) s bb cc) := fun o1 o2 => (hA.later (below_alloc _ _)).later (below_alloc _ _)
  obtain ⟨x, hx⟩ : ∃ x : Bool, x = Txt.hldB (lo 2) (hi 2) d (pt s 2) := ⟨_, rfl⟩
  obtain ⟨z, hz⟩ : ∃ z : Bool, z = Txt.hldB (lo 4) (hi 4) k (pt s 4) := ⟨_, rfl⟩
  have HX : Hid (x = Txt.hldB (lo 2) (hi 2) d (pt s 2)) := hx
  have HZ : Hid (z = Txt.hldB (lo 4) (hi 4) k (pt s 4)) := hz
  have HD : Hid (dayB s d k = if (Txt.opn (pt s 2) || Txt.opn (pt s 4)) = true then (x && z) else (x || z)) := by unfold Hid; rw [dayB, hx, hz]
  clear hx hz
  clear hP hA
  go_enter Tryd.func86, Tryd.ntmps86
  go_wp2_with fail
  refine (lineField_any s bb cc 2 _ _ x HX.out hs (by decide) HP.out (HA.out _ _) d1 d2).mono ?_
  rintro e w1 ⟨rfl, hb1⟩
  have HA1 : Hid (LineAt w1 s bb cc) := (HA.out _ _).later hb1
  have B1 : Hid (Below w.heap.size w w1) := ((below_alloc w _).alloc (by simp) _).trans (hb1.mono (by simp; omega))
  obtain ⟨hc1, hf1⟩ := bcell hb1
  have hz1 : w.heap.size + 1 < w1.heap.size := by have := hb1.size; simp at this; omega
  have hz0 : w.heap.size < w1.heap.size := by omega
  clear hb1 HA
  go_wp2_with fail
  refine (lineField_any s bb cc 4 _ _ z HZ.out hs (by decide) HP.out HA1.out k1 k2).mono ?_
  rintro e w2 ⟨rfl, hb2⟩
  have B2 : Hid (Below w.heap.size w w2) := B1.out.trans (hb2.mono (by omega))
  obtain ⟨hc2, hf2⟩ := bcell hb2
  clear hb2
  clear HX HZ
  have leaf : ∀ r : Bool, r = dayB s d k → Hid (r = dayB s d k) := fun _ h => h
  cases ho2 : Txt.opn (pt s 2)
  · cases ho4 : Txt.opn (pt s 4)
    · have D : Hid ((x || z) = dayB s d k) := by unfold Hid; rw [HD.out, ho2, ho4]; rfl
      clear HD leaf
      cases x
      · go_wp2_with fail
        go_ret
        exact ⟨ret_bool' D.out, B2.out⟩
      · go_wp2_with fail
        go_ret
        exact ⟨ret_bool' D.out, B2.out⟩
    · have D : Hid ((x && z) = dayB s d k) := by unfold Hid; rw [HD.out, ho2, ho4]; rfl
      clear HD leaf
      cases x
      · go_wp2_with fail
        go_ret
        exact ⟨ret_bool' D.out, B2.out⟩
      · go_wp2_with fail
        go_ret
        exact ⟨ret_bool' D.out, B2.out⟩
  · have D : Hid ((x && z) = dayB s d k) := by unfold Hid; rw [HD.out, ho2]; rfl
    clear HD leaf
    cases x
    · go_wp2_with fail
      go_ret
      exact ⟨ret_bool' D.out, B2.out⟩
    · go_wp2_with fail
      go_ret
      exact ⟨ret_bool' D.out, B2.out⟩

set_option maxHeartbeats 2000000 in
theorem due_any (s : ByteArray) (bb cc : Nat → Nat) (ads : Option Addr) (ns caps : Nat) (y m d h i k : Int) (w : World) (hs : s.size ≤ 300) (hP : LineP s) (hA : LineAt w s bb cc) (m1 : 0 ≤ m) (m2 : m ≤ 60) (d1 : 0 ≤ d) (d2 : d ≤ 60) (h1 : 0 ≤ h) (h2 : h ≤ 60) (i1 : 0 ≤ i) (i2 : i ≤ 60) (k1 : 0 ≤ k) (k2 : k ≤ 60) :
    Calls Tryd.prog 74 #[lineV s bb cc (.slice ads ns caps), dateV y m d h i k] w fun e w' => e = .returned (.bool (dueB s m d h i k)) ∧ Below w.heap.size w w' := by
  have HP : Hid (LineP s) := hP
  have HA : Hid (∀ o1 o2, LineAt ((w.alloc o1).alloc o2) s bb cc) := fun o1 o2 => (hA.later (below_alloc _ _)).later (below_alloc _ _)
  obtain ⟨x, hx⟩ : ∃ x : Bool, x = Txt.hldB (lo 0) (hi 0) i (pt s 0) := ⟨_, rfl⟩
  obtain ⟨y', hy⟩ : ∃ x : Bool, x = Txt.hldB (lo 1) (hi 1) h (pt s 1) := ⟨_, rfl⟩
  obtain ⟨z, hz⟩ : ∃ z : Bool, z = Txt.hldB (lo 3) (hi 3) m (pt s 3) := ⟨_, rfl⟩
  have HX : Hid (x = Txt.hldB (lo 0) (hi 0) i (pt s 0)) := hx
  have HY : Hid (y' = Txt.hldB (lo 1) (hi 1) h (pt s 1)) := hy
  have HZ : Hid (z = Txt.hldB (lo 3) (hi 3) m (pt s 3)) := hz
  have HD : Hid (dueB s m d h i k = (x && (y' && (z && dayB s d k)))) := by unfold Hid; rw [dueB, hx, hy, hz]
  clear hP hA hx hy hz
  go_enter Tryd.func74, Tryd.ntmps74
  go_wp2_with fail
  refine (lineField_any s bb cc 0 _ _ x HX.out hs (by decide) HP.out (HA.out _ _) i1 i2).mono ?_
  rintro e w1 ⟨rfl, hb1⟩
  have HA1 : Hid (LineAt w1 s bb cc) := (HA.out _ _).later hb1
  have B1 : Hid (Below w.heap.size w w1) := ((below_alloc w _).alloc (by simp) _).trans (hb1.mono (by simp; omega))
  obtain ⟨hc1, hf1⟩ := bcell hb1
  have hz1 : w.heap.size + 1 < w1.heap.size := by have := hb1.size; simp at this; omega
  have hz0 : w.heap.size < w1.heap.size := by omega
  clear hb1 HA HX
  cases x
  · have D : Hid (false = dueB s m d h i k) := by unfold Hid; rw [HD.out]; rfl
    clear HD
    go_wp2_with fail
    go_ret
    exact ⟨ret_bool' D.out, B1.out⟩
  go_wp2_with fail
  refine (lineField_any s bb cc 1 _ _ y' HY.out hs (by decide) HP.out HA1.out h1 h2).mono ?_
  rintro e w2 ⟨rfl, hb2⟩
  have HA2 : Hid (LineAt w2 s bb cc) := HA1.out.later hb2
  have B2 : Hid (Below w.heap.size w w2) := B1.out.trans (hb2.mono (by omega))
  obtain ⟨hc2, hf2⟩ := bcell hb2
  have hz2 : w.heap.size + 1 < w2.heap.size := by have := hb2.size; omega
  have hz20 : w.heap.size < w2.heap.size := by omega
  clear hb2 HA1 HY
  cases y'
  · have D : Hid (false = dueB s m d h i k) := by unfold Hid; rw [HD.out]; rfl
    clear HD
    go_wp2_with fail
    go_ret
    exact ⟨ret_bool' D.out, B2.out⟩
  go_wp2_with fail
  refine (lineField_any s bb cc 3 _ _ z HZ.out hs (by decide) HP.out HA2.out m1 m2).mono ?_
  rintro e w3 ⟨rfl, hb3⟩
  have HA3 : Hid (LineAt w3 s bb cc) := HA2.out.later hb3
  have B3 : Hid (Below w.heap.size w w3) := B2.out.trans (hb3.mono (by omega))
  obtain ⟨hc3, hf3⟩ := bcell hb3
  have hz3 : w.heap.size + 1 < w3.heap.size := by have := hb3.size; omega
  clear hb3 HA2 HZ
  cases z
  · have D : Hid (false = dueB s m d h i k) := by unfold Hid; rw [HD.out]; rfl
    clear HD
    go_wp2_with fail
    go_ret
    exact ⟨ret_bool' D.out, B3.out⟩
  have D : Hid (dayB s d k = dueB s m d h i k) := by unfold Hid; rw [HD.out]; rfl
  clear HD
  go_wp2_with fail
  refine (dueOnDay_any s bb cc ads ns caps y m d h i k _ hs HP.out HA3.out d1 d2 k1 k2).mono ?_
  rintro e w4 ⟨rfl, hb4⟩
  have B4 : Hid (Below w.heap.size w w4) := B3.out.trans (hb4.mono (by omega))
  clear hb4
  go_wp2_with fail
  go_ret
  exact ⟨ret_bool' D.out, B4.out⟩
end Go.Proofs.YtdajolpoiffimabDoor

namespace Go.Proofs.YtdajolpoiffimabDoor
open Go.RowKit

attribute [local go_sem ↓] Go.wp_at_zero Go.wp_at_succ

end Go.Proofs.YtdajolpoiffimabDoor

namespace Go.Proofs.YtdajolpoiffimabDoor
open Go.RowKit

set_option maxHeartbeats 1000000 in
theorem pahead_any (s : Px.St) (m : Int) (sl en : Value) (w : World) (c1 : -1 ≤ s.clock) (c2 : s.clock ≤ 4223371679) (m1 : 0 ≤ m) (m2 : m ≤ 4223371679) (hS : PAt w s sl en) :
    Calls Tryd.prog 55 #[pstV s sl en, .int .i64 m] w fun e w' => e = .returned (.bool (Px.aheadP s m)) ∧ Below w.heap.size w w' := by
  obtain ⟨ad, cap, rfl, hcap⟩ := hS.sl.form
  obtain ⟨ad2, cap2, rfl, hcap2⟩ := hS.en.form
  clear hS
  by_cases h1 : m ≤ s.clock
  · have HM : Hid (Px.aheadP s m = false) := decide_eq_false (by omega)
    go_enter Tryd.func55, Tryd.ntmps55
    go_wp2_with fail
    go_ret
    exact ⟨ret_bool' HM.out.symm, below_alloc _ _⟩
  by_cases h2 : s.clock = -1
  · have HM : Hid (Px.aheadP s m = true) := decide_eq_true (by omega)
    have h2' : (s.clock == -1) = true := by simpa using h2
    clear h2
    go_enter Tryd.func55, Tryd.ntmps55
    go_wp2_with fail
    go_ret
    exact ⟨ret_bool' HM.out.symm, below_alloc _ _⟩
  have h2' : (s.clock == -1) = false := by simpa using h2
  by_cases h3 : m - s.clock ≤ 1500
  · have HM : Hid (Px.aheadP s m = true) := decide_eq_true (by omega)
    clear h2
    go_enter Tryd.func55, Tryd.ntmps55
    go_wp2_with fail
    go_ret
    exact ⟨ret_bool' HM.out.symm, below_alloc _ _⟩
  · have HM : Hid (Px.aheadP s m = false) := decide_eq_false (by omega)
    clear h2
    go_enter Tryd.func55, Tryd.ntmps55
    go_wp2_with fail
    go_ret
    exact ⟨ret_bool' HM.out.symm, below_alloc _ _⟩
set_option maxHeartbeats 1000000 in
theorem firstNew_any (s : Px.St) (m : Int) (sl en : Value) (w : World) (c1 : -1 ≤ s.clock) (c2 : s.clock ≤ 4223371679) (hS : PAt w s sl en) :
    Calls Tryd.prog 57 #[pstV s sl en, .int .i64 m] w fun e w' => e = .returned (.int .i64 (Px.newA s m)) ∧ Below w.heap.size w w' := by
  obtain ⟨ad, cap, rfl, hcap⟩ := hS.sl.form
  obtain ⟨ad2, cap2, rfl, hcap2⟩ := hS.en.form
  clear hS
  by_cases h2 : s.clock = -1
  · have HM : Hid (Px.newA s m = m) := if_pos h2
    have h2' : (s.clock == -1) = true := by simpa using h2
    clear h2
    go_enter Tryd.func57, Tryd.ntmps57
    go_wp2_with fail
    go_ret
    exact ⟨ret_int' HM.out.symm, below_alloc _ _⟩
  · have HM : Hid (Px.newA s m = s.clock + 1) := if_neg h2
    have h2' : (s.clock == -1) = false := by simpa using h2
    clear h2
    go_enter Tryd.func57, Tryd.ntmps57
    go_wp2_with fail
    go_ret
    exact ⟨ret_int' HM.out.symm, below_alloc _ _⟩
set_option maxHeartbeats 1000000 in
theorem pcounts_any (l : ByteArray) (bb cc : Nat → Nat) (ads : Option Addr) (ns caps : Nat) (now later : Bool) (w : World) :
    Calls Tryd.prog 75 #[lineV l bb cc (.slice ads ns caps), .bool now, .bool later] w fun e w' => e = .returned (.bool (Px.cntB (obt (pt l 5) 1) now later)) ∧ Below w.heap.size w w' := by
  have HM : Hid (∀ c, Px.cntB c now later = if c = 108 then !later else if c = 110 then now else true) := fun _ => rfl
  cases h1 : (obt (pt l 5) 1 == 108)
  · have n1 : ¬ obt (pt l 5) 1 = 108 := by simpa using h1
    cases h2 : (obt (pt l 5) 1 == 110)
    · have n2 : ¬ obt (pt l 5) 1 = 110 := by simpa using h2
      have HV : Hid (Px.cntB (obt (pt l 5) 1) now later = true) := by unfold Hid; rw [HM.out, if_neg n1, if_neg n2]
      clear n1 n2 HM
      go_enter Tryd.func75, Tryd.ntmps75
      go_wp2_with fail
      go_ret
      exact ⟨ret_bool' HV.out.symm, below_alloc _ _⟩
    · have n2 : obt (pt l 5) 1 = 110 := by simpa using h2
      have HV : Hid (Px.cntB (obt (pt l 5) 1) now later = now) := by unfold Hid; rw [HM.out, if_neg n1, if_pos n2]
      clear n1 n2 HM
      go_enter Tryd.func75, Tryd.ntmps75
      go_wp2_with fail
      go_ret
      exact ⟨ret_bool' HV.out.symm, below_alloc _ _⟩
  · have n1 : obt (pt l 5) 1 = 108 := by simpa using h1
    have HV : Hid (Px.cntB (obt (pt l 5) 1) now later = !later) := by unfold Hid; rw [HM.out, if_pos n1]
    clear n1 HM
    go_enter Tryd.func75, Tryd.ntmps75
    go_wp2_with fail
    go_ret
    exact ⟨ret_bool' HV.out.symm, below_alloc _ _⟩

/-- An arrival's cells. -/
def arC (p : Nat × Int) : List Value := [.int .i64 ((p.1 : Int) + 1), .int .i64 p.2]
theorem arC_len (p : Nat × Int) : (arC p).length = 2 := rfl
theorem arC_one (p : Nat × Int) : ∀ u ∈ arC p, u.oneCell' = true := by intro u hu; simp [arC] at hu; rcases hu with rfl | rfl <;> rfl
theorem info_ar : (Tryd.prog.info? 118).map (fun i => (i.zero, i.size, i.bytes)) = some (some (.agg #[.int .i64 0, .int .i64 0]), 2, 16) := by kernel_rfl
/-- Which lines have been met, in a block of its own. -/
def MetAt (w : World) (M : Nat) (f : Nat → Bool) : Prop := w.heap[M]? = some (.cells #[.bool (f 0), .bool (f 1), .bool (f 2), .bool (f 3)] 135 (0, 0))
theorem MetAt.lt {w : World} {M : Nat} {f : Nat → Bool} (h : MetAt w M f) : M < w.heap.size := heap_lt h
theorem MetAt.cell {w : World} {M : Nat} {f : Nat → Bool} (h : MetAt w M f) (i : Nat) (hi : i < 4) : w.cell? ⟨M, i, none⟩ = some (.bool (f i)) ∧ w.frozen? ⟨M, i, none⟩ = false := by
  constructor
  · rw [cell_of_row _ _ i _ _ (0, 0) h]
    match i, hi with
    | 0, _ => rfl
    | 1, _ => rfl
    | 2, _ => rfl
    | 3, _ => rfl
  · unfold World.frozen?; rw [h]; simp
theorem MetAt.later {w w' : World} {M : Nat} {f : Nat → Bool} (h : MetAt w M f) (hb : Below w.heap.size w w') : MetAt w' M f := (hb.block M h.lt).trans h
theorem MetAt.grown {w w' : World} {M base size n : Nat} {f : Nat → Bool} {v : Value} {xs : List Value} (h : MetAt w M f) (ho : w.ownsRow base 118 size v n xs) (hg : w.grownBy w' v.ownBlock) : MetAt w' M f := by
  refine (hg.block M h.lt ?_).trans h
  intro e
  rcases ho.2 with ⟨rfl, _⟩ | ⟨g, cap, cur, rfl, _, hg', _⟩
  · cases e
  · have : M = g := by simpa [Value.ownBlock] using e
    subst this
    rw [h] at hg'; cases hg'
theorem MetAt.set {w : World} {M : Nat} {f : Nat → Bool} (h : MetAt w M f) (i : Nat) (hi : i < 4) (b : Bool) : MetAt (w.setCell ⟨M, i, none⟩ (.bool b)) M (fun j => if j = i then b else f j) := by
  unfold MetAt at h ⊢
  have : (w.setCell ⟨M, i, none⟩ (.bool b)).heap[M]? = some (.cells (#[.bool (f 0), .bool (f 1), .bool (f 2), .bool (f 3)].setIfInBounds i (.bool b)) 135 (0, 0)) := by
    simp [World.setCell, Array.getElem?_modify, h]
  rw [this]
  match i, hi with
  | 0, _ => rfl
  | 1, _ => rfl
  | 2, _ => rfl
  | 3, _ => rfl
theorem MetAt.new (w : World) : MetAt (w.alloc (.cells #[.bool false, .bool false, .bool false, .bool false] 135)) w.heap.size (fun _ => false) := by
  unfold MetAt; show (w.heap.push _)[w.heap.size]? = _; simp
end Go.Proofs.YtdajolpoiffimabDoor
