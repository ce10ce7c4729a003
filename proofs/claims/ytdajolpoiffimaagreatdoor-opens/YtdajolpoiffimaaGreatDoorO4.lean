/-
  RefComes, RefComes2, RefWith3, RefAbout, RefClock, RefFail, RefAbout2, SumRef, RefLog, RefFrames.
-/
import Derived.Deep.RegionLaw
import Derived.Deep.CutRange
import Derived.Deep.RegionHeld3
import Derived.WalkKit
import Derived.WalkSpells
import Derived.WalkLawsBesides
import Derived.Laws.BitsAllLaws
import Derived.Deep.RegionWith
import Derived.Deep.DrawnRows
import Derived.Laws.BytesArg
import Derived.Test.YtdajolpoiffimaaGreatDoorO1
import Derived.Test.YtdajolpoiffimaaGreatDoorO3

namespace Go.Proofs.YtdajolpoiffimaaGreatDoor
open Go.RowKit

/-- The lines of a crontab lie in a block. -/
def LinesAt (w : World) (b : Nat) (tab : ByteArray) : Prop := ∀ i, i < tn tab → w.cell? ⟨b, i, none⟩ = some (.string (tl tab i))
theorem LinesAt.later {w w' : World} {b : Nat} {tab : ByteArray} (h : LinesAt w b tab) (hb : Below w.heap.size w w') : LinesAt w' b tab := fun i hi => cell_later hb (h i hi)

set_option maxHeartbeats 1000000 in
theorem stlines_any (s : Bx.St) (sl en : Value) (w : World) (hT : ChkR s.tab 0 0) (hS : StAt w s sl en) :
 Calls Tryz.prog 170 #[stV s sl en] w fun e w' => (∃ b cap, e = .returned (.slice (some ⟨b, 0, none⟩) (tn s.tab) cap) ∧ LinesAt w' b s.tab) ∧ Below w.heap.size w w' := by
 obtain ⟨ad, cap, rfl, hcap⟩ := hS.sl.form
 obtain ⟨ad2, cap2, rfl, hcap2⟩ := hS.en.form
 clear hS
 obtain ⟨h300, hz, hl⟩ := hT.lines
 have HM : Hid (tm s.tab = tn s.tab) := by unfold Hid tm; rw [if_pos hz]; rfl
 clear hl hz hT
 go_enter Tryz.func170, Tryz.ntmps170
 go_wp2_with fail
 refine (lines_any _ _ h300).mono ?_
 rintro e w1 ⟨⟨b, cap3, rfl, hS⟩, hb⟩
 rw [HM.out]
 have HS : Hid (StrsAt w1 b (Txt.pcs 10 s.tab)) := hS
 clear hS
 go_wp2_with fail
 go_ret
 refine ⟨⟨b, cap3, rfl, fun i hi => ?_⟩, (below_alloc _ _).trans (hb.mono (by simp))⟩
 have := tn_lt s.tab
 rw [← tl_eq (by omega)]; exact HS.out i (by omega)

/-- The last of a row. -/
theorem RowAt.last {w : World} {g cap : Nat} {L : List Int} (hc : ∀ j (h : j < (L.map (Value.int .i64)).length), w.cell? ⟨g, 0 + j, none⟩ = some (L.map (Value.int .i64))[j]) (hl : 0 < L.length) (hcap : L.length ≤ cap) :
 RowAt w (.slice (some ⟨g, L.length - 1, none⟩) (L.length - (L.length - 1)) (cap - (L.length - 1))) (L.drop (L.length - 1)).length ((L.drop (L.length - 1)).map (Value.int .i64)) := by
 refine Or.inr ⟨g, L.length - 1, cap - (L.length - 1), ?_, ?_, fun j hj => ?_⟩
 ·rw [List.length_drop]
 ·rw [List.length_drop]; omega
 ·simp at hj
  have h2 : L.length - 1 + j < (L.map (Value.int .i64)).length := by simp; omega
  have := hc (L.length - 1 + j) h2
  rw [Nat.zero_add] at this
  rw [this]; simp

set_option maxHeartbeats 2000000 in
theorem counts_any (s : Bx.St) (sl en : Value) (l : ByteArray) (m : Int) (w : World) (hl : l.size ≤ 300) (hP : LineP l) (h0 : 0 ≤ Bx.newA s m) (h1 : Bx.newA s m ≤ m) (h2 : m ≤ 4223371679) (h3 : m - Bx.newA s m ≤ 1600) (c1 : -1 ≤ s.clock) (c2 : s.clock ≤ 4223371679) (hS : StAt w s sl en) :
 Calls Tryz.prog 171 #[stV s sl en, .string l, .int .i64 m] w fun e w' => (∃ v, e = .returned v ∧ TRow w' 3 v (Bx.cntL (lnOf l) (Bx.newA s m) m).length ((Bx.cntL (lnOf l) (Bx.newA s m) m).map (Value.int .i64))) ∧ Below w.heap.size w w' := by
 obtain ⟨ad, cap, rfl, hcap⟩ := hS.sl.form
 obtain ⟨ad2, cap2, rfl, hcap2⟩ := hS.en.form
 clear hS
 have HP : Hid (LineP l) := hP
 clear hP
 obtain ⟨a, ha⟩ : ∃ a : Int, a = Bx.newA s m := ⟨_, rfl⟩
 rw [← ha] at h0 h1 h3 ⊢
 obtain ⟨f, hf⟩ : ∃ f : Int, f = Bx.frm (lnOf l) a m := ⟨_, rfl⟩
 have hff : f = (if ob l 1 = 110 then m else a) := hf
 obtain ⟨D, hD⟩ : ∃ D : List Int, D = Bx.dl (dueT l) f (m + 1 - f).toNat := ⟨_, rfl⟩
 have HC : Hid (Bx.cntL (lnOf l) a m = if ob l 1 = 108 ∧ 1 < D.length then D.drop (D.length - 1) else D) := by
  rw [hD, hf]; rfl
 have hfr : a ≤ f ∧ f ≤ m := by rw [hff]; split <;> omega
 have HDl : D.length ≤ 1700 := by rw [hD]; have := Bx.dl_len (dueT l) f (m + 1 - f).toNat; omega
 have HD : Hid (∀ W : World, Calls Tryz.prog 200 #[.string l, .int .i64 f, .int .i64 m] W fun e w' => (∃ v, e = .returned v ∧ w'.ownsRow W.heap.size 3 1 v D.length (D.map (Value.int .i64))) ∧ Below W.heap.size W w') := by
  intro W; rw [hD]; exact dues_any l f m W hl HP.out (by omega) hfr.2 h2 (by omega)
 clear hD hf
 have hI := StIn.new w s (.slice ad s.slots.length cap) (.slice ad2 s.ends.length cap2)
 have hb0 := below_alloc w (stO s (.slice ad s.slots.length cap) (.slice ad2 s.ends.length cap2))
 have hq : w.heap.size ≤ (w.alloc (stO s (.slice ad s.slots.length cap) (.slice ad2 s.ends.length cap2))).heap.size := by simp
 go_enter Tryz.func171, Tryz.ntmps171
 have q0 : IntKind.i64.wrap (s.clock + 1) = s.clock + 1 := by rw [IntKind.wrap_i64]; omega
 have hA : a = (if s.clock = -1 then m else s.clock + 1) := ha
 clear ha
 cases e1 : (s.clock == -1)
 ·have n1 : ¬ s.clock = -1 := by simpa using e1
  rw [if_neg n1] at hA
  cases e2 : (ob l 1 == 110)
  ·have n2 : ¬ ob l 1 = 110 := by simpa using e2
   rw [if_neg n2, hA] at hff
   subst hff
   clear n1 n2 hA
   go_wp2_with fail
   refine (options_any l _ hl HP.out).mono ?_
   rintro e w1 ⟨rfl, hb1⟩
   go_wp2_with fail
   refine (HD.out _).mono ?_
   rintro e w2 ⟨⟨v, rfl, hown⟩, hb2⟩
   have HB : Hid (Below w.heap.size w w2) := (hb0.trans (hb1.mono hq)).trans (hb2.mono (Nat.le_trans hq hb1.size))
   obtain ⟨adv, capv, rfl, hcv⟩ := (RowAt.of_own hown).form
   clear hb0 hb1 hb2 hI HD
   cases e3 : (ob l 1 == 108)
   ·have n3 : ¬ ob l 1 = 108 := by simpa using e3
    rw [if_neg (fun h => n3 h.1)] at HC
    have HR : Hid (TRow w2 3 (.slice adv D.length capv) D.length (D.map (Value.int .i64))) := TRow.of_own hown
    clear n3 hown
    go_wp2_with fail
    go_ret
    rw [HC.out]
    exact ⟨⟨_, rfl, HR.out⟩, HB.out⟩
   ·have n3 : ob l 1 = 108 := by simpa using e3
    by_cases h4 : 1 < D.length
    ·rw [if_pos ⟨n3, h4⟩] at HC
     obtain ⟨g, off, cap3, hv, hcap3, hcells⟩ := (RowAt.of_own hown).some' (by omega)
     cases hv
     obtain ⟨g', cap4, hv', _⟩ := hown.form (by omega)
     cases hv'
     have HR : Hid (TRow w2 3 (.slice (some ⟨g, D.length - 1, none⟩) (D.length - (D.length - 1)) (capv - (D.length - 1))) (D.drop (D.length - 1)).length ((D.drop (D.length - 1)).map (Value.int .i64))) := ⟨RowAt.last hcells (by omega) hcap3, fun b' o' n' c' hv => by cases hv; exact (TRow.of_own hown).2 _ _ _ _ rfl⟩
     have q4 : (1 : Int) < (D.length : Int) := by omega
     have q5 : IntKind.i64.wrap ((D.length : Int) - 1) = ((D.length - 1 : Nat) : Int) := by rw [IntKind.wrap_i64]; omega
     clear n3 hown hcells
     go_wp2_with fail
     go_ret
     rw [HC.out]
     exact ⟨⟨_, rfl, HR.out⟩, HB.out⟩
    ·rw [if_neg (fun h => h4 h.2)] at HC
     have HR : Hid (TRow w2 3 (.slice adv D.length capv) D.length (D.map (Value.int .i64))) := TRow.of_own hown
     have q4 : ¬ (1 : Int) < (D.length : Int) := by omega
     clear n3 hown
     go_wp2_with fail
     go_ret
     rw [HC.out]
     exact ⟨⟨_, rfl, HR.out⟩, HB.out⟩
  ·have n2 : ob l 1 = 110 := by simpa using e2
   rw [if_pos n2] at hff
   subst hff
   clear n1 n2 hA
   go_wp2_with fail
   refine (options_any l _ hl HP.out).mono ?_
   rintro e w1 ⟨rfl, hb1⟩
   go_wp2_with fail
   refine (HD.out _).mono ?_
   rintro e w2 ⟨⟨v, rfl, hown⟩, hb2⟩
   have HB : Hid (Below w.heap.size w w2) := (hb0.trans (hb1.mono hq)).trans (hb2.mono (Nat.le_trans hq hb1.size))
   obtain ⟨adv, capv, rfl, hcv⟩ := (RowAt.of_own hown).form
   clear hb0 hb1 hb2 hI HD
   cases e3 : (ob l 1 == 108)
   ·have n3 : ¬ ob l 1 = 108 := by simpa using e3
    rw [if_neg (fun h => n3 h.1)] at HC
    have HR : Hid (TRow w2 3 (.slice adv D.length capv) D.length (D.map (Value.int .i64))) := TRow.of_own hown
    clear n3 hown
    go_wp2_with fail
    go_ret
    rw [HC.out]
    exact ⟨⟨_, rfl, HR.out⟩, HB.out⟩
   ·have n3 : ob l 1 = 108 := by simpa using e3
    by_cases h4 : 1 < D.length
    ·rw [if_pos ⟨n3, h4⟩] at HC
     obtain ⟨g, off, cap3, hv, hcap3, hcells⟩ := (RowAt.of_own hown).some' (by omega)
     cases hv
     obtain ⟨g', cap4, hv', _⟩ := hown.form (by omega)
     cases hv'
     have HR : Hid (TRow w2 3 (.slice (some ⟨g, D.length - 1, none⟩) (D.length - (D.length - 1)) (capv - (D.length - 1))) (D.drop (D.length - 1)).length ((D.drop (D.length - 1)).map (Value.int .i64))) := ⟨RowAt.last hcells (by omega) hcap3, fun b' o' n' c' hv => by cases hv; exact (TRow.of_own hown).2 _ _ _ _ rfl⟩
     have q4 : (1 : Int) < (D.length : Int) := by omega
     have q5 : IntKind.i64.wrap ((D.length : Int) - 1) = ((D.length - 1 : Nat) : Int) := by rw [IntKind.wrap_i64]; omega
     clear n3 hown hcells
     go_wp2_with fail
     go_ret
     rw [HC.out]
     exact ⟨⟨_, rfl, HR.out⟩, HB.out⟩
    ·rw [if_neg (fun h => h4 h.2)] at HC
     have HR : Hid (TRow w2 3 (.slice adv D.length capv) D.length (D.map (Value.int .i64))) := TRow.of_own hown
     have q4 : ¬ (1 : Int) < (D.length : Int) := by omega
     clear n3 hown
     go_wp2_with fail
     go_ret
     rw [HC.out]
     exact ⟨⟨_, rfl, HR.out⟩, HB.out⟩
 ·have n1 : s.clock = -1 := by simpa using e1
  rw [if_pos n1] at hA
  have hfm : f = m := by rw [hff]; split <;> omega
  subst hfm
  clear n1 hA hff
  cases e2 : (ob l 1 == 110)
  ·skip
   go_wp2_with fail
   refine (options_any l _ hl HP.out).mono ?_
   rintro e w1 ⟨rfl, hb1⟩
   go_wp2_with fail
   refine (HD.out _).mono ?_
   rintro e w2 ⟨⟨v, rfl, hown⟩, hb2⟩
   have HB : Hid (Below w.heap.size w w2) := (hb0.trans (hb1.mono hq)).trans (hb2.mono (Nat.le_trans hq hb1.size))
   obtain ⟨adv, capv, rfl, hcv⟩ := (RowAt.of_own hown).form
   clear hb0 hb1 hb2 hI HD
   cases e3 : (ob l 1 == 108)
   ·have n3 : ¬ ob l 1 = 108 := by simpa using e3
    rw [if_neg (fun h => n3 h.1)] at HC
    have HR : Hid (TRow w2 3 (.slice adv D.length capv) D.length (D.map (Value.int .i64))) := TRow.of_own hown
    clear n3 hown
    go_wp2_with fail
    go_ret
    rw [HC.out]
    exact ⟨⟨_, rfl, HR.out⟩, HB.out⟩
   ·have n3 : ob l 1 = 108 := by simpa using e3
    by_cases h4 : 1 < D.length
    ·rw [if_pos ⟨n3, h4⟩] at HC
     obtain ⟨g, off, cap3, hv, hcap3, hcells⟩ := (RowAt.of_own hown).some' (by omega)
     cases hv
     obtain ⟨g', cap4, hv', _⟩ := hown.form (by omega)
     cases hv'
     have HR : Hid (TRow w2 3 (.slice (some ⟨g, D.length - 1, none⟩) (D.length - (D.length - 1)) (capv - (D.length - 1))) (D.drop (D.length - 1)).length ((D.drop (D.length - 1)).map (Value.int .i64))) := ⟨RowAt.last hcells (by omega) hcap3, fun b' o' n' c' hv => by cases hv; exact (TRow.of_own hown).2 _ _ _ _ rfl⟩
     have q4 : (1 : Int) < (D.length : Int) := by omega
     have q5 : IntKind.i64.wrap ((D.length : Int) - 1) = ((D.length - 1 : Nat) : Int) := by rw [IntKind.wrap_i64]; omega
     clear n3 hown hcells
     go_wp2_with fail
     go_ret
     rw [HC.out]
     exact ⟨⟨_, rfl, HR.out⟩, HB.out⟩
    ·rw [if_neg (fun h => h4 h.2)] at HC
     have HR : Hid (TRow w2 3 (.slice adv D.length capv) D.length (D.map (Value.int .i64))) := TRow.of_own hown
     have q4 : ¬ (1 : Int) < (D.length : Int) := by omega
     clear n3 hown
     go_wp2_with fail
     go_ret
     rw [HC.out]
     exact ⟨⟨_, rfl, HR.out⟩, HB.out⟩
  ·skip
   go_wp2_with fail
   refine (options_any l _ hl HP.out).mono ?_
   rintro e w1 ⟨rfl, hb1⟩
   go_wp2_with fail
   refine (HD.out _).mono ?_
   rintro e w2 ⟨⟨v, rfl, hown⟩, hb2⟩
   have HB : Hid (Below w.heap.size w w2) := (hb0.trans (hb1.mono hq)).trans (hb2.mono (Nat.le_trans hq hb1.size))
   obtain ⟨adv, capv, rfl, hcv⟩ := (RowAt.of_own hown).form
   clear hb0 hb1 hb2 hI HD
   cases e3 : (ob l 1 == 108)
   ·have n3 : ¬ ob l 1 = 108 := by simpa using e3
    rw [if_neg (fun h => n3 h.1)] at HC
    have HR : Hid (TRow w2 3 (.slice adv D.length capv) D.length (D.map (Value.int .i64))) := TRow.of_own hown
    clear n3 hown
    go_wp2_with fail
    go_ret
    rw [HC.out]
    exact ⟨⟨_, rfl, HR.out⟩, HB.out⟩
   ·have n3 : ob l 1 = 108 := by simpa using e3
    by_cases h4 : 1 < D.length
    ·rw [if_pos ⟨n3, h4⟩] at HC
     obtain ⟨g, off, cap3, hv, hcap3, hcells⟩ := (RowAt.of_own hown).some' (by omega)
     cases hv
     obtain ⟨g', cap4, hv', _⟩ := hown.form (by omega)
     cases hv'
     have HR : Hid (TRow w2 3 (.slice (some ⟨g, D.length - 1, none⟩) (D.length - (D.length - 1)) (capv - (D.length - 1))) (D.drop (D.length - 1)).length ((D.drop (D.length - 1)).map (Value.int .i64))) := ⟨RowAt.last hcells (by omega) hcap3, fun b' o' n' c' hv => by cases hv; exact (TRow.of_own hown).2 _ _ _ _ rfl⟩
     have q4 : (1 : Int) < (D.length : Int) := by omega
     have q5 : IntKind.i64.wrap ((D.length : Int) - 1) = ((D.length - 1 : Nat) : Int) := by rw [IntKind.wrap_i64]; omega
     clear n3 hown hcells
     go_wp2_with fail
     go_ret
     rw [HC.out]
     exact ⟨⟨_, rfl, HR.out⟩, HB.out⟩
    ·rw [if_neg (fun h => h4 h.2)] at HC
     have HR : Hid (TRow w2 3 (.slice adv D.length capv) D.length (D.map (Value.int .i64))) := TRow.of_own hown
     have q4 : ¬ (1 : Int) < (D.length : Int) := by omega
     clear n3 hown
     go_wp2_with fail
     go_ret
     rw [HC.out]
     exact ⟨⟨_, rfl, HR.out⟩, HB.out⟩
end Go.Proofs.YtdajolpoiffimaaGreatDoor

namespace Go.Proofs.YtdajolpoiffimaaGreatDoor
open Go.RowKit

theorem infoInts : (Tryz.prog.info? 24).map (fun i => (i.zero, i.size, i.bytes)) = some (some (.slice none 0 0), 1, 24) := by kernel_rfl
abbrev nilV : Value := .slice none 0 0
/-- A cell of a row of one's own is written. -/
theorem own_set {w : World} {base g cap n i : Nat} {e : TypeId} {xs : List Value} (h : w.ownsRow base e 1 (.slice (some ⟨g, 0, none⟩) n cap) n xs) (_hi : i < n) (u : Value) : (w.setCell ⟨g, i, none⟩ u).ownsRow base e 1 (.slice (some ⟨g, 0, none⟩) n cap) n (xs.set i u) := by
 have hx := h.1
 rcases h.2 with ⟨h2, _⟩ | ⟨g', cap', cur, hv, hb, hg, hc, hm, hs, ht⟩
 ·cases h2
 ·cases hv
  refine ⟨by simpa using hx, Or.inr ⟨g, cap, cur.setIfInBounds i u, rfl, hb, heap_setCell_same _ _ _ _ _ _ hg, hc, hm, by simpa using hs, ?_⟩⟩
  rw [← ht, Array.toList_setIfInBounds, List.take_set]
/-- The lines' minutes lie in memory: a row of slices, and each one's cells. -/
structure EachOwn (w : World) (base : Nat) (ev : Value) (E : List (List Int)) : Prop where
 ex : ∃ cells : List Value, w.ownsRow base 24 1 ev E.length cells ∧ ∀ j, j < E.length → TRow w 3 (cells.getD j nilV) (E.getD j []).length ((E.getD j []).map (Value.int .i64))
theorem EachOwn.nil (w : World) (base : Nat) : EachOwn w base nilV [] := ⟨[], World.ownsRow_nil _ _ _ _, fun j h => by simp at h⟩
theorem EachOwn.later {w w' : World} {base : Nat} {ev : Value} {E : List (List Int)} (h : EachOwn w base ev E) (hb : Below w.heap.size w w') : EachOwn w' base ev E := by
 obtain ⟨cells, ho, hr⟩ := h.ex
 exact ⟨cells, own_below ho hb, fun j hj => (hr j hj).later hb⟩
theorem EachOwn.form {w : World} {base : Nat} {ev : Value} {E : List (List Int)} (h : EachOwn w base ev E) : ∃ ad cap, ev = .slice ad E.length cap ∧ E.length ≤ cap := by
 obtain ⟨cells, ho, _⟩ := h.ex
 exact (RowAt.of_own ho).form
/-- One line's cell: its slice, that slice's cells. -/
theorem EachOwn.at {w : World} {base : Nat} {ev : Value} {E : List (List Int)} (h : EachOwn w base ev E) (i : Nat) (hi : i < E.length) :
 ∃ g cap v, ev = .slice (some ⟨g, 0, none⟩) E.length cap ∧ base ≤ g ∧ g < w.heap.size ∧ w.cell? ⟨g, i, none⟩ = some v ∧ w.frozen? ⟨g, i, none⟩ = false ∧ RowAt w v (E.getD i []).length ((E.getD i []).map (Value.int .i64)) := by
 obtain ⟨cells, ho, hr⟩ := h.ex
 obtain ⟨g, cap, rfl, hb, hlt⟩ := ho.form (by omega)
 have hc := ho.cellAt i (by omega)
 have hl := ho.1
 have hi' : i < cells.length := by omega
 refine ⟨g, cap, cells.getD i nilV, rfl, hb, hlt, ?_, ?_, (hr i hi).1⟩
 ·rw [hc]; simp [hi']
 ·rcases ho.2 with ⟨h2, _⟩ | ⟨g', cap', cur, hv, _, hg, _⟩
  ·cases h2
  ·cases hv; simp [World.frozen?, hg]

/-- The cell's slice, written out, where there are minutes left. -/
theorem row_hd {w : World} {v : Value} {L : List Int} (h : RowAt w v L.length (L.map (Value.int .i64))) (hl : 0 < L.length) : ∃ b off cap, v = .slice (some ⟨b, off, none⟩) L.length cap ∧ L.length ≤ cap ∧ w.cell? ⟨b, off, none⟩ = some (.int .i64 (L.headD 0)) := by
 obtain ⟨b, off, cap, hv, hc, hcell⟩ := h.some' hl
 refine ⟨b, off, cap, hv, hc, ?_⟩
 have := hcell 0 (by simpa using hl)
 rw [Nat.add_zero] at this
 rw [this]
 cases L with
 | nil => simp at hl
 | cons t r => rfl
theorem EachOwn.lt {w : World} {base : Nat} {ev : Value} {E : List (List Int)} (h : EachOwn w base ev E) : ∀ g, ev.ownBlock = some g → g < w.heap.size := by
 intro g hg
 obtain ⟨cells, ho, _⟩ := h.ex
 rcases ho.2 with ⟨rfl, _⟩ | ⟨g', cap, cur, rfl, _, hh, _⟩
 ·cases hg
 ·have : g' = g := by simpa [Value.ownBlock] using hg
  subst this; exact heap_lt hh
/-- A line's minutes are put in the place of what was there. -/
theorem EachOwn.put {w : World} {base g cap i : Nat} {E : List (List Int)} {v' : Value} {r : List Int} (h : EachOwn w base (.slice (some ⟨g, 0, none⟩) E.length cap) E) (hi : i < E.length) (hv' : TRow w 3 v' r.length (r.map (Value.int .i64))) :
 EachOwn (w.setCell ⟨g, i, none⟩ v') base (.slice (some ⟨g, 0, none⟩) E.length cap) (E.set i r) := by
 obtain ⟨cells, ho, hr⟩ := h.ex
 have hcl : cells.length = E.length := by have := ho.1; omega
 have hg : ∃ cur fr, w.heap[g]? = some (.cells cur 24 fr) := by
  rcases ho.2 with ⟨h2, _⟩ | ⟨g', cap', cur, hv, _, hh, _⟩
  ·cases h2
  ·cases hv; exact ⟨_, _, hh⟩
 obtain ⟨cur, fr, hg⟩ := hg
 refine ⟨cells.set i v', ?_, fun j hj => ?_⟩
 ·have := own_set ho hi v'
  simpa using this
 ·have hj' : j < E.length := by simpa using hj
  rw [Bx.getD_set hi]
  by_cases hji : j = i
  ·subst hji
   rw [if_pos rfl]
   have e1 : (cells.set j v').getD j nilV = v' := by simp [List.getD_eq_getElem?_getD, hcl, hj']
   rw [e1]
   exact TRow.setCell (cur := cur) (fr := fr) hv' hg (by decide) _
  ·rw [if_neg hji]
   have e1 : (cells.set i v').getD j nilV = cells.getD j nilV := by
    simp only [List.getD_eq_getElem?_getD, List.getElem?_set_ne (Ne.symm hji)]
   rw [e1]
   exact TRow.setCell (cur := cur) (fr := fr) (hr j hj') hg (by decide) _
/-- The row that a line's cell tells of. -/
theorem EachOwn.tr {w : World} {base g cap i : Nat} {v : Value} {E : List (List Int)} (h : EachOwn w base (.slice (some ⟨g, 0, none⟩) E.length cap) E) (hi : i < E.length) (hc : w.cell? ⟨g, i, none⟩ = some v) : TRow w 3 v (E.getD i []).length ((E.getD i []).map (Value.int .i64)) := by
 obtain ⟨cells, ho, hr⟩ := h.ex
 have hcl : cells.length = E.length := by have := ho.1; omega
 have hcell := ho.cellAt i (by omega)
 have h2 : i < cells.length := by omega
 rw [hc, List.getElem?_eq_getElem h2] at hcell
 have hci : cells.getD i nilV = v := by
  rw [List.getD_eq_getElem?_getD, List.getElem?_eq_getElem h2]
  simpa using hcell.symm
 have := hr i hi
 rw [hci] at this; exact this
/-- A row but for its first: where room is left, and where none is. -/
theorem TRow.rest {w : World} {e : TypeId} {b off cp : Nat} {t : Int} {r : List Int} (h : TRow w e (.slice (some ⟨b, off, none⟩) (r.length + 1) cp) (t :: r).length ((t :: r).map (Value.int .i64))) : TRow w e (.slice (some ⟨b, off + 1, none⟩) r.length (cp - 1)) r.length (r.map (Value.int .i64)) := by
 obtain ⟨_, _, _, hv, hle, hcells⟩ := h.1.some' (by simp)
 cases hv
 refine ⟨Or.inr ⟨b, off + 1, cp - 1, rfl, by simp at hle; omega, fun k hk => ?_⟩, fun b' o' n' c' hv => by cases hv; exact h.2 _ _ _ _ rfl⟩
 have := hcells (k + 1) (by simpa using hk)
 rw [show off + 1 + k = off + (k + 1) by omega, this]; simp
theorem TRow.rest0 {w : World} {e : TypeId} {b off : Nat} {t : Int} {r : List Int} (h : TRow w e (.slice (some ⟨b, off, none⟩) (r.length + 1) 1) (t :: r).length ((t :: r).map (Value.int .i64))) : TRow w e (.slice (some ⟨b, off, none⟩) r.length 0) r.length (r.map (Value.int .i64)) := by
 obtain ⟨_, _, _, hv, hle, hcells⟩ := h.1.some' (by simp)
 cases hv
 have hr : r = [] := List.eq_nil_of_length_eq_zero (by rw [List.length_cons] at hle; omega)
 subst hr
 exact ⟨Or.inr ⟨b, off, 0, rfl, by simp, fun k hk => by simp at hk⟩, fun b' o' n' c' hv => by cases hv; exact h.2 _ _ _ _ rfl⟩
theorem own_grown {w w' : World} {e e' : TypeId} {v v' : Value} {n n' base base' size size' : Nat} {cells cells' : List Value} (h : w.ownsRow base e size v n cells) (ho : w.ownsRow base' e' size' v' n' cells') (hg : w.grownBy w' v'.ownBlock) (hne : e ≠ e') : w'.ownsRow base e size v n cells := by
 refine ⟨h.1, ?_⟩
 rcases h.2 with h2 | ⟨g, cap, cur, hv, hb, hh, h3⟩
 ·exact Or.inl h2
 ·refine Or.inr ⟨g, cap, cur, hv, hb, ?_, h3⟩
  rw [hg.block g (heap_lt hh)]; exact hh
  intro hgv
  rcases ho.2 with ⟨rfl, _⟩ | ⟨g', cap', cur', rfl, _, hg', _⟩
  ·cases hgv
  ·have : g = g' := by simpa [Value.ownBlock] using hgv
   subst this
   rw [hh] at hg'; cases hg'; exact hne rfl
theorem EachOwn.grown {w w' : World} {base base' size n' : Nat} {e' : TypeId} {ev v' : Value} {E : List (List Int)} {cells' : List Value} (h : EachOwn w base ev E) (ho : w.ownsRow base' e' size v' n' cells') (hg : w.grownBy w' v'.ownBlock) (h1 : 24 ≠ e') (h2 : 3 ≠ e') : EachOwn w' base ev E := by
 obtain ⟨cells, hc, hr⟩ := h.ex
 exact ⟨cells, own_grown hc ho hg h1, fun j hj => (hr j hj).grown ho hg h2⟩
def sliceLen : Value → Nat
 | .slice _ n _ => n
 | _ => 0
/-- All lines' minutes. -/
noncomputable def eachL (tab : ByteArray) (a m : Int) : List (List Int) := (Bx.lns tab).map fun l => Bx.cntL l a m
theorem eachL_len (tab : ByteArray) (a m : Int) : (eachL tab a m).length = tn tab := by simp [eachL, Bx.lns, Bx.linesOf_len]
theorem eachL_at (tab : ByteArray) (a m : Int) (k : Nat) (h : k < (eachL tab a m).length) : (eachL tab a m)[k] = Bx.cntL (lnOf (tl tab k)) a m := by
 have h2 : k < (Bx.linesOf tab).length := by rw [eachL_len] at h; rw [Bx.linesOf_len]; exact h
 simp [eachL, Bx.lns, Bx.linesOf_at tab k h2]
theorem cntL_len (l : Bx.Ln) (a m : Int) (ha : a ≤ m) : (Bx.cntL l a m).length ≤ (m + 1 - a).toNat := by
 have hf : a ≤ Bx.frm l a m ∧ Bx.frm l a m ≤ m := by unfold Bx.frm; split <;> omega
 have := Bx.dl_len l.due (Bx.frm l a m) (m + 1 - Bx.frm l a m).toNat
 unfold Bx.cntL Bx.dsL
 split
 ·simp; omega
 ·omega
theorem total_take (L : List (List Int)) (k : Nat) (h : k < L.length) : Bx.total (L.take (k + 1)) = Bx.total (L.take k) + L[k].length := by
 rw [List.take_succ_eq_append_getElem h, Bx.total, Bx.total, List.map_append, List.sum_append]; simp
/-- One line more. -/
theorem EachOwn.snoc {w w' : World} {base g cap : Nat} {ev c : Value} {E : List (List Int)} {x : List Int} {cells : List Value} (ho : w.ownsRow base 24 1 ev E.length cells) (hr : ∀ j, j < E.length → TRow w 3 (cells.getD j nilV) (E.getD j []).length ((E.getD j []).map (Value.int .i64)))
 (hc : TRow w 3 c x.length (x.map (Value.int .i64))) (hg : w.grownBy w' ev.ownBlock) (ho' : w'.ownsRow base 24 1 (.slice (some ⟨g, 0, none⟩) (E.length + 1) cap) (E.length + 1) (cells ++ [c])) : EachOwn w' base (.slice (some ⟨g, 0, none⟩) (E.length + 1) cap) (E ++ [x]) := by
 have hl : cells.length = E.length := by have := ho.1; omega
 refine ⟨cells ++ [c], by simpa using ho', fun j hj => ?_⟩
 by_cases hjl : j < E.length
 ·have e1 : (cells ++ [c]).getD j nilV = cells.getD j nilV := by simp only [List.getD_eq_getElem?_getD]; rw [List.getElem?_append_left (by omega)]
  have e2 : (E ++ [x]).getD j [] = E.getD j [] := by simp only [List.getD_eq_getElem?_getD]; rw [List.getElem?_append_left hjl]
  rw [e1, e2]; exact (hr j hjl).grown ho hg (by decide)
 ·obtain rfl : j = E.length := by simp at hj; omega
  have e1 : (cells ++ [c]).getD E.length nilV = c := by rw [← hl]; simp
  have e2 : (E ++ [x]).getD E.length [] = x := by simp
  rw [e1, e2]; exact hc.grown ho hg (by decide)

set_option maxRecDepth 10000 in
set_option maxHeartbeats 4000000 in
theorem comes_any (s : Bx.St) (sl en : Value) (m : Int) (w : World) (hT : ChkR s.tab 0 0) (c1 : -1 ≤ s.clock) (c2 : s.clock ≤ 4223371679) (hA : Bx.ahead s m = true) (hS : StAt w s sl en) :
 Calls Tryz.prog 137 #[stV s sl en, .int .i64 m] w fun e w' => (∃ v, e = .returned v ∧ w'.ownsRow w.heap.size 167 6 v (Bx.comesS s m).length ((Bx.comesS s m).flatMap fun p => slC (Bx.slotOf p 0))) ∧ Below w.heap.size w w' := by
 obtain ⟨i0, hi, hz0, hz1, hz2⟩ := info_parts infoSlot
 obtain ⟨j0, hj, hy0, hy1, hy2⟩ := info_parts infoInts
 obtain ⟨ad, cap, rfl, hcap⟩ := hS.sl.form
 obtain ⟨ad2, cap2, rfl, hcap2⟩ := hS.en.form
 have hA' : 0 ≤ m ∧ m ≤ 4223371679 ∧ s.clock < m ∧ (s.clock = -1 ∨ m - s.clock ≤ 1500) := of_decide_eq_true hA
 obtain ⟨m0, m1, cm, cj⟩ := hA'
 have ha : 0 ≤ Bx.newA s m ∧ Bx.newA s m ≤ m ∧ m - Bx.newA s m ≤ 1500 := by unfold Bx.newA; split <;> omega
 obtain ⟨a, hae⟩ : ∃ a : Int, a = Bx.newA s m := ⟨_, rfl⟩
 have HAE : Hid (a = Bx.newA s m) := hae
 rw [← hae] at ha
 clear hae cm cj hA
 obtain ⟨h300, _, hlines⟩ := hT.lines
 have HLn : Hid (∀ j : Nat, j < tn s.tab → LineP (tl s.tab j) ∧ (tl s.tab j).size ≤ 300) := fun j hj => ⟨hlines j hj, tl_sz h300 j (by have := tn_lt s.tab; omega)⟩
 clear hlines
 have hI := StIn.new w s (.slice ad s.slots.length cap) (.slice ad2 s.ends.length cap2)
 have hb0 := below_alloc w (stO s (.slice ad s.slots.length cap) (.slice ad2 s.ends.length cap2))
 have hq0 : w.heap.size < (w.alloc (stO s (.slice ad s.slots.length cap) (.slice ad2 s.ends.length cap2))).heap.size := by simp
 have HSt : Hid (StAt (w.alloc (stO s (.slice ad s.slots.length cap) (.slice ad2 s.ends.length cap2))) s (.slice ad s.slots.length cap) (.slice ad2 s.ends.length cap2)) := hS.later hb0
 clear hS
 go_enter Tryz.func137, Tryz.ntmps137
 go_wp2_with fail
 refine (stlines_any s _ _ _ hT HSt.out).mono ?_
 rintro e W ⟨⟨b, capl, rfl, hL⟩, hb1⟩
 have HL : Hid (LinesAt W b s.tab) := hL
 have HI : Hid (StIn W w.heap.size s (.slice ad s.slots.length cap) (.slice ad2 s.ends.length cap2)) := hI.later hb1
 have HS : Hid (StAt W s (.slice ad s.slots.length cap) (.slice ad2 s.ends.length cap2)) := HSt.out.later hb1
 have HB : Hid (Below w.heap.size w W) := hb0.trans (hb1.mono (by omega))
 have hqW : w.heap.size < W.heap.size := by have := hb1.size; omega
 have HEL : Hid ((eachL s.tab a m).length = tn s.tab) := eachL_len s.tab a m
 have HEk : Hid (∀ k (h : k < tn s.tab), (eachL s.tab a m).take (k + 1) = (eachL s.tab a m).take k ++ [Bx.cntL (lnOf (tl s.tab k)) a m]) := by
  intro k h
  have h2 : k < (eachL s.tab a m).length := by rw [eachL_len]; exact h
  rw [List.take_succ_eq_append_getElem h2, eachL_at s.tab a m k h2]
 have h4 : tn s.tab ≤ 4 := by
  rcases hT with ⟨_, _, h2⟩ | ⟨_, _, _, h2⟩ | ⟨_, _, _, _, _, _, _, h2⟩ | ⟨_, _, _, _, _, h2⟩ | ⟨_, x, _, _, _, _⟩
  ·omega
  ·omega
  ·omega
  ·omega
  ·omega
 clear hL hI hb0 hb1 HSt hq0
 go_wp2_with fail
 go_loopw [5, 7, 8] (fun ev nv iv wr => ∃ k : Nat, k ≤ tn s.tab ∧ iv = .int .i64 k ∧ nv = .int .i64 (Bx.total ((eachL s.tab a m).take k) : Nat) ∧ Bx.total ((eachL s.tab a m).take k) ≤ k * 1600 ∧ EachOwn wr W.heap.size ev ((eachL s.tab a m).take k) ∧ Below W.heap.size W wr) (fun _ _ iv _ => tn s.tab - (intOf iv).toNat)
 case atStart => exact ⟨0, Nat.zero_le _, rfl, by simp [Bx.total], by simp [Bx.total], by simpa using EachOwn.nil _ _, Below.refl _ _⟩
 case round =>
  obtain ⟨k, hk, rfl, rfl, htot, hE, hbr⟩ := hrel
  have hsz := hbr.size
  by_cases hlt : k < tn s.tab
  ·obtain ⟨cells, ho, hr⟩ := hE.ex
   have hTk := HEk.out k hlt
   have hlenk : ((eachL s.tab a m).take k).length = k := by rw [List.length_take, HEL.out]; omega
   obtain ⟨c0, c1', c2', c3, c4⟩ := HI.out.later hbr
   have cl : wr.cell? ⟨b, k, none⟩ = some (.string (tl s.tab k)) := cell_later hbr (HL.out k hlt)
   have HStr : Hid (StAt wr.drew s (.slice ad s.slots.length cap) (.slice ad2 s.ends.length cap2)) := (HS.out.later hbr).later (Below.refl _ _).drew
   have b1 : (0 : Int) ≤ (k : Int) := by omega
   have b2 : (k : Int) < (tn s.tab : Int) := by omega
   have HCt : Hid (∀ W' : World, StAt W' s (.slice ad s.slots.length cap) (.slice ad2 s.ends.length cap2) → Calls Tryz.prog 171 #[stV s (.slice ad s.slots.length cap) (.slice ad2 s.ends.length cap2), .string (tl s.tab k), .int .i64 m] W' fun e w' => (∃ v, e = .returned v ∧ TRow w' 3 v (Bx.cntL (lnOf (tl s.tab k)) a m).length ((Bx.cntL (lnOf (tl s.tab k)) a m).map (Value.int .i64))) ∧ Below W'.heap.size W' w') := by
    intro W' h
    rw [HAE.out] at ha ⊢
    exact counts_any s _ _ (tl s.tab k) m W' (HLn.out k hlt).2 (HLn.out k hlt).1 ha.1 ha.2.1 m1 (by omega) c1 c2 h
   have hcl : (Bx.cntL (lnOf (tl s.tab k)) a m).length ≤ 1600 := by have := cntL_len (lnOf (tl s.tab k)) a m ha.2.1; omega
   go_wp2_with fail
   go_region_with ((go_at_call 171; refine (HCt.out wr.drew HStr.out).mono ?_; rintro e w2 ⟨⟨v, rfl, hrow⟩, hb2⟩))
   all_goals
    have hb2' : Below wr.heap.size wr w2 := (Below.refl _ _).drew.trans hb2
    have ho2 := own_below ho hb2'
    have hr2 : Hid (∀ j, j < ((eachL s.tab a m).take k).length → TRow w2 3 (cells.getD j nilV) (((eachL s.tab a m).take k).getD j []).length ((((eachL s.tab a m).take k).getD j []).map (Value.int .i64))) := fun j hj => (hr j hj).later hb2'
    have hbw : Below W.heap.size W w2 := hbr.trans (hb2'.mono hbr.size)
    have hsz2 := hbw.size
    obtain ⟨adv, capv, rfl, hcv⟩ := hrow.1.form
    have hrow' : Hid (TRow w2 3 (.slice adv (Bx.cntL (lnOf (tl s.tab k)) a m).length capv) (Bx.cntL (lnOf (tl s.tab k)) a m).length ((Bx.cntL (lnOf (tl s.tab k)) a m).map (Value.int .i64))) := hrow
    clear ho hr hrow hb2 hb2' hbr hsz c0 c1' c2' c3 c4 cl HStr HCt hE
    have HT2 : Hid (Bx.total ((eachL s.tab a m).take (k + 1)) = Bx.total ((eachL s.tab a m).take k) + (Bx.cntL (lnOf (tl s.tab k)) a m).length) := by
     have h2 : k < (eachL s.tab a m).length := by rw [eachL_len]; exact hlt
     have h3 := total_take (eachL s.tab a m) k h2
     rw [eachL_at s.tab a m k h2] at h3; exact h3
    have HTk : Hid ((eachL s.tab a m).take (k + 1) = (eachL s.tab a m).take k ++ [Bx.cntL (lnOf (tl s.tab k)) a m]) := hTk
    have HLk : Hid (((eachL s.tab a m).take k).length = k) := hlenk
    rw [hlenk] at ho2
    clear hTk hlenk
    generalize Bx.cntL (lnOf (tl s.tab k)) a m = x at *
    generalize hEk : (eachL s.tab a m).take k = E at *
    clear hEk
    go_wp2_with (at_builtin; refine wpList_append_lies _ rfl (.tmp 29) (.tmp 31) 241 rfl W.heap.size 24 j0 (.slice none 0 0) 1 24 Tryz.underlying241 hj hy0 hy1 hy2 rfl (by decide) _ _ _ rfl (ho2.alloc _) ⟨w2.heap.size, 0, none⟩ 1 1 [.slice adv x.length capv] rfl rfl ?c1 ?c2 (by decide) ?c3 ?c4 ?c5 _ rfl ?_)
    case c1 => exact cell_one_new _ _ _
    case c2 => intro u hu; simp at hu; subst hu; rfl
    case c3 => unfold maxLen; omega
    case c4 => omega
    case c5 => simp; omega
    ·intro g cap1 w4 hown' hgrow _ hlt'
     have B4 : Hid (Below W.heap.size W w4) := (hbw.alloc hsz2 _).grown hgrow (by simp; omega) (fun k' e => (ho2.lt k' e).1)
     have E4 : Hid (EachOwn w4 W.heap.size (.slice (some ⟨g, 0, none⟩) (k + 1) cap1) (E ++ [x])) := by
      unfold Hid
      rw [← HLk.out] at hown' ho2 ⊢
      exact EachOwn.snoc (ho2.alloc _) (fun j hj => (hr2.out j hj).later (below_alloc _ _)) (hrow'.out.later (below_alloc _ _)) hgrow hown'
     clear hown' hgrow ho2 hbw
     go_wp2_with fail
     go_roundw
     case rel => exact ⟨k + 1, by omega, by go_num, by rw [HT2.out]; push_cast; rfl, by rw [HT2.out]; omega, by rw [HTk.out]; exact E4.out, B4.out⟩
     case measure => simp [intOf]; omega
  ·have hkk : k = tn s.tab := by omega
   have htk : (eachL s.tab a m).take k = eachL s.tab a m := List.take_of_length_le (by rw [HEL.out]; omega)
   rw [htk] at htot hE ⊢
   have HG : Hid (∀ E out, Bx.Mg (eachL s.tab a m) E out → out.length = Bx.total (eachL s.tab a m) → out = Bx.comesS s m) := by
    intro E out M h
    have := Bx.Mg.comes (ls := Bx.lns s.tab) ha.2.1 M h
    rw [this, HAE.out]; rfl
   have HM0 : Hid (Bx.Mg (eachL s.tab a m) (eachL s.tab a m) []) := Bx.Mg.start (Bx.each_asc ha.2.1)
   have hlenE := HEL.out
   clear htk HEk
   obtain ⟨T, hTT⟩ : ∃ T : Nat, T = Bx.total (eachL s.tab a m) := ⟨_, rfl⟩
   rw [← hTT] at htot HG ⊢
   have HTT : Hid (T = Bx.total (eachL s.tab a m)) := hTT
   clear hTT
   generalize eachL s.tab a m = E0 at *
   rename World => W2
   have HE0 : Hid (EachOwn W2 W.heap.size _ E0) := hE
   obtain ⟨ade, cape, rfl, hcape⟩ := hE.form
   have hEb := hE.lt
   have HBr : Hid (Below w.heap.size w W2) := HB.out.trans (hbr.mono (by omega))
   have hT4 : T ≤ 8000 := by omega
   clear hE hlt hbr HS HI HL HLn HB hk
   go_wp2_with fail
   go_loopw [10] (fun ov wr => ∃ E out, Bx.Mg E0 E out ∧ EachOwn wr W.heap.size (.slice ade E0.length cape) E ∧ wr.ownsRow W2.heap.size 167 6 ov out.length (out.flatMap fun p => slC (Bx.slotOf p 0)) ∧ Below w.heap.size w wr ∧ W2.heap.size ≤ wr.heap.size) (fun ov _ => T - sliceLen ov)
   case atStart => exact ⟨E0, [], HM0.out, HE0.out, World.ownsRow_nil _ _ _ _, HBr.out, Nat.le_refl _⟩
   case round =>
    obtain ⟨E, out, M, hE, hown, hb2, hsz2⟩ := hrel
    obtain ⟨ado, capo, rfl, hco⟩ := (RowAt.of_own hown).form
    have hle : out.length ≤ T := by have := M.tot; rw [HTT.out]; omega
    by_cases hlt : out.length < T
    ·obtain ⟨bb, t, r, hbl, hbest, hEb', hhd⟩ := M.more (by rw [← HTT.out]; exact hlt)
     have hEl := M.len
     have q1 : (out.length : Int) < (T : Int) := by omega
     obtain ⟨g, cap', v0, hev, hge, hglt, -⟩ := hE.at bb hbl
     injection hev with h1 h2 h3
     subst h1
     subst h3
     rw [← hEl] at hE hlenE
     have HE : Hid (EachOwn wr W.heap.size (.slice (some ⟨g, 0, none⟩) E.length cape) E) := hE
     have HO : Hid (wr.ownsRow W2.heap.size 167 6 (.slice ado out.length capo) out.length (out.flatMap fun p => slC (Bx.slotOf p 0))) := hown
     have HM : Hid (Bx.Mg E0 E out) := M
     have HBest : Hid (Bx.bestK E E.length = bb) := hbest
     have HEb : Hid (E[bb] = t :: r) := hEb'
     have hE4 : E.length ≤ 4 := by omega
     rw [← hEl]
     have Hhd : Hid (Bx.hd E bb = t) := hhd
     rename World => W3
     have hgW : g < W2.heap.size := hEb g rfl
     clear hE hown M hbest hEb' h2 hEl hhd hlenE hkk hEb
     go_wp2_with fail
     go_loopw [11, 12] (fun bv iv wr => ∃ k j : Nat, k ≤ E.length ∧ iv = .int .i64 k ∧ bv = .int .i64 (Bx.bestK E k) ∧ wr = W3.drewN j) (fun _ iv _ => E.length - (intOf iv).toNat)
     case atStart => exact ⟨0, 0, Nat.zero_le _, rfl, rfl, rfl⟩
     case round =>
      obtain ⟨k, j, hk, rfl, rfl, rfl⟩ := hrel
      by_cases hkl : k < E.length
      ·obtain ⟨g', cap'', vk, hev, _, _, hck, _, hrk⟩ := HE.out.at k hkl
       cases hev
       have b1 : (0 : Int) ≤ (k : Int) := by omega
       have b2 : (k : Int) < (E.length : Int) := by omega
       have hB := Bx.best_ok E k
       obtain ⟨hBlo, hBhi⟩ : -1 ≤ Bx.bestK E k ∧ Bx.bestK E k < k := ⟨hB.lo, hB.hi⟩
       have HBs : Hid (Bx.bestK E (k + 1) = if 0 < Bx.many E k ∧ (Bx.bestK E k < 0 ∨ Bx.hd E k < Bx.hd E (Bx.bestK E k).toNat) then (k : Int) else Bx.bestK E k) := rfl
       have hBhas : 0 ≤ Bx.bestK E k → 0 < Bx.many E (Bx.bestK E k).toNat := fun h => (hB.has h).1
       clear hB
       generalize Bx.bestK E k = B at *
       rcases Nat.eq_zero_or_pos (Bx.many E k) with hz | hp
       ·have HN : Hid (Bx.bestK E (k + 1) = B) := by unfold Hid; rw [HBs.out, if_neg (by omega)]
        have hz' : (E.getD k []).length = 0 := hz
        rw [hz'] at hrk
        obtain ⟨adk, capk, rfl, _⟩ := hrk.form
        clear hrk hBhas hz hz' HBs
        go_wp2_with fail
        go_quiet (fail)
        go_wp2_with fail
        go_roundw
        case rel => exact ⟨k + 1, _, by omega, by go_num, by rw [HN.out], rfl⟩
        case measure => simp [intOf]; omega
       ·obtain ⟨bk, offk, capk, rfl, hck2, hhk⟩ := row_hd hrk hp
        have hhk' : W3.cell? ⟨bk, offk, none⟩ = some (.int .i64 (Bx.hd E k)) := hhk
        have hp' : 0 < (E.getD k []).length := hp
        clear hhk hrk
        by_cases hB0 : B < 0
        ·have HN : Hid (Bx.bestK E (k + 1) = (k : Int)) := by unfold Hid; rw [HBs.out, if_pos ⟨hp, Or.inl hB0⟩]
         have z1 : (0 : Int) < ((E.getD k []).length : Int) := by omega
         generalize (E.getD k []).length = nk at *
         clear hBhas HBs hhk' hp
         go_wp2_with fail
         go_quiet (fail)
         go_wp2_with fail
         go_roundw
         case rel => exact ⟨k + 1, _, by omega, by go_num, by rw [HN.out], rfl⟩
         case measure => simp [intOf]; omega
        ·obtain ⟨Bn, rfl⟩ := Int.eq_ofNat_of_zero_le (show 0 ≤ B by omega)
         have hpB := hBhas (by omega)
         simp only [Int.toNat_natCast] at hpB HBs
         obtain ⟨g3, cap3, vB, hev, _, _, hcB, _, hrB⟩ := HE.out.at Bn (by omega)
         cases hev
         obtain ⟨bB, offB, capB, rfl, hcB2, hhB⟩ := row_hd hrB hpB
         have hhB' : W3.cell? ⟨bB, offB, none⟩ = some (.int .i64 (Bx.hd E Bn)) := hhB
         have z1 : (0 : Int) < ((E.getD k []).length : Int) := by omega
         have hpB' : 0 < (E.getD Bn []).length := hpB
         have z2 : (0 : Int) < ((E.getD Bn []).length : Int) := by omega
         have z3 : (Bn : Int) < (E.length : Int) := by omega
         have z4 : ¬ (Bn : Int) < 0 := by omega
         clear hhB hrB hBhas hpB
         by_cases hcmp : Bx.hd E k < Bx.hd E Bn
         ·have HN : Hid (Bx.bestK E (k + 1) = (k : Int)) := by unfold Hid; rw [HBs.out, if_pos ⟨hp, Or.inr hcmp⟩]
          have z5 : decide (Bx.hd E k < Bx.hd E Bn) = true := decide_eq_true hcmp
          clear HBs hp
          generalize (E.getD k []).length = nk at *
          generalize (E.getD Bn []).length = nB at *
          generalize Bx.hd E k = x at *
          generalize Bx.hd E Bn = y at *
          go_wp2_with fail
          go_quiet (fail)
          go_wp2_with fail
          go_roundw
          case rel => exact ⟨k + 1, _, by omega, by go_num, by rw [HN.out], rfl⟩
          case measure => simp [intOf]; omega
         ·have HN : Hid (Bx.bestK E (k + 1) = (Bn : Int)) := by
           unfold Hid; rw [HBs.out, if_neg (fun h => by rcases h.2 with h | h <;> omega)]
          have z5 : decide (Bx.hd E k < Bx.hd E Bn) = false := decide_eq_false hcmp
          clear HBs hp hcmp
          generalize (E.getD k []).length = nk at *
          generalize (E.getD Bn []).length = nB at *
          generalize Bx.hd E k = x at *
          generalize Bx.hd E Bn = y at *
          go_wp2_with fail
          go_quiet (fail)
          go_wp2_with fail
          go_roundw
          case rel => exact ⟨k + 1, _, by omega, by go_num, by rw [HN.out], rfl⟩
          case measure => simp [intOf]; omega
      ·obtain rfl : k = E.length := by omega
       rw [HBest.out]
       obtain ⟨g3, cap3, vB, hev, _, _, hcB, hfB, hrB⟩ := HE.out.at bb hbl
       cases hev
       have hgD : E.getD bb [] = t :: r := by rw [List.getD_eq_getElem?_getD, List.getElem?_eq_getElem hbl, HEb.out]; rfl
       rw [hgD] at hrB
       obtain ⟨bB, offB, capB, rfl, hcB2, hhB⟩ := row_hd hrB (by simp)
       have hhB' : W3.cell? ⟨bB, offB, none⟩ = some (.int .i64 t) := hhB
       have MN : Hid (Bx.Mg E0 (E.set bb r) (out ++ [(bb, t)])) := HM.out.next hbl HEb.out (by have := Bx.best_ok E E.length; rw [HBest.out] at this; exact this)
       have z1 : (0 : Int) < ((r.length + 1 : Nat) : Int) := by omega
       have z3 : (bb : Int) < (E.length : Int) := by omega
       have z4 : (0 : Int) ≤ (bb : Int) := by omega
       have hTr := HE.out.tr hbl hcB
       rw [hgD] at hTr
       simp only [List.length_cons] at hcB hcB2 hTr
       clear hrB hhB hgD
       by_cases hcap1 : capB = 1
       ·subst hcap1
        have hr0 : r = [] := List.eq_nil_of_length_eq_zero (by omega)
        subst hr0
        have EN : Hid (EachOwn ((W3.drewN j).setCell ⟨g, bb, none⟩ (.slice (some ⟨bB, offB, none⟩) 0 0)) W.heap.size (.slice (some ⟨g, 0, none⟩) E.length cape) (E.set bb [])) := (HE.out.later (below_drewN (Below.refl _ _) j)).put (r := []) hbl ((TRow.rest0 hTr).later (below_drewN (Below.refl _ _) j))
        simp only [List.length_nil, Nat.zero_add] at hcB hcB2 z1
        clear hTr
        have HOw : Hid (((W3.drewN j).setCell ⟨g, bb, none⟩ (.slice (some ⟨bB, offB, none⟩) 0 0)).ownsRow W2.heap.size 167 6 (.slice ado out.length capo) out.length (out.flatMap fun p => slC (Bx.slotOf p 0))) := ownsRow_setCell_below (ownsRow_drewN HO.out j) hgW _
        have hownX := HOw.out
        have hbX : Below w.heap.size w ((W3.drewN j).setCell ⟨g, bb, none⟩ (.slice (some ⟨bB, offB, none⟩) 0 0)) := (below_drewN hb2 j).setCell (by show w.heap.size ≤ g; omega) _
        have hszX : ((W3.drewN j).setCell ⟨g, bb, none⟩ (.slice (some ⟨bB, offB, none⟩) 0 0)).heap.size = W3.heap.size := by simp
        go_wp2_with (at_builtin; refine wpList_append_lies _ rfl (.tmp 87) (.tmp 93) 102 rfl W2.heap.size 167 i0 (.agg #[.int .i64 0, .int .i64 0, .int .i64 0, .int .i64 0, .int .i64 0, .bool false]) 6 48 Tryz.underlying102 hi hz0 hz1 hz2 rfl (by decide) _ _ _ rfl (hownX.alloc _) ⟨W3.heap.size, 0, none⟩ 1 1 (slC (Bx.slotOf (bb, t) 0)) rfl rfl ?c1 (slC_one _) (by decide) ?c3 ?c4 ?c5 _ rfl ?_)
        case c1 => have hn := slC_new ((W3.drewN j).setCell ⟨g, bb, none⟩ (.slice (some ⟨bB, offB, none⟩) 0 0)) (Bx.slotOf (bb, t) 0) 167; rw [hszX] at hn; exact hn
        case c3 => unfold maxLen; omega
        case c4 => omega
        case c5 => simp; omega
        ·intro g4 cap4 w4 hown' hgrow _ hlt'
         have B4 : Hid (Below w.heap.size w w4) := (hbX.alloc (by rw [hszX]; omega) _).grown hgrow (by simp; omega) (fun k' e => Nat.le_trans HBr.out.size (hownX.lt k' e).1)
         have E4 : Hid (EachOwn w4 W.heap.size (.slice (some ⟨g, 0, none⟩) E.length cape) (E.set bb [])) := (EN.out.later (below_alloc _ _)).grown (hownX.alloc _) hgrow (by decide) (by decide)
         have O4 : Hid (w4.ownsRow W2.heap.size 167 6 (.slice (some ⟨g4, 0, none⟩) (out.length + 1) cap4) (out ++ [(bb, t)]).length ((out ++ [(bb, t)]).flatMap fun p => slC (Bx.slotOf p 0))) := by unfold Hid; simpa using hown'
         have S4 : Hid (W2.heap.size ≤ w4.heap.size) := by have := hgrow.size; simp at this; unfold Hid; omega
         clear hown' hgrow hownX hbX hszX
         go_wp2_with fail
         go_roundw
         case rel => exact ⟨_, _, MN.out, E4.out, O4.out, B4.out, S4.out⟩
         case measure => simp [sliceLen]; omega
       ·have z5 : 1 < capB := by omega
        have EN : Hid (EachOwn ((W3.drewN j).setCell ⟨g, bb, none⟩ (.slice (some ⟨bB, offB + 1, none⟩) r.length (capB - 1))) W.heap.size (.slice (some ⟨g, 0, none⟩) E.length cape) (E.set bb r)) := (HE.out.later (below_drewN (Below.refl _ _) j)).put hbl ((TRow.rest hTr).later (below_drewN (Below.refl _ _) j))
        clear hTr
        have HOw : Hid (((W3.drewN j).setCell ⟨g, bb, none⟩ (.slice (some ⟨bB, offB + 1, none⟩) r.length (capB - 1))).ownsRow W2.heap.size 167 6 (.slice ado out.length capo) out.length (out.flatMap fun p => slC (Bx.slotOf p 0))) := ownsRow_setCell_below (ownsRow_drewN HO.out j) hgW _
        have hownX := HOw.out
        have hbX : Below w.heap.size w ((W3.drewN j).setCell ⟨g, bb, none⟩ (.slice (some ⟨bB, offB + 1, none⟩) r.length (capB - 1))) := (below_drewN hb2 j).setCell (by show w.heap.size ≤ g; omega) _
        have hszX : ((W3.drewN j).setCell ⟨g, bb, none⟩ (.slice (some ⟨bB, offB + 1, none⟩) r.length (capB - 1))).heap.size = W3.heap.size := by simp
        go_wp2_with (at_builtin; refine wpList_append_lies _ rfl (.tmp 87) (.tmp 93) 102 rfl W2.heap.size 167 i0 (.agg #[.int .i64 0, .int .i64 0, .int .i64 0, .int .i64 0, .int .i64 0, .bool false]) 6 48 Tryz.underlying102 hi hz0 hz1 hz2 rfl (by decide) _ _ _ rfl (hownX.alloc _) ⟨W3.heap.size, 0, none⟩ 1 1 (slC (Bx.slotOf (bb, t) 0)) rfl rfl ?c1 (slC_one _) (by decide) ?c3 ?c4 ?c5 _ rfl ?_)
        case c1 => have hn := slC_new ((W3.drewN j).setCell ⟨g, bb, none⟩ (.slice (some ⟨bB, offB + 1, none⟩) r.length (capB - 1))) (Bx.slotOf (bb, t) 0) 167; rw [hszX] at hn; exact hn
        case c3 => unfold maxLen; omega
        case c4 => omega
        case c5 => simp; omega
        ·intro g4 cap4 w4 hown' hgrow _ hlt'
         have B4 : Hid (Below w.heap.size w w4) := (hbX.alloc (by rw [hszX]; omega) _).grown hgrow (by simp; omega) (fun k' e => Nat.le_trans HBr.out.size (hownX.lt k' e).1)
         have E4 : Hid (EachOwn w4 W.heap.size (.slice (some ⟨g, 0, none⟩) E.length cape) (E.set bb r)) := (EN.out.later (below_alloc _ _)).grown (hownX.alloc _) hgrow (by decide) (by decide)
         have O4 : Hid (w4.ownsRow W2.heap.size 167 6 (.slice (some ⟨g4, 0, none⟩) (out.length + 1) cap4) (out ++ [(bb, t)]).length ((out ++ [(bb, t)]).flatMap fun p => slC (Bx.slotOf p 0))) := by unfold Hid; simpa using hown'
         have S4 : Hid (W2.heap.size ≤ w4.heap.size) := by have := hgrow.size; simp at this; unfold Hid; omega
         clear hown' hgrow hownX hbX hszX
         go_wp2_with fail
         go_roundw
         case rel => exact ⟨_, _, MN.out, E4.out, O4.out, B4.out, S4.out⟩
         case measure => simp [sliceLen]; omega
    ·have e1 : out.length = T := by omega
     have e2 : Hid (out = Bx.comesS s m) := HG.out E out M e1
     have q1 : ¬ (out.length : Int) < (T : Int) := by omega
     have HO : Hid (wr.ownsRow W2.heap.size 167 6 (.slice ado out.length capo) out.length (out.flatMap fun p => slC (Bx.slotOf p 0))) := hown
     clear hown e1
     go_wp2_with fail
     go_ret
     exact ⟨⟨_, rfl, by rw [← e2.out]; exact own_low HO.out (by have := HBr.out.size; exact this)⟩, hb2⟩
end Go.Proofs.YtdajolpoiffimaaGreatDoor

namespace Go.Proofs.YtdajolpoiffimaaGreatDoor
open Go.RowKit

theorem with_any (s : Bx.St) (L : List Bx.Sl) (lv : Value) (n : Int) (how : ByteArray) (sl en : Value) (w : World) (hE : s.ends.length ≤ 10000) (hL : TRow w 167 lv L.length (L.flatMap slC)) (hS : StAt w s sl en) :
 Calls Tryz.prog 184 #[stV s sl en, lv, .int .i64 n, .string how] w fun e w' => (∃ en', e = .returned (stV (Bx.with' s L n how) lv en') ∧ StAt w' (Bx.with' s L n how) lv en') ∧ Below w.heap.size w w' := by
 obtain ⟨ad, cap, hlv, _⟩ := hL.form
 by_cases hn : 0 < n
 ·refine (with_yes s lv L.length n how sl en w hn ad cap hlv hE hS).mono ?_
  rintro e w1 ⟨⟨en', rfl, hR⟩, hb⟩
  refine ⟨⟨en', rfl, ⟨hL.later hb, ?_⟩⟩, hb⟩
  show TRow w1 95 en' (if 0 < n then Bx.push s.ends ⟨n, how⟩ else s.ends).length ((if 0 < n then Bx.push s.ends ⟨n, how⟩ else s.ends).flatMap enC)
  rw [if_pos hn]; exact hR
 ·refine (with_no s lv L.length n how sl en w (by omega) ad cap hlv hS).mono ?_
  rintro e w1 ⟨rfl, hb⟩
  refine ⟨⟨en, rfl, ⟨hL.later hb, ?_⟩⟩, hb⟩
  show TRow w1 95 en (if 0 < n then Bx.push s.ends ⟨n, how⟩ else s.ends).length ((if 0 < n then Bx.push s.ends ⟨n, how⟩ else s.ends).flatMap enC)
  rw [if_neg hn]; exact hS.en.later hb
/-- A state in a block of its own, that may be written. -/
structure StW (W : World) (q : Nat) (s : Bx.St) (sl en : Value) : Prop where
 st : StIn W q s sl en
 f : ∀ j : Nat, j < 5 → W.frozen? ⟨q, j, none⟩ = false
 ty : Typed W q 104
theorem StW.new (w : World) (s : Bx.St) (sl en : Value) : StW (w.alloc (stO s sl en)) w.heap.size s sl en :=
 ⟨StIn.new w s sl en, fun j _ => by simp [go_sem], Typed.new _ _ _⟩
theorem StW.below {W W' : World} {q n : Nat} {s : Bx.St} {sl en : Value} (h : StW W q s sl en) (hq : q < n) (hb : Below n W W') : StW W' q s sl en := by
 obtain ⟨⟨c0, c1, c2, c3, c4⟩, f, ty⟩ := h
 exact ⟨⟨(hb.cell (p := ⟨q, 0, none⟩) hq).trans c0, (hb.cell (p := ⟨q, 1, none⟩) hq).trans c1, (hb.cell (p := ⟨q, 2, none⟩) hq).trans c2, (hb.cell (p := ⟨q, 3, none⟩) hq).trans c3, (hb.cell (p := ⟨q, 4, none⟩) hq).trans c4⟩,
  fun j hj => (hb.frozen (p := ⟨q, j, none⟩) hq).trans (f j hj), ty.below hq hb⟩
theorem StW.later {W W' : World} {q : Nat} {s : Bx.St} {sl en : Value} (h : StW W q s sl en) (hb : Below W.heap.size W W') : StW W' q s sl en := h.below h.ty.lt hb
/-- A whole state is stored. -/
theorem StW.store {W : World} {q : Nat} {s : Bx.St} {sl en : Value} (h : StW W q s sl en) (t : Bx.St) (sl' en' : Value) :
 StW (((((W.setCell ⟨q, 0, none⟩ (.string t.tab)).setCell ⟨q, 1, none⟩ (.int .i64 t.clock)).setCell ⟨q, 2, none⟩ (.int .i64 t.next)).setCell ⟨q, 3, none⟩ sl').setCell ⟨q, 4, none⟩ en') q t sl' en' := by
 obtain ⟨⟨c0, c1, c2, c3, c4⟩, f, ty⟩ := h
 have f0 := f 0 (by decide); have f1 := f 1 (by decide); have f2 := f 2 (by decide); have f3 := f 3 (by decide); have f4 := f 4 (by decide)
 refine ⟨⟨?_, ?_, ?_, ?_, ?_⟩, fun j hj => ?_, ((((ty.setCell _ _ _).setCell _ _ _).setCell _ _ _).setCell _ _ _).setCell _ _ _⟩
 case refine_6 =>
  have : j = 0 ∨ j = 1 ∨ j = 2 ∨ j = 3 ∨ j = 4 := by omega
  rcases this with rfl | rfl | rfl | rfl | rfl <;> simp [go_sem, f0, f1, f2, f3, f4]
 all_goals simp [go_sem, c0, c1, c2, c3, c4]
theorem StAt.store {W : World} {q : Nat} {s : Bx.St} {sl en : Value} (h : StAt W s sl en) (ty : Typed W q 104) (u0 u1 u2 u3 u4 : Value) :
 StAt (((((W.setCell ⟨q, 0, none⟩ u0).setCell ⟨q, 1, none⟩ u1).setCell ⟨q, 2, none⟩ u2).setCell ⟨q, 3, none⟩ u3).setCell ⟨q, 4, none⟩ u4) s sl en :=
 ((((h.set ty (by decide) (by decide) _ _).set (ty.setCell _ _ _) (by decide) (by decide) _ _).set ((ty.setCell _ _ _).setCell _ _ _) (by decide) (by decide) _ _).set (((ty.setCell _ _ _).setCell _ _ _).setCell _ _ _) (by decide) (by decide) _ _).set ((((ty.setCell _ _ _).setCell _ _ _).setCell _ _ _).setCell _ _ _) (by decide) (by decide) _ _
end Go.Proofs.YtdajolpoiffimaaGreatDoor

namespace Go.Proofs.YtdajolpoiffimaaGreatDoor
open Go.RowKit

theorem tn_le' {tab : ByteArray} (hT : ChkR tab 0 0) : tn tab ≤ 4 := by
 rcases hT with ⟨_, _, h2⟩ | ⟨_, _, _, h2⟩ | ⟨_, _, _, _, _, _, _, h2⟩ | ⟨_, _, _, _, _, h2⟩ | ⟨_, x, _, _, _, _⟩ <;> omega
set_option maxHeartbeats 400000 in
theorem rdelay_any (k : Int) (w : World) :
 Calls Tryz.prog 206 #[.int .i64 k] w fun e w' => e = .returned (.int .i64 (Bx.delay k)) ∧ w' = w := by
 have HD : Hid (Bx.delay k = if k = 1 then 2 else if k = 2 then 4 else if k = 3 then 8 else 10) := rfl
 cases e1 : (k == 1)
 ·have n1 : ¬ k = 1 := by simpa using e1
  rw [if_neg n1] at HD
  cases e2 : (k == 2)
  ·have n2 : ¬ k = 2 := by simpa using e2
   rw [if_neg n2] at HD
   cases e3 : (k == 3)
   ·have n3 : ¬ k = 3 := by simpa using e3
    rw [if_neg n3] at HD
    clear n1 n2 n3
    go_enter Tryz.func206, Tryz.ntmps206
    go_wp2_with fail
    go_ret
    exact ⟨ret_int HD.out.symm, rfl⟩
   ·have n3 : k = 3 := by simpa using e3
    rw [if_pos n3] at HD
    clear n1 n2 n3
    go_enter Tryz.func206, Tryz.ntmps206
    go_wp2_with fail
    go_ret
    exact ⟨ret_int HD.out.symm, rfl⟩
  ·have n2 : k = 2 := by simpa using e2
   rw [if_pos n2] at HD
   clear n1 n2
   go_enter Tryz.func206, Tryz.ntmps206
   go_wp2_with fail
   go_ret
   exact ⟨ret_int HD.out.symm, rfl⟩
 ·have n1 : k = 1 := by simpa using e1
  rw [if_pos n1] at HD
  clear n1
  go_enter Tryz.func206, Tryz.ntmps206
  go_wp2_with fail
  go_ret
  exact ⟨ret_int HD.out.symm, rfl⟩

theorem lockK_step (s : Bx.St) (i k : Nat) : Bx.lockK s i (k + 1) = (Bx.lockK s i k || (decide (¬ k = i) && (decide ((Bx.slAt s k).line = (Bx.slAt s i).line) && (Bx.slAt s k).runs))) := rfl
theorem lockK_up (s : Bx.St) (i k n : Nat) (h : Bx.lockK s i k = true) (hk : k ≤ n) : Bx.lockK s i n = true := by
 induction n with
 | zero => obtain rfl : k = 0 := by omega
           exact h
 | succ n ih =>
   by_cases hkn : k = n + 1
   ·subst hkn; exact h
   ·rw [lockK_step, ih (by omega)]; rfl

set_option maxHeartbeats 2000000 in
theorem locked_any (s : Bx.St) (i j : Nat) (sl en : Value) (w : World) (hT : ChkR s.tab 0 0) (hl : s.slots.length ≤ 10000) (hi : i < s.slots.length) (hln : (Bx.slAt s i).line = (j : Int) + 1) (hj : j < tn s.tab) (hS : StAt w s sl en) :
 Calls Tryz.prog 172 #[stV s sl en, .int .i64 i] w fun e w' => e = .returned (.bool (Bx.locked s i)) ∧ Below w.heap.size w w' := by
 obtain ⟨ad, cap, rfl, hcap⟩ := hS.sl.form
 obtain ⟨ad2, cap2, rfl, hcap2⟩ := hS.en.form
 have hb0 := below_alloc w (stO s (.slice ad s.slots.length cap) (.slice ad2 s.ends.length cap2))
 have hI := StIn.new w s (.slice ad s.slots.length cap) (.slice ad2 s.ends.length cap2)
 have hS' := hS.later hb0
 have hq0 : w.heap.size < (w.alloc (stO s (.slice ad s.slots.length cap) (.slice ad2 s.ends.length cap2))).heap.size := by simp
 clear hS
 obtain ⟨h300, _, hlines⟩ := hT.lines
 have hLP : Hid (LineP (tl s.tab j)) := hlines _ hj
 have hLs : (tl s.tab j).size ≤ 300 := tl_sz h300 _ (by have := tn_lt s.tab; omega)
 have HT : Hid (ChkR s.tab 0 0) := hT
 have h4 := tn_le' hT
 have HLk : Hid (Bx.locked s i = ((ob (tl s.tab j) 0 == 120) && Bx.lockK s i s.slots.length)) := by
  unfold Hid Bx.locked Bx.opt; rw [hln, show ((j : Int) + 1 - 1).toNat = j by omega]
 clear hlines hT
 go_enter Tryz.func172, Tryz.ntmps172
 go_wp2_with fail
 generalize w.alloc (stO s (.slice ad s.slots.length cap) (.slice ad2 s.ends.length cap2)) = W at *
 refine (stlines_any s _ _ _ HT.out hS').mono ?_
 rintro e w1 ⟨⟨bl, capl, rfl, hL⟩, hb1⟩
 have HR1 : Hid (RowAt w1 (.slice ad s.slots.length cap) s.slots.length (s.slots.flatMap slC)) := hS'.sl.1.later hb1
 have HI : Hid (StIn w1 w.heap.size s (.slice ad s.slots.length cap) (.slice ad2 s.ends.length cap2)) := hI.later hb1
 have c3 := HI.out.c3
 have cl : w1.cell? ⟨bl, j, none⟩ = some (.string (tl s.tab j)) := hL _ hj
 have HB : Hid (Below w.heap.size w w1) := hb0.trans (hb1.mono (by omega))
 have hq1 : w.heap.size < w1.heap.size := by have := hb1.size; omega
 obtain ⟨b, off, cap', hv, _, hc⟩ := HR1.out.some' (by omega)
 cases hv
 have ci : w1.cell? ⟨b, off + i * 6 + 1, none⟩ = some (.int .i64 ((j : Int) + 1)) := by rw [← hln, ← slAt_eq s i hi]; exact RowAt.cell slC_len hc i hi 1 (by decide)
 have b1 : (0 : Int) ≤ (i : Int) := by omega
 have b2 : (i : Int) < (s.slots.length : Int) := by omega
 have b3 : (j : Int) < (tn s.tab : Int) := by omega
 have Hln : Hid ((Bx.slAt s i).line = (j : Int) + 1) := hln
 clear hI hS' hb0 hb1 hL hc hln
 go_wp2_with fail
 refine (options_any (tl s.tab j) _ hLs hLP.out).mono ?_
 rintro e w2 ⟨rfl, hb2⟩
 have HR2 : Hid (RowAt w2 (.slice (some ⟨b, off, none⟩) s.slots.length cap) s.slots.length (s.slots.flatMap slC)) := HR1.out.later hb2
 have HB2 : Hid (Below w.heap.size w w2) := HB.out.trans (hb2.mono (by omega))
 have d3 := (HI.out.later hb2).c3
 have di : w2.cell? ⟨b, off + i * 6 + 1, none⟩ = some (.int .i64 ((j : Int) + 1)) := cell_later hb2 ci
 clear c3 cl ci HR1 HI HB hb2
 cases ho : (ob (tl s.tab j) 0 == 120)
 ·have HLk2 : Hid (Bx.locked s i = false) := by unfold Hid; rw [HLk.out, ho]; rfl
  go_wp2_with fail
  go_loopw [9] (fun iv wr => ∃ k n : Nat, k ≤ s.slots.length ∧ iv = .int .i64 k ∧ wr = w2.drewN n) (fun iv _ => s.slots.length - (intOf iv).toNat)
  case atStart => exact ⟨0, 0, Nat.zero_le _, rfl, rfl⟩
  case round =>
   obtain ⟨k, n, hk, rfl, rfl⟩ := hrel
   by_cases hlt : k < s.slots.length
   ·have y2 : (k : Int) < (s.slots.length : Int) := by omega
    go_wp2_with fail
    go_quiet (fail)
    go_wp2_with fail
    go_roundw
    case rel => exact ⟨k + 1, _, by omega, by go_num, rfl⟩
    case measure => simp [intOf]; omega
   ·obtain rfl : k = s.slots.length := by omega
    go_wp2_with fail
    go_ret
    exact ⟨ret_bool' HLk2.out.symm, below_drewN HB2.out n⟩
 ·have HLk2 : Hid (Bx.locked s i = Bx.lockK s i s.slots.length) := by unfold Hid; rw [HLk.out, ho]; rfl
  go_wp2_with fail
  go_loopw [9] (fun iv wr => ∃ k n : Nat, k ≤ s.slots.length ∧ iv = .int .i64 k ∧ wr = w2.drewN n ∧ Bx.lockK s i k = false) (fun iv _ => s.slots.length - (intOf iv).toNat)
  case atStart => exact ⟨0, 0, Nat.zero_le _, rfl, rfl, rfl⟩
  case round =>
   obtain ⟨k, n, hk, rfl, rfl, hno⟩ := hrel
   have Hno : Hid (Bx.lockK s i k = false) := hno
   clear hno
   by_cases hlt : k < s.slots.length
   ·have y2 : (k : Int) < (s.slots.length : Int) := by omega
    have y1 : (0 : Int) ≤ (k : Int) := by omega
    have HS := lockK_step s i k
    obtain ⟨b', off', cap'', hv, _, hc⟩ := HR2.out.some' (by omega)
    cases hv
    have k1 : w2.cell? ⟨b, off + k * 6 + 1, none⟩ = some (.int .i64 (Bx.slAt s k).line) := by rw [← slAt_eq s k hlt]; exact RowAt.cell slC_len hc k hlt 1 (by decide)
    have k5 : w2.cell? ⟨b, off + k * 6 + 5, none⟩ = some (.bool (Bx.slAt s k).runs) := by rw [← slAt_eq s k hlt]; exact RowAt.cell slC_len hc k hlt 5 (by decide)
    clear hc
    rw [Hno.out, Bool.false_or, Hln.out] at HS
    by_cases e1 : k = i
    ·have HF : Hid (Bx.lockK s i (k + 1) = false) := by unfold Hid; rw [HS]; simp [e1]
     have z1 : ((k : Int) != (i : Int)) = false := by simp [e1]
     clear HS k1 k5 e1
     go_wp2_with fail
     go_quiet (fail)
     go_wp2_with fail
     go_roundw
     case rel => exact ⟨k + 1, _, by omega, by go_num, rfl, HF.out⟩
     case measure => simp [intOf]; omega
    ·have z1 : ((k : Int) != (i : Int)) = true := by simp; omega
     cases e2 : ((Bx.slAt s k).line == (j : Int) + 1)
     ·have HF : Hid (Bx.lockK s i (k + 1) = false) := by
       have : ¬ (Bx.slAt s k).line = (j : Int) + 1 := by simpa using e2
       unfold Hid; rw [HS]; simp [this]
      clear HS k5 e1
      go_wp2_with fail
      go_quiet (fail)
      go_wp2_with fail
      go_roundw
      case rel => exact ⟨k + 1, _, by omega, by go_num, rfl, HF.out⟩
      case measure => simp [intOf]; omega
     ·have e2' : (Bx.slAt s k).line = (j : Int) + 1 := by simpa using e2
      cases e3 : (Bx.slAt s k).runs
      ·have HF : Hid (Bx.lockK s i (k + 1) = false) := by unfold Hid; rw [HS]; simp [e3]
       rw [e3] at k5
       clear HS e1 e2' e3
       go_wp2_with fail
       go_quiet (fail)
       go_wp2_with fail
       go_roundw
       case rel => exact ⟨k + 1, _, by omega, by go_num, rfl, HF.out⟩
       case measure => simp [intOf]; omega
      ·have HF : Hid (Bx.locked s i = true) := by
        unfold Hid; rw [HLk2.out]
        refine lockK_up s i (k + 1) _ ?_ (by omega)
        rw [HS]; simp [e1, e2', e3]
       rw [e3] at k5
       clear HS e1 e2' e3
       go_wp2_with fail
       go_quiet (fail)
       go_wp2_with fail
       go_ret
       exact ⟨ret_bool' HF.out.symm, below_drewN (below_drewN HB2.out n) _⟩
   ·obtain rfl : k = s.slots.length := by omega
    have HF : Hid (Bx.locked s i = false) := by unfold Hid; rw [HLk2.out, Hno.out]
    go_wp2_with fail
    go_ret
    exact ⟨ret_bool' HF.out.symm, below_drewN HB2.out n⟩
end Go.Proofs.YtdajolpoiffimaaGreatDoor

namespace Go.Proofs.YtdajolpoiffimaaGreatDoor
open Go.RowKit

abbrev stZ : Bx.St := ⟨{ data := #[] }, 0, 0, [], []⟩
theorem without_all (s : Bx.St) (sl en : Value) (w : World) (hl : s.slots.length ≤ 10000) (hS : StAt w s sl en) :
 Calls Tryz.prog 185 #[stV s sl en, .int .i64 (-1)] w fun e w' => (∃ v, e = .returned v ∧ w'.ownsRow w.heap.size 167 6 v s.slots.length (s.slots.flatMap slC)) ∧ Below w.heap.size w w' := by
 have := without_any s (-1) sl en w hl hS
 rw [without_none] at this; exact this
theorem le_alloc {n : Nat} {w : World} (h : n ≤ w.heap.size) (o : Obj) : n ≤ (w.alloc o).heap.size := by simp; omega
/-- What holds while those that come are gone through. -/
structure ClkAt (w wr : World) (q : Nat) (t : Bx.St) (slk enk v : Value) (n : Nat) (cells : List Value) : Prop where
 st : StW wr q t slk enk
 rs : StW wr (q + 1) stZ nilV nilV
 rows : StAt wr t slk enk
 row : TRow wr 167 v n cells
 bel : Below w.heap.size w wr
theorem ClkAt.later {w W W' : World} {q : Nat} {t : Bx.St} {slk enk v : Value} {n : Nat} {cells : List Value} (h : ClkAt w W q t slk enk v n cells) (hb : Below W.heap.size W W') : ClkAt w W' q t slk enk v n cells :=
 ⟨h.st.later hb, h.rs.later hb, h.rows.later hb, h.row.later hb, h.bel.trans (hb.mono h.bel.size)⟩
/-- Another state is stored. -/
theorem ClkAt.store {w W : World} {q : Nat} {t : Bx.St} {slk enk v : Value} {n : Nat} {cells : List Value} (h : ClkAt w W q t slk enk v n cells) (hq : w.heap.size ≤ q) (u : Bx.St) (sl' en' : Value) (hu : StAt W u sl' en') :
 ClkAt w (((((W.setCell ⟨q, 0, none⟩ (.string u.tab)).setCell ⟨q, 1, none⟩ (.int .i64 u.clock)).setCell ⟨q, 2, none⟩ (.int .i64 u.next)).setCell ⟨q, 3, none⟩ sl').setCell ⟨q, 4, none⟩ en') q u sl' en' v n cells := by
 have ty := h.st.ty
 have hne : q < q + 1 := by omega
 refine ⟨h.st.store u sl' en', ?_, hu.store ty _ _ _ _ _, ?_, ?_⟩
 ·obtain ⟨⟨c0, c1, c2, c3, c4⟩, f, ty1⟩ := h.rs
  refine ⟨⟨?_, ?_, ?_, ?_, ?_⟩, fun j hj => ?_, ((((ty1.setCell _ _ _).setCell _ _ _).setCell _ _ _).setCell _ _ _).setCell _ _ _⟩
  case refine_6 => simp [go_sem, f j hj]
  all_goals simp [go_sem, c0, c1, c2, c3, c4]
 ·refine TRow.set ?_ ((((ty.setCell _ _ _).setCell _ _ _).setCell _ _ _).setCell _ _ _) (by decide) _ _
  refine TRow.set ?_ (((ty.setCell _ _ _).setCell _ _ _).setCell _ _ _) (by decide) _ _
  refine TRow.set ?_ ((ty.setCell _ _ _).setCell _ _ _) (by decide) _ _
  refine TRow.set ?_ (ty.setCell _ _ _) (by decide) _ _
  exact TRow.set h.row ty (by decide) _ _
 ·repeat (refine Below.setCell ?_ (by simpa using hq) _)
  exact h.bel
/-- The next number goes on. -/
theorem ClkAt.next {w W : World} {q : Nat} {t : Bx.St} {slk enk v : Value} {n : Nat} {cells : List Value} (h : ClkAt w W q t slk enk v n cells) (hq : w.heap.size ≤ q) (m : Int) :
 ClkAt w (W.setCell ⟨q, 2, none⟩ (.int .i64 m)) q { t with next := m } slk enk v n cells := by
 have ty := h.st.ty
 obtain ⟨⟨c0, c1, c2, c3, c4⟩, f, _⟩ := h.st
 obtain ⟨⟨r0, r1, r2, r3, r4⟩, f', ty'⟩ := h.rs
 refine ⟨⟨⟨?_, ?_, ?_, ?_, ?_⟩, fun j hj => ?_, ty.setCell _ _ _⟩, ⟨⟨?_, ?_, ?_, ?_, ?_⟩, fun j hj => ?_, ty'.setCell _ _ _⟩, ⟨h.rows.sl.set ty (by decide) _ _, h.rows.en.set ty (by decide) _ _⟩, h.row.set ty (by decide) _ _, h.bel.setCell (by simpa using hq) _⟩
 case refine_6 => simp [go_sem, f j hj]
 case refine_12 => simp [go_sem, f' j hj]
 all_goals simp [go_sem, c0, c1, c2, c3, c4, r0, r1, r2, r3, r4]
/-- The clock. -/
theorem ClkAt.clk {w W : World} {q : Nat} {t : Bx.St} {slk enk v : Value} {n : Nat} {cells : List Value} (h : ClkAt w W q t slk enk v n cells) (hq : w.heap.size ≤ q) (m : Int) :
 ClkAt w (W.setCell ⟨q, 1, none⟩ (.int .i64 m)) q { t with clock := m } slk enk v n cells := by
 have ty := h.st.ty
 obtain ⟨⟨c0, c1, c2, c3, c4⟩, f, _⟩ := h.st
 obtain ⟨⟨r0, r1, r2, r3, r4⟩, f', ty'⟩ := h.rs
 refine ⟨⟨⟨?_, ?_, ?_, ?_, ?_⟩, fun j hj => ?_, ty.setCell _ _ _⟩, ⟨⟨?_, ?_, ?_, ?_, ?_⟩, fun j hj => ?_, ty'.setCell _ _ _⟩, ⟨h.rows.sl.set ty (by decide) _ _, h.rows.en.set ty (by decide) _ _⟩, h.row.set ty (by decide) _ _, h.bel.setCell (by simpa using hq) _⟩
 case refine_6 => simp [go_sem, f j hj]
 case refine_12 => simp [go_sem, f' j hj]
 all_goals simp [go_sem, c0, c1, c2, c3, c4, r0, r1, r2, r3, r4]
set_option maxRecDepth 10000 in
set_option maxHeartbeats 4000000 in
theorem clocked_any (s : Bx.St) (sl en : Value) (m : Int) (w : World) (hO : Bx.StOk s) (hS : StAt w s sl en) :
 Calls Tryz.prog 152 #[stV s sl en, .int .i64 m] w fun e w' => (∃ sl' en', e = .returned (.tuple #[stV (Bx.clockedP s m).1 sl' en', .bool (Bx.clockedP s m).2]) ∧ StAt w' (Bx.clockedP s m).1 sl' en') ∧ Below w.heap.size w w' := by
 obtain ⟨i0, hi, hz0, hz1, hz2⟩ := info_parts infoSlot
 obtain ⟨ad, cap, rfl, hcap⟩ := hS.sl.form
 obtain ⟨ad2, cap2, rfl, hcap2⟩ := hS.en.form
 have HO : Hid (Bx.StOk s) := hO
 have hn1 := hO.n1
 have hn2 := hO.n2
 have hc1 := hO.c1
 have hc2 := hO.c2
 have b0 := below_alloc w (stO s (.slice ad s.slots.length cap) (.slice ad2 s.ends.length cap2))
 have b1 := below_alloc (w.alloc (stO s (.slice ad s.slots.length cap) (.slice ad2 s.ends.length cap2))) (stO stZ nilV nilV)
 have A1 : StW ((w.alloc (stO s (.slice ad s.slots.length cap) (.slice ad2 s.ends.length cap2))).alloc (stO stZ nilV nilV)) w.heap.size s (.slice ad s.slots.length cap) (.slice ad2 s.ends.length cap2) := (StW.new w s _ _).later b1
 have A2 : StW ((w.alloc (stO s (.slice ad s.slots.length cap) (.slice ad2 s.ends.length cap2))).alloc (stO stZ nilV nilV)) (w.heap.size + 1) stZ nilV nilV := by
  have := StW.new (w.alloc (stO s (.slice ad s.slots.length cap) (.slice ad2 s.ends.length cap2))) stZ nilV nilV
  simpa using this
 have A3 : StAt ((w.alloc (stO s (.slice ad s.slots.length cap) (.slice ad2 s.ends.length cap2))).alloc (stO stZ nilV nilV)) s (.slice ad s.slots.length cap) (.slice ad2 s.ends.length cap2) := (hS.later b0).later b1
 have A4 : Below w.heap.size w ((w.alloc (stO s (.slice ad s.slots.length cap) (.slice ad2 s.ends.length cap2))).alloc (stO stZ nilV nilV)) := b0.trans (b1.mono (by simp))
 clear hS b0 b1
 go_enter Tryz.func152, Tryz.ntmps152
 go_wp2_with fail
 generalize (w.alloc (stO s (.slice ad s.slots.length cap) (.slice ad2 s.ends.length cap2))).alloc (stO stZ nilV nilV) = W at *
 refine (ahead_any s m _ _ _ hc1 hc2 A3).mono ?_
 rintro e w1 ⟨rfl, hb1⟩
 have B1 : Hid (StW w1 w.heap.size s (.slice ad s.slots.length cap) (.slice ad2 s.ends.length cap2)) := A1.later hb1
 have B2 : Hid (StW w1 (w.heap.size + 1) stZ nilV nilV) := A2.later hb1
 have B3 : Hid (StAt w1 s (.slice ad s.slots.length cap) (.slice ad2 s.ends.length cap2)) := A3.later hb1
 have B4 : Hid (Below w.heap.size w w1) := A4.trans (hb1.mono A4.size)
 clear A1 A2 A3 A4 hb1
 cases hA : Bx.ahead s m
 ·have HP : Hid (Bx.clockedP s m = (s, false)) := by unfold Hid; rw [Bx.clockedP, hA]; rfl
  have R1 := B1.out
  have R2 := B2.out
  have R4 : Hid (StAt _ s (.slice ad s.slots.length cap) (.slice ad2 s.ends.length cap2)) := B3.out.store R2.ty (.string s.tab) (.int .i64 s.clock) (.int .i64 s.next) (.slice ad s.slots.length cap) (.slice ad2 s.ends.length cap2)
  obtain ⟨⟨c0, c1, c2, c3, c4⟩, _, _⟩ := R1
  obtain ⟨⟨r0, r1, r2, r3, r4⟩, f, _⟩ := R2
  have f0 := f 0 (by decide); have f1 := f 1 (by decide); have f2 := f 2 (by decide); have f3 := f 3 (by decide); have f4 := f 4 (by decide)
  clear f
  go_wp2_with fail
  refine bodyPost_ret (v := .tuple #[stV s (.slice ad s.slots.length cap) (.slice ad2 s.ends.length cap2), .bool false]) (by simp [results, Tryz.results152, go_sem, r0, r1, r2, r3, r4]) rfl ?_
  rw [HP.out]
  refine ⟨⟨_, _, rfl, R4.out⟩, ?_⟩
  repeat (refine Below.setCell ?_ (by simp) _)
  exact B4.out
 ·have R1 := B1.out
  obtain ⟨⟨c0, c1, c2, c3, c4⟩, _, _⟩ := R1
  go_wp2_with fail
  refine (comes_any s _ _ m w1 HO.out.tab hc1 hc2 hA B3.out).mono ?_
  rintro e w2 ⟨⟨v, rfl, hown⟩, hb2⟩
  clear c0 c1 c2 c3 c4
  have hln : (Bx.comesS s m).length ≤ 100000 := by
   have h1 := Bx.comes_len (Bx.lns s.tab) (Bx.newA s m) m
   have h2 : (Bx.lns s.tab).length ≤ 4 := by rw [Bx.lns, List.length_map, Bx.linesOf_len]; exact tn_le HO.out.tab
   have h3 : 0 ≤ m ∧ m ≤ 4223371679 ∧ s.clock < m ∧ (s.clock = -1 ∨ m - s.clock ≤ 1500) := of_decide_eq_true hA
   have h4 : m - Bx.newA s m ≤ 1500 := by unfold Bx.newA; split <;> omega
   have h5 : (m + 1 - Bx.newA s m).toNat * (Bx.lns s.tab).length ≤ 1501 * 4 := Nat.mul_le_mul (by omega) h2
   have h6 : (Bx.comesS s m).length ≤ (m + 1 - Bx.newA s m).toNat * (Bx.lns s.tab).length := h1
   omega
  have HP : Hid (Bx.clockedP s m = if s.next + ((Bx.comesS s m).length : Int) ≤ 10000 then ({ (Bx.comesS s m).foldl Bx.arr s with clock := m }, true) else (s, false)) := by unfold Hid; rw [Bx.clockedP, hA]; rfl
  have D1 : Hid (ClkAt w w2 w.heap.size s (.slice ad s.slots.length cap) (.slice ad2 s.ends.length cap2) v (Bx.comesS s m).length ((Bx.comesS s m).flatMap fun p => slC (Bx.slotOf p 0))) :=
   ⟨B1.out.later hb2, B2.out.later hb2, B3.out.later hb2, TRow.of_own hown, B4.out.trans (hb2.mono B4.out.size)⟩
  obtain ⟨adv, capv, rfl, hcv⟩ := (RowAt.of_own hown).form
  clear B1 B2 B3 B4 hb2 hown hA
  obtain ⟨⟨⟨c0, c1, c2, c3, c4⟩, _, _⟩, R2, R3, _, R5⟩ := D1.out
  generalize hLL : Bx.comesS s m = L at *
  clear hLL
  by_cases hN : s.next + (L.length : Int) ≤ 10000
  ·have HP' : Hid (Bx.clockedP s m = ({ L.foldl Bx.arr s with clock := m }, true)) := by unfold Hid; rw [HP.out, if_pos hN]
   have HFk : Hid (∀ k (h : k < L.length), (L.take (k + 1)).foldl Bx.arr s = Bx.arr ((L.take k).foldl Bx.arr s) L[k]) := fun k h => arrs_take L s k h
   have HOk : Hid (∀ k, k ≤ L.length → ((L.take k).foldl Bx.arr s).slots.length ≤ 8 ∧ ((L.take k).foldl Bx.arr s).ends.length ≤ 6 ∧ ((L.take k).foldl Bx.arr s).next = s.next + k) := by
    intro k hk
    have := arrs_ok (L.take k) s HO.out.sl HO.out.en
    rw [List.length_take, Nat.min_eq_left hk] at this
    exact this
   have q1 : ¬ 10000 < s.next + (L.length : Int) := by omega
   clear HP R2 R3 R5
   go_wp2_with fail
   go_loopw [8] (fun iv wr => ∃ k : Nat, k ≤ L.length ∧ iv = .int .i64 k ∧ ∃ slk enk, ClkAt w wr w.heap.size ((L.take k).foldl Bx.arr s) slk enk (.slice adv L.length capv) L.length (L.flatMap fun p => slC (Bx.slotOf p 0))) (fun iv _ => L.length - (intOf iv).toNat)
   case atStart => exact ⟨0, Nat.zero_le _, rfl, _, _, D1.out⟩
   case round =>
    obtain ⟨k, hk, rfl, slk, enk, hC⟩ := hrel
    obtain ⟨o1, o2, o3⟩ := HOk.out k hk
    have HN : Hid (((L.take k).foldl Bx.arr s).next = s.next + k) := o3
    clear o3
    by_cases hlt : k < L.length
    ·have hF := HFk.out k hlt
     have HF : Hid ((L.take (k + 1)).foldl Bx.arr s = Bx.arr ((L.take k).foldl Bx.arr s) L[k]) := hF
     obtain ⟨b, off, cap', hv, _, hcl⟩ := hC.row.1.some' (by omega)
     cases hv
     have hcell := fun j hj => RowAt.cell (f := fun p => slC (Bx.slotOf p 0)) (k := 6) (fun _ => rfl) hcl k hlt j hj
     have x0 : wr.cell? ⟨b, off + k * 6, none⟩ = some (.int .i64 0) := hcell 0 (by decide)
     have x1 : wr.cell? ⟨b, off + k * 6 + 1, none⟩ = some (.int .i64 ((L[k].1 : Int) + 1)) := hcell 1 (by decide)
     have x2 : wr.cell? ⟨b, off + k * 6 + 2, none⟩ = some (.int .i64 L[k].2) := hcell 2 (by decide)
     have x3 : wr.cell? ⟨b, off + k * 6 + 3, none⟩ = some (.int .i64 1) := hcell 3 (by decide)
     have x4 : wr.cell? ⟨b, off + k * 6 + 4, none⟩ = some (.int .i64 L[k].2) := hcell 4 (by decide)
     have x5 : wr.cell? ⟨b, off + k * 6 + 5, none⟩ = some (.bool false) := hcell 5 (by decide)
     clear hcell hcl hF
     generalize L[k] = p at *
     generalize hT : (L.take k).foldl Bx.arr s = T at *
     clear hT
     have HC : Hid (ClkAt w wr w.heap.size T slk enk (.slice (some ⟨b, off, none⟩) L.length capv) L.length (L.flatMap fun p => slC (Bx.slotOf p 0))) := hC
     obtain ⟨adk, capk, rfl, hck⟩ := hC.rows.sl.form
     obtain ⟨adn, capn, rfl, hcn⟩ := hC.rows.en.form
     obtain ⟨⟨d0, d1, d2, d3, d4⟩, fq, _⟩ := hC.st
     have g0 := fq 0 (by decide); have g1 := fq 1 (by decide); have g2 := fq 2 (by decide); have g3 := fq 3 (by decide); have g4 := fq 4 (by decide)
     have hlq : w.heap.size < wr.heap.size := hC.st.ty.lt
     have y1 : (0 : Int) ≤ (k : Int) := by omega
     have y2 : (k : Int) < (L.length : Int) := by omega
     clear hC fq
     by_cases h8 : T.slots.length < 8
     ·have z1 : (T.slots.length : Int) < 8 := by omega
      have HX : Hid (SlIn _ wr.heap.size (Bx.slotOf p T.next)) := SlIn.new wr (Bx.slotOf p T.next)
      have HC2 : Hid (ClkAt w _ w.heap.size T (.slice adk T.slots.length capk) (.slice adn T.ends.length capn) (.slice (some ⟨b, off, none⟩) L.length capv) L.length (L.flatMap fun p => slC (Bx.slotOf p 0))) := HC.out.later (below_alloc wr (slO (Bx.slotOf p T.next)))
      have hlq2 : w.heap.size < (wr.alloc (slO (Bx.slotOf p T.next))).heap.size := by simp; omega
      have hlx2 : wr.heap.size < (wr.alloc (slO (Bx.slotOf p T.next))).heap.size := by simp
      go_wp2_with fail
      change SlIn (wr.alloc (.cells #[.int .i64 T.next, .int .i64 ((p.1 : Int) + 1), .int .i64 p.2, .int .i64 1, .int .i64 p.2, .bool false] 167)) wr.heap.size (Bx.slotOf p T.next) at HX
      change ClkAt w (wr.alloc (.cells #[.int .i64 T.next, .int .i64 ((p.1 : Int) + 1), .int .i64 p.2, .int .i64 1, .int .i64 p.2, .bool false] 167)) w.heap.size T (.slice adk T.slots.length capk) (.slice adn T.ends.length capn) (.slice (some ⟨b, off, none⟩) L.length capv) L.length (L.flatMap fun p => slC (Bx.slotOf p 0)) at HC2
      change w.heap.size < (wr.alloc (.cells #[.int .i64 T.next, .int .i64 ((p.1 : Int) + 1), .int .i64 p.2, .int .i64 1, .int .i64 p.2, .bool false] 167)).heap.size at hlq2
      change wr.heap.size < (wr.alloc (.cells #[.int .i64 T.next, .int .i64 ((p.1 : Int) + 1), .int .i64 p.2, .int .i64 1, .int .i64 p.2, .bool false] 167)).heap.size at hlx2
      clear x0 x1 x2 x3 x4 x5 d0 d1 d2 d3 d4 g0 g1 g2 g3 g4 HC
      generalize wr.alloc (.cells #[.int .i64 T.next, .int .i64 ((p.1 : Int) + 1), .int .i64 p.2, .int .i64 1, .int .i64 p.2, .bool false] 167) = WX at *
      generalize wr.heap.size = xq at *
      have hX2 := HX
      have hC2 := HC2
      replace HX : Hid (SlIn WX xq (Bx.slotOf p T.next)) := hX2
      replace HC2 : Hid (ClkAt w WX w.heap.size T (.slice adk T.slots.length capk) (.slice adn T.ends.length capn) (.slice (some ⟨b, off, none⟩) L.length capv) L.length (L.flatMap fun p => slC (Bx.slotOf p 0))) := hC2
      clear hX2 hC2
      obtain ⟨x0, x1, x2, x3, x4, x5⟩ := HX.out
      obtain ⟨⟨d0, d1, d2, d3, d4⟩, fq, _⟩ := HC2.out.st
      have g0 := fq 0 (by decide); have g1 := fq 1 (by decide); have g2 := fq 2 (by decide); have g3 := fq 3 (by decide); have g4 := fq 4 (by decide)
      have a63 : T.slots.length + 1 ≤ maxLen := by unfold maxLen; omega
      have a48 : (T.slots.length + 1) * 48 ≤ 140737488355328 := by omega
      have HF2 : Hid (Bx.arr T p = { Bx.with' T (T.slots ++ [Bx.slotOf p T.next]) 0 ByteArray.empty with next := T.next + 1 }) := arr_slot h8
      clear fq HX
      generalize Bx.slotOf p T.next = X at *
      go_cut [] from 43 to 49 (fun wx => ∃ sl' en', ClkAt w wx w.heap.size (Bx.with' T (T.slots ++ [X]) 0 ByteArray.empty) sl' en' (.slice (some ⟨b, off, none⟩) L.length capv) L.length (L.flatMap fun p => slC (Bx.slotOf p 0)))
      case first =>
       go_region_law ((first
        | (refine step_append_lies _ rfl (.tmp 45) (.tmp 47) 102 rfl WX.heap.size 167 i0 (.agg #[.int .i64 0, .int .i64 0, .int .i64 0, .int .i64 0, .int .i64 0, .bool false]) 6 48 Tryz.underlying102 hi hz0 hz1 hz2 rfl (by decide) v _ _ rfl (hown.alloc _) ⟨w2.heap.size, 0, none⟩ 1 1 (slC X) rfl rfl (slC_new _ _ _) (slC_one X) (by decide) a63 a48 (le_alloc hbA.size _) _ rfl ?_; intro g cap1 w3 hown3 hgrow3 _ hlt3; have hbB : Below WX.heap.size WX w3 := (hbA.alloc hbA.size _).grown hgrow3 (by simp; exact Nat.le_succ_of_le hbA.size) (fun k' e => (hown.lt k' e).1); obtain ⟨hcB, hfB⟩ := bcell hbB)
        | (refine step_append_lies _ rfl (.tmp 45) (.tmp 47) 102 rfl WX.heap.size 167 i0 (.agg #[.int .i64 0, .int .i64 0, .int .i64 0, .int .i64 0, .int .i64 0, .bool false]) 6 48 Tryz.underlying102 hi hz0 hz1 hz2 rfl (by decide) v _ _ rfl hown' ⟨WX.heap.size, 0, none⟩ 1 1 (slC X) rfl rfl hnews' (slC_one X) (by decide) a63 a48 hbA.size _ rfl ?_; intro g cap1 w3 hown3 hgrow3 _ hlt3; have hbB : Below WX.heap.size WX w3 := hbA.grown hgrow3 hbA.size (fun k' e => (hown'.lt k' e).1); obtain ⟨hcB, hfB⟩ := bcell hbB)
        | (go_simp; go_at_call 185; refine (without_all T (.slice adk T.slots.length capk) (.slice adn T.ends.length capn) WX.drew ?hl ?hs).mono ?_; (case hl => omega); (case hs => exact HC2.out.rows.later (Below.refl _ _).drew); rintro e w2 ⟨⟨v, rfl, hown⟩, hbA0⟩; have hbA : Below WX.heap.size WX w2 := (Below.refl _ _).drew.trans hbA0; obtain ⟨hcA, hfA⟩ := bcell hbA; have hqA : w.heap.size < w2.heap.size := Nat.lt_of_lt_of_le hlq2 hbA.size; have hxA : xq < w2.heap.size := Nat.lt_of_lt_of_le hlx2 hbA.size)
        | (go_simp; go_at_call 185; refine (without_all T (.slice adk T.slots.length capk) (.slice adn T.ends.length capn) (WX.alloc (slO X)).drew ?hl ?hs).mono ?_; (case hl => omega); (case hs => exact (HC2.out.rows.later (below_alloc _ _)).later (Below.refl _ _).drew); rintro e w2 ⟨⟨v, rfl, hown⟩, hbA0⟩; have hbA : Below WX.heap.size WX w2 := (below_alloc _ _).drew.trans (hbA0.mono (by simp)); obtain ⟨hcA, hfA⟩ := bcell hbA; have hqA : w.heap.size < w2.heap.size := Nat.lt_of_lt_of_le hlq2 hbA.size; have hxA : xq < w2.heap.size := Nat.lt_of_lt_of_le hlx2 hbA.size; have hown' := own_low hown (show WX.heap.size ≤ (WX.alloc (slO X)).drew.heap.size by simp); have hnews' : ∀ j u, (slC X)[j]? = some u → w2.cell? ((⟨WX.heap.size, 0, none⟩ : Addr).add j) = some u := fun j u hj => cell_later hbA0 (slC_new WX X _ j u hj))
        | (go_simp; go_at_call 184; refine (with_any T (T.slots ++ [X]) _ 0 _ (.slice adk T.slots.length capk) (.slice adn T.ends.length capn) w3 ?he ?hL ?hs).mono ?_; (case he => omega); (case hL => exact TRow.of_own (by simpa using hown3)); (case hs => exact HC2.out.rows.later hbB); rintro e w4 ⟨⟨en4, rfl, hst4⟩, hbC0⟩; have hbC : Below WX.heap.size WX w4 := hbB.trans (hbC0.mono hbB.size); obtain ⟨hcC, hfC⟩ := bcell hbC; obtain ⟨ad4, cap4, rfl, hce4⟩ := hst4.en.form)))
       all_goals (go_wp2_with fail; go_meet; exact ⟨_, _, (HC2.out.later hbC).store (Nat.le_refl _) (Bx.with' T (T.slots ++ [X]) 0 { data := #[] }) _ _ hst4⟩)
      case rest =>
       obtain ⟨sl5, en5, hK⟩ := hcut
       obtain ⟨ad5, cap5, rfl, _⟩ := hK.rows.sl.form
       obtain ⟨ad6, cap6, rfl, _⟩ := hK.rows.en.form
       have HK : Hid (ClkAt w _ w.heap.size { Bx.with' T (T.slots ++ [X]) 0 ByteArray.empty with next := T.next + 1 } _ _ (.slice (some ⟨b, off, none⟩) L.length capv) L.length (L.flatMap fun p => slC (Bx.slotOf p 0))) := hK.next (Nat.le_refl _) (T.next + 1)
       have q2 : IntKind.i64.wrap (T.next + 1) = T.next + 1 := by rw [IntKind.wrap_i64, HN.out]; omega
       have e2 : wc.cell? ⟨w.heap.size, 2, none⟩ = some (.int .i64 T.next) := hK.st.st.c2
       have e3 := hK.st.f 2 (by decide)
       clear x0 x1 x2 x3 x4 x5 d0 d1 d2 d3 d4 g0 g1 g2 g3 g4 hK
       go_wp2_with fail
       go_roundw
       case rel => exact ⟨k + 1, by omega, by go_num, _, _, by rw [HF.out, HF2.out]; exact HK.out⟩
       case measure => simp [intOf]; omega
     ·have z1 : ¬ (T.slots.length : Int) < 8 := by omega
      have HC2 : Hid (ClkAt w _ w.heap.size T (.slice adk T.slots.length capk) (.slice adn T.ends.length capn) (.slice (some ⟨b, off, none⟩) L.length capv) L.length (L.flatMap fun p => slC (Bx.slotOf p 0))) := HC.out.later (below_alloc wr (slO (Bx.slotOf p T.next)))
      have HX : Hid (SlIn _ wr.heap.size (Bx.slotOf p T.next)) := SlIn.new wr (Bx.slotOf p T.next)
      have hlq2 : w.heap.size < (wr.alloc (slO (Bx.slotOf p T.next))).heap.size := by simp; omega
      have hT1 : 0 < T.next := by rw [HN.out]; omega
      have HF2 : Hid (Bx.arr T p = { Bx.with' T T.slots T.next Bx.hS with next := T.next + 1 }) := arr_end h8 hT1
      have q2 : IntKind.i64.wrap (T.next + 1) = T.next + 1 := by rw [IntKind.wrap_i64, HN.out]; omega
      go_upto_region 14 with fail
      go_cut [] from 50 to 55 (fun wx => ∃ sl' en', ClkAt w wx w.heap.size (Bx.with' T T.slots T.next Bx.hS) sl' en' (.slice (some ⟨b, off, none⟩) L.length capv) L.length (L.flatMap fun p => slC (Bx.slotOf p 0)))
      case first =>
       go_wp2_with fail
       change ClkAt w (wr.alloc (.cells #[.int .i64 T.next, .int .i64 ((p.1 : Int) + 1), .int .i64 p.2, .int .i64 1, .int .i64 p.2, .bool false] 167)) w.heap.size T (.slice adk T.slots.length capk) (.slice adn T.ends.length capn) (.slice (some ⟨b, off, none⟩) L.length capv) L.length (L.flatMap fun p => slC (Bx.slotOf p 0)) at HC2
       refine (with_any T T.slots (.slice adk T.slots.length capk) T.next _ (.slice adk T.slots.length capk) (.slice adn T.ends.length capn) _ (by omega) HC2.rows.sl HC2.rows).mono ?_
       rintro e w4 ⟨⟨en4, rfl, hst4⟩, hb4⟩
       obtain ⟨ad4, cap4, rfl, hce4⟩ := hst4.en.form
       have hC4 := HC2.later hb4
       have HC5 : Hid (ClkAt w _ w.heap.size _ _ _ (.slice (some ⟨b, off, none⟩) L.length capv) L.length (L.flatMap fun p => slC (Bx.slotOf p 0))) := hC4.store (Nat.le_refl _) (Bx.with' T T.slots T.next Bx.hS) (.slice adk T.slots.length capk) _ hst4
       clear x0 x1 x2 x3 x4 x5 d0 d1 d2 d3 d4 g0 g1 g2 g3 g4 HC HC2
       obtain ⟨⟨d0, d1, d2, d3, d4⟩, fq, _⟩ := hC4.st
       have g0 := fq 0 (by decide); have g1 := fq 1 (by decide); have g2 := fq 2 (by decide); have g3 := fq 3 (by decide); have g4 := fq 4 (by decide)
       clear fq hC4
       go_wp2_with fail
       go_meet
       exact ⟨_, _, HC5.out⟩
      case rest =>
       clear q2
       obtain ⟨sl5, en5, hK⟩ := hcut
       obtain ⟨ad5, cap5, rfl, _⟩ := hK.rows.sl.form
       obtain ⟨ad6, cap6, rfl, _⟩ := hK.rows.en.form
       have HK : Hid (ClkAt w _ w.heap.size { Bx.with' T T.slots T.next Bx.hS with next := T.next + 1 } _ _ (.slice (some ⟨b, off, none⟩) L.length capv) L.length (L.flatMap fun p => slC (Bx.slotOf p 0))) := hK.next (Nat.le_refl _) (T.next + 1)
       have q2 : IntKind.i64.wrap (T.next + 1) = T.next + 1 := by rw [IntKind.wrap_i64, HN.out]; omega
       have e2 : wc.cell? ⟨w.heap.size, 2, none⟩ = some (.int .i64 T.next) := hK.st.st.c2
       have e3 := hK.st.f 2 (by decide)
       clear x0 x1 x2 x3 x4 x5 d0 d1 d2 d3 d4 g0 g1 g2 g3 g4 hK
       go_wp2_with fail
       go_roundw
       case rel => exact ⟨k + 1, by omega, by go_num, _, _, by rw [HF.out, HF2.out]; exact HK.out⟩
       case measure => simp [intOf]; omega
    ·obtain rfl : k = L.length := by omega
     rw [List.take_length] at hC
     have hC6 := hC.clk (Nat.le_refl _) m
     have HC7 : Hid (StAt _ { L.foldl Bx.arr s with clock := m } slk enk) := hC6.rows.store hC6.rs.ty (.string (L.foldl Bx.arr s).tab) (.int .i64 m) (.int .i64 (L.foldl Bx.arr s).next) slk enk
     have HB6 : Hid (Below w.heap.size w wr) := hC.bel
     obtain ⟨ad7, cap7, rfl, _⟩ := hC.rows.sl.form
     obtain ⟨ad8, cap8, rfl, _⟩ := hC.rows.en.form
     generalize L.foldl Bx.arr s = T at *
     obtain ⟨⟨d0, d1, d2, d3, d4⟩, fq, _⟩ := hC.st
     have g1 := fq 1 (by decide)
     obtain ⟨⟨r0, r1, r2, r3, r4⟩, f, _⟩ := hC.rs
     have f0 := f 0 (by decide); have f1 := f 1 (by decide); have f2 := f 2 (by decide); have f3 := f 3 (by decide); have f4 := f 4 (by decide)
     clear f fq hC hC6 HOk HFk HN
     go_wp2_with fail
     refine bodyPost_ret (v := .tuple #[stV { T with clock := m } (.slice ad7 T.slots.length cap7) (.slice ad8 T.ends.length cap8), .bool true]) (by simp [results, Tryz.results152, go_sem, r0, r1, r2, r3, r4]) rfl ?_
     rw [HP'.out]
     refine ⟨⟨_, _, rfl, HC7.out⟩, ?_⟩
     repeat (refine Below.setCell ?_ (by simp) _)
     exact HB6.out
  ·have HP' : Hid (Bx.clockedP s m = (s, false)) := by unfold Hid; rw [HP.out, if_neg hN]
   have q1 : 10000 < s.next + (L.length : Int) := by omega
   have R4 : Hid (StAt _ s (.slice ad s.slots.length cap) (.slice ad2 s.ends.length cap2)) := R3.store R2.ty (.string s.tab) (.int .i64 s.clock) (.int .i64 s.next) (.slice ad s.slots.length cap) (.slice ad2 s.ends.length cap2)
   have R5' : Hid (Below w.heap.size w w2) := R5
   obtain ⟨⟨r0, r1, r2, r3, r4⟩, f, _⟩ := R2
   have f0 := f 0 (by decide); have f1 := f 1 (by decide); have f2 := f 2 (by decide); have f3 := f 3 (by decide); have f4 := f 4 (by decide)
   clear f R3 R5
   go_wp2_with fail
   refine bodyPost_ret (v := .tuple #[stV s (.slice ad s.slots.length cap) (.slice ad2 s.ends.length cap2), .bool false]) (by simp [results, Tryz.results152, go_sem, r0, r1, r2, r3, r4]) rfl ?_
   rw [HP'.out]
   refine ⟨⟨_, _, rfl, R4.out⟩, ?_⟩
   repeat (refine Below.setCell ?_ (by simp) _)
   exact R5'.out
end Go.Proofs.YtdajolpoiffimaaGreatDoor

namespace Go.Proofs.YtdajolpoiffimaaGreatDoor
open Go.RowKit


/-- A cell of another block is asked. -/
theorem cell_set5 {w : World} {q b o : Nat} (h : b ≠ q) (u0 u1 u2 u3 u4 : Value) : (((((w.setCell ⟨q, 0, none⟩ u0).setCell ⟨q, 1, none⟩ u1).setCell ⟨q, 2, none⟩ u2).setCell ⟨q, 3, none⟩ u3).setCell ⟨q, 4, none⟩ u4).cell? ⟨b, o, none⟩ = w.cell? ⟨b, o, none⟩ := by
 rw [World.cell?_setCell_other _ _ _ _ (by simp), World.cell?_setCell_other _ _ _ _ (by simp), World.cell?_setCell_other _ _ _ _ (by simp), World.cell?_setCell_other _ _ _ _ (by simp), World.cell?_setCell_other _ _ _ _ (by simp)]
theorem below_set5 {n q : Nat} {w w' : World} (h : Below n w w') (hq : n ≤ q) (u0 u1 u2 u3 u4 : Value) : Below n w (((((w'.setCell ⟨q, 0, none⟩ u0).setCell ⟨q, 1, none⟩ u1).setCell ⟨q, 2, none⟩ u2).setCell ⟨q, 3, none⟩ u3).setCell ⟨q, 4, none⟩ u4) :=
 ((((h.setCell hq _).setCell hq _).setCell hq _).setCell hq _).setCell hq _
theorem keep_f {w : World} {q : Nat} {c a : Option Value} (h1 : w.cell? ⟨q, 1, none⟩ = c) (h2 : w.cell? ⟨q + 2, 3, none⟩ = a) (u : Value) : (w.setCell ⟨q + 1 + 1, 4, none⟩ u).drew.cell? ⟨q, 1, none⟩ = c ∧ (w.setCell ⟨q + 1 + 1, 4, none⟩ u).drew.cell? ⟨q + 2, 3, none⟩ = a := by
 refine ⟨?_, ?_⟩
 ·show (w.setCell ⟨q + 1 + 1, 4, none⟩ u).cell? ⟨q, 1, none⟩ = c
  rw [World.cell?_setCell_other _ _ _ _ (by simp)]; exact h1
 ·show (w.setCell ⟨q + 1 + 1, 4, none⟩ u).cell? ⟨q + 2, 3, none⟩ = a
  rw [World.cell?_setCell_other _ _ _ _ (by simp)]; exact h2
/-- The world in which a slot is looked at: the state's block, the answer's, the slot's. -/
structure FIn (w W : World) (s : Bx.St) (sl en : Value) (x : Bx.Sl) : Prop where
 st : StIn W w.heap.size s sl en
 rs : StW W (w.heap.size + 1) stZ nilV nilV
 x : SlIn W (w.heap.size + 2) x
 fx : ∀ j : Nat, j < 6 → W.frozen? ⟨w.heap.size + 2, j, none⟩ = false
 bel : Below w.heap.size w W
 lt : w.heap.size + 2 < W.heap.size
theorem FIn.later {w W W' : World} {s : Bx.St} {sl en : Value} {x : Bx.Sl} (h : FIn w W s sl en x) (hb : Below W.heap.size W W') : FIn w W' s sl en x :=
 ⟨h.st.later hb, h.rs.later hb, h.x.later hb, fun j hj => (hb.frozen (p := ⟨w.heap.size + 2, j, none⟩) h.lt).trans (h.fx j hj), h.bel.trans (hb.mono h.bel.size), Nat.lt_of_lt_of_le h.lt hb.size⟩
theorem FIn.new (w : World) (s : Bx.St) (sl en : Value) (x : Bx.Sl) : FIn w (((w.alloc (stO s sl en)).alloc (stO stZ nilV nilV)).alloc (slO x)) s sl en x := by
 have b1 := below_alloc (w.alloc (stO s sl en)) (stO stZ nilV nilV)
 have b2 := below_alloc ((w.alloc (stO s sl en)).alloc (stO stZ nilV nilV)) (slO x)
 refine ⟨((StIn.new w s sl en).later b1).later b2, ?_, ?_, fun j _ => ?_, ?_, by simp⟩
 ·have := (StW.new (w.alloc (stO s sl en)) stZ nilV nilV).later b2
  simpa using this
 ·have := SlIn.new ((w.alloc (stO s sl en)).alloc (stO stZ nilV nilV)) x
  simpa using this
 ·simp [go_sem]
 ·exact ((below_alloc w _).alloc (by simp) _).alloc (by simp; omega) _

theorem FIn.upd {w W : World} {s : Bx.St} {sl en : Value} {x : Bx.Sl} (h : FIn w W s sl en x) (f a : Int) (r : Bool) :
 FIn w (((W.setCell ⟨w.heap.size + 1 + 1, 4, none⟩ (.int .i64 f)).setCell ⟨w.heap.size + 1 + 1, 3, none⟩ (.int .i64 a)).setCell ⟨w.heap.size + 1 + 1, 5, none⟩ (.bool r)).drew s sl en { x with frm := f, att := a, runs := r } := by
 obtain ⟨⟨d0, d1, d2, d3, d4⟩, ⟨⟨r0, r1, r2, r3, r4⟩, f', ty⟩, ⟨x0, x1, x2, x3, x4, x5⟩, fx, hbel, hlt⟩ := h
 refine ⟨⟨?_, ?_, ?_, ?_, ?_⟩, ⟨⟨?_, ?_, ?_, ?_, ?_⟩, fun j hj => ?_, ?_⟩, ⟨?_, ?_, ?_, ?_, ?_, ?_⟩, fun j hj => ?_, ?_, ?_⟩
 case refine_11 => simp [go_sem, f' j hj]
 case refine_12 => exact (((ty.setCell _ _ _).setCell _ _ _).setCell _ _ _).later (Below.refl _ _).drew
 case refine_19 => simp [go_sem, fx j hj]
 case refine_20 => exact (((hbel.setCell (by simp; omega) _).setCell (by simp; omega) _).setCell (by simp; omega) _).drew
 case refine_21 => simpa using hlt
 all_goals simp [go_sem, d0, d1, d2, d3, d4, r0, r1, r2, r3, r4, x0, x1, x2, x3, x4, x5]
set_option maxRecDepth 10000 in
set_option maxHeartbeats 3000000 in
theorem failed_any (s : Bx.St) (i j : Nat) (sl en : Value) (w : World) (hT : ChkR s.tab 0 0) (hl : s.slots.length ≤ 10000) (hE : s.ends.length ≤ 10000) (hi : i < s.slots.length) (hln : (Bx.slAt s i).line = (j : Int) + 1) (hj : j < tn s.tab) (c1 : -1 ≤ s.clock) (c2 : s.clock ≤ 4223371679) (ha1 : 0 ≤ (Bx.slAt s i).att) (ha2 : (Bx.slAt s i).att ≤ 1000) (hS : StAt w s sl en) :
 Calls Tryz.prog 186 #[stV s sl en, .int .i64 i] w fun e w' => (∃ sl' en', e = .returned (stV (Bx.failed s i) sl' en') ∧ StAt w' (Bx.failed s i) sl' en') ∧ Below w.heap.size w w' := by
 obtain ⟨ad, cap, rfl, hcap⟩ := hS.sl.form
 obtain ⟨ad2, cap2, rfl, hcap2⟩ := hS.en.form
 have HS : Hid (StAt w s (.slice ad s.slots.length cap) (.slice ad2 s.ends.length cap2)) := hS
 clear hS
 obtain ⟨h300, _, hlines⟩ := hT.lines
 have hLP : Hid (LineP (tl s.tab j)) := hlines _ hj
 have hLs : (tl s.tab j).size ≤ 300 := tl_sz h300 _ (by have := tn_lt s.tab; omega)
 have HT : Hid (ChkR s.tab 0 0) := hT
 have h4 := tn_le' hT
 have HFd : Hid (Bx.failed s i = if (Bx.slAt s i).att = ob (tl s.tab j) 2 - 48 then Bx.with' s (Bx.withoutL s.slots i) (Bx.slAt s i).num Bx.hA else Bx.with' s (Bx.putL s.slots i { Bx.slAt s i with frm := s.clock + Bx.delay (Bx.slAt s i).att, att := (Bx.slAt s i).att + 1, runs := false }) 0 ByteArray.empty) := by
  unfold Hid Bx.failed Bx.opt; rw [hln, show ((j : Int) + 1 - 1).toNat = j by omega]
 have Hln : Hid ((Bx.slAt s i).line = (j : Int) + 1) := hln
 clear hlines hT hln
 have b1 : (0 : Int) ≤ (i : Int) := by omega
 have b2 : (i : Int) < (s.slots.length : Int) := by omega
 have b3 : (j : Int) < (tn s.tab : Int) := by omega
 obtain ⟨b, off, cap', hv, _, hc⟩ := HS.out.sl.1.some' (by omega)
 cases hv
 have hlo : b < w.heap.size := World.block_lt_of_cell? _ _ (slot_cells hc i hi).1
 obtain ⟨x0, x1, x2, x3, x4, x5⟩ := slot_cells hc i hi
 rw [slAt_eq s i hi] at x0 x1 x2 x3 x4 x5
 have HFI : Hid (FIn w _ s (.slice (some ⟨b, off, none⟩) s.slots.length cap) (.slice ad2 s.ends.length cap2) (Bx.slAt s i)) := FIn.new w s _ _ (Bx.slAt s i)
 clear hc
 go_enter Tryz.func186, Tryz.ntmps186
 go_wp2_with fail
 clear x0 x1 x2 x3 x4 x5
 generalize ((w.alloc (stO s (.slice (some ⟨b, off, none⟩) s.slots.length cap) (.slice ad2 s.ends.length cap2))).alloc (stO stZ nilV nilV)).alloc (slO (Bx.slAt s i)) = W at *
 have HW := HFI.out
 refine (stlines_any s _ _ _ HT.out (HS.out.later HW.bel)).mono ?_
 rintro e w1 ⟨⟨bl, capl, rfl, hL⟩, hb1⟩
 have HW1 : Hid (FIn w w1 s (.slice (some ⟨b, off, none⟩) s.slots.length cap) (.slice ad2 s.ends.length cap2) (Bx.slAt s i)) := HW.later hb1
 have cl : w1.cell? ⟨bl, j, none⟩ = some (.string (tl s.tab j)) := hL _ hj
 clear HFI HW hb1 hL
 generalize Bx.slAt s i = x at *
 have x1 : w1.cell? ⟨w.heap.size + 2, 1, none⟩ = some (.int .i64 ((j : Int) + 1)) := by rw [← Hln.out]; exact HW1.out.x.c1
 go_wp2_with fail
 refine (options_any (tl s.tab j) _ hLs hLP.out).mono ?_
 rintro e w2 ⟨rfl, hb2⟩
 have HW2 : Hid (FIn w w2 s (.slice (some ⟨b, off, none⟩) s.slots.length cap) (.slice ad2 s.ends.length cap2) x) := HW1.out.later hb2
 have hlt2 := HW2.out.lt
 have hq2 : w.heap.size < w2.heap.size := by omega
 have hq3 : w.heap.size + 1 < w2.heap.size := by omega
 have hne1 : w.heap.size ≠ w.heap.size + 1 := by omega
 have hne2 : w.heap.size + 2 ≠ w.heap.size + 1 := by omega
 clear x1 cl HW1 hb2
 cases he : (x.att == ob (tl s.tab j) 2 - 48)
 ·have n1 : ¬ x.att = ob (tl s.tab j) 2 - 48 := by simpa using he
  rw [if_neg n1] at HFd
  clear n1
  obtain ⟨⟨d0, d1, d2, d3, d4⟩, _, ⟨x0, x1, x2, x3, x4, x5⟩, fx, hbel, _⟩ := HW2.out
  have g3 := fx 3 (by decide); have g4 := fx 4 (by decide); have g5 := fx 5 (by decide)
  clear fx hbel
  have hdl : 0 ≤ Bx.delay x.att ∧ Bx.delay x.att ≤ 10 := by unfold Bx.delay; split <;> (try split) <;> (try split) <;> omega
  have q1 : IntKind.i64.wrap (s.clock + Bx.delay x.att) = s.clock + Bx.delay x.att := by rw [IntKind.wrap_i64]; omega
  have q2 : IntKind.i64.wrap (x.att + 1) = x.att + 1 := by rw [IntKind.wrap_i64]; omega
  go_wp2_with fail
  go_region_held3 (fun w' => w'.cell? ⟨w.heap.size, 1, none⟩ = some (.int .i64 s.clock) ∧ w'.cell? ⟨w.heap.size + 2, 3, none⟩ = some (.int .i64 x.att)) ((first | (exact keep_f d1 x3 _) | go_keep))
   (first
    | (go_at_call 206; refine (rdelay_any x.att _).mono ?_; rintro e w3 ⟨rfl, rfl⟩))
  have HW3 := HW2.out.upd (s.clock + Bx.delay x.att) (x.att + 1) false
  go_wp2_with fail
  clear d0 d1 d2 d3 d4 x0 x1 x2 x3 x4 x5 g3 g4 g5
  generalize (((w2.setCell ⟨w.heap.size + 1 + 1, 4, none⟩ (.int .i64 (s.clock + Bx.delay x.att))).setCell ⟨w.heap.size + 1 + 1, 3, none⟩ (.int .i64 (x.att + 1))).setCell ⟨w.heap.size + 1 + 1, 5, none⟩ (.bool false)).drew = W3 at *
  generalize ({ x with frm := s.clock + Bx.delay x.att, att := x.att + 1, runs := false } : Bx.Sl) = y at *
  clear hlt2 hq2 hq3 HW2
  have hlt2 := HW3.lt
  have hq2 : w.heap.size < W3.heap.size := by omega
  have hq3 : w.heap.size + 1 < W3.heap.size := by omega
  have hq4 : w.heap.size + 1 + 1 < W3.heap.size := by omega
  obtain ⟨⟨d0, d1, d2, d3, d4⟩, ⟨⟨r0, r1, r2, r3, r4⟩, f, ty⟩, ⟨x0, x1, x2, x3, x4, x5⟩, _, hbel, _⟩ := HW3
  have f0 := f 0 (by decide); have f1 := f 1 (by decide); have f2 := f 2 (by decide); have f3 := f 3 (by decide); have f4 := f 4 (by decide)
  have HB2 : Hid (Below w.heap.size w W3) := hbel
  have HTy : Hid (Typed W3 (w.heap.size + 1) 104) := ty
  have hS2 : Hid (StAt W3 s (.slice (some ⟨b, off, none⟩) s.slots.length cap) (.slice ad2 s.ends.length cap2)) := HS.out.later hbel
  clear f hbel ty
  go_wp2_with fail
  go_region_held3 (fun w' => ∀ b o, b < W3.heap.size → b ≠ w.heap.size + 1 → w'.cell? ⟨b, o, none⟩ = W3.cell? ⟨b, o, none⟩)
   ((intro b' o' h1 h2; first | (rw [cell_set5 h2]; exact hbC.cell (p := ⟨b', o', none⟩) h1) | (exact hbC.cell (p := ⟨b', o', none⟩) h1) | (exact hbA.cell (p := ⟨b', o', none⟩) h1) | rfl))
   (first
    | (go_at_call 107; refine (put_any s i y (.slice (some ⟨b, off, none⟩) s.slots.length cap) (.slice ad2 s.ends.length cap2) _ hl ?hs).mono ?_; (case hs => exact hS2.out.later (Below.refl _ _).drew); rintro e w3 ⟨⟨v, rfl, hown⟩, hbA0⟩; have hbA : Below W3.heap.size W3 w3 := (Below.refl _ _).drew.trans hbA0)
    | (go_at_call 184; refine (with_any s (Bx.putL s.slots i y) _ 0 _ (.slice (some ⟨b, off, none⟩) s.slots.length cap) (.slice ad2 s.ends.length cap2) w3 hE ?hL ?hs).mono ?_; (case hL => exact TRow.of_own hown); (case hs => exact hS2.out.later hbA); rintro e w4 ⟨⟨en4, rfl, hst4⟩, hbC0⟩; have hbC : Below W3.heap.size W3 w4 := hbA.trans (hbC0.mono hbA.size); obtain ⟨hcC, hfC⟩ := bcell hbC; obtain ⟨ad3, cap3, rfl, hce3⟩ := hst4.sl.form; obtain ⟨ad4, cap4, rfl, hce4⟩ := hst4.en.form))
  go_wp2_with fail
  have H4 : Hid (StAt _ (Bx.with' s (Bx.putL s.slots i y) 0 { data := #[] }) _ _) := hst4.store (HTy.out.later hbC) (.string s.tab) (.int .i64 s.clock) (.int .i64 s.next) (.slice ad3 (Bx.with' s (Bx.putL s.slots i y) 0 { data := #[] }).slots.length cap3) (.slice ad4 (Bx.with' s (Bx.putL s.slots i y) 0 { data := #[] }).ends.length cap4)
  have B4 : Hid (Below w.heap.size w w4) := HB2.out.trans (hbC.mono HB2.out.size)
  refine bodyPost_ret (v := stV (Bx.with' s (Bx.putL s.slots i y) 0 { data := #[] }) (.slice ad3 (Bx.with' s (Bx.putL s.slots i y) 0 { data := #[] }).slots.length cap3) (.slice ad4 (Bx.with' s (Bx.putL s.slots i y) 0 { data := #[] }).ends.length cap4)) (by simp [results, Tryz.results186, go_sem, hcC, hq3, r0, r1, r2, r3, r4]) rfl ?_
  rw [HFd.out]
  exact ⟨⟨_, _, rfl, H4.out⟩, below_set5 B4.out (by omega) _ _ _ _ _⟩
 ·have n1 : x.att = ob (tl s.tab j) 2 - 48 := by simpa using he
  rw [if_pos n1] at HFd
  clear n1
  obtain ⟨⟨d0, d1, d2, d3, d4⟩, ⟨⟨r0, r1, r2, r3, r4⟩, f, ty⟩, ⟨x0, x1, x2, x3, x4, x5⟩, _, hbel, _⟩ := HW2.out
  have f0 := f 0 (by decide); have f1 := f 1 (by decide); have f2 := f 2 (by decide); have f3 := f 3 (by decide); have f4 := f 4 (by decide)
  have HB2 : Hid (Below w.heap.size w w2) := hbel
  have HTy : Hid (Typed w2 (w.heap.size + 1) 104) := ty
  have hS2 : Hid (StAt w2 s (.slice (some ⟨b, off, none⟩) s.slots.length cap) (.slice ad2 s.ends.length cap2)) := HS.out.later hbel
  clear f hbel
  go_wp2_with fail
  go_region_held3 (fun w' => ∀ b o, b < w2.heap.size → b ≠ w.heap.size + 1 → w'.cell? ⟨b, o, none⟩ = w2.cell? ⟨b, o, none⟩)
   ((intro b' o' h1 h2; first | (rw [cell_set5 h2]; exact hbC.cell (p := ⟨b', o', none⟩) h1) | (exact hbC.cell (p := ⟨b', o', none⟩) h1) | (exact hbA.cell (p := ⟨b', o', none⟩) h1) | rfl))
   (first
    | (go_at_call 185; refine (without_any s i (.slice (some ⟨b, off, none⟩) s.slots.length cap) (.slice ad2 s.ends.length cap2) _ hl ?hs).mono ?_; (case hs => exact hS2.out.later (Below.refl _ _).drew); rintro e w3 ⟨⟨v, rfl, hown⟩, hbA0⟩; have hbA : Below w2.heap.size w2 w3 := (Below.refl _ _).drew.trans hbA0)
    | (go_at_call 184; refine (with_any s (Bx.withoutL s.slots i) _ x.num _ (.slice (some ⟨b, off, none⟩) s.slots.length cap) (.slice ad2 s.ends.length cap2) w3 hE ?hL ?hs).mono ?_; (case hL => exact TRow.of_own hown); (case hs => exact hS2.out.later hbA); rintro e w4 ⟨⟨en4, rfl, hst4⟩, hbC0⟩; have hbC : Below w2.heap.size w2 w4 := hbA.trans (hbC0.mono hbA.size); obtain ⟨hcC, hfC⟩ := bcell hbC; obtain ⟨ad3, cap3, rfl, hce3⟩ := hst4.sl.form; obtain ⟨ad4, cap4, rfl, hce4⟩ := hst4.en.form))
  go_wp2_with fail
  have H4 : Hid (StAt _ (Bx.with' s (Bx.withoutL s.slots i) x.num { data := #[97] }) _ _) := hst4.store (HTy.out.later hbC) (.string s.tab) (.int .i64 s.clock) (.int .i64 s.next) (.slice ad3 (Bx.with' s (Bx.withoutL s.slots i) x.num { data := #[97] }).slots.length cap3) (.slice ad4 (Bx.with' s (Bx.withoutL s.slots i) x.num { data := #[97] }).ends.length cap4)
  have B4 : Hid (Below w.heap.size w w4) := HB2.out.trans (hbC.mono HB2.out.size)
  refine bodyPost_ret (v := stV (Bx.with' s (Bx.withoutL s.slots i) x.num { data := #[97] }) (.slice ad3 (Bx.with' s (Bx.withoutL s.slots i) x.num { data := #[97] }).slots.length cap3) (.slice ad4 (Bx.with' s (Bx.withoutL s.slots i) x.num { data := #[97] }).ends.length cap4)) (by simp [results, Tryz.results186, go_sem, hcC, hq3, r0, r1, r2, r3, r4]) rfl ?_
  rw [HFd.out, hA_eq]
  exact ⟨⟨_, _, rfl, H4.out⟩, below_set5 B4.out (by omega) _ _ _ _ _⟩
end Go.Proofs.YtdajolpoiffimaaGreatDoor

namespace Go.Proofs.YtdajolpoiffimaaGreatDoor
open Go.RowKit

/-- The world in which a slot is changed: the state's block, the answer's, the slot's at xq. -/
structure AIn (w W : World) (s : Bx.St) (sl en : Value) (xq : Nat) (x : Bx.Sl) : Prop where
 st : StIn W w.heap.size s sl en
 rs : StW W (w.heap.size + 1) stZ nilV nilV
 x : SlIn W xq x
 fx : ∀ j : Nat, j < 6 → W.frozen? ⟨xq, j, none⟩ = false
 bel : Below w.heap.size w W
 gt : w.heap.size + 1 < xq
 lt : xq < W.heap.size
theorem AIn.later {w W W' : World} {s : Bx.St} {sl en : Value} {xq : Nat} {x : Bx.Sl} (h : AIn w W s sl en xq x) (hb : Below W.heap.size W W') : AIn w W' s sl en xq x :=
 ⟨h.st.later hb, h.rs.later hb, h.x.later hb, fun j hj => (hb.frozen (p := ⟨xq, j, none⟩) h.lt).trans (h.fx j hj), h.bel.trans (hb.mono h.bel.size), h.gt, Nat.lt_of_lt_of_le h.lt hb.size⟩
theorem AIn.new {w W : World} {s : Bx.St} {sl en : Value} (x : Bx.Sl) (h1 : StIn W w.heap.size s sl en) (h2 : StW W (w.heap.size + 1) stZ nilV nilV) (h3 : Below w.heap.size w W) : AIn w (W.alloc (slO x)) s sl en W.heap.size x :=
 ⟨h1.later (below_alloc _ _), h2.later (below_alloc _ _), SlIn.new W x, fun j _ => by simp [go_sem], h3.alloc h3.size _, h2.ty.lt, by simp⟩
theorem AIn.run {w W : World} {s : Bx.St} {sl en : Value} {xq : Nat} {x : Bx.Sl} (h : AIn w W s sl en xq x) (r : Bool) : AIn w (W.setCell ⟨xq, 5, none⟩ (.bool r)) s sl en xq { x with runs := r } := by
 obtain ⟨⟨d0, d1, d2, d3, d4⟩, ⟨⟨r0, r1, r2, r3, r4⟩, f', ty⟩, ⟨x0, x1, x2, x3, x4, x5⟩, fx, hbel, hgt, hlt⟩ := h
 have n1 : w.heap.size ≠ xq := by omega
 have n2 : w.heap.size + 1 ≠ xq := by omega
 refine ⟨⟨?_, ?_, ?_, ?_, ?_⟩, ⟨⟨?_, ?_, ?_, ?_, ?_⟩, fun j hj => ?_, ?_⟩, ⟨?_, ?_, ?_, ?_, ?_, ?_⟩, fun j hj => ?_, ?_, hgt, ?_⟩
 case refine_11 => simp [go_sem, f' j hj]
 case refine_12 => exact ty.setCell _ _ _
 case refine_19 => simp [go_sem, fx j hj]
 case refine_20 => exact hbel.setCell (by simp; omega) _
 case refine_21 => simpa using hlt
 all_goals simp [go_sem, d0, d1, d2, d3, d4, r0, r1, r2, r3, r4, x0, x1, x2, x3, x4, x5]
set_option maxRecDepth 10000 in
set_option maxHeartbeats 4000000 in
theorem about_any (s : Bx.St) (kind n : Int) (sl en : Value) (w : World) (hO : Bx.StOk s) (hS : StAt w s sl en) :
 Calls Tryz.prog 153 #[stV s sl en, .int .u8 kind, .int .i64 n] w fun e w' => (∃ sl' en', e = .returned (.tuple #[stV (Bx.aboutP s kind n).1 sl' en', .bool (Bx.aboutP s kind n).2]) ∧ StAt w' (Bx.aboutP s kind n).1 sl' en') ∧ Below w.heap.size w w' := by
 obtain ⟨ad, cap, rfl, hcap⟩ := hS.sl.form
 obtain ⟨ad2, cap2, rfl, hcap2⟩ := hS.en.form
 have HS : Hid (StAt w s (.slice ad s.slots.length cap) (.slice ad2 s.ends.length cap2)) := hS
 have HO : Hid (Bx.StOk s) := hO
 have hl : s.slots.length ≤ 10000 := by have := hO.sl; omega
 have hE : s.ends.length ≤ 10000 := by have := hO.en; omega
 have hc1 := hO.c1
 have hc2 := hO.c2
 have b0 := below_alloc w (stO s (.slice ad s.slots.length cap) (.slice ad2 s.ends.length cap2))
 have b1 := below_alloc (w.alloc (stO s (.slice ad s.slots.length cap) (.slice ad2 s.ends.length cap2))) (stO stZ nilV nilV)
 have A1 : StIn ((w.alloc (stO s (.slice ad s.slots.length cap) (.slice ad2 s.ends.length cap2))).alloc (stO stZ nilV nilV)) w.heap.size s (.slice ad s.slots.length cap) (.slice ad2 s.ends.length cap2) := (StIn.new w s _ _).later b1
 have A2 : StW ((w.alloc (stO s (.slice ad s.slots.length cap) (.slice ad2 s.ends.length cap2))).alloc (stO stZ nilV nilV)) (w.heap.size + 1) stZ nilV nilV := by
  have := StW.new (w.alloc (stO s (.slice ad s.slots.length cap) (.slice ad2 s.ends.length cap2))) stZ nilV nilV
  simpa using this
 have A4 : Below w.heap.size w ((w.alloc (stO s (.slice ad s.slots.length cap) (.slice ad2 s.ends.length cap2))).alloc (stO stZ nilV nilV)) := b0.trans (b1.mono (by simp))
 clear hS b0 b1 hO
 obtain ⟨F, hF⟩ : ∃ F : Int, F = Bx.find s n := ⟨_, rfl⟩
 have HF : Hid (F = Bx.find s n) := hF
 have hF1 : -1 ≤ F ∧ F < s.slots.length := by rw [hF]; exact find_bd s n
 have HP : Hid (Bx.aboutP s kind n = if F < 0 then (s, false)
  else if kind = 75 then (Bx.with' s (Bx.withoutL s.slots F) n Bx.hK, true)
  else if kind = 83 then (if (Bx.slAt s F.toNat).runs = true ∨ s.clock < (Bx.slAt s F.toNat).frm ∨ Bx.locked s F.toNat = true then (s, false) else (Bx.with' s (Bx.putL s.slots F { Bx.slAt s F.toNat with runs := true }) 0 ByteArray.empty, true))
  else if kind = 68 then (Bx.with' s (Bx.withoutL s.slots F) n Bx.hD, (Bx.slAt s F.toNat).runs)
  else if kind = 70 then (Bx.failed s F.toNat, (Bx.slAt s F.toNat).runs)
  else (s, false)) := by rw [hF]; rfl
 clear hF
 go_enter Tryz.func153, Tryz.ntmps153
 go_wp2_with fail
 generalize (w.alloc (stO s (.slice ad s.slots.length cap) (.slice ad2 s.ends.length cap2))).alloc (stO stZ nilV nilV) = W at *
 refine (find_any s n _ _ _ hl (HS.out.later A4)).mono ?_
 rintro e w1 ⟨rfl, hb1⟩
 rw [← HF.out]
 have B1 : Hid (StIn w1 w.heap.size s (.slice ad s.slots.length cap) (.slice ad2 s.ends.length cap2)) := A1.later hb1
 have B2 : Hid (StW w1 (w.heap.size + 1) stZ nilV nilV) := A2.later hb1
 have B4 : Hid (Below w.heap.size w w1) := A4.trans (hb1.mono A4.size)
 clear A1 A2 A4 hb1
 by_cases hneg : F < 0
 ·have HP' : Hid (Bx.aboutP s kind n = (s, false)) := by unfold Hid; rw [HP.out, if_pos hneg]
  have R4 : Hid (StAt _ s (.slice ad s.slots.length cap) (.slice ad2 s.ends.length cap2)) := (HS.out.later B4.out).store B2.out.ty (.string s.tab) (.int .i64 s.clock) (.int .i64 s.next) (.slice ad s.slots.length cap) (.slice ad2 s.ends.length cap2)
  obtain ⟨c0, c1, c2, c3, c4⟩ := B1.out
  obtain ⟨⟨r0, r1, r2, r3, r4⟩, f, _⟩ := B2.out
  have f0 := f 0 (by decide); have f1 := f 1 (by decide); have f2 := f 2 (by decide); have f3 := f 3 (by decide); have f4 := f 4 (by decide)
  clear f HP
  go_wp2_with fail
  refine bodyPost_ret (v := .tuple #[stV s (.slice ad s.slots.length cap) (.slice ad2 s.ends.length cap2), .bool false]) (by simp [results, Tryz.results153, go_sem, r0, r1, r2, r3, r4]) rfl ?_
  rw [HP'.out]
  refine ⟨⟨_, _, rfl, R4.out⟩, ?_⟩
  repeat (refine Below.setCell ?_ (by simp) _)
  exact B4.out
 rw [if_neg hneg] at HP
 obtain ⟨i, hiF⟩ : ∃ i : Nat, F = i := Int.eq_ofNat_of_zero_le (by omega)
 subst hiF
 simp only [Int.toNat_natCast] at HP
 have hi : i < s.slots.length := by omega
 clear hF1
 have hSx := HO.out.each s.slots[i] (List.getElem_mem _)
 have hS5 := HO.out.att5 (List.getElem_mem hi)
 rw [slAt_eq s i hi] at hSx hS5
 obtain ⟨j, hjj⟩ : ∃ j : Nat, (Bx.slAt s i).line = (j : Int) + 1 := ⟨((Bx.slAt s i).line - 1).toNat, by omega⟩
 have Hln : Hid ((Bx.slAt s i).line = (j : Int) + 1) := hjj
 have hj : j < tn s.tab := by omega
 have ha1 : 0 ≤ (Bx.slAt s i).att ∧ (Bx.slAt s i).att ≤ 1000 := by omega
 clear hSx hjj hS5
 have z1 : (0 : Int) ≤ (i : Int) := by omega
 have z2 : (i : Int) < (s.slots.length : Int) := by omega
 obtain ⟨b, off, cap', hv, _, hc⟩ := (HS.out.later B4.out).sl.1.some' (by omega)
 cases hv
 obtain ⟨y0, y1, y2, y3, y4, y5⟩ := slot_cells hc i hi
 rw [slAt_eq s i hi] at y0 y1 y2 y3 y4 y5
 have HA : Hid (AIn w _ s (.slice (some ⟨b, off, none⟩) s.slots.length cap) (.slice ad2 s.ends.length cap2) w1.heap.size (Bx.slAt s i)) := AIn.new (Bx.slAt s i) B1.out B2.out B4.out
 have c3 := B1.out.c3
 clear hc B1 B2 B4
 have hx5 : ∀ t, Hid (StAt t s (.slice (some ⟨b, off, none⟩) s.slots.length cap) (.slice ad2 s.ends.length cap2)) → True := fun _ _ => trivial
 clear hx5
 go_upto_region 5 with fail
 clear y0 y1 y2 y3 y4 y5 c3
 generalize w1.alloc (slO (Bx.slAt s i)) = W2 at *
 generalize w1.heap.size = xq at *
 have hgt := HA.out.gt
 have hlt := HA.out.lt
 have HB2 : Hid (Below w.heap.size w W2) := HA.out.bel
 have hq2 : w.heap.size < W2.heap.size := by omega
 have hq3 : w.heap.size + 1 < W2.heap.size := by omega
 have hne1 : w.heap.size ≠ w.heap.size + 1 := by omega
 have hne2 : xq ≠ w.heap.size + 1 := by omega
 have HTy : Hid (Typed W2 (w.heap.size + 1) 104) := HA.out.rs.ty
 have hS2 : Hid (StAt W2 s (.slice (some ⟨b, off, none⟩) s.slots.length cap) (.slice ad2 s.ends.length cap2)) := HS.out.later HA.out.bel
 cases k1 : (kind == 75)
 ·have m1 : ¬ kind = 75 := by simpa using k1
  rw [if_neg m1] at HP
  clear m1
  cases k2 : (kind == 83)
  ·have m2 : ¬ kind = 83 := by simpa using k2
   rw [if_neg m2] at HP
   clear m2
   cases k3 : (kind == 68)
   ·have m3 : ¬ kind = 68 := by simpa using k3
    rw [if_neg m3] at HP
    clear m3
    cases k4 : (kind == 70)
    ·have m4 : ¬ kind = 70 := by simpa using k4
     rw [if_neg m4] at HP
     clear m4
     obtain ⟨⟨d0, d1, d2, d3, d4⟩, ⟨⟨r0, r1, r2, r3, r4⟩, f, _⟩, ⟨x0, x1, x2, x3, x4, x5⟩, fx, _, _, _⟩ := HA.out
     have f0 := f 0 (by decide); have f1 := f 1 (by decide); have f2 := f 2 (by decide); have f3 := f 3 (by decide); have f4 := f 4 (by decide)
     have g5 := fx 5 (by decide)
     clear f fx
     have R4 : Hid (StAt _ s (.slice (some ⟨b, off, none⟩) s.slots.length cap) (.slice ad2 s.ends.length cap2)) := hS2.out.store HTy.out (.string s.tab) (.int .i64 s.clock) (.int .i64 s.next) (.slice (some ⟨b, off, none⟩) s.slots.length cap) (.slice ad2 s.ends.length cap2)
     go_wp2_with fail
     refine bodyPost_ret (v := .tuple #[stV s (.slice (some ⟨b, off, none⟩) s.slots.length cap) (.slice ad2 s.ends.length cap2), .bool false]) (by simp [results, Tryz.results153, go_sem, r0, r1, r2, r3, r4]) rfl ?_
     rw [HP.out]
     exact ⟨⟨_, _, rfl, R4.out⟩, below_set5 HB2.out (by omega) _ _ _ _ _⟩
    ·have m4 : kind = 70 := by simpa using k4
     rw [if_pos m4] at HP
     clear m4
     obtain ⟨⟨d0, d1, d2, d3, d4⟩, ⟨⟨r0, r1, r2, r3, r4⟩, f, _⟩, ⟨x0, x1, x2, x3, x4, x5⟩, fx, _, _, _⟩ := HA.out
     have f0 := f 0 (by decide); have f1 := f 1 (by decide); have f2 := f 2 (by decide); have f3 := f 3 (by decide); have f4 := f 4 (by decide)
     have g5 := fx 5 (by decide)
     clear f fx
     go_wp2_with fail
     go_region_held3 (fun w' => ∀ b o, b < W2.heap.size → b ≠ w.heap.size + 1 → w'.cell? ⟨b, o, none⟩ = W2.cell? ⟨b, o, none⟩)
      ((intro b' o' h1 h2; first | (rw [cell_set5 h2]; exact hbC.cell (p := ⟨b', o', none⟩) h1) | (exact hbC.cell (p := ⟨b', o', none⟩) h1) | (exact hbA.cell (p := ⟨b', o', none⟩) h1) | rfl))
      (first
       | (go_at_call 186; refine (failed_any s i j (.slice (some ⟨b, off, none⟩) s.slots.length cap) (.slice ad2 s.ends.length cap2) _ HO.out.tab hl hE hi Hln.out hj hc1 hc2 ha1.1 ha1.2 ?hs).mono ?_; (case hs => exact hS2.out.later (Below.refl _ _).drew); rintro e w4 ⟨⟨sl4, en4, rfl, hst4⟩, hbC0⟩; have hbC : Below W2.heap.size W2 w4 := (Below.refl _ _).drew.trans hbC0; obtain ⟨hcC, hfC⟩ := bcell hbC; obtain ⟨ad3, cap3, rfl, hce3⟩ := hst4.sl.form; obtain ⟨ad4, cap4, rfl, hce4⟩ := hst4.en.form))
     go_wp2_with fail
     have H4 : Hid (StAt _ (Bx.failed s i) _ _) := hst4.store (HTy.out.later hbC) (.string (Bx.failed s i).tab) (.int .i64 (Bx.failed s i).clock) (.int .i64 (Bx.failed s i).next) (.slice ad3 (Bx.failed s i).slots.length cap3) (.slice ad4 (Bx.failed s i).ends.length cap4)
     have B4 : Hid (Below w.heap.size w w4) := HB2.out.trans (hbC.mono HB2.out.size)
     refine bodyPost_ret (v := .tuple #[stV (Bx.failed s i) (.slice ad3 (Bx.failed s i).slots.length cap3) (.slice ad4 (Bx.failed s i).ends.length cap4), .bool (Bx.slAt s i).runs]) (by simp [results, Tryz.results153, go_sem, hcC, hq3, r0, r1, r2, r3, r4]) rfl ?_
     rw [HP.out]
     exact ⟨⟨_, _, rfl, H4.out⟩, below_set5 B4.out (by omega) _ _ _ _ _⟩
   ·have m3 : kind = 68 := by simpa using k3
    rw [if_pos m3, hD_eq] at HP
    clear m3
    obtain ⟨⟨d0, d1, d2, d3, d4⟩, ⟨⟨r0, r1, r2, r3, r4⟩, f, _⟩, ⟨x0, x1, x2, x3, x4, x5⟩, fx, _, _, _⟩ := HA.out
    have f0 := f 0 (by decide); have f1 := f 1 (by decide); have f2 := f 2 (by decide); have f3 := f 3 (by decide); have f4 := f 4 (by decide)
    have g5 := fx 5 (by decide)
    clear f fx
    go_wp2_with fail
    go_region_held3 (fun w' => ∀ b o, b < W2.heap.size → b ≠ w.heap.size + 1 → w'.cell? ⟨b, o, none⟩ = W2.cell? ⟨b, o, none⟩)
     ((intro b' o' h1 h2; first | (rw [cell_set5 h2]; exact hbC.cell (p := ⟨b', o', none⟩) h1) | (exact hbC.cell (p := ⟨b', o', none⟩) h1) | (exact hbA.cell (p := ⟨b', o', none⟩) h1) | rfl))
     (first
      | (go_at_call 185; refine (without_any s i (.slice (some ⟨b, off, none⟩) s.slots.length cap) (.slice ad2 s.ends.length cap2) _ hl ?hs).mono ?_; (case hs => exact hS2.out.later (Below.refl _ _).drew); rintro e w3 ⟨⟨v, rfl, hown⟩, hbA0⟩; have hbA : Below W2.heap.size W2 w3 := (Below.refl _ _).drew.trans hbA0)
      | (go_at_call 184; refine (with_any s (Bx.withoutL s.slots i) _ n _ (.slice (some ⟨b, off, none⟩) s.slots.length cap) (.slice ad2 s.ends.length cap2) w3 hE ?hL ?hs).mono ?_; (case hL => exact TRow.of_own hown); (case hs => exact hS2.out.later hbA); rintro e w4 ⟨⟨en4, rfl, hst4⟩, hbC0⟩; have hbC : Below W2.heap.size W2 w4 := hbA.trans (hbC0.mono hbA.size); obtain ⟨hcC, hfC⟩ := bcell hbC; obtain ⟨ad3, cap3, rfl, hce3⟩ := hst4.sl.form; obtain ⟨ad4, cap4, rfl, hce4⟩ := hst4.en.form))
    go_wp2_with fail
    have H4 : Hid (StAt _ (Bx.with' s (Bx.withoutL s.slots i) n { data := #[100] }) _ _) := hst4.store (HTy.out.later hbC) (.string (Bx.with' s (Bx.withoutL s.slots i) n { data := #[100] }).tab) (.int .i64 (Bx.with' s (Bx.withoutL s.slots i) n { data := #[100] }).clock) (.int .i64 (Bx.with' s (Bx.withoutL s.slots i) n { data := #[100] }).next) (.slice ad3 (Bx.with' s (Bx.withoutL s.slots i) n { data := #[100] }).slots.length cap3) (.slice ad4 (Bx.with' s (Bx.withoutL s.slots i) n { data := #[100] }).ends.length cap4)
    have B4 : Hid (Below w.heap.size w w4) := HB2.out.trans (hbC.mono HB2.out.size)
    refine bodyPost_ret (v := .tuple #[stV (Bx.with' s (Bx.withoutL s.slots i) n { data := #[100] }) (.slice ad3 (Bx.with' s (Bx.withoutL s.slots i) n { data := #[100] }).slots.length cap3) (.slice ad4 (Bx.with' s (Bx.withoutL s.slots i) n { data := #[100] }).ends.length cap4), .bool (Bx.slAt s i).runs]) (by simp [results, Tryz.results153, go_sem, hcC, hq3, r0, r1, r2, r3, r4]) rfl ?_
    rw [HP.out]
    exact ⟨⟨_, _, rfl, H4.out⟩, below_set5 B4.out (by omega) _ _ _ _ _⟩
  ·have m2 : kind = 83 := by simpa using k2
   rw [if_pos m2] at HP
   clear m2
   obtain ⟨⟨d0, d1, d2, d3, d4⟩, ⟨⟨r0, r1, r2, r3, r4⟩, f, _⟩, ⟨x0, x1, x2, x3, x4, x5⟩, fx, _, _, _⟩ := HA.out
   have f0 := f 0 (by decide); have f1 := f 1 (by decide); have f2 := f 2 (by decide); have f3 := f 3 (by decide); have f4 := f 4 (by decide)
   have g5 := fx 5 (by decide)
   clear f fx
   go_wp2_with fail
   refine (locked_any s i j (.slice (some ⟨b, off, none⟩) s.slots.length cap) (.slice ad2 s.ends.length cap2) _ HO.out.tab hl hi Hln.out hj hS2.out).mono ?_
   rintro e w5 ⟨rfl, hb5⟩
   clear d0 d1 d2 d3 d4 r0 r1 r2 r3 r4 x0 x1 x2 x3 x4 x5 f0 f1 f2 f3 f4 g5
   have HA5 : Hid (AIn w w5 s (.slice (some ⟨b, off, none⟩) s.slots.length cap) (.slice ad2 s.ends.length cap2) xq (Bx.slAt s i)) := HA.out.later hb5
   have hS5 : Hid (StAt w5 s (.slice (some ⟨b, off, none⟩) s.slots.length cap) (.slice ad2 s.ends.length cap2)) := hS2.out.later hb5
   have HTy5 : Hid (Typed w5 (w.heap.size + 1) 104) := HTy.out.later hb5
   have HB5 : Hid (Below w.heap.size w w5) := HA5.out.bel
   have hlt5 := HA5.out.lt
   clear HA hS2 HTy HB2 hb5 hq2 hq3 hlt
   have hq2 : w.heap.size < w5.heap.size := by omega
   have hq3 : w.heap.size + 1 < w5.heap.size := by omega
   obtain ⟨⟨d0, d1, d2, d3, d4⟩, ⟨⟨r0, r1, r2, r3, r4⟩, f, _⟩, ⟨x0, x1, x2, x3, x4, x5⟩, fx, _, _, _⟩ := HA5.out
   have f0 := f 0 (by decide); have f1 := f 1 (by decide); have f2 := f 2 (by decide); have f3 := f 3 (by decide); have f4 := f 4 (by decide)
   have g5 := fx 5 (by decide)
   clear f fx
   generalize Bx.locked s i = lk at *
   generalize Bx.slAt s i = x at *
   cases e1 : x.runs
   ·by_cases e2 : s.clock < x.frm
    ·have HP' : Hid (Bx.aboutP s kind n = (s, false)) := by unfold Hid; rw [HP.out, if_pos (Or.inr (Or.inl e2))]
     rw [e1] at x5
     have R4 : Hid (StAt _ s (.slice (some ⟨b, off, none⟩) s.slots.length cap) (.slice ad2 s.ends.length cap2)) := hS5.out.store HTy5.out (.string s.tab) (.int .i64 s.clock) (.int .i64 s.next) (.slice (some ⟨b, off, none⟩) s.slots.length cap) (.slice ad2 s.ends.length cap2)
     go_wp2_with fail
     refine bodyPost_ret (v := .tuple #[stV s (.slice (some ⟨b, off, none⟩) s.slots.length cap) (.slice ad2 s.ends.length cap2), .bool false]) (by simp [results, Tryz.results153, go_sem, r0, r1, r2, r3, r4]) rfl ?_
     rw [HP'.out]
     exact ⟨⟨_, _, rfl, R4.out⟩, below_set5 HB5.out (by omega) _ _ _ _ _⟩
    ·cases lk
     ·have HP' : Hid (Bx.aboutP s kind n = (Bx.with' s (Bx.putL s.slots i { x with runs := true }) 0 ByteArray.empty, true)) := by
       unfold Hid; rw [HP.out, if_neg (by rw [e1]; simp; omega)]
      rw [e1] at x5
      have HA6 := HA5.out.run true
      go_upto_region 13 with fail
      clear d0 d1 d2 d3 d4 r0 r1 r2 r3 r4 x0 x1 x2 x3 x4 x5 f0 f1 f2 f3 f4 g5 hq2 hq3 hlt5 HA5
      have hS6 : Hid (StAt (w5.setCell ⟨xq, 5, none⟩ (.bool true)) s (.slice (some ⟨b, off, none⟩) s.slots.length cap) (.slice ad2 s.ends.length cap2)) := HS.out.later HA6.bel
      generalize w5.setCell ⟨xq, 5, none⟩ (.bool true) = W6 at *
      generalize ({ x with runs := true } : Bx.Sl) = y at *
      have HTy6 : Hid (Typed W6 (w.heap.size + 1) 104) := HA6.rs.ty
      have HB6 : Hid (Below w.heap.size w W6) := HA6.bel
      have hlt6 := HA6.lt
      have hq2 : w.heap.size < W6.heap.size := by omega
      have hq3 : w.heap.size + 1 < W6.heap.size := by omega
      obtain ⟨⟨d0, d1, d2, d3, d4⟩, ⟨⟨r0, r1, r2, r3, r4⟩, f, _⟩, ⟨x0, x1, x2, x3, x4, x5⟩, fx, _, _, _⟩ := HA6
      have f0 := f 0 (by decide); have f1 := f 1 (by decide); have f2 := f 2 (by decide); have f3 := f 3 (by decide); have f4 := f 4 (by decide)
      have g5 := fx 5 (by decide)
      clear f fx
      go_region_held3 (fun w' => ∀ b o, b < W6.heap.size → b ≠ w.heap.size + 1 → w'.cell? ⟨b, o, none⟩ = W6.cell? ⟨b, o, none⟩)
       ((intro b' o' h1 h2; first | (rw [cell_set5 h2]; exact hbC.cell (p := ⟨b', o', none⟩) h1) | (exact hbC.cell (p := ⟨b', o', none⟩) h1) | (exact hbA.cell (p := ⟨b', o', none⟩) h1) | rfl))
       (first
        | (go_at_call 107; refine (put_any s i y (.slice (some ⟨b, off, none⟩) s.slots.length cap) (.slice ad2 s.ends.length cap2) _ hl ?hs).mono ?_; (case hs => exact hS6.out.later (Below.refl _ _).drew); rintro e w3 ⟨⟨v, rfl, hown⟩, hbA0⟩; have hbA : Below W6.heap.size W6 w3 := (Below.refl _ _).drew.trans hbA0)
        | (go_at_call 184; refine (with_any s (Bx.putL s.slots i y) _ 0 _ (.slice (some ⟨b, off, none⟩) s.slots.length cap) (.slice ad2 s.ends.length cap2) w3 hE ?hL ?hs).mono ?_; (case hL => exact TRow.of_own hown); (case hs => exact hS6.out.later hbA); rintro e w4 ⟨⟨en4, rfl, hst4⟩, hbC0⟩; have hbC : Below W6.heap.size W6 w4 := hbA.trans (hbC0.mono hbA.size); obtain ⟨hcC, hfC⟩ := bcell hbC; obtain ⟨ad3, cap3, rfl, hce3⟩ := hst4.sl.form; obtain ⟨ad4, cap4, rfl, hce4⟩ := hst4.en.form))
      go_wp2_with fail
      have H4 : Hid (StAt _ (Bx.with' s (Bx.putL s.slots i y) 0 { data := #[] }) _ _) := hst4.store (HTy6.out.later hbC) (.string (Bx.with' s (Bx.putL s.slots i y) 0 { data := #[] }).tab) (.int .i64 (Bx.with' s (Bx.putL s.slots i y) 0 { data := #[] }).clock) (.int .i64 (Bx.with' s (Bx.putL s.slots i y) 0 { data := #[] }).next) (.slice ad3 (Bx.with' s (Bx.putL s.slots i y) 0 { data := #[] }).slots.length cap3) (.slice ad4 (Bx.with' s (Bx.putL s.slots i y) 0 { data := #[] }).ends.length cap4)
      have B4 : Hid (Below w.heap.size w w4) := HB6.out.trans (hbC.mono HB6.out.size)
      refine bodyPost_ret (v := .tuple #[stV (Bx.with' s (Bx.putL s.slots i y) 0 { data := #[] }) (.slice ad3 (Bx.with' s (Bx.putL s.slots i y) 0 { data := #[] }).slots.length cap3) (.slice ad4 (Bx.with' s (Bx.putL s.slots i y) 0 { data := #[] }).ends.length cap4), .bool true]) (by simp [results, Tryz.results153, go_sem, hcC, hq3, r0, r1, r2, r3, r4]) rfl ?_
      rw [HP'.out]
      exact ⟨⟨_, _, rfl, H4.out⟩, below_set5 B4.out (by omega) _ _ _ _ _⟩
     ·have HP' : Hid (Bx.aboutP s kind n = (s, false)) := by unfold Hid; rw [HP.out, if_pos (Or.inr (Or.inr rfl))]
      rw [e1] at x5
      have R4 : Hid (StAt _ s (.slice (some ⟨b, off, none⟩) s.slots.length cap) (.slice ad2 s.ends.length cap2)) := hS5.out.store HTy5.out (.string s.tab) (.int .i64 s.clock) (.int .i64 s.next) (.slice (some ⟨b, off, none⟩) s.slots.length cap) (.slice ad2 s.ends.length cap2)
      go_wp2_with fail
      refine bodyPost_ret (v := .tuple #[stV s (.slice (some ⟨b, off, none⟩) s.slots.length cap) (.slice ad2 s.ends.length cap2), .bool false]) (by simp [results, Tryz.results153, go_sem, r0, r1, r2, r3, r4]) rfl ?_
      rw [HP'.out]
      exact ⟨⟨_, _, rfl, R4.out⟩, below_set5 HB5.out (by omega) _ _ _ _ _⟩
   ·have HP' : Hid (Bx.aboutP s kind n = (s, false)) := by unfold Hid; rw [HP.out, if_pos (Or.inl e1)]
    rw [e1] at x5
    have R4 : Hid (StAt _ s (.slice (some ⟨b, off, none⟩) s.slots.length cap) (.slice ad2 s.ends.length cap2)) := hS5.out.store HTy5.out (.string s.tab) (.int .i64 s.clock) (.int .i64 s.next) (.slice (some ⟨b, off, none⟩) s.slots.length cap) (.slice ad2 s.ends.length cap2)
    go_wp2_with fail
    refine bodyPost_ret (v := .tuple #[stV s (.slice (some ⟨b, off, none⟩) s.slots.length cap) (.slice ad2 s.ends.length cap2), .bool false]) (by simp [results, Tryz.results153, go_sem, r0, r1, r2, r3, r4]) rfl ?_
    rw [HP'.out]
    exact ⟨⟨_, _, rfl, R4.out⟩, below_set5 HB5.out (by omega) _ _ _ _ _⟩
 ·have m1 : kind = 75 := by simpa using k1
  rw [if_pos m1, hK_eq] at HP
  clear m1
  obtain ⟨⟨d0, d1, d2, d3, d4⟩, ⟨⟨r0, r1, r2, r3, r4⟩, f, _⟩, ⟨x0, x1, x2, x3, x4, x5⟩, fx, _, _, _⟩ := HA.out
  have f0 := f 0 (by decide); have f1 := f 1 (by decide); have f2 := f 2 (by decide); have f3 := f 3 (by decide); have f4 := f 4 (by decide)
  have g5 := fx 5 (by decide)
  clear f fx
  go_wp2_with fail
  go_region_held3 (fun w' => ∀ b o, b < W2.heap.size → b ≠ w.heap.size + 1 → w'.cell? ⟨b, o, none⟩ = W2.cell? ⟨b, o, none⟩)
   ((intro b' o' h1 h2; first | (rw [cell_set5 h2]; exact hbC.cell (p := ⟨b', o', none⟩) h1) | (exact hbC.cell (p := ⟨b', o', none⟩) h1) | (exact hbA.cell (p := ⟨b', o', none⟩) h1) | rfl))
   (first
    | (go_at_call 185; refine (without_any s i (.slice (some ⟨b, off, none⟩) s.slots.length cap) (.slice ad2 s.ends.length cap2) _ hl ?hs).mono ?_; (case hs => exact hS2.out.later (Below.refl _ _).drew); rintro e w3 ⟨⟨v, rfl, hown⟩, hbA0⟩; have hbA : Below W2.heap.size W2 w3 := (Below.refl _ _).drew.trans hbA0)
    | (go_at_call 184; refine (with_any s (Bx.withoutL s.slots i) _ n _ (.slice (some ⟨b, off, none⟩) s.slots.length cap) (.slice ad2 s.ends.length cap2) w3 hE ?hL ?hs).mono ?_; (case hL => exact TRow.of_own hown); (case hs => exact hS2.out.later hbA); rintro e w4 ⟨⟨en4, rfl, hst4⟩, hbC0⟩; have hbC : Below W2.heap.size W2 w4 := hbA.trans (hbC0.mono hbA.size); obtain ⟨hcC, hfC⟩ := bcell hbC; obtain ⟨ad3, cap3, rfl, hce3⟩ := hst4.sl.form; obtain ⟨ad4, cap4, rfl, hce4⟩ := hst4.en.form))
  go_wp2_with fail
  have H4 : Hid (StAt _ (Bx.with' s (Bx.withoutL s.slots i) n { data := #[107] }) _ _) := hst4.store (HTy.out.later hbC) (.string (Bx.with' s (Bx.withoutL s.slots i) n { data := #[107] }).tab) (.int .i64 (Bx.with' s (Bx.withoutL s.slots i) n { data := #[107] }).clock) (.int .i64 (Bx.with' s (Bx.withoutL s.slots i) n { data := #[107] }).next) (.slice ad3 (Bx.with' s (Bx.withoutL s.slots i) n { data := #[107] }).slots.length cap3) (.slice ad4 (Bx.with' s (Bx.withoutL s.slots i) n { data := #[107] }).ends.length cap4)
  have B4 : Hid (Below w.heap.size w w4) := HB2.out.trans (hbC.mono HB2.out.size)
  refine bodyPost_ret (v := .tuple #[stV (Bx.with' s (Bx.withoutL s.slots i) n { data := #[107] }) (.slice ad3 (Bx.with' s (Bx.withoutL s.slots i) n { data := #[107] }).slots.length cap3) (.slice ad4 (Bx.with' s (Bx.withoutL s.slots i) n { data := #[107] }).ends.length cap4), .bool true]) (by simp [results, Tryz.results153, go_sem, hcC, hq3, r0, r1, r2, r3, r4]) rfl ?_
  rw [HP.out]
  exact ⟨⟨_, _, rfl, H4.out⟩, below_set5 B4.out (by omega) _ _ _ _ _⟩
end Go.Proofs.YtdajolpoiffimaaGreatDoor

namespace Go.Proofs.YtdajolpoiffimaaGreatDoor
open Go.RowKit

theorem u32_div (b j : Nat) (hb : b < 256) : ((b : Int) % 4294967296 / 2 ^ j) = ((b / 2 ^ j : Nat) : Int) := by
 have e : (b : Int) % 4294967296 = (b : Int) := by omega
 rw [e]; push_cast; rfl
theorem u32_bit (b j c : Nat) (hb : b < 256) (hc : c < 4294967296) : bits .xor .u32 (c : Int) ((b : Int) % 4294967296 / 2 ^ j) = ((c ^^^ (b / 2 ^ j) : Nat) : Int) := by
 rw [u32_div b j hb]
 exact u32_xor_nat c _ hc (Nat.lt_of_le_of_lt (Nat.div_le_self _ _) (by omega))
theorem u32_poly (c : Nat) (hc : c < 4294967296) : bits .xor .u32 ((c : Int) / 2) 3988292384 = ((c / 2 ^^^ Crc.poly : Nat) : Int) := by
 have := u32_xor_nat (c / 2) Crc.poly (by omega) (by decide)
 have e : ((Crc.poly : Nat) : Int) = 3988292384 := rfl
 rw [e] at this; simpa using this

set_option maxHeartbeats 400000 in
theorem rsum_any (s : ByteArray) (w : World) (hs : s.size ≤ maxLen) :
 Calls Tryz.prog 109 #[.string s] w fun e w' => e = .returned (.int .i64 (Crc.sumR s)) ∧ w' = w := by
 unfold maxLen at hs
 go_enter Tryz.func109, Tryz.ntmps109
 go_wp2_with fail
 go_loop [3, 4] (fun c i => ∃ (k : Nat), k ≤ s.size ∧ i = .int .i64 k ∧ c = .int .u32 (Crc.crc (s.data.toList.take k) : Int)) (fun _ i => s.size - (intOf i).toNat)
 case atStart => exact ⟨0, Nat.zero_le _, rfl, rfl⟩
 case round =>
  obtain ⟨k, hk, rfl, rfl⟩ := hrel
  obtain ⟨x, hx⟩ : ∃ x : Nat, x = Crc.crc (s.data.toList.take k) := ⟨_, rfl⟩
  have hx1 : x < 4294967296 := by rw [hx]; exact Crc.crc_lt _
  have HX : Hid (x = Crc.crc (s.data.toList.take k)) := hx
  rw [← hx]
  clear hx
  by_cases hlt : k < s.size
  ·have HB : Hid (Crc.crc (s.data.toList.take (k + 1)) = Crc.bitsK s[k].toNat x 8) := by unfold Hid; rw [Crc.crc_step s k hlt, ← HX.out]; rfl
   go_wp2_with fail
   go_loop [3, 5] (fun c i => ∃ (j : Nat), j ≤ 8 ∧ i = .int .i64 j ∧ c = .int .u32 (Crc.bitsK s[k].toNat x j : Int)) (fun _ i => 8 - (intOf i).toNat)
   case atStart => exact ⟨0, Nat.zero_le _, rfl, rfl⟩
   case round =>
    obtain ⟨j, hj, rfl, rfl⟩ := hrel
    obtain ⟨c, hc⟩ : ∃ c : Nat, c = Crc.bitsK s[k].toNat x j := ⟨_, rfl⟩
    have hc1 : c < 4294967296 := by rw [hc]; exact Crc.bitsK_lt hx1 j
    have HC : Hid (c = Crc.bitsK s[k].toNat x j) := hc
    rw [← hc]
    clear hc
    by_cases hjlt : j < 8
    ·have hb := s[k].toNat_lt
     have U := u32_bit s[k].toNat j c (by omega) hc1
     have HS : Hid (Crc.bitsK s[k].toNat x (j + 1) = Crc.bitStep s[k].toNat j c) := by unfold Hid; rw [HC.out]; rfl
     by_cases q : (c ^^^ (s[k].toNat / 2 ^ j)) % 2 = 1
     ·have t : ((bits .xor .u32 (c : Int) ((s[k].toNat : Int) % 4294967296 / 2 ^ j)).tmod 2 == 1) = true := by
       rw [U, Int.tmod_eq_emod_of_nonneg (by omega)]; simp; omega
      have P : Hid (bits .xor .u32 ((c : Int) / 2) 3988292384 = (Crc.bitsK s[k].toNat x (j + 1) : Int)) := by
       unfold Hid; rw [u32_poly c hc1, HS.out, Crc.bitStep, if_pos q]
      clear U q hb
      go_wp2_with fail
      go_round
      case rel => exact ⟨j + 1, by omega, by go_num, by rw [P.out]⟩
      case measure => simp [intOf]; omega
     ·have t : ((bits .xor .u32 (c : Int) ((s[k].toNat : Int) % 4294967296 / 2 ^ j)).tmod 2 == 1) = false := by
       rw [U, Int.tmod_eq_emod_of_nonneg (by omega)]; simp; omega
      have P : Hid ((c : Int) / 2 = (Crc.bitsK s[k].toNat x (j + 1) : Int)) := by
       unfold Hid; rw [HS.out, Crc.bitStep, if_neg q]; simp
      clear U q hb
      go_wp2_with fail
      go_round
      case rel => exact ⟨j + 1, by omega, by go_num, by rw [P.out]⟩
      case measure => simp [intOf]; omega
    ·obtain rfl : j = 8 := by omega
     go_wp2_with fail
     go_round
     case rel => exact ⟨k + 1, by omega, by go_num, by rw [HB.out, ← HC.out]⟩
     case measure => simp [intOf]; omega
  ·obtain rfl : k = s.size := by omega
   have HE : Hid ((4294967295 - (x : Int)) = Crc.sumR s) := by unfold Hid; rw [Crc.sumR, HX.out, Crc.crc_whole]
   go_wp2_with fail
   go_ret
   exact ⟨ret_sum HE.out, rfl⟩
end Go.Proofs.YtdajolpoiffimaaGreatDoor

namespace Go.Proofs.YtdajolpoiffimaaGreatDoor
open Go.RowKit

attribute [local go_sem] conv1 isU8_int cellInt_int
attribute [local go_sem] strOfNums_one Bx.be_size
set_option maxHeartbeats 1000000 in
theorem bytes_any (k : Nat) : ∀ (n : Int) (w : World), 0 ≤ n → n ≤ 9223372036854775807 → k ≤ 10 →
 Calls Tryz.prog 108 #[.int .i64 n, .int .i64 k] w fun e w' => e = .returned (.string (Bx.be n k)) ∧ Below w.heap.size w w' := by
 induction k with
 | zero =>
   intro n w h1 h2 _
   go_enter Tryz.func108, Tryz.ntmps108
   go_wp2_with fail
   go_ret
   exact ⟨rfl, Below.refl _ _⟩
 | succ k ih =>
   intro n w h1 h2 hk
   have IH : Hid (∀ (a b : Int) (w : World), a = n / 256 → b = k → Calls Tryz.prog 108 #[.int .i64 a, .int .i64 b] w fun e w' => e = .returned (.string (Bx.be (n / 256) k)) ∧ Below w.heap.size w w') := fun a b w ea eb => by subst ea; subst eb; exact ih (n / 256) w (by omega) (by omega) (by omega)
   clear ih
   have q0 : IntKind.i64.wrap (n.tdiv 256) = n / 256 := by rw [Int.tdiv_eq_ediv_of_nonneg h1, IntKind.wrap_i64]; omega
   have q1 : IntKind.u8.wrap (n.tmod 256) = n % 256 := by rw [Int.tmod_eq_emod_of_nonneg h1, IntKind.wrap_u8]; omega
   have q2 : IntKind.i64.wrap (k : Int) = k := by rw [IntKind.wrap_i64]; omega
   go_enter Tryz.func108, Tryz.ntmps108
   go_wp2_with fail
   have q3 : ¬ 9223372036854775807 < k + 1 := by omega
   go_region_with ((go_at_call 108; refine (IH.out _ _ _ (by first | exact q0 | rfl) (by first | exact q2 | rfl)).mono ?_; rintro e w2 ⟨rfl, hb2⟩; obtain ⟨hc2, hf2⟩ := bcell hb2))
   all_goals (go_wp2_with fail; go_ret)
   ·exact ⟨ret_str (b1_be n k), ((Below.refl _ _).drew.trans hb2).alloc (by have := hb2.size; exact this) _⟩
   ·exact ⟨ret_str (b1_be n k), ((below_alloc _ _).drew).trans (hb2.mono (by simp))⟩
   ·exact ⟨ret_str (b1_be n k), ((below_alloc _ _).drew).trans (hb2.mono (by simp))⟩
theorem bytes_at (a b n : Int) (k : Nat) (w : World) (ha : a = n) (hb : b = k) (h1 : 0 ≤ n) (h2 : n ≤ 9223372036854775807) (hk : k ≤ 10) :
 Calls Tryz.prog 108 #[.int .i64 a, .int .i64 b] w fun e w' => e = .returned (.string (Bx.be n k)) ∧ Below w.heap.size w w' := by
 subst ha; subst hb; exact bytes_any k a w h1 h2 hk
set_option maxHeartbeats 1000000 in
theorem frame_any (s : ByteArray) (w : World) (hs : s.size ≤ 100000) :
 Calls Tryz.prog 59 #[.string s] w fun e w' => e = .returned (.string (Bx.frame s)) ∧ Below w.heap.size w w' := by
 have B := sumR_bd s
 have q1 : ¬ 9223372036854775807 < 2 + s.size := by omega
 have q2 : ¬ 9223372036854775807 < 2 + s.size + 4 := by omega
 have HB : Hid (Bx.be (s.size : Int) 2 ++ s ++ Bx.be (Crc.sumR s) 4 = Bx.frame s) := rfl
 go_enter Tryz.func59, Tryz.ntmps59
 go_wp2_with fail
 refine (bytes_at _ _ (s.size : Int) 2 _ rfl rfl (by omega) (by omega) (by decide)).mono ?_
 rintro e w1 ⟨rfl, b1⟩
 go_wp2_with fail
 refine (rsum_any s _ (by unfold maxLen; omega)).mono ?_
 rintro e w2 ⟨rfl, rfl⟩
 go_wp2_with fail
 refine (bytes_at _ _ (Crc.sumR s) 4 _ rfl rfl (by omega) (by omega) (by decide)).mono ?_
 rintro e w3 ⟨rfl, b3⟩
 go_wp2_with fail
 go_ret
 exact ⟨ret_str HB.out, b1.trans (b3.mono b1.size)⟩

/-- A change, as a value. -/
abbrev chV (c : Bx.Ch) : Value := .agg #[.int .u8 c.kind, .string c.tab, .int .i64 c.n]
end Go.Proofs.YtdajolpoiffimaaGreatDoor

namespace Go.Proofs.YtdajolpoiffimaaGreatDoor
open Go.RowKit

end Go.Proofs.YtdajolpoiffimaaGreatDoor
