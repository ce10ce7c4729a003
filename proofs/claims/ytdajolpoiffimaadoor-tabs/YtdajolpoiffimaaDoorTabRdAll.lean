/-
  The walk over the program's read.
-/
import Derived.Test.YtdajolpoiffimaaDoorTabRdLine2
import Derived.Test.YtdajolpoiffimaaDoorTabChk
namespace Go.Proofs.YtdajolpoiffimaaDoor
open Go.RowKit

/-- The cells of a line. -/
def lcells (s : ByteArray) (bb cc : Nat → Nat) (sv : Value) : List Value := [.bool (Txt.opn (pt s 0)), .slice (some ⟨bb 0, 0, none⟩) (Txt.pcs 44 (pt s 0)).length (cc 0), .bool (Txt.opn (pt s 1)), .slice (some ⟨bb 1, 0, none⟩) (Txt.pcs 44 (pt s 1)).length (cc 1), .bool (Txt.opn (pt s 2)), .slice (some ⟨bb 2, 0, none⟩) (Txt.pcs 44 (pt s 2)).length (cc 2), .bool (Txt.opn (pt s 3)), .slice (some ⟨bb 3, 0, none⟩) (Txt.pcs 44 (pt s 3)).length (cc 3), .bool (Txt.opn (pt s 4)), .slice (some ⟨bb 4, 0, none⟩) (Txt.pcs 44 (pt s 4)).length (cc 4), .bool (obt (pt s 5) 0 == 120), .int .u8 (obt (pt s 5) 1), .int .i64 (obt (pt s 5) 2 - 48), sv]
/-- The steps of a line in memory. -/
def StepsAt (w : World) (s : ByteArray) (sv : Value) : Prop := TRow w 169 sv (stps s).length ((stps s).flatMap spC)
/-- The lines of a crontab in memory. -/
def LineAt (w : World) (s : ByteArray) (bb cc : Nat → Nat) : Prop := ∀ t : Nat, t < 5 → (Txt.pcs 44 (pt s t)).length ≤ cc t ∧ PartsAt w (bb t) (lo t) (hi t) (Txt.pcs 44 (pt s t))
def PLinesAt (w : World) (g : Nat) (s : ByteArray) : Prop := ∀ i : Nat, i < tn s → ∃ (bb cc : Nat → Nat) (sv : Value), (∀ j : Nat, j < 14 → w.cell? ⟨g, i * 14 + j, none⟩ = (lcells (tl s i) bb cc sv)[j]?) ∧ LineAt w (tl s i) bb cc ∧ StepsAt w (tl s i) sv
theorem LineAt.later {w w' : World} {s : ByteArray} {bb cc : Nat → Nat} (h : LineAt w s bb cc) (q : Below w.heap.size w w') : LineAt w' s bb cc := fun t ht => ⟨(h t ht).1, (h t ht).2.later q⟩
theorem lcells_some (s : ByteArray) (bb cc : Nat → Nat) (sv : Value) (j : Nat) (hj : j < 14) : ∃ v, (lcells s bb cc sv)[j]? = some v := ⟨(lcells s bb cc sv)[j]'(by simp [lcells]; omega), by simp⟩
theorem PLinesAt.later {w w' : World} {g : Nat} {s : ByteArray} (h : PLinesAt w g s) (q : Below w.heap.size w w') : PLinesAt w' g s := by
  intro i hi
  obtain ⟨bb, cc, sv, h1, h2, h3⟩ := h i hi
  refine ⟨bb, cc, sv, fun j hj => ?_, h2.later q, TRow.later h3 q⟩
  obtain ⟨v, hv⟩ := lcells_some (tl s i) bb cc sv j hj
  have := h1 j hj
  rw [hv] at this ⊢
  exact cell_later q this
theorem PartsAt.lt {w : World} {x : Nat} {l g : Int} {p : ByteArray} (h : PartsAt w x l g (Txt.pcs 44 p)) : x < w.heap.size := World.block_lt_of_cell? _ _ (h 0 (Txt.pcs_ne _ _)).1

/-- What holds while a crontab is read. -/
structure RInv (w wr : World) (base b : Nat) (s : ByteArray) (k : Nat) (v : Value) (xs : List Value) : Prop where
  strs : StrsAt wr b (Txt.pcs 10 s)
  tabs : TabLH wr
  c0 : wr.cell? ⟨w.heap.size, 0, none⟩ = some (.slice none 0 0)
  c1 : wr.cell? ⟨w.heap.size, 1, none⟩ = some (.int .i64 0)
  c2 : wr.cell? ⟨w.heap.size, 2, none⟩ = some (.int .i64 0)
  f0 : wr.frozen? ⟨w.heap.size, 0, none⟩ = false
  f1 : wr.frozen? ⟨w.heap.size, 1, none⟩ = false
  f2 : wr.frozen? ⟨w.heap.size, 2, none⟩ = false
  own : wr.ownsRow base 122 14 v k xs
  ty : Typed wr w.heap.size 109
  lns : ∀ i : Nat, i < k → ∃ (bb cc : Nat → Nat) (sv : Value), (∀ j : Nat, j < 14 → xs[i * 14 + j]? = (lcells (tl s i) bb cc sv)[j]?) ∧ LineAt wr (tl s i) bb cc ∧ StepsAt wr (tl s i) sv ∧ ∀ t : Nat, t < 5 → base ≤ bb t ∧ some (bb t) ≠ v.ownBlock
  bel : Below w.heap.size w wr
  hR : w.heap.size < base
  hb : b < base
  h2 : 2 < base
  hbase : base ≤ wr.heap.size
theorem RInv.below {w wr w' : World} {base b k : Nat} {s : ByteArray} {v : Value} {xs : List Value} (h : RInv w wr base b s k v xs) (q : Below wr.heap.size wr w') : RInv w w' base b s k v xs := by
  have h1 := h.hR; have h3 := h.hbase
  refine ⟨h.strs.later q, h.tabs.later q, cell_later q h.c0, cell_later q h.c1, cell_later q h.c2, (q.frozen (by simp; omega)).trans h.f0, (q.frozen (by simp; omega)).trans h.f1, (q.frozen (by simp; omega)).trans h.f2, own_below h.own q, h.ty.later q, ?_, h.bel.trans (q.mono (by omega)), h.hR, h.hb, h.h2, Nat.le_trans h.hbase q.size⟩
  intro i hi
  obtain ⟨bb, cc, sv, p1, p2, p4, p3⟩ := h.lns i hi
  exact ⟨bb, cc, sv, p1, p2.later q, TRow.later p4 q, p3⟩
theorem RInv.app {w wr w3 : World} {base b k g cap H0 : Nat} {s : ByteArray} {v sv : Value} {xs : List Value} {bb cc : Nat → Nat} (h : RInv w wr base b s k v xs) (hg : wr.grownBy w3 v.ownBlock)
    (ho : w3.ownsRow base 122 14 (.slice (some ⟨g, 0, none⟩) (k + 1) cap) (k + 1) (xs ++ lcells (tl s k) bb cc sv)) (hat : v.ownBlock = some g ∨ g = wr.heap.size)
    (hv : ∀ g0, v.ownBlock = some g0 → g0 < H0) (hb0 : base ≤ H0) (hn : LineAt wr (tl s k) bb cc) (hsp : StepsAt wr (tl s k) sv) (hge : ∀ t : Nat, t < 5 → H0 ≤ bb t) : RInv w w3 base b s (k + 1) (.slice (some ⟨g, 0, none⟩) (k + 1) cap) (xs ++ lcells (tl s k) bb cc sv) := by
  have q : Below base wr w3 := (Below.refl _ _).grown hg h.hbase (fun k' e => (h.own.lt k' e).1)
  have h1 := h.hR; have h3 := h.hbase; have h4 := h.h2; have h5 := h.hb; have h6 := h.bel.size
  have cell : ∀ (a j : Nat) (u : Value), a < base → wr.cell? ⟨a, j, none⟩ = some u → w3.cell? ⟨a, j, none⟩ = some u := fun a j u ha hc => (q.cell (p := ⟨a, j, none⟩) ha).trans hc
  have fro : ∀ (a j : Nat), a < base → w3.frozen? ⟨a, j, none⟩ = wr.frozen? ⟨a, j, none⟩ := fun a j ha => q.frozen (p := ⟨a, j, none⟩) ha
  have parts : ∀ (x : Nat) (l g' : Int) (L : List ByteArray), some x ≠ v.ownBlock → PartsAt wr x l g' L → PartsAt w3 x l g' L := fun x l g' L hx hp j hj =>
    ⟨hg.cell (hp j hj).1 hx, hg.cell (hp j hj).2.1 hx, hg.cell (hp j hj).2.2 hx⟩
  have hlen : xs.length = k * 14 := h.own.1
  have hst : ∀ (z : ByteArray) (u : Value), StepsAt wr z u → StepsAt w3 z u := fun z u hz => TRow.grown hz h.own hg (by decide)
  refine ⟨fun j hj => cell _ _ _ h.hb (h.strs j hj), fun j hj => ⟨cell _ _ _ (by omega) (h.tabs j hj).1, cell _ _ _ (by omega) (h.tabs j hj).2⟩, cell _ _ _ h1 h.c0, cell _ _ _ h1 h.c1, cell _ _ _ h1 h.c2,
    (fro _ _ h1).trans h.f0, (fro _ _ h1).trans h.f1, (fro _ _ h1).trans h.f2, ho, h.ty.below h1 q, ?_, h.bel.trans (q.mono (by omega)), h.hR, h.hb, h.h2, Nat.le_trans h.hbase hg.size⟩
  intro i hi
  by_cases e : i = k
  · subst e
    have hne : ∀ t : Nat, t < 5 → some (bb t) ≠ v.ownBlock := fun t ht e => by
      have a := hv (bb t) e.symm; have b := hge t ht; omega
    refine ⟨bb, cc, sv, fun j hj => ?_, fun t ht => ⟨(hn t ht).1, parts _ _ _ _ (hne t ht) (hn t ht).2⟩, hst _ _ hsp, fun t ht => ⟨Nat.le_trans hb0 (hge t ht), ?_⟩⟩
    · rw [List.getElem?_append_right (by omega)]
      have : i * 14 + j - xs.length = j := by omega
      rw [this]
    · have hlt := (hn t ht).2.lt
      rcases hat with a | a
      · have := hv g a; have := hge t ht
        intro e; simp [Value.ownBlock] at e; omega
      · intro e; simp [Value.ownBlock] at e; omega
  · have hi' : i < k := by omega
    obtain ⟨b1, c1, sv1, p1, p2, p4, p3⟩ := h.lns i hi'
    refine ⟨b1, c1, sv1, fun j hj => ?_, fun t ht => ⟨(p2 t ht).1, parts _ _ _ _ (p3 t ht).2 (p2 t ht).2⟩, hst _ _ p4, fun t ht => ⟨(p3 t ht).1, ?_⟩⟩
    · rw [List.getElem?_append_left (by omega)]; exact p1 j hj
    · have hlt := (p2 t ht).2.lt
      rcases hat with a | a
      · have := (p3 t ht).2
        rw [a] at this
        intro e; simp [Value.ownBlock] at e; exact this (by rw [e])
      · intro e; simp [Value.ownBlock] at e; omega
theorem RInv.app2 {w w2 w3 : World} {o1 o2 : Obj} {base b k g cap H0 : Nat} {s : ByteArray} {v sv : Value} {xs : List Value} {bb cc : Nat → Nat} (h : RInv w w2 base b s k v xs) (hg : ((w2.alloc o1).alloc o2).grownBy w3 v.ownBlock)
    (ho : w3.ownsRow base 122 14 (.slice (some ⟨g, 0, none⟩) (k + 1) cap) (k + 1) (xs ++ lcells (tl s k) bb cc sv)) (hat : v.ownBlock = some g ∨ g = w2.heap.size + 1 + 1)
    (hv : ∀ g0, v.ownBlock = some g0 → g0 < H0) (hb0 : base ≤ H0) (hn : LineAt w2 (tl s k) bb cc) (hsp : StepsAt w2 (tl s k) sv) (hge : ∀ t : Nat, t < 5 → H0 ≤ bb t) : RInv w w3 base b s (k + 1) (.slice (some ⟨g, 0, none⟩) (k + 1) cap) (xs ++ lcells (tl s k) bb cc sv) :=
  ((h.below (below_alloc w2 o1)).below (below_alloc _ o2)).app hg ho (by simpa using hat) hv hb0 ((hn.later (below_alloc w2 o1)).later (below_alloc _ o2)) (TRow.later (TRow.later hsp (below_alloc w2 o1)) (below_alloc _ o2)) hge
/-- At the end: the lines, in memory. -/
theorem RInv.lines {w wr : World} {base b g cap : Nat} {s : ByteArray} {xs : List Value} (h : RInv w wr base b s (tn s) (.slice (some ⟨g, 0, none⟩) (tn s) cap) xs) : PLinesAt wr g s ∧ base ≤ g := by
  constructor
  · intro i hi
    obtain ⟨bb, cc, sv, p1, p2, p4, _⟩ := h.lns i hi
    refine ⟨bb, cc, sv, fun j hj => ?_, p2, p4⟩
    rw [h.own.cellAt (i * 14 + j) (by omega)]; exact p1 j hj
  · exact (h.own.lt g rfl).1
/-- The three cells of an answer are stored elsewhere. -/
theorem lines_far {w : World} {R g : Nat} {s : ByteArray} {u0 u1 u2 : Value} (ty : Typed w R 109) (_h : PLinesAt w g s) (hg : R < g) (hp : ∀ i : Nat, i < tn s → ∃ (bb cc : Nat → Nat) (sv : Value), (∀ j : Nat, j < 14 → w.cell? ⟨g, i * 14 + j, none⟩ = (lcells (tl s i) bb cc sv)[j]?) ∧ LineAt w (tl s i) bb cc ∧ StepsAt w (tl s i) sv ∧ ∀ t : Nat, t < 5 → R < bb t) :
    PLinesAt (((w.setCell ⟨R, 0, none⟩ u0).setCell ⟨R, 1, none⟩ u1).setCell ⟨R, 2, none⟩ u2) g s := by
  have far : ∀ (x o : Nat) , R < x → (((w.setCell ⟨R, 0, none⟩ u0).setCell ⟨R, 1, none⟩ u1).setCell ⟨R, 2, none⟩ u2).cell? ⟨x, o, none⟩ = w.cell? ⟨x, o, none⟩ := by
    intro x o hx
    have hne : ∀ j : Nat, (⟨R, j, none⟩ : Addr) ≠ ⟨x, o, none⟩ := fun j e => by cases e; omega
    rw [World.cell?_setCell_other _ _ _ _ (hne _), World.cell?_setCell_other _ _ _ _ (hne _), World.cell?_setCell_other _ _ _ _ (hne _)]
  intro i hi
  obtain ⟨bb, cc, sv, p1, p2, p4, p3⟩ := hp i hi
  refine ⟨bb, cc, sv, fun j hj => by rw [far _ _ hg]; exact p1 j hj, fun t ht => ⟨(p2 t ht).1, fun j hj => ?_⟩, TRow.set (TRow.set (TRow.set p4 ty (by decide) _ _) (ty.setCell _ _ _) (by decide) _ _) ((ty.setCell _ _ _).setCell _ _ _) (by decide) _ _⟩
  obtain ⟨q0, q1, q2⟩ := (p2 t ht).2 j hj
  rw [far _ _ (p3 t ht), far _ _ (p3 t ht), far _ _ (p3 t ht)]
  exact ⟨q0, q1, q2⟩

theorem below_three {B : Nat} {a w : World} {R : Nat} (h : Below B a w) (hR : B ≤ R) {v0 v1 v2 : Value} : Below B a (((w.setCell ⟨R, 0, none⟩ v0).setCell ⟨R, 1, none⟩ v1).setCell ⟨R, 2, none⟩ v2) := ((h.setCell hR _).setCell hR _).setCell hR _
theorem infoLine : (Tryd.prog.info? 122).map (fun i => (i.zero, i.size, i.bytes)) = some (some (.agg #[.bool false, .slice none 0 0, .bool false, .slice none 0 0, .bool false, .slice none 0 0, .bool false, .slice none 0 0, .bool false, .slice none 0 0, .bool false, .int .u8 0, .int .i64 0, .slice none 0 0]), 14, 200) := by kernel_rfl
/-- What read answers. -/
def ReadR (s : ByteArray) (w' : World) (e : Ending) : Prop := ∃ (a r : Int) (ad : Option Addr) (n c : Nat), e = .returned (.agg #[.slice ad n c, .int .i64 a, .int .i64 r]) ∧ ChkR s a r ∧ (r = 0 → ∃ g, ad = some ⟨g, 0, none⟩ ∧ n = tn s ∧ n ≤ c ∧ PLinesAt w' g s)

set_option maxRecDepth 10000 in
set_option maxHeartbeats 3000000 in
theorem read_any (s : ByteArray) (w : World) (hs : s.size ≤ maxLen) (hT : TabLH w) :
    Calls Tryd.prog 67 #[.string s] w fun e w' => ReadR s w' e ∧ Below w.heap.size w w' := by
  unfold maxLen at hs
  have h2w : 1 < w.heap.size ∧ 2 < w.heap.size := ⟨World.block_lt_of_cell? _ _ (hT 0 (by decide)).1, World.block_lt_of_cell? _ _ (hT 0 (by decide)).2⟩
  have HT0 : Hid (∀ o, TabLH (w.alloc o)) := fun o => hT.later (below_alloc _ _)
  clear hT
  by_cases h300 : 300 < s.size
  · have K : Hid (ChkR s 0 1) := ChkR.long h300
    go_enter Tryd.func67, Tryd.ntmps67
    go_wp2_with fail
    exact bodyPost_ret (v := .agg #[.slice none 0 0, .int .i64 0, .int .i64 1]) (by simp [results, Tryd.results67, go_sem]) rfl ⟨⟨0, 1, none, 0, 0, rfl, K.out, fun h => by cases h⟩, below_alloc _ _⟩
  have hs3 : s.size ≤ 300 := by omega
  clear hs
  obtain ⟨i0, hi, hz0, hz1, hz2⟩ := info_parts infoLine
  go_enter Tryd.func67, Tryd.ntmps67
  go_wp2_with fail
  refine (splitLines_any _ _ hs3).mono ?_
  rintro e w1 ⟨⟨b, cap, rfl, hge, hcap, hS⟩, hb⟩
  have hlen := Txt.pcs_len 10 s
  have hn := tn_len s
  have he := empty_list (s := tl s (tn s))
  have HT1 : Hid (∀ o, TabLH (w1.alloc o)) := fun o => ((HT0.out _).later hb).later (below_alloc _ _)
  have B1 : Hid (Below w.heap.size w w1) := (below_alloc w _).trans (hb.mono (by simp))
  have hgb : w.heap.size < b := by simp at hge; omega
  have hbl : b < w1.heap.size := World.block_lt_of_cell? _ _ (hS 0 (Txt.pcs_ne _ _))
  have hzz : w.heap.size < w1.heap.size := by omega
  have H0 : RInv w (w1.alloc (.cells #[] 122)) w1.heap.size b s 0 (.slice (some ⟨w1.heap.size, 0, none⟩) 0 0) [] := by
    refine ⟨hS.later (below_alloc _ _), HT1.out _, cell_later (below_alloc _ _) (cell_later hb (by simp [go_sem])), cell_later (below_alloc _ _) (cell_later hb (by simp [go_sem])), cell_later (below_alloc _ _) (cell_later hb (by simp [go_sem])), ?_, ?_, ?_, ?_, ((Typed.new _ _ _).later hb).later (below_alloc _ _), fun i h => by omega, B1.out.alloc (Nat.le_of_lt hzz) _, hzz, hbl, by omega, by simp⟩
    · rw [(below_alloc w1 _).frozen (p := ⟨w.heap.size, 0, none⟩) (by simpa using hzz), hb.frozen (p := ⟨w.heap.size, 0, none⟩) (by simp)]; simp [go_sem]
    · rw [(below_alloc w1 _).frozen (p := ⟨w.heap.size, 1, none⟩) (by simpa using hzz), hb.frozen (p := ⟨w.heap.size, 1, none⟩) (by simp)]; simp [go_sem]
    · rw [(below_alloc w1 _).frozen (p := ⟨w.heap.size, 2, none⟩) (by simpa using hzz), hb.frozen (p := ⟨w.heap.size, 2, none⟩) (by simp)]; simp [go_sem]
    · exact ⟨rfl, Or.inr ⟨w1.heap.size, 0, #[], rfl, Nat.le_refl _, (MapKept.heap_alloc w1 _).1, Nat.le_refl _, Nat.zero_le _, rfl, rfl⟩⟩
  have HN : Hid ((Txt.pcs 10 s).length = tn s + 1) := hn
  have hnb : tn s ≤ 301 := by omega
  obtain ⟨hc, hf⟩ := bcell hb
  clear hb hS HT1 HT0 hn hlen
  by_cases z : (tl s (tn s)).size = 0
  · have Z : Hid ((tl s (tn s)).size = 0) := z
    rw [decide_eq_true z] at he
    have hM : Hid (tn s + (if (tl s (tn s)).size = 0 then 0 else 1) = tn s) := by unfold Hid; rw [if_pos z, Nat.add_zero]
    clear z
    by_cases h4 : 4 < tn s
    · have K : Hid (ChkR s 0 2) := ChkR.many hs3 (by rw [hM.out]; exact h4)
      clear H0
      go_wp2_with fail
      exact bodyPost_ret (v := .agg #[.slice none 0 0, .int .i64 0, .int .i64 2]) (by simp [results, Tryd.results67, go_sem, hc]) rfl ⟨⟨0, 2, none, 0, 0, rfl, K.out, fun h => by cases h⟩, below_three B1.out (Nat.le_refl _)⟩
    have h4' : Hid (tn s + (if (tl s (tn s)).size = 0 then 0 else 1) ≤ 4) := by unfold Hid; rw [hM.out]; omega
    clear hc hf
    go_wp2_with fail
    go_loopw [6, 7] (fun v x wr => ∃ (k g c : Nat) (xs : List Value), k ≤ tn s ∧ x = .int .i64 k ∧ v = .slice (some ⟨g, 0, none⟩) k c ∧ k ≤ c ∧ (∀ j : Nat, j < k → lineB (tl s j) = true) ∧ RInv w wr w1.heap.size b s k (.slice (some ⟨g, 0, none⟩) k c) xs) (fun _ x _ => tn s - (intOf x).toNat)
    case atStart => exact ⟨0, _, _, _, Nat.zero_le _, rfl, rfl, Nat.le_refl _, fun j h => by omega, H0⟩
    case round =>
      clear H0
      obtain ⟨k, g, c, xs, hk, rfl, rfl, hkc, hall, HI⟩ := hrel
      have HA : Hid (∀ j : Nat, j < k → lineB (tl s j) = true) := hall
      clear hall
      by_cases hlt : k < tn s
      · have hkl : k < (Txt.pcs 10 s).length := by have := HN.out; omega
        have hcell : wr.cell? ⟨b, k, none⟩ = some (.string (tl s k)) := by rw [← tl_eq hkl]; exact HI.strs k hkl
        have zk : Hid ((tl s k).size ≤ 300) := tl_sz hs3 k hkl
        have b1 : (0 : Int) ≤ (k : Int) := by omega
        have b2 : (k : Int) < (tn s : Int) := by omega
        go_wp2_with fail
        refine (readLine_any _ _ zk.out HI.tabs).mono ?_
        rintro e w2 ⟨hR, hb2⟩
        have HI2 := HI.below hb2
        have hvlt : ∀ g0, (Value.slice (some ⟨g, 0, none⟩) k c).ownBlock = some g0 → g0 < wr.heap.size := fun g0 e => (HI.own.lt g0 e).2
        have HV : Hid (∀ g0, (Value.slice (some ⟨g, 0, none⟩) k c).ownBlock = some g0 → g0 < wr.heap.size) := hvlt
        have HBW : Hid (w1.heap.size ≤ wr.heap.size) := HI.hbase
        clear HI hb2 hcell hvlt
        rcases hR with ⟨kk, bb, cc, sv, rfl, hP, hown0⟩ | ⟨kk, rfl⟩
        · have KK : Hid (lineB (tl s k) = true) := kk
          obtain ⟨ads, caps, hvs⟩ : ∃ ad cap, sv = .slice ad (stps (tl s k)).length cap := by
            obtain ⟨ad, cap, e, _⟩ := (RowAt.of_own hown0).form; exact ⟨ad, cap, e⟩
          subst hvs
          have HSP : Hid (StepsAt w2 (tl s k) (.slice ads (stps (tl s k)).length caps)) := TRow.of_own hown0
          clear hown0
          have HP : Hid (LineAt w2 (tl s k) bb cc ∧ ∀ t : Nat, t < 5 → wr.heap.size ≤ bb t) := ⟨fun t ht => (hP t ht).2, fun t ht => (hP t ht).1⟩
          have HB2 : Hid (w1.heap.size ≤ w2.heap.size) := HI2.hbase
          have HO2 : Hid (w2.ownsRow w1.heap.size 122 14 (.slice (some ⟨g, 0, none⟩) k c) k xs) := HI2.own
          have hk5 : k ≤ 5 := by omega
          clear kk hP
          go_wp2_with (at_builtin; refine wpList_append_lies _ rfl (.tmp 48) (.tmp 50) 107 rfl w1.heap.size 122 i0 (.agg #[.bool false, .slice none 0 0, .bool false, .slice none 0 0, .bool false, .slice none 0 0, .bool false, .slice none 0 0, .bool false, .slice none 0 0, .bool false, .int .u8 0, .int .i64 0, .slice none 0 0]) 14 200 Tryd.underlying107 hi hz0 hz1 hz2 rfl (by decide) _ _ _ rfl ((HO2.out.alloc _).alloc _) ⟨w2.heap.size + 1, 0, none⟩ 1 1 (lcells (tl s k) bb cc (.slice ads (stps (tl s k)).length caps)) rfl rfl ?c1 ?c2 (by decide) ?c3 ?c4 ?c5 _ rfl ?_)
          case c1 =>
            intro j u hj
            have hj10 : j < 14 := by
              rcases Nat.lt_or_ge j 14 with h | h
              · exact h
              · rw [List.getElem?_eq_none (by simpa [lcells] using h)] at hj; cases hj
            have hj' : j = 0 ∨ j = 1 ∨ j = 2 ∨ j = 3 ∨ j = 4 ∨ j = 5 ∨ j = 6 ∨ j = 7 ∨ j = 8 ∨ j = 9 ∨ j = 10 ∨ j = 11 ∨ j = 12 ∨ j = 13 := by omega
            rcases hj' with rfl | rfl | rfl | rfl | rfl | rfl | rfl | rfl | rfl | rfl | rfl | rfl | rfl | rfl <;> (simp [lcells] at hj; subst hj; simp [Addr.add, go_sem])
          case c2 => intro u hu; simp [lcells] at hu; rcases hu with rfl | rfl | rfl | rfl | rfl | rfl | rfl | rfl | rfl | rfl | rfl | rfl | rfl | rfl <;> rfl
          case c3 => unfold maxLen; omega
          case c4 => omega
          case c5 => have := HB2.out; simp; omega
          · intro g' c' w3 hown' hgrow hat hlt'
            have HI4 := HI2.app2 hgrow hown' hat HV.out HBW.out HP.out.1 HSP.out HP.out.2
            have hc' : k + 1 ≤ c' := by
              rcases hown'.2 with ⟨h, _⟩ | ⟨g2, cap2, cur, h, _, _, h2, _⟩
              · cases h
              · cases h; exact h2
            clear hown' hgrow hat HI2 HO2 hlt'
            go_wp2_with fail
            go_roundw
            case rel =>
              refine ⟨k + 1, g', c', _, by omega, by go_num, rfl, hc', fun j h => ?_, HI4⟩
              by_cases q : j = k
              · subst q; exact KK.out
              · exact HA.out j (by omega)
            case measure => simp [intOf]; omega
        · have K : Hid (ChkR s (k + 1) 3) := ChkR.line hs3 h4'.out k hlt kk HA.out
          have BB : Hid (Below w.heap.size w w2) := HI2.bel
          have r0 := HI2.c0
          have r1 := HI2.c1
          have r2 := HI2.c2
          have s0 := HI2.f0
          have s1 := HI2.f1
          have s2 := HI2.f2
          have z4 : w.heap.size < w2.heap.size := by have := HI2.hR; have := HI2.hbase; omega
          clear kk HI2
          go_wp2_with fail
          refine bodyPost_ret (v := .agg #[.slice none 0 0, .int .i64 ((k : Int) + 1), .int .i64 3]) (by simp [results, Tryd.results67, go_sem, r0, r1, r2, z4]) rfl ⟨⟨_, 3, none, 0, 0, rfl, K.out, fun h => by cases h⟩, ?_⟩
          repeat (first | exact BB.out | refine Below.setCell ?_ (by simp) _ | refine Below.alloc ?_ (by first | (simp; done) | (simp; omega)) _)
      · obtain rfl : k = tn s := by omega
        have BB : Hid (Below w.heap.size w wr) := HI.bel
        have r0 := HI.c0
        have r1 := HI.c1
        have r2 := HI.c2
        have s0 := HI.f0
        have s1 := HI.f1
        have s2 := HI.f2
        have z4 : w.heap.size < wr.heap.size := by have := HI.hR; have := HI.hbase; omega
        have K : Hid (ChkR s 0 0) := ChkR.ok hs3 h4'.out HA.out Z.out
        have HL : Hid (PLinesAt wr g s) := HI.lines.1
        have hgR : Hid (w.heap.size < g) := by have := HI.lines.2; have := HI.hR; unfold Hid; omega
        have HTy : Hid (Typed wr w.heap.size 109) := HI.ty
        have HPP : Hid (∀ i : Nat, i < tn s → ∃ (bb cc : Nat → Nat) (sv : Value), (∀ j : Nat, j < 14 → wr.cell? ⟨g, i * 14 + j, none⟩ = (lcells (tl s i) bb cc sv)[j]?) ∧ LineAt wr (tl s i) bb cc ∧ StepsAt wr (tl s i) sv ∧ ∀ t : Nat, t < 5 → w.heap.size < bb t) := by
          intro i hi'
          obtain ⟨bb, cc, sv, p1, p2, p4, p3⟩ := HI.lns i hi'
          refine ⟨bb, cc, sv, fun j hj => ?_, p2, p4, fun t ht => by have := (p3 t ht).1; have := HI.hR; omega⟩
          rw [HI.own.cellAt (i * 14 + j) (by omega)]; exact p1 j hj
        clear HI
        go_wp2_with fail
        exact bodyPost_ret (v := .agg #[.slice (some ⟨g, 0, none⟩) (tn s) c, .int .i64 0, .int .i64 0]) (by simp [results, Tryd.results67, go_sem, r0, r1, r2]) rfl ⟨⟨0, 0, _, _, _, rfl, K.out, fun _ => ⟨g, rfl, rfl, hkc, lines_far HTy.out HL.out hgR.out HPP.out⟩⟩, below_three BB.out (Nat.le_refl _)⟩
  · have Z : Hid (¬ (tl s (tn s)).size = 0) := z
    rw [decide_eq_false z] at he
    have hM : Hid (tn s + (if (tl s (tn s)).size = 0 then 0 else 1) = tn s + 1) := by unfold Hid; rw [if_neg z]
    clear z
    by_cases h4 : 4 < tn s + 1
    · have K : Hid (ChkR s 0 2) := ChkR.many hs3 (by rw [hM.out]; exact h4)
      clear H0
      go_wp2_with fail
      exact bodyPost_ret (v := .agg #[.slice none 0 0, .int .i64 0, .int .i64 2]) (by simp [results, Tryd.results67, go_sem, hc]) rfl ⟨⟨0, 2, none, 0, 0, rfl, K.out, fun h => by cases h⟩, below_three B1.out (Nat.le_refl _)⟩
    have h4' : Hid (tn s + (if (tl s (tn s)).size = 0 then 0 else 1) ≤ 4) := by unfold Hid; rw [hM.out]; omega
    clear hc hf
    go_wp2_with fail
    go_loopw [6, 7] (fun v x wr => ∃ (k g c : Nat) (xs : List Value), k ≤ tn s ∧ x = .int .i64 k ∧ v = .slice (some ⟨g, 0, none⟩) k c ∧ k ≤ c ∧ (∀ j : Nat, j < k → lineB (tl s j) = true) ∧ RInv w wr w1.heap.size b s k (.slice (some ⟨g, 0, none⟩) k c) xs) (fun _ x _ => tn s - (intOf x).toNat)
    case atStart => exact ⟨0, _, _, _, Nat.zero_le _, rfl, rfl, Nat.le_refl _, fun j h => by omega, H0⟩
    case round =>
      clear H0
      obtain ⟨k, g, c, xs, hk, rfl, rfl, hkc, hall, HI⟩ := hrel
      have HA : Hid (∀ j : Nat, j < k → lineB (tl s j) = true) := hall
      clear hall
      by_cases hlt : k < tn s
      · have hkl : k < (Txt.pcs 10 s).length := by have := HN.out; omega
        have hcell : wr.cell? ⟨b, k, none⟩ = some (.string (tl s k)) := by rw [← tl_eq hkl]; exact HI.strs k hkl
        have zk : Hid ((tl s k).size ≤ 300) := tl_sz hs3 k hkl
        have b1 : (0 : Int) ≤ (k : Int) := by omega
        have b2 : (k : Int) < (tn s : Int) := by omega
        go_wp2_with fail
        refine (readLine_any _ _ zk.out HI.tabs).mono ?_
        rintro e w2 ⟨hR, hb2⟩
        have HI2 := HI.below hb2
        have hvlt : ∀ g0, (Value.slice (some ⟨g, 0, none⟩) k c).ownBlock = some g0 → g0 < wr.heap.size := fun g0 e => (HI.own.lt g0 e).2
        have HV : Hid (∀ g0, (Value.slice (some ⟨g, 0, none⟩) k c).ownBlock = some g0 → g0 < wr.heap.size) := hvlt
        have HBW : Hid (w1.heap.size ≤ wr.heap.size) := HI.hbase
        clear HI hb2 hcell hvlt
        rcases hR with ⟨kk, bb, cc, sv, rfl, hP, hown0⟩ | ⟨kk, rfl⟩
        · have KK : Hid (lineB (tl s k) = true) := kk
          obtain ⟨ads, caps, hvs⟩ : ∃ ad cap, sv = .slice ad (stps (tl s k)).length cap := by
            obtain ⟨ad, cap, e, _⟩ := (RowAt.of_own hown0).form; exact ⟨ad, cap, e⟩
          subst hvs
          have HSP : Hid (StepsAt w2 (tl s k) (.slice ads (stps (tl s k)).length caps)) := TRow.of_own hown0
          clear hown0
          have HP : Hid (LineAt w2 (tl s k) bb cc ∧ ∀ t : Nat, t < 5 → wr.heap.size ≤ bb t) := ⟨fun t ht => (hP t ht).2, fun t ht => (hP t ht).1⟩
          have HB2 : Hid (w1.heap.size ≤ w2.heap.size) := HI2.hbase
          have HO2 : Hid (w2.ownsRow w1.heap.size 122 14 (.slice (some ⟨g, 0, none⟩) k c) k xs) := HI2.own
          have hk5 : k ≤ 5 := by omega
          clear kk hP
          go_wp2_with (at_builtin; refine wpList_append_lies _ rfl (.tmp 48) (.tmp 50) 107 rfl w1.heap.size 122 i0 (.agg #[.bool false, .slice none 0 0, .bool false, .slice none 0 0, .bool false, .slice none 0 0, .bool false, .slice none 0 0, .bool false, .slice none 0 0, .bool false, .int .u8 0, .int .i64 0, .slice none 0 0]) 14 200 Tryd.underlying107 hi hz0 hz1 hz2 rfl (by decide) _ _ _ rfl ((HO2.out.alloc _).alloc _) ⟨w2.heap.size + 1, 0, none⟩ 1 1 (lcells (tl s k) bb cc (.slice ads (stps (tl s k)).length caps)) rfl rfl ?c1 ?c2 (by decide) ?c3 ?c4 ?c5 _ rfl ?_)
          case c1 =>
            intro j u hj
            have hj10 : j < 14 := by
              rcases Nat.lt_or_ge j 14 with h | h
              · exact h
              · rw [List.getElem?_eq_none (by simpa [lcells] using h)] at hj; cases hj
            have hj' : j = 0 ∨ j = 1 ∨ j = 2 ∨ j = 3 ∨ j = 4 ∨ j = 5 ∨ j = 6 ∨ j = 7 ∨ j = 8 ∨ j = 9 ∨ j = 10 ∨ j = 11 ∨ j = 12 ∨ j = 13 := by omega
            rcases hj' with rfl | rfl | rfl | rfl | rfl | rfl | rfl | rfl | rfl | rfl | rfl | rfl | rfl | rfl <;> (simp [lcells] at hj; subst hj; simp [Addr.add, go_sem])
          case c2 => intro u hu; simp [lcells] at hu; rcases hu with rfl | rfl | rfl | rfl | rfl | rfl | rfl | rfl | rfl | rfl | rfl | rfl | rfl | rfl <;> rfl
          case c3 => unfold maxLen; omega
          case c4 => omega
          case c5 => have := HB2.out; simp; omega
          · intro g' c' w3 hown' hgrow hat hlt'
            have HI4 := HI2.app2 hgrow hown' hat HV.out HBW.out HP.out.1 HSP.out HP.out.2
            have hc' : k + 1 ≤ c' := by
              rcases hown'.2 with ⟨h, _⟩ | ⟨g2, cap2, cur, h, _, _, h2, _⟩
              · cases h
              · cases h; exact h2
            clear hown' hgrow hat HI2 HO2 hlt'
            go_wp2_with fail
            go_roundw
            case rel =>
              refine ⟨k + 1, g', c', _, by omega, by go_num, rfl, hc', fun j h => ?_, HI4⟩
              by_cases q : j = k
              · subst q; exact KK.out
              · exact HA.out j (by omega)
            case measure => simp [intOf]; omega
        · have K : Hid (ChkR s (k + 1) 3) := ChkR.line hs3 h4'.out k hlt kk HA.out
          have BB : Hid (Below w.heap.size w w2) := HI2.bel
          have r0 := HI2.c0
          have r1 := HI2.c1
          have r2 := HI2.c2
          have s0 := HI2.f0
          have s1 := HI2.f1
          have s2 := HI2.f2
          have z4 : w.heap.size < w2.heap.size := by have := HI2.hR; have := HI2.hbase; omega
          clear kk HI2
          go_wp2_with fail
          refine bodyPost_ret (v := .agg #[.slice none 0 0, .int .i64 ((k : Int) + 1), .int .i64 3]) (by simp [results, Tryd.results67, go_sem, r0, r1, r2, z4]) rfl ⟨⟨_, 3, none, 0, 0, rfl, K.out, fun h => by cases h⟩, ?_⟩
          repeat (first | exact BB.out | refine Below.setCell ?_ (by simp) _ | refine Below.alloc ?_ (by first | (simp; done) | (simp; omega)) _)
      · obtain rfl : k = tn s := by omega
        have BB : Hid (Below w.heap.size w wr) := HI.bel
        have r0 := HI.c0
        have r1 := HI.c1
        have r2 := HI.c2
        have s0 := HI.f0
        have s1 := HI.f1
        have s2 := HI.f2
        have z4 : w.heap.size < wr.heap.size := by have := HI.hR; have := HI.hbase; omega
        have K : Hid (ChkR s (tn s + 1) 3) := ChkR.last hs3 h4'.out HA.out Z.out
        clear HI
        go_wp2_with fail
        exact bodyPost_ret (v := .agg #[.slice none 0 0, .int .i64 ((tn s : Int) + 1), .int .i64 3]) (by simp [results, Tryd.results67, go_sem, r0, r1, r2]) rfl ⟨⟨_, 3, none, 0, 0, rfl, K.out, fun h => by cases h⟩, below_three BB.out (Nat.le_refl _)⟩
end Go.Proofs.YtdajolpoiffimaaDoor
