/-
  PRel, Hear, LogM2, LogM3, LogM4, LogM5, NumM, PCalls, PCalls2, PTick, PTalk, PTalk2, PStart, DuoM, CallM, RunM.
-/
import Derived.Test.YtdajolpoiffimaaGreatDoorO1

namespace Go.Proofs.YtdajolpoiffimaaGreatDoor
namespace Px

/-- No number twice. -/
def Dist (l : List Sl) : Prop := l.Pairwise fun a b => a.num ≠ b.num
theorem Ok.dist {s : St} (h : Ok s) : Dist s.slots := h.rise.imp fun h => by omega
theorem Dist.at {l : List Sl} (h : Dist l) {i j : Nat} (hi : i < l.length) (hj : j < l.length) (e : l[i].num = l[j].num) : i = j := by
 rcases Nat.lt_trichotomy i j with c | c | c
 ·exact absurd e (List.pairwise_iff_getElem.1 h i j hi hj c)
 ·exact c
 ·exact absurd e.symm (List.pairwise_iff_getElem.1 h j i hj hi c)
theorem findK_no (l : List Bx.Sl) (n : Int) (h : ∀ x ∈ l, ¬ x.num = n) (k : Nat) : Bx.findK l n k = -1 := by
 induction k with
 | zero => rfl
 | succ k ih =>
   rw [Bx.findK, ih]
   split
   ·rename_i e
    rcases Nat.lt_or_ge k l.length with c | c
    ·rw [List.getElem?_eq_getElem c] at e; simp at e; exact absurd e (h _ (List.getElem_mem c))
    ·rw [List.getElem?_eq_none c] at e; cases e
   ·rfl
theorem findK_at (l : List Bx.Sl) (n : Int) (i : Nat) (hi : i < l.length) (e : l[i].num = n) (h : ∀ j (hj : j < l.length), l[j].num = n → j = i) (k : Nat) (hk : i < k) : Bx.findK l n k = i := by
 induction k with
 | zero => omega
 | succ k ih =>
   rw [Bx.findK]
   split
   ·rename_i e'
    rcases Nat.lt_or_ge k l.length with c | c
    ·rw [List.getElem?_eq_getElem c] at e'; simp at e'; rw [h k c e']
    ·rw [List.getElem?_eq_none c] at e'; cases e'
   ·rename_i e'
    by_cases q : i = k
    ·subst q
     rw [List.getElem?_eq_getElem hi] at e'
     simp [e] at e'
    ·exact ih (by omega)
theorem find_none {s : St} {n : Int} (h : find s.slots n = none) : Bx.find (abs s) n = -1 := by
 refine findK_no _ _ ?_ _
 intro x hx
 obtain ⟨y, hy, rfl⟩ := List.mem_map.1 hx
 have := List.find?_eq_none.1 h y hy
 simpa [absS] using this
theorem find_some {s : St} {n : Int} {x : Sl} (hd : Dist s.slots) (h : find s.slots n = some x) : ∃ i, ∃ hi : i < s.slots.length, s.slots[i] = x ∧ x.num = n ∧ Bx.find (abs s) n = i := by
 have hx := List.mem_of_find?_eq_some h
 have hn : x.num = n := by simpa using List.find?_some h
 obtain ⟨i, hi, rfl⟩ := List.mem_iff_getElem.1 hx
 refine ⟨i, hi, rfl, hn, ?_⟩
 have hl : (abs s).slots.length = s.slots.length := by simp [abs]
 refine findK_at _ _ i (by rw [hl]; exact hi) ?_ ?_ _ (by rw [hl]; exact hi)
 ·simp [abs, absS, hn]
 ·intro j hj e
  have hj' : j < s.slots.length := by rw [hl] at hj; exact hj
  refine hd.at hj' hi ?_
  rw [hn]; simpa [abs, absS] using e
theorem skipK_erase (l : List Bx.Sl) (i k : Nat) (hk : k ≤ l.length) : Bx.skipK l i k = (l.take k).eraseIdx i := by
 induction k with
 | zero => simp [Bx.skipK]
 | succ k ih =>
   have hk' : k < l.length := by omega
   rw [Bx.skipK, ih (by omega), List.take_succ_eq_append_getElem hk', List.getElem?_eq_getElem hk']
   by_cases q : k = i
   ·subst q
    rw [if_pos rfl, List.eraseIdx_of_length_le (by simp; omega), List.eraseIdx_append_of_length_le (by simp; omega)]
    simp [Nat.min_eq_left (by omega : k ≤ l.length)]
   ·rw [if_neg (by omega)]
    by_cases c : i < k
    ·rw [List.eraseIdx_append_of_lt_length (by simp; omega)]; rfl
    ·rw [List.eraseIdx_of_length_le (by simp; omega), List.eraseIdx_append_of_length_le (by simp; omega)]
     rw [List.eraseIdx_of_length_le (by simp; omega)]; rfl
theorem without_erase (l : List Bx.Sl) (i : Nat) : Bx.withoutL l i = l.eraseIdx i := by
 rw [Bx.withoutL, skipK_erase l i _ (Nat.le_refl _), List.take_length]
theorem skip_erase {l : List Sl} (hd : Dist l) {i : Nat} (hi : i < l.length) : skip l l[i].num = l.eraseIdx i := by
 induction l generalizing i with
 | nil => simp at hi
 | cons a r ih =>
   have hd' := List.pairwise_cons.1 hd
   cases i with
   | zero =>
     simp only [List.getElem_cons_zero, List.eraseIdx_cons_zero]
     unfold skip
     rw [List.filter_cons_of_neg (by simp), List.filter_eq_self]
     intro x hx
     have := hd'.1 x hx
     simp; exact fun e => this e.symm
   | succ i =>
     simp only [List.getElem_cons_succ, List.eraseIdx_cons_succ]
     have hi' : i < r.length := by simpa using hi
     have := hd'.1 r[i] (List.getElem_mem hi')
     unfold skip
     rw [List.filter_cons_of_pos (by simpa using this)]
     have := ih hd'.2 hi'
     unfold skip at this
     rw [this]
theorem repl_set {l : List Sl} (hd : Dist l) {i : Nat} (hi : i < l.length) (x : Sl) (hx : x.num = l[i].num) : repl l x = l.set i x := by
 apply List.ext_getElem
 ·simp [repl]
 ·intro j h1 h2
  have hj : j < l.length := by simpa [repl] using h1
  by_cases q : i = j
  ·subst q; simp [repl, hx]
  ·rw [List.getElem_set_ne q]
   have : ¬ l[j].num = l[i].num := fun e => q (hd.at hi hj e.symm)
   simp [repl, hx, this]
theorem map_erase {α β : Type} (f : α → β) (l : List α) (i : Nat) : (l.eraseIdx i).map f = (l.map f).eraseIdx i := by
 induction l generalizing i with
 | nil => simp
 | cons a r ih => cases i with
   | zero => simp
   | succ i => simp [ih]
theorem abs_skip {s : St} (hd : Dist s.slots) {i : Nat} (hi : i < s.slots.length) : (skip s.slots s.slots[i].num).map absS = Bx.withoutL (abs s).slots i := by
 rw [skip_erase hd hi, without_erase]
 exact map_erase _ _ _
theorem abs_repl {s : St} (hd : Dist s.slots) {i : Nat} (hi : i < s.slots.length) (x : Sl) (hx : x.num = s.slots[i].num) : (repl s.slots x).map absS = Bx.putL (abs s).slots i (absS x) := by
 rw [repl_set hd hi x hx, putL_set]
 simp only [abs]
 rw [List.map_set]
theorem slAt_abs {s : St} {i : Nat} (hi : i < s.slots.length) : Bx.slAt (abs s) i = absS s.slots[i] := by simp [Bx.slAt, abs, hi]
theorem opt_abs (s : St) (l : Int) (i : Nat) : Bx.opt (abs s) l i = opt s l i := rfl
/-- The changes are the same. -/
theorem cancel_abs {s : St} (hd : Dist s.slots) (n : Int) (hn : ∀ x ∈ s.slots, 1 ≤ x.num) :
 ((cancelP s n).2 = 8 ∧ Bx.find (abs s) n < 0) ∨ ((cancelP s n).2 = 0 ∧ Bx.aboutP (abs s) 75 n = (abs (cancelP s n).1, true)) := by
 unfold cancelP
 cases h : find s.slots n with
 | none => left; rw [find_none h]; exact ⟨rfl, by omega⟩
 | some x =>
   right
   obtain ⟨i, hi, rfl, hxn, hF⟩ := find_some hd h
   refine ⟨rfl, ?_⟩
   unfold Bx.aboutP
   rw [hF, if_neg (by omega), if_pos rfl]
   have h1 := hn _ (List.getElem_mem hi)
   simp only [Bx.with', ended]
   rw [if_pos (by omega), ← abs_skip hd hi, hxn]
   rfl
theorem done_abs {s : St} (hd : Dist s.slots) (n : Int) (hn : ∀ x ∈ s.slots, 1 ≤ x.num) :
 ((doneP s n).2 = 8 ∧ Bx.find (abs s) n < 0) ∨ ((doneP s n).2 = 9 ∧ ∃ i : Nat, Bx.find (abs s) n = i ∧ (Bx.slAt (abs s) i).runs = false) ∨ ((doneP s n).2 = 0 ∧ Bx.aboutP (abs s) 68 n = (abs (doneP s n).1, true)) := by
 unfold doneP
 cases h : find s.slots n with
 | none => left; rw [find_none h]; exact ⟨rfl, by omega⟩
 | some x =>
   right
   obtain ⟨i, hi, rfl, hxn, hF⟩ := find_some hd h
   by_cases hs : s.slots[i].step ≤ 0
   ·left; simp only [hs, if_true]; exact ⟨trivial, i, hF, by rw [slAt_abs hi]; simp [absS]; omega⟩
   ·right
    simp only [hs, if_false]
    refine ⟨trivial, ?_⟩
    unfold Bx.aboutP
    rw [hF, if_neg (by omega), if_neg (by omega), if_neg (by omega), if_pos rfl]
    have h1 := hn _ (List.getElem_mem hi)
    simp only [Bx.with', ended, Int.toNat_natCast]
    rw [if_pos (by omega), ← abs_skip hd hi, hxn, slAt_abs hi]
    have : (absS s.slots[i]).runs = true := by simp [absS]; omega
    rw [this]; rfl
theorem delay_bd (k : Int) : 2 ≤ Bx.delay k ∧ Bx.delay k ≤ 10 := by
 unfold Bx.delay; split
 ·omega
 ·split
  ·omega
  ·split <;> omega
theorem fail_abs {s : St} (hd : Dist s.slots) (n : Int) (hn : ∀ x ∈ s.slots, 1 ≤ x.num) (ha : ∀ x ∈ s.slots, x.att ≤ opt s x.line 2 - 48) :
 ((failP s n).2 = 8 ∧ Bx.find (abs s) n < 0) ∨ ((failP s n).2 = 9 ∧ ∃ i : Nat, Bx.find (abs s) n = i ∧ (Bx.slAt (abs s) i).runs = false) ∨ ((failP s n).2 = 0 ∧ Bx.aboutP (abs s) 70 n = (abs (failP s n).1, true)) := by
 unfold failP
 cases h : find s.slots n with
 | none => left; rw [find_none h]; exact ⟨rfl, by omega⟩
 | some x =>
   right
   obtain ⟨i, hi, rfl, hxn, hF⟩ := find_some hd h
   by_cases hs : s.slots[i].step ≤ 0
   ·left; simp only [hs, if_true]; exact ⟨trivial, i, hF, by rw [slAt_abs hi]; simp [absS]; omega⟩
   ·right
    have h1 := hn _ (List.getElem_mem hi)
    have h2 := ha _ (List.getElem_mem hi)
    have hr : (absS s.slots[i]).runs = true := by simp [absS]; omega
    simp only [hs, if_false]
    have e : Bx.aboutP (abs s) 70 n = (Bx.failed (abs s) i, true) := by
     unfold Bx.aboutP
     rw [hF, if_neg (by omega), if_neg (by omega), if_neg (by omega), if_neg (by omega), if_pos rfl]
     simp only [Int.toNat_natCast]
     rw [slAt_abs hi, hr]
    rw [e]
    unfold Bx.failed
    rw [slAt_abs hi, opt_abs]
    have e1 : (absS s.slots[i]).att = s.slots[i].att := rfl
    have e2 : (absS s.slots[i]).line = s.slots[i].line := rfl
    have e3 : (absS s.slots[i]).num = s.slots[i].num := rfl
    rw [e1, e2, e3]
    by_cases q : opt s s.slots[i].line 2 - 48 ≤ s.slots[i].att
    ·rw [if_pos q, if_pos (by omega)]
     refine ⟨rfl, ?_⟩
     simp only [Bx.with', ended]
     rw [if_pos (by omega), ← abs_skip hd hi, hxn]
     rfl
    ·rw [if_neg q, if_neg (by omega)]
     refine ⟨rfl, ?_⟩
     have := abs_repl hd hi (again s s.slots[i]) rfl
     simp only [Bx.with']
     rw [if_neg (by omega)]
     show _ = (({ tab := s.tab, clock := s.clock, next := s.next, slots := (repl s.slots (again s s.slots[i])).map absS, ends := s.ends } : Bx.St), true)
     rw [this]
     rfl
theorem lock_abs {s : St} {i : Nat} (hi : i < s.slots.length) (hw : s.slots[i].step ≤ 0) : Bx.locked (abs s) i = lockP s s.slots[i].line := by
 have : ∀ k, k ≤ s.slots.length → Bx.lockK (abs s) i k = ((s.slots.take k).any fun x => decide (x.line = s.slots[i].line) && decide (0 < x.step)) := by
  intro k hk
  induction k with
  | zero => rfl
  | succ k ih =>
    have hk' : k < s.slots.length := by omega
    rw [Bx.lockK, ih (by omega), slAt_abs hk', slAt_abs hi, List.take_succ_eq_append_getElem hk', List.any_append]
    congr 1
    by_cases q : k = i
    ·subst q; simp [absS]; omega
    ·simp [absS, q]; rfl
 unfold Bx.locked lockP
 have hl : (abs s).slots.length = s.slots.length := by simp [abs]
 rw [hl, this _ (Nat.le_refl _), List.take_length, slAt_abs hi]
 rfl
end Px
end Go.Proofs.YtdajolpoiffimaaGreatDoor

namespace Go.Proofs.YtdajolpoiffimaaGreatDoor

/-- The last k bytes. -/
def lastN (k : Nat) (l : List UInt8) : List UInt8 := l.drop (l.length - k)
namespace Px
abbrev says (s : ByteArray) : Bool := sayB s
/-- A slot of the program's and a talk of the document's, at rest: at a step that is to be heard, whose word stands not in what was heard; the program keeps only its end. -/
structure Rest (L : List ByteArray) (x : Sl) (t : Bx.Tk) (a : Nat) : Prop where
 at' : t.at' = a
 le : a ≤ L.length
 step : x.step = (a : Int) + 1
 ans : x.ans = t.since
 hear : ∀ h : a < L.length, says L[a] = false ∧ behL (wordAt L a).data.toList t.heard.data.toList = none ∧ x.heard.data.toList = lastN ((wordAt L a).size - 1) t.heard.data.toList
end Px
end Go.Proofs.YtdajolpoiffimaaGreatDoor

namespace Go.Proofs.YtdajolpoiffimaaGreatDoor
namespace Bx
/-- Texts one behind the other. -/
def cat : List ByteArray → ByteArray
 | [] => ByteArray.empty
 | x :: r => x ++ cat r
theorem cat_app (a b : List ByteArray) : cat (a ++ b) = cat a ++ cat b := by
 induction a with
 | nil => simp [cat]
 | cons x r ih => rw [List.cons_append, cat, cat, ih, ByteArray.append_assoc]
theorem cat_snoc (a : List ByteArray) (x : ByteArray) : cat (a ++ [x]) = cat a ++ x := by rw [cat_app]; simp [cat]
def mk1 (b : Bool) : Int := if b = true then 1 else 0
def encSl (x : Sl) : ByteArray := be x.num 2 ++ (be x.line 1 ++ (be x.minute 5 ++ (be x.att 1 ++ (be x.frm 5 ++ be (mk1 x.runs) 1))))
def encEn (x : En) : ByteArray := be x.num 2 ++ x.how
def encSt (s : St) : ByteArray := be (s.clock + 1) 5 ++ (be s.next 2 ++ (be s.tab.size 2 ++ (s.tab ++ (be s.slots.length 1 ++ (cat (s.slots.map encSl) ++ (be s.ends.length 1 ++ cat (s.ends.map encEn)))))))
/-- The body of a frame that holds a whole state. -/
def wholeS (s : St) : ByteArray := b1 90 ++ encSt s
/-- What fits into its bytes. -/
structure SlFit (x : Sl) : Prop where
 n : 0 ≤ x.num ∧ x.num < 65536
 l : 0 ≤ x.line ∧ x.line < 256
 m : 0 ≤ x.minute ∧ x.minute < 1099511627776
 a : 0 ≤ x.att ∧ x.att < 256
 f : 0 ≤ x.frm ∧ x.frm < 1099511627776
structure EnFit (x : En) : Prop where
 n : 0 ≤ x.num ∧ x.num < 65536
 h : x.how.size = 1
structure StFit (s : St) : Prop where
 c : -1 ≤ s.clock ∧ s.clock < 1099511627775
 n : 0 ≤ s.next ∧ s.next < 65536
 t : s.tab.size < 65536
 sl : s.slots.length < 256
 en : s.ends.length < 256
 es : ∀ x ∈ s.slots, SlFit x
 ee : ∀ x ∈ s.ends, EnFit x
end Bx
theorem pr_eta {α β : Type} (p : α × β) : p = (p.1, p.2) := rfl
namespace Px
open Bx
/-- A slot, the slots, the ends, a state: read. -/
def rdSlot (p : PS) : Sl × PS :=
 let a := numP 2 p
 let b := numP 1 a.2
 let c := numP 5 b.2
 let d := numP 1 c.2
 let e := numP 5 d.2
 let f := numP 1 e.2
 (⟨a.1, b.1, c.1, d.1, e.1, if f.1 = 1 then 1 else 0, 0, ByteArray.empty⟩, if f.1 = 1 ∨ f.1 = 0 then f.2 else ⟨f.2.rest, true⟩)
def rdSlotsK : Nat → PS → List Sl × PS
 | 0, p => ([], p)
 | k + 1, p => if p.wrong = true then ([], p) else ((rdSlot p).1 :: (rdSlotsK k (rdSlot p).2).1, (rdSlotsK k (rdSlot p).2).2)
def rdEnd (p : PS) : En × PS := (⟨(numP 2 p).1, (txtP 1 (numP 2 p).2).1⟩, (txtP 1 (numP 2 p).2).2)
def rdEndsK : Nat → PS → List En × PS
 | 0, p => ([], p)
 | k + 1, p => if p.wrong = true then ([], p) else ((rdEnd p).1 :: (rdEndsK k (rdEnd p).2).1, (rdEndsK k (rdEnd p).2).2)
def rdSlots (p : PS) : List Sl × PS := rdSlotsK (numP 1 p).1.toNat (numP 1 p).2
def rdEnds (p : PS) : List En × PS := rdEndsK (numP 1 p).1.toNat (numP 1 p).2
def rdState (p : PS) : St × PS :=
 let c := numP 5 p
 let n := numP 2 c.2
 let l := numP 2 n.2
 let t := txtP l.1 l.2
 let sl := rdSlots t.2
 let en := rdEnds sl.2
 (⟨t.1, c.1 - 1, n.1, sl.1, en.1⟩, en.2)

theorem rdSlot_eq {p pa pb pc pd pe pf : PS} {a b c d e f : Int} (ha : numP 2 p = (a, pa)) (hb : numP 1 pa = (b, pb)) (hc : numP 5 pb = (c, pc)) (hd : numP 1 pc = (d, pd)) (he : numP 5 pd = (e, pe)) (hf : numP 1 pe = (f, pf)) :
 rdSlot p = (⟨a, b, c, d, e, if f = 1 then 1 else 0, 0, ByteArray.empty⟩, if f = 1 ∨ f = 0 then pf else ⟨pf.rest, true⟩) := by
 unfold rdSlot; simp only [ha, hb, hc, hd, he, hf]
theorem numP_r {k : Nat} {p q : PS} {a : Int} (h : numP k p = (a, q)) (hw : q.wrong = false) : p.wrong = false ∧ p.rest = be a k ++ q.rest ∧ 0 ≤ a ∧ a < 256 ^ k := by
 have := numP_right (k := k) (p := p) (by rw [h]; exact hw)
 rw [h] at this; exact this
theorem txtP_r {k : Int} {p q : PS} {a : ByteArray} (h : txtP k p = (a, q)) (hw : q.wrong = false) : p.wrong = false ∧ p.rest = a ++ q.rest ∧ (a.size : Int) = k := by
 have := txtP_right (k := k) (p := p) (by rw [h]; exact hw)
 rw [h] at this; exact this
theorem rdSlot_right {p q : PS} {x : Sl} (h : rdSlot p = (x, q)) (hw : q.wrong = false) : p.wrong = false ∧ p.rest = encSl (absS x) ++ q.rest ∧ SlFit (absS x) := by
 obtain ⟨a, pa, ha⟩ : ∃ a pa, numP 2 p = (a, pa) := ⟨_, _, pr_eta _⟩
 obtain ⟨b, pb, hb⟩ : ∃ a q, numP 1 pa = (a, q) := ⟨_, _, pr_eta _⟩
 obtain ⟨c, pc, hc⟩ : ∃ a q, numP 5 pb = (a, q) := ⟨_, _, pr_eta _⟩
 obtain ⟨d, pd, hd⟩ : ∃ a q, numP 1 pc = (a, q) := ⟨_, _, pr_eta _⟩
 obtain ⟨e, pe, he⟩ : ∃ a q, numP 5 pd = (a, q) := ⟨_, _, pr_eta _⟩
 obtain ⟨f, pf, hf⟩ : ∃ a q, numP 1 pe = (a, q) := ⟨_, _, pr_eta _⟩
 rw [rdSlot_eq ha hb hc hd he hf] at h
 obtain ⟨rfl, rfl⟩ := Prod.mk.inj h
 have hm : f = 1 ∨ f = 0 := by
  by_cases q : f = 1 ∨ f = 0
  ·exact q
  ·rw [if_neg q] at hw; cases hw
 rw [if_pos hm] at hw ⊢
 obtain ⟨w6, e6, a6, b6⟩ := numP_r hf hw
 obtain ⟨w5, e5, a5, b5⟩ := numP_r he w6
 obtain ⟨w4, e4, a4, b4⟩ := numP_r hd w5
 obtain ⟨w3, e3, a3, b3⟩ := numP_r hc w4
 obtain ⟨w2, e2, a2, b2⟩ := numP_r hb w3
 obtain ⟨w1, e1, a1, b1⟩ := numP_r ha w2
 refine ⟨w1, ?_, ⟨⟨a1, by simpa [absS] using b1⟩, ⟨a2, by simpa [absS] using b2⟩, ⟨a3, by simpa [absS] using b3⟩, ⟨a4, by simpa [absS] using b4⟩, ⟨a5, by simpa [absS] using b5⟩⟩⟩
 have hk : mk1 (absS ⟨a, b, c, d, e, if f = 1 then 1 else 0, 0, ByteArray.empty⟩).runs = f := by
  unfold absS mk1; simp only
  rcases hm with q | q
  ·rw [q]; rfl
  ·rw [q]; rfl
 unfold encSl
 rw [hk]
 simp only [ByteArray.append_assoc, absS]
 rw [← e6, ← e5, ← e4, ← e3, ← e2, ← e1]
theorem rdSlot_enc (x : Bx.Sl) (hf : SlFit x) (r : ByteArray) : rdSlot ⟨encSl x ++ r, false⟩ = (⟨x.num, x.line, x.minute, x.att, x.frm, mk1 x.runs, 0, ByteArray.empty⟩, ⟨r, false⟩) := by
 have hm : mk1 x.runs = 1 ∨ mk1 x.runs = 0 := by unfold mk1; split <;> simp
 have hmb : 0 ≤ mk1 x.runs ∧ mk1 x.runs < 256 := by omega
 have e0 : encSl x ++ r = be x.num 2 ++ (be x.line 1 ++ (be x.minute 5 ++ (be x.att 1 ++ (be x.frm 5 ++ (be (mk1 x.runs) 1 ++ r))))) := by simp only [encSl, ByteArray.append_assoc]
 rw [e0]
 refine (rdSlot_eq (numP_be x.num 2 _ false hf.n.1 (by simpa using hf.n.2)) (numP_be x.line 1 _ false hf.l.1 (by simpa using hf.l.2)) (numP_be x.minute 5 _ false hf.m.1 (by simpa using hf.m.2)) (numP_be x.att 1 _ false hf.a.1 (by simpa using hf.a.2)) (numP_be x.frm 5 _ false hf.f.1 (by simpa using hf.f.2)) (numP_be (mk1 x.runs) 1 r false hmb.1 (by simpa using hmb.2))).trans ?_
 rw [if_pos hm]
 rcases hm with q | q <;> rw [q] <;> rfl
theorem rdSlotsK_right : ∀ (k : Nat) {p q : PS} {l : List Sl}, rdSlotsK k p = (l, q) → q.wrong = false → p.wrong = false ∧ p.rest = cat (l.map fun x => encSl (absS x)) ++ q.rest ∧ l.length = k ∧ ∀ x ∈ l, SlFit (absS x)
 | 0, p, q, l, h, hw => by
   rw [rdSlotsK] at h
   obtain ⟨rfl, rfl⟩ := Prod.mk.inj h
   exact ⟨hw, by simp [cat], rfl, by simp⟩
 | k + 1, p, q, l, h, hw => by
   rw [rdSlotsK] at h
   split at h
   ·rename_i hp
    obtain ⟨rfl, rfl⟩ := Prod.mk.inj h
    rw [hp] at hw; cases hw
   ·obtain ⟨y, py, hy⟩ : ∃ y py, rdSlot p = (y, py) := ⟨_, _, pr_eta _⟩
    obtain ⟨m, pm, hm⟩ : ∃ m pm, rdSlotsK k py = (m, pm) := ⟨_, _, pr_eta _⟩
    rw [hy] at h
    simp only at h
    rw [hm] at h
    obtain ⟨rfl, rfl⟩ := Prod.mk.inj h
    obtain ⟨h1, h2, h3, h4⟩ := rdSlotsK_right k hm hw
    obtain ⟨g1, g2, g3⟩ := rdSlot_right hy h1
    refine ⟨g1, ?_, by simp [h3], ?_⟩
    ·rw [List.map_cons, cat, ByteArray.append_assoc, ← h2]; exact g2
    ·intro x hx
     rcases List.mem_cons.1 hx with q | q
     ·rw [q]; exact g3
     ·exact h4 x q
/-- A slot that was read of what was written. -/
def rdOf (x : Bx.Sl) : Sl := ⟨x.num, x.line, x.minute, x.att, x.frm, mk1 x.runs, 0, ByteArray.empty⟩
theorem rdOf_abs (x : Bx.Sl) : absS (rdOf x) = x := by
 obtain ⟨a, b, c, d, e, f⟩ := x
 cases f <;> rfl
theorem rdSlotsK_enc (l : List Bx.Sl) (hf : ∀ x ∈ l, SlFit x) (r : ByteArray) : rdSlotsK l.length ⟨cat (l.map encSl) ++ r, false⟩ = (l.map rdOf, ⟨r, false⟩) := by
 induction l with
 | nil => simp [cat, rdSlotsK]
 | cons x l ih =>
   rw [List.length_cons, rdSlotsK, if_neg (by simp), List.map_cons, cat, ByteArray.append_assoc, rdSlot_enc x (hf x (by simp)), ih (fun y hy => hf y (by simp [hy]))]
   rfl
theorem rdEnd_right {p q : PS} {x : En} (h : rdEnd p = (x, q)) (hw : q.wrong = false) : p.wrong = false ∧ p.rest = encEn x ++ q.rest ∧ EnFit x := by
 obtain ⟨a, pa, ha⟩ : ∃ y py, numP 2 p = (y, py) := ⟨_, _, pr_eta _⟩
 obtain ⟨t, pt, ht⟩ : ∃ y py, txtP 1 pa = (y, py) := ⟨_, _, pr_eta _⟩
 unfold rdEnd at h
 rw [ha] at h
 simp only at h
 rw [ht] at h
 obtain ⟨rfl, rfl⟩ := Prod.mk.inj h
 obtain ⟨w2, e2, s2⟩ := txtP_r ht hw
 obtain ⟨w1, e1, a1, b1⟩ := numP_r ha w2
 refine ⟨w1, ?_, ⟨⟨a1, by simpa using b1⟩, by show t.size = 1; omega⟩⟩
 unfold encEn
 rw [ByteArray.append_assoc]
 show p.rest = be a 2 ++ (t ++ pt.rest)
 rw [← e2, ← e1]
theorem rdEnd_enc (x : En) (hf : EnFit x) (r : ByteArray) : rdEnd ⟨encEn x ++ r, false⟩ = (x, ⟨r, false⟩) := by
 unfold rdEnd encEn
 rw [ByteArray.append_assoc, numP_be _ 2 _ _ hf.n.1 (by simpa using hf.n.2), txtP_app _ _ _ _ (by rw [hf.h]; rfl)]
theorem rdEndsK_right : ∀ (k : Nat) {p q : PS} {l : List En}, rdEndsK k p = (l, q) → q.wrong = false → p.wrong = false ∧ p.rest = cat (l.map encEn) ++ q.rest ∧ l.length = k ∧ ∀ x ∈ l, EnFit x
 | 0, p, q, l, h, hw => by
   rw [rdEndsK] at h
   obtain ⟨rfl, rfl⟩ := Prod.mk.inj h
   exact ⟨hw, by simp [cat], rfl, by simp⟩
 | k + 1, p, q, l, h, hw => by
   rw [rdEndsK] at h
   split at h
   ·rename_i hp
    obtain ⟨rfl, rfl⟩ := Prod.mk.inj h
    rw [hp] at hw; cases hw
   ·obtain ⟨y, py, hy⟩ : ∃ y py, rdEnd p = (y, py) := ⟨_, _, pr_eta _⟩
    obtain ⟨m, pm, hm⟩ : ∃ m pm, rdEndsK k py = (m, pm) := ⟨_, _, pr_eta _⟩
    rw [hy] at h
    simp only at h
    rw [hm] at h
    obtain ⟨rfl, rfl⟩ := Prod.mk.inj h
    obtain ⟨h1, h2, h3, h4⟩ := rdEndsK_right k hm hw
    obtain ⟨g1, g2, g3⟩ := rdEnd_right hy h1
    refine ⟨g1, ?_, by simp [h3], ?_⟩
    ·rw [List.map_cons, cat, ByteArray.append_assoc, ← h2]; exact g2
    ·intro x hx
     rcases List.mem_cons.1 hx with q | q
     ·rw [q]; exact g3
     ·exact h4 x q
theorem rdEndsK_enc (l : List En) (hf : ∀ x ∈ l, EnFit x) (r : ByteArray) : rdEndsK l.length ⟨cat (l.map encEn) ++ r, false⟩ = (l, ⟨r, false⟩) := by
 induction l with
 | nil => simp [cat, rdEndsK]
 | cons x l ih =>
   rw [List.length_cons, rdEndsK, if_neg (by simp), List.map_cons, cat, ByteArray.append_assoc, rdEnd_enc x (hf x (by simp)), ih (fun y hy => hf y (by simp [hy]))]
theorem rdSlots_right {p q : PS} {l : List Sl} (h : rdSlots p = (l, q)) (hw : q.wrong = false) : p.wrong = false ∧ p.rest = be l.length 1 ++ (cat (l.map fun x => encSl (absS x)) ++ q.rest) ∧ l.length < 256 ∧ ∀ x ∈ l, SlFit (absS x) := by
 obtain ⟨h1, h2, h3, h4⟩ := rdSlotsK_right _ h hw
 obtain ⟨w1, e1, a1, b1⟩ := numP_r (p := p) (a := (numP 1 p).1) (q := (numP 1 p).2) (pr_eta _) h1
 have hl : (numP 1 p).1 = (l.length : Int) := by omega
 refine ⟨w1, by rw [← h2, ← hl]; exact e1, by simp at b1; omega, h4⟩
theorem rdSlots_enc (l : List Bx.Sl) (hl : l.length < 256) (hf : ∀ x ∈ l, SlFit x) (r : ByteArray) : rdSlots ⟨be l.length 1 ++ (cat (l.map encSl) ++ r), false⟩ = (l.map rdOf, ⟨r, false⟩) := by
 unfold rdSlots
 rw [numP_be _ 1 _ _ (by omega) (by simp; omega), Int.toNat_natCast, rdSlotsK_enc l hf]
theorem rdEnds_right {p q : PS} {l : List En} (h : rdEnds p = (l, q)) (hw : q.wrong = false) : p.wrong = false ∧ p.rest = be l.length 1 ++ (cat (l.map encEn) ++ q.rest) ∧ l.length < 256 ∧ ∀ x ∈ l, EnFit x := by
 obtain ⟨h1, h2, h3, h4⟩ := rdEndsK_right _ h hw
 obtain ⟨w1, e1, a1, b1⟩ := numP_r (p := p) (a := (numP 1 p).1) (q := (numP 1 p).2) (pr_eta _) h1
 have hl : (numP 1 p).1 = (l.length : Int) := by omega
 refine ⟨w1, by rw [← h2, ← hl]; exact e1, by simp at b1; omega, h4⟩
theorem rdEnds_enc (l : List En) (hl : l.length < 256) (hf : ∀ x ∈ l, EnFit x) (r : ByteArray) : rdEnds ⟨be l.length 1 ++ (cat (l.map encEn) ++ r), false⟩ = (l, ⟨r, false⟩) := by
 unfold rdEnds
 rw [numP_be _ 1 _ _ (by omega) (by simp; omega), Int.toNat_natCast, rdEndsK_enc l hf]
theorem rdState_eq {p pc pn pl pt ps pe : PS} {c n l : Int} {t : ByteArray} {sl : List Sl} {en : List En} (hc : numP 5 p = (c, pc)) (hn : numP 2 pc = (n, pn)) (hl : numP 2 pn = (l, pl)) (ht : txtP l pl = (t, pt)) (hs : rdSlots pt = (sl, ps)) (he : rdEnds ps = (en, pe)) :
 rdState p = (⟨t, c - 1, n, sl, en⟩, pe) := by
 unfold rdState; simp only [hc, hn, hl, ht, hs, he]
theorem rdState_right {p q : PS} {s : St} (h : rdState p = (s, q)) (hw : q.wrong = false) : p.wrong = false ∧ p.rest = encSt (abs s) ++ q.rest ∧ StFit (abs s) := by
 obtain ⟨c, pc, hc⟩ : ∃ a q, numP 5 p = (a, q) := ⟨_, _, pr_eta _⟩
 obtain ⟨n, pn, hn⟩ : ∃ a q, numP 2 pc = (a, q) := ⟨_, _, pr_eta _⟩
 obtain ⟨l, pl, hl⟩ : ∃ a q, numP 2 pn = (a, q) := ⟨_, _, pr_eta _⟩
 obtain ⟨t, pt, ht⟩ : ∃ a q, txtP l pl = (a, q) := ⟨_, _, pr_eta _⟩
 obtain ⟨sl, ps, hs⟩ : ∃ a q, rdSlots pt = (a, q) := ⟨_, _, pr_eta _⟩
 obtain ⟨en, pe, he⟩ : ∃ a q, rdEnds ps = (a, q) := ⟨_, _, pr_eta _⟩
 rw [rdState_eq hc hn hl ht hs he] at h
 obtain ⟨rfl, rfl⟩ := Prod.mk.inj h
 obtain ⟨w6, e6, l6, f6⟩ := rdEnds_right he hw
 obtain ⟨w5, e5, l5, f5⟩ := rdSlots_right hs w6
 obtain ⟨w4, e4, s4⟩ := txtP_r ht w5
 obtain ⟨w3, e3, a3, b3⟩ := numP_r hl w4
 obtain ⟨w2, e2, a2, b2⟩ := numP_r hn w3
 obtain ⟨w1, e1, a1, b1⟩ := numP_r hc w2
 simp at b1 b2 b3
 refine ⟨w1, ?_, ⟨⟨by show -1 ≤ c - 1; omega, by show c - 1 < _; omega⟩, ⟨a2, b2⟩, by show t.size < 65536; omega, by simpa [abs] using l5, l6, ?_, f6⟩⟩
 ·unfold encSt abs
  simp only [ByteArray.append_assoc, List.length_map, List.map_map]
  rw [show c - 1 + 1 = c by omega, s4, ← e6]
  rw [show (encSl ∘ absS) = fun x => encSl (absS x) from rfl, ← e5, ← e4, ← e3, ← e2, ← e1]
 ·intro x hx
  obtain ⟨y, hy, rfl⟩ := List.mem_map.1 hx
  exact f5 y hy
/-- A state that was read of what was written. -/
def rdSt (s : Bx.St) : St := ⟨s.tab, s.clock, s.next, s.slots.map rdOf, s.ends⟩
theorem rdSt_abs (s : Bx.St) : abs (rdSt s) = s := by
 obtain ⟨a, b, c, d, e⟩ := s
 unfold abs rdSt
 simp only [List.map_map]
 have : (absS ∘ rdOf) = id := funext rdOf_abs
 rw [this, List.map_id]
theorem rdState_enc (s : Bx.St) (hf : StFit s) (r : ByteArray) : rdState ⟨encSt s ++ r, false⟩ = (rdSt s, ⟨r, false⟩) := by
 have e0 : encSt s ++ r = be (s.clock + 1) 5 ++ (be s.next 2 ++ (be s.tab.size 2 ++ (s.tab ++ (be s.slots.length 1 ++ (cat (s.slots.map encSl) ++ (be s.ends.length 1 ++ (cat (s.ends.map encEn) ++ r))))))) := by simp only [encSt, ByteArray.append_assoc]
 rw [e0]
 have hc := hf.c
 have ht := hf.t
 refine (rdState_eq (numP_be (s.clock + 1) 5 _ false (by omega) (by simp; omega)) (numP_be s.next 2 _ false hf.n.1 (by simpa using hf.n.2)) (numP_be (s.tab.size : Int) 2 _ false (by omega) (by simp; omega)) (txtP_app s.tab _ false _ rfl) (rdSlots_enc s.slots hf.sl hf.es _) (rdEnds_enc s.ends hf.en hf.ee r)).trans ?_
 rw [show s.clock + 1 - 1 = s.clock by omega]; rfl
end Px
end Go.Proofs.YtdajolpoiffimaaGreatDoor

namespace Go.Proofs.YtdajolpoiffimaaGreatDoor
namespace Bx
theorem sum_bd (s : ByteArray) : 0 ≤ Crc.sumR s ∧ Crc.sumR s < 4294967296 := by
 have := Crc.crc_lt s.data.toList
 unfold Crc.sumR; omega
theorem app_inj {a b c d : ByteArray} (h : a ++ b = c ++ d) (hs : a.size = c.size) : a = c ∧ b = d := by
 have e : a.data.toList ++ b.data.toList = c.data.toList ++ d.data.toList := by
  have := congrArg (fun x : ByteArray => x.data.toList) h
  simpa [ByteArray.data_append] using this
 obtain ⟨h1, h2⟩ := List.append_inj e (by rw [ba_len, ba_len, hs])
 exact ⟨ba_ext h1, ba_ext h2⟩
/-- A frame stands at the head of a log. -/
def Nx (r b more : ByteArray) : Prop := r = frame b ++ more ∧ b.size < 65536
theorem be_inj {n m : Int} {k : Nat} (h : be n k = be m k) (n0 : 0 ≤ n) (n1 : n < 256 ^ k) (m0 : 0 ≤ m) (m1 : m < 256 ^ k) : n = m := by
 rw [← nB_be n k n0 n1, ← nB_be m k m0 m1, h]
theorem Nx.uniq {r b more b' more' : ByteArray} (h : Nx r b more) (h' : Nx r b' more') : b = b' ∧ more = more' := by
 obtain ⟨e, hb⟩ := h
 obtain ⟨e', hb'⟩ := h'
 rw [e] at e'
 unfold frame at e'
 simp only [ByteArray.append_assoc] at e'
 obtain ⟨e1, e2⟩ := app_inj e' (by rw [be_size, be_size])
 have hz := be_inj e1 (by omega) (by simp; omega) (by omega) (by simp; omega)
 obtain ⟨e3, e4⟩ := app_inj e2 (by omega)
 obtain ⟨_, e5⟩ := app_inj e4 (by rw [be_size, be_size])
 exact ⟨e3, e5⟩
theorem Nx.lt {r b more : ByteArray} (h : Nx r b more) : more.size < r.size := by rw [h.1, ByteArray.size_append, frame_size]; omega
/-- A change that fits into its bytes. -/
def ChFit (c : Ch) : Prop := (c.kind = 84 ∧ c.n = 0) ∨ (c.kind = 67 ∧ c.tab = ByteArray.empty ∧ 0 ≤ c.n ∧ c.n < 1099511627776) ∨ ((c.kind = 83 ∨ c.kind = 68 ∨ c.kind = 70 ∨ c.kind = 75) ∧ c.tab = ByteArray.empty ∧ 0 ≤ c.n ∧ c.n < 65536)
def IsCh (b : ByteArray) (c : Ch) : Prop := ChFit c ∧ body c = b
theorem ChFit.kind {c : Ch} (h : ChFit c) : 0 ≤ c.kind ∧ c.kind < 256 ∧ c.kind ≠ 90 := by rcases h with h | h | h <;> omega
theorem b1_be (n : Int) : b1 n = be n 1 := by simp [be]
theorem IsCh.uniq {b : ByteArray} {c c' : Ch} (h : IsCh b c) (h' : IsCh b c') : c = c' := by
 obtain ⟨f, e⟩ := h
 obtain ⟨f', e'⟩ := h'
 rw [← e'] at e
 unfold body at e
 obtain ⟨e1, e2⟩ := app_inj e (by rw [b1_size, b1_size])
 rw [b1_be, b1_be] at e1
 have k1 := f.kind
 have k2 := f'.kind
 have hk := be_inj e1 k1.1 (by simpa using k1.2.1) k2.1 (by simpa using k2.2.1)
 obtain ⟨k, t, n⟩ := c
 obtain ⟨k', t', n'⟩ := c'
 simp only at hk e2
 subst hk
 rcases f with ⟨q, q1⟩ | ⟨q, q1, q2, q3⟩ | ⟨q, q1, q2, q3⟩
 ·simp only at q q1
  subst q q1
  rcases f' with ⟨p, p1⟩ | ⟨p, p1, p2, p3⟩ | ⟨p, p1, p2, p3⟩
  ·simp only at p1; subst p1
   rw [if_pos rfl, if_pos rfl] at e2
   rw [e2]
  ·cases p
  ·simp at p
 ·simp only at q q1 q2 q3
  subst q q1
  rcases f' with ⟨p, p1⟩ | ⟨p, p1, p2, p3⟩ | ⟨p, p1, p2, p3⟩
  ·cases p
  ·simp only at p1 p2 p3; subst p1
   rw [if_neg (show ¬ (67 : Int) = 84 by decide), if_pos rfl, if_neg (show ¬ (67 : Int) = 84 by decide), if_pos rfl] at e2
   rw [be_inj e2 q2 (by simpa using q3) p2 (by simpa using p3)]
  ·simp at p
 ·simp only at q q1 q2 q3
  subst q1
  have h84 : ¬ k = 84 := by omega
  have h67 : ¬ k = 67 := by omega
  rcases f' with ⟨p, p1⟩ | ⟨p, p1, p2, p3⟩ | ⟨p, p1, p2, p3⟩
  ·exact absurd p h84
  ·exact absurd p h67
  ·simp only at p1 p2 p3; subst p1
   rw [if_neg h84, if_neg h84, if_neg h67, if_neg h67] at e2
   rw [be_inj e2 q2 (by simpa using q3) p2 (by simpa using p3)]
/-- A slot, an end, a state that may be. -/
structure MaySl (s : St) (x : Sl) : Prop where
 n : 1 ≤ x.num ∧ x.num < s.next
 l : 1 ≤ x.line ∧ x.line ≤ tn s.tab
 m0 : 0 ≤ x.minute
 m : x.minute ≤ s.clock
 a : 1 ≤ x.att ∧ x.att ≤ opt s x.line 2 - 48
 f1 : x.att = 1 → x.frm = x.minute
 f2 : x.att ≠ 1 → x.minute < x.frm ∧ x.frm ≤ s.clock + 10
 r : x.runs = true → x.frm ≤ s.clock
structure MayEn (s : St) (x : En) : Prop where
 n : 1 ≤ x.num ∧ x.num < s.next
 h : x.how = hD ∨ x.how = hA ∨ x.how = hK ∨ x.how = hS
 o : ∀ y ∈ s.slots, y.num ≠ x.num
structure MayS (s : St) : Prop where
 tab : ChkR s.tab 0 0
 c1 : -1 ≤ s.clock
 c2 : s.clock ≤ 4223371679
 n1 : 1 ≤ s.next
 n2 : s.next ≤ 10000
 sl : s.slots.length ≤ 8
 en : s.ends.length ≤ 6
 rise : s.slots.Pairwise fun a b => a.num < b.num
 lock : s.slots.Pairwise fun a b => a.line = b.line → opt s a.line 0 = 120 → a.runs = true → b.runs = true → False
 dif : s.ends.Pairwise fun a b => a.num ≠ b.num
 es : ∀ x ∈ s.slots, MaySl s x
 ee : ∀ x ∈ s.ends, MayEn s x
theorem MayS.ok {s : St} (h : MayS s) : StOk s := ⟨h.tab, h.c1, h.c2, h.n1, h.n2, h.sl, h.en, fun x hx => ⟨(h.es x hx).n.1, (h.es x hx).n.2, (h.es x hx).l.1, (h.es x hx).l.2, (h.es x hx).a.1, (h.es x hx).a.2⟩⟩
theorem first_may : MayS first := ⟨empty_tab, by decide, by decide, by decide, by decide, by decide, by decide, by simp [first], by simp [first], by simp [first], by simp [first], by simp [first]⟩
theorem how_size {h : ByteArray} (e : h = hD ∨ h = hA ∨ h = hK ∨ h = hS) : h.size = 1 := by rcases e with rfl | rfl | rfl | rfl <;> rfl
theorem MayS.fit {s : St} (h : MayS s) : StFit s := by
 have h300 := h.tab.lines.1
 have h4 := tn_le h.tab
 have hc1 := h.c1; have hc2 := h.c2; have hn1 := h.n1; have hn2 := h.n2; have hsl := h.sl; have hen := h.en
 refine ⟨⟨hc1, by omega⟩, ⟨by omega, by omega⟩, by omega, by omega, by omega, fun x hx => ?_, fun x hx => ?_⟩
 ·have q := h.es x hx
  have q1 := q.n; have q2 := q.l; have q3 := q.m; have q4 := q.a
  have q5 := q.m0
  have q6 := h.ok.att5 hx
  have q7 : 0 ≤ x.frm ∧ x.frm < 1099511627776 := by
   by_cases e : x.att = 1
   ·have := q.f1 e; omega
   ·have := q.f2 e; omega
  exact ⟨⟨by omega, by omega⟩, ⟨by omega, by omega⟩, ⟨q5, by omega⟩, ⟨by omega, by omega⟩, q7⟩
 ·have q := h.ee x hx
  exact ⟨by have := q.n; omega, how_size q.h⟩
/-- A body holds a whole state. -/
def IsZ (b : ByteArray) (s : St) : Prop := MayS s ∧ wholeS s = b
theorem IsZ.uniq {b : ByteArray} {s t : St} (h : IsZ b s) (h' : IsZ b t) : s = t := by
 obtain ⟨f, e⟩ := h
 obtain ⟨f', e'⟩ := h'
 rw [← e'] at e
 unfold wholeS at e
 obtain ⟨_, e2⟩ := app_inj e rfl
 have h1 := Px.rdState_enc s f.fit ByteArray.empty
 have h2 := Px.rdState_enc t f'.fit ByteArray.empty
 rw [e2, h2] at h1
 have := congrArg (fun p => Px.abs p.1) h1
 simp only [Px.rdSt_abs] at this
 exact this.symm
theorem IsZ.no_ch {b : ByteArray} {s : St} {c : Ch} (h : IsZ b s) (h' : IsCh b c) : False := by
 obtain ⟨_, e⟩ := h
 obtain ⟨f, e'⟩ := h'
 rw [← e'] at e
 unfold wholeS body at e
 obtain ⟨e1, _⟩ := app_inj e rfl
 rw [b1_be, b1_be] at e1
 have k := f.kind
 exact k.2.2 (be_inj e1 (by decide) (by decide) k.1 (by simpa using k.2.1)).symm
/-- A frame's body, right behind a state. -/
def Stp (first : Bool) (s : St) (b : ByteArray) (t : St) : Prop := (first = true ∧ IsZ b t) ∨ (∃ c, IsCh b c ∧ (doP s c).2 = true ∧ t = (doP s c).1)
theorem Stp.uniq {fl : Bool} {s t t' : St} {b : ByteArray} (h : Stp fl s b t) (h' : Stp fl s b t') : t = t' := by
 rcases h with ⟨_, h⟩ | ⟨c, h, _, rfl⟩
 ·rcases h' with ⟨_, h'⟩ | ⟨c, h', _⟩
  ·exact h.uniq h'
  ·exact (h.no_ch h').elim
 ·rcases h' with ⟨_, h'⟩ | ⟨c', h', _, rfl⟩
  ·exact (h'.no_ch h).elim
  ·rw [h.uniq h']
/-- What a log says: the state, and what is left of the log. -/
inductive Says : Bool → St → ByteArray → St → ByteArray → Prop
 | stop (fl : Bool) (s : St) (r : ByteArray) (h : ¬ ∃ b more t, Nx r b more ∧ Stp fl s b t) : Says fl s r s r
 | go {fl : Bool} {s t u : St} {r b more q : ByteArray} (h1 : Nx r b more) (h2 : Stp fl s b t) (h3 : Says false t more u q) : Says fl s r u q
theorem Says.uniq {fl : Bool} {s u u' : St} {r q q' : ByteArray} (h : Says fl s r u q) (h' : Says fl s r u' q') : u = u' ∧ q = q' := by
 induction h with
 | stop fl s r hn =>
   cases h' with
   | stop => exact ⟨rfl, rfl⟩
   | go h1 h2 h3 => exact (hn ⟨_, _, _, h1, h2⟩).elim
 | go h1 h2 _ ih =>
   cases h' with
   | stop _ _ _ hn => exact (hn ⟨_, _, _, h1, h2⟩).elim
   | go h1' h2' h3' =>
     obtain ⟨rfl, rfl⟩ := h1.uniq h1'
     obtain rfl := h2.uniq h2'
     exact ih h3'
theorem cat_size {α : Type} (f : α → ByteArray) (n : Nat) (l : List α) (h : ∀ x ∈ l, (f x).size = n) : (cat (l.map f)).size = n * l.length := by
 induction l with
 | nil => simp [cat]
 | cons x l ih =>
   rw [List.map_cons, cat, ByteArray.size_append, h x (by simp), ih (fun y hy => h y (by simp [hy])), List.length_cons, Nat.mul_succ]; omega
theorem encSl_size (x : Sl) : (encSl x).size = 15 := by
 unfold encSl; simp only [ByteArray.size_append, be_size]
theorem wholeS_size {s : St} (h : MayS s) : (wholeS s).size ≤ 450 := by
 have h300 := h.tab.lines.1
 have h1 := cat_size encSl 15 s.slots (fun x _ => encSl_size x)
 have h2 := cat_size encEn 3 s.ends (fun x hx => by unfold encEn; rw [ByteArray.size_append, be_size, how_size (h.ee x hx).h])
 have hsl := h.sl
 have hen := h.en
 unfold wholeS encSt
 simp only [ByteArray.size_append, be_size, b1_size, h1, h2]
 omega
end Bx
end Go.Proofs.YtdajolpoiffimaaGreatDoor

namespace Go.Proofs.YtdajolpoiffimaaGreatDoor
namespace Bx
theorem MayS.dist {s : St} (h : MayS s) {i j : Nat} (hi : i < s.slots.length) (hj : j < s.slots.length) (e : s.slots[i].num = s.slots[j].num) : i = j := by
 rcases Nat.lt_trichotomy i j with q | q | q
 ·have := List.pairwise_iff_getElem.1 h.rise i j hi hj q; omega
 ·exact q
 ·have := List.pairwise_iff_getElem.1 h.rise j i hj hi q; omega
/-- The number that is found. -/
theorem findK_num (l : List Sl) (n : Int) (k : Nat) (hk : k ≤ l.length) (h : ¬ findK l n k < 0) : ∃ hi : (findK l n k).toNat < l.length, (l[(findK l n k).toNat]).num = n := by
 induction k with
 | zero => exact absurd (show findK l n 0 < 0 by simp [findK]) h
 | succ k ih =>
   unfold findK at h ⊢
   split
   ·rename_i hc
    refine ⟨by simp; omega, ?_⟩
    have hkl : k < l.length := by omega
    rw [List.getElem?_eq_getElem hkl] at hc
    simpa using hc
   ·rename_i hc
    rw [if_neg hc] at h
    exact ih (by omega) h
theorem find_num {s : St} {n : Int} (h : ¬ find s n < 0) : ∃ hi : (find s n).toNat < s.slots.length, (s.slots[(find s n).toNat]).num = n := findK_num _ _ _ (Nat.le_refl _) h
theorem find_nat {s : St} {n : Int} (h : ¬ find s n < 0) : find s n = ((find s n).toNat : Int) := by omega
theorem slAt_eq {s : St} {i : Nat} (h : i < s.slots.length) : slAt s i = s.slots[i] := by simp [slAt, h]
theorem putK_set (l : List Sl) (i : Nat) (x : Sl) (k : Nat) (hk : k ≤ l.length) : putK l i x k = (l.set i x).take k := by
 induction k with
 | zero => simp [putK]
 | succ k ih =>
   have hkl : k < l.length := by omega
   have hks : k < (l.set i x).length := by simpa using hkl
   rw [putK, ih (by omega), List.take_succ_eq_append_getElem hks, List.getElem_set]
   by_cases e : i = k
   ·subst e; simp
   ·rw [if_neg (by omega), if_neg e, List.getElem?_eq_getElem hkl]; rfl
theorem put_set (l : List Sl) (i : Nat) (x : Sl) : putL l i x = l.set i x := by
 unfold putL; rw [putK_set l i x _ (Nat.le_refl _), List.take_of_length_le (by simp)]
/-- What was among the slots is none of the ends. -/
theorem push_mem {l : List En} {e x : En} (h : x ∈ push l e) : x ∈ l ∨ x = e := by
 unfold push at h
 rcases List.mem_append.1 h with h | h
 ·exact Or.inl (List.mem_of_mem_drop h)
 ·exact Or.inr (by simpa using h)
theorem push_dif {l : List En} {e : En} (h : l.Pairwise fun a b => a.num ≠ b.num) (hn : ∀ x ∈ l, x.num ≠ e.num) : (push l e).Pairwise fun a b => a.num ≠ b.num := by
 unfold push
 rw [List.pairwise_append]
 refine ⟨h.sublist (List.drop_sublist _ _), by simp, fun a ha b hb => ?_⟩
 simp at hb; subst hb
 exact hn a (List.mem_of_mem_drop ha)
theorem MaySl.sub {s t : St} {x : Sl} (h : MaySl s x) (h1 : t.next = s.next) (h2 : t.tab = s.tab) (h3 : t.clock = s.clock) : MaySl t x := by
 obtain ⟨a1, a2, a3, a4, a5, a6, a7, a8⟩ := h
 refine ⟨by rw [h1]; exact a1, by rw [h2]; exact a2, a3, by rw [h3]; exact a4, ?_, a6, by rw [h3]; exact a7, by rw [h3]; exact a8⟩
 unfold opt at a5 ⊢; rw [h2]; exact a5
/-- A slot ends. -/
theorem MayS.gone {s : St} (h : MayS s) {i : Nat} (hi : i < s.slots.length) {how : ByteArray} (hh : how = hD ∨ how = hA ∨ how = hK ∨ how = hS) : MayS (with' s (withoutL s.slots i) s.slots[i].num how) := by
 have hx := h.es _ (List.getElem_mem hi)
 have hpos : 0 < s.slots[i].num := by have := hx.n; omega
 have he : (with' s (withoutL s.slots i) s.slots[i].num how) = { s with slots := s.slots.eraseIdx i, ends := push s.ends ⟨s.slots[i].num, how⟩ } := by
  unfold with'; rw [if_pos hpos, Px.without_erase]
 rw [he]
 have hsub : (s.slots.eraseIdx i).Sublist s.slots := List.eraseIdx_sublist _ _
 have hnot : ∀ y ∈ s.slots.eraseIdx i, y.num ≠ s.slots[i].num := by
  intro y hy e
  obtain ⟨j, hj, hji, hjn⟩ := List.mem_eraseIdx_iff_getElem.1 hy
  exact hji (h.dist hj hi (by rw [hjn]; exact e))
 refine ⟨h.tab, h.c1, h.c2, h.n1, h.n2, Nat.le_trans (hsub.length_le) h.sl, push_len _, h.rise.sublist hsub, h.lock.sublist hsub, ?_, fun x hx => (h.es x (hsub.subset hx)).sub rfl rfl rfl, ?_⟩
 ·refine push_dif h.dif fun x hx e => ?_
  exact (h.ee x hx).o _ (List.getElem_mem hi) e.symm
 ·intro x hx'
  rcases push_mem hx' with q | q
  ·have := h.ee x q
   exact ⟨this.n, this.h, fun y hy => this.o y (hsub.subset hy)⟩
  ·subst q
   exact ⟨hx.n, hh, fun y hy => hnot y hy⟩
/-- A slot is another. -/
theorem MayS.put {s : St} (h : MayS s) {i : Nat} (hi : i < s.slots.length) {y : Sl} (hn : y.num = s.slots[i].num) (_hl : y.line = s.slots[i].line) (hy : MaySl s y)
 (hr : y.runs = true → ∀ k (hk : k < s.slots.length), k ≠ i → s.slots[k].line = y.line → opt s y.line 0 = 120 → s.slots[k].runs = true → False) : MayS (with' s (putL s.slots i y) 0 ByteArray.empty) := by
 have he : with' s (putL s.slots i y) 0 ByteArray.empty = { s with slots := s.slots.set i y } := by
  unfold with'; rw [if_neg (by decide), put_set]
 rw [he]
 have hg : ∀ k (hk : k < (s.slots.set i y).length), (s.slots.set i y)[k].num = (s.slots[k]'(by simpa using hk)).num := by
  intro k hk
  rw [List.getElem_set]
  by_cases e : i = k
  ·subst e; rw [if_pos rfl]; exact hn
  ·rw [if_neg e]
 refine ⟨h.tab, h.c1, h.c2, h.n1, h.n2, by simpa using h.sl, h.en, ?_, ?_, h.dif, ?_, ?_⟩
 ·rw [List.pairwise_iff_getElem]
  intro a b ha hb hab
  rw [hg, hg]
  exact List.pairwise_iff_getElem.1 h.rise a b _ _ hab
 ·rw [List.pairwise_iff_getElem]
  intro a b ha hb hab
  have ha' : a < s.slots.length := by simpa using ha
  have hb' : b < s.slots.length := by simpa using hb
  rw [List.getElem_set, List.getElem_set]
  by_cases ea : i = a
  ·subst ea
   rw [if_pos rfl, if_neg (by omega)]
   intro h1 h2 h3 h4
   exact hr h3 b hb' (by omega) h1.symm h2 h4
  ·rw [if_neg ea]
   by_cases eb : i = b
   ·subst eb
    rw [if_pos rfl]
    intro h1 h2 h3 h4
    exact hr h4 a ha' (by omega) h1 (by rw [← h1]; exact h2) h3
   ·rw [if_neg eb]
    exact List.pairwise_iff_getElem.1 h.lock a b ha' hb' hab
 ·intro x hx
  rcases List.mem_or_eq_of_mem_set hx with q | q
  ·exact (h.es x q).sub rfl rfl rfl
  ·rw [q]; exact hy.sub rfl rfl rfl
 ·intro x hx
  have q := h.ee x hx
  refine ⟨q.n, q.h, fun z hz => ?_⟩
  rcases List.mem_or_eq_of_mem_set hz with p | p
  ·exact q.o z p
  ·rw [p, hn]; exact q.o _ (List.getElem_mem hi)
theorem lockK_no {s : St} {i k : Nat} (h : lockK s i k = false) : ∀ j, j < k → j ≠ i → (slAt s j).line = (slAt s i).line → (slAt s j).runs = true → False := by
 induction k with
 | zero => intro j hj; omega
 | succ k ih =>
   intro j hj hne hl hr
   rw [lockK] at h
   simp only [Bool.or_eq_false_iff] at h
   by_cases e : j = k
   ·subst e
    have := h.2
    simp [hne, hl, hr] at this
   ·exact ih h.1 j (by omega) hne hl hr
theorem MayS.failed {s : St} (h : MayS s) {i : Nat} (hi : i < s.slots.length) : MayS (failed s i) := by
 have hx := h.es _ (List.getElem_mem hi)
 unfold Bx.failed
 rw [slAt_eq hi]
 split
 ·exact h.gone hi (Or.inr (Or.inl rfl))
 ·rename_i hne
  have hd := Px.delay_bd s.slots[i].att
  have ha := hx.a
  have hm := hx.m
  refine h.put hi rfl rfl ⟨hx.n, hx.l, hx.m0, hx.m, ?_, ?_, ?_, ?_⟩ ?_
  ·show 1 ≤ s.slots[i].att + 1 ∧ s.slots[i].att + 1 ≤ opt s s.slots[i].line 2 - 48
   omega
  ·intro e; have : s.slots[i].att + 1 = 1 := e; omega
  ·intro _
   show s.slots[i].minute < s.clock + delay s.slots[i].att ∧ s.clock + delay s.slots[i].att ≤ s.clock + 10
   omega
  ·intro e; cases e
  ·intro e; cases e
theorem MayS.about {s : St} (h : MayS s) (kind n : Int) : MayS (aboutP s kind n).1 := by
 unfold aboutP
 split
 ·exact h
 ·rename_i hn
  obtain ⟨hi, hnum⟩ := find_num hn
  have hf := find_nat hn
  generalize (find s n).toNat = i at *
  rw [hf]
  have hx := h.es _ (List.getElem_mem hi)
  split
  ·have := h.gone hi (how := hK) (Or.inr (Or.inr (Or.inl rfl))); rw [hnum] at this; exact this
  ·split
   ·split
    ·exact h
    ·rename_i hc
     rw [slAt_eq hi] at hc ⊢
     have hc1 : ¬ s.slots[i].runs = true := fun e => hc (Or.inl e)
     have hc2 : ¬ s.clock < s.slots[i].frm := fun e => hc (Or.inr (Or.inl e))
     have hc3 : ¬ locked s i = true := fun e => hc (Or.inr (Or.inr e))
     refine h.put hi rfl rfl ⟨hx.n, hx.l, hx.m0, hx.m, hx.a, hx.f1, hx.f2, fun _ => by show s.slots[i].frm ≤ s.clock; omega⟩ ?_
     intro _ k hk hki hl ho hr
     have hlk : locked s i = false := by simpa using hc3
     unfold locked at hlk
     rw [slAt_eq hi] at hlk
     have ho' : (opt s s.slots[i].line 0 == 120) = true := by simpa using ho
     rw [ho', Bool.true_and] at hlk
     exact lockK_no hlk k hk hki (by rw [slAt_eq hk, slAt_eq hi]; exact hl) (by rw [slAt_eq hk]; exact hr)
   ·split
    ·have := h.gone hi (how := hD) (Or.inl rfl); rw [hnum] at this; exact this
    ·split
     ·exact h.failed hi
     ·exact h
/-- The clock goes on. -/
theorem MayS.later {s : St} (h : MayS s) {m : Int} (h1 : s.clock ≤ m) (h2 : m ≤ 4223371679) : MayS { s with clock := m } := by
 refine ⟨h.tab, by have := h.c1; show -1 ≤ m; omega, h2, h.n1, h.n2, h.sl, h.en, h.rise, h.lock, h.dif, fun x hx => ?_, fun x hx => ⟨(h.ee x hx).n, (h.ee x hx).h, (h.ee x hx).o⟩⟩
 have q := h.es x hx
 have q1 := q.m
 refine ⟨q.n, q.l, q.m0, by show x.minute ≤ m; omega, q.a, q.f1, fun e => ?_, fun e => ?_⟩
 ·have := q.f2 e; exact ⟨this.1, by show x.frm ≤ m + 10; omega⟩
 ·have := q.r e; show x.frm ≤ m; omega
theorem MayS.arr {s : St} (h : MayS s) (p : Nat × Int) (hp : p.1 < tn s.tab) (h0 : 0 ≤ p.2) (h1 : p.2 ≤ s.clock) (hn : s.next + 1 ≤ 10000) : MayS (arr s p) := by
 have hnx := h.n1
 have hsl' : ∀ x ∈ s.slots, MaySl { s with next := s.next + 1 } x := fun x hx => by
  have q := h.es x hx
  have q1 := q.n
  exact ⟨⟨q1.1, by show x.num < s.next + 1; omega⟩, q.l, q.m0, q.m, q.a, q.f1, q.f2, q.r⟩
 unfold Bx.arr
 split
 ·have o := (opt_of (h.tab.lines.2.2 p.1 hp)).2.2.2.1
  refine ⟨h.tab, h.c1, h.c2, by show 1 ≤ s.next + 1; omega, hn, by simp; omega, h.en, ?_, ?_, h.dif, ?_, ?_⟩
  ·rw [List.pairwise_append]
   refine ⟨h.rise, by simp, fun a ha b hb => ?_⟩
   simp at hb; subst hb
   exact (h.es a ha).n.2
  ·rw [List.pairwise_append]
   refine ⟨h.lock, by simp, fun a ha b hb => ?_⟩
   simp at hb; subst hb
   intro _ _ _ q; cases q
  ·intro x hx
   rcases List.mem_append.1 hx with hx | hx
   ·exact (hsl' x hx).sub rfl rfl rfl
   ·simp at hx; subst hx
    refine ⟨⟨hnx, by show s.next < s.next + 1; omega⟩, ⟨by simp [slotOf]; omega, by simp [slotOf]; omega⟩, h0, h1, ⟨by simp [slotOf], ?_⟩, fun _ => rfl, fun e => (e rfl).elim, fun e => by cases e⟩
    show (1 : Int) ≤ ob (tl s.tab (((p.1 : Int) + 1) - 1).toNat) 2 - 48
    rw [show (((p.1 : Int) + 1) - 1).toNat = p.1 by omega]; omega
  ·intro x hx
   have q := h.ee x hx
   have q1 := q.n
   refine ⟨⟨q1.1, by show x.num < s.next + 1; omega⟩, q.h, fun y hy => ?_⟩
   rcases List.mem_append.1 hy with hy | hy
   ·exact q.o y hy
   ·simp at hy; subst hy; show s.next ≠ x.num; omega
 ·refine ⟨h.tab, h.c1, h.c2, by show 1 ≤ s.next + 1; omega, hn, h.sl, push_len _, h.rise, h.lock, ?_, fun x hx => (hsl' x hx).sub rfl rfl rfl, ?_⟩
  ·exact push_dif h.dif fun x hx e => by have := (h.ee x hx).n; have e' : x.num = s.next := e; omega
  ·intro x hx
   rcases push_mem hx with q | q
   ·have q' := h.ee x q
    have q1 := q'.n
    exact ⟨⟨q1.1, by show x.num < s.next + 1; omega⟩, q'.h, q'.o⟩
   ·subst q
    exact ⟨⟨hnx, by show s.next < s.next + 1; omega⟩, Or.inr (Or.inr (Or.inr rfl)), fun y hy => by have := (h.es y hy).n; show y.num ≠ s.next; omega⟩
theorem arr_next (s : St) (p : Nat × Int) : (arr s p).next = s.next + 1 ∧ (arr s p).tab = s.tab ∧ (arr s p).clock = s.clock := by
 unfold arr; split <;> exact ⟨rfl, rfl, rfl⟩
theorem arr_clock (s : St) (p : Nat × Int) (m : Int) : arr { s with clock := m } p = { arr s p with clock := m } := by
 unfold arr
 by_cases h : s.slots.length < 8
 ·rw [if_pos h, if_pos h]
 ·rw [if_neg h, if_neg h]
theorem arrs_clock (l : List (Nat × Int)) (s : St) (m : Int) : l.foldl arr { s with clock := m } = { l.foldl arr s with clock := m } := by
 induction l generalizing s with
 | nil => rfl
 | cons p l ih => rw [List.foldl_cons, List.foldl_cons, arr_clock, ih]
theorem MayS.arrs (l : List (Nat × Int)) {s : St} (h : MayS s) (hp : ∀ p ∈ l, p.1 < tn s.tab ∧ 0 ≤ p.2 ∧ p.2 ≤ s.clock) (hn : s.next + (l.length : Int) ≤ 10000) : MayS (l.foldl Bx.arr s) := by
 induction l generalizing s with
 | nil => exact h
 | cons p l ih =>
   simp only [List.length_cons] at hn
   obtain ⟨q1, q2, q3⟩ := hp p (by simp)
   obtain ⟨e1, e2, e3⟩ := arr_next s p
   rw [List.foldl_cons]
   exact ih (h.arr p q1 q2 q3 (by omega)) (fun x hx => by rw [e2, e3]; exact hp x (by simp [hx])) (by rw [e1]; omega)
theorem MayS.clocked {s : St} (h : MayS s) (m : Int) : MayS (clockedP s m).1 := by
 unfold clockedP
 split
 ·rename_i ha
  split
  ·rename_i hn
   have hA : 0 ≤ m ∧ m ≤ 4223371679 ∧ s.clock < m ∧ (s.clock = -1 ∨ m - s.clock ≤ 1500) := of_decide_eq_true ha
   show MayS { (comesS s m).foldl Bx.arr s with clock := m }
   rw [← arrs_clock]
   refine MayS.arrs _ (h.later (by omega) hA.2.1) (fun p hp => ?_) hn
   have hl := comes_line hp
   obtain ⟨_, hc1, hc2, _⟩ := ((comes_ok (lns s.tab) (newA s m) m).mem p.1 p.2).1 hp
   have h0 : 0 ≤ newA s m := by have := h.c1; unfold newA; split <;> omega
   exact ⟨hl, by omega, hc2⟩
  ·exact h
 ·exact h
theorem MayS.do {s : St} (h : MayS s) (c : Ch) : MayS (doP s c).1 := by
 unfold doP
 split
 ·split
  ·rename_i hc
   have h0 : s.slots = [] := List.eq_nil_of_length_eq_zero hc.2
   refine ⟨hc.1, h.c1, h.c2, h.n1, h.n2, h.sl, h.en, h.rise, ?_, h.dif, ?_, fun x hx => ⟨(h.ee x hx).n, (h.ee x hx).h, (h.ee x hx).o⟩⟩
   ·show s.slots.Pairwise _; rw [h0]; exact List.Pairwise.nil
   ·show ∀ x ∈ s.slots, _; rw [h0]; simp
  ·exact h
 ·split
  ·exact h.clocked _
  ·exact h.about _ _
end Bx
end Go.Proofs.YtdajolpoiffimaaGreatDoor

namespace Go.Proofs.YtdajolpoiffimaaGreatDoor
namespace Bx
theorem b1_inj {k k' : Int} {r r' : ByteArray} (h : b1 k ++ r = b1 k' ++ r') (h1 : 0 ≤ k ∧ k < 256) (h2 : 0 ≤ k' ∧ k' < 256) : k = k' ∧ r = r' := by
 obtain ⟨e1, e2⟩ := app_inj h rfl
 rw [b1_be, b1_be] at e1
 exact ⟨be_inj e1 h1.1 (by simpa using h1.2) h2.1 (by simpa using h2.2), e2⟩
theorem body_T (r : ByteArray) : IsCh (b1 84 ++ r) ⟨84, r, 0⟩ := ⟨Or.inl ⟨rfl, rfl⟩, by unfold body; rw [if_pos rfl]⟩
theorem numP_all {k : Nat} {r : ByteArray} {n : Int} {q : PS} (h : numP k ⟨r, false⟩ = (n, q)) (hw : q.wrong = false) (hr : q.rest = ByteArray.empty) : r = be n k ∧ 0 ≤ n ∧ n < 256 ^ k := by
 obtain ⟨_, e, a, b⟩ := Px.numP_r h hw
 rw [hr] at e
 exact ⟨by simpa using e, a, b⟩
theorem body_C_yes {r : ByteArray} {n : Int} {q : PS} (h : numP 5 ⟨r, false⟩ = (n, q)) (hw : q.wrong = false) (hr : q.rest = ByteArray.empty) : IsCh (b1 67 ++ r) ⟨67, ByteArray.empty, n⟩ := by
 obtain ⟨e, a, b⟩ := numP_all h hw hr
 refine ⟨Or.inr (Or.inl ⟨rfl, rfl, a, by simpa using b⟩), ?_⟩
 unfold body; rw [if_neg (show ¬ (67 : Int) = 84 by decide), if_pos rfl, e]
theorem body_N_yes {k : Int} {r : ByteArray} {n : Int} {q : PS} (hk : k = 83 ∨ k = 68 ∨ k = 70 ∨ k = 75) (h : numP 2 ⟨r, false⟩ = (n, q)) (hw : q.wrong = false) (hr : q.rest = ByteArray.empty) : IsCh (b1 k ++ r) ⟨k, ByteArray.empty, n⟩ := by
 obtain ⟨e, a, b⟩ := numP_all h hw hr
 refine ⟨Or.inr (Or.inr ⟨hk, rfl, a, by simpa using b⟩), ?_⟩
 unfold body; rw [if_neg (by simp; omega), if_neg (by simp; omega), e]
theorem isCh_split {k : Int} {r : ByteArray} {c : Ch} (h : IsCh (b1 k ++ r) c) (hk : 0 ≤ k ∧ k < 256) : c.kind = k ∧ r = (if c.kind = 84 then c.tab else if c.kind = 67 then be c.n 5 else be c.n 2) := by
 obtain ⟨f, e⟩ := h
 unfold body at e
 have q := f.kind
 obtain ⟨e1, e2⟩ := b1_inj e ⟨q.1, q.2.1⟩ hk
 exact ⟨e1, e2.symm⟩
theorem body_C_no {r : ByteArray} {n : Int} {q : PS} (h : numP 5 ⟨r, false⟩ = (n, q)) (hq : ¬ (q.wrong = false ∧ q.rest = ByteArray.empty)) : ¬ ∃ c, IsCh (b1 67 ++ r) c := by
 rintro ⟨c, hc⟩
 obtain ⟨e1, e2⟩ := isCh_split hc (by decide)
 rw [if_neg (by omega), if_pos e1] at e2
 have hn : 0 ≤ c.n ∧ c.n < 1099511627776 := by rcases hc.1 with ⟨q, _⟩ | ⟨_, _, q⟩ | ⟨q, _⟩ <;> omega
 have := numP_be c.n 5 ByteArray.empty false hn.1 (by simpa using hn.2)
 rw [e2] at h
 simp only [ByteArray.append_empty] at this
 rw [this] at h
 obtain ⟨_, rfl⟩ := Prod.mk.inj h
 exact hq ⟨rfl, rfl⟩
theorem body_N_no {k : Int} {r : ByteArray} {n : Int} {q : PS} (hk : k = 83 ∨ k = 68 ∨ k = 70 ∨ k = 75) (h : numP 2 ⟨r, false⟩ = (n, q)) (hq : ¬ (q.wrong = false ∧ q.rest = ByteArray.empty)) : ¬ ∃ c, IsCh (b1 k ++ r) c := by
 rintro ⟨c, hc⟩
 obtain ⟨e1, e2⟩ := isCh_split hc (by omega)
 rw [if_neg (by omega), if_neg (by omega)] at e2
 have hn : 0 ≤ c.n ∧ c.n < 65536 := by rcases hc.1 with ⟨q, _⟩ | ⟨q, _⟩ | ⟨_, _, q⟩ <;> omega
 have := numP_be c.n 2 ByteArray.empty false hn.1 (by simpa using hn.2)
 rw [e2] at h
 simp only [ByteArray.append_empty] at this
 rw [this] at h
 obtain ⟨_, rfl⟩ := Prod.mk.inj h
 exact hq ⟨rfl, rfl⟩
theorem body_no {k : Int} {r : ByteArray} (hk : 0 ≤ k ∧ k < 256) (h : ¬ k = 84 ∧ ¬ k = 67 ∧ ¬ k = 83 ∧ ¬ k = 68 ∧ ¬ k = 70 ∧ ¬ k = 75) : ¬ ∃ c, IsCh (b1 k ++ r) c := by
 rintro ⟨c, hc⟩
 obtain ⟨e1, _⟩ := isCh_split hc hk
 rcases hc.1 with ⟨q, _⟩ | ⟨q, _⟩ | ⟨q, _⟩ <;> omega
theorem whole_no {k : Int} {r : ByteArray} (hk : 0 ≤ k ∧ k < 256) (h : ¬ k = 90) : ¬ ∃ s, wholeS s = b1 k ++ r := by
 rintro ⟨s, e⟩
 exact h (b1_inj e (by decide) hk).1.symm
theorem whole_yes {r : ByteArray} {s : Px.St} {q : PS} (h : Px.rdState ⟨r, false⟩ = (s, q)) (hw : q.wrong = false) (hr : q.rest = ByteArray.empty) : wholeS (Px.abs s) = b1 90 ++ r ∧ StFit (Px.abs s) := by
 obtain ⟨_, e, f⟩ := Px.rdState_right h hw
 rw [hr] at e
 exact ⟨by unfold wholeS; rw [show r = encSt (Px.abs s) from by simpa using e], f⟩
theorem whole_fit_no {r : ByteArray} {s : Px.St} {q : PS} (h : Px.rdState ⟨r, false⟩ = (s, q)) (hq : ¬ (q.wrong = false ∧ q.rest = ByteArray.empty)) : ¬ ∃ t, StFit t ∧ wholeS t = b1 90 ++ r := by
 rintro ⟨t, ft, e⟩
 obtain ⟨_, e2⟩ := b1_inj e (by decide) (by decide)
 have := Px.rdState_enc t ft ByteArray.empty
 simp only [ByteArray.append_empty] at this
 rw [e2, h] at this
 obtain ⟨_, rfl⟩ := Prod.mk.inj this
 exact hq ⟨rfl, rfl⟩
theorem empty_no : (¬ ∃ c, IsCh ByteArray.empty c) ∧ ¬ ∃ s, wholeS s = ByteArray.empty := by
 constructor
 ·rintro ⟨c, _, e⟩
  have := congrArg ByteArray.size e
  unfold body at this
  rw [ByteArray.size_append, b1_size] at this
  simp at this
 ·rintro ⟨s, e⟩
  have := congrArg ByteArray.size e
  unfold wholeS at this
  rw [ByteArray.size_append, b1_size] at this
  simp at this
/-- One of each: as a count, and as a list of different ones. -/
theorem one_of {α : Type} (p : α → α → Bool) (hr : ∀ x, p x x = true) (l : List α) (c : α → Prop) (hc : ∀ x y, p x y = true → c x → c y ∧ p y x = true) :
 (∀ x ∈ l, c x → (l.filter (p x)).length = 1) ↔ l.Pairwise fun a b => c a → p a b = true → False := by
 induction l with
 | nil => simp
 | cons a l ih =>
   rw [List.pairwise_cons, ← ih]
   constructor
   ·intro h
    refine ⟨fun b hb ca pab => ?_, fun x hx cx => ?_⟩
    ·have h1 := h a (by simp) ca
     rw [List.filter_cons_of_pos (hr a), List.length_cons] at h1
     have : b ∈ l.filter (p a) := List.mem_filter.2 ⟨hb, pab⟩
     have := List.length_pos_of_mem this
     omega
    ·have h1 := h x (by simp [hx]) cx
     have h2 : x ∈ l.filter (p x) := List.mem_filter.2 ⟨hx, hr x⟩
     have h3 := List.length_pos_of_mem h2
     by_cases hp : p x a = true
     ·rw [List.filter_cons_of_pos hp, List.length_cons] at h1; omega
     ·rw [List.filter_cons_of_neg hp] at h1; exact h1
   ·rintro ⟨h1, h2⟩ x hx cx
    rcases List.mem_cons.1 hx with rfl | hx
    ·rw [List.filter_cons_of_pos (hr x), List.length_cons]
     have : l.filter (p x) = [] := List.filter_eq_nil_iff.2 fun b hb e => h1 b hb cx e
     rw [this]; rfl
    ·have hp : ¬ p x a = true := fun e => by
      obtain ⟨ca, e'⟩ := hc x a e cx
      exact h1 x hx ca e'
     rw [List.filter_cons_of_neg hp]; exact h2 x hx cx
end Bx
namespace Px
open Bx (PS numP)
/-- What is read has said nothing yet. -/
def Fresh (x : Sl) : Prop := (x.step = 0 ∨ x.step = 1) ∧ x.ans = 0 ∧ x.heard = ByteArray.empty ∧ 0 ≤ x.minute
theorem rdSlot_fresh (p : PS) : Fresh (rdSlot p).1 := by
 obtain ⟨a, pa, ha⟩ : ∃ a q, numP 2 p = (a, q) := ⟨_, _, pr_eta _⟩
 obtain ⟨b, pb, hb⟩ : ∃ a q, numP 1 pa = (a, q) := ⟨_, _, pr_eta _⟩
 obtain ⟨c, pc, hc⟩ : ∃ a q, numP 5 pb = (a, q) := ⟨_, _, pr_eta _⟩
 obtain ⟨d, pd, hd⟩ : ∃ a q, numP 1 pc = (a, q) := ⟨_, _, pr_eta _⟩
 obtain ⟨e, pe, he⟩ : ∃ a q, numP 5 pd = (a, q) := ⟨_, _, pr_eta _⟩
 obtain ⟨f, pf, hf⟩ : ∃ a q, numP 1 pe = (a, q) := ⟨_, _, pr_eta _⟩
 rw [rdSlot_eq ha hb hc hd he hf]
 have hm := Bx.numP_bd 5 pb
 rw [hc] at hm
 refine ⟨?_, rfl, rfl, hm⟩
 show (if f = 1 then (1 : Int) else 0) = 0 ∨ (if f = 1 then (1 : Int) else 0) = 1
 split
 ·exact Or.inr rfl
 ·exact Or.inl rfl
theorem rdSlots_fresh (p : PS) : ∀ x ∈ (rdSlots p).1, Fresh x := by
 have : ∀ k p, ∀ x ∈ (rdSlotsK k p).1, Fresh x := by
  intro k
  induction k with
  | zero => intro p x hx; simp [rdSlotsK] at hx
  | succ k ih =>
    intro p x hx
    rw [rdSlotsK] at hx
    split at hx
    ·simp at hx
    ·rcases List.mem_cons.1 hx with e | e
     ·rw [e]; exact rdSlot_fresh p
     ·exact ih _ x e
 exact this _ _
theorem rdState_fresh (p : PS) : (∀ x ∈ (rdState p).1.slots, Fresh x) ∧ -1 ≤ (rdState p).1.clock := by
 obtain ⟨c, pc, hc⟩ : ∃ a q, numP 5 p = (a, q) := ⟨_, _, pr_eta _⟩
 obtain ⟨n, pn, hn⟩ : ∃ a q, numP 2 pc = (a, q) := ⟨_, _, pr_eta _⟩
 obtain ⟨l, pl, hl⟩ : ∃ a q, numP 2 pn = (a, q) := ⟨_, _, pr_eta _⟩
 obtain ⟨t, pt, ht⟩ : ∃ a q, Bx.txtP l pl = (a, q) := ⟨_, _, pr_eta _⟩
 obtain ⟨sl, ps, hs⟩ : ∃ a q, rdSlots pt = (a, q) := ⟨_, _, pr_eta _⟩
 obtain ⟨en, pe, he⟩ : ∃ a q, rdEnds ps = (a, q) := ⟨_, _, pr_eta _⟩
 rw [rdState_eq hc hn hl ht hs he]
 have h1 := rdSlots_fresh pt
 rw [hs] at h1
 have h2 := Bx.numP_bd 5 p
 rw [hc] at h2
 exact ⟨h1, by show -1 ≤ c - 1; simp only at h2; omega⟩
end Px
end Go.Proofs.YtdajolpoiffimaaGreatDoor

namespace Go.Proofs.YtdajolpoiffimaaGreatDoor
open Go.RowKit

/-- A number of all bytes, as the machine reckons it. -/
def numS (n : Int) (b : UInt8) : Int := wrap64 (wrap64 (n * 256) + wrap64 (b.toNat : Int))
def numW (l : List UInt8) : Int := l.foldl numS 0
/-- So many bytes from a place on; noughts, where the text ends. -/
def partK (s : ByteArray) (a : Nat) : Nat → ByteArray
 | 0 => { data := #[] }
 | k + 1 => partK s a k ++ (if a + k < s.size then s.extract (a + k) (a + k + 1) else { data := #[0] })
theorem partK_size (s : ByteArray) (a k : Nat) : (partK s a k).size = k := by
 induction k with
 | zero => rfl
 | succ k ih =>
   rw [partK, ByteArray.size_append, ih]
   split
   ·simp; omega
   ·rfl
theorem wrap64_id (x : Int) (h1 : 0 ≤ x) (h2 : x < 9223372036854775808) : wrap64 x = x := by unfold wrap64; omega
theorem numW_snoc (l : List UInt8) (b : UInt8) : numW (l ++ [b]) = numS (numW l) b := by simp [numW, List.foldl_append]
theorem pow256 {n : Nat} (h : n ≤ 6) : (256 : Int) ^ n ≤ 281474976710656 := by
 match n, h with
 | 0, _ => decide
 | 1, _ => decide
 | 2, _ => decide
 | 3, _ => decide
 | 4, _ => decide
 | 5, _ => decide
 | 6, _ => decide
theorem numW_nb (l : List UInt8) : l.length ≤ 7 → numW l = Bx.nb l := by
 induction l using Bx.snoc_ind with
 | h0 => intro _; rfl
 | h1 l b ih =>
   intro h
   have hl : l.length ≤ 6 := by simp at h; omega
   rw [numW_snoc, Bx.nb_snoc, ih (by omega)]
   have h1 := Bx.nb_nonneg l
   have h2 := Bx.nb_lt l
   have h3 := pow256 hl
   have h4 := b.toNat_lt
   unfold numS
   rw [wrap64_id (Bx.nb l * 256) (by omega) (by omega), wrap64_id (b.toNat : Int) (by omega) (by omega), wrap64_id _ (by omega) (by omega)]
theorem numW_nB (x : ByteArray) (h : x.size ≤ 7) : numW x.data.toList = Bx.nB x := numW_nb _ (by simpa using h)
/-- A number of so many bytes, read. -/
theorem numW_be (n : Int) (k : Nat) (h0 : 0 ≤ n) (h1 : n < 256 ^ k) (hk : k ≤ 7) : numW (Bx.be n k).data.toList = n := by
 rw [numW_nB _ (by rw [Bx.be_size]; exact hk), Bx.nB_be n k h0 h1]
theorem be_numW {x : ByteArray} {k : Nat} (h : x.size = k) (hk : k ≤ 7) : Bx.be (numW x.data.toList) k = x ∧ 0 ≤ numW x.data.toList ∧ numW x.data.toList < 256 ^ k := by
 rw [numW_nB x (by omega)]
 refine ⟨Bx.be_nB' h, Bx.nb_nonneg _, ?_⟩
 have := Bx.nb_lt x.data.toList
 have e : x.data.toList.length = k := by simpa using h
 rw [e] at this
 exact this
end Go.Proofs.YtdajolpoiffimaaGreatDoor

namespace Go.Proofs.YtdajolpoiffimaaGreatDoor
namespace Px

theorem start_abs {s : St} (hd : Dist s.slots) (n : Int) :
 ((startP s n).2 = 8 ∧ Bx.find (abs s) n < 0) ∨
 (∃ i : Nat, ∃ hi : i < s.slots.length, Bx.find (abs s) n = i ∧ s.slots[i].num = n ∧
  (((startP s n).2 = 9 ∧ 0 < s.slots[i].step) ∨ ((startP s n).2 = 10 ∧ s.slots[i].step ≤ 0 ∧ s.clock < s.slots[i].frm) ∨
   ((startP s n).2 = 11 ∧ s.slots[i].step ≤ 0 ∧ ¬ s.clock < s.slots[i].frm ∧ lockP s s.slots[i].line = true) ∨
   ((startP s n).2 = 0 ∧ s.slots[i].step ≤ 0 ∧ ¬ s.clock < s.slots[i].frm ∧ lockP s s.slots[i].line = false ∧ (startP s n).1 = { s with slots := repl s.slots (beg s s.slots[i]) } ∧
    Bx.aboutP (abs s) 83 n = (abs (startP s n).1, true)))) := by
 unfold startP
 cases h : find s.slots n with
 | none => left; rw [find_none h]; exact ⟨rfl, by omega⟩
 | some x =>
   right
   obtain ⟨i, hi, rfl, hxn, hF⟩ := find_some hd h
   refine ⟨i, hi, hF, hxn, ?_⟩
   by_cases h9 : 0 < s.slots[i].step
   ·left; simp only [h9, if_true]; exact ⟨trivial, trivial⟩
   right
   by_cases h10 : s.clock < s.slots[i].frm
   ·left; simp only [h9, h10, if_true, if_false]; exact ⟨trivial, by omega, trivial⟩
   right
   cases h11 : lockP s s.slots[i].line
   ·right
    have e' := abs_repl hd hi (beg s s.slots[i]) rfl
    simp only [h9, h10, h11, if_false, Bool.false_eq_true]
    refine ⟨trivial, by omega, not_false, trivial, trivial, ?_⟩
    unfold Bx.aboutP
    rw [hF, if_neg (by omega), if_neg (by omega), if_pos rfl]
    simp only [Int.toNat_natCast]
    have hw : ¬ ((Bx.slAt (abs s) i).runs = true ∨ (abs s).clock < (Bx.slAt (abs s) i).frm ∨ Bx.locked (abs s) i = true) := by
     rw [slAt_abs hi, lock_abs hi (by omega), h11]
     rintro (q | q | q)
     ·simp [absS] at q; omega
     ·exact h10 q
     ·cases q
    rw [if_neg hw, slAt_abs hi]
    simp only [Bx.with']
    rw [if_neg (by omega)]
    show _ = (({ tab := s.tab, clock := s.clock, next := s.next, slots := (repl s.slots (beg s s.slots[i])).map absS, ends := s.ends } : Bx.St), true)
    rw [e']
    rfl
   ·left; simp only [h9, h10, h11, if_true, if_false]; exact ⟨trivial, by omega, not_false, trivial⟩
theorem arr_abs (s : St) (p : Nat × Int) : abs (arr s p) = Bx.arr (abs s) p := by
 unfold arr Bx.arr
 have hl : (abs s).slots.length = s.slots.length := by simp [abs]
 by_cases q : 8 ≤ s.slots.length
 ·rw [if_pos q, if_neg (by omega)]; rfl
 ·rw [if_neg q, if_pos (by omega)]
  simp [abs, slotOf, Bx.slotOf, absS]
theorem arrs_abs (l : List (Nat × Int)) (s : St) : abs (l.foldl arr s) = l.foldl Bx.arr (abs s) := by
 induction l generalizing s with
 | nil => rfl
 | cons p r ih => rw [List.foldl_cons, List.foldl_cons, ih, arr_abs]
theorem comes_abs (s : St) (m : Int) : Bx.comesS (abs s) m = comesP s m := rfl
theorem clock_abs (s : St) (m : Int) (h : (clockP s m).2 = 0) : Bx.clockedP (abs s) m = (abs (clockP s m).1, true) := by
 unfold clockP at h ⊢
 by_cases h4 : m < 0 ∨ 4223371679 < m
 ·rw [if_pos h4] at h; cases h
 rw [if_neg h4] at h ⊢
 by_cases h6 : aheadP s m = false
 ·rw [if_pos h6] at h; cases h
 rw [if_neg h6] at h ⊢
 by_cases h7 : 10000 < s.next + ((comesP s m).length : Int)
 ·rw [if_pos h7] at h; cases h
 rw [if_neg h7]
 have ha : Bx.ahead (abs s) m = true := by
  have : aheadP s m = true := by simpa using h6
  unfold aheadP at this
  have := of_decide_eq_true this
  unfold Bx.ahead
  exact decide_eq_true ⟨by omega, by omega, this.1, this.2⟩
 unfold Bx.clockedP
 rw [if_pos ha, comes_abs, if_pos (by show s.next + _ ≤ _; omega)]
 have := arrs_abs (comesP s m) s
 simp only [← this]
 rfl
theorem clock_err (s : St) (m : Int) : (clockP s m).2 = if m < 0 ∨ 4223371679 < m then 4 else if aheadP s m = false then 6 else if 10000 < s.next + ((comesP s m).length : Int) then 7 else 0 := by
 unfold clockP
 by_cases h4 : m < 0 ∨ 4223371679 < m
 ·rw [if_pos h4, if_pos h4]
 rw [if_neg h4, if_neg h4]
 by_cases h6 : aheadP s m = false
 ·rw [if_pos h6, if_pos h6]
 rw [if_neg h6, if_neg h6]
 by_cases h7 : 10000 < s.next + ((comesP s m).length : Int)
 ·rw [if_pos h7, if_pos h7]
 ·rw [if_neg h7, if_neg h7]

/-- A box, as the program keeps it. -/
structure Bo where
 limit : Int
 room : Int
 st : St
 log : ByteArray
/-- The steps of a slot's line. -/
def stepsL (s : St) (x : Sl) : List ByteArray := stepsOf (tl s.tab (x.line - 1).toNat)
/-- A slot that runs, and its talk. -/
def Goes (s : St) (x : Sl) (t : Bx.Tk) : Prop := t.num = x.num ∧ 0 < x.step ∧ ∃ a, a < (stepsL s x).length ∧ Rest (stepsL s x) x t a
/-- The talks and the slots that run. -/
structure Tks (s : St) (l : List Bx.Tk) : Prop where
 dist : l.Pairwise fun a b => a.num ≠ b.num
 of : ∀ t ∈ l, ∃ x ∈ s.slots, Goes s x t
 all : ∀ x ∈ s.slots, 0 < x.step → ∃ t ∈ l, t.num = x.num
/-- A box of the program's and one of the document's. -/
structure Rel (b : Bo) (d : Bx.Bo) : Prop where
 lim : d.limit = b.limit
 room : d.room = b.room
 now : d.now = abs b.st
 txt : d.text = b.log
 tks : Tks b.st d.talks
 ok : Ok b.st
 l1 : 1 ≤ b.limit
 l4 : b.limit ≤ 4
 r0 : 600 ≤ b.room
 r1 : b.room ≤ 4000
 log : (b.log.size : Int) ≤ b.room

theorem Dist.mem {l : List Sl} (h : Dist l) {x y : Sl} (hx : x ∈ l) (hy : y ∈ l) (e : x.num = y.num) : x = y := by
 obtain ⟨i, hi, rfl⟩ := List.mem_iff_getElem.1 hx
 obtain ⟨j, hj, rfl⟩ := List.mem_iff_getElem.1 hy
 have := h.at hi hj e
 subst this; rfl
end Px
end Go.Proofs.YtdajolpoiffimaaGreatDoor

namespace Go.Proofs.YtdajolpoiffimaaGreatDoor
namespace Px
open Bx (En push hA hD hK hS)

theorem told_one (s : Bx.St) (c : Bx.Ch) : Bx.told s [c] = Bx.tell s c := rfl
theorem do_about (s : Bx.St) (k n : Int) (t : ByteArray) (h1 : ¬ k = 84) (h2 : ¬ k = 67) : Bx.doP s ⟨k, t, n⟩ = Bx.aboutP s k n := by
 unfold Bx.doP; rw [if_neg h1, if_neg h2]
theorem tell_about {s u : Bx.St} {k n : Int} {t : ByteArray} (h1 : ¬ k = 84) (h2 : ¬ k = 67) (h : Bx.aboutP s k n = (u, true)) : Bx.tell s ⟨k, t, n⟩ = u := by
 unfold Bx.tell; rw [do_about s k n t h1 h2, h]; rfl
theorem Ok.num1 {s : St} (h : Ok s) : ∀ x ∈ s.slots, 1 ≤ x.num := fun _ hx => (h.each hx).1
theorem Ok.att {s : St} (h : Ok s) : ∀ x ∈ s.slots, x.att ≤ opt s x.line 2 - 48 := fun _ hx => (h.each hx).2.2.2.2.2
theorem Ok.skip {s : St} (h : Ok s) (n : Int) (how : ByteArray) (hs : Bx.StOk (abs (ended s n how))) : Ok (ended s n how) :=
 ⟨hs, h.rise.filter _, fun x hx => h.ex x ((List.mem_filter.1 hx).1)⟩
theorem repl_mem {l : List Sl} {x y : Sl} (h : y ∈ repl l x) : y = x ∨ y ∈ l := by
 obtain ⟨z, hz, rfl⟩ := List.mem_map.1 h
 by_cases q : (z.num == x.num) = true
 ·rw [if_pos q]; exact Or.inl rfl
 ·rw [if_neg q]; exact Or.inr hz
theorem Ok.repl {s : St} (h : Ok s) (x : Sl) (hs : Bx.StOk (abs { s with slots := repl s.slots x })) (hx : -1 ≤ x.ans ∧ x.ans ≤ 4223371679 ∧ 0 ≤ x.step ∧ x.step ≤ ((stepsOf (tl s.tab (x.line - 1).toNat)).length : Int) ∧ x.heard.size ≤ 8 ∧ (x.step = 0 → x.heard = ByteArray.empty)) : Ok { s with slots := Px.repl s.slots x } := by
 refine ⟨hs, ?_, fun y hy => ?_⟩
 ·unfold Px.repl
  refine List.Pairwise.map _ ?_ h.rise
  intro a b hab
  have ea : (if (a.num == x.num) = true then x else a).num = a.num := by
   split
   ·rename_i q; exact (by simpa using q : a.num = x.num).symm
   ·rfl
  have eb : (if (b.num == x.num) = true then x else b).num = b.num := by
   split
   ·rename_i q; exact (by simpa using q : b.num = x.num).symm
   ·rfl
  rw [ea, eb]; exact hab
 ·rcases repl_mem hy with rfl | hy
  ·exact hx
  ·exact h.ex y hy

theorem cancel_st {s : St} {n : Int} (h : (cancelP s n).2 = 0) : (cancelP s n).1 = ended s n hK := by
 unfold cancelP at h ⊢
 cases q : find s.slots n with
 | none => rw [q] at h; cases h
 | some x =>
   have hn : x.num = n := by simpa using List.find?_some q
   simp only [hn]
end Px
end Go.Proofs.YtdajolpoiffimaaGreatDoor

namespace Go.Proofs.YtdajolpoiffimaaGreatDoor
namespace Px
open Bx (En push hA hD hK hS)

theorem fail_ok {s : St} (h : Ok s) (n : Int) (h0 : (failP s n).2 = 0) : Ok (failP s n).1 := by
 have hst : Bx.StOk (abs (failP s n).1) := by
  rcases fail_abs h.dist n h.num1 h.att with ⟨q, _⟩ | ⟨q, _⟩ | ⟨_, q⟩
  ·omega
  ·omega
  ·have := Bx.about_ok h.st 70 n; rw [q] at this; exact this
 unfold failP at h0 hst ⊢
 cases q : find s.slots n with
 | none => rw [q] at h0; cases h0
 | some x =>
   rw [q] at h0 hst
   simp only at h0 hst ⊢
   by_cases h9 : x.step ≤ 0
   ·rw [if_pos h9] at h0; cases h0
   rw [if_neg h9] at hst ⊢
   by_cases ha : opt s x.line 2 - 48 ≤ x.att
   ·rw [if_pos ha] at hst ⊢; exact h.skip _ _ hst
   ·rw [if_neg ha] at hst ⊢
    exact h.repl _ hst ⟨by show (-1 : Int) ≤ 0; omega, by show (0 : Int) ≤ _; omega, by show (0 : Int) ≤ 0; omega, by show (0 : Int) ≤ ((_ : Nat) : Int); omega, by show (0 : Nat) ≤ 8; omega, fun _ => rfl⟩
theorem arrs_slots (l : List (Nat × Int)) (s : St) : ∃ z, (l.foldl arr s).slots = s.slots ++ z ∧ (∀ y ∈ z, y.step = 0 ∧ y.ans = 0 ∧ y.heard = ByteArray.empty ∧ s.next ≤ y.num ∧ y.num < s.next + l.length) ∧ z.Pairwise (fun a b => a.num < b.num) ∧ (l.foldl arr s).next = s.next + l.length ∧ (l.foldl arr s).tab = s.tab ∧ (l.foldl arr s).clock = s.clock := by
 induction l generalizing s with
 | nil => exact ⟨[], by simp, by simp, List.Pairwise.nil, by simp, rfl, rfl⟩
 | cons p r ih =>
   rw [List.foldl_cons]
   obtain ⟨z, h1, h2, h3, h4, h5, h6⟩ := ih (arr s p)
   have hn : (arr s p).next = s.next + 1 := by unfold arr; split <;> rfl
   have ht : (arr s p).tab = s.tab := by unfold arr; split <;> rfl
   have hc : (arr s p).clock = s.clock := by unfold arr; split <;> rfl
   by_cases q : 8 ≤ s.slots.length
   ·have e : (arr s p).slots = s.slots := by unfold arr; rw [if_pos q]
    refine ⟨z, by rw [h1, e], fun y hy => ?_, h3, by rw [h4, hn]; simp; omega, by rw [h5, ht], by rw [h6, hc]⟩
    obtain ⟨a1, a2, a3, a4, a5⟩ := h2 y hy
    exact ⟨a1, a2, a3, by omega, by simp; omega⟩
   ·have e : (arr s p).slots = s.slots ++ [slotOf p s.next] := by unfold arr; rw [if_neg q]
    refine ⟨slotOf p s.next :: z, by rw [h1, e]; simp, fun y hy => ?_, List.pairwise_cons.2 ⟨fun y hy => ?_, h3⟩, by rw [h4, hn]; simp; omega, by rw [h5, ht], by rw [h6, hc]⟩
    ·rcases List.mem_cons.1 hy with rfl | hy
     ·exact ⟨rfl, rfl, rfl, by show s.next ≤ s.next; omega, by show s.next < _; simp; omega⟩
     ·obtain ⟨a1, a2, a3, a4, a5⟩ := h2 y hy
      exact ⟨a1, a2, a3, by omega, by simp; omega⟩
    ·obtain ⟨_, _, _, a4, _⟩ := h2 y hy
     show s.next < y.num; omega
theorem clock_st {s : St} {m : Int} (h0 : (clockP s m).2 = 0) : 0 ≤ m ∧ m ≤ 4223371679 ∧ aheadP s m = true ∧ ¬ 10000 < s.next + ((comesP s m).length : Int) ∧ (clockP s m).1 = { (comesP s m).foldl arr s with clock := m } := by
 have e := clock_err s m
 rw [h0] at e
 by_cases h4 : m < 0 ∨ 4223371679 < m
 ·rw [if_pos h4] at e; cases e
 rw [if_neg h4] at e
 by_cases h6 : aheadP s m = false
 ·rw [if_pos h6] at e; cases e
 rw [if_neg h6] at e
 by_cases h7 : 10000 < s.next + ((comesP s m).length : Int)
 ·rw [if_pos h7] at e; cases e
 refine ⟨by omega, by omega, by simpa using h6, h7, ?_⟩
 unfold clockP; rw [if_neg h4, if_neg h6, if_neg h7]
theorem clock_ok {s : St} (h : Ok s) {m : Int} (h0 : (clockP s m).2 = 0) : Ok (clockP s m).1 := by
 have hst : Bx.StOk (abs (clockP s m).1) := by
  have := Bx.clocked_ok h.st m; rw [clock_abs s m h0] at this; exact this
 obtain ⟨_, _, _, _, e⟩ := clock_st h0
 obtain ⟨z, h1, h2, h3, h4, h5, h6⟩ := arrs_slots (comesP s m) s
 rw [e] at hst ⊢
 refine ⟨hst, ?_, fun x hx => ?_⟩
 ·show ((comesP s m).foldl arr s).slots.Pairwise _
  rw [h1, List.pairwise_append]
  refine ⟨h.rise, h3, fun a ha b hb => ?_⟩
  have := (h.each ha).2.1; have := (h2 b hb).2.2.2.1; omega
 ·have hx' : x ∈ s.slots ++ z := by rw [← h1]; exact hx
  rcases List.mem_append.1 hx' with hx' | hx'
  ·have := h.ex x hx'
   show _ ∧ _ ∧ _ ∧ x.step ≤ ((stepsOf (tl ((comesP s m).foldl arr s).tab (x.line - 1).toNat)).length : Int) ∧ _
   rw [h5]; exact this
  ·obtain ⟨a1, a2, a3, _, _⟩ := h2 x hx'
   exact ⟨by omega, by omega, by omega, by rw [a1]; show (0 : Int) ≤ ((_ : Nat) : Int); omega, by rw [a3]; decide, fun _ => a3⟩
/-- The talk of a slot. -/
theorem Tks.talk {s : St} {l : List Bx.Tk} (h : Tks s l) (hd : Dist s.slots) {x : Sl} (hx : x ∈ s.slots) :
 (0 < x.step → ∃ k : Nat, ∃ hk : k < l.length, talkOf l x.num = k ∧ Goes s x l[k]) ∧ (x.step ≤ 0 → talkOf l x.num = -1) := by
 constructor
 ·intro hs
  obtain ⟨t, ht, hn⟩ := h.all x hx hs
  obtain ⟨k, hk, rfl⟩ := List.mem_iff_getElem.1 ht
  refine ⟨k, hk, talkOf_some hk hn (fun j hj hjk e => ?_), ?_⟩
  ·exact List.pairwise_iff_getElem.1 h.dist j k hj hk hjk (by rw [e, hn])
  ·obtain ⟨y, hy, hg⟩ := h.of _ ht
   have : y = x := hd.mem hy hx (by rw [← hg.1, hn])
   subst this; exact hg
 ·intro hs
  refine talkOf_none (fun j hj e => ?_)
  obtain ⟨y, hy, hg⟩ := h.of _ (List.getElem_mem hj)
  have : y = x := hd.mem hy hx (by rw [← hg.1, e])
  subst this
  have := hg.2.1; omega
end Px
end Go.Proofs.YtdajolpoiffimaaGreatDoor

namespace Go.Proofs.YtdajolpoiffimaaGreatDoor
namespace Px
open Bx (En push hA hD hK hS)

theorem steps_size {s : St} (h : Ok s) {y : Sl} (hy : y ∈ s.slots) : 1 ≤ (stepsL s y).length ∧ (stepsL s y).length ≤ 5 ∧ ∀ z ∈ stepsL s y, 2 ≤ z.size ∧ z.size ≤ 9 := by
 have h1 := h.each hy
 have hl := h.st.tab.lines.2.2 (y.line - 1).toNat (by show _ < tn s.tab; omega)
 exact ⟨(stepsOf_len hl).1, (stepsOf_len hl).2, step_sz hl⟩
end Px
end Go.Proofs.YtdajolpoiffimaaGreatDoor

namespace Go.Proofs.YtdajolpoiffimaaGreatDoor
namespace Px
open Bx (En push hA hD hK hS)

end Px
end Go.Proofs.YtdajolpoiffimaaGreatDoor

namespace Go.Proofs.YtdajolpoiffimaaGreatDoor
namespace Px
open Bx (En push hA hD hK hS)

end Px
end Go.Proofs.YtdajolpoiffimaaGreatDoor

namespace Go.Proofs.YtdajolpoiffimaaGreatDoor
namespace Px

theorem inj_len {α : Type} : ∀ (l m : List α), l.Pairwise (· ≠ ·) → (∀ x ∈ l, x ∈ m) → l.length ≤ m.length := by
 intro l
 induction l with
 | nil => intro m _ _; simp
 | cons a r ih =>
   intro m hp hs
   obtain ⟨m1, m2, rfl⟩ := List.append_of_mem (hs a (by simp))
   have hp' := List.pairwise_cons.1 hp
   have := ih (m1 ++ m2) hp'.2 (fun x hx => by
    have h1 := hs x (by simp [hx])
    have h2 : x ≠ a := fun e => hp'.1 x hx e.symm
    simp only [List.mem_append, List.mem_cons] at h1 ⊢
    rcases h1 with h | h | h
    ·exact Or.inl h
    ·exact absurd h h2
    ·exact Or.inr h)
   simp only [List.length_append, List.length_cons] at this ⊢
   omega
theorem Rel.len {b : Bo} {d : Bx.Bo} (h : Rel b d) : d.talks.length ≤ 8 := by
 have h1 := inj_len (d.talks.map (·.num)) (b.st.slots.map (·.num)) (List.pairwise_map.2 h.tks.dist) (fun n hn => by
  obtain ⟨t, ht, rfl⟩ := List.mem_map.1 hn
  obtain ⟨x, hx, hg⟩ := h.tks.of t ht
  exact List.mem_map.2 ⟨x, hx, hg.1.symm⟩)
 have := h.ok.len
 simp only [List.length_map] at h1
 omega
theorem Rel.boOk {b : Bo} {d : Bx.Bo} (h : Rel b d) : BoOk d := by
 refine ⟨?_, ?_, ?_, ?_, ?_⟩
 ·rw [h.now]; exact h.ok.st
 ·rw [h.txt]; have := h.log; have := h.r1; omega
 ·have := h.len; omega
 ·intro t ht
  obtain ⟨x, hx, _, _, a, _, hr⟩ := h.tks.of t ht
  have := h.ok.ex x hx
  rw [← hr.ans]; exact ⟨this.1, this.2.1⟩
 ·intro t ht
  obtain ⟨x, hx, _, _, a, ha, hr⟩ := h.tks.of t ht
  have := (steps_size h.ok hx).2.1
  rw [hr.at']; omega
theorem Rel.ends {b : Bo} {d : Bx.Bo} (h : Rel b d) : d.now.ends = b.st.ends := by rw [h.now]; rfl
theorem Rel.slen {b : Bo} {d : Bx.Bo} (h : Rel b d) : d.now.slots.length = b.st.slots.length := by rw [h.now]; simp [abs]
theorem Rel.step {b : Bo} {d : Bx.Bo} (h : Rel b d) {x : Sl} (hx : x ∈ b.st.slots) : (if 0 ≤ talkOf d.talks x.num then (tkAt d (talkOf d.talks x.num).toNat).at' + 1 else 0) = x.step := by
 obtain ⟨h1, h2⟩ := h.tks.talk h.ok.dist hx
 by_cases q : 0 < x.step
 ·obtain ⟨k, hk, e, hg⟩ := h1 q
  obtain ⟨_, _, a, _, hr⟩ := hg
  rw [e, if_pos (by omega), Int.toNat_natCast, ← tkAt_eq d k hk, hr.at', hr.step]
 ·rw [h2 (by omega), if_neg (by omega)]
  have := (h.ok.ex x hx).2.2.1
  omega
theorem Rel.sl {b : Bo} {d : Bx.Bo} (h : Rel b d) {k : Nat} (hk : k < b.st.slots.length) : Bx.slAt d.now k = absS b.st.slots[k] := by rw [h.now, slAt_abs hk]
end Px
end Go.Proofs.YtdajolpoiffimaaGreatDoor

namespace Go.Proofs.YtdajolpoiffimaaGreatDoor
namespace Px
end Px
end Go.Proofs.YtdajolpoiffimaaGreatDoor

namespace Go.Proofs.YtdajolpoiffimaaGreatDoor
namespace Px
end Px
end Go.Proofs.YtdajolpoiffimaaGreatDoor
