/-
  LogM2, LogM3, LogM4, CallM.
-/
import Derived.Test.YtdajolpoiffimaaDoorH1
import Derived.Test.YtdajolpoiffimaaDoorH2

namespace Go.Proofs.YtdajolpoiffimaaDoor
namespace Bx
/-- Texts one behind the other. -/
def cat : List ByteArray → ByteArray
  | [] => ByteArray.empty
  | x :: r => x ++ cat r
theorem cat_app (a b : List ByteArray) : cat (a ++ b) = cat a ++ cat b := by
  induction a with
  | nil => simp [cat]
  | cons x r ih => rw [List.cons_append, cat, cat, ih, ByteArray.append_assoc]
theorem cat_snoc (a : List ByteArray) (x : ByteArray) : cat (a ++ [x]) = cat a ++ x := by rw [cat_app]; simp [cat]
def mk1 (b : Bool) : Int := if b = true then 1 else 0
def encSl (x : Sl) : ByteArray := be x.num 2 ++ (be x.line 1 ++ (be x.minute 5 ++ (be x.att 1 ++ (be x.frm 5 ++ be (mk1 x.runs) 1))))
def encEn (x : En) : ByteArray := be x.num 2 ++ x.how
def encSt (s : St) : ByteArray := be (s.clock + 1) 5 ++ (be s.next 2 ++ (be s.tab.size 2 ++ (s.tab ++ (be s.slots.length 1 ++ (cat (s.slots.map encSl) ++ (be s.ends.length 1 ++ cat (s.ends.map encEn)))))))
/-- The body of a frame that holds a whole state. -/
def wholeS (s : St) : ByteArray := b1 90 ++ encSt s
/-- What fits into its bytes. -/
structure SlFit (x : Sl) : Prop where
  n : 0 ≤ x.num ∧ x.num < 65536
  l : 0 ≤ x.line ∧ x.line < 256
  m : 0 ≤ x.minute ∧ x.minute < 1099511627776
  a : 0 ≤ x.att ∧ x.att < 256
  f : 0 ≤ x.frm ∧ x.frm < 1099511627776
structure EnFit (x : En) : Prop where
  n : 0 ≤ x.num ∧ x.num < 65536
  h : x.how.size = 1
structure StFit (s : St) : Prop where
  c : -1 ≤ s.clock ∧ s.clock < 1099511627775
  n : 0 ≤ s.next ∧ s.next < 65536
  t : s.tab.size < 65536
  sl : s.slots.length < 256
  en : s.ends.length < 256
  es : ∀ x ∈ s.slots, SlFit x
  ee : ∀ x ∈ s.ends, EnFit x
end Bx
theorem pr_eta {α β : Type} (p : α × β) : p = (p.1, p.2) := rfl
namespace Px
open Bx
/-- A slot, the slots, the ends, a state: read. -/
def rdSlot (p : PS) : Sl × PS :=
  let a := numP 2 p
  let b := numP 1 a.2
  let c := numP 5 b.2
  let d := numP 1 c.2
  let e := numP 5 d.2
  let f := numP 1 e.2
  (⟨a.1, b.1, c.1, d.1, e.1, if f.1 = 1 then 1 else 0, 0, ByteArray.empty⟩, if f.1 = 1 ∨ f.1 = 0 then f.2 else ⟨f.2.rest, true⟩)
def rdSlotsK : Nat → PS → List Sl × PS
  | 0, p => ([], p)
  | k + 1, p => if p.wrong = true then ([], p) else ((rdSlot p).1 :: (rdSlotsK k (rdSlot p).2).1, (rdSlotsK k (rdSlot p).2).2)
def rdEnd (p : PS) : En × PS := (⟨(numP 2 p).1, (txtP 1 (numP 2 p).2).1⟩, (txtP 1 (numP 2 p).2).2)
def rdEndsK : Nat → PS → List En × PS
  | 0, p => ([], p)
  | k + 1, p => if p.wrong = true then ([], p) else ((rdEnd p).1 :: (rdEndsK k (rdEnd p).2).1, (rdEndsK k (rdEnd p).2).2)
def rdSlots (p : PS) : List Sl × PS := rdSlotsK (numP 1 p).1.toNat (numP 1 p).2
def rdEnds (p : PS) : List En × PS := rdEndsK (numP 1 p).1.toNat (numP 1 p).2
def rdState (p : PS) : St × PS :=
  let c := numP 5 p
  let n := numP 2 c.2
  let l := numP 2 n.2
  let t := txtP l.1 l.2
  let sl := rdSlots t.2
  let en := rdEnds sl.2
  (⟨t.1, c.1 - 1, n.1, sl.1, en.1⟩, en.2)

theorem rdSlot_eq {p pa pb pc pd pe pf : PS} {a b c d e f : Int} (ha : numP 2 p = (a, pa)) (hb : numP 1 pa = (b, pb)) (hc : numP 5 pb = (c, pc)) (hd : numP 1 pc = (d, pd)) (he : numP 5 pd = (e, pe)) (hf : numP 1 pe = (f, pf)) :
    rdSlot p = (⟨a, b, c, d, e, if f = 1 then 1 else 0, 0, ByteArray.empty⟩, if f = 1 ∨ f = 0 then pf else ⟨pf.rest, true⟩) := by
  unfold rdSlot; simp only [ha, hb, hc, hd, he, hf]
theorem numP_r {k : Nat} {p q : PS} {a : Int} (h : numP k p = (a, q)) (hw : q.wrong = false) : p.wrong = false ∧ p.rest = be a k ++ q.rest ∧ 0 ≤ a ∧ a < 256 ^ k := by
  have := numP_right (k := k) (p := p) (by rw [h]; exact hw)
  rw [h] at this; exact this
theorem txtP_r {k : Int} {p q : PS} {a : ByteArray} (h : txtP k p = (a, q)) (hw : q.wrong = false) : p.wrong = false ∧ p.rest = a ++ q.rest ∧ (a.size : Int) = k := by
  have := txtP_right (k := k) (p := p) (by rw [h]; exact hw)
  rw [h] at this; exact this
theorem rdSlot_right {p q : PS} {x : Sl} (h : rdSlot p = (x, q)) (hw : q.wrong = false) : p.wrong = false ∧ p.rest = encSl (absS x) ++ q.rest ∧ SlFit (absS x) := by
  obtain ⟨a, pa, ha⟩ : ∃ a pa, numP 2 p = (a, pa) := ⟨_, _, pr_eta _⟩
  obtain ⟨b, pb, hb⟩ : ∃ a q, numP 1 pa = (a, q) := ⟨_, _, pr_eta _⟩
  obtain ⟨c, pc, hc⟩ : ∃ a q, numP 5 pb = (a, q) := ⟨_, _, pr_eta _⟩
  obtain ⟨d, pd, hd⟩ : ∃ a q, numP 1 pc = (a, q) := ⟨_, _, pr_eta _⟩
  obtain ⟨e, pe, he⟩ : ∃ a q, numP 5 pd = (a, q) := ⟨_, _, pr_eta _⟩
  obtain ⟨f, pf, hf⟩ : ∃ a q, numP 1 pe = (a, q) := ⟨_, _, pr_eta _⟩
  rw [rdSlot_eq ha hb hc hd he hf] at h
  obtain ⟨rfl, rfl⟩ := Prod.mk.inj h
  have hm : f = 1 ∨ f = 0 := by
    by_cases q : f = 1 ∨ f = 0
    · exact q
    · rw [if_neg q] at hw; cases hw
  rw [if_pos hm] at hw ⊢
  obtain ⟨w6, e6, a6, b6⟩ := numP_r hf hw
  obtain ⟨w5, e5, a5, b5⟩ := numP_r he w6
  obtain ⟨w4, e4, a4, b4⟩ := numP_r hd w5
  obtain ⟨w3, e3, a3, b3⟩ := numP_r hc w4
  obtain ⟨w2, e2, a2, b2⟩ := numP_r hb w3
  obtain ⟨w1, e1, a1, b1⟩ := numP_r ha w2
  refine ⟨w1, ?_, ⟨⟨a1, by simpa [absS] using b1⟩, ⟨a2, by simpa [absS] using b2⟩, ⟨a3, by simpa [absS] using b3⟩, ⟨a4, by simpa [absS] using b4⟩, ⟨a5, by simpa [absS] using b5⟩⟩⟩
  have hk : mk1 (absS ⟨a, b, c, d, e, if f = 1 then 1 else 0, 0, ByteArray.empty⟩).runs = f := by
    unfold absS mk1; simp only
    rcases hm with q | q
    · rw [q]; rfl
    · rw [q]; rfl
  unfold encSl
  rw [hk]
  simp only [ByteArray.append_assoc, absS]
  rw [← e6, ← e5, ← e4, ← e3, ← e2, ← e1]
theorem rdSlot_enc (x : Bx.Sl) (hf : SlFit x) (r : ByteArray) : rdSlot ⟨encSl x ++ r, false⟩ = (⟨x.num, x.line, x.minute, x.att, x.frm, mk1 x.runs, 0, ByteArray.empty⟩, ⟨r, false⟩) := by
  have hm : mk1 x.runs = 1 ∨ mk1 x.runs = 0 := by unfold mk1; split <;> simp
  have hmb : 0 ≤ mk1 x.runs ∧ mk1 x.runs < 256 := by omega
  have e0 : encSl x ++ r = be x.num 2 ++ (be x.line 1 ++ (be x.minute 5 ++ (be x.att 1 ++ (be x.frm 5 ++ (be (mk1 x.runs) 1 ++ r))))) := by simp only [encSl, ByteArray.append_assoc]
  rw [e0]
  refine (rdSlot_eq (numP_be x.num 2 _ false hf.n.1 (by simpa using hf.n.2)) (numP_be x.line 1 _ false hf.l.1 (by simpa using hf.l.2)) (numP_be x.minute 5 _ false hf.m.1 (by simpa using hf.m.2)) (numP_be x.att 1 _ false hf.a.1 (by simpa using hf.a.2)) (numP_be x.frm 5 _ false hf.f.1 (by simpa using hf.f.2)) (numP_be (mk1 x.runs) 1 r false hmb.1 (by simpa using hmb.2))).trans ?_
  rw [if_pos hm]
  rcases hm with q | q <;> rw [q] <;> rfl
theorem rdSlotsK_right : ∀ (k : Nat) {p q : PS} {l : List Sl}, rdSlotsK k p = (l, q) → q.wrong = false → p.wrong = false ∧ p.rest = cat (l.map fun x => encSl (absS x)) ++ q.rest ∧ l.length = k ∧ ∀ x ∈ l, SlFit (absS x)
  | 0, p, q, l, h, hw => by
    rw [rdSlotsK] at h
    obtain ⟨rfl, rfl⟩ := Prod.mk.inj h
    exact ⟨hw, by simp [cat], rfl, by simp⟩
  | k + 1, p, q, l, h, hw => by
    rw [rdSlotsK] at h
    split at h
    · rename_i hp
      obtain ⟨rfl, rfl⟩ := Prod.mk.inj h
      rw [hp] at hw; cases hw
    · obtain ⟨y, py, hy⟩ : ∃ y py, rdSlot p = (y, py) := ⟨_, _, pr_eta _⟩
      obtain ⟨m, pm, hm⟩ : ∃ m pm, rdSlotsK k py = (m, pm) := ⟨_, _, pr_eta _⟩
      rw [hy] at h
      simp only at h
      rw [hm] at h
      obtain ⟨rfl, rfl⟩ := Prod.mk.inj h
      obtain ⟨h1, h2, h3, h4⟩ := rdSlotsK_right k hm hw
      obtain ⟨g1, g2, g3⟩ := rdSlot_right hy h1
      refine ⟨g1, ?_, by simp [h3], ?_⟩
      · rw [List.map_cons, cat, ByteArray.append_assoc, ← h2]; exact g2
      · intro x hx
        rcases List.mem_cons.1 hx with q | q
        · rw [q]; exact g3
        · exact h4 x q
/-- A slot that was read of what was written. -/
def rdOf (x : Bx.Sl) : Sl := ⟨x.num, x.line, x.minute, x.att, x.frm, mk1 x.runs, 0, ByteArray.empty⟩
theorem rdOf_abs (x : Bx.Sl) : absS (rdOf x) = x := by
  obtain ⟨a, b, c, d, e, f⟩ := x
  cases f <;> rfl
theorem rdSlotsK_enc (l : List Bx.Sl) (hf : ∀ x ∈ l, SlFit x) (r : ByteArray) : rdSlotsK l.length ⟨cat (l.map encSl) ++ r, false⟩ = (l.map rdOf, ⟨r, false⟩) := by
  induction l with
  | nil => simp [cat, rdSlotsK]
  | cons x l ih =>
    rw [List.length_cons, rdSlotsK, if_neg (by simp), List.map_cons, cat, ByteArray.append_assoc, rdSlot_enc x (hf x (by simp)), ih (fun y hy => hf y (by simp [hy]))]
    rfl
theorem rdEnd_right {p q : PS} {x : En} (h : rdEnd p = (x, q)) (hw : q.wrong = false) : p.wrong = false ∧ p.rest = encEn x ++ q.rest ∧ EnFit x := by
  obtain ⟨a, pa, ha⟩ : ∃ y py, numP 2 p = (y, py) := ⟨_, _, pr_eta _⟩
  obtain ⟨t, pt, ht⟩ : ∃ y py, txtP 1 pa = (y, py) := ⟨_, _, pr_eta _⟩
  unfold rdEnd at h
  rw [ha] at h
  simp only at h
  rw [ht] at h
  obtain ⟨rfl, rfl⟩ := Prod.mk.inj h
  obtain ⟨w2, e2, s2⟩ := txtP_r ht hw
  obtain ⟨w1, e1, a1, b1⟩ := numP_r ha w2
  refine ⟨w1, ?_, ⟨⟨a1, by simpa using b1⟩, by show t.size = 1; omega⟩⟩
  unfold encEn
  rw [ByteArray.append_assoc]
  show p.rest = be a 2 ++ (t ++ pt.rest)
  rw [← e2, ← e1]
theorem rdEnd_enc (x : En) (hf : EnFit x) (r : ByteArray) : rdEnd ⟨encEn x ++ r, false⟩ = (x, ⟨r, false⟩) := by
  unfold rdEnd encEn
  rw [ByteArray.append_assoc, numP_be _ 2 _ _ hf.n.1 (by simpa using hf.n.2), txtP_app _ _ _ _ (by rw [hf.h]; rfl)]
theorem rdEndsK_right : ∀ (k : Nat) {p q : PS} {l : List En}, rdEndsK k p = (l, q) → q.wrong = false → p.wrong = false ∧ p.rest = cat (l.map encEn) ++ q.rest ∧ l.length = k ∧ ∀ x ∈ l, EnFit x
  | 0, p, q, l, h, hw => by
    rw [rdEndsK] at h
    obtain ⟨rfl, rfl⟩ := Prod.mk.inj h
    exact ⟨hw, by simp [cat], rfl, by simp⟩
  | k + 1, p, q, l, h, hw => by
    rw [rdEndsK] at h
    split at h
    · rename_i hp
      obtain ⟨rfl, rfl⟩ := Prod.mk.inj h
      rw [hp] at hw; cases hw
    · obtain ⟨y, py, hy⟩ : ∃ y py, rdEnd p = (y, py) := ⟨_, _, pr_eta _⟩
      obtain ⟨m, pm, hm⟩ : ∃ m pm, rdEndsK k py = (m, pm) := ⟨_, _, pr_eta _⟩
      rw [hy] at h
      simp only at h
      rw [hm] at h
      obtain ⟨rfl, rfl⟩ := Prod.mk.inj h
      obtain ⟨h1, h2, h3, h4⟩ := rdEndsK_right k hm hw
      obtain ⟨g1, g2, g3⟩ := rdEnd_right hy h1
      refine ⟨g1, ?_, by simp [h3], ?_⟩
      · rw [List.map_cons, cat, ByteArray.append_assoc, ← h2]; exact g2
      · intro x hx
        rcases List.mem_cons.1 hx with q | q
        · rw [q]; exact g3
        · exact h4 x q
theorem rdEndsK_enc (l : List En) (hf : ∀ x ∈ l, EnFit x) (r : ByteArray) : rdEndsK l.length ⟨cat (l.map encEn) ++ r, false⟩ = (l, ⟨r, false⟩) := by
  induction l with
  | nil => simp [cat, rdEndsK]
  | cons x l ih =>
    rw [List.length_cons, rdEndsK, if_neg (by simp), List.map_cons, cat, ByteArray.append_assoc, rdEnd_enc x (hf x (by simp)), ih (fun y hy => hf y (by simp [hy]))]
theorem rdSlots_right {p q : PS} {l : List Sl} (h : rdSlots p = (l, q)) (hw : q.wrong = false) : p.wrong = false ∧ p.rest = be l.length 1 ++ (cat (l.map fun x => encSl (absS x)) ++ q.rest) ∧ l.length < 256 ∧ ∀ x ∈ l, SlFit (absS x) := by
  obtain ⟨h1, h2, h3, h4⟩ := rdSlotsK_right _ h hw
  obtain ⟨w1, e1, a1, b1⟩ := numP_r (p := p) (a := (numP 1 p).1) (q := (numP 1 p).2) (pr_eta _) h1
  have hl : (numP 1 p).1 = (l.length : Int) := by omega
  refine ⟨w1, by rw [← h2, ← hl]; exact e1, by simp at b1; omega, h4⟩
theorem rdSlots_enc (l : List Bx.Sl) (hl : l.length < 256) (hf : ∀ x ∈ l, SlFit x) (r : ByteArray) : rdSlots ⟨be l.length 1 ++ (cat (l.map encSl) ++ r), false⟩ = (l.map rdOf, ⟨r, false⟩) := by
  unfold rdSlots
  rw [numP_be _ 1 _ _ (by omega) (by simp; omega), Int.toNat_natCast, rdSlotsK_enc l hf]
theorem rdEnds_right {p q : PS} {l : List En} (h : rdEnds p = (l, q)) (hw : q.wrong = false) : p.wrong = false ∧ p.rest = be l.length 1 ++ (cat (l.map encEn) ++ q.rest) ∧ l.length < 256 ∧ ∀ x ∈ l, EnFit x := by
  obtain ⟨h1, h2, h3, h4⟩ := rdEndsK_right _ h hw
  obtain ⟨w1, e1, a1, b1⟩ := numP_r (p := p) (a := (numP 1 p).1) (q := (numP 1 p).2) (pr_eta _) h1
  have hl : (numP 1 p).1 = (l.length : Int) := by omega
  refine ⟨w1, by rw [← h2, ← hl]; exact e1, by simp at b1; omega, h4⟩
theorem rdEnds_enc (l : List En) (hl : l.length < 256) (hf : ∀ x ∈ l, EnFit x) (r : ByteArray) : rdEnds ⟨be l.length 1 ++ (cat (l.map encEn) ++ r), false⟩ = (l, ⟨r, false⟩) := by
  unfold rdEnds
  rw [numP_be _ 1 _ _ (by omega) (by simp; omega), Int.toNat_natCast, rdEndsK_enc l hf]
theorem rdState_eq {p pc pn pl pt ps pe : PS} {c n l : Int} {t : ByteArray} {sl : List Sl} {en : List En} (hc : numP 5 p = (c, pc)) (hn : numP 2 pc = (n, pn)) (hl : numP 2 pn = (l, pl)) (ht : txtP l pl = (t, pt)) (hs : rdSlots pt = (sl, ps)) (he : rdEnds ps = (en, pe)) :
    rdState p = (⟨t, c - 1, n, sl, en⟩, pe) := by
  unfold rdState; simp only [hc, hn, hl, ht, hs, he]
theorem rdState_right {p q : PS} {s : St} (h : rdState p = (s, q)) (hw : q.wrong = false) : p.wrong = false ∧ p.rest = encSt (abs s) ++ q.rest ∧ StFit (abs s) := by
  obtain ⟨c, pc, hc⟩ : ∃ a q, numP 5 p = (a, q) := ⟨_, _, pr_eta _⟩
  obtain ⟨n, pn, hn⟩ : ∃ a q, numP 2 pc = (a, q) := ⟨_, _, pr_eta _⟩
  obtain ⟨l, pl, hl⟩ : ∃ a q, numP 2 pn = (a, q) := ⟨_, _, pr_eta _⟩
  obtain ⟨t, pt, ht⟩ : ∃ a q, txtP l pl = (a, q) := ⟨_, _, pr_eta _⟩
  obtain ⟨sl, ps, hs⟩ : ∃ a q, rdSlots pt = (a, q) := ⟨_, _, pr_eta _⟩
  obtain ⟨en, pe, he⟩ : ∃ a q, rdEnds ps = (a, q) := ⟨_, _, pr_eta _⟩
  rw [rdState_eq hc hn hl ht hs he] at h
  obtain ⟨rfl, rfl⟩ := Prod.mk.inj h
  obtain ⟨w6, e6, l6, f6⟩ := rdEnds_right he hw
  obtain ⟨w5, e5, l5, f5⟩ := rdSlots_right hs w6
  obtain ⟨w4, e4, s4⟩ := txtP_r ht w5
  obtain ⟨w3, e3, a3, b3⟩ := numP_r hl w4
  obtain ⟨w2, e2, a2, b2⟩ := numP_r hn w3
  obtain ⟨w1, e1, a1, b1⟩ := numP_r hc w2
  simp at b1 b2 b3
  refine ⟨w1, ?_, ⟨⟨by show -1 ≤ c - 1; omega, by show c - 1 < _; omega⟩, ⟨a2, b2⟩, by show t.size < 65536; omega, by simpa [abs] using l5, l6, ?_, f6⟩⟩
  · unfold encSt abs
    simp only [ByteArray.append_assoc, List.length_map, List.map_map]
    rw [show c - 1 + 1 = c by omega, s4, ← e6]
    rw [show (encSl ∘ absS) = fun x => encSl (absS x) from rfl, ← e5, ← e4, ← e3, ← e2, ← e1]
  · intro x hx
    obtain ⟨y, hy, rfl⟩ := List.mem_map.1 hx
    exact f5 y hy
/-- A state that was read of what was written. -/
def rdSt (s : Bx.St) : St := ⟨s.tab, s.clock, s.next, s.slots.map rdOf, s.ends⟩
theorem rdSt_abs (s : Bx.St) : abs (rdSt s) = s := by
  obtain ⟨a, b, c, d, e⟩ := s
  unfold abs rdSt
  simp only [List.map_map]
  have : (absS ∘ rdOf) = id := funext rdOf_abs
  rw [this, List.map_id]
theorem rdState_enc (s : Bx.St) (hf : StFit s) (r : ByteArray) : rdState ⟨encSt s ++ r, false⟩ = (rdSt s, ⟨r, false⟩) := by
  have e0 : encSt s ++ r = be (s.clock + 1) 5 ++ (be s.next 2 ++ (be s.tab.size 2 ++ (s.tab ++ (be s.slots.length 1 ++ (cat (s.slots.map encSl) ++ (be s.ends.length 1 ++ (cat (s.ends.map encEn) ++ r))))))) := by simp only [encSt, ByteArray.append_assoc]
  rw [e0]
  have hc := hf.c
  have ht := hf.t
  refine (rdState_eq (numP_be (s.clock + 1) 5 _ false (by omega) (by simp; omega)) (numP_be s.next 2 _ false hf.n.1 (by simpa using hf.n.2)) (numP_be (s.tab.size : Int) 2 _ false (by omega) (by simp; omega)) (txtP_app s.tab _ false _ rfl) (rdSlots_enc s.slots hf.sl hf.es _) (rdEnds_enc s.ends hf.en hf.ee r)).trans ?_
  rw [show s.clock + 1 - 1 = s.clock by omega]; rfl
end Px
end Go.Proofs.YtdajolpoiffimaaDoor

namespace Go.Proofs.YtdajolpoiffimaaDoor
namespace Bx
theorem sum_bd (s : ByteArray) : 0 ≤ Crc.sumR s ∧ Crc.sumR s < 4294967296 := by
  have := Crc.crc_lt s.data.toList
  unfold Crc.sumR; omega
theorem app_inj {a b c d : ByteArray} (h : a ++ b = c ++ d) (hs : a.size = c.size) : a = c ∧ b = d := by
  have e : a.data.toList ++ b.data.toList = c.data.toList ++ d.data.toList := by
    have := congrArg (fun x : ByteArray => x.data.toList) h
    simpa [ByteArray.data_append] using this
  obtain ⟨h1, h2⟩ := List.append_inj e (by rw [ba_len, ba_len, hs])
  exact ⟨ba_ext h1, ba_ext h2⟩
theorem app_nil {a b : ByteArray} (h : a ++ b = ByteArray.empty) : a = ByteArray.empty ∧ b = ByteArray.empty := by
  have e := congrArg ByteArray.size h
  rw [ByteArray.size_append] at e
  simp at e
  exact e
/-- A frame stands at the head of a log. -/
def Nx (r b more : ByteArray) : Prop := r = frame b ++ more ∧ b.size < 65536
theorem be_inj {n m : Int} {k : Nat} (h : be n k = be m k) (n0 : 0 ≤ n) (n1 : n < 256 ^ k) (m0 : 0 ≤ m) (m1 : m < 256 ^ k) : n = m := by
  rw [← nB_be n k n0 n1, ← nB_be m k m0 m1, h]
theorem Nx.uniq {r b more b' more' : ByteArray} (h : Nx r b more) (h' : Nx r b' more') : b = b' ∧ more = more' := by
  obtain ⟨e, hb⟩ := h
  obtain ⟨e', hb'⟩ := h'
  rw [e] at e'
  unfold frame at e'
  simp only [ByteArray.append_assoc] at e'
  obtain ⟨e1, e2⟩ := app_inj e' (by rw [be_size, be_size])
  have hz := be_inj e1 (by omega) (by simp; omega) (by omega) (by simp; omega)
  obtain ⟨e3, e4⟩ := app_inj e2 (by omega)
  obtain ⟨_, e5⟩ := app_inj e4 (by rw [be_size, be_size])
  exact ⟨e3, e5⟩
theorem Nx.app {r b more : ByteArray} (h : Nx r b more) (r2 : ByteArray) : Nx (r ++ r2) b (more ++ r2) := ⟨by rw [h.1, ByteArray.append_assoc], h.2⟩
theorem Nx.lt {r b more : ByteArray} (h : Nx r b more) : more.size < r.size := by rw [h.1, ByteArray.size_append, frame_size]; omega
theorem Nx.ne {r b more : ByteArray} (h : Nx r b more) : r ≠ ByteArray.empty := by
  intro e; have := h.lt; rw [e] at this; simp at this
/-- A frame that is cut is none. -/
theorem no_cut {b r1 r2 : ByteArray} (hb : b.size < 65536) (h : frame b = r1 ++ r2) (h2 : r2 ≠ ByteArray.empty) : ¬ ∃ b' more, Nx r1 b' more := by
  rintro ⟨b', more, hN⟩
  have h1 : Nx (frame b) b ByteArray.empty := ⟨by simp, hb⟩
  have h3 : Nx (frame b) b' (more ++ r2) := by rw [h]; exact hN.app r2
  exact h2 (app_nil (h1.uniq h3).2.symm).2
/-- A change that fits into its bytes. -/
def ChFit (c : Ch) : Prop := (c.kind = 84 ∧ c.n = 0) ∨ (c.kind = 67 ∧ c.tab = ByteArray.empty ∧ 0 ≤ c.n ∧ c.n < 1099511627776) ∨ ((c.kind = 83 ∨ c.kind = 68 ∨ c.kind = 70 ∨ c.kind = 75) ∧ c.tab = ByteArray.empty ∧ 0 ≤ c.n ∧ c.n < 65536)
def IsCh (b : ByteArray) (c : Ch) : Prop := ChFit c ∧ body c = b
theorem ChFit.kind {c : Ch} (h : ChFit c) : 0 ≤ c.kind ∧ c.kind < 256 ∧ c.kind ≠ 90 := by rcases h with h | h | h <;> omega
theorem b1_be (n : Int) : b1 n = be n 1 := by simp [be]
theorem IsCh.uniq {b : ByteArray} {c c' : Ch} (h : IsCh b c) (h' : IsCh b c') : c = c' := by
  obtain ⟨f, e⟩ := h
  obtain ⟨f', e'⟩ := h'
  rw [← e'] at e
  unfold body at e
  obtain ⟨e1, e2⟩ := app_inj e (by rw [b1_size, b1_size])
  rw [b1_be, b1_be] at e1
  have k1 := f.kind
  have k2 := f'.kind
  have hk := be_inj e1 k1.1 (by simpa using k1.2.1) k2.1 (by simpa using k2.2.1)
  obtain ⟨k, t, n⟩ := c
  obtain ⟨k', t', n'⟩ := c'
  simp only at hk e2
  subst hk
  rcases f with ⟨q, q1⟩ | ⟨q, q1, q2, q3⟩ | ⟨q, q1, q2, q3⟩
  · simp only at q q1
    subst q q1
    rcases f' with ⟨p, p1⟩ | ⟨p, p1, p2, p3⟩ | ⟨p, p1, p2, p3⟩
    · simp only at p1; subst p1
      rw [if_pos rfl, if_pos rfl] at e2
      rw [e2]
    · cases p
    · simp at p
  · simp only at q q1 q2 q3
    subst q q1
    rcases f' with ⟨p, p1⟩ | ⟨p, p1, p2, p3⟩ | ⟨p, p1, p2, p3⟩
    · cases p
    · simp only at p1 p2 p3; subst p1
      rw [if_neg (show ¬ (67 : Int) = 84 by decide), if_pos rfl, if_neg (show ¬ (67 : Int) = 84 by decide), if_pos rfl] at e2
      rw [be_inj e2 q2 (by simpa using q3) p2 (by simpa using p3)]
    · simp at p
  · simp only at q q1 q2 q3
    subst q1
    have h84 : ¬ k = 84 := by omega
    have h67 : ¬ k = 67 := by omega
    rcases f' with ⟨p, p1⟩ | ⟨p, p1, p2, p3⟩ | ⟨p, p1, p2, p3⟩
    · exact absurd p h84
    · exact absurd p h67
    · simp only at p1 p2 p3; subst p1
      rw [if_neg h84, if_neg h84, if_neg h67, if_neg h67] at e2
      rw [be_inj e2 q2 (by simpa using q3) p2 (by simpa using p3)]
/-- A slot, an end, a state that may be. -/
structure MaySl (s : St) (x : Sl) : Prop where
  n : 1 ≤ x.num ∧ x.num < s.next
  l : 1 ≤ x.line ∧ x.line ≤ tn s.tab
  m0 : 0 ≤ x.minute
  m : x.minute ≤ s.clock
  a : 1 ≤ x.att ∧ x.att ≤ opt s x.line 2 - 48
  f1 : x.att = 1 → x.frm = x.minute
  f2 : x.att ≠ 1 → x.minute < x.frm ∧ x.frm ≤ s.clock + 10
  r : x.runs = true → x.frm ≤ s.clock
structure MayEn (s : St) (x : En) : Prop where
  n : 1 ≤ x.num ∧ x.num < s.next
  h : x.how = hD ∨ x.how = hA ∨ x.how = hK ∨ x.how = hS
  o : ∀ y ∈ s.slots, y.num ≠ x.num
structure MayS (s : St) : Prop where
  tab : ChkR s.tab 0 0
  c1 : -1 ≤ s.clock
  c2 : s.clock ≤ 4223371679
  n1 : 1 ≤ s.next
  n2 : s.next ≤ 10000
  sl : s.slots.length ≤ 8
  en : s.ends.length ≤ 6
  rise : s.slots.Pairwise fun a b => a.num < b.num
  lock : s.slots.Pairwise fun a b => a.line = b.line → opt s a.line 0 = 120 → a.runs = true → b.runs = true → False
  dif : s.ends.Pairwise fun a b => a.num ≠ b.num
  es : ∀ x ∈ s.slots, MaySl s x
  ee : ∀ x ∈ s.ends, MayEn s x
theorem MayS.ok {s : St} (h : MayS s) : StOk s := ⟨h.tab, h.c1, h.c2, h.n1, h.n2, h.sl, h.en, fun x hx => ⟨(h.es x hx).n.1, (h.es x hx).n.2, (h.es x hx).l.1, (h.es x hx).l.2, (h.es x hx).a.1, (h.es x hx).a.2⟩⟩
theorem first_may : MayS first := ⟨empty_tab, by decide, by decide, by decide, by decide, by decide, by decide, by simp [first], by simp [first], by simp [first], by simp [first], by simp [first]⟩
theorem how_size {h : ByteArray} (e : h = hD ∨ h = hA ∨ h = hK ∨ h = hS) : h.size = 1 := by rcases e with rfl | rfl | rfl | rfl <;> rfl
theorem MayS.fit {s : St} (h : MayS s) : StFit s := by
  have h300 := h.tab.lines.1
  have h4 := tn_le h.tab
  have hc1 := h.c1; have hc2 := h.c2; have hn1 := h.n1; have hn2 := h.n2; have hsl := h.sl; have hen := h.en
  refine ⟨⟨hc1, by omega⟩, ⟨by omega, by omega⟩, by omega, by omega, by omega, fun x hx => ?_, fun x hx => ?_⟩
  · have q := h.es x hx
    have q1 := q.n; have q2 := q.l; have q3 := q.m; have q4 := q.a
    have q5 := q.m0
    have q6 := h.ok.att5 hx
    have q7 : 0 ≤ x.frm ∧ x.frm < 1099511627776 := by
      by_cases e : x.att = 1
      · have := q.f1 e; omega
      · have := q.f2 e; omega
    exact ⟨⟨by omega, by omega⟩, ⟨by omega, by omega⟩, ⟨q5, by omega⟩, ⟨by omega, by omega⟩, q7⟩
  · have q := h.ee x hx
    exact ⟨by have := q.n; omega, how_size q.h⟩
/-- A body holds a whole state. -/
def IsZ (b : ByteArray) (s : St) : Prop := MayS s ∧ wholeS s = b
theorem IsZ.uniq {b : ByteArray} {s t : St} (h : IsZ b s) (h' : IsZ b t) : s = t := by
  obtain ⟨f, e⟩ := h
  obtain ⟨f', e'⟩ := h'
  rw [← e'] at e
  unfold wholeS at e
  obtain ⟨_, e2⟩ := app_inj e rfl
  have h1 := Px.rdState_enc s f.fit ByteArray.empty
  have h2 := Px.rdState_enc t f'.fit ByteArray.empty
  rw [e2, h2] at h1
  have := congrArg (fun p => Px.abs p.1) h1
  simp only [Px.rdSt_abs] at this
  exact this.symm
theorem IsZ.no_ch {b : ByteArray} {s : St} {c : Ch} (h : IsZ b s) (h' : IsCh b c) : False := by
  obtain ⟨_, e⟩ := h
  obtain ⟨f, e'⟩ := h'
  rw [← e'] at e
  unfold wholeS body at e
  obtain ⟨e1, _⟩ := app_inj e rfl
  rw [b1_be, b1_be] at e1
  have k := f.kind
  exact k.2.2 (be_inj e1 (by decide) (by decide) k.1 (by simpa using k.2.1)).symm
/-- A frame's body, right behind a state. -/
def Stp (first : Bool) (s : St) (b : ByteArray) (t : St) : Prop := (first = true ∧ IsZ b t) ∨ (∃ c, IsCh b c ∧ (doP s c).2 = true ∧ t = (doP s c).1)
theorem Stp.uniq {fl : Bool} {s t t' : St} {b : ByteArray} (h : Stp fl s b t) (h' : Stp fl s b t') : t = t' := by
  rcases h with ⟨_, h⟩ | ⟨c, h, _, rfl⟩
  · rcases h' with ⟨_, h'⟩ | ⟨c, h', _⟩
    · exact h.uniq h'
    · exact (h.no_ch h').elim
  · rcases h' with ⟨_, h'⟩ | ⟨c', h', _, rfl⟩
    · exact (h'.no_ch h).elim
    · rw [h.uniq h']
/-- What a log says: the state, and what is left of the log. -/
inductive Says : Bool → St → ByteArray → St → ByteArray → Prop
  | stop (fl : Bool) (s : St) (r : ByteArray) (h : ¬ ∃ b more t, Nx r b more ∧ Stp fl s b t) : Says fl s r s r
  | go {fl : Bool} {s t u : St} {r b more q : ByteArray} (h1 : Nx r b more) (h2 : Stp fl s b t) (h3 : Says false t more u q) : Says fl s r u q
theorem Says.uniq {fl : Bool} {s u u' : St} {r q q' : ByteArray} (h : Says fl s r u q) (h' : Says fl s r u' q') : u = u' ∧ q = q' := by
  induction h with
  | stop fl s r hn =>
    cases h' with
    | stop => exact ⟨rfl, rfl⟩
    | go h1 h2 h3 => exact (hn ⟨_, _, _, h1, h2⟩).elim
  | go h1 h2 _ ih =>
    cases h' with
    | stop _ _ _ hn => exact (hn ⟨_, _, _, h1, h2⟩).elim
    | go h1' h2' h3' =>
      obtain ⟨rfl, rfl⟩ := h1.uniq h1'
      obtain rfl := h2.uniq h2'
      exact ih h3'
theorem Says.le {fl : Bool} {s u : St} {r q : ByteArray} (h : Says fl s r u q) : q.size ≤ r.size := by
  induction h with
  | stop => exact Nat.le_refl _
  | go h1 _ _ ih => have := h1.lt; omega
theorem Says.nil (fl : Bool) (s : St) : Says fl s ByteArray.empty s ByteArray.empty := Says.stop _ _ _ (by rintro ⟨b, more, t, h, _⟩; exact h.ne rfl)
/-- What stands behind what was said. -/
theorem Says.app {fl : Bool} {s t u : St} {r e r2 q : ByteArray} (h : Says fl s r t e) (he : e = ByteArray.empty) (h2 : ∀ fl', Says fl' t r2 u q) : Says fl s (r ++ r2) u q := by
  induction h with
  | stop fl s r hn => subst he; simpa using h2 fl
  | go g1 g2 _ ih => exact Says.go (g1.app r2) g2 (ih he h2)
/-- Changes that may be, one behind the other. -/
inductive May : St → List Ch → Prop
  | nil (s : St) : May s []
  | cons {s : St} {c : Ch} {L : List Ch} (hf : ChFit c) (h : (doP s c).2 = true) (hl : May (doP s c).1 L) : May s (c :: L)
theorem told_cons {s : St} {c : Ch} {L : List Ch} (h : (doP s c).2 = true) : told s (c :: L) = told (doP s c).1 L := by
  unfold told; rw [List.foldl_cons, tell, if_pos h]
theorem May.app {s : St} {L M : List Ch} (h : May s L) (h2 : May (told s L) M) : May s (L ++ M) := by
  induction h with
  | nil s => exact h2
  | cons hf h _ ih => exact May.cons hf h (ih (by rw [← told_cons h]; exact h2))
theorem frames_cons (c : Ch) (L : List Ch) : frames (c :: L) = frame (body c) ++ frames L := by
  have : ∀ (L : List Ch) (a : ByteArray), L.foldl (fun s c => s ++ frame (body c)) a = a ++ L.foldl (fun s c => s ++ frame (body c)) ByteArray.empty := by
    intro L
    induction L with
    | nil => intro a; simp
    | cons c L ih => intro a; rw [List.foldl_cons, ih, List.foldl_cons, ih (ByteArray.empty ++ frame (body c)), ByteArray.append_assoc]; simp
  unfold frames
  rw [List.foldl_cons, this]; simp
theorem frames_app (L M : List Ch) : frames (L ++ M) = frames L ++ frames M := by
  induction L with
  | nil => simp [frames]
  | cons c L ih => rw [List.cons_append, frames_cons, frames_cons, ih, ByteArray.append_assoc]
theorem body_lt {s : St} {c : Ch} (h : (doP s c).2 = true) (hf : ChFit c) : (body c).size < 65536 := by
  have := body_size c
  rcases hf with ⟨q, _⟩ | ⟨_, q, _⟩ | ⟨_, q, _⟩
  · unfold doP at h
    rw [if_pos q] at h
    split at h
    · rename_i hc; have := hc.1.lines.1; omega
    · cases h
  · rw [q] at this; simp at this; omega
  · rw [q] at this; simp at this; omega
/-- All of the changes' frames are right. -/
theorem May.says {s : St} {L : List Ch} (h : May s L) (fl : Bool) : Says fl s (frames L) (told s L) ByteArray.empty := by
  induction h generalizing fl with
  | nil s => exact Says.nil fl s
  | cons hf h _ ih =>
    rw [told_cons h, frames_cons]
    exact Says.go ⟨rfl, body_lt h hf⟩ (Or.inr ⟨_, ⟨hf, rfl⟩, h, rfl⟩) (ih false)
theorem split_at {a b : ByteArray} (c : Nat) : (c ≤ a.size → (a ++ b).extract 0 c = a.extract 0 c) ∧ (a.size ≤ c → (a ++ b).extract 0 c = a ++ b.extract 0 (c - a.size)) := by
  have la := ba_len a
  constructor
  · intro h
    refine ba_ext ?_
    rw [ByteArray.data_extract, ByteArray.data_append, ByteArray.data_extract]
    simp [h]
  · intro h
    refine ba_ext ?_
    rw [ByteArray.data_extract, ByteArray.data_append, ByteArray.data_append, ByteArray.data_extract]
    simp [List.take_of_length_le (show a.data.toList.length ≤ c by omega)]
/-- The frames of changes, cut anywhere: some of them are right, and nothing else. -/
theorem May.cut {s : St} {L : List Ch} (h : May s L) (c : Nat) (hc : c ≤ (frames L).size) :
    ∃ k q, k ≤ L.length ∧ (∀ fl, Says fl s ((frames L).extract 0 c) (told s (L.take k)) q) ∧ (frames (L.take k)).size + q.size = c ∧ (c = (frames L).size → k = L.length) ∧ (c < (frames L).size → k < L.length) := by
  induction h generalizing c with
  | nil s =>
    refine ⟨0, ByteArray.empty, Nat.le_refl _, ?_, ?_, fun _ => rfl, fun h => ?_⟩
    · intro fl
      have : ((frames []).extract 0 c) = ByteArray.empty := by
        have : c = 0 := by simpa [frames] using hc
        subst this; rfl
      rw [this]; exact Says.nil fl s
    · have : c = 0 := by simpa [frames] using hc
      subst this; rfl
    · simp [frames] at h
  | @cons s c0 L hf h hl ih =>
    rw [frames_cons] at hc ⊢
    rw [ByteArray.size_append] at hc ⊢
    by_cases hlt : c < (frame (body c0)).size
    · refine ⟨0, (frame (body c0)).extract 0 c, Nat.zero_le _, ?_, ?_, fun e => ?_, fun _ => by simp⟩
      · intro fl
        rw [(split_at c).1 (by omega)]
        refine Says.stop _ _ _ ?_
        rintro ⟨b, more, t, hN, _⟩
        refine no_cut (body_lt h hf) (ext_split (frame (body c0)) c).symm ?_ ⟨b, more, hN⟩
        intro e
        have := congrArg ByteArray.size e
        simp at this; omega
      · simp [frames]; omega
      · omega
    · obtain ⟨k, q, h1, h2, h3, h4, h5⟩ := ih (c - (frame (body c0)).size) (by omega)
      refine ⟨k + 1, q, by simp; omega, ?_, ?_, fun e => ?_, fun e => ?_⟩
      · intro fl
        rw [(split_at c).2 (by omega), List.take_succ_cons, told_cons h]
        exact Says.go ⟨rfl, body_lt h hf⟩ (Or.inr ⟨_, ⟨hf, rfl⟩, h, rfl⟩) (h2 false)
      · rw [List.take_succ_cons, frames_cons, ByteArray.size_append]; omega
      · rw [h4 (by omega)]; simp
      · have := h5 (by omega); simp; omega
/-- All of a log is right, and says a state. -/
def Right (log : ByteArray) (s : St) : Prop := Says true first log s ByteArray.empty
theorem Right.nil : Right ByteArray.empty first := Says.nil _ _
theorem Right.add {log : ByteArray} {s : St} {L : List Ch} (h : Right log s) (hl : May s L) : Right (log ++ frames L) (told s L) := Says.app h rfl fun fl => hl.says fl
theorem Right.cut {log : ByteArray} {s : St} {L : List Ch} (h : Right log s) (hl : May s L) (c : Nat) (h1 : log.size ≤ c) (h2 : c ≤ (log ++ frames L).size) :
    ∃ k q, k ≤ L.length ∧ Says true first ((log ++ frames L).extract 0 c) (told s (L.take k)) q ∧ log.size + (frames (L.take k)).size + q.size = c ∧ (c = (log ++ frames L).size → k = L.length) ∧ (c < (log ++ frames L).size → k < L.length) := by
  rw [ByteArray.size_append] at h2 ⊢
  obtain ⟨k, q, g1, g2, g3, g4, g5⟩ := hl.cut (c - log.size) (by omega)
  refine ⟨k, q, g1, ?_, by omega, fun e => g4 (by omega), fun e => g5 (by omega)⟩
  rw [(split_at c).2 h1]
  exact Says.app h rfl g2
theorem cat_size {α : Type} (f : α → ByteArray) (n : Nat) (l : List α) (h : ∀ x ∈ l, (f x).size = n) : (cat (l.map f)).size = n * l.length := by
  induction l with
  | nil => simp [cat]
  | cons x l ih =>
    rw [List.map_cons, cat, ByteArray.size_append, h x (by simp), ih (fun y hy => h y (by simp [hy])), List.length_cons, Nat.mul_succ]; omega
theorem encSl_size (x : Sl) : (encSl x).size = 15 := by
  unfold encSl; simp only [ByteArray.size_append, be_size]
theorem wholeS_size {s : St} (h : MayS s) : (wholeS s).size ≤ 450 := by
  have h300 := h.tab.lines.1
  have h1 := cat_size encSl 15 s.slots (fun x _ => encSl_size x)
  have h2 := cat_size encEn 3 s.ends (fun x hx => by unfold encEn; rw [ByteArray.size_append, be_size, how_size (h.ee x hx).h])
  have hsl := h.sl
  have hen := h.en
  unfold wholeS encSt
  simp only [ByteArray.size_append, be_size, b1_size, h1, h2]
  omega
theorem Right.whole {s : St} (h : MayS s) : Right (frame (wholeS s)) s :=
  Says.go (more := ByteArray.empty) ⟨by simp, by have := wholeS_size h; omega⟩ (Or.inl ⟨rfl, h, rfl⟩) (Says.nil _ _)
end Bx
end Go.Proofs.YtdajolpoiffimaaDoor

namespace Go.Proofs.YtdajolpoiffimaaDoor
namespace Bx
theorem MayS.dist {s : St} (h : MayS s) {i j : Nat} (hi : i < s.slots.length) (hj : j < s.slots.length) (e : s.slots[i].num = s.slots[j].num) : i = j := by
  rcases Nat.lt_trichotomy i j with q | q | q
  · have := List.pairwise_iff_getElem.1 h.rise i j hi hj q; omega
  · exact q
  · have := List.pairwise_iff_getElem.1 h.rise j i hj hi q; omega
/-- The number that is found. -/
theorem findK_num (l : List Sl) (n : Int) (k : Nat) (hk : k ≤ l.length) (h : ¬ findK l n k < 0) : ∃ hi : (findK l n k).toNat < l.length, (l[(findK l n k).toNat]).num = n := by
  induction k with
  | zero => exact absurd (show findK l n 0 < 0 by simp [findK]) h
  | succ k ih =>
    unfold findK at h ⊢
    split
    · rename_i hc
      refine ⟨by simp; omega, ?_⟩
      have hkl : k < l.length := by omega
      rw [List.getElem?_eq_getElem hkl] at hc
      simpa using hc
    · rename_i hc
      rw [if_neg hc] at h
      exact ih (by omega) h
theorem find_num {s : St} {n : Int} (h : ¬ find s n < 0) : ∃ hi : (find s n).toNat < s.slots.length, (s.slots[(find s n).toNat]).num = n := findK_num _ _ _ (Nat.le_refl _) h
theorem find_nat {s : St} {n : Int} (h : ¬ find s n < 0) : find s n = ((find s n).toNat : Int) := by omega
theorem slAt_eq {s : St} {i : Nat} (h : i < s.slots.length) : slAt s i = s.slots[i] := by simp [slAt, h]
theorem putK_set (l : List Sl) (i : Nat) (x : Sl) (k : Nat) (hk : k ≤ l.length) : putK l i x k = (l.set i x).take k := by
  induction k with
  | zero => simp [putK]
  | succ k ih =>
    have hkl : k < l.length := by omega
    have hks : k < (l.set i x).length := by simpa using hkl
    rw [putK, ih (by omega), List.take_succ_eq_append_getElem hks, List.getElem_set]
    by_cases e : i = k
    · subst e; simp
    · rw [if_neg (by omega), if_neg e, List.getElem?_eq_getElem hkl]; rfl
theorem put_set (l : List Sl) (i : Nat) (x : Sl) : putL l i x = l.set i x := by
  unfold putL; rw [putK_set l i x _ (Nat.le_refl _), List.take_of_length_le (by simp)]
/-- What was among the slots is none of the ends. -/
theorem push_mem {l : List En} {e x : En} (h : x ∈ push l e) : x ∈ l ∨ x = e := by
  unfold push at h
  rcases List.mem_append.1 h with h | h
  · exact Or.inl (List.mem_of_mem_drop h)
  · exact Or.inr (by simpa using h)
theorem push_dif {l : List En} {e : En} (h : l.Pairwise fun a b => a.num ≠ b.num) (hn : ∀ x ∈ l, x.num ≠ e.num) : (push l e).Pairwise fun a b => a.num ≠ b.num := by
  unfold push
  rw [List.pairwise_append]
  refine ⟨h.sublist (List.drop_sublist _ _), by simp, fun a ha b hb => ?_⟩
  simp at hb; subst hb
  exact hn a (List.mem_of_mem_drop ha)
theorem MaySl.sub {s t : St} {x : Sl} (h : MaySl s x) (h1 : t.next = s.next) (h2 : t.tab = s.tab) (h3 : t.clock = s.clock) : MaySl t x := by
  obtain ⟨a1, a2, a3, a4, a5, a6, a7, a8⟩ := h
  refine ⟨by rw [h1]; exact a1, by rw [h2]; exact a2, a3, by rw [h3]; exact a4, ?_, a6, by rw [h3]; exact a7, by rw [h3]; exact a8⟩
  unfold opt at a5 ⊢; rw [h2]; exact a5
/-- A slot ends. -/
theorem MayS.gone {s : St} (h : MayS s) {i : Nat} (hi : i < s.slots.length) {how : ByteArray} (hh : how = hD ∨ how = hA ∨ how = hK ∨ how = hS) : MayS (with' s (withoutL s.slots i) s.slots[i].num how) := by
  have hx := h.es _ (List.getElem_mem hi)
  have hpos : 0 < s.slots[i].num := by have := hx.n; omega
  have he : (with' s (withoutL s.slots i) s.slots[i].num how) = { s with slots := s.slots.eraseIdx i, ends := push s.ends ⟨s.slots[i].num, how⟩ } := by
    unfold with'; rw [if_pos hpos, Px.without_erase]
  rw [he]
  have hsub : (s.slots.eraseIdx i).Sublist s.slots := List.eraseIdx_sublist _ _
  have hnot : ∀ y ∈ s.slots.eraseIdx i, y.num ≠ s.slots[i].num := by
    intro y hy e
    obtain ⟨j, hj, hji, hjn⟩ := List.mem_eraseIdx_iff_getElem.1 hy
    exact hji (h.dist hj hi (by rw [hjn]; exact e))
  refine ⟨h.tab, h.c1, h.c2, h.n1, h.n2, Nat.le_trans (hsub.length_le) h.sl, push_len _, h.rise.sublist hsub, h.lock.sublist hsub, ?_, fun x hx => (h.es x (hsub.subset hx)).sub rfl rfl rfl, ?_⟩
  · refine push_dif h.dif fun x hx e => ?_
    exact (h.ee x hx).o _ (List.getElem_mem hi) e.symm
  · intro x hx'
    rcases push_mem hx' with q | q
    · have := h.ee x q
      exact ⟨this.n, this.h, fun y hy => this.o y (hsub.subset hy)⟩
    · subst q
      exact ⟨hx.n, hh, fun y hy => hnot y hy⟩
/-- A slot is another. -/
theorem MayS.put {s : St} (h : MayS s) {i : Nat} (hi : i < s.slots.length) {y : Sl} (hn : y.num = s.slots[i].num) (_hl : y.line = s.slots[i].line) (hy : MaySl s y)
    (hr : y.runs = true → ∀ k (hk : k < s.slots.length), k ≠ i → s.slots[k].line = y.line → opt s y.line 0 = 120 → s.slots[k].runs = true → False) : MayS (with' s (putL s.slots i y) 0 ByteArray.empty) := by
  have he : with' s (putL s.slots i y) 0 ByteArray.empty = { s with slots := s.slots.set i y } := by
    unfold with'; rw [if_neg (by decide), put_set]
  rw [he]
  have hg : ∀ k (hk : k < (s.slots.set i y).length), (s.slots.set i y)[k].num = (s.slots[k]'(by simpa using hk)).num := by
    intro k hk
    rw [List.getElem_set]
    by_cases e : i = k
    · subst e; rw [if_pos rfl]; exact hn
    · rw [if_neg e]
  refine ⟨h.tab, h.c1, h.c2, h.n1, h.n2, by simpa using h.sl, h.en, ?_, ?_, h.dif, ?_, ?_⟩
  · rw [List.pairwise_iff_getElem]
    intro a b ha hb hab
    rw [hg, hg]
    exact List.pairwise_iff_getElem.1 h.rise a b _ _ hab
  · rw [List.pairwise_iff_getElem]
    intro a b ha hb hab
    have ha' : a < s.slots.length := by simpa using ha
    have hb' : b < s.slots.length := by simpa using hb
    rw [List.getElem_set, List.getElem_set]
    by_cases ea : i = a
    · subst ea
      rw [if_pos rfl, if_neg (by omega)]
      intro h1 h2 h3 h4
      exact hr h3 b hb' (by omega) h1.symm h2 h4
    · rw [if_neg ea]
      by_cases eb : i = b
      · subst eb
        rw [if_pos rfl]
        intro h1 h2 h3 h4
        exact hr h4 a ha' (by omega) h1 (by rw [← h1]; exact h2) h3
      · rw [if_neg eb]
        exact List.pairwise_iff_getElem.1 h.lock a b ha' hb' hab
  · intro x hx
    rcases List.mem_or_eq_of_mem_set hx with q | q
    · exact (h.es x q).sub rfl rfl rfl
    · rw [q]; exact hy.sub rfl rfl rfl
  · intro x hx
    have q := h.ee x hx
    refine ⟨q.n, q.h, fun z hz => ?_⟩
    rcases List.mem_or_eq_of_mem_set hz with p | p
    · exact q.o z p
    · rw [p, hn]; exact q.o _ (List.getElem_mem hi)
theorem lockK_no {s : St} {i k : Nat} (h : lockK s i k = false) : ∀ j, j < k → j ≠ i → (slAt s j).line = (slAt s i).line → (slAt s j).runs = true → False := by
  induction k with
  | zero => intro j hj; omega
  | succ k ih =>
    intro j hj hne hl hr
    rw [lockK] at h
    simp only [Bool.or_eq_false_iff] at h
    by_cases e : j = k
    · subst e
      have := h.2
      simp [hne, hl, hr] at this
    · exact ih h.1 j (by omega) hne hl hr
theorem MayS.failed {s : St} (h : MayS s) {i : Nat} (hi : i < s.slots.length) : MayS (failed s i) := by
  have hx := h.es _ (List.getElem_mem hi)
  unfold Bx.failed
  rw [slAt_eq hi]
  split
  · exact h.gone hi (Or.inr (Or.inl rfl))
  · rename_i hne
    have hd := Px.delay_bd s.slots[i].att
    have ha := hx.a
    have hm := hx.m
    refine h.put hi rfl rfl ⟨hx.n, hx.l, hx.m0, hx.m, ?_, ?_, ?_, ?_⟩ ?_
    · show 1 ≤ s.slots[i].att + 1 ∧ s.slots[i].att + 1 ≤ opt s s.slots[i].line 2 - 48
      omega
    · intro e; have : s.slots[i].att + 1 = 1 := e; omega
    · intro _
      show s.slots[i].minute < s.clock + delay s.slots[i].att ∧ s.clock + delay s.slots[i].att ≤ s.clock + 10
      omega
    · intro e; cases e
    · intro e; cases e
theorem MayS.about {s : St} (h : MayS s) (kind n : Int) : MayS (aboutP s kind n).1 := by
  unfold aboutP
  split
  · exact h
  · rename_i hn
    obtain ⟨hi, hnum⟩ := find_num hn
    have hf := find_nat hn
    generalize (find s n).toNat = i at *
    rw [hf]
    have hx := h.es _ (List.getElem_mem hi)
    split
    · have := h.gone hi (how := hK) (Or.inr (Or.inr (Or.inl rfl))); rw [hnum] at this; exact this
    · split
      · split
        · exact h
        · rename_i hc
          rw [slAt_eq hi] at hc ⊢
          have hc1 : ¬ s.slots[i].runs = true := fun e => hc (Or.inl e)
          have hc2 : ¬ s.clock < s.slots[i].frm := fun e => hc (Or.inr (Or.inl e))
          have hc3 : ¬ locked s i = true := fun e => hc (Or.inr (Or.inr e))
          refine h.put hi rfl rfl ⟨hx.n, hx.l, hx.m0, hx.m, hx.a, hx.f1, hx.f2, fun _ => by show s.slots[i].frm ≤ s.clock; omega⟩ ?_
          intro _ k hk hki hl ho hr
          have hlk : locked s i = false := by simpa using hc3
          unfold locked at hlk
          rw [slAt_eq hi] at hlk
          have ho' : (opt s s.slots[i].line 0 == 120) = true := by simpa using ho
          rw [ho', Bool.true_and] at hlk
          exact lockK_no hlk k hk hki (by rw [slAt_eq hk, slAt_eq hi]; exact hl) (by rw [slAt_eq hk]; exact hr)
      · split
        · have := h.gone hi (how := hD) (Or.inl rfl); rw [hnum] at this; exact this
        · split
          · exact h.failed hi
          · exact h
/-- The clock goes on. -/
theorem MayS.later {s : St} (h : MayS s) {m : Int} (h1 : s.clock ≤ m) (h2 : m ≤ 4223371679) : MayS { s with clock := m } := by
  refine ⟨h.tab, by have := h.c1; show -1 ≤ m; omega, h2, h.n1, h.n2, h.sl, h.en, h.rise, h.lock, h.dif, fun x hx => ?_, fun x hx => ⟨(h.ee x hx).n, (h.ee x hx).h, (h.ee x hx).o⟩⟩
  have q := h.es x hx
  have q1 := q.m
  refine ⟨q.n, q.l, q.m0, by show x.minute ≤ m; omega, q.a, q.f1, fun e => ?_, fun e => ?_⟩
  · have := q.f2 e; exact ⟨this.1, by show x.frm ≤ m + 10; omega⟩
  · have := q.r e; show x.frm ≤ m; omega
theorem MayS.arr {s : St} (h : MayS s) (p : Nat × Int) (hp : p.1 < tn s.tab) (h0 : 0 ≤ p.2) (h1 : p.2 ≤ s.clock) (hn : s.next + 1 ≤ 10000) : MayS (arr s p) := by
  have hnx := h.n1
  have hsl' : ∀ x ∈ s.slots, MaySl { s with next := s.next + 1 } x := fun x hx => by
    have q := h.es x hx
    have q1 := q.n
    exact ⟨⟨q1.1, by show x.num < s.next + 1; omega⟩, q.l, q.m0, q.m, q.a, q.f1, q.f2, q.r⟩
  unfold Bx.arr
  split
  · have o := (opt_of (h.tab.lines.2.2 p.1 hp)).2.2.2.1
    refine ⟨h.tab, h.c1, h.c2, by show 1 ≤ s.next + 1; omega, hn, by simp; omega, h.en, ?_, ?_, h.dif, ?_, ?_⟩
    · rw [List.pairwise_append]
      refine ⟨h.rise, by simp, fun a ha b hb => ?_⟩
      simp at hb; subst hb
      exact (h.es a ha).n.2
    · rw [List.pairwise_append]
      refine ⟨h.lock, by simp, fun a ha b hb => ?_⟩
      simp at hb; subst hb
      intro _ _ _ q; cases q
    · intro x hx
      rcases List.mem_append.1 hx with hx | hx
      · exact (hsl' x hx).sub rfl rfl rfl
      · simp at hx; subst hx
        refine ⟨⟨hnx, by show s.next < s.next + 1; omega⟩, ⟨by simp [slotOf]; omega, by simp [slotOf]; omega⟩, h0, h1, ⟨by simp [slotOf], ?_⟩, fun _ => rfl, fun e => (e rfl).elim, fun e => by cases e⟩
        show (1 : Int) ≤ ob (tl s.tab (((p.1 : Int) + 1) - 1).toNat) 2 - 48
        rw [show (((p.1 : Int) + 1) - 1).toNat = p.1 by omega]; omega
    · intro x hx
      have q := h.ee x hx
      have q1 := q.n
      refine ⟨⟨q1.1, by show x.num < s.next + 1; omega⟩, q.h, fun y hy => ?_⟩
      rcases List.mem_append.1 hy with hy | hy
      · exact q.o y hy
      · simp at hy; subst hy; show s.next ≠ x.num; omega
  · refine ⟨h.tab, h.c1, h.c2, by show 1 ≤ s.next + 1; omega, hn, h.sl, push_len _, h.rise, h.lock, ?_, fun x hx => (hsl' x hx).sub rfl rfl rfl, ?_⟩
    · exact push_dif h.dif fun x hx e => by have := (h.ee x hx).n; have e' : x.num = s.next := e; omega
    · intro x hx
      rcases push_mem hx with q | q
      · have q' := h.ee x q
        have q1 := q'.n
        exact ⟨⟨q1.1, by show x.num < s.next + 1; omega⟩, q'.h, q'.o⟩
      · subst q
        exact ⟨⟨hnx, by show s.next < s.next + 1; omega⟩, Or.inr (Or.inr (Or.inr rfl)), fun y hy => by have := (h.es y hy).n; show y.num ≠ s.next; omega⟩
theorem arr_next (s : St) (p : Nat × Int) : (arr s p).next = s.next + 1 ∧ (arr s p).tab = s.tab ∧ (arr s p).clock = s.clock := by
  unfold arr; split <;> exact ⟨rfl, rfl, rfl⟩
theorem arr_clock (s : St) (p : Nat × Int) (m : Int) : arr { s with clock := m } p = { arr s p with clock := m } := by
  unfold arr
  by_cases h : s.slots.length < 8
  · rw [if_pos h, if_pos h]
  · rw [if_neg h, if_neg h]
theorem arrs_clock (l : List (Nat × Int)) (s : St) (m : Int) : l.foldl arr { s with clock := m } = { l.foldl arr s with clock := m } := by
  induction l generalizing s with
  | nil => rfl
  | cons p l ih => rw [List.foldl_cons, List.foldl_cons, arr_clock, ih]
theorem MayS.arrs (l : List (Nat × Int)) {s : St} (h : MayS s) (hp : ∀ p ∈ l, p.1 < tn s.tab ∧ 0 ≤ p.2 ∧ p.2 ≤ s.clock) (hn : s.next + (l.length : Int) ≤ 10000) : MayS (l.foldl Bx.arr s) := by
  induction l generalizing s with
  | nil => exact h
  | cons p l ih =>
    simp only [List.length_cons] at hn
    obtain ⟨q1, q2, q3⟩ := hp p (by simp)
    obtain ⟨e1, e2, e3⟩ := arr_next s p
    rw [List.foldl_cons]
    exact ih (h.arr p q1 q2 q3 (by omega)) (fun x hx => by rw [e2, e3]; exact hp x (by simp [hx])) (by rw [e1]; omega)
theorem MayS.clocked {s : St} (h : MayS s) (m : Int) : MayS (clockedP s m).1 := by
  unfold clockedP
  split
  · rename_i ha
    split
    · rename_i hn
      have hA : 0 ≤ m ∧ m ≤ 4223371679 ∧ s.clock < m ∧ (s.clock = -1 ∨ m - s.clock ≤ 1500) := of_decide_eq_true ha
      show MayS { (comesS s m).foldl Bx.arr s with clock := m }
      rw [← arrs_clock]
      refine MayS.arrs _ (h.later (by omega) hA.2.1) (fun p hp => ?_) hn
      have hl := comes_line hp
      obtain ⟨_, hc1, hc2, _⟩ := ((comes_ok (lns s.tab) (newA s m) m).mem p.1 p.2).1 hp
      have h0 : 0 ≤ newA s m := by have := h.c1; unfold newA; split <;> omega
      exact ⟨hl, by omega, hc2⟩
    · exact h
  · exact h
theorem MayS.do {s : St} (h : MayS s) (c : Ch) : MayS (doP s c).1 := by
  unfold doP
  split
  · split
    · rename_i hc
      have h0 : s.slots = [] := List.eq_nil_of_length_eq_zero hc.2
      refine ⟨hc.1, h.c1, h.c2, h.n1, h.n2, h.sl, h.en, h.rise, ?_, h.dif, ?_, fun x hx => ⟨(h.ee x hx).n, (h.ee x hx).h, (h.ee x hx).o⟩⟩
      · show s.slots.Pairwise _; rw [h0]; exact List.Pairwise.nil
      · show ∀ x ∈ s.slots, _; rw [h0]; simp
    · exact h
  · split
    · exact h.clocked _
    · exact h.about _ _
theorem MayS.told {s : St} (h : MayS s) (l : List Ch) : MayS (told s l) := by
  induction l generalizing s with
  | nil => exact h
  | cons a r ih =>
    refine ih ?_
    unfold tell; split
    · exact h.do a
    · exact h
end Bx
end Go.Proofs.YtdajolpoiffimaaDoor

namespace Go.Proofs.YtdajolpoiffimaaDoor
namespace Px
/-- A box has gone on by some changes. -/
structure Adv (b b' : Bo) (L : List Bx.Ch) : Prop where
  log : b'.log = b.log ++ Bx.frames L
  st : abs b'.st = Bx.told (abs b.st) L
  may : Bx.May (abs b.st) L
  lr : b'.limit = b.limit ∧ b'.room = b.room
  fit : (b'.log.size : Int) ≤ b'.room
theorem fit_num {k n : Int} (hk : k = 83 ∨ k = 68 ∨ k = 70 ∨ k = 75) (h1 : 1 ≤ n) (h2 : n < 10000) : Bx.ChFit ⟨k, { data := #[] }, n⟩ := Or.inr (Or.inr ⟨hk, rfl, by show 0 ≤ n; omega, by show n < 65536; omega⟩)
theorem Ok.num {s : St} (h : Ok s) {x : Sl} (hx : x ∈ s.slots) : 1 ≤ x.num ∧ x.num < 10000 := by
  have := h.each hx
  have h2 : s.next ≤ 10000 := h.st.n2
  omega
theorem may_one {s u : Bx.St} {k n : Int} (hk : k = 83 ∨ k = 68 ∨ k = 70 ∨ k = 75) (h1 : 1 ≤ n) (h2 : n < 10000) (h : Bx.aboutP s k n = (u, true)) {L : List Bx.Ch} (hl : Bx.May u L) : Bx.May s (⟨k, { data := #[] }, n⟩ :: L) ∧ Bx.told s (⟨k, { data := #[] }, n⟩ :: L) = Bx.told u L := by
  have e : Bx.doP s ⟨k, { data := #[] }, n⟩ = (u, true) := by rw [do_about _ _ _ _ (by omega) (by omega), h]
  have e2 : (Bx.doP s ⟨k, { data := #[] }, n⟩).2 = true := by rw [e]
  refine ⟨Bx.May.cons (fit_num hk h1 h2) e2 (by rw [e]; exact hl), ?_⟩
  rw [Bx.told_cons e2, e]
theorem fails_may (ns : List Int) : ∀ (s : St), Ok s → (∀ n ∈ ns, ∃ x ∈ s.slots, x.num = n ∧ 0 < x.step) → ns.Pairwise (· ≠ ·) → Bx.May (abs s) (ns.map chF) := by
  induction ns with
  | nil => intro s _ _ _; exact Bx.May.nil _
  | cons n r ih =>
    intro s h hall hp
    obtain ⟨x, hx, hxn, hxs⟩ := hall n (by simp)
    have hF : find s.slots n = some x := by rw [← hxn]; exact find_mem h.dist hx
    have h0 : (failP s n).2 = 0 := by
      unfold failP; rw [hF]; simp only
      rw [if_neg (by omega)]; split <;> rfl
    obtain ⟨o1, o2, o3⟩ := fail_other n h0
    have hp' := List.pairwise_cons.1 hp
    have hr := ih (failP s n).1 (fail_ok h n h0) (fun k hk => by
      obtain ⟨y, hy, hyn, hys⟩ := hall k (by simp [hk])
      exact ⟨y, o3 y hy (by rw [hyn]; exact fun e => hp'.1 k hk e.symm), hyn, hys⟩) hp'.2
    have hnum := h.num hx
    rw [hxn] at hnum
    rcases fail_abs h.dist n h.num1 h.att with ⟨q, _⟩ | ⟨q, _⟩ | ⟨_, q⟩
    · omega
    · omega
    · exact (may_one (Or.inr (Or.inr (Or.inl rfl))) hnum.1 hnum.2 q hr).1
theorem tick_late {s : St} (h : Ok s) {m : Int} (h0 : (clockP s m).2 = 0) : Ok (clockP s m).1 ∧ (∀ n ∈ late (clockP s m).1, ∃ x ∈ (clockP s m).1.slots, x.num = n ∧ 0 < x.step) ∧ (late (clockP s m).1).Pairwise (· ≠ ·) := by
  have hk := clock_ok h h0
  refine ⟨hk, ?_, Rise.nums hk.rise _⟩
  intro n hn
  obtain ⟨x, hx, rfl⟩ := List.mem_map.1 hn
  obtain ⟨hx1, hx2⟩ := List.mem_filter.1 hx
  refine ⟨x, hx1, rfl, ?_⟩
  simp at hx2; exact hx2.1
theorem tick_adv {b : Bo} (h : Ok b.st) (m : Int) : (¬ (tickB b m).2.2 = 0 ∧ (tickB b m).1 = b ∧ (tickB b m).2.1 = 0) ∨
    ((tickB b m).2.2 = 0 ∧ (clockP b.st m).2 = 0 ∧ Adv b (tickB b m).1 (chCl m :: (late (clockP b.st m).1).map chF)) := by
  unfold tickB
  by_cases h0 : (clockP b.st m).2 = 0
  rotate_left
  · rw [if_pos h0]; exact Or.inl ⟨h0, rfl, rfl⟩
  rw [if_neg (by simpa using h0)]
  by_cases hr : b.room < (b.log.size : Int) + (tickQ b m).2.size
  · rw [if_pos hr]; exact Or.inl ⟨by simp, rfl, rfl⟩
  rw [if_neg hr]
  refine Or.inr ⟨rfl, h0, ?_⟩
  obtain ⟨hk, hall, hpw⟩ := tick_late h h0
  obtain ⟨f1, f2, f3, f4, f5⟩ := fails_rel (late (clockP b.st m).1) (clockP b.st m).1 (Bx.frame (Bx.body (chCl m))) hk hall hpw
  have hcl := clock_abs b.st m h0
  obtain ⟨m0, m1, _⟩ := clock_st h0
  have hd : Bx.doP (abs b.st) (chCl m) = (abs (clockP b.st m).1, true) := by
    unfold Bx.doP
    rw [if_neg (show ¬ (chCl m).kind = 84 by show ¬ (67 : Int) = 84; omega), if_pos (show (chCl m).kind = 67 from rfl)]
    exact hcl
  have hfr : (tickQ b m).2 = Bx.frames (chCl m :: (late (clockP b.st m).1).map chF) := by rw [frames_fold]; exact f2
  refine ⟨by rw [← hfr], ?_, ?_, ⟨rfl, rfl⟩, ?_⟩
  · rw [Bx.told_cons (by rw [hd]), hd]
    exact f1.symm
  · exact Bx.May.cons (Or.inr (Or.inl ⟨rfl, rfl, m0, by show m < 1099511627776; omega⟩)) (by rw [hd]) (by rw [hd]; exact fails_may _ _ hk hall hpw)
  · show ((b.log ++ (tickQ b m).2).size : Int) ≤ b.room
    rw [ByteArray.size_append]; omega
theorem goF_like (L : List ByteArray) (c : Int) (n : Nat) : ∀ x : Sl, Like x (goF L c n x).1 ∧ (0 < x.step → 0 < (goF L c n x).1.step) := by
  induction n with
  | zero => intro x; exact ⟨Like.refl x, fun h => h⟩
  | succ n ih =>
    intro x
    rw [goF]
    split
    · exact ⟨Like.refl x, fun h => h⟩
    · split
      · obtain ⟨h1, h2⟩ := ih { x with step := x.step + 1 }
        exact ⟨h1, fun h => h2 (by show 0 < x.step + 1; omega)⟩
      · split
        · exact ⟨⟨rfl, rfl, rfl, rfl, rfl⟩, fun h => h⟩
        · obtain ⟨h1, h2⟩ := ih { x with step := x.step + 1, heard := behS x.heard (wordAt L (x.step - 1).toNat), ans := c }
          exact ⟨h1, fun h => h2 (by show 0 < x.step + 1; omega)⟩
theorem Like.abs {x y : Sl} (h : Like x y) (h1 : 0 < x.step) (h2 : 0 < y.step) : absS y = absS x := by
  obtain ⟨a, b, c, d, e⟩ := h
  unfold absS
  rw [a, b, c, d, e, decide_eq_true h1, decide_eq_true h2]
theorem talk_adv {b : Bo} {s : St} (h : Ok s) {L : List Bx.Ch} (hs : abs s = Bx.told (abs b.st) L) (hm : Bx.May (abs b.st) L) (n : Int) (x fr : ByteArray) (hf : fr = Bx.frames L) :
    (¬ (talkB b s n x fr).2.2 = 0 ∧ (talkB b s n x fr).1 = b ∧ (talkB b s n x fr).2.1 = ByteArray.empty) ∨ ((talkB b s n x fr).2.2 = 0 ∧ (Adv b (talkB b s n x fr).1 L ∨ Adv b (talkB b s n x fr).1 (L ++ [chD n]))) := by
  unfold talkB
  cases hF : find s.slots n with
  | none => exact Or.inl ⟨by simp, rfl, rfl⟩
  | some y =>
    obtain ⟨i, hi, hyi, hyn, hFd⟩ := find_some h.dist hF
    have hy : y ∈ s.slots := by rw [← hyi]; exact List.getElem_mem hi
    simp only
    by_cases h0 : y.step ≤ 0
    · rw [if_pos h0]; exact Or.inl ⟨by simp, rfl, rfl⟩
    rw [if_neg h0]
    obtain ⟨g1, g2⟩ := goF_like (stepsL s y) s.clock ((stepsL s y).length + 1) (heardS y x)
    have hX : (talkS s y x).1.num = n := by rw [← hyn]; exact g1.1
    have hXs : 0 < (talkS s y x).1.step := g2 (by show 0 < y.step; omega)
    have hL : Like y (talkS s y x).1 := g1
    have habs : absS (talkS s y x).1 = absS y := hL.abs (by omega) hXs
    have hrepl : abs (talkT s y x) = abs s := repl_abs s h.dist hy habs
    by_cases hd : ((stepsL s y).length : Int) < (talkS s y x).1.step
    · rw [if_pos hd]
      have e : doneP (talkT s y x) n = (ended s n Bx.hD, 0) := done_talk hy hyn hX hXs
      rw [e]
      simp only
      rw [if_neg (by simp)]
      unfold commitB
      by_cases hr : b.room < (b.log.size : Int) + (fr ++ Bx.frame (Bx.body (chD n))).size
      · rw [if_pos hr]; exact Or.inl ⟨by simp, rfl, rfl⟩
      rw [if_neg hr]
      refine Or.inr ⟨rfl, Or.inr ?_⟩
      have hfr : fr ++ Bx.frame (Bx.body (chD n)) = Bx.frames (L ++ [chD n]) := by rw [Bx.frames_snoc, hf]
      have hnum := h.num hy
      rw [hyn] at hnum
      have hdn : (doneP s n).2 = 0 ∧ (doneP s n).1 = ended s n Bx.hD := by
        unfold doneP; rw [hF]; simp only; rw [if_neg h0]; exact ⟨rfl, rfl⟩
      have hab : Bx.aboutP (abs s) 68 n = (abs (ended s n Bx.hD), true) := by
        rcases done_abs h.dist n h.num1 with ⟨q, _⟩ | ⟨q, _⟩ | ⟨_, q⟩
        · omega
        · omega
        · rw [hdn.2] at q; exact q
      obtain ⟨k1, k2⟩ := may_one (Or.inr (Or.inl rfl)) hnum.1 hnum.2 hab (Bx.May.nil _)
      refine ⟨by rw [← hfr], ?_, hm.app (by rw [← hs]; exact k1), ⟨rfl, rfl⟩, ?_⟩
      · show abs (ended s n Bx.hD) = _
        unfold Bx.told at hs ⊢
        rw [List.foldl_append, ← hs]
        exact k2.symm
      · show ((b.log ++ (fr ++ Bx.frame (Bx.body (chD n)))).size : Int) ≤ b.room
        rw [ByteArray.size_append]; omega
    · rw [if_neg hd]
      unfold commitB
      by_cases hr : b.room < (b.log.size : Int) + fr.size
      · rw [if_pos hr]; exact Or.inl ⟨by simp, rfl, rfl⟩
      rw [if_neg hr]
      refine Or.inr ⟨rfl, Or.inl ⟨by rw [← hf], ?_, hm, ⟨rfl, rfl⟩, ?_⟩⟩
      · show abs (talkT s y x) = _
        rw [hrepl, hs]
      · show ((b.log ++ fr).size : Int) ≤ b.room
        rw [ByteArray.size_append]; omega
theorem feed_adv {b : Bo} (h : Ok b.st) (n : Int) (x : ByteArray) :
    (¬ (feedB b n x).2.2 = 0 ∧ (feedB b n x).1 = b ∧ (feedB b n x).2.1 = ByteArray.empty) ∨ ((feedB b n x).2.2 = 0 ∧ (Adv b (feedB b n x).1 [] ∨ Adv b (feedB b n x).1 [chD n])) := by
  unfold feedB
  by_cases h40 : 40 < x.size
  · rw [if_pos h40]; exact Or.inl ⟨by simp, rfl, rfl⟩
  rw [if_neg h40]
  exact talk_adv h (L := []) rfl (Bx.May.nil _) n x ByteArray.empty rfl
theorem start_adv {b : Bo} (h : Ok b.st) (n : Int) (hs : (startP b.st n).2 = 0 → Ok (startP b.st n).1) :
    (¬ (startB b n).2.2 = 0 ∧ (startB b n).1 = b ∧ (startB b n).2.1 = ByteArray.empty) ∨ ((startB b n).2.2 = 0 ∧ ((runs (startP b.st n).1 : Nat) : Int) ≤ b.limit ∧ (Adv b (startB b n).1 [chS n] ∨ Adv b (startB b n).1 [chS n, chD n])) := by
  unfold startB
  by_cases h0 : (startP b.st n).2 = 0
  rotate_left
  · rw [if_pos h0]; exact Or.inl ⟨h0, rfl, rfl⟩
  rw [if_neg (by simpa using h0)]
  by_cases hl : b.limit < ((runs (startP b.st n).1 : Nat) : Int)
  · rw [if_pos hl]; exact Or.inl ⟨by simp, rfl, rfl⟩
  rw [if_neg hl]
  have hk : ∃ i : Nat, ∃ hi : i < b.st.slots.length, b.st.slots[i].num = n ∧ Bx.aboutP (abs b.st) 83 n = (abs (startP b.st n).1, true) := by
    rcases start_abs h.dist n with ⟨q, _⟩ | ⟨i, hi, _, hn, q⟩
    · omega
    · rcases q with ⟨q, _⟩ | ⟨q, _⟩ | ⟨q, _⟩ | ⟨_, _, _, _, _, q⟩
      · omega
      · omega
      · omega
      · exact ⟨i, hi, hn, q⟩
  obtain ⟨i, hi, hn, hab⟩ := hk
  have hnum := h.num (List.getElem_mem hi)
  rw [hn] at hnum
  obtain ⟨k1, k2⟩ := may_one (Or.inl rfl) hnum.1 hnum.2 hab (Bx.May.nil _)
  rcases talk_adv (b := b) (hs h0) (L := [chS n]) k2.symm k1 n ByteArray.empty (Bx.frame (Bx.body (chS n))) (frames_one _).symm with q | ⟨q1, q2⟩
  · exact Or.inl q
  · exact Or.inr ⟨q1, by omega, q2⟩
theorem cancel_adv {b : Bo} (h : Ok b.st) (n : Int) : (¬ (cancelB b n).2 = 0 ∧ (cancelB b n).1 = b) ∨ ((cancelB b n).2 = 0 ∧ Adv b (cancelB b n).1 [chK n]) := by
  unfold cancelB
  by_cases h0 : (cancelP b.st n).2 = 0
  rotate_left
  · rw [if_pos h0]; exact Or.inl ⟨h0, rfl⟩
  rw [if_neg (by simpa using h0)]
  by_cases hr : b.room < (b.log.size : Int) + (Bx.frames [chK n]).size
  · rw [if_pos hr]; exact Or.inl ⟨by simp, rfl⟩
  rw [if_neg hr]
  refine Or.inr ⟨rfl, ?_⟩
  have hx : ∃ x ∈ b.st.slots, x.num = n := by
    unfold cancelP at h0
    cases q : find b.st.slots n with
    | none => rw [q] at h0; cases h0
    | some x => exact ⟨x, List.mem_of_find?_eq_some q, by simpa using List.find?_some q⟩
  obtain ⟨x, hx, hxn⟩ := hx
  have hnum := h.num hx
  rw [hxn] at hnum
  rcases cancel_abs h.dist n h.num1 with ⟨q, _⟩ | ⟨_, q⟩
  · omega
  · obtain ⟨k1, k2⟩ := may_one (Or.inr (Or.inr (Or.inr rfl))) hnum.1 hnum.2 q (Bx.May.nil _)
    refine ⟨rfl, k2.symm, k1, ⟨rfl, rfl⟩, ?_⟩
    show ((b.log ++ Bx.frames [chK n]).size : Int) ≤ b.room
    rw [ByteArray.size_append]; omega
theorem load_adv {b b' : Bo} {tab : ByteArray} {a r : Int} (h : LoadB b tab b' a r) : (¬ r = 0 ∧ b' = b) ∨ (r = 0 ∧ a = 0 ∧ b.st.slots.length = 0 ∧ b'.st = { b.st with tab := tab } ∧ Adv b b' [chT tab]) := by
  rcases h with ⟨h1, _, rfl⟩ | ⟨_, _, rfl, _, rfl⟩ | ⟨_, _, _, rfl, _, rfl⟩ | ⟨hc, hz, hr, rfl, rfl, rfl⟩
  · exact Or.inl ⟨h1, rfl⟩
  · exact Or.inl ⟨by decide, rfl⟩
  · exact Or.inl ⟨by decide, rfl⟩
  · refine Or.inr ⟨rfl, rfl, hz, rfl, ?_⟩
    have hz' : (abs b.st).slots.length = 0 := by simp [abs, hz]
    have e : Bx.doP (abs b.st) (chT tab) = ({ abs b.st with tab := tab }, true) := by
      unfold Bx.doP
      rw [if_pos (show (chT tab).kind = 84 from rfl), if_pos ⟨hc, hz'⟩]; rfl
    refine ⟨rfl, ?_, Bx.May.cons (Or.inl ⟨rfl, rfl⟩) (by rw [e]) (Bx.May.nil _), ⟨rfl, rfl⟩, ?_⟩
    · rw [Bx.told_cons (by rw [e]), e]; rfl
    · show ((b.log ++ Bx.frames [chT tab]).size : Int) ≤ b.room
      rw [ByteArray.size_append]; omega
end Px
end Go.Proofs.YtdajolpoiffimaaDoor
