/-
  GuessM, RefGuess, RefMay3, RefHeld.
-/
import Derived.Deep.CutRange
import Derived.Deep.RegionLaw
import Derived.Test.YtdajolpoiffimaaGreatDoorO2
import Derived.Test.YtdajolpoiffimaaGreatDoorO5
import Derived.Test.YtdajolpoiffimaaGreatDoorO8
import Derived.Test.YtdajolpoiffimaaGreatDoorO9
import Derived.Test.YtdajolpoiffimaaGreatDoorO12

namespace Go.Proofs.YtdajolpoiffimaaGreatDoor
open Go.RowKit

/-- A number of so many bytes from a place on. -/
def numAt (b : ByteArray) (a k : Nat) : Int := numW (partK b a k).data.toList
theorem numAt_bd (b : ByteArray) (a k : Nat) (hk : k ≤ 7) : 0 ≤ numAt b a k ∧ numAt b a k < 256 ^ k := by
 obtain ⟨_, h1, h2⟩ := be_numW (partK_size b a k) hk
 exact ⟨h1, h2⟩
def one1 : ByteArray := { data := #[1] }
def gsSl (b : ByteArray) (a : Nat) : Bx.Sl := ⟨numAt b a 2, numAt b (a + 2) 1, numAt b (a + 3) 5, numAt b (a + 8) 1, numAt b (a + 9) 5, (partK b (a + 14) 1).toList == one1.toList⟩
def gsEn (b : ByteArray) (a : Nat) : Bx.En := ⟨numAt b a 2, partK b (a + 2) 1⟩
def gsSls (b : ByteArray) (a k : Nat) : List Bx.Sl := (List.range k).map fun j => gsSl b (a + 15 * j)
def gsEns (b : ByteArray) (a k : Nat) : List Bx.En := (List.range k).map fun j => gsEn b (a + 3 * j)
theorem gsSls_len (b : ByteArray) (a k : Nat) : (gsSls b a k).length = k := by simp [gsSls]
theorem gsEns_len (b : ByteArray) (a k : Nat) : (gsEns b a k).length = k := by simp [gsEns]
theorem gsSls_succ (b : ByteArray) (a k : Nat) : gsSls b a (k + 1) = gsSls b a k ++ [gsSl b (a + 15 * k)] := by simp [gsSls, List.range_succ]
theorem gsEns_succ (b : ByteArray) (a k : Nat) : gsEns b a (k + 1) = gsEns b a k ++ [gsEn b (a + 3 * k)] := by simp [gsEns, List.range_succ]
/-- The crontab's length, the slots, the ends. -/
def gsN (b : ByteArray) : Nat := if 300 < numAt b 8 2 then 0 else (numAt b 8 2).toNat
def gsK (b : ByteArray) : Nat := (numAt b (10 + gsN b) 1).toNat
def gsE (b : ByteArray) : Nat := (numAt b (11 + gsN b + 15 * gsK b) 1).toNat
def gs (b : ByteArray) : Bx.St := ⟨partK b 10 (gsN b), numAt b 1 5 - 1, numAt b 6 2, gsSls b (11 + gsN b) (gsK b), gsEns b (12 + gsN b + 15 * gsK b) (gsE b)⟩
theorem gsN_le (b : ByteArray) : gsN b ≤ 300 := by
 unfold gsN
 split
 ·omega
 ·omega
theorem gsK_le (b : ByteArray) : gsK b ≤ 255 := by
 have := numAt_bd b (10 + gsN b) 1 (by decide)
 unfold gsK; omega
theorem gsE_le (b : ByteArray) : gsE b ≤ 255 := by
 have := numAt_bd b (11 + gsN b + 15 * gsK b) 1 (by decide)
 unfold gsE; omega
/-- What is known of a guess. -/
structure GsOk (s : Bx.St) : Prop where
 t : s.tab.size ≤ 300
 c : -1 ≤ s.clock ∧ s.clock < 1099511627776
 n : 0 ≤ s.next ∧ s.next < 65536
 sl : s.slots.length ≤ 255
 en : s.ends.length ≤ 255
 es : ∀ x ∈ s.slots, Bx.SlFit x
 ee : ∀ x ∈ s.ends, (0 ≤ x.num ∧ x.num < 65536) ∧ x.how.size = 1
theorem gsSl_fit (b : ByteArray) (a : Nat) : Bx.SlFit (gsSl b a) := by
 refine ⟨?_, ?_, ?_, ?_, ?_⟩
 ·have := numAt_bd b a 2 (by decide); simpa [gsSl] using this
 ·have := numAt_bd b (a + 2) 1 (by decide); simpa [gsSl] using this
 ·have := numAt_bd b (a + 3) 5 (by decide); simpa [gsSl] using this
 ·have := numAt_bd b (a + 8) 1 (by decide); simpa [gsSl] using this
 ·have := numAt_bd b (a + 9) 5 (by decide); simpa [gsSl] using this
theorem gs_ok (b : ByteArray) : GsOk (gs b) := by
 have h1 := numAt_bd b 1 5 (by decide)
 have h2 := numAt_bd b 6 2 (by decide)
 refine ⟨?_, ?_, ?_, ?_, ?_, ?_, ?_⟩
 ·show (partK b 10 (gsN b)).size ≤ 300
  rw [partK_size]; exact gsN_le b
 ·show -1 ≤ numAt b 1 5 - 1 ∧ numAt b 1 5 - 1 < _
  omega
 ·show 0 ≤ numAt b 6 2 ∧ numAt b 6 2 < _
  omega
 ·show (gsSls b _ _).length ≤ _
  rw [gsSls_len]; exact gsK_le b
 ·show (gsEns b _ _).length ≤ _
  rw [gsEns_len]; exact gsE_le b
 ·intro x hx
  obtain ⟨j, _, rfl⟩ := List.mem_map.1 (show x ∈ gsSls b _ _ from hx)
  exact gsSl_fit b _
 ·intro x hx
  obtain ⟨j, _, rfl⟩ := List.mem_map.1 (show x ∈ gsEns b _ _ from hx)
  refine ⟨?_, partK_size b _ 1⟩
  have := numAt_bd b (12 + gsN b + 15 * gsK b + 3 * j) 2 (by decide)
  simpa [gsEn] using this

/-- A text stands in another at a place. -/
def At (b : ByteArray) (a : Nat) (y : ByteArray) : Prop := ∃ x z, b = x ++ (y ++ z) ∧ a = x.size
theorem At.left {b y y' : ByteArray} {a : Nat} (h : At b a (y ++ y')) : At b a y := by
 obtain ⟨x, z, e, ha⟩ := h
 exact ⟨x, y' ++ z, by rw [e]; simp only [ByteArray.append_assoc], ha⟩
theorem At.right {b y y' : ByteArray} {a k : Nat} (h : At b a (y ++ y')) (hk : k = a + y.size) : At b k y' := by
 obtain ⟨x, z, e, ha⟩ := h
 exact ⟨x ++ y, z, by rw [e]; simp only [ByteArray.append_assoc], by rw [ByteArray.size_append]; omega⟩
theorem partK_ext (s : ByteArray) (a k : Nat) (h : a + k ≤ s.size) : partK s a k = s.extract a (a + k) := by
 induction k with
 | zero =>
   refine Bx.ba_ext ?_
   rw [ByteArray.data_extract]
   simp [partK]
 | succ k ih =>
   rw [partK, ih (by omega), if_pos (by omega)]
   refine Bx.ba_ext ?_
   rw [ByteArray.data_append, Array.toList_append, ByteArray.data_extract, ByteArray.data_extract, ByteArray.data_extract]
   simp only [Array.toList_extract, List.extract_eq_take_drop]
   rw [show a + (k + 1) - a = k + 1 by omega, show a + k - a = k by omega, show a + k + 1 - (a + k) = 1 by omega, List.take_add, List.drop_drop]
theorem At.part {b y : ByteArray} {a k : Nat} (h : At b a y) (hk : k = y.size) : partK b a k = y := by
 obtain ⟨x, z, e, ha⟩ := h
 subst hk ha
 rw [partK_ext b _ _ (by rw [e, ByteArray.size_append, ByteArray.size_append]; omega), e]
 have hx : x.data.toList.length = x.size := by simp
 have hy : y.data.toList.length = y.size := by simp
 refine Bx.ba_ext ?_
 rw [ByteArray.data_extract, ByteArray.data_append, ByteArray.data_append]
 simp only [Array.toList_extract, List.extract_eq_take_drop, Array.toList_append]
 rw [← hx, List.drop_left, Nat.add_sub_cancel_left, ← hy, List.take_left]
theorem At.num {b : ByteArray} {a k : Nat} {n : Int} (h : At b a (Bx.be n k)) (h0 : 0 ≤ n) (h1 : n < 256 ^ k) (hk : k ≤ 7) : numAt b a k = n := by
 unfold numAt
 rw [h.part (by rw [Bx.be_size])]
 exact numW_be n k h0 h1 hk
theorem At.cat {α : Type} {f : α → ByteArray} {n : Nat} : ∀ {l : List α} {b : ByteArray} {a : Nat}, At b a (Bx.cat (l.map f)) → (∀ x ∈ l, (f x).size = n) → ∀ k (hk : k < l.length), At b (a + n * k) (f l[k])
 | [], _, _, _, _, k, hk => by simp at hk
 | x :: l, b, a, h, hs, k, hk => by
   rw [List.map_cons, Bx.cat] at h
   cases k with
   | zero => simpa using h.left
   | succ k =>
     have h2 := At.cat (h.right rfl) (fun y hy => hs y (by simp [hy])) k (by simpa using hk)
     rw [hs x (by simp)] at h2
     rw [show a + n * (k + 1) = a + n + n * k by rw [Nat.mul_succ]; omega]
     exact h2
theorem At.slot {b : ByteArray} {a : Nat} {x : Bx.Sl} (h : At b a (Bx.encSl x)) (hf : Bx.SlFit x) : gsSl b a = x := by
 unfold Bx.encSl at h
 have h1 := h.right (k := a + 2) (by rw [Bx.be_size])
 have h2 := h1.right (k := a + 3) (by rw [Bx.be_size])
 have h3 := h2.right (k := a + 8) (by rw [Bx.be_size])
 have h4 := h3.right (k := a + 9) (by rw [Bx.be_size])
 have h5 := h4.right (k := a + 14) (by rw [Bx.be_size])
 have e5 : ((partK b (a + 14) 1).toList == one1.toList) = x.runs := by
  rw [h5.part (by rw [Bx.be_size])]
  simp only [ByteArray.toList_eq]
  cases x.runs <;> decide
 unfold gsSl
 rw [h.left.num hf.n.1 (by simpa using hf.n.2) (by decide), h1.left.num hf.l.1 (by simpa using hf.l.2) (by decide), h2.left.num hf.m.1 (by simpa using hf.m.2) (by decide), h3.left.num hf.a.1 (by simpa using hf.a.2) (by decide), h4.left.num hf.f.1 (by simpa using hf.f.2) (by decide), e5]
theorem At.end {b : ByteArray} {a : Nat} {x : Bx.En} (h : At b a (Bx.encEn x)) (hf : Bx.EnFit x) : gsEn b a = x := by
 unfold Bx.encEn at h
 have h1 := h.right (k := a + 2) (by rw [Bx.be_size])
 unfold gsEn
 rw [h.left.num hf.n.1 (by simpa using hf.n.2) (by decide), h1.part (by rw [hf.h])]
theorem gs_whole {s : Bx.St} (hf : Bx.StFit s) (h3 : s.tab.size ≤ 300) : gs (Bx.wholeS s) = s := by
 obtain ⟨b, hb⟩ : ∃ b, b = Bx.wholeS s := ⟨_, rfl⟩
 have h0 : At b 0 (Bx.wholeS s) := ⟨ByteArray.empty, ByteArray.empty, by simp [hb], rfl⟩
 rw [← hb]
 clear hb
 unfold Bx.wholeS Bx.encSt at h0
 have hc := hf.c; have hn := hf.n; have ht := hf.t; have hs := hf.sl; have he := hf.en
 have p1 := h0.right (k := 1) (by rw [Bx.b1_size])
 have p2 := p1.right (k := 6) (by rw [Bx.be_size])
 have p3 := p2.right (k := 8) (by rw [Bx.be_size])
 have p4 := p3.right (k := 10) (by rw [Bx.be_size])
 have p5 := p4.right (k := 10 + s.tab.size) rfl
 have p6 := p5.right (k := 11 + s.tab.size) (by rw [Bx.be_size]; omega)
 have p7 := p6.right (k := 11 + s.tab.size + 15 * s.slots.length) (by rw [Bx.cat_size Bx.encSl 15 _ (fun x _ => Bx.encSl_size x)])
 have p8 := p7.right (k := 12 + s.tab.size + 15 * s.slots.length) (by rw [Bx.be_size]; omega)
 have n1 := p1.left.num (by omega) (by simp; omega) (by decide)
 have n2 := p2.left.num hn.1 (by simpa using hn.2) (by decide)
 have n3 := p3.left.num (by omega) (by simp; omega) (by decide)
 have n5 := p5.left.num (by omega) (by simp; omega) (by decide)
 have n7 := p7.left.num (by omega) (by simp; omega) (by decide)
 have eN : gsN b = s.tab.size := by unfold gsN; rw [n3, if_neg (by omega)]; omega
 have eK : gsK b = s.slots.length := by unfold gsK; rw [eN, n5]; omega
 have eE : gsE b = s.ends.length := by unfold gsE; rw [eN, eK, n7]; omega
 have es : gsSls b (11 + s.tab.size) s.slots.length = s.slots := by
  refine List.ext_getElem (gsSls_len _ _ _) fun j h1 h2 => ?_
  simp only [gsSls, List.getElem_map, List.getElem_range]
  exact (p6.left.cat (fun x _ => Bx.encSl_size x) j h2).slot (hf.es _ (List.getElem_mem h2))
 have ee : gsEns b (12 + s.tab.size + 15 * s.slots.length) s.ends.length = s.ends := by
  refine List.ext_getElem (gsEns_len _ _ _) fun j h1 h2 => ?_
  simp only [gsEns, List.getElem_map, List.getElem_range]
  refine (p8.cat (n := 3) (fun x hx => ?_) j h2).end (hf.ee _ (List.getElem_mem h2))
  unfold Bx.encEn
  rw [ByteArray.size_append, Bx.be_size, (hf.ee x hx).h]
 unfold gs
 rw [eE, eK, eN, n1, n2, es, ee, p4.left.part rfl]
 rw [show s.clock + 1 - 1 = s.clock by omega]
/-- The guess holds, or nothing does. -/
theorem gs_z {b : ByteArray} {t : Bx.St} (h : Bx.IsZ b t) : gs b = t := by
 obtain ⟨hm, e⟩ := h
 rw [← e]
 exact gs_whole hm.fit hm.tab.lines.1
theorem gs_no {b : ByteArray} (h : ¬ (Bx.MayS (gs b) ∧ Bx.wholeS (gs b) = b)) : ¬ ∃ t, Bx.IsZ b t := by
 rintro ⟨t, ht⟩
 have e := gs_z ht
 exact h (by rw [e]; exact ht)
end Go.Proofs.YtdajolpoiffimaaGreatDoor

namespace Go.Proofs.YtdajolpoiffimaaGreatDoor
open Go.RowKit

theorem pt_w (b : ByteArray) (p o n : Nat) (hs : b.size ≤ 100000) (hp : p + o ≤ 100000) (hn : n ≤ 100000) (W : World) :
 Calls Tryz.prog 181 #[.string b, .int .i64 ((p : Int) + (o : Int)), .int .i64 (n : Int)] W fun e w' => e = .returned (.string (partK b (p + o) n)) ∧ w' = W := by
 have := part_any b (p + o) n W hs hp hn
 rw [show ((p + o : Nat) : Int) = (p : Int) + (o : Int) by omega] at this
 exact this
theorem nm_w (b : ByteArray) (a k : Nat) (hk : k ≤ 100000) (W : World) :
 Calls Tryz.prog 149 #[.string (partK b a k)] W fun e w' => e = .returned (.int .i64 (numAt b a k)) ∧ w' = W := number_any (partK b a k) W (by rw [partK_size]; exact hk)
theorem slot_parts (b : ByteArray) (p : Nat) (hs : b.size ≤ 100000) (hp : p ≤ 90000) : ∃ (y1 y2 y3 y4 y5 y6 : ByteArray) (x : Bx.Sl), x = gsSl b p ∧ (∀ W : World, Calls Tryz.prog 181 #[.string b, .int .i64 (p : Int), .int .i64 2] W fun e w' => e = .returned (.string y1) ∧ w' = W) ∧ (∀ W : World, Calls Tryz.prog 149 #[.string y1] W fun e w' => e = .returned (.int .i64 x.num) ∧ w' = W) ∧ (∀ W : World, Calls Tryz.prog 181 #[.string b, .int .i64 ((p : Int) + 2), .int .i64 1] W fun e w' => e = .returned (.string y2) ∧ w' = W) ∧ (∀ W : World, Calls Tryz.prog 149 #[.string y2] W fun e w' => e = .returned (.int .i64 x.line) ∧ w' = W) ∧ (∀ W : World, Calls Tryz.prog 181 #[.string b, .int .i64 ((p : Int) + 3), .int .i64 5] W fun e w' => e = .returned (.string y3) ∧ w' = W) ∧ (∀ W : World, Calls Tryz.prog 149 #[.string y3] W fun e w' => e = .returned (.int .i64 x.minute) ∧ w' = W) ∧ (∀ W : World, Calls Tryz.prog 181 #[.string b, .int .i64 ((p : Int) + 8), .int .i64 1] W fun e w' => e = .returned (.string y4) ∧ w' = W) ∧ (∀ W : World, Calls Tryz.prog 149 #[.string y4] W fun e w' => e = .returned (.int .i64 x.att) ∧ w' = W) ∧ (∀ W : World, Calls Tryz.prog 181 #[.string b, .int .i64 ((p : Int) + 9), .int .i64 5] W fun e w' => e = .returned (.string y5) ∧ w' = W) ∧ (∀ W : World, Calls Tryz.prog 149 #[.string y5] W fun e w' => e = .returned (.int .i64 x.frm) ∧ w' = W) ∧ (∀ W : World, Calls Tryz.prog 181 #[.string b, .int .i64 ((p : Int) + 14), .int .i64 1] W fun e w' => e = .returned (.string y6) ∧ w' = W) ∧ (y6.toList == one1.toList) = x.runs :=
 ⟨partK b p 2, partK b (p + 2) 1, partK b (p + 3) 5, partK b (p + 8) 1, partK b (p + 9) 5, partK b (p + 14) 1, gsSl b p, rfl, fun W => (by have := pt_w b p 0 2 hs (by omega) (by decide) W; simpa using this), fun W => nm_w b _ _ (by decide) W, fun W => pt_w b p 2 1 hs (by omega) (by decide) W, fun W => nm_w b _ _ (by decide) W, fun W => pt_w b p 3 5 hs (by omega) (by decide) W, fun W => nm_w b _ _ (by decide) W, fun W => pt_w b p 8 1 hs (by omega) (by decide) W, fun W => nm_w b _ _ (by decide) W, fun W => pt_w b p 9 5 hs (by omega) (by decide) W, fun W => nm_w b _ _ (by decide) W, fun W => pt_w b p 14 1 hs (by omega) (by decide) W, rfl⟩
theorem end_parts (b : ByteArray) (p : Nat) (hs : b.size ≤ 100000) (hp : p ≤ 90000) : ∃ (y1 : ByteArray) (x : Bx.En), x = gsEn b p ∧ (∀ W : World, Calls Tryz.prog 181 #[.string b, .int .i64 (p : Int), .int .i64 2] W fun e w' => e = .returned (.string y1) ∧ w' = W) ∧ (∀ W : World, Calls Tryz.prog 149 #[.string y1] W fun e w' => e = .returned (.int .i64 x.num) ∧ w' = W) ∧ (∀ W : World, Calls Tryz.prog 181 #[.string b, .int .i64 ((p : Int) + 2), .int .i64 1] W fun e w' => e = .returned (.string x.how) ∧ w' = W) :=
 ⟨partK b p 2, gsEn b p, rfl, fun W => (by have := pt_w b p 0 2 hs (by omega) (by decide) W; simpa using this), fun W => nm_w b _ _ (by decide) W, fun W => pt_w b p 2 1 hs (by omega) (by decide) W⟩
theorem ggrow_below {w w1 w2 : World} {q : Nat} (h : w.grownBy w1 (some q)) (hb : Below w.heap.size w1 w2) (hs : w1.heap.size ≤ w2.heap.size) : w.grownBy w2 (some q) :=
 ⟨hb.os.trans h.os, hb.tape.trans h.tape, hb.output.trans h.output, Nat.le_trans h.size hs, fun k hk hne => (hb.block k hk).trans (h.block k hk hne)⟩
theorem gbelow_grow {w W W2 : World} {q : Nat} (h : Below w.heap.size w W) (hg : W.grownBy W2 (some q)) (hq : w.heap.size ≤ q) : Below w.heap.size w W2 :=
 ⟨hg.os.trans h.os, hg.tape.trans h.tape, hg.output.trans h.output, Nat.le_trans h.size hg.size, fun k hk => (hg.block k (Nat.lt_of_lt_of_le hk h.size) (fun e => by cases e; omega)).trans (h.block k hk)⟩
def GsR (b : ByteArray) (w w' : World) (e : Ending) : Prop := (∃ sl en, e = .returned (stV (gs b) sl en) ∧ StAt w' (gs b) sl en) ∧ Below w.heap.size w w'
abbrev stZl : List Value := [.string { data := #[] }, .int .i64 0, .int .i64 0, .slice none 0 0, .slice none 0 0]
theorem guess_parts (b : ByteArray) (hs : b.size ≤ 70000) : ∃ (N K E p10 p11 p12 : Nat) (T y1 y2 y3 y5 y6 : ByteArray) (c c0 n m : Int), (∀ W : World, Calls Tryz.prog 181 #[.string b, .int .i64 1, .int .i64 5] W fun e w' => e = .returned (.string y1) ∧ w' = W) ∧ (∀ W : World, Calls Tryz.prog 149 #[.string y1] W fun e w' => e = .returned (.int .i64 c0) ∧ w' = W) ∧ IntKind.i64.wrap (c0 - 1) = c ∧ (∀ W : World, Calls Tryz.prog 181 #[.string b, .int .i64 6, .int .i64 2] W fun e w' => e = .returned (.string y2) ∧ w' = W) ∧ (∀ W : World, Calls Tryz.prog 149 #[.string y2] W fun e w' => e = .returned (.int .i64 n) ∧ w' = W) ∧ (∀ W : World, Calls Tryz.prog 181 #[.string b, .int .i64 8, .int .i64 2] W fun e w' => e = .returned (.string y3) ∧ w' = W) ∧ (∀ W : World, Calls Tryz.prog 149 #[.string y3] W fun e w' => e = .returned (.int .i64 m) ∧ w' = W) ∧ (300 < m → N = 0) ∧ (¬ 300 < m → m = (N : Int)) ∧ (∀ W : World, Calls Tryz.prog 181 #[.string b, .int .i64 10, .int .i64 (N : Int)] W fun e w' => e = .returned (.string T) ∧ w' = W) ∧ IntKind.i64.wrap (10 + (N : Int)) = (p10 : Int) ∧ (∀ W : World, Calls Tryz.prog 181 #[.string b, .int .i64 (p10 : Int), .int .i64 1] W fun e w' => e = .returned (.string y5) ∧ w' = W) ∧ (∀ W : World, Calls Tryz.prog 149 #[.string y5] W fun e w' => e = .returned (.int .i64 (K : Int)) ∧ w' = W) ∧ IntKind.i64.wrap ((p10 : Int) + 1) = (p11 : Int) ∧ K ≤ 255 ∧ p11 ≤ 400 ∧ (∀ W : World, Calls Tryz.prog 181 #[.string b, .int .i64 ((p11 + 15 * K : Nat) : Int), .int .i64 1] W fun e w' => e = .returned (.string y6) ∧ w' = W) ∧ (∀ W : World, Calls Tryz.prog 149 #[.string y6] W fun e w' => e = .returned (.int .i64 (E : Int)) ∧ w' = W) ∧ E ≤ 255 ∧ IntKind.i64.wrap (((p11 + 15 * K : Nat) : Int) + 1) = (p12 : Int) ∧ p12 ≤ 5000 ∧ p12 = p11 + 15 * K + 1 ∧ gs b = ⟨T, c, n, gsSls b p11 K, gsEns b p12 E⟩ := by
 have hN300 := gsN_le b
 have hK255 := gsK_le b
 have hE255 := gsE_le b
 have e5 : numAt b (10 + gsN b) 1 = ((gsK b : Nat) : Int) := by have := (numAt_bd b (10 + gsN b) 1 (by decide)).1; unfold gsK; omega
 have e6 : numAt b (11 + gsN b + 15 * gsK b) 1 = ((gsE b : Nat) : Int) := by have := (numAt_bd b (11 + gsN b + 15 * gsK b) 1 (by decide)).1; unfold gsE; omega
 have h5 := numAt_bd b 1 5 (by decide)
 have h8 := numAt_bd b 8 2 (by decide)
 refine ⟨gsN b, gsK b, gsE b, 10 + gsN b, 11 + gsN b, 12 + gsN b + 15 * gsK b, partK b 10 (gsN b), partK b 1 5, partK b 6 2, partK b 8 2, partK b (10 + gsN b) 1, partK b (11 + gsN b + 15 * gsK b) 1, numAt b 1 5 - 1, numAt b 1 5, numAt b 6 2, numAt b 8 2,
  fun W => part_any b 1 5 W (by omega) (by decide) (by decide), fun W => nm_w b _ _ (by decide) W, by rw [IntKind.wrap_i64]; omega, fun W => part_any b 6 2 W (by omega) (by decide) (by decide), fun W => nm_w b _ _ (by decide) W, fun W => part_any b 8 2 W (by omega) (by decide) (by decide), fun W => nm_w b _ _ (by decide) W,
  fun h => by unfold gsN; rw [if_pos h], fun h => by unfold gsN; rw [if_neg h]; omega, fun W => part_any b 10 (gsN b) W (by omega) (by decide) (by omega), by rw [IntKind.wrap_i64]; omega, fun W => part_any b (10 + gsN b) 1 W (by omega) (by omega) (by decide), fun W => by rw [← e5]; exact nm_w b _ _ (by decide) W,
  by rw [IntKind.wrap_i64]; omega, hK255, by omega, fun W => part_any b (11 + gsN b + 15 * gsK b) 1 W (by omega) (by omega) (by decide), fun W => by rw [← e6]; exact nm_w b _ _ (by decide) W, hE255, by rw [IntKind.wrap_i64]; omega, by omega, by omega, rfl⟩
set_option maxRecDepth 10000 in
set_option maxHeartbeats 8000000 in
theorem guess_any (b : ByteArray) (w : World) (hs : b.size ≤ 70000) : Calls Tryz.prog 150 #[.string b] w fun e w' => GsR b w w' e := by
 obtain ⟨i0, hi, hz0, hz1, hz2⟩ := info_parts infoSlot
 obtain ⟨j0, hj, hy0, hy1, hy2⟩ := info_parts infoEnd
 obtain ⟨N, K, E, p10, p11, p12, T, y1, y2, y3, y5, y6, c, c0, n, m, HP1, HN1, qc, HP2, HN2, HP3, HN3, Hhn0, Hhn1, HP4, q10, HP5, HN5, q11, hK, h11, HP6, HN6, hE, q12, h12, E12, HG⟩ := guess_parts b hs
 have P1 : Hid (∀ W : World, Calls Tryz.prog 181 #[.string b, .int .i64 1, .int .i64 5] W fun e w' => e = .returned (.string y1) ∧ w' = W) := HP1
 clear HP1
 have N1 : Hid (∀ W : World, Calls Tryz.prog 149 #[.string y1] W fun e w' => e = .returned (.int .i64 c0) ∧ w' = W) := HN1
 clear HN1
 have P2 : Hid (∀ W : World, Calls Tryz.prog 181 #[.string b, .int .i64 6, .int .i64 2] W fun e w' => e = .returned (.string y2) ∧ w' = W) := HP2
 clear HP2
 have N2 : Hid (∀ W : World, Calls Tryz.prog 149 #[.string y2] W fun e w' => e = .returned (.int .i64 n) ∧ w' = W) := HN2
 clear HN2
 have P3 : Hid (∀ W : World, Calls Tryz.prog 181 #[.string b, .int .i64 8, .int .i64 2] W fun e w' => e = .returned (.string y3) ∧ w' = W) := HP3
 clear HP3
 have N3 : Hid (∀ W : World, Calls Tryz.prog 149 #[.string y3] W fun e w' => e = .returned (.int .i64 m) ∧ w' = W) := HN3
 clear HN3
 have HN0 : Hid (300 < m → N = 0) := Hhn0
 clear Hhn0
 have HN1 : Hid (¬ 300 < m → m = (N : Int)) := Hhn1
 clear Hhn1
 have P4 : Hid (∀ W : World, Calls Tryz.prog 181 #[.string b, .int .i64 10, .int .i64 (N : Int)] W fun e w' => e = .returned (.string T) ∧ w' = W) := HP4
 clear HP4
 have P5 : Hid (∀ W : World, Calls Tryz.prog 181 #[.string b, .int .i64 (p10 : Int), .int .i64 1] W fun e w' => e = .returned (.string y5) ∧ w' = W) := HP5
 clear HP5
 have N5 : Hid (∀ W : World, Calls Tryz.prog 149 #[.string y5] W fun e w' => e = .returned (.int .i64 (K : Int)) ∧ w' = W) := HN5
 clear HN5
 have P6 : Hid (∀ W : World, Calls Tryz.prog 181 #[.string b, .int .i64 ((p11 + 15 * K : Nat) : Int), .int .i64 1] W fun e w' => e = .returned (.string y6) ∧ w' = W) := HP6
 clear HP6
 have N6 : Hid (∀ W : World, Calls Tryz.prog 149 #[.string y6] W fun e w' => e = .returned (.int .i64 (E : Int)) ∧ w' = W) := HN6
 clear HN6
 have HE12 : Hid (p12 = p11 + 15 * K + 1) := E12
 clear E12
 have HGs : Hid (gs b = ⟨T, c, n, gsSls b p11 K, gsEns b p12 E⟩) := HG
 clear HG
 have hb0 := below_alloc w (stO stZ nilV nilV)
 have hz := Cl.new w stZl 104
 go_enter Tryz.func150, Tryz.ntmps150
 go_upto_region 1 with fail
 have hz' : Cl (w.alloc (stO stZ nilV nilV)) w.heap.size 104 stZl := hz
 clear hz
 generalize w.alloc (stO stZ nilV nilV) = W0 at *
 have HZ0 : Hid (Cl W0 w.heap.size 104 stZl) := hz'
 have HB0 : Hid (Below w.heap.size w W0) := hb0
 have hlt0 := hz'.ty.lt
 clear hz' hb0
 have hs1 := Cl.new W0 [.string { data := #[] }, .int .i64 c, .int .i64 n, .slice none 0 0, .slice none 0 0] 104
 have hb1 := below_alloc W0 (.cells #[.string { data := #[] }, .int .i64 c, .int .i64 n, .slice none 0 0, .slice none 0 0] 104)
 go_wp2_with fail
 refine (P1.out _).mono ?_
 rintro e w1 ⟨rfl, hw⟩
 have hv := hw.symm
 subst hv
 clear hw
 go_wp2_with fail
 refine (N1.out _).mono ?_
 rintro e w1 ⟨rfl, hw⟩
 have hv := hw.symm
 subst hv
 clear hw
 go_wp2_with fail
 refine (P2.out _).mono ?_
 rintro e w1 ⟨rfl, hw⟩
 have hv := hw.symm
 subst hv
 clear hw
 go_wp2_with fail
 refine (N2.out _).mono ?_
 rintro e w1 ⟨rfl, hw⟩
 have hv := hw.symm
 subst hv
 clear hw
 go_upto_region 2 with fail
 have hs' : Cl (W0.alloc (.cells #[.string { data := #[] }, .int .i64 c, .int .i64 n, .slice none 0 0, .slice none 0 0] 104)) W0.heap.size 104 [.string { data := #[] }, .int .i64 c, .int .i64 n, .slice none 0 0, .slice none 0 0] := hs1
 clear hs1
 generalize W0.alloc (.cells #[.string { data := #[] }, .int .i64 c, .int .i64 n, .slice none 0 0, .slice none 0 0] 104) = W1 at *
 have hRq : w.heap.size < W0.heap.size := hlt0
 have HZ1 : Hid (Cl W1 w.heap.size 104 stZl) := HZ0.out.later hb1
 have HB1 : Hid (Below w.heap.size w W1) := HB0.out.trans (hb1.mono HB0.out.size)
 generalize W0.heap.size = q at *
 have HS1 : Hid (Cl W1 q 104 [.string { data := #[] }, .int .i64 c, .int .i64 n, .slice none 0 0, .slice none 0 0]) := hs'
 clear hs' hb1 HZ0 HB0 hlt0
 go_wp2_with fail
 refine (P3.out _).mono ?_
 rintro e w1 ⟨rfl, hw⟩
 have hv := hw.symm
 subst hv
 clear hw
 go_wp2_with fail
 refine (N3.out _).mono ?_
 rintro e w1 ⟨rfl, hw⟩
 have hv := hw.symm
 subst hv
 clear hw
 go_upto_region 3 with fail
 have hS := HS1.out
 have e0 := hS.c 0 _ rfl
 have f0 := hS.f 0 (by simp)
 have hqW := hS.ty.lt
 clear hS
 go_upto_if 23 with fail
 go_cut [4] from 22 to 23 (fun n4 wx => n4 = .int .i64 (N : Int) ∧ wx = W1)
 case first =>
  by_cases h3 : 300 < m
  ·have hN0 : Hid (N = 0) := HN0.out h3
   go_wp2_with fail
   go_meet
   exact ⟨by rw [hN0.out]; rfl, rfl⟩
  ·have hN1 : Hid (m = (N : Int)) := HN1.out (by omega)
   go_wp2_with fail
   go_meet
   exact ⟨by rw [hN1.out], rfl⟩
 case rest =>
  obtain ⟨rfl, hcw⟩ := hcut
  have hcw2 := hcw.symm
  subst hcw2
  clear hcw
  go_wp2_with fail
  refine (P4.out _).mono ?_
  rintro e w1 ⟨rfl, hw⟩
  have hv := hw.symm
  subst hv
  clear hw
  go_upto_region 7 with fail
  have HS2 : Hid (Cl (W1.setCell ⟨q, 0, none⟩ (.string T)) q 104 [.string T, .int .i64 c, .int .i64 n, .slice none 0 0, .slice none 0 0]) := HS1.out.set 0 (by simp) _
  have HZ2 : Hid (Cl (W1.setCell ⟨q, 0, none⟩ (.string T)) w.heap.size 104 stZl) := HZ1.out.far (Nat.ne_of_lt hRq) _ _
  have HB2 : Hid (Below w.heap.size w (W1.setCell ⟨q, 0, none⟩ (.string T))) := HB1.out.setCell (Nat.le_of_lt hRq) _
  clear e0 f0 hqW HS1 HZ1 HB1
  generalize W1.setCell ⟨q, 0, none⟩ (.string T) = W at *
  go_wp2_with fail
  refine (P5.out _).mono ?_
  rintro e w1 ⟨rfl, hw⟩
  have hv := hw.symm
  subst hv
  clear hw
  go_wp2_with fail
  refine (N5.out _).mono ?_
  rintro e w1 ⟨rfl, hw⟩
  have hv := hw.symm
  subst hv
  clear hw
  go_wp2_with fail
  go_loopw [5, 7] (fun a i wr => ∃ (k : Nat) (v : Value), k ≤ K ∧ a = .int .i64 ((p11 + 15 * k : Nat) : Int) ∧ i = .int .i64 k ∧ Cl wr q 104 [.string T, .int .i64 c, .int .i64 n, v, .slice none 0 0] ∧ wr.ownsRow W.heap.size 167 6 v (gsSls b p11 k).length ((gsSls b p11 k).flatMap slC) ∧ W.grownBy wr (some q)) (fun _ i _ => K - (intOf i).toNat)
  case atStart => exact ⟨0, _, Nat.zero_le _, rfl, rfl, HS2.out, World.ownsRow_nil _ _ _ _, grow_of_below (Below.refl _ _) _⟩
  case round =>
   obtain ⟨k, v, hk, rfl, rfl, hCl, hown, hgr⟩ := hrel
   have HGr : Hid (W.grownBy wr (some q)) := hgr
   have HCl : Hid (Cl wr q 104 [.string T, .int .i64 c, .int .i64 n, v, .slice none 0 0]) := hCl
   have hqr := hCl.ty.lt
   have hszr := hgr.size
   have hqW := HS2.out.ty.lt
   obtain ⟨ad, cap, hv, _⟩ := (RowAt.of_own hown).form
   subst hv
   have HOw : Hid (wr.ownsRow W.heap.size 167 6 _ _ _) := hown
   clear hCl hgr hown
   by_cases hlt : k < K
   ·have hn : (gsSls b p11 k).length ≤ 10000 := by rw [gsSls_len]; omega
    obtain ⟨p, hp⟩ : ∃ p : Nat, p = p11 + 15 * k := ⟨_, rfl⟩
    have hp9 : p ≤ 90000 := by omega
    have HNx : Hid (((p11 + 15 * (k + 1) : Nat) : Int) = (p : Int) + 15) := by unfold Hid; rw [hp]; omega
    have HF0 : Hid (∀ x, x = gsSl b p → gsSls b p11 (k + 1) = gsSls b p11 k ++ [x]) := fun x e => by rw [gsSls_succ, e, hp]
    rw [← hp]
    clear hp
    have hki : (k : Int) < (K : Int) := by omega
    obtain ⟨z1, z2, z3, z4, z5, z6, x, hx, A1, B1, A2, B2, A3, B3, A4, B4, A5, B5, A6, e6⟩ := slot_parts b p (by omega) hp9
    have HF : Hid (gsSls b p11 (k + 1) = gsSls b p11 k ++ [x]) := HF0.out x hx
    clear hx HF0
    have C1 : Hid (∀ W : World, Calls Tryz.prog 181 #[.string b, .int .i64 (p : Int), .int .i64 2] W fun e w' => e = .returned (.string z1) ∧ w' = W) := A1
    have D1 : Hid (∀ W : World, Calls Tryz.prog 149 #[.string z1] W fun e w' => e = .returned (.int .i64 x.num) ∧ w' = W) := B1
    have C2 : Hid (∀ W : World, Calls Tryz.prog 181 #[.string b, .int .i64 ((p : Int) + 2), .int .i64 1] W fun e w' => e = .returned (.string z2) ∧ w' = W) := A2
    have D2 : Hid (∀ W : World, Calls Tryz.prog 149 #[.string z2] W fun e w' => e = .returned (.int .i64 x.line) ∧ w' = W) := B2
    have C3 : Hid (∀ W : World, Calls Tryz.prog 181 #[.string b, .int .i64 ((p : Int) + 3), .int .i64 5] W fun e w' => e = .returned (.string z3) ∧ w' = W) := A3
    have D3 : Hid (∀ W : World, Calls Tryz.prog 149 #[.string z3] W fun e w' => e = .returned (.int .i64 x.minute) ∧ w' = W) := B3
    have C4 : Hid (∀ W : World, Calls Tryz.prog 181 #[.string b, .int .i64 ((p : Int) + 8), .int .i64 1] W fun e w' => e = .returned (.string z4) ∧ w' = W) := A4
    have D4 : Hid (∀ W : World, Calls Tryz.prog 149 #[.string z4] W fun e w' => e = .returned (.int .i64 x.att) ∧ w' = W) := B4
    have C5 : Hid (∀ W : World, Calls Tryz.prog 181 #[.string b, .int .i64 ((p : Int) + 9), .int .i64 5] W fun e w' => e = .returned (.string z5) ∧ w' = W) := A5
    have D5 : Hid (∀ W : World, Calls Tryz.prog 149 #[.string z5] W fun e w' => e = .returned (.int .i64 x.frm) ∧ w' = W) := B5
    have C6 : Hid (∀ W : World, Calls Tryz.prog 181 #[.string b, .int .i64 ((p : Int) + 14), .int .i64 1] W fun e w' => e = .returned (.string z6) ∧ w' = W) := A6
    clear A1 B1 A2 B2 A3 B3 A4 B4 A5 B5 A6
    have w2 : IntKind.i64.wrap ((p : Int) + 2) = (p : Int) + 2 := by rw [IntKind.wrap_i64]; omega
    have w3 : IntKind.i64.wrap ((p : Int) + 3) = (p : Int) + 3 := by rw [IntKind.wrap_i64]; omega
    have w8 : IntKind.i64.wrap ((p : Int) + 8) = (p : Int) + 8 := by rw [IntKind.wrap_i64]; omega
    have w9 : IntKind.i64.wrap ((p : Int) + 9) = (p : Int) + 9 := by rw [IntKind.wrap_i64]; omega
    have w14 : IntKind.i64.wrap ((p : Int) + 14) = (p : Int) + 14 := by rw [IntKind.wrap_i64]; omega
    have w15 : IntKind.i64.wrap ((p : Int) + 15) = (p : Int) + 15 := by rw [IntKind.wrap_i64]; omega
    generalize gsSls b p11 k = L at *
    go_wp2_with fail
    refine (C1.out _).mono ?_
    rintro e w1 ⟨rfl, hw⟩
    have hv := hw.symm
    subst hv
    clear hw
    go_wp2_with fail
    refine (D1.out _).mono ?_
    rintro e w1 ⟨rfl, hw⟩
    have hv := hw.symm
    subst hv
    clear hw
    go_wp2_with fail
    refine (C2.out _).mono ?_
    rintro e w1 ⟨rfl, hw⟩
    have hv := hw.symm
    subst hv
    clear hw
    go_wp2_with fail
    refine (D2.out _).mono ?_
    rintro e w1 ⟨rfl, hw⟩
    have hv := hw.symm
    subst hv
    clear hw
    go_wp2_with fail
    refine (C3.out _).mono ?_
    rintro e w1 ⟨rfl, hw⟩
    have hv := hw.symm
    subst hv
    clear hw
    go_wp2_with fail
    refine (D3.out _).mono ?_
    rintro e w1 ⟨rfl, hw⟩
    have hv := hw.symm
    subst hv
    clear hw
    go_wp2_with fail
    refine (C4.out _).mono ?_
    rintro e w1 ⟨rfl, hw⟩
    have hv := hw.symm
    subst hv
    clear hw
    go_wp2_with fail
    refine (D4.out _).mono ?_
    rintro e w1 ⟨rfl, hw⟩
    have hv := hw.symm
    subst hv
    clear hw
    go_wp2_with fail
    refine (C5.out _).mono ?_
    rintro e w1 ⟨rfl, hw⟩
    have hv := hw.symm
    subst hv
    clear hw
    go_wp2_with fail
    refine (D5.out _).mono ?_
    rintro e w1 ⟨rfl, hw⟩
    have hv := hw.symm
    subst hv
    clear hw
    have e6a : (z6.toList == [1]) = x.runs := by rw [← e6]; simp [one1, ByteArray.toList_eq]
    clear e6
    have hb3 := below_alloc wr (.cells #[.int .i64 x.num, .int .i64 x.line, .int .i64 x.minute, .int .i64 x.att, .int .i64 x.frm, .bool x.runs] 167)
    have hX := Cl.new wr [.int .i64 x.num, .int .i64 x.line, .int .i64 x.minute, .int .i64 x.att, .int .i64 x.frm, .bool x.runs] 167
    go_upto_region 13 with fail
    go_wp2_with fail
    refine (C6.out _).mono ?_
    rintro e w1 ⟨rfl, hw⟩
    have hv := hw.symm
    subst hv
    clear hw
    go_upto_region 14 with fail
    have hX' : Cl (wr.alloc (.cells #[.int .i64 x.num, .int .i64 x.line, .int .i64 x.minute, .int .i64 x.att, .int .i64 x.frm, .bool x.runs] 167)) wr.heap.size 167 [.int .i64 x.num, .int .i64 x.line, .int .i64 x.minute, .int .i64 x.att, .int .i64 x.frm, .bool x.runs] := hX
    clear hX e6a
    generalize wr.alloc (.cells #[.int .i64 x.num, .int .i64 x.line, .int .i64 x.minute, .int .i64 x.att, .int .i64 x.frm, .bool x.runs] 167) = W2 at *
    have hszx : wr.heap.size ≤ wr.heap.size := Nat.le_refl _
    have hCl2 := HCl.out.later hb3
    have hown2 := own_below HOw.out hb3
    have s5 : W2.cell? ⟨q, 3, none⟩ = some (.slice ad L.length cap) := hCl2.c 3 _ rfl
    have hq2 := hCl2.ty.lt
    have hx2 := hX'.ty.lt
    have x0 := hX'.c 0 _ rfl
    have x1 := hX'.c 1 _ rfl
    have x2 := hX'.c 2 _ rfl
    have x3 := hX'.c 3 _ rfl
    have x4 := hX'.c 4 _ rfl
    have x5 := hX'.c 5 _ rfl
    have hsz2 := hb3.size
    have HClr : Hid (Cl wr q 104 [.string T, .int .i64 c, .int .i64 n, (.slice ad L.length cap), .slice none 0 0]) := HCl.out
    clear hX' HCl HOw C1 D1 C2 D2 C3 D3 C4 D4 C5 D5 C6
    go_wp2_with (at_builtin; refine wpList_append_lies _ rfl (.tmp 73) (.tmp 75) 102 rfl W.heap.size 167 i0 (.agg #[.int .i64 0, .int .i64 0, .int .i64 0, .int .i64 0, .int .i64 0, .bool false]) 6 48 Tryz.underlying102 hi hz0 hz1 hz2 rfl (by decide) _ _ _ rfl (hown2.alloc _) ⟨W2.heap.size, 0, none⟩ 1 1 (slC x) rfl rfl (slC_new _ _ _) (slC_one _) (by decide) ?c3 ?c4 ?c5 _ rfl ?_)
    case c3 => unfold maxLen; omega
    case c4 => omega
    case c5 => simp; omega
    intro g cap1 w3 hown' hgrow _ hlt'
    have B1 : Below W.heap.size wr w3 := ((hb3.mono hszr).alloc (by omega) _).grown hgrow (by simp; omega) (fun k' e => (hown2.lt k' e).1)
    have hown3 : w3.ownsRow W.heap.size 167 6 (.slice (some ⟨g, 0, none⟩) (L.length + 1) cap1) (L ++ [x]).length ((L ++ [x]).flatMap slC) := by simpa using hown'
    have hCl3 := HClr.out.below hqW B1
    have s5 : w3.cell? ⟨q, 3, none⟩ = some (.slice ad L.length cap) := hCl3.c 3 _ rfl
    have f5 := hCl3.f 3 (by simp)
    have hq3 := hCl3.ty.lt
    have HG3 : Hid (W.grownBy (w3.setCell ⟨q, 3, none⟩ (.slice (some ⟨g, 0, none⟩) (L.length + 1) cap1)) (some q)) := grow_set (ggrow_below HGr.out B1 (by have := B1.size; omega)) _ _
    have HC3 : Hid (Cl (w3.setCell ⟨q, 3, none⟩ (.slice (some ⟨g, 0, none⟩) (L.length + 1) cap1)) q 104 [.string T, .int .i64 c, .int .i64 n, (.slice (some ⟨g, 0, none⟩) (L.length + 1) cap1), .slice none 0 0]) := hCl3.set 3 (by simp) _
    have HO3 : Hid ((w3.setCell ⟨q, 3, none⟩ (.slice (some ⟨g, 0, none⟩) (L.length + 1) cap1)).ownsRow _ _ _ _ _ _) := ownsRow_setCell_below hown3 (a := ⟨q, 3, none⟩) hqW (.slice (some ⟨g, 0, none⟩) (L.length + 1) cap1)
    clear hown' hgrow hown2 hown3 hCl2 hCl3 x0 x1 x2 x3 x4 x5 B1
    go_wp2_with fail
    go_roundw
    case rel => exact ⟨k + 1, _, by omega, by rw [HNx.out], by go_num, HC3.out, by rw [HF.out]; exact HO3.out, HG3.out⟩
    case measure => simp [intOf]; omega
   ·obtain rfl : k = K := by omega
    have hTs := TRow.of_own HOw.out
    have HTs2 : Hid (TRow wr 167 (.slice ad (gsSls b p11 k).length cap) (gsSls b p11 k).length ((gsSls b p11 k).flatMap slC)) := hTs
    clear hTs HOw
    have HZ3 : Hid (Cl wr w.heap.size 104 stZl) := HZ2.out.grow HGr.out (Nat.ne_of_lt hRq)
    have HB3 : Hid (Below w.heap.size w wr) := gbelow_grow HB2.out HGr.out (Nat.le_of_lt hRq)
    generalize gsSls b p11 k = SL at *
    have HSWB : Hid (Cl wr q 104 [.string T, .int .i64 c, .int .i64 n, (.slice ad SL.length cap), .slice none 0 0]) := HCl.out
    have HTqWB : Hid (Typed wr q 104) := HCl.out.ty
    have hqWWB := hqr
    clear HCl HGr HS2 HZ2 HB2 hqW hszr hqr
    rename World => WB
    rename Option Addr => ad1
    obtain ⟨capA, hc1⟩ : ∃ c, c = cap := ⟨_, rfl⟩
    subst hc1
    go_wp2_with fail
    refine (P6.out _).mono ?_
    rintro e w1 ⟨rfl, hw⟩
    have hv := hw.symm
    subst hv
    clear hw
    go_wp2_with fail
    refine (N6.out _).mono ?_
    rintro e w1 ⟨rfl, hw⟩
    have hv := hw.symm
    subst hv
    clear hw
    go_wp2_with fail
    go_loopw [5, 10] (fun a i wr => ∃ (k : Nat) (v : Value), k ≤ E ∧ a = .int .i64 ((p12 + 3 * k : Nat) : Int) ∧ i = .int .i64 k ∧ Cl wr q 104 [.string T, .int .i64 c, .int .i64 n, (.slice ad1 SL.length capA), v] ∧ wr.ownsRow WB.heap.size 95 2 v (gsEns b p12 k).length ((gsEns b p12 k).flatMap enC) ∧ WB.grownBy wr (some q)) (fun _ i _ => E - (intOf i).toNat)
    case atStart => exact ⟨0, _, Nat.zero_le _, congrArg (Value.int .i64) (by have := HE12.out; omega), rfl, HSWB.out, World.ownsRow_nil _ _ _ _, grow_of_below (Below.refl _ _) _⟩
    case round =>
     obtain ⟨j, v, hk, rfl, rfl, hCl, hown, hgr⟩ := hrel
     have HGr : Hid (WB.grownBy wr (some q)) := hgr
     have HCl : Hid (Cl wr q 104 [.string T, .int .i64 c, .int .i64 n, (.slice ad1 SL.length capA), v]) := hCl
     have hqr := hCl.ty.lt
     have hszr := hgr.size
     obtain ⟨ad, cap, hv, _⟩ := (RowAt.of_own hown).form
     subst hv
     have HOw : Hid (wr.ownsRow WB.heap.size 95 2 _ _ _) := hown
     clear hCl hgr hown
     by_cases hlt : j < E
     ·have hn : (gsEns b p12 j).length ≤ 10000 := by rw [gsEns_len]; omega
      obtain ⟨p, hp⟩ : ∃ p : Nat, p = p12 + 3 * j := ⟨_, rfl⟩
      have hp9 : p ≤ 90000 := by omega
      have HNx : Hid (((p12 + 3 * (j + 1) : Nat) : Int) = (p : Int) + 3) := by unfold Hid; rw [hp]; omega
      have HF0 : Hid (∀ x, x = gsEn b p → gsEns b p12 (j + 1) = gsEns b p12 j ++ [x]) := fun x e => by rw [gsEns_succ, e, hp]
      rw [← hp]
      clear hp
      have hki : (j : Int) < (E : Int) := by omega
      obtain ⟨z1, x, hx, A1, B1, A2⟩ := end_parts b p (by omega) hp9
      have HF : Hid (gsEns b p12 (j + 1) = gsEns b p12 j ++ [x]) := HF0.out x hx
      clear hx HF0
      have C1 : Hid (∀ W : World, Calls Tryz.prog 181 #[.string b, .int .i64 (p : Int), .int .i64 2] W fun e w' => e = .returned (.string z1) ∧ w' = W) := A1
      have D1 : Hid (∀ W : World, Calls Tryz.prog 149 #[.string z1] W fun e w' => e = .returned (.int .i64 x.num) ∧ w' = W) := B1
      have C2 : Hid (∀ W : World, Calls Tryz.prog 181 #[.string b, .int .i64 ((p : Int) + 2), .int .i64 1] W fun e w' => e = .returned (.string x.how) ∧ w' = W) := A2
      clear A1 B1 A2
      have w2 : IntKind.i64.wrap ((p : Int) + 2) = (p : Int) + 2 := by rw [IntKind.wrap_i64]; omega
      have w3 : IntKind.i64.wrap ((p : Int) + 3) = (p : Int) + 3 := by rw [IntKind.wrap_i64]; omega
      generalize gsEns b p12 j = L at *
      have s5 : wr.cell? ⟨q, 4, none⟩ = some (.slice ad L.length cap) := HCl.out.c 4 _ rfl
      have a63 : L.length + 1 ≤ maxLen := by unfold maxLen; omega
      have a24 : (L.length + 1) * 24 ≤ 140737488355328 := by omega
      go_upto_region 21 with fail
      go_cut [] from 91 to 104 (fun wx => ∃ (g cap1 : Nat) (w3 : World), wx = w3.setCell ⟨q, 4, none⟩ (.slice (some ⟨g, 0, none⟩) (L.length + 1) cap1) ∧ Below WB.heap.size wr w3 ∧ w3.ownsRow WB.heap.size 95 2 (.slice (some ⟨g, 0, none⟩) (L.length + 1) cap1) (L ++ [x]).length ((L ++ [x]).flatMap enC))
      case first =>
       go_region_law ((first
        | (refine step_append_lies _ rfl (.tmp 92) (.tmp 102) 63 rfl WB.heap.size 95 j0 (.agg #[.int .i64 0, .string ByteArray.empty]) 2 24 Tryz.underlying63 hj hy0 hy1 hy2 rfl (by decide) (.slice ad L.length cap) _ _ rfl (World.ownsRow.drew (HOw.out.alloc _)) ⟨wr.heap.size, 0, none⟩ 1 1 (enC x) rfl rfl (fun j u hj => enC_new wr x _ j u hj) (enC_one _) (by decide) a63 a24 (by show WB.heap.size ≤ (wr.alloc _).heap.size; simp; omega) _ rfl ?_; intro g cap1 w3 hown' hgrow _ hlt'; have hB1 : Below WB.heap.size wr w3 := (((Below.refl WB.heap.size wr).alloc hszr _).drew).grown hgrow (by show WB.heap.size ≤ (wr.alloc _).heap.size; simp; omega) (fun k' e => (HOw.out.lt k' e).1); have hCl3 := HCl.out.below hqWWB hB1; have s6 : w3.cell? ⟨q, 4, none⟩ = some (.slice ad L.length cap) := hCl3.c 4 _ rfl; have f6 := hCl3.f 4 (by simp); have hq3 := hCl3.ty.lt)
        | (go_simp; go_at_call 149; with_reducible refine (D1.out _).mono ?_; rintro e v2 ⟨rfl, rfl⟩)
        | (go_simp; go_at_call 181; with_reducible refine (C1.out _).mono ?_; rintro e v1 ⟨rfl, rfl⟩)
        | (go_simp; go_at_call 181; with_reducible refine (C2.out _).mono ?_; rintro e v1 ⟨rfl, rfl⟩)))
       all_goals
        have hown3 : w3.ownsRow WB.heap.size 95 2 (.slice (some ⟨g, 0, none⟩) (L.length + 1) cap1) (L ++ [x]).length ((L ++ [x]).flatMap enC) := by simpa using hown'
        have HO3 : Hid (Below WB.heap.size wr w3 ∧ w3.ownsRow WB.heap.size 95 2 (.slice (some ⟨g, 0, none⟩) (L.length + 1) cap1) (L ++ [x]).length ((L ++ [x]).flatMap enC)) := ⟨hB1, hown3⟩
        clear hown' hgrow hown3
        go_wp2_with fail
        go_meet
        exact ⟨g, cap1, w3, rfl, HO3.out.1, HO3.out.2⟩
      case rest =>
       obtain ⟨g, cap1, w3, hwx, hB1, hown3⟩ := hcut
       have hwx2 := hwx.symm
       subst hwx2
       clear hwx
       have hCl3 := HCl.out.below hqWWB hB1
       have HG3 : Hid (WB.grownBy (w3.setCell ⟨q, 4, none⟩ (.slice (some ⟨g, 0, none⟩) (L.length + 1) cap1)) (some q)) := grow_set (ggrow_below HGr.out hB1 (by have := hB1.size; omega)) _ _
       have HC3 : Hid (Cl (w3.setCell ⟨q, 4, none⟩ (.slice (some ⟨g, 0, none⟩) (L.length + 1) cap1)) q 104 [.string T, .int .i64 c, .int .i64 n, (.slice ad1 SL.length capA), (.slice (some ⟨g, 0, none⟩) (L.length + 1) cap1)]) := hCl3.set 4 (by simp) _
       have HO3 : Hid ((w3.setCell ⟨q, 4, none⟩ (.slice (some ⟨g, 0, none⟩) (L.length + 1) cap1)).ownsRow _ _ _ _ _ _) := ownsRow_setCell_below hown3 (a := ⟨q, 4, none⟩) hqWWB (.slice (some ⟨g, 0, none⟩) (L.length + 1) cap1)
       clear hown3 hCl3 hB1 s5
       go_wp2_with fail
       go_roundw
       case rel => exact ⟨j + 1, _, by omega, by rw [HNx.out], by go_num, HC3.out, by rw [HF.out]; exact HO3.out, HG3.out⟩
       case measure => simp [intOf]; omega
     ·obtain rfl : j = E := by omega
      have hTe := TRow.of_own HOw.out
      have HTe : Hid (TRow wr 95 (.slice ad (gsEns b p12 j).length cap) (gsEns b p12 j).length ((gsEns b p12 j).flatMap enC)) := hTe
      have HTs : Hid (TRow wr 167 (.slice ad1 SL.length capA) SL.length (SL.flatMap slC)) := HTs2.out.grow' HGr.out HTqWB.out (by decide)
      clear hTe HOw
      generalize gsEns b p12 j = EN at *
      have hZr := HZ3.out.grow HGr.out (Nat.ne_of_lt hRq)
      have HTz : Hid (Typed wr w.heap.size 104) := hZr.ty
      have HBr : Hid (Below w.heap.size w wr) := gbelow_grow HB3.out HGr.out (Nat.le_of_lt hRq)
      have hC := HCl.out
      have HA : Hid (StAt wr ⟨T, c, n, SL, EN⟩ (.slice ad1 SL.length capA) (.slice ad EN.length cap)) := ⟨HTs.out, HTe.out⟩
      have s0 := hC.c 0 _ rfl
      have r0 := hZr.c 0 _ rfl
      have f0 := hZr.f 0 (by simp)
      have s1 := hC.c 1 _ rfl
      have r1 := hZr.c 1 _ rfl
      have f1 := hZr.f 1 (by simp)
      have s2 := hC.c 2 _ rfl
      have r2 := hZr.c 2 _ rfl
      have f2 := hZr.f 2 (by simp)
      have s3 := hC.c 3 _ rfl
      have r3 := hZr.c 3 _ rfl
      have f3 := hZr.f 3 (by simp)
      have s4 := hC.c 4 _ rfl
      have r4 := hZr.c 4 _ rfl
      have f4 := hZr.f 4 (by simp)
      have hR7 := hZr.ty.lt
      clear hC hZr HCl HGr HZ3 HB3 HTs2 HSWB HTqWB HTs HTe
      go_wp2_with fail
      refine bodyPost_ret (v := stV ⟨T, c, n, SL, EN⟩ (.slice ad1 SL.length capA) (.slice ad EN.length cap)) (by simp [results, Tryz.results150, go_sem, r0, r1, r2, r3, r4]) rfl ?_
      unfold GsR
      rw [HGs.out]
      exact ⟨⟨_, _, rfl, HA.out.store HTz.out _ _ _ _ _⟩, below_set5 HBr.out (Nat.le_refl _) _ _ _ _ _⟩
end Go.Proofs.YtdajolpoiffimaaGreatDoor

namespace Go.Proofs.YtdajolpoiffimaaGreatDoor
open Go.RowKit

set_option maxRecDepth 10000 in
set_option maxHeartbeats 4000000 in
theorem smay_any (s : Bx.St) (sl en : Value) (w : World) (hG : GsOk s) (hS : StAt w s sl en) :
 Calls Tryz.prog 151 #[stV s sl en] w fun e w' => e = .returned (.bool (mayD s)) ∧ Below w.heap.size w w' := by
 obtain ⟨ad, cap, rfl, hcap⟩ := hS.sl.form
 obtain ⟨ad2, cap2, rfl, hcap2⟩ := hS.en.form
 have hb0 := below_alloc w (stO s (.slice ad s.slots.length cap) (.slice ad2 s.ends.length cap2))
 have hI := StIn.new w s (.slice ad s.slots.length cap) (.slice ad2 s.ends.length cap2)
 have HS0 : Hid (StAt (w.alloc (stO s (.slice ad s.slots.length cap) (.slice ad2 s.ends.length cap2))) s (.slice ad s.slots.length cap) (.slice ad2 s.ends.length cap2)) := hS.later hb0
 have HG : Hid (GsOk s) := hG
 have g1 := hG.t
 have g2 := hG.sl
 have g3 := hG.en
 clear hS hG
 go_enter Tryz.func151, Tryz.ntmps151
 go_upto_region 1 with fail
 have hI' : StIn (w.alloc (stO s (.slice ad s.slots.length cap) (.slice ad2 s.ends.length cap2))) w.heap.size s (.slice ad s.slots.length cap) (.slice ad2 s.ends.length cap2) := hI
 clear hI
 generalize w.alloc (stO s (.slice ad s.slots.length cap) (.slice ad2 s.ends.length cap2)) = W at *
 have HB : Hid (Below w.heap.size w W) := hb0
 have HI : Hid (StIn W w.heap.size s (.slice ad s.slots.length cap) (.slice ad2 s.ends.length cap2)) := hI'
 obtain ⟨c0, c1, c2, c3, c4⟩ := hI'
 clear hb0
 go_wp2_with fail
 refine (rcheck_any s.tab _ (by unfold maxLen; omega)).mono ?_
 rintro e w1 ⟨⟨a, r, rfl, hCk, hr0⟩, hb1⟩
 have HB1 : Hid (Below w.heap.size w w1) := HB.out.trans (hb1.mono HB.out.size)
 have HI1 : Hid (StIn w1 w.heap.size s (.slice ad s.slots.length cap) (.slice ad2 s.ends.length cap2)) := HI.out.later hb1
 have HS1 : Hid (StAt w1 s (.slice ad s.slots.length cap) (.slice ad2 s.ends.length cap2)) := HS0.out.later hb1
 obtain ⟨d0, d1, d2, d3, d4⟩ := HI1.out
 have HCk : Hid (ChkR s.tab a r) := hCk
 clear c0 c1 c2 c3 c4 hCk hb1 HB HI HS0
 by_cases k1 : r = 0
 rotate_left
 ·have HM : Hid (mayD s = false) := mayD_no fun h => k1 (h.tab.uniq HCk.out).2.symm
  have k1d : (r != 0) = true := by simpa using k1
  clear k1
  go_wp2_with fail
  go_ret
  exact ⟨ret_b HM.out.symm, HB1.out⟩
 subst k1
 have HT : Hid (ChkR s.tab 0 0) := by have := HCk.out; rwa [this.zero rfl] at this
 clear HCk hr0
 by_cases k2 : 4223371679 < s.clock
 ·have HM : Hid (mayD s = false) := mayD_no fun h => by have := h.c2; omega
  go_wp2_with fail
  go_ret
  exact ⟨ret_b HM.out.symm, HB1.out⟩
 by_cases k3 : s.next < 1
 ·have HM : Hid (mayD s = false) := mayD_no fun h => by have := h.n1; omega
  go_wp2_with fail
  go_ret
  exact ⟨ret_b HM.out.symm, HB1.out⟩
 by_cases k4 : 10000 < s.next
 ·have HM : Hid (mayD s = false) := mayD_no fun h => by have := h.n2; omega
  go_wp2_with fail
  go_ret
  exact ⟨ret_b HM.out.symm, HB1.out⟩
 by_cases k5 : (8 : Int) < (s.slots.length : Int)
 ·have HM : Hid (mayD s = false) := mayD_no fun h => by have := h.sl; omega
  go_wp2_with fail
  go_ret
  exact ⟨ret_b HM.out.symm, HB1.out⟩
 by_cases k6 : (6 : Int) < (s.ends.length : Int)
 ·have HM : Hid (mayD s = false) := mayD_no fun h => by have := h.en; omega
  go_wp2_with fail
  go_ret
  exact ⟨ret_b HM.out.symm, HB1.out⟩
 go_wp2_with fail
 refine (stlines_any s _ _ _ HT.out HS1.out).mono ?_
 rintro e w2 ⟨⟨bl, capl, rfl, hL⟩, hb2⟩
 have HB2 : Hid (Below w.heap.size w w2) := HB1.out.trans (hb2.mono HB1.out.size)
 have HI2 : Hid (StIn w2 w.heap.size s (.slice ad s.slots.length cap) (.slice ad2 s.ends.length cap2)) := HI1.out.later hb2
 have HS2 : Hid (StAt w2 s (.slice ad s.slots.length cap) (.slice ad2 s.ends.length cap2)) := HS1.out.later hb2
 have HL2 : Hid (LinesAt w2 bl s.tab) := hL
 clear d0 d1 d2 d3 d4 hL hb2 HB1 HI1 HS1
 have HALL : Hid ((∀ j (hj : j < s.slots.length), slMB s j s.slots[j] (Bx.slAt s (j - 1)) = true) → (∀ j (hj : j < s.slots.length), s.slots[j].runs = true → Bx.locked s j = false ∧ s.slots[j].frm ≤ s.clock) → (∀ j (hj : j < s.ends.length), enMB s j s.ends[j] = true) → mayD s = true) := fun A B C => mayD_yes (may_all HT.out HG.out.c.1 (by omega) (by omega) (by omega) (by omega) (by omega) (fun x hx => (HG.out.es x hx).m.1) A B fun j hj => enMB_iff.1 (C j hj))
 go_wp2_with fail
 go_loopw [6] (fun i wr => ∃ k : Nat, k ≤ s.slots.length ∧ i = .int .i64 k ∧ (∀ j (hj : j < s.slots.length), j < k → slMB s j s.slots[j] (Bx.slAt s (j - 1)) = true) ∧ Below w2.heap.size w2 wr) (fun i _ => s.slots.length - (intOf i).toNat)
 case atStart => exact ⟨0, Nat.zero_le _, rfl, fun j _ h => by omega, Below.refl _ _⟩
 case round =>
  obtain ⟨k, hk, rfl, hA, hbr⟩ := hrel
  have HA : Hid (∀ j (hj : j < s.slots.length), j < k → slMB s j s.slots[j] (Bx.slAt s (j - 1)) = true) := hA
  have HBr : Hid (Below w2.heap.size w2 wr) := hbr
  obtain ⟨d0, d1, d2, d3, d4⟩ := HI2.out.later hbr
  have HSr : Hid (StAt wr s (.slice ad s.slots.length cap) (.slice ad2 s.ends.length cap2)) := HS2.out.later hbr
  have HLr : Hid (LinesAt wr bl s.tab) := HL2.out.later hbr
  clear hA hbr
  by_cases hlt : k < s.slots.length
  ·have y2 : (k : Int) < (s.slots.length : Int) := by omega
   have hc1 := HG.out.c.1
   go_wp2_with fail
   refine (slotMay_any s k hlt _ _ bl capl _ HT.out g2 hc1 (by omega) HLr.out HSr.out).mono ?_
   rintro e w3 ⟨rfl, hb3⟩
   have HB3 : Hid (Below w2.heap.size w2 w3) := HBr.out.trans (hb3.mono HBr.out.size)
   clear d0 d1 d2 d3 d4 hb3 hc1
   have HN : Hid (∀ b, slMB s k s.slots[k] (Bx.slAt s (k - 1)) = b → (b = true → ∀ j (hj : j < s.slots.length), j < k + 1 → slMB s j s.slots[j] (Bx.slAt s (j - 1)) = true) ∧ (b = false → mayD s = false)) := by
    intro b hb
    refine ⟨fun e j hj hjk => ?_, fun e => mayD_no fun h => ?_⟩
    ·by_cases q : j = k
     ·subst q; rw [hb, e]
     ·exact HA.out j hj (by omega)
    ·have := may_sl h k hlt; rw [hb, e] at this; cases this
   obtain ⟨b, hb⟩ : ∃ b, slMB s k s.slots[k] (Bx.slAt s (k - 1)) = b := ⟨_, rfl⟩
   have HN1 := HN.out b hb
   rw [hb]
   clear hb HN
   cases b
   ·have HM : Hid (mayD s = false) := HN1.2 rfl
    clear HN1
    go_wp2_with fail
    go_ret
    exact ⟨ret_b HM.out.symm, HB2.out.trans (HB3.out.mono HB2.out.size)⟩
   ·have HN2 : Hid (∀ j (hj : j < s.slots.length), j < k + 1 → slMB s j s.slots[j] (Bx.slAt s (j - 1)) = true) := HN1.1 rfl
    clear HN1
    go_wp2_with fail
    go_roundw
    case rel => exact ⟨k + 1, by omega, by go_num, HN2.out, HB3.out⟩
    case measure => simp [intOf]; omega
  ·obtain rfl : k = s.slots.length := by omega
   have HA1 : Hid (∀ j (hj : j < s.slots.length), slMB s j s.slots[j] (Bx.slAt s (j - 1)) = true) := fun j hj => HA.out j hj hj
   clear HA
   go_wp2_with fail
   clear d0 d1 d2 d3 d4
   go_loopw [8] (fun i wq => ∃ k : Nat, k ≤ s.slots.length ∧ i = .int .i64 k ∧ (∀ j (hj : j < s.slots.length), j < k → s.slots[j].runs = true → Bx.locked s j = false ∧ s.slots[j].frm ≤ s.clock) ∧ Below w2.heap.size w2 wq) (fun i _ => s.slots.length - (intOf i).toNat)
   case atStart => exact ⟨0, Nat.zero_le _, rfl, fun j _ h => by omega, HBr.out⟩
   case round =>
    obtain ⟨k, hk, rfl, hA, hbr⟩ := hrel
    rename World => wq
    have HA : Hid (∀ j (hj : j < s.slots.length), j < k → s.slots[j].runs = true → Bx.locked s j = false ∧ s.slots[j].frm ≤ s.clock) := hA
    have HBq : Hid (Below w2.heap.size w2 wq) := hbr
    have HIq : Hid (StIn wq w.heap.size s (.slice ad s.slots.length cap) (.slice ad2 s.ends.length cap2)) := HI2.out.later hbr
    obtain ⟨d0, d1, d2, d3, d4⟩ := HIq.out
    have HSq : Hid (StAt wq s (.slice ad s.slots.length cap) (.slice ad2 s.ends.length cap2)) := HS2.out.later hbr
    clear hA hbr
    by_cases hlt : k < s.slots.length
    ·have y1 : (0 : Int) ≤ (k : Int) := by omega
     have y2 : (k : Int) < (s.slots.length : Int) := by omega
     obtain ⟨eb, off, cap', hv, _, hc⟩ := HSq.out.sl.1.some' (by omega)
     cases hv
     obtain ⟨_, _, _, _, s4, s5⟩ := slot_cells hc k hlt
     have HCr : Hid (∀ w' : World, Below wq.heap.size wq w' → w'.cell? ⟨eb, off + k * 6 + 4, none⟩ = some (.int .i64 s.slots[k].frm)) := fun w' hb => cell_later hb s4
     have HN0 : Hid ((s.slots[k].runs = true → Bx.locked s k = false ∧ s.slots[k].frm ≤ s.clock) → ∀ j (hj : j < s.slots.length), j < k + 1 → s.slots[j].runs = true → Bx.locked s j = false ∧ s.slots[j].frm ≤ s.clock) := by
      intro h j hj hjk
      by_cases q : j = k
      ·subst q; exact h
      ·exact HA.out j hj (by omega)
     have HNo : Hid (s.slots[k].runs = true → ¬ (Bx.locked s k = false ∧ s.slots[k].frm ≤ s.clock) → mayD s = false) := fun h1 h2 => mayD_no fun h => h2 (may_run h k hlt h1)
     have HLn : Hid (∃ j : Nat, (Bx.slAt s k).line = (j : Int) + 1 ∧ j < tn s.tab) := by
      obtain ⟨_, _, _, q1, q2, _⟩ := slMB_iff.1 (HA1.out k hlt)
      rw [Bx.slAt_eq hlt]
      exact ⟨(s.slots[k].line - 1).toNat, by omega, by omega⟩
     clear hc s4
     generalize s.slots[k] = x at *
     cases hr : x.runs
     ·rw [hr] at s5
      have HN : Hid (∀ j (hj : j < s.slots.length), j < k + 1 → s.slots[j].runs = true → Bx.locked s j = false ∧ s.slots[j].frm ≤ s.clock) := HN0.out (by rw [hr]; intro h; cases h)
      clear HN0 HNo hr HCr HLn
      go_wp2_with fail
      go_roundw
      case rel => exact ⟨k + 1, by omega, by go_num, HN.out, HBq.out⟩
      case measure => simp [intOf]; omega
     ·rw [hr] at s5
      have HN1 : Hid (Bx.locked s k = false ∧ x.frm ≤ s.clock → ∀ j (hj : j < s.slots.length), j < k + 1 → s.slots[j].runs = true → Bx.locked s j = false ∧ s.slots[j].frm ≤ s.clock) := fun h => HN0.out fun _ => h
      have HNo1 : Hid (¬ (Bx.locked s k = false ∧ x.frm ≤ s.clock) → mayD s = false) := fun h => HNo.out hr h
      obtain ⟨jn, hjl, hjt⟩ := HLn.out
      have HJ : Hid ((Bx.slAt s k).line = (jn : Int) + 1) := hjl
      clear HN0 HNo hr HLn hjl
      go_wp2_with fail
      refine (locked_any s k jn _ _ _ HT.out (by omega) hlt HJ.out hjt HSq.out).mono ?_
      rintro e w3 ⟨rfl, hb3⟩
      have HB3 : Hid (Below w2.heap.size w2 w3) := HBq.out.trans (hb3.mono HBq.out.size)
      have f4 := HCr.out _ hb3
      obtain ⟨e0, e1, e2, e3, e4⟩ := HIq.out.later hb3
      clear d0 d1 d2 d3 d4 s5 hb3 HCr HJ hjt
      obtain ⟨lk, hlk⟩ : ∃ lk, Bx.locked s k = lk := ⟨_, rfl⟩
      rw [hlk]
      rw [hlk] at HN1 HNo1
      clear hlk
      cases lk
      ·by_cases k7 : s.clock < x.frm
       ·have k7d : decide (s.clock < x.frm) = true := decide_eq_true k7
        have HM : Hid (mayD s = false) := HNo1.out fun h => by omega
        clear HN1 HNo1
        go_wp2_with fail
        go_quiet (fail)
        go_wp2_with fail
        go_ret
        exact ⟨ret_b HM.out.symm, HB2.out.trans ((below_drewN HB3.out _).mono HB2.out.size)⟩
       ·have k7d : decide (s.clock < x.frm) = false := decide_eq_false k7
        have HN : Hid (∀ j (hj : j < s.slots.length), j < k + 1 → s.slots[j].runs = true → Bx.locked s j = false ∧ s.slots[j].frm ≤ s.clock) := HN1.out ⟨rfl, by omega⟩
        clear HN1 HNo1
        go_wp2_with fail
        go_quiet (fail)
        go_wp2_with fail
        go_roundw
        case rel => exact ⟨k + 1, by omega, by go_num, HN.out, below_drewN HB3.out _⟩
        case measure => simp [intOf]; omega
      ·have HM : Hid (mayD s = false) := HNo1.out fun h => by cases h.1
       clear HN1 HNo1
       go_wp2_with fail
       go_quiet (fail)
       go_wp2_with fail
       go_ret
       exact ⟨ret_b HM.out.symm, HB2.out.trans ((below_drewN HB3.out _).mono HB2.out.size)⟩
    ·obtain rfl : k = s.slots.length := by omega
     have HA2 : Hid (∀ j (hj : j < s.slots.length), s.slots[j].runs = true → Bx.locked s j = false ∧ s.slots[j].frm ≤ s.clock) := fun j hj => HA.out j hj hj
     clear HA
     go_wp2_with fail
     clear d0 d1 d2 d3 d4
     go_loopw [10] (fun i wp => ∃ k : Nat, k ≤ s.ends.length ∧ i = .int .i64 k ∧ (∀ j (hj : j < s.ends.length), j < k → enMB s j s.ends[j] = true) ∧ Below w2.heap.size w2 wp) (fun i _ => s.ends.length - (intOf i).toNat)
     case atStart => exact ⟨0, Nat.zero_le _, rfl, fun j _ h => by omega, HBq.out⟩
     case round =>
      obtain ⟨k, hk, rfl, hA, hbr⟩ := hrel
      rename World => wp
      have HA : Hid (∀ j (hj : j < s.ends.length), j < k → enMB s j s.ends[j] = true) := hA
      have HBp : Hid (Below w2.heap.size w2 wp) := hbr
      obtain ⟨d0, d1, d2, d3, d4⟩ := HI2.out.later hbr
      have HSp : Hid (StAt wp s (.slice ad s.slots.length cap) (.slice ad2 s.ends.length cap2)) := HS2.out.later hbr
      clear hA hbr
      by_cases hlt : k < s.ends.length
      ·have y2 : (k : Int) < (s.ends.length : Int) := by omega
       have HH : Hid (s.ends[k].how.size = 1) := (HG.out.ee _ (List.getElem_mem hlt)).2
       go_wp2_with fail
       refine (endMay_any s k hlt _ _ _ g2 g3 HH.out HSp.out).mono ?_
       rintro e w3 ⟨rfl, hb3⟩
       have HB3 : Hid (Below w2.heap.size w2 w3) := HBp.out.trans (hb3.mono HBp.out.size)
       clear d0 d1 d2 d3 d4 hb3 HH
       have HN : Hid (∀ b, enMB s k s.ends[k] = b → (b = true → ∀ j (hj : j < s.ends.length), j < k + 1 → enMB s j s.ends[j] = true) ∧ (b = false → mayD s = false)) := by
        intro b hb
        refine ⟨fun e j hj hjk => ?_, fun e => mayD_no fun h => ?_⟩
        ·by_cases q : j = k
         ·subst q; rw [hb, e]
         ·exact HA.out j hj (by omega)
        ·have := enMB_yes (may_en h k hlt); rw [hb, e] at this; cases this
       obtain ⟨b, hb⟩ : ∃ b, enMB s k s.ends[k] = b := ⟨_, rfl⟩
       have HN1 := HN.out b hb
       rw [hb]
       clear hb HN
       cases b
       ·have HM : Hid (mayD s = false) := HN1.2 rfl
        clear HN1
        go_wp2_with fail
        go_ret
        exact ⟨ret_b HM.out.symm, HB2.out.trans (HB3.out.mono HB2.out.size)⟩
       ·have HN2 : Hid (∀ j (hj : j < s.ends.length), j < k + 1 → enMB s j s.ends[j] = true) := HN1.1 rfl
        clear HN1
        go_wp2_with fail
        go_roundw
        case rel => exact ⟨k + 1, by omega, by go_num, HN2.out, HB3.out⟩
        case measure => simp [intOf]; omega
      ·obtain rfl : k = s.ends.length := by omega
       have HM : Hid (mayD s = true) := HALL.out HA1.out HA2.out fun j hj => HA.out j hj hj
       go_wp2_with fail
       go_ret
       exact ⟨ret_b HM.out.symm, HB2.out.trans (HBp.out.mono HB2.out.size)⟩
end Go.Proofs.YtdajolpoiffimaaGreatDoor

namespace Go.Proofs.YtdajolpoiffimaaGreatDoor
open Go.RowKit

/-- What held tells. -/
def HeldP (b : ByteArray) (w w' : World) (e : Ending) : Prop := ∃ t sl en ok, e = .returned (.tuple #[stV t sl en, .bool ok]) ∧ StAt w' t sl en ∧ (ok = true → Bx.IsZ b t) ∧ (ok = false → ¬ ∃ t, Bx.IsZ b t) ∧ Below w.heap.size w w'
set_option maxRecDepth 10000 in
set_option maxHeartbeats 4000000 in
theorem held_any (b : ByteArray) (w : World) (hs : b.size ≤ 70000) : Calls Tryz.prog 104 #[.string b] w fun e w' => HeldP b w w' e := by
 have hb0 := below_alloc w (stO stZ nilV nilV)
 have hz := StW.new w stZ nilV nilV
 go_enter Tryz.func104, Tryz.ntmps104
 go_upto_region 1 with fail
 have hz' : StW (w.alloc (stO stZ nilV nilV)) w.heap.size stZ nilV nilV := hz
 clear hz
 generalize w.alloc (stO stZ nilV nilV) = W0 at *
 have HZ0 : Hid (StW W0 w.heap.size stZ nilV nilV) := hz'
 have HB0 : Hid (Below w.heap.size w W0) := hb0
 have hlt0 := hz'.ty.lt
 clear hz' hb0
 go_wp2_with fail
 refine (guess_any b _ hs).mono ?_
 rintro e w1 ⟨⟨sl, en, rfl, hA⟩, hb1⟩
 have HOk : Hid (GsOk (gs b)) := gs_ok b
 have HNo : Hid (¬ (Bx.MayS (gs b) ∧ Bx.wholeS (gs b) = b) → ¬ ∃ t, Bx.IsZ b t) := gs_no
 generalize gs b = S at *
 obtain ⟨ad, cap, rfl, hcap⟩ := hA.sl.form
 obtain ⟨ad2, cap2, rfl, hcap2⟩ := hA.en.form
 have hb2 := hb1.trans ((below_alloc w1 (stO S (.slice ad S.slots.length cap) (.slice ad2 S.ends.length cap2))).mono hb1.size)
 have hI := StIn.new w1 S (.slice ad S.slots.length cap) (.slice ad2 S.ends.length cap2)
 have hA2 := hA.later (below_alloc w1 (stO S (.slice ad S.slots.length cap) (.slice ad2 S.ends.length cap2)))
 clear hA hb1
 go_upto_region 2 with fail
 have hI' : StIn (w1.alloc (stO S (.slice ad S.slots.length cap) (.slice ad2 S.ends.length cap2))) w1.heap.size S (.slice ad S.slots.length cap) (.slice ad2 S.ends.length cap2) := hI
 clear hI
 generalize w1.alloc (stO S (.slice ad S.slots.length cap) (.slice ad2 S.ends.length cap2)) = W at *
 generalize w1.heap.size = q at *
 have HA : Hid (StAt W S (.slice ad S.slots.length cap) (.slice ad2 S.ends.length cap2)) := hA2
 have HZ : Hid (StW W w.heap.size stZ nilV nilV) := HZ0.out.later hb2
 have HB : Hid (Below w.heap.size w W) := HB0.out.trans (hb2.mono HB0.out.size)
 have HI : Hid (StIn W q S (.slice ad S.slots.length cap) (.slice ad2 S.ends.length cap2)) := hI'
 obtain ⟨c0, c1, c2, c3, c4⟩ := hI'
 have hqW : q < W.heap.size := World.block_lt_of_cell? _ _ c0
 clear hA2 hb2 HZ0 HB0 hlt0
 go_wp2_with fail
 refine (smay_any S _ _ _ HOk.out HA.out).mono ?_
 rintro e w3 ⟨rfl, hb3⟩
 have HA3 : Hid (StAt w3 S (.slice ad S.slots.length cap) (.slice ad2 S.ends.length cap2)) := HA.out.later hb3
 have HZ3 : Hid (StW w3 w.heap.size stZ nilV nilV) := HZ.out.later hb3
 have HB3 : Hid (Below w.heap.size w w3) := HB.out.trans (hb3.mono HB.out.size)
 have HI3 : Hid (StIn w3 q S (.slice ad S.slots.length cap) (.slice ad2 S.ends.length cap2)) := HI.out.later hb3
 clear c0 c1 c2 c3 c4 hqW hb3 HA HZ HB HI
 obtain ⟨c0, c1, c2, c3, c4⟩ := HI3.out
 have HD : Hid (∀ d, mayD S = d → (d = true ↔ Bx.MayS S)) := fun d e => by rw [← e]; exact mayD_iff
 obtain ⟨d, hd⟩ : ∃ d, mayD S = d := ⟨_, rfl⟩
 have HD2 := HD.out d hd
 have HD3 : Hid (d = true ↔ Bx.MayS S) := HD2
 rw [hd]
 clear HD HD2 hd
 cases d
 ·have HN : Hid (¬ ∃ t, Bx.IsZ b t) := HNo.out fun h => by have := HD3.out.2 h.1; cases this
  have H4 : Hid (StAt _ S (.slice ad S.slots.length cap) (.slice ad2 S.ends.length cap2)) := HA3.out.store HZ3.out.ty (.string S.tab) (.int .i64 S.clock) (.int .i64 S.next) (.slice ad S.slots.length cap) (.slice ad2 S.ends.length cap2)
  obtain ⟨⟨r0, r1, r2, r3, r4⟩, f, _⟩ := HZ3.out
  have f0 := f 0 (by decide); have f1 := f 1 (by decide); have f2 := f 2 (by decide); have f3 := f 3 (by decide); have f4 := f 4 (by decide)
  clear f HNo HD3
  go_wp2_with fail
  refine bodyPost_ret (v := .tuple #[stV S (.slice ad S.slots.length cap) (.slice ad2 S.ends.length cap2), .bool false]) (by simp [results, Tryz.results104, go_sem, r0, r1, r2, r3, r4]) rfl ?_
  exact ⟨_, _, _, _, rfl, H4.out, fun h => (by cases h), fun _ => HN.out, below_set5 HB3.out (Nat.le_refl _) _ _ _ _ _⟩
 ·have HM : Hid (Bx.MayS S) := HD3.out.1 rfl
  have HF : Hid (Bx.StFit S) := HM.out.fit
  have hg2 := HOk.out.sl
  have hg3 := HM.out.en
  clear HD3
  go_wp2_with fail
  refine (whole_any S _ _ _ HF.out hg2 hg3 HA3.out).mono ?_
  rintro e w4 ⟨rfl, hb4⟩
  have HA4 : Hid (StAt w4 S (.slice ad S.slots.length cap) (.slice ad2 S.ends.length cap2)) := HA3.out.later hb4
  have HZ4 : Hid (StW w4 w.heap.size stZ nilV nilV) := HZ3.out.later hb4
  have HB4 : Hid (Below w.heap.size w w4) := HB3.out.trans (hb4.mono HB3.out.size)
  have HI4 : Hid (StIn w4 q S (.slice ad S.slots.length cap) (.slice ad2 S.ends.length cap2)) := HI3.out.later hb4
  clear c0 c1 c2 c3 c4 hb4 HA3 HZ3 HB3 HI3
  obtain ⟨c0, c1, c2, c3, c4⟩ := HI4.out
  have H4 : Hid (StAt _ S (.slice ad S.slots.length cap) (.slice ad2 S.ends.length cap2)) := HA4.out.store HZ4.out.ty (.string S.tab) (.int .i64 S.clock) (.int .i64 S.next) (.slice ad S.slots.length cap) (.slice ad2 S.ends.length cap2)
  obtain ⟨⟨r0, r1, r2, r3, r4⟩, f, _⟩ := HZ4.out
  have f0 := f 0 (by decide); have f1 := f 1 (by decide); have f2 := f 2 (by decide); have f3 := f 3 (by decide); have f4 := f 4 (by decide)
  have HW : Hid (∀ y, Bx.wholeS S = y → (y.toList == b.toList) = true → Bx.IsZ b S) := fun y hy h => ⟨HM.out, hy.trans (list_ba.1 h)⟩
  have HW2 : Hid (∀ y, Bx.wholeS S = y → (y.toList == b.toList) = false → ¬ ∃ t, Bx.IsZ b t) := fun y hy h => HNo.out fun h2 => by rw [← hy, h2.2] at h; simp at h
  clear f HNo HM HF
  obtain ⟨y, hy⟩ : ∃ y, Bx.wholeS S = y := ⟨_, rfl⟩
  have HW3 := HW.out y hy
  have HW4 := HW2.out y hy
  rw [hy]
  clear hy HW HW2
  cases ht : (y.toList == b.toList)
  ·have HN : Hid (¬ ∃ t, Bx.IsZ b t) := HW4 ht
   clear HW3 HW4
   go_wp2_with fail
   refine bodyPost_ret (v := .tuple #[stV S (.slice ad S.slots.length cap) (.slice ad2 S.ends.length cap2), .bool false]) (by simp [results, Tryz.results104, go_sem, r0, r1, r2, r3, r4]) rfl ?_
   exact ⟨_, _, _, _, rfl, H4.out, fun h => (by cases h), fun _ => HN.out, below_set5 HB4.out (Nat.le_refl _) _ _ _ _ _⟩
  ·have HN : Hid (Bx.IsZ b S) := HW3 ht
   clear HW3 HW4
   go_wp2_with fail
   refine bodyPost_ret (v := .tuple #[stV S (.slice ad S.slots.length cap) (.slice ad2 S.ends.length cap2), .bool true]) (by simp [results, Tryz.results104, go_sem, r0, r1, r2, r3, r4]) rfl ?_
   exact ⟨_, _, _, _, rfl, H4.out, fun _ => HN.out, fun h => (by cases h), below_set5 HB4.out (Nat.le_refl _) _ _ _ _ _⟩
end Go.Proofs.YtdajolpoiffimaaGreatDoor
