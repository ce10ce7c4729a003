/-
  PrgRead, PrgRead2, PrgRead3, PrgBody, PrgBodyM, PrgBodyN, PrgBodyZ, PrgStart, PrgHear, PrgGo.
-/
import Derived.Test.YtdajolpoiffimabGreatDoorC3
import Derived.Test.YtdajolpoiffimabGreatDoorC4
import Derived.Test.YtdajolpoiffimabGreatDoorC6

namespace Go.Proofs.YtdajolpoiffimabGreatDoor
open Go.RowKit

theorem grow_new {w w1 : World} {r : Option Nat} (h : w.grownBy w1 r) {g : Nat} (hg : w.heap.size ≤ g) (j : Nat) (u : Value) : w.grownBy (w1.setCell ⟨g, j, none⟩ u) r := by
  have e : ∀ k, k < w.heap.size → (w1.setCell ⟨g, j, none⟩ u).heap[k]? = w1.heap[k]? := fun k hk => ((Below.refl w.heap.size w1).setCell (p := ⟨g, j, none⟩) hg u).block k hk
  have z := ((Below.refl w.heap.size w1).setCell (p := ⟨g, j, none⟩) hg u).size
  exact ⟨h.os, h.tape, h.output, Nat.le_trans h.size z, fun k hk hn => (e k hk).trans (h.block k hk hn)⟩
theorem grow_new8 {w w1 : World} {r : Option Nat} (h : w.grownBy w1 r) {g : Nat} (hg : w.heap.size ≤ g) (u0 u1 u2 u3 u4 u5 u6 u7 : Value) : w.grownBy ((((((((w1.setCell ⟨g, 0, none⟩ u0).setCell ⟨g, 1, none⟩ u1).setCell ⟨g, 2, none⟩ u2).setCell ⟨g, 3, none⟩ u3).setCell ⟨g, 4, none⟩ u4).setCell ⟨g, 5, none⟩ u5).setCell ⟨g, 6, none⟩ u6).setCell ⟨g, 7, none⟩ u7) r :=
  grow_new (grow_new (grow_new (grow_new (grow_new (grow_new (grow_new (grow_new h hg _ _) hg _ _) hg _ _) hg _ _) hg _ _) hg _ _) hg _ _) hg _ _
theorem Cl.far8 {w1 : World} {q g : Nat} {t : TypeId} {cs : List Value} (h : Cl w1 q t cs) (hn : q ≠ g) (u0 u1 u2 u3 u4 u5 u6 u7 : Value) : Cl ((((((((w1.setCell ⟨g, 0, none⟩ u0).setCell ⟨g, 1, none⟩ u1).setCell ⟨g, 2, none⟩ u2).setCell ⟨g, 3, none⟩ u3).setCell ⟨g, 4, none⟩ u4).setCell ⟨g, 5, none⟩ u5).setCell ⟨g, 6, none⟩ u6).setCell ⟨g, 7, none⟩ u7) q t cs :=
  (((((((h.far hn _ _).far hn _ _).far hn _ _).far hn _ _).far hn _ _).far hn _ _).far hn _ _).far hn _ _
/-- Where readSlot is: the parts, the slot, the result. -/
structure RS (w W : World) (q : Nat) (p : Bx.PS) (x : Px.Sl) : Prop where
  p : PtIn W q p
  x : Cl W (w.heap.size + 1) 143 (psC x)
  z : Cl W w.heap.size 143 (psC Px.sl0)
  g : w.grownBy W (some q)
  q : q < w.heap.size
theorem RS.call {w W W' : World} {q : Nat} {p p' : Bx.PS} {x : Px.Sl} (h : RS w W q p x) (hp : PtIn W' q p') (hg : W.grownBy W' (some q)) : RS w W' q p' x :=
  ⟨hp, h.x.grow hg (by have := h.q; omega), h.z.grow hg (by have := h.q; omega), grow_trans h.g hg, h.q⟩
theorem RS.put {w W : World} {q : Nat} {p : Bx.PS} {x : Px.Sl} (h : RS w W q p x) (y : Px.Sl) (j : Nat) (v : Value) (hj : j < 8) (hy : psC y = (psC x).set j v) : RS w (W.setCell ⟨w.heap.size + 1, j, none⟩ v) q p y :=
  ⟨h.p.far (by have := h.q; omega) _ _, by rw [hy]; exact h.x.set j (by simpa [psC] using hj) v, h.z.far (by omega) _ _, grow_new h.g (by omega) _ _, h.q⟩
set_option maxRecDepth 10000 in
set_option maxHeartbeats 2000000 in
theorem preadSlot_any (p : Bx.PS) (q : Nat) (w : World) (hs : p.rest.size ≤ 100000) (hp : PtIn w q p) :
    Calls Tryz.prog 210 #[.pointer (some ⟨q, 0, none⟩)] w fun e w' => e = .returned (psV (Px.rdSlot p).1) ∧ PtIn w' q (Px.rdSlot p).2 ∧ w.grownBy w' (some q) := by
  obtain ⟨a, pa, ha⟩ : ∃ a q, Bx.numP 2 p = (a, q) := ⟨_, _, pr_eta _⟩
  obtain ⟨b, pb, hb⟩ : ∃ a q, Bx.numP 1 pa = (a, q) := ⟨_, _, pr_eta _⟩
  obtain ⟨c, pc, hc⟩ : ∃ a q, Bx.numP 5 pb = (a, q) := ⟨_, _, pr_eta _⟩
  obtain ⟨d, pd, hd⟩ : ∃ a q, Bx.numP 1 pc = (a, q) := ⟨_, _, pr_eta _⟩
  obtain ⟨e, pe, he⟩ : ∃ a q, Bx.numP 5 pd = (a, q) := ⟨_, _, pr_eta _⟩
  obtain ⟨f, pf, hf⟩ : ∃ a q, Bx.numP 1 pe = (a, q) := ⟨_, _, pr_eta _⟩
  have HE : Hid (Px.rdSlot p = (⟨a, b, c, d, e, if f = 1 then 1 else 0, 0, ByteArray.empty⟩, if f = 1 ∨ f = 0 then pf else ⟨pf.rest, true⟩)) := Px.rdSlot_eq ha hb hc hd he hf
  have sa := numP_size 2 p; have sb := numP_size 1 pa; have sc := numP_size 5 pb; have sd := numP_size 1 pc; have se := numP_size 5 pd
  rw [ha] at sa; rw [hb] at sb; rw [hc] at sc; rw [hd] at sd; rw [he] at se
  simp only at sa sb sc sd se
  have Ha : Hid (Bx.numP 2 p = (a, pa)) := ha
  have Hb : Hid (Bx.numP 1 pa = (b, pb)) := hb
  have Hc : Hid (Bx.numP 5 pb = (c, pc)) := hc
  have Hd : Hid (Bx.numP 1 pc = (d, pd)) := hd
  have He : Hid (Bx.numP 5 pd = (e, pe)) := he
  have Hf : Hid (Bx.numP 1 pe = (f, pf)) := hf
  clear ha hb hc hd he hf
  have hR : RS w ((w.alloc (.cells #[.int .i64 0, .int .i64 0, .int .i64 0, .int .i64 0, .int .i64 0, .int .i64 0, .int .i64 0, .string { data := #[] }] 143)).alloc (.cells #[.int .i64 0, .int .i64 0, .int .i64 0, .int .i64 0, .int .i64 0, .int .i64 0, .int .i64 0, .string { data := #[] }] 143)) q p Px.sl0 := by
    have b1 := below_alloc w (.cells #[.int .i64 0, .int .i64 0, .int .i64 0, .int .i64 0, .int .i64 0, .int .i64 0, .int .i64 0, .string { data := #[] }] 143)
    have b2 := below_alloc (w.alloc (.cells #[.int .i64 0, .int .i64 0, .int .i64 0, .int .i64 0, .int .i64 0, .int .i64 0, .int .i64 0, .string { data := #[] }] 143)) (.cells #[.int .i64 0, .int .i64 0, .int .i64 0, .int .i64 0, .int .i64 0, .int .i64 0, .int .i64 0, .string { data := #[] }] 143)
    have n1 : Cl (w.alloc (.cells #[.int .i64 0, .int .i64 0, .int .i64 0, .int .i64 0, .int .i64 0, .int .i64 0, .int .i64 0, .string { data := #[] }] 143)) w.heap.size 143 (psC Px.sl0) := Cl.new w (psC Px.sl0) 143
    have n2 := Cl.new (w.alloc (.cells #[.int .i64 0, .int .i64 0, .int .i64 0, .int .i64 0, .int .i64 0, .int .i64 0, .int .i64 0, .string { data := #[] }] 143)) (psC Px.sl0) 143
    have hz : (w.alloc (.cells #[.int .i64 0, .int .i64 0, .int .i64 0, .int .i64 0, .int .i64 0, .int .i64 0, .int .i64 0, .string { data := #[] }] 143)).heap.size = w.heap.size + 1 := by simp
    rw [hz] at n2
    exact ⟨(hp.later b1).later b2, n2, n1.later b2, grow_of_below (b1.trans (b2.mono b1.size)) _, hp.ty.lt⟩
  clear hp
  go_enter Tryz.func210, Tryz.ntmps210
  go_upto_region 2 with fail
  generalize (w.alloc (.cells #[.int .i64 0, .int .i64 0, .int .i64 0, .int .i64 0, .int .i64 0, .int .i64 0, .int .i64 0, .string { data := #[] }] 143)).alloc (.cells #[.int .i64 0, .int .i64 0, .int .i64 0, .int .i64 0, .int .i64 0, .int .i64 0, .int .i64 0, .string { data := #[] }] 143) = W at *
  have HR0 : Hid (RS w W q p Px.sl0) := hR
  clear hR
  go_wp2_with fail
  refine (pnumber_any p q 2 _ _ rfl (by decide) (by omega) HR0.out.p).mono ?_
  rintro ex w0 ⟨rfl, hp1, hg1⟩
  rw [Ha.out] at hp1 ⊢
  have hR1 := HR0.out.call hp1 hg1
  have r0 := hR1.x.c 0 _ rfl
  have t0 := hR1.x.f 0 (by simp [psC])
  have y0 := hR1.x.ty.lt
  have hT1 := hR1.put (⟨a, 0, 0, 0, 0, 0, 0, ByteArray.empty⟩ : Px.Sl) 0 (.int .i64 a) (by decide) rfl
  clear hp1 hg1 hR1 HR0
  go_upto_region 3 with fail
  clear r0 t0 y0
  generalize w0.setCell ⟨w.heap.size + 1, 0, none⟩ (.int .i64 a) = W1 at *
  have HR1 : Hid (RS w W1 q pa (⟨a, 0, 0, 0, 0, 0, 0, ByteArray.empty⟩ : Px.Sl)) := hT1
  clear hT1
  go_wp2_with fail
  refine (pnumber_any pa q 1 _ _ rfl (by decide) (by omega) HR1.out.p).mono ?_
  rintro ex w1 ⟨rfl, hp1, hg1⟩
  rw [Hb.out] at hp1 ⊢
  have hR2 := HR1.out.call hp1 hg1
  have r1 := hR2.x.c 1 _ rfl
  have t1 := hR2.x.f 1 (by simp [psC])
  have y1 := hR2.x.ty.lt
  have hT2 := hR2.put (⟨a, b, 0, 0, 0, 0, 0, ByteArray.empty⟩ : Px.Sl) 1 (.int .i64 b) (by decide) rfl
  clear hp1 hg1 hR2 HR1
  go_upto_region 4 with fail
  clear r1 t1 y1
  generalize w1.setCell ⟨w.heap.size + 1, 1, none⟩ (.int .i64 b) = W2 at *
  have HR2 : Hid (RS w W2 q pb (⟨a, b, 0, 0, 0, 0, 0, ByteArray.empty⟩ : Px.Sl)) := hT2
  clear hT2
  go_wp2_with fail
  refine (pnumber_any pb q 5 _ _ rfl (by decide) (by omega) HR2.out.p).mono ?_
  rintro ex w2 ⟨rfl, hp1, hg1⟩
  rw [Hc.out] at hp1 ⊢
  have hR3 := HR2.out.call hp1 hg1
  have r2 := hR3.x.c 2 _ rfl
  have t2 := hR3.x.f 2 (by simp [psC])
  have y2 := hR3.x.ty.lt
  have hT3 := hR3.put (⟨a, b, c, 0, 0, 0, 0, ByteArray.empty⟩ : Px.Sl) 2 (.int .i64 c) (by decide) rfl
  clear hp1 hg1 hR3 HR2
  go_upto_region 5 with fail
  clear r2 t2 y2
  generalize w2.setCell ⟨w.heap.size + 1, 2, none⟩ (.int .i64 c) = W3 at *
  have HR3 : Hid (RS w W3 q pc (⟨a, b, c, 0, 0, 0, 0, ByteArray.empty⟩ : Px.Sl)) := hT3
  clear hT3
  go_wp2_with fail
  refine (pnumber_any pc q 1 _ _ rfl (by decide) (by omega) HR3.out.p).mono ?_
  rintro ex w3 ⟨rfl, hp1, hg1⟩
  rw [Hd.out] at hp1 ⊢
  have hR4 := HR3.out.call hp1 hg1
  have r3 := hR4.x.c 3 _ rfl
  have t3 := hR4.x.f 3 (by simp [psC])
  have y3 := hR4.x.ty.lt
  have hT4 := hR4.put (⟨a, b, c, d, 0, 0, 0, ByteArray.empty⟩ : Px.Sl) 3 (.int .i64 d) (by decide) rfl
  clear hp1 hg1 hR4 HR3
  go_upto_region 6 with fail
  clear r3 t3 y3
  generalize w3.setCell ⟨w.heap.size + 1, 3, none⟩ (.int .i64 d) = W4 at *
  have HR4 : Hid (RS w W4 q pd (⟨a, b, c, d, 0, 0, 0, ByteArray.empty⟩ : Px.Sl)) := hT4
  clear hT4
  go_wp2_with fail
  refine (pnumber_any pd q 5 _ _ rfl (by decide) (by omega) HR4.out.p).mono ?_
  rintro ex w4 ⟨rfl, hp1, hg1⟩
  rw [He.out] at hp1 ⊢
  have hR5 := HR4.out.call hp1 hg1
  have r4 := hR5.x.c 4 _ rfl
  have t4 := hR5.x.f 4 (by simp [psC])
  have y4 := hR5.x.ty.lt
  have hT5 := hR5.put (⟨a, b, c, d, e, 0, 0, ByteArray.empty⟩ : Px.Sl) 4 (.int .i64 e) (by decide) rfl
  clear hp1 hg1 hR5 HR4
  go_upto_region 7 with fail
  clear r4 t4 y4
  generalize w4.setCell ⟨w.heap.size + 1, 4, none⟩ (.int .i64 e) = W5 at *
  have HR5 : Hid (RS w W5 q pe (⟨a, b, c, d, e, 0, 0, ByteArray.empty⟩ : Px.Sl)) := hT5
  clear hT5
  go_wp2_with fail
  refine (pnumber_any pe q 1 _ _ rfl (by decide) (by omega) HR5.out.p).mono ?_
  rintro ex w6 ⟨rfl, hp1, hg1⟩
  rw [Hf.out] at hp1 ⊢
  simp only at hp1
  have hR := HR5.out.call hp1 hg1
  clear hp1 hg1 HR5
  by_cases h1 : f = 1
  · subst h1
    have HF : Hid (Px.rdSlot p = (⟨a, b, c, d, e, 1, 0, ByteArray.empty⟩, pf)) := by unfold Hid; rw [HE.out, if_pos rfl, if_pos (Or.inl rfl)]
    have hT := hR.put (⟨a, b, c, d, e, 1, 0, ByteArray.empty⟩ : Px.Sl) 5 (.int .i64 1) (by decide) rfl
    have r5 := hR.x.c 5 _ rfl
    have t5 := hR.x.f 5 (by simp [psC])
    have y5 := hR.x.ty.lt
    clear HE hR
    go_upto_region 12 with fail
    clear r5 t5 y5
    generalize w6.setCell ⟨w.heap.size + 1, 5, none⟩ (.int .i64 1) = W7 at *
    have HT : Hid (RS w W7 q pf ⟨a, b, c, d, e, 1, 0, ByteArray.empty⟩) := hT
    have x0 := hT.x.c 0 _ rfl; have x1 := hT.x.c 1 _ rfl; have x2 := hT.x.c 2 _ rfl; have x3 := hT.x.c 3 _ rfl; have x4 := hT.x.c 4 _ rfl; have x5 := hT.x.c 5 _ rfl; have x6 := hT.x.c 6 _ rfl; have x7 := hT.x.c 7 _ rfl
    have z0 := hT.z.c 0 _ rfl; have z1 := hT.z.c 1 _ rfl; have z2 := hT.z.c 2 _ rfl; have z3 := hT.z.c 3 _ rfl; have z4 := hT.z.c 4 _ rfl; have z5 := hT.z.c 5 _ rfl; have z6 := hT.z.c 6 _ rfl; have z7 := hT.z.c 7 _ rfl
    have f0 := hT.z.f 0 (by simp [psC]); have f1 := hT.z.f 1 (by simp [psC]); have f2 := hT.z.f 2 (by simp [psC]); have f3 := hT.z.f 3 (by simp [psC]); have f4 := hT.z.f 4 (by simp [psC]); have f5 := hT.z.f 5 (by simp [psC]); have f6 := hT.z.f 6 (by simp [psC]); have f7 := hT.z.f 7 (by simp [psC])
    have yz := hT.z.ty.lt
    have yx := hT.x.ty.lt
    clear hT
    go_wp2_with fail
    refine bodyPost_ret (v := psV ⟨a, b, c, d, e, 1, 0, ByteArray.empty⟩) (by simp [results, Tryz.results210, go_sem, z0, z1, z2, z3, z4, z5, z6, z7]) rfl ?_
    rw [HF.out]
    exact ⟨rfl, HT.out.p.far8 (by have := HT.out.q; omega) _ _ _ _ _ _ _ _, grow_new8 HT.out.g (Nat.le_refl _) _ _ _ _ _ _ _ _⟩
  · by_cases h0 : f = 0
    · subst h0
      have HF : Hid (Px.rdSlot p = (⟨a, b, c, d, e, 0, 0, ByteArray.empty⟩, pf)) := by unfold Hid; rw [HE.out, if_neg (by decide), if_pos (Or.inr rfl)]
      have hT := hR
      clear HE hR h1
      go_upto_region 12 with fail
      generalize w6 = W7 at *
      have HT : Hid (RS w W7 q pf ⟨a, b, c, d, e, 0, 0, ByteArray.empty⟩) := hT
      have x0 := hT.x.c 0 _ rfl; have x1 := hT.x.c 1 _ rfl; have x2 := hT.x.c 2 _ rfl; have x3 := hT.x.c 3 _ rfl; have x4 := hT.x.c 4 _ rfl; have x5 := hT.x.c 5 _ rfl; have x6 := hT.x.c 6 _ rfl; have x7 := hT.x.c 7 _ rfl
      have z0 := hT.z.c 0 _ rfl; have z1 := hT.z.c 1 _ rfl; have z2 := hT.z.c 2 _ rfl; have z3 := hT.z.c 3 _ rfl; have z4 := hT.z.c 4 _ rfl; have z5 := hT.z.c 5 _ rfl; have z6 := hT.z.c 6 _ rfl; have z7 := hT.z.c 7 _ rfl
      have f0 := hT.z.f 0 (by simp [psC]); have f1 := hT.z.f 1 (by simp [psC]); have f2 := hT.z.f 2 (by simp [psC]); have f3 := hT.z.f 3 (by simp [psC]); have f4 := hT.z.f 4 (by simp [psC]); have f5 := hT.z.f 5 (by simp [psC]); have f6 := hT.z.f 6 (by simp [psC]); have f7 := hT.z.f 7 (by simp [psC])
      have yz := hT.z.ty.lt
      have yx := hT.x.ty.lt
      clear hT
      go_wp2_with fail
      refine bodyPost_ret (v := psV ⟨a, b, c, d, e, 0, 0, ByteArray.empty⟩) (by simp [results, Tryz.results210, go_sem, z0, z1, z2, z3, z4, z5, z6, z7]) rfl ?_
      rw [HF.out]
      exact ⟨rfl, HT.out.p.far8 (by have := HT.out.q; omega) _ _ _ _ _ _ _ _, grow_new8 HT.out.g (Nat.le_refl _) _ _ _ _ _ _ _ _⟩
    · have HF : Hid (Px.rdSlot p = (⟨a, b, c, d, e, 0, 0, ByteArray.empty⟩, ⟨pf.rest, true⟩)) := by unfold Hid; rw [HE.out, if_neg h1, if_neg (by omega)]
      have hT : RS w (w6.setCell ⟨q, 1, none⟩ (.bool true)) q ⟨pf.rest, true⟩ ⟨a, b, c, d, e, 0, 0, ByteArray.empty⟩ := ⟨hR.p.set 1 (by simp) _, hR.x.far (by have := hR.q; omega) _ _, hR.z.far (by have := hR.q; omega) _ _, grow_set hR.g _ _, hR.q⟩
      have r5 := hR.p.c1
      have t5 := hR.p.f1
      have y5 := hR.p.ty.lt
      clear HE hR
      go_upto_region 12 with fail
      clear r5 t5 y5 h1 h0
      generalize w6.setCell ⟨q, 1, none⟩ (.bool true) = W7 at *
      have HT : Hid (RS w W7 q ⟨pf.rest, true⟩ ⟨a, b, c, d, e, 0, 0, ByteArray.empty⟩) := hT
      have x0 := hT.x.c 0 _ rfl; have x1 := hT.x.c 1 _ rfl; have x2 := hT.x.c 2 _ rfl; have x3 := hT.x.c 3 _ rfl; have x4 := hT.x.c 4 _ rfl; have x5 := hT.x.c 5 _ rfl; have x6 := hT.x.c 6 _ rfl; have x7 := hT.x.c 7 _ rfl
      have z0 := hT.z.c 0 _ rfl; have z1 := hT.z.c 1 _ rfl; have z2 := hT.z.c 2 _ rfl; have z3 := hT.z.c 3 _ rfl; have z4 := hT.z.c 4 _ rfl; have z5 := hT.z.c 5 _ rfl; have z6 := hT.z.c 6 _ rfl; have z7 := hT.z.c 7 _ rfl
      have f0 := hT.z.f 0 (by simp [psC]); have f1 := hT.z.f 1 (by simp [psC]); have f2 := hT.z.f 2 (by simp [psC]); have f3 := hT.z.f 3 (by simp [psC]); have f4 := hT.z.f 4 (by simp [psC]); have f5 := hT.z.f 5 (by simp [psC]); have f6 := hT.z.f 6 (by simp [psC]); have f7 := hT.z.f 7 (by simp [psC])
      have yz := hT.z.ty.lt
      have yx := hT.x.ty.lt
      clear hT
      go_wp2_with fail
      refine bodyPost_ret (v := psV ⟨a, b, c, d, e, 0, 0, ByteArray.empty⟩) (by simp [results, Tryz.results210, go_sem, z0, z1, z2, z3, z4, z5, z6, z7]) rfl ?_
      rw [HF.out]
      exact ⟨rfl, HT.out.p.far8 (by have := HT.out.q; omega) _ _ _ _ _ _ _ _, grow_new8 HT.out.g (Nat.le_refl _) _ _ _ _ _ _ _ _⟩
end Go.Proofs.YtdajolpoiffimabGreatDoor

namespace Go.Proofs.YtdajolpoiffimabGreatDoor
open Go.RowKit

theorem own_grow {w w' : World} {base size n q : Nat} {e : TypeId} {v : Value} {xs : List Value} (h : w.grownBy w' (some q)) (hq : q < base) (ho : w.ownsRow base e size v n xs) : w'.ownsRow base e size v n xs := by
  refine ⟨ho.1, ?_⟩
  rcases ho.2 with h2 | ⟨g, cap, cur, hv, hbase, hg, h3⟩
  · exact Or.inl h2
  · refine Or.inr ⟨g, cap, cur, hv, hbase, ?_, h3⟩
    rw [h.block g (heap_lt hg) (fun e => by cases e; omega)]; exact hg
theorem grow_alloc {w w1 : World} {r : Option Nat} (h : w.grownBy w1 r) (o : Obj) : w.grownBy (w1.alloc o) r := grow_trans h (grow_of_below (below_alloc w1 o) r)
/-- A row that is grown, of blocks that are newer than some. -/
theorem grow_row {w w1 w2 : World} {r rv : Option Nat} (h : w.grownBy w1 r) (hg : w1.grownBy w2 rv) (hl : ∀ k, rv = some k → w.heap.size ≤ k) : w.grownBy w2 r :=
  ⟨hg.os.trans h.os, hg.tape.trans h.tape, hg.output.trans h.output, Nat.le_trans h.size hg.size, fun k hk hn => (hg.block k (Nat.lt_of_lt_of_le hk h.size) (fun e => by have := hl k e.symm; omega)).trans (h.block k hk hn)⟩
theorem Cl.grow' {W W' : World} {q : Nat} {r : Option Nat} {t : TypeId} {cs : List Value} (h : Cl W q t cs) (hb : W.grownBy W' r) (hne : ¬ some q = r) : Cl W' q t cs := by
  have e := hb.block q h.ty.lt hne
  refine ⟨fun j v hj => ?_, fun j hj => ?_, ?_⟩
  · rw [World.cell?_of_block (a := ⟨q, j, none⟩) e]; exact h.c j v hj
  · rw [World.frozen?_of_block (a := ⟨q, j, none⟩) e]; exact h.f j hj
  · obtain ⟨cur, fr, hc⟩ := h.ty; exact ⟨cur, fr, e.trans hc⟩
/-- So many slots are read. -/
structure RdI (w wr : World) (q : Nat) (p p' : Bx.PS) (v : Value) (e : TypeId) (sz : Nat) (n : Nat) (cs : List Value) : Prop where
  pt : PtIn wr q p'
  ow : wr.ownsRow w.heap.size e sz v n cs
  gr : w.grownBy wr (some q)
  lt : q < w.heap.size
  le : p'.rest.size ≤ p.rest.size
theorem rdSlot_size (p : Bx.PS) : (Px.rdSlot p).2.rest.size ≤ p.rest.size := by
  obtain ⟨a, pa, ha⟩ : ∃ a q, Bx.numP 2 p = (a, q) := ⟨_, _, pr_eta _⟩
  obtain ⟨b, pb, hb⟩ : ∃ a q, Bx.numP 1 pa = (a, q) := ⟨_, _, pr_eta _⟩
  obtain ⟨c, pc, hc⟩ : ∃ a q, Bx.numP 5 pb = (a, q) := ⟨_, _, pr_eta _⟩
  obtain ⟨d, pd, hd⟩ : ∃ a q, Bx.numP 1 pc = (a, q) := ⟨_, _, pr_eta _⟩
  obtain ⟨e, pe, he⟩ : ∃ a q, Bx.numP 5 pd = (a, q) := ⟨_, _, pr_eta _⟩
  obtain ⟨f, pf, hf⟩ : ∃ a q, Bx.numP 1 pe = (a, q) := ⟨_, _, pr_eta _⟩
  have sa := numP_size 2 p; have sb := numP_size 1 pa; have sc := numP_size 5 pb; have sd := numP_size 1 pc; have se := numP_size 5 pd; have sf := numP_size 1 pe
  rw [ha] at sa; rw [hb] at sb; rw [hc] at sc; rw [hd] at sd; rw [he] at se; rw [hf] at sf
  rw [Px.rdSlot_eq ha hb hc hd he hf]
  simp only at sa sb sc sd se sf ⊢
  split
  · omega
  · show pf.rest.size ≤ p.rest.size; omega

set_option maxRecDepth 10000 in
set_option maxHeartbeats 2000000 in
theorem preadSlots_any (p : Bx.PS) (q : Nat) (w : World) (hs : p.rest.size ≤ 100000) (hp : PtIn w q p) :
    Calls Tryz.prog 190 #[.pointer (some ⟨q, 0, none⟩)] w fun e w' => (∃ v, e = .returned v ∧ w'.ownsRow w.heap.size 143 8 v (Px.rdSlots p).1.length ((Px.rdSlots p).1.flatMap psC)) ∧ PtIn w' q (Px.rdSlots p).2 ∧ w.grownBy w' (some q) := by
  obtain ⟨i0, hi, hz0, hz1, hz2⟩ := info_parts info_ps
  have HP : Hid (PtIn w q p) := hp
  have hq := hp.ty.lt
  clear hp
  go_enter Tryz.func190, Tryz.ntmps190
  go_wp2_with fail
  refine (pnumber_any p q 1 _ _ rfl (by decide) hs HP.out).mono ?_
  rintro ex w1 ⟨rfl, hp1, hg1⟩
  have HE : Hid (Px.rdSlots p = Px.rdSlotsK (Bx.numP 1 p).1.toNat (Bx.numP 1 p).2) := rfl
  have hb1 := Bx.numP_bd 1 p
  have hb2 := Bx.numP_lt 1 p
  have hsz := numP_size 1 p
  generalize (Bx.numP 1 p).2 = p1 at *
  generalize (Bx.numP 1 p).1 = m at *
  obtain ⟨n, rfl⟩ : ∃ n : Nat, m = n := ⟨m.toNat, by omega⟩
  have hn : n ≤ 255 := by simp at hb2; omega
  rw [Int.toNat_natCast] at HE
  have HI : Hid (RdI w (w1.alloc (.cells #[] 143)) q p p1 (.slice (some ⟨w1.heap.size, 0, none⟩) 0 0) 143 8 0 []) :=
    ⟨hp1.later (below_alloc _ _), own_mono' (own_empty w1 143 8) hg1.size, grow_alloc hg1 _, hq, hsz⟩
  clear hp1 hg1 HP hb1 hb2
  go_wp2_with fail
  go_loopw [4, 5] (fun v i wr => ∃ (k : Nat) (p' : Bx.PS) (L : List Px.Sl), k ≤ n ∧ i = .int .i64 k ∧ RdI w wr q p p' v 143 8 L.length (L.flatMap psC) ∧ L.length = k ∧ Px.rdSlots p = (L ++ (Px.rdSlotsK (n - k) p').1, (Px.rdSlotsK (n - k) p').2)) (fun _ i _ => n - (intOf i).toNat)
  case atStart => exact ⟨0, p1, [], Nat.zero_le _, rfl, HI.out, rfl, by rw [HE.out]; simp⟩
  case round =>
    obtain ⟨k, p', L, hk, rfl, hI, hLk, hE⟩ := hrel
    have HE2 : Hid (Px.rdSlots p = (L ++ (Px.rdSlotsK (n - k) p').1, (Px.rdSlotsK (n - k) p').2)) := hE
    have HI2 : Hid (RdI w wr q p p' _ 143 8 L.length (L.flatMap psC)) := hI
    have HLk : Hid (L.length = k) := hLk
    have c1 := hI.pt.c1
    have hql := hI.pt.ty.lt
    have hps := hI.le
    have hLb : L.length ≤ 255 := by omega
    clear hE hI hLk
    by_cases hlt : k < n
    · cases hw : p'.wrong
      · rw [hw] at c1
        have HN : Hid (Px.rdSlots p = (L ++ [(Px.rdSlot p').1] ++ (Px.rdSlotsK (n - (k + 1)) (Px.rdSlot p').2).1, (Px.rdSlotsK (n - (k + 1)) (Px.rdSlot p').2).2)) := by
          unfold Hid
          rw [HE2.out, show n - k = (n - (k + 1)) + 1 by omega, Px.rdSlotsK, if_neg (by rw [hw]; simp)]
          simp
        have hsl := rdSlot_size p'
        clear hw
        go_wp2_with fail
        refine (preadSlot_any p' q _ (by omega) HI2.out.pt).mono ?_
        rintro ex w2 ⟨rfl, hp2, hg2⟩
        generalize (Px.rdSlot p').2 = p2 at *
        generalize (Px.rdSlot p').1 = x at *
        have ho2 := own_grow hg2 HI2.out.lt HI2.out.ow
        have hG2 := grow_trans HI2.out.gr hg2
        have hI3 : PsIn (w2.alloc (psO x)) w2.heap.size x := PsIn.new w2 x
        have ho3 := ho2.alloc (psO x)
        have hp3 := hp2.later (below_alloc w2 (psO x))
        have hG3 := grow_alloc hG2 (psO x)
        clear hp2 hg2 ho2 hG2 c1
        go_upto_region 7 with fail
        generalize w2.alloc (psO x) = W3 at *
        generalize w2.heap.size = xq at *
        have HP3 : Hid (PtIn W3 q p2) := hp3
        have HG3 : Hid (w.grownBy W3 (some q)) := hG3
        obtain ⟨x0, x1, x2, x3, x4, x5, x6, x7⟩ := hI3
        have HS2 : Hid (p2.rest.size ≤ p.rest.size) := by unfold Hid; omega
        have hq3 := hG3.size
        clear hp3 hG3 HE2 HI2
        go_wp2_with (at_builtin; refine wpList_append_lies _ rfl (.tmp 24) (.tmp 26) 75 rfl w.heap.size 143 i0 (.agg #[.int .i64 0, .int .i64 0, .int .i64 0, .int .i64 0, .int .i64 0, .int .i64 0, .int .i64 0, .string ByteArray.empty]) 8 72 Tryz.underlying75 hi hz0 hz1 hz2 rfl (by decide) _ _ _ rfl (ho3.alloc _) ⟨W3.heap.size, 0, none⟩ 1 1 (psC x) rfl rfl (psC_new _ _ _) (psC_one x) (by decide) ?c3 ?c4 ?c5 _ rfl ?_)
        case c3 => unfold maxLen; omega
        case c4 => omega
        case c5 => simp; omega
        · intro g cap1 w4 hown' hgrow _ hlt'
          have hlo := fun k' e => (ho3.lt k' e).1
          have HI4 : Hid (RdI w w4 q p p2 (.slice (some ⟨g, 0, none⟩) (L.length + 1) cap1) 143 8 (L ++ [x]).length ((L ++ [x]).flatMap psC)) :=
            ⟨(HP3.out.later (below_alloc _ _)).grow' hgrow (fun e => by have := hlo q e.symm; omega), by simpa using hown', grow_row (grow_alloc HG3.out _) hgrow hlo, hq, HS2.out⟩
          clear hown' hgrow ho3 x0 x1 x2 x3 x4 x5 x6 x7
          go_wp2_with fail
          go_roundw
          case rel => exact ⟨k + 1, p2, L ++ [x], by omega, by go_num, HI4.out, by simp [HLk.out], HN.out⟩
          case measure => simp [intOf]; omega
      · rw [hw] at c1
        have HF : Hid (Px.rdSlots p = (L, p')) := by
          unfold Hid
          rw [HE2.out, show n - k = (n - (k + 1)) + 1 by omega, Px.rdSlotsK, if_pos hw]
          simp
        clear hw
        go_wp2_with fail
        go_ret
        rw [HF.out]
        exact ⟨⟨_, rfl, HI2.out.ow⟩, HI2.out.pt, HI2.out.gr⟩
    · have HF : Hid (Px.rdSlots p = (L, p')) := by
        unfold Hid
        rw [HE2.out, show n - k = 0 by omega, Px.rdSlotsK]
        simp
      go_wp2_with fail
      go_ret
      rw [HF.out]
      exact ⟨⟨_, rfl, HI2.out.ow⟩, HI2.out.pt, HI2.out.gr⟩

theorem rdEnd_eq (p : Bx.PS) : Px.rdEnd p = (⟨(Bx.numP 2 p).1, (Bx.txtP 1 (Bx.numP 2 p).2).1⟩, (Bx.txtP 1 (Bx.numP 2 p).2).2) := rfl
set_option maxRecDepth 10000 in
set_option maxHeartbeats 2000000 in
theorem preadEnds_any (p : Bx.PS) (q : Nat) (w : World) (hs : p.rest.size ≤ 100000) (hp : PtIn w q p) :
    Calls Tryz.prog 191 #[.pointer (some ⟨q, 0, none⟩)] w fun e w' => (∃ v, e = .returned v ∧ w'.ownsRow w.heap.size 85 2 v (Px.rdEnds p).1.length ((Px.rdEnds p).1.flatMap enC)) ∧ PtIn w' q (Px.rdEnds p).2 ∧ w.grownBy w' (some q) := by
  obtain ⟨i0, hi, hz0, hz1, hz2⟩ := info_parts info_en
  have HP : Hid (PtIn w q p) := hp
  have hq := hp.ty.lt
  clear hp
  go_enter Tryz.func191, Tryz.ntmps191
  go_wp2_with fail
  refine (pnumber_any p q 1 _ _ rfl (by decide) hs HP.out).mono ?_
  rintro ex w1 ⟨rfl, hp1, hg1⟩
  have HE : Hid (Px.rdEnds p = Px.rdEndsK (Bx.numP 1 p).1.toNat (Bx.numP 1 p).2) := rfl
  have hb1 := Bx.numP_bd 1 p
  have hb2 := Bx.numP_lt 1 p
  have hsz := numP_size 1 p
  generalize (Bx.numP 1 p).2 = p1 at *
  generalize (Bx.numP 1 p).1 = m at *
  obtain ⟨n, rfl⟩ : ∃ n : Nat, m = n := ⟨m.toNat, by omega⟩
  have hn : n ≤ 255 := by simp at hb2; omega
  rw [Int.toNat_natCast] at HE
  have HI : Hid (RdI w (w1.alloc (.cells #[] 85)) q p p1 (.slice (some ⟨w1.heap.size, 0, none⟩) 0 0) 85 2 0 []) :=
    ⟨hp1.later (below_alloc _ _), own_mono' (own_empty w1 85 2) hg1.size, grow_alloc hg1 _, hq, hsz⟩
  clear hp1 hg1 HP hb1 hb2
  go_wp2_with fail
  go_loopw [4, 5] (fun v i wr => ∃ (k : Nat) (p' : Bx.PS) (L : List Bx.En), k ≤ n ∧ i = .int .i64 k ∧ RdI w wr q p p' v 85 2 L.length (L.flatMap enC) ∧ L.length = k ∧ Px.rdEnds p = (L ++ (Px.rdEndsK (n - k) p').1, (Px.rdEndsK (n - k) p').2)) (fun _ i _ => n - (intOf i).toNat)
  case atStart => exact ⟨0, p1, [], Nat.zero_le _, rfl, HI.out, rfl, by rw [HE.out]; simp⟩
  case round =>
    obtain ⟨k, p', L, hk, rfl, hI, hLk, hE⟩ := hrel
    have HE2 : Hid (Px.rdEnds p = (L ++ (Px.rdEndsK (n - k) p').1, (Px.rdEndsK (n - k) p').2)) := hE
    have HI2 : Hid (RdI w wr q p p' _ 85 2 L.length (L.flatMap enC)) := hI
    have HLk : Hid (L.length = k) := hLk
    have c1 := hI.pt.c1
    have hql := hI.pt.ty.lt
    have hps := hI.le
    have hLb : L.length ≤ 255 := by omega
    clear hE hI hLk
    by_cases hlt : k < n
    · cases hw : p'.wrong
      · rw [hw] at c1
        have HN : Hid (Px.rdEnds p = (L ++ [(⟨(Bx.numP 2 p').1, (Bx.txtP 1 (Bx.numP 2 p').2).1⟩ : Bx.En)] ++ (Px.rdEndsK (n - (k + 1)) (Bx.txtP 1 (Bx.numP 2 p').2).2).1, (Px.rdEndsK (n - (k + 1)) (Bx.txtP 1 (Bx.numP 2 p').2).2).2)) := by
          unfold Hid
          rw [HE2.out, show n - k = (n - (k + 1)) + 1 by omega, Px.rdEndsK, if_neg (by rw [hw]; simp), rdEnd_eq]
          simp
        have hsl := numP_size 2 p'
        have hsl2 := txtP_size 1 (Bx.numP 2 p').2
        clear hw
        go_wp2_with fail
        refine (pnumber_any p' q 2 _ _ rfl (by decide) (by omega) HI2.out.pt).mono ?_
        rintro ex w2 ⟨rfl, hp2, hg2⟩
        generalize (Bx.numP 2 p').2 = p2 at *
        generalize (Bx.numP 2 p').1 = nm at *
        have HP2 : Hid (PtIn w2 q p2) := hp2
        have HO2 : Hid (w2.ownsRow w.heap.size 85 2 _ L.length (L.flatMap enC)) := own_grow hg2 HI2.out.lt HI2.out.ow
        have HG2 : Hid (w.grownBy w2 (some q)) := grow_trans HI2.out.gr hg2
        clear hp2 hg2 c1
        go_wp2_with fail
        refine (ptext_any p2 q 1 _ (by omega) HP2.out).mono ?_
        rintro ex w3 ⟨rfl, hp3, hg3⟩
        generalize (Bx.txtP 1 p2).2 = p3 at *
        generalize (Bx.txtP 1 p2).1 = how at *
        have ho3 := own_grow hg3 HI2.out.lt HO2.out
        have HP3 : Hid (PtIn w3 q p3) := hp3
        have HG3 : Hid (w.grownBy w3 (some q)) := grow_trans HG2.out hg3
        have HS2 : Hid (p3.rest.size ≤ p.rest.size) := by unfold Hid; omega
        have hq3 := HG3.out.size
        clear hp3 hg3 HE2 HI2 HO2
        go_wp2_with (at_builtin; refine wpList_append_lies _ rfl (.tmp 27) (.tmp 31) 38 rfl w.heap.size 85 i0 (.agg #[.int .i64 0, .string ByteArray.empty]) 2 24 Tryz.underlying38 hi hz0 hz1 hz2 rfl (by decide) _ _ _ rfl (ho3.alloc _) ⟨w3.heap.size, 0, none⟩ 1 1 (enC ⟨nm, how⟩) rfl rfl (enC_new' _ _ _) (enC_one' _) (by decide) ?c3 ?c4 ?c5 _ rfl ?_)
        case c3 => unfold maxLen; omega
        case c4 => omega
        case c5 => simp; omega
        · intro g cap1 w4 hown' hgrow _ hlt'
          have hlo := fun k' e => (ho3.lt k' e).1
          have HI4 : Hid (RdI w w4 q p p3 (.slice (some ⟨g, 0, none⟩) (L.length + 1) cap1) 85 2 (L ++ [(⟨nm, how⟩ : Bx.En)]).length ((L ++ [(⟨nm, how⟩ : Bx.En)]).flatMap enC)) :=
            ⟨(HP3.out.later (below_alloc _ _)).grow' hgrow (fun e => by have := hlo q e.symm; omega), by simpa using hown', grow_row (grow_alloc HG3.out _) hgrow hlo, hq, HS2.out⟩
          clear hown' hgrow ho3
          go_wp2_with fail
          go_roundw
          case rel => exact ⟨k + 1, p3, L ++ [(⟨nm, how⟩ : Bx.En)], by omega, by go_num, HI4.out, by simp [HLk.out], HN.out⟩
          case measure => simp [intOf]; omega
      · rw [hw] at c1
        have HF : Hid (Px.rdEnds p = (L, p')) := by
          unfold Hid
          rw [HE2.out, show n - k = (n - (k + 1)) + 1 by omega, Px.rdEndsK, if_pos hw]
          simp
        clear hw
        go_wp2_with fail
        go_ret
        rw [HF.out]
        exact ⟨⟨_, rfl, HI2.out.ow⟩, HI2.out.pt, HI2.out.gr⟩
    · have HF : Hid (Px.rdEnds p = (L, p')) := by
        unfold Hid
        rw [HE2.out, show n - k = 0 by omega, Px.rdEndsK]
        simp
      go_wp2_with fail
      go_ret
      rw [HF.out]
      exact ⟨⟨_, rfl, HI2.out.ow⟩, HI2.out.pt, HI2.out.gr⟩
end Go.Proofs.YtdajolpoiffimabGreatDoor

namespace Go.Proofs.YtdajolpoiffimabGreatDoor
open Go.RowKit

theorem rdSlots_size (p : Bx.PS) : (Px.rdSlots p).2.rest.size ≤ p.rest.size := by
  have : ∀ k p, (Px.rdSlotsK k p).2.rest.size ≤ p.rest.size := by
    intro k
    induction k with
    | zero => intro p; exact Nat.le_refl _
    | succ k ih =>
      intro p
      rw [Px.rdSlotsK]; split
      · exact Nat.le_refl _
      · exact Nat.le_trans (ih _) (rdSlot_size p)
  exact Nat.le_trans (this _ _) (numP_size 1 p)
theorem rdEnds_size (p : Bx.PS) : (Px.rdEnds p).2.rest.size ≤ p.rest.size := by
  have : ∀ k p, (Px.rdEndsK k p).2.rest.size ≤ p.rest.size := by
    intro k
    induction k with
    | zero => intro p; exact Nat.le_refl _
    | succ k ih =>
      intro p
      rw [Px.rdEndsK]; split
      · exact Nat.le_refl _
      · exact Nat.le_trans (ih _) (Nat.le_trans (txtP_size _ _) (numP_size _ _))
  exact Nat.le_trans (this _ _) (numP_size 1 p)
theorem TRow.grow' {w w' : World} {e : TypeId} {v : Value} {n q : Nat} {cs : List Value} {t : TypeId} (h : TRow w e v n cs) (hg : w.grownBy w' (some q)) (ht : Typed w q t) (hne : e ≠ t) : TRow w' e v n cs := by
  have far : ∀ b off m cap, v = .slice (some ⟨b, off, none⟩) m cap → ¬ some b = some q := fun b off m cap hv e' => by
    cases e'
    obtain ⟨c1, f1, h1⟩ := h.2 _ off m cap hv
    obtain ⟨c2, f2, h2⟩ := ht
    rw [h1] at h2; cases h2; exact hne rfl
  refine ⟨?_, fun b off m cap hv => ?_⟩
  · rcases h.1 with a | ⟨b, off, cap, hv, hle, hc⟩
    · exact Or.inl a
    · exact Or.inr ⟨b, off, cap, hv, hle, fun j hj => by
        have hl : b < w.heap.size := World.block_lt_of_cell? _ _ (hc j hj)
        rw [World.cell?_of_block (a := ⟨b, off + j, none⟩) (hg.block b hl (far b off n cap hv))]; exact hc j hj⟩
  · obtain ⟨c1, f1, h1⟩ := h.2 b off m cap hv
    exact ⟨c1, f1, (hg.block b (heap_lt h1) (far b off m cap hv)).trans h1⟩
theorem grow_new5 {w w1 : World} {r : Option Nat} (h : w.grownBy w1 r) {g : Nat} (hg : w.heap.size ≤ g) (u0 u1 u2 u3 u4 : Value) : w.grownBy (((((w1.setCell ⟨g, 0, none⟩ u0).setCell ⟨g, 1, none⟩ u1).setCell ⟨g, 2, none⟩ u2).setCell ⟨g, 3, none⟩ u3).setCell ⟨g, 4, none⟩ u4) r :=
  grow_new (grow_new (grow_new (grow_new (grow_new h hg _ _) hg _ _) hg _ _) hg _ _) hg _ _
theorem Cl.far5 {w1 : World} {q g : Nat} {t : TypeId} {cs : List Value} (h : Cl w1 q t cs) (hn : q ≠ g) (u0 u1 u2 u3 u4 : Value) : Cl (((((w1.setCell ⟨g, 0, none⟩ u0).setCell ⟨g, 1, none⟩ u1).setCell ⟨g, 2, none⟩ u2).setCell ⟨g, 3, none⟩ u3).setCell ⟨g, 4, none⟩ u4) q t cs :=
  ((((h.far hn _ _).far hn _ _).far hn _ _).far hn _ _).far hn _ _
/-- Where readState is. -/
structure RZ (w W : World) (q : Nat) (p : Bx.PS) : Prop where
  p : PtIn W q p
  z : Cl W w.heap.size 77 [.string { data := #[] }, .int .i64 0, .int .i64 0, .slice none 0 0, .slice none 0 0]
  g : w.grownBy W (some q)
  q : q < w.heap.size
theorem RZ.call {w W W' : World} {q : Nat} {p p' : Bx.PS} (h : RZ w W q p) (hp : PtIn W' q p') (hg : W.grownBy W' (some q)) : RZ w W' q p' :=
  ⟨hp, h.z.grow hg (by have := h.q; omega), grow_trans h.g hg, h.q⟩
set_option maxRecDepth 10000 in
set_option maxHeartbeats 2000000 in
theorem preadState_any (p : Bx.PS) (q : Nat) (w : World) (hs : p.rest.size ≤ 100000) (hp : PtIn w q p) :
    Calls Tryz.prog 165 #[.pointer (some ⟨q, 0, none⟩)] w fun e w' => (∃ sl en, e = .returned (pstV (Px.rdState p).1 sl en) ∧ PAt w' (Px.rdState p).1 sl en) ∧ PtIn w' q (Px.rdState p).2 ∧ w.grownBy w' (some q) := by
  obtain ⟨c, pc, hc⟩ : ∃ a q, Bx.numP 5 p = (a, q) := ⟨_, _, pr_eta _⟩
  obtain ⟨n, pn, hn⟩ : ∃ a q, Bx.numP 2 pc = (a, q) := ⟨_, _, pr_eta _⟩
  obtain ⟨l, pl, hl⟩ : ∃ a q, Bx.numP 2 pn = (a, q) := ⟨_, _, pr_eta _⟩
  obtain ⟨t, pt, ht⟩ : ∃ a q, Bx.txtP l pl = (a, q) := ⟨_, _, pr_eta _⟩
  obtain ⟨sl, ps, hsl⟩ : ∃ a q, Px.rdSlots pt = (a, q) := ⟨_, _, pr_eta _⟩
  obtain ⟨en, pe, hen⟩ : ∃ a q, Px.rdEnds ps = (a, q) := ⟨_, _, pr_eta _⟩
  have HE : Hid (Px.rdState p = (⟨t, c - 1, n, sl, en⟩, pe)) := Px.rdState_eq hc hn hl ht hsl hen
  have sa := numP_size 5 p; have sb := numP_size 2 pc; have sc := numP_size 2 pn; have sd := txtP_size l pl; have se := rdSlots_size pt
  have c1 := Bx.numP_bd 5 p; have c2 := Bx.numP_lt 5 p
  rw [hc] at sa c1 c2; rw [hn] at sb; rw [hl] at sc; rw [ht] at sd; rw [hsl] at se
  simp only at sa sb sc sd se c1 c2
  have c3 : c < 1099511627776 := by simpa using c2
  have Hc : Hid (Bx.numP 5 p = (c, pc)) := hc
  have Hn : Hid (Bx.numP 2 pc = (n, pn)) := hn
  have Hl : Hid (Bx.numP 2 pn = (l, pl)) := hl
  have Ht : Hid (Bx.txtP l pl = (t, pt)) := ht
  have Hs : Hid (Px.rdSlots pt = (sl, ps)) := hsl
  have He : Hid (Px.rdEnds ps = (en, pe)) := hen
  clear hc hn hl ht hsl hen c2
  have hR : RZ w (w.alloc (.cells #[.string { data := #[] }, .int .i64 0, .int .i64 0, .slice none 0 0, .slice none 0 0] 77)) q p := by
    have b1 := below_alloc w (.cells #[.string { data := #[] }, .int .i64 0, .int .i64 0, .slice none 0 0, .slice none 0 0] 77)
    exact ⟨hp.later b1, Cl.new w [.string { data := #[] }, .int .i64 0, .int .i64 0, .slice none 0 0, .slice none 0 0] 77, grow_of_below b1 _, hp.ty.lt⟩
  clear hp
  go_enter Tryz.func165, Tryz.ntmps165
  go_upto_region 1 with fail
  generalize w.alloc (.cells #[.string { data := #[] }, .int .i64 0, .int .i64 0, .slice none 0 0, .slice none 0 0] 77) = W at *
  have HR0 : Hid (RZ w W q p) := hR
  clear hR
  go_wp2_with fail
  refine (pnumber_any p q 5 _ _ rfl (by decide) (by omega) HR0.out.p).mono ?_
  rintro ex w1 ⟨rfl, hp1, hg1⟩
  rw [Hc.out] at hp1 ⊢
  simp only at hp1
  have HR1 : Hid (RZ w w1 q pc) := HR0.out.call hp1 hg1
  clear hp1 hg1 HR0
  go_wp2_with fail
  refine (pnumber_any pc q 2 _ _ rfl (by decide) (by omega) HR1.out.p).mono ?_
  rintro ex w2 ⟨rfl, hp1, hg1⟩
  rw [Hn.out] at hp1 ⊢
  simp only at hp1
  have HR2 : Hid (RZ w w2 q pn) := HR1.out.call hp1 hg1
  clear hp1 hg1 HR1
  go_wp2_with fail
  refine (pnumber_any pn q 2 _ _ rfl (by decide) (by omega) HR2.out.p).mono ?_
  rintro ex w3 ⟨rfl, hp1, hg1⟩
  rw [Hl.out] at hp1 ⊢
  simp only at hp1
  have HR3 : Hid (RZ w w3 q pl) := HR2.out.call hp1 hg1
  clear hp1 hg1 HR2
  go_wp2_with fail
  refine (ptext_any pl q l _ (by omega) HR3.out.p).mono ?_
  rintro ex w4 ⟨rfl, hp1, hg1⟩
  rw [Ht.out] at hp1 ⊢
  simp only at hp1
  have HR4 : Hid (RZ w w4 q pt) := HR3.out.call hp1 hg1
  clear hp1 hg1 HR3
  go_wp2_with fail
  refine (preadSlots_any pt q _ (by omega) HR4.out.p).mono ?_
  rintro ex w5 ⟨⟨v5, rfl, ho5⟩, hp1, hg1⟩
  rw [Hs.out] at hp1 ho5
  simp only at hp1 ho5
  have HR5 : Hid (RZ w w5 q ps) := HR4.out.call hp1 hg1
  have hT5 := TRow.of_own ho5
  obtain ⟨ad5, cap5, hv5, _⟩ := hT5.form
  subst hv5
  have HT5 : Hid (TRow w5 143 (.slice ad5 sl.length cap5) sl.length (sl.flatMap psC)) := hT5
  clear hp1 hg1 HR4 ho5 hT5
  go_wp2_with fail
  refine (preadEnds_any ps q _ (by omega) HR5.out.p).mono ?_
  rintro ex w6 ⟨⟨v6, rfl, ho6⟩, hp1, hg1⟩
  rw [He.out] at hp1 ho6
  simp only at hp1 ho6
  have HR6 : Hid (RZ w w6 q pe) := HR5.out.call hp1 hg1
  have hT6 := TRow.of_own ho6
  obtain ⟨ad6, cap6, hv6, _⟩ := hT6.form
  subst hv6
  have HT6 : Hid (PAt w6 ⟨t, c - 1, n, sl, en⟩ (.slice ad5 sl.length cap5) (.slice ad6 en.length cap6)) := ⟨HT5.out.grow' hg1 HR5.out.p.ty (by decide), hT6⟩
  clear hp1 hg1 HR5 ho6 hT6 HT5
  have z0 := HR6.out.z.c 0 _ rfl; have z1 := HR6.out.z.c 1 _ rfl; have z2 := HR6.out.z.c 2 _ rfl; have z3 := HR6.out.z.c 3 _ rfl; have z4 := HR6.out.z.c 4 _ rfl
  have f0 := HR6.out.z.f 0 (by simp); have f1 := HR6.out.z.f 1 (by simp); have f2 := HR6.out.z.f 2 (by simp); have f3 := HR6.out.z.f 3 (by simp); have f4 := HR6.out.z.f 4 (by simp)
  have yz := HR6.out.z.ty.lt
  go_wp2_with fail
  refine bodyPost_ret (v := pstV ⟨t, c - 1, n, sl, en⟩ (.slice ad5 sl.length cap5) (.slice ad6 en.length cap6)) (by simp [results, Tryz.results165, go_sem, z0, z1, z2, z3, z4]) rfl ?_
  rw [HE.out]
  exact ⟨⟨_, _, rfl, HT6.out.store HR6.out.z.ty _ _ _ _ _⟩, HR6.out.p.far5 (by have := HR6.out.q; omega) _ _ _ _ _, grow_new5 HR6.out.g (Nat.le_refl _) _ _ _ _ _⟩
end Go.Proofs.YtdajolpoiffimabGreatDoor

namespace Go.Proofs.YtdajolpoiffimabGreatDoor
open Go.RowKit

/-- What a frame tells. -/
structure Ct where
  kind : ByteArray
  tab : ByteArray
  num : Int
  st : Px.St
  size : Int
abbrev ctC (c : Ct) (sl en : Value) : List Value := [.string c.kind, .string c.tab, .int .i64 c.num, .string c.st.tab, .int .i64 c.st.clock, .int .i64 c.st.next, sl, en, .int .i64 c.size]
abbrev ctV (c : Ct) (sl en : Value) : Value := .agg (ctC c sl en).toArray
def ct0 : Ct := ⟨ByteArray.empty, ByteArray.empty, 0, Px.st0, 0⟩
abbrev nilS : Value := .slice none 0 0
/-- A change, as a frame tells it; a whole state, as a frame tells it. -/
def IsC (b : ByteArray) (c : Ct) : Prop := ∃ h : Bx.Ch, Bx.IsCh b h ∧ c.kind = Bx.b1 h.kind ∧ c.tab = h.tab ∧ c.num = h.n
def IsW (b : ByteArray) (c : Ct) : Prop := c.kind = Bx.b1 90 ∧ Bx.wholeS (Px.abs c.st) = b ∧ Bx.StFit (Px.abs c.st) ∧ (∀ x ∈ c.st.slots, Px.Fresh x) ∧ -1 ≤ c.st.clock
/-- What readBody answers. -/
inductive BodyR (b : ByteArray) (w' : World) : Ending → Prop
  | ch (c : Ct) (h : IsC b c) (hs : c.st = Px.st0) (hz : c.size = 0) : BodyR b w' (.returned (.tuple #[ctV c nilS nilS, .bool true]))
  | wh (c : Ct) (sl en : Value) (h : IsW b c) (hz : c.size = 0) (ha : PAt w' c.st sl en) : BodyR b w' (.returned (.tuple #[ctV c sl en, .bool true]))
  | no (c : Ct) (sl en : Value) (h1 : ¬ ∃ h, Bx.IsCh b h) (h2 : ¬ ∃ s, Bx.StFit s ∧ Bx.wholeS s = b) (ha : (∃ ad cap, sl = .slice ad c.st.slots.length cap) ∧ ∃ ad cap, en = .slice ad c.st.ends.length cap) : BodyR b w' (.returned (.tuple #[ctV c sl en, .bool false]))
theorem below_set9 {n R : Nat} {w w' : World} (h : Below n w w') (hR : n ≤ R) (v0 v1 v2 v3 v4 v5 v6 v7 v8 : Value) : Below n w (((((((((w'.setCell ⟨R, 0, none⟩ v0).setCell ⟨R, 1, none⟩ v1).setCell ⟨R, 2, none⟩ v2).setCell ⟨R, 3, none⟩ v3).setCell ⟨R, 4, none⟩ v4).setCell ⟨R, 5, none⟩ v5).setCell ⟨R, 6, none⟩ v6).setCell ⟨R, 7, none⟩ v7).setCell ⟨R, 8, none⟩ v8) := by
  repeat (refine Below.setCell ?_ hR _)
  exact h
/-- Where readBody is: the result, the parts, the content. -/
structure RB (w W : World) (p : Bx.PS) (cs : List Value) : Prop where
  z : Cl W w.heap.size 163 (ctC ct0 nilS nilS)
  p : PtIn W (w.heap.size + 1) p
  c : Cl W (w.heap.size + 2) 163 cs
  b : Below w.heap.size w W
theorem RB.call {w W W' : World} {p p' : Bx.PS} {cs : List Value} (h : RB w W p cs) (hp : PtIn W' (w.heap.size + 1) p') (hg : W.grownBy W' (some (w.heap.size + 1))) : RB w W' p' cs :=
  ⟨h.z.grow hg (by omega), hp, h.c.grow hg (by omega), ⟨hg.os.trans h.b.os, hg.tape.trans h.b.tape, hg.output.trans h.b.output, Nat.le_trans h.b.size hg.size, fun k hk => (hg.block k (Nat.lt_of_lt_of_le hk h.b.size) (fun e => by cases e; omega)).trans (h.b.block k hk)⟩⟩
theorem RB.put {w W : World} {p : Bx.PS} {cs : List Value} (h : RB w W p cs) (j : Nat) (v : Value) (hj : j < cs.length) : RB w (W.setCell ⟨w.heap.size + 2, j, none⟩ v) p (cs.set j v) :=
  ⟨h.z.far (by omega) _ _, h.p.far (by omega) _ _, h.c.set j hj v, h.b.setCell (by show w.heap.size ≤ w.heap.size + 2; omega) _⟩
theorem RB.new (w : World) (b : ByteArray) : RB w (((w.alloc (.cells (ctC ct0 nilS nilS).toArray 163)).alloc (.cells (ptC ⟨b, false⟩).toArray 207)).alloc (.cells (ctC ct0 nilS nilS).toArray 163)) ⟨b, false⟩ (ctC ct0 nilS nilS) := by
  have b1 := below_alloc w (.cells (ctC ct0 nilS nilS).toArray 163)
  have z1 : (w.alloc (.cells (ctC ct0 nilS nilS).toArray 163)).heap.size = w.heap.size + 1 := by simp
  have b2 := below_alloc (w.alloc (.cells (ctC ct0 nilS nilS).toArray 163)) (.cells (ptC ⟨b, false⟩).toArray 207)
  have z2 : ((w.alloc (.cells (ctC ct0 nilS nilS).toArray 163)).alloc (.cells (ptC ⟨b, false⟩).toArray 207)).heap.size = w.heap.size + 2 := by simp
  have b3 := below_alloc ((w.alloc (.cells (ctC ct0 nilS nilS).toArray 163)).alloc (.cells (ptC ⟨b, false⟩).toArray 207)) (.cells (ctC ct0 nilS nilS).toArray 163)
  have n2 := Cl.new (w.alloc (.cells (ctC ct0 nilS nilS).toArray 163)) (ptC ⟨b, false⟩) 207
  have n3 := Cl.new ((w.alloc (.cells (ctC ct0 nilS nilS).toArray 163)).alloc (.cells (ptC ⟨b, false⟩).toArray 207)) (ctC ct0 nilS nilS) 163
  rw [z1] at n2
  rw [z2] at n3
  exact ⟨((Cl.new w (ctC ct0 nilS nilS) 163).later b2).later b3, n2.later b3, n3, (b1.trans (b2.mono b1.size)).trans (b3.mono (by rw [z2]; omega))⟩
theorem lit_eq {h : ByteArray} {l : List UInt8} (e : h = ⟨l.toArray⟩) : (h.toList == l) = true := by
  subst e; simp [ByteArray.toList_eq]
theorem isEmpty_iff (r : ByteArray) : r.toList.isEmpty = true ↔ r = ByteArray.empty := by
  rw [ByteArray.toList_eq]
  constructor
  · intro h; exact Bx.ba_ext (by simpa using h)
  · intro h; subst h; rfl
theorem txt1_head (b : ByteArray) (h : 0 < b.size) : ∃ k : Int, 0 ≤ k ∧ k < 256 ∧ Bx.txtP 1 ⟨b, false⟩ = (Bx.b1 k, ⟨b.extract 1 b.size, false⟩) ∧ b = Bx.b1 k ++ b.extract 1 b.size := by
  obtain ⟨t, q, ht⟩ : ∃ t q, Bx.txtP 1 ⟨b, false⟩ = (t, q) := ⟨_, _, pr_eta _⟩
  have e : Bx.txtP 1 ⟨b, false⟩ = (b.extract 0 1, ⟨b.extract 1 b.size, false⟩) := by unfold Bx.txtP; rw [if_neg (by simp; omega)]; rfl
  have hs : (b.extract 0 1).size = 1 := by simp; omega
  have hb := Bx.be_nB' hs
  rw [← Bx.b1_be] at hb
  have hlt := Bx.nb_lt (b.extract 0 1).data.toList
  rw [Bx.ba_len, hs] at hlt
  have h9 : Bx.nB (b.extract 0 1) < 256 := hlt
  refine ⟨Bx.nB (b.extract 0 1), Bx.nb_nonneg _, h9, by rw [e, hb], by rw [hb]; exact (Bx.ext_split b 1).symm⟩
theorem b1_lit (k : Int) (h0 : 0 ≤ k) (h1 : k < 256) (n : UInt8) : Bx.b1 k = ⟨[n].toArray⟩ ↔ k = (n.toNat : Int) := by
  constructor
  · intro h
    have h2 : Bx.nB (Bx.b1 k) = k := by rw [Bx.b1_be]; exact Bx.nB_be k 1 h0 (by simpa using h1)
    rw [h] at h2
    rw [← h2]; simp [Bx.nB, Bx.nb]
  · intro h
    subst h
    refine Bx.ba_ext ?_
    rw [Bx.b1_list]
    simp
    have : ((n.toNat : Int) % 256).toNat = n.toNat := by have := n.toNat_lt; omega
    rw [this]; simp
theorem PAt.store9 {W : World} {q : Nat} {s : Px.St} {sl en : Value} (h : PAt W s sl en) (ty : Typed W q 163) (u0 u1 u2 u3 u4 u5 u6 u7 u8 : Value) :
    PAt (((((((((W.setCell ⟨q, 0, none⟩ u0).setCell ⟨q, 1, none⟩ u1).setCell ⟨q, 2, none⟩ u2).setCell ⟨q, 3, none⟩ u3).setCell ⟨q, 4, none⟩ u4).setCell ⟨q, 5, none⟩ u5).setCell ⟨q, 6, none⟩ u6).setCell ⟨q, 7, none⟩ u7).setCell ⟨q, 8, none⟩ u8) s sl en := by
  have q : ∀ (w : World) (j : Nat) (u : Value), (Typed w q 163 ∧ PAt w s sl en) → (Typed (w.setCell ⟨q, j, none⟩ u) q 163 ∧ PAt (w.setCell ⟨q, j, none⟩ u) s sl en) := fun w j u h => ⟨h.1.setCell _ _ _, h.2.set h.1 (by decide) (by decide) _ _⟩
  exact (q _ _ _ (q _ _ _ (q _ _ _ (q _ _ _ (q _ _ _ (q _ _ _ (q _ _ _ (q _ _ _ (q _ _ _ ⟨ty, h⟩))))))))).2

set_option maxRecDepth 10000 in
set_option maxHeartbeats 4000000 in
theorem readBody_T (b : ByteArray) (k : Int) (w : World) (hb : b.size ≤ 100000) (h0 : 0 ≤ k) (h1 : k < 256) (hk : k = 84) (ht : Bx.txtP 1 ⟨b, false⟩ = (Bx.b1 k, ⟨b.extract 1 b.size, false⟩)) (he : b = Bx.b1 k ++ b.extract 1 b.size) :
    Calls Tryz.prog 134 #[.string b] w fun e w' => BodyR b w' e ∧ Below w.heap.size w w' := by
  have HT : Hid (Bx.txtP 1 ⟨b, false⟩ = (Bx.b1 k, ⟨b.extract 1 b.size, false⟩)) := ht
  have HE : Hid (b = Bx.b1 k ++ b.extract 1 b.size) := he
  have hsz : (b.extract 1 b.size).size ≤ 100000 := by simp; omega
  have e84 : ((Bx.b1 k).toList == [84]) = true := lit_eq ((b1_lit k h0 h1 84).2 (by rw [hk]; rfl))
  have e67 : ((Bx.b1 k).toList == [67]) = false := lit_ne (l := [67]) (fun q => by have := (b1_lit k h0 h1 67).1 q; simp at this; omega)
  have e83 : ((Bx.b1 k).toList == [83]) = false := lit_ne (l := [83]) (fun q => by have := (b1_lit k h0 h1 83).1 q; simp at this; omega)
  have e68 : ((Bx.b1 k).toList == [68]) = false := lit_ne (l := [68]) (fun q => by have := (b1_lit k h0 h1 68).1 q; simp at this; omega)
  have e70 : ((Bx.b1 k).toList == [70]) = false := lit_ne (l := [70]) (fun q => by have := (b1_lit k h0 h1 70).1 q; simp at this; omega)
  have e75 : ((Bx.b1 k).toList == [75]) = false := lit_ne (l := [75]) (fun q => by have := (b1_lit k h0 h1 75).1 q; simp at this; omega)
  have e90 : ((Bx.b1 k).toList == [90]) = false := lit_ne (l := [90]) (fun q => by have := (b1_lit k h0 h1 90).1 q; simp at this; omega)
  have HKd : Hid (∀ kd, kd = Bx.b1 k → kd = Bx.b1 k) := fun _ h => h
  generalize hkd : Bx.b1 k = kd at *
  have HKD : Hid (Bx.b1 k = kd) := hkd
  generalize hr : b.extract 1 b.size = r at *
  have HRr : Hid (b.extract 1 b.size = r) := hr
  clear hkd hr ht he HKd
  have hN := RB.new w b
  go_enter Tryz.func134, Tryz.ntmps134
  go_upto_region 3 with fail
  have hN' : RB w (((w.alloc (.cells #[.string { data := #[] }, .string { data := #[] }, .int .i64 0, .string { data := #[] }, .int .i64 0, .int .i64 0, .slice none 0 0, .slice none 0 0, .int .i64 0] 163)).alloc (.cells #[.string b, .bool false] 207)).alloc (.cells #[.string { data := #[] }, .string { data := #[] }, .int .i64 0, .string { data := #[] }, .int .i64 0, .int .i64 0, .slice none 0 0, .slice none 0 0, .int .i64 0] 163)) ⟨b, false⟩ (ctC ct0 nilS nilS) := hN
  clear hN
  generalize ((w.alloc (.cells #[.string { data := #[] }, .string { data := #[] }, .int .i64 0, .string { data := #[] }, .int .i64 0, .int .i64 0, .slice none 0 0, .slice none 0 0, .int .i64 0] 163)).alloc (.cells #[.string b, .bool false] 207)).alloc (.cells #[.string { data := #[] }, .string { data := #[] }, .int .i64 0, .string { data := #[] }, .int .i64 0, .int .i64 0, .slice none 0 0, .slice none 0 0, .int .i64 0] 163) = W at *
  have HN0 : Hid (RB w W ⟨b, false⟩ (ctC ct0 nilS nilS)) := hN'
  clear hN'
  go_wp2_with fail
  refine (ptext_any ⟨b, false⟩ (w.heap.size + 1) 1 _ hb HN0.out.p).mono ?_
  rintro ex w1 ⟨rfl, hp1, hg1⟩
  rw [HT.out] at hp1 ⊢
  simp only at hp1
  have hR1 := HN0.out.call hp1 hg1
  have s0 := hR1.c.c 0 _ rfl
  have t0 := hR1.c.f 0 (by simp)
  have y0 := hR1.c.ty.lt
  have hT1 := hR1.put 0 (.string kd) (by simp)
  clear hp1 hg1 hR1 HN0
  go_upto_region 4 with fail
  clear s0 t0 y0
  generalize w1.setCell ⟨w.heap.size + 2, 0, none⟩ (.string kd) = W1 at *
  have HR1 : Hid (RB w W1 ⟨r, false⟩ ((ctC ct0 nilS nilS).set 0 (.string kd))) := hT1
  have k0 := hT1.c.c 0 _ rfl
  have yk := hT1.c.ty.lt
  have pc0 := hT1.p.c0
  have yp := hT1.p.ty.lt
  clear hT1
  have HA : Hid (Bx.txtP (r.size : Int) ⟨r, false⟩ = (r, ⟨ByteArray.empty, false⟩)) := by
    have := Bx.txtP_app r ByteArray.empty false (r.size : Int) rfl
    rw [ByteArray.append_empty] at this; exact this
  go_wp2_with fail
  refine (ptext_any ⟨r, false⟩ (w.heap.size + 1) r.size _ hsz HR1.out.p).mono ?_
  rintro ex w2 ⟨rfl, hp1, hg1⟩
  rw [HA.out] at hp1 ⊢
  simp only at hp1
  have hR2 := HR1.out.call hp1 hg1
  have s0 := hR2.c.c 1 _ rfl
  have t0 := hR2.c.f 1 (by simp)
  have y0 := hR2.c.ty.lt
  have hT3 := hR2.put 1 (.string r) (by simp)
  clear hp1 hg1 hR2 HR1 k0 yk pc0 yp
  go_upto_region 18 with fail
  clear s0 t0 y0
  generalize w2.setCell ⟨w.heap.size + 2, 1, none⟩ (.string r) = W3 at *
  have HR3 : Hid (RB w W3 ⟨ByteArray.empty, false⟩ (((ctC ct0 nilS nilS).set 0 (.string kd)).set 1 (.string r))) := hT3
  clear hT3
  go_wp2_with fail
  refine (pright_any ⟨ByteArray.empty, false⟩ (w.heap.size + 1) _ HR3.out.p).mono ?_
  rintro ex w4 ⟨rfl, rfl⟩
  have hR := HR3.out
  have x0 := hR.c.c 0 _ rfl; have x1 := hR.c.c 1 _ rfl; have x2 := hR.c.c 2 _ rfl; have x3 := hR.c.c 3 _ rfl; have x4 := hR.c.c 4 _ rfl; have x5 := hR.c.c 5 _ rfl; have x6 := hR.c.c 6 _ rfl; have x7 := hR.c.c 7 _ rfl; have x8 := hR.c.c 8 _ rfl
  have z0 := hR.z.c 0 _ rfl; have z1 := hR.z.c 1 _ rfl; have z2 := hR.z.c 2 _ rfl; have z3 := hR.z.c 3 _ rfl; have z4 := hR.z.c 4 _ rfl; have z5 := hR.z.c 5 _ rfl; have z6 := hR.z.c 6 _ rfl; have z7 := hR.z.c 7 _ rfl; have z8 := hR.z.c 8 _ rfl
  have f0 := hR.z.f 0 (by simp); have f1 := hR.z.f 1 (by simp); have f2 := hR.z.f 2 (by simp); have f3 := hR.z.f 3 (by simp); have f4 := hR.z.f 4 (by simp); have f5 := hR.z.f 5 (by simp); have f6 := hR.z.f 6 (by simp); have f7 := hR.z.f 7 (by simp); have f8 := hR.z.f 8 (by simp)
  have yz := hR.z.ty.lt
  have yx := hR.c.ty.lt
  clear hR
  have HF : Hid (IsC b ⟨kd, r, 0, Px.st0, 0⟩) := by
    refine ⟨⟨84, r, 0⟩, ?_, by rw [← HKD.out, hk], rfl, rfl⟩
    have := Bx.body_T r
    rw [HE.out, ← HKD.out, hk]; exact this
  go_wp2_with fail
  refine bodyPost_ret (v := .tuple #[ctV ⟨kd, r, 0, Px.st0, 0⟩ nilS nilS, .bool true]) (by simp [results, Tryz.results134, go_sem, z0, z1, z2, z3, z4, z5, z6, z7, z8, ct0, Px.st0]) rfl ⟨BodyR.ch _ HF.out rfl rfl, below_set9 HR3.out.b (Nat.le_refl _) _ _ _ _ _ _ _ _ _⟩

set_option maxRecDepth 10000 in
set_option maxHeartbeats 4000000 in
theorem readBody_C (b : ByteArray) (k : Int) (w : World) (hb : b.size ≤ 100000) (h0 : 0 ≤ k) (h1 : k < 256) (hk : k = 67) (ht : Bx.txtP 1 ⟨b, false⟩ = (Bx.b1 k, ⟨b.extract 1 b.size, false⟩)) (he : b = Bx.b1 k ++ b.extract 1 b.size) :
    Calls Tryz.prog 134 #[.string b] w fun e w' => BodyR b w' e ∧ Below w.heap.size w w' := by
  have HT : Hid (Bx.txtP 1 ⟨b, false⟩ = (Bx.b1 k, ⟨b.extract 1 b.size, false⟩)) := ht
  have HE : Hid (b = Bx.b1 k ++ b.extract 1 b.size) := he
  have hsz : (b.extract 1 b.size).size ≤ 100000 := by simp; omega
  have e84 : ((Bx.b1 k).toList == [84]) = false := lit_ne (l := [84]) (fun q => by have := (b1_lit k h0 h1 84).1 q; simp at this; omega)
  have e67 : ((Bx.b1 k).toList == [67]) = true := lit_eq ((b1_lit k h0 h1 67).2 (by rw [hk]; rfl))
  have e83 : ((Bx.b1 k).toList == [83]) = false := lit_ne (l := [83]) (fun q => by have := (b1_lit k h0 h1 83).1 q; simp at this; omega)
  have e68 : ((Bx.b1 k).toList == [68]) = false := lit_ne (l := [68]) (fun q => by have := (b1_lit k h0 h1 68).1 q; simp at this; omega)
  have e70 : ((Bx.b1 k).toList == [70]) = false := lit_ne (l := [70]) (fun q => by have := (b1_lit k h0 h1 70).1 q; simp at this; omega)
  have e75 : ((Bx.b1 k).toList == [75]) = false := lit_ne (l := [75]) (fun q => by have := (b1_lit k h0 h1 75).1 q; simp at this; omega)
  have e90 : ((Bx.b1 k).toList == [90]) = false := lit_ne (l := [90]) (fun q => by have := (b1_lit k h0 h1 90).1 q; simp at this; omega)
  have HKd : Hid (∀ kd, kd = Bx.b1 k → kd = Bx.b1 k) := fun _ h => h
  generalize hkd : Bx.b1 k = kd at *
  have HKD : Hid (Bx.b1 k = kd) := hkd
  generalize hr : b.extract 1 b.size = r at *
  have HRr : Hid (b.extract 1 b.size = r) := hr
  clear hkd hr ht he HKd
  have hN := RB.new w b
  go_enter Tryz.func134, Tryz.ntmps134
  go_upto_region 3 with fail
  have hN' : RB w (((w.alloc (.cells #[.string { data := #[] }, .string { data := #[] }, .int .i64 0, .string { data := #[] }, .int .i64 0, .int .i64 0, .slice none 0 0, .slice none 0 0, .int .i64 0] 163)).alloc (.cells #[.string b, .bool false] 207)).alloc (.cells #[.string { data := #[] }, .string { data := #[] }, .int .i64 0, .string { data := #[] }, .int .i64 0, .int .i64 0, .slice none 0 0, .slice none 0 0, .int .i64 0] 163)) ⟨b, false⟩ (ctC ct0 nilS nilS) := hN
  clear hN
  generalize ((w.alloc (.cells #[.string { data := #[] }, .string { data := #[] }, .int .i64 0, .string { data := #[] }, .int .i64 0, .int .i64 0, .slice none 0 0, .slice none 0 0, .int .i64 0] 163)).alloc (.cells #[.string b, .bool false] 207)).alloc (.cells #[.string { data := #[] }, .string { data := #[] }, .int .i64 0, .string { data := #[] }, .int .i64 0, .int .i64 0, .slice none 0 0, .slice none 0 0, .int .i64 0] 163) = W at *
  have HN0 : Hid (RB w W ⟨b, false⟩ (ctC ct0 nilS nilS)) := hN'
  clear hN'
  go_wp2_with fail
  refine (ptext_any ⟨b, false⟩ (w.heap.size + 1) 1 _ hb HN0.out.p).mono ?_
  rintro ex w1 ⟨rfl, hp1, hg1⟩
  rw [HT.out] at hp1 ⊢
  simp only at hp1
  have hR1 := HN0.out.call hp1 hg1
  have s0 := hR1.c.c 0 _ rfl
  have t0 := hR1.c.f 0 (by simp)
  have y0 := hR1.c.ty.lt
  have hT1 := hR1.put 0 (.string kd) (by simp)
  clear hp1 hg1 hR1 HN0
  go_upto_region 4 with fail
  clear s0 t0 y0
  generalize w1.setCell ⟨w.heap.size + 2, 0, none⟩ (.string kd) = W1 at *
  have HR1 : Hid (RB w W1 ⟨r, false⟩ ((ctC ct0 nilS nilS).set 0 (.string kd))) := hT1
  have k0 := hT1.c.c 0 _ rfl
  have yk := hT1.c.ty.lt
  have pc0 := hT1.p.c0
  have yp := hT1.p.ty.lt
  clear hT1
  obtain ⟨n, q, hnq⟩ : ∃ n q, Bx.numP 5 ⟨r, false⟩ = (n, q) := ⟨_, _, pr_eta _⟩
  have HA : Hid (Bx.numP 5 ⟨r, false⟩ = (n, q)) := hnq
  clear hnq
  go_wp2_with fail
  refine (pnumber_any ⟨r, false⟩ (w.heap.size + 1) 5 _ _ rfl (by decide) hsz HR1.out.p).mono ?_
  rintro ex w2 ⟨rfl, hp1, hg1⟩
  rw [HA.out] at hp1 ⊢
  simp only at hp1
  have hR2 := HR1.out.call hp1 hg1
  have s0 := hR2.c.c 2 _ rfl
  have t0 := hR2.c.f 2 (by simp)
  have y0 := hR2.c.ty.lt
  have hT3 := hR2.put 2 (.int .i64 n) (by simp)
  clear hp1 hg1 hR2 HR1 k0 yk pc0 yp
  go_upto_region 18 with fail
  clear s0 t0 y0
  generalize w2.setCell ⟨w.heap.size + 2, 2, none⟩ (.int .i64 n) = W3 at *
  have HR3 : Hid (RB w W3 q (((ctC ct0 nilS nilS).set 0 (.string kd)).set 2 (.int .i64 n))) := hT3
  clear hT3
  go_wp2_with fail
  refine (pright_any q (w.heap.size + 1) _ HR3.out.p).mono ?_
  rintro ex w4 ⟨rfl, rfl⟩
  have hR := HR3.out
  have x0 := hR.c.c 0 _ rfl; have x1 := hR.c.c 1 _ rfl; have x2 := hR.c.c 2 _ rfl; have x3 := hR.c.c 3 _ rfl; have x4 := hR.c.c 4 _ rfl; have x5 := hR.c.c 5 _ rfl; have x6 := hR.c.c 6 _ rfl; have x7 := hR.c.c 7 _ rfl; have x8 := hR.c.c 8 _ rfl
  have z0 := hR.z.c 0 _ rfl; have z1 := hR.z.c 1 _ rfl; have z2 := hR.z.c 2 _ rfl; have z3 := hR.z.c 3 _ rfl; have z4 := hR.z.c 4 _ rfl; have z5 := hR.z.c 5 _ rfl; have z6 := hR.z.c 6 _ rfl; have z7 := hR.z.c 7 _ rfl; have z8 := hR.z.c 8 _ rfl
  have f0 := hR.z.f 0 (by simp); have f1 := hR.z.f 1 (by simp); have f2 := hR.z.f 2 (by simp); have f3 := hR.z.f 3 (by simp); have f4 := hR.z.f 4 (by simp); have f5 := hR.z.f 5 (by simp); have f6 := hR.z.f 6 (by simp); have f7 := hR.z.f 7 (by simp); have f8 := hR.z.f 8 (by simp)
  have yz := hR.z.ty.lt
  have yx := hR.c.ty.lt
  clear hR
  cases hw : (!q.wrong && q.rest.toList.isEmpty)
  · have hno : ¬ (q.wrong = false ∧ q.rest = ByteArray.empty) := by
      rintro ⟨a1, a2⟩
      rw [a1, (isEmpty_iff _).2 a2] at hw; cases hw
    have HF : Hid ((¬ ∃ h, Bx.IsCh b h) ∧ ¬ ∃ s, Bx.StFit s ∧ Bx.wholeS s = b) := by
      refine ⟨?_, ?_⟩
      · rw [HE.out, ← HKD.out, hk]; exact Bx.body_C_no HA.out hno
      · rintro ⟨s, _, e⟩
        rw [HE.out, ← HKD.out] at e
        exact Bx.whole_no ⟨h0, h1⟩ (by omega) ⟨s, e⟩
    clear hw hno
    go_wp2_with fail
    refine bodyPost_ret (v := .tuple #[ctV ⟨kd, ByteArray.empty, n, Px.st0, 0⟩ nilS nilS, .bool false]) (by simp [results, Tryz.results134, go_sem, z0, z1, z2, z3, z4, z5, z6, z7, z8, ct0, Px.st0]) rfl ⟨BodyR.no _ _ _ HF.out.1 HF.out.2 ⟨⟨none, 0, rfl⟩, ⟨none, 0, rfl⟩⟩, below_set9 HR3.out.b (Nat.le_refl _) _ _ _ _ _ _ _ _ _⟩
  · have hyes : q.wrong = false ∧ q.rest = ByteArray.empty := by
      simp only [Bool.and_eq_true, Bool.not_eq_true'] at hw
      exact ⟨hw.1, (isEmpty_iff _).1 hw.2⟩
    have HF : Hid (IsC b ⟨kd, ByteArray.empty, n, Px.st0, 0⟩) := by
      refine ⟨⟨k, ByteArray.empty, n⟩, ?_, HKD.out.symm, rfl, rfl⟩
      rw [HE.out, ← HKD.out]; exact (by subst hk; exact Bx.body_C_yes HA.out hyes.1 hyes.2)
    clear hw hyes
    go_wp2_with fail
    refine bodyPost_ret (v := .tuple #[ctV ⟨kd, ByteArray.empty, n, Px.st0, 0⟩ nilS nilS, .bool true]) (by simp [results, Tryz.results134, go_sem, z0, z1, z2, z3, z4, z5, z6, z7, z8, ct0, Px.st0]) rfl ⟨BodyR.ch _ HF.out rfl rfl, below_set9 HR3.out.b (Nat.le_refl _) _ _ _ _ _ _ _ _ _⟩

end Go.Proofs.YtdajolpoiffimabGreatDoor

namespace Go.Proofs.YtdajolpoiffimabGreatDoor
open Go.RowKit

set_option maxRecDepth 10000 in
set_option maxHeartbeats 4000000 in
theorem readBody_N70 (b : ByteArray) (k : Int) (w : World) (hb : b.size ≤ 100000) (h0 : 0 ≤ k) (h1 : k < 256) (hk : k = 70) (ht : Bx.txtP 1 ⟨b, false⟩ = (Bx.b1 k, ⟨b.extract 1 b.size, false⟩)) (he : b = Bx.b1 k ++ b.extract 1 b.size) :
    Calls Tryz.prog 134 #[.string b] w fun e w' => BodyR b w' e ∧ Below w.heap.size w w' := by
  have HT : Hid (Bx.txtP 1 ⟨b, false⟩ = (Bx.b1 k, ⟨b.extract 1 b.size, false⟩)) := ht
  have HE : Hid (b = Bx.b1 k ++ b.extract 1 b.size) := he
  have hsz : (b.extract 1 b.size).size ≤ 100000 := by simp; omega
  have e84 : ((Bx.b1 k).toList == [84]) = false := lit_ne (l := [84]) (fun q => by have := (b1_lit k h0 h1 84).1 q; simp at this; omega)
  have e67 : ((Bx.b1 k).toList == [67]) = false := lit_ne (l := [67]) (fun q => by have := (b1_lit k h0 h1 67).1 q; simp at this; omega)
  have e83 : ((Bx.b1 k).toList == [83]) = false := lit_ne (l := [83]) (fun q => by have := (b1_lit k h0 h1 83).1 q; simp at this; omega)
  have e68 : ((Bx.b1 k).toList == [68]) = false := lit_ne (l := [68]) (fun q => by have := (b1_lit k h0 h1 68).1 q; simp at this; omega)
  have e70 : ((Bx.b1 k).toList == [70]) = true := lit_eq ((b1_lit k h0 h1 70).2 (by rw [hk]; rfl))
  have e75 : ((Bx.b1 k).toList == [75]) = false := lit_ne (l := [75]) (fun q => by have := (b1_lit k h0 h1 75).1 q; simp at this; omega)
  have e90 : ((Bx.b1 k).toList == [90]) = false := lit_ne (l := [90]) (fun q => by have := (b1_lit k h0 h1 90).1 q; simp at this; omega)
  have HKd : Hid (∀ kd, kd = Bx.b1 k → kd = Bx.b1 k) := fun _ h => h
  generalize hkd : Bx.b1 k = kd at *
  have HKD : Hid (Bx.b1 k = kd) := hkd
  generalize hr : b.extract 1 b.size = r at *
  have HRr : Hid (b.extract 1 b.size = r) := hr
  clear hkd hr ht he HKd
  have hN := RB.new w b
  go_enter Tryz.func134, Tryz.ntmps134
  go_upto_region 3 with fail
  have hN' : RB w (((w.alloc (.cells #[.string { data := #[] }, .string { data := #[] }, .int .i64 0, .string { data := #[] }, .int .i64 0, .int .i64 0, .slice none 0 0, .slice none 0 0, .int .i64 0] 163)).alloc (.cells #[.string b, .bool false] 207)).alloc (.cells #[.string { data := #[] }, .string { data := #[] }, .int .i64 0, .string { data := #[] }, .int .i64 0, .int .i64 0, .slice none 0 0, .slice none 0 0, .int .i64 0] 163)) ⟨b, false⟩ (ctC ct0 nilS nilS) := hN
  clear hN
  generalize ((w.alloc (.cells #[.string { data := #[] }, .string { data := #[] }, .int .i64 0, .string { data := #[] }, .int .i64 0, .int .i64 0, .slice none 0 0, .slice none 0 0, .int .i64 0] 163)).alloc (.cells #[.string b, .bool false] 207)).alloc (.cells #[.string { data := #[] }, .string { data := #[] }, .int .i64 0, .string { data := #[] }, .int .i64 0, .int .i64 0, .slice none 0 0, .slice none 0 0, .int .i64 0] 163) = W at *
  have HN0 : Hid (RB w W ⟨b, false⟩ (ctC ct0 nilS nilS)) := hN'
  clear hN'
  go_wp2_with fail
  refine (ptext_any ⟨b, false⟩ (w.heap.size + 1) 1 _ hb HN0.out.p).mono ?_
  rintro ex w1 ⟨rfl, hp1, hg1⟩
  rw [HT.out] at hp1 ⊢
  simp only at hp1
  have hR1 := HN0.out.call hp1 hg1
  have s0 := hR1.c.c 0 _ rfl
  have t0 := hR1.c.f 0 (by simp)
  have y0 := hR1.c.ty.lt
  have hT1 := hR1.put 0 (.string kd) (by simp)
  clear hp1 hg1 hR1 HN0
  go_upto_region 4 with fail
  clear s0 t0 y0
  generalize w1.setCell ⟨w.heap.size + 2, 0, none⟩ (.string kd) = W1 at *
  have HR1 : Hid (RB w W1 ⟨r, false⟩ ((ctC ct0 nilS nilS).set 0 (.string kd))) := hT1
  have k0 := hT1.c.c 0 _ rfl
  have yk := hT1.c.ty.lt
  have pc0 := hT1.p.c0
  have yp := hT1.p.ty.lt
  clear hT1
  obtain ⟨n, q, hnq⟩ : ∃ n q, Bx.numP 2 ⟨r, false⟩ = (n, q) := ⟨_, _, pr_eta _⟩
  have HA : Hid (Bx.numP 2 ⟨r, false⟩ = (n, q)) := hnq
  clear hnq
  go_wp2_with fail
  refine (pnumber_any ⟨r, false⟩ (w.heap.size + 1) 2 _ _ rfl (by decide) hsz HR1.out.p).mono ?_
  rintro ex w2 ⟨rfl, hp1, hg1⟩
  rw [HA.out] at hp1 ⊢
  simp only at hp1
  have hR2 := HR1.out.call hp1 hg1
  have s0 := hR2.c.c 2 _ rfl
  have t0 := hR2.c.f 2 (by simp)
  have y0 := hR2.c.ty.lt
  have hT3 := hR2.put 2 (.int .i64 n) (by simp)
  clear hp1 hg1 hR2 HR1 k0 yk pc0 yp
  go_upto_region 18 with fail
  clear s0 t0 y0
  generalize w2.setCell ⟨w.heap.size + 2, 2, none⟩ (.int .i64 n) = W3 at *
  have HR3 : Hid (RB w W3 q (((ctC ct0 nilS nilS).set 0 (.string kd)).set 2 (.int .i64 n))) := hT3
  clear hT3
  go_wp2_with fail
  refine (pright_any q (w.heap.size + 1) _ HR3.out.p).mono ?_
  rintro ex w4 ⟨rfl, rfl⟩
  have hR := HR3.out
  have x0 := hR.c.c 0 _ rfl; have x1 := hR.c.c 1 _ rfl; have x2 := hR.c.c 2 _ rfl; have x3 := hR.c.c 3 _ rfl; have x4 := hR.c.c 4 _ rfl; have x5 := hR.c.c 5 _ rfl; have x6 := hR.c.c 6 _ rfl; have x7 := hR.c.c 7 _ rfl; have x8 := hR.c.c 8 _ rfl
  have z0 := hR.z.c 0 _ rfl; have z1 := hR.z.c 1 _ rfl; have z2 := hR.z.c 2 _ rfl; have z3 := hR.z.c 3 _ rfl; have z4 := hR.z.c 4 _ rfl; have z5 := hR.z.c 5 _ rfl; have z6 := hR.z.c 6 _ rfl; have z7 := hR.z.c 7 _ rfl; have z8 := hR.z.c 8 _ rfl
  have f0 := hR.z.f 0 (by simp); have f1 := hR.z.f 1 (by simp); have f2 := hR.z.f 2 (by simp); have f3 := hR.z.f 3 (by simp); have f4 := hR.z.f 4 (by simp); have f5 := hR.z.f 5 (by simp); have f6 := hR.z.f 6 (by simp); have f7 := hR.z.f 7 (by simp); have f8 := hR.z.f 8 (by simp)
  have yz := hR.z.ty.lt
  have yx := hR.c.ty.lt
  clear hR
  cases hw : (!q.wrong && q.rest.toList.isEmpty)
  · have hno : ¬ (q.wrong = false ∧ q.rest = ByteArray.empty) := by
      rintro ⟨a1, a2⟩
      rw [a1, (isEmpty_iff _).2 a2] at hw; cases hw
    have HF : Hid ((¬ ∃ h, Bx.IsCh b h) ∧ ¬ ∃ s, Bx.StFit s ∧ Bx.wholeS s = b) := by
      refine ⟨?_, ?_⟩
      · rw [HE.out, ← HKD.out, hk]; exact Bx.body_N_no (by decide) HA.out hno
      · rintro ⟨s, _, e⟩
        rw [HE.out, ← HKD.out] at e
        exact Bx.whole_no ⟨h0, h1⟩ (by omega) ⟨s, e⟩
    clear hw hno
    go_wp2_with fail
    refine bodyPost_ret (v := .tuple #[ctV ⟨kd, ByteArray.empty, n, Px.st0, 0⟩ nilS nilS, .bool false]) (by simp [results, Tryz.results134, go_sem, z0, z1, z2, z3, z4, z5, z6, z7, z8, ct0, Px.st0]) rfl ⟨BodyR.no _ _ _ HF.out.1 HF.out.2 ⟨⟨none, 0, rfl⟩, ⟨none, 0, rfl⟩⟩, below_set9 HR3.out.b (Nat.le_refl _) _ _ _ _ _ _ _ _ _⟩
  · have hyes : q.wrong = false ∧ q.rest = ByteArray.empty := by
      simp only [Bool.and_eq_true, Bool.not_eq_true'] at hw
      exact ⟨hw.1, (isEmpty_iff _).1 hw.2⟩
    have HF : Hid (IsC b ⟨kd, ByteArray.empty, n, Px.st0, 0⟩) := by
      refine ⟨⟨k, ByteArray.empty, n⟩, ?_, HKD.out.symm, rfl, rfl⟩
      rw [HE.out, ← HKD.out]; exact Bx.body_N_yes (by omega) HA.out hyes.1 hyes.2
    clear hw hyes
    go_wp2_with fail
    refine bodyPost_ret (v := .tuple #[ctV ⟨kd, ByteArray.empty, n, Px.st0, 0⟩ nilS nilS, .bool true]) (by simp [results, Tryz.results134, go_sem, z0, z1, z2, z3, z4, z5, z6, z7, z8, ct0, Px.st0]) rfl ⟨BodyR.ch _ HF.out rfl rfl, below_set9 HR3.out.b (Nat.le_refl _) _ _ _ _ _ _ _ _ _⟩

set_option maxRecDepth 10000 in
set_option maxHeartbeats 4000000 in
theorem readBody_N75 (b : ByteArray) (k : Int) (w : World) (hb : b.size ≤ 100000) (h0 : 0 ≤ k) (h1 : k < 256) (hk : k = 75) (ht : Bx.txtP 1 ⟨b, false⟩ = (Bx.b1 k, ⟨b.extract 1 b.size, false⟩)) (he : b = Bx.b1 k ++ b.extract 1 b.size) :
    Calls Tryz.prog 134 #[.string b] w fun e w' => BodyR b w' e ∧ Below w.heap.size w w' := by
  have HT : Hid (Bx.txtP 1 ⟨b, false⟩ = (Bx.b1 k, ⟨b.extract 1 b.size, false⟩)) := ht
  have HE : Hid (b = Bx.b1 k ++ b.extract 1 b.size) := he
  have hsz : (b.extract 1 b.size).size ≤ 100000 := by simp; omega
  have e84 : ((Bx.b1 k).toList == [84]) = false := lit_ne (l := [84]) (fun q => by have := (b1_lit k h0 h1 84).1 q; simp at this; omega)
  have e67 : ((Bx.b1 k).toList == [67]) = false := lit_ne (l := [67]) (fun q => by have := (b1_lit k h0 h1 67).1 q; simp at this; omega)
  have e83 : ((Bx.b1 k).toList == [83]) = false := lit_ne (l := [83]) (fun q => by have := (b1_lit k h0 h1 83).1 q; simp at this; omega)
  have e68 : ((Bx.b1 k).toList == [68]) = false := lit_ne (l := [68]) (fun q => by have := (b1_lit k h0 h1 68).1 q; simp at this; omega)
  have e70 : ((Bx.b1 k).toList == [70]) = false := lit_ne (l := [70]) (fun q => by have := (b1_lit k h0 h1 70).1 q; simp at this; omega)
  have e75 : ((Bx.b1 k).toList == [75]) = true := lit_eq ((b1_lit k h0 h1 75).2 (by rw [hk]; rfl))
  have e90 : ((Bx.b1 k).toList == [90]) = false := lit_ne (l := [90]) (fun q => by have := (b1_lit k h0 h1 90).1 q; simp at this; omega)
  have HKd : Hid (∀ kd, kd = Bx.b1 k → kd = Bx.b1 k) := fun _ h => h
  generalize hkd : Bx.b1 k = kd at *
  have HKD : Hid (Bx.b1 k = kd) := hkd
  generalize hr : b.extract 1 b.size = r at *
  have HRr : Hid (b.extract 1 b.size = r) := hr
  clear hkd hr ht he HKd
  have hN := RB.new w b
  go_enter Tryz.func134, Tryz.ntmps134
  go_upto_region 3 with fail
  have hN' : RB w (((w.alloc (.cells #[.string { data := #[] }, .string { data := #[] }, .int .i64 0, .string { data := #[] }, .int .i64 0, .int .i64 0, .slice none 0 0, .slice none 0 0, .int .i64 0] 163)).alloc (.cells #[.string b, .bool false] 207)).alloc (.cells #[.string { data := #[] }, .string { data := #[] }, .int .i64 0, .string { data := #[] }, .int .i64 0, .int .i64 0, .slice none 0 0, .slice none 0 0, .int .i64 0] 163)) ⟨b, false⟩ (ctC ct0 nilS nilS) := hN
  clear hN
  generalize ((w.alloc (.cells #[.string { data := #[] }, .string { data := #[] }, .int .i64 0, .string { data := #[] }, .int .i64 0, .int .i64 0, .slice none 0 0, .slice none 0 0, .int .i64 0] 163)).alloc (.cells #[.string b, .bool false] 207)).alloc (.cells #[.string { data := #[] }, .string { data := #[] }, .int .i64 0, .string { data := #[] }, .int .i64 0, .int .i64 0, .slice none 0 0, .slice none 0 0, .int .i64 0] 163) = W at *
  have HN0 : Hid (RB w W ⟨b, false⟩ (ctC ct0 nilS nilS)) := hN'
  clear hN'
  go_wp2_with fail
  refine (ptext_any ⟨b, false⟩ (w.heap.size + 1) 1 _ hb HN0.out.p).mono ?_
  rintro ex w1 ⟨rfl, hp1, hg1⟩
  rw [HT.out] at hp1 ⊢
  simp only at hp1
  have hR1 := HN0.out.call hp1 hg1
  have s0 := hR1.c.c 0 _ rfl
  have t0 := hR1.c.f 0 (by simp)
  have y0 := hR1.c.ty.lt
  have hT1 := hR1.put 0 (.string kd) (by simp)
  clear hp1 hg1 hR1 HN0
  go_upto_region 4 with fail
  clear s0 t0 y0
  generalize w1.setCell ⟨w.heap.size + 2, 0, none⟩ (.string kd) = W1 at *
  have HR1 : Hid (RB w W1 ⟨r, false⟩ ((ctC ct0 nilS nilS).set 0 (.string kd))) := hT1
  have k0 := hT1.c.c 0 _ rfl
  have yk := hT1.c.ty.lt
  have pc0 := hT1.p.c0
  have yp := hT1.p.ty.lt
  clear hT1
  obtain ⟨n, q, hnq⟩ : ∃ n q, Bx.numP 2 ⟨r, false⟩ = (n, q) := ⟨_, _, pr_eta _⟩
  have HA : Hid (Bx.numP 2 ⟨r, false⟩ = (n, q)) := hnq
  clear hnq
  go_wp2_with fail
  refine (pnumber_any ⟨r, false⟩ (w.heap.size + 1) 2 _ _ rfl (by decide) hsz HR1.out.p).mono ?_
  rintro ex w2 ⟨rfl, hp1, hg1⟩
  rw [HA.out] at hp1 ⊢
  simp only at hp1
  have hR2 := HR1.out.call hp1 hg1
  have s0 := hR2.c.c 2 _ rfl
  have t0 := hR2.c.f 2 (by simp)
  have y0 := hR2.c.ty.lt
  have hT3 := hR2.put 2 (.int .i64 n) (by simp)
  clear hp1 hg1 hR2 HR1 k0 yk pc0 yp
  go_upto_region 18 with fail
  clear s0 t0 y0
  generalize w2.setCell ⟨w.heap.size + 2, 2, none⟩ (.int .i64 n) = W3 at *
  have HR3 : Hid (RB w W3 q (((ctC ct0 nilS nilS).set 0 (.string kd)).set 2 (.int .i64 n))) := hT3
  clear hT3
  go_wp2_with fail
  refine (pright_any q (w.heap.size + 1) _ HR3.out.p).mono ?_
  rintro ex w4 ⟨rfl, rfl⟩
  have hR := HR3.out
  have x0 := hR.c.c 0 _ rfl; have x1 := hR.c.c 1 _ rfl; have x2 := hR.c.c 2 _ rfl; have x3 := hR.c.c 3 _ rfl; have x4 := hR.c.c 4 _ rfl; have x5 := hR.c.c 5 _ rfl; have x6 := hR.c.c 6 _ rfl; have x7 := hR.c.c 7 _ rfl; have x8 := hR.c.c 8 _ rfl
  have z0 := hR.z.c 0 _ rfl; have z1 := hR.z.c 1 _ rfl; have z2 := hR.z.c 2 _ rfl; have z3 := hR.z.c 3 _ rfl; have z4 := hR.z.c 4 _ rfl; have z5 := hR.z.c 5 _ rfl; have z6 := hR.z.c 6 _ rfl; have z7 := hR.z.c 7 _ rfl; have z8 := hR.z.c 8 _ rfl
  have f0 := hR.z.f 0 (by simp); have f1 := hR.z.f 1 (by simp); have f2 := hR.z.f 2 (by simp); have f3 := hR.z.f 3 (by simp); have f4 := hR.z.f 4 (by simp); have f5 := hR.z.f 5 (by simp); have f6 := hR.z.f 6 (by simp); have f7 := hR.z.f 7 (by simp); have f8 := hR.z.f 8 (by simp)
  have yz := hR.z.ty.lt
  have yx := hR.c.ty.lt
  clear hR
  cases hw : (!q.wrong && q.rest.toList.isEmpty)
  · have hno : ¬ (q.wrong = false ∧ q.rest = ByteArray.empty) := by
      rintro ⟨a1, a2⟩
      rw [a1, (isEmpty_iff _).2 a2] at hw; cases hw
    have HF : Hid ((¬ ∃ h, Bx.IsCh b h) ∧ ¬ ∃ s, Bx.StFit s ∧ Bx.wholeS s = b) := by
      refine ⟨?_, ?_⟩
      · rw [HE.out, ← HKD.out, hk]; exact Bx.body_N_no (by decide) HA.out hno
      · rintro ⟨s, _, e⟩
        rw [HE.out, ← HKD.out] at e
        exact Bx.whole_no ⟨h0, h1⟩ (by omega) ⟨s, e⟩
    clear hw hno
    go_wp2_with fail
    refine bodyPost_ret (v := .tuple #[ctV ⟨kd, ByteArray.empty, n, Px.st0, 0⟩ nilS nilS, .bool false]) (by simp [results, Tryz.results134, go_sem, z0, z1, z2, z3, z4, z5, z6, z7, z8, ct0, Px.st0]) rfl ⟨BodyR.no _ _ _ HF.out.1 HF.out.2 ⟨⟨none, 0, rfl⟩, ⟨none, 0, rfl⟩⟩, below_set9 HR3.out.b (Nat.le_refl _) _ _ _ _ _ _ _ _ _⟩
  · have hyes : q.wrong = false ∧ q.rest = ByteArray.empty := by
      simp only [Bool.and_eq_true, Bool.not_eq_true'] at hw
      exact ⟨hw.1, (isEmpty_iff _).1 hw.2⟩
    have HF : Hid (IsC b ⟨kd, ByteArray.empty, n, Px.st0, 0⟩) := by
      refine ⟨⟨k, ByteArray.empty, n⟩, ?_, HKD.out.symm, rfl, rfl⟩
      rw [HE.out, ← HKD.out]; exact Bx.body_N_yes (by omega) HA.out hyes.1 hyes.2
    clear hw hyes
    go_wp2_with fail
    refine bodyPost_ret (v := .tuple #[ctV ⟨kd, ByteArray.empty, n, Px.st0, 0⟩ nilS nilS, .bool true]) (by simp [results, Tryz.results134, go_sem, z0, z1, z2, z3, z4, z5, z6, z7, z8, ct0, Px.st0]) rfl ⟨BodyR.ch _ HF.out rfl rfl, below_set9 HR3.out.b (Nat.le_refl _) _ _ _ _ _ _ _ _ _⟩

end Go.Proofs.YtdajolpoiffimabGreatDoor

namespace Go.Proofs.YtdajolpoiffimabGreatDoor
open Go.RowKit

set_option maxRecDepth 10000 in
set_option maxHeartbeats 4000000 in
theorem readBody_N83 (b : ByteArray) (k : Int) (w : World) (hb : b.size ≤ 100000) (h0 : 0 ≤ k) (h1 : k < 256) (hk : k = 83) (ht : Bx.txtP 1 ⟨b, false⟩ = (Bx.b1 k, ⟨b.extract 1 b.size, false⟩)) (he : b = Bx.b1 k ++ b.extract 1 b.size) :
    Calls Tryz.prog 134 #[.string b] w fun e w' => BodyR b w' e ∧ Below w.heap.size w w' := by
  have HT : Hid (Bx.txtP 1 ⟨b, false⟩ = (Bx.b1 k, ⟨b.extract 1 b.size, false⟩)) := ht
  have HE : Hid (b = Bx.b1 k ++ b.extract 1 b.size) := he
  have hsz : (b.extract 1 b.size).size ≤ 100000 := by simp; omega
  have e84 : ((Bx.b1 k).toList == [84]) = false := lit_ne (l := [84]) (fun q => by have := (b1_lit k h0 h1 84).1 q; simp at this; omega)
  have e67 : ((Bx.b1 k).toList == [67]) = false := lit_ne (l := [67]) (fun q => by have := (b1_lit k h0 h1 67).1 q; simp at this; omega)
  have e83 : ((Bx.b1 k).toList == [83]) = true := lit_eq ((b1_lit k h0 h1 83).2 (by rw [hk]; rfl))
  have e68 : ((Bx.b1 k).toList == [68]) = false := lit_ne (l := [68]) (fun q => by have := (b1_lit k h0 h1 68).1 q; simp at this; omega)
  have e70 : ((Bx.b1 k).toList == [70]) = false := lit_ne (l := [70]) (fun q => by have := (b1_lit k h0 h1 70).1 q; simp at this; omega)
  have e75 : ((Bx.b1 k).toList == [75]) = false := lit_ne (l := [75]) (fun q => by have := (b1_lit k h0 h1 75).1 q; simp at this; omega)
  have e90 : ((Bx.b1 k).toList == [90]) = false := lit_ne (l := [90]) (fun q => by have := (b1_lit k h0 h1 90).1 q; simp at this; omega)
  have HKd : Hid (∀ kd, kd = Bx.b1 k → kd = Bx.b1 k) := fun _ h => h
  generalize hkd : Bx.b1 k = kd at *
  have HKD : Hid (Bx.b1 k = kd) := hkd
  generalize hr : b.extract 1 b.size = r at *
  have HRr : Hid (b.extract 1 b.size = r) := hr
  clear hkd hr ht he HKd
  have hN := RB.new w b
  go_enter Tryz.func134, Tryz.ntmps134
  go_upto_region 3 with fail
  have hN' : RB w (((w.alloc (.cells #[.string { data := #[] }, .string { data := #[] }, .int .i64 0, .string { data := #[] }, .int .i64 0, .int .i64 0, .slice none 0 0, .slice none 0 0, .int .i64 0] 163)).alloc (.cells #[.string b, .bool false] 207)).alloc (.cells #[.string { data := #[] }, .string { data := #[] }, .int .i64 0, .string { data := #[] }, .int .i64 0, .int .i64 0, .slice none 0 0, .slice none 0 0, .int .i64 0] 163)) ⟨b, false⟩ (ctC ct0 nilS nilS) := hN
  clear hN
  generalize ((w.alloc (.cells #[.string { data := #[] }, .string { data := #[] }, .int .i64 0, .string { data := #[] }, .int .i64 0, .int .i64 0, .slice none 0 0, .slice none 0 0, .int .i64 0] 163)).alloc (.cells #[.string b, .bool false] 207)).alloc (.cells #[.string { data := #[] }, .string { data := #[] }, .int .i64 0, .string { data := #[] }, .int .i64 0, .int .i64 0, .slice none 0 0, .slice none 0 0, .int .i64 0] 163) = W at *
  have HN0 : Hid (RB w W ⟨b, false⟩ (ctC ct0 nilS nilS)) := hN'
  clear hN'
  go_wp2_with fail
  refine (ptext_any ⟨b, false⟩ (w.heap.size + 1) 1 _ hb HN0.out.p).mono ?_
  rintro ex w1 ⟨rfl, hp1, hg1⟩
  rw [HT.out] at hp1 ⊢
  simp only at hp1
  have hR1 := HN0.out.call hp1 hg1
  have s0 := hR1.c.c 0 _ rfl
  have t0 := hR1.c.f 0 (by simp)
  have y0 := hR1.c.ty.lt
  have hT1 := hR1.put 0 (.string kd) (by simp)
  clear hp1 hg1 hR1 HN0
  go_upto_region 4 with fail
  clear s0 t0 y0
  generalize w1.setCell ⟨w.heap.size + 2, 0, none⟩ (.string kd) = W1 at *
  have HR1 : Hid (RB w W1 ⟨r, false⟩ ((ctC ct0 nilS nilS).set 0 (.string kd))) := hT1
  have k0 := hT1.c.c 0 _ rfl
  have yk := hT1.c.ty.lt
  have pc0 := hT1.p.c0
  have yp := hT1.p.ty.lt
  clear hT1
  obtain ⟨n, q, hnq⟩ : ∃ n q, Bx.numP 2 ⟨r, false⟩ = (n, q) := ⟨_, _, pr_eta _⟩
  have HA : Hid (Bx.numP 2 ⟨r, false⟩ = (n, q)) := hnq
  clear hnq
  go_wp2_with fail
  refine (pnumber_any ⟨r, false⟩ (w.heap.size + 1) 2 _ _ rfl (by decide) hsz HR1.out.p).mono ?_
  rintro ex w2 ⟨rfl, hp1, hg1⟩
  rw [HA.out] at hp1 ⊢
  simp only at hp1
  have hR2 := HR1.out.call hp1 hg1
  have s0 := hR2.c.c 2 _ rfl
  have t0 := hR2.c.f 2 (by simp)
  have y0 := hR2.c.ty.lt
  have hT3 := hR2.put 2 (.int .i64 n) (by simp)
  clear hp1 hg1 hR2 HR1 k0 yk pc0 yp
  go_upto_region 18 with fail
  clear s0 t0 y0
  generalize w2.setCell ⟨w.heap.size + 2, 2, none⟩ (.int .i64 n) = W3 at *
  have HR3 : Hid (RB w W3 q (((ctC ct0 nilS nilS).set 0 (.string kd)).set 2 (.int .i64 n))) := hT3
  clear hT3
  go_wp2_with fail
  refine (pright_any q (w.heap.size + 1) _ HR3.out.p).mono ?_
  rintro ex w4 ⟨rfl, rfl⟩
  have hR := HR3.out
  have x0 := hR.c.c 0 _ rfl; have x1 := hR.c.c 1 _ rfl; have x2 := hR.c.c 2 _ rfl; have x3 := hR.c.c 3 _ rfl; have x4 := hR.c.c 4 _ rfl; have x5 := hR.c.c 5 _ rfl; have x6 := hR.c.c 6 _ rfl; have x7 := hR.c.c 7 _ rfl; have x8 := hR.c.c 8 _ rfl
  have z0 := hR.z.c 0 _ rfl; have z1 := hR.z.c 1 _ rfl; have z2 := hR.z.c 2 _ rfl; have z3 := hR.z.c 3 _ rfl; have z4 := hR.z.c 4 _ rfl; have z5 := hR.z.c 5 _ rfl; have z6 := hR.z.c 6 _ rfl; have z7 := hR.z.c 7 _ rfl; have z8 := hR.z.c 8 _ rfl
  have f0 := hR.z.f 0 (by simp); have f1 := hR.z.f 1 (by simp); have f2 := hR.z.f 2 (by simp); have f3 := hR.z.f 3 (by simp); have f4 := hR.z.f 4 (by simp); have f5 := hR.z.f 5 (by simp); have f6 := hR.z.f 6 (by simp); have f7 := hR.z.f 7 (by simp); have f8 := hR.z.f 8 (by simp)
  have yz := hR.z.ty.lt
  have yx := hR.c.ty.lt
  clear hR
  cases hw : (!q.wrong && q.rest.toList.isEmpty)
  · have hno : ¬ (q.wrong = false ∧ q.rest = ByteArray.empty) := by
      rintro ⟨a1, a2⟩
      rw [a1, (isEmpty_iff _).2 a2] at hw; cases hw
    have HF : Hid ((¬ ∃ h, Bx.IsCh b h) ∧ ¬ ∃ s, Bx.StFit s ∧ Bx.wholeS s = b) := by
      refine ⟨?_, ?_⟩
      · rw [HE.out, ← HKD.out, hk]; exact Bx.body_N_no (by decide) HA.out hno
      · rintro ⟨s, _, e⟩
        rw [HE.out, ← HKD.out] at e
        exact Bx.whole_no ⟨h0, h1⟩ (by omega) ⟨s, e⟩
    clear hw hno
    go_wp2_with fail
    refine bodyPost_ret (v := .tuple #[ctV ⟨kd, ByteArray.empty, n, Px.st0, 0⟩ nilS nilS, .bool false]) (by simp [results, Tryz.results134, go_sem, z0, z1, z2, z3, z4, z5, z6, z7, z8, ct0, Px.st0]) rfl ⟨BodyR.no _ _ _ HF.out.1 HF.out.2 ⟨⟨none, 0, rfl⟩, ⟨none, 0, rfl⟩⟩, below_set9 HR3.out.b (Nat.le_refl _) _ _ _ _ _ _ _ _ _⟩
  · have hyes : q.wrong = false ∧ q.rest = ByteArray.empty := by
      simp only [Bool.and_eq_true, Bool.not_eq_true'] at hw
      exact ⟨hw.1, (isEmpty_iff _).1 hw.2⟩
    have HF : Hid (IsC b ⟨kd, ByteArray.empty, n, Px.st0, 0⟩) := by
      refine ⟨⟨k, ByteArray.empty, n⟩, ?_, HKD.out.symm, rfl, rfl⟩
      rw [HE.out, ← HKD.out]; exact Bx.body_N_yes (by omega) HA.out hyes.1 hyes.2
    clear hw hyes
    go_wp2_with fail
    refine bodyPost_ret (v := .tuple #[ctV ⟨kd, ByteArray.empty, n, Px.st0, 0⟩ nilS nilS, .bool true]) (by simp [results, Tryz.results134, go_sem, z0, z1, z2, z3, z4, z5, z6, z7, z8, ct0, Px.st0]) rfl ⟨BodyR.ch _ HF.out rfl rfl, below_set9 HR3.out.b (Nat.le_refl _) _ _ _ _ _ _ _ _ _⟩

set_option maxRecDepth 10000 in
set_option maxHeartbeats 4000000 in
theorem readBody_N68 (b : ByteArray) (k : Int) (w : World) (hb : b.size ≤ 100000) (h0 : 0 ≤ k) (h1 : k < 256) (hk : k = 68) (ht : Bx.txtP 1 ⟨b, false⟩ = (Bx.b1 k, ⟨b.extract 1 b.size, false⟩)) (he : b = Bx.b1 k ++ b.extract 1 b.size) :
    Calls Tryz.prog 134 #[.string b] w fun e w' => BodyR b w' e ∧ Below w.heap.size w w' := by
  have HT : Hid (Bx.txtP 1 ⟨b, false⟩ = (Bx.b1 k, ⟨b.extract 1 b.size, false⟩)) := ht
  have HE : Hid (b = Bx.b1 k ++ b.extract 1 b.size) := he
  have hsz : (b.extract 1 b.size).size ≤ 100000 := by simp; omega
  have e84 : ((Bx.b1 k).toList == [84]) = false := lit_ne (l := [84]) (fun q => by have := (b1_lit k h0 h1 84).1 q; simp at this; omega)
  have e67 : ((Bx.b1 k).toList == [67]) = false := lit_ne (l := [67]) (fun q => by have := (b1_lit k h0 h1 67).1 q; simp at this; omega)
  have e83 : ((Bx.b1 k).toList == [83]) = false := lit_ne (l := [83]) (fun q => by have := (b1_lit k h0 h1 83).1 q; simp at this; omega)
  have e68 : ((Bx.b1 k).toList == [68]) = true := lit_eq ((b1_lit k h0 h1 68).2 (by rw [hk]; rfl))
  have e70 : ((Bx.b1 k).toList == [70]) = false := lit_ne (l := [70]) (fun q => by have := (b1_lit k h0 h1 70).1 q; simp at this; omega)
  have e75 : ((Bx.b1 k).toList == [75]) = false := lit_ne (l := [75]) (fun q => by have := (b1_lit k h0 h1 75).1 q; simp at this; omega)
  have e90 : ((Bx.b1 k).toList == [90]) = false := lit_ne (l := [90]) (fun q => by have := (b1_lit k h0 h1 90).1 q; simp at this; omega)
  have HKd : Hid (∀ kd, kd = Bx.b1 k → kd = Bx.b1 k) := fun _ h => h
  generalize hkd : Bx.b1 k = kd at *
  have HKD : Hid (Bx.b1 k = kd) := hkd
  generalize hr : b.extract 1 b.size = r at *
  have HRr : Hid (b.extract 1 b.size = r) := hr
  clear hkd hr ht he HKd
  have hN := RB.new w b
  go_enter Tryz.func134, Tryz.ntmps134
  go_upto_region 3 with fail
  have hN' : RB w (((w.alloc (.cells #[.string { data := #[] }, .string { data := #[] }, .int .i64 0, .string { data := #[] }, .int .i64 0, .int .i64 0, .slice none 0 0, .slice none 0 0, .int .i64 0] 163)).alloc (.cells #[.string b, .bool false] 207)).alloc (.cells #[.string { data := #[] }, .string { data := #[] }, .int .i64 0, .string { data := #[] }, .int .i64 0, .int .i64 0, .slice none 0 0, .slice none 0 0, .int .i64 0] 163)) ⟨b, false⟩ (ctC ct0 nilS nilS) := hN
  clear hN
  generalize ((w.alloc (.cells #[.string { data := #[] }, .string { data := #[] }, .int .i64 0, .string { data := #[] }, .int .i64 0, .int .i64 0, .slice none 0 0, .slice none 0 0, .int .i64 0] 163)).alloc (.cells #[.string b, .bool false] 207)).alloc (.cells #[.string { data := #[] }, .string { data := #[] }, .int .i64 0, .string { data := #[] }, .int .i64 0, .int .i64 0, .slice none 0 0, .slice none 0 0, .int .i64 0] 163) = W at *
  have HN0 : Hid (RB w W ⟨b, false⟩ (ctC ct0 nilS nilS)) := hN'
  clear hN'
  go_wp2_with fail
  refine (ptext_any ⟨b, false⟩ (w.heap.size + 1) 1 _ hb HN0.out.p).mono ?_
  rintro ex w1 ⟨rfl, hp1, hg1⟩
  rw [HT.out] at hp1 ⊢
  simp only at hp1
  have hR1 := HN0.out.call hp1 hg1
  have s0 := hR1.c.c 0 _ rfl
  have t0 := hR1.c.f 0 (by simp)
  have y0 := hR1.c.ty.lt
  have hT1 := hR1.put 0 (.string kd) (by simp)
  clear hp1 hg1 hR1 HN0
  go_upto_region 4 with fail
  clear s0 t0 y0
  generalize w1.setCell ⟨w.heap.size + 2, 0, none⟩ (.string kd) = W1 at *
  have HR1 : Hid (RB w W1 ⟨r, false⟩ ((ctC ct0 nilS nilS).set 0 (.string kd))) := hT1
  have k0 := hT1.c.c 0 _ rfl
  have yk := hT1.c.ty.lt
  have pc0 := hT1.p.c0
  have yp := hT1.p.ty.lt
  clear hT1
  obtain ⟨n, q, hnq⟩ : ∃ n q, Bx.numP 2 ⟨r, false⟩ = (n, q) := ⟨_, _, pr_eta _⟩
  have HA : Hid (Bx.numP 2 ⟨r, false⟩ = (n, q)) := hnq
  clear hnq
  go_wp2_with fail
  refine (pnumber_any ⟨r, false⟩ (w.heap.size + 1) 2 _ _ rfl (by decide) hsz HR1.out.p).mono ?_
  rintro ex w2 ⟨rfl, hp1, hg1⟩
  rw [HA.out] at hp1 ⊢
  simp only at hp1
  have hR2 := HR1.out.call hp1 hg1
  have s0 := hR2.c.c 2 _ rfl
  have t0 := hR2.c.f 2 (by simp)
  have y0 := hR2.c.ty.lt
  have hT3 := hR2.put 2 (.int .i64 n) (by simp)
  clear hp1 hg1 hR2 HR1 k0 yk pc0 yp
  go_upto_region 18 with fail
  clear s0 t0 y0
  generalize w2.setCell ⟨w.heap.size + 2, 2, none⟩ (.int .i64 n) = W3 at *
  have HR3 : Hid (RB w W3 q (((ctC ct0 nilS nilS).set 0 (.string kd)).set 2 (.int .i64 n))) := hT3
  clear hT3
  go_wp2_with fail
  refine (pright_any q (w.heap.size + 1) _ HR3.out.p).mono ?_
  rintro ex w4 ⟨rfl, rfl⟩
  have hR := HR3.out
  have x0 := hR.c.c 0 _ rfl; have x1 := hR.c.c 1 _ rfl; have x2 := hR.c.c 2 _ rfl; have x3 := hR.c.c 3 _ rfl; have x4 := hR.c.c 4 _ rfl; have x5 := hR.c.c 5 _ rfl; have x6 := hR.c.c 6 _ rfl; have x7 := hR.c.c 7 _ rfl; have x8 := hR.c.c 8 _ rfl
  have z0 := hR.z.c 0 _ rfl; have z1 := hR.z.c 1 _ rfl; have z2 := hR.z.c 2 _ rfl; have z3 := hR.z.c 3 _ rfl; have z4 := hR.z.c 4 _ rfl; have z5 := hR.z.c 5 _ rfl; have z6 := hR.z.c 6 _ rfl; have z7 := hR.z.c 7 _ rfl; have z8 := hR.z.c 8 _ rfl
  have f0 := hR.z.f 0 (by simp); have f1 := hR.z.f 1 (by simp); have f2 := hR.z.f 2 (by simp); have f3 := hR.z.f 3 (by simp); have f4 := hR.z.f 4 (by simp); have f5 := hR.z.f 5 (by simp); have f6 := hR.z.f 6 (by simp); have f7 := hR.z.f 7 (by simp); have f8 := hR.z.f 8 (by simp)
  have yz := hR.z.ty.lt
  have yx := hR.c.ty.lt
  clear hR
  cases hw : (!q.wrong && q.rest.toList.isEmpty)
  · have hno : ¬ (q.wrong = false ∧ q.rest = ByteArray.empty) := by
      rintro ⟨a1, a2⟩
      rw [a1, (isEmpty_iff _).2 a2] at hw; cases hw
    have HF : Hid ((¬ ∃ h, Bx.IsCh b h) ∧ ¬ ∃ s, Bx.StFit s ∧ Bx.wholeS s = b) := by
      refine ⟨?_, ?_⟩
      · rw [HE.out, ← HKD.out, hk]; exact Bx.body_N_no (by decide) HA.out hno
      · rintro ⟨s, _, e⟩
        rw [HE.out, ← HKD.out] at e
        exact Bx.whole_no ⟨h0, h1⟩ (by omega) ⟨s, e⟩
    clear hw hno
    go_wp2_with fail
    refine bodyPost_ret (v := .tuple #[ctV ⟨kd, ByteArray.empty, n, Px.st0, 0⟩ nilS nilS, .bool false]) (by simp [results, Tryz.results134, go_sem, z0, z1, z2, z3, z4, z5, z6, z7, z8, ct0, Px.st0]) rfl ⟨BodyR.no _ _ _ HF.out.1 HF.out.2 ⟨⟨none, 0, rfl⟩, ⟨none, 0, rfl⟩⟩, below_set9 HR3.out.b (Nat.le_refl _) _ _ _ _ _ _ _ _ _⟩
  · have hyes : q.wrong = false ∧ q.rest = ByteArray.empty := by
      simp only [Bool.and_eq_true, Bool.not_eq_true'] at hw
      exact ⟨hw.1, (isEmpty_iff _).1 hw.2⟩
    have HF : Hid (IsC b ⟨kd, ByteArray.empty, n, Px.st0, 0⟩) := by
      refine ⟨⟨k, ByteArray.empty, n⟩, ?_, HKD.out.symm, rfl, rfl⟩
      rw [HE.out, ← HKD.out]; exact Bx.body_N_yes (by omega) HA.out hyes.1 hyes.2
    clear hw hyes
    go_wp2_with fail
    refine bodyPost_ret (v := .tuple #[ctV ⟨kd, ByteArray.empty, n, Px.st0, 0⟩ nilS nilS, .bool true]) (by simp [results, Tryz.results134, go_sem, z0, z1, z2, z3, z4, z5, z6, z7, z8, ct0, Px.st0]) rfl ⟨BodyR.ch _ HF.out rfl rfl, below_set9 HR3.out.b (Nat.le_refl _) _ _ _ _ _ _ _ _ _⟩

end Go.Proofs.YtdajolpoiffimabGreatDoor

namespace Go.Proofs.YtdajolpoiffimabGreatDoor
open Go.RowKit

set_option maxRecDepth 10000 in
set_option maxHeartbeats 4000000 in
theorem readBody_Z (b : ByteArray) (k : Int) (w : World) (hb : b.size ≤ 100000) (h0 : 0 ≤ k) (h1 : k < 256) (hk : k = 90) (ht : Bx.txtP 1 ⟨b, false⟩ = (Bx.b1 k, ⟨b.extract 1 b.size, false⟩)) (he : b = Bx.b1 k ++ b.extract 1 b.size) :
    Calls Tryz.prog 134 #[.string b] w fun e w' => BodyR b w' e ∧ Below w.heap.size w w' := by
  have HT : Hid (Bx.txtP 1 ⟨b, false⟩ = (Bx.b1 k, ⟨b.extract 1 b.size, false⟩)) := ht
  have HE : Hid (b = Bx.b1 k ++ b.extract 1 b.size) := he
  have hsz : (b.extract 1 b.size).size ≤ 100000 := by simp; omega
  have e84 : ((Bx.b1 k).toList == [84]) = false := lit_ne (l := [84]) (fun q => by have := (b1_lit k h0 h1 84).1 q; simp at this; omega)
  have e67 : ((Bx.b1 k).toList == [67]) = false := lit_ne (l := [67]) (fun q => by have := (b1_lit k h0 h1 67).1 q; simp at this; omega)
  have e83 : ((Bx.b1 k).toList == [83]) = false := lit_ne (l := [83]) (fun q => by have := (b1_lit k h0 h1 83).1 q; simp at this; omega)
  have e68 : ((Bx.b1 k).toList == [68]) = false := lit_ne (l := [68]) (fun q => by have := (b1_lit k h0 h1 68).1 q; simp at this; omega)
  have e70 : ((Bx.b1 k).toList == [70]) = false := lit_ne (l := [70]) (fun q => by have := (b1_lit k h0 h1 70).1 q; simp at this; omega)
  have e75 : ((Bx.b1 k).toList == [75]) = false := lit_ne (l := [75]) (fun q => by have := (b1_lit k h0 h1 75).1 q; simp at this; omega)
  have e90 : ((Bx.b1 k).toList == [90]) = true := lit_eq ((b1_lit k h0 h1 90).2 (by rw [hk]; rfl))
  have HKd : Hid (∀ kd, kd = Bx.b1 k → kd = Bx.b1 k) := fun _ h => h
  generalize hkd : Bx.b1 k = kd at *
  have HKD : Hid (Bx.b1 k = kd) := hkd
  generalize hr : b.extract 1 b.size = r at *
  have HRr : Hid (b.extract 1 b.size = r) := hr
  clear hkd hr ht he HKd
  have hN := RB.new w b
  go_enter Tryz.func134, Tryz.ntmps134
  go_upto_region 3 with fail
  have hN' : RB w (((w.alloc (.cells #[.string { data := #[] }, .string { data := #[] }, .int .i64 0, .string { data := #[] }, .int .i64 0, .int .i64 0, .slice none 0 0, .slice none 0 0, .int .i64 0] 163)).alloc (.cells #[.string b, .bool false] 207)).alloc (.cells #[.string { data := #[] }, .string { data := #[] }, .int .i64 0, .string { data := #[] }, .int .i64 0, .int .i64 0, .slice none 0 0, .slice none 0 0, .int .i64 0] 163)) ⟨b, false⟩ (ctC ct0 nilS nilS) := hN
  clear hN
  generalize ((w.alloc (.cells #[.string { data := #[] }, .string { data := #[] }, .int .i64 0, .string { data := #[] }, .int .i64 0, .int .i64 0, .slice none 0 0, .slice none 0 0, .int .i64 0] 163)).alloc (.cells #[.string b, .bool false] 207)).alloc (.cells #[.string { data := #[] }, .string { data := #[] }, .int .i64 0, .string { data := #[] }, .int .i64 0, .int .i64 0, .slice none 0 0, .slice none 0 0, .int .i64 0] 163) = W at *
  have HN0 : Hid (RB w W ⟨b, false⟩ (ctC ct0 nilS nilS)) := hN'
  clear hN'
  go_wp2_with fail
  refine (ptext_any ⟨b, false⟩ (w.heap.size + 1) 1 _ hb HN0.out.p).mono ?_
  rintro ex w1 ⟨rfl, hp1, hg1⟩
  rw [HT.out] at hp1 ⊢
  simp only at hp1
  have hR1 := HN0.out.call hp1 hg1
  have s0 := hR1.c.c 0 _ rfl
  have t0 := hR1.c.f 0 (by simp)
  have y0 := hR1.c.ty.lt
  have hT1 := hR1.put 0 (.string kd) (by simp)
  clear hp1 hg1 hR1 HN0
  go_upto_region 4 with fail
  clear s0 t0 y0
  generalize w1.setCell ⟨w.heap.size + 2, 0, none⟩ (.string kd) = W1 at *
  have HR1 : Hid (RB w W1 ⟨r, false⟩ ((ctC ct0 nilS nilS).set 0 (.string kd))) := hT1
  have k0 := hT1.c.c 0 _ rfl
  have yk := hT1.c.ty.lt
  have pc0 := hT1.p.c0
  have yp := hT1.p.ty.lt
  clear hT1
  go_wp2_with fail
  refine (preadState_any ⟨r, false⟩ (w.heap.size + 1) _ hsz HR1.out.p).mono ?_
  rintro ex w2 ⟨⟨sl, en, rfl, hat⟩, hp1, hg1⟩
  obtain ⟨st, q, hst⟩ : ∃ st q, Px.rdState ⟨r, false⟩ = (st, q) := ⟨_, _, pr_eta _⟩
  have HA : Hid (Px.rdState ⟨r, false⟩ = (st, q)) := hst
  have HFr : Hid ((∀ x ∈ st.slots, Px.Fresh x) ∧ -1 ≤ st.clock) := by have := Px.rdState_fresh ⟨r, false⟩; rw [hst] at this; exact this
  rw [hst] at hp1 hat ⊢
  simp only at hp1 hat
  obtain ⟨ad, cap, rfl, _⟩ := hat.sl.form
  obtain ⟨ad2, cap2, rfl, _⟩ := hat.en.form
  have hR2 := HR1.out.call hp1 hg1
  have s3 := hR2.c.c 3 _ rfl; have s4 := hR2.c.c 4 _ rfl; have s5 := hR2.c.c 5 _ rfl; have s6 := hR2.c.c 6 _ rfl; have s7 := hR2.c.c 7 _ rfl
  have t3 := hR2.c.f 3 (by simp); have t4 := hR2.c.f 4 (by simp); have t5 := hR2.c.f 5 (by simp); have t6 := hR2.c.f 6 (by simp); have t7 := hR2.c.f 7 (by simp)
  have y0 := hR2.c.ty.lt
  have hT3 := ((((hR2.put 3 (.string st.tab) (by simp)).put 4 (.int .i64 st.clock) (by simp)).put 5 (.int .i64 st.next) (by simp)).put 6 (.slice ad st.slots.length cap) (by simp)).put 7 (.slice ad2 st.ends.length cap2) (by simp)
  have hat3 : PAt (((((w2.setCell ⟨w.heap.size + 2, 3, none⟩ (.string st.tab)).setCell ⟨w.heap.size + 2, 4, none⟩ (.int .i64 st.clock)).setCell ⟨w.heap.size + 2, 5, none⟩ (.int .i64 st.next)).setCell ⟨w.heap.size + 2, 6, none⟩ (.slice ad st.slots.length cap)).setCell ⟨w.heap.size + 2, 7, none⟩ (.slice ad2 st.ends.length cap2)) st (.slice ad st.slots.length cap) (.slice ad2 st.ends.length cap2) := by
    have ty := hR2.c.ty
    exact ((((hat.set ty (by decide) (by decide) _ _).set (ty.setCell _ _ _) (by decide) (by decide) _ _).set ((ty.setCell _ _ _).setCell _ _ _) (by decide) (by decide) _ _).set (((ty.setCell _ _ _).setCell _ _ _).setCell _ _ _) (by decide) (by decide) _ _).set ((((ty.setCell _ _ _).setCell _ _ _).setCell _ _ _).setCell _ _ _) (by decide) (by decide) _ _
  clear hp1 hg1 hR2 HR1 k0 yk pc0 yp hat hst
  go_upto_region 18 with fail
  clear s3 s4 s5 s6 s7 t3 t4 t5 t6 t7 y0
  generalize ((((w2.setCell ⟨w.heap.size + 2, 3, none⟩ (.string st.tab)).setCell ⟨w.heap.size + 2, 4, none⟩ (.int .i64 st.clock)).setCell ⟨w.heap.size + 2, 5, none⟩ (.int .i64 st.next)).setCell ⟨w.heap.size + 2, 6, none⟩ (.slice ad st.slots.length cap)).setCell ⟨w.heap.size + 2, 7, none⟩ (.slice ad2 st.ends.length cap2) = W3 at *
  have HAt : Hid (PAt W3 st (.slice ad st.slots.length cap) (.slice ad2 st.ends.length cap2)) := hat3
  clear hat3
  have HR3 : Hid (RB w W3 q ((((((ctC ct0 nilS nilS).set 0 (.string kd)).set 3 (.string st.tab)).set 4 (.int .i64 st.clock)).set 5 (.int .i64 st.next)).set 6 (.slice ad st.slots.length cap) |>.set 7 (.slice ad2 st.ends.length cap2))) := hT3
  clear hT3
  go_wp2_with fail
  refine (pright_any q (w.heap.size + 1) _ HR3.out.p).mono ?_
  rintro ex w4 ⟨rfl, rfl⟩
  have hR := HR3.out
  have x0 := hR.c.c 0 _ rfl; have x1 := hR.c.c 1 _ rfl; have x2 := hR.c.c 2 _ rfl; have x3 := hR.c.c 3 _ rfl; have x4 := hR.c.c 4 _ rfl; have x5 := hR.c.c 5 _ rfl; have x6 := hR.c.c 6 _ rfl; have x7 := hR.c.c 7 _ rfl; have x8 := hR.c.c 8 _ rfl
  have z0 := hR.z.c 0 _ rfl; have z1 := hR.z.c 1 _ rfl; have z2 := hR.z.c 2 _ rfl; have z3 := hR.z.c 3 _ rfl; have z4 := hR.z.c 4 _ rfl; have z5 := hR.z.c 5 _ rfl; have z6 := hR.z.c 6 _ rfl; have z7 := hR.z.c 7 _ rfl; have z8 := hR.z.c 8 _ rfl
  have f0 := hR.z.f 0 (by simp); have f1 := hR.z.f 1 (by simp); have f2 := hR.z.f 2 (by simp); have f3 := hR.z.f 3 (by simp); have f4 := hR.z.f 4 (by simp); have f5 := hR.z.f 5 (by simp); have f6 := hR.z.f 6 (by simp); have f7 := hR.z.f 7 (by simp); have f8 := hR.z.f 8 (by simp)
  have yz := hR.z.ty.lt
  have yx := hR.c.ty.lt
  clear hR
  cases hw : (!q.wrong && q.rest.toList.isEmpty)
  · have hno : ¬ (q.wrong = false ∧ q.rest = ByteArray.empty) := by
      rintro ⟨a1, a2⟩
      rw [a1, (isEmpty_iff _).2 a2] at hw; cases hw
    have HF : Hid ((¬ ∃ h, Bx.IsCh b h) ∧ ¬ ∃ s, Bx.StFit s ∧ Bx.wholeS s = b) := by
      refine ⟨?_, ?_⟩
      · rw [HE.out, ← HKD.out]; exact Bx.body_no ⟨h0, h1⟩ (by omega)
      · rw [HE.out, ← HKD.out, hk]; exact Bx.whole_fit_no HA.out hno
    clear hw hno
    go_wp2_with fail
    refine bodyPost_ret (v := .tuple #[ctV ⟨kd, ByteArray.empty, 0, st, 0⟩ (.slice ad st.slots.length cap) (.slice ad2 st.ends.length cap2), .bool false]) (by simp [results, Tryz.results134, go_sem, z0, z1, z2, z3, z4, z5, z6, z7, z8, ct0, Px.st0]) rfl ⟨BodyR.no _ _ _ HF.out.1 HF.out.2 ⟨⟨ad, cap, rfl⟩, ⟨ad2, cap2, rfl⟩⟩, below_set9 HR3.out.b (Nat.le_refl _) _ _ _ _ _ _ _ _ _⟩
  · have hyes : q.wrong = false ∧ q.rest = ByteArray.empty := by
      simp only [Bool.and_eq_true, Bool.not_eq_true'] at hw
      exact ⟨hw.1, (isEmpty_iff _).1 hw.2⟩
    have HF : Hid (IsW b ⟨kd, ByteArray.empty, 0, st, 0⟩) := by
      have hz := Bx.whole_yes HA.out hyes.1 hyes.2
      refine ⟨by rw [← HKD.out, hk], ?_, hz.2, HFr.out.1, HFr.out.2⟩
      rw [HE.out, ← HKD.out, hk]; exact hz.1
    clear hw hyes
    go_wp2_with fail
    refine bodyPost_ret (v := .tuple #[ctV ⟨kd, ByteArray.empty, 0, st, 0⟩ (.slice ad st.slots.length cap) (.slice ad2 st.ends.length cap2), .bool true]) (by simp [results, Tryz.results134, go_sem, z0, z1, z2, z3, z4, z5, z6, z7, z8, ct0, Px.st0]) rfl ⟨BodyR.wh _ _ _ HF.out rfl (HAt.out.store9 HR3.out.z.ty _ _ _ _ _ _ _ _ _), below_set9 HR3.out.b (Nat.le_refl _) _ _ _ _ _ _ _ _ _⟩

set_option maxRecDepth 10000 in
set_option maxHeartbeats 4000000 in
theorem readBody_D (b : ByteArray) (k : Int) (w : World) (hb : b.size ≤ 100000) (h0 : 0 ≤ k) (h1 : k < 256) (hk : ¬ k = 84 ∧ ¬ k = 67 ∧ ¬ k = 83 ∧ ¬ k = 68 ∧ ¬ k = 70 ∧ ¬ k = 75 ∧ ¬ k = 90) (ht : Bx.txtP 1 ⟨b, false⟩ = (Bx.b1 k, ⟨b.extract 1 b.size, false⟩)) (he : b = Bx.b1 k ++ b.extract 1 b.size) :
    Calls Tryz.prog 134 #[.string b] w fun e w' => BodyR b w' e ∧ Below w.heap.size w w' := by
  have HT : Hid (Bx.txtP 1 ⟨b, false⟩ = (Bx.b1 k, ⟨b.extract 1 b.size, false⟩)) := ht
  have HE : Hid (b = Bx.b1 k ++ b.extract 1 b.size) := he
  have hsz : (b.extract 1 b.size).size ≤ 100000 := by simp; omega
  have e84 : ((Bx.b1 k).toList == [84]) = false := lit_ne (l := [84]) (fun q => by have := (b1_lit k h0 h1 84).1 q; simp at this; omega)
  have e67 : ((Bx.b1 k).toList == [67]) = false := lit_ne (l := [67]) (fun q => by have := (b1_lit k h0 h1 67).1 q; simp at this; omega)
  have e83 : ((Bx.b1 k).toList == [83]) = false := lit_ne (l := [83]) (fun q => by have := (b1_lit k h0 h1 83).1 q; simp at this; omega)
  have e68 : ((Bx.b1 k).toList == [68]) = false := lit_ne (l := [68]) (fun q => by have := (b1_lit k h0 h1 68).1 q; simp at this; omega)
  have e70 : ((Bx.b1 k).toList == [70]) = false := lit_ne (l := [70]) (fun q => by have := (b1_lit k h0 h1 70).1 q; simp at this; omega)
  have e75 : ((Bx.b1 k).toList == [75]) = false := lit_ne (l := [75]) (fun q => by have := (b1_lit k h0 h1 75).1 q; simp at this; omega)
  have e90 : ((Bx.b1 k).toList == [90]) = false := lit_ne (l := [90]) (fun q => by have := (b1_lit k h0 h1 90).1 q; simp at this; omega)
  have HKd : Hid (∀ kd, kd = Bx.b1 k → kd = Bx.b1 k) := fun _ h => h
  generalize hkd : Bx.b1 k = kd at *
  have HKD : Hid (Bx.b1 k = kd) := hkd
  generalize hr : b.extract 1 b.size = r at *
  have HRr : Hid (b.extract 1 b.size = r) := hr
  clear hkd hr ht he HKd
  have hN := RB.new w b
  go_enter Tryz.func134, Tryz.ntmps134
  go_upto_region 3 with fail
  have hN' : RB w (((w.alloc (.cells #[.string { data := #[] }, .string { data := #[] }, .int .i64 0, .string { data := #[] }, .int .i64 0, .int .i64 0, .slice none 0 0, .slice none 0 0, .int .i64 0] 163)).alloc (.cells #[.string b, .bool false] 207)).alloc (.cells #[.string { data := #[] }, .string { data := #[] }, .int .i64 0, .string { data := #[] }, .int .i64 0, .int .i64 0, .slice none 0 0, .slice none 0 0, .int .i64 0] 163)) ⟨b, false⟩ (ctC ct0 nilS nilS) := hN
  clear hN
  generalize ((w.alloc (.cells #[.string { data := #[] }, .string { data := #[] }, .int .i64 0, .string { data := #[] }, .int .i64 0, .int .i64 0, .slice none 0 0, .slice none 0 0, .int .i64 0] 163)).alloc (.cells #[.string b, .bool false] 207)).alloc (.cells #[.string { data := #[] }, .string { data := #[] }, .int .i64 0, .string { data := #[] }, .int .i64 0, .int .i64 0, .slice none 0 0, .slice none 0 0, .int .i64 0] 163) = W at *
  have HN0 : Hid (RB w W ⟨b, false⟩ (ctC ct0 nilS nilS)) := hN'
  clear hN'
  go_wp2_with fail
  refine (ptext_any ⟨b, false⟩ (w.heap.size + 1) 1 _ hb HN0.out.p).mono ?_
  rintro ex w1 ⟨rfl, hp1, hg1⟩
  rw [HT.out] at hp1 ⊢
  simp only at hp1
  have hR1 := HN0.out.call hp1 hg1
  have s0 := hR1.c.c 0 _ rfl
  have t0 := hR1.c.f 0 (by simp)
  have y0 := hR1.c.ty.lt
  have hT1 := hR1.put 0 (.string kd) (by simp)
  clear hp1 hg1 hR1 HN0
  go_upto_region 4 with fail
  clear s0 t0 y0
  generalize w1.setCell ⟨w.heap.size + 2, 0, none⟩ (.string kd) = W1 at *
  have HR1 : Hid (RB w W1 ⟨r, false⟩ ((ctC ct0 nilS nilS).set 0 (.string kd))) := hT1
  have k0 := hT1.c.c 0 _ rfl
  have yk := hT1.c.ty.lt
  have pc0 := hT1.p.c0
  have yp := hT1.p.ty.lt
  clear hT1
  have hR := HR1.out
  have z0 := hR.z.c 0 _ rfl; have z1 := hR.z.c 1 _ rfl; have z2 := hR.z.c 2 _ rfl; have z3 := hR.z.c 3 _ rfl; have z4 := hR.z.c 4 _ rfl; have z5 := hR.z.c 5 _ rfl; have z6 := hR.z.c 6 _ rfl; have z7 := hR.z.c 7 _ rfl; have z8 := hR.z.c 8 _ rfl
  have f0 := hR.z.f 0 (by simp); have f1 := hR.z.f 1 (by simp); have f2 := hR.z.f 2 (by simp); have f3 := hR.z.f 3 (by simp); have f4 := hR.z.f 4 (by simp); have f5 := hR.z.f 5 (by simp); have f6 := hR.z.f 6 (by simp); have f7 := hR.z.f 7 (by simp); have f8 := hR.z.f 8 (by simp)
  have yz := hR.z.ty.lt
  clear hR
  have HF : Hid ((¬ ∃ h, Bx.IsCh b h) ∧ ¬ ∃ s, Bx.StFit s ∧ Bx.wholeS s = b) := by
    refine ⟨?_, ?_⟩
    · rw [HE.out, ← HKD.out]; exact Bx.body_no ⟨h0, h1⟩ (by omega)
    · rintro ⟨s, _, e⟩
      rw [HE.out, ← HKD.out] at e
      exact Bx.whole_no ⟨h0, h1⟩ (by omega) ⟨s, e⟩
  go_wp2_with fail
  refine bodyPost_ret (v := .tuple #[ctV ct0 nilS nilS, .bool false]) (by simp [results, Tryz.results134, go_sem, z0, z1, z2, z3, z4, z5, z6, z7, z8, ct0, Px.st0]; rfl) rfl ⟨BodyR.no _ _ _ HF.out.1 HF.out.2 ⟨⟨none, 0, rfl⟩, ⟨none, 0, rfl⟩⟩, below_set9 HR1.out.b (Nat.le_refl _) _ _ _ _ _ _ _ _ _⟩

set_option maxRecDepth 10000 in
set_option maxHeartbeats 4000000 in
theorem readBody_E (b : ByteArray) (w : World) (hb : b = ByteArray.empty) :
    Calls Tryz.prog 134 #[.string b] w fun e w' => BodyR b w' e ∧ Below w.heap.size w w' := by
  have HT : Hid (Bx.txtP 1 ⟨b, false⟩ = (b, ⟨b, true⟩)) := by subst hb; unfold Hid Bx.txtP; rw [if_pos (by simp)]
  have e84 : (b.toList == [84]) = false := by subst hb; rw [ByteArray.toList_eq]; rfl
  have e67 : (b.toList == [67]) = false := by subst hb; rw [ByteArray.toList_eq]; rfl
  have e83 : (b.toList == [83]) = false := by subst hb; rw [ByteArray.toList_eq]; rfl
  have e68 : (b.toList == [68]) = false := by subst hb; rw [ByteArray.toList_eq]; rfl
  have e70 : (b.toList == [70]) = false := by subst hb; rw [ByteArray.toList_eq]; rfl
  have e75 : (b.toList == [75]) = false := by subst hb; rw [ByteArray.toList_eq]; rfl
  have e90 : (b.toList == [90]) = false := by subst hb; rw [ByteArray.toList_eq]; rfl
  have hbs : b.size ≤ 100000 := by subst hb; simp
  have HF : Hid ((¬ ∃ h, Bx.IsCh b h) ∧ ¬ ∃ s, Bx.StFit s ∧ Bx.wholeS s = b) := by subst hb; exact ⟨Bx.empty_no.1, fun ⟨s, _, e⟩ => Bx.empty_no.2 ⟨s, e⟩⟩
  clear hb
  have hN := RB.new w b
  go_enter Tryz.func134, Tryz.ntmps134
  go_upto_region 3 with fail
  have hN' : RB w (((w.alloc (.cells #[.string { data := #[] }, .string { data := #[] }, .int .i64 0, .string { data := #[] }, .int .i64 0, .int .i64 0, .slice none 0 0, .slice none 0 0, .int .i64 0] 163)).alloc (.cells #[.string b, .bool false] 207)).alloc (.cells #[.string { data := #[] }, .string { data := #[] }, .int .i64 0, .string { data := #[] }, .int .i64 0, .int .i64 0, .slice none 0 0, .slice none 0 0, .int .i64 0] 163)) ⟨b, false⟩ (ctC ct0 nilS nilS) := hN
  clear hN
  generalize ((w.alloc (.cells #[.string { data := #[] }, .string { data := #[] }, .int .i64 0, .string { data := #[] }, .int .i64 0, .int .i64 0, .slice none 0 0, .slice none 0 0, .int .i64 0] 163)).alloc (.cells #[.string b, .bool false] 207)).alloc (.cells #[.string { data := #[] }, .string { data := #[] }, .int .i64 0, .string { data := #[] }, .int .i64 0, .int .i64 0, .slice none 0 0, .slice none 0 0, .int .i64 0] 163) = W at *
  have HN0 : Hid (RB w W ⟨b, false⟩ (ctC ct0 nilS nilS)) := hN'
  clear hN'
  go_wp2_with fail
  refine (ptext_any ⟨b, false⟩ (w.heap.size + 1) 1 _ hbs HN0.out.p).mono ?_
  rintro ex w1 ⟨rfl, hp1, hg1⟩
  rw [HT.out] at hp1 ⊢
  simp only at hp1
  have hR1 := HN0.out.call hp1 hg1
  have s0 := hR1.c.c 0 _ rfl
  have t0 := hR1.c.f 0 (by simp)
  have y0 := hR1.c.ty.lt
  have hT1 := hR1.put 0 (.string b) (by simp)
  clear hp1 hg1 hR1 HN0
  go_upto_region 4 with fail
  clear s0 t0 y0
  generalize w1.setCell ⟨w.heap.size + 2, 0, none⟩ (.string b) = W1 at *
  have HR1 : Hid (RB w W1 ⟨b, true⟩ ((ctC ct0 nilS nilS).set 0 (.string b))) := hT1
  have k0 := hT1.c.c 0 _ rfl
  have yk := hT1.c.ty.lt
  clear hT1
  have hR := HR1.out
  have z0 := hR.z.c 0 _ rfl; have z1 := hR.z.c 1 _ rfl; have z2 := hR.z.c 2 _ rfl; have z3 := hR.z.c 3 _ rfl; have z4 := hR.z.c 4 _ rfl; have z5 := hR.z.c 5 _ rfl; have z6 := hR.z.c 6 _ rfl; have z7 := hR.z.c 7 _ rfl; have z8 := hR.z.c 8 _ rfl
  have f0 := hR.z.f 0 (by simp); have f1 := hR.z.f 1 (by simp); have f2 := hR.z.f 2 (by simp); have f3 := hR.z.f 3 (by simp); have f4 := hR.z.f 4 (by simp); have f5 := hR.z.f 5 (by simp); have f6 := hR.z.f 6 (by simp); have f7 := hR.z.f 7 (by simp); have f8 := hR.z.f 8 (by simp)
  have yz := hR.z.ty.lt
  clear hR
  go_wp2_with fail
  refine bodyPost_ret (v := .tuple #[ctV ct0 nilS nilS, .bool false]) (by simp [results, Tryz.results134, go_sem, z0, z1, z2, z3, z4, z5, z6, z7, z8, ct0, Px.st0]; rfl) rfl ⟨BodyR.no _ _ _ HF.out.1 HF.out.2 ⟨⟨none, 0, rfl⟩, ⟨none, 0, rfl⟩⟩, below_set9 HR1.out.b (Nat.le_refl _) _ _ _ _ _ _ _ _ _⟩

theorem readBody_any (b : ByteArray) (w : World) (hb : b.size ≤ 100000) : Calls Tryz.prog 134 #[.string b] w fun e w' => BodyR b w' e ∧ Below w.heap.size w w' := by
  by_cases h : b = ByteArray.empty
  · exact readBody_E b w h
  have hs : 0 < b.size := by
    rcases Nat.eq_zero_or_pos b.size with q | q
    · exact (h (by simpa using q)).elim
    · exact q
  obtain ⟨k, h0, h1, ht, he⟩ := txt1_head b hs
  by_cases k1 : k = 84
  · exact readBody_T b k w hb h0 h1 k1 ht he
  by_cases k2 : k = 67
  · exact readBody_C b k w hb h0 h1 k2 ht he
  by_cases k3 : k = 83
  · exact readBody_N83 b k w hb h0 h1 k3 ht he
  by_cases k4 : k = 68
  · exact readBody_N68 b k w hb h0 h1 k4 ht he
  by_cases k5 : k = 70
  · exact readBody_N70 b k w hb h0 h1 k5 ht he
  by_cases k6 : k = 75
  · exact readBody_N75 b k w hb h0 h1 k6 ht he
  by_cases k7 : k = 90
  · exact readBody_Z b k w hb h0 h1 k7 ht he
  exact readBody_D b k w hb h0 h1 ⟨k1, k2, k3, k4, k5, k6, k7⟩ ht he
end Go.Proofs.YtdajolpoiffimabGreatDoor

namespace Go.Proofs.YtdajolpoiffimabGreatDoor
open Go.RowKit

set_option maxRecDepth 10000 in
set_option maxHeartbeats 4000000 in
theorem withStart_any (s : Px.St) (n : Int) (sl en : Value) (w : World) (hO : Px.Ok s) (hT : TabLH w) (hS : PAt w s sl en) :
    Calls Tryz.prog 54 #[pstV s sl en, .int .i64 n] w fun e w' => ChgR (Px.startP s n) w' e ∧ Below w.heap.size w w' := by
  obtain ⟨ad, cap, rfl, hcap⟩ := hS.sl.form
  obtain ⟨ad2, cap2, rfl, hcap2⟩ := hS.en.form
  have HO : Hid (Px.Ok s) := hO
  have hl : s.slots.length ≤ 10000 := by have := hO.len; omega
  have he : s.ends.length ≤ 10000 := by have : s.ends.length ≤ 6 := hO.st.en; omega
  have hc1 : -1 ≤ s.clock := hO.st.c1
  have hc2 : s.clock ≤ 4223371679 := hO.st.c2
  have HS : Hid (PAt w s (.slice ad s.slots.length cap) (.slice ad2 s.ends.length cap2)) := hS
  have hP := PRes.new w s (.slice ad s.slots.length cap) (.slice ad2 s.ends.length cap2)
  clear hS hO
  go_enter Tryz.func54, Tryz.ntmps54
  go_upto_region 1 with fail
  generalize (w.alloc (pstO s (.slice ad s.slots.length cap) (.slice ad2 s.ends.length cap2))).alloc pzO = W at *
  have HSW : Hid (PAt W s (.slice ad s.slots.length cap) (.slice ad2 s.ends.length cap2)) := HS.out.later hP.bel
  have HT : Hid (TabLH W) := hT.later hP.bel
  have HP : Hid (PRes w W s (.slice ad s.slots.length cap) (.slice ad2 s.ends.length cap2)) := hP
  obtain ⟨i0, i1, i2, i3, i4⟩ := hP.st
  clear hP hT
  go_wp2_with fail
  refine (pfind_any s n _ _ _ hl HSW.out).mono ?_
  rintro e w1 ⟨hF, hb1⟩
  clear i0 i1 i2 i3 i4
  have HP1 := HP.out.later hb1
  have HS1 := HSW.out.later hb1
  have HT1 := HT.out.later hb1
  clear HP HSW hb1 HT
  rcases hF with ⟨x, hf, rfl⟩ | ⟨hf, rfl⟩
  rotate_left
  · have HM : Hid (Px.startP s n = (Px.st0, 8)) := by unfold Hid Px.startP; rw [hf]
    clear hf
    generalize Px.sl0 = x at *
    have HPW2 := HP1.later (below_alloc w1 (psO x))
    clear HP1 HS1 HT1
    go_upto_region 2 with fail
    generalize w1.alloc (psO x) = W2 at *
    obtain ⟨⟨⟨u0, r0⟩, f0⟩, ⟨⟨u1, r1⟩, f1⟩, ⟨⟨u2, r2⟩, f2⟩, ⟨⟨u3, r3⟩, f3⟩, ⟨⟨u4, r4⟩, f4⟩⟩ := HPW2.five
    have HB2 : Hid (Below w.heap.size w W2) := HPW2.bel
    clear HPW2
    go_wp2_with fail
    refine bodyPost_ret (v := .tuple #[.agg #[.string { data := #[] }, .int .i64 0, .int .i64 0, .slice none 0 0, .slice none 0 0], .int .i64 8]) (by simp [results, Tryz.results54, go_sem, r0, r1, r2, r3, r4]) rfl ⟨ChgR.err HM.out, below_set5' HB2.out (by omega) _ _ _ _ _⟩
  have HFx : Hid (Px.find s.slots n = some x) := hf
  have hxm : x ∈ s.slots := List.mem_of_find?_eq_some hf
  have HEx : Hid _ := HO.out.each hxm
  obtain ⟨hx1, hx2', hx3, hx4, hx5, hx6⟩ := HEx.out
  have hx7 : x.att ≤ 5 := HO.out.st.att5 (List.mem_map.2 ⟨x, hxm, rfl⟩ : Px.absS x ∈ _)
  obtain ⟨j, hj⟩ : ∃ j : Nat, x.line = (j : Int) + 1 := ⟨(x.line - 1).toNat, by omega⟩
  have hjt : j < tn s.tab := by omega
  have HJ : Hid (x.line = (j : Int) + 1) := hj
  have HP2 := HP1.later (below_alloc w1 (psO x))
  have HS2 := HS1.later (below_alloc w1 (psO x))
  have HT2 := HT1.later (below_alloc w1 (psO x))
  have hx2 := PsIn.new w1 x
  have hq0 : w.heap.size + 1 < w1.heap.size := HP1.lt
  clear HP1 HS1 HT1 hf hx6 hx4 hxm hj hx2'
  go_upto_region 2 with fail
  generalize w1.alloc (psO x) = W2 at *
  generalize w1.heap.size = xq at *
  have HPP2 : Hid (PRes w W2 s (.slice ad s.slots.length cap) (.slice ad2 s.ends.length cap2)) := HP2
  have HSS2 : Hid (PAt W2 s (.slice ad s.slots.length cap) (.slice ad2 s.ends.length cap2)) := HS2
  have HTT2 : Hid (TabLH W2) := HT2
  have HX2 : Hid (PsIn W2 xq x) := hx2
  obtain ⟨x0, x1, x2, x3, x4, x5, x6, x7⟩ := hx2
  clear HP2 HS2 HT2
  go_wp2_with fail
  refine (runs_any x W2).mono ?_
  rintro e w3 ⟨rfl, hb3⟩
  clear x0 x1 x2 x3 x4 x5 x6 x7
  have HPw3 := HPP2.out.later hb3
  have HSw3 : Hid (PAt w3 s (.slice ad s.slots.length cap) (.slice ad2 s.ends.length cap2)) := HSS2.out.later hb3
  have HTw3 : Hid (TabLH w3) := HTT2.out.later hb3
  have HXw3 : Hid (PsIn w3 xq x) := HX2.out.later hb3
  clear HPP2 HSS2 HTT2 HX2 hb3
  cases hr : decide (0 < x.step)
  rotate_left
  · have HM : Hid (Px.startP s n = (Px.st0, 9)) := by unfold Hid Px.startP; rw [HFx.out]; simp only; rw [if_pos (of_decide_eq_true hr)]
    clear hr
    obtain ⟨⟨⟨u0, r0⟩, f0⟩, ⟨⟨u1, r1⟩, f1⟩, ⟨⟨u2, r2⟩, f2⟩, ⟨⟨u3, r3⟩, f3⟩, ⟨⟨u4, r4⟩, f4⟩⟩ := HPw3.five
    have HB2 : Hid (Below w.heap.size w w3) := HPw3.bel
    clear HPw3
    go_wp2_with fail
    refine bodyPost_ret (v := .tuple #[.agg #[.string { data := #[] }, .int .i64 0, .int .i64 0, .slice none 0 0, .slice none 0 0], .int .i64 9]) (by simp [results, Tryz.results54, go_sem, r0, r1, r2, r3, r4]) rfl ⟨ChgR.err HM.out, below_set5' HB2.out (by omega) _ _ _ _ _⟩
  have hrs : ¬ 0 < x.step := of_decide_eq_false hr
  have HM0 : Hid (Px.startP s n = if s.clock < x.frm then (Px.st0, 10) else if Px.lockP s x.line = true then (Px.st0, 11) else ({ s with slots := Px.repl s.slots (Px.beg s x) }, 0)) := by
    unfold Hid Px.startP; rw [HFx.out]; simp only; rw [if_neg hrs]
  clear hr hrs
  obtain ⟨i0, i1, i2, i3, i4⟩ := HPw3.st
  obtain ⟨x0, x1, x2, x3, x4, x5, x6, x7⟩ := HXw3.out
  by_cases h10 : s.clock < x.frm
  · have HM : Hid (Px.startP s n = (Px.st0, 10)) := by unfold Hid; rw [HM0.out, if_pos h10]
    clear HM0
    obtain ⟨⟨⟨u0, r0⟩, f0⟩, ⟨⟨u1, r1⟩, f1⟩, ⟨⟨u2, r2⟩, f2⟩, ⟨⟨u3, r3⟩, f3⟩, ⟨⟨u4, r4⟩, f4⟩⟩ := HPw3.five
    have HB2 : Hid (Below w.heap.size w w3) := HPw3.bel
    clear HPw3
    go_wp2_with fail
    refine bodyPost_ret (v := .tuple #[.agg #[.string { data := #[] }, .int .i64 0, .int .i64 0, .slice none 0 0, .slice none 0 0], .int .i64 10]) (by simp [results, Tryz.results54, go_sem, r0, r1, r2, r3, r4]) rfl ⟨ChgR.err HM.out, below_set5' HB2.out (by omega) _ _ _ _ _⟩
  have HM1 : Hid (Px.startP s n = if Px.lockP s x.line = true then (Px.st0, 11) else ({ s with slots := Px.repl s.slots (Px.beg s x) }, 0)) := by unfold Hid; rw [HM0.out, if_neg h10]
  have HPP3 : Hid (PRes w w3 s (.slice ad s.slots.length cap) (.slice ad2 s.ends.length cap2)) := HPw3
  clear HM0 HPw3
  go_wp2_with fail
  refine (plocked_any s x.line j _ _ _ HJ.out hjt hl HO.out.st.tab HTw3.out HSw3.out).mono ?_
  rintro e w5 ⟨rfl, hb5⟩
  clear i0 i1 i2 i3 i4 x0 x1 x2 x3 x4 x5 x6 x7
  have HPw5 := HPP3.out.later hb5
  have HSw5 := HSw3.out.later hb5
  have HXw5 := HXw3.out.later hb5
  clear HPP3 HSw3 HTw3 HXw3 hb5
  cases hk : Px.lockP s x.line
  rotate_left
  · have HM : Hid (Px.startP s n = (Px.st0, 11)) := by unfold Hid; rw [HM1.out, hk]; rfl
    clear HM1 hk HSw5 HXw5
    obtain ⟨⟨⟨u0, r0⟩, f0⟩, ⟨⟨u1, r1⟩, f1⟩, ⟨⟨u2, r2⟩, f2⟩, ⟨⟨u3, r3⟩, f3⟩, ⟨⟨u4, r4⟩, f4⟩⟩ := HPw5.five
    have HB2 : Hid (Below w.heap.size w w5) := HPw5.bel
    clear HPw5
    go_wp2_with fail
    refine bodyPost_ret (v := .tuple #[.agg #[.string { data := #[] }, .int .i64 0, .int .i64 0, .slice none 0 0, .slice none 0 0], .int .i64 11]) (by simp [results, Tryz.results54, go_sem, r0, r1, r2, r3, r4]) rfl ⟨ChgR.err HM.out, below_set5' HB2.out (by omega) _ _ _ _ _⟩
  have HM : Hid (Px.startP s n = ({ s with slots := Px.repl s.slots (Px.beg s x) }, 0)) := by unfold Hid; rw [HM1.out, hk]; rfl
  clear HM1 hk
  have hb6 : Below w5.heap.size w5 (w5.alloc (.cells #[.int .i64 x.num, .int .i64 x.line, .int .i64 x.minute, .int .i64 x.att, .int .i64 x.frm, .int .i64 1, .int .i64 s.clock, .string x.heard] 143)) := below_alloc w5 _
  have HPx := HPw5.later hb6
  have HSx := HSw5.later hb6
  have HYx : PsIn (w5.alloc (.cells #[.int .i64 x.num, .int .i64 x.line, .int .i64 x.minute, .int .i64 x.att, .int .i64 x.frm, .int .i64 1, .int .i64 s.clock, .string x.heard] 143)) w5.heap.size (Px.beg s x) := PsIn.new w5 (Px.beg s x)
  obtain ⟨i0, i1, i2, i3, i4⟩ := HPw5.st
  have hzz := HPw5.lt
  have hz0 : w.heap.size < w5.heap.size := by omega
  obtain ⟨x0, x1, x2, x3, x4, x5, x6, x7⟩ := HXw5
  clear HPw5 HSw5 hb6
  go_upto_region 13 with fail
  clear i0 i1 i2 i3 i4 x0 x1 x2 x3 x4 x5 x6 x7
  generalize w5.alloc (.cells #[.int .i64 x.num, .int .i64 x.line, .int .i64 x.minute, .int .i64 x.att, .int .i64 x.frm, .int .i64 1, .int .i64 s.clock, .string x.heard] 143) = W7 at *
  generalize w5.heap.size = aq at *
  generalize Px.beg s x = y at *
  have HP8 := HPx.later (below_alloc W7 (pstO s (.slice ad s.slots.length cap) (.slice ad2 s.ends.length cap2)))
  have HS8 := HSx.later (below_alloc W7 (pstO s (.slice ad s.slots.length cap) (.slice ad2 s.ends.length cap2)))
  have HY8 := HYx.later (below_alloc W7 (pstO s (.slice ad s.slots.length cap) (.slice ad2 s.ends.length cap2)))
  have hA := PW.new W7 s (.slice ad s.slots.length cap) (.slice ad2 s.ends.length cap2)
  have hWq := HPx.lt
  obtain ⟨i0, i1, i2, i3, i4⟩ := HPx.st
  clear HSx HYx
  go_upto_region 14 with fail
  clear i0 i1 i2 i3 i4 HPx
  generalize W7.alloc (pstO s (.slice ad s.slots.length cap) (.slice ad2 s.ends.length cap2)) = W8 at *
  generalize W7.heap.size = q at *
  have HPP8 : Hid (PRes w W8 s (.slice ad s.slots.length cap) (.slice ad2 s.ends.length cap2)) := HP8
  have HSS8 : Hid (PAt W8 s (.slice ad s.slots.length cap) (.slice ad2 s.ends.length cap2)) := HS8
  have HAA8 : Hid (PW W8 q s (.slice ad s.slots.length cap) (.slice ad2 s.ends.length cap2)) := hA
  obtain ⟨i0, i1, i2, i3, i4⟩ := HP8.st
  obtain ⟨y0, y1, y2, y3, y4, y5, y6, y7⟩ := HY8
  clear HP8 HS8 hA
  go_wp2_with fail
  refine (preplaced_any s.slots y _ _ hl HSS8.out.sl.1).mono ?_
  rintro e w9 ⟨⟨v9, rfl, hown9⟩, hb9⟩
  clear i0 i1 i2 i3 i4 y0 y1 y2 y3 y4 y5 y6 y7
  obtain ⟨ad9, cap9, hv9, _⟩ := (RowAt.of_own hown9).form
  subst hv9
  have hA9 := HAA8.out.later hb9
  have a3 := hA9.st.c3
  have f3' := hA9.f 3 (by decide)
  have hq9 := hA9.ty.lt
  have HP10 := (HPP8.out.later hb9).set hWq 3 (.slice ad9 (Px.repl s.slots y).length cap9)
  have HA10 := hA9.slots (Px.repl s.slots y) (.slice ad9 (Px.repl s.slots y).length cap9)
  have HE10 := ((HSS8.out.later hb9).set hA9.ty (by decide) (by decide) 3 (.slice ad9 (Px.repl s.slots y).length cap9)).en
  have HO10 := (TRow.of_own hown9).set hA9.ty (by decide) 3 (.slice ad9 (Px.repl s.slots y).length cap9)
  clear hA9 hown9 hb9 HPP8 HSS8 HAA8
  go_upto_region 15 with fail
  clear a3 f3'
  generalize w9.setCell ⟨q, 3, none⟩ (.slice ad9 (Px.repl s.slots y).length cap9) = W10 at *
  have HX : Hid (PEnd w W10 q { s with slots := Px.repl s.slots y } (.slice ad9 (Px.repl s.slots y).length cap9) (.slice ad2 s.ends.length cap2)) := ⟨HA10, ⟨HO10, HE10⟩, HP10.z, HP10.ty, HP10.bel⟩
  obtain ⟨⟨⟨u0, r0⟩, f0⟩, ⟨⟨u1, r1⟩, f1⟩, ⟨⟨u2, r2⟩, f2⟩, ⟨⟨u3, r3⟩, f3⟩, ⟨⟨u4, r4⟩, f4⟩⟩ := HP10.five
  obtain ⟨c0, c1, c2, c3, c4⟩ := HA10.st
  clear HP10 HA10 HE10 HO10
  go_wp2_with fail
  refine bodyPost_ret (v := .tuple #[pstV { s with slots := Px.repl s.slots y } (.slice ad9 (Px.repl s.slots y).length cap9) (.slice ad2 s.ends.length cap2), .int .i64 0]) (by simp [results, Tryz.results54, go_sem, r0, r1, r2, r3, r4]) rfl ⟨ChgR.ok HM.out (HX.out.fin _ _ _ _ _).1, (HX.out.fin _ _ _ _ _).2⟩
end Go.Proofs.YtdajolpoiffimabGreatDoor

namespace Go.Proofs.YtdajolpoiffimabGreatDoor
open Go.RowKit

theorem behL_drop {u : List UInt8} {t : List UInt8} {k : Nat} (h : k < t.length) (hp : u.isPrefixOf (t.drop k) = false) : behL u (t.drop k) = behL u (t.drop (k + 1)) := by
  rw [List.drop_eq_getElem_cons h] at hp ⊢
  exact behL_no hp
set_option maxHeartbeats 1000000 in
theorem pbehind_any (t u : ByteArray) (w : World) (ht : t.size ≤ 1000000) (hu : u.size ≤ 1000) (hu1 : 0 < u.size) :
    Calls Tryz.prog 130 #[.string t, .string u] w fun e w' => e = .returned (.tuple #[.string (behS t u), .bool (behB t u)]) ∧ w' = w := by
  go_enter Tryz.func130, Tryz.ntmps130
  go_wp2_with fail
  go_loop [6] (fun v => ∃ k : Nat, v = .int .i64 k ∧ k ≤ t.size ∧ behL u.data.toList (t.data.toList.drop k) = behL u.data.toList t.data.toList) (fun v => t.size + 1 - (intOf v).toNat)
  case atStart => exact ⟨0, rfl, Nat.zero_le _, by rw [List.drop_zero]⟩
  case round =>
    obtain ⟨k, rfl, hk, hbe⟩ := hrel
    have Hbe : Hid (behL u.data.toList (t.data.toList.drop k) = behL u.data.toList t.data.toList) := hbe
    clear hbe
    have hul : u.data.toList.length = u.size := by simp
    have htl : t.data.toList.length = t.size := by simp
    by_cases hlt : k + u.size ≤ t.size
    · have z1 : (k : Int) + (u.size : Int) ≤ (t.size : Int) := by omega
      have z2 : (0 : Int) ≤ (k : Int) := by omega
      have z3 : (k : Int) ≤ (k : Int) + (u.size : Int) := by omega
      have z4 : ((k : Int) + (u.size : Int)).toNat = k + u.size := by omega
      have z5 : ((k : Int)).toNat = k := by omega
      have hext : (t.extract k (k + u.size)).data.toList = (t.data.toList.drop k).take u.size := by
        rw [ext_list]; congr 1; omega
      cases he : ((t.extract k (k + u.size)).toList == u.toList)
      · have hp : u.data.toList.isPrefixOf (t.data.toList.drop k) = false := by
          cases hh : u.data.toList.isPrefixOf (t.data.toList.drop k)
          · rfl
          · have h1 := List.prefix_iff_eq_take.1 (List.isPrefixOf_iff_prefix.1 hh)
            have h2 : (t.extract k (k + u.size)).toList = u.toList := by
              rw [ByteArray.toList_eq, ByteArray.toList_eq, hext, ← hul, ← h1]
            rw [h2] at he; simp at he
        have HN : Hid (behL u.data.toList (t.data.toList.drop (k + 1)) = behL u.data.toList t.data.toList) := by
          unfold Hid
          rw [← behL_drop (by omega) hp]; exact Hbe.out
        clear hp hul htl hext
        go_wp2_with fail
        go_round
        case rel => exact ⟨k + 1, by go_num, by omega, HN.out⟩
        case measure => simp [intOf]; omega
      · have hp : u.data.toList.isPrefixOf (t.data.toList.drop k) = true := by
          have h2 : (t.extract k (k + u.size)).toList = u.toList := by simpa using he
          rw [ByteArray.toList_eq, ByteArray.toList_eq, hext] at h2
          rw [List.isPrefixOf_iff_prefix, List.prefix_iff_eq_take, hul]; exact h2.symm
        have HN : Hid (behL u.data.toList t.data.toList = some (t.data.toList.drop (k + u.size))) := by
          unfold Hid; rw [← Hbe.out, behL_yes hp, hul, List.drop_drop]
        have HS : Hid (behS t u = t.extract (k + u.size) t.size ∧ behB t u = true) := by
          unfold Hid behS behB; rw [HN.out]
          refine ⟨?_, rfl⟩
          apply ByteArray.ext
          apply Array.toList_inj.1
          rw [ext_list]
          show (t.data.toList.drop (k + u.size)) = _
          rw [List.take_of_length_le (by rw [List.length_drop, htl]; omega)]
        clear hp hul htl hext HN
        go_wp2_with fail
        go_ret2
        rw [HS.out.1, HS.out.2]
        exact ⟨rfl, rfl⟩
    · have z1 : ¬ (k : Int) + (u.size : Int) ≤ (t.size : Int) := by omega
      have HS : Hid (behS t u = ByteArray.empty ∧ behB t u = false) := by
        unfold Hid behS behB
        rw [← Hbe.out, behL_short (by rw [List.length_drop, hul, htl]; omega)]
        exact ⟨rfl, rfl⟩
      clear hul htl
      go_wp2_with fail
      go_ret2
      rw [HS.out.1, HS.out.2]
      exact ⟨rfl, rfl⟩

set_option maxHeartbeats 1000000 in
theorem ending_any (t : ByteArray) (k : Nat) (n : Int) (w : World) (hn : n = (k : Int)) (ht : t.size ≤ 1000000) (hk : k ≤ 1000) :
    Calls Tryz.prog 131 #[.string t, .int .i64 n] w fun e w' => e = .returned (.string (Px.lastB t k)) ∧ w' = w := by
  subst hn
  by_cases h : k < t.size
  · have HL : Hid (Px.lastB t k = t.extract (t.size - k) t.size) := by unfold Hid Px.lastB; rw [if_pos h]
    have z1 : ¬ (t.size : Int) ≤ (k : Int) := by omega
    have z2 : ((t.size : Int) - (k : Int)).toNat = t.size - k := by omega
    have z3 : (0 : Int) ≤ (t.size : Int) - (k : Int) := by omega
    have z4 : (t.size : Int) - (k : Int) ≤ (t.size : Int) := by omega
    go_enter Tryz.func131, Tryz.ntmps131
    go_wp2_with fail
    go_ret
    rw [HL.out]
    exact ⟨rfl, rfl⟩
  · have HL : Hid (Px.lastB t k = t) := by unfold Hid Px.lastB; rw [if_neg h]
    have z1 : (t.size : Int) ≤ (k : Int) := by omega
    go_enter Tryz.func131, Tryz.ntmps131
    go_wp2_with fail
    go_ret
    rw [HL.out]
    exact ⟨rfl, rfl⟩
end Go.Proofs.YtdajolpoiffimabGreatDoor

namespace Go.Proofs.YtdajolpoiffimabGreatDoor
open Go.RowKit

/-- What holds while a slot talks: it lies in its block, behind it the result's. -/
structure GIn (w wr : World) (y : Px.Sl) : Prop where
  ps : PsIn wr w.heap.size y
  fb : ∀ j : Nat, j < 8 → wr.frozen? ⟨w.heap.size, j, none⟩ = false
  z : ZCell wr (w.heap.size + 1) 8
  bel : Below w.heap.size w wr
  lt : w.heap.size + 1 < wr.heap.size
theorem GIn.new (w : World) (x : Px.Sl) : GIn w ((w.alloc (psO x)).alloc (.cells #[.int .i64 0, .int .i64 0, .int .i64 0, .int .i64 0, .int .i64 0, .int .i64 0, .int .i64 0, .string { data := #[] }] 143)) x := by
  have hZ := ZCell.new (w.alloc (psO x)) #[.int .i64 0, .int .i64 0, .int .i64 0, .int .i64 0, .int .i64 0, .int .i64 0, .int .i64 0, .string { data := #[] }] 143
  refine ⟨(PsIn.new w x).later (below_alloc _ _), fun j _ => ?_, by simpa using hZ, (below_alloc w _).alloc (by simp) _, by simp⟩
  rw [(below_alloc (w.alloc (psO x)) _).frozen (p := ⟨w.heap.size, j, none⟩) (by simp)]; simp [go_sem]
/-- A cell of the slot is written. -/
theorem GIn.set {w wr : World} {y y' : Px.Sl} (h : GIn w wr y) (j : Nat) (u : Value) (hps : PsIn (wr.setCell ⟨w.heap.size, j, none⟩ u) w.heap.size y') : GIn w (wr.setCell ⟨w.heap.size, j, none⟩ u) y' := by
  refine ⟨hps, fun i hi => by rw [World.frozen?_setCell]; exact h.fb i hi, fun i hi => ⟨?_, by rw [World.frozen?_setCell]; exact (h.z i hi).2⟩, h.bel.setCell (by simp) _, by have := h.lt; simpa [World.setCell] using this⟩
  obtain ⟨v, hv⟩ := (h.z i hi).1
  exact ⟨v, by rw [World.cell?_setCell_other _ _ _ _ (by simp)]; exact hv⟩
theorem GIn.step {w wr : World} {y : Px.Sl} (h : GIn w wr y) (k : Int) : GIn w (wr.setCell ⟨w.heap.size, 5, none⟩ (.int .i64 k)) { y with step := k } := by
  refine h.set 5 _ ?_
  obtain ⟨c0, c1, c2, c3, c4, c5, c6, c7⟩ := h.ps
  refine ⟨?_, ?_, ?_, ?_, ?_, ?_, ?_, ?_⟩ <;> simp [go_sem, c0, c1, c2, c3, c4, c5, c6, c7]
theorem GIn.ans {w wr : World} {y : Px.Sl} (h : GIn w wr y) (k : Int) : GIn w (wr.setCell ⟨w.heap.size, 6, none⟩ (.int .i64 k)) { y with ans := k } := by
  refine h.set 6 _ ?_
  obtain ⟨c0, c1, c2, c3, c4, c5, c6, c7⟩ := h.ps
  refine ⟨?_, ?_, ?_, ?_, ?_, ?_, ?_, ?_⟩ <;> simp [go_sem, c0, c1, c2, c3, c4, c5, c6, c7]
theorem GIn.heard {w wr : World} {y : Px.Sl} (h : GIn w wr y) (k : ByteArray) : GIn w (wr.setCell ⟨w.heap.size, 7, none⟩ (.string k)) { y with heard := k } := by
  refine h.set 7 _ ?_
  obtain ⟨c0, c1, c2, c3, c4, c5, c6, c7⟩ := h.ps
  refine ⟨?_, ?_, ?_, ?_, ?_, ?_, ?_, ?_⟩ <;> simp [go_sem, c0, c1, c2, c3, c4, c5, c6, c7]
theorem below_set8 {n q : Nat} {w w' : World} (h : Below n w w') (hq : n ≤ q) (u0 u1 u2 u3 u4 u5 u6 u7 : Value) : Below n w ((((((((w'.setCell ⟨q, 0, none⟩ u0).setCell ⟨q, 1, none⟩ u1).setCell ⟨q, 2, none⟩ u2).setCell ⟨q, 3, none⟩ u3).setCell ⟨q, 4, none⟩ u4).setCell ⟨q, 5, none⟩ u5).setCell ⟨q, 6, none⟩ u6).setCell ⟨q, 7, none⟩ u7) :=
  (((((((h.setCell hq _).setCell hq _).setCell hq _).setCell hq _).setCell hq _).setCell hq _).setCell hq _).setCell hq _
theorem ret_go {x : Px.Sl} {a : ByteArray} {p : Px.Sl × ByteArray} (h : p = (x, a)) : Ending.returned (.tuple #[psV x, .string a]) = .returned (.tuple #[psV p.1, .string p.2]) := by subst h; rfl
theorem behB_no {t u : ByteArray} (h : behB t u = false) : behS t u = ByteArray.empty := by
  unfold behB at h; unfold behS
  cases q : behL u.data.toList t.data.toList with
  | none => rfl
  | some l => rw [q] at h; simp at h

set_option maxRecDepth 10000 in
set_option maxHeartbeats 4000000 in
theorem goOn_any (x : Px.Sl) (L : List ByteArray) (sv : Value) (c : Int) (w : World) (hL5 : L.length ≤ 5) (hsz : ∀ z ∈ L, 2 ≤ z.size ∧ z.size ≤ 9) (hs1 : 1 ≤ x.step) (hs2 : x.step ≤ (L.length : Int) + 1) (hh : x.heard.size ≤ 100000) (hR : RowAt w sv L.length (L.flatMap spC)) :
    Calls Tryz.prog 99 #[psV x, sv, .int .i64 c] w fun e w' => e = .returned (.tuple #[psV (Px.goF L c (L.length + 1) x).1, .string (Px.goF L c (L.length + 1) x).2]) ∧ Below w.heap.size w w' := by
  obtain ⟨ad, cap, rfl, hcap⟩ := hR.form
  have HR : Hid (RowAt w (.slice ad L.length cap) L.length (L.flatMap spC)) := hR
  have HG := GIn.new w x
  have hx5 := HG.ps.c5
  obtain ⟨k0, hk0⟩ : ∃ k : Nat, x.step = (k : Int) + 1 := ⟨(x.step - 1).toNat, by omega⟩
  have HK : Hid (x.step = (k0 : Int) + 1) := hk0
  rw [hk0] at hx5
  have hk5 : k0 ≤ 5 := by omega
  clear hR hk0
  go_enter Tryz.func99, Tryz.ntmps99
  go_upto_region 1 with fail
  generalize (w.alloc (psO x)).alloc (.cells #[.int .i64 0, .int .i64 0, .int .i64 0, .int .i64 0, .int .i64 0, .int .i64 0, .int .i64 0, .string { data := #[] }] 143) = W at *
  have HGW : Hid (GIn w W x) := HG
  clear HG
  go_wp2_with fail
  clear hx5
  go_loopw [8, 9] (fun v i wr => ∃ (k n : Nat) (y : Px.Sl) (a : ByteArray), k ≤ L.length ∧ i = .int .i64 k ∧ y.step = (k : Int) + 1 ∧ v = .string a ∧ a.size ≤ 9 * k ∧ y.heard.size ≤ 100000 ∧ L.length + 1 ≤ k + n ∧ Px.goF L c (L.length + 1) x = ((Px.goF L c n y).1, a ++ (Px.goF L c n y).2) ∧ GIn w wr y) (fun _ i _ => L.length - (intOf i).toNat)
  case atStart => exact ⟨k0, L.length + 1, x, ByteArray.empty, by have := HK.out; omega, rfl, HK.out, rfl, by simp, hh, by omega, by rw [Px.ba_nil_app], HGW.out⟩
  case round =>
    obtain ⟨k, n, y, a, hk, rfl, hy5, rfl, ha, hyh, hn, hgo, HI⟩ := hrel
    have HGo : Hid (Px.goF L c (L.length + 1) x = ((Px.goF L c n y).1, a ++ (Px.goF L c n y).2)) := hgo
    have HY5 : Hid (y.step = (k : Int) + 1) := hy5
    clear hgo
    obtain ⟨c0, c1, c2, c3, c4, c5, c6, c7⟩ := HI.ps
    have hb1 := HI.bel.size
    have g5 := HI.fb 5 (by decide)
    have g6 := HI.fb 6 (by decide)
    have g7 := HI.fb 7 (by decide)
    have hlt0 : w.heap.size < wr.heap.size := by have := HI.lt; omega
    obtain ⟨m, rfl⟩ : ∃ m, n = m + 1 := ⟨n - 1, by omega⟩
    by_cases hlt : k < L.length
    · obtain ⟨b, off, cap', hv, _, hc⟩ := (HR.out.later HI.bel).some' (by omega)
      cases hv
      have d0 : wr.cell? ⟨b, off + k * 2, none⟩ = some (.bool (sayB L[k])) := RowAt.cell spC_len hc k hlt 0 (by decide)
      have d1 : wr.cell? ⟨b, off + k * 2 + 1, none⟩ = some (.string (L[k].extract 1 L[k].size)) := RowAt.cell spC_len hc k hlt 1 (by decide)
      clear hc
      have hwz := Px.word_size hlt hsz
      have hwe := word_eq hlt
      have HE : Hid (Px.goF L c (m + 1) y = if sayB L[k] = true then ((Px.goF L c m { y with step := (k : Int) + 2 }).1, wordAt L k ++ (Px.goF L c m { y with step := (k : Int) + 2 }).2)
          else if behB y.heard (wordAt L k) = false then ({ y with heard := Px.lastB y.heard ((wordAt L k).size - 1) }, ByteArray.empty)
          else Px.goF L c m { y with step := (k : Int) + 2, heard := behS y.heard (wordAt L k), ans := c }) := by
        unfold Hid
        rw [Px.goF, if_neg (by omega), HY5.out, show ((k : Int) + 1 - 1).toNat = k by omega, show (k : Int) + 1 + 1 = (k : Int) + 2 by omega]
        have : L.getD k ByteArray.empty = L[k] := by simp [hlt]
        rw [this]
      rw [hwe] at d1
      have b1 : (0 : Int) ≤ (k : Int) := by omega
      have b2 : (k : Int) < (L.length : Int) := by omega
      have hsy : Hid (∃ q, sayB L[k] = q) := ⟨_, rfl⟩
      obtain ⟨q, hq⟩ := hsy.out
      rw [hq] at d0 HE
      clear hq hsy hwe
      rw [hy5] at c5
      clear hy5
      have hwl : Hid ((wordAt L k).size ≤ 8) := hwz.2
      generalize wordAt L k = u at *
      cases q
      · have HE' : Hid (Px.goF L c (m + 1) y = if behB y.heard u = false then ({ y with heard := Px.lastB y.heard (u.size - 1) }, ByteArray.empty) else Px.goF L c m { y with step := (k : Int) + 2, heard := behS y.heard u, ans := c }) := by
          unfold Hid; rw [HE.out, if_neg (by simp)]
        clear HE
        go_wp2_with fail
        refine (pbehind_any y.heard u wr (by omega) (by omega) (by omega)).mono ?_
        rintro e w2 ⟨rfl, rfl⟩
        cases hbb : behB y.heard u
        · have HE2 : Hid (Px.goF L c (L.length + 1) x = ({ y with heard := Px.lastB y.heard (u.size - 1) }, a)) := by
            unfold Hid; rw [HGo.out, HE'.out, if_pos hbb, Px.ba_app_nil]
          clear HE' HGo hbb
          have u1 : (u.size : Int) - 1 = ((u.size - 1 : Nat) : Int) := by omega
          go_wp2_with fail
          refine (ending_any y.heard (u.size - 1) _ w2 (by rw [← u1]) (by omega) (by omega)).mono ?_
          rintro e w3 ⟨rfl, rfl⟩
          have HI2 := HI.heard (Px.lastB y.heard (u.size - 1))
          clear HI d0 d1
          go_upto_region 11 with fail
          clear c0 c1 c2 c3 c4 c5 c6 c7 g5 g6 g7
          generalize w3.setCell ⟨w.heap.size, 7, none⟩ (.string (Px.lastB y.heard (u.size - 1))) = W4 at *
          have HP : Hid (∃ z : Px.Sl, { y with heard := Px.lastB y.heard (u.size - 1) } = z) := ⟨_, rfl⟩
          obtain ⟨z, hz⟩ := HP.out
          rw [hz] at HI2 HE2
          clear hz HP
          obtain ⟨e0, e1, e2, e3, e4, e5, e6, e7⟩ := HI2.ps
          obtain ⟨⟨u0, r0⟩, f0⟩ := HI2.z 0 (by decide)
          obtain ⟨⟨u1, r1⟩, f1⟩ := HI2.z 1 (by decide)
          obtain ⟨⟨u2, r2⟩, f2⟩ := HI2.z 2 (by decide)
          obtain ⟨⟨u3, r3⟩, f3⟩ := HI2.z 3 (by decide)
          obtain ⟨⟨u4, r4⟩, f4⟩ := HI2.z 4 (by decide)
          obtain ⟨⟨u5, r5⟩, f5⟩ := HI2.z 5 (by decide)
          obtain ⟨⟨u6, r6⟩, f6⟩ := HI2.z 6 (by decide)
          obtain ⟨⟨u7, r7⟩, f7⟩ := HI2.z 7 (by decide)
          have HB : Hid (Below w.heap.size w W4) := HI2.bel
          clear HI2
          go_wp2_with fail
          refine bodyPost_ret (v := .tuple #[psV z, .string a]) (by simp [results, Tryz.results99, go_sem, r0, r1, r2, r3, r4, r5, r6, r7]) rfl ⟨ret_go HE2.out, below_set8 HB.out (by omega) _ _ _ _ _ _ _ _⟩
        · have HGo2 : Hid (Px.goF L c (L.length + 1) x = ((Px.goF L c m { y with step := (k : Int) + 2, heard := behS y.heard u, ans := c }).1, a ++ (Px.goF L c m { y with step := (k : Int) + 2, heard := behS y.heard u, ans := c }).2)) := by
            unfold Hid; rw [HGo.out, HE'.out, if_neg (by rw [hbb]; simp)]
          have hss := behS_size y.heard u
          clear HE' HGo hbb
          have HI4 := ((HI.heard (behS y.heard u)).ans c).step ((k : Int) + 2)
          clear HI d0 d1
          generalize behS y.heard u = rest at *
          go_wp2_with fail
          go_roundw
          case rel => exact ⟨k + 1, m, _, a, by omega, by go_num, by show (k : Int) + 2 = ((k + 1 : Nat) : Int) + 1; omega, rfl, by omega, by show rest.size ≤ 100000; omega, by omega, HGo2.out, HI4⟩
          case measure => simp [intOf]; omega
      · have HGo2 : Hid (Px.goF L c (L.length + 1) x = ((Px.goF L c m { y with step := (k : Int) + 2 }).1, (a ++ u) ++ (Px.goF L c m { y with step := (k : Int) + 2 }).2)) := by
          unfold Hid; rw [HGo.out, HE.out, if_pos rfl, ByteArray.append_assoc]
        clear HE HGo
        have HI4 := HI.step ((k : Int) + 2)
        clear HI
        go_wp2_with fail
        go_roundw
        case rel => exact ⟨k + 1, m, { y with step := (k : Int) + 2 }, a ++ u, by omega, by go_num, by show (k : Int) + 2 = ((k + 1 : Nat) : Int) + 1; omega, rfl, by have := hwl.out; simp [ByteArray.size_append]; omega, hyh, by omega, HGo2.out, HI4⟩
        case measure => simp [intOf]; omega
    · have HE2 : Hid (Px.goF L c (L.length + 1) x = (y, a)) := by
        unfold Hid; rw [HGo.out]
        have : Px.goF L c (m + 1) y = (y, ByteArray.empty) := by rw [Px.goF, if_pos (by have := HY5.out; omega)]
        rw [this, Px.ba_app_nil]
      have z1 : ¬ (k : Int) < (L.length : Int) := by omega
      clear hy5
      obtain ⟨⟨u0, r0⟩, f0⟩ := HI.z 0 (by decide)
      obtain ⟨⟨u1, r1⟩, f1⟩ := HI.z 1 (by decide)
      obtain ⟨⟨u2, r2⟩, f2⟩ := HI.z 2 (by decide)
      obtain ⟨⟨u3, r3⟩, f3⟩ := HI.z 3 (by decide)
      obtain ⟨⟨u4, r4⟩, f4⟩ := HI.z 4 (by decide)
      obtain ⟨⟨u5, r5⟩, f5⟩ := HI.z 5 (by decide)
      obtain ⟨⟨u6, r6⟩, f6⟩ := HI.z 6 (by decide)
      obtain ⟨⟨u7, r7⟩, f7⟩ := HI.z 7 (by decide)
      have HB : Hid (Below w.heap.size w wr) := HI.bel
      clear HI HGo
      go_wp2_with fail
      refine bodyPost_ret (v := .tuple #[psV y, .string a]) (by simp [results, Tryz.results99, go_sem, r0, r1, r2, r3, r4, r5, r6, r7]) rfl ⟨ret_go HE2.out, below_set8 HB.out (by omega) _ _ _ _ _ _ _ _⟩
end Go.Proofs.YtdajolpoiffimabGreatDoor
