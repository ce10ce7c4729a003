/-
  PrgTake, PrgChange, PrgBehind, PrgReadAll, PrgOpen.
-/
import Derived.Test.YtdajolpoiffimaaGreatDoorO9
import Derived.Test.YtdajolpoiffimaaGreatDoorO10
import Derived.Test.YtdajolpoiffimaaGreatDoorO11
import Derived.Test.YtdajolpoiffimaaGreatDoorO12
import Derived.Test.YtdajolpoiffimaaGreatDoorO14
import Derived.Test.YtdajolpoiffimaaGreatDoorO16

namespace Go.Proofs.YtdajolpoiffimaaGreatDoor
open Go.RowKit

/-- What Take answers. -/
inductive TakeR (log : ByteArray) (w' : World) : Ending → Prop
 | ch (b more : ByteArray) (c : Ct) (hN : Bx.Nx log b more) (h : IsC b c) (hs : c.st = Px.st0) (hz : c.size = (b.size : Int) + 6) : TakeR log w' (.returned (.tuple #[ctV c nilS nilS, .bool true]))
 | wh (b more : ByteArray) (c : Ct) (sl en : Value) (hN : Bx.Nx log b more) (h : IsW b c) (hz : c.size = (b.size : Int) + 6) (ha : PAt w' c.st sl en) : TakeR log w' (.returned (.tuple #[ctV c sl en, .bool true]))
 | no (h : ¬ ∃ b more, Bx.Nx log b more ∧ ((∃ h, Bx.IsCh b h) ∨ ∃ s, Bx.StFit s ∧ Bx.wholeS s = b)) : TakeR log w' (.returned (.tuple #[ctV ct0 nilS nilS, .bool false]))
/-- Where Take is: the result, the parts. -/
structure RT (w W : World) (p : Bx.PS) : Prop where
 z : Cl W w.heap.size 148 (ctC ct0 nilS nilS)
 p : PtIn W (w.heap.size + 1) p
 b : Below w.heap.size w W
theorem RT.call {w W W' : World} {p p' : Bx.PS} (h : RT w W p) (hp : PtIn W' (w.heap.size + 1) p') (hg : W.grownBy W' (some (w.heap.size + 1))) : RT w W' p' :=
 ⟨h.z.grow hg (by omega), hp, ⟨hg.os.trans h.b.os, hg.tape.trans h.b.tape, hg.output.trans h.b.output, Nat.le_trans h.b.size hg.size, fun k hk => (hg.block k (Nat.lt_of_lt_of_le hk h.b.size) (fun e => by cases e; omega)).trans (h.b.block k hk)⟩⟩
theorem RT.later {w W W' : World} {p : Bx.PS} (h : RT w W p) (hb : Below W.heap.size W W') : RT w W' p := ⟨h.z.later hb, h.p.later hb, h.b.trans (hb.mono h.b.size)⟩
theorem RT.new (w : World) (b : ByteArray) : RT w ((w.alloc (.cells (ctC ct0 nilS nilS).toArray 148)).alloc (.cells (ptC ⟨b, false⟩).toArray 213)) ⟨b, false⟩ := by
 have b1 := below_alloc w (.cells (ctC ct0 nilS nilS).toArray 148)
 have z1 : (w.alloc (.cells (ctC ct0 nilS nilS).toArray 148)).heap.size = w.heap.size + 1 := by simp
 have b2 := below_alloc (w.alloc (.cells (ctC ct0 nilS nilS).toArray 148)) (.cells (ptC ⟨b, false⟩).toArray 213)
 have n2 := Cl.new (w.alloc (.cells (ctC ct0 nilS nilS).toArray 148)) (ptC ⟨b, false⟩) 213
 rw [z1] at n2
 exact ⟨(Cl.new w (ctC ct0 nilS nilS) 148).later b2, n2, b1.trans (b2.mono b1.size)⟩
theorem txtP_le (k : Int) (p : Bx.PS) : (Bx.txtP k p).1.size ≤ p.rest.size := by
 unfold Bx.txtP; split
 ·simp
 ·simp; omega
set_option maxRecDepth 10000 in
set_option maxHeartbeats 4000000 in
theorem ptake_any (log : ByteArray) (w : World) (hl : log.size ≤ 100000) :
 Calls Tryz.prog 96 #[.string log] w fun e w' => TakeR log w' e ∧ Below w.heap.size w w' := by
 obtain ⟨l, p1, h1⟩ : ∃ a q, Bx.numP 2 ⟨log, false⟩ = (a, q) := ⟨_, _, pr_eta _⟩
 obtain ⟨body, p2, h2⟩ : ∃ a q, Bx.txtP l p1 = (a, q) := ⟨_, _, pr_eta _⟩
 obtain ⟨chk, p3, h3⟩ : ∃ a q, Bx.numP 4 p2 = (a, q) := ⟨_, _, pr_eta _⟩
 have s1 := numP_size 2 ⟨log, false⟩; have s2 := txtP_size l p1; have s3 := numP_size 4 p2; have s4 := txtP_le l p1
 rw [h1] at s1; rw [h2] at s2 s4; rw [h3] at s3
 simp only at s1 s2 s3 s4
 have l1 := Bx.numP_bd 2 ⟨log, false⟩; have l2 := Bx.numP_lt 2 ⟨log, false⟩
 rw [h1] at l1 l2
 simp only at l1 l2
 have l3 : l < 65536 := by simpa using l2
 have HMa : Hid ((p3.wrong = true → ¬ ∃ b more, Bx.Nx log b more) ∧ (p3.wrong = false → chk = Crc.sumR body → Bx.Nx log body p3.rest ∧ l = body.size) ∧ (¬ chk = Crc.sumR body → ¬ ∃ b more, Bx.Nx log b more)) := Bx.take_math h1 h2 h3
 have H1 : Hid (Bx.numP 2 ⟨log, false⟩ = (l, p1)) := h1
 have H2 : Hid (Bx.txtP l p1 = (body, p2)) := h2
 have H3 : Hid (Bx.numP 4 p2 = (chk, p3)) := h3
 clear h1 h2 h3 l2
 have hR := RT.new w log
 go_enter Tryz.func96, Tryz.ntmps96
 go_upto_region 2 with fail
 have hR' : RT w ((w.alloc (.cells #[.string { data := #[] }, .string { data := #[] }, .int .i64 0, .string { data := #[] }, .int .i64 0, .int .i64 0, .slice none 0 0, .slice none 0 0, .int .i64 0] 148)).alloc (.cells #[.string log, .bool false] 213)) ⟨log, false⟩ := hR
 clear hR
 generalize (w.alloc (.cells #[.string { data := #[] }, .string { data := #[] }, .int .i64 0, .string { data := #[] }, .int .i64 0, .int .i64 0, .slice none 0 0, .slice none 0 0, .int .i64 0] 148)).alloc (.cells #[.string log, .bool false] 213) = W at *
 have HR0 : Hid (RT w W ⟨log, false⟩) := hR'
 clear hR'
 go_wp2_with fail
 refine (pnumber_any ⟨log, false⟩ (w.heap.size + 1) 2 _ _ rfl (by decide) hl HR0.out.p).mono ?_
 rintro ex w1 ⟨rfl, hp1, hg1⟩
 rw [H1.out] at hp1 ⊢
 simp only at hp1
 have HR1 : Hid (RT w w1 p1) := HR0.out.call hp1 hg1
 clear hp1 hg1 HR0
 go_wp2_with fail
 refine (ptext_any p1 (w.heap.size + 1) l _ (by omega) HR1.out.p).mono ?_
 rintro ex w2 ⟨rfl, hp1, hg1⟩
 rw [H2.out] at hp1 ⊢
 simp only at hp1
 have HR2 : Hid (RT w w2 p2) := HR1.out.call hp1 hg1
 clear hp1 hg1 HR1
 go_wp2_with fail
 refine (pnumber_any p2 (w.heap.size + 1) 4 _ _ rfl (by decide) (by omega) HR2.out.p).mono ?_
 rintro ex w3 ⟨rfl, hp1, hg1⟩
 rw [H3.out] at hp1 ⊢
 simp only at hp1
 have HR3 : Hid (RT w w3 p3) := HR2.out.call hp1 hg1
 clear hp1 hg1 HR2
 have q1 := HR3.out.p.c1
 have yq := HR3.out.p.ty.lt
 have z0 := HR3.out.z.c 0 _ rfl; have z1 := HR3.out.z.c 1 _ rfl; have z2 := HR3.out.z.c 2 _ rfl; have z3 := HR3.out.z.c 3 _ rfl; have z4 := HR3.out.z.c 4 _ rfl; have z5 := HR3.out.z.c 5 _ rfl; have z6 := HR3.out.z.c 6 _ rfl; have z7 := HR3.out.z.c 7 _ rfl; have z8 := HR3.out.z.c 8 _ rfl
 have f0 := HR3.out.z.f 0 (by simp); have f1 := HR3.out.z.f 1 (by simp); have f2 := HR3.out.z.f 2 (by simp); have f3 := HR3.out.z.f 3 (by simp); have f4 := HR3.out.z.f 4 (by simp); have f5 := HR3.out.z.f 5 (by simp); have f6 := HR3.out.z.f 6 (by simp); have f7 := HR3.out.z.f 7 (by simp); have f8 := HR3.out.z.f 8 (by simp)
 have yz := HR3.out.z.ty.lt
 cases hw : p3.wrong
 rotate_left
 ·rw [hw] at q1
  have HF : Hid (¬ ∃ b more, Bx.Nx log b more ∧ ((∃ h, Bx.IsCh b h) ∨ ∃ s, Bx.StFit s ∧ Bx.wholeS s = b)) := fun ⟨b, more, hN, _⟩ => HMa.out.1 hw ⟨b, more, hN⟩
  clear hw
  go_wp2_with fail
  refine bodyPost_ret (v := .tuple #[ctV ct0 nilS nilS, .bool false]) (by simp [results, Tryz.results96, go_sem, z0, z1, z2, z3, z4, z5, z6, z7, z8, ct0, Px.st0]; rfl) rfl ⟨TakeR.no HF.out, below_set9 HR3.out.b (Nat.le_refl _) _ _ _ _ _ _ _ _ _⟩
 rw [hw] at q1
 have HW : Hid (p3.wrong = false) := hw
 clear hw
 go_upto_region 7 with fail
 clear q1 yq
 go_wp2_with fail
 refine (fsum_any body _ (by unfold maxLen; omega)).mono ?_
 rintro e w4 ⟨rfl, hw4⟩
 have hw5 := hw4.symm
 subst hw5
 by_cases hc : chk = Crc.sumR body
 rotate_left
 ·have HF : Hid (¬ ∃ b more, Bx.Nx log b more ∧ ((∃ h, Bx.IsCh b h) ∨ ∃ s, Bx.StFit s ∧ Bx.wholeS s = b)) := fun ⟨b, more, hN, _⟩ => HMa.out.2.2 hc ⟨b, more, hN⟩
  have hcb : (chk != Crc.sumR body) = true := by simpa using hc
  clear hc
  generalize Crc.sumR body = sm at *
  go_wp2_with fail
  refine bodyPost_ret (v := .tuple #[ctV ct0 nilS nilS, .bool false]) (by simp [results, Tryz.results96, go_sem, z0, z1, z2, z3, z4, z5, z6, z7, z8, ct0, Px.st0]; rfl) rfl ⟨TakeR.no HF.out, below_set9 HR3.out.b (Nat.le_refl _) _ _ _ _ _ _ _ _ _⟩
 obtain ⟨hN, hlb⟩ := HMa.out.2.1 HW.out hc
 subst hlb
 have HN : Hid (Bx.Nx log body p3.rest) := hN
 have hcb : (chk != Crc.sumR body) = false := by simpa using hc
 clear hc hN
 generalize Crc.sumR body = sm at *
 go_wp2_with fail
 refine (readBody_any body _ (by omega)).mono ?_
 rintro e w5 ⟨hB, hb5⟩
 have HR5 : Hid (RT w w5 p3) := HR3.out.later hb5
 clear z0 z1 z2 z3 z4 z5 z6 z7 z8 f0 f1 f2 f3 f4 f5 f6 f7 f8 yz hb5 HR3
 cases hB with
 | no c sl en n1 n2 ha =>
   obtain ⟨⟨ad, cap, rfl⟩, ⟨ad2, cap2, rfl⟩⟩ := ha
   have HF : Hid (¬ ∃ b more, Bx.Nx log b more ∧ ((∃ h, Bx.IsCh b h) ∨ ∃ s, Bx.StFit s ∧ Bx.wholeS s = b)) := by
    rintro ⟨b, more, hN, h⟩
    obtain ⟨rfl, _⟩ := hN.uniq HN.out
    rcases h with h | h
    ·exact n1 h
    ·exact n2 h
   have HRa : Hid (∀ o, RT w (w5.alloc o) p3) := fun o => HR5.out.later (below_alloc _ _)
   clear n1 n2
   have hZ := (HRa.out (.cells (ctC c (.slice ad c.st.slots.length cap) (.slice ad2 c.st.ends.length cap2)).toArray 148)).z
   have hBl : Hid (Below w.heap.size w (w5.alloc (.cells (ctC c (.slice ad c.st.slots.length cap) (.slice ad2 c.st.ends.length cap2)).toArray 148))) := (HRa.out _).b
   go_upto_region 11 with fail
   generalize w5.alloc (.cells #[.string c.kind, .string c.tab, .int .i64 c.num, .string c.st.tab, .int .i64 c.st.clock, .int .i64 c.st.next, .slice ad c.st.slots.length cap, .slice ad2 c.st.ends.length cap2, .int .i64 c.size] 148) = W5 at *
   have z0 := hZ.c 0 _ rfl; have z1 := hZ.c 1 _ rfl; have z2 := hZ.c 2 _ rfl; have z3 := hZ.c 3 _ rfl; have z4 := hZ.c 4 _ rfl; have z5 := hZ.c 5 _ rfl; have z6 := hZ.c 6 _ rfl; have z7 := hZ.c 7 _ rfl; have z8 := hZ.c 8 _ rfl
   have f0 := hZ.f 0 (by simp); have f1 := hZ.f 1 (by simp); have f2 := hZ.f 2 (by simp); have f3 := hZ.f 3 (by simp); have f4 := hZ.f 4 (by simp); have f5 := hZ.f 5 (by simp); have f6 := hZ.f 6 (by simp); have f7 := hZ.f 7 (by simp); have f8 := hZ.f 8 (by simp)
   have yz := hZ.ty.lt
   clear hZ
   go_wp2_with fail
   refine bodyPost_ret (v := .tuple #[ctV ct0 nilS nilS, .bool false]) (by simp [results, Tryz.results96, go_sem, z0, z1, z2, z3, z4, z5, z6, z7, z8, ct0, Px.st0]; rfl) rfl ⟨TakeR.no HF.out, below_set9 hBl.out (Nat.le_refl _) _ _ _ _ _ _ _ _ _⟩
 | ch c h hs hz =>
   have HIs : Hid (IsC body ⟨c.kind, c.tab, c.num, c.st, 2 + (body.size : Int) + 4⟩) := h
   have HSt : Hid (c.st = Px.st0) := hs
   clear h hs hz
   have HY : Hid ((2 : Int) + (body.size : Int) + 4 = (body.size : Int) + 6) := by unfold Hid; omega
   have hCl := Cl.new w5 (ctC c (.slice none 0 0) (.slice none 0 0)) 148
   have hRa := HR5.out.later (below_alloc w5 (.cells (ctC c (.slice none 0 0) (.slice none 0 0)).toArray 148))
   go_upto_region 13 with fail
   have hCl' : Cl (w5.alloc (.cells #[.string c.kind, .string c.tab, .int .i64 c.num, .string c.st.tab, .int .i64 c.st.clock, .int .i64 c.st.next, .slice none 0 0, .slice none 0 0, .int .i64 c.size] 148)) w5.heap.size 148 (ctC c (.slice none 0 0) (.slice none 0 0)) := hCl
   have hRa' : RT w (w5.alloc (.cells #[.string c.kind, .string c.tab, .int .i64 c.num, .string c.st.tab, .int .i64 c.st.clock, .int .i64 c.st.next, .slice none 0 0, .slice none 0 0, .int .i64 c.size] 148)) p3 := hRa
   clear hCl hRa
   have hq5 : w.heap.size < w5.heap.size := HR5.out.z.ty.lt
   generalize w5.alloc (.cells #[.string c.kind, .string c.tab, .int .i64 c.num, .string c.st.tab, .int .i64 c.st.clock, .int .i64 c.st.next, .slice none 0 0, .slice none 0 0, .int .i64 c.size] 148) = W5 at *
   generalize w5.heap.size = cq at *
   have s8 := hCl'.c 8 _ rfl
   have g8 := hCl'.f 8 (by simp)
   have y8 := hCl'.ty.lt
   have hC6 := hCl'.set 8 (by simp) (.int .i64 (2 + (body.size : Int) + 4))
   have hZ6 := hRa'.z.far (g := cq) (by omega) 8 (.int .i64 (2 + (body.size : Int) + 4))
   have HBl : Hid (Below w.heap.size w (W5.setCell ⟨cq, 8, none⟩ (.int .i64 (2 + (body.size : Int) + 4)))) := hRa'.b.setCell (Nat.le_of_lt hq5) _
   clear hCl' hRa' HR5
   go_upto_region 14 with fail
   clear s8 g8 y8
   generalize W5.setCell ⟨cq, 8, none⟩ (.int .i64 (2 + (body.size : Int) + 4)) = W6 at *
   have x0 := hC6.c 0 _ rfl; have x1 := hC6.c 1 _ rfl; have x2 := hC6.c 2 _ rfl; have x3 := hC6.c 3 _ rfl; have x4 := hC6.c 4 _ rfl; have x5 := hC6.c 5 _ rfl; have x6 := hC6.c 6 _ rfl; have x7 := hC6.c 7 _ rfl; have x8 := hC6.c 8 _ rfl
   have z0 := hZ6.c 0 _ rfl; have z1 := hZ6.c 1 _ rfl; have z2 := hZ6.c 2 _ rfl; have z3 := hZ6.c 3 _ rfl; have z4 := hZ6.c 4 _ rfl; have z5 := hZ6.c 5 _ rfl; have z6 := hZ6.c 6 _ rfl; have z7 := hZ6.c 7 _ rfl; have z8 := hZ6.c 8 _ rfl
   have f0 := hZ6.f 0 (by simp); have f1 := hZ6.f 1 (by simp); have f2 := hZ6.f 2 (by simp); have f3 := hZ6.f 3 (by simp); have f4 := hZ6.f 4 (by simp); have f5 := hZ6.f 5 (by simp); have f6 := hZ6.f 6 (by simp); have f7 := hZ6.f 7 (by simp); have f8 := hZ6.f 8 (by simp)
   have yz := hZ6.ty.lt
   have yx := hC6.ty.lt
   have HTy : Hid (Typed W6 w.heap.size 148) := hZ6.ty
   clear hC6 hZ6
   go_wp2_with fail
   refine bodyPost_ret (v := .tuple #[ctV ⟨c.kind, c.tab, c.num, c.st, 2 + (body.size : Int) + 4⟩ (.slice none 0 0) (.slice none 0 0), .bool true]) (by simp [results, Tryz.results96, go_sem, z0, z1, z2, z3, z4, z5, z6, z7, z8]) rfl ⟨TakeR.ch body p3.rest _ HN.out HIs.out HSt.out HY.out, below_set9 HBl.out (Nat.le_refl _) _ _ _ _ _ _ _ _ _⟩
 | wh c sl en h hz ha =>
   obtain ⟨ad, cap, rfl, _⟩ := ha.sl.form
   obtain ⟨ad2, cap2, rfl, _⟩ := ha.en.form
   have HIs : Hid (IsW body ⟨c.kind, c.tab, c.num, c.st, 2 + (body.size : Int) + 4⟩) := h
   have HA5 : Hid (∀ o, PAt (w5.alloc o) c.st (.slice ad c.st.slots.length cap) (.slice ad2 c.st.ends.length cap2)) := fun o => ha.later (below_alloc _ _)
   clear h hz ha
   have HY : Hid ((2 : Int) + (body.size : Int) + 4 = (body.size : Int) + 6) := by unfold Hid; omega
   have hCl := Cl.new w5 (ctC c (.slice ad c.st.slots.length cap) (.slice ad2 c.st.ends.length cap2)) 148
   have hRa := HR5.out.later (below_alloc w5 (.cells (ctC c (.slice ad c.st.slots.length cap) (.slice ad2 c.st.ends.length cap2)).toArray 148))
   go_upto_region 13 with fail
   have hCl' : Cl (w5.alloc (.cells #[.string c.kind, .string c.tab, .int .i64 c.num, .string c.st.tab, .int .i64 c.st.clock, .int .i64 c.st.next, (.slice ad c.st.slots.length cap), (.slice ad2 c.st.ends.length cap2), .int .i64 c.size] 148)) w5.heap.size 148 (ctC c (.slice ad c.st.slots.length cap) (.slice ad2 c.st.ends.length cap2)) := hCl
   have hRa' : RT w (w5.alloc (.cells #[.string c.kind, .string c.tab, .int .i64 c.num, .string c.st.tab, .int .i64 c.st.clock, .int .i64 c.st.next, (.slice ad c.st.slots.length cap), (.slice ad2 c.st.ends.length cap2), .int .i64 c.size] 148)) p3 := hRa
   have hA5' : PAt (w5.alloc (.cells #[.string c.kind, .string c.tab, .int .i64 c.num, .string c.st.tab, .int .i64 c.st.clock, .int .i64 c.st.next, (.slice ad c.st.slots.length cap), (.slice ad2 c.st.ends.length cap2), .int .i64 c.size] 148)) c.st (.slice ad c.st.slots.length cap) (.slice ad2 c.st.ends.length cap2) := HA5.out _
   clear hCl hRa HA5
   have hq5 : w.heap.size < w5.heap.size := HR5.out.z.ty.lt
   generalize w5.alloc (.cells #[.string c.kind, .string c.tab, .int .i64 c.num, .string c.st.tab, .int .i64 c.st.clock, .int .i64 c.st.next, (.slice ad c.st.slots.length cap), (.slice ad2 c.st.ends.length cap2), .int .i64 c.size] 148) = W5 at *
   generalize w5.heap.size = cq at *
   have s8 := hCl'.c 8 _ rfl
   have g8 := hCl'.f 8 (by simp)
   have y8 := hCl'.ty.lt
   have HAt : Hid (PAt (W5.setCell ⟨cq, 8, none⟩ (.int .i64 (2 + (body.size : Int) + 4))) c.st (.slice ad c.st.slots.length cap) (.slice ad2 c.st.ends.length cap2)) := hA5'.set hCl'.ty (by decide) (by decide) _ _
   have hC6 := hCl'.set 8 (by simp) (.int .i64 (2 + (body.size : Int) + 4))
   have hZ6 := hRa'.z.far (g := cq) (by omega) 8 (.int .i64 (2 + (body.size : Int) + 4))
   have HBl : Hid (Below w.heap.size w (W5.setCell ⟨cq, 8, none⟩ (.int .i64 (2 + (body.size : Int) + 4)))) := hRa'.b.setCell (Nat.le_of_lt hq5) _
   clear hCl' hRa' HR5 hA5'
   go_upto_region 14 with fail
   clear s8 g8 y8
   generalize W5.setCell ⟨cq, 8, none⟩ (.int .i64 (2 + (body.size : Int) + 4)) = W6 at *
   have x0 := hC6.c 0 _ rfl; have x1 := hC6.c 1 _ rfl; have x2 := hC6.c 2 _ rfl; have x3 := hC6.c 3 _ rfl; have x4 := hC6.c 4 _ rfl; have x5 := hC6.c 5 _ rfl; have x6 := hC6.c 6 _ rfl; have x7 := hC6.c 7 _ rfl; have x8 := hC6.c 8 _ rfl
   have z0 := hZ6.c 0 _ rfl; have z1 := hZ6.c 1 _ rfl; have z2 := hZ6.c 2 _ rfl; have z3 := hZ6.c 3 _ rfl; have z4 := hZ6.c 4 _ rfl; have z5 := hZ6.c 5 _ rfl; have z6 := hZ6.c 6 _ rfl; have z7 := hZ6.c 7 _ rfl; have z8 := hZ6.c 8 _ rfl
   have f0 := hZ6.f 0 (by simp); have f1 := hZ6.f 1 (by simp); have f2 := hZ6.f 2 (by simp); have f3 := hZ6.f 3 (by simp); have f4 := hZ6.f 4 (by simp); have f5 := hZ6.f 5 (by simp); have f6 := hZ6.f 6 (by simp); have f7 := hZ6.f 7 (by simp); have f8 := hZ6.f 8 (by simp)
   have yz := hZ6.ty.lt
   have yx := hC6.ty.lt
   have HTy : Hid (Typed W6 w.heap.size 148) := hZ6.ty
   clear hC6 hZ6
   go_wp2_with fail
   refine bodyPost_ret (v := .tuple #[ctV ⟨c.kind, c.tab, c.num, c.st, 2 + (body.size : Int) + 4⟩ (.slice ad c.st.slots.length cap) (.slice ad2 c.st.ends.length cap2), .bool true]) (by simp [results, Tryz.results96, go_sem, z0, z1, z2, z3, z4, z5, z6, z7, z8]) rfl ⟨TakeR.wh body p3.rest _ _ _ HN.out HIs.out HY.out (HAt.out.store9 HTy.out _ _ _ _ _ _ _ _ _), below_set9 HBl.out (Nat.le_refl _) _ _ _ _ _ _ _ _ _⟩
end Go.Proofs.YtdajolpoiffimaaGreatDoor

namespace Go.Proofs.YtdajolpoiffimaaGreatDoor
open Go.RowKit

/-- Where change is: the state, the content, the result. -/
structure RC (w W : World) (s : Px.St) (sl en : Value) (c : Ct) (csl cen : Value) : Prop where
 s : Cl W w.heap.size 65 [.string s.tab, .int .i64 s.clock, .int .i64 s.next, sl, en]
 c : Cl W (w.heap.size + 1) 148 (ctC c csl cen)
 z : Cl W (w.heap.size + 2) 65 [.string { data := #[] }, .int .i64 0, .int .i64 0, .slice none 0 0, .slice none 0 0]
 b : Below w.heap.size w W
theorem RC.new (w : World) (s : Px.St) (sl en : Value) (c : Ct) (csl cen : Value) : RC w (((w.alloc (.cells [.string s.tab, .int .i64 s.clock, .int .i64 s.next, sl, en].toArray 65)).alloc (.cells (ctC c csl cen).toArray 148)).alloc (.cells [.string { data := #[] }, .int .i64 0, .int .i64 0, .slice none 0 0, .slice none 0 0].toArray 65)) s sl en c csl cen := by
 have b1 := below_alloc w (.cells [.string s.tab, .int .i64 s.clock, .int .i64 s.next, sl, en].toArray 65)
 have z1 : (w.alloc (.cells [.string s.tab, .int .i64 s.clock, .int .i64 s.next, sl, en].toArray 65)).heap.size = w.heap.size + 1 := by simp
 have b2 := below_alloc (w.alloc (.cells [.string s.tab, .int .i64 s.clock, .int .i64 s.next, sl, en].toArray 65)) (.cells (ctC c csl cen).toArray 148)
 have z2 : ((w.alloc (.cells [.string s.tab, .int .i64 s.clock, .int .i64 s.next, sl, en].toArray 65)).alloc (.cells (ctC c csl cen).toArray 148)).heap.size = w.heap.size + 2 := by simp
 have b3 := below_alloc ((w.alloc (.cells [.string s.tab, .int .i64 s.clock, .int .i64 s.next, sl, en].toArray 65)).alloc (.cells (ctC c csl cen).toArray 148)) (.cells [.string { data := #[] }, .int .i64 0, .int .i64 0, .slice none 0 0, .slice none 0 0].toArray 65)
 have n2 := Cl.new (w.alloc (.cells [.string s.tab, .int .i64 s.clock, .int .i64 s.next, sl, en].toArray 65)) (ctC c csl cen) 148
 have n3 := Cl.new ((w.alloc (.cells [.string s.tab, .int .i64 s.clock, .int .i64 s.next, sl, en].toArray 65)).alloc (.cells (ctC c csl cen).toArray 148)) [.string { data := #[] }, .int .i64 0, .int .i64 0, .slice none 0 0, .slice none 0 0] 65
 rw [z1] at n2
 rw [z2] at n3
 exact ⟨((Cl.new w [.string s.tab, .int .i64 s.clock, .int .i64 s.next, sl, en] 65).later b2).later b3, n2.later b3, n3, (b1.trans (b2.mono b1.size)).trans (b3.mono (by rw [z2]; omega))⟩
theorem RC.later {w W W' : World} {s : Px.St} {sl en : Value} {c : Ct} {csl cen : Value} (h : RC w W s sl en c csl cen) (hb : Below W.heap.size W W') : RC w W' s sl en c csl cen := ⟨h.s.later hb, h.c.later hb, h.z.later hb, h.b.trans (hb.mono h.b.size)⟩
theorem below_set5r {n R : Nat} {w w' : World} (h : Below n w w') (hR : n ≤ R) (v0 v1 v2 v3 v4 : Value) : Below n w (((((w'.setCell ⟨R, 0, none⟩ v0).setCell ⟨R, 1, none⟩ v1).setCell ⟨R, 2, none⟩ v2).setCell ⟨R, 3, none⟩ v3).setCell ⟨R, 4, none⟩ v4) := by
 repeat (refine Below.setCell ?_ hR _)
 exact h
theorem kd_eq {kd : ByteArray} {k : Int} (h : kd = Bx.b1 k) (h0 : 0 ≤ k) (h1 : k < 256) (n : UInt8) (hn : k = (n.toNat : Int)) : (kd.toList == [n]) = true := by subst h; exact lit_eq ((b1_lit k h0 h1 n).2 hn)
theorem kd_ne {kd : ByteArray} {k : Int} (h : kd = Bx.b1 k) (h0 : 0 ≤ k) (h1 : k < 256) (n : UInt8) (hn : ¬ k = (n.toNat : Int)) : (kd.toList == [n]) = false := by subst h; exact lit_ne (l := [n]) (fun q => hn ((b1_lit k h0 h1 n).1 q))
set_option maxRecDepth 10000 in
set_option maxHeartbeats 4000000 in
theorem change_T (s : Px.St) (sl en : Value) (c : Ct) (csl cen : Value) (_t : ByteArray) (w : World) (hO : Px.Ok s) (hT : TabLH w) (hM : Tab w) (hS : PAt w s sl en) (hf : (∃ ad cap, csl = .slice ad c.st.slots.length cap) ∧ ∃ ad cap, cen = .slice ad c.st.ends.length cap) (hts : c.tab.size ≤ maxLen) (hk : c.kind = Bx.b1 84) :
 Calls Tryz.prog 147 #[pstV s sl en, ctV c csl cen] w fun e w' => (∃ p, ChgR p w' e ∧ Px.ChM s ⟨84, c.tab, c.num⟩ p) ∧ Below w.heap.size w w' := by
 obtain ⟨ad, cap, rfl, hcap⟩ := hS.sl.form
 obtain ⟨ad2, cap2, rfl, hcap2⟩ := hS.en.form
 obtain ⟨⟨ad3, cap3, rfl⟩, ⟨ad4, cap4, rfl⟩⟩ := hf
 have e84 : (c.kind.toList == [84]) = true := kd_eq hk (by decide) (by decide) 84 (by decide)
 have e67 : (c.kind.toList == [67]) = false := kd_ne hk (by decide) (by decide) 67 (by decide)
 have e83 : (c.kind.toList == [83]) = false := kd_ne hk (by decide) (by decide) 83 (by decide)
 have e68 : (c.kind.toList == [68]) = false := kd_ne hk (by decide) (by decide) 68 (by decide)
 have e70 : (c.kind.toList == [70]) = false := kd_ne hk (by decide) (by decide) 70 (by decide)
 have e75 : (c.kind.toList == [75]) = false := kd_ne hk (by decide) (by decide) 75 (by decide)
 have hl : s.slots.length ≤ 8 := hO.len
 have hle : s.ends.length ≤ 6 := hO.st.en
 have HO : Hid (Px.Ok s) := hO
 have HSz : Hid (c.tab.size ≤ maxLen) := hts
 have hR := RC.new w s (.slice ad s.slots.length cap) (.slice ad2 s.ends.length cap2) c (.slice ad3 c.st.slots.length cap3) (.slice ad4 c.st.ends.length cap4)
 clear hk hts
 go_enter Tryz.func147, Tryz.ntmps147
 go_upto_region 1 with fail
 have hR' : RC w (((w.alloc (.cells #[.string s.tab, .int .i64 s.clock, .int .i64 s.next, .slice ad s.slots.length cap, .slice ad2 s.ends.length cap2] 65)).alloc (.cells #[.string c.kind, .string c.tab, .int .i64 c.num, .string c.st.tab, .int .i64 c.st.clock, .int .i64 c.st.next, .slice ad3 c.st.slots.length cap3, .slice ad4 c.st.ends.length cap4, .int .i64 c.size] 148)).alloc (.cells #[.string { data := #[] }, .int .i64 0, .int .i64 0, .slice none 0 0, .slice none 0 0] 65)) s (.slice ad s.slots.length cap) (.slice ad2 s.ends.length cap2) c (.slice ad3 c.st.slots.length cap3) (.slice ad4 c.st.ends.length cap4) := hR
 clear hR
 generalize ((w.alloc (.cells #[.string s.tab, .int .i64 s.clock, .int .i64 s.next, .slice ad s.slots.length cap, .slice ad2 s.ends.length cap2] 65)).alloc (.cells #[.string c.kind, .string c.tab, .int .i64 c.num, .string c.st.tab, .int .i64 c.st.clock, .int .i64 c.st.next, .slice ad3 c.st.slots.length cap3, .slice ad4 c.st.ends.length cap4, .int .i64 c.size] 148)).alloc (.cells #[.string { data := #[] }, .int .i64 0, .int .i64 0, .slice none 0 0, .slice none 0 0] 65) = W at *
 have HR : Hid (RC w W s (.slice ad s.slots.length cap) (.slice ad2 s.ends.length cap2) c (.slice ad3 c.st.slots.length cap3) (.slice ad4 c.st.ends.length cap4)) := hR'
 have HT : Hid (TabLH W) := hT.later hR'.b
 have HM : Hid (Tab W) := hM.later hR'.b
 have HSt : Hid (PAt W s (.slice ad s.slots.length cap) (.slice ad2 s.ends.length cap2)) := hS.later hR'.b
 have i0 := hR'.s.c 0 _ rfl; have i1 := hR'.s.c 1 _ rfl; have i2 := hR'.s.c 2 _ rfl; have i3 := hR'.s.c 3 _ rfl; have i4 := hR'.s.c 4 _ rfl
 have x0 := hR'.c.c 0 _ rfl; have x1 := hR'.c.c 1 _ rfl; have x2 := hR'.c.c 2 _ rfl
 have yi := hR'.s.ty.lt
 have yx := hR'.c.ty.lt
 clear hR' hO hT hM hS
 go_wp2_with fail
 refine (withTab_any s c.tab _ _ _ HSz.out HT.out (by omega) (HSt.out)).mono ?_
 rintro e w1 ⟨⟨a, r, hchk, slt, ent, rfl, hat⟩, hb1⟩
 have HCm : Hid (Px.ChM s ⟨84, c.tab, c.num⟩ (tabC s c.tab r)) := Px.chm_tab HO.out hchk
 generalize tabC s c.tab r = p at *
 clear hchk
 obtain ⟨ad5, cap5, hv5, _⟩ := hat.sl.form
 obtain ⟨ad6, cap6, hv6, _⟩ := hat.en.form
 subst hv5 hv6
 have HR1 := HR.out.later hb1
 have HAt : Hid (PAt w1 p.1 (.slice ad5 p.1.slots.length cap5) (.slice ad6 p.1.ends.length cap6)) := hat
 have z0 := HR1.z.c 0 _ rfl; have z1 := HR1.z.c 1 _ rfl; have z2 := HR1.z.c 2 _ rfl; have z3 := HR1.z.c 3 _ rfl; have z4 := HR1.z.c 4 _ rfl
 have f0 := HR1.z.f 0 (by simp); have f1 := HR1.z.f 1 (by simp); have f2 := HR1.z.f 2 (by simp); have f3 := HR1.z.f 3 (by simp); have f4 := HR1.z.f 4 (by simp)
 have yz := HR1.z.ty.lt
 have HBl : Hid (Below w.heap.size w w1) := HR1.b
 have HTy : Hid (Typed w1 (w.heap.size + 2) 65) := HR1.z.ty
 clear hat hb1 HR1 HR i0 i1 i2 i3 i4 x0 x1 x2 yi yx e84 e67 e83 e68 e70 e75
 go_wp2_with fail
 refine bodyPost_ret (v := .tuple #[pstV p.1 (.slice ad5 p.1.slots.length cap5) (.slice ad6 p.1.ends.length cap6), .int .i64 p.2]) (by simp [results, Tryz.results147, go_sem, z0, z1, z2, z3, z4]) rfl ⟨⟨p, ⟨_, _, rfl, HAt.out.store HTy.out _ _ _ _ _⟩, HCm.out⟩, below_set5r HBl.out (by omega) _ _ _ _ _⟩

set_option maxRecDepth 10000 in
set_option maxHeartbeats 4000000 in
theorem change_C (s : Px.St) (sl en : Value) (c : Ct) (csl cen : Value) (t : ByteArray) (w : World) (hO : Px.Ok s) (hT : TabLH w) (hM : Tab w) (hS : PAt w s sl en) (hf : (∃ ad cap, csl = .slice ad c.st.slots.length cap) ∧ ∃ ad cap, cen = .slice ad c.st.ends.length cap) (hts : c.tab.size ≤ maxLen) (hk : c.kind = Bx.b1 67) :
 Calls Tryz.prog 147 #[pstV s sl en, ctV c csl cen] w fun e w' => (∃ p, ChgR p w' e ∧ Px.ChM s ⟨67, t, c.num⟩ p) ∧ Below w.heap.size w w' := by
 obtain ⟨ad, cap, rfl, hcap⟩ := hS.sl.form
 obtain ⟨ad2, cap2, rfl, hcap2⟩ := hS.en.form
 obtain ⟨⟨ad3, cap3, rfl⟩, ⟨ad4, cap4, rfl⟩⟩ := hf
 have e84 : (c.kind.toList == [84]) = false := kd_ne hk (by decide) (by decide) 84 (by decide)
 have e67 : (c.kind.toList == [67]) = true := kd_eq hk (by decide) (by decide) 67 (by decide)
 have e83 : (c.kind.toList == [83]) = false := kd_ne hk (by decide) (by decide) 83 (by decide)
 have e68 : (c.kind.toList == [68]) = false := kd_ne hk (by decide) (by decide) 68 (by decide)
 have e70 : (c.kind.toList == [70]) = false := kd_ne hk (by decide) (by decide) 70 (by decide)
 have e75 : (c.kind.toList == [75]) = false := kd_ne hk (by decide) (by decide) 75 (by decide)
 have hl : s.slots.length ≤ 8 := hO.len
 have hle : s.ends.length ≤ 6 := hO.st.en
 have HO : Hid (Px.Ok s) := hO
 have HSz : Hid (c.tab.size ≤ maxLen) := hts
 have hR := RC.new w s (.slice ad s.slots.length cap) (.slice ad2 s.ends.length cap2) c (.slice ad3 c.st.slots.length cap3) (.slice ad4 c.st.ends.length cap4)
 clear hk hts
 go_enter Tryz.func147, Tryz.ntmps147
 go_upto_region 1 with fail
 have hR' : RC w (((w.alloc (.cells #[.string s.tab, .int .i64 s.clock, .int .i64 s.next, .slice ad s.slots.length cap, .slice ad2 s.ends.length cap2] 65)).alloc (.cells #[.string c.kind, .string c.tab, .int .i64 c.num, .string c.st.tab, .int .i64 c.st.clock, .int .i64 c.st.next, .slice ad3 c.st.slots.length cap3, .slice ad4 c.st.ends.length cap4, .int .i64 c.size] 148)).alloc (.cells #[.string { data := #[] }, .int .i64 0, .int .i64 0, .slice none 0 0, .slice none 0 0] 65)) s (.slice ad s.slots.length cap) (.slice ad2 s.ends.length cap2) c (.slice ad3 c.st.slots.length cap3) (.slice ad4 c.st.ends.length cap4) := hR
 clear hR
 generalize ((w.alloc (.cells #[.string s.tab, .int .i64 s.clock, .int .i64 s.next, .slice ad s.slots.length cap, .slice ad2 s.ends.length cap2] 65)).alloc (.cells #[.string c.kind, .string c.tab, .int .i64 c.num, .string c.st.tab, .int .i64 c.st.clock, .int .i64 c.st.next, .slice ad3 c.st.slots.length cap3, .slice ad4 c.st.ends.length cap4, .int .i64 c.size] 148)).alloc (.cells #[.string { data := #[] }, .int .i64 0, .int .i64 0, .slice none 0 0, .slice none 0 0] 65) = W at *
 have HR : Hid (RC w W s (.slice ad s.slots.length cap) (.slice ad2 s.ends.length cap2) c (.slice ad3 c.st.slots.length cap3) (.slice ad4 c.st.ends.length cap4)) := hR'
 have HT : Hid (TabLH W) := hT.later hR'.b
 have HM : Hid (Tab W) := hM.later hR'.b
 have HSt : Hid (PAt W s (.slice ad s.slots.length cap) (.slice ad2 s.ends.length cap2)) := hS.later hR'.b
 have i0 := hR'.s.c 0 _ rfl; have i1 := hR'.s.c 1 _ rfl; have i2 := hR'.s.c 2 _ rfl; have i3 := hR'.s.c 3 _ rfl; have i4 := hR'.s.c 4 _ rfl
 have x0 := hR'.c.c 0 _ rfl; have x1 := hR'.c.c 1 _ rfl; have x2 := hR'.c.c 2 _ rfl
 have yi := hR'.s.ty.lt
 have yx := hR'.c.ty.lt
 clear hR' hO hT hM hS
 go_wp2_with fail
 refine (withClock_any s c.num _ _ _ HO.out HT.out HM.out (HSt.out)).mono ?_
 rintro e w1 ⟨⟨slt, ent, rfl, hat⟩, hb1⟩
 have HCm : Hid (Px.ChM s ⟨67, t, c.num⟩ (Px.clockP s c.num)) := Px.chm_clock HO.out t c.num
 generalize Px.clockP s c.num = p at *
 obtain ⟨ad5, cap5, hv5, _⟩ := hat.sl.form
 obtain ⟨ad6, cap6, hv6, _⟩ := hat.en.form
 subst hv5 hv6
 have HR1 := HR.out.later hb1
 have HAt : Hid (PAt w1 p.1 (.slice ad5 p.1.slots.length cap5) (.slice ad6 p.1.ends.length cap6)) := hat
 have z0 := HR1.z.c 0 _ rfl; have z1 := HR1.z.c 1 _ rfl; have z2 := HR1.z.c 2 _ rfl; have z3 := HR1.z.c 3 _ rfl; have z4 := HR1.z.c 4 _ rfl
 have f0 := HR1.z.f 0 (by simp); have f1 := HR1.z.f 1 (by simp); have f2 := HR1.z.f 2 (by simp); have f3 := HR1.z.f 3 (by simp); have f4 := HR1.z.f 4 (by simp)
 have yz := HR1.z.ty.lt
 have HBl : Hid (Below w.heap.size w w1) := HR1.b
 have HTy : Hid (Typed w1 (w.heap.size + 2) 65) := HR1.z.ty
 clear hat hb1 HR1 HR i0 i1 i2 i3 i4 x0 x1 x2 yi yx e84 e67 e83 e68 e70 e75
 go_wp2_with fail
 refine bodyPost_ret (v := .tuple #[pstV p.1 (.slice ad5 p.1.slots.length cap5) (.slice ad6 p.1.ends.length cap6), .int .i64 p.2]) (by simp [results, Tryz.results147, go_sem, z0, z1, z2, z3, z4]) rfl ⟨⟨p, ⟨_, _, rfl, HAt.out.store HTy.out _ _ _ _ _⟩, HCm.out⟩, below_set5r HBl.out (by omega) _ _ _ _ _⟩

set_option maxRecDepth 10000 in
set_option maxHeartbeats 4000000 in
theorem change_S (s : Px.St) (sl en : Value) (c : Ct) (csl cen : Value) (t : ByteArray) (w : World) (hO : Px.Ok s) (hT : TabLH w) (hM : Tab w) (hS : PAt w s sl en) (hf : (∃ ad cap, csl = .slice ad c.st.slots.length cap) ∧ ∃ ad cap, cen = .slice ad c.st.ends.length cap) (hts : c.tab.size ≤ maxLen) (hk : c.kind = Bx.b1 83) :
 Calls Tryz.prog 147 #[pstV s sl en, ctV c csl cen] w fun e w' => (∃ p, ChgR p w' e ∧ Px.ChM s ⟨83, t, c.num⟩ p) ∧ Below w.heap.size w w' := by
 obtain ⟨ad, cap, rfl, hcap⟩ := hS.sl.form
 obtain ⟨ad2, cap2, rfl, hcap2⟩ := hS.en.form
 obtain ⟨⟨ad3, cap3, rfl⟩, ⟨ad4, cap4, rfl⟩⟩ := hf
 have e84 : (c.kind.toList == [84]) = false := kd_ne hk (by decide) (by decide) 84 (by decide)
 have e67 : (c.kind.toList == [67]) = false := kd_ne hk (by decide) (by decide) 67 (by decide)
 have e83 : (c.kind.toList == [83]) = true := kd_eq hk (by decide) (by decide) 83 (by decide)
 have e68 : (c.kind.toList == [68]) = false := kd_ne hk (by decide) (by decide) 68 (by decide)
 have e70 : (c.kind.toList == [70]) = false := kd_ne hk (by decide) (by decide) 70 (by decide)
 have e75 : (c.kind.toList == [75]) = false := kd_ne hk (by decide) (by decide) 75 (by decide)
 have hl : s.slots.length ≤ 8 := hO.len
 have hle : s.ends.length ≤ 6 := hO.st.en
 have HO : Hid (Px.Ok s) := hO
 have HSz : Hid (c.tab.size ≤ maxLen) := hts
 have hR := RC.new w s (.slice ad s.slots.length cap) (.slice ad2 s.ends.length cap2) c (.slice ad3 c.st.slots.length cap3) (.slice ad4 c.st.ends.length cap4)
 clear hk hts
 go_enter Tryz.func147, Tryz.ntmps147
 go_upto_region 1 with fail
 have hR' : RC w (((w.alloc (.cells #[.string s.tab, .int .i64 s.clock, .int .i64 s.next, .slice ad s.slots.length cap, .slice ad2 s.ends.length cap2] 65)).alloc (.cells #[.string c.kind, .string c.tab, .int .i64 c.num, .string c.st.tab, .int .i64 c.st.clock, .int .i64 c.st.next, .slice ad3 c.st.slots.length cap3, .slice ad4 c.st.ends.length cap4, .int .i64 c.size] 148)).alloc (.cells #[.string { data := #[] }, .int .i64 0, .int .i64 0, .slice none 0 0, .slice none 0 0] 65)) s (.slice ad s.slots.length cap) (.slice ad2 s.ends.length cap2) c (.slice ad3 c.st.slots.length cap3) (.slice ad4 c.st.ends.length cap4) := hR
 clear hR
 generalize ((w.alloc (.cells #[.string s.tab, .int .i64 s.clock, .int .i64 s.next, .slice ad s.slots.length cap, .slice ad2 s.ends.length cap2] 65)).alloc (.cells #[.string c.kind, .string c.tab, .int .i64 c.num, .string c.st.tab, .int .i64 c.st.clock, .int .i64 c.st.next, .slice ad3 c.st.slots.length cap3, .slice ad4 c.st.ends.length cap4, .int .i64 c.size] 148)).alloc (.cells #[.string { data := #[] }, .int .i64 0, .int .i64 0, .slice none 0 0, .slice none 0 0] 65) = W at *
 have HR : Hid (RC w W s (.slice ad s.slots.length cap) (.slice ad2 s.ends.length cap2) c (.slice ad3 c.st.slots.length cap3) (.slice ad4 c.st.ends.length cap4)) := hR'
 have HT : Hid (TabLH W) := hT.later hR'.b
 have HM : Hid (Tab W) := hM.later hR'.b
 have HSt : Hid (PAt W s (.slice ad s.slots.length cap) (.slice ad2 s.ends.length cap2)) := hS.later hR'.b
 have i0 := hR'.s.c 0 _ rfl; have i1 := hR'.s.c 1 _ rfl; have i2 := hR'.s.c 2 _ rfl; have i3 := hR'.s.c 3 _ rfl; have i4 := hR'.s.c 4 _ rfl
 have x0 := hR'.c.c 0 _ rfl; have x1 := hR'.c.c 1 _ rfl; have x2 := hR'.c.c 2 _ rfl
 have yi := hR'.s.ty.lt
 have yx := hR'.c.ty.lt
 clear hR' hO hT hM hS
 go_wp2_with fail
 refine (withStart_any s c.num _ _ _ HO.out HT.out (HSt.out)).mono ?_
 rintro e w1 ⟨⟨slt, ent, rfl, hat⟩, hb1⟩
 have HCm : Hid (Px.ChM s ⟨83, t, c.num⟩ (Px.startP s c.num)) := Px.chm_start HO.out t c.num
 generalize Px.startP s c.num = p at *
 obtain ⟨ad5, cap5, hv5, _⟩ := hat.sl.form
 obtain ⟨ad6, cap6, hv6, _⟩ := hat.en.form
 subst hv5 hv6
 have HR1 := HR.out.later hb1
 have HAt : Hid (PAt w1 p.1 (.slice ad5 p.1.slots.length cap5) (.slice ad6 p.1.ends.length cap6)) := hat
 have z0 := HR1.z.c 0 _ rfl; have z1 := HR1.z.c 1 _ rfl; have z2 := HR1.z.c 2 _ rfl; have z3 := HR1.z.c 3 _ rfl; have z4 := HR1.z.c 4 _ rfl
 have f0 := HR1.z.f 0 (by simp); have f1 := HR1.z.f 1 (by simp); have f2 := HR1.z.f 2 (by simp); have f3 := HR1.z.f 3 (by simp); have f4 := HR1.z.f 4 (by simp)
 have yz := HR1.z.ty.lt
 have HBl : Hid (Below w.heap.size w w1) := HR1.b
 have HTy : Hid (Typed w1 (w.heap.size + 2) 65) := HR1.z.ty
 clear hat hb1 HR1 HR i0 i1 i2 i3 i4 x0 x1 x2 yi yx e84 e67 e83 e68 e70 e75
 go_wp2_with fail
 refine bodyPost_ret (v := .tuple #[pstV p.1 (.slice ad5 p.1.slots.length cap5) (.slice ad6 p.1.ends.length cap6), .int .i64 p.2]) (by simp [results, Tryz.results147, go_sem, z0, z1, z2, z3, z4]) rfl ⟨⟨p, ⟨_, _, rfl, HAt.out.store HTy.out _ _ _ _ _⟩, HCm.out⟩, below_set5r HBl.out (by omega) _ _ _ _ _⟩

set_option maxRecDepth 10000 in
set_option maxHeartbeats 4000000 in
theorem change_D (s : Px.St) (sl en : Value) (c : Ct) (csl cen : Value) (t : ByteArray) (w : World) (hO : Px.Ok s) (hT : TabLH w) (hM : Tab w) (hS : PAt w s sl en) (hf : (∃ ad cap, csl = .slice ad c.st.slots.length cap) ∧ ∃ ad cap, cen = .slice ad c.st.ends.length cap) (hts : c.tab.size ≤ maxLen) (hk : c.kind = Bx.b1 68) :
 Calls Tryz.prog 147 #[pstV s sl en, ctV c csl cen] w fun e w' => (∃ p, ChgR p w' e ∧ Px.ChM s ⟨68, t, c.num⟩ p) ∧ Below w.heap.size w w' := by
 obtain ⟨ad, cap, rfl, hcap⟩ := hS.sl.form
 obtain ⟨ad2, cap2, rfl, hcap2⟩ := hS.en.form
 obtain ⟨⟨ad3, cap3, rfl⟩, ⟨ad4, cap4, rfl⟩⟩ := hf
 have e84 : (c.kind.toList == [84]) = false := kd_ne hk (by decide) (by decide) 84 (by decide)
 have e67 : (c.kind.toList == [67]) = false := kd_ne hk (by decide) (by decide) 67 (by decide)
 have e83 : (c.kind.toList == [83]) = false := kd_ne hk (by decide) (by decide) 83 (by decide)
 have e68 : (c.kind.toList == [68]) = true := kd_eq hk (by decide) (by decide) 68 (by decide)
 have e70 : (c.kind.toList == [70]) = false := kd_ne hk (by decide) (by decide) 70 (by decide)
 have e75 : (c.kind.toList == [75]) = false := kd_ne hk (by decide) (by decide) 75 (by decide)
 have hl : s.slots.length ≤ 8 := hO.len
 have hle : s.ends.length ≤ 6 := hO.st.en
 have HO : Hid (Px.Ok s) := hO
 have HSz : Hid (c.tab.size ≤ maxLen) := hts
 have hR := RC.new w s (.slice ad s.slots.length cap) (.slice ad2 s.ends.length cap2) c (.slice ad3 c.st.slots.length cap3) (.slice ad4 c.st.ends.length cap4)
 clear hk hts
 go_enter Tryz.func147, Tryz.ntmps147
 go_upto_region 1 with fail
 have hR' : RC w (((w.alloc (.cells #[.string s.tab, .int .i64 s.clock, .int .i64 s.next, .slice ad s.slots.length cap, .slice ad2 s.ends.length cap2] 65)).alloc (.cells #[.string c.kind, .string c.tab, .int .i64 c.num, .string c.st.tab, .int .i64 c.st.clock, .int .i64 c.st.next, .slice ad3 c.st.slots.length cap3, .slice ad4 c.st.ends.length cap4, .int .i64 c.size] 148)).alloc (.cells #[.string { data := #[] }, .int .i64 0, .int .i64 0, .slice none 0 0, .slice none 0 0] 65)) s (.slice ad s.slots.length cap) (.slice ad2 s.ends.length cap2) c (.slice ad3 c.st.slots.length cap3) (.slice ad4 c.st.ends.length cap4) := hR
 clear hR
 generalize ((w.alloc (.cells #[.string s.tab, .int .i64 s.clock, .int .i64 s.next, .slice ad s.slots.length cap, .slice ad2 s.ends.length cap2] 65)).alloc (.cells #[.string c.kind, .string c.tab, .int .i64 c.num, .string c.st.tab, .int .i64 c.st.clock, .int .i64 c.st.next, .slice ad3 c.st.slots.length cap3, .slice ad4 c.st.ends.length cap4, .int .i64 c.size] 148)).alloc (.cells #[.string { data := #[] }, .int .i64 0, .int .i64 0, .slice none 0 0, .slice none 0 0] 65) = W at *
 have HR : Hid (RC w W s (.slice ad s.slots.length cap) (.slice ad2 s.ends.length cap2) c (.slice ad3 c.st.slots.length cap3) (.slice ad4 c.st.ends.length cap4)) := hR'
 have HT : Hid (TabLH W) := hT.later hR'.b
 have HM : Hid (Tab W) := hM.later hR'.b
 have HSt : Hid (PAt W s (.slice ad s.slots.length cap) (.slice ad2 s.ends.length cap2)) := hS.later hR'.b
 have i0 := hR'.s.c 0 _ rfl; have i1 := hR'.s.c 1 _ rfl; have i2 := hR'.s.c 2 _ rfl; have i3 := hR'.s.c 3 _ rfl; have i4 := hR'.s.c 4 _ rfl
 have x0 := hR'.c.c 0 _ rfl; have x1 := hR'.c.c 1 _ rfl; have x2 := hR'.c.c 2 _ rfl
 have yi := hR'.s.ty.lt
 have yx := hR'.c.ty.lt
 clear hR' hO hT hM hS
 go_wp2_with fail
 refine (withDone_any s c.num _ _ _ (by omega) (by omega) (HSt.out)).mono ?_
 rintro e w1 ⟨⟨slt, ent, rfl, hat⟩, hb1⟩
 have HCm : Hid (Px.ChM s ⟨68, t, c.num⟩ (Px.doneP s c.num)) := Px.chm_done HO.out t c.num
 generalize Px.doneP s c.num = p at *
 obtain ⟨ad5, cap5, hv5, _⟩ := hat.sl.form
 obtain ⟨ad6, cap6, hv6, _⟩ := hat.en.form
 subst hv5 hv6
 have HR1 := HR.out.later hb1
 have HAt : Hid (PAt w1 p.1 (.slice ad5 p.1.slots.length cap5) (.slice ad6 p.1.ends.length cap6)) := hat
 have z0 := HR1.z.c 0 _ rfl; have z1 := HR1.z.c 1 _ rfl; have z2 := HR1.z.c 2 _ rfl; have z3 := HR1.z.c 3 _ rfl; have z4 := HR1.z.c 4 _ rfl
 have f0 := HR1.z.f 0 (by simp); have f1 := HR1.z.f 1 (by simp); have f2 := HR1.z.f 2 (by simp); have f3 := HR1.z.f 3 (by simp); have f4 := HR1.z.f 4 (by simp)
 have yz := HR1.z.ty.lt
 have HBl : Hid (Below w.heap.size w w1) := HR1.b
 have HTy : Hid (Typed w1 (w.heap.size + 2) 65) := HR1.z.ty
 clear hat hb1 HR1 HR i0 i1 i2 i3 i4 x0 x1 x2 yi yx e84 e67 e83 e68 e70 e75
 go_wp2_with fail
 refine bodyPost_ret (v := .tuple #[pstV p.1 (.slice ad5 p.1.slots.length cap5) (.slice ad6 p.1.ends.length cap6), .int .i64 p.2]) (by simp [results, Tryz.results147, go_sem, z0, z1, z2, z3, z4]) rfl ⟨⟨p, ⟨_, _, rfl, HAt.out.store HTy.out _ _ _ _ _⟩, HCm.out⟩, below_set5r HBl.out (by omega) _ _ _ _ _⟩

set_option maxRecDepth 10000 in
set_option maxHeartbeats 4000000 in
theorem change_F (s : Px.St) (sl en : Value) (c : Ct) (csl cen : Value) (t : ByteArray) (w : World) (hO : Px.Ok s) (hT : TabLH w) (hM : Tab w) (hS : PAt w s sl en) (hf : (∃ ad cap, csl = .slice ad c.st.slots.length cap) ∧ ∃ ad cap, cen = .slice ad c.st.ends.length cap) (hts : c.tab.size ≤ maxLen) (hk : c.kind = Bx.b1 70) :
 Calls Tryz.prog 147 #[pstV s sl en, ctV c csl cen] w fun e w' => (∃ p, ChgR p w' e ∧ Px.ChM s ⟨70, t, c.num⟩ p) ∧ Below w.heap.size w w' := by
 obtain ⟨ad, cap, rfl, hcap⟩ := hS.sl.form
 obtain ⟨ad2, cap2, rfl, hcap2⟩ := hS.en.form
 obtain ⟨⟨ad3, cap3, rfl⟩, ⟨ad4, cap4, rfl⟩⟩ := hf
 have e84 : (c.kind.toList == [84]) = false := kd_ne hk (by decide) (by decide) 84 (by decide)
 have e67 : (c.kind.toList == [67]) = false := kd_ne hk (by decide) (by decide) 67 (by decide)
 have e83 : (c.kind.toList == [83]) = false := kd_ne hk (by decide) (by decide) 83 (by decide)
 have e68 : (c.kind.toList == [68]) = false := kd_ne hk (by decide) (by decide) 68 (by decide)
 have e70 : (c.kind.toList == [70]) = true := kd_eq hk (by decide) (by decide) 70 (by decide)
 have e75 : (c.kind.toList == [75]) = false := kd_ne hk (by decide) (by decide) 75 (by decide)
 have hl : s.slots.length ≤ 8 := hO.len
 have hle : s.ends.length ≤ 6 := hO.st.en
 have HO : Hid (Px.Ok s) := hO
 have HSz : Hid (c.tab.size ≤ maxLen) := hts
 have hR := RC.new w s (.slice ad s.slots.length cap) (.slice ad2 s.ends.length cap2) c (.slice ad3 c.st.slots.length cap3) (.slice ad4 c.st.ends.length cap4)
 clear hk hts
 go_enter Tryz.func147, Tryz.ntmps147
 go_upto_region 1 with fail
 have hR' : RC w (((w.alloc (.cells #[.string s.tab, .int .i64 s.clock, .int .i64 s.next, .slice ad s.slots.length cap, .slice ad2 s.ends.length cap2] 65)).alloc (.cells #[.string c.kind, .string c.tab, .int .i64 c.num, .string c.st.tab, .int .i64 c.st.clock, .int .i64 c.st.next, .slice ad3 c.st.slots.length cap3, .slice ad4 c.st.ends.length cap4, .int .i64 c.size] 148)).alloc (.cells #[.string { data := #[] }, .int .i64 0, .int .i64 0, .slice none 0 0, .slice none 0 0] 65)) s (.slice ad s.slots.length cap) (.slice ad2 s.ends.length cap2) c (.slice ad3 c.st.slots.length cap3) (.slice ad4 c.st.ends.length cap4) := hR
 clear hR
 generalize ((w.alloc (.cells #[.string s.tab, .int .i64 s.clock, .int .i64 s.next, .slice ad s.slots.length cap, .slice ad2 s.ends.length cap2] 65)).alloc (.cells #[.string c.kind, .string c.tab, .int .i64 c.num, .string c.st.tab, .int .i64 c.st.clock, .int .i64 c.st.next, .slice ad3 c.st.slots.length cap3, .slice ad4 c.st.ends.length cap4, .int .i64 c.size] 148)).alloc (.cells #[.string { data := #[] }, .int .i64 0, .int .i64 0, .slice none 0 0, .slice none 0 0] 65) = W at *
 have HR : Hid (RC w W s (.slice ad s.slots.length cap) (.slice ad2 s.ends.length cap2) c (.slice ad3 c.st.slots.length cap3) (.slice ad4 c.st.ends.length cap4)) := hR'
 have HT : Hid (TabLH W) := hT.later hR'.b
 have HM : Hid (Tab W) := hM.later hR'.b
 have HSt : Hid (PAt W s (.slice ad s.slots.length cap) (.slice ad2 s.ends.length cap2)) := hS.later hR'.b
 have i0 := hR'.s.c 0 _ rfl; have i1 := hR'.s.c 1 _ rfl; have i2 := hR'.s.c 2 _ rfl; have i3 := hR'.s.c 3 _ rfl; have i4 := hR'.s.c 4 _ rfl
 have x0 := hR'.c.c 0 _ rfl; have x1 := hR'.c.c 1 _ rfl; have x2 := hR'.c.c 2 _ rfl
 have yi := hR'.s.ty.lt
 have yx := hR'.c.ty.lt
 clear hR' hO hT hM hS
 go_wp2_with fail
 refine (withFail_any s c.num _ _ _ HO.out HT.out (HSt.out)).mono ?_
 rintro e w1 ⟨⟨slt, ent, rfl, hat⟩, hb1⟩
 have HCm : Hid (Px.ChM s ⟨70, t, c.num⟩ (Px.failP s c.num)) := Px.chm_fail HO.out t c.num
 generalize Px.failP s c.num = p at *
 obtain ⟨ad5, cap5, hv5, _⟩ := hat.sl.form
 obtain ⟨ad6, cap6, hv6, _⟩ := hat.en.form
 subst hv5 hv6
 have HR1 := HR.out.later hb1
 have HAt : Hid (PAt w1 p.1 (.slice ad5 p.1.slots.length cap5) (.slice ad6 p.1.ends.length cap6)) := hat
 have z0 := HR1.z.c 0 _ rfl; have z1 := HR1.z.c 1 _ rfl; have z2 := HR1.z.c 2 _ rfl; have z3 := HR1.z.c 3 _ rfl; have z4 := HR1.z.c 4 _ rfl
 have f0 := HR1.z.f 0 (by simp); have f1 := HR1.z.f 1 (by simp); have f2 := HR1.z.f 2 (by simp); have f3 := HR1.z.f 3 (by simp); have f4 := HR1.z.f 4 (by simp)
 have yz := HR1.z.ty.lt
 have HBl : Hid (Below w.heap.size w w1) := HR1.b
 have HTy : Hid (Typed w1 (w.heap.size + 2) 65) := HR1.z.ty
 clear hat hb1 HR1 HR i0 i1 i2 i3 i4 x0 x1 x2 yi yx e84 e67 e83 e68 e70 e75
 go_wp2_with fail
 refine bodyPost_ret (v := .tuple #[pstV p.1 (.slice ad5 p.1.slots.length cap5) (.slice ad6 p.1.ends.length cap6), .int .i64 p.2]) (by simp [results, Tryz.results147, go_sem, z0, z1, z2, z3, z4]) rfl ⟨⟨p, ⟨_, _, rfl, HAt.out.store HTy.out _ _ _ _ _⟩, HCm.out⟩, below_set5r HBl.out (by omega) _ _ _ _ _⟩

set_option maxRecDepth 10000 in
set_option maxHeartbeats 4000000 in
theorem change_K (s : Px.St) (sl en : Value) (c : Ct) (csl cen : Value) (t : ByteArray) (w : World) (hO : Px.Ok s) (hT : TabLH w) (hM : Tab w) (hS : PAt w s sl en) (hf : (∃ ad cap, csl = .slice ad c.st.slots.length cap) ∧ ∃ ad cap, cen = .slice ad c.st.ends.length cap) (hts : c.tab.size ≤ maxLen) (hk : c.kind = Bx.b1 75) :
 Calls Tryz.prog 147 #[pstV s sl en, ctV c csl cen] w fun e w' => (∃ p, ChgR p w' e ∧ Px.ChM s ⟨75, t, c.num⟩ p) ∧ Below w.heap.size w w' := by
 obtain ⟨ad, cap, rfl, hcap⟩ := hS.sl.form
 obtain ⟨ad2, cap2, rfl, hcap2⟩ := hS.en.form
 obtain ⟨⟨ad3, cap3, rfl⟩, ⟨ad4, cap4, rfl⟩⟩ := hf
 have e84 : (c.kind.toList == [84]) = false := kd_ne hk (by decide) (by decide) 84 (by decide)
 have e67 : (c.kind.toList == [67]) = false := kd_ne hk (by decide) (by decide) 67 (by decide)
 have e83 : (c.kind.toList == [83]) = false := kd_ne hk (by decide) (by decide) 83 (by decide)
 have e68 : (c.kind.toList == [68]) = false := kd_ne hk (by decide) (by decide) 68 (by decide)
 have e70 : (c.kind.toList == [70]) = false := kd_ne hk (by decide) (by decide) 70 (by decide)
 have e75 : (c.kind.toList == [75]) = true := kd_eq hk (by decide) (by decide) 75 (by decide)
 have hl : s.slots.length ≤ 8 := hO.len
 have hle : s.ends.length ≤ 6 := hO.st.en
 have HO : Hid (Px.Ok s) := hO
 have HSz : Hid (c.tab.size ≤ maxLen) := hts
 have hR := RC.new w s (.slice ad s.slots.length cap) (.slice ad2 s.ends.length cap2) c (.slice ad3 c.st.slots.length cap3) (.slice ad4 c.st.ends.length cap4)
 clear hk hts
 go_enter Tryz.func147, Tryz.ntmps147
 go_upto_region 1 with fail
 have hR' : RC w (((w.alloc (.cells #[.string s.tab, .int .i64 s.clock, .int .i64 s.next, .slice ad s.slots.length cap, .slice ad2 s.ends.length cap2] 65)).alloc (.cells #[.string c.kind, .string c.tab, .int .i64 c.num, .string c.st.tab, .int .i64 c.st.clock, .int .i64 c.st.next, .slice ad3 c.st.slots.length cap3, .slice ad4 c.st.ends.length cap4, .int .i64 c.size] 148)).alloc (.cells #[.string { data := #[] }, .int .i64 0, .int .i64 0, .slice none 0 0, .slice none 0 0] 65)) s (.slice ad s.slots.length cap) (.slice ad2 s.ends.length cap2) c (.slice ad3 c.st.slots.length cap3) (.slice ad4 c.st.ends.length cap4) := hR
 clear hR
 generalize ((w.alloc (.cells #[.string s.tab, .int .i64 s.clock, .int .i64 s.next, .slice ad s.slots.length cap, .slice ad2 s.ends.length cap2] 65)).alloc (.cells #[.string c.kind, .string c.tab, .int .i64 c.num, .string c.st.tab, .int .i64 c.st.clock, .int .i64 c.st.next, .slice ad3 c.st.slots.length cap3, .slice ad4 c.st.ends.length cap4, .int .i64 c.size] 148)).alloc (.cells #[.string { data := #[] }, .int .i64 0, .int .i64 0, .slice none 0 0, .slice none 0 0] 65) = W at *
 have HR : Hid (RC w W s (.slice ad s.slots.length cap) (.slice ad2 s.ends.length cap2) c (.slice ad3 c.st.slots.length cap3) (.slice ad4 c.st.ends.length cap4)) := hR'
 have HT : Hid (TabLH W) := hT.later hR'.b
 have HM : Hid (Tab W) := hM.later hR'.b
 have HSt : Hid (PAt W s (.slice ad s.slots.length cap) (.slice ad2 s.ends.length cap2)) := hS.later hR'.b
 have i0 := hR'.s.c 0 _ rfl; have i1 := hR'.s.c 1 _ rfl; have i2 := hR'.s.c 2 _ rfl; have i3 := hR'.s.c 3 _ rfl; have i4 := hR'.s.c 4 _ rfl
 have x0 := hR'.c.c 0 _ rfl; have x1 := hR'.c.c 1 _ rfl; have x2 := hR'.c.c 2 _ rfl
 have yi := hR'.s.ty.lt
 have yx := hR'.c.ty.lt
 clear hR' hO hT hM hS
 go_wp2_with fail
 refine (withCancel_any s c.num _ _ _ (by omega) (by omega) (HSt.out)).mono ?_
 rintro e w1 ⟨⟨slt, ent, rfl, hat⟩, hb1⟩
 have HCm : Hid (Px.ChM s ⟨75, t, c.num⟩ (Px.cancelP s c.num)) := Px.chm_cancel HO.out t c.num
 generalize Px.cancelP s c.num = p at *
 obtain ⟨ad5, cap5, hv5, _⟩ := hat.sl.form
 obtain ⟨ad6, cap6, hv6, _⟩ := hat.en.form
 subst hv5 hv6
 have HR1 := HR.out.later hb1
 have HAt : Hid (PAt w1 p.1 (.slice ad5 p.1.slots.length cap5) (.slice ad6 p.1.ends.length cap6)) := hat
 have z0 := HR1.z.c 0 _ rfl; have z1 := HR1.z.c 1 _ rfl; have z2 := HR1.z.c 2 _ rfl; have z3 := HR1.z.c 3 _ rfl; have z4 := HR1.z.c 4 _ rfl
 have f0 := HR1.z.f 0 (by simp); have f1 := HR1.z.f 1 (by simp); have f2 := HR1.z.f 2 (by simp); have f3 := HR1.z.f 3 (by simp); have f4 := HR1.z.f 4 (by simp)
 have yz := HR1.z.ty.lt
 have HBl : Hid (Below w.heap.size w w1) := HR1.b
 have HTy : Hid (Typed w1 (w.heap.size + 2) 65) := HR1.z.ty
 clear hat hb1 HR1 HR i0 i1 i2 i3 i4 x0 x1 x2 yi yx e84 e67 e83 e68 e70 e75
 go_wp2_with fail
 refine bodyPost_ret (v := .tuple #[pstV p.1 (.slice ad5 p.1.slots.length cap5) (.slice ad6 p.1.ends.length cap6), .int .i64 p.2]) (by simp [results, Tryz.results147, go_sem, z0, z1, z2, z3, z4]) rfl ⟨⟨p, ⟨_, _, rfl, HAt.out.store HTy.out _ _ _ _ _⟩, HCm.out⟩, below_set5r HBl.out (by omega) _ _ _ _ _⟩

theorem change_any (s : Px.St) (sl en : Value) (c : Ct) (csl cen : Value) (b : ByteArray) (h : Bx.Ch) (w : World) (hO : Px.Ok s) (hT : TabLH w) (hM : Tab w) (hS : PAt w s sl en) (hf : (∃ ad cap, csl = .slice ad c.st.slots.length cap) ∧ ∃ ad cap, cen = .slice ad c.st.ends.length cap) (hb : b.size ≤ 100000) (hI : Bx.IsCh b h) (hk : c.kind = Bx.b1 h.kind) (ht : c.tab = h.tab) (hn : c.num = h.n) :
 Calls Tryz.prog 147 #[pstV s sl en, ctV c csl cen] w fun e w' => (∃ p, ChgR p w' e ∧ Px.ChM s h p) ∧ Below w.heap.size w w' := by
 have hts : c.tab.size ≤ maxLen := by
  rw [ht]; unfold maxLen
  rcases hI.1 with ⟨q, _⟩ | ⟨_, q, _⟩ | ⟨_, q, _⟩
  ·have h1 := Bx.body_tab h q
   rw [hI.2] at h1; omega
  ·rw [q]; decide
  ·rw [q]; decide
 obtain ⟨k, t, n⟩ := h
 simp only at hk ht hn
 rcases hI.1 with ⟨q, _⟩ | ⟨q, _⟩ | ⟨q, _⟩
 ·simp only at q; subst q ht hn
  exact change_T s sl en c csl cen c.tab w hO hT hM hS hf hts hk
 ·simp only at q; subst q hn
  exact change_C s sl en c csl cen t w hO hT hM hS hf hts hk
 ·simp only at q
  rcases q with q | q | q | q <;> (subst q hn)
  ·exact change_S s sl en c csl cen t w hO hT hM hS hf hts hk
  ·exact change_D s sl en c csl cen t w hO hT hM hS hf hts hk
  ·exact change_F s sl en c csl cen t w hO hT hM hS hf hts hk
  ·exact change_K s sl en c csl cen t w hO hT hM hS hf hts hk
end Go.Proofs.YtdajolpoiffimaaGreatDoor

namespace Go.Proofs.YtdajolpoiffimaaGreatDoor
open Go.RowKit

/-- What behind answers. -/
inductive BehR (fl : Bool) (s : Px.St) (b : ByteArray) (w' : World) : Ending → Prop
 | yes (t : Px.St) (sl en : Value) (h : Bx.Stp fl (Px.abs s) b (Px.abs t)) (hO : Px.Ok t) (ha : PAt w' t sl en) : BehR fl s b w' (.returned (.tuple #[pstV t sl en, .bool true]))
 | no (t : Px.St) (sl en : Value) (h : ¬ ∃ t, Bx.Stp fl (Px.abs s) b t) (ha : (∃ ad cap, sl = .slice ad t.slots.length cap) ∧ ∃ ad cap, en = .slice ad t.ends.length cap) : BehR fl s b w' (.returned (.tuple #[pstV t sl en, .bool false]))
theorem stp_ch {fl : Bool} {s : Bx.St} {b : ByteArray} {h : Bx.Ch} (hI : Bx.IsCh b h) : ((Bx.doP s h).2 = true → Bx.Stp fl s b (Bx.doP s h).1) ∧ ((Bx.doP s h).2 = false → ¬ ∃ t, Bx.Stp fl s b t) := by
 refine ⟨fun q => Or.inr ⟨h, hI, q, rfl⟩, fun q => ?_⟩
 rintro ⟨t, ⟨_, hz⟩ | ⟨c, hc, hd, _⟩⟩
 ·exact (hz.no_ch hI).elim
 ·rw [hI.uniq hc] at q; rw [q] at hd; cases hd
theorem stp_wh {fl : Bool} {s t : Bx.St} {b : ByteArray} (hw : Bx.wholeS t = b) (hf : Bx.StFit t) : (fl = true ∧ Bx.MayS t → Bx.Stp fl s b t) ∧ (¬ (fl = true ∧ Bx.MayS t) → ¬ ∃ u, Bx.Stp fl s b u) := by
 refine ⟨fun ⟨q, m⟩ => Or.inl ⟨q, m, hw⟩, fun q => ?_⟩
 rintro ⟨u, ⟨hfl, hm, hu⟩ | ⟨c, ⟨hc, he⟩, _⟩⟩
 ·have : t = u := by
   have h1 := Px.rdState_enc t hf ByteArray.empty
   have h2 := Px.rdState_enc u hm.fit ByteArray.empty
   have e : Bx.encSt t = Bx.encSt u := by
    have := hw.trans hu.symm
    unfold Bx.wholeS at this
    exact (Bx.app_inj this rfl).2
   rw [e, h2] at h1
   have := congrArg (fun p => Px.abs p.1) h1
   simp only [Px.rdSt_abs] at this
   exact this.symm
  subst this
  exact q ⟨hfl, hm⟩
 ·rw [← hw] at he
  unfold Bx.wholeS Bx.body at he
  obtain ⟨e1, _⟩ := Bx.app_inj he rfl
  rw [Bx.b1_be, Bx.b1_be] at e1
  have k := hc.kind
  exact k.2.2 (Bx.be_inj e1 k.1 (by simpa using k.2.1) (by decide) (by decide))
set_option maxRecDepth 10000 in
set_option maxHeartbeats 4000000 in
theorem behind_ch (fl : Bool) (s : Px.St) (sl en : Value) (c : Ct) (b : ByteArray) (w : World) (hO : Px.Ok s) (hT : TabLH w) (hM : Tab w) (hS : PAt w s sl en) (hb : b.size ≤ 100000) (hI : IsC b c) (hs : c.st = Px.st0) :
 Calls Tryz.prog 97 #[pstV s sl en, ctV c nilS nilS, .bool fl] w fun e w' => BehR fl s b w' e ∧ Below w.heap.size w w' := by
 obtain ⟨h, hI, hk, ht, hn⟩ := hI
 obtain ⟨ad, cap, rfl, hcap⟩ := hS.sl.form
 obtain ⟨ad2, cap2, rfl, hcap2⟩ := hS.en.form
 have hkk := hI.1.kind
 have e90 : (c.kind.toList == [90]) = false := kd_ne hk hkk.1 hkk.2.1 90 (by simpa using hkk.2.2)
 have HO : Hid (Px.Ok s) := hO
 have HI : Hid (Bx.IsCh b h ∧ c.kind = Bx.b1 h.kind ∧ c.tab = h.tab ∧ c.num = h.n) := ⟨hI, hk, ht, hn⟩
 have HSt0 : Hid (c.st = Px.st0) := hs
 have hR := RC.new w s (.slice ad s.slots.length cap) (.slice ad2 s.ends.length cap2) c (.slice none 0 0) (.slice none 0 0)
 clear hI hk ht hn hkk
 clear hs
 go_enter Tryz.func97, Tryz.ntmps97
 go_upto_region 1 with fail
 have hR' : RC w (((w.alloc (.cells #[.string s.tab, .int .i64 s.clock, .int .i64 s.next, .slice ad s.slots.length cap, .slice ad2 s.ends.length cap2] 65)).alloc (.cells #[.string c.kind, .string c.tab, .int .i64 c.num, .string c.st.tab, .int .i64 c.st.clock, .int .i64 c.st.next, .slice none 0 0, .slice none 0 0, .int .i64 c.size] 148)).alloc (.cells #[.string { data := #[] }, .int .i64 0, .int .i64 0, .slice none 0 0, .slice none 0 0] 65)) s (.slice ad s.slots.length cap) (.slice ad2 s.ends.length cap2) c (.slice none 0 0) (.slice none 0 0) := hR
 clear hR
 generalize ((w.alloc (.cells #[.string s.tab, .int .i64 s.clock, .int .i64 s.next, .slice ad s.slots.length cap, .slice ad2 s.ends.length cap2] 65)).alloc (.cells #[.string c.kind, .string c.tab, .int .i64 c.num, .string c.st.tab, .int .i64 c.st.clock, .int .i64 c.st.next, .slice none 0 0, .slice none 0 0, .int .i64 c.size] 148)).alloc (.cells #[.string { data := #[] }, .int .i64 0, .int .i64 0, .slice none 0 0, .slice none 0 0] 65) = W at *
 have HR : Hid (RC w W s (.slice ad s.slots.length cap) (.slice ad2 s.ends.length cap2) c (.slice none 0 0) (.slice none 0 0)) := hR'
 have HT : Hid (TabLH W) := hT.later hR'.b
 have HM : Hid (Tab W) := hM.later hR'.b
 have HSt : Hid (PAt W s (.slice ad s.slots.length cap) (.slice ad2 s.ends.length cap2)) := hS.later hR'.b
 have i0 := hR'.s.c 0 _ rfl; have i1 := hR'.s.c 1 _ rfl; have i2 := hR'.s.c 2 _ rfl; have i3 := hR'.s.c 3 _ rfl; have i4 := hR'.s.c 4 _ rfl
 have x0 := hR'.c.c 0 _ rfl; have x1 := hR'.c.c 1 _ rfl; have x2 := hR'.c.c 2 _ rfl; have x3 := hR'.c.c 3 _ rfl; have x4 := hR'.c.c 4 _ rfl; have x5 := hR'.c.c 5 _ rfl; have x6 := hR'.c.c 6 _ rfl; have x7 := hR'.c.c 7 _ rfl; have x8 := hR'.c.c 8 _ rfl
 have yi := hR'.s.ty.lt
 have yx := hR'.c.ty.lt
 clear hR' hO hT hM hS
 go_wp2_with fail
 refine (change_any s _ _ c (.slice none 0 0) (.slice none 0 0) b h _ HO.out HT.out HM.out HSt.out ⟨⟨none, 0, by rw [HSt0.out]; rfl⟩, ⟨none, 0, by rw [HSt0.out]; rfl⟩⟩ hb HI.out.1 HI.out.2.1 HI.out.2.2.1 HI.out.2.2.2).mono ?_
 rintro e w1 ⟨⟨p, ⟨slt, ent, rfl, hat⟩, hcm⟩, hb1⟩
 obtain ⟨ad5, cap5, hv5, _⟩ := hat.sl.form
 obtain ⟨ad6, cap6, hv6, _⟩ := hat.en.form
 subst hv5 hv6
 have hb2 := below_alloc w1 (pstO p.1 (.slice ad5 p.1.slots.length cap5) (.slice ad6 p.1.ends.length cap6))
 have HR1 := (HR.out.later hb1).later hb2
 have hat2 := hat.later hb2
 have hI2 := PIn.new w1 p.1 (.slice ad5 p.1.slots.length cap5) (.slice ad6 p.1.ends.length cap6)
 have HCm : Hid (Px.ChM s h p) := hcm
 clear hat hb1 hb2 hcm HR i0 i1 i2 i3 i4 x0 x1 x2 x3 x4 x5 x6 x7 x8 yi yx e90
 go_upto_region 5 with fail
 generalize w1.alloc (pstO p.1 (.slice ad5 p.1.slots.length cap5) (.slice ad6 p.1.ends.length cap6)) = W2 at *
 generalize w1.heap.size = q2 at *
 have HAt : Hid (PAt W2 p.1 (.slice ad5 p.1.slots.length cap5) (.slice ad6 p.1.ends.length cap6)) := hat2
 obtain ⟨j0, j1, j2, j3, j4⟩ := hI2
 have z0 := HR1.z.c 0 _ rfl; have z1 := HR1.z.c 1 _ rfl; have z2 := HR1.z.c 2 _ rfl; have z3 := HR1.z.c 3 _ rfl; have z4 := HR1.z.c 4 _ rfl
 have f0 := HR1.z.f 0 (by simp); have f1 := HR1.z.f 1 (by simp); have f2 := HR1.z.f 2 (by simp); have f3 := HR1.z.f 3 (by simp); have f4 := HR1.z.f 4 (by simp)
 have yz := HR1.z.ty.lt
 have HBl : Hid (Below w.heap.size w W2) := HR1.b
 have HTy : Hid (Typed W2 (w.heap.size + 2) 65) := HR1.z.ty
 clear hat2 HR1
 by_cases hp : p.2 = 0
 ·have hpb : (p.2 == 0) = true := by simpa using hp
  have HY : Hid (Bx.Stp fl (Px.abs s) b (Px.abs p.1) ∧ Px.Ok p.1) := by
   obtain ⟨a1, a2⟩ := HCm.out.1 hp
   have := (stp_ch (fl := fl) (s := Px.abs s) HI.out.1).1 (by rw [a1])
   rw [a1] at this
   exact ⟨this, a2⟩
  clear hp
  generalize p.2 = pr at *
  go_wp2_with fail
  refine bodyPost_ret (v := .tuple #[pstV p.1 (.slice ad5 p.1.slots.length cap5) (.slice ad6 p.1.ends.length cap6), .bool true]) (by simp [results, Tryz.results97, go_sem, z0, z1, z2, z3, z4]) rfl ⟨BehR.yes _ _ _ HY.out.1 HY.out.2 (HAt.out.store HTy.out _ _ _ _ _), below_set5r HBl.out (by omega) _ _ _ _ _⟩
 ·have hpb : (p.2 == 0) = false := by simpa using hp
  have HY : Hid (¬ ∃ t, Bx.Stp fl (Px.abs s) b t) := (stp_ch (fl := fl) (s := Px.abs s) HI.out.1).2 (HCm.out.2 hp)
  clear hp
  generalize p.2 = pr at *
  go_wp2_with fail
  refine bodyPost_ret (v := .tuple #[pstV p.1 (.slice ad5 p.1.slots.length cap5) (.slice ad6 p.1.ends.length cap6), .bool false]) (by simp [results, Tryz.results97, go_sem, z0, z1, z2, z3, z4]) rfl ⟨BehR.no _ _ _ HY.out ⟨⟨_, _, rfl⟩, ⟨_, _, rfl⟩⟩, below_set5r HBl.out (by omega) _ _ _ _ _⟩
set_option maxRecDepth 10000 in
set_option maxHeartbeats 4000000 in
theorem behind_wh (fl : Bool) (s : Px.St) (sl en : Value) (c : Ct) (csl cen : Value) (b : ByteArray) (w : World) (hT : TabLH w) (hS : PAt w s sl en) (hC : PAt w c.st csl cen) (hI : IsW b c) :
 Calls Tryz.prog 97 #[pstV s sl en, ctV c csl cen, .bool fl] w fun e w' => BehR fl s b w' e ∧ Below w.heap.size w w' := by
 obtain ⟨hk, hw, hfit, hfr, hcl⟩ := hI
 obtain ⟨ad, cap, rfl, hcap⟩ := hS.sl.form
 obtain ⟨ad2, cap2, rfl, hcap2⟩ := hS.en.form
 obtain ⟨ad3, cap3, rfl, hcap3⟩ := hC.sl.form
 obtain ⟨ad4, cap4, rfl, hcap4⟩ := hC.en.form
 have e90 : (c.kind.toList == [90]) = true := kd_eq hk (by decide) (by decide) 90 (by decide)
 have HStp : Hid ((fl = true ∧ Bx.MayS (Px.abs c.st) → Bx.Stp fl (Px.abs s) b (Px.abs c.st)) ∧ (¬ (fl = true ∧ Bx.MayS (Px.abs c.st)) → ¬ ∃ u, Bx.Stp fl (Px.abs s) b u)) := stp_wh hw hfit
 have HFr : Hid (∀ x ∈ c.st.slots, Px.Fresh x) := hfr
 have HMi : Hid (MayP c.st ↔ Bx.MayS (Px.abs c.st)) := may_iff fun x hx => (hfr x hx).2.2.2
 have HSz : Hid (c.st.tab.size ≤ maxLen) := by have := hfit.t; unfold Hid maxLen; have e : (Px.abs c.st).tab = c.st.tab := rfl; rw [e] at this; omega
 have hl : c.st.slots.length ≤ 10000 := by have := hfit.sl; simp [Px.abs] at this; omega
 have hle : c.st.ends.length ≤ 10000 := by have := hfit.en; simp [Px.abs] at this; omega
 have hR := RC.new w s (.slice ad s.slots.length cap) (.slice ad2 s.ends.length cap2) c (.slice ad3 c.st.slots.length cap3) (.slice ad4 c.st.ends.length cap4)
 clear hk hw hfit hfr hcl
 go_enter Tryz.func97, Tryz.ntmps97
 go_upto_region 1 with fail
 have hR' : RC w (((w.alloc (.cells #[.string s.tab, .int .i64 s.clock, .int .i64 s.next, .slice ad s.slots.length cap, .slice ad2 s.ends.length cap2] 65)).alloc (.cells #[.string c.kind, .string c.tab, .int .i64 c.num, .string c.st.tab, .int .i64 c.st.clock, .int .i64 c.st.next, .slice ad3 c.st.slots.length cap3, .slice ad4 c.st.ends.length cap4, .int .i64 c.size] 148)).alloc (.cells #[.string { data := #[] }, .int .i64 0, .int .i64 0, .slice none 0 0, .slice none 0 0] 65)) s (.slice ad s.slots.length cap) (.slice ad2 s.ends.length cap2) c (.slice ad3 c.st.slots.length cap3) (.slice ad4 c.st.ends.length cap4) := hR
 clear hR
 generalize ((w.alloc (.cells #[.string s.tab, .int .i64 s.clock, .int .i64 s.next, .slice ad s.slots.length cap, .slice ad2 s.ends.length cap2] 65)).alloc (.cells #[.string c.kind, .string c.tab, .int .i64 c.num, .string c.st.tab, .int .i64 c.st.clock, .int .i64 c.st.next, .slice ad3 c.st.slots.length cap3, .slice ad4 c.st.ends.length cap4, .int .i64 c.size] 148)).alloc (.cells #[.string { data := #[] }, .int .i64 0, .int .i64 0, .slice none 0 0, .slice none 0 0] 65) = W at *
 have HR : Hid (RC w W s (.slice ad s.slots.length cap) (.slice ad2 s.ends.length cap2) c (.slice ad3 c.st.slots.length cap3) (.slice ad4 c.st.ends.length cap4)) := hR'
 have HT : Hid (TabLH W) := hT.later hR'.b
 have HC : Hid (PAt W c.st (.slice ad3 c.st.slots.length cap3) (.slice ad4 c.st.ends.length cap4)) := hC.later hR'.b
 have x0 := hR'.c.c 0 _ rfl; have x3 := hR'.c.c 3 _ rfl; have x4 := hR'.c.c 4 _ rfl; have x5 := hR'.c.c 5 _ rfl; have x6 := hR'.c.c 6 _ rfl; have x7 := hR'.c.c 7 _ rfl
 have yx := hR'.c.ty.lt
 have z0 := hR'.z.c 0 _ rfl; have z1 := hR'.z.c 1 _ rfl; have z2 := hR'.z.c 2 _ rfl; have z3 := hR'.z.c 3 _ rfl; have z4 := hR'.z.c 4 _ rfl
 have f0 := hR'.z.f 0 (by simp); have f1 := hR'.z.f 1 (by simp); have f2 := hR'.z.f 2 (by simp); have f3 := hR'.z.f 3 (by simp); have f4 := hR'.z.f 4 (by simp)
 have yz := hR'.z.ty.lt
 clear hR' hT hS hC
 cases fl
 ·have HY : Hid (¬ ∃ t, Bx.Stp false (Px.abs s) b t) := HStp.out.2 (fun q => by cases q.1)
  go_wp2_with fail
  refine bodyPost_ret (v := .tuple #[pstV c.st (.slice ad3 c.st.slots.length cap3) (.slice ad4 c.st.ends.length cap4), .bool false]) (by simp [results, Tryz.results97, go_sem, z0, z1, z2, z3, z4]) rfl ⟨BehR.no _ _ _ HY.out ⟨⟨_, _, rfl⟩, ⟨_, _, rfl⟩⟩, below_set5r HR.out.b (by omega) _ _ _ _ _⟩
 ·go_wp2_with fail
  refine (pmay_any c.st _ _ _ HSz.out hl hle HT.out HC.out).mono ?_
  rintro e w1 ⟨⟨bb, rfl, hbb⟩, hb1⟩
  have HR1 := HR.out.later hb1
  have HC1 : Hid (PAt w1 c.st (.slice ad3 c.st.slots.length cap3) (.slice ad4 c.st.ends.length cap4)) := HC.out.later hb1
  have HBb : Hid (bb = true ↔ Bx.MayS (Px.abs c.st)) := hbb.trans HMi.out
  clear x0 x3 x4 x5 x6 x7 yx z0 z1 z2 z3 z4 f0 f1 f2 f3 f4 yz hbb hb1 HR HC e90
  have x3 := HR1.c.c 3 _ rfl; have x4 := HR1.c.c 4 _ rfl; have x5 := HR1.c.c 5 _ rfl; have x6 := HR1.c.c 6 _ rfl; have x7 := HR1.c.c 7 _ rfl
  have yx := HR1.c.ty.lt
  have z0 := HR1.z.c 0 _ rfl; have z1 := HR1.z.c 1 _ rfl; have z2 := HR1.z.c 2 _ rfl; have z3 := HR1.z.c 3 _ rfl; have z4 := HR1.z.c 4 _ rfl
  have f0 := HR1.z.f 0 (by simp); have f1 := HR1.z.f 1 (by simp); have f2 := HR1.z.f 2 (by simp); have f3 := HR1.z.f 3 (by simp); have f4 := HR1.z.f 4 (by simp)
  have yz := HR1.z.ty.lt
  have HBl : Hid (Below w.heap.size w w1) := HR1.b
  have HTy : Hid (Typed w1 (w.heap.size + 2) 65) := HR1.z.ty
  clear HR1
  cases bb
  ·have HY : Hid (¬ ∃ t, Bx.Stp true (Px.abs s) b t) := HStp.out.2 (fun q => by have := HBb.out.2 q.2; cases this)
   go_wp2_with fail
   refine bodyPost_ret (v := .tuple #[pstV c.st (.slice ad3 c.st.slots.length cap3) (.slice ad4 c.st.ends.length cap4), .bool false]) (by simp [results, Tryz.results97, go_sem, z0, z1, z2, z3, z4]) rfl ⟨BehR.no _ _ _ HY.out ⟨⟨_, _, rfl⟩, ⟨_, _, rfl⟩⟩, below_set5r HBl.out (by omega) _ _ _ _ _⟩
  ·have hm := HBb.out.1 rfl
   have HY : Hid (Bx.Stp true (Px.abs s) b (Px.abs c.st) ∧ Px.Ok c.st) := ⟨HStp.out.1 (by first | exact ⟨rfl, hm⟩ | exact ⟨trivial, hm⟩), Px.fresh_ok HFr.out hm⟩
   clear hm
   go_wp2_with fail
   refine bodyPost_ret (v := .tuple #[pstV c.st (.slice ad3 c.st.slots.length cap3) (.slice ad4 c.st.ends.length cap4), .bool true]) (by simp [results, Tryz.results97, go_sem, z0, z1, z2, z3, z4]) rfl ⟨BehR.yes _ _ _ HY.out.1 HY.out.2 (HC1.out.store HTy.out _ _ _ _ _), below_set5r HBl.out (by omega) _ _ _ _ _⟩
end Go.Proofs.YtdajolpoiffimaaGreatDoor

namespace Go.Proofs.YtdajolpoiffimaaGreatDoor
open Go.RowKit

/-- What Read answers. -/
def RdR (log : ByteArray) (w' : World) (e : Ending) : Prop := ∃ (s : Px.St) (sl en : Value) (q : ByteArray) (n : Int), e = .returned (.tuple #[pstV s sl en, .int .i64 n]) ∧ Px.Ok s ∧ Bx.Says true Bx.first log (Px.abs s) q ∧ n + (q.size : Int) = (log.size : Int) ∧ PAt w' s sl en
/-- Where Read is. -/
structure RI (w wr : World) (q4 : Nat) (log : ByteArray) (k : Nat) (s : Px.St) (sl en : Value) : Prop where
 le : k ≤ log.size
 ok : Px.Ok s
 sy : ∀ S q, Bx.Says ((k : Int) == 0) (Px.abs s) (log.extract k log.size) S q → Bx.Says true Bx.first log S q
 c : Cl wr q4 65 [.string s.tab, .int .i64 s.clock, .int .i64 s.next, sl, en]
 z : Cl wr w.heap.size 65 [.string { data := #[] }, .int .i64 0, .int .i64 0, .slice none 0 0, .slice none 0 0]
 a : PAt wr s sl en
 b : Below w.heap.size w wr
 q : w.heap.size < q4
theorem RI.later {w wr wr' : World} {q4 : Nat} {log : ByteArray} {k : Nat} {s : Px.St} {sl en : Value} (h : RI w wr q4 log k s sl en) (hb : Below wr.heap.size wr wr') : RI w wr' q4 log k s sl en :=
 ⟨h.le, h.ok, h.sy, h.c.later hb, h.z.later hb, h.a.later hb, h.b.trans (hb.mono h.b.size), h.q⟩
/-- It stands still. -/
theorem RI.stop {w wr : World} {q4 : Nat} {log : ByteArray} {k : Nat} {s : Px.St} {sl en : Value} (h : RI w wr q4 log k s sl en) (hn : ¬ ∃ b more t, Bx.Nx (log.extract k log.size) b more ∧ Bx.Stp ((k : Int) == 0) (Px.abs s) b t) :
 Bx.Says true Bx.first log (Px.abs s) (log.extract k log.size) ∧ (k : Int) + ((log.extract k log.size).size : Int) = (log.size : Int) :=
 ⟨h.sy _ _ (Bx.Says.stop _ _ _ hn), by have := h.le; simp; omega⟩
theorem stp_take {fl : Bool} {s : Bx.St} {r : ByteArray} (h : ¬ ∃ b more, Bx.Nx r b more ∧ ((∃ h, Bx.IsCh b h) ∨ ∃ s, Bx.StFit s ∧ Bx.wholeS s = b)) : ¬ ∃ b more t, Bx.Nx r b more ∧ Bx.Stp fl s b t := by
 rintro ⟨b, more, t, hN, hs⟩
 refine h ⟨b, more, hN, ?_⟩
 rcases hs with ⟨_, hz⟩ | ⟨c, hc, _⟩
 ·exact Or.inr ⟨t, hz.1.fit, hz.2⟩
 ·exact Or.inl ⟨c, hc⟩
theorem stp_one {fl : Bool} {s : Bx.St} {r b more : ByteArray} (hN : Bx.Nx r b more) (h : ¬ ∃ t, Bx.Stp fl s b t) : ¬ ∃ b more t, Bx.Nx r b more ∧ Bx.Stp fl s b t := by
 rintro ⟨b', more', t, hN', hs⟩
 obtain ⟨rfl, _⟩ := hN.uniq hN'
 exact h ⟨t, hs⟩
/-- It goes on. -/
theorem RI.go {w wr : World} {q4 : Nat} {log : ByteArray} {k : Nat} {s t : Px.St} {sl en : Value} {b more : ByteArray} (h : RI w wr q4 log k s sl en) (hN : Bx.Nx (log.extract k log.size) b more) (hs : Bx.Stp ((k : Int) == 0) (Px.abs s) b (Px.abs t)) :
 k + b.size + 6 ≤ log.size ∧ ∀ S q, Bx.Says (((k + b.size + 6 : Nat) : Int) == 0) (Px.abs t) (log.extract (k + b.size + 6) log.size) S q → Bx.Says true Bx.first log S q := by
 have hz : (log.extract k log.size).size = b.size + 6 + more.size := by rw [hN.1, ByteArray.size_append, Bx.frame_size]
 have hle := h.le
 have hz2 : log.size - k = b.size + 6 + more.size := by simp at hz; omega
 refine ⟨by omega, fun S q hq => h.sy S q (Bx.Says.go hN hs ?_)⟩
 have e : log.extract (k + b.size + 6) log.size = more := by
  have h1 : (log.extract k log.size).data.toList = log.data.toList.drop k := by
   rw [ext_list]; exact List.take_of_length_le (by simp)
  have h2 : (log.extract (k + b.size + 6) log.size).data.toList = log.data.toList.drop (k + b.size + 6) := by
   rw [ext_list]; exact List.take_of_length_le (by simp)
  refine Bx.ba_ext ?_
  rw [h2, Nat.add_assoc, ← List.drop_drop, ← h1, hN.1, ByteArray.data_append, Array.toList_append]
  have hl : (Bx.frame b).data.toList.length = b.size + 6 := by rw [Bx.ba_len, Bx.frame_size]
  rw [← hl, List.drop_left]
 have hf : (((k + b.size + 6 : Nat) : Int) == 0) = false := by simp; omega
 rw [hf, e] at hq
 exact hq
set_option maxRecDepth 10000 in
set_option maxHeartbeats 4000000 in
theorem pread_any (log : ByteArray) (w : World) (hl : log.size ≤ 50000) (hT : TabLH w) (hM : Tab w) :
 Calls Tryz.prog 53 #[.string log] w fun e w' => RdR log w' e ∧ Below w.heap.size w w' := by
 have HT : Hid (TabLH w) := hT
 have HM : Hid (Tab w) := hM
 clear hT hM
 have hz0 := Cl.new w [.string { data := #[] }, .int .i64 0, .int .i64 0, .slice none 0 0, .slice none 0 0] 65
 have hb0 := below_alloc w (.cells #[.string { data := #[] }, .int .i64 0, .int .i64 0, .slice none 0 0, .slice none 0 0] 65)
 go_enter Tryz.func53, Tryz.ntmps53
 go_upto_region 1 with fail
 have hz0' : Cl (w.alloc (.cells #[.string { data := #[] }, .int .i64 0, .int .i64 0, .slice none 0 0, .slice none 0 0] 65)) w.heap.size 65 [.string { data := #[] }, .int .i64 0, .int .i64 0, .slice none 0 0, .slice none 0 0] := hz0
 clear hz0
 generalize w.alloc (.cells #[.string { data := #[] }, .int .i64 0, .int .i64 0, .slice none 0 0, .slice none 0 0] 65) = W at *
 go_wp2_with fail
 refine (pfirst_any W).mono ?_
 rintro e w0 ⟨rfl, hbf⟩
 have hc0 := Cl.new w0 [.string Px.first.tab, .int .i64 Px.first.clock, .int .i64 Px.first.next, .slice none 0 0, .slice none 0 0] 65
 have hz1 := (hz0'.later hbf).later (below_alloc w0 (pstO Px.first (.slice none 0 0) (.slice none 0 0)))
 have hb1 : Below w.heap.size w (w0.alloc (pstO Px.first (.slice none 0 0) (.slice none 0 0))) := (hb0.trans (hbf.mono hb0.size)).alloc (by have h1 := hb0.size; have h2 := hbf.size; omega) _
 have hq0 : w.heap.size < w0.heap.size := (hz0'.later hbf).ty.lt
 have HI0 : Hid (RI w (w0.alloc (pstO Px.first (.slice none 0 0) (.slice none 0 0))) w0.heap.size log 0 Px.first (.slice none 0 0) (.slice none 0 0)) := by
  refine ⟨Nat.zero_le _, ⟨Bx.first_ok, List.Pairwise.nil, fun x hx => by simp [Px.first] at hx⟩, fun S q hq => ?_, hc0, hz1, ⟨TRow.nil _ _, TRow.nil _ _⟩, hb1, hq0⟩
  have e : log.extract 0 log.size = log := by simp
  rw [e] at hq
  exact hq
 clear hc0 hz1 hb1 hz0' hbf hb0
 go_upto_region 2 with fail
 have HI0' : Hid (RI w (w0.alloc (.cells #[.string Px.first.tab, .int .i64 Px.first.clock, .int .i64 Px.first.next, .slice none 0 0, .slice none 0 0] 65)) w0.heap.size log 0 Px.first (.slice none 0 0) (.slice none 0 0)) := HI0.out
 clear HI0
 generalize w0.alloc (.cells #[.string Px.first.tab, .int .i64 Px.first.clock, .int .i64 Px.first.next, .slice none 0 0, .slice none 0 0] 65) = W1 at *
 generalize w0.heap.size = q4 at *
 go_wp2_with fail
 go_loopw [5] (fun av wr => ∃ (k : Nat) (s : Px.St) (sl en : Value), av = .int .i64 k ∧ RI w wr q4 log k s sl en) (fun av _ => log.size - (intOf av).toNat)
 case atStart => exact ⟨0, Px.first, _, _, rfl, HI0'.out⟩
 case round =>
  obtain ⟨k, s, sl, en, rfl, hI⟩ := hrel
  obtain ⟨ad, cap, rfl, _⟩ := hI.a.sl.form
  obtain ⟨ad2, cap2, rfl, _⟩ := hI.a.en.form
  have HI : Hid (RI w wr q4 log k s (.slice ad s.slots.length cap) (.slice ad2 s.ends.length cap2)) := hI
  have hkl := hI.le
  clear hI
  by_cases hlt : k < log.size
  ·have y1 : (0 : Int) ≤ (k : Int) := by omega
   have y2 : (k : Int) ≤ (log.size : Int) := by omega
   have y3 : ((k : Int)).toNat = k := by omega
   go_wp2_with fail
   refine (ptake_any (log.extract k log.size) _ (by simp; omega)).mono ?_
   rintro e w1 ⟨hTk, hbT⟩
   cases hTk with
   | no hno =>
     have HNo : Hid (¬ ∃ b more t, Bx.Nx (log.extract k log.size) b more ∧ Bx.Stp ((k : Int) == 0) (Px.abs s) b t) := stp_take hno
     have HS : Hid (Bx.Says true Bx.first log (Px.abs s) (log.extract k log.size) ∧ (k : Int) + ((log.extract k log.size).size : Int) = (log.size : Int)) := HI.out.stop HNo.out
     have hR5 := (HI.out.later hbT).later (below_alloc w1 (.cells (ctC ct0 nilS nilS).toArray 148))
     clear hno hbT HI HNo
     go_upto_region 5 with fail
     have hR5' : RI w (w1.alloc (.cells #[.string ct0.kind, .string ct0.tab, .int .i64 ct0.num, .string ct0.st.tab, .int .i64 ct0.st.clock, .int .i64 ct0.st.next, .slice none 0 0, .slice none 0 0, .int .i64 ct0.size] 148)) q4 log k s (.slice ad s.slots.length cap) (.slice ad2 s.ends.length cap2) := hR5
     clear hR5
     generalize w1.alloc (.cells #[.string ct0.kind, .string ct0.tab, .int .i64 ct0.num, .string ct0.st.tab, .int .i64 ct0.st.clock, .int .i64 ct0.st.next, .slice none 0 0, .slice none 0 0, .int .i64 ct0.size] 148) = W4 at *
     have hR5 := hR5'
     clear hR5'
     have x0 := hR5.c.c 0 _ rfl; have x1 := hR5.c.c 1 _ rfl; have x2 := hR5.c.c 2 _ rfl; have x3 := hR5.c.c 3 _ rfl; have x4 := hR5.c.c 4 _ rfl
     have z0 := hR5.z.c 0 _ rfl; have z1 := hR5.z.c 1 _ rfl; have z2 := hR5.z.c 2 _ rfl; have z3 := hR5.z.c 3 _ rfl; have z4 := hR5.z.c 4 _ rfl
     have f0 := hR5.z.f 0 (by simp); have f1 := hR5.z.f 1 (by simp); have f2 := hR5.z.f 2 (by simp); have f3 := hR5.z.f 3 (by simp); have f4 := hR5.z.f 4 (by simp)
     have yz := hR5.z.ty.lt
     have yx := hR5.c.ty.lt
     have HBl : Hid (Below w.heap.size w W4) := hR5.b
     have HTy : Hid (Typed W4 w.heap.size 65) := hR5.z.ty
     have HAt : Hid (PAt W4 s (.slice ad s.slots.length cap) (.slice ad2 s.ends.length cap2)) := hR5.a
     have HOk : Hid (Px.Ok s) := hR5.ok
     clear hR5
     go_wp2_with fail
     refine bodyPost_ret (v := .tuple #[pstV s (.slice ad s.slots.length cap) (.slice ad2 s.ends.length cap2), .int .i64 k]) (by simp [results, Tryz.results53, go_sem, z0, z1, z2, z3, z4]) rfl ⟨⟨s, _, _, _, _, rfl, HOk.out, HS.out.1, HS.out.2, HAt.out.store HTy.out _ _ _ _ _⟩, below_set5r HBl.out (Nat.le_refl _) _ _ _ _ _⟩
   | ch b more c hN h hs hz =>
     have HIs : Hid (IsC b c) := h
     have HSt0 : Hid (c.st = Px.st0) := hs
     clear h hs
     have HN : Hid (Bx.Nx (log.extract k log.size) b more) := hN
     have HZ : Hid (c.size = (b.size : Int) + 6) := hz
     clear hz
     have hbz : b.size ≤ 100000 := by
      have h1 := congrArg ByteArray.size hN.1
      rw [ByteArray.size_append, Bx.frame_size] at h1
      simp at h1; omega
     have hC := Cl.new w1 (ctC c (.slice none 0 0) (.slice none 0 0)) 148
     have hR2 := (HI.out.later hbT).later (below_alloc w1 (.cells (ctC c (.slice none 0 0) (.slice none 0 0)).toArray 148))
     have hq1 : w.heap.size < w1.heap.size := by have := (HI.out.later hbT).z.ty.lt; exact this
     have hq4 : q4 < w1.heap.size := (HI.out.later hbT).c.ty.lt
     clear hN hbT HI
     go_upto_region 7 with fail
     have hC' : Cl (w1.alloc (.cells #[.string c.kind, .string c.tab, .int .i64 c.num, .string c.st.tab, .int .i64 c.st.clock, .int .i64 c.st.next, (.slice none 0 0), (.slice none 0 0), .int .i64 c.size] 148)) w1.heap.size 148 (ctC c (.slice none 0 0) (.slice none 0 0)) := hC
     have hR2' : RI w (w1.alloc (.cells #[.string c.kind, .string c.tab, .int .i64 c.num, .string c.st.tab, .int .i64 c.st.clock, .int .i64 c.st.next, (.slice none 0 0), (.slice none 0 0), .int .i64 c.size] 148)) q4 log k s (.slice ad s.slots.length cap) (.slice ad2 s.ends.length cap2) := hR2

     clear hC hR2
     generalize w1.alloc (.cells #[.string c.kind, .string c.tab, .int .i64 c.num, .string c.st.tab, .int .i64 c.st.clock, .int .i64 c.st.next, (.slice none 0 0), (.slice none 0 0), .int .i64 c.size] 148) = W2 at *
     generalize w1.heap.size = cq at *
     have HI2 : Hid (RI w W2 q4 log k s (.slice ad s.slots.length cap) (.slice ad2 s.ends.length cap2)) := hR2'
     have HC2 : Hid (Cl W2 cq 148 (ctC c (.slice none 0 0) (.slice none 0 0))) := hC'

     have i0 := hR2'.c.c 0 _ rfl; have i1 := hR2'.c.c 1 _ rfl; have i2 := hR2'.c.c 2 _ rfl; have i3 := hR2'.c.c 3 _ rfl; have i4 := hR2'.c.c 4 _ rfl
     have x0 := hC'.c 0 _ rfl; have x1 := hC'.c 1 _ rfl; have x2 := hC'.c 2 _ rfl; have x3 := hC'.c 3 _ rfl; have x4 := hC'.c 4 _ rfl; have x5 := hC'.c 5 _ rfl; have x6 := hC'.c 6 _ rfl; have x7 := hC'.c 7 _ rfl; have x8 := hC'.c 8 _ rfl
     have yi := hR2'.c.ty.lt
     have yx := hC'.ty.lt
     clear hR2' hC'
     go_wp2_with fail
     refine (behind_ch ((k : Int) == 0) s _ _ c b _ HI2.out.ok (HT.out.later HI2.out.b) (HM.out.later HI2.out.b) HI2.out.a hbz HIs.out HSt0.out).mono ?_
     rintro e w3 ⟨hB, hb3⟩
     have HI3 : Hid (RI w w3 q4 log k s (.slice ad s.slots.length cap) (.slice ad2 s.ends.length cap2)) := HI2.out.later hb3
     have HC3 : Hid (Cl w3 cq 148 (ctC c (.slice none 0 0) (.slice none 0 0))) := HC2.out.later hb3
     have hq3 : cq < w3.heap.size := HC3.out.ty.lt
     clear i0 i1 i2 i3 i4 x0 x1 x2 x3 x4 x5 x6 x7 x8 yi yx hb3 HI2 HC2
     cases hB with
     | no t slt ent hno hff =>
       obtain ⟨⟨ad5, cap5, rfl⟩, ⟨ad6, cap6, rfl⟩⟩ := hff
       have HS : Hid (Bx.Says true Bx.first log (Px.abs s) (log.extract k log.size) ∧ (k : Int) + ((log.extract k log.size).size : Int) = (log.size : Int)) := HI3.out.stop (stp_one HN.out hno)
       have hR5 := HI3.out.later (below_alloc w3 (pstO t (.slice ad5 t.slots.length cap5) (.slice ad6 t.ends.length cap6)))
       clear hno HI3 HC3
       go_upto_region 8 with fail
       generalize w3.alloc (pstO t (.slice ad5 t.slots.length cap5) (.slice ad6 t.ends.length cap6)) = W4 at *
       have x0 := hR5.c.c 0 _ rfl; have x1 := hR5.c.c 1 _ rfl; have x2 := hR5.c.c 2 _ rfl; have x3 := hR5.c.c 3 _ rfl; have x4 := hR5.c.c 4 _ rfl
       have z0 := hR5.z.c 0 _ rfl; have z1 := hR5.z.c 1 _ rfl; have z2 := hR5.z.c 2 _ rfl; have z3 := hR5.z.c 3 _ rfl; have z4 := hR5.z.c 4 _ rfl
       have f0 := hR5.z.f 0 (by simp); have f1 := hR5.z.f 1 (by simp); have f2 := hR5.z.f 2 (by simp); have f3 := hR5.z.f 3 (by simp); have f4 := hR5.z.f 4 (by simp)
       have yz := hR5.z.ty.lt
       have yx := hR5.c.ty.lt
       have HBl : Hid (Below w.heap.size w W4) := hR5.b
       have HTy : Hid (Typed W4 w.heap.size 65) := hR5.z.ty
       have HAt : Hid (PAt W4 s (.slice ad s.slots.length cap) (.slice ad2 s.ends.length cap2)) := hR5.a
       have HOk : Hid (Px.Ok s) := hR5.ok
       clear hR5
       go_wp2_with fail
       refine bodyPost_ret (v := .tuple #[pstV s (.slice ad s.slots.length cap) (.slice ad2 s.ends.length cap2), .int .i64 k]) (by simp [results, Tryz.results53, go_sem, z0, z1, z2, z3, z4]) rfl ⟨⟨s, _, _, _, _, rfl, HOk.out, HS.out.1, HS.out.2, HAt.out.store HTy.out _ _ _ _ _⟩, below_set5r HBl.out (Nat.le_refl _) _ _ _ _ _⟩
     | yes t slt ent hst hok hat =>
       obtain ⟨ad5, cap5, rfl, _⟩ := hat.sl.form
       obtain ⟨ad6, cap6, rfl, _⟩ := hat.en.form
       obtain ⟨g1, g2⟩ := HI3.out.go HN.out hst
       have HG2 : Hid (∀ S q, Bx.Says (((k + b.size + 6 : Nat) : Int) == 0) (Px.abs t) (log.extract (k + b.size + 6) log.size) S q → Bx.Says true Bx.first log S q) := g2
       have HOk : Hid (Px.Ok t) := hok
       have hb4 := below_alloc w3 (pstO t (.slice ad5 t.slots.length cap5) (.slice ad6 t.ends.length cap6))
       have hR5 := HI3.out.later hb4
       have hC5 := HC3.out.later hb4
       have hA5 := hat.later hb4
       have hI5 := PIn.new w3 t (.slice ad5 t.slots.length cap5) (.slice ad6 t.ends.length cap6)
       have hz5 : w3.heap.size < (w3.alloc (pstO t (.slice ad5 t.slots.length cap5) (.slice ad6 t.ends.length cap6))).heap.size := by simp
       clear hst hok hat g2 hb4 HI3 HC3
       go_upto_region 10 with fail
       generalize w3.alloc (pstO t (.slice ad5 t.slots.length cap5) (.slice ad6 t.ends.length cap6)) = W4 at *
       generalize w3.heap.size = aq at *
       have hqa : q4 < aq := by omega
       have hq5 := hR5.q
       have HA5 : Hid (PAt W4 t (.slice ad5 t.slots.length cap5) (.slice ad6 t.ends.length cap6)) := hA5
       obtain ⟨j0, j1, j2, j3, j4⟩ := hI5
       have i0 := hR5.c.c 0 _ rfl; have i1 := hR5.c.c 1 _ rfl; have i2 := hR5.c.c 2 _ rfl; have i3 := hR5.c.c 3 _ rfl; have i4 := hR5.c.c 4 _ rfl
       have g0 := hR5.c.f 0 (by simp); have g3 := hR5.c.f 1 (by simp); have g4 := hR5.c.f 2 (by simp); have g5 := hR5.c.f 3 (by simp); have g6 := hR5.c.f 4 (by simp)
       have yi := hR5.c.ty.lt
       have x8 := hC5.c 8 _ rfl
       have yx := hC5.ty.lt
       have HR5 : Hid (RI w W4 q4 log k s (.slice ad s.slots.length cap) (.slice ad2 s.ends.length cap2)) := hR5
       have hCs := ((((hR5.c.set 0 (by simp) (.string t.tab)).set 1 (by simp) (.int .i64 t.clock)).set 2 (by simp) (.int .i64 t.next)).set 3 (by simp) (.slice ad5 t.slots.length cap5)).set 4 (by simp) (.slice ad6 t.ends.length cap6)
       have HCs : Hid (Cl (((((W4.setCell ⟨q4, 0, none⟩ (.string t.tab)).setCell ⟨q4, 1, none⟩ (.int .i64 t.clock)).setCell ⟨q4, 2, none⟩ (.int .i64 t.next)).setCell ⟨q4, 3, none⟩ (.slice ad5 t.slots.length cap5)).setCell ⟨q4, 4, none⟩ (.slice ad6 t.ends.length cap6)) q4 65 [.string t.tab, .int .i64 t.clock, .int .i64 t.next, .slice ad5 t.slots.length cap5, .slice ad6 t.ends.length cap6]) := hCs
       have hxc : cq ≠ q4 := by omega
       clear hR5 hA5 hC5 hCs
       have HNx : Hid (RI w (((((W4.setCell ⟨q4, 0, none⟩ (.string t.tab)).setCell ⟨q4, 1, none⟩ (.int .i64 t.clock)).setCell ⟨q4, 2, none⟩ (.int .i64 t.next)).setCell ⟨q4, 3, none⟩ (.slice ad5 t.slots.length cap5)).setCell ⟨q4, 4, none⟩ (.slice ad6 t.ends.length cap6)) q4 log (k + b.size + 6) t (.slice ad5 t.slots.length cap5) (.slice ad6 t.ends.length cap6)) :=
        ⟨g1, HOk.out, HG2.out, HCs.out, HR5.out.z.far5 (by have := HR5.out.q; omega) _ _ _ _ _, HA5.out.store HR5.out.c.ty _ _ _ _ _, below_set5r HR5.out.b (Nat.le_of_lt HR5.out.q) _ _ _ _ _, HR5.out.q⟩
       rw [HZ.out] at x8
       clear HR5 HCs HZ
       go_wp2_with fail
       go_roundw
       case rel => exact ⟨k + b.size + 6, t, _, _, by first | rfl | (go_num) | (congr 1; omega), HNx.out⟩
       case measure => simp [intOf]; omega
   | wh b more c csl cen hN h hz ha =>
     obtain ⟨ad7, cap7, rfl, _⟩ := ha.sl.form
     obtain ⟨ad8, cap8, rfl, _⟩ := ha.en.form
     have HIs : Hid (IsW b c) := h
     have hA7 := ha.later (below_alloc w1 (.cells (ctC c (.slice ad7 c.st.slots.length cap7) (.slice ad8 c.st.ends.length cap8)).toArray 148))
     clear h ha
     have HN : Hid (Bx.Nx (log.extract k log.size) b more) := hN
     have HZ : Hid (c.size = (b.size : Int) + 6) := hz
     clear hz
     have hbz : b.size ≤ 100000 := by
      have h1 := congrArg ByteArray.size hN.1
      rw [ByteArray.size_append, Bx.frame_size] at h1
      simp at h1; omega
     have hC := Cl.new w1 (ctC c (.slice ad7 c.st.slots.length cap7) (.slice ad8 c.st.ends.length cap8)) 148
     have hR2 := (HI.out.later hbT).later (below_alloc w1 (.cells (ctC c (.slice ad7 c.st.slots.length cap7) (.slice ad8 c.st.ends.length cap8)).toArray 148))
     have hq1 : w.heap.size < w1.heap.size := by have := (HI.out.later hbT).z.ty.lt; exact this
     have hq4 : q4 < w1.heap.size := (HI.out.later hbT).c.ty.lt
     clear hN hbT HI
     go_upto_region 7 with fail
     have hC' : Cl (w1.alloc (.cells #[.string c.kind, .string c.tab, .int .i64 c.num, .string c.st.tab, .int .i64 c.st.clock, .int .i64 c.st.next, (.slice ad7 c.st.slots.length cap7), (.slice ad8 c.st.ends.length cap8), .int .i64 c.size] 148)) w1.heap.size 148 (ctC c (.slice ad7 c.st.slots.length cap7) (.slice ad8 c.st.ends.length cap8)) := hC
     have hR2' : RI w (w1.alloc (.cells #[.string c.kind, .string c.tab, .int .i64 c.num, .string c.st.tab, .int .i64 c.st.clock, .int .i64 c.st.next, (.slice ad7 c.st.slots.length cap7), (.slice ad8 c.st.ends.length cap8), .int .i64 c.size] 148)) q4 log k s (.slice ad s.slots.length cap) (.slice ad2 s.ends.length cap2) := hR2
     have hA7' : PAt (w1.alloc (.cells #[.string c.kind, .string c.tab, .int .i64 c.num, .string c.st.tab, .int .i64 c.st.clock, .int .i64 c.st.next, (.slice ad7 c.st.slots.length cap7), (.slice ad8 c.st.ends.length cap8), .int .i64 c.size] 148)) c.st (.slice ad7 c.st.slots.length cap7) (.slice ad8 c.st.ends.length cap8) := hA7
     clear hC hR2 hA7
     generalize w1.alloc (.cells #[.string c.kind, .string c.tab, .int .i64 c.num, .string c.st.tab, .int .i64 c.st.clock, .int .i64 c.st.next, (.slice ad7 c.st.slots.length cap7), (.slice ad8 c.st.ends.length cap8), .int .i64 c.size] 148) = W2 at *
     generalize w1.heap.size = cq at *
     have HI2 : Hid (RI w W2 q4 log k s (.slice ad s.slots.length cap) (.slice ad2 s.ends.length cap2)) := hR2'
     have HC2 : Hid (Cl W2 cq 148 (ctC c (.slice ad7 c.st.slots.length cap7) (.slice ad8 c.st.ends.length cap8))) := hC'
     have HA7 : Hid (PAt W2 c.st (.slice ad7 c.st.slots.length cap7) (.slice ad8 c.st.ends.length cap8)) := hA7'
     have i0 := hR2'.c.c 0 _ rfl; have i1 := hR2'.c.c 1 _ rfl; have i2 := hR2'.c.c 2 _ rfl; have i3 := hR2'.c.c 3 _ rfl; have i4 := hR2'.c.c 4 _ rfl
     have x0 := hC'.c 0 _ rfl; have x1 := hC'.c 1 _ rfl; have x2 := hC'.c 2 _ rfl; have x3 := hC'.c 3 _ rfl; have x4 := hC'.c 4 _ rfl; have x5 := hC'.c 5 _ rfl; have x6 := hC'.c 6 _ rfl; have x7 := hC'.c 7 _ rfl; have x8 := hC'.c 8 _ rfl
     have yi := hR2'.c.ty.lt
     have yx := hC'.ty.lt
     clear hR2' hC' hA7'
     go_wp2_with fail
     refine (behind_wh ((k : Int) == 0) s _ _ c _ _ b _ (HT.out.later HI2.out.b) HI2.out.a HA7.out HIs.out).mono ?_
     rintro e w3 ⟨hB, hb3⟩
     have HI3 : Hid (RI w w3 q4 log k s (.slice ad s.slots.length cap) (.slice ad2 s.ends.length cap2)) := HI2.out.later hb3
     have HC3 : Hid (Cl w3 cq 148 (ctC c (.slice ad7 c.st.slots.length cap7) (.slice ad8 c.st.ends.length cap8))) := HC2.out.later hb3
     have hq3 : cq < w3.heap.size := HC3.out.ty.lt
     clear i0 i1 i2 i3 i4 x0 x1 x2 x3 x4 x5 x6 x7 x8 yi yx hb3 HI2 HC2 HA7
     cases hB with
     | no t slt ent hno hff =>
       obtain ⟨⟨ad5, cap5, rfl⟩, ⟨ad6, cap6, rfl⟩⟩ := hff
       have HS : Hid (Bx.Says true Bx.first log (Px.abs s) (log.extract k log.size) ∧ (k : Int) + ((log.extract k log.size).size : Int) = (log.size : Int)) := HI3.out.stop (stp_one HN.out hno)
       have hR5 := HI3.out.later (below_alloc w3 (pstO t (.slice ad5 t.slots.length cap5) (.slice ad6 t.ends.length cap6)))
       clear hno HI3 HC3
       go_upto_region 8 with fail
       generalize w3.alloc (pstO t (.slice ad5 t.slots.length cap5) (.slice ad6 t.ends.length cap6)) = W4 at *
       have x0 := hR5.c.c 0 _ rfl; have x1 := hR5.c.c 1 _ rfl; have x2 := hR5.c.c 2 _ rfl; have x3 := hR5.c.c 3 _ rfl; have x4 := hR5.c.c 4 _ rfl
       have z0 := hR5.z.c 0 _ rfl; have z1 := hR5.z.c 1 _ rfl; have z2 := hR5.z.c 2 _ rfl; have z3 := hR5.z.c 3 _ rfl; have z4 := hR5.z.c 4 _ rfl
       have f0 := hR5.z.f 0 (by simp); have f1 := hR5.z.f 1 (by simp); have f2 := hR5.z.f 2 (by simp); have f3 := hR5.z.f 3 (by simp); have f4 := hR5.z.f 4 (by simp)
       have yz := hR5.z.ty.lt
       have yx := hR5.c.ty.lt
       have HBl : Hid (Below w.heap.size w W4) := hR5.b
       have HTy : Hid (Typed W4 w.heap.size 65) := hR5.z.ty
       have HAt : Hid (PAt W4 s (.slice ad s.slots.length cap) (.slice ad2 s.ends.length cap2)) := hR5.a
       have HOk : Hid (Px.Ok s) := hR5.ok
       clear hR5
       go_wp2_with fail
       refine bodyPost_ret (v := .tuple #[pstV s (.slice ad s.slots.length cap) (.slice ad2 s.ends.length cap2), .int .i64 k]) (by simp [results, Tryz.results53, go_sem, z0, z1, z2, z3, z4]) rfl ⟨⟨s, _, _, _, _, rfl, HOk.out, HS.out.1, HS.out.2, HAt.out.store HTy.out _ _ _ _ _⟩, below_set5r HBl.out (Nat.le_refl _) _ _ _ _ _⟩
     | yes t slt ent hst hok hat =>
       obtain ⟨ad5, cap5, rfl, _⟩ := hat.sl.form
       obtain ⟨ad6, cap6, rfl, _⟩ := hat.en.form
       obtain ⟨g1, g2⟩ := HI3.out.go HN.out hst
       have HG2 : Hid (∀ S q, Bx.Says (((k + b.size + 6 : Nat) : Int) == 0) (Px.abs t) (log.extract (k + b.size + 6) log.size) S q → Bx.Says true Bx.first log S q) := g2
       have HOk : Hid (Px.Ok t) := hok
       have hb4 := below_alloc w3 (pstO t (.slice ad5 t.slots.length cap5) (.slice ad6 t.ends.length cap6))
       have hR5 := HI3.out.later hb4
       have hC5 := HC3.out.later hb4
       have hA5 := hat.later hb4
       have hI5 := PIn.new w3 t (.slice ad5 t.slots.length cap5) (.slice ad6 t.ends.length cap6)
       have hz5 : w3.heap.size < (w3.alloc (pstO t (.slice ad5 t.slots.length cap5) (.slice ad6 t.ends.length cap6))).heap.size := by simp
       clear hst hok hat g2 hb4 HI3 HC3
       go_upto_region 10 with fail
       generalize w3.alloc (pstO t (.slice ad5 t.slots.length cap5) (.slice ad6 t.ends.length cap6)) = W4 at *
       generalize w3.heap.size = aq at *
       have hqa : q4 < aq := by omega
       have hq5 := hR5.q
       have HA5 : Hid (PAt W4 t (.slice ad5 t.slots.length cap5) (.slice ad6 t.ends.length cap6)) := hA5
       obtain ⟨j0, j1, j2, j3, j4⟩ := hI5
       have i0 := hR5.c.c 0 _ rfl; have i1 := hR5.c.c 1 _ rfl; have i2 := hR5.c.c 2 _ rfl; have i3 := hR5.c.c 3 _ rfl; have i4 := hR5.c.c 4 _ rfl
       have g0 := hR5.c.f 0 (by simp); have g3 := hR5.c.f 1 (by simp); have g4 := hR5.c.f 2 (by simp); have g5 := hR5.c.f 3 (by simp); have g6 := hR5.c.f 4 (by simp)
       have yi := hR5.c.ty.lt
       have x8 := hC5.c 8 _ rfl
       have yx := hC5.ty.lt
       have HR5 : Hid (RI w W4 q4 log k s (.slice ad s.slots.length cap) (.slice ad2 s.ends.length cap2)) := hR5
       have hCs := ((((hR5.c.set 0 (by simp) (.string t.tab)).set 1 (by simp) (.int .i64 t.clock)).set 2 (by simp) (.int .i64 t.next)).set 3 (by simp) (.slice ad5 t.slots.length cap5)).set 4 (by simp) (.slice ad6 t.ends.length cap6)
       have HCs : Hid (Cl (((((W4.setCell ⟨q4, 0, none⟩ (.string t.tab)).setCell ⟨q4, 1, none⟩ (.int .i64 t.clock)).setCell ⟨q4, 2, none⟩ (.int .i64 t.next)).setCell ⟨q4, 3, none⟩ (.slice ad5 t.slots.length cap5)).setCell ⟨q4, 4, none⟩ (.slice ad6 t.ends.length cap6)) q4 65 [.string t.tab, .int .i64 t.clock, .int .i64 t.next, .slice ad5 t.slots.length cap5, .slice ad6 t.ends.length cap6]) := hCs
       have hxc : cq ≠ q4 := by omega
       clear hR5 hA5 hC5 hCs
       have HNx : Hid (RI w (((((W4.setCell ⟨q4, 0, none⟩ (.string t.tab)).setCell ⟨q4, 1, none⟩ (.int .i64 t.clock)).setCell ⟨q4, 2, none⟩ (.int .i64 t.next)).setCell ⟨q4, 3, none⟩ (.slice ad5 t.slots.length cap5)).setCell ⟨q4, 4, none⟩ (.slice ad6 t.ends.length cap6)) q4 log (k + b.size + 6) t (.slice ad5 t.slots.length cap5) (.slice ad6 t.ends.length cap6)) :=
        ⟨g1, HOk.out, HG2.out, HCs.out, HR5.out.z.far5 (by have := HR5.out.q; omega) _ _ _ _ _, HA5.out.store HR5.out.c.ty _ _ _ _ _, below_set5r HR5.out.b (Nat.le_of_lt HR5.out.q) _ _ _ _ _, HR5.out.q⟩
       rw [HZ.out] at x8
       clear HR5 HCs HZ
       go_wp2_with fail
       go_roundw
       case rel => exact ⟨k + b.size + 6, t, _, _, by first | rfl | (go_num) | (congr 1; omega), HNx.out⟩
       case measure => simp [intOf]; omega
  ·have HNo : Hid (¬ ∃ b more t, Bx.Nx (log.extract k log.size) b more ∧ Bx.Stp ((k : Int) == 0) (Px.abs s) b t) := by
    rintro ⟨b, more, t, hN, _⟩
    have h1 := congrArg ByteArray.size hN.1
    rw [ByteArray.size_append, Bx.frame_size] at h1
    simp at h1; omega
   have HS : Hid (Bx.Says true Bx.first log (Px.abs s) (log.extract k log.size) ∧ (k : Int) + ((log.extract k log.size).size : Int) = (log.size : Int)) := HI.out.stop HNo.out
   have hR5 := HI.out
   clear HI HNo
   have x0 := hR5.c.c 0 _ rfl; have x1 := hR5.c.c 1 _ rfl; have x2 := hR5.c.c 2 _ rfl; have x3 := hR5.c.c 3 _ rfl; have x4 := hR5.c.c 4 _ rfl
   have z0 := hR5.z.c 0 _ rfl; have z1 := hR5.z.c 1 _ rfl; have z2 := hR5.z.c 2 _ rfl; have z3 := hR5.z.c 3 _ rfl; have z4 := hR5.z.c 4 _ rfl
   have f0 := hR5.z.f 0 (by simp); have f1 := hR5.z.f 1 (by simp); have f2 := hR5.z.f 2 (by simp); have f3 := hR5.z.f 3 (by simp); have f4 := hR5.z.f 4 (by simp)
   have yz := hR5.z.ty.lt
   have yx := hR5.c.ty.lt
   have HBl : Hid (Below w.heap.size w wr) := hR5.b
   have HTy : Hid (Typed wr w.heap.size 65) := hR5.z.ty
   have HAt : Hid (PAt wr s (.slice ad s.slots.length cap) (.slice ad2 s.ends.length cap2)) := hR5.a
   have HOk : Hid (Px.Ok s) := hR5.ok
   clear hR5
   go_wp2_with fail
   refine bodyPost_ret (v := .tuple #[pstV s (.slice ad s.slots.length cap) (.slice ad2 s.ends.length cap2), .int .i64 k]) (by simp [results, Tryz.results53, go_sem, z0, z1, z2, z3, z4]) rfl ⟨⟨s, _, _, _, _, rfl, HOk.out, HS.out.1, HS.out.2, HAt.out.store HTy.out _ _ _ _ _⟩, below_set5r HBl.out (Nat.le_refl _) _ _ _ _ _⟩
end Go.Proofs.YtdajolpoiffimaaGreatDoor

namespace Go.Proofs.YtdajolpoiffimaaGreatDoor
open Go.RowKit

theorem chk_300 {t : ByteArray} (h : ChkR t 0 0) : t.size ≤ 300 := by
 rcases h with ⟨_, _, h⟩ | ⟨h, _⟩ | ⟨h, _⟩ | ⟨h, _⟩ | ⟨h, _⟩
 ·exact absurd h (by decide)
 all_goals exact h
theorem PB.putS {w : World} {B : Nat} {b : Px.Bo} {sl en : Value} (h : PB w B b sl en) (t : Px.St) (slt ent : Value) (ht : PAt w t slt ent) :
 PB (((((w.setCell ⟨B, 2, none⟩ (.string t.tab)).setCell ⟨B, 3, none⟩ (.int .i64 t.clock)).setCell ⟨B, 4, none⟩ (.int .i64 t.next)).setCell ⟨B, 5, none⟩ slt).setCell ⟨B, 6, none⟩ ent) B { b with st := t } slt ent := by
 obtain ⟨c0, c1, c2, c3, c4, c5, c6, c7, f, ty, _⟩ := h
 have st : ∀ (w : World) (j : Nat) (x : Value), (Typed w B 67 ∧ PAt w t slt ent) → (Typed (w.setCell ⟨B, j, none⟩ x) B 67 ∧ PAt (w.setCell ⟨B, j, none⟩ x) t slt ent) := fun w j x h => ⟨h.1.setCell _ _ _, h.2.set h.1 (by decide) (by decide) _ _⟩
 have hs := st _ 6 ent (st _ 5 slt (st _ 4 (.int .i64 t.next) (st _ 3 (.int .i64 t.clock) (st _ 2 (.string t.tab) ⟨ty, ht⟩))))
 refine ⟨?_, ?_, ?_, ?_, ?_, ?_, ?_, ?_, fun j hj => ?_, hs.1, hs.2⟩
 case refine_9 => simp [go_sem, f j hj]
 all_goals simp [go_sem, c0, c1, c2, c3, c4, c5, c6, c7]
theorem PB.putL {w : World} {B : Nat} {b : Px.Bo} {sl en : Value} (h : PB w B b sl en) (log : ByteArray) : PB (w.setCell ⟨B, 7, none⟩ (.string log)) B { b with log := log } sl en := by
 obtain ⟨c0, c1, c2, c3, c4, c5, c6, c7, f, ty, ht⟩ := h
 refine ⟨?_, ?_, ?_, ?_, ?_, ?_, ?_, ?_, fun j hj => ?_, ty.setCell _ _ _, ht.set ty (by decide) (by decide) _ _⟩
 case refine_9 => simp [go_sem, f j hj]
 all_goals simp [go_sem, c0, c1, c2, c3, c4, c5, c6, c7]
theorem below_set5q {n q : Nat} {w w' : World} (h : Below n w w') (hq : n ≤ q) (u0 u1 u2 u3 u4 : Value) : Below n w (((((w'.setCell ⟨q, 2, none⟩ u0).setCell ⟨q, 3, none⟩ u1).setCell ⟨q, 4, none⟩ u2).setCell ⟨q, 5, none⟩ u3).setCell ⟨q, 6, none⟩ u4) :=
 ((((h.setCell hq _).setCell hq _).setCell hq _).setCell hq _).setCell hq _
/-- What Open answers. -/
def OpR (l r : Int) (log : ByteArray) (w w' : World) (e : Ending) : Prop := ∃ (s : Px.St) (q : ByteArray) (n : Int) (B : Nat), e = .returned (.tuple #[.pointer (some ⟨B, 0, none⟩), .int .i64 n, .int .i64 0]) ∧ Bx.Says true Bx.first log (Px.abs s) q ∧ n + (q.size : Int) = (log.size : Int) ∧ KB w w' B (Px.openB l r s)
set_option maxHeartbeats 1000000 in
theorem popen_no (l r : Int) (log : ByteArray) (w : World) (h : mayB l r = false) : Calls Tryz.prog 19 #[.int .i64 l, .int .i64 r, .string log] w fun e w' => e = .returned (.tuple #[.pointer none, .int .i64 0, .int .i64 4]) ∧ w' = w := by
 have H : Hid (mayB l r = false) := h
 clear h
 go_enter Tryz.func19, Tryz.ntmps19
 go_wp2_with fail
 refine (pnew_no l r _ H.out).mono ?_
 rintro e w1 ⟨rfl, h2⟩
 have h3 := h2.symm
 subst h3
 go_wp2_with fail
 refine bodyPost_ret (v := .tuple #[.pointer none, .int .i64 0, .int .i64 4]) (by simp [results, Tryz.results19]) rfl ?_
 exact ⟨rfl, rfl⟩
set_option maxHeartbeats 1000000 in
theorem popen_long (l r : Int) (log : ByteArray) (w : World) (h : mayB l r = true) (hl : 4000 < log.size) : Calls Tryz.prog 19 #[.int .i64 l, .int .i64 r, .string log] w fun e w' => e = .returned (.tuple #[.pointer none, .int .i64 0, .int .i64 1]) ∧ Below w.heap.size w w' := by
 have H : Hid (mayB l r = true) := h
 clear h
 go_enter Tryz.func19, Tryz.ntmps19
 go_wp2_with fail
 refine (pnew_yes l r _ H.out).mono ?_
 rintro e w1 ⟨⟨B, rfl, _, hP⟩, hb⟩
 have HB : Hid (Below w.heap.size w w1) := hb
 clear hP hb
 have h4 : (4000 : Int) < (log.size : Int) := by omega
 go_wp2_with fail
 refine bodyPost_ret (v := .tuple #[.pointer none, .int .i64 0, .int .i64 1]) (by simp [results, Tryz.results19]) rfl ?_
 exact ⟨rfl, HB.out⟩
set_option maxRecDepth 10000 in
set_option maxHeartbeats 4000000 in
theorem popen_yes (l r : Int) (log : ByteArray) (w : World) (h : mayB l r = true) (hl : log.size ≤ 4000) (hT : TT w) : Calls Tryz.prog 19 #[.int .i64 l, .int .i64 r, .string log] w fun e w' => OpR l r log w w' e := by
 have H : Hid (mayB l r = true) := h
 have HT : Hid (TT w) := hT
 clear h hT
 go_enter Tryz.func19, Tryz.ntmps19
 go_wp2_with fail
 refine (pnew_yes l r _ H.out).mono ?_
 rintro e w1 ⟨⟨B, rfl, hB, hP⟩, hb⟩
 have HP : Hid (PB w1 B ⟨l, r, Px.first, ByteArray.empty⟩ (.slice none 0 0) (.slice none 0 0)) := hP
 have HB : Hid (Below w.heap.size w w1) := hb
 have hlt1 := hP.ty.lt
 have HT1 : Hid (TT w1) := HT.out.later hb
 clear hP hb
 have h4 : ¬ (4000 : Int) < (log.size : Int) := by omega
 go_wp2_with fail
 refine (pread_any log w1 (by omega) HT1.out.lh HT1.out.mo).mono ?_
 rintro e w2 ⟨⟨s, sl, en, q, n, rfl, hok, hsay, hn, hA⟩, hb⟩
 have HS : Hid (Px.Ok s ∧ Bx.Says true Bx.first log (Px.abs s) q ∧ n + (q.size : Int) = (log.size : Int)) := ⟨hok, hsay, hn⟩
 have hlen := hok.len
 have hm : Bx.MayS (Px.abs s) := Bx.says_may hsay Bx.first_may
 have hmi : Bx.MayS (Px.abs (Px.intP s)) := by rw [Px.int_abs]; exact hm.int
 have HF : Hid (Bx.StFit (Px.abs (Px.intP s))) := hmi.fit
 have HTz : Hid ((Px.intP s).tab.size ≤ 1000) := Nat.le_trans (chk_300 hmi.tab) (by decide)
 obtain ⟨ad, cap, rfl, hcap⟩ := hA.sl.form
 obtain ⟨ad2, cap2, rfl, hcap2⟩ := hA.en.form
 have hb2 := hb.trans ((below_alloc w2 (pstO s (.slice ad s.slots.length cap) (.slice ad2 s.ends.length cap2))).mono hb.size)
 have hI := PIn.new w2 s (.slice ad s.slots.length cap) (.slice ad2 s.ends.length cap2)
 have hA2 := hA.later (below_alloc w2 (pstO s (.slice ad s.slots.length cap) (.slice ad2 s.ends.length cap2)))
 have hsz := hb.size
 clear hok hsay hn hm hmi hA hb
 go_upto_region 7 with fail
 generalize w2.alloc (pstO s (.slice ad s.slots.length cap) (.slice ad2 s.ends.length cap2)) = W at *
 generalize w2.heap.size = xq at *
 have HA2 : Hid (PAt W s (.slice ad s.slots.length cap) (.slice ad2 s.ends.length cap2)) := hA2
 have HP2 : Hid (PB W B ⟨l, r, Px.first, ByteArray.empty⟩ (.slice none 0 0) (.slice none 0 0)) := HP.out.later hb2
 have HB2 : Hid (Below w.heap.size w W) := HB.out.trans (hb2.mono HB.out.size)
 obtain ⟨i0, i1, i2, i3, i4⟩ := hI
 clear hA2 hb2 HP HB HT1 HT
 go_wp2_with fail
 refine (pint_any s _ _ _ (by omega) HA2.out).mono ?_
 rintro e w3 ⟨⟨slt, ent, rfl, hA3⟩, hb3⟩
 obtain ⟨ad3, cap3, rfl, hcap3⟩ := hA3.sl.form
 obtain ⟨ad4, cap4, rfl, hcap4⟩ := hA3.en.form
 have hP3 := HP2.out.later hb3
 have HP4 := hP3.putS (Px.intP s) _ _ hA3
 have HG4 : Hid (Below w.heap.size w _) := below_set5q (HB2.out.trans (hb3.mono HB2.out.size)) hB (.string (Px.intP s).tab) (.int .i64 (Px.intP s).clock) (.int .i64 (Px.intP s).next) (.slice ad3 (Px.intP s).slots.length cap3) (.slice ad4 (Px.intP s).ends.length cap4)
 have c2 := hP3.c2; have c3 := hP3.c3; have c4 := hP3.c4; have c5 := hP3.c5; have c6 := hP3.c6
 have f2 := hP3.f 2 (by decide); have f3 := hP3.f 3 (by decide); have f4 := hP3.f 4 (by decide); have f5 := hP3.f 5 (by decide); have f6 := hP3.f 6 (by decide)
 have hlt3 := hP3.ty.lt
 have HO : Hid (Px.openB l r s = ⟨l, r, Px.intP s, Bx.frame (Bx.wholeS (Px.abs (Px.intP s)))⟩) := rfl
 clear i0 i1 i2 i3 i4 hA3 hb3 hP3 HP2 HB2 HA2
 generalize Px.intP s = t at *
 go_upto_region 8 with fail
 clear c2 c3 c4 c5 c6 f2 f3 f4 f5 f6
 generalize ((((w3.setCell ⟨B, 2, none⟩ (.string t.tab)).setCell ⟨B, 3, none⟩ (.int .i64 t.clock)).setCell ⟨B, 4, none⟩ (.int .i64 t.next)).setCell ⟨B, 5, none⟩ (.slice ad3 t.slots.length cap3)).setCell ⟨B, 6, none⟩ (.slice ad4 t.ends.length cap4) = W4 at *
 have HP4' : Hid (PB W4 B ⟨l, r, t, ByteArray.empty⟩ (.slice ad3 t.slots.length cap3) (.slice ad4 t.ends.length cap4)) := HP4
 have c2 := HP4.c2; have c3 := HP4.c3; have c4 := HP4.c4; have c5 := HP4.c5; have c6 := HP4.c6
 have hlt4 := HP4.ty.lt
 clear HP4
 go_wp2_with fail
 refine (pwhole_any t _ _ _ HF.out HTz.out HP4'.out.rows).mono ?_
 rintro e w5 ⟨rfl, hb5⟩
 have hP5 := HP4'.out.later hb5
 have hX : Hid (PB (w5.setCell ⟨B, 7, none⟩ (.string (Bx.frame (Bx.wholeS (Px.abs t))))) B ⟨l, r, t, Bx.frame (Bx.wholeS (Px.abs t))⟩ (.slice ad3 t.slots.length cap3) (.slice ad4 t.ends.length cap4)) := hP5.putL _
 have hG : Hid (Below w.heap.size w (w5.setCell ⟨B, 7, none⟩ (.string (Bx.frame (Bx.wholeS (Px.abs t)))))) := (HG4.out.trans (hb5.mono HG4.out.size)).setCell hB _
 have c7 := hP5.c7
 have f7 := hP5.f 7 (by decide)
 have hlt5 := hP5.ty.lt
 clear c2 c3 c4 c5 c6 hP5 hb5 HP4' HG4
 go_wp2_with fail
 refine bodyPost_ret (v := .tuple #[.pointer (some ⟨B, 0, none⟩), .int .i64 n, .int .i64 0]) (by simp [results, Tryz.results19]) rfl ?_
 exact ⟨s, q, n, B, rfl, HS.out.2.1, HS.out.2.2, hB, hG.out, _, _, by rw [HO.out]; exact hX.out⟩
end Go.Proofs.YtdajolpoiffimaaGreatDoor
