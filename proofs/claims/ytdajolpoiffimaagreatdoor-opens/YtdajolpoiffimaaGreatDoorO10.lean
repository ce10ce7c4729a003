/-
  PrgBodyM, PrgBodyN, PrgBodyZ, PrgStart, PrgHear, PrgGo, PrgTalk, PrgWhole, PrgXa, TabDue, TabChkTop, PrgClock, PrgLate, PrgArr, PrgLoad, PrgCancel.
-/
import Derived.Deep.Cut
import Derived.Deep.RegionHeld3
import Derived.Deep.DrawnRows
import Derived.Test.YtdajolpoiffimaaGreatDoorO1
import Derived.Test.YtdajolpoiffimaaGreatDoorO2
import Derived.Test.YtdajolpoiffimaaGreatDoorO6
import Derived.Test.YtdajolpoiffimaaGreatDoorO7
import Derived.Test.YtdajolpoiffimaaGreatDoorO8
import Derived.Test.YtdajolpoiffimaaGreatDoorO9

namespace Go.Proofs.YtdajolpoiffimaaGreatDoor
open Go.RowKit

set_option maxRecDepth 10000 in
set_option maxHeartbeats 4000000 in
theorem readBody_N70 (b : ByteArray) (k : Int) (w : World) (hb : b.size ≤ 100000) (h0 : 0 ≤ k) (h1 : k < 256) (hk : k = 70) (ht : Bx.txtP 1 ⟨b, false⟩ = (Bx.b1 k, ⟨b.extract 1 b.size, false⟩)) (he : b = Bx.b1 k ++ b.extract 1 b.size) :
 Calls Tryz.prog 145 #[.string b] w fun e w' => BodyR b w' e ∧ Below w.heap.size w w' := by
 have HT : Hid (Bx.txtP 1 ⟨b, false⟩ = (Bx.b1 k, ⟨b.extract 1 b.size, false⟩)) := ht
 have HE : Hid (b = Bx.b1 k ++ b.extract 1 b.size) := he
 have hsz : (b.extract 1 b.size).size ≤ 100000 := by simp; omega
 have e84 : ((Bx.b1 k).toList == [84]) = false := lit_ne (l := [84]) (fun q => by have := (b1_lit k h0 h1 84).1 q; simp at this; omega)
 have e67 : ((Bx.b1 k).toList == [67]) = false := lit_ne (l := [67]) (fun q => by have := (b1_lit k h0 h1 67).1 q; simp at this; omega)
 have e83 : ((Bx.b1 k).toList == [83]) = false := lit_ne (l := [83]) (fun q => by have := (b1_lit k h0 h1 83).1 q; simp at this; omega)
 have e68 : ((Bx.b1 k).toList == [68]) = false := lit_ne (l := [68]) (fun q => by have := (b1_lit k h0 h1 68).1 q; simp at this; omega)
 have e70 : ((Bx.b1 k).toList == [70]) = true := lit_eq ((b1_lit k h0 h1 70).2 (by rw [hk]; rfl))
 have e75 : ((Bx.b1 k).toList == [75]) = false := lit_ne (l := [75]) (fun q => by have := (b1_lit k h0 h1 75).1 q; simp at this; omega)
 have e90 : ((Bx.b1 k).toList == [90]) = false := lit_ne (l := [90]) (fun q => by have := (b1_lit k h0 h1 90).1 q; simp at this; omega)
 have HKd : Hid (∀ kd, kd = Bx.b1 k → kd = Bx.b1 k) := fun _ h => h
 generalize hkd : Bx.b1 k = kd at *
 have HKD : Hid (Bx.b1 k = kd) := hkd
 generalize hr : b.extract 1 b.size = r at *
 have HRr : Hid (b.extract 1 b.size = r) := hr
 clear hkd hr ht he HKd
 have hN := RB.new w b
 go_enter Tryz.func145, Tryz.ntmps145
 go_upto_region 3 with fail
 have hN' : RB w (((w.alloc (.cells #[.string { data := #[] }, .string { data := #[] }, .int .i64 0, .string { data := #[] }, .int .i64 0, .int .i64 0, .slice none 0 0, .slice none 0 0, .int .i64 0] 148)).alloc (.cells #[.string b, .bool false] 213)).alloc (.cells #[.string { data := #[] }, .string { data := #[] }, .int .i64 0, .string { data := #[] }, .int .i64 0, .int .i64 0, .slice none 0 0, .slice none 0 0, .int .i64 0] 148)) ⟨b, false⟩ (ctC ct0 nilS nilS) := hN
 clear hN
 generalize ((w.alloc (.cells #[.string { data := #[] }, .string { data := #[] }, .int .i64 0, .string { data := #[] }, .int .i64 0, .int .i64 0, .slice none 0 0, .slice none 0 0, .int .i64 0] 148)).alloc (.cells #[.string b, .bool false] 213)).alloc (.cells #[.string { data := #[] }, .string { data := #[] }, .int .i64 0, .string { data := #[] }, .int .i64 0, .int .i64 0, .slice none 0 0, .slice none 0 0, .int .i64 0] 148) = W at *
 have HN0 : Hid (RB w W ⟨b, false⟩ (ctC ct0 nilS nilS)) := hN'
 clear hN'
 go_wp2_with fail
 refine (ptext_any ⟨b, false⟩ (w.heap.size + 1) 1 _ hb HN0.out.p).mono ?_
 rintro ex w1 ⟨rfl, hp1, hg1⟩
 rw [HT.out] at hp1 ⊢
 simp only at hp1
 have hR1 := HN0.out.call hp1 hg1
 have s0 := hR1.c.c 0 _ rfl
 have t0 := hR1.c.f 0 (by simp)
 have y0 := hR1.c.ty.lt
 have hT1 := hR1.put 0 (.string kd) (by simp)
 clear hp1 hg1 hR1 HN0
 go_upto_region 4 with fail
 clear s0 t0 y0
 generalize w1.setCell ⟨w.heap.size + 2, 0, none⟩ (.string kd) = W1 at *
 have HR1 : Hid (RB w W1 ⟨r, false⟩ ((ctC ct0 nilS nilS).set 0 (.string kd))) := hT1
 have k0 := hT1.c.c 0 _ rfl
 have yk := hT1.c.ty.lt
 have pc0 := hT1.p.c0
 have yp := hT1.p.ty.lt
 clear hT1
 obtain ⟨n, q, hnq⟩ : ∃ n q, Bx.numP 2 ⟨r, false⟩ = (n, q) := ⟨_, _, pr_eta _⟩
 have HA : Hid (Bx.numP 2 ⟨r, false⟩ = (n, q)) := hnq
 clear hnq
 go_wp2_with fail
 refine (pnumber_any ⟨r, false⟩ (w.heap.size + 1) 2 _ _ rfl (by decide) hsz HR1.out.p).mono ?_
 rintro ex w2 ⟨rfl, hp1, hg1⟩
 rw [HA.out] at hp1 ⊢
 simp only at hp1
 have hR2 := HR1.out.call hp1 hg1
 have s0 := hR2.c.c 2 _ rfl
 have t0 := hR2.c.f 2 (by simp)
 have y0 := hR2.c.ty.lt
 have hT3 := hR2.put 2 (.int .i64 n) (by simp)
 clear hp1 hg1 hR2 HR1 k0 yk pc0 yp
 go_upto_region 18 with fail
 clear s0 t0 y0
 generalize w2.setCell ⟨w.heap.size + 2, 2, none⟩ (.int .i64 n) = W3 at *
 have HR3 : Hid (RB w W3 q (((ctC ct0 nilS nilS).set 0 (.string kd)).set 2 (.int .i64 n))) := hT3
 clear hT3
 go_wp2_with fail
 refine (pright_any q (w.heap.size + 1) _ HR3.out.p).mono ?_
 rintro ex w4 ⟨rfl, rfl⟩
 have hR := HR3.out
 have x0 := hR.c.c 0 _ rfl; have x1 := hR.c.c 1 _ rfl; have x2 := hR.c.c 2 _ rfl; have x3 := hR.c.c 3 _ rfl; have x4 := hR.c.c 4 _ rfl; have x5 := hR.c.c 5 _ rfl; have x6 := hR.c.c 6 _ rfl; have x7 := hR.c.c 7 _ rfl; have x8 := hR.c.c 8 _ rfl
 have z0 := hR.z.c 0 _ rfl; have z1 := hR.z.c 1 _ rfl; have z2 := hR.z.c 2 _ rfl; have z3 := hR.z.c 3 _ rfl; have z4 := hR.z.c 4 _ rfl; have z5 := hR.z.c 5 _ rfl; have z6 := hR.z.c 6 _ rfl; have z7 := hR.z.c 7 _ rfl; have z8 := hR.z.c 8 _ rfl
 have f0 := hR.z.f 0 (by simp); have f1 := hR.z.f 1 (by simp); have f2 := hR.z.f 2 (by simp); have f3 := hR.z.f 3 (by simp); have f4 := hR.z.f 4 (by simp); have f5 := hR.z.f 5 (by simp); have f6 := hR.z.f 6 (by simp); have f7 := hR.z.f 7 (by simp); have f8 := hR.z.f 8 (by simp)
 have yz := hR.z.ty.lt
 have yx := hR.c.ty.lt
 clear hR
 cases hw : (!q.wrong && q.rest.toList.isEmpty)
 ·have hno : ¬ (q.wrong = false ∧ q.rest = ByteArray.empty) := by
   rintro ⟨a1, a2⟩
   rw [a1, (isEmpty_iff _).2 a2] at hw; cases hw
  have HF : Hid ((¬ ∃ h, Bx.IsCh b h) ∧ ¬ ∃ s, Bx.StFit s ∧ Bx.wholeS s = b) := by
   refine ⟨?_, ?_⟩
   ·rw [HE.out, ← HKD.out, hk]; exact Bx.body_N_no (by decide) HA.out hno
   ·rintro ⟨s, _, e⟩
    rw [HE.out, ← HKD.out] at e
    exact Bx.whole_no ⟨h0, h1⟩ (by omega) ⟨s, e⟩
  clear hw hno
  go_wp2_with fail
  refine bodyPost_ret (v := .tuple #[ctV ⟨kd, ByteArray.empty, n, Px.st0, 0⟩ nilS nilS, .bool false]) (by simp [results, Tryz.results145, go_sem, z0, z1, z2, z3, z4, z5, z6, z7, z8, ct0, Px.st0]) rfl ⟨BodyR.no _ _ _ HF.out.1 HF.out.2 ⟨⟨none, 0, rfl⟩, ⟨none, 0, rfl⟩⟩, below_set9 HR3.out.b (Nat.le_refl _) _ _ _ _ _ _ _ _ _⟩
 ·have hyes : q.wrong = false ∧ q.rest = ByteArray.empty := by
   simp only [Bool.and_eq_true, Bool.not_eq_true'] at hw
   exact ⟨hw.1, (isEmpty_iff _).1 hw.2⟩
  have HF : Hid (IsC b ⟨kd, ByteArray.empty, n, Px.st0, 0⟩) := by
   refine ⟨⟨k, ByteArray.empty, n⟩, ?_, HKD.out.symm, rfl, rfl⟩
   rw [HE.out, ← HKD.out]; exact Bx.body_N_yes (by omega) HA.out hyes.1 hyes.2
  clear hw hyes
  go_wp2_with fail
  refine bodyPost_ret (v := .tuple #[ctV ⟨kd, ByteArray.empty, n, Px.st0, 0⟩ nilS nilS, .bool true]) (by simp [results, Tryz.results145, go_sem, z0, z1, z2, z3, z4, z5, z6, z7, z8, ct0, Px.st0]) rfl ⟨BodyR.ch _ HF.out rfl rfl, below_set9 HR3.out.b (Nat.le_refl _) _ _ _ _ _ _ _ _ _⟩

set_option maxRecDepth 10000 in
set_option maxHeartbeats 4000000 in
theorem readBody_N75 (b : ByteArray) (k : Int) (w : World) (hb : b.size ≤ 100000) (h0 : 0 ≤ k) (h1 : k < 256) (hk : k = 75) (ht : Bx.txtP 1 ⟨b, false⟩ = (Bx.b1 k, ⟨b.extract 1 b.size, false⟩)) (he : b = Bx.b1 k ++ b.extract 1 b.size) :
 Calls Tryz.prog 145 #[.string b] w fun e w' => BodyR b w' e ∧ Below w.heap.size w w' := by
 have HT : Hid (Bx.txtP 1 ⟨b, false⟩ = (Bx.b1 k, ⟨b.extract 1 b.size, false⟩)) := ht
 have HE : Hid (b = Bx.b1 k ++ b.extract 1 b.size) := he
 have hsz : (b.extract 1 b.size).size ≤ 100000 := by simp; omega
 have e84 : ((Bx.b1 k).toList == [84]) = false := lit_ne (l := [84]) (fun q => by have := (b1_lit k h0 h1 84).1 q; simp at this; omega)
 have e67 : ((Bx.b1 k).toList == [67]) = false := lit_ne (l := [67]) (fun q => by have := (b1_lit k h0 h1 67).1 q; simp at this; omega)
 have e83 : ((Bx.b1 k).toList == [83]) = false := lit_ne (l := [83]) (fun q => by have := (b1_lit k h0 h1 83).1 q; simp at this; omega)
 have e68 : ((Bx.b1 k).toList == [68]) = false := lit_ne (l := [68]) (fun q => by have := (b1_lit k h0 h1 68).1 q; simp at this; omega)
 have e70 : ((Bx.b1 k).toList == [70]) = false := lit_ne (l := [70]) (fun q => by have := (b1_lit k h0 h1 70).1 q; simp at this; omega)
 have e75 : ((Bx.b1 k).toList == [75]) = true := lit_eq ((b1_lit k h0 h1 75).2 (by rw [hk]; rfl))
 have e90 : ((Bx.b1 k).toList == [90]) = false := lit_ne (l := [90]) (fun q => by have := (b1_lit k h0 h1 90).1 q; simp at this; omega)
 have HKd : Hid (∀ kd, kd = Bx.b1 k → kd = Bx.b1 k) := fun _ h => h
 generalize hkd : Bx.b1 k = kd at *
 have HKD : Hid (Bx.b1 k = kd) := hkd
 generalize hr : b.extract 1 b.size = r at *
 have HRr : Hid (b.extract 1 b.size = r) := hr
 clear hkd hr ht he HKd
 have hN := RB.new w b
 go_enter Tryz.func145, Tryz.ntmps145
 go_upto_region 3 with fail
 have hN' : RB w (((w.alloc (.cells #[.string { data := #[] }, .string { data := #[] }, .int .i64 0, .string { data := #[] }, .int .i64 0, .int .i64 0, .slice none 0 0, .slice none 0 0, .int .i64 0] 148)).alloc (.cells #[.string b, .bool false] 213)).alloc (.cells #[.string { data := #[] }, .string { data := #[] }, .int .i64 0, .string { data := #[] }, .int .i64 0, .int .i64 0, .slice none 0 0, .slice none 0 0, .int .i64 0] 148)) ⟨b, false⟩ (ctC ct0 nilS nilS) := hN
 clear hN
 generalize ((w.alloc (.cells #[.string { data := #[] }, .string { data := #[] }, .int .i64 0, .string { data := #[] }, .int .i64 0, .int .i64 0, .slice none 0 0, .slice none 0 0, .int .i64 0] 148)).alloc (.cells #[.string b, .bool false] 213)).alloc (.cells #[.string { data := #[] }, .string { data := #[] }, .int .i64 0, .string { data := #[] }, .int .i64 0, .int .i64 0, .slice none 0 0, .slice none 0 0, .int .i64 0] 148) = W at *
 have HN0 : Hid (RB w W ⟨b, false⟩ (ctC ct0 nilS nilS)) := hN'
 clear hN'
 go_wp2_with fail
 refine (ptext_any ⟨b, false⟩ (w.heap.size + 1) 1 _ hb HN0.out.p).mono ?_
 rintro ex w1 ⟨rfl, hp1, hg1⟩
 rw [HT.out] at hp1 ⊢
 simp only at hp1
 have hR1 := HN0.out.call hp1 hg1
 have s0 := hR1.c.c 0 _ rfl
 have t0 := hR1.c.f 0 (by simp)
 have y0 := hR1.c.ty.lt
 have hT1 := hR1.put 0 (.string kd) (by simp)
 clear hp1 hg1 hR1 HN0
 go_upto_region 4 with fail
 clear s0 t0 y0
 generalize w1.setCell ⟨w.heap.size + 2, 0, none⟩ (.string kd) = W1 at *
 have HR1 : Hid (RB w W1 ⟨r, false⟩ ((ctC ct0 nilS nilS).set 0 (.string kd))) := hT1
 have k0 := hT1.c.c 0 _ rfl
 have yk := hT1.c.ty.lt
 have pc0 := hT1.p.c0
 have yp := hT1.p.ty.lt
 clear hT1
 obtain ⟨n, q, hnq⟩ : ∃ n q, Bx.numP 2 ⟨r, false⟩ = (n, q) := ⟨_, _, pr_eta _⟩
 have HA : Hid (Bx.numP 2 ⟨r, false⟩ = (n, q)) := hnq
 clear hnq
 go_wp2_with fail
 refine (pnumber_any ⟨r, false⟩ (w.heap.size + 1) 2 _ _ rfl (by decide) hsz HR1.out.p).mono ?_
 rintro ex w2 ⟨rfl, hp1, hg1⟩
 rw [HA.out] at hp1 ⊢
 simp only at hp1
 have hR2 := HR1.out.call hp1 hg1
 have s0 := hR2.c.c 2 _ rfl
 have t0 := hR2.c.f 2 (by simp)
 have y0 := hR2.c.ty.lt
 have hT3 := hR2.put 2 (.int .i64 n) (by simp)
 clear hp1 hg1 hR2 HR1 k0 yk pc0 yp
 go_upto_region 18 with fail
 clear s0 t0 y0
 generalize w2.setCell ⟨w.heap.size + 2, 2, none⟩ (.int .i64 n) = W3 at *
 have HR3 : Hid (RB w W3 q (((ctC ct0 nilS nilS).set 0 (.string kd)).set 2 (.int .i64 n))) := hT3
 clear hT3
 go_wp2_with fail
 refine (pright_any q (w.heap.size + 1) _ HR3.out.p).mono ?_
 rintro ex w4 ⟨rfl, rfl⟩
 have hR := HR3.out
 have x0 := hR.c.c 0 _ rfl; have x1 := hR.c.c 1 _ rfl; have x2 := hR.c.c 2 _ rfl; have x3 := hR.c.c 3 _ rfl; have x4 := hR.c.c 4 _ rfl; have x5 := hR.c.c 5 _ rfl; have x6 := hR.c.c 6 _ rfl; have x7 := hR.c.c 7 _ rfl; have x8 := hR.c.c 8 _ rfl
 have z0 := hR.z.c 0 _ rfl; have z1 := hR.z.c 1 _ rfl; have z2 := hR.z.c 2 _ rfl; have z3 := hR.z.c 3 _ rfl; have z4 := hR.z.c 4 _ rfl; have z5 := hR.z.c 5 _ rfl; have z6 := hR.z.c 6 _ rfl; have z7 := hR.z.c 7 _ rfl; have z8 := hR.z.c 8 _ rfl
 have f0 := hR.z.f 0 (by simp); have f1 := hR.z.f 1 (by simp); have f2 := hR.z.f 2 (by simp); have f3 := hR.z.f 3 (by simp); have f4 := hR.z.f 4 (by simp); have f5 := hR.z.f 5 (by simp); have f6 := hR.z.f 6 (by simp); have f7 := hR.z.f 7 (by simp); have f8 := hR.z.f 8 (by simp)
 have yz := hR.z.ty.lt
 have yx := hR.c.ty.lt
 clear hR
 cases hw : (!q.wrong && q.rest.toList.isEmpty)
 ·have hno : ¬ (q.wrong = false ∧ q.rest = ByteArray.empty) := by
   rintro ⟨a1, a2⟩
   rw [a1, (isEmpty_iff _).2 a2] at hw; cases hw
  have HF : Hid ((¬ ∃ h, Bx.IsCh b h) ∧ ¬ ∃ s, Bx.StFit s ∧ Bx.wholeS s = b) := by
   refine ⟨?_, ?_⟩
   ·rw [HE.out, ← HKD.out, hk]; exact Bx.body_N_no (by decide) HA.out hno
   ·rintro ⟨s, _, e⟩
    rw [HE.out, ← HKD.out] at e
    exact Bx.whole_no ⟨h0, h1⟩ (by omega) ⟨s, e⟩
  clear hw hno
  go_wp2_with fail
  refine bodyPost_ret (v := .tuple #[ctV ⟨kd, ByteArray.empty, n, Px.st0, 0⟩ nilS nilS, .bool false]) (by simp [results, Tryz.results145, go_sem, z0, z1, z2, z3, z4, z5, z6, z7, z8, ct0, Px.st0]) rfl ⟨BodyR.no _ _ _ HF.out.1 HF.out.2 ⟨⟨none, 0, rfl⟩, ⟨none, 0, rfl⟩⟩, below_set9 HR3.out.b (Nat.le_refl _) _ _ _ _ _ _ _ _ _⟩
 ·have hyes : q.wrong = false ∧ q.rest = ByteArray.empty := by
   simp only [Bool.and_eq_true, Bool.not_eq_true'] at hw
   exact ⟨hw.1, (isEmpty_iff _).1 hw.2⟩
  have HF : Hid (IsC b ⟨kd, ByteArray.empty, n, Px.st0, 0⟩) := by
   refine ⟨⟨k, ByteArray.empty, n⟩, ?_, HKD.out.symm, rfl, rfl⟩
   rw [HE.out, ← HKD.out]; exact Bx.body_N_yes (by omega) HA.out hyes.1 hyes.2
  clear hw hyes
  go_wp2_with fail
  refine bodyPost_ret (v := .tuple #[ctV ⟨kd, ByteArray.empty, n, Px.st0, 0⟩ nilS nilS, .bool true]) (by simp [results, Tryz.results145, go_sem, z0, z1, z2, z3, z4, z5, z6, z7, z8, ct0, Px.st0]) rfl ⟨BodyR.ch _ HF.out rfl rfl, below_set9 HR3.out.b (Nat.le_refl _) _ _ _ _ _ _ _ _ _⟩

end Go.Proofs.YtdajolpoiffimaaGreatDoor

namespace Go.Proofs.YtdajolpoiffimaaGreatDoor
open Go.RowKit

set_option maxRecDepth 10000 in
set_option maxHeartbeats 4000000 in
theorem readBody_N83 (b : ByteArray) (k : Int) (w : World) (hb : b.size ≤ 100000) (h0 : 0 ≤ k) (h1 : k < 256) (hk : k = 83) (ht : Bx.txtP 1 ⟨b, false⟩ = (Bx.b1 k, ⟨b.extract 1 b.size, false⟩)) (he : b = Bx.b1 k ++ b.extract 1 b.size) :
 Calls Tryz.prog 145 #[.string b] w fun e w' => BodyR b w' e ∧ Below w.heap.size w w' := by
 have HT : Hid (Bx.txtP 1 ⟨b, false⟩ = (Bx.b1 k, ⟨b.extract 1 b.size, false⟩)) := ht
 have HE : Hid (b = Bx.b1 k ++ b.extract 1 b.size) := he
 have hsz : (b.extract 1 b.size).size ≤ 100000 := by simp; omega
 have e84 : ((Bx.b1 k).toList == [84]) = false := lit_ne (l := [84]) (fun q => by have := (b1_lit k h0 h1 84).1 q; simp at this; omega)
 have e67 : ((Bx.b1 k).toList == [67]) = false := lit_ne (l := [67]) (fun q => by have := (b1_lit k h0 h1 67).1 q; simp at this; omega)
 have e83 : ((Bx.b1 k).toList == [83]) = true := lit_eq ((b1_lit k h0 h1 83).2 (by rw [hk]; rfl))
 have e68 : ((Bx.b1 k).toList == [68]) = false := lit_ne (l := [68]) (fun q => by have := (b1_lit k h0 h1 68).1 q; simp at this; omega)
 have e70 : ((Bx.b1 k).toList == [70]) = false := lit_ne (l := [70]) (fun q => by have := (b1_lit k h0 h1 70).1 q; simp at this; omega)
 have e75 : ((Bx.b1 k).toList == [75]) = false := lit_ne (l := [75]) (fun q => by have := (b1_lit k h0 h1 75).1 q; simp at this; omega)
 have e90 : ((Bx.b1 k).toList == [90]) = false := lit_ne (l := [90]) (fun q => by have := (b1_lit k h0 h1 90).1 q; simp at this; omega)
 have HKd : Hid (∀ kd, kd = Bx.b1 k → kd = Bx.b1 k) := fun _ h => h
 generalize hkd : Bx.b1 k = kd at *
 have HKD : Hid (Bx.b1 k = kd) := hkd
 generalize hr : b.extract 1 b.size = r at *
 have HRr : Hid (b.extract 1 b.size = r) := hr
 clear hkd hr ht he HKd
 have hN := RB.new w b
 go_enter Tryz.func145, Tryz.ntmps145
 go_upto_region 3 with fail
 have hN' : RB w (((w.alloc (.cells #[.string { data := #[] }, .string { data := #[] }, .int .i64 0, .string { data := #[] }, .int .i64 0, .int .i64 0, .slice none 0 0, .slice none 0 0, .int .i64 0] 148)).alloc (.cells #[.string b, .bool false] 213)).alloc (.cells #[.string { data := #[] }, .string { data := #[] }, .int .i64 0, .string { data := #[] }, .int .i64 0, .int .i64 0, .slice none 0 0, .slice none 0 0, .int .i64 0] 148)) ⟨b, false⟩ (ctC ct0 nilS nilS) := hN
 clear hN
 generalize ((w.alloc (.cells #[.string { data := #[] }, .string { data := #[] }, .int .i64 0, .string { data := #[] }, .int .i64 0, .int .i64 0, .slice none 0 0, .slice none 0 0, .int .i64 0] 148)).alloc (.cells #[.string b, .bool false] 213)).alloc (.cells #[.string { data := #[] }, .string { data := #[] }, .int .i64 0, .string { data := #[] }, .int .i64 0, .int .i64 0, .slice none 0 0, .slice none 0 0, .int .i64 0] 148) = W at *
 have HN0 : Hid (RB w W ⟨b, false⟩ (ctC ct0 nilS nilS)) := hN'
 clear hN'
 go_wp2_with fail
 refine (ptext_any ⟨b, false⟩ (w.heap.size + 1) 1 _ hb HN0.out.p).mono ?_
 rintro ex w1 ⟨rfl, hp1, hg1⟩
 rw [HT.out] at hp1 ⊢
 simp only at hp1
 have hR1 := HN0.out.call hp1 hg1
 have s0 := hR1.c.c 0 _ rfl
 have t0 := hR1.c.f 0 (by simp)
 have y0 := hR1.c.ty.lt
 have hT1 := hR1.put 0 (.string kd) (by simp)
 clear hp1 hg1 hR1 HN0
 go_upto_region 4 with fail
 clear s0 t0 y0
 generalize w1.setCell ⟨w.heap.size + 2, 0, none⟩ (.string kd) = W1 at *
 have HR1 : Hid (RB w W1 ⟨r, false⟩ ((ctC ct0 nilS nilS).set 0 (.string kd))) := hT1
 have k0 := hT1.c.c 0 _ rfl
 have yk := hT1.c.ty.lt
 have pc0 := hT1.p.c0
 have yp := hT1.p.ty.lt
 clear hT1
 obtain ⟨n, q, hnq⟩ : ∃ n q, Bx.numP 2 ⟨r, false⟩ = (n, q) := ⟨_, _, pr_eta _⟩
 have HA : Hid (Bx.numP 2 ⟨r, false⟩ = (n, q)) := hnq
 clear hnq
 go_wp2_with fail
 refine (pnumber_any ⟨r, false⟩ (w.heap.size + 1) 2 _ _ rfl (by decide) hsz HR1.out.p).mono ?_
 rintro ex w2 ⟨rfl, hp1, hg1⟩
 rw [HA.out] at hp1 ⊢
 simp only at hp1
 have hR2 := HR1.out.call hp1 hg1
 have s0 := hR2.c.c 2 _ rfl
 have t0 := hR2.c.f 2 (by simp)
 have y0 := hR2.c.ty.lt
 have hT3 := hR2.put 2 (.int .i64 n) (by simp)
 clear hp1 hg1 hR2 HR1 k0 yk pc0 yp
 go_upto_region 18 with fail
 clear s0 t0 y0
 generalize w2.setCell ⟨w.heap.size + 2, 2, none⟩ (.int .i64 n) = W3 at *
 have HR3 : Hid (RB w W3 q (((ctC ct0 nilS nilS).set 0 (.string kd)).set 2 (.int .i64 n))) := hT3
 clear hT3
 go_wp2_with fail
 refine (pright_any q (w.heap.size + 1) _ HR3.out.p).mono ?_
 rintro ex w4 ⟨rfl, rfl⟩
 have hR := HR3.out
 have x0 := hR.c.c 0 _ rfl; have x1 := hR.c.c 1 _ rfl; have x2 := hR.c.c 2 _ rfl; have x3 := hR.c.c 3 _ rfl; have x4 := hR.c.c 4 _ rfl; have x5 := hR.c.c 5 _ rfl; have x6 := hR.c.c 6 _ rfl; have x7 := hR.c.c 7 _ rfl; have x8 := hR.c.c 8 _ rfl
 have z0 := hR.z.c 0 _ rfl; have z1 := hR.z.c 1 _ rfl; have z2 := hR.z.c 2 _ rfl; have z3 := hR.z.c 3 _ rfl; have z4 := hR.z.c 4 _ rfl; have z5 := hR.z.c 5 _ rfl; have z6 := hR.z.c 6 _ rfl; have z7 := hR.z.c 7 _ rfl; have z8 := hR.z.c 8 _ rfl
 have f0 := hR.z.f 0 (by simp); have f1 := hR.z.f 1 (by simp); have f2 := hR.z.f 2 (by simp); have f3 := hR.z.f 3 (by simp); have f4 := hR.z.f 4 (by simp); have f5 := hR.z.f 5 (by simp); have f6 := hR.z.f 6 (by simp); have f7 := hR.z.f 7 (by simp); have f8 := hR.z.f 8 (by simp)
 have yz := hR.z.ty.lt
 have yx := hR.c.ty.lt
 clear hR
 cases hw : (!q.wrong && q.rest.toList.isEmpty)
 ·have hno : ¬ (q.wrong = false ∧ q.rest = ByteArray.empty) := by
   rintro ⟨a1, a2⟩
   rw [a1, (isEmpty_iff _).2 a2] at hw; cases hw
  have HF : Hid ((¬ ∃ h, Bx.IsCh b h) ∧ ¬ ∃ s, Bx.StFit s ∧ Bx.wholeS s = b) := by
   refine ⟨?_, ?_⟩
   ·rw [HE.out, ← HKD.out, hk]; exact Bx.body_N_no (by decide) HA.out hno
   ·rintro ⟨s, _, e⟩
    rw [HE.out, ← HKD.out] at e
    exact Bx.whole_no ⟨h0, h1⟩ (by omega) ⟨s, e⟩
  clear hw hno
  go_wp2_with fail
  refine bodyPost_ret (v := .tuple #[ctV ⟨kd, ByteArray.empty, n, Px.st0, 0⟩ nilS nilS, .bool false]) (by simp [results, Tryz.results145, go_sem, z0, z1, z2, z3, z4, z5, z6, z7, z8, ct0, Px.st0]) rfl ⟨BodyR.no _ _ _ HF.out.1 HF.out.2 ⟨⟨none, 0, rfl⟩, ⟨none, 0, rfl⟩⟩, below_set9 HR3.out.b (Nat.le_refl _) _ _ _ _ _ _ _ _ _⟩
 ·have hyes : q.wrong = false ∧ q.rest = ByteArray.empty := by
   simp only [Bool.and_eq_true, Bool.not_eq_true'] at hw
   exact ⟨hw.1, (isEmpty_iff _).1 hw.2⟩
  have HF : Hid (IsC b ⟨kd, ByteArray.empty, n, Px.st0, 0⟩) := by
   refine ⟨⟨k, ByteArray.empty, n⟩, ?_, HKD.out.symm, rfl, rfl⟩
   rw [HE.out, ← HKD.out]; exact Bx.body_N_yes (by omega) HA.out hyes.1 hyes.2
  clear hw hyes
  go_wp2_with fail
  refine bodyPost_ret (v := .tuple #[ctV ⟨kd, ByteArray.empty, n, Px.st0, 0⟩ nilS nilS, .bool true]) (by simp [results, Tryz.results145, go_sem, z0, z1, z2, z3, z4, z5, z6, z7, z8, ct0, Px.st0]) rfl ⟨BodyR.ch _ HF.out rfl rfl, below_set9 HR3.out.b (Nat.le_refl _) _ _ _ _ _ _ _ _ _⟩

set_option maxRecDepth 10000 in
set_option maxHeartbeats 4000000 in
theorem readBody_N68 (b : ByteArray) (k : Int) (w : World) (hb : b.size ≤ 100000) (h0 : 0 ≤ k) (h1 : k < 256) (hk : k = 68) (ht : Bx.txtP 1 ⟨b, false⟩ = (Bx.b1 k, ⟨b.extract 1 b.size, false⟩)) (he : b = Bx.b1 k ++ b.extract 1 b.size) :
 Calls Tryz.prog 145 #[.string b] w fun e w' => BodyR b w' e ∧ Below w.heap.size w w' := by
 have HT : Hid (Bx.txtP 1 ⟨b, false⟩ = (Bx.b1 k, ⟨b.extract 1 b.size, false⟩)) := ht
 have HE : Hid (b = Bx.b1 k ++ b.extract 1 b.size) := he
 have hsz : (b.extract 1 b.size).size ≤ 100000 := by simp; omega
 have e84 : ((Bx.b1 k).toList == [84]) = false := lit_ne (l := [84]) (fun q => by have := (b1_lit k h0 h1 84).1 q; simp at this; omega)
 have e67 : ((Bx.b1 k).toList == [67]) = false := lit_ne (l := [67]) (fun q => by have := (b1_lit k h0 h1 67).1 q; simp at this; omega)
 have e83 : ((Bx.b1 k).toList == [83]) = false := lit_ne (l := [83]) (fun q => by have := (b1_lit k h0 h1 83).1 q; simp at this; omega)
 have e68 : ((Bx.b1 k).toList == [68]) = true := lit_eq ((b1_lit k h0 h1 68).2 (by rw [hk]; rfl))
 have e70 : ((Bx.b1 k).toList == [70]) = false := lit_ne (l := [70]) (fun q => by have := (b1_lit k h0 h1 70).1 q; simp at this; omega)
 have e75 : ((Bx.b1 k).toList == [75]) = false := lit_ne (l := [75]) (fun q => by have := (b1_lit k h0 h1 75).1 q; simp at this; omega)
 have e90 : ((Bx.b1 k).toList == [90]) = false := lit_ne (l := [90]) (fun q => by have := (b1_lit k h0 h1 90).1 q; simp at this; omega)
 have HKd : Hid (∀ kd, kd = Bx.b1 k → kd = Bx.b1 k) := fun _ h => h
 generalize hkd : Bx.b1 k = kd at *
 have HKD : Hid (Bx.b1 k = kd) := hkd
 generalize hr : b.extract 1 b.size = r at *
 have HRr : Hid (b.extract 1 b.size = r) := hr
 clear hkd hr ht he HKd
 have hN := RB.new w b
 go_enter Tryz.func145, Tryz.ntmps145
 go_upto_region 3 with fail
 have hN' : RB w (((w.alloc (.cells #[.string { data := #[] }, .string { data := #[] }, .int .i64 0, .string { data := #[] }, .int .i64 0, .int .i64 0, .slice none 0 0, .slice none 0 0, .int .i64 0] 148)).alloc (.cells #[.string b, .bool false] 213)).alloc (.cells #[.string { data := #[] }, .string { data := #[] }, .int .i64 0, .string { data := #[] }, .int .i64 0, .int .i64 0, .slice none 0 0, .slice none 0 0, .int .i64 0] 148)) ⟨b, false⟩ (ctC ct0 nilS nilS) := hN
 clear hN
 generalize ((w.alloc (.cells #[.string { data := #[] }, .string { data := #[] }, .int .i64 0, .string { data := #[] }, .int .i64 0, .int .i64 0, .slice none 0 0, .slice none 0 0, .int .i64 0] 148)).alloc (.cells #[.string b, .bool false] 213)).alloc (.cells #[.string { data := #[] }, .string { data := #[] }, .int .i64 0, .string { data := #[] }, .int .i64 0, .int .i64 0, .slice none 0 0, .slice none 0 0, .int .i64 0] 148) = W at *
 have HN0 : Hid (RB w W ⟨b, false⟩ (ctC ct0 nilS nilS)) := hN'
 clear hN'
 go_wp2_with fail
 refine (ptext_any ⟨b, false⟩ (w.heap.size + 1) 1 _ hb HN0.out.p).mono ?_
 rintro ex w1 ⟨rfl, hp1, hg1⟩
 rw [HT.out] at hp1 ⊢
 simp only at hp1
 have hR1 := HN0.out.call hp1 hg1
 have s0 := hR1.c.c 0 _ rfl
 have t0 := hR1.c.f 0 (by simp)
 have y0 := hR1.c.ty.lt
 have hT1 := hR1.put 0 (.string kd) (by simp)
 clear hp1 hg1 hR1 HN0
 go_upto_region 4 with fail
 clear s0 t0 y0
 generalize w1.setCell ⟨w.heap.size + 2, 0, none⟩ (.string kd) = W1 at *
 have HR1 : Hid (RB w W1 ⟨r, false⟩ ((ctC ct0 nilS nilS).set 0 (.string kd))) := hT1
 have k0 := hT1.c.c 0 _ rfl
 have yk := hT1.c.ty.lt
 have pc0 := hT1.p.c0
 have yp := hT1.p.ty.lt
 clear hT1
 obtain ⟨n, q, hnq⟩ : ∃ n q, Bx.numP 2 ⟨r, false⟩ = (n, q) := ⟨_, _, pr_eta _⟩
 have HA : Hid (Bx.numP 2 ⟨r, false⟩ = (n, q)) := hnq
 clear hnq
 go_wp2_with fail
 refine (pnumber_any ⟨r, false⟩ (w.heap.size + 1) 2 _ _ rfl (by decide) hsz HR1.out.p).mono ?_
 rintro ex w2 ⟨rfl, hp1, hg1⟩
 rw [HA.out] at hp1 ⊢
 simp only at hp1
 have hR2 := HR1.out.call hp1 hg1
 have s0 := hR2.c.c 2 _ rfl
 have t0 := hR2.c.f 2 (by simp)
 have y0 := hR2.c.ty.lt
 have hT3 := hR2.put 2 (.int .i64 n) (by simp)
 clear hp1 hg1 hR2 HR1 k0 yk pc0 yp
 go_upto_region 18 with fail
 clear s0 t0 y0
 generalize w2.setCell ⟨w.heap.size + 2, 2, none⟩ (.int .i64 n) = W3 at *
 have HR3 : Hid (RB w W3 q (((ctC ct0 nilS nilS).set 0 (.string kd)).set 2 (.int .i64 n))) := hT3
 clear hT3
 go_wp2_with fail
 refine (pright_any q (w.heap.size + 1) _ HR3.out.p).mono ?_
 rintro ex w4 ⟨rfl, rfl⟩
 have hR := HR3.out
 have x0 := hR.c.c 0 _ rfl; have x1 := hR.c.c 1 _ rfl; have x2 := hR.c.c 2 _ rfl; have x3 := hR.c.c 3 _ rfl; have x4 := hR.c.c 4 _ rfl; have x5 := hR.c.c 5 _ rfl; have x6 := hR.c.c 6 _ rfl; have x7 := hR.c.c 7 _ rfl; have x8 := hR.c.c 8 _ rfl
 have z0 := hR.z.c 0 _ rfl; have z1 := hR.z.c 1 _ rfl; have z2 := hR.z.c 2 _ rfl; have z3 := hR.z.c 3 _ rfl; have z4 := hR.z.c 4 _ rfl; have z5 := hR.z.c 5 _ rfl; have z6 := hR.z.c 6 _ rfl; have z7 := hR.z.c 7 _ rfl; have z8 := hR.z.c 8 _ rfl
 have f0 := hR.z.f 0 (by simp); have f1 := hR.z.f 1 (by simp); have f2 := hR.z.f 2 (by simp); have f3 := hR.z.f 3 (by simp); have f4 := hR.z.f 4 (by simp); have f5 := hR.z.f 5 (by simp); have f6 := hR.z.f 6 (by simp); have f7 := hR.z.f 7 (by simp); have f8 := hR.z.f 8 (by simp)
 have yz := hR.z.ty.lt
 have yx := hR.c.ty.lt
 clear hR
 cases hw : (!q.wrong && q.rest.toList.isEmpty)
 ·have hno : ¬ (q.wrong = false ∧ q.rest = ByteArray.empty) := by
   rintro ⟨a1, a2⟩
   rw [a1, (isEmpty_iff _).2 a2] at hw; cases hw
  have HF : Hid ((¬ ∃ h, Bx.IsCh b h) ∧ ¬ ∃ s, Bx.StFit s ∧ Bx.wholeS s = b) := by
   refine ⟨?_, ?_⟩
   ·rw [HE.out, ← HKD.out, hk]; exact Bx.body_N_no (by decide) HA.out hno
   ·rintro ⟨s, _, e⟩
    rw [HE.out, ← HKD.out] at e
    exact Bx.whole_no ⟨h0, h1⟩ (by omega) ⟨s, e⟩
  clear hw hno
  go_wp2_with fail
  refine bodyPost_ret (v := .tuple #[ctV ⟨kd, ByteArray.empty, n, Px.st0, 0⟩ nilS nilS, .bool false]) (by simp [results, Tryz.results145, go_sem, z0, z1, z2, z3, z4, z5, z6, z7, z8, ct0, Px.st0]) rfl ⟨BodyR.no _ _ _ HF.out.1 HF.out.2 ⟨⟨none, 0, rfl⟩, ⟨none, 0, rfl⟩⟩, below_set9 HR3.out.b (Nat.le_refl _) _ _ _ _ _ _ _ _ _⟩
 ·have hyes : q.wrong = false ∧ q.rest = ByteArray.empty := by
   simp only [Bool.and_eq_true, Bool.not_eq_true'] at hw
   exact ⟨hw.1, (isEmpty_iff _).1 hw.2⟩
  have HF : Hid (IsC b ⟨kd, ByteArray.empty, n, Px.st0, 0⟩) := by
   refine ⟨⟨k, ByteArray.empty, n⟩, ?_, HKD.out.symm, rfl, rfl⟩
   rw [HE.out, ← HKD.out]; exact Bx.body_N_yes (by omega) HA.out hyes.1 hyes.2
  clear hw hyes
  go_wp2_with fail
  refine bodyPost_ret (v := .tuple #[ctV ⟨kd, ByteArray.empty, n, Px.st0, 0⟩ nilS nilS, .bool true]) (by simp [results, Tryz.results145, go_sem, z0, z1, z2, z3, z4, z5, z6, z7, z8, ct0, Px.st0]) rfl ⟨BodyR.ch _ HF.out rfl rfl, below_set9 HR3.out.b (Nat.le_refl _) _ _ _ _ _ _ _ _ _⟩

end Go.Proofs.YtdajolpoiffimaaGreatDoor

namespace Go.Proofs.YtdajolpoiffimaaGreatDoor
open Go.RowKit

set_option maxRecDepth 10000 in
set_option maxHeartbeats 4000000 in
theorem readBody_Z (b : ByteArray) (k : Int) (w : World) (hb : b.size ≤ 100000) (h0 : 0 ≤ k) (h1 : k < 256) (hk : k = 90) (ht : Bx.txtP 1 ⟨b, false⟩ = (Bx.b1 k, ⟨b.extract 1 b.size, false⟩)) (he : b = Bx.b1 k ++ b.extract 1 b.size) :
 Calls Tryz.prog 145 #[.string b] w fun e w' => BodyR b w' e ∧ Below w.heap.size w w' := by
 have HT : Hid (Bx.txtP 1 ⟨b, false⟩ = (Bx.b1 k, ⟨b.extract 1 b.size, false⟩)) := ht
 have HE : Hid (b = Bx.b1 k ++ b.extract 1 b.size) := he
 have hsz : (b.extract 1 b.size).size ≤ 100000 := by simp; omega
 have e84 : ((Bx.b1 k).toList == [84]) = false := lit_ne (l := [84]) (fun q => by have := (b1_lit k h0 h1 84).1 q; simp at this; omega)
 have e67 : ((Bx.b1 k).toList == [67]) = false := lit_ne (l := [67]) (fun q => by have := (b1_lit k h0 h1 67).1 q; simp at this; omega)
 have e83 : ((Bx.b1 k).toList == [83]) = false := lit_ne (l := [83]) (fun q => by have := (b1_lit k h0 h1 83).1 q; simp at this; omega)
 have e68 : ((Bx.b1 k).toList == [68]) = false := lit_ne (l := [68]) (fun q => by have := (b1_lit k h0 h1 68).1 q; simp at this; omega)
 have e70 : ((Bx.b1 k).toList == [70]) = false := lit_ne (l := [70]) (fun q => by have := (b1_lit k h0 h1 70).1 q; simp at this; omega)
 have e75 : ((Bx.b1 k).toList == [75]) = false := lit_ne (l := [75]) (fun q => by have := (b1_lit k h0 h1 75).1 q; simp at this; omega)
 have e90 : ((Bx.b1 k).toList == [90]) = true := lit_eq ((b1_lit k h0 h1 90).2 (by rw [hk]; rfl))
 have HKd : Hid (∀ kd, kd = Bx.b1 k → kd = Bx.b1 k) := fun _ h => h
 generalize hkd : Bx.b1 k = kd at *
 have HKD : Hid (Bx.b1 k = kd) := hkd
 generalize hr : b.extract 1 b.size = r at *
 have HRr : Hid (b.extract 1 b.size = r) := hr
 clear hkd hr ht he HKd
 have hN := RB.new w b
 go_enter Tryz.func145, Tryz.ntmps145
 go_upto_region 3 with fail
 have hN' : RB w (((w.alloc (.cells #[.string { data := #[] }, .string { data := #[] }, .int .i64 0, .string { data := #[] }, .int .i64 0, .int .i64 0, .slice none 0 0, .slice none 0 0, .int .i64 0] 148)).alloc (.cells #[.string b, .bool false] 213)).alloc (.cells #[.string { data := #[] }, .string { data := #[] }, .int .i64 0, .string { data := #[] }, .int .i64 0, .int .i64 0, .slice none 0 0, .slice none 0 0, .int .i64 0] 148)) ⟨b, false⟩ (ctC ct0 nilS nilS) := hN
 clear hN
 generalize ((w.alloc (.cells #[.string { data := #[] }, .string { data := #[] }, .int .i64 0, .string { data := #[] }, .int .i64 0, .int .i64 0, .slice none 0 0, .slice none 0 0, .int .i64 0] 148)).alloc (.cells #[.string b, .bool false] 213)).alloc (.cells #[.string { data := #[] }, .string { data := #[] }, .int .i64 0, .string { data := #[] }, .int .i64 0, .int .i64 0, .slice none 0 0, .slice none 0 0, .int .i64 0] 148) = W at *
 have HN0 : Hid (RB w W ⟨b, false⟩ (ctC ct0 nilS nilS)) := hN'
 clear hN'
 go_wp2_with fail
 refine (ptext_any ⟨b, false⟩ (w.heap.size + 1) 1 _ hb HN0.out.p).mono ?_
 rintro ex w1 ⟨rfl, hp1, hg1⟩
 rw [HT.out] at hp1 ⊢
 simp only at hp1
 have hR1 := HN0.out.call hp1 hg1
 have s0 := hR1.c.c 0 _ rfl
 have t0 := hR1.c.f 0 (by simp)
 have y0 := hR1.c.ty.lt
 have hT1 := hR1.put 0 (.string kd) (by simp)
 clear hp1 hg1 hR1 HN0
 go_upto_region 4 with fail
 clear s0 t0 y0
 generalize w1.setCell ⟨w.heap.size + 2, 0, none⟩ (.string kd) = W1 at *
 have HR1 : Hid (RB w W1 ⟨r, false⟩ ((ctC ct0 nilS nilS).set 0 (.string kd))) := hT1
 have k0 := hT1.c.c 0 _ rfl
 have yk := hT1.c.ty.lt
 have pc0 := hT1.p.c0
 have yp := hT1.p.ty.lt
 clear hT1
 go_wp2_with fail
 refine (preadState_any ⟨r, false⟩ (w.heap.size + 1) _ hsz HR1.out.p).mono ?_
 rintro ex w2 ⟨⟨sl, en, rfl, hat⟩, hp1, hg1⟩
 obtain ⟨st, q, hst⟩ : ∃ st q, Px.rdState ⟨r, false⟩ = (st, q) := ⟨_, _, pr_eta _⟩
 have HA : Hid (Px.rdState ⟨r, false⟩ = (st, q)) := hst
 have HFr : Hid ((∀ x ∈ st.slots, Px.Fresh x) ∧ -1 ≤ st.clock) := by have := Px.rdState_fresh ⟨r, false⟩; rw [hst] at this; exact this
 rw [hst] at hp1 hat ⊢
 simp only at hp1 hat
 obtain ⟨ad, cap, rfl, _⟩ := hat.sl.form
 obtain ⟨ad2, cap2, rfl, _⟩ := hat.en.form
 have hR2 := HR1.out.call hp1 hg1
 have s3 := hR2.c.c 3 _ rfl; have s4 := hR2.c.c 4 _ rfl; have s5 := hR2.c.c 5 _ rfl; have s6 := hR2.c.c 6 _ rfl; have s7 := hR2.c.c 7 _ rfl
 have t3 := hR2.c.f 3 (by simp); have t4 := hR2.c.f 4 (by simp); have t5 := hR2.c.f 5 (by simp); have t6 := hR2.c.f 6 (by simp); have t7 := hR2.c.f 7 (by simp)
 have y0 := hR2.c.ty.lt
 have hT3 := ((((hR2.put 3 (.string st.tab) (by simp)).put 4 (.int .i64 st.clock) (by simp)).put 5 (.int .i64 st.next) (by simp)).put 6 (.slice ad st.slots.length cap) (by simp)).put 7 (.slice ad2 st.ends.length cap2) (by simp)
 have hat3 : PAt (((((w2.setCell ⟨w.heap.size + 2, 3, none⟩ (.string st.tab)).setCell ⟨w.heap.size + 2, 4, none⟩ (.int .i64 st.clock)).setCell ⟨w.heap.size + 2, 5, none⟩ (.int .i64 st.next)).setCell ⟨w.heap.size + 2, 6, none⟩ (.slice ad st.slots.length cap)).setCell ⟨w.heap.size + 2, 7, none⟩ (.slice ad2 st.ends.length cap2)) st (.slice ad st.slots.length cap) (.slice ad2 st.ends.length cap2) := by
  have ty := hR2.c.ty
  exact ((((hat.set ty (by decide) (by decide) _ _).set (ty.setCell _ _ _) (by decide) (by decide) _ _).set ((ty.setCell _ _ _).setCell _ _ _) (by decide) (by decide) _ _).set (((ty.setCell _ _ _).setCell _ _ _).setCell _ _ _) (by decide) (by decide) _ _).set ((((ty.setCell _ _ _).setCell _ _ _).setCell _ _ _).setCell _ _ _) (by decide) (by decide) _ _
 clear hp1 hg1 hR2 HR1 k0 yk pc0 yp hat hst
 go_upto_region 18 with fail
 clear s3 s4 s5 s6 s7 t3 t4 t5 t6 t7 y0
 generalize ((((w2.setCell ⟨w.heap.size + 2, 3, none⟩ (.string st.tab)).setCell ⟨w.heap.size + 2, 4, none⟩ (.int .i64 st.clock)).setCell ⟨w.heap.size + 2, 5, none⟩ (.int .i64 st.next)).setCell ⟨w.heap.size + 2, 6, none⟩ (.slice ad st.slots.length cap)).setCell ⟨w.heap.size + 2, 7, none⟩ (.slice ad2 st.ends.length cap2) = W3 at *
 have HAt : Hid (PAt W3 st (.slice ad st.slots.length cap) (.slice ad2 st.ends.length cap2)) := hat3
 clear hat3
 have HR3 : Hid (RB w W3 q ((((((ctC ct0 nilS nilS).set 0 (.string kd)).set 3 (.string st.tab)).set 4 (.int .i64 st.clock)).set 5 (.int .i64 st.next)).set 6 (.slice ad st.slots.length cap) |>.set 7 (.slice ad2 st.ends.length cap2))) := hT3
 clear hT3
 go_wp2_with fail
 refine (pright_any q (w.heap.size + 1) _ HR3.out.p).mono ?_
 rintro ex w4 ⟨rfl, rfl⟩
 have hR := HR3.out
 have x0 := hR.c.c 0 _ rfl; have x1 := hR.c.c 1 _ rfl; have x2 := hR.c.c 2 _ rfl; have x3 := hR.c.c 3 _ rfl; have x4 := hR.c.c 4 _ rfl; have x5 := hR.c.c 5 _ rfl; have x6 := hR.c.c 6 _ rfl; have x7 := hR.c.c 7 _ rfl; have x8 := hR.c.c 8 _ rfl
 have z0 := hR.z.c 0 _ rfl; have z1 := hR.z.c 1 _ rfl; have z2 := hR.z.c 2 _ rfl; have z3 := hR.z.c 3 _ rfl; have z4 := hR.z.c 4 _ rfl; have z5 := hR.z.c 5 _ rfl; have z6 := hR.z.c 6 _ rfl; have z7 := hR.z.c 7 _ rfl; have z8 := hR.z.c 8 _ rfl
 have f0 := hR.z.f 0 (by simp); have f1 := hR.z.f 1 (by simp); have f2 := hR.z.f 2 (by simp); have f3 := hR.z.f 3 (by simp); have f4 := hR.z.f 4 (by simp); have f5 := hR.z.f 5 (by simp); have f6 := hR.z.f 6 (by simp); have f7 := hR.z.f 7 (by simp); have f8 := hR.z.f 8 (by simp)
 have yz := hR.z.ty.lt
 have yx := hR.c.ty.lt
 clear hR
 cases hw : (!q.wrong && q.rest.toList.isEmpty)
 ·have hno : ¬ (q.wrong = false ∧ q.rest = ByteArray.empty) := by
   rintro ⟨a1, a2⟩
   rw [a1, (isEmpty_iff _).2 a2] at hw; cases hw
  have HF : Hid ((¬ ∃ h, Bx.IsCh b h) ∧ ¬ ∃ s, Bx.StFit s ∧ Bx.wholeS s = b) := by
   refine ⟨?_, ?_⟩
   ·rw [HE.out, ← HKD.out]; exact Bx.body_no ⟨h0, h1⟩ (by omega)
   ·rw [HE.out, ← HKD.out, hk]; exact Bx.whole_fit_no HA.out hno
  clear hw hno
  go_wp2_with fail
  refine bodyPost_ret (v := .tuple #[ctV ⟨kd, ByteArray.empty, 0, st, 0⟩ (.slice ad st.slots.length cap) (.slice ad2 st.ends.length cap2), .bool false]) (by simp [results, Tryz.results145, go_sem, z0, z1, z2, z3, z4, z5, z6, z7, z8, ct0, Px.st0]) rfl ⟨BodyR.no _ _ _ HF.out.1 HF.out.2 ⟨⟨ad, cap, rfl⟩, ⟨ad2, cap2, rfl⟩⟩, below_set9 HR3.out.b (Nat.le_refl _) _ _ _ _ _ _ _ _ _⟩
 ·have hyes : q.wrong = false ∧ q.rest = ByteArray.empty := by
   simp only [Bool.and_eq_true, Bool.not_eq_true'] at hw
   exact ⟨hw.1, (isEmpty_iff _).1 hw.2⟩
  have HF : Hid (IsW b ⟨kd, ByteArray.empty, 0, st, 0⟩) := by
   have hz := Bx.whole_yes HA.out hyes.1 hyes.2
   refine ⟨by rw [← HKD.out, hk], ?_, hz.2, HFr.out.1, HFr.out.2⟩
   rw [HE.out, ← HKD.out, hk]; exact hz.1
  clear hw hyes
  go_wp2_with fail
  refine bodyPost_ret (v := .tuple #[ctV ⟨kd, ByteArray.empty, 0, st, 0⟩ (.slice ad st.slots.length cap) (.slice ad2 st.ends.length cap2), .bool true]) (by simp [results, Tryz.results145, go_sem, z0, z1, z2, z3, z4, z5, z6, z7, z8, ct0, Px.st0]) rfl ⟨BodyR.wh _ _ _ HF.out rfl (HAt.out.store9 HR3.out.z.ty _ _ _ _ _ _ _ _ _), below_set9 HR3.out.b (Nat.le_refl _) _ _ _ _ _ _ _ _ _⟩

set_option maxRecDepth 10000 in
set_option maxHeartbeats 4000000 in
theorem readBody_D (b : ByteArray) (k : Int) (w : World) (hb : b.size ≤ 100000) (h0 : 0 ≤ k) (h1 : k < 256) (hk : ¬ k = 84 ∧ ¬ k = 67 ∧ ¬ k = 83 ∧ ¬ k = 68 ∧ ¬ k = 70 ∧ ¬ k = 75 ∧ ¬ k = 90) (ht : Bx.txtP 1 ⟨b, false⟩ = (Bx.b1 k, ⟨b.extract 1 b.size, false⟩)) (he : b = Bx.b1 k ++ b.extract 1 b.size) :
 Calls Tryz.prog 145 #[.string b] w fun e w' => BodyR b w' e ∧ Below w.heap.size w w' := by
 have HT : Hid (Bx.txtP 1 ⟨b, false⟩ = (Bx.b1 k, ⟨b.extract 1 b.size, false⟩)) := ht
 have HE : Hid (b = Bx.b1 k ++ b.extract 1 b.size) := he
 have hsz : (b.extract 1 b.size).size ≤ 100000 := by simp; omega
 have e84 : ((Bx.b1 k).toList == [84]) = false := lit_ne (l := [84]) (fun q => by have := (b1_lit k h0 h1 84).1 q; simp at this; omega)
 have e67 : ((Bx.b1 k).toList == [67]) = false := lit_ne (l := [67]) (fun q => by have := (b1_lit k h0 h1 67).1 q; simp at this; omega)
 have e83 : ((Bx.b1 k).toList == [83]) = false := lit_ne (l := [83]) (fun q => by have := (b1_lit k h0 h1 83).1 q; simp at this; omega)
 have e68 : ((Bx.b1 k).toList == [68]) = false := lit_ne (l := [68]) (fun q => by have := (b1_lit k h0 h1 68).1 q; simp at this; omega)
 have e70 : ((Bx.b1 k).toList == [70]) = false := lit_ne (l := [70]) (fun q => by have := (b1_lit k h0 h1 70).1 q; simp at this; omega)
 have e75 : ((Bx.b1 k).toList == [75]) = false := lit_ne (l := [75]) (fun q => by have := (b1_lit k h0 h1 75).1 q; simp at this; omega)
 have e90 : ((Bx.b1 k).toList == [90]) = false := lit_ne (l := [90]) (fun q => by have := (b1_lit k h0 h1 90).1 q; simp at this; omega)
 have HKd : Hid (∀ kd, kd = Bx.b1 k → kd = Bx.b1 k) := fun _ h => h
 generalize hkd : Bx.b1 k = kd at *
 have HKD : Hid (Bx.b1 k = kd) := hkd
 generalize hr : b.extract 1 b.size = r at *
 have HRr : Hid (b.extract 1 b.size = r) := hr
 clear hkd hr ht he HKd
 have hN := RB.new w b
 go_enter Tryz.func145, Tryz.ntmps145
 go_upto_region 3 with fail
 have hN' : RB w (((w.alloc (.cells #[.string { data := #[] }, .string { data := #[] }, .int .i64 0, .string { data := #[] }, .int .i64 0, .int .i64 0, .slice none 0 0, .slice none 0 0, .int .i64 0] 148)).alloc (.cells #[.string b, .bool false] 213)).alloc (.cells #[.string { data := #[] }, .string { data := #[] }, .int .i64 0, .string { data := #[] }, .int .i64 0, .int .i64 0, .slice none 0 0, .slice none 0 0, .int .i64 0] 148)) ⟨b, false⟩ (ctC ct0 nilS nilS) := hN
 clear hN
 generalize ((w.alloc (.cells #[.string { data := #[] }, .string { data := #[] }, .int .i64 0, .string { data := #[] }, .int .i64 0, .int .i64 0, .slice none 0 0, .slice none 0 0, .int .i64 0] 148)).alloc (.cells #[.string b, .bool false] 213)).alloc (.cells #[.string { data := #[] }, .string { data := #[] }, .int .i64 0, .string { data := #[] }, .int .i64 0, .int .i64 0, .slice none 0 0, .slice none 0 0, .int .i64 0] 148) = W at *
 have HN0 : Hid (RB w W ⟨b, false⟩ (ctC ct0 nilS nilS)) := hN'
 clear hN'
 go_wp2_with fail
 refine (ptext_any ⟨b, false⟩ (w.heap.size + 1) 1 _ hb HN0.out.p).mono ?_
 rintro ex w1 ⟨rfl, hp1, hg1⟩
 rw [HT.out] at hp1 ⊢
 simp only at hp1
 have hR1 := HN0.out.call hp1 hg1
 have s0 := hR1.c.c 0 _ rfl
 have t0 := hR1.c.f 0 (by simp)
 have y0 := hR1.c.ty.lt
 have hT1 := hR1.put 0 (.string kd) (by simp)
 clear hp1 hg1 hR1 HN0
 go_upto_region 4 with fail
 clear s0 t0 y0
 generalize w1.setCell ⟨w.heap.size + 2, 0, none⟩ (.string kd) = W1 at *
 have HR1 : Hid (RB w W1 ⟨r, false⟩ ((ctC ct0 nilS nilS).set 0 (.string kd))) := hT1
 have k0 := hT1.c.c 0 _ rfl
 have yk := hT1.c.ty.lt
 have pc0 := hT1.p.c0
 have yp := hT1.p.ty.lt
 clear hT1
 have hR := HR1.out
 have z0 := hR.z.c 0 _ rfl; have z1 := hR.z.c 1 _ rfl; have z2 := hR.z.c 2 _ rfl; have z3 := hR.z.c 3 _ rfl; have z4 := hR.z.c 4 _ rfl; have z5 := hR.z.c 5 _ rfl; have z6 := hR.z.c 6 _ rfl; have z7 := hR.z.c 7 _ rfl; have z8 := hR.z.c 8 _ rfl
 have f0 := hR.z.f 0 (by simp); have f1 := hR.z.f 1 (by simp); have f2 := hR.z.f 2 (by simp); have f3 := hR.z.f 3 (by simp); have f4 := hR.z.f 4 (by simp); have f5 := hR.z.f 5 (by simp); have f6 := hR.z.f 6 (by simp); have f7 := hR.z.f 7 (by simp); have f8 := hR.z.f 8 (by simp)
 have yz := hR.z.ty.lt
 clear hR
 have HF : Hid ((¬ ∃ h, Bx.IsCh b h) ∧ ¬ ∃ s, Bx.StFit s ∧ Bx.wholeS s = b) := by
  refine ⟨?_, ?_⟩
  ·rw [HE.out, ← HKD.out]; exact Bx.body_no ⟨h0, h1⟩ (by omega)
  ·rintro ⟨s, _, e⟩
   rw [HE.out, ← HKD.out] at e
   exact Bx.whole_no ⟨h0, h1⟩ (by omega) ⟨s, e⟩
 go_wp2_with fail
 refine bodyPost_ret (v := .tuple #[ctV ct0 nilS nilS, .bool false]) (by simp [results, Tryz.results145, go_sem, z0, z1, z2, z3, z4, z5, z6, z7, z8, ct0, Px.st0]; rfl) rfl ⟨BodyR.no _ _ _ HF.out.1 HF.out.2 ⟨⟨none, 0, rfl⟩, ⟨none, 0, rfl⟩⟩, below_set9 HR1.out.b (Nat.le_refl _) _ _ _ _ _ _ _ _ _⟩

set_option maxRecDepth 10000 in
set_option maxHeartbeats 4000000 in
theorem readBody_E (b : ByteArray) (w : World) (hb : b = ByteArray.empty) :
 Calls Tryz.prog 145 #[.string b] w fun e w' => BodyR b w' e ∧ Below w.heap.size w w' := by
 have HT : Hid (Bx.txtP 1 ⟨b, false⟩ = (b, ⟨b, true⟩)) := by subst hb; unfold Hid Bx.txtP; rw [if_pos (by simp)]
 have e84 : (b.toList == [84]) = false := by subst hb; rw [ByteArray.toList_eq]; rfl
 have e67 : (b.toList == [67]) = false := by subst hb; rw [ByteArray.toList_eq]; rfl
 have e83 : (b.toList == [83]) = false := by subst hb; rw [ByteArray.toList_eq]; rfl
 have e68 : (b.toList == [68]) = false := by subst hb; rw [ByteArray.toList_eq]; rfl
 have e70 : (b.toList == [70]) = false := by subst hb; rw [ByteArray.toList_eq]; rfl
 have e75 : (b.toList == [75]) = false := by subst hb; rw [ByteArray.toList_eq]; rfl
 have e90 : (b.toList == [90]) = false := by subst hb; rw [ByteArray.toList_eq]; rfl
 have hbs : b.size ≤ 100000 := by subst hb; simp
 have HF : Hid ((¬ ∃ h, Bx.IsCh b h) ∧ ¬ ∃ s, Bx.StFit s ∧ Bx.wholeS s = b) := by subst hb; exact ⟨Bx.empty_no.1, fun ⟨s, _, e⟩ => Bx.empty_no.2 ⟨s, e⟩⟩
 clear hb
 have hN := RB.new w b
 go_enter Tryz.func145, Tryz.ntmps145
 go_upto_region 3 with fail
 have hN' : RB w (((w.alloc (.cells #[.string { data := #[] }, .string { data := #[] }, .int .i64 0, .string { data := #[] }, .int .i64 0, .int .i64 0, .slice none 0 0, .slice none 0 0, .int .i64 0] 148)).alloc (.cells #[.string b, .bool false] 213)).alloc (.cells #[.string { data := #[] }, .string { data := #[] }, .int .i64 0, .string { data := #[] }, .int .i64 0, .int .i64 0, .slice none 0 0, .slice none 0 0, .int .i64 0] 148)) ⟨b, false⟩ (ctC ct0 nilS nilS) := hN
 clear hN
 generalize ((w.alloc (.cells #[.string { data := #[] }, .string { data := #[] }, .int .i64 0, .string { data := #[] }, .int .i64 0, .int .i64 0, .slice none 0 0, .slice none 0 0, .int .i64 0] 148)).alloc (.cells #[.string b, .bool false] 213)).alloc (.cells #[.string { data := #[] }, .string { data := #[] }, .int .i64 0, .string { data := #[] }, .int .i64 0, .int .i64 0, .slice none 0 0, .slice none 0 0, .int .i64 0] 148) = W at *
 have HN0 : Hid (RB w W ⟨b, false⟩ (ctC ct0 nilS nilS)) := hN'
 clear hN'
 go_wp2_with fail
 refine (ptext_any ⟨b, false⟩ (w.heap.size + 1) 1 _ hbs HN0.out.p).mono ?_
 rintro ex w1 ⟨rfl, hp1, hg1⟩
 rw [HT.out] at hp1 ⊢
 simp only at hp1
 have hR1 := HN0.out.call hp1 hg1
 have s0 := hR1.c.c 0 _ rfl
 have t0 := hR1.c.f 0 (by simp)
 have y0 := hR1.c.ty.lt
 have hT1 := hR1.put 0 (.string b) (by simp)
 clear hp1 hg1 hR1 HN0
 go_upto_region 4 with fail
 clear s0 t0 y0
 generalize w1.setCell ⟨w.heap.size + 2, 0, none⟩ (.string b) = W1 at *
 have HR1 : Hid (RB w W1 ⟨b, true⟩ ((ctC ct0 nilS nilS).set 0 (.string b))) := hT1
 have k0 := hT1.c.c 0 _ rfl
 have yk := hT1.c.ty.lt
 clear hT1
 have hR := HR1.out
 have z0 := hR.z.c 0 _ rfl; have z1 := hR.z.c 1 _ rfl; have z2 := hR.z.c 2 _ rfl; have z3 := hR.z.c 3 _ rfl; have z4 := hR.z.c 4 _ rfl; have z5 := hR.z.c 5 _ rfl; have z6 := hR.z.c 6 _ rfl; have z7 := hR.z.c 7 _ rfl; have z8 := hR.z.c 8 _ rfl
 have f0 := hR.z.f 0 (by simp); have f1 := hR.z.f 1 (by simp); have f2 := hR.z.f 2 (by simp); have f3 := hR.z.f 3 (by simp); have f4 := hR.z.f 4 (by simp); have f5 := hR.z.f 5 (by simp); have f6 := hR.z.f 6 (by simp); have f7 := hR.z.f 7 (by simp); have f8 := hR.z.f 8 (by simp)
 have yz := hR.z.ty.lt
 clear hR
 go_wp2_with fail
 refine bodyPost_ret (v := .tuple #[ctV ct0 nilS nilS, .bool false]) (by simp [results, Tryz.results145, go_sem, z0, z1, z2, z3, z4, z5, z6, z7, z8, ct0, Px.st0]; rfl) rfl ⟨BodyR.no _ _ _ HF.out.1 HF.out.2 ⟨⟨none, 0, rfl⟩, ⟨none, 0, rfl⟩⟩, below_set9 HR1.out.b (Nat.le_refl _) _ _ _ _ _ _ _ _ _⟩

theorem readBody_any (b : ByteArray) (w : World) (hb : b.size ≤ 100000) : Calls Tryz.prog 145 #[.string b] w fun e w' => BodyR b w' e ∧ Below w.heap.size w w' := by
 by_cases h : b = ByteArray.empty
 ·exact readBody_E b w h
 have hs : 0 < b.size := by
  rcases Nat.eq_zero_or_pos b.size with q | q
  ·exact (h (by simpa using q)).elim
  ·exact q
 obtain ⟨k, h0, h1, ht, he⟩ := txt1_head b hs
 by_cases k1 : k = 84
 ·exact readBody_T b k w hb h0 h1 k1 ht he
 by_cases k2 : k = 67
 ·exact readBody_C b k w hb h0 h1 k2 ht he
 by_cases k3 : k = 83
 ·exact readBody_N83 b k w hb h0 h1 k3 ht he
 by_cases k4 : k = 68
 ·exact readBody_N68 b k w hb h0 h1 k4 ht he
 by_cases k5 : k = 70
 ·exact readBody_N70 b k w hb h0 h1 k5 ht he
 by_cases k6 : k = 75
 ·exact readBody_N75 b k w hb h0 h1 k6 ht he
 by_cases k7 : k = 90
 ·exact readBody_Z b k w hb h0 h1 k7 ht he
 exact readBody_D b k w hb h0 h1 ⟨k1, k2, k3, k4, k5, k6, k7⟩ ht he
end Go.Proofs.YtdajolpoiffimaaGreatDoor

namespace Go.Proofs.YtdajolpoiffimaaGreatDoor
open Go.RowKit

set_option maxRecDepth 10000 in
set_option maxHeartbeats 4000000 in
theorem withStart_any (s : Px.St) (n : Int) (sl en : Value) (w : World) (hO : Px.Ok s) (hT : TabLH w) (hS : PAt w s sl en) :
 Calls Tryz.prog 80 #[pstV s sl en, .int .i64 n] w fun e w' => ChgR (Px.startP s n) w' e ∧ Below w.heap.size w w' := by
 obtain ⟨ad, cap, rfl, hcap⟩ := hS.sl.form
 obtain ⟨ad2, cap2, rfl, hcap2⟩ := hS.en.form
 have HO : Hid (Px.Ok s) := hO
 have hl : s.slots.length ≤ 10000 := by have := hO.len; omega
 have he : s.ends.length ≤ 10000 := by have : s.ends.length ≤ 6 := hO.st.en; omega
 have hc1 : -1 ≤ s.clock := hO.st.c1
 have hc2 : s.clock ≤ 4223371679 := hO.st.c2
 have HS : Hid (PAt w s (.slice ad s.slots.length cap) (.slice ad2 s.ends.length cap2)) := hS
 have hP := PRes.new w s (.slice ad s.slots.length cap) (.slice ad2 s.ends.length cap2)
 clear hS hO
 go_enter Tryz.func80, Tryz.ntmps80
 go_upto_region 1 with fail
 generalize (w.alloc (pstO s (.slice ad s.slots.length cap) (.slice ad2 s.ends.length cap2))).alloc pzO = W at *
 have HSW : Hid (PAt W s (.slice ad s.slots.length cap) (.slice ad2 s.ends.length cap2)) := HS.out.later hP.bel
 have HT : Hid (TabLH W) := hT.later hP.bel
 have HP : Hid (PRes w W s (.slice ad s.slots.length cap) (.slice ad2 s.ends.length cap2)) := hP
 obtain ⟨i0, i1, i2, i3, i4⟩ := hP.st
 clear hP hT
 go_wp2_with fail
 refine (pfind_any s n _ _ _ hl HSW.out).mono ?_
 rintro e w1 ⟨hF, hb1⟩
 clear i0 i1 i2 i3 i4
 have HP1 := HP.out.later hb1
 have HS1 := HSW.out.later hb1
 have HT1 := HT.out.later hb1
 clear HP HSW hb1 HT
 rcases hF with ⟨x, hf, rfl⟩ | ⟨hf, rfl⟩
 rotate_left
 ·have HM : Hid (Px.startP s n = (Px.st0, 8)) := by unfold Hid Px.startP; rw [hf]
  clear hf
  generalize Px.sl0 = x at *
  have HPW2 := HP1.later (below_alloc w1 (psO x))
  clear HP1 HS1 HT1
  go_upto_region 2 with fail
  generalize w1.alloc (psO x) = W2 at *
  obtain ⟨⟨⟨u0, r0⟩, f0⟩, ⟨⟨u1, r1⟩, f1⟩, ⟨⟨u2, r2⟩, f2⟩, ⟨⟨u3, r3⟩, f3⟩, ⟨⟨u4, r4⟩, f4⟩⟩ := HPW2.five
  have HB2 : Hid (Below w.heap.size w W2) := HPW2.bel
  clear HPW2
  go_wp2_with fail
  refine bodyPost_ret (v := .tuple #[.agg #[.string { data := #[] }, .int .i64 0, .int .i64 0, .slice none 0 0, .slice none 0 0], .int .i64 8]) (by simp [results, Tryz.results80, go_sem, r0, r1, r2, r3, r4]) rfl ⟨ChgR.err HM.out, below_set5' HB2.out (by omega) _ _ _ _ _⟩
 have HFx : Hid (Px.find s.slots n = some x) := hf
 have hxm : x ∈ s.slots := List.mem_of_find?_eq_some hf
 have HEx : Hid _ := HO.out.each hxm
 obtain ⟨hx1, hx2', hx3, hx4, hx5, hx6⟩ := HEx.out
 have hx7 : x.att ≤ 5 := HO.out.st.att5 (List.mem_map.2 ⟨x, hxm, rfl⟩ : Px.absS x ∈ _)
 obtain ⟨j, hj⟩ : ∃ j : Nat, x.line = (j : Int) + 1 := ⟨(x.line - 1).toNat, by omega⟩
 have hjt : j < tn s.tab := by omega
 have HJ : Hid (x.line = (j : Int) + 1) := hj
 have HP2 := HP1.later (below_alloc w1 (psO x))
 have HS2 := HS1.later (below_alloc w1 (psO x))
 have HT2 := HT1.later (below_alloc w1 (psO x))
 have hx2 := PsIn.new w1 x
 have hq0 : w.heap.size + 1 < w1.heap.size := HP1.lt
 clear HP1 HS1 HT1 hf hx6 hx4 hxm hj hx2'
 go_upto_region 2 with fail
 generalize w1.alloc (psO x) = W2 at *
 generalize w1.heap.size = xq at *
 have HPP2 : Hid (PRes w W2 s (.slice ad s.slots.length cap) (.slice ad2 s.ends.length cap2)) := HP2
 have HSS2 : Hid (PAt W2 s (.slice ad s.slots.length cap) (.slice ad2 s.ends.length cap2)) := HS2
 have HTT2 : Hid (TabLH W2) := HT2
 have HX2 : Hid (PsIn W2 xq x) := hx2
 obtain ⟨x0, x1, x2, x3, x4, x5, x6, x7⟩ := hx2
 clear HP2 HS2 HT2
 go_wp2_with fail
 refine (runs_any x W2).mono ?_
 rintro e w3 ⟨rfl, hb3⟩
 clear x0 x1 x2 x3 x4 x5 x6 x7
 have HPw3 := HPP2.out.later hb3
 have HSw3 : Hid (PAt w3 s (.slice ad s.slots.length cap) (.slice ad2 s.ends.length cap2)) := HSS2.out.later hb3
 have HTw3 : Hid (TabLH w3) := HTT2.out.later hb3
 have HXw3 : Hid (PsIn w3 xq x) := HX2.out.later hb3
 clear HPP2 HSS2 HTT2 HX2 hb3
 cases hr : decide (0 < x.step)
 rotate_left
 ·have HM : Hid (Px.startP s n = (Px.st0, 9)) := by unfold Hid Px.startP; rw [HFx.out]; simp only; rw [if_pos (of_decide_eq_true hr)]
  clear hr
  obtain ⟨⟨⟨u0, r0⟩, f0⟩, ⟨⟨u1, r1⟩, f1⟩, ⟨⟨u2, r2⟩, f2⟩, ⟨⟨u3, r3⟩, f3⟩, ⟨⟨u4, r4⟩, f4⟩⟩ := HPw3.five
  have HB2 : Hid (Below w.heap.size w w3) := HPw3.bel
  clear HPw3
  go_wp2_with fail
  refine bodyPost_ret (v := .tuple #[.agg #[.string { data := #[] }, .int .i64 0, .int .i64 0, .slice none 0 0, .slice none 0 0], .int .i64 9]) (by simp [results, Tryz.results80, go_sem, r0, r1, r2, r3, r4]) rfl ⟨ChgR.err HM.out, below_set5' HB2.out (by omega) _ _ _ _ _⟩
 have hrs : ¬ 0 < x.step := of_decide_eq_false hr
 have HM0 : Hid (Px.startP s n = if s.clock < x.frm then (Px.st0, 10) else if Px.lockP s x.line = true then (Px.st0, 11) else ({ s with slots := Px.repl s.slots (Px.beg s x) }, 0)) := by
  unfold Hid Px.startP; rw [HFx.out]; simp only; rw [if_neg hrs]
 clear hr hrs
 obtain ⟨i0, i1, i2, i3, i4⟩ := HPw3.st
 obtain ⟨x0, x1, x2, x3, x4, x5, x6, x7⟩ := HXw3.out
 by_cases h10 : s.clock < x.frm
 ·have HM : Hid (Px.startP s n = (Px.st0, 10)) := by unfold Hid; rw [HM0.out, if_pos h10]
  clear HM0
  obtain ⟨⟨⟨u0, r0⟩, f0⟩, ⟨⟨u1, r1⟩, f1⟩, ⟨⟨u2, r2⟩, f2⟩, ⟨⟨u3, r3⟩, f3⟩, ⟨⟨u4, r4⟩, f4⟩⟩ := HPw3.five
  have HB2 : Hid (Below w.heap.size w w3) := HPw3.bel
  clear HPw3
  go_wp2_with fail
  refine bodyPost_ret (v := .tuple #[.agg #[.string { data := #[] }, .int .i64 0, .int .i64 0, .slice none 0 0, .slice none 0 0], .int .i64 10]) (by simp [results, Tryz.results80, go_sem, r0, r1, r2, r3, r4]) rfl ⟨ChgR.err HM.out, below_set5' HB2.out (by omega) _ _ _ _ _⟩
 have HM1 : Hid (Px.startP s n = if Px.lockP s x.line = true then (Px.st0, 11) else ({ s with slots := Px.repl s.slots (Px.beg s x) }, 0)) := by unfold Hid; rw [HM0.out, if_neg h10]
 have HPP3 : Hid (PRes w w3 s (.slice ad s.slots.length cap) (.slice ad2 s.ends.length cap2)) := HPw3
 clear HM0 HPw3
 go_wp2_with fail
 refine (plocked_any s x.line j _ _ _ HJ.out hjt hl HO.out.st.tab HTw3.out HSw3.out).mono ?_
 rintro e w5 ⟨rfl, hb5⟩
 clear i0 i1 i2 i3 i4 x0 x1 x2 x3 x4 x5 x6 x7
 have HPw5 := HPP3.out.later hb5
 have HSw5 := HSw3.out.later hb5
 have HXw5 := HXw3.out.later hb5
 clear HPP3 HSw3 HTw3 HXw3 hb5
 cases hk : Px.lockP s x.line
 rotate_left
 ·have HM : Hid (Px.startP s n = (Px.st0, 11)) := by unfold Hid; rw [HM1.out, hk]; rfl
  clear HM1 hk HSw5 HXw5
  obtain ⟨⟨⟨u0, r0⟩, f0⟩, ⟨⟨u1, r1⟩, f1⟩, ⟨⟨u2, r2⟩, f2⟩, ⟨⟨u3, r3⟩, f3⟩, ⟨⟨u4, r4⟩, f4⟩⟩ := HPw5.five
  have HB2 : Hid (Below w.heap.size w w5) := HPw5.bel
  clear HPw5
  go_wp2_with fail
  refine bodyPost_ret (v := .tuple #[.agg #[.string { data := #[] }, .int .i64 0, .int .i64 0, .slice none 0 0, .slice none 0 0], .int .i64 11]) (by simp [results, Tryz.results80, go_sem, r0, r1, r2, r3, r4]) rfl ⟨ChgR.err HM.out, below_set5' HB2.out (by omega) _ _ _ _ _⟩
 have HM : Hid (Px.startP s n = ({ s with slots := Px.repl s.slots (Px.beg s x) }, 0)) := by unfold Hid; rw [HM1.out, hk]; rfl
 clear HM1 hk
 have hb6 : Below w5.heap.size w5 (w5.alloc (.cells #[.int .i64 x.num, .int .i64 x.line, .int .i64 x.minute, .int .i64 x.att, .int .i64 x.frm, .int .i64 1, .int .i64 s.clock, .string x.heard] 154)) := below_alloc w5 _
 have HPx := HPw5.later hb6
 have HSx := HSw5.later hb6
 have HYx : PsIn (w5.alloc (.cells #[.int .i64 x.num, .int .i64 x.line, .int .i64 x.minute, .int .i64 x.att, .int .i64 x.frm, .int .i64 1, .int .i64 s.clock, .string x.heard] 154)) w5.heap.size (Px.beg s x) := PsIn.new w5 (Px.beg s x)
 obtain ⟨i0, i1, i2, i3, i4⟩ := HPw5.st
 have hzz := HPw5.lt
 have hz0 : w.heap.size < w5.heap.size := by omega
 obtain ⟨x0, x1, x2, x3, x4, x5, x6, x7⟩ := HXw5
 clear HPw5 HSw5 hb6
 go_upto_region 13 with fail
 clear i0 i1 i2 i3 i4 x0 x1 x2 x3 x4 x5 x6 x7
 generalize w5.alloc (.cells #[.int .i64 x.num, .int .i64 x.line, .int .i64 x.minute, .int .i64 x.att, .int .i64 x.frm, .int .i64 1, .int .i64 s.clock, .string x.heard] 154) = W7 at *
 generalize w5.heap.size = aq at *
 generalize Px.beg s x = y at *
 have HP8 := HPx.later (below_alloc W7 (pstO s (.slice ad s.slots.length cap) (.slice ad2 s.ends.length cap2)))
 have HS8 := HSx.later (below_alloc W7 (pstO s (.slice ad s.slots.length cap) (.slice ad2 s.ends.length cap2)))
 have HY8 := HYx.later (below_alloc W7 (pstO s (.slice ad s.slots.length cap) (.slice ad2 s.ends.length cap2)))
 have hA := PW.new W7 s (.slice ad s.slots.length cap) (.slice ad2 s.ends.length cap2)
 have hWq := HPx.lt
 obtain ⟨i0, i1, i2, i3, i4⟩ := HPx.st
 clear HSx HYx
 go_upto_region 14 with fail
 clear i0 i1 i2 i3 i4 HPx
 generalize W7.alloc (pstO s (.slice ad s.slots.length cap) (.slice ad2 s.ends.length cap2)) = W8 at *
 generalize W7.heap.size = q at *
 have HPP8 : Hid (PRes w W8 s (.slice ad s.slots.length cap) (.slice ad2 s.ends.length cap2)) := HP8
 have HSS8 : Hid (PAt W8 s (.slice ad s.slots.length cap) (.slice ad2 s.ends.length cap2)) := HS8
 have HAA8 : Hid (PW W8 q s (.slice ad s.slots.length cap) (.slice ad2 s.ends.length cap2)) := hA
 obtain ⟨i0, i1, i2, i3, i4⟩ := HP8.st
 obtain ⟨y0, y1, y2, y3, y4, y5, y6, y7⟩ := HY8
 clear HP8 HS8 hA
 go_wp2_with fail
 refine (preplaced_any s.slots y _ _ hl HSS8.out.sl.1).mono ?_
 rintro e w9 ⟨⟨v9, rfl, hown9⟩, hb9⟩
 clear i0 i1 i2 i3 i4 y0 y1 y2 y3 y4 y5 y6 y7
 obtain ⟨ad9, cap9, hv9, _⟩ := (RowAt.of_own hown9).form
 subst hv9
 have hA9 := HAA8.out.later hb9
 have a3 := hA9.st.c3
 have f3' := hA9.f 3 (by decide)
 have hq9 := hA9.ty.lt
 have HP10 := (HPP8.out.later hb9).set hWq 3 (.slice ad9 (Px.repl s.slots y).length cap9)
 have HA10 := hA9.slots (Px.repl s.slots y) (.slice ad9 (Px.repl s.slots y).length cap9)
 have HE10 := ((HSS8.out.later hb9).set hA9.ty (by decide) (by decide) 3 (.slice ad9 (Px.repl s.slots y).length cap9)).en
 have HO10 := (TRow.of_own hown9).set hA9.ty (by decide) 3 (.slice ad9 (Px.repl s.slots y).length cap9)
 clear hA9 hown9 hb9 HPP8 HSS8 HAA8
 go_upto_region 15 with fail
 clear a3 f3'
 generalize w9.setCell ⟨q, 3, none⟩ (.slice ad9 (Px.repl s.slots y).length cap9) = W10 at *
 have HX : Hid (PEnd w W10 q { s with slots := Px.repl s.slots y } (.slice ad9 (Px.repl s.slots y).length cap9) (.slice ad2 s.ends.length cap2)) := ⟨HA10, ⟨HO10, HE10⟩, HP10.z, HP10.ty, HP10.bel⟩
 obtain ⟨⟨⟨u0, r0⟩, f0⟩, ⟨⟨u1, r1⟩, f1⟩, ⟨⟨u2, r2⟩, f2⟩, ⟨⟨u3, r3⟩, f3⟩, ⟨⟨u4, r4⟩, f4⟩⟩ := HP10.five
 obtain ⟨c0, c1, c2, c3, c4⟩ := HA10.st
 clear HP10 HA10 HE10 HO10
 go_wp2_with fail
 refine bodyPost_ret (v := .tuple #[pstV { s with slots := Px.repl s.slots y } (.slice ad9 (Px.repl s.slots y).length cap9) (.slice ad2 s.ends.length cap2), .int .i64 0]) (by simp [results, Tryz.results80, go_sem, r0, r1, r2, r3, r4]) rfl ⟨ChgR.ok HM.out (HX.out.fin _ _ _ _ _).1, (HX.out.fin _ _ _ _ _).2⟩
end Go.Proofs.YtdajolpoiffimaaGreatDoor

namespace Go.Proofs.YtdajolpoiffimaaGreatDoor
open Go.RowKit

end Go.Proofs.YtdajolpoiffimaaGreatDoor

namespace Go.Proofs.YtdajolpoiffimaaGreatDoor
open Go.RowKit

end Go.Proofs.YtdajolpoiffimaaGreatDoor

namespace Go.Proofs.YtdajolpoiffimaaGreatDoor
open Go.RowKit

end Go.Proofs.YtdajolpoiffimaaGreatDoor

namespace Go.Proofs.YtdajolpoiffimaaGreatDoor
open Go.RowKit
attribute [local go_sem] Bx.be_size

theorem sl_enc (x : Bx.Sl) (m : Int) (hm : m = Bx.mk1 x.runs) : Bx.be x.num 2 ++ Bx.be x.line 1 ++ Bx.be x.minute 5 ++ Bx.be x.att 1 ++ Bx.be x.frm 5 ++ Bx.be m 1 = Bx.encSl x := by
 subst hm; unfold Bx.encSl; simp only [ByteArray.append_assoc]
set_option maxRecDepth 10000 in
set_option maxHeartbeats 2000000 in
theorem pslotPart_any (x : Px.Sl) (w : World) (hf : Bx.SlFit (Px.absS x)) :
 Calls Tryz.prog 148 #[psV x] w fun e w' => e = .returned (.string (Bx.encSl (Px.absS x))) ∧ Below w.heap.size w w' := by
 have n1 := hf.n; have n2 := hf.l; have n3 := hf.m; have n4 := hf.a; have n5 := hf.f
 simp only [Px.absS] at n1 n2 n3 n4 n5
 obtain ⟨a1, b1⟩ := n1
 obtain ⟨a2, b2⟩ := n2
 obtain ⟨a3, b3⟩ := n3
 obtain ⟨a4, b4⟩ := n4
 obtain ⟨a5, b5⟩ := n5
 have HE : Hid (∀ m : Int, m = Bx.mk1 (decide (0 < x.step)) → Bx.be x.num 2 ++ Bx.be x.line 1 ++ Bx.be x.minute 5 ++ Bx.be x.att 1 ++ Bx.be x.frm 5 ++ Bx.be m 1 = Bx.encSl (Px.absS x)) := fun m hm => sl_enc (Px.absS x) m hm
 have hb0 := below_alloc w (psO x)
 have hI := PsIn.new w x
 clear hf
 go_enter Tryz.func148, Tryz.ntmps148
 go_upto_region 1 with fail
 generalize w.alloc (psO x) = W at *
 have HI : Hid (PsIn W w.heap.size x) := hI
 have HB : Hid (Below w.heap.size w W) := hb0
 have c0 := hI.c0
 clear hI hb0
 go_wp2_with fail
 refine (digits_at _ _ x.num 2 _ rfl rfl (by omega) (by omega) (by decide)).mono ?_
 rintro e w1 ⟨rfl, hb1⟩
 have HI1 : Hid (PsIn w1 w.heap.size x) := HI.out.later hb1
 have HB1 : Hid (Below w.heap.size w w1) := HB.out.trans (hb1.mono HB.out.size)
 clear HI HB hb1 c0
 have c1 := HI1.out.c1
 go_wp2_with fail
 refine (digits_at _ _ x.line 1 _ rfl rfl (by omega) (by omega) (by decide)).mono ?_
 rintro e w2 ⟨rfl, hb1⟩
 have HI2 : Hid (PsIn w2 w.heap.size x) := HI1.out.later hb1
 have HB2 : Hid (Below w.heap.size w w2) := HB1.out.trans (hb1.mono HB1.out.size)
 clear HI1 HB1 hb1 c1
 have c2 := HI2.out.c2
 go_wp2_with fail
 refine (digits_at _ _ x.minute 5 _ rfl rfl (by omega) (by omega) (by decide)).mono ?_
 rintro e w3 ⟨rfl, hb1⟩
 have HI3 : Hid (PsIn w3 w.heap.size x) := HI2.out.later hb1
 have HB3 : Hid (Below w.heap.size w w3) := HB2.out.trans (hb1.mono HB2.out.size)
 clear HI2 HB2 hb1 c2
 have c3 := HI3.out.c3
 go_wp2_with fail
 refine (digits_at _ _ x.att 1 _ rfl rfl (by omega) (by omega) (by decide)).mono ?_
 rintro e w4 ⟨rfl, hb1⟩
 have HI4 : Hid (PsIn w4 w.heap.size x) := HI3.out.later hb1
 have HB4 : Hid (Below w.heap.size w w4) := HB3.out.trans (hb1.mono HB3.out.size)
 clear HI3 HB3 hb1 c3
 have c4 := HI4.out.c4
 go_wp2_with fail
 refine (digits_at _ _ x.frm 5 _ rfl rfl (by omega) (by omega) (by decide)).mono ?_
 rintro e w5 ⟨rfl, hb1⟩
 have HI5 : Hid (PsIn w5 w.heap.size x) := HI4.out.later hb1
 have HB5 : Hid (Below w.heap.size w w5) := HB4.out.trans (hb1.mono HB4.out.size)
 clear HI4 HB4 hb1 c4
 obtain ⟨d0, d1, d2, d3, d4, d5, d6, d7⟩ := HI5.out
 go_wp2_with fail
 refine (runs_any x _).mono ?_
 rintro e w6 ⟨rfl, hb1⟩
 have HB6 : Hid (Below w.heap.size w w6) := HB5.out.trans (hb1.mono HB5.out.size)
 clear HI5 HB5 hb1 d0 d1 d2 d3 d4 d5 d6 d7
 by_cases hr : 0 < x.step
 ·have hrd : decide (0 < x.step) = true := decide_eq_true hr
  have HE1 : Hid (Bx.be x.num 2 ++ Bx.be x.line 1 ++ Bx.be x.minute 5 ++ Bx.be x.att 1 ++ Bx.be x.frm 5 ++ Bx.be 1 1 = Bx.encSl (Px.absS x)) := HE.out 1 (by rw [hrd]; rfl)
  clear HE hr
  go_wp2_with fail
  refine (digits_at _ _ 1 1 _ rfl rfl (by omega) (by omega) (by decide)).mono ?_
  rintro e w7 ⟨rfl, hb1⟩
  have HB7 : Hid (Below w.heap.size w w7) := HB6.out.trans (hb1.mono HB6.out.size)
  clear HB6 hb1
  go_wp2_with fail
  go_ret
  exact ⟨ret_str HE1.out, HB7.out⟩
 ·have hrd : decide (0 < x.step) = false := decide_eq_false hr
  have HE1 : Hid (Bx.be x.num 2 ++ Bx.be x.line 1 ++ Bx.be x.minute 5 ++ Bx.be x.att 1 ++ Bx.be x.frm 5 ++ Bx.be 0 1 = Bx.encSl (Px.absS x)) := HE.out 0 (by rw [hrd]; rfl)
  clear HE hr
  go_wp2_with fail
  refine (digits_at _ _ 0 1 _ rfl rfl (by omega) (by omega) (by decide)).mono ?_
  rintro e w7 ⟨rfl, hb1⟩
  have HB7 : Hid (Below w.heap.size w w7) := HB6.out.trans (hb1.mono HB6.out.size)
  clear HB6 hb1
  go_wp2_with fail
  go_ret
  exact ⟨ret_str HE1.out, HB7.out⟩
/-- The slots' texts, one behind the other. -/
def encA (x : Px.Sl) : ByteArray := Bx.encSl (Px.absS x)
theorem cat_take {α : Type} (f : α → ByteArray) (l : List α) (k : Nat) (h : k < l.length) : Bx.cat ((l.take (k + 1)).map f) = Bx.cat ((l.take k).map f) ++ f l[k] := by
 rw [List.take_succ_eq_append_getElem h, List.map_append, List.map_cons, List.map_nil, Bx.cat_snoc]
set_option maxRecDepth 10000 in
set_option maxHeartbeats 2000000 in
theorem pslotsPart_any (l : List Px.Sl) (sl : Value) (w : World) (hl : l.length ≤ 255) (hf : ∀ x ∈ l, Bx.SlFit (Px.absS x)) (hS : RowAt w sl l.length (l.flatMap psC)) :
 Calls Tryz.prog 100 #[sl] w fun e w' => e = .returned (.string (Bx.be l.length 1 ++ Bx.cat (l.map encA))) ∧ Below w.heap.size w w' := by
 obtain ⟨ad, cap, rfl, hcap⟩ := hS.form
 have HR : Hid (RowAt w (.slice ad l.length cap) l.length (l.flatMap psC)) := hS
 have HF : Hid (∀ x ∈ l, Bx.SlFit (Px.absS x)) := hf
 clear hS hf
 go_enter Tryz.func100, Tryz.ntmps100
 go_wp2_with fail
 refine (digits_at _ _ (l.length : Int) 1 _ rfl rfl (by omega) (by omega) (by decide)).mono ?_
 rintro e w1 ⟨rfl, hb1⟩
 have HB1 : Hid (Below w.heap.size w w1) := hb1
 clear hb1
 go_wp2_with fail
 go_loopw [3, 4] (fun tv i wr => ∃ k : Nat, k ≤ l.length ∧ i = .int .i64 k ∧ tv = .string (Bx.be l.length 1 ++ Bx.cat ((l.take k).map encA)) ∧ Below w.heap.size w wr) (fun _ i _ => l.length - (intOf i).toNat)
 case atStart => exact ⟨0, Nat.zero_le _, rfl, by simp [Bx.cat], HB1.out⟩
 case round =>
  obtain ⟨k, hk, rfl, rfl, hbr⟩ := hrel
  have HBr : Hid (Below w.heap.size w wr) := hbr
  by_cases hlt : k < l.length
  ·obtain ⟨b, off, cap', hv, _, hc⟩ := (HR.out.later hbr).some' (by omega)
   cases hv
   obtain ⟨d0, d1, d2, d3, d4, d5, d6, d7⟩ := ps_cells hc k hlt
   have b1 : (0 : Int) ≤ (k : Int) := by omega
   have b2 : (k : Int) < (l.length : Int) := by omega
   have HFx := HF.out _ (List.getElem_mem hlt)
   have HN : Hid (Bx.be l.length 1 ++ Bx.cat ((l.take (k + 1)).map encA) = (Bx.be l.length 1 ++ Bx.cat ((l.take k).map encA)) ++ Bx.encSl (Px.absS l[k])) := by
    unfold Hid; rw [cat_take encA l k hlt, ByteArray.append_assoc]; rfl
   have hz : (Bx.be l.length 1 ++ Bx.cat ((l.take k).map encA)).size ≤ 10000 := by
    have h1 := Bx.cat_size encA 15 (l.take k) (fun x _ => Bx.encSl_size _)
    have h2 : (l.take k).length ≤ 255 := by simp; omega
    rw [ByteArray.size_append, Bx.be_size, h1]; omega
   have hz2 : (Bx.encSl (Px.absS l[k])).size = 15 := Bx.encSl_size _
   have q9 : ¬ 9223372036854775807 < (Bx.be l.length 1 ++ Bx.cat ((l.take k).map encA)).size + 15 := by omega
   clear hc hbr
   generalize l[k] = x at *
   generalize Bx.be l.length 1 ++ Bx.cat ((l.take k).map encA) = tx at *
   go_wp2_with fail
   refine (pslotPart_any x _ HFx).mono ?_
   rintro e w2 ⟨rfl, hb2⟩
   have HB2 : Hid (Below w.heap.size w w2) := HBr.out.trans (hb2.mono HBr.out.size)
   clear hb2 HBr d0 d1 d2 d3 d4 d5 d6 d7
   generalize Bx.encSl (Px.absS x) = en at *
   go_wp2_with fail
   go_roundw
   case rel => exact ⟨k + 1, by omega, by go_num, by rw [HN.out], HB2.out⟩
   case measure => simp [intOf]; omega
  ·obtain rfl : k = l.length := by omega
   have HL : Hid (l.take l.length = l) := List.take_length
   generalize l.take l.length = l' at *
   go_wp2_with fail
   go_ret
   exact ⟨ret_str (by rw [HL.out]), HBr.out⟩
set_option maxRecDepth 10000 in
set_option maxHeartbeats 2000000 in
theorem pendsPart_any (l : List Bx.En) (sl : Value) (w : World) (hl : l.length ≤ 255) (hf : ∀ x ∈ l, Bx.EnFit x) (hS : RowAt w sl l.length (l.flatMap enC)) :
 Calls Tryz.prog 101 #[sl] w fun e w' => e = .returned (.string (Bx.be l.length 1 ++ Bx.cat (l.map Bx.encEn))) ∧ Below w.heap.size w w' := by
 obtain ⟨ad, cap, rfl, hcap⟩ := hS.form
 have HR : Hid (RowAt w (.slice ad l.length cap) l.length (l.flatMap enC)) := hS
 have HF : Hid (∀ x ∈ l, Bx.EnFit x) := hf
 clear hS hf
 go_enter Tryz.func101, Tryz.ntmps101
 go_wp2_with fail
 refine (digits_at _ _ (l.length : Int) 1 _ rfl rfl (by omega) (by omega) (by decide)).mono ?_
 rintro e w1 ⟨rfl, hb1⟩
 have HB1 : Hid (Below w.heap.size w w1) := hb1
 clear hb1
 go_wp2_with fail
 go_loopw [3, 4] (fun tv i wr => ∃ k : Nat, k ≤ l.length ∧ i = .int .i64 k ∧ tv = .string (Bx.be l.length 1 ++ Bx.cat ((l.take k).map Bx.encEn)) ∧ Below w.heap.size w wr) (fun _ i _ => l.length - (intOf i).toNat)
 case atStart => exact ⟨0, Nat.zero_le _, rfl, by simp [Bx.cat], HB1.out⟩
 case round =>
  obtain ⟨k, hk, rfl, rfl, hbr⟩ := hrel
  have HBr : Hid (Below w.heap.size w wr) := hbr
  by_cases hlt : k < l.length
  ·obtain ⟨b, off, cap', hv, _, hc⟩ := (HR.out.later hbr).some' (by omega)
   cases hv
   have d0 : wr.cell? ⟨b, off + k * 2, none⟩ = some (.int .i64 l[k].num) := RowAt.cell enC_len hc k hlt 0 (by decide)
   have d1 : wr.cell? ⟨b, off + k * 2 + 1, none⟩ = some (.string l[k].how) := RowAt.cell enC_len hc k hlt 1 (by decide)
   have b1 : (0 : Int) ≤ (k : Int) := by omega
   have b2 : (k : Int) < (l.length : Int) := by omega
   have HFx := HF.out _ (List.getElem_mem hlt)
   obtain ⟨e1, e2⟩ := HFx.n
   have hh := HFx.h
   have HN : Hid (Bx.be l.length 1 ++ Bx.cat ((l.take (k + 1)).map Bx.encEn) = (Bx.be l.length 1 ++ Bx.cat ((l.take k).map Bx.encEn)) ++ Bx.be l[k].num 2 ++ l[k].how) := by
    unfold Hid; rw [cat_take Bx.encEn l k hlt]; unfold Bx.encEn; simp only [ByteArray.append_assoc]
   have hz : (Bx.be l.length 1 ++ Bx.cat ((l.take k).map Bx.encEn)).size ≤ 10000 := by
    have h1 := Bx.cat_size Bx.encEn 3 (l.take k) (fun x hx => by unfold Bx.encEn; rw [ByteArray.size_append, Bx.be_size, (HF.out x (List.mem_of_mem_take hx)).h])
    have h2 : (l.take k).length ≤ 255 := by simp; omega
    rw [ByteArray.size_append, Bx.be_size, h1]; omega
   have q8 : ¬ 9223372036854775807 < (Bx.be l.length 1 ++ Bx.cat ((l.take k).map Bx.encEn)).size + 2 := by omega
   have q9 : ¬ 9223372036854775807 < (Bx.be l.length 1 ++ Bx.cat ((l.take k).map Bx.encEn)).size + 2 + l[k].how.size := by omega
   have HLt : Hid (b < wr.heap.size) := World.block_lt_of_cell? _ _ d0
   clear hc hbr HFx hh
   generalize l[k] = x at *
   generalize Bx.be l.length 1 ++ Bx.cat ((l.take k).map Bx.encEn) = tx at *
   go_wp2_with fail
   refine (digits_at _ _ x.num 2 _ rfl rfl (by omega) (by omega) (by decide)).mono ?_
   rintro e w2 ⟨rfl, hb2⟩
   have HB2 : Hid (Below w.heap.size w w2) := HBr.out.trans (hb2.mono HBr.out.size)
   have d1' := cell_later hb2 d1
   clear hb2 HBr d0 d1
   go_wp2_with fail
   go_roundw
   case rel => exact ⟨k + 1, by omega, by go_num, by rw [HN.out], HB2.out⟩
   case measure => simp [intOf]; omega
  ·obtain rfl : k = l.length := by omega
   have HL : Hid (l.take l.length = l) := List.take_length
   generalize l.take l.length = l' at *
   go_wp2_with fail
   go_ret
   exact ⟨ret_str (by rw [HL.out]), HBr.out⟩
end Go.Proofs.YtdajolpoiffimaaGreatDoor

namespace Go.Proofs.YtdajolpoiffimaaGreatDoor
open Go.RowKit

def slotA (l : List Px.Sl) (i : Int) : Px.Sl × Int := if 0 ≤ i ∧ i < (l.length : Int) then (l.getD i.toNat Px.sl0, 0) else (Px.sl0, 4)
def endA (l : List Bx.En) (i : Int) : Bx.En × Int := if 0 ≤ i ∧ i < (l.length : Int) then (l.getD i.toNat ⟨0, ByteArray.empty⟩, 0) else (⟨0, ByteArray.empty⟩, 4)
theorem slotA_no {l : List Px.Sl} {i : Int} (h : i < 0 ∨ (l.length : Int) ≤ i) : slotA l i = (Px.sl0, 4) := if_neg (by omega)
theorem slotA_yes {l : List Px.Sl} {k : Nat} (h : k < l.length) : slotA l (k : Int) = (l[k], 0) := by
 unfold slotA; rw [if_pos (by omega), Int.toNat_natCast]; simp [h]
theorem endA_no {l : List Bx.En} {i : Int} (h : i < 0 ∨ (l.length : Int) ≤ i) : endA l i = (⟨0, ByteArray.empty⟩, 4) := if_neg (by omega)
theorem endA_yes {l : List Bx.En} {k : Nat} (h : k < l.length) : endA l (k : Int) = (l[k], 0) := by
 unfold endA; rw [if_pos (by omega), Int.toNat_natCast]; simp [h]
theorem slotR_eq {l : List Px.Sl} {i : Int} {e : Ending} (h : SlotR l i e) : e = .returned (.tuple #[paslV (slotA l i).1, .int .i64 (slotA l i).2]) := by
 cases h with
 | no h => rw [slotA_no h]; rfl
 | yes k hk h => subst h; rw [slotA_yes hk]
abbrev enV (x : Bx.En) : Value := .agg #[.int .i64 x.num, .string x.how]
theorem endR_eq {l : List Bx.En} {i : Int} {e : Ending} (h : EndR l i e) : e = .returned (.tuple #[enV (endA l i).1, .int .i64 (endA l i).2]) := by
 cases h with
 | no h => rw [endA_no h]; rfl
 | yes k hk h => subst h; rw [endA_yes hk]
theorem xslot_any (b : Px.Bo) (B : Nat) (i : Int) (w : World) (hO : Px.Ok b.st) (hB : ∃ sl en, PB w B b sl en) :
 Calls Tryz.prog 62 #[.pointer (some ⟨B, 0, none⟩), .int .i64 i] w fun e w' => e = .returned (.tuple #[paslV (slotA b.st.slots i).1, .int .i64 (slotA b.st.slots i).2]) ∧ Below w.heap.size w w' := by
 obtain ⟨sl, en, hB⟩ := hB
 exact (pslot_any b B i sl en w (by have := hO.len; omega) hB).mono fun e w' h => ⟨slotR_eq h.1, h.2⟩
theorem xend_any (b : Px.Bo) (B : Nat) (i : Int) (w : World) (hO : Px.Ok b.st) (hB : ∃ sl en, PB w B b sl en) :
 Calls Tryz.prog 64 #[.pointer (some ⟨B, 0, none⟩), .int .i64 i] w fun e w' => e = .returned (.tuple #[enV (endA b.st.ends i).1, .int .i64 (endA b.st.ends i).2]) ∧ Below w.heap.size w w' := by
 obtain ⟨sl, en, hB⟩ := hB
 exact (pend_any b B i sl en w (by have : b.st.ends.length ≤ 6 := hO.st.en; omega) hB).mono fun e w' h => ⟨endR_eq h.1, h.2⟩
theorem xlook_any (b : Px.Bo) (B : Nat) (w : World) (hB : ∃ sl en, PB w B b sl en) :
 Calls Tryz.prog 31 #[.pointer (some ⟨B, 0, none⟩)] w fun e w' => e = .returned (pviewV b.st) ∧ Below w.heap.size w w' := by
 obtain ⟨sl, en, hB⟩ := hB; exact plook_any b B sl en w hB
theorem xlog_any (b : Px.Bo) (B : Nat) (w : World) (hB : ∃ sl en, PB w B b sl en) :
 Calls Tryz.prog 11 #[.pointer (some ⟨B, 0, none⟩)] w fun e w' => e = .returned (.string b.log) ∧ w' = w := by
 obtain ⟨sl, en, hB⟩ := hB; exact plog_any b B sl en w hB
end Go.Proofs.YtdajolpoiffimaaGreatDoor

namespace Go.Proofs.YtdajolpoiffimaaGreatDoor
open Go.RowKit

/-- A field of a line holds a value: the call, at a world that holds the line. -/
theorem lineField_any (s : ByteArray) (bb cc : Nat → Nat) (t : Nat) (v : Int) (w : World) (x : Bool) (hx : x = Txt.hldB (lo t) (hi t) v (pt s t)) (hs : s.size ≤ 300) (ht : t < 5) (hP : LineP s) (hA : LineAt w s bb cc) (v1 : 0 ≤ v) (v2 : v ≤ 60) :
 Calls Tryz.prog 195 #[.agg #[.bool (Txt.opn (pt s t)), .slice (some ⟨bb t, 0, none⟩) (Txt.pcs 44 (pt s t)).length (cc t)], .int .i64 v] w fun e w' => e = .returned (.bool x) ∧ Below w.heap.size w w' :=
 hx ▸ fieldHolds_any (pt s t) (lo t) (hi t) v _ (bb t) (cc t) w (hP.sz hs t ht) (lohi t).1 (lohi t).2.2.2 v1 v2 (hP.fl t ht) (hA t ht).2 (hA t ht).1

set_option maxHeartbeats 2000000 in
theorem dueOnDay_any (s : ByteArray) (bb cc : Nat → Nat) (ads : Option Addr) (ns caps : Nat) (y m d h i k : Int) (w : World) (hs : s.size ≤ 300) (hP : LineP s) (hA : LineAt w s bb cc) (d1 : 0 ≤ d) (d2 : d ≤ 60) (k1 : 0 ≤ k) (k2 : k ≤ 60) :
 Calls Tryz.prog 196 #[lineV s bb cc (.slice ads ns caps), dateV y m d h i k] w fun e w' => e = .returned (.bool (dayB s d k)) ∧ Below w.heap.size w w' := by
 have HP : Hid (LineP s) := hP
 have HA : Hid (∀ o1 o2, LineAt ((w.alloc o1).alloc o2) s bb cc) := fun o1 o2 => (hA.later (below_alloc _ _)).later (below_alloc _ _)
 obtain ⟨x, hx⟩ : ∃ x : Bool, x = Txt.hldB (lo 2) (hi 2) d (pt s 2) := ⟨_, rfl⟩
 obtain ⟨z, hz⟩ : ∃ z : Bool, z = Txt.hldB (lo 4) (hi 4) k (pt s 4) := ⟨_, rfl⟩
 have HX : Hid (x = Txt.hldB (lo 2) (hi 2) d (pt s 2)) := hx
 have HZ : Hid (z = Txt.hldB (lo 4) (hi 4) k (pt s 4)) := hz
 have HD : Hid (dayB s d k = if (Txt.opn (pt s 2) || Txt.opn (pt s 4)) = true then (x && z) else (x || z)) := by unfold Hid; rw [dayB, hx, hz]
 clear hx hz
 clear hP hA
 go_enter Tryz.func196, Tryz.ntmps196
 go_wp2_with fail
 refine (lineField_any s bb cc 2 _ _ x HX.out hs (by decide) HP.out (HA.out _ _) d1 d2).mono ?_
 rintro e w1 ⟨rfl, hb1⟩
 have HA1 : Hid (LineAt w1 s bb cc) := (HA.out _ _).later hb1
 have B1 : Hid (Below w.heap.size w w1) := ((below_alloc w _).alloc (by simp) _).trans (hb1.mono (by simp; omega))
 obtain ⟨hc1, hf1⟩ := bcell hb1
 have hz1 : w.heap.size + 1 < w1.heap.size := by have := hb1.size; simp at this; omega
 have hz0 : w.heap.size < w1.heap.size := by omega
 clear hb1 HA
 go_wp2_with fail
 refine (lineField_any s bb cc 4 _ _ z HZ.out hs (by decide) HP.out HA1.out k1 k2).mono ?_
 rintro e w2 ⟨rfl, hb2⟩
 have B2 : Hid (Below w.heap.size w w2) := B1.out.trans (hb2.mono (by omega))
 obtain ⟨hc2, hf2⟩ := bcell hb2
 clear hb2
 clear HX HZ
 have leaf : ∀ r : Bool, r = dayB s d k → Hid (r = dayB s d k) := fun _ h => h
 cases ho2 : Txt.opn (pt s 2)
 ·cases ho4 : Txt.opn (pt s 4)
  ·have D : Hid ((x || z) = dayB s d k) := by unfold Hid; rw [HD.out, ho2, ho4]; rfl
   clear HD leaf
   cases x
   ·go_wp2_with fail
    go_ret
    exact ⟨ret_bool' D.out, B2.out⟩
   ·go_wp2_with fail
    go_ret
    exact ⟨ret_bool' D.out, B2.out⟩
  ·have D : Hid ((x && z) = dayB s d k) := by unfold Hid; rw [HD.out, ho2, ho4]; rfl
   clear HD leaf
   cases x
   ·go_wp2_with fail
    go_ret
    exact ⟨ret_bool' D.out, B2.out⟩
   ·go_wp2_with fail
    go_ret
    exact ⟨ret_bool' D.out, B2.out⟩
 ·have D : Hid ((x && z) = dayB s d k) := by unfold Hid; rw [HD.out, ho2]; rfl
  clear HD leaf
  cases x
  ·go_wp2_with fail
   go_ret
   exact ⟨ret_bool' D.out, B2.out⟩
  ·go_wp2_with fail
   go_ret
   exact ⟨ret_bool' D.out, B2.out⟩

set_option maxHeartbeats 2000000 in
theorem due_any (s : ByteArray) (bb cc : Nat → Nat) (ads : Option Addr) (ns caps : Nat) (y m d h i k : Int) (w : World) (hs : s.size ≤ 300) (hP : LineP s) (hA : LineAt w s bb cc) (m1 : 0 ≤ m) (m2 : m ≤ 60) (d1 : 0 ≤ d) (d2 : d ≤ 60) (h1 : 0 ≤ h) (h2 : h ≤ 60) (i1 : 0 ≤ i) (i2 : i ≤ 60) (k1 : 0 ≤ k) (k2 : k ≤ 60) :
 Calls Tryz.prog 157 #[lineV s bb cc (.slice ads ns caps), dateV y m d h i k] w fun e w' => e = .returned (.bool (dueB s m d h i k)) ∧ Below w.heap.size w w' := by
 have HP : Hid (LineP s) := hP
 have HA : Hid (∀ o1 o2, LineAt ((w.alloc o1).alloc o2) s bb cc) := fun o1 o2 => (hA.later (below_alloc _ _)).later (below_alloc _ _)
 obtain ⟨x, hx⟩ : ∃ x : Bool, x = Txt.hldB (lo 0) (hi 0) i (pt s 0) := ⟨_, rfl⟩
 obtain ⟨y', hy⟩ : ∃ x : Bool, x = Txt.hldB (lo 1) (hi 1) h (pt s 1) := ⟨_, rfl⟩
 obtain ⟨z, hz⟩ : ∃ z : Bool, z = Txt.hldB (lo 3) (hi 3) m (pt s 3) := ⟨_, rfl⟩
 have HX : Hid (x = Txt.hldB (lo 0) (hi 0) i (pt s 0)) := hx
 have HY : Hid (y' = Txt.hldB (lo 1) (hi 1) h (pt s 1)) := hy
 have HZ : Hid (z = Txt.hldB (lo 3) (hi 3) m (pt s 3)) := hz
 have HD : Hid (dueB s m d h i k = (x && (y' && (z && dayB s d k)))) := by unfold Hid; rw [dueB, hx, hy, hz]
 clear hP hA hx hy hz
 go_enter Tryz.func157, Tryz.ntmps157
 go_wp2_with fail
 refine (lineField_any s bb cc 0 _ _ x HX.out hs (by decide) HP.out (HA.out _ _) i1 i2).mono ?_
 rintro e w1 ⟨rfl, hb1⟩
 have HA1 : Hid (LineAt w1 s bb cc) := (HA.out _ _).later hb1
 have B1 : Hid (Below w.heap.size w w1) := ((below_alloc w _).alloc (by simp) _).trans (hb1.mono (by simp; omega))
 obtain ⟨hc1, hf1⟩ := bcell hb1
 have hz1 : w.heap.size + 1 < w1.heap.size := by have := hb1.size; simp at this; omega
 have hz0 : w.heap.size < w1.heap.size := by omega
 clear hb1 HA HX
 cases x
 ·have D : Hid (false = dueB s m d h i k) := by unfold Hid; rw [HD.out]; rfl
  clear HD
  go_wp2_with fail
  go_ret
  exact ⟨ret_bool' D.out, B1.out⟩
 go_wp2_with fail
 refine (lineField_any s bb cc 1 _ _ y' HY.out hs (by decide) HP.out HA1.out h1 h2).mono ?_
 rintro e w2 ⟨rfl, hb2⟩
 have HA2 : Hid (LineAt w2 s bb cc) := HA1.out.later hb2
 have B2 : Hid (Below w.heap.size w w2) := B1.out.trans (hb2.mono (by omega))
 obtain ⟨hc2, hf2⟩ := bcell hb2
 have hz2 : w.heap.size + 1 < w2.heap.size := by have := hb2.size; omega
 have hz20 : w.heap.size < w2.heap.size := by omega
 clear hb2 HA1 HY
 cases y'
 ·have D : Hid (false = dueB s m d h i k) := by unfold Hid; rw [HD.out]; rfl
  clear HD
  go_wp2_with fail
  go_ret
  exact ⟨ret_bool' D.out, B2.out⟩
 go_wp2_with fail
 refine (lineField_any s bb cc 3 _ _ z HZ.out hs (by decide) HP.out HA2.out m1 m2).mono ?_
 rintro e w3 ⟨rfl, hb3⟩
 have HA3 : Hid (LineAt w3 s bb cc) := HA2.out.later hb3
 have B3 : Hid (Below w.heap.size w w3) := B2.out.trans (hb3.mono (by omega))
 obtain ⟨hc3, hf3⟩ := bcell hb3
 have hz3 : w.heap.size + 1 < w3.heap.size := by have := hb3.size; omega
 clear hb3 HA2 HZ
 cases z
 ·have D : Hid (false = dueB s m d h i k) := by unfold Hid; rw [HD.out]; rfl
  clear HD
  go_wp2_with fail
  go_ret
  exact ⟨ret_bool' D.out, B3.out⟩
 have D : Hid (dayB s d k = dueB s m d h i k) := by unfold Hid; rw [HD.out]; rfl
 clear HD
 go_wp2_with fail
 refine (dueOnDay_any s bb cc ads ns caps y m d h i k _ hs HP.out HA3.out d1 d2 k1 k2).mono ?_
 rintro e w4 ⟨rfl, hb4⟩
 have B4 : Hid (Below w.heap.size w w4) := B3.out.trans (hb4.mono (by omega))
 clear hb4
 go_wp2_with fail
 go_ret
 exact ⟨ret_bool' D.out, B4.out⟩
end Go.Proofs.YtdajolpoiffimaaGreatDoor

namespace Go.Proofs.YtdajolpoiffimaaGreatDoor
open Go.RowKit

attribute [local go_sem ↓] Go.wp_at_zero Go.wp_at_succ

end Go.Proofs.YtdajolpoiffimaaGreatDoor

namespace Go.Proofs.YtdajolpoiffimaaGreatDoor
open Go.RowKit

set_option maxHeartbeats 1000000 in
theorem pahead_any (s : Px.St) (m : Int) (sl en : Value) (w : World) (c1 : -1 ≤ s.clock) (c2 : s.clock ≤ 4223371679) (m1 : 0 ≤ m) (m2 : m ≤ 4223371679) (hS : PAt w s sl en) :
 Calls Tryz.prog 115 #[pstV s sl en, .int .i64 m] w fun e w' => e = .returned (.bool (Px.aheadP s m)) ∧ Below w.heap.size w w' := by
 obtain ⟨ad, cap, rfl, hcap⟩ := hS.sl.form
 obtain ⟨ad2, cap2, rfl, hcap2⟩ := hS.en.form
 clear hS
 by_cases h1 : m ≤ s.clock
 ·have HM : Hid (Px.aheadP s m = false) := decide_eq_false (by omega)
  go_enter Tryz.func115, Tryz.ntmps115
  go_wp2_with fail
  go_ret
  exact ⟨ret_bool' HM.out.symm, below_alloc _ _⟩
 by_cases h2 : s.clock = -1
 ·have HM : Hid (Px.aheadP s m = true) := decide_eq_true (by omega)
  have h2' : (s.clock == -1) = true := by simpa using h2
  clear h2
  go_enter Tryz.func115, Tryz.ntmps115
  go_wp2_with fail
  go_ret
  exact ⟨ret_bool' HM.out.symm, below_alloc _ _⟩
 have h2' : (s.clock == -1) = false := by simpa using h2
 by_cases h3 : m - s.clock ≤ 1500
 ·have HM : Hid (Px.aheadP s m = true) := decide_eq_true (by omega)
  clear h2
  go_enter Tryz.func115, Tryz.ntmps115
  go_wp2_with fail
  go_ret
  exact ⟨ret_bool' HM.out.symm, below_alloc _ _⟩
 ·have HM : Hid (Px.aheadP s m = false) := decide_eq_false (by omega)
  clear h2
  go_enter Tryz.func115, Tryz.ntmps115
  go_wp2_with fail
  go_ret
  exact ⟨ret_bool' HM.out.symm, below_alloc _ _⟩
set_option maxHeartbeats 1000000 in
theorem firstNew_any (s : Px.St) (m : Int) (sl en : Value) (w : World) (c1 : -1 ≤ s.clock) (c2 : s.clock ≤ 4223371679) (hS : PAt w s sl en) :
 Calls Tryz.prog 117 #[pstV s sl en, .int .i64 m] w fun e w' => e = .returned (.int .i64 (Px.newA s m)) ∧ Below w.heap.size w w' := by
 obtain ⟨ad, cap, rfl, hcap⟩ := hS.sl.form
 obtain ⟨ad2, cap2, rfl, hcap2⟩ := hS.en.form
 clear hS
 by_cases h2 : s.clock = -1
 ·have HM : Hid (Px.newA s m = m) := if_pos h2
  have h2' : (s.clock == -1) = true := by simpa using h2
  clear h2
  go_enter Tryz.func117, Tryz.ntmps117
  go_wp2_with fail
  go_ret
  exact ⟨ret_int' HM.out.symm, below_alloc _ _⟩
 ·have HM : Hid (Px.newA s m = s.clock + 1) := if_neg h2
  have h2' : (s.clock == -1) = false := by simpa using h2
  clear h2
  go_enter Tryz.func117, Tryz.ntmps117
  go_wp2_with fail
  go_ret
  exact ⟨ret_int' HM.out.symm, below_alloc _ _⟩
set_option maxHeartbeats 1000000 in
theorem pcounts_any (l : ByteArray) (bb cc : Nat → Nat) (ads : Option Addr) (ns caps : Nat) (now later : Bool) (w : World) :
 Calls Tryz.prog 158 #[lineV l bb cc (.slice ads ns caps), .bool now, .bool later] w fun e w' => e = .returned (.bool (Px.cntB (obt (pt l 5) 1) now later)) ∧ Below w.heap.size w w' := by
 have HM : Hid (∀ c, Px.cntB c now later = if c = 108 then !later else if c = 110 then now else true) := fun _ => rfl
 cases h1 : (obt (pt l 5) 1 == 108)
 ·have n1 : ¬ obt (pt l 5) 1 = 108 := by simpa using h1
  cases h2 : (obt (pt l 5) 1 == 110)
  ·have n2 : ¬ obt (pt l 5) 1 = 110 := by simpa using h2
   have HV : Hid (Px.cntB (obt (pt l 5) 1) now later = true) := by unfold Hid; rw [HM.out, if_neg n1, if_neg n2]
   clear n1 n2 HM
   go_enter Tryz.func158, Tryz.ntmps158
   go_wp2_with fail
   go_ret
   exact ⟨ret_bool' HV.out.symm, below_alloc _ _⟩
  ·have n2 : obt (pt l 5) 1 = 110 := by simpa using h2
   have HV : Hid (Px.cntB (obt (pt l 5) 1) now later = now) := by unfold Hid; rw [HM.out, if_neg n1, if_pos n2]
   clear n1 n2 HM
   go_enter Tryz.func158, Tryz.ntmps158
   go_wp2_with fail
   go_ret
   exact ⟨ret_bool' HV.out.symm, below_alloc _ _⟩
 ·have n1 : obt (pt l 5) 1 = 108 := by simpa using h1
  have HV : Hid (Px.cntB (obt (pt l 5) 1) now later = !later) := by unfold Hid; rw [HM.out, if_pos n1]
  clear n1 HM
  go_enter Tryz.func158, Tryz.ntmps158
  go_wp2_with fail
  go_ret
  exact ⟨ret_bool' HV.out.symm, below_alloc _ _⟩

/-- An arrival's cells. -/
def arC (p : Nat × Int) : List Value := [.int .i64 ((p.1 : Int) + 1), .int .i64 p.2]
theorem arC_len (p : Nat × Int) : (arC p).length = 2 := rfl
theorem arC_one (p : Nat × Int) : ∀ u ∈ arC p, u.oneCell' = true := by intro u hu; simp [arC] at hu; rcases hu with rfl | rfl <;> rfl
theorem info_ar : (Tryz.prog.info? 182).map (fun i => (i.zero, i.size, i.bytes)) = some (some (.agg #[.int .i64 0, .int .i64 0]), 2, 16) := by kernel_rfl
/-- Which lines have been met, in a block of its own. -/
def MetAt (w : World) (M : Nat) (f : Nat → Bool) : Prop := w.heap[M]? = some (.cells #[.bool (f 0), .bool (f 1), .bool (f 2), .bool (f 3)] 225 (0, 0))
theorem MetAt.lt {w : World} {M : Nat} {f : Nat → Bool} (h : MetAt w M f) : M < w.heap.size := heap_lt h
theorem MetAt.cell {w : World} {M : Nat} {f : Nat → Bool} (h : MetAt w M f) (i : Nat) (hi : i < 4) : w.cell? ⟨M, i, none⟩ = some (.bool (f i)) ∧ w.frozen? ⟨M, i, none⟩ = false := by
 constructor
 ·rw [cell_of_row _ _ i _ _ (0, 0) h]
  match i, hi with
  | 0, _ => rfl
  | 1, _ => rfl
  | 2, _ => rfl
  | 3, _ => rfl
 ·unfold World.frozen?; rw [h]; simp
theorem MetAt.later {w w' : World} {M : Nat} {f : Nat → Bool} (h : MetAt w M f) (hb : Below w.heap.size w w') : MetAt w' M f := (hb.block M h.lt).trans h
theorem MetAt.grown {w w' : World} {M base size n : Nat} {f : Nat → Bool} {v : Value} {xs : List Value} (h : MetAt w M f) (ho : w.ownsRow base 182 size v n xs) (hg : w.grownBy w' v.ownBlock) : MetAt w' M f := by
 refine (hg.block M h.lt ?_).trans h
 intro e
 rcases ho.2 with ⟨rfl, _⟩ | ⟨g, cap, cur, rfl, _, hg', _⟩
 ·cases e
 ·have : M = g := by simpa [Value.ownBlock] using e
  subst this
  rw [h] at hg'; cases hg'
theorem MetAt.set {w : World} {M : Nat} {f : Nat → Bool} (h : MetAt w M f) (i : Nat) (hi : i < 4) (b : Bool) : MetAt (w.setCell ⟨M, i, none⟩ (.bool b)) M (fun j => if j = i then b else f j) := by
 unfold MetAt at h ⊢
 have : (w.setCell ⟨M, i, none⟩ (.bool b)).heap[M]? = some (.cells (#[.bool (f 0), .bool (f 1), .bool (f 2), .bool (f 3)].setIfInBounds i (.bool b)) 225 (0, 0)) := by
  simp [World.setCell, Array.getElem?_modify, h]
 rw [this]
 match i, hi with
 | 0, _ => rfl
 | 1, _ => rfl
 | 2, _ => rfl
 | 3, _ => rfl
theorem MetAt.new (w : World) : MetAt (w.alloc (.cells #[.bool false, .bool false, .bool false, .bool false] 225)) w.heap.size (fun _ => false) := by
 unfold MetAt; show (w.heap.push _)[w.heap.size]? = _; simp
end Go.Proofs.YtdajolpoiffimaaGreatDoor

namespace Go.Proofs.YtdajolpoiffimaaGreatDoor
open Go.RowKit

/-- A block that holds just these cells. -/
def BlkAt (w : World) (q : Nat) (cs : Array Value) (e : TypeId) : Prop := w.heap[q]? = some (.cells cs e (0, 0))
theorem BlkAt.lt {w : World} {q : Nat} {cs : Array Value} {e : TypeId} (h : BlkAt w q cs e) : q < w.heap.size := heap_lt h
theorem BlkAt.new (w : World) (cs : Array Value) (e : TypeId) : BlkAt (w.alloc (.cells cs e)) w.heap.size cs e := by unfold BlkAt; show (w.heap.push _)[w.heap.size]? = _; simp
theorem BlkAt.later {w w' : World} {q : Nat} {cs : Array Value} {e : TypeId} (h : BlkAt w q cs e) (hb : Below w.heap.size w w') : BlkAt w' q cs e := (hb.block q h.lt).trans h
theorem BlkAt.cell {w : World} {q : Nat} {cs : Array Value} {e : TypeId} (h : BlkAt w q cs e) (i : Nat) (hi : i < cs.size) : w.cell? ⟨q, i, none⟩ = some cs[i] := by
 rw [cell_of_row _ _ i _ _ (0, 0) h]; simp [hi]
theorem BlkAt.grown {w w' : World} {q base size n : Nat} {cs : Array Value} {e e' : TypeId} {v : Value} {xs : List Value} (h : BlkAt w q cs e) (ho : w.ownsRow base e' size v n xs) (hg : w.grownBy w' v.ownBlock) (hne : e ≠ e') : BlkAt w' q cs e := by
 refine (hg.block q h.lt ?_).trans h
 intro eq
 rcases ho.2 with ⟨rfl, _⟩ | ⟨g, cap, cur, rfl, _, hg', _⟩
 ·cases eq
 ·have : q = g := by simpa [Value.ownBlock] using eq
  subst this
  rw [h] at hg'; cases hg'; exact hne rfl
theorem BlkAt.other {w : World} {q M : Nat} {cs : Array Value} {e : TypeId} (h : BlkAt w q cs e) (hne : q ≠ M) (j : Nat) (u : Value) : BlkAt (w.setCell ⟨M, j, none⟩ u) q cs e := (Below.heap_setCell _ _ _ _ hne).trans h
/-- A cell of a block that is not the row's is written. -/
theorem own_other {w : World} {M base size n : Nat} {e : TypeId} {f : Nat → Bool} {v : Value} {xs : List Value} (ho : w.ownsRow base e size v n xs) (h : MetAt w M f) (hne : e ≠ 225) (j : Nat) (u : Value) : (w.setCell ⟨M, j, none⟩ u).ownsRow base e size v n xs := by
 refine ⟨ho.1, ?_⟩
 rcases ho.2 with h2 | ⟨g, cap, cur, hv, hbase, hg, h3⟩
 ·exact Or.inl h2
 ·refine Or.inr ⟨g, cap, cur, hv, hbase, ?_, h3⟩
  have hgm : g ≠ M := by
   intro eq; subst eq
   unfold MetAt at h; rw [hg] at h; cases h; exact hne rfl
  exact (Below.heap_setCell _ _ _ _ hgm).trans hg
/-- What holds while the minutes are gone through. -/
structure LfIn (w wr : World) (v : Value) (out : List (Nat × Int)) (f : Nat → Bool) : Prop where
 own : wr.ownsRow w.heap.size 182 2 v out.length (out.reverse.flatMap arC)
 met : MetAt wr (w.heap.size + 1) f
 bel : Below w.heap.size w wr
theorem LfIn.later {w wr w' : World} {v : Value} {out : List (Nat × Int)} {f : Nat → Bool} (h : LfIn w wr v out f) (hb : Below wr.heap.size wr w') : LfIn w w' v out f :=
 ⟨own_below h.own hb, h.met.later hb, h.bel.trans (hb.mono h.bel.size)⟩
theorem LfIn.start (w : World) : LfIn w ((w.alloc (.cells #[] 182)).alloc (.cells #[.bool false, .bool false, .bool false, .bool false] 225)) (.slice (some ⟨w.heap.size, 0, none⟩) 0 0) [] (fun _ => false) := by
 have h := MetAt.new (w.alloc (.cells #[] 182))
 exact ⟨(own_empty w 182 2).alloc _, by simpa using h, (below_alloc w _).alloc (by simp) _⟩
theorem LfIn.met' {w wr : World} {v : Value} {out : List (Nat × Int)} {f : Nat → Bool} (h : LfIn w wr v out f) (i : Nat) (hi : i < 4) : LfIn w (wr.setCell ⟨w.heap.size + 1, i, none⟩ (.bool true)) v out (fun j => if j = i then true else f j) :=
 ⟨own_other h.own h.met (by decide) _ _, h.met.set i hi true, h.bel.setCell (by simp) _⟩
theorem LfIn.app {w wr w' : World} {v v' : Value} {out : List (Nat × Int)} {p : Nat × Int} {f : Nat → Bool} (h : LfIn w wr v out f) (hg : wr.grownBy w' v.ownBlock) (ho : w'.ownsRow w.heap.size 182 2 v' (out.length + 1) (out.reverse.flatMap arC ++ arC p)) : LfIn w w' v' (p :: out) f :=
 ⟨by simpa [List.flatMap_append] using ho, h.met.grown h.own hg, h.bel.grown hg h.bel.size (fun k e => (h.own.lt k e).1)⟩
theorem arC_new (w : World) (i : Nat) (t : Int) (e : TypeId) : ∀ j u, (arC (i, t))[j]? = some u → (w.alloc (.cells #[.int .i64 ((i : Int) + 1), .int .i64 t] e)).cell? ((⟨w.heap.size, 0, none⟩ : Addr).add j) = some u := by
 intro j u hj
 match j, hj with
 | 0, hj => simp [arC] at hj; subst hj; simp [Addr.add, go_sem]
 | 1, hj => simp [arC] at hj; subst hj; simp [Addr.add, go_sem]
theorem lns_len (tab : ByteArray) : (Bx.lns tab).length = tn tab := by unfold Bx.lns; rw [List.length_map, Bx.linesOf_len]
theorem lns_at (tab : ByteArray) (k : Nat) (h : k < (Bx.lns tab).length) : (Bx.lns tab)[k] = lnOf (tl tab k) := by
 have h' : k < (Bx.linesOf tab).length := by rw [lns_len] at h; rw [Bx.linesOf_len]; exact h
 show ((Bx.linesOf tab).map lnOf)[k]'(by simpa using h') = _
 rw [List.getElem_map, Bx.linesOf_at tab k h']

theorem due_x (s : ByteArray) (bb cc : Nat → Nat) (ads : Option Addr) (ns caps : Nat) (y m d h i k : Int) (w : World) (x : Bool) (hx : x = dueB s m d h i k) (hs : s.size ≤ 300) (hP : LineP s) (hA : LineAt w s bb cc) (m1 : 0 ≤ m) (m2 : m ≤ 60) (d1 : 0 ≤ d) (d2 : d ≤ 60) (h1 : 0 ≤ h) (h2 : h ≤ 60) (i1 : 0 ≤ i) (i2 : i ≤ 60) (k1 : 0 ≤ k) (k2 : k ≤ 60) :
 Calls Tryz.prog 157 #[lineV s bb cc (.slice ads ns caps), dateV y m d h i k] w fun e w' => e = .returned (.bool x) ∧ Below w.heap.size w w' :=
 hx ▸ due_any s bb cc ads ns caps y m d h i k w hs hP hA m1 m2 d1 d2 h1 h2 i1 i2 k1 k2
theorem counts_x (l : ByteArray) (bb cc : Nat → Nat) (ads : Option Addr) (ns caps : Nat) (now later : Bool) (w : World) (z : Bool) (hz : z = Px.cntB (obt (pt l 5) 1) now later) :
 Calls Tryz.prog 158 #[lineV l bb cc (.slice ads ns caps), .bool now, .bool later] w fun e w' => e = .returned (.bool z) ∧ Below w.heap.size w w' := hz ▸ pcounts_any l bb cc ads ns caps now later w
set_option maxRecDepth 10000 in
set_option maxHeartbeats 8000000 in
theorem latestFirst_any (tab : ByteArray) (g c : Nat) (a m : Int) (w : World) (hC : ChkR tab 0 0) (a0 : 0 ≤ a) (ha : a ≤ m) (hm : m ≤ 4223371679) (hj : m - a ≤ 1500) (hM : Tab w) (hL : PLinesAt w g tab) :
 Calls Tryz.prog 118 #[.slice (some ⟨g, 0, none⟩) (tn tab) c, .int .i64 a, .int .i64 m] w fun e w' => (∃ v, e = .returned v ∧ w'.ownsRow w.heap.size 182 2 v (Bx.comes (Bx.lns tab) a m).length ((Bx.comes (Bx.lns tab) a m).reverse.flatMap arC)) ∧ Below w.heap.size w w' := by
 obtain ⟨i0, hinf, hz0, hz1, hz2⟩ := info_parts info_ar
 have HM : Hid (Tab w) := hM
 have HL : Hid (PLinesAt w g tab) := hL
 have h4 := tn_le hC
 obtain ⟨hs3, _, hP⟩ := hC.lines
 have HP : Hid (∀ j : Nat, j < tn tab → LineP (tl tab j)) := hP
 have hlen := lns_len tab
 have HLen : Hid ((Bx.lns tab).length = tn tab) := hlen
 have H0 : Hid (LfIn w _ _ [] (fun _ => false)) := LfIn.start w
 clear hM hL hC hP hlen
 go_enter Tryz.func118, Tryz.ntmps118
 go_wp2_with fail
 go_loopw [7, 9] (fun v x wr => ∃ (t : Int) (out : List (Nat × Int)) (f : Nat → Bool), a - 1 ≤ t ∧ t ≤ m ∧ x = .int .i64 t ∧ Px.From (Bx.lns tab) m t (tn tab) out ∧ (out.length : Int) ≤ (m - t) * 4 ∧ (∀ i (h : i < (Bx.lns tab).length), f i = Px.metB (Bx.lns tab)[i] m t) ∧ LfIn w wr v out f) (fun _ x _ => (intOf x + 1 - a).toNat)
 case atStart => exact ⟨m, [], _, by omega, Int.le_refl _, rfl, by rw [← HLen.out]; exact Px.From.start _ _, by simp, fun i h => (Px.met_start _ _).symm, H0.out⟩
 case round =>
  clear H0
  obtain ⟨t, out, f, t1, t2, rfl, hFr, hol, hmet, HI⟩ := hrel
  have HFr : Hid (Px.From (Bx.lns tab) m t (tn tab) out) := hFr
  have HMet : Hid (∀ i (h : i < (Bx.lns tab).length), f i = Px.metB (Bx.lns tab)[i] m t) := hmet
  clear hFr hmet
  by_cases hat : a ≤ t
  ·have hTw : Hid (Tab wr) := HM.out.later HI.bel
   go_wp2_with fail
   refine (cdate_yes _ _ hTw.out (by omega) (by omega)).mono ?_
   rintro e w2 ⟨⟨y, mo, d, HD, rfl⟩, hb2⟩
   have hdue : Hid (∀ s, dueB s mo d (t % 1440 / 60) (t % 60) ((t / 1440 + 4) % 7) = dueT s t) := fun s => dueT_of HD
   have bm : 0 ≤ mo ∧ mo ≤ 60 := by have := HD.m1; have := HD.m2; omega
   have bd : 0 ≤ d ∧ d ≤ 60 := by have := HD.d1; have := HD.d2; have := Cal.dim_lo y mo; omega
   have HI3 := (HI.later hb2).later (below_alloc w2 (.cells #[.int .i64 y, .int .i64 mo, .int .i64 d, .int .i64 (t % 1440 / 60), .int .i64 (t % 60), .int .i64 ((t / 1440 + 4) % 7)] 227))
   have hBk := BlkAt.new w2 #[.int .i64 y, .int .i64 mo, .int .i64 d, .int .i64 (t % 1440 / 60), .int .i64 (t % 60), .int .i64 ((t / 1440 + 4) % 7)] 227
   have hMq : w.heap.size + 1 < w2.heap.size := Nat.lt_of_lt_of_le HI.met.lt hb2.size
   clear HI hb2 HD hTw
   go_upto_region 7 with fail
   generalize w2.alloc (.cells #[.int .i64 y, .int .i64 mo, .int .i64 d, .int .i64 (t % 1440 / 60), .int .i64 (t % 60), .int .i64 ((t / 1440 + 4) % 7)] 227) = W3 at *
   generalize w2.heap.size = dq at *
   have HI3' : Hid (LfIn w W3 _ out f) := HI3
   have HBk : Hid (BlkAt W3 dq #[.int .i64 y, .int .i64 mo, .int .i64 d, .int .i64 (t % 1440 / 60), .int .i64 (t % 60), .int .i64 ((t / 1440 + 4) % 7)] 227) := hBk
   clear HI3 hBk
   go_wp2_with fail
   go_loopw [7, 12] (fun v x wr2 => ∃ (i : Int) (out2 : List (Nat × Int)) (f2 : Nat → Bool), -1 ≤ i ∧ i < (tn tab : Int) ∧ x = .int .i64 i ∧ Px.From (Bx.lns tab) m t (i + 1).toNat out2 ∧ (out2.length : Int) ≤ (m - t) * 4 + ((tn tab : Int) - 1 - i) ∧ (∀ k (h : k < (Bx.lns tab).length), f2 k = if i < (k : Int) then Px.metB (Bx.lns tab)[k] m (t - 1) else Px.metB (Bx.lns tab)[k] m t) ∧ LfIn w wr2 v out2 f2 ∧ BlkAt wr2 dq #[.int .i64 y, .int .i64 mo, .int .i64 d, .int .i64 (t % 1440 / 60), .int .i64 (t % 60), .int .i64 ((t / 1440 + 4) % 7)] 227) (fun _ x _ => (intOf x + 1).toNat)
   case atStart =>
    refine ⟨(tn tab : Int) - 1, out, f, by omega, by omega, by go_num, ?_, by omega, fun k h => ?_, HI3'.out, HBk.out⟩
    ·have : ((tn tab : Int) - 1 + 1).toNat = tn tab := by omega
     rw [this]; exact HFr.out
    ·have := HLen.out
     rw [if_neg (by omega)]; exact HMet.out k h
   case round =>
    clear HFr HMet HI3' HBk
    obtain ⟨i, out2, f2, i1, i2, rfl, hFr2, hol2, hmet2, HI2, hBk2⟩ := hrel
    have HFr2 : Hid (Px.From (Bx.lns tab) m t (i + 1).toNat out2) := hFr2
    have HMet2 : Hid (∀ k (h : k < (Bx.lns tab).length), f2 k = if i < (k : Int) then Px.metB (Bx.lns tab)[k] m (t - 1) else Px.metB (Bx.lns tab)[k] m t) := hmet2
    have HBk2 : Hid (BlkAt wr dq #[.int .i64 y, .int .i64 mo, .int .i64 d, .int .i64 (t % 1440 / 60), .int .i64 (t % 60), .int .i64 ((t / 1440 + 4) % 7)] 227) := hBk2
    clear hFr2 hmet2 hBk2
    by_cases hi0 : 0 ≤ i
    ·obtain ⟨k, rfl⟩ : ∃ k : Nat, i = (k : Int) := ⟨i.toNat, by omega⟩
     have hk : k < tn tab := by omega
     have hk4 : k < 4 := by omega
     have hkl : Hid (k < (Bx.lns tab).length) := by have := HLen.out; unfold Hid; omega
     obtain ⟨bb, cc, sv, hcl, hla, hsp⟩ := HL.out k hk
     obtain ⟨ads, caps, hvs⟩ : ∃ ad cap, sv = .slice ad (stps (tl tab k)).length cap := by
      obtain ⟨ad, cap, e, _⟩ := TRow.form hsp; exact ⟨ad, cap, e⟩
     subst hvs
     have L0 : wr.cell? ⟨g, k * 14, none⟩ = some (.bool (Txt.opn (pt (tl tab k) 0))) := cell_later HI2.bel ((hcl 0 (by decide)).trans rfl)
     have L1 : wr.cell? ⟨g, k * 14 + 1, none⟩ = some (.slice (some ⟨bb 0, 0, none⟩) (Txt.pcs 44 (pt (tl tab k) 0)).length (cc 0)) := cell_later HI2.bel ((hcl 1 (by decide)).trans rfl)
     have L2 : wr.cell? ⟨g, k * 14 + 2, none⟩ = some (.bool (Txt.opn (pt (tl tab k) 1))) := cell_later HI2.bel ((hcl 2 (by decide)).trans rfl)
     have L3 : wr.cell? ⟨g, k * 14 + 3, none⟩ = some (.slice (some ⟨bb 1, 0, none⟩) (Txt.pcs 44 (pt (tl tab k) 1)).length (cc 1)) := cell_later HI2.bel ((hcl 3 (by decide)).trans rfl)
     have L4 : wr.cell? ⟨g, k * 14 + 4, none⟩ = some (.bool (Txt.opn (pt (tl tab k) 2))) := cell_later HI2.bel ((hcl 4 (by decide)).trans rfl)
     have L5 : wr.cell? ⟨g, k * 14 + 5, none⟩ = some (.slice (some ⟨bb 2, 0, none⟩) (Txt.pcs 44 (pt (tl tab k) 2)).length (cc 2)) := cell_later HI2.bel ((hcl 5 (by decide)).trans rfl)
     have L6 : wr.cell? ⟨g, k * 14 + 6, none⟩ = some (.bool (Txt.opn (pt (tl tab k) 3))) := cell_later HI2.bel ((hcl 6 (by decide)).trans rfl)
     have L7 : wr.cell? ⟨g, k * 14 + 7, none⟩ = some (.slice (some ⟨bb 3, 0, none⟩) (Txt.pcs 44 (pt (tl tab k) 3)).length (cc 3)) := cell_later HI2.bel ((hcl 7 (by decide)).trans rfl)
     have L8 : wr.cell? ⟨g, k * 14 + 8, none⟩ = some (.bool (Txt.opn (pt (tl tab k) 4))) := cell_later HI2.bel ((hcl 8 (by decide)).trans rfl)
     have L9 : wr.cell? ⟨g, k * 14 + 9, none⟩ = some (.slice (some ⟨bb 4, 0, none⟩) (Txt.pcs 44 (pt (tl tab k) 4)).length (cc 4)) := cell_later HI2.bel ((hcl 9 (by decide)).trans rfl)
     have L10 : wr.cell? ⟨g, k * 14 + 10, none⟩ = some (.bool (obt (pt (tl tab k) 5) 0 == 120)) := cell_later HI2.bel ((hcl 10 (by decide)).trans rfl)
     have L11 : wr.cell? ⟨g, k * 14 + 11, none⟩ = some (.int .u8 (obt (pt (tl tab k) 5) 1)) := cell_later HI2.bel ((hcl 11 (by decide)).trans rfl)
     have L12 : wr.cell? ⟨g, k * 14 + 12, none⟩ = some (.int .i64 (obt (pt (tl tab k) 5) 2 - 48)) := cell_later HI2.bel ((hcl 12 (by decide)).trans rfl)
     have L13 : wr.cell? ⟨g, k * 14 + 13, none⟩ = some (.slice ads (stps (tl tab k)).length caps) := cell_later HI2.bel ((hcl 13 (by decide)).trans rfl)
     have HLA : Hid (LineAt wr (tl tab k) bb cc) := hla.later HI2.bel
     have D0 : wr.cell? ⟨dq, 0, none⟩ = some (.int .i64 y) := HBk2.out.cell 0 (show 0 < 6 by decide)
     have D1 : wr.cell? ⟨dq, 1, none⟩ = some (.int .i64 mo) := HBk2.out.cell 1 (show 1 < 6 by decide)
     have D2 : wr.cell? ⟨dq, 2, none⟩ = some (.int .i64 d) := HBk2.out.cell 2 (show 2 < 6 by decide)
     have D3 : wr.cell? ⟨dq, 3, none⟩ = some (.int .i64 (t % 1440 / 60)) := HBk2.out.cell 3 (show 3 < 6 by decide)
     have D4 : wr.cell? ⟨dq, 4, none⟩ = some (.int .i64 (t % 60)) := HBk2.out.cell 4 (show 4 < 6 by decide)
     have D5 : wr.cell? ⟨dq, 5, none⟩ = some (.int .i64 ((t / 1440 + 4) % 7)) := HBk2.out.cell 5 (show 5 < 6 by decide)
     have hgl : g < wr.heap.size := World.block_lt_of_cell? _ _ L0
     have hdl : dq < wr.heap.size := HBk2.out.lt
     have hsz : Hid ((tl tab k).size ≤ 300) := tl_sz hs3 k (by have := tn_lt tab; omega)
     have b0 : (0 : Int) ≤ (k : Int) := by omega
     have b1 : (k : Int) < (tn tab : Int) := by omega
     have b5 : (k : Int) < 4 := by omega
     have b4 : decide ((4 : Int) ≤ (k : Int)) = false := decide_eq_false (by omega)
     have HLk : Hid ((Bx.lns tab)[k]'hkl.out = lnOf (tl tab k)) := lns_at tab k hkl.out
     obtain ⟨x, hx⟩ : ∃ x : Bool, x = dueB (tl tab k) mo d (t % 1440 / 60) (t % 60) ((t / 1440 + 4) % 7) := ⟨_, rfl⟩
     have HX : Hid (x = dueB (tl tab k) mo d (t % 1440 / 60) (t % 60) ((t / 1440 + 4) % 7)) := hx
     have HXd : Hid (((Bx.lns tab)[k]'hkl.out).due t = x) := by unfold Hid; rw [HLk.out, hx, hdue.out]; rfl
     have HI2' : Hid (LfIn w wr _ out2 f2) := HI2
     clear hcl hla hsp hx HI2
     go_wp2_with fail
     go_region_held3 (fun w' => ∀ b o, b < wr.heap.size → w'.cell? ⟨b, o, none⟩ = wr.cell? ⟨b, o, none⟩)
      ((intro b' o' h1; first | (exact hbC.cell (p := ⟨b', o', none⟩) h1) | rfl))
      ((go_at_call 157; refine (due_x (tl tab k) bb cc ads (stps (tl tab k)).length caps _ _ _ _ _ _ _ x HX.out hsz.out (HP.out k hk) ?hla bm.1 bm.2 bd.1 bd.2 (by omega) (by omega) (by omega) (by omega) (by omega) (by omega)).mono ?_; (case hla => exact HLA.out.later (Below.refl _ _).drew); rintro e w4 ⟨rfl, hb4⟩; have hbC : Below wr.heap.size wr w4 := (Below.refl _ _).drew.trans hb4))
     rename ∀ (b o : Nat), b < wr.heap.size → w4.cell? ⟨b, o, none⟩ = wr.cell? ⟨b, o, none⟩ => hSold
     clear hSold
     have HI4 := HI2'.out.later hbC
     have HBk4 := HBk2.out.later hbC
     have HFk : Hid (Px.From (Bx.lns tab) m t (k + 1) out2) := by
      have := HFr2.out
      rw [show ((k : Int) + 1).toNat = k + 1 by omega] at this; exact this
     have HMk : Hid (f2 k = Px.metB ((Bx.lns tab)[k]'hkl.out) m t) := by unfold Hid; rw [HMet2.out k hkl.out, if_neg (by omega)]
     have hk1 : ((k : Int) - 1 + 1).toNat = k := by omega
     cases x
     ·have HFr3 : Hid (Px.From (Bx.lns tab) m t ((k : Int) - 1 + 1).toNat out2) := by unfold Hid; rw [hk1]; exact HFk.out.no hkl.out (Px.cnt_due HXd.out)
      have HMet3 : Hid (∀ j (h : j < (Bx.lns tab).length), f2 j = if (k : Int) - 1 < (j : Int) then Px.metB (Bx.lns tab)[j] m (t - 1) else Px.metB (Bx.lns tab)[j] m t) := by
       intro j h
       by_cases q : j = k
       ·subst q; rw [if_pos (by omega), HMk.out, Px.met_no HXd.out]
       ·rw [HMet2.out j h]
        by_cases q' : (k : Int) < (j : Int)
        ·rw [if_pos q', if_pos (by omega)]
        ·rw [if_neg q', if_neg (by omega)]
      clear L0 L1 L2 L3 L4 L5 L6 L7 L8 L9 L10 L11 L12 L13 D0 D1 D2 D3 D4 D5 hb4 hbC HI2' HBk2 HFr2 HMet2 HFk HMk HXd HLk
      go_wp2_with fail
      go_roundw
      case rel => exact ⟨(k : Int) - 1, out2, f2, by omega, by omega, by go_num, HFr3.out, by omega, HMet3.out, HI4, HBk4⟩
      case measure => simp [intOf]
     ·have HMet3 : Hid (∀ j (h : j < (Bx.lns tab).length), (if j = k then true else f2 j) = if (k : Int) - 1 < (j : Int) then Px.metB (Bx.lns tab)[j] m (t - 1) else Px.metB (Bx.lns tab)[j] m t) := by
       intro j h
       by_cases q : j = k
       ·subst q; rw [if_pos rfl, if_pos (by omega), Px.met_yes HXd.out t2]
       ·rw [if_neg q, HMet2.out j h]
        by_cases q' : (k : Int) < (j : Int)
        ·rw [if_pos q', if_pos (by omega)]
        ·rw [if_neg q', if_neg (by omega)]
      obtain ⟨z, hz⟩ : ∃ z : Bool, z = Px.cntB (obt (pt (tl tab k) 5) 1) (t == m) (f2 k) := ⟨_, rfl⟩
      have HZ : Hid (z = Px.cntB (obt (pt (tl tab k) 5) 1) (t == m) (f2 k)) := hz
      have HCn : Hid (z = true ↔ Bx.Cnt ((Bx.lns tab)[k]'hkl.out) m t) := by
       have := Px.cnt_iff (m := m) HXd.out
       unfold Hid; rw [← this, hz, HMk.out]
       have e : ((Bx.lns tab)[k]'hkl.out).catch' = obt (pt (tl tab k) 5) 1 := by rw [HLk.out]; rfl
       rw [e]
      replace L0 := cell_later hbC L0
      replace L1 := cell_later hbC L1
      replace L2 := cell_later hbC L2
      replace L3 := cell_later hbC L3
      replace L4 := cell_later hbC L4
      replace L5 := cell_later hbC L5
      replace L6 := cell_later hbC L6
      replace L7 := cell_later hbC L7
      replace L8 := cell_later hbC L8
      replace L9 := cell_later hbC L9
      replace L10 := cell_later hbC L10
      replace L11 := cell_later hbC L11
      replace L12 := cell_later hbC L12
      replace L13 := cell_later hbC L13
      obtain ⟨mc, mf⟩ := HI4.met.cell k hk4
      have hgl4 : g < w4.heap.size := World.block_lt_of_cell? _ _ L0
      have hml4 : w.heap.size + 1 < w4.heap.size := HI4.met.lt
      have HI4' : Hid (LfIn w w4 _ out2 f2) := HI4
      have HBk4' : Hid (BlkAt w4 dq #[.int .i64 y, .int .i64 mo, .int .i64 d, .int .i64 (t % 1440 / 60), .int .i64 (t % 60), .int .i64 ((t / 1440 + 4) % 7)] 227) := HBk4
      clear D0 D1 D2 D3 D4 D5 hb4 hbC HI2' HBk2 HFr2 HMet2 HMk HXd HLk hz HI4 HBk4 HX HLA
      go_wp2_with fail
      go_region_held3 (fun w' => ∀ b o, b < w4.heap.size → w'.cell? ⟨b, o, none⟩ = w4.cell? ⟨b, o, none⟩)
       ((intro b' o' h1; first | (exact hbE.cell (p := ⟨b', o', none⟩) h1) | rfl))
       ((go_at_call 158; refine (counts_x (tl tab k) bb cc ads (stps (tl tab k)).length caps (t == m) (f2 k) _ z HZ.out).mono ?_; rintro e w5 ⟨rfl, hb5⟩; have hbE : Below w4.heap.size w4 w5 := (Below.refl _ _).drew.trans hb5))
      rename ∀ (b o : Nat), b < w4.heap.size → w5.cell? ⟨b, o, none⟩ = w4.cell? ⟨b, o, none⟩ => hSold
      clear hSold
      have HI5 := HI4'.out.later hbE
      have HBk5 := HBk4'.out.later hbE
      clear L0 L1 L2 L3 L4 L5 L6 L7 L8 L9 L10 L11 L12 L13 mc mf hb5 hbE HI4' HBk4' HZ
      cases z
      ·have HFr3 : Hid (Px.From (Bx.lns tab) m t ((k : Int) - 1 + 1).toNat out2) := by unfold Hid; rw [hk1]; exact HFk.out.no hkl.out (fun h => by have := HCn.out.2 h; cases this)
       obtain ⟨mc, mf⟩ := HI5.met.cell k hk4
       have hml5 : w.heap.size + 1 < w5.heap.size := HI5.met.lt
       have HI6 := HI5.met' k hk4
       have HBk6 := HBk5.other (M := w.heap.size + 1) (by omega) k (.bool true)
       clear HI5 HBk5 HFk HCn
       go_wp2_with fail
       go_roundw
       case rel => exact ⟨(k : Int) - 1, out2, _, by omega, by omega, by go_num, HFr3.out, by omega, HMet3.out, HI6, HBk6⟩
       case measure => first | (simp [intOf]; done) | (simp [intOf]; omega)
      ·have HFr3 : Hid (Px.From (Bx.lns tab) m t ((k : Int) - 1 + 1).toNat ((k, t) :: out2)) := by unfold Hid; rw [hk1]; exact HFk.out.yes hkl.out t2 (HCn.out.1 rfl)
       have HO5 : Hid (w5.ownsRow w.heap.size 182 2 _ out2.length (out2.reverse.flatMap arC)) := HI5.own
       have hs5 : Hid (w.heap.size ≤ w5.heap.size) := HI5.bel.size
       have hol3 : out2.length ≤ 10000 := by omega
       go_wp2_with (at_builtin; refine wpList_append_lies _ rfl (.tmp 58) (.tmp 63) 178 rfl w.heap.size 182 i0 (.agg #[.int .i64 0, .int .i64 0]) 2 16 Tryz.underlying178 hinf hz0 hz1 hz2 rfl (by decide) _ _ _ rfl (HO5.out.alloc _) ⟨w5.heap.size, 0, none⟩ 1 1 (arC (k, t)) rfl rfl (arC_new _ _ _ _) (arC_one _) (by decide) ?c3 ?c4 ?c5 _ rfl ?_)
       case c3 => unfold maxLen; omega
       case c4 => omega
       case c5 => have := hs5.out; simp; omega
       ·intro g' cap' w6 hown' hgrow _ hlt'
        have HI6 := (HI5.later (below_alloc w5 (.cells #[.int .i64 ((k : Int) + 1), .int .i64 t] 182))).app (p := (k, t)) hgrow (by simpa using hown')
        have HBk6 := (HBk5.later (below_alloc w5 (.cells #[.int .i64 ((k : Int) + 1), .int .i64 t] 182))).grown (HO5.out.alloc _) hgrow (by decide)
        obtain ⟨mc, mf⟩ := HI6.met.cell k hk4
        have hml6 : w.heap.size + 1 < w6.heap.size := HI6.met.lt
        have HI7 := HI6.met' k hk4
        have HBk7 := HBk6.other (M := w.heap.size + 1) (by omega) k (.bool true)
        clear hown' hgrow HI5 HBk5 HI6 HBk6 HFk HCn HO5
        go_wp2_with fail
        go_roundw
        case rel => exact ⟨(k : Int) - 1, (k, t) :: out2, _, by omega, by omega, by go_num, HFr3.out, by simp; omega, HMet3.out, HI7, HBk7⟩
        case measure => first | (simp [intOf]; done) | (simp [intOf]; omega)
    ·have hin : i = -1 := by omega
     have HFr3 : Hid (Px.From (Bx.lns tab) m (t - 1) (tn tab) out2) := by
      have := HFr2.out
      rw [show (i + 1).toNat = 0 by omega] at this
      have q := this.down
      rw [HLen.out] at q; exact q
     have HMet3 : Hid (∀ j (h : j < (Bx.lns tab).length), f2 j = Px.metB (Bx.lns tab)[j] m (t - 1)) := fun j h => by rw [HMet2.out j h, if_pos (by omega)]
     clear HFr2 HMet2 HBk2 hin
     go_wp2_with fail
     go_roundw
     case rel => exact ⟨t - 1, out2, f2, by omega, by omega, by go_num, HFr3.out, by omega, HMet3.out, HI2⟩
     case measure => first | (simp [intOf]; done) | (simp [intOf]; omega)
  ·have HE : Hid (out = Bx.comes (Bx.lns tab) a m) := by
    have := HFr.out
    rw [show t = a - 1 by omega, ← HLen.out] at this
    exact this.done
   have HOw := HI.own
   rw [HE.out] at HOw
   have HBe : Hid (Below w.heap.size w wr) := HI.bel
   clear HI HFr HMet
   go_wp2_with fail
   go_ret
   exact ⟨⟨_, rfl, HOw⟩, HBe.out⟩
end Go.Proofs.YtdajolpoiffimaaGreatDoor

namespace Go.Proofs.YtdajolpoiffimaaGreatDoor
open Go.RowKit

/-- Behind the head of withArrival: the state, the arrival, the result's block. -/
structure ARes (w W : World) (s : Px.St) (sl en : Value) (p : Nat × Int) : Prop where
 st : PIn W w.heap.size s sl en
 a0 : W.cell? ⟨w.heap.size + 1, 0, none⟩ = some (.int .i64 ((p.1 : Int) + 1))
 a1 : W.cell? ⟨w.heap.size + 1, 1, none⟩ = some (.int .i64 p.2)
 z : ZCell W (w.heap.size + 2) 5
 ty : Typed W (w.heap.size + 2) 65
 bel : Below w.heap.size w W
 lt : w.heap.size + 2 < W.heap.size
theorem ARes.new (w : World) (s : Px.St) (sl en : Value) (p : Nat × Int) : ARes w (((w.alloc (pstO s sl en)).alloc (.cells #[.int .i64 ((p.1 : Int) + 1), .int .i64 p.2] 182)).alloc pzO) s sl en p := by
 have hZ := ZCell.new ((w.alloc (pstO s sl en)).alloc (.cells #[.int .i64 ((p.1 : Int) + 1), .int .i64 p.2] 182)) #[.string { data := #[] }, .int .i64 0, .int .i64 0, .slice none 0 0, .slice none 0 0] 65
 have hT := Typed.new ((w.alloc (pstO s sl en)).alloc (.cells #[.int .i64 ((p.1 : Int) + 1), .int .i64 p.2] 182)) #[.string { data := #[] }, .int .i64 0, .int .i64 0, .slice none 0 0, .slice none 0 0] 65
 refine ⟨((PIn.new w s sl en).later (below_alloc _ _)).later (below_alloc _ _), by simp [go_sem], by simp [go_sem], by simpa using hZ, by simpa using hT, ((below_alloc w _).alloc (by simp) _).alloc (by simp; omega) _, by simp⟩
theorem ARes.later {w W W' : World} {s : Px.St} {sl en : Value} {p : Nat × Int} (h : ARes w W s sl en p) (hb : Below W.heap.size W W') : ARes w W' s sl en p :=
 ⟨h.st.later hb, cell_later hb h.a0, cell_later hb h.a1, h.z.later h.lt hb, h.ty.later hb, h.bel.trans (hb.mono h.bel.size), Nat.lt_of_lt_of_le h.lt hb.size⟩
theorem ARes.set {w W : World} {s : Px.St} {sl en : Value} {p : Nat × Int} (h : ARes w W s sl en p) {q : Nat} (hq : w.heap.size + 2 < q) (j : Nat) (u : Value) : ARes w (W.setCell ⟨q, j, none⟩ u) s sl en p := by
 have oth : ∀ (a i : Nat), a ≤ w.heap.size + 2 → (W.setCell ⟨q, j, none⟩ u).cell? ⟨a, i, none⟩ = W.cell? ⟨a, i, none⟩ := fun a i ha => World.cell?_setCell_other _ _ _ _ (by first | (simp; done) | (simp; omega))
 obtain ⟨c0, c1, c2, c3, c4⟩ := h.st
 refine ⟨⟨?_, ?_, ?_, ?_, ?_⟩, ?_, ?_, fun i hi => ⟨?_, ?_⟩, h.ty.setCell _ _ _, h.bel.setCell (by first | (simp; done) | (simp; omega)) _, by have := h.lt; simpa [World.setCell] using this⟩
 ·rw [oth _ _ (by omega)]; exact c0
 ·rw [oth _ _ (by omega)]; exact c1
 ·rw [oth _ _ (by omega)]; exact c2
 ·rw [oth _ _ (by omega)]; exact c3
 ·rw [oth _ _ (by omega)]; exact c4
 ·rw [oth _ _ (by omega)]; exact h.a0
 ·rw [oth _ _ (by omega)]; exact h.a1
 ·obtain ⟨u', hu⟩ := (h.z i hi).1
  exact ⟨u', by rw [oth _ _ (by omega)]; exact hu⟩
 ·rw [World.frozen?_setCell]; exact (h.z i hi).2
theorem arr_end' {s : Px.St} {p : Nat × Int} (h : 8 ≤ s.slots.length) : Px.arr s p = { { s with next := s.next + 1 } with ends := Bx.push s.ends ⟨s.next, ⟨#[115]⟩⟩ } := by
 unfold Px.arr; rw [if_pos h]; rfl
theorem arr_slot' {s : Px.St} {p : Nat × Int} (h : ¬ 8 ≤ s.slots.length) : Px.arr s p = { { s with next := s.next + 1 } with slots := s.slots ++ [Px.slotOf p s.next] } := by
 unfold Px.arr; rw [if_neg h]

set_option maxRecDepth 10000 in
set_option maxHeartbeats 4000000 in
theorem withArrival_any (s : Px.St) (p : Nat × Int) (sl en : Value) (w : World) (hl : s.slots.length ≤ 10000) (he : s.ends.length ≤ 10000) (n1 : 0 ≤ s.next) (n2 : s.next ≤ 100000) (hS : PAt w s sl en) :
 Calls Tryz.prog 119 #[pstV s sl en, .agg #[.int .i64 ((p.1 : Int) + 1), .int .i64 p.2]] w fun e w' => (∃ sl' en', e = .returned (pstV (Px.arr s p) sl' en') ∧ PAt w' (Px.arr s p) sl' en') ∧ Below w.heap.size w w' := by
 obtain ⟨ad, cap, rfl, hcap⟩ := hS.sl.form
 obtain ⟨ad2, cap2, rfl, hcap2⟩ := hS.en.form
 have HS : Hid (PAt w s (.slice ad s.slots.length cap) (.slice ad2 s.ends.length cap2)) := hS
 have hP := ARes.new w s (.slice ad s.slots.length cap) (.slice ad2 s.ends.length cap2) p
 clear hS
 go_enter Tryz.func119, Tryz.ntmps119
 go_upto_region 1 with fail
 generalize ((w.alloc (pstO s (.slice ad s.slots.length cap) (.slice ad2 s.ends.length cap2))).alloc (.cells #[.int .i64 ((p.1 : Int) + 1), .int .i64 p.2] 182)).alloc pzO = W at *
 have HSW : PAt W s (.slice ad s.slots.length cap) (.slice ad2 s.ends.length cap2) := HS.out.later hP.bel
 obtain ⟨i0, i1, i2, i3, i4⟩ := hP.st
 have hP2 := hP.later (below_alloc W (pstO s (.slice ad s.slots.length cap) (.slice ad2 s.ends.length cap2)))
 have HS2 := HSW.later (below_alloc W (pstO s (.slice ad s.slots.length cap) (.slice ad2 s.ends.length cap2)))
 have hA := PW.new W s (.slice ad s.slots.length cap) (.slice ad2 s.ends.length cap2)
 have hWq := hP.lt
 go_upto_region 3 with fail
 clear i0 i1 i2 i3 i4 hP HSW
 generalize W.alloc (pstO s (.slice ad s.slots.length cap) (.slice ad2 s.ends.length cap2)) = W2 at *
 generalize W.heap.size = q at *
 have a2 := hA.st.c2
 have g2 := hA.f 2 (by decide)
 have hq2 := hA.ty.lt
 have HP3 := hP2.set hWq 2 (.int .i64 (s.next + 1))
 have HA3 := hA.next (s.next + 1)
 have HS3 := HS2.set hA.ty (by decide) (by decide) 2 (.int .i64 (s.next + 1))
 clear hP2 HS2 hA
 go_upto_region 4 with fail
 clear a2 g2
 generalize W2.setCell ⟨q, 2, none⟩ (.int .i64 (s.next + 1)) = W3 at *
 have HPP3 : Hid (ARes w W3 s (.slice ad s.slots.length cap) (.slice ad2 s.ends.length cap2) p) := HP3
 have HAA3 : Hid (PW W3 q { s with next := s.next + 1 } (.slice ad s.slots.length cap) (.slice ad2 s.ends.length cap2)) := HA3
 have HSS3 : Hid (PAt W3 s (.slice ad s.slots.length cap) (.slice ad2 s.ends.length cap2)) := HS3
 obtain ⟨i0, i1, i2, i3, i4⟩ := HP3.st
 have b0 := HP3.a0
 have b1 := HP3.a1
 clear HP3 HA3 HS3
 by_cases h8 : 8 ≤ s.slots.length
 ·have HM : Hid (Px.arr s p = { { s with next := s.next + 1 } with ends := Bx.push s.ends ⟨s.next, ⟨#[115]⟩⟩ }) := arr_end' h8
  go_wp2_with fail
  refine (pwithEnd_any s.ends ⟨s.next, ⟨#[115]⟩⟩ _ _ he HSS3.out.en.1).mono ?_
  rintro e w5 ⟨⟨v5, rfl, hown5⟩, hb5⟩
  clear i0 i1 i2 i3 i4 b0 b1
  obtain ⟨ad5, cap5, hv5, _⟩ := (RowAt.of_own hown5).form
  subst hv5
  have hA5 := HAA3.out.later hb5
  have a4 := hA5.st.c4
  have g4 := hA5.f 4 (by decide)
  have hq5 := hA5.ty.lt
  have HP6 := (HPP3.out.later hb5).set hWq 4 (.slice ad5 (Bx.push s.ends ⟨s.next, ⟨#[115]⟩⟩).length cap5)
  have HA6 := hA5.ends (Bx.push s.ends ⟨s.next, ⟨#[115]⟩⟩) (.slice ad5 (Bx.push s.ends ⟨s.next, ⟨#[115]⟩⟩).length cap5)
  have HO6 := ((HSS3.out.later hb5).set hA5.ty (by decide) (by decide) 4 (.slice ad5 (Bx.push s.ends ⟨s.next, ⟨#[115]⟩⟩).length cap5)).sl
  have HE6 := (TRow.of_own hown5).set hA5.ty (by decide) 4 (.slice ad5 (Bx.push s.ends ⟨s.next, ⟨#[115]⟩⟩).length cap5)
  clear hA5 hown5 hb5 HPP3 HAA3 HSS3
  go_upto_region 6 with fail
  clear a4 g4
  generalize w5.setCell ⟨q, 4, none⟩ (.slice ad5 (Bx.push s.ends ⟨s.next, ⟨#[115]⟩⟩).length cap5) = W6 at *
  have HPA : Hid (PAt W6 { { s with next := s.next + 1 } with ends := Bx.push s.ends ⟨s.next, ⟨#[115]⟩⟩ } (.slice ad s.slots.length cap) (.slice ad5 (Bx.push s.ends ⟨s.next, ⟨#[115]⟩⟩).length cap5)) := ⟨HO6, HE6⟩
  have HTy : Hid (Typed W6 (w.heap.size + 2) 65) := HP6.ty
  have HB : Hid (Below w.heap.size w W6) := HP6.bel
  obtain ⟨⟨u0, r0⟩, f0⟩ := HP6.z 0 (by decide)
  obtain ⟨⟨u1, r1⟩, f1⟩ := HP6.z 1 (by decide)
  obtain ⟨⟨u2, r2⟩, f2⟩ := HP6.z 2 (by decide)
  obtain ⟨⟨u3, r3⟩, f3⟩ := HP6.z 3 (by decide)
  obtain ⟨⟨u4, r4⟩, f4⟩ := HP6.z 4 (by decide)
  obtain ⟨c0, c1, c2, c3, c4⟩ := HA6.st
  clear HP6 HA6 HO6 HE6
  go_wp2_with fail
  refine bodyPost_ret (v := pstV { { s with next := s.next + 1 } with ends := Bx.push s.ends ⟨s.next, ⟨#[115]⟩⟩ } (.slice ad s.slots.length cap) (.slice ad5 (Bx.push s.ends ⟨s.next, ⟨#[115]⟩⟩).length cap5)) (by simp [results, Tryz.results119, go_sem, r0, r1, r2, r3, r4]) rfl ?_
  rw [HM.out]
  exact ⟨⟨_, _, rfl, HPA.out.store HTy.out _ _ _ _ _⟩, below_set5' HB.out (by omega) _ _ _ _ _⟩
 ·have HM : Hid (Px.arr s p = { { s with next := s.next + 1 } with slots := s.slots ++ [Px.slotOf p s.next] }) := arr_slot' h8
  have hx3 : PsIn (W3.alloc (.cells #[.int .i64 s.next, .int .i64 ((p.1 : Int) + 1), .int .i64 p.2, .int .i64 1, .int .i64 p.2, .int .i64 0, .int .i64 0, .string { data := #[] }] 154)) W3.heap.size (Px.slotOf p s.next) := PsIn.new W3 (Px.slotOf p s.next)
  have HP4 := HPP3.out.later (below_alloc W3 (.cells #[.int .i64 s.next, .int .i64 ((p.1 : Int) + 1), .int .i64 p.2, .int .i64 1, .int .i64 p.2, .int .i64 0, .int .i64 0, .string { data := #[] }] 154))
  have HA4 := HAA3.out.later (below_alloc W3 (.cells #[.int .i64 s.next, .int .i64 ((p.1 : Int) + 1), .int .i64 p.2, .int .i64 1, .int .i64 p.2, .int .i64 0, .int .i64 0, .string { data := #[] }] 154))
  have HS4 := HSS3.out.later (below_alloc W3 (.cells #[.int .i64 s.next, .int .i64 ((p.1 : Int) + 1), .int .i64 p.2, .int .i64 1, .int .i64 p.2, .int .i64 0, .int .i64 0, .string { data := #[] }] 154))
  clear HPP3 HAA3 HSS3
  go_upto_region 8 with fail
  clear i0 i1 i2 i3 i4 b0 b1
  generalize W3.alloc (.cells #[.int .i64 s.next, .int .i64 ((p.1 : Int) + 1), .int .i64 p.2, .int .i64 1, .int .i64 p.2, .int .i64 0, .int .i64 0, .string { data := #[] }] 154) = W4 at *
  generalize W3.heap.size = sq at *
  generalize Px.slotOf p s.next = x at *
  have HPP4 : Hid (ARes w W4 s (.slice ad s.slots.length cap) (.slice ad2 s.ends.length cap2) p) := HP4
  have HAA4 : Hid (PW W4 q { s with next := s.next + 1 } (.slice ad s.slots.length cap) (.slice ad2 s.ends.length cap2)) := HA4
  have HSS4 : Hid (PAt W4 s (.slice ad s.slots.length cap) (.slice ad2 s.ends.length cap2)) := HS4
  obtain ⟨i0, i1, i2, i3, i4⟩ := HP4.st
  obtain ⟨x0, x1, x2, x3, x4, x5, x6, x7⟩ := hx3
  clear HP4 HA4 HS4
  go_wp2_with fail
  refine (pwithSlot_any s.slots x _ _ hl HSS4.out.sl.1).mono ?_
  rintro e w5 ⟨⟨v5, rfl, hown5⟩, hb5⟩
  clear i0 i1 i2 i3 i4 x0 x1 x2 x3 x4 x5 x6 x7
  obtain ⟨ad5, cap5, hv5, _⟩ := (RowAt.of_own hown5).form
  subst hv5
  have hA5 := HAA4.out.later hb5
  have a3 := hA5.st.c3
  have g3 := hA5.f 3 (by decide)
  have hq5 := hA5.ty.lt
  have HP6 := (HPP4.out.later hb5).set hWq 3 (.slice ad5 (s.slots ++ [x]).length cap5)
  have HA6 := hA5.slots (s.slots ++ [x]) (.slice ad5 (s.slots ++ [x]).length cap5)
  have HE6 := ((HSS4.out.later hb5).set hA5.ty (by decide) (by decide) 3 (.slice ad5 (s.slots ++ [x]).length cap5)).en
  have HO6 := (TRow.of_own hown5).set hA5.ty (by decide) 3 (.slice ad5 (s.slots ++ [x]).length cap5)
  clear hA5 hown5 hb5 HPP4 HAA4 HSS4
  generalize hnn : (s.slots ++ [x]).length = nn at *
  have HNN : Hid ((s.slots ++ [x]).length = nn) := hnn
  clear hnn
  go_upto_region 9 with fail
  clear a3 g3
  generalize w5.setCell ⟨q, 3, none⟩ (.slice ad5 nn cap5) = W6 at *
  have HPA : Hid (PAt W6 { { s with next := s.next + 1 } with slots := s.slots ++ [x] } (.slice ad5 nn cap5) (.slice ad2 s.ends.length cap2)) := ⟨by show TRow W6 _ _ (s.slots ++ [x]).length _; rw [HNN.out]; exact HO6, HE6⟩
  have HTy : Hid (Typed W6 (w.heap.size + 2) 65) := HP6.ty
  have HB : Hid (Below w.heap.size w W6) := HP6.bel
  obtain ⟨⟨u0, r0⟩, f0⟩ := HP6.z 0 (by decide)
  obtain ⟨⟨u1, r1⟩, f1⟩ := HP6.z 1 (by decide)
  obtain ⟨⟨u2, r2⟩, f2⟩ := HP6.z 2 (by decide)
  obtain ⟨⟨u3, r3⟩, f3⟩ := HP6.z 3 (by decide)
  obtain ⟨⟨u4, r4⟩, f4⟩ := HP6.z 4 (by decide)
  obtain ⟨c0, c1, c2, c3, c4⟩ := HA6.st
  clear HP6 HA6 HO6 HE6
  go_wp2_with fail
  refine bodyPost_ret (v := pstV { { s with next := s.next + 1 } with slots := s.slots ++ [x] } (.slice ad5 nn cap5) (.slice ad2 s.ends.length cap2)) (by simp [results, Tryz.results119, go_sem, r0, r1, r2, r3, r4]) rfl ?_
  rw [HM.out]
  exact ⟨⟨_, _, rfl, HPA.out.store HTy.out _ _ _ _ _⟩, below_set5' HB.out (by omega) _ _ _ _ _⟩
end Go.Proofs.YtdajolpoiffimaaGreatDoor

namespace Go.Proofs.YtdajolpoiffimaaGreatDoor
open Go.RowKit

end Go.Proofs.YtdajolpoiffimaaGreatDoor

namespace Go.Proofs.YtdajolpoiffimaaGreatDoor
open Go.RowKit

set_option maxRecDepth 10000 in
set_option maxHeartbeats 2000000 in
theorem withCancel_any (s : Px.St) (n : Int) (sl en : Value) (w : World) (hl : s.slots.length ≤ 10000) (he : s.ends.length ≤ 10000) (hS : PAt w s sl en) :
 Calls Tryz.prog 86 #[pstV s sl en, .int .i64 n] w fun e w' => ChgR (Px.cancelP s n) w' e ∧ Below w.heap.size w w' := by
 obtain ⟨ad, cap, rfl, hcap⟩ := hS.sl.form
 obtain ⟨ad2, cap2, rfl, hcap2⟩ := hS.en.form
 have HS : Hid (PAt w s (.slice ad s.slots.length cap) (.slice ad2 s.ends.length cap2)) := hS
 have hP := PRes.new w s (.slice ad s.slots.length cap) (.slice ad2 s.ends.length cap2)
 clear hS
 go_enter Tryz.func86, Tryz.ntmps86
 go_upto_region 1 with fail
 generalize (w.alloc (pstO s (.slice ad s.slots.length cap) (.slice ad2 s.ends.length cap2))).alloc pzO = W at *
 have HSW : Hid (PAt W s (.slice ad s.slots.length cap) (.slice ad2 s.ends.length cap2)) := HS.out.later hP.bel
 have HP : Hid (PRes w W s (.slice ad s.slots.length cap) (.slice ad2 s.ends.length cap2)) := hP
 obtain ⟨i0, i1, i2, i3, i4⟩ := hP.st
 clear hP
 go_wp2_with fail
 refine (pfind_any s n _ _ _ hl HSW.out).mono ?_
 rintro e w1 ⟨hF, hb1⟩
 clear i0 i1 i2 i3 i4
 have HP1 := HP.out.later hb1
 have HS1 := HSW.out.later hb1
 clear HP HSW hb1
 rcases hF with ⟨x, hf, rfl⟩ | ⟨hf, rfl⟩
 rotate_left
 ·have HM : Hid (Px.cancelP s n = (Px.st0, 8)) := by unfold Hid Px.cancelP; rw [hf]
  clear hf
  generalize Px.sl0 = x at *
  have HPW2 := HP1.later (below_alloc w1 (psO x))
  clear HP1 HS1
  go_upto_region 2 with fail
  generalize w1.alloc (psO x) = W2 at *
  obtain ⟨⟨⟨u0, r0⟩, f0⟩, ⟨⟨u1, r1⟩, f1⟩, ⟨⟨u2, r2⟩, f2⟩, ⟨⟨u3, r3⟩, f3⟩, ⟨⟨u4, r4⟩, f4⟩⟩ := HPW2.five
  have HB2 : Hid (Below w.heap.size w W2) := HPW2.bel
  clear HPW2
  go_wp2_with fail
  refine bodyPost_ret (v := .tuple #[.agg #[.string { data := #[] }, .int .i64 0, .int .i64 0, .slice none 0 0, .slice none 0 0], .int .i64 8]) (by simp [results, Tryz.results86, go_sem, r0, r1, r2, r3, r4]) rfl ⟨ChgR.err HM.out, below_set5' HB2.out (by omega) _ _ _ _ _⟩
 have HFx : Hid (Px.find s.slots n = some x) := hf
 have HP2 := HP1.later (below_alloc w1 (psO x))
 have HS2 := HS1.later (below_alloc w1 (psO x))
 have hx2 := PsIn.new w1 x
 have hq1 : w1.heap.size < (w1.alloc (psO x)).heap.size := by simp
 have hq0 : w.heap.size + 1 < w1.heap.size := HP1.lt
 clear HP1 HS1 hf
 go_upto_region 2 with fail
 generalize w1.alloc (psO x) = W2 at *
 generalize w1.heap.size = xq at *
 have HPP2 : Hid (PRes w W2 s (.slice ad s.slots.length cap) (.slice ad2 s.ends.length cap2)) := HP2
 have HSS2 : Hid (PAt W2 s (.slice ad s.slots.length cap) (.slice ad2 s.ends.length cap2)) := HS2
 have HX2 : Hid (PsIn W2 xq x) := hx2
 obtain ⟨x0, x1, x2, x3, x4, x5, x6, x7⟩ := hx2
 clear HP2 HS2
 have HM : Hid (Px.cancelP s n = (Px.ended s x.num ⟨#[107]⟩, 0)) := by unfold Hid Px.cancelP; rw [HFx.out, hK_eq]
 obtain ⟨i0, i1, i2, i3, i4⟩ := HPP2.out.st
 go_wp2_with fail
 refine (ended_any s x.num ⟨#[107]⟩ _ _ _ hl he HSS2.out).mono ?_
 rintro e w4 ⟨⟨sl4, en4, rfl, hst4⟩, hb4⟩
 clear i0 i1 i2 i3 i4 x0 x1 x2 x3 x4 x5 x6 x7
 have HPw4 := HPP2.out.later hb4
 obtain ⟨ad4, cap4, hv4, _⟩ := hst4.sl.form
 obtain ⟨ad5, cap5, hv5, _⟩ := hst4.en.form
 subst hv4 hv5
 have H4 : Hid (PAt w4 (Px.ended s x.num ⟨#[107]⟩) (.slice ad4 (Px.ended s x.num ⟨#[107]⟩).slots.length cap4) (.slice ad5 (Px.ended s x.num ⟨#[107]⟩).ends.length cap5)) := hst4
 have HT4 : Hid (Typed w4 (w.heap.size + 1) 65) := HPw4.ty
 have HB4 : Hid (Below w.heap.size w w4) := HPw4.bel
 obtain ⟨⟨⟨u0, r0⟩, f0⟩, ⟨⟨u1, r1⟩, f1⟩, ⟨⟨u2, r2⟩, f2⟩, ⟨⟨u3, r3⟩, f3⟩, ⟨⟨u4, r4⟩, f4⟩⟩ := HPw4.five
 clear hst4 hb4 HPw4 HPP2 HSS2
 go_wp2_with fail
 refine bodyPost_ret (v := .tuple #[pstV (Px.ended s x.num ⟨#[107]⟩) (.slice ad4 (Px.ended s x.num ⟨#[107]⟩).slots.length cap4) (.slice ad5 (Px.ended s x.num ⟨#[107]⟩).ends.length cap5), .int .i64 0]) (by simp [results, Tryz.results86, go_sem, r0, r1, r2, r3, r4]) rfl ⟨ChgR.ok HM.out (H4.out.store HT4.out _ _ _ _ _), below_set5' HB4.out (by omega) _ _ _ _ _⟩

end Go.Proofs.YtdajolpoiffimaaGreatDoor
