/-
  OpenM, RefOpen.
-/
import Derived.Deep.RegionHeld3
import Derived.Test.YtdajolpoiffimaaGreatDoorO5
import Derived.Test.YtdajolpoiffimaaGreatDoorO11
import Derived.Test.YtdajolpoiffimaaGreatDoorO14

namespace Go.Proofs.YtdajolpoiffimaaGreatDoor
namespace Px
theorem Rel.opened {l r : Int} {s : St} (hl : mayB l r = true) (h : Bx.MayS (abs s)) : Rel (openB l r s) ⟨l, r, Bx.intS (abs s), Bx.frame (Bx.wholeS (Bx.intS (abs s))), []⟩ := by
 obtain ⟨h1, h2, h3, h4⟩ := of_decide_eq_true hl
 have hm : Bx.MayS (abs (intP s)) := by rw [int_abs]; exact h.int
 have hw := whole_le hm
 have hk := int_ok h
 rw [← int_abs]
 refine ⟨rfl, rfl, rfl, rfl, ⟨List.Pairwise.nil, fun t ht => by simp at ht, fun x hx hs => ?_⟩, hk, h1, h2, h3, h4, by show (((Bx.frame (Bx.wholeS (abs (intP s)))).size : Nat) : Int) ≤ r; omega⟩
 obtain ⟨y, _, rfl⟩ := List.mem_map.1 hx
 exact absurd hs (by show ¬ (0 : Int) < 0; omega)
end Px
end Go.Proofs.YtdajolpoiffimaaGreatDoor

namespace Go.Proofs.YtdajolpoiffimaaGreatDoor
open Go.RowKit

theorem BoxIn.new2 (w : World) (l r : Int) (S : Bx.St) (x : ByteArray) (sl en : Value) (h : StAt w S sl en) : BoxIn (w.alloc (bxO ⟨l, r, S, x, []⟩ sl en nilV)) w.heap.size ⟨l, r, S, x, []⟩ sl en nilV := by
 refine ⟨?_, ?_, ?_, ?_, ?_, ?_, ?_, ?_, ?_, fun j _ => ?_, Typed.new _ _ _, h.later (below_alloc _ _), World.ownsRow_nil _ _ _ _⟩
 all_goals simp [go_sem]
set_option maxHeartbeats 1000000 in
theorem ropen_no (l r : Int) (log : ByteArray) (w : World) (h : mayB l r = false) : Calls Tryz.prog 20 #[.int .i64 l, .int .i64 r, .string log] w fun e w' => e = .returned (.tuple #[.pointer none, .int .i64 0, .int .i64 4]) ∧ w' = w := by
 go_enter Tryz.func20, Tryz.ntmps20
 go_wp2_with fail
 refine (may_any l r _).mono ?_
 rintro e w1 ⟨rfl, rfl⟩
 rw [h]
 clear h
 go_wp2_with fail
 refine bodyPost_ret (v := .tuple #[.pointer none, .int .i64 0, .int .i64 4]) (by simp [results, Tryz.results20]) rfl ?_
 exact ⟨rfl, rfl⟩
set_option maxHeartbeats 1000000 in
theorem ropen_long (l r : Int) (log : ByteArray) (w : World) (h : mayB l r = true) (hl : 4000 < log.size) : Calls Tryz.prog 20 #[.int .i64 l, .int .i64 r, .string log] w fun e w' => e = .returned (.tuple #[.pointer none, .int .i64 0, .int .i64 1]) ∧ w' = w := by
 have h4 : (4000 : Int) < (log.size : Int) := by omega
 go_enter Tryz.func20, Tryz.ntmps20
 go_wp2_with fail
 refine (may_any l r _).mono ?_
 rintro e w1 ⟨rfl, rfl⟩
 rw [h]
 clear h
 go_wp2_with fail
 refine bodyPost_ret (v := .tuple #[.pointer none, .int .i64 0, .int .i64 1]) (by simp [results, Tryz.results20]) rfl ?_
 exact ⟨rfl, rfl⟩
/-- What the document's Open answers. -/
def OpD (l r : Int) (log : ByteArray) (w w' : World) (e : Ending) : Prop := ∃ (S : Bx.St) (q : ByteArray) (n : Int) (D : Nat), e = .returned (.tuple #[.pointer (some ⟨D, 0, none⟩), .int .i64 n, .int .i64 0]) ∧ Bx.Says true Bx.first log S q ∧ n + (q.size : Int) = (log.size : Int) ∧ w.heap.size ≤ D ∧ (∃ sl en, BoxIn w' D ⟨l, r, Bx.intS S, Bx.frame (Bx.wholeS (Bx.intS S)), []⟩ sl en nilV) ∧ Below w.heap.size w w'
set_option maxRecDepth 10000 in
set_option maxHeartbeats 4000000 in
theorem ropen_yes (l r : Int) (log : ByteArray) (w : World) (h : mayB l r = true) (hl : log.size ≤ 4000) : Calls Tryz.prog 20 #[.int .i64 l, .int .i64 r, .string log] w fun e w' => OpD l r log w w' e := by
 have h4 : ¬ (4000 : Int) < (log.size : Int) := by omega
 go_enter Tryz.func20, Tryz.ntmps20
 go_wp2_with fail
 refine (may_any l r _).mono ?_
 rintro e w1 ⟨rfl, hw1⟩
 have hw2 := hw1.symm
 subst hw2
 clear hw1
 rw [h]
 clear h
 go_wp2_with fail
 refine (lsays_any log _ (by omega)).mono ?_
 rintro e w2 ⟨S, sl, en, q, n, rfl, hA, hsay, hn, hb2⟩
 have HS : Hid (Bx.Says true Bx.first log S q ∧ n + (q.size : Int) = (log.size : Int)) := ⟨hsay, hn⟩
 have HM : Hid (Bx.MayS S) := Bx.says_may hsay Bx.first_may
 have hlen := HM.out.sl
 obtain ⟨ad, cap, rfl, hcap⟩ := hA.sl.form
 obtain ⟨ad2, cap2, rfl, hcap2⟩ := hA.en.form
 have hb3 := hb2.trans ((below_alloc w2 (stO S (.slice ad S.slots.length cap) (.slice ad2 S.ends.length cap2))).mono hb2.size)
 have hI := StIn.new w2 S (.slice ad S.slots.length cap) (.slice ad2 S.ends.length cap2)
 have hA2 := hA.later (below_alloc w2 (stO S (.slice ad S.slots.length cap) (.slice ad2 S.ends.length cap2)))
 clear hsay hn hA hb2
 go_upto_region 7 with fail
 have hI' : StIn (w2.alloc (stO S (.slice ad S.slots.length cap) (.slice ad2 S.ends.length cap2))) w2.heap.size S (.slice ad S.slots.length cap) (.slice ad2 S.ends.length cap2) := hI
 clear hI
 generalize w2.alloc (stO S (.slice ad S.slots.length cap) (.slice ad2 S.ends.length cap2)) = W at *
 generalize w2.heap.size = xq at *
 have HA : Hid (StAt W S (.slice ad S.slots.length cap) (.slice ad2 S.ends.length cap2)) := hA2
 have HB : Hid (Below w.heap.size w W) := hb3
 obtain ⟨i0, i1, i2, i3, i4⟩ := hI'
 clear hA2 hb3
 go_wp2_with fail
 refine (int_any S _ _ _ (by omega) HA.out).mono ?_
 rintro e w3 ⟨⟨sl3, rfl, hA3⟩, hb3⟩
 have hT : intS S = Bx.intS S := rfl
 rw [hT] at hA3 ⊢
 have HMT : Hid (Bx.MayS (Bx.intS S)) := HM.out.int
 have HO : Hid (∀ T, T = Bx.intS S → (⟨l, r, T, Bx.frame (Bx.wholeS T), []⟩ : Bx.Bo) = ⟨l, r, Bx.intS S, Bx.frame (Bx.wholeS (Bx.intS S)), []⟩) := fun T e => by rw [e]
 clear hT
 obtain ⟨T, hTT⟩ : ∃ T, T = Bx.intS S := ⟨_, rfl⟩
 have HO2 := HO.out T hTT
 have HO3 : Hid ((⟨l, r, T, Bx.frame (Bx.wholeS T), []⟩ : Bx.Bo) = ⟨l, r, Bx.intS S, Bx.frame (Bx.wholeS (Bx.intS S)), []⟩) := HO2
 rw [← hTT] at hA3 HMT ⊢
 clear HO HO2 hTT
 obtain ⟨ad3, cap3, rfl, hcap3⟩ := hA3.sl.form
 obtain ⟨ad4, cap4, hen4, hcap4⟩ := hA3.en.form
 rw [hen4] at hA3 ⊢
 clear hen4
 have hb4 := HB.out.trans ((hb3.trans ((below_alloc w3 (stO T (.slice ad3 T.slots.length cap3) (.slice ad4 T.ends.length cap4))).mono hb3.size)).mono HB.out.size)
 have hI3 := StIn.new w3 T (.slice ad3 T.slots.length cap3) (.slice ad4 T.ends.length cap4)
 have hA4 := hA3.later (below_alloc w3 (stO T (.slice ad3 T.slots.length cap3) (.slice ad4 T.ends.length cap4)))
 clear i0 i1 i2 i3 i4 hA3 hb3 HA HB
 go_upto_region 8 with fail
 have hI4 : StIn (w3.alloc (stO T (.slice ad3 T.slots.length cap3) (.slice ad4 T.ends.length cap4))) w3.heap.size T (.slice ad3 T.slots.length cap3) (.slice ad4 T.ends.length cap4) := hI3
 clear hI3
 generalize w3.alloc (stO T (.slice ad3 T.slots.length cap3) (.slice ad4 T.ends.length cap4)) = W4 at *
 generalize w3.heap.size = yq at *
 obtain ⟨i0, i1, i2, i3, i4⟩ := hI4
 have hyq : yq < W4.heap.size := World.block_lt_of_cell? _ _ i0
 have HB4 : Hid (Below w.heap.size w W4) := hb4
 have HA4 : Hid (StAt W4 T (.slice ad3 T.slots.length cap3) (.slice ad4 T.ends.length cap4)) := hA4
 have hsz4 := hb4.size
 have CW : Hid (∀ v : World, Below W4.heap.size W4 v → Calls Tryz.prog 60 #[stV T (.slice ad3 T.slots.length cap3) (.slice ad4 T.ends.length cap4)] v fun e w' => e = .returned (.string (Bx.wholeS T)) ∧ Below W4.heap.size W4 w') := fun v hb => (whole_any T _ _ v HMT.out.fit (by have := HMT.out.sl; omega) HMT.out.en (HA4.out.later hb)).mono fun _ _ h => ⟨h.1, hb.trans (h.2.mono hb.size)⟩
 have CF : Hid (∀ v : World, Below W4.heap.size W4 v → Calls Tryz.prog 59 #[.string (Bx.wholeS T)] v fun e w' => e = .returned (.string (Bx.frame (Bx.wholeS T))) ∧ Below W4.heap.size W4 w') := fun v hb => (frame_any (Bx.wholeS T) v (by have := Bx.wholeS_size HMT.out; omega)).mono fun _ _ h => ⟨h.1, hb.trans (h.2.mono hb.size)⟩
 have HX : Hid (∀ (v : World) (x : ByteArray), Below W4.heap.size W4 v → BoxIn (v.alloc (bxO ⟨l, r, T, x, []⟩ (.slice ad3 T.slots.length cap3) (.slice ad4 T.ends.length cap4) nilV)) v.heap.size ⟨l, r, T, x, []⟩ (.slice ad3 T.slots.length cap3) (.slice ad4 T.ends.length cap4) nilV) := fun v x hb => BoxIn.new2 v l r T x _ _ (HA4.out.later hb)
 clear hA4 hb4
 generalize Bx.frame (Bx.wholeS T) = fr at *
 generalize Bx.wholeS T = wh at *
 go_wp2_with fail
 go_region_held3 (fun w' => ∀ b o, b < W4.heap.size → w'.cell? ⟨b, o, none⟩ = W4.cell? ⟨b, o, none⟩)
  ((intro b' o' h1; first | (with_reducible exact (hbF.alloc hbF.size _).cell (p := ⟨b', o', none⟩) h1) | (with_reducible exact hbF.cell (p := ⟨b', o', none⟩) h1) | (with_reducible exact hbW.cell (p := ⟨b', o', none⟩) h1) | (with_reducible exact ((Below.refl _ _).drew).cell (p := ⟨b', o', none⟩) h1) | rfl))
  (first
   | (go_at_call 60; with_reducible refine (CW.out _ ?hb).mono ?_; (case hb => first | exact (Below.refl _ _).drew | exact Below.refl _ _); rintro e v0 ⟨rfl, hbW⟩)
   | (go_at_call 59; with_reducible refine (CF.out _ ?hb).mono ?_; (case hb => exact hbW); rintro e v1 ⟨rfl, hbF⟩))
 have HE : Hid (OpD l r log w (v1.alloc (bxO ⟨l, r, T, fr, []⟩ (.slice ad3 T.slots.length cap3) (.slice ad4 T.ends.length cap4) nilV)) (.returned (.tuple #[.pointer (some ⟨v1.heap.size, 0, none⟩), .int .i64 n, .int .i64 0]))) :=
  ⟨S, q, n, v1.heap.size, rfl, HS.out.1, HS.out.2, Nat.le_trans hsz4 hbF.size, ⟨_, _, by rw [← HO3.out]; exact HX.out v1 fr hbF⟩, (HB4.out.trans (hbF.mono hsz4)).alloc (Nat.le_trans hsz4 hbF.size) _⟩
 go_wp2_with fail
 refine bodyPost_ret (v := .tuple #[.pointer (some ⟨v1.heap.size, 0, none⟩), .int .i64 n, .int .i64 0]) (by simp [results, Tryz.results20]) rfl ?_
 exact HE.out
end Go.Proofs.YtdajolpoiffimaaGreatDoor
