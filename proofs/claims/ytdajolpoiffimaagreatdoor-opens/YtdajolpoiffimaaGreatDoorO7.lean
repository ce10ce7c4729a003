/-
  TabRdLine2, TabRdAll, PrgSt, PrgRun, PrgChg, PrgChg2, PrgBox.
-/
import Derived.Test.YtdajolpoiffimaaGreatDoorO1
import Derived.Test.YtdajolpoiffimaaGreatDoorO2
import Derived.Test.YtdajolpoiffimaaGreatDoorO6

namespace Go.Proofs.YtdajolpoiffimaaGreatDoor
open Go.RowKit
attribute [local go_sem ↓] Go.wp_at_zero Go.wp_at_succ

theorem below_line {B : Nat} {a w : World} {R : Nat} (h : Below B a w) (hR : B ≤ R) {v0 v1 v2 v3 v4 v5 v6 v7 v8 v9 v10 v11 v12 v13 : Value} : Below B a ((((((((((((((w.setCell ⟨R, 0, none⟩ v0).setCell ⟨R, 1, none⟩ v1).setCell ⟨R, 2, none⟩ v2).setCell ⟨R, 3, none⟩ v3).setCell ⟨R, 4, none⟩ v4).setCell ⟨R, 5, none⟩ v5).setCell ⟨R, 6, none⟩ v6).setCell ⟨R, 7, none⟩ v7).setCell ⟨R, 8, none⟩ v8).setCell ⟨R, 9, none⟩ v9).setCell ⟨R, 10, none⟩ v10).setCell ⟨R, 11, none⟩ v11).setCell ⟨R, 12, none⟩ v12).setCell ⟨R, 13, none⟩ v13) :=
 ((((((((((((((h.setCell hR _).setCell hR _).setCell hR _).setCell hR _).setCell hR _).setCell hR _).setCell hR _).setCell hR _).setCell hR _).setCell hR _).setCell hR _).setCell hR _).setCell hR _).setCell hR _)

theorem far_line {w : World} {R x o : Nat} {u v0 v1 v2 v3 v4 v5 v6 v7 v8 v9 v10 v11 v12 v13 : Value} (hne : R < x) (h : w.cell? ⟨x, o, none⟩ = some u) : ((((((((((((((w.setCell ⟨R, 0, none⟩ v0).setCell ⟨R, 1, none⟩ v1).setCell ⟨R, 2, none⟩ v2).setCell ⟨R, 3, none⟩ v3).setCell ⟨R, 4, none⟩ v4).setCell ⟨R, 5, none⟩ v5).setCell ⟨R, 6, none⟩ v6).setCell ⟨R, 7, none⟩ v7).setCell ⟨R, 8, none⟩ v8).setCell ⟨R, 9, none⟩ v9).setCell ⟨R, 10, none⟩ v10).setCell ⟨R, 11, none⟩ v11).setCell ⟨R, 12, none⟩ v12).setCell ⟨R, 13, none⟩ v13).cell? ⟨x, o, none⟩ = some u := by
 have hx : ∀ j : Nat, (⟨R, j, none⟩ : Addr) ≠ ⟨x, o, none⟩ := fun j e => by cases e; omega
 rw [World.cell?_setCell_other _ _ _ _ (hx _), World.cell?_setCell_other _ _ _ _ (hx _), World.cell?_setCell_other _ _ _ _ (hx _), World.cell?_setCell_other _ _ _ _ (hx _), World.cell?_setCell_other _ _ _ _ (hx _), World.cell?_setCell_other _ _ _ _ (hx _), World.cell?_setCell_other _ _ _ _ (hx _), World.cell?_setCell_other _ _ _ _ (hx _), World.cell?_setCell_other _ _ _ _ (hx _), World.cell?_setCell_other _ _ _ _ (hx _), World.cell?_setCell_other _ _ _ _ (hx _), World.cell?_setCell_other _ _ _ _ (hx _), World.cell?_setCell_other _ _ _ _ (hx _), World.cell?_setCell_other _ _ _ _ (hx _)]
 exact h
theorem own_line {w : World} {R base size n : Nat} {e : TypeId} {v : Value} {xs : List Value} {v0 v1 v2 v3 v4 v5 v6 v7 v8 v9 v10 v11 v12 v13 : Value} (h : w.ownsRow base e size v n xs) (hR : R < base) : ((((((((((((((w.setCell ⟨R, 0, none⟩ v0).setCell ⟨R, 1, none⟩ v1).setCell ⟨R, 2, none⟩ v2).setCell ⟨R, 3, none⟩ v3).setCell ⟨R, 4, none⟩ v4).setCell ⟨R, 5, none⟩ v5).setCell ⟨R, 6, none⟩ v6).setCell ⟨R, 7, none⟩ v7).setCell ⟨R, 8, none⟩ v8).setCell ⟨R, 9, none⟩ v9).setCell ⟨R, 10, none⟩ v10).setCell ⟨R, 11, none⟩ v11).setCell ⟨R, 12, none⟩ v12).setCell ⟨R, 13, none⟩ v13).ownsRow base e size v n xs := by
 have q : ∀ (w : World) (j : Nat) (u : Value), w.ownsRow base e size v n xs → (w.setCell ⟨R, j, none⟩ u).ownsRow base e size v n xs := fun w j u h => ownsRow_setCell_below h (by simpa using hR) u
 exact (q _ _ _ (q _ _ _ (q _ _ _ (q _ _ _ (q _ _ _ (q _ _ _ (q _ _ _ (q _ _ _ (q _ _ _ (q _ _ _ (q _ _ _ (q _ _ _ (q _ _ _ (q _ _ _ h))))))))))))))

/-- A line that is none, as a value; a line, as a value. -/
abbrev zeroLine : Value := .agg #[.bool false, .slice none 0 0, .bool false, .slice none 0 0, .bool false, .slice none 0 0, .bool false, .slice none 0 0, .bool false, .slice none 0 0, .bool false, .int .u8 0, .int .i64 0, .slice none 0 0]
abbrev lineV (s : ByteArray) (bb cc : Nat → Nat) (sv : Value) : Value := .agg #[.bool (Txt.opn (pt s 0)), .slice (some ⟨bb 0, 0, none⟩) (Txt.pcs 44 (pt s 0)).length (cc 0), .bool (Txt.opn (pt s 1)), .slice (some ⟨bb 1, 0, none⟩) (Txt.pcs 44 (pt s 1)).length (cc 1), .bool (Txt.opn (pt s 2)), .slice (some ⟨bb 2, 0, none⟩) (Txt.pcs 44 (pt s 2)).length (cc 2), .bool (Txt.opn (pt s 3)), .slice (some ⟨bb 3, 0, none⟩) (Txt.pcs 44 (pt s 3)).length (cc 3), .bool (Txt.opn (pt s 4)), .slice (some ⟨bb 4, 0, none⟩) (Txt.pcs 44 (pt s 4)).length (cc 4), .bool (obt (pt s 5) 0 == 120), .int .u8 (obt (pt s 5) 1), .int .i64 (obt (pt s 5) 2 - 48), sv]
theorem own_mono {w : World} {base base' : Nat} {e : TypeId} {size : Nat} {v : Value} {n : Nat} {xs : List Value} (h : w.ownsRow base e size v n xs) (hb : base' ≤ base) : w.ownsRow base' e size v n xs := by
 refine ⟨h.1, ?_⟩
 rcases h.2 with h2 | ⟨g, cap, cur, hv, hbase, h3⟩
 ·exact Or.inl h2
 ·exact Or.inr ⟨g, cap, cur, hv, Nat.le_trans hb hbase, h3⟩
/-- What readLine answers. -/
def LineR (s : ByteArray) (h : Nat) (w' : World) (e : Ending) : Prop :=
 (lineB s = true ∧ ∃ (bb cc : Nat → Nat) (sv : Value), e = .returned (.tuple #[lineV s bb cc sv, .bool true]) ∧ (∀ j : Nat, j < 5 → h ≤ bb j ∧ (Txt.pcs 44 (pt s j)).length ≤ cc j ∧ PartsAt w' (bb j) (lo j) (hi j) (Txt.pcs 44 (pt s j))) ∧ w'.ownsRow h 235 2 sv (stps s).length ((stps s).flatMap spC)) ∨
 (lineB s = false ∧ e = .returned (.tuple #[zeroLine, .bool false]))

set_option maxRecDepth 10000 in
set_option maxHeartbeats 3000000 in
theorem readLine_any (s : ByteArray) (w : World) (hs : s.size ≤ 300) (hT : TabLH w) :
 Calls Tryz.prog 155 #[.string s] w fun e w' => LineR s w.heap.size w' e ∧ Below w.heap.size w w' := by
 have h2w : 0 < w.heap.size ∧ 1 < w.heap.size := ⟨World.block_lt_of_cell? _ _ (hT 0 (by decide)).1, World.block_lt_of_cell? _ _ (hT 0 (by decide)).2⟩
 have HT0 : Hid (∀ o, TabLH (w.alloc o)) := fun o => hT.later (below_alloc _ _)
 clear hT
 go_enter Tryz.func155, Tryz.ntmps155
 go_wp2_with fail
 refine (split_any _ _ _ hs).mono ?_
 rintro e w1 ⟨⟨b, cap, rfl, hge, hcap, hS⟩, hb⟩
 have hlen := Txt.pcs_len 32 s
 have HT1 : Hid (∀ o, TabLH (w1.alloc o)) := fun o => ((HT0.out _).later hb).later (below_alloc _ _)
 clear HT0
 have B1 : Hid (Below w.heap.size w w1) := (below_alloc w _).trans (hb.mono (by simp))
 have hgb : w.heap.size < b := by simp at hge; omega
 have hbl : b < w1.heap.size := World.block_lt_of_cell? _ _ (hS 0 (Txt.pcs_ne _ _))
 have hzz : w.heap.size < w1.heap.size := by omega
 by_cases n7 : (Txt.pcs 32 s).length ≤ 6
 ·have KK : Hid (lineB s = false) := lineB_no (fun h => by have := h.n7; omega)
  obtain ⟨hc, hf⟩ := bcell hb
  clear hb hS
  go_wp2_with fail
  exact bodyPost_ret (v := .tuple #[zeroLine, .bool false]) (by simp [results, Tryz.results155, go_sem, hc]) rfl ⟨Or.inr ⟨KK.out, rfl⟩, below_line B1.out (Nat.le_refl _)⟩
 by_cases n11 : 11 < (Txt.pcs 32 s).length
 ·have KK : Hid (lineB s = false) := lineB_no (fun h => by have := h.n11; omega)
  obtain ⟨hc, hf⟩ := bcell hb
  clear hb hS
  go_wp2_with fail
  exact bodyPost_ret (v := .tuple #[zeroLine, .bool false]) (by simp [results, Tryz.results155, go_sem, hc]) rfl ⟨Or.inr ⟨KK.out, rfl⟩, below_line B1.out (Nat.le_refl _)⟩
 have H0 : LInv w (w1.alloc (.cells #[.bool false, .slice none 0 0, .bool false, .slice none 0 0, .bool false, .slice none 0 0, .bool false, .slice none 0 0, .bool false, .slice none 0 0, .bool false, .int .u8 0, .int .i64 0, .slice none 0 0] 193)) b w1.heap.size s 0 (fun _ => 0) (fun _ => 0) := by
  refine ⟨hS.later (below_alloc _ _), HT1.out _, ?_, fun j h => by omega, ?_, ?_, ?_, fun j h => by omega, B1.out.alloc (Nat.le_of_lt hzz) _, hgb, hbl, by simp, h2w⟩
  ·intro j hj
   have hj' : j = 0 ∨ j = 1 ∨ j = 2 ∨ j = 3 ∨ j = 4 ∨ j = 5 ∨ j = 6 ∨ j = 7 ∨ j = 8 ∨ j = 9 ∨ j = 10 ∨ j = 11 ∨ j = 12 ∨ j = 13 := by omega
   refine ⟨cell_later (below_alloc _ _) (cell_later hb ?_), ?_⟩
   ·rcases hj' with rfl | rfl | rfl | rfl | rfl | rfl | rfl | rfl | rfl | rfl | rfl | rfl | rfl | rfl <;> simp [go_sem, zc]
   ·rw [(below_alloc w1 _).frozen (p := ⟨w.heap.size, j, none⟩) (by simpa using hzz), hb.frozen (p := ⟨w.heap.size, j, none⟩) (by simp)]
    simp [go_sem]
  ·intro j _ hj
   have hj' : j = 0 ∨ j = 1 ∨ j = 2 ∨ j = 3 ∨ j = 4 := by omega
   rcases hj' with rfl | rfl | rfl | rfl | rfl <;> simp [go_sem]
  ·intro j h6 hj
   have hj' : j = 10 ∨ j = 11 ∨ j = 12 ∨ j = 13 := by omega
   rcases hj' with rfl | rfl | rfl | rfl <;> simp [go_sem, zc]
  ·intro j hj
   simp [go_sem]
 clear hb hS HT1 B1
 go_wp2_with fail
 go_loopw [6] (fun x wr => ∃ (k : Nat) (bb cc : Nat → Nat), k ≤ 5 ∧ x = .int .i64 k ∧ (∀ (j : Nat), j < k → Txt.fldB (lo j) (hi j) (pt s j) = true) ∧ LInv w wr b w1.heap.size s k bb cc) (fun x _ => 5 - (intOf x).toNat)
 case atStart => exact ⟨0, _, _, by omega, rfl, fun j h => by omega, H0⟩
 case round =>
  clear H0
  obtain ⟨k, bb, cc, hk, rfl, hall, HI⟩ := hrel
  have HA : Hid (∀ (j : Nat), j < k → Txt.fldB (lo j) (hi j) (pt s j) = true) := hall
  clear hall
  by_cases hlt : k < 5
  ·have hkl : k < (Txt.pcs 32 s).length := by omega
   have hcell : wr.cell? ⟨b, k, none⟩ = some (.string (pt s k)) := by rw [← pt_eq hkl]; exact HI.strs k hkl
   have zk : Hid ((pt s k).size ≤ 300) := by rw [← pt_eq hkl]; exact Txt.pcs_sz hs k hkl
   obtain ⟨c1, c2⟩ := HI.tabs k hlt
   have lh := lohi k
   have b0 : (0 : Int) ≤ (k : Int) := by omega
   have b1 : (k : Int) < 5 := by omega
   have b2 : (k : Int) < ((Txt.pcs 32 s).length : Int) := by omega
   have e1 := World.new_ne wr _ hcell
   have e2 := World.new_ne wr _ c1
   have e3 := World.new_ne wr _ c2
   have z1 : b < wr.heap.size := World.block_lt_of_cell? _ _ hcell
   have z2 : 0 < wr.heap.size := World.block_lt_of_cell? _ _ c1
   have z3 : 1 < wr.heap.size := World.block_lt_of_cell? _ _ c2
   go_wp2_with fail
   go_region_held3 (fun w' => w'.cell? ⟨b, k, none⟩ = some (.string (pt s k)) ∧ w'.cell? ⟨0, k, none⟩ = some (.int .i64 (lo k)) ∧ w'.cell? ⟨1, k, none⟩ = some (.int .i64 (hi k))) (first | exact ⟨cell_later hbC hcell, cell_later hbC c1, cell_later hbC c2⟩ | exact ⟨cell_later (hbC.alloc hbC.size _) hcell, cell_later (hbC.alloc hbC.size _) c1, cell_later (hbC.alloc hbC.size _) c2⟩ | exact ⟨hcell, c1, c2⟩ | exact ⟨cell_later (below_alloc _ _) hcell, cell_later (below_alloc _ _) c1, cell_later (below_alloc _ _) c2⟩ | go_keep) ((go_at_call 188; refine (readField_flat _ _ _ _ zk.out (by omega) (by omega) (by omega) (by omega)).mono ?_; rintro e w2 ⟨o, ad, n, c, ok, rfl, hR, hb2⟩; have hbC : Below wr.heap.size wr w2 := (by first | exact (Below.refl _ _).drew.trans hb2 | exact (below_alloc _ _).drew.trans (hb2.mono (by simp))); obtain ⟨hc2, hf2⟩ := bcell hb2))
   ·have F : Flat (lo k) (hi k) (pt s k) wr (w2.alloc (.cells #[.bool o, .slice ad n c] 187)) w2.heap.size o ad n c ok := flat1 hR.out hb2 _
    clear hR hb2
    generalize w2.alloc (.cells #[.bool o, .slice ad n c] 187) = W3 at *
    generalize w2.heap.size = q at *
    obtain ⟨HB, g0, g1, hF⟩ := F
    have HI3 := HI.below HB
    have z4 : w.heap.size < W3.heap.size := by have := HI3.hR; have := HI3.hb; have := HI3.hL; omega
    have hLr := HI.hL
    clear HI hcell c1 c2 e1 e2 e3 z1 z2 z3 HB
    rcases hF with ⟨kk, rfl, rfl, b', rfl, rfl, hge', hcc, hP⟩ | ⟨kk, rfl, rfl, rfl, rfl, rfl⟩
    ·have KK : Hid (Txt.fldB (lo k) (hi k) (pt s k) = true) := kk
     have HI4 : Hid _ := HI3.store hlt (by omega) hcc hP
     obtain ⟨y0, y1⟩ := HI3.ln2 k (Nat.le_refl _) hlt
     have y2 := HI3.lnf (k * 2) (by omega)
     have y3 := HI3.lnf (k * 2 + 1) (by omega)
     clear kk HI3 hP
     go_wp2_with fail
     go_roundw
     case rel =>
      refine ⟨k + 1, _, _, by omega, by go_num, fun j h => ?_, HI4.out⟩
      by_cases e : j = k
      ·subst e; exact KK.out
      ·exact HA.out j (by omega)
     case measure => simp [intOf]; omega
    ·have KK : Hid (lineB s = false) := lineB_no (fun h => by have h' := h.fld k hkl hlt; rw [pt_eq hkl, kk] at h'; cases h')
     have BB : Hid (Below w.heap.size w W3) := HI3.bel
     have r0 : _ = some (Value.bool false) := (HI3.res 0 (by decide)).1
     have s0 := (HI3.res 0 (by decide)).2
     have r1 : _ = some (Value.slice none 0 0) := (HI3.res 1 (by decide)).1
     have s1 := (HI3.res 1 (by decide)).2
     have r2 : _ = some (Value.bool false) := (HI3.res 2 (by decide)).1
     have s2 := (HI3.res 2 (by decide)).2
     have r3 : _ = some (Value.slice none 0 0) := (HI3.res 3 (by decide)).1
     have s3 := (HI3.res 3 (by decide)).2
     have r4 : _ = some (Value.bool false) := (HI3.res 4 (by decide)).1
     have s4 := (HI3.res 4 (by decide)).2
     have r5 : _ = some (Value.slice none 0 0) := (HI3.res 5 (by decide)).1
     have s5 := (HI3.res 5 (by decide)).2
     have r6 : _ = some (Value.bool false) := (HI3.res 6 (by decide)).1
     have s6 := (HI3.res 6 (by decide)).2
     have r7 : _ = some (Value.slice none 0 0) := (HI3.res 7 (by decide)).1
     have s7 := (HI3.res 7 (by decide)).2
     have r8 : _ = some (Value.bool false) := (HI3.res 8 (by decide)).1
     have s8 := (HI3.res 8 (by decide)).2
     have r9 : _ = some (Value.slice none 0 0) := (HI3.res 9 (by decide)).1
     have s9 := (HI3.res 9 (by decide)).2
     have r10 : _ = some (Value.bool false) := (HI3.res 10 (by decide)).1
     have s10 := (HI3.res 10 (by decide)).2
     have r11 : _ = some (Value.int .u8 0) := (HI3.res 11 (by decide)).1
     have s11 := (HI3.res 11 (by decide)).2
     have r12 : _ = some (Value.int .i64 0) := (HI3.res 12 (by decide)).1
     have s12 := (HI3.res 12 (by decide)).2
     have r13 : _ = some (Value.slice none 0 0) := (HI3.res 13 (by decide)).1
     have s13 := (HI3.res 13 (by decide)).2
     clear kk HI3
     go_wp2_with fail
     exact bodyPost_ret (v := .tuple #[zeroLine, .bool false]) (by simp [results, Tryz.results155, go_sem, r0, r1, r2, r3, r4, r5, r6, r7, r8, r9, r10, r11, r12, r13]) rfl ⟨Or.inr ⟨KK.out, rfl⟩, below_line BB.out (Nat.le_refl _)⟩
   ·have F : Flat (lo k) (hi k) (pt s k) wr ((w2.setCell ⟨wr.heap.size, 0, none⟩ (.bool o)).setCell ⟨wr.heap.size, 1, none⟩ (.slice ad n c)) wr.heap.size o ad n c ok := flat2 hR.out hb2
    clear hR hb2
    generalize (w2.setCell ⟨wr.heap.size, 0, none⟩ (.bool o)).setCell ⟨wr.heap.size, 1, none⟩ (.slice ad n c) = W3 at *
    obtain ⟨HB, g0, g1, hF⟩ := F
    have HI3 := HI.below HB
    have z4 : w.heap.size < W3.heap.size := by have := HI3.hR; have := HI3.hb; have := HI3.hL; omega
    have hLr := HI.hL
    clear HI hcell c1 c2 e1 e2 e3 z1 z2 z3 HB
    rcases hF with ⟨kk, rfl, rfl, b', rfl, rfl, hge', hcc, hP⟩ | ⟨kk, rfl, rfl, rfl, rfl, rfl⟩
    ·have KK : Hid (Txt.fldB (lo k) (hi k) (pt s k) = true) := kk
     have HI4 : Hid _ := HI3.store hlt (by omega) hcc hP
     obtain ⟨y0, y1⟩ := HI3.ln2 k (Nat.le_refl _) hlt
     have y2 := HI3.lnf (k * 2) (by omega)
     have y3 := HI3.lnf (k * 2 + 1) (by omega)
     clear kk HI3 hP
     go_wp2_with fail
     go_roundw
     case rel =>
      refine ⟨k + 1, _, _, by omega, by go_num, fun j h => ?_, HI4.out⟩
      by_cases e : j = k
      ·subst e; exact KK.out
      ·exact HA.out j (by omega)
     case measure => simp [intOf]; omega
    ·have KK : Hid (lineB s = false) := lineB_no (fun h => by have h' := h.fld k hkl hlt; rw [pt_eq hkl, kk] at h'; cases h')
     have BB : Hid (Below w.heap.size w W3) := HI3.bel
     have r0 : _ = some (Value.bool false) := (HI3.res 0 (by decide)).1
     have s0 := (HI3.res 0 (by decide)).2
     have r1 : _ = some (Value.slice none 0 0) := (HI3.res 1 (by decide)).1
     have s1 := (HI3.res 1 (by decide)).2
     have r2 : _ = some (Value.bool false) := (HI3.res 2 (by decide)).1
     have s2 := (HI3.res 2 (by decide)).2
     have r3 : _ = some (Value.slice none 0 0) := (HI3.res 3 (by decide)).1
     have s3 := (HI3.res 3 (by decide)).2
     have r4 : _ = some (Value.bool false) := (HI3.res 4 (by decide)).1
     have s4 := (HI3.res 4 (by decide)).2
     have r5 : _ = some (Value.slice none 0 0) := (HI3.res 5 (by decide)).1
     have s5 := (HI3.res 5 (by decide)).2
     have r6 : _ = some (Value.bool false) := (HI3.res 6 (by decide)).1
     have s6 := (HI3.res 6 (by decide)).2
     have r7 : _ = some (Value.slice none 0 0) := (HI3.res 7 (by decide)).1
     have s7 := (HI3.res 7 (by decide)).2
     have r8 : _ = some (Value.bool false) := (HI3.res 8 (by decide)).1
     have s8 := (HI3.res 8 (by decide)).2
     have r9 : _ = some (Value.slice none 0 0) := (HI3.res 9 (by decide)).1
     have s9 := (HI3.res 9 (by decide)).2
     have r10 : _ = some (Value.bool false) := (HI3.res 10 (by decide)).1
     have s10 := (HI3.res 10 (by decide)).2
     have r11 : _ = some (Value.int .u8 0) := (HI3.res 11 (by decide)).1
     have s11 := (HI3.res 11 (by decide)).2
     have r12 : _ = some (Value.int .i64 0) := (HI3.res 12 (by decide)).1
     have s12 := (HI3.res 12 (by decide)).2
     have r13 : _ = some (Value.slice none 0 0) := (HI3.res 13 (by decide)).1
     have s13 := (HI3.res 13 (by decide)).2
     clear kk HI3
     go_wp2_with fail
     exact bodyPost_ret (v := .tuple #[zeroLine, .bool false]) (by simp [results, Tryz.results155, go_sem, r0, r1, r2, r3, r4, r5, r6, r7, r8, r9, r10, r11, r12, r13]) rfl ⟨Or.inr ⟨KK.out, rfl⟩, below_line BB.out (Nat.le_refl _)⟩
  ·obtain rfl : k = 5 := by omega
   have h5 : 5 < (Txt.pcs 32 s).length := by omega
   have c5 : wr.cell? ⟨b, 5, none⟩ = some (.string (pt s 5)) := by rw [← pt_eq h5]; exact HI.strs 5 h5
   have zk : Hid ((pt s 5).size ≤ 300) := by rw [← pt_eq h5]; exact Txt.pcs_sz hs 5 h5
   go_wp2_with fail
   refine (readOptions_any _ _ zk.out).mono ?_
   rintro e w2 ⟨hO, hb2⟩
   have HI2 := HI.below hb2
   clear HI hb2 c5
   have z4 : w.heap.size < w2.heap.size := by have := HI2.hR; have := HI2.hb; have := HI2.hL; omega
   rcases hO with ⟨ho, rfl⟩ | ⟨ho, rfl⟩
   rotate_left
   ·have KK : Hid (lineB s = false) := lineB_no (fun h => by have h' := h.opt h5; rw [pt_eq h5, ho] at h'; cases h')
    have HI3 := HI2.below (below_alloc w2 (.cells #[.bool false, .int .u8 0, .int .i64 0] 190))
    clear HI2 ho
    go_upto_region 13 with fail
    generalize w2.alloc (.cells #[.bool false, .int .u8 0, .int .i64 0] 190) = W3 at *
    have BB : Hid (Below w.heap.size w W3) := HI3.bel
    have r0 : _ = some (Value.bool false) := (HI3.res 0 (by decide)).1
    have s0 := (HI3.res 0 (by decide)).2
    have r1 : _ = some (Value.slice none 0 0) := (HI3.res 1 (by decide)).1
    have s1 := (HI3.res 1 (by decide)).2
    have r2 : _ = some (Value.bool false) := (HI3.res 2 (by decide)).1
    have s2 := (HI3.res 2 (by decide)).2
    have r3 : _ = some (Value.slice none 0 0) := (HI3.res 3 (by decide)).1
    have s3 := (HI3.res 3 (by decide)).2
    have r4 : _ = some (Value.bool false) := (HI3.res 4 (by decide)).1
    have s4 := (HI3.res 4 (by decide)).2
    have r5 : _ = some (Value.slice none 0 0) := (HI3.res 5 (by decide)).1
    have s5 := (HI3.res 5 (by decide)).2
    have r6 : _ = some (Value.bool false) := (HI3.res 6 (by decide)).1
    have s6 := (HI3.res 6 (by decide)).2
    have r7 : _ = some (Value.slice none 0 0) := (HI3.res 7 (by decide)).1
    have s7 := (HI3.res 7 (by decide)).2
    have r8 : _ = some (Value.bool false) := (HI3.res 8 (by decide)).1
    have s8 := (HI3.res 8 (by decide)).2
    have r9 : _ = some (Value.slice none 0 0) := (HI3.res 9 (by decide)).1
    have s9 := (HI3.res 9 (by decide)).2
    have r10 : _ = some (Value.bool false) := (HI3.res 10 (by decide)).1
    have s10 := (HI3.res 10 (by decide)).2
    have r11 : _ = some (Value.int .u8 0) := (HI3.res 11 (by decide)).1
    have s11 := (HI3.res 11 (by decide)).2
    have r12 : _ = some (Value.int .i64 0) := (HI3.res 12 (by decide)).1
    have s12 := (HI3.res 12 (by decide)).2
    have r13 : _ = some (Value.slice none 0 0) := (HI3.res 13 (by decide)).1
    have s13 := (HI3.res 13 (by decide)).2
    clear HI3
    go_wp2_with fail
    exact bodyPost_ret (v := .tuple #[zeroLine, .bool false]) (by simp [results, Tryz.results155, go_sem, r0, r1, r2, r3, r4, r5, r6, r7, r8, r9, r10, r11, r12, r13]) rfl ⟨Or.inr ⟨KK.out, rfl⟩, below_line BB.out (Nat.le_refl _)⟩
   ·have HO : Hid (Txt.optB (pt s 5) = true) := ho
    clear ho
    obtain ⟨i0, hinf, hz0, hz1, hz2⟩ := info_parts info_step
    have g0 : (w2.alloc (.cells #[.bool (obt (pt s 5) 0 == 120), .int .u8 (obt (pt s 5) 1), .int .i64 (obt (pt s 5) 2 - 48)] 190)).cell? ⟨w2.heap.size, 0, none⟩ = some (.bool (obt (pt s 5) 0 == 120)) := by simp [go_sem]
    have g1 : (w2.alloc (.cells #[.bool (obt (pt s 5) 0 == 120), .int .u8 (obt (pt s 5) 1), .int .i64 (obt (pt s 5) 2 - 48)] 190)).cell? ⟨w2.heap.size, 1, none⟩ = some (.int .u8 (obt (pt s 5) 1)) := by simp [go_sem]
    have g2 : (w2.alloc (.cells #[.bool (obt (pt s 5) 0 == 120), .int .u8 (obt (pt s 5) 1), .int .i64 (obt (pt s 5) 2 - 48)] 190)).cell? ⟨w2.heap.size, 2, none⟩ = some (.int .i64 (obt (pt s 5) 2 - 48)) := by simp [go_sem]
    have HI3 := HI2.below (below_alloc w2 (.cells #[.bool (obt (pt s 5) 0 == 120), .int .u8 (obt (pt s 5) 1), .int .i64 (obt (pt s 5) 2 - 48)] 190))
    clear HI2
    go_upto_region 13 with fail
    generalize w2.alloc (.cells #[.bool (obt (pt s 5) 0 == 120), .int .u8 (obt (pt s 5) 1), .int .i64 (obt (pt s 5) 2 - 48)] 190) = W3 at *
    generalize w2.heap.size = q2 at *
    have H1 : Hid (SInv w (((W3.setCell ⟨w1.heap.size, 10, none⟩ (.bool (obt (pt s 5) 0 == 120))).setCell ⟨w1.heap.size, 11, none⟩ (.int .u8 (obt (pt s 5) 1))).setCell ⟨w1.heap.size, 12, none⟩ (.int .i64 (obt (pt s 5) 2 - 48))) b w1.heap.size W3.heap.size s 0 bb cc (.slice none 0 0)) := SInv.start HI3 (x := obt (pt s 5) 0 == 120) rfl rfl rfl
    have y10 : _ = some (Value.bool false) := HI3.ln3 10 (by decide) (by decide)
    have y11 : _ = some (Value.int .u8 0) := HI3.ln3 11 (by decide) (by decide)
    have y12 : _ = some (Value.int .i64 0) := HI3.ln3 12 (by decide) (by decide)
    have f10 := HI3.lnf 10 (by decide)
    have f11 := HI3.lnf 11 (by decide)
    have f12 := HI3.lnf 12 (by decide)
    clear HI3
    go_wp2_with fail
    go_loopw [11] (fun x wr => ∃ (i n : Nat) (v : Value), Hid (i = 6 + n) ∧ i ≤ (Txt.pcs 32 s).length ∧ x = .int .i64 i ∧ (∀ (j : Nat) (hj : j < (Txt.pcs 32 s).length), 6 ≤ j → j < i → Txt.stepB (Txt.pcs 32 s)[j] = true) ∧ SInv w wr b w1.heap.size W3.heap.size s n bb cc v) (fun x _ => (Txt.pcs 32 s).length - (intOf x).toNat)
    case atStart => exact ⟨6, 0, _, rfl, by omega, rfl, fun j _ h h' => by omega, H1.out⟩
    case round =>
     clear H1 y10 y11 y12 f10 f11 f12 g0 g1 g2
     obtain ⟨i, n, v, HN, hn, rfl, hall, HI⟩ := hrel
     have HT : Hid (∀ (j : Nat) (hj : j < (Txt.pcs 32 s).length), 6 ≤ j → j < i → Txt.stepB (Txt.pcs 32 s)[j] = true) := hall
     clear hall
     have hlb := HI.hL
     have hbs := HI.hbase
     by_cases hii : i < (Txt.pcs 32 s).length
     ·have hcell' : wr.cell? ⟨b, i, none⟩ = some (.string (Txt.pcs 32 s)[i]) := HI.strs i hii
      have zi : Hid ((Txt.pcs 32 s)[i].size ≤ 300) := Txt.pcs_sz hs i hii
      have b1 : (0 : Int) ≤ (i : Int) := by omega
      have b2 : (i : Int) < ((Txt.pcs 32 s).length : Int) := by omega
      have HNS : Hid (n < (stps s).length) := by have := HN.out; unfold Hid; rw [stps_len]; omega
      have HX : Hid ((stps s)[n]'HNS.out = (Txt.pcs 32 s)[i]) := by
       have := HN.out; subst this; exact stps_at HNS.out
      have hq0 : Hid (∃ x, (Txt.pcs 32 s)[i] = x) := ⟨_, rfl⟩
      obtain ⟨x, hxg0⟩ := hq0.out
      have HG : Hid ((Txt.pcs 32 s)[i] = x) := hxg0
      rw [hxg0] at hcell' zi HX
      clear hxg0 hq0
      go_wp2_with fail
      refine (readStep_any _ _ zi.out).mono ?_
      rintro e w3 ⟨hR, hb3⟩
      have HI2 := HI.below hb3
      clear HI hb3 hcell'
      rcases hR with ⟨hq, rfl⟩ | ⟨hq, rfl⟩
      ·have HQ : Hid (Txt.stepB x = true) := hq
       have g0 : (w3.alloc (.cells #[.bool (sayB x), .string (x.extract 1 x.size)] 235)).cell? ⟨w3.heap.size, 0, none⟩ = some (.bool (sayB x)) := by simp [go_sem]
       have g1 : (w3.alloc (.cells #[.bool (sayB x), .string (x.extract 1 x.size)] 235)).cell? ⟨w3.heap.size, 1, none⟩ = some (.string (x.extract 1 x.size)) := by simp [go_sem]
       have HI3 := HI2.below (below_alloc w3 (.cells #[.bool (sayB x), .string (x.extract 1 x.size)] 235))
       clear hq HI2
       go_upto_region 20 with fail
       generalize w3.alloc (.cells #[.bool (sayB x), .string (x.extract 1 x.size)] 235) = W4 at *
       generalize w3.heap.size = q3 at *
       have HBW : Hid (W3.heap.size ≤ W4.heap.size) := HI3.hbase
       have d13 := HI3.o3
       have zL : w1.heap.size < W4.heap.size := by have := HI3.hL; have := HI3.hbase; omega
       have HO2 : Hid (W4.ownsRow W3.heap.size 235 2 v n (((stps s).take n).flatMap spC)) := HI3.own
       have hn5 : n ≤ 300 := by have := HN.out; omega
       go_wp2_with (at_builtin; refine wpList_append_lies _ rfl (.tmp 81) (.tmp 83) 191 rfl W3.heap.size 235 i0 (.agg #[.bool false, .string ByteArray.empty]) 2 24 Tryz.underlying191 hinf hz0 hz1 hz2 rfl (by decide) _ _ _ rfl (HO2.out.alloc _) ⟨W4.heap.size, 0, none⟩ 1 1 (spC x) rfl rfl ?c1 (spC_one x) (by decide) ?c3 ?c4 ?c5 _ rfl ?_)
       case c1 =>
        intro j u hj
        match j, hj with
        | 0, hj => simp [spC] at hj; subst hj; simp [Addr.add, go_sem]
        | 1, hj => simp [spC] at hj; subst hj; simp [Addr.add, go_sem]
       case c3 => unfold maxLen; omega
       case c4 => omega
       case c5 => have := HBW.out; simp; omega
       ·intro g' cap' w4 hown' hgrow _ hlt'
        have HI5 := HI3.below (below_alloc W4 (.cells #[.bool (sayB x), .string (x.extract 1 x.size)] 235))
        have hown2 : w4.ownsRow W3.heap.size 235 2 (.slice (some ⟨g', 0, none⟩) (n + 1) cap') (n + 1) (((stps s).take (n + 1)).flatMap spC) := by
         rw [List.take_succ_eq_append_getElem HNS.out, List.flatMap_append, HX.out]
         simpa using hown'
        have HF := HI5.far hgrow
        have HI4 := HI5.app hgrow hown2
        have d1 : w4.cell? ⟨w1.heap.size, 13, none⟩ = some v := (HF.cell (by simpa using hlb)).trans HI5.o3
        have d2 : w4.frozen? ⟨w1.heap.size, 13, none⟩ = false := (HF.frozen (by simpa using hlb)).trans (HI5.lnf 13 (by decide))
        clear hown' hown2 hgrow HI3 HI5 HF d13 HO2 g0 g1
        go_wp2_with fail
        go_roundw
        case rel =>
         refine ⟨i + 1, n + 1, _, by have := HN.out; unfold Hid; omega, by omega, by go_num, fun j hj h1 h => ?_, HI4⟩
         by_cases q : j = i
         ·subst q; rw [HG.out]; exact HQ.out
         ·exact HT.out j hj h1 (by omega)
        case measure => simp [intOf]; omega
      ·have KK : Hid (lineB s = false) := lineB_no (fun h => by have h' := h.stp i hii (by have := HN.out; omega); rw [HG.out, hq] at h'; cases h')
       have HI3 := HI2.below (below_alloc w3 (.cells #[.bool false, .string ByteArray.empty] 235))
       clear HI2 hq
       go_upto_region 20 with fail
       generalize w3.alloc (.cells #[.bool false, .string ByteArray.empty] 235) = W4 at *
       have BB : Hid (Below w.heap.size w W4) := HI3.bel
       have r0 : _ = some (Value.bool false) := (HI3.res 0 (by decide)).1
       have s0 := (HI3.res 0 (by decide)).2
       have r1 : _ = some (Value.slice none 0 0) := (HI3.res 1 (by decide)).1
       have s1 := (HI3.res 1 (by decide)).2
       have r2 : _ = some (Value.bool false) := (HI3.res 2 (by decide)).1
       have s2 := (HI3.res 2 (by decide)).2
       have r3 : _ = some (Value.slice none 0 0) := (HI3.res 3 (by decide)).1
       have s3 := (HI3.res 3 (by decide)).2
       have r4 : _ = some (Value.bool false) := (HI3.res 4 (by decide)).1
       have s4 := (HI3.res 4 (by decide)).2
       have r5 : _ = some (Value.slice none 0 0) := (HI3.res 5 (by decide)).1
       have s5 := (HI3.res 5 (by decide)).2
       have r6 : _ = some (Value.bool false) := (HI3.res 6 (by decide)).1
       have s6 := (HI3.res 6 (by decide)).2
       have r7 : _ = some (Value.slice none 0 0) := (HI3.res 7 (by decide)).1
       have s7 := (HI3.res 7 (by decide)).2
       have r8 : _ = some (Value.bool false) := (HI3.res 8 (by decide)).1
       have s8 := (HI3.res 8 (by decide)).2
       have r9 : _ = some (Value.slice none 0 0) := (HI3.res 9 (by decide)).1
       have s9 := (HI3.res 9 (by decide)).2
       have r10 : _ = some (Value.bool false) := (HI3.res 10 (by decide)).1
       have s10 := (HI3.res 10 (by decide)).2
       have r11 : _ = some (Value.int .u8 0) := (HI3.res 11 (by decide)).1
       have s11 := (HI3.res 11 (by decide)).2
       have r12 : _ = some (Value.int .i64 0) := (HI3.res 12 (by decide)).1
       have s12 := (HI3.res 12 (by decide)).2
       have r13 : _ = some (Value.slice none 0 0) := (HI3.res 13 (by decide)).1
       have s13 := (HI3.res 13 (by decide)).2
       clear HI3
       go_wp2_with fail
       exact bodyPost_ret (v := .tuple #[zeroLine, .bool false]) (by simp [results, Tryz.results155, go_sem, r0, r1, r2, r3, r4, r5, r6, r7, r8, r9, r10, r11, r12, r13]) rfl ⟨Or.inr ⟨KK.out, rfl⟩, below_line BB.out (Nat.le_refl _)⟩
     ·have hnl : n = (stps s).length := by have := HN.out; rw [stps_len]; omega
      have KK : Hid (lineB s = true) := lineB_yes ⟨by omega, by omega, fun j h h' => by rw [pt_eq h]; exact HA.out j h', fun _ => by rw [pt_eq h5]; exact HO.out, fun j h h' => HT.out j h h' (by omega)⟩
      have BB : Hid (Below w.heap.size w wr) := HI.bel
      have HP : Hid (∀ j : Nat, j < 5 → w.heap.size ≤ bb j ∧ (Txt.pcs 44 (pt s j)).length ≤ cc j ∧ PartsAt wr (bb j) (lo j) (hi j) (Txt.pcs 44 (pt s j))) := fun j hj => ⟨by have := (HI.prt j hj).1; omega, (HI.prt j hj).2.2⟩
      have HQ : Hid (∀ j : Nat, j < 5 → w.heap.size < bb j) := fun j hj => by have := (HI.prt j hj).1; omega
      have HW : Hid (wr.ownsRow W3.heap.size 235 2 v (stps s).length ((stps s).flatMap spC)) := by
       have := HI.own
       rw [hnl, List.take_length] at this; exact this
      have z6 : w.heap.size < wr.heap.size := by omega
      have r0 : _ = some (Value.bool false) := (HI.res 0 (by decide)).1
      have s0 := (HI.res 0 (by decide)).2
      have r1 : _ = some (Value.slice none 0 0) := (HI.res 1 (by decide)).1
      have s1 := (HI.res 1 (by decide)).2
      have r2 : _ = some (Value.bool false) := (HI.res 2 (by decide)).1
      have s2 := (HI.res 2 (by decide)).2
      have r3 : _ = some (Value.slice none 0 0) := (HI.res 3 (by decide)).1
      have s3 := (HI.res 3 (by decide)).2
      have r4 : _ = some (Value.bool false) := (HI.res 4 (by decide)).1
      have s4 := (HI.res 4 (by decide)).2
      have r5 : _ = some (Value.slice none 0 0) := (HI.res 5 (by decide)).1
      have s5 := (HI.res 5 (by decide)).2
      have r6 : _ = some (Value.bool false) := (HI.res 6 (by decide)).1
      have s6 := (HI.res 6 (by decide)).2
      have r7 : _ = some (Value.slice none 0 0) := (HI.res 7 (by decide)).1
      have s7 := (HI.res 7 (by decide)).2
      have r8 : _ = some (Value.bool false) := (HI.res 8 (by decide)).1
      have s8 := (HI.res 8 (by decide)).2
      have r9 : _ = some (Value.slice none 0 0) := (HI.res 9 (by decide)).1
      have s9 := (HI.res 9 (by decide)).2
      have r10 : _ = some (Value.bool false) := (HI.res 10 (by decide)).1
      have s10 := (HI.res 10 (by decide)).2
      have r11 : _ = some (Value.int .u8 0) := (HI.res 11 (by decide)).1
      have s11 := (HI.res 11 (by decide)).2
      have r12 : _ = some (Value.int .i64 0) := (HI.res 12 (by decide)).1
      have s12 := (HI.res 12 (by decide)).2
      have r13 : _ = some (Value.slice none 0 0) := (HI.res 13 (by decide)).1
      have s13 := (HI.res 13 (by decide)).2
      have d0 : _ = some (Value.bool (Txt.opn (pt s 0))) := (HI.ln1 0 (by decide)).1
      have d1 : _ = some (Value.slice (some ⟨bb 0, 0, none⟩) (Txt.pcs 44 (pt s 0)).length (cc 0)) := (HI.ln1 0 (by decide)).2
      have d2 : _ = some (Value.bool (Txt.opn (pt s 1))) := (HI.ln1 1 (by decide)).1
      have d3 : _ = some (Value.slice (some ⟨bb 1, 0, none⟩) (Txt.pcs 44 (pt s 1)).length (cc 1)) := (HI.ln1 1 (by decide)).2
      have d4 : _ = some (Value.bool (Txt.opn (pt s 2))) := (HI.ln1 2 (by decide)).1
      have d5 : _ = some (Value.slice (some ⟨bb 2, 0, none⟩) (Txt.pcs 44 (pt s 2)).length (cc 2)) := (HI.ln1 2 (by decide)).2
      have d6 : _ = some (Value.bool (Txt.opn (pt s 3))) := (HI.ln1 3 (by decide)).1
      have d7 : _ = some (Value.slice (some ⟨bb 3, 0, none⟩) (Txt.pcs 44 (pt s 3)).length (cc 3)) := (HI.ln1 3 (by decide)).2
      have d8 : _ = some (Value.bool (Txt.opn (pt s 4))) := (HI.ln1 4 (by decide)).1
      have d9 : _ = some (Value.slice (some ⟨bb 4, 0, none⟩) (Txt.pcs 44 (pt s 4)).length (cc 4)) := (HI.ln1 4 (by decide)).2
      have d10 := HI.o0
      have d11 := HI.o1
      have d12 := HI.o2
      have d13 := HI.o3
      simp only [Nat.zero_mul, Nat.zero_add, Nat.one_mul, Nat.reduceMul, Nat.reduceAdd] at d0 d1 d2 d3 d4 d5 d6 d7 d8 d9
      obtain ⟨ads, caps, hvs⟩ : ∃ ad cap, v = .slice ad (stps s).length cap := by
       obtain ⟨ad, cap, e, _⟩ := (RowAt.of_own HW.out).form; exact ⟨ad, cap, e⟩
      subst hvs
      clear HI hnl
      go_wp2_with fail
      refine bodyPost_ret (v := .tuple #[lineV s bb cc (.slice ads (stps s).length caps), .bool true]) (by simp [results, Tryz.results155, go_sem, r0, r1, r2, r3, r4, r5, r6, r7, r8, r9, r10, r11, r12, r13]) rfl ⟨Or.inl ⟨KK.out, bb, cc, _, rfl, fun j hj => ⟨(HP.out j hj).1, (HP.out j hj).2.1, ?_⟩, own_mono (own_line HW.out (by omega)) (by omega)⟩, below_line BB.out (Nat.le_refl _)⟩
      have hne := HQ.out j hj
      intro t ht
      obtain ⟨p0, p1, p2⟩ := (HP.out j hj).2.2 t ht
      exact ⟨far_line hne p0, far_line hne p1, far_line hne p2⟩
end Go.Proofs.YtdajolpoiffimaaGreatDoor

namespace Go.Proofs.YtdajolpoiffimaaGreatDoor
open Go.RowKit

/-- The cells of a line. -/
def lcells (s : ByteArray) (bb cc : Nat → Nat) (sv : Value) : List Value := [.bool (Txt.opn (pt s 0)), .slice (some ⟨bb 0, 0, none⟩) (Txt.pcs 44 (pt s 0)).length (cc 0), .bool (Txt.opn (pt s 1)), .slice (some ⟨bb 1, 0, none⟩) (Txt.pcs 44 (pt s 1)).length (cc 1), .bool (Txt.opn (pt s 2)), .slice (some ⟨bb 2, 0, none⟩) (Txt.pcs 44 (pt s 2)).length (cc 2), .bool (Txt.opn (pt s 3)), .slice (some ⟨bb 3, 0, none⟩) (Txt.pcs 44 (pt s 3)).length (cc 3), .bool (Txt.opn (pt s 4)), .slice (some ⟨bb 4, 0, none⟩) (Txt.pcs 44 (pt s 4)).length (cc 4), .bool (obt (pt s 5) 0 == 120), .int .u8 (obt (pt s 5) 1), .int .i64 (obt (pt s 5) 2 - 48), sv]
/-- The steps of a line in memory. -/
def StepsAt (w : World) (s : ByteArray) (sv : Value) : Prop := TRow w 235 sv (stps s).length ((stps s).flatMap spC)
/-- The lines of a crontab in memory. -/
def LineAt (w : World) (s : ByteArray) (bb cc : Nat → Nat) : Prop := ∀ t : Nat, t < 5 → (Txt.pcs 44 (pt s t)).length ≤ cc t ∧ PartsAt w (bb t) (lo t) (hi t) (Txt.pcs 44 (pt s t))
def PLinesAt (w : World) (g : Nat) (s : ByteArray) : Prop := ∀ i : Nat, i < tn s → ∃ (bb cc : Nat → Nat) (sv : Value), (∀ j : Nat, j < 14 → w.cell? ⟨g, i * 14 + j, none⟩ = (lcells (tl s i) bb cc sv)[j]?) ∧ LineAt w (tl s i) bb cc ∧ StepsAt w (tl s i) sv
theorem LineAt.later {w w' : World} {s : ByteArray} {bb cc : Nat → Nat} (h : LineAt w s bb cc) (q : Below w.heap.size w w') : LineAt w' s bb cc := fun t ht => ⟨(h t ht).1, (h t ht).2.later q⟩
theorem lcells_some (s : ByteArray) (bb cc : Nat → Nat) (sv : Value) (j : Nat) (hj : j < 14) : ∃ v, (lcells s bb cc sv)[j]? = some v := ⟨(lcells s bb cc sv)[j]'(by simp [lcells]; omega), by simp⟩
theorem PLinesAt.later {w w' : World} {g : Nat} {s : ByteArray} (h : PLinesAt w g s) (q : Below w.heap.size w w') : PLinesAt w' g s := by
 intro i hi
 obtain ⟨bb, cc, sv, h1, h2, h3⟩ := h i hi
 refine ⟨bb, cc, sv, fun j hj => ?_, h2.later q, TRow.later h3 q⟩
 obtain ⟨v, hv⟩ := lcells_some (tl s i) bb cc sv j hj
 have := h1 j hj
 rw [hv] at this ⊢
 exact cell_later q this
theorem PartsAt.lt {w : World} {x : Nat} {l g : Int} {p : ByteArray} (h : PartsAt w x l g (Txt.pcs 44 p)) : x < w.heap.size := World.block_lt_of_cell? _ _ (h 0 (Txt.pcs_ne _ _)).1

/-- What holds while a crontab is read. -/
structure RInv (w wr : World) (base b : Nat) (s : ByteArray) (k : Nat) (v : Value) (xs : List Value) : Prop where
 strs : StrsAt wr b (Txt.pcs 10 s)
 tabs : TabLH wr
 c0 : wr.cell? ⟨w.heap.size, 0, none⟩ = some (.slice none 0 0)
 c1 : wr.cell? ⟨w.heap.size, 1, none⟩ = some (.int .i64 0)
 c2 : wr.cell? ⟨w.heap.size, 2, none⟩ = some (.int .i64 0)
 f0 : wr.frozen? ⟨w.heap.size, 0, none⟩ = false
 f1 : wr.frozen? ⟨w.heap.size, 1, none⟩ = false
 f2 : wr.frozen? ⟨w.heap.size, 2, none⟩ = false
 own : wr.ownsRow base 193 14 v k xs
 ty : Typed wr w.heap.size 175
 lns : ∀ i : Nat, i < k → ∃ (bb cc : Nat → Nat) (sv : Value), (∀ j : Nat, j < 14 → xs[i * 14 + j]? = (lcells (tl s i) bb cc sv)[j]?) ∧ LineAt wr (tl s i) bb cc ∧ StepsAt wr (tl s i) sv ∧ ∀ t : Nat, t < 5 → base ≤ bb t ∧ some (bb t) ≠ v.ownBlock
 bel : Below w.heap.size w wr
 hR : w.heap.size < base
 hb : b < base
 h2 : 2 < base
 hbase : base ≤ wr.heap.size
theorem RInv.below {w wr w' : World} {base b k : Nat} {s : ByteArray} {v : Value} {xs : List Value} (h : RInv w wr base b s k v xs) (q : Below wr.heap.size wr w') : RInv w w' base b s k v xs := by
 have h1 := h.hR; have h3 := h.hbase
 refine ⟨h.strs.later q, h.tabs.later q, cell_later q h.c0, cell_later q h.c1, cell_later q h.c2, (q.frozen (by simp; omega)).trans h.f0, (q.frozen (by simp; omega)).trans h.f1, (q.frozen (by simp; omega)).trans h.f2, own_below h.own q, h.ty.later q, ?_, h.bel.trans (q.mono (by omega)), h.hR, h.hb, h.h2, Nat.le_trans h.hbase q.size⟩
 intro i hi
 obtain ⟨bb, cc, sv, p1, p2, p4, p3⟩ := h.lns i hi
 exact ⟨bb, cc, sv, p1, p2.later q, TRow.later p4 q, p3⟩
theorem RInv.app {w wr w3 : World} {base b k g cap H0 : Nat} {s : ByteArray} {v sv : Value} {xs : List Value} {bb cc : Nat → Nat} (h : RInv w wr base b s k v xs) (hg : wr.grownBy w3 v.ownBlock)
 (ho : w3.ownsRow base 193 14 (.slice (some ⟨g, 0, none⟩) (k + 1) cap) (k + 1) (xs ++ lcells (tl s k) bb cc sv)) (hat : v.ownBlock = some g ∨ g = wr.heap.size)
 (hv : ∀ g0, v.ownBlock = some g0 → g0 < H0) (hb0 : base ≤ H0) (hn : LineAt wr (tl s k) bb cc) (hsp : StepsAt wr (tl s k) sv) (hge : ∀ t : Nat, t < 5 → H0 ≤ bb t) : RInv w w3 base b s (k + 1) (.slice (some ⟨g, 0, none⟩) (k + 1) cap) (xs ++ lcells (tl s k) bb cc sv) := by
 have q : Below base wr w3 := (Below.refl _ _).grown hg h.hbase (fun k' e => (h.own.lt k' e).1)
 have h1 := h.hR; have h3 := h.hbase; have h4 := h.h2; have h5 := h.hb; have h6 := h.bel.size
 have cell : ∀ (a j : Nat) (u : Value), a < base → wr.cell? ⟨a, j, none⟩ = some u → w3.cell? ⟨a, j, none⟩ = some u := fun a j u ha hc => (q.cell (p := ⟨a, j, none⟩) ha).trans hc
 have fro : ∀ (a j : Nat), a < base → w3.frozen? ⟨a, j, none⟩ = wr.frozen? ⟨a, j, none⟩ := fun a j ha => q.frozen (p := ⟨a, j, none⟩) ha
 have parts : ∀ (x : Nat) (l g' : Int) (L : List ByteArray), some x ≠ v.ownBlock → PartsAt wr x l g' L → PartsAt w3 x l g' L := fun x l g' L hx hp j hj =>
  ⟨hg.cell (hp j hj).1 hx, hg.cell (hp j hj).2.1 hx, hg.cell (hp j hj).2.2 hx⟩
 have hlen : xs.length = k * 14 := h.own.1
 have hst : ∀ (z : ByteArray) (u : Value), StepsAt wr z u → StepsAt w3 z u := fun z u hz => TRow.grown hz h.own hg (by decide)
 refine ⟨fun j hj => cell _ _ _ h.hb (h.strs j hj), fun j hj => ⟨cell _ _ _ (by omega) (h.tabs j hj).1, cell _ _ _ (by omega) (h.tabs j hj).2⟩, cell _ _ _ h1 h.c0, cell _ _ _ h1 h.c1, cell _ _ _ h1 h.c2,
  (fro _ _ h1).trans h.f0, (fro _ _ h1).trans h.f1, (fro _ _ h1).trans h.f2, ho, h.ty.below h1 q, ?_, h.bel.trans (q.mono (by omega)), h.hR, h.hb, h.h2, Nat.le_trans h.hbase hg.size⟩
 intro i hi
 by_cases e : i = k
 ·subst e
  have hne : ∀ t : Nat, t < 5 → some (bb t) ≠ v.ownBlock := fun t ht e => by
   have a := hv (bb t) e.symm; have b := hge t ht; omega
  refine ⟨bb, cc, sv, fun j hj => ?_, fun t ht => ⟨(hn t ht).1, parts _ _ _ _ (hne t ht) (hn t ht).2⟩, hst _ _ hsp, fun t ht => ⟨Nat.le_trans hb0 (hge t ht), ?_⟩⟩
  ·rw [List.getElem?_append_right (by omega)]
   have : i * 14 + j - xs.length = j := by omega
   rw [this]
  ·have hlt := (hn t ht).2.lt
   rcases hat with a | a
   ·have := hv g a; have := hge t ht
    intro e; simp [Value.ownBlock] at e; omega
   ·intro e; simp [Value.ownBlock] at e; omega
 ·have hi' : i < k := by omega
  obtain ⟨b1, c1, sv1, p1, p2, p4, p3⟩ := h.lns i hi'
  refine ⟨b1, c1, sv1, fun j hj => ?_, fun t ht => ⟨(p2 t ht).1, parts _ _ _ _ (p3 t ht).2 (p2 t ht).2⟩, hst _ _ p4, fun t ht => ⟨(p3 t ht).1, ?_⟩⟩
  ·rw [List.getElem?_append_left (by omega)]; exact p1 j hj
  ·have hlt := (p2 t ht).2.lt
   rcases hat with a | a
   ·have := (p3 t ht).2
    rw [a] at this
    intro e; simp [Value.ownBlock] at e; exact this (by rw [e])
   ·intro e; simp [Value.ownBlock] at e; omega
theorem RInv.app2 {w w2 w3 : World} {o1 o2 : Obj} {base b k g cap H0 : Nat} {s : ByteArray} {v sv : Value} {xs : List Value} {bb cc : Nat → Nat} (h : RInv w w2 base b s k v xs) (hg : ((w2.alloc o1).alloc o2).grownBy w3 v.ownBlock)
 (ho : w3.ownsRow base 193 14 (.slice (some ⟨g, 0, none⟩) (k + 1) cap) (k + 1) (xs ++ lcells (tl s k) bb cc sv)) (hat : v.ownBlock = some g ∨ g = w2.heap.size + 1 + 1)
 (hv : ∀ g0, v.ownBlock = some g0 → g0 < H0) (hb0 : base ≤ H0) (hn : LineAt w2 (tl s k) bb cc) (hsp : StepsAt w2 (tl s k) sv) (hge : ∀ t : Nat, t < 5 → H0 ≤ bb t) : RInv w w3 base b s (k + 1) (.slice (some ⟨g, 0, none⟩) (k + 1) cap) (xs ++ lcells (tl s k) bb cc sv) :=
 ((h.below (below_alloc w2 o1)).below (below_alloc _ o2)).app hg ho (by simpa using hat) hv hb0 ((hn.later (below_alloc w2 o1)).later (below_alloc _ o2)) (TRow.later (TRow.later hsp (below_alloc w2 o1)) (below_alloc _ o2)) hge
/-- At the end: the lines, in memory. -/
theorem RInv.lines {w wr : World} {base b g cap : Nat} {s : ByteArray} {xs : List Value} (h : RInv w wr base b s (tn s) (.slice (some ⟨g, 0, none⟩) (tn s) cap) xs) : PLinesAt wr g s ∧ base ≤ g := by
 constructor
 ·intro i hi
  obtain ⟨bb, cc, sv, p1, p2, p4, _⟩ := h.lns i hi
  refine ⟨bb, cc, sv, fun j hj => ?_, p2, p4⟩
  rw [h.own.cellAt (i * 14 + j) (by omega)]; exact p1 j hj
 ·exact (h.own.lt g rfl).1
/-- The three cells of an answer are stored elsewhere. -/
theorem lines_far {w : World} {R g : Nat} {s : ByteArray} {u0 u1 u2 : Value} (ty : Typed w R 175) (_h : PLinesAt w g s) (hg : R < g) (hp : ∀ i : Nat, i < tn s → ∃ (bb cc : Nat → Nat) (sv : Value), (∀ j : Nat, j < 14 → w.cell? ⟨g, i * 14 + j, none⟩ = (lcells (tl s i) bb cc sv)[j]?) ∧ LineAt w (tl s i) bb cc ∧ StepsAt w (tl s i) sv ∧ ∀ t : Nat, t < 5 → R < bb t) :
 PLinesAt (((w.setCell ⟨R, 0, none⟩ u0).setCell ⟨R, 1, none⟩ u1).setCell ⟨R, 2, none⟩ u2) g s := by
 have far : ∀ (x o : Nat) , R < x → (((w.setCell ⟨R, 0, none⟩ u0).setCell ⟨R, 1, none⟩ u1).setCell ⟨R, 2, none⟩ u2).cell? ⟨x, o, none⟩ = w.cell? ⟨x, o, none⟩ := by
  intro x o hx
  have hne : ∀ j : Nat, (⟨R, j, none⟩ : Addr) ≠ ⟨x, o, none⟩ := fun j e => by cases e; omega
  rw [World.cell?_setCell_other _ _ _ _ (hne _), World.cell?_setCell_other _ _ _ _ (hne _), World.cell?_setCell_other _ _ _ _ (hne _)]
 intro i hi
 obtain ⟨bb, cc, sv, p1, p2, p4, p3⟩ := hp i hi
 refine ⟨bb, cc, sv, fun j hj => by rw [far _ _ hg]; exact p1 j hj, fun t ht => ⟨(p2 t ht).1, fun j hj => ?_⟩, TRow.set (TRow.set (TRow.set p4 ty (by decide) _ _) (ty.setCell _ _ _) (by decide) _ _) ((ty.setCell _ _ _).setCell _ _ _) (by decide) _ _⟩
 obtain ⟨q0, q1, q2⟩ := (p2 t ht).2 j hj
 rw [far _ _ (p3 t ht), far _ _ (p3 t ht), far _ _ (p3 t ht)]
 exact ⟨q0, q1, q2⟩

theorem below_three {B : Nat} {a w : World} {R : Nat} (h : Below B a w) (hR : B ≤ R) {v0 v1 v2 : Value} : Below B a (((w.setCell ⟨R, 0, none⟩ v0).setCell ⟨R, 1, none⟩ v1).setCell ⟨R, 2, none⟩ v2) := ((h.setCell hR _).setCell hR _).setCell hR _
theorem infoLine : (Tryz.prog.info? 193).map (fun i => (i.zero, i.size, i.bytes)) = some (some (.agg #[.bool false, .slice none 0 0, .bool false, .slice none 0 0, .bool false, .slice none 0 0, .bool false, .slice none 0 0, .bool false, .slice none 0 0, .bool false, .int .u8 0, .int .i64 0, .slice none 0 0]), 14, 200) := by kernel_rfl
/-- What read answers. -/
def ReadR (s : ByteArray) (w' : World) (e : Ending) : Prop := ∃ (a r : Int) (ad : Option Addr) (n c : Nat), e = .returned (.agg #[.slice ad n c, .int .i64 a, .int .i64 r]) ∧ ChkR s a r ∧ (r = 0 → ∃ g, ad = some ⟨g, 0, none⟩ ∧ n = tn s ∧ n ≤ c ∧ PLinesAt w' g s)

set_option maxRecDepth 10000 in
set_option maxHeartbeats 3000000 in
theorem read_any (s : ByteArray) (w : World) (hs : s.size ≤ maxLen) (hT : TabLH w) :
 Calls Tryz.prog 114 #[.string s] w fun e w' => ReadR s w' e ∧ Below w.heap.size w w' := by
 unfold maxLen at hs
 have h2w : 0 < w.heap.size ∧ 1 < w.heap.size := ⟨World.block_lt_of_cell? _ _ (hT 0 (by decide)).1, World.block_lt_of_cell? _ _ (hT 0 (by decide)).2⟩
 have HT0 : Hid (∀ o, TabLH (w.alloc o)) := fun o => hT.later (below_alloc _ _)
 clear hT
 by_cases h300 : 300 < s.size
 ·have K : Hid (ChkR s 0 1) := ChkR.long h300
  go_enter Tryz.func114, Tryz.ntmps114
  go_wp2_with fail
  exact bodyPost_ret (v := .agg #[.slice none 0 0, .int .i64 0, .int .i64 1]) (by simp [results, Tryz.results114, go_sem]) rfl ⟨⟨0, 1, none, 0, 0, rfl, K.out, fun h => by cases h⟩, below_alloc _ _⟩
 have hs3 : s.size ≤ 300 := by omega
 clear hs
 obtain ⟨i0, hi, hz0, hz1, hz2⟩ := info_parts infoLine
 go_enter Tryz.func114, Tryz.ntmps114
 go_wp2_with fail
 refine (splitLines_any _ _ hs3).mono ?_
 rintro e w1 ⟨⟨b, cap, rfl, hge, hcap, hS⟩, hb⟩
 have hlen := Txt.pcs_len 10 s
 have hn := tn_len s
 have he := empty_list (s := tl s (tn s))
 have HT1 : Hid (∀ o, TabLH (w1.alloc o)) := fun o => ((HT0.out _).later hb).later (below_alloc _ _)
 have B1 : Hid (Below w.heap.size w w1) := (below_alloc w _).trans (hb.mono (by simp))
 have hgb : w.heap.size < b := by simp at hge; omega
 have hbl : b < w1.heap.size := World.block_lt_of_cell? _ _ (hS 0 (Txt.pcs_ne _ _))
 have hzz : w.heap.size < w1.heap.size := by omega
 have H0 : RInv w (w1.alloc (.cells #[] 193)) w1.heap.size b s 0 (.slice (some ⟨w1.heap.size, 0, none⟩) 0 0) [] := by
  refine ⟨hS.later (below_alloc _ _), HT1.out _, cell_later (below_alloc _ _) (cell_later hb (by simp [go_sem])), cell_later (below_alloc _ _) (cell_later hb (by simp [go_sem])), cell_later (below_alloc _ _) (cell_later hb (by simp [go_sem])), ?_, ?_, ?_, ?_, ((Typed.new _ _ _).later hb).later (below_alloc _ _), fun i h => by omega, B1.out.alloc (Nat.le_of_lt hzz) _, hzz, hbl, by omega, by simp⟩
  ·rw [(below_alloc w1 _).frozen (p := ⟨w.heap.size, 0, none⟩) (by simpa using hzz), hb.frozen (p := ⟨w.heap.size, 0, none⟩) (by simp)]; simp [go_sem]
  ·rw [(below_alloc w1 _).frozen (p := ⟨w.heap.size, 1, none⟩) (by simpa using hzz), hb.frozen (p := ⟨w.heap.size, 1, none⟩) (by simp)]; simp [go_sem]
  ·rw [(below_alloc w1 _).frozen (p := ⟨w.heap.size, 2, none⟩) (by simpa using hzz), hb.frozen (p := ⟨w.heap.size, 2, none⟩) (by simp)]; simp [go_sem]
  ·exact ⟨rfl, Or.inr ⟨w1.heap.size, 0, #[], rfl, Nat.le_refl _, (MapKept.heap_alloc w1 _).1, Nat.le_refl _, Nat.zero_le _, rfl, rfl⟩⟩
 have HN : Hid ((Txt.pcs 10 s).length = tn s + 1) := hn
 have hnb : tn s ≤ 301 := by omega
 obtain ⟨hc, hf⟩ := bcell hb
 clear hb hS HT1 HT0 hn hlen
 by_cases z : (tl s (tn s)).size = 0
 ·have Z : Hid ((tl s (tn s)).size = 0) := z
  rw [decide_eq_true z] at he
  have hM : Hid (tn s + (if (tl s (tn s)).size = 0 then 0 else 1) = tn s) := by unfold Hid; rw [if_pos z, Nat.add_zero]
  clear z
  by_cases h4 : 4 < tn s
  ·have K : Hid (ChkR s 0 2) := ChkR.many hs3 (by rw [hM.out]; exact h4)
   clear H0
   go_wp2_with fail
   exact bodyPost_ret (v := .agg #[.slice none 0 0, .int .i64 0, .int .i64 2]) (by simp [results, Tryz.results114, go_sem, hc]) rfl ⟨⟨0, 2, none, 0, 0, rfl, K.out, fun h => by cases h⟩, below_three B1.out (Nat.le_refl _)⟩
  have h4' : Hid (tn s + (if (tl s (tn s)).size = 0 then 0 else 1) ≤ 4) := by unfold Hid; rw [hM.out]; omega
  clear hc hf
  go_wp2_with fail
  go_loopw [6, 7] (fun v x wr => ∃ (k g c : Nat) (xs : List Value), k ≤ tn s ∧ x = .int .i64 k ∧ v = .slice (some ⟨g, 0, none⟩) k c ∧ k ≤ c ∧ (∀ j : Nat, j < k → lineB (tl s j) = true) ∧ RInv w wr w1.heap.size b s k (.slice (some ⟨g, 0, none⟩) k c) xs) (fun _ x _ => tn s - (intOf x).toNat)
  case atStart => exact ⟨0, _, _, _, Nat.zero_le _, rfl, rfl, Nat.le_refl _, fun j h => by omega, H0⟩
  case round =>
   clear H0
   obtain ⟨k, g, c, xs, hk, rfl, rfl, hkc, hall, HI⟩ := hrel
   have HA : Hid (∀ j : Nat, j < k → lineB (tl s j) = true) := hall
   clear hall
   by_cases hlt : k < tn s
   ·have hkl : k < (Txt.pcs 10 s).length := by have := HN.out; omega
    have hcell : wr.cell? ⟨b, k, none⟩ = some (.string (tl s k)) := by rw [← tl_eq hkl]; exact HI.strs k hkl
    have zk : Hid ((tl s k).size ≤ 300) := tl_sz hs3 k hkl
    have b1 : (0 : Int) ≤ (k : Int) := by omega
    have b2 : (k : Int) < (tn s : Int) := by omega
    go_wp2_with fail
    refine (readLine_any _ _ zk.out HI.tabs).mono ?_
    rintro e w2 ⟨hR, hb2⟩
    have HI2 := HI.below hb2
    have hvlt : ∀ g0, (Value.slice (some ⟨g, 0, none⟩) k c).ownBlock = some g0 → g0 < wr.heap.size := fun g0 e => (HI.own.lt g0 e).2
    have HV : Hid (∀ g0, (Value.slice (some ⟨g, 0, none⟩) k c).ownBlock = some g0 → g0 < wr.heap.size) := hvlt
    have HBW : Hid (w1.heap.size ≤ wr.heap.size) := HI.hbase
    clear HI hb2 hcell hvlt
    rcases hR with ⟨kk, bb, cc, sv, rfl, hP, hown0⟩ | ⟨kk, rfl⟩
    ·have KK : Hid (lineB (tl s k) = true) := kk
     obtain ⟨ads, caps, hvs⟩ : ∃ ad cap, sv = .slice ad (stps (tl s k)).length cap := by
      obtain ⟨ad, cap, e, _⟩ := (RowAt.of_own hown0).form; exact ⟨ad, cap, e⟩
     subst hvs
     have HSP : Hid (StepsAt w2 (tl s k) (.slice ads (stps (tl s k)).length caps)) := TRow.of_own hown0
     clear hown0
     have HP : Hid (LineAt w2 (tl s k) bb cc ∧ ∀ t : Nat, t < 5 → wr.heap.size ≤ bb t) := ⟨fun t ht => (hP t ht).2, fun t ht => (hP t ht).1⟩
     have HB2 : Hid (w1.heap.size ≤ w2.heap.size) := HI2.hbase
     have HO2 : Hid (w2.ownsRow w1.heap.size 193 14 (.slice (some ⟨g, 0, none⟩) k c) k xs) := HI2.own
     have hk5 : k ≤ 5 := by omega
     clear kk hP
     go_wp2_with (at_builtin; refine wpList_append_lies _ rfl (.tmp 48) (.tmp 50) 173 rfl w1.heap.size 193 i0 (.agg #[.bool false, .slice none 0 0, .bool false, .slice none 0 0, .bool false, .slice none 0 0, .bool false, .slice none 0 0, .bool false, .slice none 0 0, .bool false, .int .u8 0, .int .i64 0, .slice none 0 0]) 14 200 Tryz.underlying173 hi hz0 hz1 hz2 rfl (by decide) _ _ _ rfl ((HO2.out.alloc _).alloc _) ⟨w2.heap.size + 1, 0, none⟩ 1 1 (lcells (tl s k) bb cc (.slice ads (stps (tl s k)).length caps)) rfl rfl ?c1 ?c2 (by decide) ?c3 ?c4 ?c5 _ rfl ?_)
     case c1 =>
      intro j u hj
      have hj10 : j < 14 := by
       rcases Nat.lt_or_ge j 14 with h | h
       ·exact h
       ·rw [List.getElem?_eq_none (by simpa [lcells] using h)] at hj; cases hj
      have hj' : j = 0 ∨ j = 1 ∨ j = 2 ∨ j = 3 ∨ j = 4 ∨ j = 5 ∨ j = 6 ∨ j = 7 ∨ j = 8 ∨ j = 9 ∨ j = 10 ∨ j = 11 ∨ j = 12 ∨ j = 13 := by omega
      rcases hj' with rfl | rfl | rfl | rfl | rfl | rfl | rfl | rfl | rfl | rfl | rfl | rfl | rfl | rfl <;> (simp [lcells] at hj; subst hj; simp [Addr.add, go_sem])
     case c2 => intro u hu; simp [lcells] at hu; rcases hu with rfl | rfl | rfl | rfl | rfl | rfl | rfl | rfl | rfl | rfl | rfl | rfl | rfl | rfl <;> rfl
     case c3 => unfold maxLen; omega
     case c4 => omega
     case c5 => have := HB2.out; simp; omega
     ·intro g' c' w3 hown' hgrow hat hlt'
      have HI4 := HI2.app2 hgrow hown' hat HV.out HBW.out HP.out.1 HSP.out HP.out.2
      have hc' : k + 1 ≤ c' := by
       rcases hown'.2 with ⟨h, _⟩ | ⟨g2, cap2, cur, h, _, _, h2, _⟩
       ·cases h
       ·cases h; exact h2
      clear hown' hgrow hat HI2 HO2 hlt'
      go_wp2_with fail
      go_roundw
      case rel =>
       refine ⟨k + 1, g', c', _, by omega, by go_num, rfl, hc', fun j h => ?_, HI4⟩
       by_cases q : j = k
       ·subst q; exact KK.out
       ·exact HA.out j (by omega)
      case measure => simp [intOf]; omega
    ·have K : Hid (ChkR s (k + 1) 3) := ChkR.line hs3 h4'.out k hlt kk HA.out
     have BB : Hid (Below w.heap.size w w2) := HI2.bel
     have r0 := HI2.c0
     have r1 := HI2.c1
     have r2 := HI2.c2
     have s0 := HI2.f0
     have s1 := HI2.f1
     have s2 := HI2.f2
     have z4 : w.heap.size < w2.heap.size := by have := HI2.hR; have := HI2.hbase; omega
     clear kk HI2
     go_wp2_with fail
     refine bodyPost_ret (v := .agg #[.slice none 0 0, .int .i64 ((k : Int) + 1), .int .i64 3]) (by simp [results, Tryz.results114, go_sem, r0, r1, r2, z4]) rfl ⟨⟨_, 3, none, 0, 0, rfl, K.out, fun h => by cases h⟩, ?_⟩
     repeat (first | exact BB.out | refine Below.setCell ?_ (by simp) _ | refine Below.alloc ?_ (by first | (simp; done) | (simp; omega)) _)
   ·obtain rfl : k = tn s := by omega
    have BB : Hid (Below w.heap.size w wr) := HI.bel
    have r0 := HI.c0
    have r1 := HI.c1
    have r2 := HI.c2
    have s0 := HI.f0
    have s1 := HI.f1
    have s2 := HI.f2
    have z4 : w.heap.size < wr.heap.size := by have := HI.hR; have := HI.hbase; omega
    have K : Hid (ChkR s 0 0) := ChkR.ok hs3 h4'.out HA.out Z.out
    have HL : Hid (PLinesAt wr g s) := HI.lines.1
    have hgR : Hid (w.heap.size < g) := by have := HI.lines.2; have := HI.hR; unfold Hid; omega
    have HTy : Hid (Typed wr w.heap.size 175) := HI.ty
    have HPP : Hid (∀ i : Nat, i < tn s → ∃ (bb cc : Nat → Nat) (sv : Value), (∀ j : Nat, j < 14 → wr.cell? ⟨g, i * 14 + j, none⟩ = (lcells (tl s i) bb cc sv)[j]?) ∧ LineAt wr (tl s i) bb cc ∧ StepsAt wr (tl s i) sv ∧ ∀ t : Nat, t < 5 → w.heap.size < bb t) := by
     intro i hi'
     obtain ⟨bb, cc, sv, p1, p2, p4, p3⟩ := HI.lns i hi'
     refine ⟨bb, cc, sv, fun j hj => ?_, p2, p4, fun t ht => by have := (p3 t ht).1; have := HI.hR; omega⟩
     rw [HI.own.cellAt (i * 14 + j) (by omega)]; exact p1 j hj
    clear HI
    go_wp2_with fail
    exact bodyPost_ret (v := .agg #[.slice (some ⟨g, 0, none⟩) (tn s) c, .int .i64 0, .int .i64 0]) (by simp [results, Tryz.results114, go_sem, r0, r1, r2]) rfl ⟨⟨0, 0, _, _, _, rfl, K.out, fun _ => ⟨g, rfl, rfl, hkc, lines_far HTy.out HL.out hgR.out HPP.out⟩⟩, below_three BB.out (Nat.le_refl _)⟩
 ·have Z : Hid (¬ (tl s (tn s)).size = 0) := z
  rw [decide_eq_false z] at he
  have hM : Hid (tn s + (if (tl s (tn s)).size = 0 then 0 else 1) = tn s + 1) := by unfold Hid; rw [if_neg z]
  clear z
  by_cases h4 : 4 < tn s + 1
  ·have K : Hid (ChkR s 0 2) := ChkR.many hs3 (by rw [hM.out]; exact h4)
   clear H0
   go_wp2_with fail
   exact bodyPost_ret (v := .agg #[.slice none 0 0, .int .i64 0, .int .i64 2]) (by simp [results, Tryz.results114, go_sem, hc]) rfl ⟨⟨0, 2, none, 0, 0, rfl, K.out, fun h => by cases h⟩, below_three B1.out (Nat.le_refl _)⟩
  have h4' : Hid (tn s + (if (tl s (tn s)).size = 0 then 0 else 1) ≤ 4) := by unfold Hid; rw [hM.out]; omega
  clear hc hf
  go_wp2_with fail
  go_loopw [6, 7] (fun v x wr => ∃ (k g c : Nat) (xs : List Value), k ≤ tn s ∧ x = .int .i64 k ∧ v = .slice (some ⟨g, 0, none⟩) k c ∧ k ≤ c ∧ (∀ j : Nat, j < k → lineB (tl s j) = true) ∧ RInv w wr w1.heap.size b s k (.slice (some ⟨g, 0, none⟩) k c) xs) (fun _ x _ => tn s - (intOf x).toNat)
  case atStart => exact ⟨0, _, _, _, Nat.zero_le _, rfl, rfl, Nat.le_refl _, fun j h => by omega, H0⟩
  case round =>
   clear H0
   obtain ⟨k, g, c, xs, hk, rfl, rfl, hkc, hall, HI⟩ := hrel
   have HA : Hid (∀ j : Nat, j < k → lineB (tl s j) = true) := hall
   clear hall
   by_cases hlt : k < tn s
   ·have hkl : k < (Txt.pcs 10 s).length := by have := HN.out; omega
    have hcell : wr.cell? ⟨b, k, none⟩ = some (.string (tl s k)) := by rw [← tl_eq hkl]; exact HI.strs k hkl
    have zk : Hid ((tl s k).size ≤ 300) := tl_sz hs3 k hkl
    have b1 : (0 : Int) ≤ (k : Int) := by omega
    have b2 : (k : Int) < (tn s : Int) := by omega
    go_wp2_with fail
    refine (readLine_any _ _ zk.out HI.tabs).mono ?_
    rintro e w2 ⟨hR, hb2⟩
    have HI2 := HI.below hb2
    have hvlt : ∀ g0, (Value.slice (some ⟨g, 0, none⟩) k c).ownBlock = some g0 → g0 < wr.heap.size := fun g0 e => (HI.own.lt g0 e).2
    have HV : Hid (∀ g0, (Value.slice (some ⟨g, 0, none⟩) k c).ownBlock = some g0 → g0 < wr.heap.size) := hvlt
    have HBW : Hid (w1.heap.size ≤ wr.heap.size) := HI.hbase
    clear HI hb2 hcell hvlt
    rcases hR with ⟨kk, bb, cc, sv, rfl, hP, hown0⟩ | ⟨kk, rfl⟩
    ·have KK : Hid (lineB (tl s k) = true) := kk
     obtain ⟨ads, caps, hvs⟩ : ∃ ad cap, sv = .slice ad (stps (tl s k)).length cap := by
      obtain ⟨ad, cap, e, _⟩ := (RowAt.of_own hown0).form; exact ⟨ad, cap, e⟩
     subst hvs
     have HSP : Hid (StepsAt w2 (tl s k) (.slice ads (stps (tl s k)).length caps)) := TRow.of_own hown0
     clear hown0
     have HP : Hid (LineAt w2 (tl s k) bb cc ∧ ∀ t : Nat, t < 5 → wr.heap.size ≤ bb t) := ⟨fun t ht => (hP t ht).2, fun t ht => (hP t ht).1⟩
     have HB2 : Hid (w1.heap.size ≤ w2.heap.size) := HI2.hbase
     have HO2 : Hid (w2.ownsRow w1.heap.size 193 14 (.slice (some ⟨g, 0, none⟩) k c) k xs) := HI2.own
     have hk5 : k ≤ 5 := by omega
     clear kk hP
     go_wp2_with (at_builtin; refine wpList_append_lies _ rfl (.tmp 48) (.tmp 50) 173 rfl w1.heap.size 193 i0 (.agg #[.bool false, .slice none 0 0, .bool false, .slice none 0 0, .bool false, .slice none 0 0, .bool false, .slice none 0 0, .bool false, .slice none 0 0, .bool false, .int .u8 0, .int .i64 0, .slice none 0 0]) 14 200 Tryz.underlying173 hi hz0 hz1 hz2 rfl (by decide) _ _ _ rfl ((HO2.out.alloc _).alloc _) ⟨w2.heap.size + 1, 0, none⟩ 1 1 (lcells (tl s k) bb cc (.slice ads (stps (tl s k)).length caps)) rfl rfl ?c1 ?c2 (by decide) ?c3 ?c4 ?c5 _ rfl ?_)
     case c1 =>
      intro j u hj
      have hj10 : j < 14 := by
       rcases Nat.lt_or_ge j 14 with h | h
       ·exact h
       ·rw [List.getElem?_eq_none (by simpa [lcells] using h)] at hj; cases hj
      have hj' : j = 0 ∨ j = 1 ∨ j = 2 ∨ j = 3 ∨ j = 4 ∨ j = 5 ∨ j = 6 ∨ j = 7 ∨ j = 8 ∨ j = 9 ∨ j = 10 ∨ j = 11 ∨ j = 12 ∨ j = 13 := by omega
      rcases hj' with rfl | rfl | rfl | rfl | rfl | rfl | rfl | rfl | rfl | rfl | rfl | rfl | rfl | rfl <;> (simp [lcells] at hj; subst hj; simp [Addr.add, go_sem])
     case c2 => intro u hu; simp [lcells] at hu; rcases hu with rfl | rfl | rfl | rfl | rfl | rfl | rfl | rfl | rfl | rfl | rfl | rfl | rfl | rfl <;> rfl
     case c3 => unfold maxLen; omega
     case c4 => omega
     case c5 => have := HB2.out; simp; omega
     ·intro g' c' w3 hown' hgrow hat hlt'
      have HI4 := HI2.app2 hgrow hown' hat HV.out HBW.out HP.out.1 HSP.out HP.out.2
      have hc' : k + 1 ≤ c' := by
       rcases hown'.2 with ⟨h, _⟩ | ⟨g2, cap2, cur, h, _, _, h2, _⟩
       ·cases h
       ·cases h; exact h2
      clear hown' hgrow hat HI2 HO2 hlt'
      go_wp2_with fail
      go_roundw
      case rel =>
       refine ⟨k + 1, g', c', _, by omega, by go_num, rfl, hc', fun j h => ?_, HI4⟩
       by_cases q : j = k
       ·subst q; exact KK.out
       ·exact HA.out j (by omega)
      case measure => simp [intOf]; omega
    ·have K : Hid (ChkR s (k + 1) 3) := ChkR.line hs3 h4'.out k hlt kk HA.out
     have BB : Hid (Below w.heap.size w w2) := HI2.bel
     have r0 := HI2.c0
     have r1 := HI2.c1
     have r2 := HI2.c2
     have s0 := HI2.f0
     have s1 := HI2.f1
     have s2 := HI2.f2
     have z4 : w.heap.size < w2.heap.size := by have := HI2.hR; have := HI2.hbase; omega
     clear kk HI2
     go_wp2_with fail
     refine bodyPost_ret (v := .agg #[.slice none 0 0, .int .i64 ((k : Int) + 1), .int .i64 3]) (by simp [results, Tryz.results114, go_sem, r0, r1, r2, z4]) rfl ⟨⟨_, 3, none, 0, 0, rfl, K.out, fun h => by cases h⟩, ?_⟩
     repeat (first | exact BB.out | refine Below.setCell ?_ (by simp) _ | refine Below.alloc ?_ (by first | (simp; done) | (simp; omega)) _)
   ·obtain rfl : k = tn s := by omega
    have BB : Hid (Below w.heap.size w wr) := HI.bel
    have r0 := HI.c0
    have r1 := HI.c1
    have r2 := HI.c2
    have s0 := HI.f0
    have s1 := HI.f1
    have s2 := HI.f2
    have z4 : w.heap.size < wr.heap.size := by have := HI.hR; have := HI.hbase; omega
    have K : Hid (ChkR s (tn s + 1) 3) := ChkR.last hs3 h4'.out HA.out Z.out
    clear HI
    go_wp2_with fail
    exact bodyPost_ret (v := .agg #[.slice none 0 0, .int .i64 ((tn s : Int) + 1), .int .i64 3]) (by simp [results, Tryz.results114, go_sem, r0, r1, r2]) rfl ⟨⟨_, 3, none, 0, 0, rfl, K.out, fun h => by cases h⟩, below_three BB.out (Nat.le_refl _)⟩
end Go.Proofs.YtdajolpoiffimaaGreatDoor

namespace Go.Proofs.YtdajolpoiffimaaGreatDoor
open Go.RowKit

/-- A state as a value; the block that it is laid in. -/
abbrev pstV (s : Px.St) (sl en : Value) : Value := .agg #[.string s.tab, .int .i64 s.clock, .int .i64 s.next, sl, en]
abbrev pstO (s : Px.St) (sl en : Value) : Obj := .cells #[.string s.tab, .int .i64 s.clock, .int .i64 s.next, sl, en] 65
/-- A state's lists lie in memory. -/
structure PAt (w : World) (s : Px.St) (sl en : Value) : Prop where
 sl : TRow w 154 sl s.slots.length (s.slots.flatMap psC)
 en : TRow w 95 en s.ends.length (s.ends.flatMap enC)
theorem PAt.later {w w' : World} {s : Px.St} {sl en : Value} (h : PAt w s sl en) (hb : Below w.heap.size w w') : PAt w' s sl en := ⟨h.sl.later hb, h.en.later hb⟩
theorem PAt.set {w : World} {s : Px.St} {sl en : Value} (h : PAt w s sl en) {g : Nat} {e : TypeId} (hg : Typed w g e) (h1 : 154 ≠ e) (h2 : 95 ≠ e) (o : Nat) (u : Value) : PAt (w.setCell ⟨g, o, none⟩ u) s sl en := ⟨h.sl.set hg h1 o u, h.en.set hg h2 o u⟩
/-- A state in a block. -/
structure PIn (W : World) (q : Nat) (s : Px.St) (sl en : Value) : Prop where
 c0 : W.cell? ⟨q, 0, none⟩ = some (.string s.tab)
 c1 : W.cell? ⟨q, 1, none⟩ = some (.int .i64 s.clock)
 c2 : W.cell? ⟨q, 2, none⟩ = some (.int .i64 s.next)
 c3 : W.cell? ⟨q, 3, none⟩ = some sl
 c4 : W.cell? ⟨q, 4, none⟩ = some en
theorem PIn.new (w : World) (s : Px.St) (sl en : Value) : PIn (w.alloc (pstO s sl en)) w.heap.size s sl en := ⟨by simp [go_sem], by simp [go_sem], by simp [go_sem], by simp [go_sem], by simp [go_sem]⟩
theorem PIn.later {W W' : World} {q : Nat} {s : Px.St} {sl en : Value} (h : PIn W q s sl en) (hb : Below W.heap.size W W') : PIn W' q s sl en :=
 ⟨cell_later hb h.c0, cell_later hb h.c1, cell_later hb h.c2, cell_later hb h.c3, cell_later hb h.c4⟩
theorem PIn.below {W W' : World} {q n : Nat} {s : Px.St} {sl en : Value} (h : PIn W q s sl en) (hq : q < n) (hb : Below n W W') : PIn W' q s sl en := by
 have c : ∀ j u, W.cell? ⟨q, j, none⟩ = some u → W'.cell? ⟨q, j, none⟩ = some u := fun j u h => (hb.cell (p := ⟨q, j, none⟩) hq).trans h
 exact ⟨c _ _ h.c0, c _ _ h.c1, c _ _ h.c2, c _ _ h.c3, c _ _ h.c4⟩
/-- A block of one's own, whatever it holds. -/
def ZCell (W : World) (q n : Nat) : Prop := ∀ j : Nat, j < n → (∃ u, W.cell? ⟨q, j, none⟩ = some u) ∧ W.frozen? ⟨q, j, none⟩ = false
theorem ZCell.new (w : World) (cs : Array Value) (t : TypeId) : ZCell (w.alloc (.cells cs t)) w.heap.size cs.size := by
 intro j hj
 have hb : (w.alloc (.cells cs t)).heap[w.heap.size]? = some (.cells cs t (0, 0)) := by show (w.heap.push (.cells cs t))[w.heap.size]? = _; simp
 refine ⟨⟨cs[j], ?_⟩, ?_⟩
 ·rw [cell_of_row _ _ j cs t (0, 0) hb]; simp [hj]
 ·unfold World.frozen?; rw [hb]; simp
theorem ZCell.later {W W' : World} {q n : Nat} (h : ZCell W q n) (hq : q < W.heap.size) (hb : Below W.heap.size W W') : ZCell W' q n :=
 fun j hj => ⟨(h j hj).1.elim fun u hu => ⟨u, cell_later hb hu⟩, (hb.frozen (p := ⟨q, j, none⟩) hq).trans (h j hj).2⟩

/-- What find answers. -/
def FindR (l : List Px.Sl) (n : Int) (e : Ending) : Prop :=
 (∃ x, Px.find l n = some x ∧ e = .returned (.tuple #[psV x, .bool true])) ∨ (Px.find l n = none ∧ e = .returned (.tuple #[psV Px.sl0, .bool false]))
theorem find_hit {l : List Px.Sl} {n : Int} {k : Nat} (h : k < l.length) (e : (l[k].num == n) = true) (ha : ∀ j (hj : j < l.length), j < k → (l[j].num == n) = false) : Px.find l n = some l[k] := by
 unfold Px.find
 rw [List.find?_eq_some_iff_getElem]
 exact ⟨e, k, h, rfl, fun j hj => by rw [ha j (by omega) hj]; rfl⟩
theorem find_miss {l : List Px.Sl} {n : Int} (ha : ∀ j (hj : j < l.length), (l[j].num == n) = false) : Px.find l n = none := by
 unfold Px.find
 rw [List.find?_eq_none]
 intro x hx
 obtain ⟨j, hj, rfl⟩ := List.mem_iff_getElem.1 hx
 rw [ha j hj]; simp

set_option maxRecDepth 10000 in
set_option maxHeartbeats 2000000 in
theorem pfind_any (s : Px.St) (n : Int) (sl en : Value) (w : World) (hl : s.slots.length ≤ 10000) (hS : PAt w s sl en) :
 Calls Tryz.prog 121 #[pstV s sl en, .int .i64 n] w fun e w' => FindR s.slots n e ∧ Below w.heap.size w w' := by
 obtain ⟨ad, cap, rfl, hcap⟩ := hS.sl.form
 obtain ⟨ad2, cap2, rfl, hcap2⟩ := hS.en.form
 have HR : Hid (RowAt w (.slice ad s.slots.length cap) s.slots.length (s.slots.flatMap psC)) := hS.sl.1
 clear hS
 have hb0 := (below_alloc w (pstO s (.slice ad s.slots.length cap) (.slice ad2 s.ends.length cap2))).alloc (by simp) (.cells #[.int .i64 0, .int .i64 0, .int .i64 0, .int .i64 0, .int .i64 0, .int .i64 0, .int .i64 0, .string { data := #[] }] 154)
 have hI := (PIn.new w s (.slice ad s.slots.length cap) (.slice ad2 s.ends.length cap2)).later (below_alloc _ (.cells #[.int .i64 0, .int .i64 0, .int .i64 0, .int .i64 0, .int .i64 0, .int .i64 0, .int .i64 0, .string { data := #[] }] 154))
 have hZ := ZCell.new (w.alloc (pstO s (.slice ad s.slots.length cap) (.slice ad2 s.ends.length cap2))) #[.int .i64 0, .int .i64 0, .int .i64 0, .int .i64 0, .int .i64 0, .int .i64 0, .int .i64 0, .string { data := #[] }] 154
 have hZ' : ZCell ((w.alloc (pstO s (.slice ad s.slots.length cap) (.slice ad2 s.ends.length cap2))).alloc (.cells #[.int .i64 0, .int .i64 0, .int .i64 0, .int .i64 0, .int .i64 0, .int .i64 0, .int .i64 0, .string { data := #[] }] 154)) (w.heap.size + 1) 8 := by simpa using hZ
 have hq : w.heap.size + 1 < ((w.alloc (pstO s (.slice ad s.slots.length cap) (.slice ad2 s.ends.length cap2))).alloc (.cells #[.int .i64 0, .int .i64 0, .int .i64 0, .int .i64 0, .int .i64 0, .int .i64 0, .int .i64 0, .string { data := #[] }] 154)).heap.size := by simp
 clear hZ
 go_enter Tryz.func121, Tryz.ntmps121
 go_upto_region 1 with fail
 generalize (w.alloc (pstO s (.slice ad s.slots.length cap) (.slice ad2 s.ends.length cap2))).alloc (.cells #[.int .i64 0, .int .i64 0, .int .i64 0, .int .i64 0, .int .i64 0, .int .i64 0, .int .i64 0, .string { data := #[] }] 154) = W at *
 have HB : Hid (Below w.heap.size w W) := hb0
 have HR' : Hid (RowAt W (.slice ad s.slots.length cap) s.slots.length (s.slots.flatMap psC)) := HR.out.later hb0
 have i3 := hI.c3
 have HZ : Hid (ZCell W (w.heap.size + 1) 8) := hZ'
 clear hI hb0 HR hZ'
 go_wp2_with fail
 go_loop [6] (fun i => ∃ k : Nat, k ≤ s.slots.length ∧ i = .int .i64 k ∧ ∀ j (hj : j < s.slots.length), j < k → (s.slots[j].num == n) = false) (fun i => s.slots.length - (intOf i).toNat)
 case atStart => exact ⟨0, Nat.zero_le _, rfl, fun j _ h => by omega⟩
 case round =>
  obtain ⟨k, hk, rfl, hall⟩ := hrel
  have HA : Hid (∀ j (hj : j < s.slots.length), j < k → (s.slots[j].num == n) = false) := hall
  clear hall
  by_cases hlt : k < s.slots.length
  ·obtain ⟨b, off, cap', hv, _, hc⟩ := HR'.out.some' (by omega)
   cases hv
   obtain ⟨d0, d1, d2, d3, d4, d5, d6, d7⟩ := ps_cells hc k hlt
   clear hc
   have b1 : (0 : Int) ≤ (k : Int) := by omega
   have b2 : (k : Int) < (s.slots.length : Int) := by omega
   cases he : (s.slots[k].num == n)
   ·have HE : Hid ((s.slots[k].num == n) = false) := he
    have hx : Hid (∃ x, s.slots[k].num = x) := ⟨_, rfl⟩
    obtain ⟨x, hx⟩ := hx.out
    rw [hx] at d0 he
    clear d1 d2 d3 d4 d5 d6 d7 hx
    go_wp2_with fail
    go_round
    case rel =>
     refine ⟨k + 1, by omega, by go_num, fun j hj h => ?_⟩
     by_cases q : j = k
     ·subst q; exact HE.out
     ·exact HA.out j hj (by omega)
    case measure => simp [intOf]; omega
   ·have HF : Hid (Px.find s.slots n = some s.slots[k]) := find_hit hlt he HA.out
    obtain ⟨⟨u0, r0⟩, f0⟩ := HZ.out 0 (by decide)
    obtain ⟨⟨u1, r1⟩, f1⟩ := HZ.out 1 (by decide)
    obtain ⟨⟨u2, r2⟩, f2⟩ := HZ.out 2 (by decide)
    obtain ⟨⟨u3, r3⟩, f3⟩ := HZ.out 3 (by decide)
    obtain ⟨⟨u4, r4⟩, f4⟩ := HZ.out 4 (by decide)
    obtain ⟨⟨u5, r5⟩, f5⟩ := HZ.out 5 (by decide)
    obtain ⟨⟨u6, r6⟩, f6⟩ := HZ.out 6 (by decide)
    obtain ⟨⟨u7, r7⟩, f7⟩ := HZ.out 7 (by decide)
    generalize s.slots[k] = x at *
    go_wp2_with fail
    refine bodyPost_ret (v := .tuple #[psV x, .bool true]) (by simp [results, Tryz.results121, go_sem, r0, r1, r2, r3, r4, r5, r6, r7]) rfl ⟨Or.inl ⟨x, HF.out, rfl⟩, ?_⟩
    repeat (refine Below.setCell ?_ (by simp) _)
    exact HB.out
  ·have HF : Hid (Px.find s.slots n = none) := find_miss (fun j hj => HA.out j hj (by omega))
   obtain ⟨⟨u0, r0⟩, f0⟩ := HZ.out 0 (by decide)
   obtain ⟨⟨u1, r1⟩, f1⟩ := HZ.out 1 (by decide)
   obtain ⟨⟨u2, r2⟩, f2⟩ := HZ.out 2 (by decide)
   obtain ⟨⟨u3, r3⟩, f3⟩ := HZ.out 3 (by decide)
   obtain ⟨⟨u4, r4⟩, f4⟩ := HZ.out 4 (by decide)
   obtain ⟨⟨u5, r5⟩, f5⟩ := HZ.out 5 (by decide)
   obtain ⟨⟨u6, r6⟩, f6⟩ := HZ.out 6 (by decide)
   obtain ⟨⟨u7, r7⟩, f7⟩ := HZ.out 7 (by decide)
   go_wp2_with fail
   refine bodyPost_ret (v := .tuple #[psV Px.sl0, .bool false]) (by simp [results, Tryz.results121, go_sem, r0, r1, r2, r3, r4, r5, r6, r7, Px.sl0]; rfl) rfl ⟨Or.inr ⟨HF.out, rfl⟩, ?_⟩
   repeat (refine Below.setCell ?_ (by simp) _)
   exact HB.out

set_option maxHeartbeats 1000000 in
theorem plines_any (s : Px.St) (sl en : Value) (w : World) (hC : ChkR s.tab 0 0) (hT : TabLH w) (hS : PAt w s sl en) :
 Calls Tryz.prog 116 #[pstV s sl en] w fun e w' => (∃ g c, e = .returned (.slice (some ⟨g, 0, none⟩) (tn s.tab) c) ∧ tn s.tab ≤ c ∧ PLinesAt w' g s.tab) ∧ Below w.heap.size w w' := by
 obtain ⟨ad, cap, rfl, hcap⟩ := hS.sl.form
 obtain ⟨ad2, cap2, rfl, hcap2⟩ := hS.en.form
 have h300 := hC.lines.1
 have HS : Hid (s.tab.size ≤ maxLen) := by unfold Hid maxLen; omega
 have HT : Hid (∀ o, TabLH (w.alloc o)) := fun o => hT.later (below_alloc _ _)
 have HC : Hid (ChkR s.tab 0 0) := hC
 clear hS hT hC
 go_enter Tryz.func116, Tryz.ntmps116
 go_wp2_with fail
 refine (read_any _ _ HS.out (HT.out _)).mono ?_
 rintro e w1 ⟨⟨a, r, ad', n', c, rfl, hK, hL⟩, hb⟩
 obtain ⟨rfl, rfl⟩ := HC.out.uniq hK
 obtain ⟨g, rfl, rfl, hnc, hLines⟩ := hL rfl
 have HL : Hid (∀ o, PLinesAt (w1.alloc o) g s.tab) := fun o => hLines.later (below_alloc _ _)
 have B1 : Hid (∀ o, Below w.heap.size w (w1.alloc o)) := fun o => ((below_alloc w _).trans (hb.mono (by simp))).alloc (by have := hb.size; simp at this; omega) _
 clear hL hK hLines hb
 go_wp2_with fail
 go_ret
 exact ⟨⟨g, c, rfl, hnc, HL.out _⟩, B1.out _⟩

/-- A line of a crontab in memory, as a value. -/
def PLine (w : World) (l : ByteArray) (v : Value) : Prop := ∃ (bb cc : Nat → Nat) (ads : Option Addr) (caps : Nat), v = lineV l bb cc (.slice ads (stps l).length caps) ∧ LineAt w l bb cc ∧ StepsAt w l (.slice ads (stps l).length caps)
theorem far_line' {w : World} {R x o : Nat} {u v0 v1 v2 v3 v4 v5 v6 v7 v8 v9 v10 v11 v12 v13 : Value} (hne : R ≠ x) (h : w.cell? ⟨x, o, none⟩ = some u) : ((((((((((((((w.setCell ⟨R, 0, none⟩ v0).setCell ⟨R, 1, none⟩ v1).setCell ⟨R, 2, none⟩ v2).setCell ⟨R, 3, none⟩ v3).setCell ⟨R, 4, none⟩ v4).setCell ⟨R, 5, none⟩ v5).setCell ⟨R, 6, none⟩ v6).setCell ⟨R, 7, none⟩ v7).setCell ⟨R, 8, none⟩ v8).setCell ⟨R, 9, none⟩ v9).setCell ⟨R, 10, none⟩ v10).setCell ⟨R, 11, none⟩ v11).setCell ⟨R, 12, none⟩ v12).setCell ⟨R, 13, none⟩ v13).cell? ⟨x, o, none⟩ = some u := by
 have hx : ∀ j : Nat, (⟨R, j, none⟩ : Addr) ≠ ⟨x, o, none⟩ := fun j e => by cases e; exact hne rfl
 rw [World.cell?_setCell_other _ _ _ _ (hx _), World.cell?_setCell_other _ _ _ _ (hx _), World.cell?_setCell_other _ _ _ _ (hx _), World.cell?_setCell_other _ _ _ _ (hx _), World.cell?_setCell_other _ _ _ _ (hx _), World.cell?_setCell_other _ _ _ _ (hx _), World.cell?_setCell_other _ _ _ _ (hx _), World.cell?_setCell_other _ _ _ _ (hx _), World.cell?_setCell_other _ _ _ _ (hx _), World.cell?_setCell_other _ _ _ _ (hx _), World.cell?_setCell_other _ _ _ _ (hx _), World.cell?_setCell_other _ _ _ _ (hx _), World.cell?_setCell_other _ _ _ _ (hx _), World.cell?_setCell_other _ _ _ _ (hx _)]
 exact h
theorem steps_line {w : World} {R : Nat} {l : ByteArray} {sv v0 v1 v2 v3 v4 v5 v6 v7 v8 v9 v10 v11 v12 v13 : Value} (ty : Typed w R 193) (h : StepsAt w l sv) : StepsAt ((((((((((((((w.setCell ⟨R, 0, none⟩ v0).setCell ⟨R, 1, none⟩ v1).setCell ⟨R, 2, none⟩ v2).setCell ⟨R, 3, none⟩ v3).setCell ⟨R, 4, none⟩ v4).setCell ⟨R, 5, none⟩ v5).setCell ⟨R, 6, none⟩ v6).setCell ⟨R, 7, none⟩ v7).setCell ⟨R, 8, none⟩ v8).setCell ⟨R, 9, none⟩ v9).setCell ⟨R, 10, none⟩ v10).setCell ⟨R, 11, none⟩ v11).setCell ⟨R, 12, none⟩ v12).setCell ⟨R, 13, none⟩ v13) l sv := by
 have q : ∀ (w : World) (j : Nat) (u : Value), (Typed w R 193 ∧ StepsAt w l sv) → (Typed (w.setCell ⟨R, j, none⟩ u) R 193 ∧ StepsAt (w.setCell ⟨R, j, none⟩ u) l sv) := fun w j u h => ⟨h.1.setCell _ _ _, TRow.set h.2 h.1 (by decide) _ _⟩
 exact ((q _ _ _ (q _ _ _ (q _ _ _ (q _ _ _ (q _ _ _ (q _ _ _ (q _ _ _ (q _ _ _ (q _ _ _ (q _ _ _ (q _ _ _ (q _ _ _ (q _ _ _ (q _ _ _ ⟨ty, h⟩))))))))))))))).2
set_option maxRecDepth 10000 in
set_option maxHeartbeats 2000000 in
theorem pline_any (s : Px.St) (n : Int) (j : Nat) (sl en : Value) (w : World) (hn : n = (j : Int) + 1) (hj : j < tn s.tab) (hC : ChkR s.tab 0 0) (hT : TabLH w) (hS : PAt w s sl en) :
 Calls Tryz.prog 122 #[pstV s sl en, .int .i64 n] w fun e w' => (∃ v, e = .returned v ∧ PLine w' (tl s.tab j) v) ∧ Below w.heap.size w w' := by
 obtain ⟨ad, cap, rfl, hcap⟩ := hS.sl.form
 obtain ⟨ad2, cap2, rfl, hcap2⟩ := hS.en.form
 subst hn
 have HS : Hid (PAt w s (.slice ad s.slots.length cap) (.slice ad2 s.ends.length cap2)) := hS
 have HC : Hid (ChkR s.tab 0 0) := hC
 have h4 := tn_le hC
 have hb0 := (below_alloc w (pstO s (.slice ad s.slots.length cap) (.slice ad2 s.ends.length cap2))).alloc (by simp) (.cells #[.bool false, .slice none 0 0, .bool false, .slice none 0 0, .bool false, .slice none 0 0, .bool false, .slice none 0 0, .bool false, .slice none 0 0, .bool false, .int .u8 0, .int .i64 0, .slice none 0 0] 193)
 have hI := (PIn.new w s (.slice ad s.slots.length cap) (.slice ad2 s.ends.length cap2)).later (below_alloc _ (.cells #[.bool false, .slice none 0 0, .bool false, .slice none 0 0, .bool false, .slice none 0 0, .bool false, .slice none 0 0, .bool false, .slice none 0 0, .bool false, .int .u8 0, .int .i64 0, .slice none 0 0] 193))
 have hZ := ZCell.new (w.alloc (pstO s (.slice ad s.slots.length cap) (.slice ad2 s.ends.length cap2))) #[.bool false, .slice none 0 0, .bool false, .slice none 0 0, .bool false, .slice none 0 0, .bool false, .slice none 0 0, .bool false, .slice none 0 0, .bool false, .int .u8 0, .int .i64 0, .slice none 0 0] 193
 have hR0 : ((w.alloc (pstO s (.slice ad s.slots.length cap) (.slice ad2 s.ends.length cap2))).alloc (.cells #[.bool false, .slice none 0 0, .bool false, .slice none 0 0, .bool false, .slice none 0 0, .bool false, .slice none 0 0, .bool false, .slice none 0 0, .bool false, .int .u8 0, .int .i64 0, .slice none 0 0] 193)).cell? ⟨w.heap.size + 1, 0, none⟩ = some (.bool false) := by simp [go_sem]
 have hTy := Typed.new (w.alloc (pstO s (.slice ad s.slots.length cap) (.slice ad2 s.ends.length cap2))) #[.bool false, .slice none 0 0, .bool false, .slice none 0 0, .bool false, .slice none 0 0, .bool false, .slice none 0 0, .bool false, .slice none 0 0, .bool false, .int .u8 0, .int .i64 0, .slice none 0 0] 193
 have hZ' : ZCell ((w.alloc (pstO s (.slice ad s.slots.length cap) (.slice ad2 s.ends.length cap2))).alloc (.cells #[.bool false, .slice none 0 0, .bool false, .slice none 0 0, .bool false, .slice none 0 0, .bool false, .slice none 0 0, .bool false, .slice none 0 0, .bool false, .int .u8 0, .int .i64 0, .slice none 0 0] 193)) (w.heap.size + 1) 14 := by simpa using hZ
 have hTy' : Typed ((w.alloc (pstO s (.slice ad s.slots.length cap) (.slice ad2 s.ends.length cap2))).alloc (.cells #[.bool false, .slice none 0 0, .bool false, .slice none 0 0, .bool false, .slice none 0 0, .bool false, .slice none 0 0, .bool false, .slice none 0 0, .bool false, .int .u8 0, .int .i64 0, .slice none 0 0] 193)) (w.heap.size + 1) 193 := by simpa using hTy
 have hq : w.heap.size + 1 < ((w.alloc (pstO s (.slice ad s.slots.length cap) (.slice ad2 s.ends.length cap2))).alloc (.cells #[.bool false, .slice none 0 0, .bool false, .slice none 0 0, .bool false, .slice none 0 0, .bool false, .slice none 0 0, .bool false, .slice none 0 0, .bool false, .int .u8 0, .int .i64 0, .slice none 0 0] 193)).heap.size := by simp
 clear hZ hTy hS hC
 go_enter Tryz.func122, Tryz.ntmps122
 go_upto_region 1 with fail
 generalize (w.alloc (pstO s (.slice ad s.slots.length cap) (.slice ad2 s.ends.length cap2))).alloc (.cells #[.bool false, .slice none 0 0, .bool false, .slice none 0 0, .bool false, .slice none 0 0, .bool false, .slice none 0 0, .bool false, .slice none 0 0, .bool false, .int .u8 0, .int .i64 0, .slice none 0 0] 193) = W at *
 have HT : Hid (TabLH W) := hT.later hb0
 have HSW : Hid (PAt W s (.slice ad s.slots.length cap) (.slice ad2 s.ends.length cap2)) := HS.out.later hb0
 obtain ⟨i0, i1, i2, i3, i4⟩ := hI
 have HB : Hid (Below w.heap.size w W) := hb0
 have hsW := hb0.size
 clear hb0 hT HS
 go_wp2_with fail
 refine (plines_any s _ _ _ HC.out HT.out HSW.out).mono ?_
 rintro e w1 ⟨⟨g, c, rfl, hnc, hL⟩, hb1⟩
 obtain ⟨bb, cc, sv, hcl, hla, hsp⟩ := hL j hj
 obtain ⟨ads, caps, hvs⟩ : ∃ ad cap, sv = .slice ad (stps (tl s.tab j)).length cap := by
  obtain ⟨ad, cap, e, _⟩ := TRow.form hsp; exact ⟨ad, cap, e⟩
 subst hvs
 have HZ := hZ'.later hq hb1
 have HLA : Hid (LineAt w1 (tl s.tab j) bb cc) := hla
 have HSP : Hid (StepsAt w1 (tl s.tab j) (.slice ads (stps (tl s.tab j)).length caps)) := hsp
 have HTy : Hid (Typed w1 (w.heap.size + 1) 193) := hTy'.later hb1
 have HB1 : Hid (Below w.heap.size w w1) := HB.out.trans (hb1.mono hsW)
 have L0 : w1.cell? ⟨g, j * 14, none⟩ = some (.bool (Txt.opn (pt (tl s.tab j) 0))) := (hcl 0 (by decide)).trans rfl
 obtain ⟨⟨u0, r0⟩, f0⟩ := HZ 0 (by decide)
 have L1 : w1.cell? ⟨g, j * 14 + 1, none⟩ = some (.slice (some ⟨bb 0, 0, none⟩) (Txt.pcs 44 (pt (tl s.tab j) 0)).length (cc 0)) := (hcl 1 (by decide)).trans rfl
 obtain ⟨⟨u1, r1⟩, f1⟩ := HZ 1 (by decide)
 have L2 : w1.cell? ⟨g, j * 14 + 2, none⟩ = some (.bool (Txt.opn (pt (tl s.tab j) 1))) := (hcl 2 (by decide)).trans rfl
 obtain ⟨⟨u2, r2⟩, f2⟩ := HZ 2 (by decide)
 have L3 : w1.cell? ⟨g, j * 14 + 3, none⟩ = some (.slice (some ⟨bb 1, 0, none⟩) (Txt.pcs 44 (pt (tl s.tab j) 1)).length (cc 1)) := (hcl 3 (by decide)).trans rfl
 obtain ⟨⟨u3, r3⟩, f3⟩ := HZ 3 (by decide)
 have L4 : w1.cell? ⟨g, j * 14 + 4, none⟩ = some (.bool (Txt.opn (pt (tl s.tab j) 2))) := (hcl 4 (by decide)).trans rfl
 obtain ⟨⟨u4, r4⟩, f4⟩ := HZ 4 (by decide)
 have L5 : w1.cell? ⟨g, j * 14 + 5, none⟩ = some (.slice (some ⟨bb 2, 0, none⟩) (Txt.pcs 44 (pt (tl s.tab j) 2)).length (cc 2)) := (hcl 5 (by decide)).trans rfl
 obtain ⟨⟨u5, r5⟩, f5⟩ := HZ 5 (by decide)
 have L6 : w1.cell? ⟨g, j * 14 + 6, none⟩ = some (.bool (Txt.opn (pt (tl s.tab j) 3))) := (hcl 6 (by decide)).trans rfl
 obtain ⟨⟨u6, r6⟩, f6⟩ := HZ 6 (by decide)
 have L7 : w1.cell? ⟨g, j * 14 + 7, none⟩ = some (.slice (some ⟨bb 3, 0, none⟩) (Txt.pcs 44 (pt (tl s.tab j) 3)).length (cc 3)) := (hcl 7 (by decide)).trans rfl
 obtain ⟨⟨u7, r7⟩, f7⟩ := HZ 7 (by decide)
 have L8 : w1.cell? ⟨g, j * 14 + 8, none⟩ = some (.bool (Txt.opn (pt (tl s.tab j) 4))) := (hcl 8 (by decide)).trans rfl
 obtain ⟨⟨u8, r8⟩, f8⟩ := HZ 8 (by decide)
 have L9 : w1.cell? ⟨g, j * 14 + 9, none⟩ = some (.slice (some ⟨bb 4, 0, none⟩) (Txt.pcs 44 (pt (tl s.tab j) 4)).length (cc 4)) := (hcl 9 (by decide)).trans rfl
 obtain ⟨⟨u9, r9⟩, f9⟩ := HZ 9 (by decide)
 have L10 : w1.cell? ⟨g, j * 14 + 10, none⟩ = some (.bool (obt (pt (tl s.tab j) 5) 0 == 120)) := (hcl 10 (by decide)).trans rfl
 obtain ⟨⟨u10, r10⟩, f10⟩ := HZ 10 (by decide)
 have L11 : w1.cell? ⟨g, j * 14 + 11, none⟩ = some (.int .u8 (obt (pt (tl s.tab j) 5) 1)) := (hcl 11 (by decide)).trans rfl
 obtain ⟨⟨u11, r11⟩, f11⟩ := HZ 11 (by decide)
 have L12 : w1.cell? ⟨g, j * 14 + 12, none⟩ = some (.int .i64 (obt (pt (tl s.tab j) 5) 2 - 48)) := (hcl 12 (by decide)).trans rfl
 obtain ⟨⟨u12, r12⟩, f12⟩ := HZ 12 (by decide)
 have L13 : w1.cell? ⟨g, j * 14 + 13, none⟩ = some (.slice ads (stps (tl s.tab j)).length caps) := (hcl 13 (by decide)).trans rfl
 obtain ⟨⟨u13, r13⟩, f13⟩ := HZ 13 (by decide)
 have b0 : (0 : Int) ≤ (j : Int) := by omega
 have b1 : (j : Int) < (tn s.tab : Int) := by omega
 have wr1 : IntKind.i64.wrap ((j : Int) + 1 - 1) = (j : Int) := by rw [IntKind.wrap_i64]; omega
 have wr2 : IntKind.i64.wrap (j : Int) = (j : Int) := by rw [IntKind.wrap_i64]; omega
 have hHP : Hid (∀ t : Nat, t < 5 → w.heap.size + 1 ≠ bb t) := by
  intro t ht e
  obtain ⟨_, hp⟩ := HLA.out t ht
  have h0 := (hp 0 (Txt.pcs_ne _ _)).1
  rw [← e, cell_later hb1 hR0] at h0
  cases h0
 clear hcl hla hsp hL HZ hb1 hZ' hTy' HT HSW i0 i1 i2 i3 i4 hR0
 go_wp2_with fail
 refine bodyPost_ret (v := lineV (tl s.tab j) bb cc (.slice ads (stps (tl s.tab j)).length caps)) (by simp [results, Tryz.results122, go_sem, r0, r1, r2, r3, r4, r5, r6, r7, r8, r9, r10, r11, r12, r13]) rfl ⟨⟨_, rfl, bb, cc, ads, caps, rfl, fun t ht => ⟨(HLA.out t ht).1, fun k hk => ?_⟩, steps_line HTy.out HSP.out⟩, below_line HB1.out (by omega)⟩
 obtain ⟨p0, p1, p2⟩ := (HLA.out t ht).2 k hk
 have hne := hHP.out t ht
 exact ⟨far_line' hne p0, far_line' hne p1, far_line' hne p2⟩
end Go.Proofs.YtdajolpoiffimaaGreatDoor

namespace Go.Proofs.YtdajolpoiffimaaGreatDoor
open Go.RowKit

set_option maxHeartbeats 400000 in
theorem runs_any (x : Px.Sl) (w : World) : Calls Tryz.prog 120 #[psV x] w fun e w' => e = .returned (.bool (decide (0 < x.step))) ∧ Below w.heap.size w w' := by
 go_enter Tryz.func120, Tryz.ntmps120
 go_wp2_with fail
 go_ret
 exact ⟨rfl, below_alloc _ _⟩

/-- A slot that waits, with nothing left of what was being talked. -/
def waitS (x : Px.Sl) : Px.Sl := { x with step := 0, ans := 0, heard := ByteArray.empty }
set_option maxHeartbeats 1000000 in
theorem waiting_any (x : Px.Sl) (w : World) : Calls Tryz.prog 98 #[psV x] w fun e w' => e = .returned (psV (waitS x)) ∧ Below w.heap.size w w' := by
 go_enter Tryz.func98, Tryz.ntmps98
 go_wp2_with fail
 refine bodyPost_ret (v := psV (waitS x)) (by simp [results, Tryz.results98, go_sem]; exact ⟨rfl, rfl, rfl, rfl, rfl, rfl, rfl, rfl⟩) rfl ⟨rfl, ?_⟩
 exact (below_alloc w _).alloc (by simp) _
set_option maxHeartbeats 1000000 in
theorem delay_any (k : Int) (w : World) (k1 : 1 ≤ k) (k5 : k ≤ 5) : Calls Tryz.prog 124 #[.int .i64 k] w fun e w' => e = .returned (.int .i64 (Bx.delay k)) ∧ w' = w := by
 go_enter Tryz.func124, Tryz.ntmps124
 go_wp2_with fail
 go_loop [3, 4] (fun a b => (a = .int .i64 1 ∧ b = .int .i64 0) ∨ (a = .int .i64 2 ∧ b = .int .i64 1) ∨ (a = .int .i64 4 ∧ b = .int .i64 2 ∧ 2 ≤ k) ∨ (a = .int .i64 8 ∧ b = .int .i64 3 ∧ 3 ≤ k) ∨ (a = .int .i64 16 ∧ b = .int .i64 4 ∧ 4 ≤ k)) (fun _ b => 5 - (intOf b).toNat)
 case atStart => exact Or.inl ⟨rfl, rfl⟩
 case round =>
  rcases hrel with ⟨rfl, rfl⟩ | ⟨rfl, rfl⟩ | ⟨rfl, rfl, h⟩ | ⟨rfl, rfl, h⟩ | ⟨rfl, rfl, h⟩
  ·have c : (0 : Int) < k := by omega
   go_wp2_with fail
   go_round
   case rel => exact Or.inr (Or.inl ⟨rfl, rfl⟩)
   case measure => simp [intOf]
  ·by_cases c : (1 : Int) < k
   ·go_wp2_with fail
    go_round
    case rel => exact Or.inr (Or.inr (Or.inl ⟨rfl, rfl, by omega⟩))
    case measure => simp [intOf]
   ·have e : Hid (Bx.delay k = 2) := by have : k = 1 := by omega
                                        subst this; rfl
    go_wp2_with fail
    go_ret
    exact ⟨ret_int' e.out.symm, rfl⟩
  ·by_cases c : (2 : Int) < k
   ·go_wp2_with fail
    go_round
    case rel => exact Or.inr (Or.inr (Or.inr (Or.inl ⟨rfl, rfl, by omega⟩)))
    case measure => simp [intOf]
   ·have e : Hid (Bx.delay k = 4) := by have : k = 2 := by omega
                                        subst this; rfl
    go_wp2_with fail
    go_ret
    exact ⟨ret_int' e.out.symm, rfl⟩
  ·by_cases c : (3 : Int) < k
   ·go_wp2_with fail
    go_round
    case rel => exact Or.inr (Or.inr (Or.inr (Or.inr ⟨rfl, rfl, by omega⟩)))
    case measure => simp [intOf]
   ·have e : Hid (Bx.delay k = 8) := by have : k = 3 := by omega
                                        subst this; rfl
    go_wp2_with fail
    go_ret
    exact ⟨ret_int' e.out.symm, rfl⟩
  ·have e : Hid (Bx.delay k = 10) := by
    unfold Hid Bx.delay; rw [if_neg (by omega), if_neg (by omega), if_neg (by omega)]
   by_cases c : (4 : Int) < k
   ·go_wp2_with fail
    go_ret
    exact ⟨ret_int' e.out.symm, rfl⟩
   ·go_wp2_with fail
    go_ret
    exact ⟨ret_int' e.out.symm, rfl⟩

def runsK (l : List Px.Sl) (k : Nat) : Nat := ((l.take k).filter fun x => decide (0 < x.step)).length
theorem runsK_yes {l : List Px.Sl} {k : Nat} (h : k < l.length) (e : decide (0 < l[k].step) = true) : runsK l (k + 1) = runsK l k + 1 := by
 unfold runsK
 rw [List.take_succ_eq_append_getElem h, List.filter_append, List.filter_cons_of_pos (p := fun x : Px.Sl => decide (0 < x.step)) (a := l[k]) e]; simp
theorem runsK_no {l : List Px.Sl} {k : Nat} (h : k < l.length) (e : decide (0 < l[k].step) = false) : runsK l (k + 1) = runsK l k := by
 unfold runsK
 rw [List.take_succ_eq_append_getElem h, List.filter_append, List.filter_cons_of_neg (by rw [e]; simp)]; simp
theorem runsK_le (l : List Px.Sl) (k : Nat) : runsK l k ≤ k := by
 have := List.length_filter_le (fun x : Px.Sl => decide (0 < x.step)) (l.take k)
 unfold runsK; simp at this ⊢; omega
set_option maxHeartbeats 1000000 in
theorem running_any (s : Px.St) (sl en : Value) (w : World) (hl : s.slots.length ≤ 10000) (hS : PAt w s sl en) :
 Calls Tryz.prog 81 #[pstV s sl en] w fun e w' => e = .returned (.int .i64 (Px.runs s : Nat)) ∧ Below w.heap.size w w' := by
 obtain ⟨ad, cap, rfl, hcap⟩ := hS.sl.form
 obtain ⟨ad2, cap2, rfl, hcap2⟩ := hS.en.form
 have HR : Hid (RowAt w (.slice ad s.slots.length cap) s.slots.length (s.slots.flatMap psC)) := hS.sl.1
 clear hS
 have hb0 := below_alloc w (pstO s (.slice ad s.slots.length cap) (.slice ad2 s.ends.length cap2))
 have hI := PIn.new w s (.slice ad s.slots.length cap) (.slice ad2 s.ends.length cap2)
 go_enter Tryz.func81, Tryz.ntmps81
 go_upto_region 1 with fail
 generalize w.alloc (pstO s (.slice ad s.slots.length cap) (.slice ad2 s.ends.length cap2)) = W at *
 have HB : Hid (Below w.heap.size w W) := hb0
 have HR' : Hid (RowAt W (.slice ad s.slots.length cap) s.slots.length (s.slots.flatMap psC)) := HR.out.later hb0
 have HI : Hid (PIn W w.heap.size s (.slice ad s.slots.length cap) (.slice ad2 s.ends.length cap2)) := hI
 clear hI hb0 HR
 go_wp2_with fail
 go_loopw [3, 4] (fun c i wr => ∃ k : Nat, k ≤ s.slots.length ∧ i = .int .i64 k ∧ c = .int .i64 (runsK s.slots k : Nat) ∧ Below W.heap.size W wr) (fun _ i _ => s.slots.length - (intOf i).toNat)
 case atStart => exact ⟨0, Nat.zero_le _, rfl, rfl, Below.refl _ _⟩
 case round =>
  obtain ⟨k, hk, rfl, rfl, hbr⟩ := hrel
  have i3 := (HI.out.later hbr).c3
  have hsz := hbr.size
  by_cases hlt : k < s.slots.length
  ·obtain ⟨b, off, cap', hv, _, hc⟩ := (HR'.out.later hbr).some' (by omega)
   cases hv
   obtain ⟨d0, d1, d2, d3, d4, d5, d6, d7⟩ := ps_cells hc k hlt
   clear hc
   have b1 : (0 : Int) ≤ (k : Int) := by omega
   have b2 : (k : Int) < (s.slots.length : Int) := by omega
   have hle := runsK_le s.slots k
   cases he : decide (0 < s.slots[k].step)
   ·have HF : Hid (runsK s.slots (k + 1) = runsK s.slots k) := runsK_no hlt he
    have HE : Hid (decide (0 < s.slots[k].step) = false) := he
    clear he
    generalize s.slots[k] = x at *
    generalize runsK s.slots k = r at *
    go_wp2_with fail
    refine (runs_any x wr).mono ?_
    rintro e w2 ⟨rfl, hb2⟩
    rw [HE.out]
    have B2 := hbr.trans (hb2.mono hsz)
    clear d0 d1 d2 d3 d4 d5 d6 d7 i3 hb2 hbr
    go_wp2_with fail
    go_roundw
    case rel => exact ⟨k + 1, by omega, by go_num, by rw [HF.out], B2⟩
    case measure => simp [intOf]; omega
   ·have HF : Hid (runsK s.slots (k + 1) = runsK s.slots k + 1) := runsK_yes hlt he
    have HE : Hid (decide (0 < s.slots[k].step) = true) := he
    clear he
    generalize s.slots[k] = x at *
    generalize runsK s.slots k = r at *
    go_wp2_with fail
    refine (runs_any x wr).mono ?_
    rintro e w2 ⟨rfl, hb2⟩
    rw [HE.out]
    have B2 := hbr.trans (hb2.mono hsz)
    clear d0 d1 d2 d3 d4 d5 d6 d7 i3 hb2 hbr
    go_wp2_with fail
    go_roundw
    case rel => exact ⟨k + 1, by omega, by go_num, by rw [HF.out]; go_num, B2⟩
    case measure => simp [intOf]; omega
  ·obtain rfl : k = s.slots.length := by omega
   have HF : Hid (runsK s.slots s.slots.length = Px.runs s) := by unfold Hid runsK Px.runs; rw [List.take_length]
   go_wp2_with fail
   go_ret
   exact ⟨ret_int' (by rw [HF.out]), HB.out.trans (hbr.mono HB.out.size)⟩

/-- The block that a line is laid in. -/
abbrev lnO (l : ByteArray) (bb cc : Nat → Nat) (ads : Option Addr) (caps : Nat) : Obj := .cells #[.bool (Txt.opn (pt l 0)), .slice (some ⟨bb 0, 0, none⟩) (Txt.pcs 44 (pt l 0)).length (cc 0), .bool (Txt.opn (pt l 1)), .slice (some ⟨bb 1, 0, none⟩) (Txt.pcs 44 (pt l 1)).length (cc 1), .bool (Txt.opn (pt l 2)), .slice (some ⟨bb 2, 0, none⟩) (Txt.pcs 44 (pt l 2)).length (cc 2), .bool (Txt.opn (pt l 3)), .slice (some ⟨bb 3, 0, none⟩) (Txt.pcs 44 (pt l 3)).length (cc 3), .bool (Txt.opn (pt l 4)), .slice (some ⟨bb 4, 0, none⟩) (Txt.pcs 44 (pt l 4)).length (cc 4), .bool (obt (pt l 5) 0 == 120), .int .u8 (obt (pt l 5) 1), .int .i64 (obt (pt l 5) 2 - 48), .slice ads (stps l).length caps] 193
/-- How many slots of a line run, among the first k. -/
def onP (n : Int) (x : Px.Sl) : Bool := decide (x.line = n) && decide (0 < x.step)
def onK (l : List Px.Sl) (n : Int) (k : Nat) : Nat := ((l.take k).filter (onP n)).length
theorem onK_yes {l : List Px.Sl} {n : Int} {k : Nat} (h : k < l.length) (e : onP n l[k] = true) : onK l n (k + 1) = onK l n k + 1 := by
 unfold onK
 rw [List.take_succ_eq_append_getElem h, List.filter_append, List.filter_cons_of_pos e]; simp
theorem onK_no {l : List Px.Sl} {n : Int} {k : Nat} (h : k < l.length) (e : onP n l[k] = false) : onK l n (k + 1) = onK l n k := by
 unfold onK
 rw [List.take_succ_eq_append_getElem h, List.filter_append, List.filter_cons_of_neg (by rw [e]; simp)]; simp
theorem onK_le (l : List Px.Sl) (n : Int) (k : Nat) : onK l n k ≤ k := by
 have := List.length_filter_le (onP n) (l.take k)
 unfold onK; simp at this ⊢; omega
def runsOf (s : Px.St) (n : Int) : Nat := (s.slots.filter (onP n)).length
theorem runsOf_any (s : Px.St) (n : Int) : (s.slots.any fun x => decide (x.line = n) && decide (0 < x.step)) = decide (0 < runsOf s n) := by
 show s.slots.any (onP n) = _
 unfold runsOf
 rw [Bool.eq_iff_iff, decide_eq_true_iff, List.any_eq_true, List.length_pos_iff_exists_mem]
 constructor
 ·rintro ⟨x, h1, h2⟩; exact ⟨x, List.mem_filter.2 ⟨h1, h2⟩⟩
 ·rintro ⟨x, h⟩; exact ⟨x, (List.mem_filter.1 h).1, (List.mem_filter.1 h).2⟩
set_option maxRecDepth 10000 in
set_option maxHeartbeats 2000000 in
theorem runningOf_any (s : Px.St) (n : Int) (sl en : Value) (w : World) (hl : s.slots.length ≤ 10000) (hS : PAt w s sl en) :
 Calls Tryz.prog 162 #[pstV s sl en, .int .i64 n] w fun e w' => e = .returned (.int .i64 (runsOf s n : Nat)) ∧ Below w.heap.size w w' := by
 obtain ⟨ad, cap, rfl, hcap⟩ := hS.sl.form
 obtain ⟨ad2, cap2, rfl, hcap2⟩ := hS.en.form
 have HR : Hid (RowAt w (.slice ad s.slots.length cap) s.slots.length (s.slots.flatMap psC)) := hS.sl.1
 clear hS
 have hb0 := below_alloc w (pstO s (.slice ad s.slots.length cap) (.slice ad2 s.ends.length cap2))
 have hI := PIn.new w s (.slice ad s.slots.length cap) (.slice ad2 s.ends.length cap2)
 go_enter Tryz.func162, Tryz.ntmps162
 go_upto_region 1 with fail
 generalize w.alloc (pstO s (.slice ad s.slots.length cap) (.slice ad2 s.ends.length cap2)) = W at *
 have HB : Hid (Below w.heap.size w W) := hb0
 have HR' : Hid (RowAt W (.slice ad s.slots.length cap) s.slots.length (s.slots.flatMap psC)) := HR.out.later hb0
 have HI : Hid (PIn W w.heap.size s (.slice ad s.slots.length cap) (.slice ad2 s.ends.length cap2)) := hI
 clear hI hb0 HR
 go_wp2_with fail
 go_loopw [5, 6] (fun c i wr => ∃ k : Nat, k ≤ s.slots.length ∧ i = .int .i64 k ∧ c = .int .i64 (onK s.slots n k : Nat) ∧ Below W.heap.size W wr) (fun _ i _ => s.slots.length - (intOf i).toNat)
 case atStart => exact ⟨0, Nat.zero_le _, rfl, rfl, Below.refl _ _⟩
 case round =>
  obtain ⟨k, hk, rfl, rfl, hbr⟩ := hrel
  have i3 := (HI.out.later hbr).c3
  have hsz := hbr.size
  by_cases hlt : k < s.slots.length
  ·obtain ⟨b, off, cap', hv, _, hc⟩ := (HR'.out.later hbr).some' (by omega)
   cases hv
   obtain ⟨d0, d1, d2, d3, d4, d5, d6, d7⟩ := ps_cells hc k hlt
   clear hc
   have b1 : (0 : Int) ≤ (k : Int) := by omega
   have b2 : (k : Int) < (s.slots.length : Int) := by omega
   have hle := onK_le s.slots n k
   have HY : Hid (onP n s.slots[k] = true → onK s.slots n (k + 1) = onK s.slots n k + 1) := fun h => onK_yes hlt h
   have HNo : Hid (onP n s.slots[k] = false → onK s.slots n (k + 1) = onK s.slots n k) := fun h => onK_no hlt h
   generalize hxx : s.slots[k] = x at d0 d1 d2 d3 d4 d5 d6 d7
   rw [hxx] at HY HNo
   clear hxx
   generalize onK s.slots n k = r at *
   have hxI := PsIn.new wr x
   have hbA := below_alloc wr (psO x)
   go_upto_region 6 with fail
   clear d0 d1 d2 d3 d4 d5 d6 d7 i3
   generalize wr.alloc (psO x) = W3 at *
   generalize wr.heap.size = q at *
   have hB3 : Below W.heap.size W W3 := hbr.trans (hbA.mono hsz)
   have hs3 := hB3.size
   obtain ⟨x0, x1, x2, x3, x4, x5, x6, x7⟩ := hxI
   clear hbr hbA
   cases he : (x.line == n)
   ·have hne : ¬ x.line = n := by simpa using he
    have HF : Hid (onK s.slots n (k + 1) = r) := HNo.out (by unfold onP; rw [decide_eq_false hne]; rfl)
    clear hne HY HNo
    go_wp2_with fail
    go_roundw
    case rel => exact ⟨k + 1, by omega, by go_num, by rw [HF.out], hB3⟩
    case measure => simp [intOf]; omega
   ·have heq : x.line = n := by simpa using he
    have HQ : Hid (x.line = n) := heq
    clear heq
    go_wp2_with fail
    refine (runs_any x W3).mono ?_
    rintro e w4 ⟨rfl, hb4⟩
    have hB4 : Below W.heap.size W w4 := hB3.trans (hb4.mono hs3)
    clear x0 x1 x2 x3 x4 x5 x6 x7 hb4 hB3
    cases hr : decide (0 < x.step)
    ·have HF : Hid (onK s.slots n (k + 1) = r) := HNo.out (by unfold onP; rw [hr]; simp)
     clear HY HNo hr
     go_wp2_with fail
     go_roundw
     case rel => exact ⟨k + 1, by omega, by go_num, by rw [HF.out], hB4⟩
     case measure => simp [intOf]; omega
    ·have HF : Hid (onK s.slots n (k + 1) = r + 1) := HY.out (by unfold onP; rw [hr, decide_eq_true HQ.out]; rfl)
     clear HY HNo hr
     go_wp2_with fail
     go_roundw
     case rel => exact ⟨k + 1, by omega, by go_num, by rw [HF.out]; go_num, hB4⟩
     case measure => simp [intOf]; omega
  ·obtain rfl : k = s.slots.length := by omega
   have HF : Hid (onK s.slots n s.slots.length = runsOf s n) := by unfold Hid onK runsOf; rw [List.take_length]
   go_wp2_with fail
   go_ret
   exact ⟨ret_int' (by rw [HF.out]), HB.out.trans (hbr.mono HB.out.size)⟩
theorem runsOf_le (s : Px.St) (n : Int) : runsOf s n ≤ s.slots.length := List.length_filter_le _ _
set_option maxRecDepth 10000 in
set_option maxHeartbeats 2000000 in
theorem plocked_any (s : Px.St) (n : Int) (j : Nat) (sl en : Value) (w : World) (hn : n = (j : Int) + 1) (hj : j < tn s.tab) (hl : s.slots.length ≤ 10000) (hC : ChkR s.tab 0 0) (hT : TabLH w) (hS : PAt w s sl en) :
 Calls Tryz.prog 127 #[pstV s sl en, .int .i64 n] w fun e w' => e = .returned (.bool (Px.lockP s n)) ∧ Below w.heap.size w w' := by
 obtain ⟨ad, cap, rfl, hcap⟩ := hS.sl.form
 obtain ⟨ad2, cap2, rfl, hcap2⟩ := hS.en.form
 have HS : Hid (PAt w s (.slice ad s.slots.length cap) (.slice ad2 s.ends.length cap2)) := hS
 have HC : Hid (ChkR s.tab 0 0) := hC
 have HN : Hid (n = (j : Int) + 1) := hn
 have hn1 : 1 ≤ n := by omega
 have HOp : Hid ((obt (pt (tl s.tab j) 5) 0 == 120) = (Px.opt s n 0 == 120)) := by
  unfold Hid Px.opt; rw [hn, show ((j : Int) + 1 - 1).toNat = j by omega]; rfl
 have hb0 := below_alloc w (pstO s (.slice ad s.slots.length cap) (.slice ad2 s.ends.length cap2))
 have hI := PIn.new w s (.slice ad s.slots.length cap) (.slice ad2 s.ends.length cap2)
 clear hS hC hn
 go_enter Tryz.func127, Tryz.ntmps127
 go_upto_region 1 with fail
 generalize w.alloc (pstO s (.slice ad s.slots.length cap) (.slice ad2 s.ends.length cap2)) = W at *
 have HT : Hid (TabLH W) := hT.later hb0
 have HSW : Hid (PAt W s (.slice ad s.slots.length cap) (.slice ad2 s.ends.length cap2)) := HS.out.later hb0
 have HI : Hid (PIn W w.heap.size s (.slice ad s.slots.length cap) (.slice ad2 s.ends.length cap2)) := hI
 obtain ⟨i0, i1, i2, i3, i4⟩ := hI
 have HB : Hid (Below w.heap.size w W) := hb0
 have hsW := hb0.size
 clear hb0 hT HS
 go_wp2_with fail
 refine (pline_any s n j _ _ _ HN.out hj HC.out HT.out HSW.out).mono ?_
 rintro e w1 ⟨⟨v, rfl, bb, cc, ads, caps, rfl, _, _⟩, hb1⟩
 clear i0 i1 i2 i3 i4
 have g10 : (w1.alloc (lnO (tl s.tab j) bb cc ads caps)).cell? ⟨w1.heap.size, 10, none⟩ = some (.bool (obt (pt (tl s.tab j) 5) 0 == 120)) := by simp [go_sem]
 have hb2 : Below W.heap.size W (w1.alloc (lnO (tl s.tab j) bb cc ads caps)) := hb1.alloc hb1.size _
 rw [HOp.out] at g10
 go_upto_region 2 with fail
 generalize w1.alloc (lnO (tl s.tab j) bb cc ads caps) = W2 at *
 generalize w1.heap.size = q1 at *
 have HSS2 : Hid (PAt W2 s (.slice ad s.slots.length cap) (.slice ad2 s.ends.length cap2)) := HSW.out.later hb2
 have HI2 : Hid (PIn W2 w.heap.size s (.slice ad s.slots.length cap) (.slice ad2 s.ends.length cap2)) := HI.out.later hb2
 have HB2 : Hid (Below w.heap.size w W2) := HB.out.trans (hb2.mono hsW)
 clear hb1 hb2 HSW HT HB HI
 cases ho : (Px.opt s n 0 == 120)
 ·have HF : Hid (Px.lockP s n = false) := by unfold Hid Px.lockP; rw [ho]; rfl
  rw [ho] at g10
  clear ho
  go_wp2_with fail
  go_ret
  exact ⟨ret_bool' HF.out.symm, HB2.out⟩
 ·have HO : Hid (Px.lockP s n = decide (0 < runsOf s n)) := by unfold Hid Px.lockP; rw [ho, Bool.true_and]; exact runsOf_any s n
  rw [ho] at g10
  clear ho
  obtain ⟨i0, i1, i2, i3, i4⟩ := HI2.out
  go_wp2_with fail
  refine (runningOf_any s n _ _ _ hl HSS2.out).mono ?_
  rintro e w3 ⟨rfl, hb3⟩
  have hle := runsOf_le s n
  generalize runsOf s n = r at *
  have HF : Hid (Below w.heap.size w w3) := HB2.out.trans (hb3.mono HB2.out.size)
  clear hb3 g10 i0 i1 i2 i3 i4
  by_cases hr : 0 < r
  ·have z : (0 : Int) < (r : Int) := by omega
   go_wp2_with fail
   go_ret
   exact ⟨ret_bool' (by rw [HO.out, decide_eq_true hr]), HF.out⟩
  ·have z : ¬ (0 : Int) < (r : Int) := by omega
   go_wp2_with fail
   go_ret
   exact ⟨ret_bool' (by rw [HO.out, decide_eq_false hr]), HF.out⟩
end Go.Proofs.YtdajolpoiffimaaGreatDoor

namespace Go.Proofs.YtdajolpoiffimaaGreatDoor
open Go.RowKit

/-- The result's block: a state of noughts. -/
abbrev pzO : Obj := .cells #[.string { data := #[] }, .int .i64 0, .int .i64 0, .slice none 0 0, .slice none 0 0] 65
/-- Behind the head of a change: the state in its block, the result's block. -/
structure PRes (w W : World) (s : Px.St) (sl en : Value) : Prop where
 st : PIn W w.heap.size s sl en
 z : ZCell W (w.heap.size + 1) 5
 ty : Typed W (w.heap.size + 1) 65
 bel : Below w.heap.size w W
 lt : w.heap.size + 1 < W.heap.size
theorem PRes.new (w : World) (s : Px.St) (sl en : Value) : PRes w ((w.alloc (pstO s sl en)).alloc pzO) s sl en := by
 have hZ := ZCell.new (w.alloc (pstO s sl en)) #[.string { data := #[] }, .int .i64 0, .int .i64 0, .slice none 0 0, .slice none 0 0] 65
 have hT := Typed.new (w.alloc (pstO s sl en)) #[.string { data := #[] }, .int .i64 0, .int .i64 0, .slice none 0 0, .slice none 0 0] 65
 exact ⟨(PIn.new w s sl en).later (below_alloc _ _), by simpa using hZ, by simpa using hT, (below_alloc w _).alloc (by simp) _, by simp⟩
theorem PRes.later {w W W' : World} {s : Px.St} {sl en : Value} (h : PRes w W s sl en) (hb : Below W.heap.size W W') : PRes w W' s sl en :=
 ⟨h.st.later hb, h.z.later h.lt hb, h.ty.later hb, h.bel.trans (hb.mono h.bel.size), Nat.lt_of_lt_of_le h.lt hb.size⟩
theorem below_set5' {n q : Nat} {w w' : World} (h : Below n w w') (hq : n ≤ q) (u0 u1 u2 u3 u4 : Value) : Below n w (((((w'.setCell ⟨q, 0, none⟩ u0).setCell ⟨q, 1, none⟩ u1).setCell ⟨q, 2, none⟩ u2).setCell ⟨q, 3, none⟩ u3).setCell ⟨q, 4, none⟩ u4) :=
 ((((h.setCell hq _).setCell hq _).setCell hq _).setCell hq _).setCell hq _
theorem PAt.store {W : World} {q : Nat} {s : Px.St} {sl en : Value} (h : PAt W s sl en) (ty : Typed W q 65) (u0 u1 u2 u3 u4 : Value) :
 PAt (((((W.setCell ⟨q, 0, none⟩ u0).setCell ⟨q, 1, none⟩ u1).setCell ⟨q, 2, none⟩ u2).setCell ⟨q, 3, none⟩ u3).setCell ⟨q, 4, none⟩ u4) s sl en := by
 have st : ∀ (w : World) (j : Nat) (u : Value), (Typed w q 65 ∧ PAt w s sl en) → (Typed (w.setCell ⟨q, j, none⟩ u) q 65 ∧ PAt (w.setCell ⟨q, j, none⟩ u) s sl en) := fun w j u h => ⟨h.1.setCell _ _ _, h.2.set h.1 (by decide) (by decide) _ _⟩
 exact (st _ _ _ (st _ _ _ (st _ _ _ (st _ _ _ (st _ _ _ ⟨ty, h⟩))))).2
theorem PAt.nil (w : World) : PAt w Px.st0 (.slice none 0 0) (.slice none 0 0) := ⟨TRow.nil _ _, TRow.nil _ _⟩
/-- What a change answers: a state, an error. -/
def ChgR (p : Px.St × Int) (w' : World) (e : Ending) : Prop := ∃ sl en, e = .returned (.tuple #[pstV p.1 sl en, .int .i64 p.2]) ∧ PAt w' p.1 sl en
theorem ChgR.err {w' : World} {p : Px.St × Int} {k : Int} (h : p = (Px.st0, k)) : ChgR p w' (.returned (.tuple #[.agg #[.string { data := #[] }, .int .i64 0, .int .i64 0, .slice none 0 0, .slice none 0 0], .int .i64 k])) := by
 subst h; exact ⟨_, _, rfl, PAt.nil _⟩

/-- A state in a block that may be written. -/
structure PW (W : World) (q : Nat) (s : Px.St) (sl en : Value) : Prop where
 st : PIn W q s sl en
 f : ∀ j : Nat, j < 5 → W.frozen? ⟨q, j, none⟩ = false
 ty : Typed W q 65
theorem PW.new (w : World) (s : Px.St) (sl en : Value) : PW (w.alloc (pstO s sl en)) w.heap.size s sl en :=
 ⟨PIn.new w s sl en, fun j _ => by simp [go_sem], Typed.new _ _ _⟩
theorem PW.below {W W' : World} {q n : Nat} {s : Px.St} {sl en : Value} (h : PW W q s sl en) (hq : q < n) (hb : Below n W W') : PW W' q s sl en :=
 ⟨h.st.below hq hb, fun j hj => (hb.frozen (p := ⟨q, j, none⟩) hq).trans (h.f j hj), h.ty.below hq hb⟩
theorem PW.later {W W' : World} {q : Nat} {s : Px.St} {sl en : Value} (h : PW W q s sl en) (hb : Below W.heap.size W W') : PW W' q s sl en := h.below h.ty.lt hb
theorem PW.slots {W : World} {q : Nat} {s : Px.St} {sl en : Value} (h : PW W q s sl en) (l : List Px.Sl) (v : Value) : PW (W.setCell ⟨q, 3, none⟩ v) q { s with slots := l } v en := by
 obtain ⟨⟨c0, c1, c2, c3, c4⟩, f, ty⟩ := h
 refine ⟨⟨?_, ?_, ?_, ?_, ?_⟩, fun j hj => ?_, ty.setCell _ _ _⟩
 case refine_6 => simp [go_sem, f j hj]
 all_goals simp [go_sem, c0, c1, c2, c3, c4]
theorem PW.ends {W : World} {q : Nat} {s : Px.St} {sl en : Value} (h : PW W q s sl en) (l : List Bx.En) (v : Value) : PW (W.setCell ⟨q, 4, none⟩ v) q { s with ends := l } sl v := by
 obtain ⟨⟨c0, c1, c2, c3, c4⟩, f, ty⟩ := h
 refine ⟨⟨?_, ?_, ?_, ?_, ?_⟩, fun j hj => ?_, ty.setCell _ _ _⟩
 case refine_6 => simp [go_sem, f j hj]
 all_goals simp [go_sem, c0, c1, c2, c3, c4]
theorem PW.next {W : World} {q : Nat} {s : Px.St} {sl en : Value} (h : PW W q s sl en) (k : Int) : PW (W.setCell ⟨q, 2, none⟩ (.int .i64 k)) q { s with next := k } sl en := by
 obtain ⟨⟨c0, c1, c2, c3, c4⟩, f, ty⟩ := h
 refine ⟨⟨?_, ?_, ?_, ?_, ?_⟩, fun j hj => ?_, ty.setCell _ _ _⟩
 case refine_6 => simp [go_sem, f j hj]
 all_goals simp [go_sem, c0, c1, c2, c3, c4]
theorem PW.clock {W : World} {q : Nat} {s : Px.St} {sl en : Value} (h : PW W q s sl en) (k : Int) : PW (W.setCell ⟨q, 1, none⟩ (.int .i64 k)) q { s with clock := k } sl en := by
 obtain ⟨⟨c0, c1, c2, c3, c4⟩, f, ty⟩ := h
 refine ⟨⟨?_, ?_, ?_, ?_, ?_⟩, fun j hj => ?_, ty.setCell _ _ _⟩
 case refine_6 => simp [go_sem, f j hj]
 all_goals simp [go_sem, c0, c1, c2, c3, c4]
theorem PW.tab {W : World} {q : Nat} {s : Px.St} {sl en : Value} (h : PW W q s sl en) (k : ByteArray) : PW (W.setCell ⟨q, 0, none⟩ (.string k)) q { s with tab := k } sl en := by
 obtain ⟨⟨c0, c1, c2, c3, c4⟩, f, ty⟩ := h
 refine ⟨⟨?_, ?_, ?_, ?_, ?_⟩, fun j hj => ?_, ty.setCell _ _ _⟩
 case refine_6 => simp [go_sem, f j hj]
 all_goals simp [go_sem, c0, c1, c2, c3, c4]
/-- A block further on is written. -/
theorem PRes.set {w W : World} {s : Px.St} {sl en : Value} (h : PRes w W s sl en) {q : Nat} (hq : w.heap.size + 1 < q) (j : Nat) (u : Value) : PRes w (W.setCell ⟨q, j, none⟩ u) s sl en := by
 have oth : ∀ (a i : Nat), a ≤ w.heap.size + 1 → (W.setCell ⟨q, j, none⟩ u).cell? ⟨a, i, none⟩ = W.cell? ⟨a, i, none⟩ := fun a i ha => World.cell?_setCell_other _ _ _ _ (by first | (simp; done) | (simp; omega))
 obtain ⟨c0, c1, c2, c3, c4⟩ := h.st
 refine ⟨⟨?_, ?_, ?_, ?_, ?_⟩, fun i hi => ⟨?_, ?_⟩, h.ty.setCell _ _ _, h.bel.setCell (by first | (simp; done) | (simp; omega)) _, by have := h.lt; simpa [World.setCell] using this⟩
 ·rw [oth _ _ (by omega)]; exact c0
 ·rw [oth _ _ (by omega)]; exact c1
 ·rw [oth _ _ (by omega)]; exact c2
 ·rw [oth _ _ (by omega)]; exact c3
 ·rw [oth _ _ (by omega)]; exact c4
 ·obtain ⟨u', hu⟩ := (h.z i hi).1
  exact ⟨u', by rw [oth _ _ (by omega)]; exact hu⟩
 ·rw [World.frozen?_setCell]; exact (h.z i hi).2
/-- The end of a change: a state is loaded, and stored as the result. -/
structure PEnd (w W : World) (q : Nat) (t : Px.St) (sl en : Value) : Prop where
 pw : PW W q t sl en
 at' : PAt W t sl en
 z : ZCell W (w.heap.size + 1) 5
 ty : Typed W (w.heap.size + 1) 65
 bel : Below w.heap.size w W
theorem PEnd.fin {w W : World} {q : Nat} {t : Px.St} {sl en : Value} (h : PEnd w W q t sl en) (u0 u1 u2 u3 u4 : Value) :
 PAt (((((W.setCell ⟨w.heap.size + 1, 0, none⟩ u0).setCell ⟨w.heap.size + 1, 1, none⟩ u1).setCell ⟨w.heap.size + 1, 2, none⟩ u2).setCell ⟨w.heap.size + 1, 3, none⟩ u3).setCell ⟨w.heap.size + 1, 4, none⟩ u4) t sl en ∧
 Below w.heap.size w (((((W.setCell ⟨w.heap.size + 1, 0, none⟩ u0).setCell ⟨w.heap.size + 1, 1, none⟩ u1).setCell ⟨w.heap.size + 1, 2, none⟩ u2).setCell ⟨w.heap.size + 1, 3, none⟩ u3).setCell ⟨w.heap.size + 1, 4, none⟩ u4) :=
 ⟨h.at'.store h.ty _ _ _ _ _, below_set5' h.bel (by omega) _ _ _ _ _⟩

set_option maxRecDepth 10000 in
set_option maxHeartbeats 2000000 in
theorem ended_any (s : Px.St) (n : Int) (how : ByteArray) (sl en : Value) (w : World) (hl : s.slots.length ≤ 10000) (he : s.ends.length ≤ 10000) (hS : PAt w s sl en) :
 Calls Tryz.prog 123 #[pstV s sl en, .int .i64 n, .string how] w fun e w' => (∃ sl' en', e = .returned (pstV (Px.ended s n how) sl' en') ∧ PAt w' (Px.ended s n how) sl' en') ∧ Below w.heap.size w w' := by
 obtain ⟨ad, cap, rfl, hcap⟩ := hS.sl.form
 obtain ⟨ad2, cap2, rfl, hcap2⟩ := hS.en.form
 have HS : Hid (PAt w s (.slice ad s.slots.length cap) (.slice ad2 s.ends.length cap2)) := hS
 have hP := PRes.new w s (.slice ad s.slots.length cap) (.slice ad2 s.ends.length cap2)
 clear hS
 go_enter Tryz.func123, Tryz.ntmps123
 go_upto_region 1 with fail
 generalize (w.alloc (pstO s (.slice ad s.slots.length cap) (.slice ad2 s.ends.length cap2))).alloc pzO = W at *
 have HSW : PAt W s (.slice ad s.slots.length cap) (.slice ad2 s.ends.length cap2) := HS.out.later hP.bel
 obtain ⟨i0, i1, i2, i3, i4⟩ := hP.st
 have hP2 := hP.later (below_alloc W (pstO s (.slice ad s.slots.length cap) (.slice ad2 s.ends.length cap2)))
 have HS2 := HSW.later (below_alloc W (pstO s (.slice ad s.slots.length cap) (.slice ad2 s.ends.length cap2)))
 have hA := PW.new W s (.slice ad s.slots.length cap) (.slice ad2 s.ends.length cap2)
 have hWq := hP.lt
 go_upto_region 2 with fail
 clear i0 i1 i2 i3 i4 hP HSW
 generalize W.alloc (pstO s (.slice ad s.slots.length cap) (.slice ad2 s.ends.length cap2)) = W2 at *
 generalize W.heap.size = q at *
 have HP2 : Hid (PRes w W2 s (.slice ad s.slots.length cap) (.slice ad2 s.ends.length cap2)) := hP2
 have HSW2 : Hid (PAt W2 s (.slice ad s.slots.length cap) (.slice ad2 s.ends.length cap2)) := HS2
 have HA2 : Hid (PW W2 q s (.slice ad s.slots.length cap) (.slice ad2 s.ends.length cap2)) := hA
 obtain ⟨i0, i1, i2, i3, i4⟩ := hP2.st
 clear hP2 HS2 hA
 go_wp2_with fail
 refine (pwithout_any s.slots n _ _ hl HSW2.out.sl.1).mono ?_
 rintro e w3 ⟨⟨v3, rfl, hown3⟩, hb3⟩
 clear i0 i1 i2 i3 i4
 obtain ⟨ad3, cap3, hv3, _⟩ := (RowAt.of_own hown3).form
 subst hv3
 have hA3 := HA2.out.later hb3
 have a3 := hA3.st.c3
 have f3 := hA3.f 3 (by decide)
 have hq3 := hA3.ty.lt
 have HP4 := (HP2.out.later hb3).set hWq 3 (.slice ad3 (Px.skip s.slots n).length cap3)
 have HA4 := hA3.slots (Px.skip s.slots n) (.slice ad3 (Px.skip s.slots n).length cap3)
 have HS4 := (HSW2.out.later hb3).set hA3.ty (by decide) (by decide) 3 (.slice ad3 (Px.skip s.slots n).length cap3)
 have HO4 := (TRow.of_own hown3).set hA3.ty (by decide) 3 (.slice ad3 (Px.skip s.slots n).length cap3)
 clear hA3 hown3 hb3 HP2 HSW2 HA2
 go_upto_region 3 with fail
 clear a3 f3
 generalize w3.setCell ⟨q, 3, none⟩ (.slice ad3 (Px.skip s.slots n).length cap3) = W4 at *
 obtain ⟨i0, i1, i2, i3, i4⟩ := HP4.st
 have HP4' : Hid (PRes w W4 s (.slice ad s.slots.length cap) (.slice ad2 s.ends.length cap2)) := HP4
 have HA4' : Hid (PW W4 q { s with slots := Px.skip s.slots n } (.slice ad3 (Px.skip s.slots n).length cap3) (.slice ad2 s.ends.length cap2)) := HA4
 have HO4' : Hid (TRow W4 154 (.slice ad3 (Px.skip s.slots n).length cap3) (Px.skip s.slots n).length ((Px.skip s.slots n).flatMap psC)) := HO4
 have HS4' : Hid (PAt W4 s (.slice ad s.slots.length cap) (.slice ad2 s.ends.length cap2)) := HS4
 clear HP4 HA4 HO4 HS4
 go_wp2_with fail
 refine (pwithEnd_any s.ends ⟨n, how⟩ _ _ he HS4'.out.en.1).mono ?_
 rintro e w5 ⟨⟨v5, rfl, hown5⟩, hb5⟩
 clear i0 i1 i2 i3 i4
 obtain ⟨ad5, cap5, hv5, _⟩ := (RowAt.of_own hown5).form
 subst hv5
 have hA5 := HA4'.out.later hb5
 have a4 := hA5.st.c4
 have f4 := hA5.f 4 (by decide)
 have hq5 := hA5.ty.lt
 have HP6 := (HP4'.out.later hb5).set hWq 4 (.slice ad5 (Bx.push s.ends ⟨n, how⟩).length cap5)
 have HA6 : PW _ q (Px.ended s n how) _ _ := hA5.ends (Bx.push s.ends ⟨n, how⟩) (.slice ad5 (Bx.push s.ends ⟨n, how⟩).length cap5)
 have HO6 := (HO4'.out.later hb5).set hA5.ty (by decide) 4 (.slice ad5 (Bx.push s.ends ⟨n, how⟩).length cap5)
 have HE6 := (TRow.of_own hown5).set hA5.ty (by decide) 4 (.slice ad5 (Bx.push s.ends ⟨n, how⟩).length cap5)
 clear hA5 hown5 hb5 HP4' HA4' HO4' HS4'
 go_upto_region 4 with fail
 clear a4 f4
 generalize w5.setCell ⟨q, 4, none⟩ (.slice ad5 (Bx.push s.ends ⟨n, how⟩).length cap5) = W6 at *
 have HX : Hid (PEnd w W6 q (Px.ended s n how) (.slice ad3 (Px.skip s.slots n).length cap3) (.slice ad5 (Bx.push s.ends ⟨n, how⟩).length cap5)) := ⟨HA6, ⟨HO6, HE6⟩, HP6.z, HP6.ty, HP6.bel⟩
 obtain ⟨⟨⟨u0, r0⟩, f0⟩, ⟨⟨u1, r1⟩, f1⟩, ⟨⟨u2, r2⟩, f2⟩, ⟨⟨u3, r3⟩, f3⟩, ⟨⟨u4, r4⟩, f4⟩⟩ := And.intro (HP6.z 0 (by decide)) (And.intro (HP6.z 1 (by decide)) (And.intro (HP6.z 2 (by decide)) (And.intro (HP6.z 3 (by decide)) (HP6.z 4 (by decide)))))
 obtain ⟨c0, c1, c2, c3, c4⟩ := HA6.st
 clear HP6 HA6 HO6 HE6
 go_wp2_with fail
 refine bodyPost_ret (v := pstV (Px.ended s n how) (.slice ad3 (Px.skip s.slots n).length cap3) (.slice ad5 (Bx.push s.ends ⟨n, how⟩).length cap5)) (by simp [results, Tryz.results123, go_sem, r0, r1, r2, r3, r4]) rfl ?_
 exact ⟨⟨_, _, rfl, (HX.out.fin _ _ _ _ _).1⟩, (HX.out.fin _ _ _ _ _).2⟩
end Go.Proofs.YtdajolpoiffimaaGreatDoor

namespace Go.Proofs.YtdajolpoiffimaaGreatDoor
open Go.RowKit

theorem PRes.five {w W : World} {s : Px.St} {sl en : Value} (h : PRes w W s sl en) :
 ((∃ u, W.cell? ⟨w.heap.size + 1, 0, none⟩ = some u) ∧ W.frozen? ⟨w.heap.size + 1, 0, none⟩ = false) ∧ ((∃ u, W.cell? ⟨w.heap.size + 1, 1, none⟩ = some u) ∧ W.frozen? ⟨w.heap.size + 1, 1, none⟩ = false) ∧
 ((∃ u, W.cell? ⟨w.heap.size + 1, 2, none⟩ = some u) ∧ W.frozen? ⟨w.heap.size + 1, 2, none⟩ = false) ∧ ((∃ u, W.cell? ⟨w.heap.size + 1, 3, none⟩ = some u) ∧ W.frozen? ⟨w.heap.size + 1, 3, none⟩ = false) ∧
 ((∃ u, W.cell? ⟨w.heap.size + 1, 4, none⟩ = some u) ∧ W.frozen? ⟨w.heap.size + 1, 4, none⟩ = false) := ⟨h.z 0 (by decide), h.z 1 (by decide), h.z 2 (by decide), h.z 3 (by decide), h.z 4 (by decide)⟩
/-- What a change answers that may be. -/
theorem ChgR.ok {w' : World} {p : Px.St × Int} {t : Px.St} {sl en : Value} (h : p = (t, 0)) (ha : PAt w' t sl en) : ChgR p w' (.returned (.tuple #[pstV t sl en, .int .i64 0])) := by
 subst h; exact ⟨_, _, rfl, ha⟩

set_option maxRecDepth 10000 in
set_option maxHeartbeats 2000000 in
theorem withDone_any (s : Px.St) (n : Int) (sl en : Value) (w : World) (hl : s.slots.length ≤ 10000) (he : s.ends.length ≤ 10000) (hS : PAt w s sl en) :
 Calls Tryz.prog 129 #[pstV s sl en, .int .i64 n] w fun e w' => ChgR (Px.doneP s n) w' e ∧ Below w.heap.size w w' := by
 obtain ⟨ad, cap, rfl, hcap⟩ := hS.sl.form
 obtain ⟨ad2, cap2, rfl, hcap2⟩ := hS.en.form
 have HS : Hid (PAt w s (.slice ad s.slots.length cap) (.slice ad2 s.ends.length cap2)) := hS
 have hP := PRes.new w s (.slice ad s.slots.length cap) (.slice ad2 s.ends.length cap2)
 clear hS
 go_enter Tryz.func129, Tryz.ntmps129
 go_upto_region 1 with fail
 generalize (w.alloc (pstO s (.slice ad s.slots.length cap) (.slice ad2 s.ends.length cap2))).alloc pzO = W at *
 have HSW : Hid (PAt W s (.slice ad s.slots.length cap) (.slice ad2 s.ends.length cap2)) := HS.out.later hP.bel
 have HP : Hid (PRes w W s (.slice ad s.slots.length cap) (.slice ad2 s.ends.length cap2)) := hP
 obtain ⟨i0, i1, i2, i3, i4⟩ := hP.st
 clear hP
 go_wp2_with fail
 refine (pfind_any s n _ _ _ hl HSW.out).mono ?_
 rintro e w1 ⟨hF, hb1⟩
 clear i0 i1 i2 i3 i4
 have HP1 := HP.out.later hb1
 have HS1 := HSW.out.later hb1
 clear HP HSW hb1
 rcases hF with ⟨x, hf, rfl⟩ | ⟨hf, rfl⟩
 rotate_left
 ·have HM : Hid (Px.doneP s n = (Px.st0, 8)) := by unfold Hid Px.doneP; rw [hf]
  clear hf
  generalize Px.sl0 = x at *
  have HPW2 := HP1.later (below_alloc w1 (psO x))
  clear HP1 HS1
  go_upto_region 2 with fail
  generalize w1.alloc (psO x) = W2 at *
  obtain ⟨⟨⟨u0, r0⟩, f0⟩, ⟨⟨u1, r1⟩, f1⟩, ⟨⟨u2, r2⟩, f2⟩, ⟨⟨u3, r3⟩, f3⟩, ⟨⟨u4, r4⟩, f4⟩⟩ := HPW2.five
  have HB2 : Hid (Below w.heap.size w W2) := HPW2.bel
  clear HPW2
  go_wp2_with fail
  refine bodyPost_ret (v := .tuple #[.agg #[.string { data := #[] }, .int .i64 0, .int .i64 0, .slice none 0 0, .slice none 0 0], .int .i64 8]) (by simp [results, Tryz.results129, go_sem, r0, r1, r2, r3, r4]) rfl ⟨ChgR.err HM.out, below_set5' HB2.out (by omega) _ _ _ _ _⟩
 have HFx : Hid (Px.find s.slots n = some x) := hf
 have HP2 := HP1.later (below_alloc w1 (psO x))
 have HS2 := HS1.later (below_alloc w1 (psO x))
 have hx2 := PsIn.new w1 x
 have hq1 : w1.heap.size < (w1.alloc (psO x)).heap.size := by simp
 have hq0 : w.heap.size + 1 < w1.heap.size := HP1.lt
 clear HP1 HS1 hf
 go_upto_region 2 with fail
 generalize w1.alloc (psO x) = W2 at *
 generalize w1.heap.size = xq at *
 have HPP2 : Hid (PRes w W2 s (.slice ad s.slots.length cap) (.slice ad2 s.ends.length cap2)) := HP2
 have HSS2 : Hid (PAt W2 s (.slice ad s.slots.length cap) (.slice ad2 s.ends.length cap2)) := HS2
 have HX2 : Hid (PsIn W2 xq x) := hx2
 obtain ⟨x0, x1, x2, x3, x4, x5, x6, x7⟩ := hx2
 clear HP2 HS2
 go_wp2_with fail
 refine (runs_any x W2).mono ?_
 rintro e w3 ⟨rfl, hb3⟩
 clear x0 x1 x2 x3 x4 x5 x6 x7
 have HPw3 := HPP2.out.later hb3
 have HSw3 : Hid (PAt w3 s (.slice ad s.slots.length cap) (.slice ad2 s.ends.length cap2)) := HSS2.out.later hb3
 clear HPP2 HSS2 hb3
 cases hr : decide (0 < x.step)
 ·have HM : Hid (Px.doneP s n = (Px.st0, 9)) := by unfold Hid Px.doneP; rw [HFx.out]; simp only; rw [if_pos (by have := of_decide_eq_false hr; omega)]
  clear hr
  obtain ⟨⟨⟨u0, r0⟩, f0⟩, ⟨⟨u1, r1⟩, f1⟩, ⟨⟨u2, r2⟩, f2⟩, ⟨⟨u3, r3⟩, f3⟩, ⟨⟨u4, r4⟩, f4⟩⟩ := HPw3.five
  have HB2 : Hid (Below w.heap.size w w3) := HPw3.bel
  clear HPw3
  go_wp2_with fail
  refine bodyPost_ret (v := .tuple #[.agg #[.string { data := #[] }, .int .i64 0, .int .i64 0, .slice none 0 0, .slice none 0 0], .int .i64 9]) (by simp [results, Tryz.results129, go_sem, r0, r1, r2, r3, r4]) rfl ⟨ChgR.err HM.out, below_set5' HB2.out (by omega) _ _ _ _ _⟩
 ·have HM : Hid (Px.doneP s n = (Px.ended s n ⟨#[100]⟩, 0)) := by unfold Hid Px.doneP; rw [HFx.out]; simp only; rw [if_neg (by have := of_decide_eq_true hr; omega), hD_eq]
  clear hr
  obtain ⟨i0, i1, i2, i3, i4⟩ := HPw3.st
  have HPP3 : Hid (PRes w w3 s (.slice ad s.slots.length cap) (.slice ad2 s.ends.length cap2)) := HPw3
  clear HPw3
  go_wp2_with fail
  refine (ended_any s n ⟨#[100]⟩ _ _ _ hl he HSw3.out).mono ?_
  rintro e w4 ⟨⟨sl4, en4, rfl, hst4⟩, hb4⟩
  clear i0 i1 i2 i3 i4
  have HPw4 := HPP3.out.later hb4
  obtain ⟨ad4, cap4, hv4, _⟩ := hst4.sl.form
  obtain ⟨ad5, cap5, hv5, _⟩ := hst4.en.form
  subst hv4 hv5
  have H4 : Hid (PAt w4 (Px.ended s n ⟨#[100]⟩) (.slice ad4 (Px.ended s n ⟨#[100]⟩).slots.length cap4) (.slice ad5 (Px.ended s n ⟨#[100]⟩).ends.length cap5)) := hst4
  have HT4 : Hid (Typed w4 (w.heap.size + 1) 65) := HPw4.ty
  have HB4 : Hid (Below w.heap.size w w4) := HPw4.bel
  obtain ⟨⟨⟨u0, r0⟩, f0⟩, ⟨⟨u1, r1⟩, f1⟩, ⟨⟨u2, r2⟩, f2⟩, ⟨⟨u3, r3⟩, f3⟩, ⟨⟨u4, r4⟩, f4⟩⟩ := HPw4.five
  clear hst4 hb4 HPw4 HPP3 HSw3
  go_wp2_with fail
  refine bodyPost_ret (v := .tuple #[pstV (Px.ended s n ⟨#[100]⟩) (.slice ad4 (Px.ended s n ⟨#[100]⟩).slots.length cap4) (.slice ad5 (Px.ended s n ⟨#[100]⟩).ends.length cap5), .int .i64 0]) (by simp [results, Tryz.results129, go_sem, r0, r1, r2, r3, r4]) rfl ⟨ChgR.ok HM.out (H4.out.store HT4.out _ _ _ _ _), below_set5' HB4.out (by omega) _ _ _ _ _⟩

/-- Tab, whatever the text. -/
def tabC (s : Px.St) (tab : ByteArray) (r : Int) : Px.St × Int := if r = 0 then Px.tabP s tab else (Px.st0, r)
set_option maxRecDepth 10000 in
set_option maxHeartbeats 2000000 in
theorem withTab_any (s : Px.St) (tab : ByteArray) (sl en : Value) (w : World) (hs : tab.size ≤ maxLen) (hT : TabLH w) (_hl : s.slots.length ≤ 10000) (hS : PAt w s sl en) :
 Calls Tryz.prog 68 #[pstV s sl en, .string tab] w fun e w' => (∃ a r : Int, ChkR tab a r ∧ ChgR (tabC s tab r) w' e) ∧ Below w.heap.size w w' := by
 obtain ⟨ad, cap, rfl, hcap⟩ := hS.sl.form
 obtain ⟨ad2, cap2, rfl, hcap2⟩ := hS.en.form
 have HS : Hid (PAt w s (.slice ad s.slots.length cap) (.slice ad2 s.ends.length cap2)) := hS
 have HSz : Hid (tab.size ≤ maxLen) := hs
 have hP := PRes.new w s (.slice ad s.slots.length cap) (.slice ad2 s.ends.length cap2)
 clear hS hs
 go_enter Tryz.func68, Tryz.ntmps68
 go_upto_region 1 with fail
 generalize (w.alloc (pstO s (.slice ad s.slots.length cap) (.slice ad2 s.ends.length cap2))).alloc pzO = W at *
 have HSW : Hid (PAt W s (.slice ad s.slots.length cap) (.slice ad2 s.ends.length cap2)) := HS.out.later hP.bel
 have HT : Hid (TabLH W) := hT.later hP.bel
 have HP : Hid (PRes w W s (.slice ad s.slots.length cap) (.slice ad2 s.ends.length cap2)) := hP
 clear hP hT
 go_wp2_with fail
 refine (read_any _ _ HSz.out HT.out).mono ?_
 rintro e w1 ⟨⟨a, r, adr, n', c, rfl, hK, _⟩, hb1⟩
 have HK : Hid (ChkR tab a r) := hK
 have hbd := hK.bd
 have g2 : (w1.alloc (.cells #[.slice adr n' c, .int .i64 a, .int .i64 r] 175)).cell? ⟨w1.heap.size, 2, none⟩ = some (.int .i64 r) := by simp [go_sem]
 have HP2 := (HP.out.later hb1).later (below_alloc w1 (.cells #[.slice adr n' c, .int .i64 a, .int .i64 r] 175))
 have HS2 := (HSW.out.later hb1).later (below_alloc w1 (.cells #[.slice adr n' c, .int .i64 a, .int .i64 r] 175))
 have hrq : w.heap.size + 1 < w1.heap.size := (HP.out.later hb1).lt
 clear hK HP HSW HT hb1
 go_upto_region 2 with fail
 generalize w1.alloc (.cells #[.slice adr n' c, .int .i64 a, .int .i64 r] 175) = W2 at *
 generalize w1.heap.size = rq at *
 have hrl : rq < W2.heap.size := World.block_lt_of_cell? _ _ g2
 by_cases hr : r = 0
 rotate_left
 ·have hr' : (r != 0) = true := by simpa using hr
  have HM : Hid (tabC s tab r = (Px.st0, r)) := if_neg hr
  obtain ⟨⟨⟨u0, r0⟩, f0⟩, ⟨⟨u1, r1⟩, f1⟩, ⟨⟨u2, r2⟩, f2⟩, ⟨⟨u3, r3⟩, f3⟩, ⟨⟨u4, r4⟩, f4⟩⟩ := HP2.five
  have HB2 : Hid (Below w.heap.size w W2) := HP2.bel
  clear HP2 HS2 hr
  go_wp2_with fail
  go_region
  go_wp2_with fail
  refine bodyPost_ret (v := .tuple #[.agg #[.string { data := #[] }, .int .i64 0, .int .i64 0, .slice none 0 0, .slice none 0 0], .int .i64 r]) (by simp [results, Tryz.results68, go_sem, r0, r1, r2, r3, r4]) rfl ⟨⟨a, r, HK.out, ChgR.err HM.out⟩, ?_⟩
  first | exact (below_set5' HB2.out (by omega) _ _ _ _ _).drew | exact below_set5' HB2.out.drew (by omega) _ _ _ _ _
 subst hr
 have HP : Hid (PRes w W2 s (.slice ad s.slots.length cap) (.slice ad2 s.ends.length cap2)) := HP2
 have HSW : Hid (PAt W2 s (.slice ad s.slots.length cap) (.slice ad2 s.ends.length cap2)) := HS2
 obtain ⟨i0, i1, i2, i3, i4⟩ := HP2.st
 clear HP2 HS2 hbd
 by_cases h0 : 0 < s.slots.length
 ·have HM : Hid (tabC s tab 0 = (Px.st0, 5)) := by unfold Hid tabC; rw [if_pos rfl]; exact if_pos h0
  have HPW := HP.out
  clear HP HSW
  obtain ⟨⟨⟨u0, r0⟩, f0⟩, ⟨⟨u1, r1⟩, f1⟩, ⟨⟨u2, r2⟩, f2⟩, ⟨⟨u3, r3⟩, f3⟩, ⟨⟨u4, r4⟩, f4⟩⟩ := HPW.five
  have HB2 : Hid (Below w.heap.size w W2) := HPW.bel
  clear HPW
  go_wp2_with fail
  refine bodyPost_ret (v := .tuple #[.agg #[.string { data := #[] }, .int .i64 0, .int .i64 0, .slice none 0 0, .slice none 0 0], .int .i64 5]) (by simp [results, Tryz.results68, go_sem, r0, r1, r2, r3, r4]) rfl ⟨⟨a, 0, HK.out, ChgR.err HM.out⟩, below_set5' HB2.out (by omega) _ _ _ _ _⟩
 ·have HM : Hid (tabC s tab 0 = ({ s with tab := tab }, 0)) := by unfold Hid tabC; rw [if_pos rfl]; exact if_neg h0
  have hP2 := HP.out.later (below_alloc W2 (pstO s (.slice ad s.slots.length cap) (.slice ad2 s.ends.length cap2)))
  have HS2 := HSW.out.later (below_alloc W2 (pstO s (.slice ad s.slots.length cap) (.slice ad2 s.ends.length cap2)))
  have hA := PW.new W2 s (.slice ad s.slots.length cap) (.slice ad2 s.ends.length cap2)
  have hWq := HP.out.lt
  go_upto_region 7 with fail
  clear i0 i1 i2 i3 i4 HP HSW g2
  generalize W2.alloc (pstO s (.slice ad s.slots.length cap) (.slice ad2 s.ends.length cap2)) = W3 at *
  generalize W2.heap.size = q at *
  have a0 := hA.st.c0
  have f0' := hA.f 0 (by decide)
  have hq2 := hA.ty.lt
  have HP3 := hP2.set hWq 0 (.string tab)
  have HA3 := hA.tab tab
  have HS3 := HS2.set hA.ty (by decide) (by decide) 0 (.string tab)
  clear hP2 HS2 hA
  go_upto_region 8 with fail
  clear a0 f0'
  generalize W3.setCell ⟨q, 0, none⟩ (.string tab) = W4 at *
  have HX : Hid (PEnd w W4 q { s with tab := tab } (.slice ad s.slots.length cap) (.slice ad2 s.ends.length cap2)) := ⟨HA3, ⟨HS3.sl, HS3.en⟩, HP3.z, HP3.ty, HP3.bel⟩
  obtain ⟨⟨⟨u0, r0⟩, f0⟩, ⟨⟨u1, r1⟩, f1⟩, ⟨⟨u2, r2⟩, f2⟩, ⟨⟨u3, r3⟩, f3⟩, ⟨⟨u4, r4⟩, f4⟩⟩ := HP3.five
  obtain ⟨c0, c1, c2, c3, c4⟩ := HA3.st
  clear HP3 HA3 HS3
  go_wp2_with fail
  refine bodyPost_ret (v := .tuple #[pstV { s with tab := tab } (.slice ad s.slots.length cap) (.slice ad2 s.ends.length cap2), .int .i64 0]) (by simp [results, Tryz.results68, go_sem, r0, r1, r2, r3, r4]) rfl ⟨⟨a, 0, HK.out, ChgR.ok HM.out (HX.out.fin _ _ _ _ _).1⟩, (HX.out.fin _ _ _ _ _).2⟩
end Go.Proofs.YtdajolpoiffimaaGreatDoor

namespace Go.Proofs.YtdajolpoiffimaaGreatDoor
open Go.RowKit

abbrev pbO (b : Px.Bo) (sl en : Value) : Obj := .cells #[.int .i64 b.limit, .int .i64 b.room, .string b.st.tab, .int .i64 b.st.clock, .int .i64 b.st.next, sl, en, .string b.log] 67
/-- A box lies in a block. -/
structure PB (w : World) (B : Nat) (b : Px.Bo) (sl en : Value) : Prop where
 c0 : w.cell? ⟨B, 0, none⟩ = some (.int .i64 b.limit)
 c1 : w.cell? ⟨B, 1, none⟩ = some (.int .i64 b.room)
 c2 : w.cell? ⟨B, 2, none⟩ = some (.string b.st.tab)
 c3 : w.cell? ⟨B, 3, none⟩ = some (.int .i64 b.st.clock)
 c4 : w.cell? ⟨B, 4, none⟩ = some (.int .i64 b.st.next)
 c5 : w.cell? ⟨B, 5, none⟩ = some sl
 c6 : w.cell? ⟨B, 6, none⟩ = some en
 c7 : w.cell? ⟨B, 7, none⟩ = some (.string b.log)
 f : ∀ j : Nat, j < 8 → w.frozen? ⟨B, j, none⟩ = false
 ty : Typed w B 67
 rows : PAt w b.st sl en
theorem PB.later {w w' : World} {B : Nat} {b : Px.Bo} {sl en : Value} (h : PB w B b sl en) (hb : Below w.heap.size w w') : PB w' B b sl en :=
 ⟨cell_later hb h.c0, cell_later hb h.c1, cell_later hb h.c2, cell_later hb h.c3, cell_later hb h.c4, cell_later hb h.c5, cell_later hb h.c6, cell_later hb h.c7,
  fun j hj => (hb.frozen (p := ⟨B, j, none⟩) h.ty.lt).trans (h.f j hj), h.ty.later hb, h.rows.later hb⟩
theorem PB.new (w : World) (l r : Int) : PB (w.alloc (pbO ⟨l, r, Px.first, ByteArray.empty⟩ (.slice none 0 0) (.slice none 0 0))) w.heap.size ⟨l, r, Px.first, ByteArray.empty⟩ (.slice none 0 0) (.slice none 0 0) := by
 refine ⟨?_, ?_, ?_, ?_, ?_, ?_, ?_, ?_, fun j _ => ?_, Typed.new _ _ _, ⟨TRow.nil _ _, TRow.nil _ _⟩⟩
 all_goals simp [go_sem]
set_option maxHeartbeats 1000000 in
theorem pfirst_any (w : World) : Calls Tryz.prog 66 #[] w fun e w' => e = .returned (pstV Px.first (.slice none 0 0) (.slice none 0 0)) ∧ Below w.heap.size w w' := by
 go_enter Tryz.func66, Tryz.ntmps66
 go_wp2_with fail
 refine bodyPost_ret (v := pstV Px.first (.slice none 0 0) (.slice none 0 0)) (by simp [results, Tryz.results66, go_sem, Px.first]; rfl) rfl ⟨rfl, below_alloc _ _⟩
set_option maxHeartbeats 1000000 in
theorem pnew_no (l r : Int) (w : World) (h : mayB l r = false) : Calls Tryz.prog 28 #[.int .i64 l, .int .i64 r] w fun e w' => e = .returned (.tuple #[.pointer none, .int .i64 4]) ∧ w' = w := by
 have h' : ¬ (1 ≤ l ∧ l ≤ 4 ∧ 600 ≤ r ∧ r ≤ 4000) := of_decide_eq_false h
 by_cases h1 : l < 1
 ·go_enter Tryz.func28, Tryz.ntmps28
  go_wp2_with fail
  go_ret2
  exact ⟨rfl, rfl⟩
 by_cases h2 : 4 < l
 ·go_enter Tryz.func28, Tryz.ntmps28
  go_wp2_with fail
  go_ret2
  exact ⟨rfl, rfl⟩
 by_cases h3 : r < 600
 ·go_enter Tryz.func28, Tryz.ntmps28
  go_wp2_with fail
  go_ret2
  exact ⟨rfl, rfl⟩
 have h4 : 4000 < r := by omega
 go_enter Tryz.func28, Tryz.ntmps28
 go_wp2_with fail
 go_ret2
 exact ⟨rfl, rfl⟩
set_option maxHeartbeats 1000000 in
theorem pnew_yes (l r : Int) (w : World) (h : mayB l r = true) : Calls Tryz.prog 28 #[.int .i64 l, .int .i64 r] w fun e w' => (∃ B, e = .returned (.tuple #[.pointer (some ⟨B, 0, none⟩), .int .i64 0]) ∧ w.heap.size ≤ B ∧ PB w' B ⟨l, r, Px.first, ByteArray.empty⟩ (.slice none 0 0) (.slice none 0 0)) ∧ Below w.heap.size w w' := by
 obtain ⟨h1, h2, h3, h4⟩ : 1 ≤ l ∧ l ≤ 4 ∧ 600 ≤ r ∧ r ≤ 4000 := of_decide_eq_true h
 clear h
 go_enter Tryz.func28, Tryz.ntmps28
 go_wp2_with fail
 refine (pfirst_any w).mono ?_
 rintro e w1 ⟨rfl, hb1⟩
 have hB : Hid (PB (w1.alloc (pbO ⟨l, r, Px.first, ByteArray.empty⟩ (.slice none 0 0) (.slice none 0 0))) w1.heap.size ⟨l, r, Px.first, ByteArray.empty⟩ (.slice none 0 0) (.slice none 0 0)) := PB.new w1 l r
 have hBl : Hid (∀ o, Below w.heap.size w (w1.alloc o)) := fun o => hb1.alloc hb1.size o
 have hsz : w.heap.size ≤ w1.heap.size := hb1.size
 clear hb1
 go_wp2_with fail
 go_ret2
 exact ⟨⟨w1.heap.size, rfl, hsz, hB.out⟩, hBl.out _⟩

end Go.Proofs.YtdajolpoiffimaaGreatDoor
