/-
  The walk over the program's readLine, whole.
-/
import Derived.Test.YtmbginojgenbeaaDoorTabRdLine
namespace Go.Proofs.YtmbginojgenbeaaDoor
open Go.RowKit
attribute [local go_sem ↓] Go.wp_at_zero Go.wp_at_succ

theorem below_line {B : Nat} {a w : World} {R : Nat} (h : Below B a w) (hR : B ≤ R) {v0 v1 v2 v3 v4 v5 v6 v7 v8 v9 : Value} : Below B a ((((((((((w.setCell ⟨R, 0, none⟩ v0).setCell ⟨R, 1, none⟩ v1).setCell ⟨R, 2, none⟩ v2).setCell ⟨R, 3, none⟩ v3).setCell ⟨R, 4, none⟩ v4).setCell ⟨R, 5, none⟩ v5).setCell ⟨R, 6, none⟩ v6).setCell ⟨R, 7, none⟩ v7).setCell ⟨R, 8, none⟩ v8).setCell ⟨R, 9, none⟩ v9) :=
  ((((((((((h.setCell hR _).setCell hR _).setCell hR _).setCell hR _).setCell hR _).setCell hR _).setCell hR _).setCell hR _).setCell hR _).setCell hR _)

theorem far_line {w : World} {R x o : Nat} {u v0 v1 v2 v3 v4 v5 v6 v7 v8 v9 : Value} (hne : R < x) (h : w.cell? ⟨x, o, none⟩ = some u) : ((((((((((w.setCell ⟨R, 0, none⟩ v0).setCell ⟨R, 1, none⟩ v1).setCell ⟨R, 2, none⟩ v2).setCell ⟨R, 3, none⟩ v3).setCell ⟨R, 4, none⟩ v4).setCell ⟨R, 5, none⟩ v5).setCell ⟨R, 6, none⟩ v6).setCell ⟨R, 7, none⟩ v7).setCell ⟨R, 8, none⟩ v8).setCell ⟨R, 9, none⟩ v9).cell? ⟨x, o, none⟩ = some u := by
  have hx : ∀ j : Nat, (⟨R, j, none⟩ : Addr) ≠ ⟨x, o, none⟩ := fun j e => by cases e; omega
  rw [World.cell?_setCell_other _ _ _ _ (hx _), World.cell?_setCell_other _ _ _ _ (hx _), World.cell?_setCell_other _ _ _ _ (hx _), World.cell?_setCell_other _ _ _ _ (hx _), World.cell?_setCell_other _ _ _ _ (hx _), World.cell?_setCell_other _ _ _ _ (hx _), World.cell?_setCell_other _ _ _ _ (hx _), World.cell?_setCell_other _ _ _ _ (hx _), World.cell?_setCell_other _ _ _ _ (hx _), World.cell?_setCell_other _ _ _ _ (hx _)]
  exact h

/-- A line that is none, as a value; a line, as a value. -/
abbrev zeroLine : Value := .agg #[.bool false, .slice none 0 0, .bool false, .slice none 0 0, .bool false, .slice none 0 0, .bool false, .slice none 0 0, .bool false, .slice none 0 0]
abbrev lineV (s : ByteArray) (bb cc : Nat → Nat) : Value := .agg #[.bool (Txt.opn (pt s 0)), .slice (some ⟨bb 0, 0, none⟩) (Txt.pcs 44 (pt s 0)).length (cc 0), .bool (Txt.opn (pt s 1)), .slice (some ⟨bb 1, 0, none⟩) (Txt.pcs 44 (pt s 1)).length (cc 1), .bool (Txt.opn (pt s 2)), .slice (some ⟨bb 2, 0, none⟩) (Txt.pcs 44 (pt s 2)).length (cc 2), .bool (Txt.opn (pt s 3)), .slice (some ⟨bb 3, 0, none⟩) (Txt.pcs 44 (pt s 3)).length (cc 3), .bool (Txt.opn (pt s 4)), .slice (some ⟨bb 4, 0, none⟩) (Txt.pcs 44 (pt s 4)).length (cc 4)]
/-- What readLine answers. -/
def LineR (s : ByteArray) (h : Nat) (w' : World) (e : Ending) : Prop :=
  (lineB s = true ∧ ∃ bb cc : Nat → Nat, e = .returned (.tuple #[lineV s bb cc, .bool true]) ∧ ∀ j : Nat, j < 5 → h ≤ bb j ∧ (Txt.pcs 44 (pt s j)).length ≤ cc j ∧ PartsAt w' (bb j) (lo j) (hi j) (Txt.pcs 44 (pt s j))) ∨
  (lineB s = false ∧ e = .returned (.tuple #[zeroLine, .bool false]))

set_option maxHeartbeats 3000000 in
theorem readLine_any (s : ByteArray) (w : World) (hs : s.size ≤ 300) (hT : TabLH w) :
    Calls Tryd.prog 45 #[.string s] w fun e w' => LineR s w.heap.size w' e ∧ Below w.heap.size w w' := by
  have h2w : 2 < w.heap.size := by
    have a := World.block_lt_of_cell? _ _ (hT 0 (by decide)).1
    have b := World.block_lt_of_cell? _ _ (hT 0 (by decide)).2
    simp at a b; omega
  have HT0 : Hid (∀ o, TabLH (w.alloc o)) := fun o => hT.later (below_alloc _ _)
  clear hT
  go_enter Tryd.func45, Tryd.ntmps45
  go_wp2_with fail
  refine (split_any _ _ _ hs).mono ?_
  rintro e w1 ⟨⟨b, cap, rfl, hge, hcap, hS⟩, hb⟩
  have hlen := Txt.pcs_len 32 s
  have HT1 : Hid (∀ o, TabLH (w1.alloc o)) := fun o => ((HT0.out _).later hb).later (below_alloc _ _)
  clear HT0
  have B1 : Hid (Below w.heap.size w w1) := (below_alloc w _).trans (hb.mono (by simp))
  have hgb : w.heap.size < b := by simp at hge; omega
  have hbl : b < w1.heap.size := World.block_lt_of_cell? _ _ (hS 0 (Txt.pcs_ne _ _))
  have hzz : w.heap.size < w1.heap.size := by omega
  by_cases n7 : (Txt.pcs 32 s).length ≤ 6
  · have KK : Hid (lineB s = false) := lineB_no (fun h => by have := h.n7; omega)
    obtain ⟨hc, hf⟩ := bcell hb
    clear hb hS
    go_wp2_with fail
    exact bodyPost_ret (v := .tuple #[zeroLine, .bool false]) (by simp [results, Tryd.results45, go_sem, hc]) rfl ⟨Or.inr ⟨KK.out, rfl⟩, below_line B1.out (Nat.le_refl _)⟩
  by_cases n11 : 11 < (Txt.pcs 32 s).length
  · have KK : Hid (lineB s = false) := lineB_no (fun h => by have := h.n11; omega)
    obtain ⟨hc, hf⟩ := bcell hb
    clear hb hS
    go_wp2_with fail
    exact bodyPost_ret (v := .tuple #[zeroLine, .bool false]) (by simp [results, Tryd.results45, go_sem, hc]) rfl ⟨Or.inr ⟨KK.out, rfl⟩, below_line B1.out (Nat.le_refl _)⟩
  have H0 : LInv w (w1.alloc (.cells #[.bool false, .slice none 0 0, .bool false, .slice none 0 0, .bool false, .slice none 0 0, .bool false, .slice none 0 0, .bool false, .slice none 0 0] 65)) b w1.heap.size s 0 (fun _ => 0) (fun _ => 0) := by
    refine ⟨hS.later (below_alloc _ _), HT1.out _, ?_, fun j h => by omega, ?_, ?_, fun j h => by omega, B1.out.alloc (Nat.le_of_lt hzz) _, hgb, hbl, by simp, h2w⟩
    · intro j hj
      have hj' : j = 0 ∨ j = 1 ∨ j = 2 ∨ j = 3 ∨ j = 4 ∨ j = 5 ∨ j = 6 ∨ j = 7 ∨ j = 8 ∨ j = 9 := by omega
      refine ⟨cell_later (below_alloc _ _) (cell_later hb ?_), ?_⟩
      · rcases hj' with rfl | rfl | rfl | rfl | rfl | rfl | rfl | rfl | rfl | rfl <;> simp [go_sem, zc]
      · rw [(below_alloc w1 _).frozen (p := ⟨w.heap.size, j, none⟩) (by simpa using hzz), hb.frozen (p := ⟨w.heap.size, j, none⟩) (by simp)]
        simp [go_sem]
    · intro j _ hj
      have hj' : j = 0 ∨ j = 1 ∨ j = 2 ∨ j = 3 ∨ j = 4 := by omega
      rcases hj' with rfl | rfl | rfl | rfl | rfl <;> simp [go_sem]
    · intro j hj
      simp [go_sem]
  clear hb hS HT1 B1
  go_wp2_with fail
  go_loopw [6] (fun x wr => ∃ (k : Nat) (bb cc : Nat → Nat), k ≤ 5 ∧ x = .int .i64 k ∧ (∀ (j : Nat), j < k → Txt.fldB (lo j) (hi j) (pt s j) = true) ∧ LInv w wr b w1.heap.size s k bb cc) (fun x _ => 5 - (intOf x).toNat)
  case atStart => exact ⟨0, _, _, by omega, rfl, fun j h => by omega, H0⟩
  case round =>
    clear H0
    obtain ⟨k, bb, cc, hk, rfl, hall, HI⟩ := hrel
    have HA : Hid (∀ (j : Nat), j < k → Txt.fldB (lo j) (hi j) (pt s j) = true) := hall
    clear hall
    by_cases hlt : k < 5
    · have hkl : k < (Txt.pcs 32 s).length := by omega
      have hcell : wr.cell? ⟨b, k, none⟩ = some (.string (pt s k)) := by rw [← pt_eq hkl]; exact HI.strs k hkl
      have zk : Hid ((pt s k).size ≤ 300) := by rw [← pt_eq hkl]; exact Txt.pcs_sz hs k hkl
      obtain ⟨c1, c2⟩ := HI.tabs k hlt
      have lh := lohi k
      have b0 : (0 : Int) ≤ (k : Int) := by omega
      have b1 : (k : Int) < 5 := by omega
      have b2 : (k : Int) < ((Txt.pcs 32 s).length : Int) := by omega
      have e1 := World.new_ne wr _ hcell
      have e2 := World.new_ne wr _ c1
      have e3 := World.new_ne wr _ c2
      have z1 : b < wr.heap.size := World.block_lt_of_cell? _ _ hcell
      have z2 : 1 < wr.heap.size := World.block_lt_of_cell? _ _ c1
      have z3 : 2 < wr.heap.size := World.block_lt_of_cell? _ _ c2
      go_wp2_with fail
      go_region_held3 (fun w' => w'.cell? ⟨b, k, none⟩ = some (.string (pt s k)) ∧ w'.cell? ⟨1, k, none⟩ = some (.int .i64 (lo k)) ∧ w'.cell? ⟨2, k, none⟩ = some (.int .i64 (hi k))) (first | go_keep | (refine ⟨?_, ?_, ?_⟩ <;> first | exact cell_later hb2 (by simp [*]) | exact cell_later (below_alloc _ _) (cell_later hb2 (by simp [*])))) ((go_at_call 52; refine (readField_flat _ _ _ _ zk.out (by omega) (by omega) (by omega) (by omega)).mono ?_; rintro e w2 ⟨o, ad, n, c, ok, rfl, hR, hb2⟩; obtain ⟨hc2, hf2⟩ := bcell hb2))
      · have F : Flat (lo k) (hi k) (pt s k) wr (w2.alloc (.cells #[.bool o, .slice ad n c] 62)) w2.heap.size o ad n c ok := flat1 hR.out hb2 _
        clear hR hb2
        generalize w2.alloc (.cells #[.bool o, .slice ad n c] 62) = W3 at *
        generalize w2.heap.size = q at *
        obtain ⟨HB, g0, g1, hF⟩ := F
        have HI3 := HI.below HB
        have z4 : w.heap.size < W3.heap.size := by have := HI3.hR; have := HI3.hb; have := HI3.hL; omega
        have hLr := HI.hL
        clear HI hcell c1 c2 e1 e2 e3 z1 z2 z3 HB
        rcases hF with ⟨kk, rfl, rfl, b', rfl, rfl, hge', hcc, hP⟩ | ⟨kk, rfl, rfl, rfl, rfl, rfl⟩
        · have KK : Hid (Txt.fldB (lo k) (hi k) (pt s k) = true) := kk
          have HI4 : Hid _ := HI3.store hlt (by omega) hcc hP
          obtain ⟨y0, y1⟩ := HI3.ln2 k (Nat.le_refl _) hlt
          have y2 := HI3.lnf (k * 2) (by omega)
          have y3 := HI3.lnf (k * 2 + 1) (by omega)
          clear kk HI3 hP
          go_wp2_with fail
          go_roundw
          case rel =>
            refine ⟨k + 1, _, _, by omega, by go_num, fun j h => ?_, HI4.out⟩
            by_cases e : j = k
            · subst e; exact KK.out
            · exact HA.out j (by omega)
          case measure => simp [intOf]; omega
        · have KK : Hid (lineB s = false) := lineB_no (fun h => by have h' := h.fld k hkl hlt; rw [pt_eq hkl, kk] at h'; cases h')
          have BB : Hid (Below w.heap.size w W3) := HI3.bel
          have r0 : _ = some (Value.bool false) := (HI3.res 0 (by decide)).1
          have s0 := (HI3.res 0 (by decide)).2
          have r1 : _ = some (Value.slice none 0 0) := (HI3.res 1 (by decide)).1
          have s1 := (HI3.res 1 (by decide)).2
          have r2 : _ = some (Value.bool false) := (HI3.res 2 (by decide)).1
          have s2 := (HI3.res 2 (by decide)).2
          have r3 : _ = some (Value.slice none 0 0) := (HI3.res 3 (by decide)).1
          have s3 := (HI3.res 3 (by decide)).2
          have r4 : _ = some (Value.bool false) := (HI3.res 4 (by decide)).1
          have s4 := (HI3.res 4 (by decide)).2
          have r5 : _ = some (Value.slice none 0 0) := (HI3.res 5 (by decide)).1
          have s5 := (HI3.res 5 (by decide)).2
          have r6 : _ = some (Value.bool false) := (HI3.res 6 (by decide)).1
          have s6 := (HI3.res 6 (by decide)).2
          have r7 : _ = some (Value.slice none 0 0) := (HI3.res 7 (by decide)).1
          have s7 := (HI3.res 7 (by decide)).2
          have r8 : _ = some (Value.bool false) := (HI3.res 8 (by decide)).1
          have s8 := (HI3.res 8 (by decide)).2
          have r9 : _ = some (Value.slice none 0 0) := (HI3.res 9 (by decide)).1
          have s9 := (HI3.res 9 (by decide)).2
          clear kk HI3
          go_wp2_with fail
          exact bodyPost_ret (v := .tuple #[zeroLine, .bool false]) (by simp [results, Tryd.results45, go_sem, r0, r1, r2, r3, r4, r5, r6, r7, r8, r9]) rfl ⟨Or.inr ⟨KK.out, rfl⟩, below_line BB.out (Nat.le_refl _)⟩
      · have F : Flat (lo k) (hi k) (pt s k) wr ((w2.setCell ⟨wr.heap.size, 0, none⟩ (.bool o)).setCell ⟨wr.heap.size, 1, none⟩ (.slice ad n c)) wr.heap.size o ad n c ok := flat2 hR.out hb2
        clear hR hb2
        generalize (w2.setCell ⟨wr.heap.size, 0, none⟩ (.bool o)).setCell ⟨wr.heap.size, 1, none⟩ (.slice ad n c) = W3 at *
        obtain ⟨HB, g0, g1, hF⟩ := F
        have HI3 := HI.below HB
        have z4 : w.heap.size < W3.heap.size := by have := HI3.hR; have := HI3.hb; have := HI3.hL; omega
        have hLr := HI.hL
        clear HI hcell c1 c2 e1 e2 e3 z1 z2 z3 HB
        rcases hF with ⟨kk, rfl, rfl, b', rfl, rfl, hge', hcc, hP⟩ | ⟨kk, rfl, rfl, rfl, rfl, rfl⟩
        · have KK : Hid (Txt.fldB (lo k) (hi k) (pt s k) = true) := kk
          have HI4 : Hid _ := HI3.store hlt (by omega) hcc hP
          obtain ⟨y0, y1⟩ := HI3.ln2 k (Nat.le_refl _) hlt
          have y2 := HI3.lnf (k * 2) (by omega)
          have y3 := HI3.lnf (k * 2 + 1) (by omega)
          clear kk HI3 hP
          go_wp2_with fail
          go_roundw
          case rel =>
            refine ⟨k + 1, _, _, by omega, by go_num, fun j h => ?_, HI4.out⟩
            by_cases e : j = k
            · subst e; exact KK.out
            · exact HA.out j (by omega)
          case measure => simp [intOf]; omega
        · have KK : Hid (lineB s = false) := lineB_no (fun h => by have h' := h.fld k hkl hlt; rw [pt_eq hkl, kk] at h'; cases h')
          have BB : Hid (Below w.heap.size w W3) := HI3.bel
          have r0 : _ = some (Value.bool false) := (HI3.res 0 (by decide)).1
          have s0 := (HI3.res 0 (by decide)).2
          have r1 : _ = some (Value.slice none 0 0) := (HI3.res 1 (by decide)).1
          have s1 := (HI3.res 1 (by decide)).2
          have r2 : _ = some (Value.bool false) := (HI3.res 2 (by decide)).1
          have s2 := (HI3.res 2 (by decide)).2
          have r3 : _ = some (Value.slice none 0 0) := (HI3.res 3 (by decide)).1
          have s3 := (HI3.res 3 (by decide)).2
          have r4 : _ = some (Value.bool false) := (HI3.res 4 (by decide)).1
          have s4 := (HI3.res 4 (by decide)).2
          have r5 : _ = some (Value.slice none 0 0) := (HI3.res 5 (by decide)).1
          have s5 := (HI3.res 5 (by decide)).2
          have r6 : _ = some (Value.bool false) := (HI3.res 6 (by decide)).1
          have s6 := (HI3.res 6 (by decide)).2
          have r7 : _ = some (Value.slice none 0 0) := (HI3.res 7 (by decide)).1
          have s7 := (HI3.res 7 (by decide)).2
          have r8 : _ = some (Value.bool false) := (HI3.res 8 (by decide)).1
          have s8 := (HI3.res 8 (by decide)).2
          have r9 : _ = some (Value.slice none 0 0) := (HI3.res 9 (by decide)).1
          have s9 := (HI3.res 9 (by decide)).2
          clear kk HI3
          go_wp2_with fail
          exact bodyPost_ret (v := .tuple #[zeroLine, .bool false]) (by simp [results, Tryd.results45, go_sem, r0, r1, r2, r3, r4, r5, r6, r7, r8, r9]) rfl ⟨Or.inr ⟨KK.out, rfl⟩, below_line BB.out (Nat.le_refl _)⟩
    · obtain rfl : k = 5 := by omega
      have h5 : 5 < (Txt.pcs 32 s).length := by omega
      have c5 : wr.cell? ⟨b, 5, none⟩ = some (.string (pt s 5)) := by rw [← pt_eq h5]; exact HI.strs 5 h5
      have zk : Hid ((pt s 5).size ≤ 300) := by rw [← pt_eq h5]; exact Txt.pcs_sz hs 5 h5
      have BB : Hid (Below w.heap.size w wr) := HI.bel
      have z4 : w.heap.size < wr.heap.size := by have := HI.hR; have := HI.hb; have := HI.hL; omega
      have HP : Hid (∀ j : Nat, j < 5 → w.heap.size ≤ bb j ∧ (Txt.pcs 44 (pt s j)).length ≤ cc j ∧ PartsAt wr (bb j) (lo j) (hi j) (Txt.pcs 44 (pt s j))) := fun j hj => ⟨by have := (HI.prt j hj).1; omega, (HI.prt j hj).2⟩
      have HQ : Hid (∀ j : Nat, j < 5 → w.heap.size < bb j) := fun j hj => by have := (HI.prt j hj).1; omega
      cases ho : Txt.optB (pt s 5)
      · have KK : Hid (lineB s = false) := lineB_no (fun h => by have h' := h.opt h5; rw [pt_eq h5, ho] at h'; cases h')
        have r0 : _ = some (Value.bool false) := (HI.res 0 (by decide)).1
        have s0 := (HI.res 0 (by decide)).2
        have r1 : _ = some (Value.slice none 0 0) := (HI.res 1 (by decide)).1
        have s1 := (HI.res 1 (by decide)).2
        have r2 : _ = some (Value.bool false) := (HI.res 2 (by decide)).1
        have s2 := (HI.res 2 (by decide)).2
        have r3 : _ = some (Value.slice none 0 0) := (HI.res 3 (by decide)).1
        have s3 := (HI.res 3 (by decide)).2
        have r4 : _ = some (Value.bool false) := (HI.res 4 (by decide)).1
        have s4 := (HI.res 4 (by decide)).2
        have r5 : _ = some (Value.slice none 0 0) := (HI.res 5 (by decide)).1
        have s5 := (HI.res 5 (by decide)).2
        have r6 : _ = some (Value.bool false) := (HI.res 6 (by decide)).1
        have s6 := (HI.res 6 (by decide)).2
        have r7 : _ = some (Value.slice none 0 0) := (HI.res 7 (by decide)).1
        have s7 := (HI.res 7 (by decide)).2
        have r8 : _ = some (Value.bool false) := (HI.res 8 (by decide)).1
        have s8 := (HI.res 8 (by decide)).2
        have r9 : _ = some (Value.slice none 0 0) := (HI.res 9 (by decide)).1
        have s9 := (HI.res 9 (by decide)).2
        clear HI
        go_wp2_with (go_at_call 53; refine (isOptions_any _ _ zk.out).mono ?_; rintro e w' ⟨rfl, rfl⟩)
        exact bodyPost_ret (v := .tuple #[zeroLine, .bool false]) (by simp [results, Tryd.results45, go_sem, r0, r1, r2, r3, r4, r5, r6, r7, r8, r9]) rfl ⟨Or.inr ⟨KK.out, rfl⟩, below_line BB.out (Nat.le_refl _)⟩
      · have HO : Hid (Txt.optB (pt s 5) = true) := ho
        go_wp2_with (go_at_call 53; refine (isOptions_any _ _ zk.out).mono ?_; rintro e w' ⟨rfl, rfl⟩)
        clear ho c5
        go_loop [9] (fun x => ∃ i : Nat, 6 ≤ i ∧ i ≤ (Txt.pcs 32 s).length ∧ x = .int .i64 i ∧ (∀ (j : Nat) (hj : j < (Txt.pcs 32 s).length), 6 ≤ j → j < i → Txt.stepB (Txt.pcs 32 s)[j] = true)) (fun x => (Txt.pcs 32 s).length - (intOf x).toNat)
        case atStart => exact ⟨6, by omega, by omega, rfl, fun j _ h h' => by omega⟩
        case round =>
          obtain ⟨i, hi6, hil, rfl, hall⟩ := hrel
          have HT : Hid (∀ (j : Nat) (hj : j < (Txt.pcs 32 s).length), 6 ≤ j → j < i → Txt.stepB (Txt.pcs 32 s)[j] = true) := hall
          clear hall
          by_cases hii : i < (Txt.pcs 32 s).length
          · have hcell : w'.cell? ⟨b, i, none⟩ = some (.string (Txt.pcs 32 s)[i]) := HI.strs i hii
            have zi : Hid ((Txt.pcs 32 s)[i].size ≤ 300) := Txt.pcs_sz hs i hii
            cases hq : Txt.stepB (Txt.pcs 32 s)[i]
            · have KK : Hid (lineB s = false) := lineB_no (fun h => by rw [h.stp i hii hi6] at hq; cases hq)
              have r0 : _ = some (Value.bool false) := (HI.res 0 (by decide)).1
              have s0 := (HI.res 0 (by decide)).2
              have r1 : _ = some (Value.slice none 0 0) := (HI.res 1 (by decide)).1
              have s1 := (HI.res 1 (by decide)).2
              have r2 : _ = some (Value.bool false) := (HI.res 2 (by decide)).1
              have s2 := (HI.res 2 (by decide)).2
              have r3 : _ = some (Value.slice none 0 0) := (HI.res 3 (by decide)).1
              have s3 := (HI.res 3 (by decide)).2
              have r4 : _ = some (Value.bool false) := (HI.res 4 (by decide)).1
              have s4 := (HI.res 4 (by decide)).2
              have r5 : _ = some (Value.slice none 0 0) := (HI.res 5 (by decide)).1
              have s5 := (HI.res 5 (by decide)).2
              have r6 : _ = some (Value.bool false) := (HI.res 6 (by decide)).1
              have s6 := (HI.res 6 (by decide)).2
              have r7 : _ = some (Value.slice none 0 0) := (HI.res 7 (by decide)).1
              have s7 := (HI.res 7 (by decide)).2
              have r8 : _ = some (Value.bool false) := (HI.res 8 (by decide)).1
              have s8 := (HI.res 8 (by decide)).2
              have r9 : _ = some (Value.slice none 0 0) := (HI.res 9 (by decide)).1
              have s9 := (HI.res 9 (by decide)).2
              clear HI
              go_wp2_with (go_at_call 54; refine (isStep_any _ _ zi.out).mono ?_; rintro e w' ⟨rfl, rfl⟩)
              exact bodyPost_ret (v := .tuple #[zeroLine, .bool false]) (by simp [results, Tryd.results45, go_sem, r0, r1, r2, r3, r4, r5, r6, r7, r8, r9]) rfl ⟨Or.inr ⟨KK.out, rfl⟩, below_line BB.out (Nat.le_refl _)⟩
            · have HQ' : Hid (Txt.stepB (Txt.pcs 32 s)[i] = true) := hq
              go_wp2_with (go_at_call 54; refine (isStep_any _ _ zi.out).mono ?_; rintro e w' ⟨rfl, rfl⟩)
              go_round
              case rel =>
                refine ⟨i + 1, by omega, by omega, by go_num, fun j hj h1 h => ?_⟩
                by_cases q : j = i
                · subst q; exact HQ'.out
                · exact HT.out j hj h1 (by omega)
              case measure => simp [intOf]; omega
          · have KK : Hid (lineB s = true) := lineB_yes ⟨by omega, by omega, fun j h h' => by rw [pt_eq h]; exact HA.out j h', fun _ => by rw [pt_eq h5]; exact HO.out, fun j h h' => HT.out j h h' (by omega)⟩
            have r0 : _ = some (Value.bool false) := (HI.res 0 (by decide)).1
            have s0 := (HI.res 0 (by decide)).2
            have r1 : _ = some (Value.slice none 0 0) := (HI.res 1 (by decide)).1
            have s1 := (HI.res 1 (by decide)).2
            have r2 : _ = some (Value.bool false) := (HI.res 2 (by decide)).1
            have s2 := (HI.res 2 (by decide)).2
            have r3 : _ = some (Value.slice none 0 0) := (HI.res 3 (by decide)).1
            have s3 := (HI.res 3 (by decide)).2
            have r4 : _ = some (Value.bool false) := (HI.res 4 (by decide)).1
            have s4 := (HI.res 4 (by decide)).2
            have r5 : _ = some (Value.slice none 0 0) := (HI.res 5 (by decide)).1
            have s5 := (HI.res 5 (by decide)).2
            have r6 : _ = some (Value.bool false) := (HI.res 6 (by decide)).1
            have s6 := (HI.res 6 (by decide)).2
            have r7 : _ = some (Value.slice none 0 0) := (HI.res 7 (by decide)).1
            have s7 := (HI.res 7 (by decide)).2
            have r8 : _ = some (Value.bool false) := (HI.res 8 (by decide)).1
            have s8 := (HI.res 8 (by decide)).2
            have r9 : _ = some (Value.slice none 0 0) := (HI.res 9 (by decide)).1
            have s9 := (HI.res 9 (by decide)).2
            have d0 : _ = some (Value.bool (Txt.opn (pt s 0))) := (HI.ln1 0 (by decide)).1
            have d1 : _ = some (Value.slice (some ⟨bb 0, 0, none⟩) (Txt.pcs 44 (pt s 0)).length (cc 0)) := (HI.ln1 0 (by decide)).2
            have d2 : _ = some (Value.bool (Txt.opn (pt s 1))) := (HI.ln1 1 (by decide)).1
            have d3 : _ = some (Value.slice (some ⟨bb 1, 0, none⟩) (Txt.pcs 44 (pt s 1)).length (cc 1)) := (HI.ln1 1 (by decide)).2
            have d4 : _ = some (Value.bool (Txt.opn (pt s 2))) := (HI.ln1 2 (by decide)).1
            have d5 : _ = some (Value.slice (some ⟨bb 2, 0, none⟩) (Txt.pcs 44 (pt s 2)).length (cc 2)) := (HI.ln1 2 (by decide)).2
            have d6 : _ = some (Value.bool (Txt.opn (pt s 3))) := (HI.ln1 3 (by decide)).1
            have d7 : _ = some (Value.slice (some ⟨bb 3, 0, none⟩) (Txt.pcs 44 (pt s 3)).length (cc 3)) := (HI.ln1 3 (by decide)).2
            have d8 : _ = some (Value.bool (Txt.opn (pt s 4))) := (HI.ln1 4 (by decide)).1
            have d9 : _ = some (Value.slice (some ⟨bb 4, 0, none⟩) (Txt.pcs 44 (pt s 4)).length (cc 4)) := (HI.ln1 4 (by decide)).2
            simp only [Nat.zero_mul, Nat.zero_add, Nat.one_mul, Nat.reduceMul, Nat.reduceAdd] at d0 d1 d2 d3 d4 d5 d6 d7 d8 d9
            clear HI
            go_wp2_with fail
            refine bodyPost_ret (v := .tuple #[lineV s bb cc, .bool true]) (by simp [results, Tryd.results45, go_sem, r0, r1, r2, r3, r4, r5, r6, r7, r8, r9]) rfl ⟨Or.inl ⟨KK.out, bb, cc, rfl, fun j hj => ⟨(HP.out j hj).1, (HP.out j hj).2.1, ?_⟩⟩, below_line BB.out (Nat.le_refl _)⟩
            have hne := HQ.out j hj
            intro t ht
            obtain ⟨p0, p1, p2⟩ := (HP.out j hj).2.2 t ht
            exact ⟨far_line hne p0, far_line hne p1, far_line hne p2⟩
end Go.Proofs.YtmbginojgenbeaaDoor
