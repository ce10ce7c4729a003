/-
  The walk over the program's readLine, whole.
-/
import Derived.Test.YtdajolpoiffimaaDoorTabRdLine
import Derived.Test.YtdajolpoiffimaaDoorRRow
namespace Go.Proofs.YtdajolpoiffimaaDoor
open Go.RowKit
attribute [local go_sem ↓] Go.wp_at_zero Go.wp_at_succ

theorem below_line {B : Nat} {a w : World} {R : Nat} (h : Below B a w) (hR : B ≤ R) {v0 v1 v2 v3 v4 v5 v6 v7 v8 v9 v10 v11 v12 v13 : Value} : Below B a ((((((((((((((w.setCell ⟨R, 0, none⟩ v0).setCell ⟨R, 1, none⟩ v1).setCell ⟨R, 2, none⟩ v2).setCell ⟨R, 3, none⟩ v3).setCell ⟨R, 4, none⟩ v4).setCell ⟨R, 5, none⟩ v5).setCell ⟨R, 6, none⟩ v6).setCell ⟨R, 7, none⟩ v7).setCell ⟨R, 8, none⟩ v8).setCell ⟨R, 9, none⟩ v9).setCell ⟨R, 10, none⟩ v10).setCell ⟨R, 11, none⟩ v11).setCell ⟨R, 12, none⟩ v12).setCell ⟨R, 13, none⟩ v13) :=
  ((((((((((((((h.setCell hR _).setCell hR _).setCell hR _).setCell hR _).setCell hR _).setCell hR _).setCell hR _).setCell hR _).setCell hR _).setCell hR _).setCell hR _).setCell hR _).setCell hR _).setCell hR _)

theorem far_line {w : World} {R x o : Nat} {u v0 v1 v2 v3 v4 v5 v6 v7 v8 v9 v10 v11 v12 v13 : Value} (hne : R < x) (h : w.cell? ⟨x, o, none⟩ = some u) : ((((((((((((((w.setCell ⟨R, 0, none⟩ v0).setCell ⟨R, 1, none⟩ v1).setCell ⟨R, 2, none⟩ v2).setCell ⟨R, 3, none⟩ v3).setCell ⟨R, 4, none⟩ v4).setCell ⟨R, 5, none⟩ v5).setCell ⟨R, 6, none⟩ v6).setCell ⟨R, 7, none⟩ v7).setCell ⟨R, 8, none⟩ v8).setCell ⟨R, 9, none⟩ v9).setCell ⟨R, 10, none⟩ v10).setCell ⟨R, 11, none⟩ v11).setCell ⟨R, 12, none⟩ v12).setCell ⟨R, 13, none⟩ v13).cell? ⟨x, o, none⟩ = some u := by
  have hx : ∀ j : Nat, (⟨R, j, none⟩ : Addr) ≠ ⟨x, o, none⟩ := fun j e => by cases e; omega
  rw [World.cell?_setCell_other _ _ _ _ (hx _), World.cell?_setCell_other _ _ _ _ (hx _), World.cell?_setCell_other _ _ _ _ (hx _), World.cell?_setCell_other _ _ _ _ (hx _), World.cell?_setCell_other _ _ _ _ (hx _), World.cell?_setCell_other _ _ _ _ (hx _), World.cell?_setCell_other _ _ _ _ (hx _), World.cell?_setCell_other _ _ _ _ (hx _), World.cell?_setCell_other _ _ _ _ (hx _), World.cell?_setCell_other _ _ _ _ (hx _), World.cell?_setCell_other _ _ _ _ (hx _), World.cell?_setCell_other _ _ _ _ (hx _), World.cell?_setCell_other _ _ _ _ (hx _), World.cell?_setCell_other _ _ _ _ (hx _)]
  exact h
theorem own_line {w : World} {R base size n : Nat} {e : TypeId} {v : Value} {xs : List Value} {v0 v1 v2 v3 v4 v5 v6 v7 v8 v9 v10 v11 v12 v13 : Value} (h : w.ownsRow base e size v n xs) (hR : R < base) : ((((((((((((((w.setCell ⟨R, 0, none⟩ v0).setCell ⟨R, 1, none⟩ v1).setCell ⟨R, 2, none⟩ v2).setCell ⟨R, 3, none⟩ v3).setCell ⟨R, 4, none⟩ v4).setCell ⟨R, 5, none⟩ v5).setCell ⟨R, 6, none⟩ v6).setCell ⟨R, 7, none⟩ v7).setCell ⟨R, 8, none⟩ v8).setCell ⟨R, 9, none⟩ v9).setCell ⟨R, 10, none⟩ v10).setCell ⟨R, 11, none⟩ v11).setCell ⟨R, 12, none⟩ v12).setCell ⟨R, 13, none⟩ v13).ownsRow base e size v n xs := by
  have q : ∀ (w : World) (j : Nat) (u : Value), w.ownsRow base e size v n xs → (w.setCell ⟨R, j, none⟩ u).ownsRow base e size v n xs := fun w j u h => ownsRow_setCell_below h (by simpa using hR) u
  exact (q _ _ _ (q _ _ _ (q _ _ _ (q _ _ _ (q _ _ _ (q _ _ _ (q _ _ _ (q _ _ _ (q _ _ _ (q _ _ _ (q _ _ _ (q _ _ _ (q _ _ _ (q _ _ _ h))))))))))))))

/-- A line that is none, as a value; a line, as a value. -/
abbrev zeroLine : Value := .agg #[.bool false, .slice none 0 0, .bool false, .slice none 0 0, .bool false, .slice none 0 0, .bool false, .slice none 0 0, .bool false, .slice none 0 0, .bool false, .int .u8 0, .int .i64 0, .slice none 0 0]
abbrev lineV (s : ByteArray) (bb cc : Nat → Nat) (sv : Value) : Value := .agg #[.bool (Txt.opn (pt s 0)), .slice (some ⟨bb 0, 0, none⟩) (Txt.pcs 44 (pt s 0)).length (cc 0), .bool (Txt.opn (pt s 1)), .slice (some ⟨bb 1, 0, none⟩) (Txt.pcs 44 (pt s 1)).length (cc 1), .bool (Txt.opn (pt s 2)), .slice (some ⟨bb 2, 0, none⟩) (Txt.pcs 44 (pt s 2)).length (cc 2), .bool (Txt.opn (pt s 3)), .slice (some ⟨bb 3, 0, none⟩) (Txt.pcs 44 (pt s 3)).length (cc 3), .bool (Txt.opn (pt s 4)), .slice (some ⟨bb 4, 0, none⟩) (Txt.pcs 44 (pt s 4)).length (cc 4), .bool (obt (pt s 5) 0 == 120), .int .u8 (obt (pt s 5) 1), .int .i64 (obt (pt s 5) 2 - 48), sv]
theorem own_mono {w : World} {base base' : Nat} {e : TypeId} {size : Nat} {v : Value} {n : Nat} {xs : List Value} (h : w.ownsRow base e size v n xs) (hb : base' ≤ base) : w.ownsRow base' e size v n xs := by
  refine ⟨h.1, ?_⟩
  rcases h.2 with h2 | ⟨g, cap, cur, hv, hbase, h3⟩
  · exact Or.inl h2
  · exact Or.inr ⟨g, cap, cur, hv, Nat.le_trans hb hbase, h3⟩
/-- What readLine answers. -/
def LineR (s : ByteArray) (h : Nat) (w' : World) (e : Ending) : Prop :=
  (lineB s = true ∧ ∃ (bb cc : Nat → Nat) (sv : Value), e = .returned (.tuple #[lineV s bb cc sv, .bool true]) ∧ (∀ j : Nat, j < 5 → h ≤ bb j ∧ (Txt.pcs 44 (pt s j)).length ≤ cc j ∧ PartsAt w' (bb j) (lo j) (hi j) (Txt.pcs 44 (pt s j))) ∧ w'.ownsRow h 169 2 sv (stps s).length ((stps s).flatMap spC)) ∨
  (lineB s = false ∧ e = .returned (.tuple #[zeroLine, .bool false]))

set_option maxRecDepth 10000 in
set_option maxHeartbeats 3000000 in
theorem readLine_any (s : ByteArray) (w : World) (hs : s.size ≤ 300) (hT : TabLH w) :
    Calls Tryd.prog 99 #[.string s] w fun e w' => LineR s w.heap.size w' e ∧ Below w.heap.size w w' := by
  have h2w : 1 < w.heap.size ∧ 2 < w.heap.size := ⟨World.block_lt_of_cell? _ _ (hT 0 (by decide)).1, World.block_lt_of_cell? _ _ (hT 0 (by decide)).2⟩
  have HT0 : Hid (∀ o, TabLH (w.alloc o)) := fun o => hT.later (below_alloc _ _)
  clear hT
  go_enter Tryd.func99, Tryd.ntmps99
  go_wp2_with fail
  refine (split_any _ _ _ hs).mono ?_
  rintro e w1 ⟨⟨b, cap, rfl, hge, hcap, hS⟩, hb⟩
  have hlen := Txt.pcs_len 32 s
  have HT1 : Hid (∀ o, TabLH (w1.alloc o)) := fun o => ((HT0.out _).later hb).later (below_alloc _ _)
  clear HT0
  have B1 : Hid (Below w.heap.size w w1) := (below_alloc w _).trans (hb.mono (by simp))
  have hgb : w.heap.size < b := by simp at hge; omega
  have hbl : b < w1.heap.size := World.block_lt_of_cell? _ _ (hS 0 (Txt.pcs_ne _ _))
  have hzz : w.heap.size < w1.heap.size := by omega
  by_cases n7 : (Txt.pcs 32 s).length ≤ 6
  · have KK : Hid (lineB s = false) := lineB_no (fun h => by have := h.n7; omega)
    obtain ⟨hc, hf⟩ := bcell hb
    clear hb hS
    go_wp2_with fail
    exact bodyPost_ret (v := .tuple #[zeroLine, .bool false]) (by simp [results, Tryd.results99, go_sem, hc]) rfl ⟨Or.inr ⟨KK.out, rfl⟩, below_line B1.out (Nat.le_refl _)⟩
  by_cases n11 : 11 < (Txt.pcs 32 s).length
  · have KK : Hid (lineB s = false) := lineB_no (fun h => by have := h.n11; omega)
    obtain ⟨hc, hf⟩ := bcell hb
    clear hb hS
    go_wp2_with fail
    exact bodyPost_ret (v := .tuple #[zeroLine, .bool false]) (by simp [results, Tryd.results99, go_sem, hc]) rfl ⟨Or.inr ⟨KK.out, rfl⟩, below_line B1.out (Nat.le_refl _)⟩
  have H0 : LInv w (w1.alloc (.cells #[.bool false, .slice none 0 0, .bool false, .slice none 0 0, .bool false, .slice none 0 0, .bool false, .slice none 0 0, .bool false, .slice none 0 0, .bool false, .int .u8 0, .int .i64 0, .slice none 0 0] 122)) b w1.heap.size s 0 (fun _ => 0) (fun _ => 0) := by
    refine ⟨hS.later (below_alloc _ _), HT1.out _, ?_, fun j h => by omega, ?_, ?_, ?_, fun j h => by omega, B1.out.alloc (Nat.le_of_lt hzz) _, hgb, hbl, by simp, h2w⟩
    · intro j hj
      have hj' : j = 0 ∨ j = 1 ∨ j = 2 ∨ j = 3 ∨ j = 4 ∨ j = 5 ∨ j = 6 ∨ j = 7 ∨ j = 8 ∨ j = 9 ∨ j = 10 ∨ j = 11 ∨ j = 12 ∨ j = 13 := by omega
      refine ⟨cell_later (below_alloc _ _) (cell_later hb ?_), ?_⟩
      · rcases hj' with rfl | rfl | rfl | rfl | rfl | rfl | rfl | rfl | rfl | rfl | rfl | rfl | rfl | rfl <;> simp [go_sem, zc]
      · rw [(below_alloc w1 _).frozen (p := ⟨w.heap.size, j, none⟩) (by simpa using hzz), hb.frozen (p := ⟨w.heap.size, j, none⟩) (by simp)]
        simp [go_sem]
    · intro j _ hj
      have hj' : j = 0 ∨ j = 1 ∨ j = 2 ∨ j = 3 ∨ j = 4 := by omega
      rcases hj' with rfl | rfl | rfl | rfl | rfl <;> simp [go_sem]
    · intro j h6 hj
      have hj' : j = 10 ∨ j = 11 ∨ j = 12 ∨ j = 13 := by omega
      rcases hj' with rfl | rfl | rfl | rfl <;> simp [go_sem, zc]
    · intro j hj
      simp [go_sem]
  clear hb hS HT1 B1
  go_wp2_with fail
  go_loopw [6] (fun x wr => ∃ (k : Nat) (bb cc : Nat → Nat), k ≤ 5 ∧ x = .int .i64 k ∧ (∀ (j : Nat), j < k → Txt.fldB (lo j) (hi j) (pt s j) = true) ∧ LInv w wr b w1.heap.size s k bb cc) (fun x _ => 5 - (intOf x).toNat)
  case atStart => exact ⟨0, _, _, by omega, rfl, fun j h => by omega, H0⟩
  case round =>
    clear H0
    obtain ⟨k, bb, cc, hk, rfl, hall, HI⟩ := hrel
    have HA : Hid (∀ (j : Nat), j < k → Txt.fldB (lo j) (hi j) (pt s j) = true) := hall
    clear hall
    by_cases hlt : k < 5
    · have hkl : k < (Txt.pcs 32 s).length := by omega
      have hcell : wr.cell? ⟨b, k, none⟩ = some (.string (pt s k)) := by rw [← pt_eq hkl]; exact HI.strs k hkl
      have zk : Hid ((pt s k).size ≤ 300) := by rw [← pt_eq hkl]; exact Txt.pcs_sz hs k hkl
      obtain ⟨c1, c2⟩ := HI.tabs k hlt
      have lh := lohi k
      have b0 : (0 : Int) ≤ (k : Int) := by omega
      have b1 : (k : Int) < 5 := by omega
      have b2 : (k : Int) < ((Txt.pcs 32 s).length : Int) := by omega
      have e1 := World.new_ne wr _ hcell
      have e2 := World.new_ne wr _ c1
      have e3 := World.new_ne wr _ c2
      have z1 : b < wr.heap.size := World.block_lt_of_cell? _ _ hcell
      have z2 : 1 < wr.heap.size := World.block_lt_of_cell? _ _ c1
      have z3 : 2 < wr.heap.size := World.block_lt_of_cell? _ _ c2
      go_wp2_with fail
      go_region_held3 (fun w' => w'.cell? ⟨b, k, none⟩ = some (.string (pt s k)) ∧ w'.cell? ⟨1, k, none⟩ = some (.int .i64 (lo k)) ∧ w'.cell? ⟨2, k, none⟩ = some (.int .i64 (hi k))) (first | exact ⟨cell_later hbC hcell, cell_later hbC c1, cell_later hbC c2⟩ | exact ⟨cell_later (hbC.alloc hbC.size _) hcell, cell_later (hbC.alloc hbC.size _) c1, cell_later (hbC.alloc hbC.size _) c2⟩ | exact ⟨hcell, c1, c2⟩ | exact ⟨cell_later (below_alloc _ _) hcell, cell_later (below_alloc _ _) c1, cell_later (below_alloc _ _) c2⟩ | go_keep) ((go_at_call 115; refine (readField_flat _ _ _ _ zk.out (by omega) (by omega) (by omega) (by omega)).mono ?_; rintro e w2 ⟨o, ad, n, c, ok, rfl, hR, hb2⟩; have hbC : Below wr.heap.size wr w2 := (by first | exact (Below.refl _ _).drew.trans hb2 | exact (below_alloc _ _).drew.trans (hb2.mono (by simp))); obtain ⟨hc2, hf2⟩ := bcell hb2))
      · have F : Flat (lo k) (hi k) (pt s k) wr (w2.alloc (.cells #[.bool o, .slice ad n c] 116)) w2.heap.size o ad n c ok := flat1 hR.out hb2 _
        clear hR hb2
        generalize w2.alloc (.cells #[.bool o, .slice ad n c] 116) = W3 at *
        generalize w2.heap.size = q at *
        obtain ⟨HB, g0, g1, hF⟩ := F
        have HI3 := HI.below HB
        have z4 : w.heap.size < W3.heap.size := by have := HI3.hR; have := HI3.hb; have := HI3.hL; omega
        have hLr := HI.hL
        clear HI hcell c1 c2 e1 e2 e3 z1 z2 z3 HB
        rcases hF with ⟨kk, rfl, rfl, b', rfl, rfl, hge', hcc, hP⟩ | ⟨kk, rfl, rfl, rfl, rfl, rfl⟩
        · have KK : Hid (Txt.fldB (lo k) (hi k) (pt s k) = true) := kk
          have HI4 : Hid _ := HI3.store hlt (by omega) hcc hP
          obtain ⟨y0, y1⟩ := HI3.ln2 k (Nat.le_refl _) hlt
          have y2 := HI3.lnf (k * 2) (by omega)
          have y3 := HI3.lnf (k * 2 + 1) (by omega)
          clear kk HI3 hP
          go_wp2_with fail
          go_roundw
          case rel =>
            refine ⟨k + 1, _, _, by omega, by go_num, fun j h => ?_, HI4.out⟩
            by_cases e : j = k
            · subst e; exact KK.out
            · exact HA.out j (by omega)
          case measure => simp [intOf]; omega
        · have KK : Hid (lineB s = false) := lineB_no (fun h => by have h' := h.fld k hkl hlt; rw [pt_eq hkl, kk] at h'; cases h')
          have BB : Hid (Below w.heap.size w W3) := HI3.bel
          have r0 : _ = some (Value.bool false) := (HI3.res 0 (by decide)).1
          have s0 := (HI3.res 0 (by decide)).2
          have r1 : _ = some (Value.slice none 0 0) := (HI3.res 1 (by decide)).1
          have s1 := (HI3.res 1 (by decide)).2
          have r2 : _ = some (Value.bool false) := (HI3.res 2 (by decide)).1
          have s2 := (HI3.res 2 (by decide)).2
          have r3 : _ = some (Value.slice none 0 0) := (HI3.res 3 (by decide)).1
          have s3 := (HI3.res 3 (by decide)).2
          have r4 : _ = some (Value.bool false) := (HI3.res 4 (by decide)).1
          have s4 := (HI3.res 4 (by decide)).2
          have r5 : _ = some (Value.slice none 0 0) := (HI3.res 5 (by decide)).1
          have s5 := (HI3.res 5 (by decide)).2
          have r6 : _ = some (Value.bool false) := (HI3.res 6 (by decide)).1
          have s6 := (HI3.res 6 (by decide)).2
          have r7 : _ = some (Value.slice none 0 0) := (HI3.res 7 (by decide)).1
          have s7 := (HI3.res 7 (by decide)).2
          have r8 : _ = some (Value.bool false) := (HI3.res 8 (by decide)).1
          have s8 := (HI3.res 8 (by decide)).2
          have r9 : _ = some (Value.slice none 0 0) := (HI3.res 9 (by decide)).1
          have s9 := (HI3.res 9 (by decide)).2
          have r10 : _ = some (Value.bool false) := (HI3.res 10 (by decide)).1
          have s10 := (HI3.res 10 (by decide)).2
          have r11 : _ = some (Value.int .u8 0) := (HI3.res 11 (by decide)).1
          have s11 := (HI3.res 11 (by decide)).2
          have r12 : _ = some (Value.int .i64 0) := (HI3.res 12 (by decide)).1
          have s12 := (HI3.res 12 (by decide)).2
          have r13 : _ = some (Value.slice none 0 0) := (HI3.res 13 (by decide)).1
          have s13 := (HI3.res 13 (by decide)).2
          clear kk HI3
          go_wp2_with fail
          exact bodyPost_ret (v := .tuple #[zeroLine, .bool false]) (by simp [results, Tryd.results99, go_sem, r0, r1, r2, r3, r4, r5, r6, r7, r8, r9, r10, r11, r12, r13]) rfl ⟨Or.inr ⟨KK.out, rfl⟩, below_line BB.out (Nat.le_refl _)⟩
      · have F : Flat (lo k) (hi k) (pt s k) wr ((w2.setCell ⟨wr.heap.size, 0, none⟩ (.bool o)).setCell ⟨wr.heap.size, 1, none⟩ (.slice ad n c)) wr.heap.size o ad n c ok := flat2 hR.out hb2
        clear hR hb2
        generalize (w2.setCell ⟨wr.heap.size, 0, none⟩ (.bool o)).setCell ⟨wr.heap.size, 1, none⟩ (.slice ad n c) = W3 at *
        obtain ⟨HB, g0, g1, hF⟩ := F
        have HI3 := HI.below HB
        have z4 : w.heap.size < W3.heap.size := by have := HI3.hR; have := HI3.hb; have := HI3.hL; omega
        have hLr := HI.hL
        clear HI hcell c1 c2 e1 e2 e3 z1 z2 z3 HB
        rcases hF with ⟨kk, rfl, rfl, b', rfl, rfl, hge', hcc, hP⟩ | ⟨kk, rfl, rfl, rfl, rfl, rfl⟩
        · have KK : Hid (Txt.fldB (lo k) (hi k) (pt s k) = true) := kk
          have HI4 : Hid _ := HI3.store hlt (by omega) hcc hP
          obtain ⟨y0, y1⟩ := HI3.ln2 k (Nat.le_refl _) hlt
          have y2 := HI3.lnf (k * 2) (by omega)
          have y3 := HI3.lnf (k * 2 + 1) (by omega)
          clear kk HI3 hP
          go_wp2_with fail
          go_roundw
          case rel =>
            refine ⟨k + 1, _, _, by omega, by go_num, fun j h => ?_, HI4.out⟩
            by_cases e : j = k
            · subst e; exact KK.out
            · exact HA.out j (by omega)
          case measure => simp [intOf]; omega
        · have KK : Hid (lineB s = false) := lineB_no (fun h => by have h' := h.fld k hkl hlt; rw [pt_eq hkl, kk] at h'; cases h')
          have BB : Hid (Below w.heap.size w W3) := HI3.bel
          have r0 : _ = some (Value.bool false) := (HI3.res 0 (by decide)).1
          have s0 := (HI3.res 0 (by decide)).2
          have r1 : _ = some (Value.slice none 0 0) := (HI3.res 1 (by decide)).1
          have s1 := (HI3.res 1 (by decide)).2
          have r2 : _ = some (Value.bool false) := (HI3.res 2 (by decide)).1
          have s2 := (HI3.res 2 (by decide)).2
          have r3 : _ = some (Value.slice none 0 0) := (HI3.res 3 (by decide)).1
          have s3 := (HI3.res 3 (by decide)).2
          have r4 : _ = some (Value.bool false) := (HI3.res 4 (by decide)).1
          have s4 := (HI3.res 4 (by decide)).2
          have r5 : _ = some (Value.slice none 0 0) := (HI3.res 5 (by decide)).1
          have s5 := (HI3.res 5 (by decide)).2
          have r6 : _ = some (Value.bool false) := (HI3.res 6 (by decide)).1
          have s6 := (HI3.res 6 (by decide)).2
          have r7 : _ = some (Value.slice none 0 0) := (HI3.res 7 (by decide)).1
          have s7 := (HI3.res 7 (by decide)).2
          have r8 : _ = some (Value.bool false) := (HI3.res 8 (by decide)).1
          have s8 := (HI3.res 8 (by decide)).2
          have r9 : _ = some (Value.slice none 0 0) := (HI3.res 9 (by decide)).1
          have s9 := (HI3.res 9 (by decide)).2
          have r10 : _ = some (Value.bool false) := (HI3.res 10 (by decide)).1
          have s10 := (HI3.res 10 (by decide)).2
          have r11 : _ = some (Value.int .u8 0) := (HI3.res 11 (by decide)).1
          have s11 := (HI3.res 11 (by decide)).2
          have r12 : _ = some (Value.int .i64 0) := (HI3.res 12 (by decide)).1
          have s12 := (HI3.res 12 (by decide)).2
          have r13 : _ = some (Value.slice none 0 0) := (HI3.res 13 (by decide)).1
          have s13 := (HI3.res 13 (by decide)).2
          clear kk HI3
          go_wp2_with fail
          exact bodyPost_ret (v := .tuple #[zeroLine, .bool false]) (by simp [results, Tryd.results99, go_sem, r0, r1, r2, r3, r4, r5, r6, r7, r8, r9, r10, r11, r12, r13]) rfl ⟨Or.inr ⟨KK.out, rfl⟩, below_line BB.out (Nat.le_refl _)⟩
    · obtain rfl : k = 5 := by omega
      have h5 : 5 < (Txt.pcs 32 s).length := by omega
      have c5 : wr.cell? ⟨b, 5, none⟩ = some (.string (pt s 5)) := by rw [← pt_eq h5]; exact HI.strs 5 h5
      have zk : Hid ((pt s 5).size ≤ 300) := by rw [← pt_eq h5]; exact Txt.pcs_sz hs 5 h5
      go_wp2_with fail
      refine (readOptions_any _ _ zk.out).mono ?_
      rintro e w2 ⟨hO, hb2⟩
      have HI2 := HI.below hb2
      clear HI hb2 c5
      have z4 : w.heap.size < w2.heap.size := by have := HI2.hR; have := HI2.hb; have := HI2.hL; omega
      rcases hO with ⟨ho, rfl⟩ | ⟨ho, rfl⟩
      rotate_left
      · have KK : Hid (lineB s = false) := lineB_no (fun h => by have h' := h.opt h5; rw [pt_eq h5, ho] at h'; cases h')
        have HI3 := HI2.below (below_alloc w2 (.cells #[.bool false, .int .u8 0, .int .i64 0] 119))
        clear HI2 ho
        go_upto_region 13 with fail
        generalize w2.alloc (.cells #[.bool false, .int .u8 0, .int .i64 0] 119) = W3 at *
        have BB : Hid (Below w.heap.size w W3) := HI3.bel
        have r0 : _ = some (Value.bool false) := (HI3.res 0 (by decide)).1
        have s0 := (HI3.res 0 (by decide)).2
        have r1 : _ = some (Value.slice none 0 0) := (HI3.res 1 (by decide)).1
        have s1 := (HI3.res 1 (by decide)).2
        have r2 : _ = some (Value.bool false) := (HI3.res 2 (by decide)).1
        have s2 := (HI3.res 2 (by decide)).2
        have r3 : _ = some (Value.slice none 0 0) := (HI3.res 3 (by decide)).1
        have s3 := (HI3.res 3 (by decide)).2
        have r4 : _ = some (Value.bool false) := (HI3.res 4 (by decide)).1
        have s4 := (HI3.res 4 (by decide)).2
        have r5 : _ = some (Value.slice none 0 0) := (HI3.res 5 (by decide)).1
        have s5 := (HI3.res 5 (by decide)).2
        have r6 : _ = some (Value.bool false) := (HI3.res 6 (by decide)).1
        have s6 := (HI3.res 6 (by decide)).2
        have r7 : _ = some (Value.slice none 0 0) := (HI3.res 7 (by decide)).1
        have s7 := (HI3.res 7 (by decide)).2
        have r8 : _ = some (Value.bool false) := (HI3.res 8 (by decide)).1
        have s8 := (HI3.res 8 (by decide)).2
        have r9 : _ = some (Value.slice none 0 0) := (HI3.res 9 (by decide)).1
        have s9 := (HI3.res 9 (by decide)).2
        have r10 : _ = some (Value.bool false) := (HI3.res 10 (by decide)).1
        have s10 := (HI3.res 10 (by decide)).2
        have r11 : _ = some (Value.int .u8 0) := (HI3.res 11 (by decide)).1
        have s11 := (HI3.res 11 (by decide)).2
        have r12 : _ = some (Value.int .i64 0) := (HI3.res 12 (by decide)).1
        have s12 := (HI3.res 12 (by decide)).2
        have r13 : _ = some (Value.slice none 0 0) := (HI3.res 13 (by decide)).1
        have s13 := (HI3.res 13 (by decide)).2
        clear HI3
        go_wp2_with fail
        exact bodyPost_ret (v := .tuple #[zeroLine, .bool false]) (by simp [results, Tryd.results99, go_sem, r0, r1, r2, r3, r4, r5, r6, r7, r8, r9, r10, r11, r12, r13]) rfl ⟨Or.inr ⟨KK.out, rfl⟩, below_line BB.out (Nat.le_refl _)⟩
      · have HO : Hid (Txt.optB (pt s 5) = true) := ho
        clear ho
        obtain ⟨i0, hinf, hz0, hz1, hz2⟩ := info_parts info_step
        have g0 : (w2.alloc (.cells #[.bool (obt (pt s 5) 0 == 120), .int .u8 (obt (pt s 5) 1), .int .i64 (obt (pt s 5) 2 - 48)] 119)).cell? ⟨w2.heap.size, 0, none⟩ = some (.bool (obt (pt s 5) 0 == 120)) := by simp [go_sem]
        have g1 : (w2.alloc (.cells #[.bool (obt (pt s 5) 0 == 120), .int .u8 (obt (pt s 5) 1), .int .i64 (obt (pt s 5) 2 - 48)] 119)).cell? ⟨w2.heap.size, 1, none⟩ = some (.int .u8 (obt (pt s 5) 1)) := by simp [go_sem]
        have g2 : (w2.alloc (.cells #[.bool (obt (pt s 5) 0 == 120), .int .u8 (obt (pt s 5) 1), .int .i64 (obt (pt s 5) 2 - 48)] 119)).cell? ⟨w2.heap.size, 2, none⟩ = some (.int .i64 (obt (pt s 5) 2 - 48)) := by simp [go_sem]
        have HI3 := HI2.below (below_alloc w2 (.cells #[.bool (obt (pt s 5) 0 == 120), .int .u8 (obt (pt s 5) 1), .int .i64 (obt (pt s 5) 2 - 48)] 119))
        clear HI2
        go_upto_region 13 with fail
        generalize w2.alloc (.cells #[.bool (obt (pt s 5) 0 == 120), .int .u8 (obt (pt s 5) 1), .int .i64 (obt (pt s 5) 2 - 48)] 119) = W3 at *
        generalize w2.heap.size = q2 at *
        have H1 : Hid (SInv w (((W3.setCell ⟨w1.heap.size, 10, none⟩ (.bool (obt (pt s 5) 0 == 120))).setCell ⟨w1.heap.size, 11, none⟩ (.int .u8 (obt (pt s 5) 1))).setCell ⟨w1.heap.size, 12, none⟩ (.int .i64 (obt (pt s 5) 2 - 48))) b w1.heap.size W3.heap.size s 0 bb cc (.slice none 0 0)) := SInv.start HI3 (x := obt (pt s 5) 0 == 120) rfl rfl rfl
        have y10 : _ = some (Value.bool false) := HI3.ln3 10 (by decide) (by decide)
        have y11 : _ = some (Value.int .u8 0) := HI3.ln3 11 (by decide) (by decide)
        have y12 : _ = some (Value.int .i64 0) := HI3.ln3 12 (by decide) (by decide)
        have f10 := HI3.lnf 10 (by decide)
        have f11 := HI3.lnf 11 (by decide)
        have f12 := HI3.lnf 12 (by decide)
        clear HI3
        go_wp2_with fail
        go_loopw [11] (fun x wr => ∃ (i n : Nat) (v : Value), Hid (i = 6 + n) ∧ i ≤ (Txt.pcs 32 s).length ∧ x = .int .i64 i ∧ (∀ (j : Nat) (hj : j < (Txt.pcs 32 s).length), 6 ≤ j → j < i → Txt.stepB (Txt.pcs 32 s)[j] = true) ∧ SInv w wr b w1.heap.size W3.heap.size s n bb cc v) (fun x _ => (Txt.pcs 32 s).length - (intOf x).toNat)
        case atStart => exact ⟨6, 0, _, rfl, by omega, rfl, fun j _ h h' => by omega, H1.out⟩
        case round =>
          clear H1 y10 y11 y12 f10 f11 f12 g0 g1 g2
          obtain ⟨i, n, v, HN, hn, rfl, hall, HI⟩ := hrel
          have HT : Hid (∀ (j : Nat) (hj : j < (Txt.pcs 32 s).length), 6 ≤ j → j < i → Txt.stepB (Txt.pcs 32 s)[j] = true) := hall
          clear hall
          have hlb := HI.hL
          have hbs := HI.hbase
          by_cases hii : i < (Txt.pcs 32 s).length
          · have hcell' : wr.cell? ⟨b, i, none⟩ = some (.string (Txt.pcs 32 s)[i]) := HI.strs i hii
            have zi : Hid ((Txt.pcs 32 s)[i].size ≤ 300) := Txt.pcs_sz hs i hii
            have b1 : (0 : Int) ≤ (i : Int) := by omega
            have b2 : (i : Int) < ((Txt.pcs 32 s).length : Int) := by omega
            have HNS : Hid (n < (stps s).length) := by have := HN.out; unfold Hid; rw [stps_len]; omega
            have HX : Hid ((stps s)[n]'HNS.out = (Txt.pcs 32 s)[i]) := by
              have := HN.out; subst this; exact stps_at HNS.out
            have hq0 : Hid (∃ x, (Txt.pcs 32 s)[i] = x) := ⟨_, rfl⟩
            obtain ⟨x, hxg0⟩ := hq0.out
            have HG : Hid ((Txt.pcs 32 s)[i] = x) := hxg0
            rw [hxg0] at hcell' zi HX
            clear hxg0 hq0
            go_wp2_with fail
            refine (readStep_any _ _ zi.out).mono ?_
            rintro e w3 ⟨hR, hb3⟩
            have HI2 := HI.below hb3
            clear HI hb3 hcell'
            rcases hR with ⟨hq, rfl⟩ | ⟨hq, rfl⟩
            · have HQ : Hid (Txt.stepB x = true) := hq
              have g0 : (w3.alloc (.cells #[.bool (sayB x), .string (x.extract 1 x.size)] 169)).cell? ⟨w3.heap.size, 0, none⟩ = some (.bool (sayB x)) := by simp [go_sem]
              have g1 : (w3.alloc (.cells #[.bool (sayB x), .string (x.extract 1 x.size)] 169)).cell? ⟨w3.heap.size, 1, none⟩ = some (.string (x.extract 1 x.size)) := by simp [go_sem]
              have HI3 := HI2.below (below_alloc w3 (.cells #[.bool (sayB x), .string (x.extract 1 x.size)] 169))
              clear hq HI2
              go_upto_region 20 with fail
              generalize w3.alloc (.cells #[.bool (sayB x), .string (x.extract 1 x.size)] 169) = W4 at *
              generalize w3.heap.size = q3 at *
              have HBW : Hid (W3.heap.size ≤ W4.heap.size) := HI3.hbase
              have d13 := HI3.o3
              have zL : w1.heap.size < W4.heap.size := by have := HI3.hL; have := HI3.hbase; omega
              have HO2 : Hid (W4.ownsRow W3.heap.size 169 2 v n (((stps s).take n).flatMap spC)) := HI3.own
              have hn5 : n ≤ 300 := by have := HN.out; omega
              go_wp2_with (at_builtin; refine wpList_append_lies _ rfl (.tmp 81) (.tmp 83) 120 rfl W3.heap.size 169 i0 (.agg #[.bool false, .string ByteArray.empty]) 2 24 Tryd.underlying120 hinf hz0 hz1 hz2 rfl (by decide) _ _ _ rfl (HO2.out.alloc _) ⟨W4.heap.size, 0, none⟩ 1 1 (spC x) rfl rfl ?c1 (spC_one x) (by decide) ?c3 ?c4 ?c5 _ rfl ?_)
              case c1 =>
                intro j u hj
                match j, hj with
                | 0, hj => simp [spC] at hj; subst hj; simp [Addr.add, go_sem]
                | 1, hj => simp [spC] at hj; subst hj; simp [Addr.add, go_sem]
              case c3 => unfold maxLen; omega
              case c4 => omega
              case c5 => have := HBW.out; simp; omega
              · intro g' cap' w4 hown' hgrow _ hlt'
                have HI5 := HI3.below (below_alloc W4 (.cells #[.bool (sayB x), .string (x.extract 1 x.size)] 169))
                have hown2 : w4.ownsRow W3.heap.size 169 2 (.slice (some ⟨g', 0, none⟩) (n + 1) cap') (n + 1) (((stps s).take (n + 1)).flatMap spC) := by
                  rw [List.take_succ_eq_append_getElem HNS.out, List.flatMap_append, HX.out]
                  simpa using hown'
                have HF := HI5.far hgrow
                have HI4 := HI5.app hgrow hown2
                have d1 : w4.cell? ⟨w1.heap.size, 13, none⟩ = some v := (HF.cell (by simpa using hlb)).trans HI5.o3
                have d2 : w4.frozen? ⟨w1.heap.size, 13, none⟩ = false := (HF.frozen (by simpa using hlb)).trans (HI5.lnf 13 (by decide))
                clear hown' hown2 hgrow HI3 HI5 HF d13 HO2 g0 g1
                go_wp2_with fail
                go_roundw
                case rel =>
                  refine ⟨i + 1, n + 1, _, by have := HN.out; unfold Hid; omega, by omega, by go_num, fun j hj h1 h => ?_, HI4⟩
                  by_cases q : j = i
                  · subst q; rw [HG.out]; exact HQ.out
                  · exact HT.out j hj h1 (by omega)
                case measure => simp [intOf]; omega
            · have KK : Hid (lineB s = false) := lineB_no (fun h => by have h' := h.stp i hii (by have := HN.out; omega); rw [HG.out, hq] at h'; cases h')
              have HI3 := HI2.below (below_alloc w3 (.cells #[.bool false, .string ByteArray.empty] 169))
              clear HI2 hq
              go_upto_region 20 with fail
              generalize w3.alloc (.cells #[.bool false, .string ByteArray.empty] 169) = W4 at *
              have BB : Hid (Below w.heap.size w W4) := HI3.bel
              have r0 : _ = some (Value.bool false) := (HI3.res 0 (by decide)).1
              have s0 := (HI3.res 0 (by decide)).2
              have r1 : _ = some (Value.slice none 0 0) := (HI3.res 1 (by decide)).1
              have s1 := (HI3.res 1 (by decide)).2
              have r2 : _ = some (Value.bool false) := (HI3.res 2 (by decide)).1
              have s2 := (HI3.res 2 (by decide)).2
              have r3 : _ = some (Value.slice none 0 0) := (HI3.res 3 (by decide)).1
              have s3 := (HI3.res 3 (by decide)).2
              have r4 : _ = some (Value.bool false) := (HI3.res 4 (by decide)).1
              have s4 := (HI3.res 4 (by decide)).2
              have r5 : _ = some (Value.slice none 0 0) := (HI3.res 5 (by decide)).1
              have s5 := (HI3.res 5 (by decide)).2
              have r6 : _ = some (Value.bool false) := (HI3.res 6 (by decide)).1
              have s6 := (HI3.res 6 (by decide)).2
              have r7 : _ = some (Value.slice none 0 0) := (HI3.res 7 (by decide)).1
              have s7 := (HI3.res 7 (by decide)).2
              have r8 : _ = some (Value.bool false) := (HI3.res 8 (by decide)).1
              have s8 := (HI3.res 8 (by decide)).2
              have r9 : _ = some (Value.slice none 0 0) := (HI3.res 9 (by decide)).1
              have s9 := (HI3.res 9 (by decide)).2
              have r10 : _ = some (Value.bool false) := (HI3.res 10 (by decide)).1
              have s10 := (HI3.res 10 (by decide)).2
              have r11 : _ = some (Value.int .u8 0) := (HI3.res 11 (by decide)).1
              have s11 := (HI3.res 11 (by decide)).2
              have r12 : _ = some (Value.int .i64 0) := (HI3.res 12 (by decide)).1
              have s12 := (HI3.res 12 (by decide)).2
              have r13 : _ = some (Value.slice none 0 0) := (HI3.res 13 (by decide)).1
              have s13 := (HI3.res 13 (by decide)).2
              clear HI3
              go_wp2_with fail
              exact bodyPost_ret (v := .tuple #[zeroLine, .bool false]) (by simp [results, Tryd.results99, go_sem, r0, r1, r2, r3, r4, r5, r6, r7, r8, r9, r10, r11, r12, r13]) rfl ⟨Or.inr ⟨KK.out, rfl⟩, below_line BB.out (Nat.le_refl _)⟩
          · have hnl : n = (stps s).length := by have := HN.out; rw [stps_len]; omega
            have KK : Hid (lineB s = true) := lineB_yes ⟨by omega, by omega, fun j h h' => by rw [pt_eq h]; exact HA.out j h', fun _ => by rw [pt_eq h5]; exact HO.out, fun j h h' => HT.out j h h' (by omega)⟩
            have BB : Hid (Below w.heap.size w wr) := HI.bel
            have HP : Hid (∀ j : Nat, j < 5 → w.heap.size ≤ bb j ∧ (Txt.pcs 44 (pt s j)).length ≤ cc j ∧ PartsAt wr (bb j) (lo j) (hi j) (Txt.pcs 44 (pt s j))) := fun j hj => ⟨by have := (HI.prt j hj).1; omega, (HI.prt j hj).2.2⟩
            have HQ : Hid (∀ j : Nat, j < 5 → w.heap.size < bb j) := fun j hj => by have := (HI.prt j hj).1; omega
            have HW : Hid (wr.ownsRow W3.heap.size 169 2 v (stps s).length ((stps s).flatMap spC)) := by
              have := HI.own
              rw [hnl, List.take_length] at this; exact this
            have z6 : w.heap.size < wr.heap.size := by omega
            have r0 : _ = some (Value.bool false) := (HI.res 0 (by decide)).1
            have s0 := (HI.res 0 (by decide)).2
            have r1 : _ = some (Value.slice none 0 0) := (HI.res 1 (by decide)).1
            have s1 := (HI.res 1 (by decide)).2
            have r2 : _ = some (Value.bool false) := (HI.res 2 (by decide)).1
            have s2 := (HI.res 2 (by decide)).2
            have r3 : _ = some (Value.slice none 0 0) := (HI.res 3 (by decide)).1
            have s3 := (HI.res 3 (by decide)).2
            have r4 : _ = some (Value.bool false) := (HI.res 4 (by decide)).1
            have s4 := (HI.res 4 (by decide)).2
            have r5 : _ = some (Value.slice none 0 0) := (HI.res 5 (by decide)).1
            have s5 := (HI.res 5 (by decide)).2
            have r6 : _ = some (Value.bool false) := (HI.res 6 (by decide)).1
            have s6 := (HI.res 6 (by decide)).2
            have r7 : _ = some (Value.slice none 0 0) := (HI.res 7 (by decide)).1
            have s7 := (HI.res 7 (by decide)).2
            have r8 : _ = some (Value.bool false) := (HI.res 8 (by decide)).1
            have s8 := (HI.res 8 (by decide)).2
            have r9 : _ = some (Value.slice none 0 0) := (HI.res 9 (by decide)).1
            have s9 := (HI.res 9 (by decide)).2
            have r10 : _ = some (Value.bool false) := (HI.res 10 (by decide)).1
            have s10 := (HI.res 10 (by decide)).2
            have r11 : _ = some (Value.int .u8 0) := (HI.res 11 (by decide)).1
            have s11 := (HI.res 11 (by decide)).2
            have r12 : _ = some (Value.int .i64 0) := (HI.res 12 (by decide)).1
            have s12 := (HI.res 12 (by decide)).2
            have r13 : _ = some (Value.slice none 0 0) := (HI.res 13 (by decide)).1
            have s13 := (HI.res 13 (by decide)).2
            have d0 : _ = some (Value.bool (Txt.opn (pt s 0))) := (HI.ln1 0 (by decide)).1
            have d1 : _ = some (Value.slice (some ⟨bb 0, 0, none⟩) (Txt.pcs 44 (pt s 0)).length (cc 0)) := (HI.ln1 0 (by decide)).2
            have d2 : _ = some (Value.bool (Txt.opn (pt s 1))) := (HI.ln1 1 (by decide)).1
            have d3 : _ = some (Value.slice (some ⟨bb 1, 0, none⟩) (Txt.pcs 44 (pt s 1)).length (cc 1)) := (HI.ln1 1 (by decide)).2
            have d4 : _ = some (Value.bool (Txt.opn (pt s 2))) := (HI.ln1 2 (by decide)).1
            have d5 : _ = some (Value.slice (some ⟨bb 2, 0, none⟩) (Txt.pcs 44 (pt s 2)).length (cc 2)) := (HI.ln1 2 (by decide)).2
            have d6 : _ = some (Value.bool (Txt.opn (pt s 3))) := (HI.ln1 3 (by decide)).1
            have d7 : _ = some (Value.slice (some ⟨bb 3, 0, none⟩) (Txt.pcs 44 (pt s 3)).length (cc 3)) := (HI.ln1 3 (by decide)).2
            have d8 : _ = some (Value.bool (Txt.opn (pt s 4))) := (HI.ln1 4 (by decide)).1
            have d9 : _ = some (Value.slice (some ⟨bb 4, 0, none⟩) (Txt.pcs 44 (pt s 4)).length (cc 4)) := (HI.ln1 4 (by decide)).2
            have d10 := HI.o0
            have d11 := HI.o1
            have d12 := HI.o2
            have d13 := HI.o3
            simp only [Nat.zero_mul, Nat.zero_add, Nat.one_mul, Nat.reduceMul, Nat.reduceAdd] at d0 d1 d2 d3 d4 d5 d6 d7 d8 d9
            obtain ⟨ads, caps, hvs⟩ : ∃ ad cap, v = .slice ad (stps s).length cap := by
              obtain ⟨ad, cap, e, _⟩ := (RowAt.of_own HW.out).form; exact ⟨ad, cap, e⟩
            subst hvs
            clear HI hnl
            go_wp2_with fail
            refine bodyPost_ret (v := .tuple #[lineV s bb cc (.slice ads (stps s).length caps), .bool true]) (by simp [results, Tryd.results99, go_sem, r0, r1, r2, r3, r4, r5, r6, r7, r8, r9, r10, r11, r12, r13]) rfl ⟨Or.inl ⟨KK.out, bb, cc, _, rfl, fun j hj => ⟨(HP.out j hj).1, (HP.out j hj).2.1, ?_⟩, own_mono (own_line HW.out (by omega)) (by omega)⟩, below_line BB.out (Nat.le_refl _)⟩
            have hne := HQ.out j hj
            intro t ht
            obtain ⟨p0, p1, p2⟩ := (HP.out j hj).2.2 t ht
            exact ⟨far_line hne p0, far_line hne p1, far_line hne p2⟩
end Go.Proofs.YtdajolpoiffimaaDoor
