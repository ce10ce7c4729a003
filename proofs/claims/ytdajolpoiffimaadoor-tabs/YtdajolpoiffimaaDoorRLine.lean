/-
  What a line is; the walk over the document's isLine.
-/
import Derived.Test.YtdajolpoiffimaaDoorRTxt
import Derived.Test.YtdajolpoiffimaaDoorROpt
namespace Go.Proofs.YtdajolpoiffimaaDoor
open Go.RowKit

set_option maxHeartbeats 2000000 in
theorem isLine_any (s : ByteArray) (w : World) (hs : s.size ≤ 300) :
    Calls Tryd.prog 42 #[.string s] w fun e w' => e = .returned (.bool (lineB s)) ∧ Below w.heap.size w w' := by
  go_enter Tryd.func42, Tryd.ntmps42
  go_wp2_with fail
  refine (parts_any _ _ _ hs).mono ?_
  rintro e w1 ⟨⟨b, cap, rfl, _, hcap, hS⟩, hb⟩
  have hlen := Txt.pcs_len 32 s
  by_cases n7 : (Txt.pcs 32 s).length < 7
  · have e : Hid (lineB s = false) := lineB_no (fun h => by have := h.n7; omega)
    go_wp2_with fail
    go_ret
    exact ⟨ret_bool' e.out.symm, hb⟩
  by_cases n11 : 11 < (Txt.pcs 32 s).length
  · have e : Hid (lineB s = false) := lineB_no (fun h => by have := h.n11; omega)
    go_wp2_with fail
    go_ret
    exact ⟨ret_bool' e.out.symm, hb⟩
  have h5 : 5 < (Txt.pcs 32 s).length := by omega
  have c5 : w1.cell? ⟨b, 5, none⟩ = some (.string (Txt.pcs 32 s)[5]) := hS 5 h5
  have z5 : (Txt.pcs 32 s)[5].size ≤ 300 := Txt.pcs_sz hs 5 h5
  have HS : Hid (StrsAt w1 b (Txt.pcs 32 s)) := hS
  clear hS
  by_cases n3 : (Txt.pcs 32 s)[5].size = 3
  rotate_left
  · have e : Hid (lineB s = false) := lineB_no (fun h => by
      have := h.opt h5
      rw [Txt.optB_no (fun q => n3 q.1)] at this; cases this)
    have n3' : (((Txt.pcs 32 s)[5].size : Int) != 3) = true := by simp; omega
    clear n3
    go_wp2_with fail
    go_ret
    exact ⟨ret_bool' e.out.symm, hb⟩
  have n3' : (((Txt.pcs 32 s)[5].size : Int) != 3) = false := by simp; omega
  have N3 : Hid ((Txt.pcs 32 s)[5].size = 3) := n3
  clear n3
  go_wp2_with fail
  clear c5
  go_loopw [4] (fun x wr => ∃ k : Nat, k ≤ 5 ∧ x = .int .i64 k ∧ (∀ (j : Nat) (hj : j < (Txt.pcs 32 s).length), j < k → Txt.fldB (lo j) (hi j) (Txt.pcs 32 s)[j] = true) ∧ Below w1.heap.size w1 wr) (fun x _ => 5 - (intOf x).toNat)
  case atStart => exact ⟨0, by omega, rfl, fun j _ h => by omega, Below.refl _ _⟩
  case round =>
    obtain ⟨k, hk, rfl, hall, hbr⟩ := hrel
    have HA : Hid (∀ (j : Nat) (hj : j < (Txt.pcs 32 s).length), j < k → Txt.fldB (lo j) (hi j) (Txt.pcs 32 s)[j] = true) := hall
    clear hall
    have BB : Hid (Below w.heap.size w wr) := hb.trans (hbr.mono hb.size)
    by_cases hlt : k < 5
    · have hkl : k < (Txt.pcs 32 s).length := by omega
      have hcell : wr.cell? ⟨b, k, none⟩ = some (.string (Txt.pcs 32 s)[k]) := cell_later hbr (HS.out k hkl)
      have zk : Hid ((Txt.pcs 32 s)[k].size ≤ 300) := Txt.pcs_sz hs k hkl
      go_wp2_with fail
      refine (isField_any _ _ _ zk.out).mono ?_
      rintro e w2 ⟨rfl, hb2⟩
      clear hcell
      have hbr2 : Below w1.heap.size w1 w2 := hbr.trans (hb2.mono hbr.size)
      have BB2 : Hid (Below w.heap.size w w2) := hb.trans (hbr2.mono hb.size)
      clear hbr hb2
      cases hq : Txt.fldB (lo k) (hi k) (Txt.pcs 32 s)[k]
      · have e : Hid (lineB s = false) := lineB_no (fun h => by rw [h.fld k hkl hlt] at hq; cases hq)
        go_wp2_with fail
        go_ret
        exact ⟨ret_bool' e.out.symm, BB2.out⟩
      · have HQ : Hid (Txt.fldB (lo k) (hi k) (Txt.pcs 32 s)[k] = true) := hq
        go_wp2_with fail
        go_roundw
        case rel =>
          refine ⟨k + 1, by omega, by go_num, fun j hj h => ?_, hbr2⟩
          by_cases q : j = k
          · subst q; exact HQ.out
          · exact HA.out j hj (by omega)
        case measure => simp [intOf]; omega
    · obtain rfl : k = 5 := by omega
      have c5 : wr.cell? ⟨b, 5, none⟩ = some (.string (Txt.pcs 32 s)[5]) := cell_later hbr (HS.out 5 h5)
      have i3 : (Txt.pcs 32 s)[5].size = 3 := N3.out
      have x0 : ((Txt.pcs 32 s)[5].extract 0 1).size ≤ 300 := by simp [ByteArray.size_extract]; omega
      have x1 : ((Txt.pcs 32 s)[5].extract 1 2).size ≤ 300 := by simp [ByteArray.size_extract]; omega
      have x2 : ((Txt.pcs 32 s)[5].extract 2 (Txt.pcs 32 s)[5].size).size ≤ 300 := by simp [ByteArray.size_extract]; omega
      have X0 : Hid (((Txt.pcs 32 s)[5].extract 0 1).size ≤ 300) := x0
      have X1 : Hid (((Txt.pcs 32 s)[5].extract 1 2).size ≤ 300) := x1
      have X2 : Hid (((Txt.pcs 32 s)[5].extract 2 (Txt.pcs 32 s)[5].size).size ≤ 300) := x2
      clear x0 x1 x2 i3
      have y1 : 1 ≤ (Txt.pcs 32 s)[5].size := by have := N3.out; omega
      have y2 : 2 ≤ (Txt.pcs 32 s)[5].size := by have := N3.out; omega
      go_wp2_with fail
      refine (among_any _ _ _ X0.out (by decide)).mono ?_
      rintro e w' ⟨rfl, m1, rfl⟩
      go_wp2_with fail
      refine (among_any _ _ _ X1.out (by decide)).mono ?_
      rintro e w' ⟨rfl, m2, rfl⟩
      go_wp2_with fail
      refine (among_any _ _ _ X2.out (by decide)).mono ?_
      rintro e w' ⟨rfl, m3, rfl⟩
      have OA : Hid ((Txt.amgB ((Txt.pcs 32 s)[5].extract 0 1) ⟨#[120, 111]⟩ && Txt.amgB ((Txt.pcs 32 s)[5].extract 1 2) ⟨#[97, 108, 110]⟩ && Txt.amgB ((Txt.pcs 32 s)[5].extract 2 (Txt.pcs 32 s)[5].size) ⟨#[49, 50, 51, 52, 53]⟩) = Txt.optB (Txt.pcs 32 s)[5]) := Txt.opt_amg N3.out
      generalize Txt.amgB ((Txt.pcs 32 s)[5].extract 0 1) ⟨#[120, 111]⟩ = A0 at *
      generalize Txt.amgB ((Txt.pcs 32 s)[5].extract 1 2) ⟨#[97, 108, 110]⟩ = A1 at *
      generalize Txt.amgB ((Txt.pcs 32 s)[5].extract 2 (Txt.pcs 32 s)[5].size) ⟨#[49, 50, 51, 52, 53]⟩ = A2 at *
      go_wp2_with fail
      go_loop [9] (fun x => ∃ k : Nat, 6 ≤ k ∧ k ≤ (Txt.pcs 32 s).length ∧ x = .int .i64 k ∧ (∀ (j : Nat) (hj : j < (Txt.pcs 32 s).length), 6 ≤ j → j < k → Txt.stepB (Txt.pcs 32 s)[j] = true)) (fun x => (Txt.pcs 32 s).length - (intOf x).toNat)
      case atStart => exact ⟨6, by omega, by omega, rfl, fun j _ h h' => by omega⟩
      case round =>
        obtain ⟨k, hk6, hkl, rfl, hall⟩ := hrel
        have HT : Hid (∀ (j : Nat) (hj : j < (Txt.pcs 32 s).length), 6 ≤ j → j < k → Txt.stepB (Txt.pcs 32 s)[j] = true) := hall
        clear hall
        by_cases hkk : k < (Txt.pcs 32 s).length
        · have hcell : wr.cell? ⟨b, k, none⟩ = some (.string (Txt.pcs 32 s)[k]) := cell_later hbr (HS.out k hkk)
          have zk : Hid ((Txt.pcs 32 s)[k].size ≤ 300) := Txt.pcs_sz hs k hkk
          cases hq : Txt.stepB (Txt.pcs 32 s)[k]
          · have e : Hid (lineB s = false) := lineB_no (fun h => by rw [h.stp k hkk hk6] at hq; cases hq)
            go_wp2_with (go_at_call 71; refine (risStep_any _ _ zk.out).mono ?_; rintro e w' ⟨rfl, rfl⟩)
            go_ret
            exact ⟨ret_bool' e.out.symm, below_drewN BB.out _⟩
          · have HQ : Hid (Txt.stepB (Txt.pcs 32 s)[k] = true) := hq
            go_wp2_with (go_at_call 71; refine (risStep_any _ _ zk.out).mono ?_; rintro e w' ⟨rfl, rfl⟩)
            go_round
            case rel =>
              refine ⟨k + 1, by omega, by omega, by go_num, fun j hj h1 h => ?_⟩
              by_cases q : j = k
              · subst q; exact HQ.out
              · exact HT.out j hj h1 (by omega)
            case measure => simp [intOf]; omega
        · have e : Hid (Txt.optB (Txt.pcs 32 s)[5] = lineB s) := by
            unfold Hid
            cases q : Txt.optB (Txt.pcs 32 s)[5]
            · exact (lineB_no (fun h => by rw [h.opt h5] at q; cases q)).symm
            · exact (lineB_yes ⟨by omega, by omega, fun i h h' => HA.out i h h', fun _ => q, fun i h h' => HT.out i h h' (by omega)⟩).symm
          have E : Hid (∀ r : Bool, r = (A0 && A1 && A2) → r = lineB s) := fun r hr => by rw [hr, OA.out, e.out]
          clear e OA
          cases A0
          · go_wp2_with fail
            go_ret
            exact ⟨ret_bool' (E.out _ rfl), below_drewN BB.out _⟩
          cases A1
          · go_wp2_with fail
            go_ret
            exact ⟨ret_bool' (E.out _ rfl), below_drewN BB.out _⟩
          cases A2
          · go_wp2_with fail
            go_ret
            exact ⟨ret_bool' (E.out _ rfl), below_drewN BB.out _⟩
          · go_wp2_with fail
            go_ret
            exact ⟨ret_bool' (E.out _ rfl), below_drewN BB.out _⟩
end Go.Proofs.YtdajolpoiffimaaDoor
