/-
  When a line is due, as plain mathematics; the walk over the document's DueAt.
-/
import Derived.Test.YtdajolpoiffimaaDoorRChk
import Derived.Test.YtdajolpoiffimaaDoorRCal
import Derived.Deep.RegionHeld3
import Derived.Deep.DrawnRows
namespace Go.Proofs.YtdajolpoiffimaaDoor
open Go.RowKit

attribute [local go_sem ↓] Go.wp_at_zero Go.wp_at_succ

theorem rholds_x (f : ByteArray) (i v : Int) (w : World) (x : Bool) (hx : x = Txt.hldB (lo i) (hi i) v f) (hs : f.size ≤ 300) (v1 : 0 ≤ v) (v2 : v ≤ 60) (hf : Txt.fldB (lo i) (hi i) f = true) :
    Calls Tryd.prog 73 #[.string f, .int .i64 i, .int .i64 v] w fun e w' => e = .returned (.bool x) ∧ Below w.heap.size w w' := hx ▸ holds_any f i v w hs v1 v2 hf

set_option maxHeartbeats 3000000 in
theorem dueAt_any (s : ByteArray) (y m d h i k : Int) (w : World) (hs : s.size ≤ 300) (hP : LineP s) (m1 : 0 ≤ m) (m2 : m ≤ 60) (d1 : 0 ≤ d) (d2 : d ≤ 60) (h1 : 0 ≤ h) (h2 : h ≤ 60) (i1 : 0 ≤ i) (i2 : i ≤ 60) (k1 : 0 ≤ k) (k2 : k ≤ 60) :
    Calls Tryd.prog 44 #[.string s, dateV y m d h i k] w fun e w' => e = .returned (.bool (dueB s m d h i k)) ∧ Below w.heap.size w w' := by
  have HP : Hid (LineP s) := hP
  have h7 := hP.n7
  have h11 := hP.n11
  clear hP
  go_enter Tryd.func44, Tryd.ntmps44
  go_wp2_with fail
  refine (parts_any _ _ _ hs).mono ?_
  rintro e w1 ⟨⟨b, cap, rfl, _, hcap, hS⟩, hb⟩
  have D1 : DateAt w1 w.heap.size y m d h i k := (DateAt.new w y m d h i k _).later hb
  have cells : ∀ (t : Nat), t < 5 → w1.cell? ⟨b, t, none⟩ = some (.string (pt s t)) := by
    intro t ht
    have hl : t < (Txt.pcs 32 s).length := by omega
    rw [← pt_eq hl]; exact hS t hl
  have C1 : Hid (∀ (t : Nat), t < 5 → w1.cell? ⟨b, t, none⟩ = some (.string (pt s t))) := cells
  have HD1 : Hid (DateAt w1 w.heap.size y m d h i k) := D1
  have B1 : Hid (Below w.heap.size w w1) := (below_alloc w _).trans (hb.mono (by simp))
  have hz1 : w.heap.size < w1.heap.size := by have := hb.size; simp at this; omega
  clear hb hS D1 cells
  obtain ⟨x, hx⟩ : ∃ x : Bool, x = Txt.hldB (lo 0) (hi 0) i (pt s 0) := ⟨_, rfl⟩
  obtain ⟨y', hy⟩ : ∃ x : Bool, x = Txt.hldB (lo 1) (hi 1) h (pt s 1) := ⟨_, rfl⟩
  obtain ⟨z, hz⟩ : ∃ z : Bool, z = Txt.hldB (lo 3) (hi 3) m (pt s 3) := ⟨_, rfl⟩
  obtain ⟨u, hu⟩ : ∃ x : Bool, x = Txt.hldB (lo 2) (hi 2) d (pt s 2) := ⟨_, rfl⟩
  obtain ⟨v, hv⟩ : ∃ z : Bool, z = Txt.hldB (lo 4) (hi 4) k (pt s 4) := ⟨_, rfl⟩
  have HX : Hid (x = Txt.hldB (lo 0) (hi 0) i (pt s 0)) := hx
  have HY : Hid (y' = Txt.hldB (lo 1) (hi 1) h (pt s 1)) := hy
  have HZ : Hid (z = Txt.hldB (lo 3) (hi 3) m (pt s 3)) := hz
  have HU : Hid (u = Txt.hldB (lo 2) (hi 2) d (pt s 2)) := hu
  have HV : Hid (v = Txt.hldB (lo 4) (hi 4) k (pt s 4)) := hv
  have HD : Hid (dueB s m d h i k = (x && (y' && (z && (if (Txt.opn (pt s 2) || Txt.opn (pt s 4)) = true then (u && v) else (u || v)))))) := by unfold Hid; rw [dueB, dayB, hx, hy, hz, hu, hv]
  clear hx hy hz hu hv
  have n0 : (0 : Int) < ((Txt.pcs 32 s).length : Int) := by omega
  have n1 : (1 : Int) < ((Txt.pcs 32 s).length : Int) := by omega
  have n2 : (2 : Int) < ((Txt.pcs 32 s).length : Int) := by omega
  have n3 : (3 : Int) < ((Txt.pcs 32 s).length : Int) := by omega
  have n4 : (4 : Int) < ((Txt.pcs 32 s).length : Int) := by omega
  have n0' : 0 < (Txt.pcs 32 s).length := by omega
  have c1 := C1.out 0 (by decide)
  obtain ⟨q0, q1, q2, q3, q4, q5⟩ := HD1.out
  go_wp2_with fail
  go_region_held3 (fun w' => w'.cell? ⟨b, 0, none⟩ = some (.string (pt s 0)) ∧ w'.cell? ⟨w.heap.size, 4, none⟩ = some (.int .i64 i)) (first | go_keep | (refine ⟨?_, ?_⟩ <;> exact cell_later hb2 (by simp [*]))) ((go_at_call 73; refine (rholds_x _ 0 i _ x HX.out (HP.out.sz hs 0 (by decide)) i1 i2 (HP.out.fl 0 (by decide))).mono ?_; rintro e w2 ⟨rfl, hb2⟩))
  rename Below _ _ _ => hb2
  have BB1 : Below w1.heap.size w1 w2 := (Below.refl _ _).drew.trans hb2
  have HD2 : Hid (DateAt w2 w.heap.size y m d h i k) := HD1.out.later BB1
  have C2 : Hid (∀ (t : Nat), t < 5 → w2.cell? ⟨b, t, none⟩ = some (.string (pt s t))) := fun t ht => cell_later BB1 (C1.out t ht)
  have B2 : Hid (Below w.heap.size w w2) := B1.out.trans (BB1.mono (Nat.le_of_lt hz1))
  have hz2 : w.heap.size < w2.heap.size := Nat.lt_of_lt_of_le hz1 BB1.size
  clear hb2 BB1 C1 HD1 c1 q0 q1 q2 q3 q4 q5 HX
  have c2 := C2.out 1 (by decide)
  obtain ⟨q0, q1, q2, q3, q4, q5⟩ := HD2.out
  go_wp2_with fail
  go_region_held3 (fun w' => w'.cell? ⟨b, 1, none⟩ = some (.string (pt s 1)) ∧ w'.cell? ⟨w.heap.size, 3, none⟩ = some (.int .i64 h)) (first | go_keep | (refine ⟨?_, ?_⟩ <;> exact cell_later hb2 (by simp [*]))) ((go_at_call 73; refine (rholds_x _ 1 h _ y' HY.out (HP.out.sz hs 1 (by decide)) h1 h2 (HP.out.fl 1 (by decide))).mono ?_; rintro e w3 ⟨rfl, hb2⟩))
  rename Below _ _ _ => hb2
  have BB2 : Below w2.heap.size w2 w3 := (Below.refl _ _).drew.trans hb2
  have HD3 : Hid (DateAt w3 w.heap.size y m d h i k) := HD2.out.later BB2
  have C3 : Hid (∀ (t : Nat), t < 5 → w3.cell? ⟨b, t, none⟩ = some (.string (pt s t))) := fun t ht => cell_later BB2 (C2.out t ht)
  have B3 : Hid (Below w.heap.size w w3) := B2.out.trans (BB2.mono (Nat.le_of_lt hz2))
  have hz3 : w.heap.size < w3.heap.size := Nat.lt_of_lt_of_le hz2 BB2.size
  clear hb2 BB2 C2 HD2 c2 q0 q1 q2 q3 q4 q5 HY
  have c3 := C3.out 3 (by decide)
  obtain ⟨q0, q1, q2, q3, q4, q5⟩ := HD3.out
  go_wp2_with fail
  go_region_held3 (fun w' => w'.cell? ⟨b, 3, none⟩ = some (.string (pt s 3)) ∧ w'.cell? ⟨w.heap.size, 1, none⟩ = some (.int .i64 m)) (first | go_keep | (refine ⟨?_, ?_⟩ <;> exact cell_later hb2 (by simp [*]))) ((go_at_call 73; refine (rholds_x _ 3 m _ z HZ.out (HP.out.sz hs 3 (by decide)) m1 m2 (HP.out.fl 3 (by decide))).mono ?_; rintro e w4 ⟨rfl, hb2⟩))
  rename Below _ _ _ => hb2
  have BB3 : Below w3.heap.size w3 w4 := (Below.refl _ _).drew.trans hb2
  have HD4 : Hid (DateAt w4 w.heap.size y m d h i k) := HD3.out.later BB3
  have C4 : Hid (∀ (t : Nat), t < 5 → w4.cell? ⟨b, t, none⟩ = some (.string (pt s t))) := fun t ht => cell_later BB3 (C3.out t ht)
  have B4 : Hid (Below w.heap.size w w4) := B3.out.trans (BB3.mono (Nat.le_of_lt hz3))
  have hz4 : w.heap.size < w4.heap.size := Nat.lt_of_lt_of_le hz3 BB3.size
  clear hb2 BB3 C3 HD3 c3 q0 q1 q2 q3 q4 q5 HZ
  cases x
  · have D : Hid (false = dueB s m d h i k) := by unfold Hid; rw [HD.out]; rfl
    clear HD
    go_wp2_with fail
    go_ret
    exact ⟨ret_bool' D.out, B4.out⟩
  cases y'
  · have D : Hid (false = dueB s m d h i k) := by unfold Hid; rw [HD.out]; rfl
    clear HD
    go_wp2_with fail
    go_ret
    exact ⟨ret_bool' D.out, B4.out⟩
  cases z
  · have D : Hid (false = dueB s m d h i k) := by unfold Hid; rw [HD.out]; rfl
    clear HD
    go_wp2_with fail
    go_ret
    exact ⟨ret_bool' D.out, B4.out⟩
  have c4 := C4.out 2 (by decide)
  obtain ⟨q0, q1, q2, q3, q4, q5⟩ := HD4.out
  go_wp2_with fail
  go_region_held3 (fun w' => w'.cell? ⟨b, 2, none⟩ = some (.string (pt s 2)) ∧ w'.cell? ⟨w.heap.size, 2, none⟩ = some (.int .i64 d)) (first | go_keep | (refine ⟨?_, ?_⟩ <;> exact cell_later hb2 (by simp [*]))) ((go_at_call 73; refine (rholds_x _ 2 d _ u HU.out (HP.out.sz hs 2 (by decide)) d1 d2 (HP.out.fl 2 (by decide))).mono ?_; rintro e w5 ⟨rfl, hb2⟩))
  rename Below _ _ _ => hb2
  have BB4 : Below w4.heap.size w4 w5 := (Below.refl _ _).drew.trans hb2
  have HD5 : Hid (DateAt w5 w.heap.size y m d h i k) := HD4.out.later BB4
  have C5 : Hid (∀ (t : Nat), t < 5 → w5.cell? ⟨b, t, none⟩ = some (.string (pt s t))) := fun t ht => cell_later BB4 (C4.out t ht)
  have B5 : Hid (Below w.heap.size w w5) := B4.out.trans (BB4.mono (Nat.le_of_lt hz4))
  have hz5 : w.heap.size < w5.heap.size := Nat.lt_of_lt_of_le hz4 BB4.size
  clear hb2 BB4 C4 HD4 c4 q0 q1 q2 q3 q4 q5 HU
  have c5 := C5.out 4 (by decide)
  obtain ⟨q0, q1, q2, q3, q4, q5⟩ := HD5.out
  go_wp2_with fail
  go_region_held3 (fun w' => w'.cell? ⟨b, 4, none⟩ = some (.string (pt s 4)) ∧ w'.cell? ⟨w.heap.size, 5, none⟩ = some (.int .i64 k)) (first | go_keep | (refine ⟨?_, ?_⟩ <;> exact cell_later hb2 (by simp [*]))) ((go_at_call 73; refine (rholds_x _ 4 k _ v HV.out (HP.out.sz hs 4 (by decide)) k1 k2 (HP.out.fl 4 (by decide))).mono ?_; rintro e w6 ⟨rfl, hb2⟩))
  rename Below _ _ _ => hb2
  have BB5 : Below w5.heap.size w5 w6 := (Below.refl _ _).drew.trans hb2
  have HD6 : Hid (DateAt w6 w.heap.size y m d h i k) := HD5.out.later BB5
  have C6 : Hid (∀ (t : Nat), t < 5 → w6.cell? ⟨b, t, none⟩ = some (.string (pt s t))) := fun t ht => cell_later BB5 (C5.out t ht)
  have B6 : Hid (Below w.heap.size w w6) := B5.out.trans (BB5.mono (Nat.le_of_lt hz5))
  have hz6 : w.heap.size < w6.heap.size := Nat.lt_of_lt_of_le hz5 BB5.size
  clear hb2 BB5 C5 HD5 c5 q0 q1 q2 q3 q4 q5 HV
  have p2 : 0 < (pt s 2).size := fld_pos (lohi _).1 (HP.out.fl 2 (by decide))
  have p4 : 0 < (pt s 4).size := fld_pos (lohi _).1 (HP.out.fl 4 (by decide))
  have e2 := C6.out 2 (by decide)
  have e4 := C6.out 4 (by decide)
  cases ho2 : Txt.opn (pt s 2)
  · have g2 : (((pt s 2)[0].toNat : Int) == 42) = false := by rw [← Txt.opn_at p2]; exact ho2
    cases ho4 : Txt.opn (pt s 4)
    · have g4 : (((pt s 4)[0].toNat : Int) == 42) = false := by rw [← Txt.opn_at p4]; exact ho4
      have D : Hid ((u || v) = dueB s m d h i k) := by unfold Hid; rw [HD.out, ho2, ho4]; rfl
      clear HD
      cases u
      · go_wp2_with fail
        go_ret
        exact ⟨ret_bool' D.out, B6.out⟩
      · go_wp2_with fail
        go_ret
        exact ⟨ret_bool' D.out, B6.out⟩
    · have g4 : (((pt s 4)[0].toNat : Int) == 42) = true := by rw [← Txt.opn_at p4]; exact ho4
      have D : Hid ((u && v) = dueB s m d h i k) := by unfold Hid; rw [HD.out, ho2, ho4]; rfl
      clear HD
      cases u
      · go_wp2_with fail
        go_ret
        exact ⟨ret_bool' D.out, B6.out⟩
      · go_wp2_with fail
        go_ret
        exact ⟨ret_bool' D.out, B6.out⟩
  · have g2 : (((pt s 2)[0].toNat : Int) == 42) = true := by rw [← Txt.opn_at p2]; exact ho2
    have D : Hid ((u && v) = dueB s m d h i k) := by unfold Hid; rw [HD.out, ho2]; rfl
    clear HD
    cases u
    · go_wp2_with fail
      go_ret
      exact ⟨ret_bool' D.out, B6.out⟩
    · go_wp2_with fail
      go_ret
      exact ⟨ret_bool' D.out, B6.out⟩
end Go.Proofs.YtdajolpoiffimaaDoor
