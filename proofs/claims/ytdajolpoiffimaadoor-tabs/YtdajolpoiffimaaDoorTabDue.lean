/-
  The walks over the program's line.due and dueOnDay.
-/
import Derived.Test.YtdajolpoiffimaaDoorTabRdAll
import Derived.Test.YtdajolpoiffimaaDoorCalDate
import Derived.Test.YtdajolpoiffimaaDoorLin
namespace Go.Proofs.YtdajolpoiffimaaDoor
open Go.RowKit

/-- A field of a line holds a value: the call, at a world that holds the line. -/
theorem lineField_any (s : ByteArray) (bb cc : Nat → Nat) (t : Nat) (v : Int) (w : World) (x : Bool) (hx : x = Txt.hldB (lo t) (hi t) v (pt s t)) (hs : s.size ≤ 300) (ht : t < 5) (hP : LineP s) (hA : LineAt w s bb cc) (v1 : 0 ≤ v) (v2 : v ≤ 60) :
    Calls Tryd.prog 102 #[.agg #[.bool (Txt.opn (pt s t)), .slice (some ⟨bb t, 0, none⟩) (Txt.pcs 44 (pt s t)).length (cc t)], .int .i64 v] w fun e w' => e = .returned (.bool x) ∧ Below w.heap.size w w' :=
  hx ▸ fieldHolds_any (pt s t) (lo t) (hi t) v _ (bb t) (cc t) w (hP.sz hs t ht) (lohi t).1 (lohi t).2.2.2 v1 v2 (hP.fl t ht) (hA t ht).2 (hA t ht).1

set_option maxHeartbeats 2000000 in
theorem dueOnDay_any (s : ByteArray) (bb cc : Nat → Nat) (ads : Option Addr) (ns caps : Nat) (y m d h i k : Int) (w : World) (hs : s.size ≤ 300) (hP : LineP s) (hA : LineAt w s bb cc) (d1 : 0 ≤ d) (d2 : d ≤ 60) (k1 : 0 ≤ k) (k2 : k ≤ 60) :
    Calls Tryd.prog 103 #[lineV s bb cc (.slice ads ns caps), dateV y m d h i k] w fun e w' => e = .returned (.bool (dayB s d k)) ∧ Below w.heap.size w w' := by
  have HP : Hid (LineP s) := hP
  have HA : Hid (∀ o1 o2, LineAt ((w.alloc o1).alloc o2) s bb cc) := fun o1 o2 => (hA.later (below_alloc _ _)).later (below_alloc _ _)
  obtain ⟨x, hx⟩ : ∃ x : Bool, x = Txt.hldB (lo 2) (hi 2) d (pt s 2) := ⟨_, rfl⟩
  obtain ⟨z, hz⟩ : ∃ z : Bool, z = Txt.hldB (lo 4) (hi 4) k (pt s 4) := ⟨_, rfl⟩
  have HX : Hid (x = Txt.hldB (lo 2) (hi 2) d (pt s 2)) := hx
  have HZ : Hid (z = Txt.hldB (lo 4) (hi 4) k (pt s 4)) := hz
  have HD : Hid (dayB s d k = if (Txt.opn (pt s 2) || Txt.opn (pt s 4)) = true then (x && z) else (x || z)) := by unfold Hid; rw [dayB, hx, hz]
  clear hx hz
  clear hP hA
  go_enter Tryd.func103, Tryd.ntmps103
  go_wp2_with fail
  refine (lineField_any s bb cc 2 _ _ x HX.out hs (by decide) HP.out (HA.out _ _) d1 d2).mono ?_
  rintro e w1 ⟨rfl, hb1⟩
  have HA1 : Hid (LineAt w1 s bb cc) := (HA.out _ _).later hb1
  have B1 : Hid (Below w.heap.size w w1) := ((below_alloc w _).alloc (by simp) _).trans (hb1.mono (by simp; omega))
  obtain ⟨hc1, hf1⟩ := bcell hb1
  have hz1 : w.heap.size + 1 < w1.heap.size := by have := hb1.size; simp at this; omega
  have hz0 : w.heap.size < w1.heap.size := by omega
  clear hb1 HA
  go_wp2_with fail
  refine (lineField_any s bb cc 4 _ _ z HZ.out hs (by decide) HP.out HA1.out k1 k2).mono ?_
  rintro e w2 ⟨rfl, hb2⟩
  have B2 : Hid (Below w.heap.size w w2) := B1.out.trans (hb2.mono (by omega))
  obtain ⟨hc2, hf2⟩ := bcell hb2
  clear hb2
  clear HX HZ
  have leaf : ∀ r : Bool, r = dayB s d k → Hid (r = dayB s d k) := fun _ h => h
  cases ho2 : Txt.opn (pt s 2)
  · cases ho4 : Txt.opn (pt s 4)
    · have D : Hid ((x || z) = dayB s d k) := by unfold Hid; rw [HD.out, ho2, ho4]; rfl
      clear HD leaf
      cases x
      · go_wp2_with fail
        go_ret
        exact ⟨ret_bool' D.out, B2.out⟩
      · go_wp2_with fail
        go_ret
        exact ⟨ret_bool' D.out, B2.out⟩
    · have D : Hid ((x && z) = dayB s d k) := by unfold Hid; rw [HD.out, ho2, ho4]; rfl
      clear HD leaf
      cases x
      · go_wp2_with fail
        go_ret
        exact ⟨ret_bool' D.out, B2.out⟩
      · go_wp2_with fail
        go_ret
        exact ⟨ret_bool' D.out, B2.out⟩
  · have D : Hid ((x && z) = dayB s d k) := by unfold Hid; rw [HD.out, ho2]; rfl
    clear HD leaf
    cases x
    · go_wp2_with fail
      go_ret
      exact ⟨ret_bool' D.out, B2.out⟩
    · go_wp2_with fail
      go_ret
      exact ⟨ret_bool' D.out, B2.out⟩

set_option maxHeartbeats 2000000 in
theorem due_any (s : ByteArray) (bb cc : Nat → Nat) (ads : Option Addr) (ns caps : Nat) (y m d h i k : Int) (w : World) (hs : s.size ≤ 300) (hP : LineP s) (hA : LineAt w s bb cc) (m1 : 0 ≤ m) (m2 : m ≤ 60) (d1 : 0 ≤ d) (d2 : d ≤ 60) (h1 : 0 ≤ h) (h2 : h ≤ 60) (i1 : 0 ≤ i) (i2 : i ≤ 60) (k1 : 0 ≤ k) (k2 : k ≤ 60) :
    Calls Tryd.prog 72 #[lineV s bb cc (.slice ads ns caps), dateV y m d h i k] w fun e w' => e = .returned (.bool (dueB s m d h i k)) ∧ Below w.heap.size w w' := by
  have HP : Hid (LineP s) := hP
  have HA : Hid (∀ o1 o2, LineAt ((w.alloc o1).alloc o2) s bb cc) := fun o1 o2 => (hA.later (below_alloc _ _)).later (below_alloc _ _)
  obtain ⟨x, hx⟩ : ∃ x : Bool, x = Txt.hldB (lo 0) (hi 0) i (pt s 0) := ⟨_, rfl⟩
  obtain ⟨y', hy⟩ : ∃ x : Bool, x = Txt.hldB (lo 1) (hi 1) h (pt s 1) := ⟨_, rfl⟩
  obtain ⟨z, hz⟩ : ∃ z : Bool, z = Txt.hldB (lo 3) (hi 3) m (pt s 3) := ⟨_, rfl⟩
  have HX : Hid (x = Txt.hldB (lo 0) (hi 0) i (pt s 0)) := hx
  have HY : Hid (y' = Txt.hldB (lo 1) (hi 1) h (pt s 1)) := hy
  have HZ : Hid (z = Txt.hldB (lo 3) (hi 3) m (pt s 3)) := hz
  have HD : Hid (dueB s m d h i k = (x && (y' && (z && dayB s d k)))) := by unfold Hid; rw [dueB, hx, hy, hz]
  clear hP hA hx hy hz
  go_enter Tryd.func72, Tryd.ntmps72
  go_wp2_with fail
  refine (lineField_any s bb cc 0 _ _ x HX.out hs (by decide) HP.out (HA.out _ _) i1 i2).mono ?_
  rintro e w1 ⟨rfl, hb1⟩
  have HA1 : Hid (LineAt w1 s bb cc) := (HA.out _ _).later hb1
  have B1 : Hid (Below w.heap.size w w1) := ((below_alloc w _).alloc (by simp) _).trans (hb1.mono (by simp; omega))
  obtain ⟨hc1, hf1⟩ := bcell hb1
  have hz1 : w.heap.size + 1 < w1.heap.size := by have := hb1.size; simp at this; omega
  have hz0 : w.heap.size < w1.heap.size := by omega
  clear hb1 HA HX
  cases x
  · have D : Hid (false = dueB s m d h i k) := by unfold Hid; rw [HD.out]; rfl
    clear HD
    go_wp2_with fail
    go_ret
    exact ⟨ret_bool' D.out, B1.out⟩
  go_wp2_with fail
  refine (lineField_any s bb cc 1 _ _ y' HY.out hs (by decide) HP.out HA1.out h1 h2).mono ?_
  rintro e w2 ⟨rfl, hb2⟩
  have HA2 : Hid (LineAt w2 s bb cc) := HA1.out.later hb2
  have B2 : Hid (Below w.heap.size w w2) := B1.out.trans (hb2.mono (by omega))
  obtain ⟨hc2, hf2⟩ := bcell hb2
  have hz2 : w.heap.size + 1 < w2.heap.size := by have := hb2.size; omega
  have hz20 : w.heap.size < w2.heap.size := by omega
  clear hb2 HA1 HY
  cases y'
  · have D : Hid (false = dueB s m d h i k) := by unfold Hid; rw [HD.out]; rfl
    clear HD
    go_wp2_with fail
    go_ret
    exact ⟨ret_bool' D.out, B2.out⟩
  go_wp2_with fail
  refine (lineField_any s bb cc 3 _ _ z HZ.out hs (by decide) HP.out HA2.out m1 m2).mono ?_
  rintro e w3 ⟨rfl, hb3⟩
  have HA3 : Hid (LineAt w3 s bb cc) := HA2.out.later hb3
  have B3 : Hid (Below w.heap.size w w3) := B2.out.trans (hb3.mono (by omega))
  obtain ⟨hc3, hf3⟩ := bcell hb3
  have hz3 : w.heap.size + 1 < w3.heap.size := by have := hb3.size; omega
  clear hb3 HA2 HZ
  cases z
  · have D : Hid (false = dueB s m d h i k) := by unfold Hid; rw [HD.out]; rfl
    clear HD
    go_wp2_with fail
    go_ret
    exact ⟨ret_bool' D.out, B3.out⟩
  have D : Hid (dayB s d k = dueB s m d h i k) := by unfold Hid; rw [HD.out]; rfl
  clear HD
  go_wp2_with fail
  refine (dueOnDay_any s bb cc ads ns caps y m d h i k _ hs HP.out HA3.out d1 d2 k1 k2).mono ?_
  rintro e w4 ⟨rfl, hb4⟩
  have B4 : Hid (Below w.heap.size w w4) := B3.out.trans (hb4.mono (by omega))
  clear hb4
  go_wp2_with fail
  go_ret
  exact ⟨ret_bool' D.out, B4.out⟩
end Go.Proofs.YtdajolpoiffimaaDoor
