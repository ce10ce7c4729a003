/-
  The walks over the program's readPart and a part's holds.
-/
import Derived.Test.YtdajolpoiffimaaDoorTabPart
import Derived.Test.YtdajolpoiffimaaDoorRBase
namespace Go.Proofs.YtdajolpoiffimaaDoor
open Go.RowKit

theorem digs_plain {s : ByteArray} (h : Txt.digs s = true) : Txt.star s = false ∧ Txt.cut3 45 s = false := by
  constructor
  · cases e : Txt.star s
    · rfl
    · have e' : s.toList = [42] := by simpa [Txt.star] using e
      have hl : s.data.toList = [42] := by rw [← e']; simp [ByteArray.toList_eq]
      rw [Txt.digs, hl] at h
      cases h
  · have hn : Txt.NoSep 45 s 0 s.size := by
      intro j hj _ _
      have := Txt.dg_of (Txt.digs_at h j hj)
      have : ¬ ((s[j].toNat : Int) = 45) := by omega
      simpa using this
    exact (Txt.cut_no hn).2.2
theorem rv_nodash {l g : Int} {s : ByteArray} (l1 : 0 ≤ l) (h : Txt.digs s = false) (k : rvK l g s = true) : Txt.star s = true ∨ Txt.cut3 45 s = true := by
  cases h1 : Txt.star s
  · cases h3 : Txt.cut3 45 s
    · exfalso
      have hf : ¬ Txt.fst 45 s < s.size := by simpa [Txt.cut3] using h3
      have e : Txt.cut1 45 s = s := by simp [Txt.cut1, hf]
      have v : Txt.val s = -1 := Txt.val_no (Or.inr (Or.inr h))
      have := (of_decide_eq_true k).1
      simp [rvA, h1, e, v] at this
      omega
    · exact Or.inr rfl
  · exact Or.inl rfl
theorem spK_eq (l g : Int) (p : ByteArray) : Txt.spK l g p = decide ((Txt.star (Txt.cut1 47 p) = true ∨ Txt.cut3 47 p = false ∨ Txt.cut3 45 (Txt.cut1 47 p) = true) ∧ 1 ≤ Txt.spS p ∧ rvK l g (Txt.cut1 47 p) = true) := by
  have : Txt.spK l g p = decide ((Txt.star (Txt.cut1 47 p) = true ∨ Txt.cut3 47 p = false ∨ Txt.cut3 45 (Txt.cut1 47 p) = true) ∧ 1 ≤ Txt.spS p ∧ l ≤ rvA l (Txt.cut1 47 p) ∧ rvA l (Txt.cut1 47 p) ≤ rvB g (Txt.cut1 47 p) ∧ rvB g (Txt.cut1 47 p) ≤ g) := rfl
  rw [this]
  simp only [rvK, decide_eq_true_eq]

set_option maxHeartbeats 1000000 in
theorem rp_a (p : ByteArray) (l g : Int) (w : World) (hs : p.size ≤ 300) (l1 : 0 ≤ l) (l2 : l ≤ 1) (g1 : 6 ≤ g) (g2 : g ≤ 59) (h2 : Txt.cut3 47 p = false) :
    Calls Tryd.prog 126 #[.string p, .int .i64 l, .int .i64 g] w fun e w' => PartR (Txt.spK l g p) (Txt.spA l p) (Txt.spB g p) (Txt.spS p) e ∧ Below w.heap.size w w' := by
  have K : Hid (Txt.spK l g p = rvK l g (Txt.cut1 47 p)) := by
    have e : Txt.spS p = 1 := by simp [Txt.spS, h2]
    unfold Hid; rw [spK_eq, e]
    cases q : rvK l g (Txt.cut1 47 p) <;> simp [h2]
  have S : Hid (Txt.spS p = 1) := by unfold Hid; simp [Txt.spS, h2]
  have s1 : Hid ((Txt.cut1 47 p).size ≤ 300) := Nat.le_trans (Txt.cut1_size _ _) hs
  have s2 : Hid ((Txt.cut2 47 p).size ≤ 300) := Nat.le_trans (Txt.cut2_size _ _) hs
  go_enter Tryd.func126, Tryd.ntmps126
  go_wp2_with fail
  refine (cut_any _ _ _ hs).mono ?_
  rintro e w' ⟨rfl, n1, rfl⟩
  go_wp2_with fail
  refine (readValues_any _ _ _ _ s1.out l1 l2 g1 g2).mono ?_
  rintro e w1 ⟨hR, hb⟩
  have B1 : Hid (Below w.heap.size w w1) := (below_drewN (below_alloc w _) _).trans (hb.mono (by simp))
  obtain ⟨hc, hf⟩ := bcell hb
  have hz : w.heap.size < w1.heap.size := by have := hb.size; simp at this; omega
  have hz0 : w.heap.size ≤ w1.heap.size := by omega
  clear hb
  rcases hR with ⟨k, rfl⟩ | ⟨k, rfl⟩
  · have KK : Hid (Txt.spK l g p = true) := K.out.trans k
    clear k
    go_wp2_with fail
    exact bodyPost_ret (v := .tuple #[partV (rvA l (Txt.cut1 47 p)) (rvB g (Txt.cut1 47 p)) 1, .bool true]) (by simp [results, Tryd.results126, go_sem, hc]) rfl ⟨partR_yes KK.out rfl rfl S.out, by repeat (first | exact Below.refl _ _ | exact B1.out | refine below_drewN ?_ _ | refine Below.setCell ?_ (by simp) _ | refine Below.alloc ?_ (by first | exact hz0 | (simp; done) | (simp; omega)) _)⟩
  · have KK : Hid (Txt.spK l g p = false) := K.out.trans k
    clear k
    go_wp2_with fail
    exact bodyPost_ret (v := .tuple #[partV 0 0 0, .bool false]) (by simp [results, Tryd.results126, go_sem, hc]) rfl ⟨partR_no KK.out, by repeat (first | exact Below.refl _ _ | exact B1.out | refine below_drewN ?_ _ | refine Below.setCell ?_ (by simp) _ | refine Below.alloc ?_ (by first | exact hz0 | (simp; done) | (simp; omega)) _)⟩

set_option maxHeartbeats 1000000 in
theorem rp_b (p : ByteArray) (l g : Int) (w : World) (hs : p.size ≤ 300) (_l1 : 0 ≤ l) (_l2 : l ≤ 1) (_g1 : 6 ≤ g) (_g2 : g ≤ 59) (h2 : Txt.cut3 47 p = true) (hd : Txt.digs (Txt.cut1 47 p) = true) :
    Calls Tryd.prog 126 #[.string p, .int .i64 l, .int .i64 g] w fun e w' => PartR (Txt.spK l g p) (Txt.spA l p) (Txt.spB g p) (Txt.spS p) e ∧ Below w.heap.size w w' := by
  have KK : Hid (Txt.spK l g p = false) := by
    have := digs_plain hd
    unfold Hid; rw [spK_eq]; simp [h2, this.1, this.2]
  have s1 : Hid ((Txt.cut1 47 p).size ≤ 300) := Nat.le_trans (Txt.cut1_size _ _) hs
  have s2 : Hid ((Txt.cut2 47 p).size ≤ 300) := Nat.le_trans (Txt.cut2_size _ _) hs
  go_enter Tryd.func126, Tryd.ntmps126
  go_wp2_with fail
  refine (cut_any _ _ _ hs).mono ?_
  rintro e w' ⟨rfl, n1, rfl⟩
  go_wp2_with fail
  refine (isDigits_any _ _ s1.out).mono ?_
  rintro e w' ⟨rfl, rfl⟩
  go_wp2_with fail
  exact bodyPost_ret (v := .tuple #[partV 0 0 0, .bool false]) (by simp [results, Tryd.results126, go_sem]) rfl ⟨partR_no KK.out, by repeat (first | exact Below.refl _ _ | refine below_drewN ?_ _ | refine Below.setCell ?_ (by simp) _ | refine Below.alloc ?_ (by simp) _)⟩

set_option maxHeartbeats 1000000 in
theorem rp_c (p : ByteArray) (l g : Int) (w : World) (hs : p.size ≤ 300) (l1 : 0 ≤ l) (l2 : l ≤ 1) (g1 : 6 ≤ g) (g2 : g ≤ 59) (h2 : Txt.cut3 47 p = true) (hd : Txt.digs (Txt.cut1 47 p) = false) :
    Calls Tryd.prog 126 #[.string p, .int .i64 l, .int .i64 g] w fun e w' => PartR (Txt.spK l g p) (Txt.spA l p) (Txt.spB g p) (Txt.spS p) e ∧ Below w.heap.size w w' := by
  have S : Hid (Txt.spS p = Txt.val (Txt.cut2 47 p)) := by unfold Hid; simp [Txt.spS, h2]
  have K0 : Hid (rvK l g (Txt.cut1 47 p) = false → Txt.spK l g p = false) := fun k => by rw [spK_eq]; simp [k]
  have K1 : Hid (Txt.val (Txt.cut2 47 p) < 1 → Txt.spK l g p = false) := fun k => by rw [spK_eq, S.out]; exact decide_eq_false (by omega)
  have K2 : Hid (rvK l g (Txt.cut1 47 p) = true → 1 ≤ Txt.val (Txt.cut2 47 p) → Txt.spK l g p = true) := fun k q => by
    rw [spK_eq, S.out]
    exact decide_eq_true ⟨by rcases rv_nodash l1 hd k with h | h <;> simp [h], q, k⟩
  have s1 : Hid ((Txt.cut1 47 p).size ≤ 300) := Nat.le_trans (Txt.cut1_size _ _) hs
  have s2 : Hid ((Txt.cut2 47 p).size ≤ 300) := Nat.le_trans (Txt.cut2_size _ _) hs
  go_enter Tryd.func126, Tryd.ntmps126
  go_wp2_with fail
  refine (cut_any _ _ _ hs).mono ?_
  rintro e w' ⟨rfl, n1, rfl⟩
  go_wp2_with fail
  refine (isDigits_any _ _ s1.out).mono ?_
  rintro e w' ⟨rfl, rfl⟩
  go_wp2_with fail
  refine (readValues_any _ _ _ _ s1.out l1 l2 g1 g2).mono ?_
  rintro e w1 ⟨hR, hb⟩
  have B1 : Hid (Below w.heap.size w w1) := (below_drewN (below_alloc w _) _).trans (hb.mono (by simp))
  obtain ⟨hc, hf⟩ := bcell hb
  have hz : w.heap.size < w1.heap.size := by have := hb.size; simp at this; omega
  have hz0 : w.heap.size ≤ w1.heap.size := by omega
  clear hb
  have bS := Txt.val_bd (Txt.cut2 47 p)
  rcases hR with ⟨k, rfl⟩ | ⟨k, rfl⟩
  · have kk : Hid (rvK l g (Txt.cut1 47 p) = true) := k
    clear k
    go_wp2_with fail
    refine (readNumber_any _ _ s2.out).mono ?_
    rintro e w' ⟨rfl, rfl⟩
    by_cases q1 : Txt.val (Txt.cut2 47 p) < 0
    · obtain ⟨r1, r2⟩ := num_bad q1
      go_wp2_with fail
      exact bodyPost_ret (v := .tuple #[partV 0 0 0, .bool false]) (by simp [results, Tryd.results126, go_sem, hc, hz]) rfl ⟨partR_no (K1.out (by omega)), by repeat (first | exact Below.refl _ _ | exact B1.out | refine below_drewN ?_ _ | refine Below.setCell ?_ (by simp) _ | refine Below.alloc ?_ (by first | exact hz0 | (simp; done) | (simp; omega)) _)⟩
    obtain ⟨r1, r2⟩ := num_ok (show 0 ≤ Txt.val (Txt.cut2 47 p) by omega)
    by_cases q2 : Txt.val (Txt.cut2 47 p) < 1
    · go_wp2_with fail
      exact bodyPost_ret (v := .tuple #[partV 0 0 0, .bool false]) (by simp [results, Tryd.results126, go_sem, hc, hz]) rfl ⟨partR_no (K1.out (by omega)), by repeat (first | exact Below.refl _ _ | exact B1.out | refine below_drewN ?_ _ | refine Below.setCell ?_ (by simp) _ | refine Below.alloc ?_ (by first | exact hz0 | (simp; done) | (simp; omega)) _)⟩
    go_wp2_with fail
    exact bodyPost_ret (v := .tuple #[partV (rvA l (Txt.cut1 47 p)) (rvB g (Txt.cut1 47 p)) (Txt.val (Txt.cut2 47 p)), .bool true]) (by simp [results, Tryd.results126, go_sem, hc, hz]) rfl ⟨partR_yes (K2.out kk.out (by omega)) rfl rfl S.out, by repeat (first | exact Below.refl _ _ | exact B1.out | refine below_drewN ?_ _ | refine Below.setCell ?_ (by simp) _ | refine Below.alloc ?_ (by first | exact hz0 | (simp; done) | (simp; omega)) _)⟩
  · have KK : Hid (Txt.spK l g p = false) := K0.out k
    clear k
    go_wp2_with fail
    exact bodyPost_ret (v := .tuple #[partV 0 0 0, .bool false]) (by simp [results, Tryd.results126, go_sem, hc, hz]) rfl ⟨partR_no KK.out, by repeat (first | exact Below.refl _ _ | exact B1.out | refine below_drewN ?_ _ | refine Below.setCell ?_ (by simp) _ | refine Below.alloc ?_ (by first | exact hz0 | (simp; done) | (simp; omega)) _)⟩

theorem readPart_any (p : ByteArray) (l g : Int) (w : World) (hs : p.size ≤ 300) (l1 : 0 ≤ l) (l2 : l ≤ 1) (g1 : 6 ≤ g) (g2 : g ≤ 59) :
    Calls Tryd.prog 126 #[.string p, .int .i64 l, .int .i64 g] w fun e w' => PartR (Txt.spK l g p) (Txt.spA l p) (Txt.spB g p) (Txt.spS p) e ∧ Below w.heap.size w w' := by
  cases h2 : Txt.cut3 47 p
  · exact rp_a p l g w hs l1 l2 g1 g2 h2
  · cases hd : Txt.digs (Txt.cut1 47 p)
    · exact rp_c p l g w hs l1 l2 g1 g2 h2 hd
    · exact rp_b p l g w hs l1 l2 g1 g2 h2 hd
end Go.Proofs.YtdajolpoiffimaaDoor
