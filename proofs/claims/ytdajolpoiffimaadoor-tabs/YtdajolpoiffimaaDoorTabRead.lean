/-
  The walk over the program's readField.
-/
import Derived.Test.YtdajolpoiffimaaDoorTabFld2
import Derived.Test.YtdajolpoiffimaaDoorTabSplit
namespace Go.Proofs.YtdajolpoiffimaaDoor
open Go.RowKit

/-- The cells of a part. -/
def pc (l g : Int) (p : ByteArray) : List Value := [.int .i64 (Txt.spA l p), .int .i64 (Txt.spB g p), .int .i64 (Txt.spS p)]
theorem pc_len (l g : Int) (L : List ByteArray) : (L.flatMap (pc l g)).length = L.length * 3 := by
  induction L with
  | nil => rfl
  | cons a r ih => simp [pc, ih]; omega
theorem pc_at (l g : Int) (L : List ByteArray) (k : Nat) (h : k < L.length) (j : Nat) (hj : j < 3) : (L.flatMap (pc l g))[k * 3 + j]? = (pc l g L[k])[j]? := by
  induction L generalizing k with
  | nil => simp at h
  | cons a r ih =>
    cases k with
    | zero =>
      simp only [List.flatMap_cons, Nat.zero_mul, Nat.zero_add, List.getElem_cons_zero]
      rw [List.getElem?_append_left (by simpa [pc] using hj)]
    | succ k =>
      simp only [List.flatMap_cons, List.getElem_cons_succ]
      rw [List.getElem?_append_right (by simp [pc]; omega)]
      have e : (k + 1) * 3 + j - (pc l g a).length = k * 3 + j := by simp [pc]; omega
      rw [e]
      exact ih k (by simpa using h)
theorem parts_of_own {w : World} {base b n cap : Nat} {e : TypeId} {l g : Int} {L : List ByteArray} (h : w.ownsRow base e 3 (.slice (some ⟨b, 0, none⟩) n cap) n (L.flatMap (pc l g))) (hn : n = L.length) : PartsAt w b l g L := by
  intro k hk
  refine ⟨?_, ?_, ?_⟩
  · have := h.cellAt (k * 3) (by omega)
    rw [this]; have := pc_at l g L k hk 0 (by decide); simpa [pc] using this
  · have := h.cellAt (k * 3 + 1) (by omega)
    rw [this]; have := pc_at l g L k hk 1 (by decide); simpa [pc] using this
  · have := h.cellAt (k * 3 + 2) (by omega)
    rw [this]; have := pc_at l g L k hk 2 (by decide); simpa [pc] using this

/-- What holds while a field is read. -/
structure FInv (w wr : World) (base b : Nat) (o : Bool) (v : Value) (L : List ByteArray) (n : Nat) (xs : List Value) : Prop where
  c0 : wr.cell? ⟨w.heap.size + 1, 0, none⟩ = some (.bool o)
  c1 : wr.cell? ⟨w.heap.size + 1, 1, none⟩ = some v
  r0 : wr.cell? ⟨w.heap.size, 0, none⟩ = some (.bool false)
  r1 : wr.cell? ⟨w.heap.size, 1, none⟩ = some (.slice none 0 0)
  f0 : wr.frozen? ⟨w.heap.size, 0, none⟩ = false
  f1 : wr.frozen? ⟨w.heap.size, 1, none⟩ = false
  f2 : wr.frozen? ⟨w.heap.size + 1, 1, none⟩ = false
  strs : StrsAt wr b L
  own : wr.ownsRow base 173 3 v n xs
  bel : Below w.heap.size w wr
  hB : w.heap.size + 1 < base
  hb : b < base
  hbg : w.heap.size + 1 < b
  hbase : base ≤ wr.heap.size
theorem FInv.below {w wr w' : World} {base b : Nat} {o : Bool} {v : Value} {L : List ByteArray} {n : Nat} {xs : List Value} (h : FInv w wr base b o v L n xs) (k : Below wr.heap.size wr w') : FInv w w' base b o v L n xs := by
  have h1 := h.hB; have h2 := h.hbase; have h3 := h.bel.size
  exact ⟨cell_later k h.c0, cell_later k h.c1, cell_later k h.r0, cell_later k h.r1, (k.frozen (by simp; omega)).trans h.f0, (k.frozen (by simp; omega)).trans h.f1, (k.frozen (by simp; omega)).trans h.f2,
    h.strs.later k, own_below h.own k, h.bel.trans (k.mono h3), h.hB, h.hb, h.hbg, Nat.le_trans h2 k.size⟩
theorem FInv.far {w wr w2 : World} {base b : Nat} {o : Bool} {v : Value} {L : List ByteArray} {n : Nat} {xs : List Value} (h : FInv w wr base b o v L n xs) (hg : wr.grownBy w2 v.ownBlock) : Below base wr w2 :=
  (Below.refl _ _).grown hg h.hbase (fun k e => (h.own.lt k e).1)
theorem FInv.app {w wr w2 : World} {base b : Nat} {o : Bool} {v v' : Value} {L : List ByteArray} {n n' : Nat} {xs xs' : List Value} (h : FInv w wr base b o v L n xs) (hg : wr.grownBy w2 v.ownBlock) (ho : w2.ownsRow base 173 3 v' n' xs') :
    FInv w (w2.setCell ⟨w.heap.size + 1, 1, none⟩ v') base b o v' L n' xs' := by
  have k := h.far hg
  have h1 := h.hB; have h2 := h.hbase; have h4 := h.bel.size
  have cell : ∀ (a : Nat) (j : Nat) (u : Value), a < base → ¬ (a = w.heap.size + 1 ∧ j = 1) → wr.cell? ⟨a, j, none⟩ = some u → (w2.setCell ⟨w.heap.size + 1, 1, none⟩ v').cell? ⟨a, j, none⟩ = some u := by
    intro a j u ha hne hc
    rw [World.cell?_setCell_other _ _ _ _ (by first | (simp; done) | (simp; omega)), k.cell (p := ⟨a, j, none⟩) ha]; exact hc
  have fro : ∀ (a j : Nat), a < base → (w2.setCell ⟨w.heap.size + 1, 1, none⟩ v').frozen? ⟨a, j, none⟩ = wr.frozen? ⟨a, j, none⟩ := by
    intro a j ha
    rw [World.frozen?_setCell, k.frozen (p := ⟨a, j, none⟩) ha]
  refine ⟨cell _ _ _ (by omega) (by omega) h.c0, ?_, cell _ _ _ (by omega) (by omega) h.r0, cell _ _ _ (by omega) (by omega) h.r1, (fro _ _ (by omega)).trans h.f0, (fro _ _ (by omega)).trans h.f1, (fro _ _ (by omega)).trans h.f2, ?_, ?_, ?_, h.hB, h.hb, h.hbg, ?_⟩
  · exact World.cell?_setCell_same' _ _ _ (by rw [k.cell (p := ⟨w.heap.size + 1, 1, none⟩) (by simp; omega), h.c1]; rfl)
  · intro j hj
    have := h.hbg
    exact cell _ _ _ h.hb (by omega) (h.strs j hj)
  · exact ownsRow_setCell_below ho (by simp; omega) _
  · exact (h.bel.trans (k.mono (by omega))).setCell (by simp) _
  · have := hg.size; simp [World.setCell]; omega

theorem infoPart : (Tryd.prog.info? 173).map (fun i => (i.zero, i.size, i.bytes)) = some (some (.agg #[.int .i64 0, .int .i64 0, .int .i64 0]), 3, 24) := by kernel_rfl

/-- What readField answers. -/
def FieldR (l g : Int) (f : ByteArray) (h : Nat) (w' : World) (e : Ending) : Prop :=
  (Txt.fldB l g f = true ∧ ∃ b cap, e = .returned (.tuple #[.agg #[.bool (Txt.opn f), .slice (some ⟨b, 0, none⟩) (Txt.pcs 44 f).length cap], .bool true]) ∧ h ≤ b ∧ (Txt.pcs 44 f).length ≤ cap ∧ PartsAt w' b l g (Txt.pcs 44 f)) ∨
  (Txt.fldB l g f = false ∧ e = .returned (.tuple #[.agg #[.bool false, .slice none 0 0], .bool false]))
theorem take_pc (l g : Int) (L : List ByteArray) (k : Nat) (h : k < L.length) : (L.take (k + 1)).flatMap (pc l g) = (L.take k).flatMap (pc l g) ++ pc l g L[k] := by
  rw [List.take_succ_eq_append_getElem h, List.flatMap_append]; simp

set_option maxHeartbeats 1000000 in
theorem readField_a (f : ByteArray) (l g : Int) (w : World) (hs : f.size ≤ 300) (l1 : 0 ≤ l) (l2 : l ≤ 1) (g1 : 6 ≤ g) (g2 : g ≤ 59) (hf0 : 0 < f.size) :
    Calls Tryd.prog 115 #[.string f, .int .i64 l, .int .i64 g] w fun e w' => FieldR l g f w.heap.size w' e ∧ Below w.heap.size w w' := by
  obtain ⟨i0, hi, hz0, hz1, hz2⟩ := info_parts infoPart
  have hlen := Txt.pcs_len 44 f
  have ho : Hid (((f[0].toNat : Int) == 42) = Txt.opn f) := (Txt.opn_at hf0).symm
  go_enter Tryd.func115, Tryd.ntmps115
  go_wp2_with fail
  refine (split_any _ _ _ hs).mono ?_
  rintro e w1 ⟨⟨b, cap, rfl, hge, hcap, hS⟩, hb⟩
  have hsz1 : w.heap.size + 1 < b ∧ b < w1.heap.size := ⟨by simp at hge; omega, World.block_lt_of_cell? _ _ (hS 0 (Txt.pcs_ne _ _))⟩
  have H0 : ∃ o : Bool, o = Txt.opn f ∧ FInv w w1 w1.heap.size b o (.slice none 0 0) (Txt.pcs 44 f) 0 [] := by
    refine ⟨_, ho.out, ?_, ?_, ?_, ?_, ?_, ?_, ?_, hS, World.ownsRow_nil _ _ _ _, ?_, by omega, by omega, by omega, Nat.le_refl _⟩
    · exact cell_later hb (by simp [go_sem])
    · exact cell_later hb (by simp [go_sem])
    · exact cell_later hb (by simp [go_sem])
    · exact cell_later hb (by simp [go_sem])
    · exact (hb.frozen (by simp; omega)).trans (by simp [go_sem])
    · exact (hb.frozen (by simp; omega)).trans (by simp [go_sem])
    · exact (hb.frozen (by simp)).trans (by simp [go_sem])
    · exact ((below_alloc w _).alloc (by simp) _).trans (hb.mono (by simp; omega))
  clear hb hS hge ho
  go_wp2_with fail
  go_loopw [10] (fun x wr => ∃ (k : Nat) (o : Bool) (v : Value), k ≤ (Txt.pcs 44 f).length ∧ x = .int .i64 k ∧ o = Txt.opn f ∧ (∀ j (hj : j < (Txt.pcs 44 f).length), j < k → Txt.spK l g (Txt.pcs 44 f)[j] = true) ∧ FInv w wr w1.heap.size b o v (Txt.pcs 44 f) k (((Txt.pcs 44 f).take k).flatMap (pc l g))) (fun x _ => (Txt.pcs 44 f).length - (intOf x).toNat)
  case atStart =>
    obtain ⟨o, h1, h2⟩ := H0
    exact ⟨0, o, _, Nat.zero_le _, rfl, h1, fun j _ h => by omega, h2⟩
  case round =>
    clear H0
    obtain ⟨k, o, v, hk, rfl, ho, hall, HI⟩ := hrel
    have HO : Hid (o = Txt.opn f) := ho
    have HA : Hid (∀ j (hj : j < (Txt.pcs 44 f).length), j < k → Txt.spK l g (Txt.pcs 44 f)[j] = true) := hall
    clear hall ho
    by_cases hlt : k < (Txt.pcs 44 f).length
    · have hcell := HI.strs k hlt
      have hsz : Hid ((Txt.pcs 44 f)[k].size ≤ 300) := Txt.pcs_sz hs k hlt
      go_wp2_with fail
      refine (readPart_any _ _ _ _ hsz.out l1 l2 g1 g2).mono ?_
      rintro e w2 ⟨hR, hb2⟩
      have HI2 := HI.below hb2
      clear HI hb2 hcell
      have c1 := HI2.c1
      have r0 := HI2.r0
      have r1 := HI2.r1
      have f0 := HI2.f0
      have f1 := HI2.f1
      have f2 := HI2.f2
      have hz : w.heap.size + 1 < w2.heap.size := by have := HI2.hB; have := HI2.hbase; omega
      have hz' : w.heap.size < w2.heap.size := by omega
      rcases hR with ⟨kk, rfl⟩ | ⟨kk, rfl⟩
      · have KK : Hid (Txt.spK l g (Txt.pcs 44 f)[k] = true) := kk
        clear kk
        have hL300 : k ≤ 301 := by omega
        have HB2 : Hid (w1.heap.size ≤ w2.heap.size) := HI2.hbase
        go_wp2_with (at_builtin; refine wpList_append_lies _ rfl (.tmp 44) (.tmp 46) 114 rfl w1.heap.size 173 i0 (.agg #[.int .i64 0, .int .i64 0, .int .i64 0]) 3 24 Tryd.underlying114 hi hz0 hz1 hz2 rfl (by decide) _ _ _ rfl ((HI2.own.alloc _).alloc _) ⟨w2.heap.size + 1, 0, none⟩ 1 1 (pc l g (Txt.pcs 44 f)[k]) rfl rfl ?c1 ?c2 (by decide) ?c3 ?c4 ?c5 _ rfl ?_)
        case c1 =>
          intro j u hj
          match j, hj with
          | 0, hj => simp [pc] at hj; subst hj; simp [Addr.add, go_sem]
          | 1, hj => simp [pc] at hj; subst hj; simp [Addr.add, go_sem]
          | 2, hj => simp [pc] at hj; subst hj; simp [Addr.add, go_sem]
        case c2 => intro u hu; simp [pc] at hu; rcases hu with rfl | rfl | rfl <;> rfl
        case c3 => unfold maxLen; omega
        case c4 => omega
        case c5 => have := HB2.out; simp; omega
        · intro g' cap' w3 hown' hgrow _ hlt'
          have HI3 := (HI2.below (below_alloc w2 (.cells #[.int .i64 (Txt.spA l (Txt.pcs 44 f)[k]), .int .i64 (Txt.spB g (Txt.pcs 44 f)[k]), .int .i64 (Txt.spS (Txt.pcs 44 f)[k])] 173))).below (below_alloc _ (.cells #[.int .i64 (Txt.spA l (Txt.pcs 44 f)[k]), .int .i64 (Txt.spB g (Txt.pcs 44 f)[k]), .int .i64 (Txt.spS (Txt.pcs 44 f)[k])] 173))
          have HF := HI3.far hgrow
          have HI4 := HI3.app hgrow hown'
          rw [← take_pc l g _ k hlt] at HI4
          have d1 : w3.cell? ⟨w.heap.size + 1, 1, none⟩ = some v := (HF.cell (by have := HI3.hB; simp; omega)).trans HI3.c1
          have d2 : w3.frozen? ⟨w.heap.size + 1, 1, none⟩ = false := (HF.frozen (by have := HI3.hB; simp; omega)).trans HI3.f2
          clear hown' hgrow HI2 HI3 HF c1 r0 r1 f0 f1 f2
          go_wp2_with fail
          go_roundw
          case rel =>
            refine ⟨k + 1, o, _, by omega, by go_num, HO.out, fun j hj h => ?_, HI4⟩
            by_cases q : j = k
            · subst q; exact KK.out
            · exact HA.out j hj (by omega)
          case measure => simp [intOf]; omega
      · have KK : Hid (Txt.fldB l g f = false) := Txt.fldB_no hlt kk
        have BB : Hid (Below w.heap.size w w2) := HI2.bel
        clear kk HI2
        go_wp2_with fail
        exact bodyPost_ret (v := .tuple #[.agg #[.bool false, .slice none 0 0], .bool false]) (by simp [results, Tryd.results115, go_sem, r0, r1, hz']) rfl ⟨Or.inr ⟨KK.out, rfl⟩, by repeat (first | exact BB.out | refine Below.setCell ?_ (by simp) _ | refine Below.alloc ?_ (by first | (simp; done) | (simp; omega)) _)⟩
    · obtain rfl : k = (Txt.pcs 44 f).length := by omega
      have KK : Hid (Txt.fldB l g f = true) := Txt.fldB_yes (fun j hj => HA.out j hj hj)
      have hown := HI.own
      rw [List.take_length] at hown
      obtain ⟨g', cap', hv, hgg, _⟩ := hown.form (Txt.pcs_ne _ _)
      subst hv
      have hP : Hid (PartsAt wr g' l g (Txt.pcs 44 f)) := parts_of_own hown rfl
      have hc' : Hid ((Txt.pcs 44 f).length ≤ cap') := by
        rcases hown.2 with ⟨h, _⟩ | ⟨g2, cap2, cur, h, _, _, h2, _⟩
        · cases h
        · cases h; exact h2
      have c0 := HI.c0
      have c1 := HI.c1
      have r0 := HI.r0
      have r1 := HI.r1
      have f0 := HI.f0
      have f1 := HI.f1
      have BB : Hid (Below w.heap.size w wr) := HI.bel
      have hne : Hid (w.heap.size < g') := by have := HI.hB; unfold Hid; omega
      have HOO := HO.out
      subst HOO
      clear HI hown HO
      go_wp2_with fail
      refine bodyPost_ret (v := .tuple #[.agg #[.bool (Txt.opn f), .slice (some ⟨g', 0, none⟩) (Txt.pcs 44 f).length cap'], .bool true]) (by simp [results, Tryd.results115, go_sem, r0, r1]) rfl ⟨Or.inl ⟨KK.out, g', cap', rfl, Nat.le_of_lt hne.out, hc'.out, ?_⟩, by repeat (first | exact BB.out | refine Below.setCell ?_ (by simp) _)⟩
      have ne := hne.out
      intro j hj
      obtain ⟨p0, p1, p2⟩ := hP.out j hj
      refine ⟨?_, ?_, ?_⟩
      · rw [World.cell?_setCell_other _ _ _ _ (by first | (simp; done) | (simp; omega)), World.cell?_setCell_other _ _ _ _ (by first | (simp; done) | (simp; omega))]; exact p0
      · rw [World.cell?_setCell_other _ _ _ _ (by first | (simp; done) | (simp; omega)), World.cell?_setCell_other _ _ _ _ (by first | (simp; done) | (simp; omega))]; exact p1
      · rw [World.cell?_setCell_other _ _ _ _ (by first | (simp; done) | (simp; omega)), World.cell?_setCell_other _ _ _ _ (by first | (simp; done) | (simp; omega))]; exact p2

set_option maxHeartbeats 1000000 in
theorem readField_b (f : ByteArray) (l g : Int) (w : World) (hs : f.size ≤ 300) (l1 : 0 ≤ l) (l2 : l ≤ 1) (g1 : 6 ≤ g) (g2 : g ≤ 59) (hf0 : f.size = 0) :
    Calls Tryd.prog 115 #[.string f, .int .i64 l, .int .i64 g] w fun e w' => FieldR l g f w.heap.size w' e ∧ Below w.heap.size w w' := by
  obtain ⟨i0, hi, hz0, hz1, hz2⟩ := info_parts infoPart
  have hlen := Txt.pcs_len 44 f
  have ho : Hid (false = Txt.opn f) := (Txt.opn_nil hf0).symm
  go_enter Tryd.func115, Tryd.ntmps115
  go_wp2_with fail
  refine (split_any _ _ _ hs).mono ?_
  rintro e w1 ⟨⟨b, cap, rfl, hge, hcap, hS⟩, hb⟩
  have hsz1 : w.heap.size + 1 < b ∧ b < w1.heap.size := ⟨by simp at hge; omega, World.block_lt_of_cell? _ _ (hS 0 (Txt.pcs_ne _ _))⟩
  have H0 : ∃ o : Bool, o = Txt.opn f ∧ FInv w w1 w1.heap.size b o (.slice none 0 0) (Txt.pcs 44 f) 0 [] := by
    refine ⟨_, ho.out, ?_, ?_, ?_, ?_, ?_, ?_, ?_, hS, World.ownsRow_nil _ _ _ _, ?_, by omega, by omega, by omega, Nat.le_refl _⟩
    · exact cell_later hb (by simp [go_sem])
    · exact cell_later hb (by simp [go_sem])
    · exact cell_later hb (by simp [go_sem])
    · exact cell_later hb (by simp [go_sem])
    · exact (hb.frozen (by simp; omega)).trans (by simp [go_sem])
    · exact (hb.frozen (by simp; omega)).trans (by simp [go_sem])
    · exact (hb.frozen (by simp)).trans (by simp [go_sem])
    · exact ((below_alloc w _).alloc (by simp) _).trans (hb.mono (by simp; omega))
  clear hb hS hge ho
  go_wp2_with fail
  go_loopw [10] (fun x wr => ∃ (k : Nat) (o : Bool) (v : Value), k ≤ (Txt.pcs 44 f).length ∧ x = .int .i64 k ∧ o = Txt.opn f ∧ (∀ j (hj : j < (Txt.pcs 44 f).length), j < k → Txt.spK l g (Txt.pcs 44 f)[j] = true) ∧ FInv w wr w1.heap.size b o v (Txt.pcs 44 f) k (((Txt.pcs 44 f).take k).flatMap (pc l g))) (fun x _ => (Txt.pcs 44 f).length - (intOf x).toNat)
  case atStart =>
    obtain ⟨o, h1, h2⟩ := H0
    exact ⟨0, o, _, Nat.zero_le _, rfl, h1, fun j _ h => by omega, h2⟩
  case round =>
    clear H0
    obtain ⟨k, o, v, hk, rfl, ho, hall, HI⟩ := hrel
    have HO : Hid (o = Txt.opn f) := ho
    have HA : Hid (∀ j (hj : j < (Txt.pcs 44 f).length), j < k → Txt.spK l g (Txt.pcs 44 f)[j] = true) := hall
    clear hall ho
    by_cases hlt : k < (Txt.pcs 44 f).length
    · have hcell := HI.strs k hlt
      have hsz : Hid ((Txt.pcs 44 f)[k].size ≤ 300) := Txt.pcs_sz hs k hlt
      go_wp2_with fail
      refine (readPart_any _ _ _ _ hsz.out l1 l2 g1 g2).mono ?_
      rintro e w2 ⟨hR, hb2⟩
      have HI2 := HI.below hb2
      clear HI hb2 hcell
      have c1 := HI2.c1
      have r0 := HI2.r0
      have r1 := HI2.r1
      have f0 := HI2.f0
      have f1 := HI2.f1
      have f2 := HI2.f2
      have hz : w.heap.size + 1 < w2.heap.size := by have := HI2.hB; have := HI2.hbase; omega
      have hz' : w.heap.size < w2.heap.size := by omega
      rcases hR with ⟨kk, rfl⟩ | ⟨kk, rfl⟩
      · have KK : Hid (Txt.spK l g (Txt.pcs 44 f)[k] = true) := kk
        clear kk
        have hL300 : k ≤ 301 := by omega
        have HB2 : Hid (w1.heap.size ≤ w2.heap.size) := HI2.hbase
        go_wp2_with (at_builtin; refine wpList_append_lies _ rfl (.tmp 44) (.tmp 46) 114 rfl w1.heap.size 173 i0 (.agg #[.int .i64 0, .int .i64 0, .int .i64 0]) 3 24 Tryd.underlying114 hi hz0 hz1 hz2 rfl (by decide) _ _ _ rfl ((HI2.own.alloc _).alloc _) ⟨w2.heap.size + 1, 0, none⟩ 1 1 (pc l g (Txt.pcs 44 f)[k]) rfl rfl ?c1 ?c2 (by decide) ?c3 ?c4 ?c5 _ rfl ?_)
        case c1 =>
          intro j u hj
          match j, hj with
          | 0, hj => simp [pc] at hj; subst hj; simp [Addr.add, go_sem]
          | 1, hj => simp [pc] at hj; subst hj; simp [Addr.add, go_sem]
          | 2, hj => simp [pc] at hj; subst hj; simp [Addr.add, go_sem]
        case c2 => intro u hu; simp [pc] at hu; rcases hu with rfl | rfl | rfl <;> rfl
        case c3 => unfold maxLen; omega
        case c4 => omega
        case c5 => have := HB2.out; simp; omega
        · intro g' cap' w3 hown' hgrow _ hlt'
          have HI3 := (HI2.below (below_alloc w2 (.cells #[.int .i64 (Txt.spA l (Txt.pcs 44 f)[k]), .int .i64 (Txt.spB g (Txt.pcs 44 f)[k]), .int .i64 (Txt.spS (Txt.pcs 44 f)[k])] 173))).below (below_alloc _ (.cells #[.int .i64 (Txt.spA l (Txt.pcs 44 f)[k]), .int .i64 (Txt.spB g (Txt.pcs 44 f)[k]), .int .i64 (Txt.spS (Txt.pcs 44 f)[k])] 173))
          have HF := HI3.far hgrow
          have HI4 := HI3.app hgrow hown'
          rw [← take_pc l g _ k hlt] at HI4
          have d1 : w3.cell? ⟨w.heap.size + 1, 1, none⟩ = some v := (HF.cell (by have := HI3.hB; simp; omega)).trans HI3.c1
          have d2 : w3.frozen? ⟨w.heap.size + 1, 1, none⟩ = false := (HF.frozen (by have := HI3.hB; simp; omega)).trans HI3.f2
          clear hown' hgrow HI2 HI3 HF c1 r0 r1 f0 f1 f2
          go_wp2_with fail
          go_roundw
          case rel =>
            refine ⟨k + 1, o, _, by omega, by go_num, HO.out, fun j hj h => ?_, HI4⟩
            by_cases q : j = k
            · subst q; exact KK.out
            · exact HA.out j hj (by omega)
          case measure => simp [intOf]; omega
      · have KK : Hid (Txt.fldB l g f = false) := Txt.fldB_no hlt kk
        have BB : Hid (Below w.heap.size w w2) := HI2.bel
        clear kk HI2
        go_wp2_with fail
        exact bodyPost_ret (v := .tuple #[.agg #[.bool false, .slice none 0 0], .bool false]) (by simp [results, Tryd.results115, go_sem, r0, r1, hz']) rfl ⟨Or.inr ⟨KK.out, rfl⟩, by repeat (first | exact BB.out | refine Below.setCell ?_ (by simp) _ | refine Below.alloc ?_ (by first | (simp; done) | (simp; omega)) _)⟩
    · obtain rfl : k = (Txt.pcs 44 f).length := by omega
      have KK : Hid (Txt.fldB l g f = true) := Txt.fldB_yes (fun j hj => HA.out j hj hj)
      have hown := HI.own
      rw [List.take_length] at hown
      obtain ⟨g', cap', hv, hgg, _⟩ := hown.form (Txt.pcs_ne _ _)
      subst hv
      have hP : Hid (PartsAt wr g' l g (Txt.pcs 44 f)) := parts_of_own hown rfl
      have hc' : Hid ((Txt.pcs 44 f).length ≤ cap') := by
        rcases hown.2 with ⟨h, _⟩ | ⟨g2, cap2, cur, h, _, _, h2, _⟩
        · cases h
        · cases h; exact h2
      have c0 := HI.c0
      have c1 := HI.c1
      have r0 := HI.r0
      have r1 := HI.r1
      have f0 := HI.f0
      have f1 := HI.f1
      have BB : Hid (Below w.heap.size w wr) := HI.bel
      have hne : Hid (w.heap.size < g') := by have := HI.hB; unfold Hid; omega
      have HOO := HO.out
      subst HOO
      clear HI hown HO
      go_wp2_with fail
      refine bodyPost_ret (v := .tuple #[.agg #[.bool (Txt.opn f), .slice (some ⟨g', 0, none⟩) (Txt.pcs 44 f).length cap'], .bool true]) (by simp [results, Tryd.results115, go_sem, r0, r1]) rfl ⟨Or.inl ⟨KK.out, g', cap', rfl, Nat.le_of_lt hne.out, hc'.out, ?_⟩, by repeat (first | exact BB.out | refine Below.setCell ?_ (by simp) _)⟩
      have ne := hne.out
      intro j hj
      obtain ⟨p0, p1, p2⟩ := hP.out j hj
      refine ⟨?_, ?_, ?_⟩
      · rw [World.cell?_setCell_other _ _ _ _ (by first | (simp; done) | (simp; omega)), World.cell?_setCell_other _ _ _ _ (by first | (simp; done) | (simp; omega))]; exact p0
      · rw [World.cell?_setCell_other _ _ _ _ (by first | (simp; done) | (simp; omega)), World.cell?_setCell_other _ _ _ _ (by first | (simp; done) | (simp; omega))]; exact p1
      · rw [World.cell?_setCell_other _ _ _ _ (by first | (simp; done) | (simp; omega)), World.cell?_setCell_other _ _ _ _ (by first | (simp; done) | (simp; omega))]; exact p2


theorem readField_any (f : ByteArray) (l g : Int) (w : World) (hs : f.size ≤ 300) (l1 : 0 ≤ l) (l2 : l ≤ 1) (g1 : 6 ≤ g) (g2 : g ≤ 59) :
    Calls Tryd.prog 115 #[.string f, .int .i64 l, .int .i64 g] w fun e w' => FieldR l g f w.heap.size w' e ∧ Below w.heap.size w w' := by
  by_cases h : 0 < f.size
  · exact readField_a f l g w hs l1 l2 g1 g2 h
  · exact readField_b f l g w hs l1 l2 g1 g2 (by omega)

/-- The same, the answer's shape first. -/
def FieldF (l g : Int) (f : ByteArray) (h : Nat) (w' : World) (o : Bool) (ad : Option Addr) (n c : Nat) (ok : Bool) : Prop :=
  (Txt.fldB l g f = true ∧ ok = true ∧ o = Txt.opn f ∧ ∃ b, ad = some ⟨b, 0, none⟩ ∧ n = (Txt.pcs 44 f).length ∧ h ≤ b ∧ (Txt.pcs 44 f).length ≤ c ∧ PartsAt w' b l g (Txt.pcs 44 f)) ∨
  (Txt.fldB l g f = false ∧ ok = false ∧ o = false ∧ ad = none ∧ n = 0 ∧ c = 0)
theorem readField_flat (f : ByteArray) (l g : Int) (w : World) (hs : f.size ≤ 300) (l1 : 0 ≤ l) (l2 : l ≤ 1) (g1 : 6 ≤ g) (g2 : g ≤ 59) :
    Calls Tryd.prog 115 #[.string f, .int .i64 l, .int .i64 g] w fun e w' => ∃ o ad n c ok, e = .returned (.tuple #[.agg #[.bool o, .slice ad n c], .bool ok]) ∧ Hid (FieldF l g f w.heap.size w' o ad n c ok) ∧ Below w.heap.size w w' := by
  refine (readField_any f l g w hs l1 l2 g1 g2).mono ?_
  rintro e w' ⟨⟨k, b, cap, rfl, h1, h2, h3⟩ | ⟨k, rfl⟩, hb⟩
  · exact ⟨_, _, _, _, _, rfl, Or.inl ⟨k, rfl, rfl, b, rfl, rfl, h1, h2, h3⟩, hb⟩
  · exact ⟨_, _, _, _, _, rfl, Or.inr ⟨k, rfl, rfl, rfl, rfl, rfl⟩, hb⟩
end Go.Proofs.YtdajolpoiffimaaDoor
