/-
  The walks over the program's field.holds and readField.
-/
import Derived.Test.YtdajolpoiffimaaDoorTabFld
import Derived.Test.YtdajolpoiffimaaDoorTabPart2
namespace Go.Proofs.YtdajolpoiffimaaDoor
open Go.RowKit

/-- The parts of a field lie one behind the other. -/
def PartsAt (w : World) (b : Nat) (l g : Int) (L : List ByteArray) : Prop := ∀ k (h : k < L.length), w.cell? ⟨b, k * 3, none⟩ = some (.int .i64 (Txt.spA l L[k])) ∧ w.cell? ⟨b, k * 3 + 1, none⟩ = some (.int .i64 (Txt.spB g L[k])) ∧ w.cell? ⟨b, k * 3 + 2, none⟩ = some (.int .i64 (Txt.spS L[k]))
theorem PartsAt.later {w w' : World} {b : Nat} {l g : Int} {L : List ByteArray} (a : PartsAt w b l g L) (hb : Below w.heap.size w w') : PartsAt w' b l g L :=
  fun k h => ⟨cell_later hb (a k h).1, cell_later hb (a k h).2.1, cell_later hb (a k h).2.2⟩

set_option maxHeartbeats 1000000 in
theorem fieldHolds_any (f : ByteArray) (l g v : Int) (o : Bool) (b cap : Nat) (w : World) (hs : f.size ≤ 300) (l1 : 0 ≤ l) (g2 : g ≤ 59) (v1 : 0 ≤ v) (v2 : v ≤ 60) (hf : Txt.fldB l g f = true) (hP : PartsAt w b l g (Txt.pcs 44 f)) (_hcap : (Txt.pcs 44 f).length ≤ cap) :
    Calls Tryd.prog 102 #[.agg #[.bool o, .slice (some ⟨b, 0, none⟩) (Txt.pcs 44 f).length cap], .int .i64 v] w fun e w' => e = .returned (.bool (Txt.hldB l g v f)) ∧ Below w.heap.size w w' := by
  have HF : Hid (Txt.fldB l g f = true) := hf
  have HP : Hid (∀ o, PartsAt (w.alloc o) b l g (Txt.pcs 44 f)) := fun o => hP.later (below_alloc _ _)
  have hlen := Txt.pcs_len 44 f
  clear hf hP
  go_enter Tryd.func102, Tryd.ntmps102
  go_wp2_with fail
  go_loopw [5] (fun x wr => ∃ k : Nat, k ≤ (Txt.pcs 44 f).length ∧ x = .int .i64 k ∧ (∀ j (hj : j < (Txt.pcs 44 f).length), j < k → Txt.inB (Txt.spA l (Txt.pcs 44 f)[j]) (Txt.spB g (Txt.pcs 44 f)[j]) (Txt.spS (Txt.pcs 44 f)[j]) v = false) ∧ Below (w.alloc (.cells #[.bool o, .slice (some ⟨b, 0, none⟩) (Txt.pcs 44 f).length cap] 116)).heap.size (w.alloc (.cells #[.bool o, .slice (some ⟨b, 0, none⟩) (Txt.pcs 44 f).length cap] 116)) wr) (fun x _ => (Txt.pcs 44 f).length - (intOf x).toNat)
  case atStart => exact ⟨0, Nat.zero_le _, rfl, fun j _ h => by omega, Below.refl _ _⟩
  case round =>
    obtain ⟨k, hk, rfl, hall, hb⟩ := hrel
    have HA : Hid (∀ j (hj : j < (Txt.pcs 44 f).length), j < k → Txt.inB (Txt.spA l (Txt.pcs 44 f)[j]) (Txt.spB g (Txt.pcs 44 f)[j]) (Txt.spS (Txt.pcs 44 f)[j]) v = false) := hall
    clear hall
    have hbox : wr.cell? ⟨w.heap.size, 1, none⟩ = some (.slice (some ⟨b, 0, none⟩) (Txt.pcs 44 f).length cap) := cell_later hb (by simp [go_sem])
    have HB : Hid (Below w.heap.size w wr) := (below_alloc w _).trans (hb.mono (by simp))
    by_cases hlt : k < (Txt.pcs 44 f).length
    · obtain ⟨c0, c1, c2⟩ := ((HP.out _).later hb) k hlt
      have hK := Txt.fldB_at HF.out k hlt
      have hbd := Txt.spK_bd hK
      clear hK
      go_wp2_with fail
      refine (partHolds_any _ _ _ _ _ v1 v2 (by omega) (by omega) (by omega) (by omega)).mono ?_
      rintro e w2 ⟨rfl, hb2⟩
      have hb' := hb.trans (hb2.mono hb.size)
      have HB' : Hid (Below w.heap.size w w2) := HB.out.trans (hb2.mono (by have := hb.size; simp at this; omega))
      clear hb hb2 c0 c1 c2 hbox
      cases hq : Txt.inB (Txt.spA l (Txt.pcs 44 f)[k]) (Txt.spB g (Txt.pcs 44 f)[k]) (Txt.spS (Txt.pcs 44 f)[k]) v
      · have HQ : Hid (Txt.inB (Txt.spA l (Txt.pcs 44 f)[k]) (Txt.spB g (Txt.pcs 44 f)[k]) (Txt.spS (Txt.pcs 44 f)[k]) v = false) := hq
        go_wp2_with fail
        go_roundw
        case rel =>
          refine ⟨k + 1, by omega, by go_num, fun j hj h => ?_, hb'⟩
          by_cases q : j = k
          · subst q; exact HQ.out
          · exact HA.out j hj (by omega)
        case measure => simp [intOf]; omega
      · have e : Hid (Txt.hldB l g v f = true) := Txt.hldB_yes hlt hq
        go_wp2_with fail
        go_ret
        exact ⟨ret_bool' e.out.symm, HB'.out⟩
    · have e : Hid (Txt.hldB l g v f = false) := Txt.hldB_no (fun j hj => HA.out j hj (by omega))
      go_wp2_with fail
      go_ret
      exact ⟨ret_bool' e.out.symm, HB.out⟩
end Go.Proofs.YtdajolpoiffimaaDoor
