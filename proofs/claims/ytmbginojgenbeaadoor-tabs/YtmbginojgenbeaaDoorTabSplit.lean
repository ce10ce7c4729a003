/-
  The walks over split and parts: a text between the bytes c, as a slice of texts.
-/
import Derived.Test.YtmbginojgenbeaaDoorTabNum
import Derived.Test.YtmbginojgenbeaaDoorMore
import Derived.Deep.AppendLies
namespace Go.Proofs.YtmbginojgenbeaaDoor
open Go.RowKit
open Txt (NoSep)

/-- The element type's row: a string. -/
theorem infoStr : (Tryd.prog.info? 9).map (fun i => (i.zero, i.size, i.bytes)) = some (some (.string ByteArray.empty), 1, 16) := by kernel_rfl

theorem ret_slice {a : Option Addr} {n m cap : Nat} (h : n = m) : Ending.returned (.slice a n cap) = .returned (.slice a m cap) := by rw [h]

/-- Texts lie one behind the other. -/
def StrsAt (w : World) (b : Nat) (L : List ByteArray) : Prop := ∀ k (h : k < L.length), w.cell? ⟨b, k, none⟩ = some (.string L[k])
theorem StrsAt.later {w w' : World} {b : Nat} {L : List ByteArray} (a : StrsAt w b L) (hb : Below w.heap.size w w') : StrsAt w' b L := fun k h => cell_later hb (a k h)
theorem strs_of_own {w : World} {base g n cap : Nat} {e : TypeId} {L : List ByteArray} (h : w.ownsRow base e 1 (.slice (some ⟨g, 0, none⟩) n cap) n (L.map Value.string)) (hn : n = L.length) : StrsAt w g L := by
  intro k hk
  have := h.cellAt k (by omega)
  rw [this]; simp [hk]

set_option maxHeartbeats 1000000 in
theorem split_any (s : ByteArray) (c : Int) (w : World) (hs : s.size ≤ 300) :
    Calls Tryd.prog 51 #[.string s, .int .u8 c] w fun e w' => (∃ b cap, e = .returned (.slice (some ⟨b, 0, none⟩) (Txt.pcs c s).length cap) ∧ w.heap.size ≤ b ∧ (Txt.pcs c s).length ≤ cap ∧ StrsAt w' b (Txt.pcs c s)) ∧ Below w.heap.size w w' := by
  obtain ⟨i0, hi, hz0, hz1, hz2⟩ := info_parts infoStr
  go_enter Tryd.func51, Tryd.ntmps51
  go_wp2_with fail
  go_loopw [5, 6, 7] (fun v st i wr => ∃ (k a : Nat) (L : List ByteArray), k ≤ s.size ∧ a ≤ k ∧ i = .int .i64 k ∧ st = .int .i64 a ∧ L.length ≤ a ∧ Txt.pcs c s = L ++ Txt.pcs c (s.extract a s.size) ∧ NoSep c s a k ∧ wr.ownsRow w.heap.size 9 1 v L.length (L.map Value.string) ∧ Below w.heap.size w wr) (fun _ _ i _ => s.size - (intOf i).toNat)
  case atStart =>
    refine ⟨0, 0, [], Nat.zero_le _, Nat.le_refl _, rfl, rfl, Nat.le_refl _, ?_, NoSep.nil _ _ _, ?_, below_alloc _ _⟩
    · rw [Txt.whole]; rfl
    · exact ⟨rfl, Or.inr ⟨w.heap.size, 0, #[], rfl, Nat.le_refl _, (MapKept.heap_alloc w _).1, Nat.le_refl _, Nat.zero_le _, rfl, rfl⟩⟩
  case round =>
    obtain ⟨k, a, L, hk, ha, rfl, rfl, hL, hp, hn, hown, hnx⟩ := hrel
    have HP : Hid (Txt.pcs c s = L ++ Txt.pcs c (s.extract a s.size)) := hp
    have HN : Hid (NoSep c s a k) := hn
    have hsz := hnx.size
    clear hp hn
    by_cases hlt : k < s.size
    · cases he : ((s[k].toNat : Int) == c)
      · have HN' : Hid (NoSep c s a (k + 1)) := HN.out.snoc hlt he
        go_wp2_with fail
        go_roundw
        case rel => exact ⟨k + 1, a, L, by omega, by omega, by go_num, rfl, hL, HP.out, HN'.out, hown, hnx⟩
        case measure => simp [intOf]; omega
      · have HP' : Hid (Txt.pcs c s = (L ++ [s.extract a k]) ++ Txt.pcs c (s.extract (k + 1) s.size)) := by
          unfold Hid; rw [HP.out, Txt.pcs_step HN.out hlt ha he]; simp
        go_wp2_with (at_builtin; refine wpList_append_lies _ rfl (.tmp 20) (.tmp 25) 47 rfl w.heap.size 9 i0 (.string ByteArray.empty) 1 16 Tryd.underlying47 hi hz0 hz1 hz2 rfl (by decide) _ _ _ rfl (hown.alloc _) ⟨wr.heap.size, 0, none⟩ 1 1 [.string (s.extract a k)] rfl rfl ?c1 ?c2 (by decide) ?c3 ?c4 ?c5 _ rfl ?_)
        case c1 => exact cell_one_new _ _ _
        case c2 => intro u hu; simp at hu; subst hu; rfl
        case c3 => unfold maxLen; omega
        case c4 => omega
        case c5 => simp; omega
        · intro g cap w1 hown' hgrow _ hlt'
          have B1 : Below w.heap.size w w1 := (hnx.alloc hsz _).grown hgrow (by simp; omega) (fun k' e => (hown.lt k' e).1)
          have hown2 : w1.ownsRow w.heap.size 9 1 (.slice (some ⟨g, 0, none⟩) (L.length + 1) cap) (L ++ [s.extract a k]).length ((L ++ [s.extract a k]).map Value.string) := by simpa using hown'
          clear hown' hgrow hown hnx
          go_wp2_with fail
          go_roundw
          case rel => exact ⟨k + 1, k + 1, L ++ [s.extract a k], by omega, by omega, by go_num, by go_num, by simp; omega, HP'.out, NoSep.nil _ _ _, hown2, B1⟩
          case measure => simp [intOf]; omega
    · obtain rfl : k = s.size := by omega
      have HP' : Hid (Txt.pcs c s = L ++ [s.extract a s.size]) := by unfold Hid; rw [HP.out, Txt.pcs_last HN.out]
      go_wp2_with (at_builtin; refine wpList_append_lies _ rfl (.tmp 29) (.tmp 33) 47 rfl w.heap.size 9 i0 (.string ByteArray.empty) 1 16 Tryd.underlying47 hi hz0 hz1 hz2 rfl (by decide) _ _ _ rfl (hown.alloc _) ⟨wr.heap.size, 0, none⟩ 1 1 [.string (s.extract a s.size)] rfl rfl ?c1 ?c2 (by decide) ?c3 ?c4 ?c5 _ rfl ?_)
      case c1 => exact cell_one_new _ _ _
      case c2 => intro u hu; simp at hu; subst hu; rfl
      case c3 => unfold maxLen; omega
      case c4 => omega
      case c5 => simp; omega
      · intro g cap w1 hown' hgrow _ hlt'
        have B1 : Below w.heap.size w w1 := (hnx.alloc hsz _).grown hgrow (by simp; omega) (fun k' e => (hown.lt k' e).1)
        have hown2 : w1.ownsRow w.heap.size 9 1 (.slice (some ⟨g, 0, none⟩) (L.length + 1) cap) (L.length + 1) ((L ++ [s.extract a s.size]).map Value.string) := by simpa using hown'
        have hlen : L.length + 1 = (Txt.pcs c s).length := by rw [HP'.out]; simp
        have hA : StrsAt w1 g (Txt.pcs c s) := by rw [HP'.out]; exact strs_of_own hown2 (by simp)
        have hcap : L.length + 1 ≤ cap ∧ w.heap.size ≤ g := by
          rcases hown2.2 with ⟨h, _⟩ | ⟨g', cap', cur, h, h3, _, h2, _⟩
          · cases h
          · cases h; exact ⟨h2, h3⟩
        clear hown' hgrow hown hnx hown2
        go_wp2_with fail
        go_ret
        exact ⟨⟨g, cap, ret_slice hlen, hcap.2, by omega, hA⟩, B1⟩

theorem ownsRow_drewN {w : World} {base : Nat} {e : TypeId} {size : Nat} {v : Value} {n : Nat} {xs : List Value} (h : w.ownsRow base e size v n xs) (k : Nat) : (w.drewN k).ownsRow base e size v n xs := h
/-- How long a text in a slot is; whether there is more. -/
def strSize : Value → Nat | .string y => y.size | _ => 0
def boolSize : Value → Nat | .bool true => 1 | _ => 0
theorem parts_step (c : Int) (y : ByteArray) (L : List ByteArray) (n : Nat) (h : L.length + y.size ≤ n + (if true = true then 0 else 1)) :
    (L ++ [Txt.cut1 c y]).length + (Txt.cut2 c y).size ≤ n + (if Txt.cut3 c y = true then 0 else 1) ∧ (Txt.cut2 c y).size + boolSize (.bool (Txt.cut3 c y)) < y.size + 1 := by
  cases q : Txt.cut3 c y
  · have hf : ¬ Txt.fst c y < y.size := by simpa [Txt.cut3] using q
    have e : Txt.cut2 c y = ByteArray.empty := by simp [Txt.cut2, hf]
    simp [e, boolSize] at h ⊢; omega
  · have := Txt.cut2_lt q
    simp [boolSize] at h ⊢; omega
theorem parts_pcs (c : Int) (s y : ByteArray) (L : List ByteArray) (h : Txt.pcs c s = L ++ (if true = true then Txt.pcs c y else [])) :
    Txt.pcs c s = (L ++ [Txt.cut1 c y]) ++ (if Txt.cut3 c y = true then Txt.pcs c (Txt.cut2 c y) else []) := by
  rw [h, if_pos rfl, Txt.pcs_cut]
  cases Txt.cut3 c y <;> simp

set_option maxHeartbeats 1000000 in
theorem parts_any (s : ByteArray) (c : Int) (w : World) (hs : s.size ≤ 300) :
    Calls Tryd.prog 35 #[.string s, .int .u8 c] w fun e w' => (∃ b cap, e = .returned (.slice (some ⟨b, 0, none⟩) (Txt.pcs c s).length cap) ∧ w.heap.size ≤ b ∧ (Txt.pcs c s).length ≤ cap ∧ StrsAt w' b (Txt.pcs c s)) ∧ Below w.heap.size w w' := by
  obtain ⟨i0, hi, hz0, hz1, hz2⟩ := info_parts infoStr
  go_enter Tryd.func35, Tryd.ntmps35
  go_wp2_with fail
  go_loopw [0, 5, 6] (fun x v m wr => ∃ (y : ByteArray) (L : List ByteArray) (more : Bool), y.size ≤ 300 ∧ x = .string y ∧ m = .bool more ∧ L.length + y.size ≤ s.size + (if more = true then 0 else 1) ∧ Txt.pcs c s = L ++ (if more = true then Txt.pcs c y else []) ∧ wr.ownsRow w.heap.size 9 1 v L.length (L.map Value.string) ∧ Below w.heap.size w wr) (fun x _ m _ => strSize x + boolSize m)
  case atStart => exact ⟨s, [], true, hs, rfl, rfl, by simp, by simp, World.ownsRow_nil _ _ _ _, Below.refl _ _⟩
  case round =>
    obtain ⟨y, L, more, hy, rfl, rfl, hL, hp, hown, hnx⟩ := hrel
    have hsz := hnx.size
    cases more
    · have HP : Hid (Txt.pcs c s = L) := by unfold Hid; rw [hp]; simp
      clear hp
      have hne : 0 < L.length := by have := Txt.pcs_ne c s; rw [HP.out] at this; exact this
      obtain ⟨g, cap, hv, hge, _⟩ := hown.form hne
      have HV : Hid (u5 = Value.slice (some ⟨g, 0, none⟩) (Txt.pcs c s).length cap) := by unfold Hid; rw [HP.out]; exact hv
      have hown2 := hown
      rw [hv] at hown2
      have hA : Hid (StrsAt wr g (Txt.pcs c s)) := by unfold Hid; rw [HP.out]; exact strs_of_own hown2 rfl
      have hcap : Hid ((Txt.pcs c s).length ≤ cap) := by
        unfold Hid; rw [HP.out]
        rcases hown2.2 with ⟨h, _⟩ | ⟨g', cap', cur, h, _, _, h2, _⟩
        · cases h
        · cases h; exact h2
      clear hown2 hown hL hv
      go_wp2_with fail
      go_ret
      exact ⟨⟨g, cap, congrArg Ending.returned HV.out, hge, hcap.out, hA.out⟩, hnx⟩
    · have HS : Hid ((L ++ [Txt.cut1 c y]).length + (Txt.cut2 c y).size ≤ s.size + (if Txt.cut3 c y = true then 0 else 1) ∧ (Txt.cut2 c y).size + boolSize (.bool (Txt.cut3 c y)) < y.size + 1) := parts_step c y L _ hL
      have HP : Hid (Txt.pcs c s = (L ++ [Txt.cut1 c y]) ++ (if Txt.cut3 c y = true then Txt.pcs c (Txt.cut2 c y) else [])) := parts_pcs c s y L hp
      have HY : Hid ((Txt.cut2 c y).size ≤ 300) := Nat.le_trans (Txt.cut2_size _ _) hy
      have hLn : L.length ≤ 300 := by simp at hL; omega
      clear hp hL
      go_wp2_with fail
      refine (rcut_any _ _ _ hy).mono ?_
      rintro e w' ⟨rfl, n1, rfl⟩
      go_wp2_with (at_builtin; refine wpList_append_lies _ rfl (.tmp 18) (.tmp 20) 47 rfl w.heap.size 9 i0 (.string ByteArray.empty) 1 16 Tryd.underlying47 hi hz0 hz1 hz2 rfl (by decide) _ _ _ rfl (ownsRow_drewN (hown.alloc _) _) ⟨wr.heap.size, 0, none⟩ 1 1 [.string (Txt.cut1 c y)] rfl rfl ?c1 ?c2 (by decide) ?c3 ?c4 ?c5 _ rfl ?_)
      case c1 => exact cell_one_new _ _ _
      case c2 => intro u hu; simp at hu; subst hu; rfl
      case c3 => unfold maxLen; omega
      case c4 => omega
      case c5 => simp; omega
      · intro g cap w1 hown' hgrow _ hlt'
        have B1 : Below w.heap.size w w1 := (below_drewN (hnx.alloc hsz _) _).grown hgrow (by simp; omega) (fun k' e => (hown.lt k' e).1)
        have hown2 : w1.ownsRow w.heap.size 9 1 (.slice (some ⟨g, 0, none⟩) (L.length + 1) cap) (L ++ [Txt.cut1 c y]).length ((L ++ [Txt.cut1 c y]).map Value.string) := by simpa using hown'
        clear hown' hgrow hown hnx
        go_wp2_with fail
        go_roundw
        case rel => exact ⟨Txt.cut2 c y, L ++ [Txt.cut1 c y], Txt.cut3 c y, HY.out, rfl, rfl, HS.out.1, HP.out, hown2, B1⟩
        case measure => exact HS.out.2
end Go.Proofs.YtmbginojgenbeaaDoor
