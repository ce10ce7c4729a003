/-
  TakeM.
-/
import Derived.Test.YtdajolpoiffimaaGreatDoorO2

namespace Go.Proofs.YtdajolpoiffimaaGreatDoor
namespace Bx
theorem nx_parse {log b more : ByteArray} (h : Nx log b more) : numP 2 ⟨log, false⟩ = ((b.size : Int), ⟨b ++ (be (Crc.sumR b) 4 ++ more), false⟩) ∧ txtP (b.size : Int) ⟨b ++ (be (Crc.sumR b) 4 ++ more), false⟩ = (b, ⟨be (Crc.sumR b) 4 ++ more, false⟩) ∧ numP 4 ⟨be (Crc.sumR b) 4 ++ more, false⟩ = (Crc.sumR b, ⟨more, false⟩) := by
 obtain ⟨e, hb⟩ := h
 have hs := sum_bd b
 refine ⟨?_, txtP_app _ _ _ _ rfl, numP_be _ 4 _ _ hs.1 (by simpa using hs.2)⟩
 have e2 : log = be (b.size : Int) 2 ++ (b ++ (be (Crc.sumR b) 4 ++ more)) := by rw [e]; unfold frame; simp only [ByteArray.append_assoc]
 rw [e2]
 exact numP_be _ 2 _ _ (by omega) (by simp; omega)
theorem take_math {log body : ByteArray} {l chk : Int} {p1 p2 p3 : PS} (h1 : numP 2 ⟨log, false⟩ = (l, p1)) (h2 : txtP l p1 = (body, p2)) (h3 : numP 4 p2 = (chk, p3)) :
 (p3.wrong = true → ¬ ∃ b more, Nx log b more) ∧ (p3.wrong = false → chk = Crc.sumR body → Nx log body p3.rest ∧ l = body.size) ∧ (¬ chk = Crc.sumR body → ¬ ∃ b more, Nx log b more) := by
 have key : ∀ b more, Nx log b more → p3.wrong = false ∧ chk = Crc.sumR body := by
  intro b more hN
  obtain ⟨a1, a2, a3⟩ := nx_parse hN
  rw [h1] at a1
  obtain ⟨rfl, rfl⟩ := Prod.mk.inj a1
  rw [h2] at a2
  obtain ⟨rfl, rfl⟩ := Prod.mk.inj a2
  rw [h3] at a3
  obtain ⟨rfl, rfl⟩ := Prod.mk.inj a3
  exact ⟨rfl, rfl⟩
 refine ⟨fun hw ⟨b, more, hN⟩ => ?_, fun hw hc => ?_, fun hc ⟨b, more, hN⟩ => hc (key b more hN).2⟩
 ·rw [(key b more hN).1] at hw; cases hw
 ·obtain ⟨w2, e2, _, _⟩ := Px.numP_r h3 hw
  obtain ⟨w1, e1, s1⟩ := Px.txtP_r h2 w2
  obtain ⟨_, e0, a0, b0⟩ := Px.numP_r h1 w1
  have hl : l = (body.size : Int) := s1.symm
  have e0' : log = be l 2 ++ p1.rest := e0
  refine ⟨⟨?_, by simp at b0; omega⟩, hl⟩
  rw [e0', e1, e2, hc, hl]
  unfold frame; simp only [ByteArray.append_assoc]
theorem body_tab (c : Ch) : c.kind = 84 → c.tab.size ≤ (body c).size := by
 intro h
 unfold body; rw [if_pos h, ByteArray.size_append]; omega
end Bx
end Go.Proofs.YtdajolpoiffimaaGreatDoor
