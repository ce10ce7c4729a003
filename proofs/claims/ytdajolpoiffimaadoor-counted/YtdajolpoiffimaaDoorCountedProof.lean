/-
  The statement Counted, proved: the row, and its card.
-/
import Derived.Test.YtdajolpoiffimaaDoorH8
import Derived.Test.YtdajolpoiffimaaDoorC2
import Derived.Test.YtdajolpoiffimaaDoorCards
import Derived.Test.YtdajolpoiffimaaDoorTie
namespace Go.Proofs.YtdajolpoiffimaaDoor.counted
open Go.ChangeShapes Go.WideShapes Go.ChangeAt Go.RowKit
open Go.ChangeMaps (open_string shut_string)

/-- What the row's list gives: the tables. -/
theorem table {W : World} (h : laidMetH Tryd.prog Rows.countedRow.laid W) : TT W :=
  Kb.tt_of (Lib.tabIs_of_head gTab gTabType Tryd.underlying162 Tryd.underlying3 cellsInt cellsTab h)
    (Lib.tabIs_of_head Kb.gL Kb.gLType Tryd.underlying165 Tryd.underlying3 cellsInt Kb.cells5 (laidMet.tail h))
    (Lib.tabIs_of_head Kb.gG Kb.gGType Tryd.underlying165 Tryd.underlying3 cellsInt Kb.cells5 (laidMet.tail (laidMet.tail h)))
set_option maxRecDepth 100000 in
theorem contract (H : Type) (enc : TypeId × Value → H) (W : World) (base : Nat) (args : Array Value) (ds gs : List (DataW H)) (before : List MemPlace)
    (hval : ∀ (j : Nat) t v, Tryd.f6.params[j]? = some t → args[j]? = some v → Value.okWide Tryd.prog W .any base t v)
    (hW : DataW.Whole enc Tryd.prog Tryd.f6.params.toList Rows.countedSpec.vars false W args.toList ds gs before) (hL : laidMetH Tryd.prog Rows.countedRow.laid W) :
    Calls Tryd.prog 6 args W fun e W' => ∃ v, e = .returned v ∧ Rows.countedSpec.post enc Tryd.prog Tryd.f6 false true false false W args v W' := by
  have hW' := hW
  obtain ⟨p, q, hA0, hV, rfl, hfz, hnd⟩ := hW
  have hA : DataW.TrodAll enc Tryd.prog W 0 (fun _ => true) true Tryd.f6.params.toList args.toList ds p := hA0
  rw [Tryd.params6] at hA hval
  obtain ⟨v0, vs0, d0, ds0, p0, q0, hargs, rfl, rfl, h0, r0⟩ := trodAll_cons hA
  obtain ⟨v1, vs1, d1, ds1, p1, q1, rfl, rfl, rfl, h1, r1⟩ := trodAll_cons r0
  obtain ⟨rfl, rfl, rfl⟩ := trodAll_nil r1
  obtain rfl : args = #[v0, v1] := by cases args; simp_all
  obtain ⟨rfl, rfl⟩ := trodVars_none hV
  obtain ⟨sa0, sb0, sc0, sd0, rfl, hS0⟩ := Kb.open_setup (hval 0 46 v0 rfl rfl) h0
  obtain ⟨K1, hK1, hKb1, hKl1, hKd1⟩ := Kb.open_nums (hval 1 47 v1 rfl rfl) h1
  unfold maxLen at hKl1
  clear hA0
  refine (kcounted_any sa0 sb0 sc0 sd0 K1 v1 W hS0.1 hS0.2.1 hS0.2.2.1 hS0.2.2.2 (table hL) hK1 (by omega) hKb1).mono fun e W' ⟨he, hg⟩ => ?_
  subst he
  refine ⟨_, rfl, _, _, _, [], p0 ++ (p1 ++ []), [], hW', ?_, ?_, rfl, hg.frame _, fun h => by cases h⟩
  · exact trodAll_cons_mk (shut_bool Tryd.underlying4 _) trodAll_mk0
  · exact trodAll_cons_mk (Below.trod laidOut (by kernel_rfl) (of_decide_eq_true (by kernel_rfl)) h0 hg (fun x hx => by simpa using hW'.lt x (by simp [hx]))) (trodAll_cons_mk (Below.trod laidOut (by kernel_rfl) (of_decide_eq_true (by kernel_rfl)) h1 hg (fun x hx => by simpa using hW'.lt x (by simp [hx]))) trodAll_mk0)

theorem laid_met (os : Os) : laidMet Tryd.prog Rows.countedRow.laid ((Kb.laidWorld os).forCall (fun _ _ => 0) ⟨#[], #[suV 0 0 0 0, .slice none 0 0], []⟩).memory :=
  laidMet_of_run' 8 (by kernel_rfl) (by kernel_rfl)
theorem reads (os : Os) {H : Type} (enc : TypeId × Value → H) : ∃ places, DataW.whole enc Tryd.prog ((Kb.laidWorld os).forCall (fun _ _ => 0) ⟨#[], #[suV 0 0 0 0, .slice none 0 0], []⟩).memory Tryd.f6.params.toList Rows.countedSpec.vars false #[suV 0 0 0 0, .slice none 0 0].toList 8 = some ([.agg [.lit (.int .i64 0), .lit (.int .i64 0), .lit (.int .i64 0), .lit (.int .i64 0)], .nil], [], places) :=
  ⟨[], by kernel_rfl⟩

set_option maxRecDepth 100000 in
theorem lifted (os : Os) (started : os.Started) (H : Type) (enc : TypeId × Value → H) (F : Stop.Interp) :
    ReturnsInHanded {} Tryd.checked os 6 .any ((OpenSpec.ofChange Rows.countedSpec).preRow enc Tryd.prog Tryd.f6 Rows.countedRow.domain false Rows.countedRow.laid) (((OpenSpec.ofChange Rows.countedSpec).at F).post enc Tryd.prog Tryd.f6 false true false false) := by
  obtain ⟨places, hx⟩ := reads os enc
  refine returnsInHanded_of_row (C := Tryd.checked) (s := OpenSpec.ofChange Rows.countedSpec) own started (by kernel_rfl) Tryd.func6
    (witness_row_at (enc := enc) (C := Tryd.checked) false (Kb.laidWorld os) #[suV 0 0 0 0, .slice none 0 0] rfl (by kernel_rfl) (by kernel_rfl) (by kernel_rfl)
      (OpenSpec.preRow_of_cond 8 hx (by kernel_rfl) (fun k hk => by cases hk) (by kernel_rfl) (laid_met os))) ?_
  intro W base args ds gs before hval hW _ _ _ hL _ _
  exact contract H enc W base args ds gs before hval hW hL

theorem said : Rows.CountedSaid :=
  OpenClaim.holds_of_cond 6 Tryd.f6 rfl rfl rfl rfl rfl rfl rfl ⟨rfl, rfl, rfl, rfl, rfl⟩ rfl rfl rfl rfl rfl (by kernel_rfl) Tryd.func6 (by kernel_rfl)
    (of_decide_eq_true (by kernel_rfl)) (by unfold Func.isWrapper; first | (rw [if_pos (by decide +kernel)]; kernel_rfl) | (rw [if_neg (by decide +kernel)]; exact ⟨rfl, rfl⟩))
    (fun os started H enc _ F => by rw [OpenClaim.pre_eq_preRow]; exact lifted os started H enc F)

/-- No parameter wants a stand-in. -/
theorem plain (f : FuncId) (fn : Func) (hf : Tryd.pinned.checked.prog.funcNamed "bellman/bellmankeep.Counted" = some f) (hfn : Tryd.pinned.checked.prog.funcs[f]? = some fn) :
    false = Tryd.pinned.checked.prog.looks [] ∧ ∀ (j : Nat) t, fn.params[j]? = some t → Tryd.pinned.checked.prog.wantsStandIn t = false := by
  obtain rfl : f = 6 := Option.some.inj ((show Tryd.prog.funcNamed "bellman/bellmankeep.Counted" = some 6 by kernel_rfl).symm.trans hf) |>.symm
  obtain rfl : fn = Tryd.f6 := (Option.some.inj (Tryd.func6.symm.trans hfn)).symm
  refine ⟨by kernel_rfl, fun j t ht => ?_⟩
  rw [Tryd.params6] at ht
  have hm : t ∈ [46, 47] := by have h := Array.mem_of_getElem? ht; simp at h; simp [h]
  have hall : ([46, 47].all fun u => !Tryd.prog.wantsStandIn u) = true := by kernel_rfl
  exact (show Tryd.prog.wantsStandIn t = false by simpa using List.all_eq_true.1 hall t hm)
end Go.Proofs.YtdajolpoiffimaaDoor.counted
namespace Go.Proofs.YtdajolpoiffimaaDoor
/-- The card. -/
theorem counted_card : Rows.CountedCardSaid :=
  Claim7.holds_tied_plain_at .later [] _ _ _ _ counted.said (fun _ h => by cases h) (by kernel_rfl) (fun _ h => by cases h) counted_row_tie rfl ⟨rfl, rfl⟩ (by kernel_rfl) rfl counted.plain (by kernel_rfl)
#print axioms counted_card
end Go.Proofs.YtdajolpoiffimaaDoor
