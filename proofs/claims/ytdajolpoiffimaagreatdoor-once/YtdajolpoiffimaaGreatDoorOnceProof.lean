/-
  The statement Once, proved: the row, and its card.
-/
import Derived.Test.YtdajolpoiffimaaGreatDoorK11
import Derived.Test.YtdajolpoiffimaaGreatDoorK14
import Derived.Test.YtdajolpoiffimaaGreatDoorCards
import Derived.Test.YtdajolpoiffimaaGreatDoorTie
namespace Go.Proofs.YtdajolpoiffimaaGreatDoor.once
open Go.ChangeShapes Go.WideShapes Go.ChangeAt Go.RowKit
open Go.ChangeMaps (open_string shut_string)

/-- What the row's list gives: the tables. -/
theorem table {W : World} (h : laidMetH Tryz.prog Rows.onceRow.laid W) : TT W :=
  Kb.tt_of (Lib.tabIs_of_head gTab gTabType Tryz.underlying277 Tryz.underlying3 cellsInt cellsTab h)
    (Lib.tabIs_of_head Kb.gL Kb.gLType Tryz.underlying251 Tryz.underlying3 cellsInt Kb.cells5 (laidMet.tail h))
    (Lib.tabIs_of_head Kb.gG Kb.gGType Tryz.underlying251 Tryz.underlying3 cellsInt Kb.cells5 (laidMet.tail (laidMet.tail h)))
set_option maxRecDepth 100000 in
theorem contract (H : Type) (enc : TypeId × Value → H) (W : World) (base : Nat) (args : Array Value) (ds gs : List (DataW H)) (before : List MemPlace)
    (hval : ∀ (j : Nat) t v, Tryz.f7.params[j]? = some t → args[j]? = some v → Value.okWide Tryz.prog W .any base t v)
    (hW : DataW.Whole enc Tryz.prog Tryz.f7.params.toList Rows.onceSpec.vars false W args.toList ds gs before) (hL : laidMetH Tryz.prog Rows.onceRow.laid W) :
    Calls Tryz.prog 7 args W fun e W' => ∃ v, e = .returned v ∧ Rows.onceSpec.post enc Tryz.prog Tryz.f7 false true false false W args v W' := by
  have hW' := hW
  obtain ⟨p, q, hA0, hV, rfl, hfz, hnd⟩ := hW
  have hA : DataW.TrodAll enc Tryz.prog W 0 (fun _ => true) true Tryz.f7.params.toList args.toList ds p := hA0
  rw [Tryz.params7] at hA hval
  obtain ⟨v0, vs0, d0, ds0, p0, q0, hargs, rfl, rfl, h0, r0⟩ := trodAll_cons hA
  obtain ⟨v1, vs1, d1, ds1, p1, q1, rfl, rfl, rfl, h1, r1⟩ := trodAll_cons r0
  obtain ⟨rfl, rfl, rfl⟩ := trodAll_nil r1
  obtain rfl : args = #[v0, v1] := by cases args; simp_all
  obtain ⟨rfl, rfl⟩ := trodVars_none hV
  obtain ⟨sa0, sb0, sc0, sd0, rfl, hS0⟩ := Kb.open_setup (hval 0 37 v0 rfl rfl) h0
  obtain ⟨L1, hL1, hLs1, hLl1, hLd1⟩ := Kb.open_steps (hval 1 38 v1 rfl rfl) h1
  unfold maxLen at hLl1
  clear hA0
  refine (kOnce_any sa0 sb0 sc0 sd0 L1 v1 W hS0.1 hS0.2.1 hS0.2.2.1 hS0.2.2.2 (table hL) hL1 (by omega) hLs1).mono fun e W' ⟨he, hg⟩ => ?_
  subst he
  refine ⟨_, rfl, _, _, _, [], p0 ++ (p1 ++ []), [], hW', ?_, ?_, rfl, hg.frame _, fun h => by cases h⟩
  · exact trodAll_cons_mk (shut_bool Tryz.underlying4 _) trodAll_mk0
  · exact trodAll_cons_mk (Below.trod laidOut (by kernel_rfl) (of_decide_eq_true (by kernel_rfl)) h0 hg (fun x hx => by simpa using hW'.lt x (by simp [hx]))) (trodAll_cons_mk (Below.trod laidOut (by kernel_rfl) (of_decide_eq_true (by kernel_rfl)) h1 hg (fun x hx => by simpa using hW'.lt x (by simp [hx]))) trodAll_mk0)

theorem laid_met (os : Os) : laidMet Tryz.prog Rows.onceRow.laid ((Kb.laidWorld os).forCall (fun _ _ => 0) ⟨#[], #[suV 0 0 0 0, .slice none 0 0], []⟩).memory :=
  laidMet_of_run' 8 (by kernel_rfl) (by kernel_rfl)
theorem reads (os : Os) {H : Type} (enc : TypeId × Value → H) : ∃ places, DataW.whole enc Tryz.prog ((Kb.laidWorld os).forCall (fun _ _ => 0) ⟨#[], #[suV 0 0 0 0, .slice none 0 0], []⟩).memory Tryz.f7.params.toList Rows.onceSpec.vars false #[suV 0 0 0 0, .slice none 0 0].toList 8 = some ([.agg [.lit (.int .i64 0), .lit (.int .i64 0), .lit (.int .i64 0), .lit (.int .i64 0)], .nil], [], places) :=
  ⟨[], by kernel_rfl⟩

set_option maxRecDepth 100000 in
theorem lifted (os : Os) (started : os.Started) (H : Type) (enc : TypeId × Value → H) (F : Stop.Interp) :
    ReturnsInHanded {} Tryz.checked os 7 .any ((OpenSpec.ofChange Rows.onceSpec).preRow enc Tryz.prog Tryz.f7 Rows.onceRow.domain false Rows.onceRow.laid) (((OpenSpec.ofChange Rows.onceSpec).at F).post enc Tryz.prog Tryz.f7 false true false false) := by
  obtain ⟨places, hx⟩ := reads os enc
  refine returnsInHanded_of_row (C := Tryz.checked) (s := OpenSpec.ofChange Rows.onceSpec) own started (by kernel_rfl) Tryz.func7
    (witness_row_at (enc := enc) (C := Tryz.checked) false (Kb.laidWorld os) #[suV 0 0 0 0, .slice none 0 0] rfl (by kernel_rfl) (by kernel_rfl) (by kernel_rfl)
      (OpenSpec.preRow_of_cond 8 hx (by kernel_rfl) (fun k hk => by cases hk) (by kernel_rfl) (laid_met os))) ?_
  intro W base args ds gs before hval hW _ _ _ hL _ _
  exact contract H enc W base args ds gs before hval hW hL

theorem said : Rows.OnceSaid :=
  OpenClaim.holds_of_cond 7 Tryz.f7 rfl rfl rfl rfl rfl rfl rfl ⟨rfl, rfl, rfl, rfl, rfl⟩ rfl rfl rfl rfl rfl (by kernel_rfl) Tryz.func7 (by kernel_rfl)
    (of_decide_eq_true (by kernel_rfl)) (by unfold Func.isWrapper; first | (rw [if_pos (by decide +kernel)]; kernel_rfl) | (rw [if_neg (by decide +kernel)]; exact ⟨rfl, rfl⟩))
    (fun os started H enc _ F => by rw [OpenClaim.pre_eq_preRow]; exact lifted os started H enc F)

/-- No parameter wants a stand-in. -/
theorem plain (f : FuncId) (fn : Func) (hf : Tryz.pinned.checked.prog.funcNamed "bellman/bellmankeep.Once" = some f) (hfn : Tryz.pinned.checked.prog.funcs[f]? = some fn) :
    false = Tryz.pinned.checked.prog.looks [] ∧ ∀ (j : Nat) t, fn.params[j]? = some t → Tryz.pinned.checked.prog.wantsStandIn t = false := by
  obtain rfl : f = 7 := Option.some.inj ((show Tryz.prog.funcNamed "bellman/bellmankeep.Once" = some 7 by kernel_rfl).symm.trans hf) |>.symm
  obtain rfl : fn = Tryz.f7 := (Option.some.inj (Tryz.func7.symm.trans hfn)).symm
  refine ⟨by kernel_rfl, fun j t ht => ?_⟩
  rw [Tryz.params7] at ht
  have hm : t ∈ [37, 38] := by have h := Array.mem_of_getElem? ht; simp at h; simp [h]
  have hall : ([37, 38].all fun u => !Tryz.prog.wantsStandIn u) = true := by kernel_rfl
  exact (show Tryz.prog.wantsStandIn t = false by simpa using List.all_eq_true.1 hall t hm)
end Go.Proofs.YtdajolpoiffimaaGreatDoor.once
namespace Go.Proofs.YtdajolpoiffimaaGreatDoor
/-- The card. -/
theorem once_card : Rows.OnceCardSaid :=
  Claim7.holds_tied_plain_at .later [] _ _ _ _ once.said (fun _ h => by cases h) (by kernel_rfl) (fun _ h => by cases h) once_row_tie rfl ⟨rfl, rfl⟩ (by kernel_rfl) rfl once.plain (by kernel_rfl)
#print axioms once_card
end Go.Proofs.YtdajolpoiffimaaGreatDoor
