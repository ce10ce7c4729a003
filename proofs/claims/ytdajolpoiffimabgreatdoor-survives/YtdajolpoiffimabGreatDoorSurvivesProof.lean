/-
  The statement Survives, proved: the row, and its card.
-/
import Derived.Test.YtdajolpoiffimabGreatDoorC11
import Derived.Test.YtdajolpoiffimabGreatDoorC13
import Derived.Test.YtdajolpoiffimabGreatDoorV2
import Derived.Test.YtdajolpoiffimabGreatDoorCards
import Derived.Test.YtdajolpoiffimabGreatDoorTie
namespace Go.Proofs.YtdajolpoiffimabGreatDoor.survives
open Go.ChangeShapes Go.WideShapes Go.ChangeAt Go.RowKit
open Go.ChangeMaps (open_string shut_string)

/-- What the row's list gives: the tables. -/
theorem table {W : World} (h : laidMetH Tryz.prog Rows.survivesRow.laid W) : TT W :=
  Kb.tt_of (Lib.tabIs_of_head gTab gTabType Tryz.underlying269 Tryz.underlying3 cellsInt cellsTab h)
    (Lib.tabIs_of_head Kb.gL Kb.gLType Tryz.underlying230 Tryz.underlying3 cellsInt Kb.cells5 (laidMet.tail h))
    (Lib.tabIs_of_head Kb.gG Kb.gGType Tryz.underlying230 Tryz.underlying3 cellsInt Kb.cells5 (laidMet.tail (laidMet.tail h)))
set_option maxRecDepth 100000 in
theorem contract (H : Type) (enc : TypeId × Value → H) (W : World) (base : Nat) (args : Array Value) (ds gs : List (DataW H)) (before : List MemPlace)
    (hval : ∀ (j : Nat) t v, Tryz.f3.params[j]? = some t → args[j]? = some v → Value.okWide Tryz.prog W .any base t v)
    (hW : DataW.Whole enc Tryz.prog Tryz.f3.params.toList Rows.survivesSpec.vars false W args.toList ds gs before) (hL : laidMetH Tryz.prog Rows.survivesRow.laid W) :
    Calls Tryz.prog 3 args W fun e W' => ∃ v, e = .returned v ∧ Rows.survivesSpec.post enc Tryz.prog Tryz.f3 false true false false W args v W' := by
  have hW' := hW
  obtain ⟨p, q, hA0, hV, rfl, hfz, hnd⟩ := hW
  have hA : DataW.TrodAll enc Tryz.prog W 0 (fun _ => true) true Tryz.f3.params.toList args.toList ds p := hA0
  rw [Tryz.params3] at hA hval
  obtain ⟨v0, vs0, d0, ds0, p0, q0, hargs, rfl, rfl, h0, r0⟩ := trodAll_cons hA
  obtain ⟨v1, vs1, d1, ds1, p1, q1, rfl, rfl, rfl, h1, r1⟩ := trodAll_cons r0
  obtain ⟨v2, vs2, d2, ds2, p2, q2, rfl, rfl, rfl, h2, r2⟩ := trodAll_cons r1
  obtain ⟨v3, vs3, d3, ds3, p3, q3, rfl, rfl, rfl, h3, r3⟩ := trodAll_cons r2
  obtain ⟨rfl, rfl, rfl⟩ := trodAll_nil r3
  obtain rfl : args = #[v0, v1, v2, v3] := by cases args; simp_all
  obtain ⟨rfl, rfl⟩ := trodVars_none hV
  obtain ⟨sa0, sb0, sc0, sd0, rfl, hS0⟩ := Kb.open_setup (hval 0 23 v0 rfl rfl) h0
  obtain ⟨L1, hL1, hLs1, hLl1, hLd1⟩ := Kb.open_steps (hval 1 24 v1 rfl rfl) h1
  obtain ⟨ka2, kb2, kc2, rfl, hZ2⟩ := Kb.open_step (hval 2 26 v2 rfl rfl) h2
  obtain ⟨n3, rfl, rfl, rfl, wn3⟩ := open_int Tryz.underlying3 (hval 3 3 v3 rfl rfl) h3
  have bn3 := bounds_i64 wn3
  unfold maxLen at hLl1
  clear hA0
  refine (kSurvives_any sa0 sb0 sc0 sd0 L1 v1 ka2 kb2 kc2 n3 W hS0.1 hS0.2.1 hS0.2.2.1 hS0.2.2.2 (table hL) hL1 (by omega) hLs1 hZ2.1 hZ2.2 bn3).mono fun e W' ⟨he, hg⟩ => ?_
  subst he
  refine ⟨_, rfl, _, _, _, [], p0 ++ (p1 ++ (p2 ++ ([] ++ []))), [], hW', ?_, ?_, rfl, hg.frame _, fun h => by cases h⟩
  · exact trodAll_cons_mk (shut_bool Tryz.underlying4 _) trodAll_mk0
  · exact trodAll_cons_mk (Below.trod laidOut (by kernel_rfl) (of_decide_eq_true (by kernel_rfl)) h0 hg (fun x hx => by simpa using hW'.lt x (by simp [hx]))) (trodAll_cons_mk (Below.trod laidOut (by kernel_rfl) (of_decide_eq_true (by kernel_rfl)) h1 hg (fun x hx => by simpa using hW'.lt x (by simp [hx]))) (trodAll_cons_mk (Below.trod laidOut (by kernel_rfl) (of_decide_eq_true (by kernel_rfl)) h2 hg (fun x hx => by simpa using hW'.lt x (by simp [hx]))) (trodAll_cons_mk (shut_int Tryz.underlying3 wn3) trodAll_mk0)))

theorem laid_met (os : Os) : laidMet Tryz.prog Rows.survivesRow.laid ((Kb.laidWorld os).forCall (fun _ _ => 0) ⟨#[], #[suV 0 0 0 0, .slice none 0 0, skV 0 0 ByteArray.empty, .int .i64 0], []⟩).memory :=
  laidMet_of_run' 8 (by kernel_rfl) (by kernel_rfl)
theorem reads (os : Os) {H : Type} (enc : TypeId × Value → H) : ∃ places, DataW.whole enc Tryz.prog ((Kb.laidWorld os).forCall (fun _ _ => 0) ⟨#[], #[suV 0 0 0 0, .slice none 0 0, skV 0 0 ByteArray.empty, .int .i64 0], []⟩).memory Tryz.f3.params.toList Rows.survivesSpec.vars false #[suV 0 0 0 0, .slice none 0 0, skV 0 0 ByteArray.empty, .int .i64 0].toList 8 = some ([.agg [.lit (.int .i64 0), .lit (.int .i64 0), .lit (.int .i64 0), .lit (.int .i64 0)], .nil, .agg [.lit (.int .i64 0), .lit (.int .i64 0), .lit (.string [])], .lit (.int .i64 0)], [], places) :=
  ⟨[], by kernel_rfl⟩

set_option maxRecDepth 100000 in
theorem lifted (os : Os) (started : os.Started) (H : Type) (enc : TypeId × Value → H) (F : Stop.Interp) :
    ReturnsInHanded {} Tryz.checked os 3 .any ((OpenSpec.ofChange Rows.survivesSpec).preRow enc Tryz.prog Tryz.f3 Rows.survivesRow.domain false Rows.survivesRow.laid) (((OpenSpec.ofChange Rows.survivesSpec).at F).post enc Tryz.prog Tryz.f3 false true false false) := by
  obtain ⟨places, hx⟩ := reads os enc
  refine returnsInHanded_of_row (C := Tryz.checked) (s := OpenSpec.ofChange Rows.survivesSpec) own started (by kernel_rfl) Tryz.func3
    (witness_row_at (enc := enc) (C := Tryz.checked) false (Kb.laidWorld os) #[suV 0 0 0 0, .slice none 0 0, skV 0 0 ByteArray.empty, .int .i64 0] rfl (by kernel_rfl) (by kernel_rfl) (by kernel_rfl)
      (OpenSpec.preRow_of_cond 8 hx (by kernel_rfl) (fun k hk => by cases hk) (by kernel_rfl) (laid_met os))) ?_
  intro W base args ds gs before hval hW _ _ _ hL _ _
  exact contract H enc W base args ds gs before hval hW hL

theorem said : Rows.SurvivesSaid :=
  OpenClaim.holds_of_cond 3 Tryz.f3 rfl rfl rfl rfl rfl rfl rfl ⟨rfl, rfl, rfl, rfl, rfl⟩ rfl rfl rfl rfl rfl (by kernel_rfl) Tryz.func3 (by kernel_rfl)
    (of_decide_eq_true (by kernel_rfl)) (by unfold Func.isWrapper; first | (rw [if_pos (by decide +kernel)]; kernel_rfl) | (rw [if_neg (by decide +kernel)]; exact ⟨rfl, rfl⟩))
    (fun os started H enc _ F => by rw [OpenClaim.pre_eq_preRow]; exact lifted os started H enc F)

/-- No parameter wants a stand-in. -/
theorem plain (f : FuncId) (fn : Func) (hf : Tryz.pinned.checked.prog.funcNamed "bellman/bellmankeep.Survives" = some f) (hfn : Tryz.pinned.checked.prog.funcs[f]? = some fn) :
    false = Tryz.pinned.checked.prog.looks [] ∧ ∀ (j : Nat) t, fn.params[j]? = some t → Tryz.pinned.checked.prog.wantsStandIn t = false := by
  obtain rfl : f = 3 := Option.some.inj ((show Tryz.prog.funcNamed "bellman/bellmankeep.Survives" = some 3 by kernel_rfl).symm.trans hf) |>.symm
  obtain rfl : fn = Tryz.f3 := (Option.some.inj (Tryz.func3.symm.trans hfn)).symm
  refine ⟨by kernel_rfl, fun j t ht => ?_⟩
  rw [Tryz.params3] at ht
  have hm : t ∈ [23, 24, 26, 3] := by have h := Array.mem_of_getElem? ht; simp at h; simp [h]
  have hall : ([23, 24, 26, 3].all fun u => !Tryz.prog.wantsStandIn u) = true := by kernel_rfl
  exact (show Tryz.prog.wantsStandIn t = false by simpa using List.all_eq_true.1 hall t hm)
end Go.Proofs.YtdajolpoiffimabGreatDoor.survives
namespace Go.Proofs.YtdajolpoiffimabGreatDoor
/-- The card. -/
theorem survives_card : Rows.SurvivesCardSaid :=
  Claim7.holds_tied_plain_at .later [] _ _ _ _ survives.said (fun _ h => by cases h) (by kernel_rfl) (fun _ h => by cases h) survives_row_tie rfl ⟨rfl, rfl⟩ (by kernel_rfl) rfl survives.plain (by kernel_rfl)
#print axioms survives_card
end Go.Proofs.YtdajolpoiffimabGreatDoor
