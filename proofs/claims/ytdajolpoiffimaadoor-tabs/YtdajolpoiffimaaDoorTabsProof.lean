/-
  The statement Tabs, proved: the row, and its card.
-/
import Derived.Test.YtdajolpoiffimaaDoorCards
import Derived.Test.YtdajolpoiffimaaDoorTie
import Derived.Test.YtdajolpoiffimaaDoorTabLaw
import Derived.Test.YtdajolpoiffimaaDoorBase
import Derived.ShutString
import Derived.Stop.LaidErr
namespace Go.Proofs.YtdajolpoiffimaaDoor.tabs
open Go.ChangeShapes Go.WideShapes Go.ChangeAt Go.RowKit
open Go.ChangeMaps (open_string shut_string)

theorem gL : Tryd.prog.globalNamed "bellman/crontab.leastValues" = some 1 := by kernel_rfl
theorem gG : Tryd.prog.globalNamed "bellman/crontab.greatestValues" = some 2 := by kernel_rfl
theorem gLType : (Tryd.prog.globals[1]?).map (·.type) = some 165 := by kernel_rfl
theorem gGType : (Tryd.prog.globals[2]?).map (·.type) = some 165 := by kernel_rfl
theorem cells5 : Tryd.prog.cellsOf 165 = 5 := by kernel_rfl
/-- What the row's list gives: the tables' cells. -/
theorem table {W : World} (h : laidMetH Tryd.prog Rows.tabsRow.laid W) : Lib.TabIs Tryd.prog W "bellman/calendar.monthLengths" .i64 [31, 28, 31, 30, 31, 30, 31, 31, 30, 31, 30, 31] ∧ Lib.TabIs Tryd.prog W "bellman/crontab.leastValues" .i64 [0, 0, 1, 1, 0] ∧ Lib.TabIs Tryd.prog W "bellman/crontab.greatestValues" .i64 [59, 23, 31, 12, 6] :=
  ⟨Lib.tabIs_of_head gTab gTabType Tryd.underlying162 Tryd.underlying3 cellsInt cellsTab h,
   Lib.tabIs_of_head gL gLType Tryd.underlying165 Tryd.underlying3 cellsInt cells5 (laidMet.tail h),
   Lib.tabIs_of_head gG gGType Tryd.underlying165 Tryd.underlying3 cellsInt cells5 (laidMet.tail (laidMet.tail h))⟩
theorem lh_of {W : World} (h1 : Lib.TabIs Tryd.prog W "bellman/crontab.leastValues" .i64 [0, 0, 1, 1, 0]) (h2 : Lib.TabIs Tryd.prog W "bellman/crontab.greatestValues" .i64 [59, 23, 31, 12, 6]) : TabLH W := by
  intro j hj
  have : j = 0 ∨ j = 1 ∨ j = 2 ∨ j = 3 ∨ j = 4 := by omega
  rcases this with rfl | rfl | rfl | rfl | rfl
  · exact ⟨h1.cell gL 0 (by decide), h2.cell gG 0 (by decide)⟩
  · exact ⟨h1.cell gL 1 (by decide), h2.cell gG 1 (by decide)⟩
  · exact ⟨h1.cell gL 2 (by decide), h2.cell gG 2 (by decide)⟩
  · exact ⟨h1.cell gL 3 (by decide), h2.cell gG 3 (by decide)⟩
  · exact ⟨h1.cell gL 4 (by decide), h2.cell gG 4 (by decide)⟩

set_option maxRecDepth 100000 in
theorem contract (H : Type) (enc : TypeId × Value → H) (W : World) (base : Nat) (args : Array Value) (ds gs : List (DataW H)) (before : List MemPlace)
    (hval : ∀ (j : Nat) t v, Tryd.f4.params[j]? = some t → args[j]? = some v → Value.okWide Tryd.prog W .any base t v)
    (hW : DataW.Whole enc Tryd.prog Tryd.f4.params.toList Rows.tabsSpec.vars false W args.toList ds gs before) (hL : laidMetH Tryd.prog Rows.tabsRow.laid W) :
    Calls Tryd.prog 4 args W fun e W' => ∃ v, e = .returned v ∧ Rows.tabsSpec.post enc Tryd.prog Tryd.f4 false true false false W args v W' := by
  have hW' := hW
  obtain ⟨p, q, hA0, hV, rfl, hfz, hnd⟩ := hW
  have hA : DataW.TrodAll enc Tryd.prog W 0 (fun _ => true) true Tryd.f4.params.toList args.toList ds p := hA0
  rw [Tryd.params4] at hA hval
  obtain ⟨v0, vs0, d0, ds0, p0, q0, hargs, rfl, rfl, h0, r0⟩ := trodAll_cons hA
  obtain ⟨v1, vs1, d1, ds1, p1, q1, rfl, rfl, rfl, h1, r1⟩ := trodAll_cons r0
  obtain ⟨v2, vs2, d2, ds2, p2, q2, rfl, rfl, rfl, h2, r2⟩ := trodAll_cons r1
  obtain ⟨rfl, rfl, rfl⟩ := trodAll_nil r2
  obtain rfl : args = #[v0, v1, v2] := by cases args; simp_all
  obtain ⟨rfl, rfl⟩ := trodVars_none hV
  obtain ⟨a0, rfl, rfl, rfl, w0⟩ := open_string Tryd.underlying9 (hval 0 9 v0 rfl rfl) h0
  obtain ⟨n, rfl, rfl, rfl, wn⟩ := open_int Tryd.underlying3 (hval 1 3 v1 rfl rfl) h1
  obtain ⟨m, rfl, rfl, rfl, wm⟩ := open_int Tryd.underlying3 (hval 2 3 v2 rfl rfl) h2
  clear hA0
  refine (tabs_any a0 n m W w0 (lh_of (table hL).2.1 (table hL).2.2) (tab_of (table hL).1)).mono fun e W' ⟨he, hg⟩ => ?_
  subst he
  refine ⟨_, rfl, _, _, _, [], [] ++ ([] ++ ([] ++ [])), [], hW', ?_, ?_, rfl, hg.frame _, fun h => by cases h⟩
  · exact trodAll_cons_mk (shut_bool Tryd.underlying4 _) trodAll_mk0
  · exact trodAll_cons_mk (shut_string Tryd.underlying9 w0) (trodAll_cons_mk (shut_int Tryd.underlying3 wn) (trodAll_cons_mk (shut_int Tryd.underlying3 wm) trodAll_mk0))

/-- What a variable's block holds, laid. -/
def put (cs : Array Value) : Obj → Obj
  | .cells _ t frozen => .cells cs t frozen
  | o => o
/-- A world for the witness: the settled one, the tables holding what their initialisers lay. -/
noncomputable def laidWorld (os : Os) : World :=
  { World.holding Tryd.prog os ⟨#[], #[], []⟩ with heap := (((World.holding Tryd.prog os ⟨#[], #[], []⟩).heap.modify 0 (put #[.int .i64 31, .int .i64 28, .int .i64 31, .int .i64 30, .int .i64 31, .int .i64 30, .int .i64 31, .int .i64 31, .int .i64 30, .int .i64 31, .int .i64 30, .int .i64 31])).modify 1 (put #[.int .i64 0, .int .i64 0, .int .i64 1, .int .i64 1, .int .i64 0])).modify 2 (put #[.int .i64 59, .int .i64 23, .int .i64 31, .int .i64 12, .int .i64 6]) }
theorem laid_met (os : Os) : laidMet Tryd.prog Rows.tabsRow.laid ((laidWorld os).forCall (fun _ _ => 0) ⟨#[], #[.string ByteArray.empty, .int .i64 0, .int .i64 0], []⟩).memory :=
  laidMet_of_run' 8 (by kernel_rfl) (by kernel_rfl)
theorem reads (os : Os) {H : Type} (enc : TypeId × Value → H) : ∃ places, DataW.whole enc Tryd.prog ((laidWorld os).forCall (fun _ _ => 0) ⟨#[], #[.string ByteArray.empty, .int .i64 0, .int .i64 0], []⟩).memory Tryd.f4.params.toList Rows.tabsSpec.vars false #[Value.string ByteArray.empty, .int .i64 0, .int .i64 0].toList 8 = some ([.lit (.string []), .lit (.int .i64 0), .lit (.int .i64 0)], [], places) :=
  ⟨[], by kernel_rfl⟩

set_option maxRecDepth 100000 in
theorem lifted (os : Os) (started : os.Started) (H : Type) (enc : TypeId × Value → H) (F : Stop.Interp) :
    ReturnsInHanded {} Tryd.checked os 4 .any ((OpenSpec.ofChange Rows.tabsSpec).preRow enc Tryd.prog Tryd.f4 Rows.tabsRow.domain false Rows.tabsRow.laid) (((OpenSpec.ofChange Rows.tabsSpec).at F).post enc Tryd.prog Tryd.f4 false true false false) := by
  obtain ⟨places, hx⟩ := reads os enc
  refine returnsInHanded_of_row (C := Tryd.checked) (s := OpenSpec.ofChange Rows.tabsSpec) own started (by kernel_rfl) Tryd.func4
    (witness_row_at (enc := enc) (C := Tryd.checked) false (laidWorld os) #[.string ByteArray.empty, .int .i64 0, .int .i64 0] rfl (by kernel_rfl) (by kernel_rfl) (by kernel_rfl)
      (OpenSpec.preRow_of_cond 8 hx (by kernel_rfl) (fun k hk => by cases hk) (by kernel_rfl) (laid_met os))) ?_
  intro W base args ds gs before hval hW _ _ _ hL _ _
  exact contract H enc W base args ds gs before hval hW hL

theorem said : Rows.TabsSaid :=
  OpenClaim.holds_of_cond 4 Tryd.f4 rfl rfl rfl rfl rfl rfl rfl ⟨rfl, rfl, rfl, rfl, rfl⟩ rfl rfl rfl rfl rfl (by kernel_rfl) Tryd.func4 (by kernel_rfl)
    (of_decide_eq_true (by kernel_rfl)) (by unfold Func.isWrapper; first | (rw [if_pos (by decide +kernel)]; kernel_rfl) | (rw [if_neg (by decide +kernel)]; exact ⟨rfl, rfl⟩))
    (fun os started H enc _ F => by rw [OpenClaim.pre_eq_preRow]; exact lifted os started H enc F)

/-- No parameter wants a stand-in. -/
theorem plain (f : FuncId) (fn : Func) (hf : Tryd.pinned.checked.prog.funcNamed "bellman/bellmanlaw.Tabs" = some f) (hfn : Tryd.pinned.checked.prog.funcs[f]? = some fn) :
    false = Tryd.pinned.checked.prog.looks [] ∧ ∀ (j : Nat) t, fn.params[j]? = some t → Tryd.pinned.checked.prog.wantsStandIn t = false := by
  obtain rfl : f = 4 := Option.some.inj ((show Tryd.prog.funcNamed "bellman/bellmanlaw.Tabs" = some 4 by kernel_rfl).symm.trans hf) |>.symm
  obtain rfl : fn = Tryd.f4 := (Option.some.inj (Tryd.func4.symm.trans hfn)).symm
  refine ⟨by kernel_rfl, fun j t ht => ?_⟩
  rw [Tryd.params4] at ht
  have hm : t ∈ [9, 3] := by have h := Array.mem_of_getElem? ht; simp at h; simp [h]
  have hall : ([9, 3].all fun u => !Tryd.prog.wantsStandIn u) = true := by kernel_rfl
  exact (show Tryd.prog.wantsStandIn t = false by simpa using List.all_eq_true.1 hall t hm)
end Go.Proofs.YtdajolpoiffimaaDoor.tabs
namespace Go.Proofs.YtdajolpoiffimaaDoor
/-- The card. -/
theorem tabs_card : Rows.TabsCardSaid :=
  Claim7.holds_tied_plain_at .later [] _ _ _ _ tabs.said (fun _ h => by cases h) (by kernel_rfl) (fun _ h => by cases h) tabs_row_tie rfl ⟨rfl, rfl⟩ (by kernel_rfl) rfl tabs.plain (by kernel_rfl)
#print axioms tabs_card
end Go.Proofs.YtdajolpoiffimaaDoor
