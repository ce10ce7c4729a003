/-
  The statement All, proved: the row, and its card.
-/
import Derived.Test.YtdajolpoiffimabGreatDoorA30
import Derived.Test.YtdajolpoiffimabGreatDoorCards
import Derived.Test.YtdajolpoiffimabGreatDoorTie
import Derived.ShutString
import Derived.Stop.LaidErr
import Derived.Carry
namespace Go.Proofs.YtdajolpoiffimabGreatDoor.all
open Go.ChangeShapes Go.WideShapes Go.ChangeAt Go.RowKit
open Go.ChangeMaps (open_string shut_string)

theorem gL : Tryz.prog.globalNamed "bellman/crontab.leastValues" = some 0 := by kernel_rfl
theorem gG : Tryz.prog.globalNamed "bellman/crontab.greatestValues" = some 1 := by kernel_rfl
theorem gLType : (Tryz.prog.globals[0]?).map (·.type) = some 230 := by kernel_rfl
theorem gGType : (Tryz.prog.globals[1]?).map (·.type) = some 230 := by kernel_rfl
theorem cells5 : Tryz.prog.cellsOf 230 = 5 := by kernel_rfl
/-- What the row's list gives: the tables' cells. -/
theorem table {W : World} (h : laidMetH Tryz.prog Rows.allRow.laid W) : Lib.TabIs Tryz.prog W "bellman/calendar.monthLengths" .i64 [31, 28, 31, 30, 31, 30, 31, 31, 30, 31, 30, 31] ∧ Lib.TabIs Tryz.prog W "bellman/crontab.leastValues" .i64 [0, 0, 1, 1, 0] ∧ Lib.TabIs Tryz.prog W "bellman/crontab.greatestValues" .i64 [59, 23, 31, 12, 6] :=
  ⟨Lib.tabIs_of_head gTab gTabType Tryz.underlying269 Tryz.underlying3 cellsInt cellsTab h,
   Lib.tabIs_of_head gL gLType Tryz.underlying230 Tryz.underlying3 cellsInt cells5 (laidMet.tail h),
   Lib.tabIs_of_head gG gGType Tryz.underlying230 Tryz.underlying3 cellsInt cells5 (laidMet.tail (laidMet.tail h))⟩
theorem lh_of {W : World} (h1 : Lib.TabIs Tryz.prog W "bellman/crontab.leastValues" .i64 [0, 0, 1, 1, 0]) (h2 : Lib.TabIs Tryz.prog W "bellman/crontab.greatestValues" .i64 [59, 23, 31, 12, 6]) : TabLH W := by
  intro j hj
  have : j = 0 ∨ j = 1 ∨ j = 2 ∨ j = 3 ∨ j = 4 := by omega
  rcases this with rfl | rfl | rfl | rfl | rfl
  · exact ⟨h1.cell gL 0 (by decide), h2.cell gG 0 (by decide)⟩
  · exact ⟨h1.cell gL 1 (by decide), h2.cell gG 1 (by decide)⟩
  · exact ⟨h1.cell gL 2 (by decide), h2.cell gG 2 (by decide)⟩
  · exact ⟨h1.cell gL 3 (by decide), h2.cell gG 3 (by decide)⟩
  · exact ⟨h1.cell gL 4 (by decide), h2.cell gG 4 (by decide)⟩

theorem one_le {H : Type} (d : DataW H) : 1 ≤ Rows.uptoBulk d := by
  cases d with
  | lit l => cases l <;> simp [Rows.uptoBulk]
  | nil => simp [Rows.uptoBulk]
  | ptr d => simp [Rows.uptoBulk]
  | slice elems spare => simp [Rows.uptoBulk]
  | agg parts => simp [Rows.uptoBulk]
  | iface t d => simp [Rows.uptoBulk]
  | map entries => simp [Rows.uptoBulk]
  | held h => simp [Rows.uptoBulk]
theorem app_bulk {H : Type} (l r : List (DataW H)) : Rows.uptoBulkAll l ≤ Rows.uptoBulkAll (l ++ r) := by
  induction l with
  | nil => simp [Rows.uptoBulkAll]
  | cons x l ih => simp only [List.cons_append, Rows.uptoBulkAll]; omega
theorem length_le {H : Type} (l : List (DataW H)) : l.length ≤ Rows.uptoBulkAll l := by
  induction l with
  | nil => simp [Rows.uptoBulkAll]
  | cons x r ih => have := one_le x; simp only [Rows.uptoBulkAll, List.length_cons]; omega
set_option maxRecDepth 100000 in
theorem contract (H : Type) (enc : TypeId × Value → H) (W : World) (base : Nat) (args : Array Value) (ds gs : List (DataW H)) (before : List MemPlace)
    (hval : ∀ (j : Nat) t v, Tryz.f5.params[j]? = some t → args[j]? = some v → Value.okWide Tryz.prog W .any base t v)
    (hW : DataW.Whole enc Tryz.prog Tryz.f5.params.toList Rows.allSpec.vars false W args.toList ds gs before) (hsm : Rows.uptoBulkAll ds ≤ 1048576) (hL : laidMetH Tryz.prog Rows.allRow.laid W) :
    Calls Tryz.prog 5 args W fun e W' => ∃ v, e = .returned v ∧ Rows.allSpec.post enc Tryz.prog Tryz.f5 false true false false W args v W' := by
  have hW' := hW
  obtain ⟨p, q, hA0, hV, rfl, hfz, hnd⟩ := hW
  have hA : DataW.TrodAll enc Tryz.prog W 0 (fun _ => true) true Tryz.f5.params.toList args.toList ds p := hA0
  rw [Tryz.params5] at hA hval
  obtain ⟨v0, vs0, d0, ds0, p0, q0, hargs, rfl, rfl, h0, r0⟩ := trodAll_cons hA
  obtain ⟨v1, vs1, d1, ds1, p1, q1, rfl, rfl, rfl, h1, r1⟩ := trodAll_cons r0
  obtain ⟨v2, vs2, d2, ds2, p2, q2, rfl, rfl, rfl, h2, r2⟩ := trodAll_cons r1
  obtain ⟨rfl, rfl, rfl⟩ := trodAll_nil r2
  obtain rfl : args = #[v0, v1, v2] := by cases args; simp_all
  obtain ⟨rfl, rfl⟩ := trodVars_none hV
  obtain ⟨n, rfl, rfl, rfl, wn⟩ := open_int Tryz.underlying3 (hval 0 3 v0 rfl rfl) h0
  obtain ⟨m, rfl, rfl, rfl, wm⟩ := open_int Tryz.underlying3 (hval 1 3 v1 rfl rfl) h1
  obtain ⟨L, hS, hLs, hLl, hdd⟩ := open_script (hval 2 56 v2 rfl rfl) h2
  have hLb : L.length ≤ 1048576 := by
    simp only [Rows.uptoBulkAll] at hsm
    rcases hdd with ⟨rfl, rfl⟩ | ⟨elems, spare, rfl, e⟩
    · simp
    · have := length_le elems
      simp only [Rows.uptoBulk] at hsm; omega
  clear hA0
  have hlt : ∀ x ∈ p2, x.block < W.heap.size := fun x hx => by simpa using hW'.lt x (by simp [hx])
  refine (lalls_any n m L v2 W (lh_of (table hL).2.1 (table hL).2.2) (tab_of (table hL).1) hS hLb hLs).mono fun e W' ⟨he, hg⟩ => ?_
  subst he
  refine ⟨_, rfl, _, _, _, [], [] ++ ([] ++ (p2 ++ [])), [], hW', ?_, ?_, rfl, hg.frame _, fun h => by cases h⟩
  · exact trodAll_cons_mk (shut_bool Tryz.underlying4 _) trodAll_mk0
  · exact trodAll_cons_mk (shut_int Tryz.underlying3 wn) (trodAll_cons_mk (shut_int Tryz.underlying3 wm) (trodAll_cons_mk (Below.trod laidOut (by kernel_rfl) (of_decide_eq_true (by kernel_rfl)) h2 hg hlt) trodAll_mk0))

/-- What a variable's block holds, laid. -/
def put (cs : Array Value) : Obj → Obj
  | .cells _ t frozen => .cells cs t frozen
  | o => o
/-- A world for the witness: the settled one, the tables holding what their initialisers lay. -/
noncomputable def laidWorld (os : Os) : World :=
  { World.holding Tryz.prog os ⟨#[], #[], []⟩ with heap := (((World.holding Tryz.prog os ⟨#[], #[], []⟩).heap.modify 2 (put #[.int .i64 31, .int .i64 28, .int .i64 31, .int .i64 30, .int .i64 31, .int .i64 30, .int .i64 31, .int .i64 31, .int .i64 30, .int .i64 31, .int .i64 30, .int .i64 31])).modify 0 (put #[.int .i64 0, .int .i64 0, .int .i64 1, .int .i64 1, .int .i64 0])).modify 1 (put #[.int .i64 59, .int .i64 23, .int .i64 31, .int .i64 12, .int .i64 6]) }
theorem laid_met (os : Os) : laidMet Tryz.prog Rows.allRow.laid ((laidWorld os).forCall (fun _ _ => 0) ⟨#[], #[.int .i64 0, .int .i64 0, .slice none 0 0], []⟩).memory :=
  laidMet_of_run' 8 (by kernel_rfl) (by kernel_rfl)
theorem reads (os : Os) {H : Type} (enc : TypeId × Value → H) : ∃ places, DataW.whole enc Tryz.prog ((laidWorld os).forCall (fun _ _ => 0) ⟨#[], #[.int .i64 0, .int .i64 0, .slice none 0 0], []⟩).memory Tryz.f5.params.toList Rows.allSpec.vars false #[Value.int .i64 0, .int .i64 0, .slice none 0 0].toList 8 = some ([.lit (.int .i64 0), .lit (.int .i64 0), .nil], [], places) :=
  ⟨[], by kernel_rfl⟩

set_option maxRecDepth 100000 in
theorem lifted (os : Os) (started : os.Started) (H : Type) (enc : TypeId × Value → H) (F : Stop.Interp) :
    ReturnsInHanded {} Tryz.checked os 5 .any ((Rows.OpenSpec.upto Rows.allSpec).preRow enc Tryz.prog Tryz.f5 Rows.allUptoRow.domain false Rows.allUptoRow.laid) (((Rows.OpenSpec.upto Rows.allSpec).at F).post enc Tryz.prog Tryz.f5 false true false false) := by
  obtain ⟨places, hx⟩ := reads os enc
  refine returnsInHanded_of_row (C := Tryz.checked) (s := Rows.OpenSpec.upto Rows.allSpec) own started (by kernel_rfl) Tryz.func5
    (witness_row_at (enc := enc) (C := Tryz.checked) false (laidWorld os) #[.int .i64 0, .int .i64 0, .slice none 0 0] rfl (by kernel_rfl) (by kernel_rfl) (by kernel_rfl)
      (OpenSpec.preRow_of_cond 8 hx (by kernel_rfl) (fun k hk => by cases hk; kernel_rfl) (by kernel_rfl) (laid_met os))) ?_
  intro W base args ds gs before hval hW _ hcond _ hL _ _
  have hk := hcond _ rfl
  exact contract H enc W base args ds gs before hval hW (Nat.le_trans (app_bulk ds gs) (of_decide_eq_true hk)) hL

theorem said : Rows.AllUptoSaid :=
  OpenClaim.holds_of_cond 5 Tryz.f5 rfl rfl rfl rfl rfl rfl rfl ⟨rfl, rfl, rfl, rfl, rfl⟩ rfl rfl rfl rfl rfl (by kernel_rfl) Tryz.func5 (by kernel_rfl)
    (of_decide_eq_true (by kernel_rfl)) (by unfold Func.isWrapper; first | (rw [if_pos (by decide +kernel)]; kernel_rfl) | (rw [if_neg (by decide +kernel)]; exact ⟨rfl, rfl⟩))
    (fun os started H enc _ F => by rw [OpenClaim.pre_eq_preRow]; exact lifted os started H enc F)

/-- No parameter wants a stand-in. -/
theorem plain (f : FuncId) (fn : Func) (hf : Tryz.pinned.checked.prog.funcNamed "bellman/bellmanlaw.All" = some f) (hfn : Tryz.pinned.checked.prog.funcs[f]? = some fn) :
    false = Tryz.pinned.checked.prog.looks [] ∧ ∀ (j : Nat) t, fn.params[j]? = some t → Tryz.pinned.checked.prog.wantsStandIn t = false := by
  obtain rfl : f = 5 := Option.some.inj ((show Tryz.prog.funcNamed "bellman/bellmanlaw.All" = some 5 by kernel_rfl).symm.trans hf) |>.symm
  obtain rfl : fn = Tryz.f5 := (Option.some.inj (Tryz.func5.symm.trans hfn)).symm
  refine ⟨by kernel_rfl, fun j t ht => ?_⟩
  rw [Tryz.params5] at ht
  have hm : t ∈ [3, 56] := by have h := Array.mem_of_getElem? ht; simp at h; simp [h]
  have hall : ([3, 56].all fun u => !Tryz.prog.wantsStandIn u) = true := by kernel_rfl
  exact (show Tryz.prog.wantsStandIn t = false by simpa using List.all_eq_true.1 hall t hm)
end Go.Proofs.YtdajolpoiffimabGreatDoor.all
namespace Go.Proofs.YtdajolpoiffimabGreatDoor
/-- The card. -/
theorem all_upto_card : Rows.AllUptoCardSaid :=
  Claim7.holds_tied_plain_at .later [] _ _ _ _ all.said (fun _ h => by cases h) (by kernel_rfl) (fun _ h => by cases h) allUpto_row_tie rfl ⟨rfl, rfl⟩ (by kernel_rfl) rfl all.plain (by kernel_rfl)
#print axioms all_upto_card
end Go.Proofs.YtdajolpoiffimabGreatDoor
