/-
  Base, KCallA, KCall, KBase, KPick, KScr, KTab, KeepM, KeepM2.
-/
import Derived.Test.YtdajolpoiffimabGreatDoorRows
import Derived.ProofKit
import Derived.OpenShut
import Derived.Deep.DeepHandedRow
import Derived.Lib.LaidTab
import Derived.ShutString
import Derived.Stop.LaidErr
import Derived.Carry
import Derived.Test.YtdajolpoiffimabGreatDoorC1
import Derived.Test.YtdajolpoiffimabGreatDoorC3
import Derived.Test.YtdajolpoiffimabGreatDoorC4
import Derived.Test.YtdajolpoiffimabGreatDoorC8
import Derived.Test.YtdajolpoiffimabGreatDoorC9

namespace Go.Proofs.YtdajolpoiffimabGreatDoor
open Go.ChangeShapes Go.WideShapes Go.ChangeAt Go.RowKit

theorem own : ownKnob Tryz.prog.godebug = none := by kernel_rfl
theorem laidOut : laidOutB Tryz.prog = true := by kernel_rfl
theorem gTab : Tryz.prog.globalNamed "bellman/calendar.monthLengths" = some 2 := by kernel_rfl
theorem gTabType : (Tryz.prog.globals[2]?).map (·.type) = some 269 := by kernel_rfl
theorem cellsTab : Tryz.prog.cellsOf 269 = 12 := by kernel_rfl
theorem cellsInt : Tryz.prog.cellsOf 3 = 1 := by kernel_rfl
theorem tab_of {W : World} (h : Lib.TabIs Tryz.prog W "bellman/calendar.monthLengths" .i64 [31, 28, 31, 30, 31, 30, 31, 31, 30, 31, 30, 31]) : Tab W := by
  intro m m1 m2
  have : m = 1 ∨ m = 2 ∨ m = 3 ∨ m = 4 ∨ m = 5 ∨ m = 6 ∨ m = 7 ∨ m = 8 ∨ m = 9 ∨ m = 10 ∨ m = 11 ∨ m = 12 := by omega
  rcases this with rfl | rfl | rfl | rfl | rfl | rfl | rfl | rfl | rfl | rfl | rfl | rfl
  · exact h.cell gTab 0 (by decide)
  · exact h.cell gTab 1 (by decide)
  · exact h.cell gTab 2 (by decide)
  · exact h.cell gTab 3 (by decide)
  · exact h.cell gTab 4 (by decide)
  · exact h.cell gTab 5 (by decide)
  · exact h.cell gTab 6 (by decide)
  · exact h.cell gTab 7 (by decide)
  · exact h.cell gTab 8 (by decide)
  · exact h.cell gTab 9 (by decide)
  · exact h.cell gTab 10 (by decide)
  · exact h.cell gTab 11 (by decide)

theorem six {α : Type} {cs : Array α} (h : cs.size = 6) : ∃ a b c d e f, cs = #[a, b, c, d, e, f] := by
  obtain ⟨l⟩ := cs
  match l, h with
  | [a, b, c, d, e, f], _ => exact ⟨a, b, c, d, e, f, rfl⟩
theorem someAt {α : Type} {xs : List α} {n i : Nat} (h : xs.length = n) (hi : i < n) : ∃ x, xs[i]? = some x := ⟨xs[i], by simp⟩

end Go.Proofs.YtdajolpoiffimabGreatDoor

namespace Go.Proofs.YtdajolpoiffimabGreatDoor
open Go.RowKit

theorem below_grow {w W W' : World} {B : Nat} (h : Below w.heap.size w W) (hg : W.grownBy W' (some B)) (hB : w.heap.size ≤ B) : Below w.heap.size w W' :=
  ⟨hg.os.trans h.os, hg.tape.trans h.tape, hg.output.trans h.output, Nat.le_trans h.size hg.size, fun k hk => (hg.block k (Nat.lt_of_lt_of_le hk h.size) (fun e => by cases e; omega)).trans (h.block k hk)⟩
/-- A box that was made behind a world. -/
structure KB (w0 w : World) (B : Nat) (b : Px.Bo) : Prop where
  lo : w0.heap.size ≤ B
  bl : Below w0.heap.size w0 w
  pb : ∃ sl en, PB w B b sl en
theorem KB.grow {w0 w w' : World} {B : Nat} {b b' : Px.Bo} (h : KB w0 w B b) (hg : w.grownBy w' (some B)) (hp : ∃ sl en, PB w' B b' sl en) : KB w0 w' B b' := ⟨h.lo, below_grow h.bl hg h.lo, hp⟩
theorem KB.later {w0 w w' : World} {B : Nat} {b : Px.Bo} (h : KB w0 w B b) (hb : Below w.heap.size w w') : KB w0 w' B b := by
  obtain ⟨sl, en, hp⟩ := h.pb
  exact ⟨h.lo, h.bl.trans (hb.mono h.bl.size), sl, en, hp.later hb⟩
theorem KB.alloc {w0 w : World} {B : Nat} {b : Px.Bo} (h : KB w0 w B b) (o : Obj) : KB w0 (w.alloc o) B b := h.later (below_alloc _ _)
theorem KB.typ {w0 w : World} {B : Nat} {b : Px.Bo} (h : KB w0 w B b) : Typed w B 79 := by obtain ⟨sl, en, hp⟩ := h.pb; exact hp.ty
/-- A list of numbers in memory. -/
def NumsAt (w : World) (v : Value) (K : List Int) : Prop := ∃ ad cap, v = .slice ad K.length cap ∧ K.length ≤ cap ∧ ∀ i (h : i < K.length), ∃ b off, ad = some ⟨b, off, none⟩ ∧ w.cell? ⟨b, off + i, none⟩ = some (.int .i64 K[i])
theorem NumsAt.later {w w' : World} {v : Value} {K : List Int} (h : NumsAt w v K) (hb : Below w.heap.size w w') : NumsAt w' v K := by
  obtain ⟨ad, cap, h1, h2, h3⟩ := h
  refine ⟨ad, cap, h1, h2, fun i hi => ?_⟩
  obtain ⟨b, off, e, c⟩ := h3 i hi
  exact ⟨b, off, e, cell_later hb c⟩
theorem NumsAt.form {w : World} {v : Value} {K : List Int} (h : NumsAt w v K) : ∃ ad cap, v = .slice ad K.length cap ∧ K.length ≤ cap := by
  obtain ⟨ad, cap, h1, h2, _⟩ := h; exact ⟨ad, cap, h1, h2⟩
/-- The tables. -/
structure TT (w : World) : Prop where
  lh : TabLH w
  mo : Tab w
theorem TT.later {w w' : World} (h : TT w) (hb : Below w.heap.size w w') : TT w' := ⟨h.lh.later hb, fun m a b => cell_later hb (h.mo m a b)⟩
theorem klook_any (b : Px.Bo) (B : Nat) (w0 w : World) (hB : KB w0 w B b) :
    Calls Tryz.prog 23 #[.pointer (some ⟨B, 0, none⟩)] w fun e w' => e = .returned (pviewV b.st) ∧ KB w0 w' B b ∧ Below w.heap.size w w' :=
  (xlook_any b B w hB.pb).mono fun _ _ h => ⟨h.1, hB.later h.2, h.2⟩
theorem klog_any (b : Px.Bo) (B : Nat) (w0 w : World) (hB : KB w0 w B b) :
    Calls Tryz.prog 8 #[.pointer (some ⟨B, 0, none⟩)] w fun e w' => e = .returned (.string b.log) ∧ w' = w :=
  xlog_any b B w hB.pb
theorem knew_any (l r : Int) (w : World) (h : mayB l r = true) : Calls Tryz.prog 20 #[.int .i64 l, .int .i64 r] w fun e w' => ∃ B, e = .returned (.tuple #[.pointer (some ⟨B, 0, none⟩), .int .i64 0]) ∧ KB w w' B ⟨l, r, Px.first, ByteArray.empty⟩ :=
  (pnew_yes l r w h).mono fun _ _ ⟨⟨B, h1, h2, h3⟩, h4⟩ => ⟨B, h1, h2, h4, _, _, h3⟩
end Go.Proofs.YtdajolpoiffimabGreatDoor

namespace Go.Proofs.YtdajolpoiffimabGreatDoor
open Go.RowKit

theorem ktick_any (b : Px.Bo) (B : Nat) (m : Int) (w0 w : World) (hO : Px.Ok b.st) (hlg : b.log.size ≤ 10000) (hT : TT w0) (hB : KB w0 w B b) :
    Calls Tryz.prog 22 #[.pointer (some ⟨B, 0, none⟩), .int .i64 m] w fun e w' => e = .returned (.tuple #[.int .i64 (Px.tickB b m).2.1, .int .i64 (Px.tickB b m).2.2]) ∧ KB w0 w' B (Px.tickB b m).1 ∧ w.grownBy w' (some B) :=
  (xtick_any b B m w hO hlg (hT.lh.later hB.bl) (hT.mo.later hB.bl) hB.pb).mono fun _ _ h => ⟨h.1, hB.grow h.2.2 h.2.1, h.2.2⟩
theorem kstart_any (b : Px.Bo) (B : Nat) (n : Int) (w0 w : World) (hO : Px.Ok b.st) (hlg : b.log.size ≤ 10000) (hT : TT w0) (hB : KB w0 w B b) :
    Calls Tryz.prog 25 #[.pointer (some ⟨B, 0, none⟩), .int .i64 n] w fun e w' => e = .returned (.tuple #[.string (Px.startB b n).2.1, .int .i64 (Px.startB b n).2.2]) ∧ KB w0 w' B (Px.startB b n).1 ∧ w.grownBy w' (some B) :=
  (xstart_any b B n w hO hlg (hT.lh.later hB.bl) hB.pb).mono fun _ _ h => ⟨h.1, hB.grow h.2.2 h.2.1, h.2.2⟩
theorem kload_any (b : Px.Bo) (B : Nat) (tab : ByteArray) (w0 w : World) (hO : Px.Ok b.st) (hlg : b.log.size ≤ 10000) (hs : tab.size ≤ maxLen) (hT : TT w0) (hB : KB w0 w B b) :
    Calls Tryz.prog 21 #[.pointer (some ⟨B, 0, none⟩), .string tab] w fun e w' => ∃ b' a r, e = .returned (.tuple #[.int .i64 a, .int .i64 r]) ∧ Px.LoadB b tab b' a r ∧ KB w0 w' B b' ∧ w.grownBy w' (some B) :=
  (xload_any b B tab w hO hlg hs (hT.lh.later hB.bl) hB.pb).mono fun _ _ ⟨b', a, r, h1, h2, h3, h4⟩ => ⟨b', a, r, h1, h2, hB.grow h4 h3, h4⟩
theorem kfeed_any (b : Px.Bo) (B : Nat) (n : Int) (x : ByteArray) (w0 w : World) (hO : Px.Ok b.st) (hlg : b.log.size ≤ 10000) (hT : TT w0) (hB : KB w0 w B b) :
    Calls Tryz.prog 28 #[.pointer (some ⟨B, 0, none⟩), .int .i64 n, .string x] w fun e w' => e = .returned (.tuple #[.string (Px.feedB b n x).2.1, .int .i64 (Px.feedB b n x).2.2]) ∧ KB w0 w' B (Px.feedB b n x).1 ∧ w.grownBy w' (some B) :=
  (xfeed_any b B n x w hO hlg (hT.lh.later hB.bl) hB.pb).mono fun _ _ h => ⟨h.1, hB.grow h.2.2 h.2.1, h.2.2⟩
end Go.Proofs.YtdajolpoiffimabGreatDoor

namespace Go.Proofs.YtdajolpoiffimabGreatDoor
open Go.ChangeShapes Go.WideShapes Go.ChangeAt Go.RowKit

namespace Kb
theorem gL : Tryz.prog.globalNamed "bellman/crontab.leastValues" = some 0 := by kernel_rfl
theorem gG : Tryz.prog.globalNamed "bellman/crontab.greatestValues" = some 1 := by kernel_rfl
theorem gLType : (Tryz.prog.globals[0]?).map (·.type) = some 230 := by kernel_rfl
theorem gGType : (Tryz.prog.globals[1]?).map (·.type) = some 230 := by kernel_rfl
theorem cells5 : Tryz.prog.cellsOf 230 = 5 := by kernel_rfl
theorem tt_of {W : World} (h0 : Lib.TabIs Tryz.prog W "bellman/calendar.monthLengths" .i64 [31, 28, 31, 30, 31, 30, 31, 31, 30, 31, 30, 31]) (h1 : Lib.TabIs Tryz.prog W "bellman/crontab.leastValues" .i64 [0, 0, 1, 1, 0]) (h2 : Lib.TabIs Tryz.prog W "bellman/crontab.greatestValues" .i64 [59, 23, 31, 12, 6]) : TT W := by
  refine ⟨?_, tab_of h0⟩
  intro j hj
  have : j = 0 ∨ j = 1 ∨ j = 2 ∨ j = 3 ∨ j = 4 := by omega
  rcases this with rfl | rfl | rfl | rfl | rfl
  · exact ⟨h1.cell gL 0 (by decide), h2.cell gG 0 (by decide)⟩
  · exact ⟨h1.cell gL 1 (by decide), h2.cell gG 1 (by decide)⟩
  · exact ⟨h1.cell gL 2 (by decide), h2.cell gG 2 (by decide)⟩
  · exact ⟨h1.cell gL 3 (by decide), h2.cell gG 3 (by decide)⟩
  · exact ⟨h1.cell gL 4 (by decide), h2.cell gG 4 (by decide)⟩
theorem one_le {H : Type} (d : DataW H) : 1 ≤ Rows.uptoBulk d := by
  cases d with
  | lit l => cases l <;> simp [Rows.uptoBulk]
  | nil => simp [Rows.uptoBulk]
  | ptr d => simp [Rows.uptoBulk]
  | slice elems spare => simp [Rows.uptoBulk]
  | agg parts => simp [Rows.uptoBulk]
  | iface t d => simp [Rows.uptoBulk]
  | map entries => simp [Rows.uptoBulk]
  | held h => simp [Rows.uptoBulk]
theorem length_le {H : Type} (l : List (DataW H)) : l.length ≤ Rows.uptoBulkAll l := by
  induction l with
  | nil => simp [Rows.uptoBulkAll]
  | cons x r ih => have := one_le x; simp only [Rows.uptoBulkAll, List.length_cons]; omega
/-- What a variable's block holds, laid. -/
def put (cs : Array Value) : Obj → Obj
  | .cells _ t frozen => .cells cs t frozen
  | o => o
/-- A world for the witness: the settled one, the tables holding what their initialisers lay. -/
noncomputable def laidWorld (os : Os) : World :=
  { World.holding Tryz.prog os ⟨#[], #[], []⟩ with heap := (((World.holding Tryz.prog os ⟨#[], #[], []⟩).heap.modify 2 (put #[.int .i64 31, .int .i64 28, .int .i64 31, .int .i64 30, .int .i64 31, .int .i64 30, .int .i64 31, .int .i64 31, .int .i64 30, .int .i64 31, .int .i64 30, .int .i64 31])).modify 0 (put #[.int .i64 0, .int .i64 0, .int .i64 1, .int .i64 1, .int .i64 0])).modify 1 (put #[.int .i64 59, .int .i64 23, .int .i64 31, .int .i64 12, .int .i64 6]) }
end Kb
end Go.Proofs.YtdajolpoiffimabGreatDoor

namespace Go.Proofs.YtdajolpoiffimabGreatDoor
open Go.RowKit

/-- Which of n things a raw number speaks of. -/
def pk (c n : Int) : Int := (if c < 0 then -(c + 1) else c) % n
theorem pk_bd (c n : Int) (h : 0 < n) : 0 ≤ pk c n ∧ pk c n < n := ⟨Int.emod_nonneg _ (by omega), Int.emod_lt_of_pos _ h⟩
theorem pick_at (c n a : Int) (w : World) (h : pk c n = a) (c1 : -9223372036854775808 ≤ c) (c2 : c ≤ 9223372036854775807) (n1 : 0 < n) (n2 : n ≤ 9223372036854775807) :
    Calls Tryz.prog 13 #[.int .i64 c, .int .i64 n] w fun e w' => e = .returned (.int .i64 a) ∧ w' = w := by
  subst h
  unfold pk
  have m1 := Int.emod_nonneg c (b := n) (by omega)
  have m2 := Int.emod_lt_of_pos c n1
  have k1 := Int.emod_nonneg (-(c + 1)) (b := n) (by omega)
  have k2 := Int.emod_lt_of_pos (-(c + 1)) n1
  by_cases h : c < 0
  · have E : Hid (-((c + 1).tmod n) = (if c < 0 then -(c + 1) else c) % n) := by unfold Hid; rw [if_pos h, ← Int.neg_tmod, Int.tmod_eq_emod_of_nonneg (by omega)]
    generalize (if c < 0 then -(c + 1) else c) % n = z at *
    go_enter Tryz.func13, Tryz.ntmps13
    go_wp2_with fail
    go_ret
    exact ⟨ret_int' E.out, rfl⟩
  · have E : Hid (c % n = (if c < 0 then -(c + 1) else c) % n) := by unfold Hid; rw [if_neg h]
    generalize (if c < 0 then -(c + 1) else c) % n = z at *
    go_enter Tryz.func13, Tryz.ntmps13
    go_wp2_with fail
    go_ret
    exact ⟨ret_int' E.out, rfl⟩
end Go.Proofs.YtdajolpoiffimabGreatDoor

namespace Go.Proofs.YtdajolpoiffimabGreatDoor
open Go.RowKit

/-- A script of steps in memory. -/
def KScrAt (w : World) (v : Value) (L : List (Int × Int × ByteArray)) : Prop := ∃ ad cap, v = .slice ad L.length cap ∧ L.length ≤ cap ∧ ∀ i (h : i < L.length), ∃ b off, ad = some ⟨b, off, none⟩ ∧
  w.cell? ⟨b, off + i * 3, none⟩ = some (.int .i64 L[i].1) ∧ w.cell? ⟨b, off + i * 3 + 1, none⟩ = some (.int .i64 L[i].2.1) ∧ w.cell? ⟨b, off + i * 3 + 2, none⟩ = some (.string L[i].2.2)
theorem KScrAt.later {w w' : World} {v : Value} {L : List (Int × Int × ByteArray)} (h : KScrAt w v L) (hb : Below w.heap.size w w') : KScrAt w' v L := by
  obtain ⟨ad, cap, h1, h2, h3⟩ := h
  refine ⟨ad, cap, h1, h2, fun i hi => ?_⟩
  obtain ⟨b, off, e, c0, c1, c2⟩ := h3 i hi
  exact ⟨b, off, e, cell_later hb c0, cell_later hb c1, cell_later hb c2⟩
theorem KScrAt.form {w : World} {v : Value} {L : List (Int × Int × ByteArray)} (h : KScrAt w v L) : ∃ ad cap, v = .slice ad L.length cap ∧ L.length ≤ cap := by
  obtain ⟨ad, cap, h1, h2, _⟩ := h; exact ⟨ad, cap, h1, h2⟩
theorem kscr_at {w : World} {v : Value} {L : List (Int × Int × ByteArray)} (h : KScrAt w v L) {k : Nat} (hk : k < L.length) : ∃ b off cap, v = .slice (some ⟨b, off, none⟩) L.length cap ∧
    w.cell? ⟨b, off + k * 3, none⟩ = some (.int .i64 L[k].1) ∧ w.cell? ⟨b, off + k * 3 + 1, none⟩ = some (.int .i64 L[k].2.1) ∧ w.cell? ⟨b, off + k * 3 + 2, none⟩ = some (.string L[k].2.2) := by
  obtain ⟨ad, cap, h1, h2, h3⟩ := h
  obtain ⟨b, off, rfl, c⟩ := h3 k hk
  exact ⟨b, off, cap, h1, c⟩
end Go.Proofs.YtdajolpoiffimabGreatDoor

namespace Go.Proofs.YtdajolpoiffimabGreatDoor
namespace Kp
def T0 : ByteArray := ⟨#[42, 47, 53, 32, 42, 32, 42, 32, 42, 32, 42, 32, 120, 97, 50, 32, 62, 104, 105, 32, 60, 111, 107, 32, 62, 98, 121, 10]⟩
def T1 : ByteArray := ⟨#[42, 32, 42, 32, 42, 32, 42, 32, 42, 32, 111, 97, 49, 32, 62, 103, 111, 10, 42, 47, 51, 32, 42, 32, 42, 32, 42, 32, 42, 32, 120, 108, 51, 32, 60, 97, 32, 60, 98, 98, 32, 62, 99, 10]⟩
def T2 : ByteArray := ⟨#[48, 45, 53, 57, 47, 50, 32, 42, 32, 42, 32, 42, 32, 42, 32, 120, 97, 51, 32, 62, 113, 49, 32, 60, 121, 101, 115, 32, 60, 110, 111, 32, 62, 113, 50, 32, 60, 101, 110, 100, 10, 51, 48, 32, 42, 32, 42, 32, 42, 32, 42, 32, 111, 110, 49, 32, 60, 122, 10, 49, 44, 50, 44, 51, 32, 42, 32, 42, 32, 42, 32, 42, 32, 111, 108, 53, 32, 62, 109, 32, 60, 110, 10]⟩
def T3 : ByteArray := ⟨#[42, 32, 42, 32, 42, 32, 42, 32, 42, 32, 120, 110, 53, 32, 60, 120, 10]⟩
def T4 : ByteArray := ⟨#[42, 47, 55, 32, 42, 47, 50, 32, 42, 32, 42, 32, 42, 32, 111, 97, 50, 32, 60, 104, 101, 108, 108, 111, 10, 49, 53, 32, 51, 32, 49, 51, 32, 42, 32, 53, 32, 120, 97, 49, 32, 62, 104, 105, 10, 48, 32, 48, 32, 49, 32, 49, 32, 42, 32, 111, 110, 49, 32, 62, 110, 121, 32, 60, 116, 104, 120, 10, 42, 32, 42, 32, 42, 32, 42, 32, 48, 32, 120, 97, 52, 32, 60, 115, 10]⟩
def T5 : ByteArray := ⟨#[42, 32, 42, 32, 42, 32, 42, 32, 42, 32, 111, 97, 52, 32, 62, 97, 32, 60, 98, 10, 42, 32, 42, 32, 42, 32, 42, 32, 42, 32, 120, 97, 50, 32, 60, 99, 10]⟩
def tabsL : List ByteArray := [T0, T1, T2, T3, T4, T5]
theorem tabs_all {P : ByteArray → Prop} (h0 : P T0) (h1 : P T1) (h2 : P T2) (h3 : P T3) (h4 : P T4) (h5 : P T5) : ∀ t ∈ tabsL, P t := by
  intro t ht
  simp only [tabsL, List.mem_cons, List.not_mem_nil, or_false] at ht
  rcases ht with rfl | rfl | rfl | rfl | rfl | rfl
  · exact h0
  · exact h1
  · exact h2
  · exact h3
  · exact h4
  · exact h5
theorem tabs_chk : ∀ t ∈ tabsL, ChkR t 0 0 :=
  tabs_all (chkC_yes (by kernel_rfl)) (chkC_yes (by kernel_rfl)) (chkC_yes (by kernel_rfl)) (chkC_yes (by kernel_rfl)) (chkC_yes (by kernel_rfl)) (chkC_yes (by kernel_rfl))
theorem tabs_size : ∀ t ∈ tabsL, t.size ≤ 100 ∧ 17 ≤ t.size := tabs_all (by decide) (by decide) (by decide) (by decide) (by decide) (by decide)
end Kp
end Go.Proofs.YtdajolpoiffimabGreatDoor

namespace Go.Proofs.YtdajolpoiffimabGreatDoor
namespace Bx
/-- How many slots run. -/
def rn (s : St) : Nat := (s.slots.filter (·.runs)).length
theorem rn_sub {l m : List Sl} (h : l.Sublist m) : (l.filter (·.runs)).length ≤ (m.filter (·.runs)).length := (h.filter _).length_le
theorem rn_set (l : List Sl) (i : Nat) (y : Sl) (h : y.runs = false) : ((l.set i y).filter (·.runs)).length ≤ (l.filter (·.runs)).length := by
  induction l generalizing i with
  | nil => simp
  | cons a r ih =>
    cases i with
    | zero =>
      rw [List.set_cons_zero, List.filter_cons_of_neg (by simp [h])]
      exact rn_sub (List.sublist_cons_self _ _)
    | succ i =>
      rw [List.set_cons_succ]
      cases ha : a.runs
      · rw [List.filter_cons_of_neg (by simp [ha]), List.filter_cons_of_neg (by simp [ha])]; exact ih i
      · rw [List.filter_cons_of_pos (by simp [ha]), List.filter_cons_of_pos (by simp [ha])]; have := ih i; simp; exact this
theorem rn_arr (s : St) (p : Nat × Int) : rn (arr s p) = rn s := by
  unfold arr rn; split
  · show ((s.slots ++ [slotOf p s.next]).filter (·.runs)).length = _
    rw [List.filter_append]; simp [slotOf]
  · rfl
theorem rn_arrs (l : List (Nat × Int)) (s : St) : rn (l.foldl arr s) = rn s := by
  induction l generalizing s with
  | nil => rfl
  | cons p l ih => rw [List.foldl_cons, ih, rn_arr]
theorem rn_gone (s : St) (i : Nat) (n : Int) (how : ByteArray) : rn (with' s (withoutL s.slots i) n how) ≤ rn s := by
  show ((withoutL s.slots i).filter (·.runs)).length ≤ _
  rw [Px.without_erase]; exact rn_sub (List.eraseIdx_sublist _ _)
theorem rn_do (s : St) (c : Ch) (h : ¬ c.kind = 83) : rn (doP s c).1 ≤ rn s := by
  unfold doP
  split
  · split
    · exact Nat.le_refl _
    · exact Nat.le_refl _
  · split
    · unfold clockedP
      split
      · split
        · show rn ((comesS s c.n).foldl arr s) ≤ rn s
          rw [rn_arrs]; exact Nat.le_refl _
        · exact Nat.le_refl _
      · exact Nat.le_refl _
    · unfold aboutP
      split
      · exact Nat.le_refl _
      · rename_i hn
        have hf := find_nat hn
        generalize (find s c.n).toNat = i at *
        rw [hf]
        split
        · exact rn_gone _ _ _ _
        · split
          · exact rn_gone _ _ _ _
          · split
            · show rn (failed s i) ≤ rn s
              unfold failed; split
              · exact rn_gone _ _ _ _
              · show ((putL s.slots i _).filter (·.runs)).length ≤ _
                rw [put_set]; exact rn_set _ _ _ rfl
            · exact Nat.le_refl _
theorem rn_told (L : List Ch) (s : St) (h : ∀ c ∈ L, ¬ c.kind = 83) : rn (told s L) ≤ rn s := by
  induction L generalizing s with
  | nil => exact Nat.le_refl _
  | cons c L ih =>
    show rn (told (tell s c) L) ≤ rn s
    refine Nat.le_trans (ih _ fun x hx => h x (by simp [hx])) ?_
    unfold tell; split
    · exact rn_do s c (h c (by simp))
    · exact Nat.le_refl _
end Bx
namespace Px
theorem runs_rn (s : St) : runs s = Bx.rn (abs s) := by
  unfold runs Bx.rn abs
  rw [List.filter_map, List.length_map]
  rfl
/-- What is known of a box. -/
structure KI (b : Bo) (limit room : Int) (tab : ByteArray) (clock given : Int) : Prop where
  rel : ∃ d, Rel b d
  may : Bx.MayS (abs b.st)
  right : Bx.Right b.log (abs b.st)
  lim : b.limit = limit
  room : b.room = room
  tab : b.st.tab = tab
  clk : b.st.clock = clock
  nxt : b.st.next = 1 + given
  run : ((runs b.st : Nat) : Int) ≤ limit
theorem KI.ok {b : Bo} {l r : Int} {t : ByteArray} {c g : Int} (h : KI b l r t c g) : Ok b.st := by obtain ⟨d, hd⟩ := h.rel; exact hd.ok
theorem KI.log {b : Bo} {l r : Int} {t : ByteArray} {c g : Int} (h : KI b l r t c g) : (b.log.size : Int) ≤ r ∧ 1 ≤ l ∧ l ≤ 4 ∧ 600 ≤ r ∧ r ≤ 4000 := by
  obtain ⟨d, hd⟩ := h.rel
  have h1 := hd.log
  have h2 := h.lim
  have h3 := h.room
  have a1 := hd.l1; have a2 := hd.l4; have a3 := hd.r0; have a4 := hd.r1
  omega
/-- A box that has gone on by changes. -/
theorem KI.adv {b b' : Bo} {l r : Int} {t : ByteArray} {c g : Int} (h : KI b l r t c g) {L : List Bx.Ch} (ha : Adv b b' L) (hr : ∃ d, Rel b' d) {t' : ByteArray} (ht : b'.st.tab = t') {c' g' : Int} (hc : b'.st.clock = c') (hg : b'.st.next = 1 + g') (hn : ((runs b'.st : Nat) : Int) ≤ l) : KI b' l r t' c' g' :=
  ⟨hr, by rw [ha.st]; exact h.may.told L, by rw [ha.log, ha.st]; exact h.right.add ha.may, by rw [ha.lr.1]; exact h.lim, by rw [ha.lr.2]; exact h.room, ht, hc, hg, hn⟩
theorem about_keep {s u : Bx.St} {k n : Int} {v : Bool} (h : Bx.aboutP s k n = (u, v)) : u.tab = s.tab ∧ u.clock = s.clock ∧ u.next = s.next := by
  have e : u = (Bx.aboutP s k n).1 := by rw [h]
  rw [e]
  unfold Bx.aboutP Bx.failed Bx.with'
  repeat' split
  all_goals exact ⟨rfl, rfl, rfl⟩
theorem tell_keep (s : Bx.St) {k n : Int} {t : ByteArray} (h1 : ¬ k = 84) (h2 : ¬ k = 67) : (Bx.tell s ⟨k, t, n⟩).tab = s.tab ∧ (Bx.tell s ⟨k, t, n⟩).clock = s.clock ∧ (Bx.tell s ⟨k, t, n⟩).next = s.next := by
  unfold Bx.tell
  rw [do_about _ _ _ _ h1 h2]
  split
  · exact about_keep (v := (Bx.aboutP s k n).2) rfl
  · exact ⟨rfl, rfl, rfl⟩
/-- Changes that are about slots alone. -/
def About (L : List Bx.Ch) : Prop := ∀ c ∈ L, ¬ c.kind = 84 ∧ ¬ c.kind = 67
theorem told_keep (L : List Bx.Ch) (s : Bx.St) (h : About L) : (Bx.told s L).tab = s.tab ∧ (Bx.told s L).clock = s.clock ∧ (Bx.told s L).next = s.next := by
  induction L generalizing s with
  | nil => exact ⟨rfl, rfl, rfl⟩
  | cons c L ih =>
    obtain ⟨k, t, n⟩ := c
    have hc := h ⟨k, t, n⟩ (by simp)
    obtain ⟨a1, a2, a3⟩ := ih (Bx.tell s ⟨k, t, n⟩) fun x hx => h x (by simp [hx])
    obtain ⟨b1, b2, b3⟩ := tell_keep s (t := t) (n := n) hc.1 hc.2
    exact ⟨a1.trans b1, a2.trans b2, a3.trans b3⟩
theorem KI.about {b b' : Bo} {l r : Int} {t : ByteArray} {c g : Int} (h : KI b l r t c g) {L : List Bx.Ch} (ha : Adv b b' L) (hr : ∃ d, Rel b' d) (hL : About L) (hn : ((runs b'.st : Nat) : Int) ≤ l) : KI b' l r t c g := by
  obtain ⟨k1, k2, k3⟩ := told_keep L (abs b.st) hL
  rw [← ha.st] at k1 k2 k3
  exact h.adv ha hr (Eq.trans k1 h.tab) (Eq.trans k2 h.clk) (Eq.trans k3 h.nxt) hn
theorem KI.less {b b' : Bo} {l r : Int} {t : ByteArray} {c g : Int} (h : KI b l r t c g) {L : List Bx.Ch} (ha : Adv b b' L) (hL : ∀ x ∈ L, ¬ x.kind = 83) : ((runs b'.st : Nat) : Int) ≤ l := by
  have h1 := h.run
  rw [runs_rn] at h1 ⊢
  have := Bx.rn_told L (abs b.st) hL
  rw [← ha.st] at this
  omega
/-- Cancel. -/
theorem KI.cancel {b : Bo} {l r : Int} {t : ByteArray} {c g : Int} (h : KI b l r t c g) (n : Int) : KI (cancelB b n).1 l r t c g := by
  obtain ⟨d, hd⟩ := h.rel
  have hr := (cancel_rel hd n).2
  rcases cancel_adv h.ok n with ⟨_, e⟩ | ⟨_, ha⟩
  · rw [e]; exact h
  · have hk : ∀ x ∈ [chK n], x.kind = 75 := fun x hx => by simp at hx; subst hx; rfl
    exact h.about ha ⟨_, hr⟩ (fun x hx => by rw [hk x hx]; decide) (h.less ha fun x hx => by rw [hk x hx]; decide)
theorem KI.feed {b : Bo} {l r : Int} {t : ByteArray} {c g : Int} (h : KI b l r t c g) (n : Int) (x : ByteArray) : KI (feedB b n x).1 l r t c g := by
  obtain ⟨d, hd⟩ := h.rel
  have hr := (feed_rel hd n x).2
  rcases feed_adv h.ok n x with ⟨_, e, _⟩ | ⟨_, ha | ha⟩
  · rw [e]; exact h
  · exact h.about ha ⟨_, hr⟩ (fun x hx => by simp at hx) (h.less ha fun x hx => by simp at hx)
  · have hk : ∀ x ∈ [chD n], x.kind = 68 := fun x hx => by simp at hx; subst hx; rfl
    exact h.about ha ⟨_, hr⟩ (fun x hx => by rw [hk x hx]; decide) (h.less ha fun x hx => by rw [hk x hx]; decide)
/-- Start. -/
theorem start_told {s : St} (h : Ok s) (n : Int) (h0 : (startP s n).2 = 0) : Bx.told (abs s) [chS n] = abs (startP s n).1 := by
  rcases start_abs h.dist n with ⟨q, _⟩ | ⟨i, hi, _, hn, q⟩
  · omega
  · rcases q with ⟨q, _⟩ | ⟨q, _⟩ | ⟨q, _⟩ | ⟨_, _, _, _, _, q⟩
    · omega
    · omega
    · omega
    · exact (told_one _ _).trans (tell_about (by decide) (by decide) q)
theorem startP_ok {s : St} (h : Ok s) (n : Int) (h0 : (startP s n).2 = 0) : Ok (startP s n).1 := by
  rcases start_abs h.dist n with ⟨e8, hf⟩ | ⟨i, hi, hF, hn, hc⟩
  · omega
  rcases hc with ⟨e, q⟩ | ⟨e, q1, q2⟩ | ⟨e, q1, q2, q3⟩ | ⟨e, q1, q2, q3, q4, q5⟩
  · omega
  · omega
  · omega
  have hy : s.slots[i] ∈ s.slots := List.getElem_mem hi
  have hst : Bx.StOk (abs (startP s n).1) := by
    have := Bx.about_ok h.st 83 n
    rw [q5] at this; exact this
  have hh0 := h.ex _ hy
  have hyh : s.slots[i].heard = ByteArray.empty := hh0.2.2.2.2.2 (by omega)
  obtain ⟨s1, s5, sz⟩ := steps_size h hy
  rw [q4] at hst ⊢
  exact h.repl _ hst ⟨h.st.c1, h.st.c2, by show (0 : Int) ≤ 1; omega, by show (1 : Int) ≤ ((stepsL s s.slots[i]).length : Int); omega, by show s.slots[i].heard.size ≤ 8; omega, fun q => by simp [beg] at q⟩
theorem KI.start {b : Bo} {l r : Int} {t : ByteArray} {c g : Int} (h : KI b l r t c g) (n : Int) : KI (startB b n).1 l r t c g := by
  obtain ⟨d, hd⟩ := h.rel
  have hr := (start_rel hd n).2
  have hs0 : (startB b n).2.2 = 0 → (startP b.st n).2 = 0 := by
    intro q
    by_cases h0 : (startP b.st n).2 = 0
    · exact h0
    · unfold startB at q; rw [if_pos h0] at q; exact absurd q h0
  rcases start_adv h.ok n (startP_ok h.ok n) with ⟨_, e, _⟩ | ⟨h0, hlim, ha⟩
  · rw [e]; exact h
  have ht := start_told h.ok n (hs0 h0)
  rw [h.lim, runs_rn, ← ht] at hlim
  rcases ha with ha | ha
  · have hk : ∀ x ∈ [chS n], x.kind = 83 := fun x hx => by simp at hx; subst hx; rfl
    exact h.about ha ⟨_, hr⟩ (fun x hx => by rw [hk x hx]; decide) (by rw [runs_rn, ha.st]; exact hlim)
  · have hk : About [chS n, chD n] := fun x hx => by
      simp at hx
      rcases hx with rfl | rfl
      · exact ⟨by show ¬ (83 : Int) = 84; decide, by show ¬ (83 : Int) = 67; decide⟩
      · exact ⟨by show ¬ (68 : Int) = 84; decide, by show ¬ (68 : Int) = 67; decide⟩
    refine h.about ha ⟨_, hr⟩ hk ?_
    rw [runs_rn, ha.st]
    have h1 := Bx.rn_told [chD n] (Bx.told (abs b.st) [chS n]) (fun x hx => by simp at hx; subst hx; show ¬ (68 : Int) = 83; decide)
    have e : Bx.told (Bx.told (abs b.st) [chS n]) [chD n] = Bx.told (abs b.st) [chS n, chD n] := rfl
    rw [e] at h1
    omega
/-- Tick. -/
theorem KI.tick {b : Bo} {l r : Int} {t : ByteArray} {c g : Int} (h : KI b l r t c g) (m : Int) (h0 : (tickB b m).2.2 = 0) :
    (tickB b m).2.1 = ((comesP b.st m).length : Int) ∧ KI (tickB b m).1 l r t m (g + ((comesP b.st m).length : Int)) := by
  obtain ⟨d, hd⟩ := h.rel
  have hr := (tick_rel hd m).2
  rcases tick_adv h.ok m with ⟨q, _⟩ | ⟨_, hc0, ha⟩
  · exact absurd h0 q
  obtain ⟨m0, m1, _, _, hst⟩ := clock_st hc0
  obtain ⟨z, _, _, _, h4, h5, _⟩ := arrs_slots (comesP b.st m) b.st
  have hcl := clock_abs b.st m hc0
  have hd1 : Bx.doP (abs b.st) (chCl m) = (abs (clockP b.st m).1, true) := by
    unfold Bx.doP
    rw [if_neg (show ¬ (chCl m).kind = 84 by show ¬ (67 : Int) = 84; omega), if_pos (show (chCl m).kind = 67 from rfl)]
    exact hcl
  have hk : ∀ x ∈ (late (clockP b.st m).1).map chF, x.kind = 70 := fun x hx => by
    obtain ⟨y, _, rfl⟩ := List.mem_map.1 hx; rfl
  have e := ha.st
  rw [Bx.told_cons (by rw [hd1]), hd1] at e
  obtain ⟨k1, k2, k3⟩ := told_keep ((late (clockP b.st m).1).map chF) (abs (clockP b.st m).1) (fun x hx => by rw [hk x hx]; decide)
  have e' : abs (tickB b m).1.st = Bx.told (abs (clockP b.st m).1) ((late (clockP b.st m).1).map chF) := e
  rw [← e'] at k1 k2 k3
  have j1 : (clockP b.st m).1.tab = b.st.tab := by rw [hst]; exact h5
  have j2 : (clockP b.st m).1.clock = m := by rw [hst]
  have j3 : (clockP b.st m).1.next = b.st.next + ((comesP b.st m).length : Int) := by rw [hst]; exact h4
  refine ⟨?_, ?_⟩
  · unfold tickB at h0 ⊢
    rw [if_neg (by simpa using hc0)] at h0 ⊢
    by_cases hrm : b.room < (b.log.size : Int) + (tickQ b m).2.size
    · rw [if_pos hrm] at h0; simp at h0
    · rw [if_neg hrm]; show (clockP b.st m).1.next - b.st.next = _; omega
  · refine h.adv ha ⟨_, hr⟩ ?_ ?_ ?_ ?_
    · exact (Eq.trans k1 j1).trans h.tab
    · exact Eq.trans k2 j2
    · have : (tickB b m).1.st.next = (clockP b.st m).1.next := k3
      rw [this, j3, h.nxt]; omega
    · refine h.less ha fun x hx => ?_
      rcases List.mem_cons.1 hx with q | q
      · subst q; show ¬ (67 : Int) = 83; decide
      · rw [hk x q]; decide
end Px
end Go.Proofs.YtdajolpoiffimabGreatDoor

namespace Go.Proofs.YtdajolpoiffimabGreatDoor
namespace Bx
theorem fC (m : Int) : (frame (body (chCl m))).size = 12 := by
  rw [frame_size]
  have : body (chCl m) = b1 67 ++ be m 5 := rfl
  rw [this, ByteArray.size_append, b1_size, be_size]
theorem fN (k n : Int) (t : ByteArray) (h1 : ¬ k = 84) (h2 : ¬ k = 67) : (frame (body ⟨k, t, n⟩)).size = 9 := by
  rw [frame_size]
  have : body ⟨k, t, n⟩ = b1 k ++ be n 2 := by unfold body; rw [if_neg h1, if_neg h2]
  rw [this, ByteArray.size_append, b1_size, be_size]
theorem frames_F (ns : List Int) : (frames (ns.map chF)).size = 9 * ns.length := by
  induction ns with
  | nil => rfl
  | cons n r ih =>
    rw [List.map_cons, frames_cons, ByteArray.size_append, ih, List.length_cons]
    have : (frame (body (chF n))).size = 9 := fN 70 n _ (by decide) (by decide)
    omega
/-- The state, interrupted. -/
def intS (s : St) : St := { s with slots := s.slots.map fun x => { x with runs := false } }
theorem MayS.int {s : St} (h : MayS s) : MayS (intS s) := by
  refine ⟨h.tab, h.c1, h.c2, h.n1, h.n2, by simpa [intS] using h.sl, h.en, ?_, ?_, h.dif, ?_, ?_⟩
  · show (s.slots.map _).Pairwise _
    rw [List.pairwise_map]; exact h.rise
  · show (s.slots.map _).Pairwise _
    rw [List.pairwise_map]
    exact h.lock.imp fun _ _ _ q => by cases q
  · intro x hx
    obtain ⟨y, hy, rfl⟩ := List.mem_map.1 hx
    have q := h.es y hy
    exact ⟨q.n, q.l, q.m0, q.m, q.a, q.f1, q.f2, fun e => by cases e⟩
  · intro x hx
    have q := h.ee x hx
    refine ⟨q.n, q.h, fun z hz => ?_⟩
    obtain ⟨y, hy, rfl⟩ := List.mem_map.1 hz
    exact q.o y hy
theorem rn_int (s : St) : rn (intS s) = 0 := by
  unfold rn intS
  rw [List.length_eq_zero_iff, List.filter_eq_nil_iff]
  intro x hx
  obtain ⟨y, _, rfl⟩ := List.mem_map.1 hx
  simp
end Bx
namespace Px
theorem late_le (s : St) : (late s).length ≤ runs s := by
  unfold late runs
  rw [List.length_map]
  have : (s.slots.filter fun x => decide (0 < x.step) && decide (x.ans ≤ s.clock - 3)) = (s.slots.filter fun x => decide (0 < x.step)).filter fun x => decide (x.ans ≤ s.clock - 3) := by
    rw [List.filter_filter]; congr 1; funext x; exact Bool.and_comm _ _
  rw [this]; exact List.length_filter_le _ _
theorem tickQ_size {b : Bo} (h : Ok b.st) {m : Int} (h0 : (clockP b.st m).2 = 0) : (tickQ b m).2.size = 12 + 9 * (late (clockP b.st m).1).length := by
  obtain ⟨hk, hall, hpw⟩ := tick_late h h0
  obtain ⟨_, f2, _⟩ := fails_rel (late (clockP b.st m).1) (clockP b.st m).1 (Bx.frame (Bx.body (chCl m))) hk hall hpw
  have hfr : (tickQ b m).2 = Bx.frames (chCl m :: (late (clockP b.st m).1).map chF) := by rw [frames_fold]; exact f2
  rw [hfr, Bx.frames_cons, ByteArray.size_append, Bx.fC, Bx.frames_F]
theorem tick_codes (b : Bo) (m : Int) (m0 : 0 ≤ m) (m1 : m ≤ 4223371679) (ha : aheadP b.st m = true) : (tickB b m).2.2 = 0 ∨ ((tickB b m).1 = b ∧ (tickB b m).2.1 = 0 ∧ (((tickB b m).2.2 = 7 ∧ 10000 < b.st.next + ((comesP b.st m).length : Int)) ∨ ((tickB b m).2.2 = 13 ∧ (clockP b.st m).2 = 0 ∧ b.room < (b.log.size : Int) + (tickQ b m).2.size))) := by
  have e := clock_err b.st m
  rw [if_neg (by omega), ha, if_neg (by simp)] at e
  by_cases h7 : 10000 < b.st.next + ((comesP b.st m).length : Int)
  · rw [if_pos h7] at e
    right
    unfold tickB; rw [e, if_pos (by simp)]
    exact ⟨rfl, rfl, Or.inl ⟨rfl, h7⟩⟩
  · rw [if_neg h7] at e
    unfold tickB; rw [if_neg (by simpa using e)]
    by_cases hr : b.room < (b.log.size : Int) + (tickQ b m).2.size
    · right; rw [if_pos hr]; exact ⟨rfl, rfl, Or.inr ⟨rfl, e, hr⟩⟩
    · left; rw [if_neg hr]
theorem runs_clock {s : St} {m : Int} (h0 : (clockP s m).2 = 0) : runs (clockP s m).1 = runs s := by
  obtain ⟨_, _, _, _, hst⟩ := clock_st h0
  obtain ⟨z, h1, h2, _⟩ := arrs_slots (comesP s m) s
  rw [hst]
  unfold runs
  show (((comesP s m).foldl arr s).slots.filter _).length = _
  rw [h1, List.filter_append]
  have : z.filter (fun x => decide (0 < x.step)) = [] := List.filter_eq_nil_iff.2 fun x hx => by have := (h2 x hx).1; simp; omega
  rw [this]; simp
theorem KI.room13 {b : Bo} {l r : Int} {t : ByteArray} {c g : Int} (h : KI b l r t c g) {m : Int} (h0 : (clockP b.st m).2 = 0) (hr : b.room < (b.log.size : Int) + (tickQ b m).2.size) : r < (b.log.size : Int) + (12 + 9 * l) := by
  rw [tickQ_size h.ok h0] at hr
  have h1 := late_le (clockP b.st m).1
  rw [runs_clock h0] at h1
  have h2 := h.run
  have h3 := h.room
  omega
theorem lns_len (t : ByteArray) : (Bx.lns t).length = tn t := by unfold Bx.lns; rw [List.length_map, Bx.linesOf_len]
theorem KI.ids7 {b : Bo} {l r : Int} {t : ByteArray} {c g : Int} (h : KI b l r t c g) {m : Int} (hc : 0 ≤ c) (hm : c < m) (h7 : 10000 < b.st.next + ((comesP b.st m).length : Int)) : 9999 < g + 4 * (m - c) := by
  have h1 := Bx.comes_len (Bx.lns b.st.tab) (newA b.st m) m
  have h2 := lns_len b.st.tab
  have h3 := tn_le h.may.tab
  have h4 := h.nxt
  have h5 : newA b.st m = c + 1 := by unfold newA; rw [h.clk, if_neg (by omega)]
  have h6 : (abs b.st).tab = b.st.tab := rfl
  rw [h6] at h3
  rw [h2, h5] at h1
  have h7' : ((comesP b.st m).length : Int) ≤ 4 * (m - c) := by
    have e : (comesP b.st m).length = (Bx.comes (Bx.lns b.st.tab) (c + 1) m).length := by unfold comesP; rw [h5]
    rw [e]
    have : (m + 1 - (c + 1)).toNat * tn b.st.tab ≤ (m + 1 - (c + 1)).toNat * 4 := Nat.mul_le_mul_left _ h3
    omega
  omega
theorem KI.many {b : Bo} {l r : Int} {t : ByteArray} {c g : Int} (h : KI b l r t c g) {m : Int} (hc : 0 ≤ c) (hm : c < m) : ((comesP b.st m).length : Int) ≤ 4 * (m - c) := by
  have h1 := Bx.comes_len (Bx.lns b.st.tab) (newA b.st m) m
  have h2 := lns_len b.st.tab
  have h3 := tn_le h.may.tab
  have h5 : newA b.st m = c + 1 := by unfold newA; rw [h.clk, if_neg (by omega)]
  have h6 : (abs b.st).tab = b.st.tab := rfl
  rw [h6] at h3
  rw [h2, h5] at h1
  have e : (comesP b.st m).length = (Bx.comes (Bx.lns b.st.tab) (c + 1) m).length := by unfold comesP; rw [h5]
  rw [e]
  have : (m + 1 - (c + 1)).toNat * tn b.st.tab ≤ (m + 1 - (c + 1)).toNat * 4 := Nat.mul_le_mul_left _ h3
  omega
theorem KI.ahead {b : Bo} {l r : Int} {t : ByteArray} {c g : Int} (h : KI b l r t c g) {m : Int} (hm : c < m) (h2 : m ≤ c + 1500) : aheadP b.st m = true := decide_eq_true (by rw [h.clk]; omega)
theorem doneP_codes (s : St) (n : Int) : (doneP s n).2 = 0 ∨ (doneP s n).2 = 8 ∨ (doneP s n).2 = 9 := by
  unfold doneP
  cases find s.slots n with
  | none => right; left; rfl
  | some x => simp only; split
              · right; right; rfl
              · left; rfl
theorem talk_codes (b : Bo) (s : St) (n : Int) (x fr : ByteArray) : (talkB b s n x fr).2.2 = 0 ∨ (talkB b s n x fr).2.2 = 8 ∨ (talkB b s n x fr).2.2 = 9 ∨ ((talkB b s n x fr).2.2 = 13 ∧ b.room < (b.log.size : Int) + fr.size + 9) := by
  have h9 : (Bx.frame (Bx.body (chD n))).size = 9 := Bx.fN 68 n _ (by decide) (by decide)
  unfold talkB
  cases find s.slots n with
  | none => right; left; rfl
  | some y =>
    simp only
    split
    · right; right; left; rfl
    · split
      · split
        · rcases doneP_codes (talkT s y x) n with q | q | q
          · rename_i hq; exact absurd q hq
          · right; left; exact q
          · right; right; left; exact q
        · unfold commitB; split
          · right; right; right
            rename_i hr
            rw [ByteArray.size_append, h9] at hr
            exact ⟨rfl, by omega⟩
          · left; rfl
      · unfold commitB; split
        · right; right; right
          rename_i hr
          exact ⟨rfl, by omega⟩
        · left; rfl
theorem startP_codes (s : St) (n : Int) : (startP s n).2 = 0 ∨ (startP s n).2 = 8 ∨ (startP s n).2 = 9 ∨ (startP s n).2 = 10 ∨ (startP s n).2 = 11 := by
  unfold startP
  cases find s.slots n with
  | none => right; left; rfl
  | some x => simp only; repeat' split
              all_goals simp
theorem start_codes (b : Bo) (n : Int) : (startB b n).2.2 = 0 ∨ (8 ≤ (startB b n).2.2 ∧ (startB b n).2.2 ≤ 12) ∨ ((startB b n).2.2 = 13 ∧ b.room < (b.log.size : Int) + 18) := by
  have h9 : (Bx.frame (Bx.body (chS n))).size = 9 := Bx.fN 83 n _ (by decide) (by decide)
  unfold startB
  split
  · rename_i h0
    rcases startP_codes b.st n with q | q | q | q | q
    · exact absurd q h0
    all_goals (right; left; show 8 ≤ (startP b.st n).2 ∧ (startP b.st n).2 ≤ 12; omega)
  · split
    · right; left; show (8 : Int) ≤ 12 ∧ (12 : Int) ≤ 12; omega
    · rcases talk_codes b (startP b.st n).1 n ByteArray.empty (Bx.frame (Bx.body (chS n))) with q | q | q | ⟨q, q2⟩
      · left; exact q
      · right; left; omega
      · right; left; omega
      · right; right; exact ⟨q, by omega⟩
theorem feed_codes (b : Bo) (n : Int) (x : ByteArray) (hx : x.size ≤ 40) : (feedB b n x).2.2 = 0 ∨ (feedB b n x).2.2 = 8 ∨ (feedB b n x).2.2 = 9 ∨ ((feedB b n x).2.2 = 13 ∧ b.room < (b.log.size : Int) + 9) := by
  unfold feedB
  rw [if_neg (by omega)]
  rcases talk_codes b b.st n x ByteArray.empty with q | q | q | ⟨q, q2⟩
  · exact Or.inl q
  · exact Or.inr (Or.inl q)
  · exact Or.inr (Or.inr (Or.inl q))
  · exact Or.inr (Or.inr (Or.inr ⟨q, by simpa using q2⟩))
theorem cancel_codes (b : Bo) (n : Int) : (cancelB b n).2 = 0 ∨ (cancelB b n).2 = 8 ∨ ((cancelB b n).2 = 13 ∧ b.room < (b.log.size : Int) + 9) := by
  have h9 : (Bx.frames [chK n]).size = 9 := by rw [frames_one]; exact Bx.fN 75 n _ (by decide) (by decide)
  unfold cancelB
  split
  · right; left
    rename_i h0
    unfold cancelP at h0 ⊢
    cases hF : find b.st.slots n with
    | none => rfl
    | some x => rw [hF] at h0; exact absurd rfl h0
  · split
    · right; right; rename_i hr; exact ⟨rfl, by omega⟩
    · left; rfl
/-- A new box; a crontab; the first minute. -/
theorem KI.new {l r : Int} (h : mayB l r = true) : KI ⟨l, r, first, ByteArray.empty⟩ l r ByteArray.empty (-1) 0 := by
  obtain ⟨h1, h2, h3, h4⟩ := of_decide_eq_true h
  exact ⟨⟨_, Rel.new h⟩, Bx.first_may, Bx.Right.nil, rfl, rfl, rfl, rfl, rfl, by show (0 : Int) ≤ l; omega⟩
theorem KI.load {b b' : Bo} {l r : Int} {t tab : ByteArray} {c g a e : Int} (h : KI b l r t c g) (hL : LoadB b tab b' a e) (hc : ChkR tab 0 0) (hs : b.st.slots = []) (hr : (b.log.size : Int) + tab.size + 12 ≤ r) :
    a = 0 ∧ e = 0 ∧ KI b' l r tab c g ∧ b'.st.slots = [] ∧ b'.log.size ≤ b.log.size + tab.size + 12 := by
  have hro := h.room
  have hz : (Bx.frames [chT tab]).size ≤ tab.size + 12 := by rw [frames_one]; exact fsz _
  obtain ⟨h1, h2, h3⟩ := load_yes hL hc hs (by omega)
  obtain ⟨d, hd⟩ := h.rel
  have hR : LoadR d tab (addB d [chT tab]) 0 0 := Or.inr (Or.inr (Or.inr ⟨hc, by rw [hd.now]; simp [abs, hs], by unfold fits; rw [hd.room, hd.txt]; omega, rfl, rfl, rfl⟩))
  have hrel := (load_rel hd hL hR).2.2
  rcases load_adv hL with ⟨q, _⟩ | ⟨_, _, _, _, ha⟩
  · exact absurd h2 q
  refine ⟨h1, h2, h.adv ha ⟨_, hrel⟩ (t' := tab) (by rw [h3]) (by rw [h3]; exact h.clk) (by rw [h3]; exact h.nxt) (h.less ha fun x hx => by simp at hx; subst hx; show ¬ (84 : Int) = 83; decide), by rw [h3]; exact hs, ?_⟩
  rw [h3]; show (b.log ++ _).size ≤ _
  rw [ByteArray.size_append]; omega
theorem KI.first {b : Bo} {l r : Int} {t : ByteArray} (h : KI b l r t (-1) 0) (hs : b.log.size ≤ 400) {m : Int} (m0 : 0 ≤ m) (m1 : m ≤ 4223371679) :
    (tickB b m).2.2 = 0 ∧ (tickB b m).2.1 = ((comesP b.st m).length : Int) ∧ (comesP b.st m).length ≤ 4 ∧ KI (tickB b m).1 l r t m ((comesP b.st m).length : Int) := by
  have h1 := Bx.comes_len (Bx.lns b.st.tab) (newA b.st m) m
  have h2 := lns_len b.st.tab
  have h3 : tn b.st.tab ≤ 4 := tn_le h.may.tab
  have h4 := h.nxt
  have hcl := h.clk
  have h5 : newA b.st m = m := by unfold newA; rw [hcl, if_pos rfl]
  have h6 : (comesP b.st m).length ≤ 4 := by
    have e : (comesP b.st m).length = (Bx.comes (Bx.lns b.st.tab) m m).length := by unfold comesP; rw [h5]
    rw [h5, h2, show (m + 1 - m).toNat = 1 by omega] at h1
    omega
  have hlg := h.log
  have h0 : (tickB b m).2.2 = 0 := by
    rcases tick_codes b m m0 m1 (decide_eq_true (by rw [hcl]; omega)) with q | ⟨_, _, q | ⟨_, q1, q2⟩⟩
    · exact q
    · omega
    · have := h.room13 q1 q2; omega
  obtain ⟨k1, k2⟩ := h.tick m h0
  refine ⟨h0, k1, h6, ?_⟩
  rw [show (0 : Int) + ((comesP b.st m).length : Int) = ((comesP b.st m).length : Int) by omega] at k2
  exact k2
/-- The log is another one, which says the same. -/
def compB (b : Bo) : Bo := { b with log := Bx.frame (Bx.wholeS (abs b.st)) }
theorem whole_le {s : Bx.St} (h : Bx.MayS s) : (Bx.frame (Bx.wholeS s)).size ≤ 456 := by rw [Bx.frame_size]; have := Bx.wholeS_size h; omega
theorem whole_ge (s : Bx.St) : 18 ≤ (Bx.frame (Bx.wholeS s)).size := by
  rw [Bx.frame_size]
  unfold Bx.wholeS Bx.encSt
  simp only [ByteArray.size_append, Bx.be_size, Bx.b1_size]
  omega
theorem KI.comp {b : Bo} {l r : Int} {t : ByteArray} {c g : Int} (h : KI b l r t c g) : KI (compB b) l r t c g := by
  obtain ⟨d, hd⟩ := h.rel
  have hw := whole_le h.may
  have hr := hd.r0
  exact ⟨⟨{ d with text := Bx.frame (Bx.wholeS (abs b.st)) }, hd.lim, hd.room, hd.now, rfl, hd.tks, hd.ok, hd.l1, hd.l4, hd.r0, hd.r1, by show (((Bx.frame (Bx.wholeS (abs b.st))).size : Nat) : Int) ≤ b.room; omega⟩,
    h.may, Bx.Right.whole h.may, h.lim, h.room, h.tab, h.clk, h.nxt, h.run⟩
/-- The program's state, interrupted. -/
def wait (x : Sl) : Sl := { x with step := 0, ans := 0, heard := ByteArray.empty }
def intP (s : St) : St := { s with slots := s.slots.map wait }
theorem int_abs (s : St) : abs (intP s) = Bx.intS (abs s) := by
  unfold abs intP Bx.intS
  simp only [List.map_map]
  rfl
def openB (l r : Int) (s : St) : Bo := ⟨l, r, intP s, Bx.frame (Bx.wholeS (abs (intP s)))⟩
theorem int_ok {s : St} (h : Bx.MayS (abs s)) : Ok (intP s) := by
  have hm : Bx.MayS (abs (intP s)) := by rw [int_abs]; exact h.int
  refine ⟨hm.ok, ?_, fun x hx => ?_⟩
  · have := hm.rise
    unfold abs at this
    rw [List.pairwise_map] at this
    exact this
  · obtain ⟨y, _, rfl⟩ := List.mem_map.1 hx
    exact ⟨by show (-1 : Int) ≤ 0; omega, by show (0 : Int) ≤ _; omega, by show (0 : Int) ≤ 0; omega, by show (0 : Int) ≤ ((_ : Nat) : Int); omega, by show (0 : Nat) ≤ 8; omega, fun _ => rfl⟩
theorem KI.opened {l r : Int} {s : St} (hl : mayB l r = true) (h : Bx.MayS (abs s)) {g : Int} (hg : s.next = 1 + g) : KI (openB l r s) l r s.tab s.clock g := by
  obtain ⟨h1, h2, h3, h4⟩ := of_decide_eq_true hl
  have hm : Bx.MayS (abs (intP s)) := by rw [int_abs]; exact h.int
  have hw := whole_le hm
  have hk := int_ok h
  refine ⟨⟨⟨l, r, abs (intP s), Bx.frame (Bx.wholeS (abs (intP s))), []⟩, rfl, rfl, rfl, rfl, ⟨List.Pairwise.nil, fun t ht => by simp at ht, fun x hx hs => ?_⟩, hk, h1, h2, h3, h4, by show (((Bx.frame (Bx.wholeS (abs (intP s)))).size : Nat) : Int) ≤ r; omega⟩, hm, Bx.Right.whole hm, rfl, rfl, rfl, rfl, hg, ?_⟩
  · obtain ⟨y, _, rfl⟩ := List.mem_map.1 hx
    exact absurd hs (by show ¬ (0 : Int) < 0; omega)
  · rw [runs_rn]
    show ((Bx.rn (abs (intP s)) : Nat) : Int) ≤ l
    rw [int_abs, Bx.rn_int]; omega
end Px
end Go.Proofs.YtdajolpoiffimabGreatDoor
