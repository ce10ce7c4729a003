/-
  Base, Duo, DuoAsk, DuoDo, LawAsk, LawDo, LawStep, LawStep2, LawPlay, LawTicks.
-/
import Derived.Test.YtdajolpoiffimaaGreatDoorRows
import Derived.ProofKit
import Derived.OpenShut
import Derived.Deep.DeepHandedRow
import Derived.Lib.LaidTab
import Derived.Deep.RegionHeld3
import Derived.Deep.DrawnRows
import Derived.Deep.Slices
import Derived.ChangeArms
import Derived.Test.YtdajolpoiffimaaGreatDoorL2
import Derived.Test.YtdajolpoiffimaaGreatDoorL5
import Derived.Test.YtdajolpoiffimaaGreatDoorL6
import Derived.Test.YtdajolpoiffimaaGreatDoorL7
import Derived.Test.YtdajolpoiffimaaGreatDoorL10

namespace Go.Proofs.YtdajolpoiffimaaGreatDoor
open Go.ChangeShapes Go.WideShapes Go.ChangeAt Go.RowKit

theorem own : ownKnob Tryz.prog.godebug = none := by kernel_rfl
theorem laidOut : laidOutB Tryz.prog = true := by kernel_rfl
theorem gTab : Tryz.prog.globalNamed "bellman/calendar.monthLengths" = some 2 := by kernel_rfl
theorem gTabType : (Tryz.prog.globals[2]?).map (·.type) = some 277 := by kernel_rfl
theorem cellsTab : Tryz.prog.cellsOf 277 = 12 := by kernel_rfl
theorem cellsInt : Tryz.prog.cellsOf 3 = 1 := by kernel_rfl
theorem cellsDate : Tryz.prog.cellsOf 227 = 6 := by kernel_rfl

theorem tab_of {W : World} (h : Lib.TabIs Tryz.prog W "bellman/calendar.monthLengths" .i64 [31, 28, 31, 30, 31, 30, 31, 31, 30, 31, 30, 31]) : Tab W := by
  intro m m1 m2
  have : m = 1 ∨ m = 2 ∨ m = 3 ∨ m = 4 ∨ m = 5 ∨ m = 6 ∨ m = 7 ∨ m = 8 ∨ m = 9 ∨ m = 10 ∨ m = 11 ∨ m = 12 := by omega
  rcases this with rfl | rfl | rfl | rfl | rfl | rfl | rfl | rfl | rfl | rfl | rfl | rfl
  · exact h.cell gTab 0 (by decide)
  · exact h.cell gTab 1 (by decide)
  · exact h.cell gTab 2 (by decide)
  · exact h.cell gTab 3 (by decide)
  · exact h.cell gTab 4 (by decide)
  · exact h.cell gTab 5 (by decide)
  · exact h.cell gTab 6 (by decide)
  · exact h.cell gTab 7 (by decide)
  · exact h.cell gTab 8 (by decide)
  · exact h.cell gTab 9 (by decide)
  · exact h.cell gTab 10 (by decide)
  · exact h.cell gTab 11 (by decide)

theorem six {α : Type} {cs : Array α} (h : cs.size = 6) : ∃ a b c d e f, cs = #[a, b, c, d, e, f] := by
  obtain ⟨l⟩ := cs
  match l, h with
  | [a, b, c, d, e, f], _ => exact ⟨a, b, c, d, e, f, rfl⟩
theorem someAt {α : Type} {xs : List α} {n i : Nat} (h : xs.length = n) (hi : i < n) : ∃ x, xs[i]? = some x := ⟨xs[i], by simp⟩

set_option maxRecDepth 10000 in
/-- A date that comes in is six numbers. -/
theorem open_date {H : Type} {enc : TypeId × Value → H} {w : World} {r : Reach} {b0 base : Nat} {spare : Nat → Bool} {held : Bool} {v : Value} {x : DataW H} {p : List MemPlace}
    (hv : Value.okWide Tryz.prog w r b0 227 v) (h : DataW.Trod enc Tryz.prog w base spare held 227 v x p) : ∃ y m d h' i k : Int, v = dateV y m d h' i k := by
  obtain ⟨cs, rfl, hsz⟩ := okWide_struct Tryz.underlying227 hv
  obtain ⟨c0, c1, c2, c3, c4, c5, rfl⟩ := six (hsz.trans cellsDate)
  obtain ⟨fuel, hf⟩ := h
  obtain ⟨xs, n, _, _, _, hlen, hfld⟩ := DataW.trod_struct Tryz.underlying227 hf
  have q : ∀ (j : Nat) (c : Value) (y : DataW H × List MemPlace), DataW.trod enc Tryz.prog w base spare held n 3 [c] = some y → ∃ z : Int, c = .int .i64 z := by
    intro j c y hy
    obtain ⟨z, e, _, _⟩ := DataW.trod_int Tryz.underlying3 hy
    exact ⟨z, by simpa using e⟩
  obtain ⟨x0, e0⟩ := someAt hlen (i := 0) (by decide)
  obtain ⟨x1, e1⟩ := someAt hlen (i := 1) (by decide)
  obtain ⟨x2, e2⟩ := someAt hlen (i := 2) (by decide)
  obtain ⟨x3, e3⟩ := someAt hlen (i := 3) (by decide)
  obtain ⟨x4, e4⟩ := someAt hlen (i := 4) (by decide)
  obtain ⟨x5, e5⟩ := someAt hlen (i := 5) (by decide)
  have h0 := hfld 0 _ rfl
  have h1 := hfld 1 _ rfl
  have h2 := hfld 2 _ rfl
  have h3 := hfld 3 _ rfl
  have h4 := hfld 4 _ rfl
  have h5 := hfld 5 _ rfl
  simp only [Value.cells] at h0 h1 h2 h3 h4 h5
  obtain ⟨a, rfl⟩ := q 0 c0 x0 (h0.trans e0)
  obtain ⟨b, rfl⟩ := q 1 c1 x1 (h1.trans e1)
  obtain ⟨c, rfl⟩ := q 2 c2 x2 (h2.trans e2)
  obtain ⟨d, rfl⟩ := q 3 c3 x3 (h3.trans e3)
  obtain ⟨e, rfl⟩ := q 4 c4 x4 (h4.trans e4)
  obtain ⟨f, rfl⟩ := q 5 c5 x5 (h5.trans e5)
  exact ⟨a, b, c, d, e, f, rfl⟩

end Go.Proofs.YtdajolpoiffimaaGreatDoor

namespace Go.Proofs.YtdajolpoiffimaaGreatDoor
open Go.RowKit

/-- Nothing that was there is changed, but for some blocks. -/
structure Kept (S : Nat → Prop) (w w' : World) : Prop where
  os : w'.os = w.os
  tape : w'.tape = w.tape
  output : w'.output = w.output
  size : w.heap.size ≤ w'.heap.size
  block : ∀ k, k < w.heap.size → ¬ S k → w'.heap[k]? = w.heap[k]?
theorem Kept.refl (S : Nat → Prop) (w : World) : Kept S w w := ⟨rfl, rfl, rfl, Nat.le_refl _, fun _ _ _ => rfl⟩
theorem Kept.of_below {w w' : World} (S : Nat → Prop) (h : Below w.heap.size w w') : Kept S w w' := ⟨h.os, h.tape, h.output, h.size, fun k hk _ => h.block k hk⟩
theorem Kept.of_grow {w w' : World} {B : Nat} {S : Nat → Prop} (h : w.grownBy w' (some B)) (hS : S B) : Kept S w w' := ⟨h.os, h.tape, h.output, h.size, fun k hk hn => h.block k hk (fun e => hn (by cases e; exact hS))⟩
theorem Kept.of_two {w w' : World} {D : Nat} {r : Option Nat} {S : Nat → Prop} (h : TwoBy w w' D r) (hS : S D) (hr : ∀ g, r = some g → S g) : Kept S w w' :=
  ⟨h.os, h.tape, h.output, h.size, fun k hk hn => h.block k hk (fun e => hn (by subst e; exact hS)) (fun e => hn (hr k e.symm))⟩
theorem Kept.trans {S : Nat → Prop} {w w1 w2 : World} (h1 : Kept S w w1) (h2 : Kept S w1 w2) : Kept S w w2 :=
  ⟨h2.os.trans h1.os, h2.tape.trans h1.tape, h2.output.trans h1.output, Nat.le_trans h1.size h2.size, fun k hk hn => (h2.block k (Nat.lt_of_lt_of_le hk h1.size) hn).trans (h1.block k hk hn)⟩
theorem Kept.mono {S T : Nat → Prop} {w w' : World} (h : Kept S w w') (hs : ∀ k, S k → T k) : Kept T w w' := ⟨h.os, h.tape, h.output, h.size, fun k hk hn => h.block k hk (fun e => hn (hs k e))⟩
theorem Kept.below {S : Nat → Prop} {w w' : World} {n : Nat} (h : Kept S w w') (hs : ∀ k, S k → n ≤ k) (hn : n ≤ w.heap.size) : Below n w w' :=
  ⟨h.os, h.tape, h.output, h.size, fun k hk => h.block k (Nat.lt_of_lt_of_le hk hn) (fun e => by have := hs k e; omega)⟩
theorem Kept.cell {S : Nat → Prop} {w w' : World} {g j : Nat} {v : Value} (h : Kept S w w') (hn : ¬ S g) (hc : w.cell? ⟨g, j, none⟩ = some v) : w'.cell? ⟨g, j, none⟩ = some v := by
  have hl : g < w.heap.size := World.block_lt_of_cell? _ _ hc
  rw [World.cell?_of_block (a := ⟨g, j, none⟩) (h.block g hl hn)]; exact hc
theorem Kept.typed {S : Nat → Prop} {w w' : World} {g : Nat} {e : TypeId} (h : Kept S w w') (hn : ¬ S g) (ht : Typed w g e) : Typed w' g e := by
  have hl := ht.lt
  obtain ⟨cur, fr, hc⟩ := ht
  exact ⟨cur, fr, (h.block g hl hn).trans hc⟩
theorem Kept.row {S : Nat → Prop} {w w' : World} {e : TypeId} {v : Value} {n : Nat} {cells : List Value} (h : Kept S w w') (hs : ∀ g, S g → ¬ Typed w g e) (hr : TRow w e v n cells) : TRow w' e v n cells := by
  have far : ∀ b off m cap, v = .slice (some ⟨b, off, none⟩) m cap → ¬ S b := fun b off m cap hv q => hs b q (hr.2 b off m cap hv)
  refine ⟨?_, fun b off m cap hv => ?_⟩
  · rcases hr.1 with a | ⟨b, off, cap, hv, hle, hc⟩
    · exact Or.inl a
    · exact Or.inr ⟨b, off, cap, hv, hle, fun j hj => h.cell (far b off n cap hv) (hc j hj)⟩
  · exact h.typed (far b off m cap hv) (hr.2 b off m cap hv)
theorem Kept.own {S : Nat → Prop} {w w' : World} {base size n : Nat} {e : TypeId} {v : Value} {xs : List Value} (h : Kept S w w') (hs : ∀ g, v.ownBlock = some g → ¬ S g) (ho : w.ownsRow base e size v n xs) : w'.ownsRow base e size v n xs := by
  refine ⟨ho.1, ?_⟩
  rcases ho.2 with h2 | ⟨g, cap, cur, hv, hbase, hg, h3⟩
  · exact Or.inl h2
  · refine Or.inr ⟨g, cap, cur, hv, hbase, ?_, h3⟩
    rw [h.block g (heap_lt hg) (hs g (by rw [hv]; rfl))]; exact hg
theorem Typed.ne {w : World} {g : Nat} {e e' : TypeId} (h : Typed w g e) (hne : e ≠ e') : ¬ Typed w g e' := by
  rintro ⟨cur, fr, h'⟩
  obtain ⟨cur2, fr2, h⟩ := h
  rw [h] at h'; cases h'; exact hne rfl
theorem Kept.pb {S : Nat → Prop} {w w' : World} {B : Nat} {b : Px.Bo} {sl en : Value} (h : Kept S w w') (hB : ¬ S B) (h1 : ∀ g, S g → ¬ Typed w g 154) (h2 : ∀ g, S g → ¬ Typed w g 95) (hb : PB w B b sl en) : PB w' B b sl en :=
  ⟨h.cell hB hb.c0, h.cell hB hb.c1, h.cell hB hb.c2, h.cell hB hb.c3, h.cell hB hb.c4, h.cell hB hb.c5, h.cell hB hb.c6, h.cell hB hb.c7,
   fun j hj => (World.frozen?_of_block (a := ⟨B, j, none⟩) (h.block B hb.ty.lt hB)).trans (hb.f j hj), h.typed hB hb.ty, ⟨h.row h1 hb.rows.sl, h.row h2 hb.rows.en⟩⟩
theorem Kept.bi {S : Nat → Prop} {w w' : World} {D : Nat} {d : Bx.Bo} {sl en tk : Value} (h : Kept S w w') (hD : ¬ S D) (h1 : ∀ g, S g → ¬ Typed w g 167) (h2 : ∀ g, S g → ¬ Typed w g 95) (ht : ∀ g, tk.ownBlock = some g → ¬ S g) (hb : BoxIn w D d sl en tk) : BoxIn w' D d sl en tk :=
  ⟨h.cell hD hb.c0, h.cell hD hb.c1, h.cell hD hb.c2, h.cell hD hb.c3, h.cell hD hb.c4, h.cell hD hb.c5, h.cell hD hb.c6, h.cell hD hb.c7, h.cell hD hb.c8,
   fun j hj => (World.frozen?_of_block (a := ⟨D, j, none⟩) (h.block D hb.ty.lt hD)).trans (hb.f j hj), h.typed hD hb.ty, ⟨h.row h1 hb.rows.sl, h.row h2 hb.rows.en⟩, h.own ht hb.tk⟩
theorem own_typed {w : World} {base size n g : Nat} {e : TypeId} {v : Value} {xs : List Value} (h : w.ownsRow base e size v n xs) (hg : v.ownBlock = some g) : Typed w g e ∧ base ≤ g := by
  rcases h.2 with ⟨rfl, _⟩ | ⟨g', cap, cur, rfl, hb, hc, _⟩
  · cases hg
  · cases hg; exact ⟨⟨cur, _, hc⟩, hb⟩
/-- The blocks that a pair may write. -/
def Ft (B D : Nat) (tk : Value) (g : Nat) : Prop := g = B ∨ g = D ∨ tk.ownBlock = some g
/-- A pair in memory. -/
structure PairIn (w : World) (P B D : Nat) (l r : Int) : Prop where
  c0 : w.cell? ⟨P, 0, none⟩ = some (.pointer (some ⟨B, 0, none⟩))
  c1 : w.cell? ⟨P, 1, none⟩ = some (.pointer (some ⟨D, 0, none⟩))
  c2 : w.cell? ⟨P, 2, none⟩ = some (.int .i64 l)
  c3 : w.cell? ⟨P, 3, none⟩ = some (.int .i64 r)
  ty : Typed w P 33
theorem PairIn.kept {S : Nat → Prop} {w w' : World} {P B D : Nat} {l r : Int} (h : Kept S w w') (hP : ¬ S P) (hp : PairIn w P B D l r) : PairIn w' P B D l r :=
  ⟨h.cell hP hp.c0, h.cell hP hp.c1, h.cell hP hp.c2, h.cell hP hp.c3, h.typed hP hp.ty⟩
/-- A pair and its boxes, which say the same. -/
structure Duo (w : World) (base P B D : Nat) (tk : Value) (b : Px.Bo) (d : Bx.Bo) : Prop where
  p : PairIn w P B D b.limit b.room
  x : ∃ sl en, PB w B b sl en
  y : ∃ sl en, BoxIn w D d sl en tk
  rel : Px.Rel b d
  lo : base ≤ P ∧ base ≤ B ∧ base ≤ D
theorem Duo.tyB {w : World} {base P B D : Nat} {tk : Value} {b : Px.Bo} {d : Bx.Bo} (h : Duo w base P B D tk b d) : Typed w B 67 := by obtain ⟨_, _, q⟩ := h.x; exact q.ty
theorem Duo.tyD {w : World} {base P B D : Nat} {tk : Value} {b : Px.Bo} {d : Bx.Bo} (h : Duo w base P B D tk b d) : Typed w D 115 := by obtain ⟨_, _, q⟩ := h.y; exact q.ty
theorem Duo.tyK {w : World} {base P B D g : Nat} {tk : Value} {b : Px.Bo} {d : Bx.Bo} (h : Duo w base P B D tk b d) (hg : tk.ownBlock = some g) : Typed w g 172 ∧ D + 1 ≤ g := by
  obtain ⟨_, _, q⟩ := h.y; exact own_typed q.tk hg
/-- What a pair may write is of these types alone. -/
theorem Duo.ft {w : World} {base P B D : Nat} {tk : Value} {b : Px.Bo} {d : Bx.Bo} (h : Duo w base P B D tk b d) (e : TypeId) (h1 : e ≠ 67) (h2 : e ≠ 115) (h3 : e ≠ 172) : ∀ g, Ft B D tk g → ¬ Typed w g e := by
  rintro g (rfl | rfl | q)
  · exact h.tyB.ne (Ne.symm h1)
  · exact h.tyD.ne (Ne.symm h2)
  · exact (h.tyK q).1.ne (Ne.symm h3)
theorem Duo.ftLo {w : World} {base P B D : Nat} {tk : Value} {b : Px.Bo} {d : Bx.Bo} (h : Duo w base P B D tk b d) : ∀ g, Ft B D tk g → base ≤ g := by
  rintro g (rfl | rfl | q)
  · exact h.lo.2.1
  · exact h.lo.2.2
  · have := (h.tyK q).2; have := h.lo.2.2; omega
/-- Something else is written: a pair stays as it is. -/
theorem Duo.kept {S : Nat → Prop} {w w' : World} {base P B D : Nat} {tk : Value} {b : Px.Bo} {d : Bx.Bo} (h : Duo w base P B D tk b d) (hk : Kept S w w') (hs : ∀ g, S g → ¬ Ft B D tk g) (h0 : ∀ g, S g → ¬ Typed w g 33)
    (h1 : ∀ g, S g → ¬ Typed w g 154) (h2 : ∀ g, S g → ¬ Typed w g 95) (h3 : ∀ g, S g → ¬ Typed w g 167) : Duo w' base P B D tk b d := by
  obtain ⟨hp, ⟨sl, en, hx⟩, ⟨sl', en', hy⟩, hr, hl⟩ := h
  exact ⟨PairIn.kept hk (fun q => h0 P q hp.ty) hp, ⟨sl, en, hk.pb (fun q => hs B q (Or.inl rfl)) h1 h2 hx⟩, ⟨sl', en', hk.bi (fun q => hs D q (Or.inr (Or.inl rfl))) h3 h2 (fun g e q => hs g q (Or.inr (Or.inr e))) hy⟩, hr, hl⟩
theorem Duo.later {w w' : World} {base P B D : Nat} {tk : Value} {b : Px.Bo} {d : Bx.Bo} (h : Duo w base P B D tk b d) (hb : Below w.heap.size w w') : Duo w' base P B D tk b d :=
  h.kept (S := fun _ => False) (Kept.of_below _ hb) (fun _ q => q.elim) (fun _ q => q.elim) (fun _ q => q.elim) (fun _ q => q.elim) (fun _ q => q.elim)
/-- The program's box has done something. -/
theorem Duo.prg {w w' : World} {base P B D : Nat} {tk : Value} {b : Px.Bo} {d : Bx.Bo} (h : Duo w base P B D tk b d) (hg : w.grownBy w' (some B)) : PairIn w' P B D b.limit b.room ∧ (∃ sl en, BoxIn w' D d sl en tk) ∧ Kept (Ft B D tk) w w' := by
  have hk : Kept (fun g => g = B) w w' := Kept.of_grow hg rfl
  have hT : ∀ e, e ≠ 67 → ∀ g, g = B → ¬ Typed w g e := fun e hne g q => by subst q; exact h.tyB.ne (Ne.symm hne)
  obtain ⟨sl, en, hy⟩ := h.y
  refine ⟨PairIn.kept hk (fun q => hT 33 (by decide) P q h.p.ty) h.p, ⟨sl, en, hk.bi (fun q => hT 115 (by decide) D q hy.ty) (hT _ (by decide)) (hT _ (by decide)) (fun g e q => hT 172 (by decide) g q (own_typed hy.tk e).1) hy⟩, hk.mono fun g q => Or.inl q⟩
/-- The document's box has done something. -/
theorem two_pb {w w' : World} {B D : Nat} {b : Px.Bo} {d : Bx.Bo} {sl en sl' en' tk : Value} (hx : PB w B b sl en) (hy : BoxIn w D d sl' en' tk) (hg : TwoBy w w' D tk.ownBlock) : PB w' B b sl en ∧ Kept (Ft B D tk) w w' := by
  have hk : Kept (fun g => g = D ∨ tk.ownBlock = some g) w w' := Kept.of_two hg (Or.inl rfl) (fun g e => Or.inr e)
  have hT : ∀ e, e ≠ 115 → e ≠ 172 → ∀ g, (g = D ∨ tk.ownBlock = some g) → ¬ Typed w g e := by
    rintro e h1 h2 g (rfl | q)
    · exact hy.ty.ne (Ne.symm h1)
    · exact (own_typed hy.tk q).1.ne (Ne.symm h2)
  exact ⟨hk.pb (fun q => hT 67 (by decide) (by decide) B q hx.ty) (hT _ (by decide) (by decide)) (hT _ (by decide) (by decide)) hx, hk.mono fun g q => Or.inr q⟩
theorem two_pair {w w' : World} {P B D : Nat} {l r : Int} {d : Bx.Bo} {sl' en' tk : Value} (hp : PairIn w P B D l r) (hy : BoxIn w D d sl' en' tk) (hg : TwoBy w w' D tk.ownBlock) : PairIn w' P B D l r := by
  have hk : Kept (fun g => g = D ∨ tk.ownBlock = some g) w w' := Kept.of_two hg (Or.inl rfl) (fun g e => Or.inr e)
  refine PairIn.kept hk ?_ hp
  rintro (q | q)
  · subst q; exact hy.ty.ne (by decide) hp.ty
  · exact (own_typed hy.tk q).1.ne (by decide) hp.ty
end Go.Proofs.YtdajolpoiffimaaGreatDoor

namespace Go.Proofs.YtdajolpoiffimaaGreatDoor
open Go.RowKit

theorem yslot_any (b : Px.Bo) (d : Bx.Bo) (D : Nat) (tk : Value) (i : Int) (w : World) (hr : Px.Rel b d) (hD : ∃ sl en, BoxIn w D d sl en tk) :
    Calls Tryz.prog 63 #[.pointer (some ⟨D, 0, none⟩), .int .i64 i] w fun e w' => e = .returned (.tuple #[paslV (slotA b.st.slots i).1, .int .i64 (slotA b.st.slots i).2]) ∧ Below w.heap.size w w' := by
  obtain ⟨sl, en, hD⟩ := hD
  by_cases hi : i < 0 ∨ (b.st.slots.length : Int) ≤ i
  · refine (rslot_no d D i sl en tk w (by rw [hr.slen]; exact hi) hD).mono fun e w' h => ⟨?_, h.2⟩
    rw [slotA_no hi, h.1]; rfl
  · obtain ⟨k, rfl⟩ : ∃ k : Nat, i = (k : Int) := ⟨i.toNat, by omega⟩
    have hk : k < b.st.slots.length := by omega
    refine (rslot_yes d D k sl en tk w hr.boOk (by rw [hr.slen]; exact hk) hD).mono fun e w' h => ⟨?_, h.2⟩
    rw [slotA_yes hk, h.1, hr.sl hk]
    have : stepOf d (Px.absS b.st.slots[k]).num = b.st.slots[k].step := hr.step (List.getElem_mem hk)
    rw [this]; rfl
theorem yend_any (b : Px.Bo) (d : Bx.Bo) (D : Nat) (tk : Value) (i : Int) (w : World) (hr : Px.Rel b d) (hD : ∃ sl en, BoxIn w D d sl en tk) :
    Calls Tryz.prog 65 #[.pointer (some ⟨D, 0, none⟩), .int .i64 i] w fun e w' => e = .returned (.tuple #[enV (endA b.st.ends i).1, .int .i64 (endA b.st.ends i).2]) ∧ Below w.heap.size w w' := by
  obtain ⟨sl, en, hD⟩ := hD
  have hE : d.now.ends.length ≤ 6 := by rw [hr.ends]; exact hr.ok.st.en
  by_cases hi : i < 0 ∨ (b.st.ends.length : Int) ≤ i
  · refine (rend_no d D i sl en tk w hE (by rw [hr.ends]; exact hi) hD).mono fun e w' h => ⟨?_, h.2⟩
    rw [endA_no hi, h.1]
  · obtain ⟨k, rfl⟩ : ∃ k : Nat, i = (k : Int) := ⟨i.toNat, by omega⟩
    have hk : k < b.st.ends.length := by omega
    have hk' : k < d.now.ends.length := by rw [hr.ends]; exact hk
    refine (rend_yes d D k sl en tk w hE hk' hD).mono fun e w' h => ⟨?_, h.2⟩
    have e' : d.now.ends[k] = b.st.ends[k] := by congr 1; exact hr.ends
    rw [endA_yes hk, h.1, e']
theorem ylook_any (b : Px.Bo) (d : Bx.Bo) (D : Nat) (tk : Value) (w : World) (hr : Px.Rel b d) (hD : ∃ sl en, BoxIn w D d sl en tk) :
    Calls Tryz.prog 61 #[.pointer (some ⟨D, 0, none⟩)] w fun e w' => e = .returned (pviewV b.st) ∧ Below w.heap.size w w' := by
  obtain ⟨sl, en, hD⟩ := hD
  have hE : d.now.ends.length ≤ 6 := by rw [hr.ends]; exact hr.ok.st.en
  refine (rlook_any d D sl en tk w hE hD).mono fun e w' h => ⟨?_, h.2⟩
  have : viewV d.now = pviewV b.st := by
    have h1 := hr.slen; have h2 := hr.ends
    unfold viewV pviewV
    rw [h1, h2, hr.now]; rfl
  rw [h.1, this]
theorem ylog_any (b : Px.Bo) (d : Bx.Bo) (D : Nat) (tk : Value) (w : World) (hr : Px.Rel b d) (hD : ∃ sl en, BoxIn w D d sl en tk) :
    Calls Tryz.prog 45 #[.pointer (some ⟨D, 0, none⟩)] w fun e w' => e = .returned (.string b.log) ∧ w' = w := by
  obtain ⟨sl, en, hD⟩ := hD
  refine (rlog_any d D sl en tk w hD).mono fun e w' h => ?_
  rw [hr.txt] at h; exact h
end Go.Proofs.YtdajolpoiffimaaGreatDoor

namespace Go.Proofs.YtdajolpoiffimaaGreatDoor
open Go.RowKit

/-- What a call on both boxes has done. -/
def Did (w w' : World) (base P B D : Nat) (tk : Value) (b' : Px.Bo) (d' : Bx.Bo) : Prop := ∃ tk', Duo w' base P B D tk' b' d' ∧ NewTk w tk tk' ∧ Kept (Ft B D tk) w w'
theorem Did.same {w : World} {base P B D : Nat} {tk : Value} {b : Px.Bo} {d : Bx.Bo} (h : Duo w base P B D tk b d) : Did w w base P B D tk b d := ⟨tk, h, Or.inl rfl, Kept.refl _ _⟩
theorem Did.later {w w' w2 : World} {base P B D : Nat} {tk : Value} {b' : Px.Bo} {d' : Bx.Bo} (h : Did w w' base P B D tk b' d') (hb : Below w'.heap.size w' w2) : Did w w2 base P B D tk b' d' := by
  obtain ⟨tk', h1, h2, h3⟩ := h
  exact ⟨tk', h1.later hb, h2, h3.trans (Kept.of_below _ hb)⟩
theorem Did.ahead {w w1 w' : World} {base P B D : Nat} {tk : Value} {b' : Px.Bo} {d' : Bx.Bo} (h : Did w1 w' base P B D tk b' d') (hb : Below w.heap.size w w1) : Did w w' base P B D tk b' d' := by
  obtain ⟨tk', h1, h2, h3⟩ := h
  exact ⟨tk', h1, h2.grow hb.size, (Kept.of_below _ hb).trans h3⟩
theorem Did.of {w w1 w2 : World} {base P B D : Nat} {tk tk' : Value} {b b' : Px.Bo} {d d' : Bx.Bo} (hd : Duo w base P B D tk b d) (hg : w.grownBy w1 (some B)) (hx : ∃ sl en, PB w1 B b' sl en)
    (hy : ∃ sl en, BoxIn w2 D d' sl en tk') (hn : NewTk w1 tk tk') (ht : TwoBy w1 w2 D tk.ownBlock) (hr : Px.Rel b' d') (hl : b'.limit = b.limit ∧ b'.room = b.room) : Did w w2 base P B D tk b' d' := by
  obtain ⟨hp, ⟨sl, en, hy1⟩, hk1⟩ := hd.prg hg
  obtain ⟨slx, enx, hx⟩ := hx
  have h2 := two_pb hx hy1 ht
  have h3 := two_pair hp hy1 ht
  exact ⟨tk', ⟨by rw [hl.1, hl.2]; exact h3, ⟨slx, enx, h2.1⟩, hy, hr, hd.lo⟩, hn.grow hg.size, hk1.trans h2.2⟩
theorem Duo.logsz {w : World} {base P B D : Nat} {tk : Value} {b : Px.Bo} {d : Bx.Bo} (h : Duo w base P B D tk b d) : b.log.size ≤ 10000 := by have := h.rel.log; have := h.rel.r1; omega
theorem tickB_lr (b : Px.Bo) (m : Int) : (Px.tickB b m).1.limit = b.limit ∧ (Px.tickB b m).1.room = b.room := by
  unfold Px.tickB; repeat' split
  all_goals exact ⟨rfl, rfl⟩
theorem commitB_lr (b : Px.Bo) (s : Px.St) (x y : ByteArray) : (Px.commitB b s x y).1.limit = b.limit ∧ (Px.commitB b s x y).1.room = b.room := by
  unfold Px.commitB; split <;> exact ⟨rfl, rfl⟩
theorem talkB_lr (b : Px.Bo) (s : Px.St) (n : Int) (x y : ByteArray) : (Px.talkB b s n x y).1.limit = b.limit ∧ (Px.talkB b s n x y).1.room = b.room := by
  unfold Px.talkB
  repeat' split
  all_goals first | exact ⟨rfl, rfl⟩ | exact commitB_lr _ _ _ _
theorem startB_lr (b : Px.Bo) (n : Int) : (Px.startB b n).1.limit = b.limit ∧ (Px.startB b n).1.room = b.room := by
  unfold Px.startB
  repeat' split
  all_goals first | exact ⟨rfl, rfl⟩ | exact talkB_lr _ _ _ _ _
theorem feedB_lr (b : Px.Bo) (n : Int) (x : ByteArray) : (Px.feedB b n x).1.limit = b.limit ∧ (Px.feedB b n x).1.room = b.room := by
  unfold Px.feedB
  repeat' split
  all_goals first | exact ⟨rfl, rfl⟩ | exact talkB_lr _ _ _ _ _
theorem cancelB_lr (b : Px.Bo) (n : Int) : (Px.cancelB b n).1.limit = b.limit ∧ (Px.cancelB b n).1.room = b.room := by
  unfold Px.cancelB; repeat' split
  all_goals exact ⟨rfl, rfl⟩
theorem loadB_lr {b b' : Px.Bo} {tab : ByteArray} {a r : Int} (h : Px.LoadB b tab b' a r) : b'.limit = b.limit ∧ b'.room = b.room := by
  rcases h with ⟨_, _, rfl⟩ | ⟨_, _, rfl, _⟩ | ⟨_, _, _, rfl, _⟩ | ⟨_, _, _, rfl, _⟩ <;> exact ⟨rfl, rfl⟩
theorem ytick_any (b : Px.Bo) (d : Bx.Bo) (D : Nat) (tk : Value) (m : Int) (w : World) (hr : Px.Rel b d) (hD : ∃ sl en, BoxIn w D d sl en tk) :
    Calls Tryz.prog 91 #[.pointer (some ⟨D, 0, none⟩), .int .i64 m] w fun e w' => e = .returned (.tuple #[.int .i64 (Px.tickB b m).2.1, .int .i64 (Px.tickB b m).2.2]) ∧ (∃ tk', (∃ sl en, BoxIn w' D (tickP d m).1 sl en tk') ∧ NewTk w tk tk') ∧ TwoBy w w' D tk.ownBlock := by
  obtain ⟨sl, en, hD⟩ := hD
  refine (rtick_any d D m sl en tk w hr.boOk hD).mono fun e w' ⟨⟨sl', en', tk', he, hB, hn⟩, hg⟩ => ⟨?_, ⟨tk', ⟨sl', en', hB⟩, hn⟩, TwoBy.of_grow hg _⟩
  rw [he, (Px.tick_rel hr m).1]
theorem ystart_any (b : Px.Bo) (d : Bx.Bo) (D : Nat) (tk : Value) (n : Int) (w : World) (hr : Px.Rel b d) (hD : ∃ sl en, BoxIn w D d sl en tk) :
    Calls Tryz.prog 92 #[.pointer (some ⟨D, 0, none⟩), .int .i64 n] w fun e w' => e = .returned (.tuple #[.string (Px.startB b n).2.1, .int .i64 (Px.startB b n).2.2]) ∧ (∃ tk', (∃ sl en, BoxIn w' D (startP d n).1 sl en tk') ∧ NewTk w tk tk') ∧ TwoBy w w' D tk.ownBlock := by
  obtain ⟨sl, en, hD⟩ := hD
  refine (rstart_any d D n sl en tk w hr.boOk hD).mono fun e w' ⟨⟨sl', en', tk', he, hB, hn⟩, hg⟩ => ⟨?_, ⟨tk', ⟨sl', en', hB⟩, hn⟩, hg⟩
  rw [he, (Px.start_rel hr n).1]
theorem yfeed_any (b : Px.Bo) (d : Bx.Bo) (D : Nat) (tk : Value) (n : Int) (x : ByteArray) (w : World) (N : Nat) (hN : N ≤ 100000000000000000) (hm : Px.HMax d N) (hx : x.size ≤ maxLen) (hr : Px.Rel b d) (hD : ∃ sl en, BoxIn w D d sl en tk) :
    Calls Tryz.prog 93 #[.pointer (some ⟨D, 0, none⟩), .int .i64 n, .string x] w fun e w' => e = .returned (.tuple #[.string (Px.feedB b n x).2.1, .int .i64 (Px.feedB b n x).2.2]) ∧ (∃ tk', (∃ sl en, BoxIn w' D (feedP d n x).1 sl en tk') ∧ NewTk w tk tk') ∧ TwoBy w w' D tk.ownBlock := by
  obtain ⟨sl, en, hD⟩ := hD
  refine (rfeed_any d D n x sl en tk w hr.boOk hx (fun t ht => Nat.le_trans (hm t ht) hN) (hr.at_le n) hD).mono fun e w' ⟨⟨sl', en', tk', he, hB, hn⟩, hg⟩ => ⟨?_, ⟨tk', ⟨sl', en', hB⟩, hn⟩, hg⟩
  rw [he, (Px.feed_rel hr n x).1]
theorem ycancel_any (b : Px.Bo) (d : Bx.Bo) (D : Nat) (tk : Value) (n : Int) (w : World) (hr : Px.Rel b d) (hD : ∃ sl en, BoxIn w D d sl en tk) :
    Calls Tryz.prog 50 #[.pointer (some ⟨D, 0, none⟩), .int .i64 n] w fun e w' => e = .returned (.int .i64 (Px.cancelB b n).2) ∧ (∃ tk', (∃ sl en, BoxIn w' D (cancelP d n).1 sl en tk') ∧ NewTk w tk tk') ∧ TwoBy w w' D tk.ownBlock := by
  obtain ⟨sl, en, hD⟩ := hD
  refine (rcancel_any d D n sl en tk w hr.boOk hD).mono fun e w' ⟨⟨sl', en', tk', he, hB, hn⟩, hg⟩ => ⟨?_, ⟨tk', ⟨sl', en', hB⟩, hn⟩, TwoBy.of_grow hg _⟩
  rw [he, (Px.cancel_rel hr n).1]
theorem yload_any (b b' : Px.Bo) (d : Bx.Bo) (D : Nat) (tk : Value) (tab : ByteArray) (a r : Int) (w : World) (hs : tab.size ≤ maxLen) (hl : Px.LoadB b tab b' a r) (hr : Px.Rel b d) (hD : ∃ sl en, BoxIn w D d sl en tk) :
    Calls Tryz.prog 46 #[.pointer (some ⟨D, 0, none⟩), .string tab] w fun e w' => e = .returned (.tuple #[.int .i64 a, .int .i64 r]) ∧ (∃ d' tk', LoadR d tab d' a r ∧ Px.Rel b' d' ∧ (∃ sl en, BoxIn w' D d' sl en tk') ∧ NewTk w tk tk') ∧ TwoBy w w' D tk.ownBlock := by
  obtain ⟨sl, en, hD⟩ := hD
  refine (rload_any d D tab sl en tk w hr.boOk hs hD).mono fun e w' ⟨⟨d', a', r', sl', en', tk', he, hL, hB, hn⟩, hg⟩ => ?_
  obtain ⟨rfl, rfl, hR⟩ := Px.load_rel hr hl hL
  exact ⟨he, ⟨d', tk', hL, hR, ⟨sl', en', hB⟩, hn⟩, TwoBy.of_grow hg _⟩
theorem xcancel_any (b : Px.Bo) (B : Nat) (n : Int) (w : World) (hO : Px.Ok b.st) (hlg : b.log.size ≤ 10000) (hB : ∃ sl en, PB w B b sl en) :
    Calls Tryz.prog 41 #[.pointer (some ⟨B, 0, none⟩), .int .i64 n] w fun e w' => e = .returned (.int .i64 (Px.cancelB b n).2) ∧ (∃ sl en, PB w' B (Px.cancelB b n).1 sl en) ∧ w.grownBy w' (some B) := by
  obtain ⟨sl, en, hB⟩ := hB
  refine (pcancel_any b B n sl en w hO hlg hB).mono fun e w' h => ?_
  cases h with
  | mk _ hB hg => exact ⟨rfl, hB, hg⟩
end Go.Proofs.YtdajolpoiffimaaGreatDoor

namespace Go.Proofs.YtdajolpoiffimaaGreatDoor
open Go.RowKit

set_option maxHeartbeats 400000 in
theorem lnum_any (e : Int) (w : World) : Calls Tryz.prog 21 #[.int .i64 e] w fun r w' => r = .returned (.int .i64 e) ∧ w' = w := by
  go_enter Tryz.func21, Tryz.ntmps21
  go_wp2_with fail
  go_ret
  exact ⟨rfl, rfl⟩

set_option maxHeartbeats 1000000 in
theorem lslot_any (w : World) (base P B D : Nat) (tk : Value) (b : Px.Bo) (d : Bx.Bo) (i : Int) (hd : Duo w base P B D tk b d) :
    Calls Tryz.prog 24 #[.pointer (some ⟨P, 0, none⟩), .int .i64 i] w fun e w' => e = .returned (.bool true) ∧ Below w.heap.size w w' := by
  have c0 := hd.p.c0
  have hP := hd.p.ty.lt
  have HD : Hid (Duo w base P B D tk b d) := hd
  have HX : Hid (∃ x r, slotA b.st.slots i = (x, r)) := ⟨_, _, rfl⟩
  obtain ⟨x, r, hx⟩ := HX.out
  have HS : Hid (slotA b.st.slots i = (x, r)) := hx
  clear hd hx HX
  go_enter Tryz.func24, Tryz.ntmps24
  go_wp2_with (first
    | (go_at_call 62; refine (xslot_any b B i _ HD.out.rel.ok HD.out.x).mono ?_; rw [HS.out]; rintro e w1 ⟨rfl, hb1⟩; have HD1 : Hid (∀ o, Duo (w1.alloc o) base P B D tk b d) := (fun o => (HD.out.later hb1).later (below_alloc w1 o)); have c1 : Hid (∀ o, (w1.alloc o).cell? ⟨P, 1, none⟩ = some (.pointer (some ⟨D, 0, none⟩))) := (fun o => (HD1.out o).p.c1); have c1' := c1.out (.cells #[.int .i64 x.num, .int .i64 x.line, .int .i64 x.minute, .int .i64 x.att, .int .i64 x.frm, .int .i64 x.step] 97); have hP1 : P < w1.heap.size := Nat.lt_of_lt_of_le hP hb1.size)
    | (go_at_call 63; refine (yslot_any b d D tk i _ HD.out.rel (HD1.out _).y).mono ?_; rw [HS.out]; rintro e w2 ⟨rfl, hb2⟩; obtain ⟨hc2, hf2⟩ := bcell hb2; have hs2 : w1.heap.size < w2.heap.size := (by have := hb2.size; simp at this; omega))
    | (go_at_call 21; refine (lnum_any _ _).mono ?_; rintro e w3 ⟨rfl, rfl⟩))
  go_ret
  exact ⟨rfl, ((hb1.alloc hb1.size _).trans (hb2.mono (by simp; exact Nat.le_succ_of_le hb1.size))).alloc (Nat.le_trans hb1.size (Nat.le_of_lt hs2)) _⟩

set_option maxHeartbeats 1000000 in
theorem lend_any (w : World) (base P B D : Nat) (tk : Value) (b : Px.Bo) (d : Bx.Bo) (i : Int) (hd : Duo w base P B D tk b d) :
    Calls Tryz.prog 25 #[.pointer (some ⟨P, 0, none⟩), .int .i64 i] w fun e w' => e = .returned (.bool true) ∧ Below w.heap.size w w' := by
  have c0 := hd.p.c0
  have hP := hd.p.ty.lt
  have HD : Hid (Duo w base P B D tk b d) := hd
  have HX : Hid (∃ x r, endA b.st.ends i = (x, r)) := ⟨_, _, rfl⟩
  obtain ⟨x, r, hx⟩ := HX.out
  have HS : Hid (endA b.st.ends i = (x, r)) := hx
  clear hd hx HX
  go_enter Tryz.func25, Tryz.ntmps25
  go_wp2_with (first
    | (go_at_call 64; refine (xend_any b B i _ HD.out.rel.ok HD.out.x).mono ?_; rw [HS.out]; rintro e w1 ⟨rfl, hb1⟩; have HD1 : Hid (∀ o, Duo (w1.alloc o) base P B D tk b d) := (fun o => (HD.out.later hb1).later (below_alloc w1 o)); have c1 : Hid (∀ o, (w1.alloc o).cell? ⟨P, 1, none⟩ = some (.pointer (some ⟨D, 0, none⟩))) := (fun o => (HD1.out o).p.c1); have c1' := c1.out (.cells #[.int .i64 x.num, .string x.how] 95); have hP1 : P < w1.heap.size := Nat.lt_of_lt_of_le hP hb1.size)
    | (go_at_call 65; refine (yend_any b d D tk i _ HD.out.rel (HD1.out _).y).mono ?_; rw [HS.out]; rintro e w2 ⟨rfl, hb2⟩; obtain ⟨hc2, hf2⟩ := bcell hb2; have hs2 : w1.heap.size < w2.heap.size := (by have := hb2.size; simp at this; omega))
    | (go_at_call 21; refine (lnum_any _ _).mono ?_; rintro e w3 ⟨rfl, rfl⟩))
  go_ret
  exact ⟨rfl, ((hb1.alloc hb1.size _).trans (hb2.mono (by simp; exact Nat.le_succ_of_le hb1.size))).alloc (Nat.le_trans hb1.size (Nat.le_of_lt hs2)) _⟩

set_option maxHeartbeats 1000000 in
theorem llook_any (w : World) (base P B D : Nat) (tk : Value) (b : Px.Bo) (d : Bx.Bo) (hd : Duo w base P B D tk b d) :
    Calls Tryz.prog 22 #[.pointer (some ⟨P, 0, none⟩)] w fun e w' => e = .returned (.bool true) ∧ Below w.heap.size w w' := by
  have c0 := hd.p.c0
  have hP := hd.p.ty.lt
  have HD : Hid (Duo w base P B D tk b d) := hd
  clear hd
  go_enter Tryz.func22, Tryz.ntmps22
  go_wp2_with (first
    | (go_at_call 31; refine (xlook_any b B _ HD.out.x).mono ?_; rintro e w1 ⟨rfl, hb1⟩; have HD1 : Hid (∀ o, Duo (w1.alloc o) base P B D tk b d) := (fun o => (HD.out.later hb1).later (below_alloc w1 o)); have c1 := (HD1.out (.cells #[.int .i64 b.st.clock, .int .i64 b.st.next, .int .i64 b.st.slots.length, .int .i64 b.st.ends.length, .string b.st.tab] 78)).p.c1; have hP1 : P < w1.heap.size := Nat.lt_of_lt_of_le hP hb1.size)
    | (go_at_call 61; refine (ylook_any b d D tk _ HD.out.rel (HD1.out _).y).mono ?_; rintro e w2 ⟨rfl, hb2⟩; obtain ⟨hc2, hf2⟩ := bcell hb2; have hs2 : w1.heap.size < w2.heap.size := (by have := hb2.size; simp at this; omega)))
  go_ret
  exact ⟨rfl, ((hb1.alloc hb1.size _).trans (hb2.mono (by simp; exact Nat.le_succ_of_le hb1.size))).alloc (Nat.le_trans hb1.size (Nat.le_of_lt hs2)) _⟩

set_option maxHeartbeats 1000000 in
theorem llog_any (w : World) (base P B D : Nat) (tk : Value) (b : Px.Bo) (d : Bx.Bo) (hd : Duo w base P B D tk b d) :
    Calls Tryz.prog 23 #[.pointer (some ⟨P, 0, none⟩)] w fun e w' => e = .returned (.bool true) ∧ w' = w := by
  have c0 := hd.p.c0
  have c1 := hd.p.c1
  have hP := hd.p.ty.lt
  have HD : Hid (Duo w base P B D tk b d) := hd
  clear hd
  go_enter Tryz.func23, Tryz.ntmps23
  go_wp2_with (first
    | (go_at_call 11; refine (xlog_any b B _ HD.out.x).mono ?_; rintro e w1 ⟨rfl, rfl⟩)
    | (go_at_call 45; refine (ylog_any b d D tk _ HD.out.rel HD.out.y).mono ?_; rintro e w2 ⟨rfl, rfl⟩))
  go_ret
  exact ⟨rfl, rfl⟩

set_option maxHeartbeats 1000000 in
theorem lall_any (w : World) (base P B D : Nat) (tk : Value) (b : Px.Bo) (d : Bx.Bo) (hd : Duo w base P B D tk b d) :
    Calls Tryz.prog 10 #[.pointer (some ⟨P, 0, none⟩)] w fun e w' => e = .returned (.bool true) ∧ Below w.heap.size w w' := by
  have HD : Hid (Duo w base P B D tk b d) := hd
  clear hd
  go_enter Tryz.func10, Tryz.ntmps10
  go_wp2_with fail
  refine (llook_any _ base P B D tk b d HD.out).mono ?_
  rintro e w1 ⟨rfl, hb1⟩
  have HD1 : Hid (Duo w1 base P B D tk b d) := HD.out.later hb1
  have HB1 : Hid (Below w.heap.size w w1) := hb1
  clear hb1
  go_wp2_with fail
  refine (llog_any _ base P B D tk b d HD1.out).mono ?_
  rintro e w1' ⟨rfl, rfl⟩
  go_wp2_with fail
  go_loopw [5] (fun i wr => ∃ k : Nat, k ≤ 10 ∧ i = .int .i64 ((k : Int) - 1) ∧ Below w1'.heap.size w1' wr) (fun i _ => (9 - intOf i).toNat)
  case atStart => exact ⟨0, by omega, rfl, Below.refl _ _⟩
  case round =>
    obtain ⟨k, hk, rfl, hbr⟩ := hrel
    have HDr : Hid (Duo wr base P B D tk b d) := HD1.out.later hbr
    by_cases h8 : (k : Int) - 1 ≤ 8
    · go_wp2_with fail
      refine (lslot_any _ base P B D tk b d _ HDr.out).mono ?_
      rintro e w2 ⟨rfl, hb2⟩
      have HD2 : Hid (Duo w2 base P B D tk b d) := HDr.out.later hb2
      have HB2 : Hid (Below w1'.heap.size w1' w2) := hbr.trans (hb2.mono hbr.size)
      clear hb2 hbr
      go_wp2_with fail
      refine (lend_any _ base P B D tk b d _ HD2.out).mono ?_
      rintro e w3 ⟨rfl, hb3⟩
      have HB3 : Hid (Below w1'.heap.size w1' w3) := HB2.out.trans (hb3.mono HB2.out.size)
      clear hb3
      go_wp2_with fail
      go_roundw
      case rel => exact ⟨k + 1, by omega, by go_num, HB3.out⟩
      case measure => simp [intOf]; omega
    · go_wp2_with fail
      go_ret
      exact ⟨rfl, HB1.out.trans (hbr.mono HB1.out.size)⟩
end Go.Proofs.YtdajolpoiffimaaGreatDoor

namespace Go.Proofs.YtdajolpoiffimaaGreatDoor
open Go.RowKit

set_option maxHeartbeats 1000000 in
theorem lticked_any (w : World) (base P B D : Nat) (tk : Value) (b : Px.Bo) (d : Bx.Bo) (m : Int) (hT : TabLH w) (hM : Tab w) (hd : Duo w base P B D tk b d) :
    Calls Tryz.prog 47 #[.pointer (some ⟨P, 0, none⟩), .int .i64 m] w fun e w' => e = .returned (.bool true) ∧ Did w w' base P B D tk (Px.tickB b m).1 (tickP d m).1 := by
  have c0 := hd.p.c0
  have hP := hd.p.ty.lt
  have HD : Hid (Duo w base P B D tk b d) := hd
  have HT : Hid (TabLH w) := hT
  have HM : Hid (Tab w) := hM
  clear hd hT hM
  go_enter Tryz.func47, Tryz.ntmps47
  go_wp2_with fail
  refine (xtick_any b B m _ HD.out.rel.ok HD.out.logsz HT.out HM.out HD.out.x).mono ?_
  rintro e w1 ⟨rfl, hx, hg⟩
  obtain ⟨hp1, hy1, _⟩ := HD.out.prg hg
  have HX : Hid (∃ sl en, PB w1 B (Px.tickB b m).1 sl en) := hx
  have HG : Hid (w.grownBy w1 (some B)) := hg
  have HY : Hid (∃ sl en, BoxIn w1 D d sl en tk) := hy1
  have c1 := hp1.c1
  have hP1 := hp1.ty.lt
  have HR : Hid (∃ x r, (Px.tickB b m).2 = (x, r)) := ⟨_, _, rfl⟩
  obtain ⟨x, r, hxr⟩ := HR.out
  have HXR : Hid ((Px.tickB b m).2 = (x, r)) := hxr
  rw [hxr]
  clear hx hg hp1 hy1 c0 HR hxr
  go_wp2_with fail
  refine (ytick_any b d D tk m _ HD.out.rel HY.out).mono ?_
  rw [HXR.out]
  rintro e w2 ⟨rfl, ⟨tk', hy2, hn2⟩, ht2⟩
  have HF : Hid (Did w w2 base P B D tk (Px.tickB b m).1 (tickP d m).1) := Did.of HD.out HG.out HX.out hy2 hn2 ht2 (Px.tick_rel HD.out.rel m).2 (tickB_lr b m)
  clear c1 hy2 hn2 ht2
  go_wp2_with ((go_at_call 21; refine (lnum_any _ _).mono ?_; rintro e w3 ⟨rfl, rfl⟩))
  go_ret
  exact ⟨rfl, HF.out⟩

theorem TwoBy.cell {w w' : World} {D g o : Nat} {r : Option Nat} {v : Value} (h : TwoBy w w' D r) (hc : w.cell? ⟨g, o, none⟩ = some v) (h1 : ¬ g = D) (h2 : ¬ r = some g) : w'.cell? ⟨g, o, none⟩ = some v := by
  have hl : g < w.heap.size := World.block_lt_of_cell? _ _ hc
  rw [World.cell?_of_block (a := ⟨g, o, none⟩) (h.block g hl h1 (fun e => h2 e.symm))]; exact hc
theorem Duo.apart {w : World} {base P B D g : Nat} {tk : Value} {b : Px.Bo} {d : Bx.Bo} {e : TypeId} (h : Duo w base P B D tk b d) (ht : Typed w g e) (h1 : e ≠ 67) (h2 : e ≠ 115) (h3 : e ≠ 172) : ¬ g = B ∧ ¬ g = D ∧ ¬ tk.ownBlock = some g :=
  ⟨fun q => h.ft e h1 h2 h3 g (Or.inl q) ht, fun q => h.ft e h1 h2 h3 g (Or.inr (Or.inl q)) ht, fun q => h.ft e h1 h2 h3 g (Or.inr (Or.inr q)) ht⟩
/-- A step of a script, as it is handed on. -/
abbrev opV (k n : Int) (s : ByteArray) : Value := .agg #[.int .i64 k, .int .i64 n, .string s]
abbrev opO (k n : Int) (s : ByteArray) : Obj := .cells #[.int .i64 k, .int .i64 n, .string s] 52
structure OpIn (w : World) (q : Nat) (k n : Int) (s : ByteArray) : Prop where
  c0 : w.cell? ⟨q, 0, none⟩ = some (.int .i64 k)
  c1 : w.cell? ⟨q, 1, none⟩ = some (.int .i64 n)
  c2 : w.cell? ⟨q, 2, none⟩ = some (.string s)
  ty : Typed w q 52
theorem OpIn.new (w : World) (k n : Int) (s : ByteArray) : OpIn (w.alloc (opO k n s)) w.heap.size k n s := ⟨by simp [go_sem], by simp [go_sem], by simp [go_sem], Typed.new _ _ _⟩

set_option maxHeartbeats 2000000 in
theorem ltalked_start (w : World) (base P B D : Nat) (tk : Value) (b : Px.Bo) (d : Bx.Bo) (k n : Int) (s : ByteArray) (hk : k = 4) (hT : TabLH w) (hd : Duo w base P B D tk b d) :
    Calls Tryz.prog 49 #[.pointer (some ⟨P, 0, none⟩), opV k n s] w fun e w' => e = .returned (.bool true) ∧ Did w w' base P B D tk (Px.startB b n).1 (startP d n).1 := by
  subst hk
  have hb0 := below_alloc w (opO 4 n s)
  have hd0 := hd.later hb0
  have hT0 := hT.later hb0
  have ho := OpIn.new w 4 n s
  clear hd hT
  go_enter Tryz.func49, Tryz.ntmps49
  go_upto_region 1 with fail
  generalize w.alloc (opO 4 n s) = W at *
  generalize hoq : w.heap.size = oq at *
  have HOq : Hid (w.heap.size = oq) := hoq
  clear hoq
  have HB0 : Hid (Below _ w W) := hb0
  have HD : Hid (Duo W base P B D tk b d) := hd0
  have HDd : Hid (Duo W.drew base P B D tk b d) := hd0.later (Below.refl _ _).drew
  have HTd : Hid (TabLH W.drew) := hT0.later (Below.refl _ _).drew
  have hP := hd0.p.ty.lt
  have c0 := hd0.p.c0
  have c1 := hd0.p.c1
  obtain ⟨aP1, aP2, aP3⟩ := hd0.apart hd0.p.ty (by decide) (by decide) (by decide)
  obtain ⟨aO1, aO2, aO3⟩ := hd0.apart ho.ty (by decide) (by decide) (by decide)
  have hO := ho.ty.lt
  obtain ⟨o0, o1, o2, _⟩ := ho
  have HAp : Hid (¬ P = D ∧ ¬ tk.ownBlock = some P ∧ ¬ oq = D ∧ ¬ tk.ownBlock = some oq) := ⟨aP2, aP3, aO2, aO3⟩
  have HnP : Hid (some P ≠ some B) := fun e => aP1 (by simpa using e)
  have HnO : Hid (some oq ≠ some B) := fun e => aO1 (by simpa using e)
  clear hb0 hd0 hT0 aP1 aP2 aP3 aO1 aO2 aO3
  go_wp2_with fail
  go_region_held3 (fun w' => w'.cell? ⟨P, 0, none⟩ = some (.pointer (some ⟨B, 0, none⟩)) ∧ w'.cell? ⟨oq, 1, none⟩ = some (.int .i64 n))
    (first | exact ⟨hg.cell c0 HnP.out, hg.cell o1 HnO.out⟩ | exact ⟨c0, o1⟩)
    ((go_at_call 36; refine (xstart_any b B n _ HD.out.rel.ok HD.out.logsz HTd.out HDd.out.x).mono ?_; rintro e w1 ⟨rfl, hx, hg⟩))
  obtain ⟨hp1, hy1, _⟩ := HDd.out.prg hg
  have HX : Hid (∃ sl en, PB w1 B (Px.startB b n).1 sl en) := hx
  have HG : Hid (W.drew.grownBy w1 (some B)) := hg
  have HY : Hid (∃ sl en, BoxIn w1.drew D d sl en tk) := (by obtain ⟨sl, en, h⟩ := hy1; exact ⟨sl, en, h.later (Below.refl _ _).drew⟩)
  clear c0 c1
  have c1 := hp1.c1
  have hP1 := hp1.ty.lt
  have p1 : w1.cell? ⟨oq, 1, none⟩ = some (.int .i64 n) := hg.cell o1 HnO.out
  have p2 : w1.cell? ⟨oq, 2, none⟩ = some (.string s) := hg.cell o2 HnO.out
  have hO1 : oq < w1.heap.size := World.block_lt_of_cell? _ _ p1
  have HR : Hid (∃ x r, (Px.startB b n).2 = (x, r)) := ⟨_, _, rfl⟩
  obtain ⟨x, r, hxr⟩ := HR.out
  have HXR : Hid ((Px.startB b n).2 = (x, r)) := hxr
  rw [hxr]
  clear hx hg hp1 hy1 HR hxr o0 o1 o2
  go_wp2_with fail
  go_region_held3 (fun w' => w'.cell? ⟨P, 1, none⟩ = some (.pointer (some ⟨D, 0, none⟩)) ∧ w'.cell? ⟨oq, 1, none⟩ = some (.int .i64 n))
    (first | exact ⟨ht2.cell c1 HAp.out.1 HAp.out.2.1, ht2.cell p1 HAp.out.2.2.1 HAp.out.2.2.2⟩ | exact ⟨c1, p1⟩)
    ((go_at_call 92; refine (ystart_any b d D tk n _ HD.out.rel HY.out).mono ?_; rw [HXR.out]; rintro e w2 ⟨rfl, ⟨tk', hy2, hn2⟩, ht2⟩))
  have HF : Hid (Did w w2 base P B D tk (Px.startB b n).1 (startP d n).1) := by
    refine Did.ahead (w1 := W.drew) ?_ (by rw [HOq.out]; exact HB0.out.drew)
    exact Did.of HDd.out (grow_trans HG.out (grow_of_below (Below.refl _ _).drew _)) (by obtain ⟨sl, en, h⟩ := HX.out; exact ⟨sl, en, h.later (Below.refl _ _).drew⟩) hy2 hn2 ht2 (Px.start_rel HD.out.rel n).2 (startB_lr b n)
  clear c1 hy2 hn2 ht2 p1 p2
  go_wp2_with ((go_at_call 21; refine (lnum_any _ _).mono ?_; rintro e w3 ⟨rfl, rfl⟩))
  go_ret
  exact ⟨rfl, HF.out⟩

set_option maxHeartbeats 2000000 in
theorem ltalked_feed (w : World) (base P B D : Nat) (tk : Value) (b : Px.Bo) (d : Bx.Bo) (k n : Int) (s : ByteArray) (N : Nat) (hN : N ≤ 100000000000000000) (HMx : Hid (Px.HMax d N)) (hs : s.size ≤ maxLen) (hk : ¬ k = 4) (hT : TabLH w) (hd : Duo w base P B D tk b d) :
    Calls Tryz.prog 49 #[.pointer (some ⟨P, 0, none⟩), opV k n s] w fun e w' => e = .returned (.bool true) ∧ Did w w' base P B D tk (Px.feedB b n s).1 (feedP d n s).1 := by
  have hb0 := below_alloc w (opO k n s)
  have hd0 := hd.later hb0
  have hT0 := hT.later hb0
  have ho := OpIn.new w k n s
  clear hd hT
  go_enter Tryz.func49, Tryz.ntmps49
  go_upto_region 1 with fail
  generalize w.alloc (opO k n s) = W at *
  generalize hoq : w.heap.size = oq at *
  have HOq : Hid (w.heap.size = oq) := hoq
  clear hoq
  have HB0 : Hid (Below _ w W) := hb0
  have HD : Hid (Duo W base P B D tk b d) := hd0
  have HDd : Hid (Duo W.drew base P B D tk b d) := hd0.later (Below.refl _ _).drew
  have HTd : Hid (TabLH W.drew) := hT0.later (Below.refl _ _).drew
  have hP := hd0.p.ty.lt
  have c0 := hd0.p.c0
  have c1 := hd0.p.c1
  obtain ⟨aP1, aP2, aP3⟩ := hd0.apart hd0.p.ty (by decide) (by decide) (by decide)
  obtain ⟨aO1, aO2, aO3⟩ := hd0.apart ho.ty (by decide) (by decide) (by decide)
  have hO := ho.ty.lt
  obtain ⟨o0, o1, o2, _⟩ := ho
  have HAp : Hid (¬ P = D ∧ ¬ tk.ownBlock = some P ∧ ¬ oq = D ∧ ¬ tk.ownBlock = some oq) := ⟨aP2, aP3, aO2, aO3⟩
  have HnP : Hid (some P ≠ some B) := fun e => aP1 (by simpa using e)
  have HnO : Hid (some oq ≠ some B) := fun e => aO1 (by simpa using e)
  clear hb0 hd0 hT0 aP1 aP2 aP3 aO1 aO2 aO3
  go_wp2_with fail
  go_region_held3 (fun w' => w'.cell? ⟨P, 0, none⟩ = some (.pointer (some ⟨B, 0, none⟩)) ∧ w'.cell? ⟨oq, 1, none⟩ = some (.int .i64 n) ∧ w'.cell? ⟨oq, 2, none⟩ = some (.string s))
    (first | exact ⟨hg.cell c0 HnP.out, hg.cell o1 HnO.out, hg.cell o2 HnO.out⟩ | exact ⟨c0, o1, o2⟩)
    ((go_at_call 39; refine (xfeed_any b B n s _ HD.out.rel.ok HD.out.logsz HTd.out HDd.out.x).mono ?_; rintro e w1 ⟨rfl, hx, hg⟩))
  obtain ⟨hp1, hy1, _⟩ := HDd.out.prg hg
  have HX : Hid (∃ sl en, PB w1 B (Px.feedB b n s).1 sl en) := hx
  have HG : Hid (W.drew.grownBy w1 (some B)) := hg
  have HY : Hid (∃ sl en, BoxIn w1.drew D d sl en tk) := (by obtain ⟨sl, en, h⟩ := hy1; exact ⟨sl, en, h.later (Below.refl _ _).drew⟩)
  clear c0 c1
  have c1 := hp1.c1
  have hP1 := hp1.ty.lt
  have p1 : w1.cell? ⟨oq, 1, none⟩ = some (.int .i64 n) := hg.cell o1 HnO.out
  have p2 : w1.cell? ⟨oq, 2, none⟩ = some (.string s) := hg.cell o2 HnO.out
  have hO1 : oq < w1.heap.size := World.block_lt_of_cell? _ _ p1
  have HR : Hid (∃ x r, (Px.feedB b n s).2 = (x, r)) := ⟨_, _, rfl⟩
  obtain ⟨x, r, hxr⟩ := HR.out
  have HXR : Hid ((Px.feedB b n s).2 = (x, r)) := hxr
  rw [hxr]
  clear hx hg hp1 hy1 HR hxr o0 o1 o2
  go_wp2_with fail
  go_region_held3 (fun w' => w'.cell? ⟨P, 1, none⟩ = some (.pointer (some ⟨D, 0, none⟩)) ∧ w'.cell? ⟨oq, 1, none⟩ = some (.int .i64 n) ∧ w'.cell? ⟨oq, 2, none⟩ = some (.string s))
    (first | exact ⟨ht2.cell c1 HAp.out.1 HAp.out.2.1, ht2.cell p1 HAp.out.2.2.1 HAp.out.2.2.2, ht2.cell p2 HAp.out.2.2.1 HAp.out.2.2.2⟩ | exact ⟨c1, p1, p2⟩)
    ((go_at_call 93; refine (yfeed_any b d D tk n s _ N hN HMx.out hs HD.out.rel HY.out).mono ?_; rw [HXR.out]; rintro e w2 ⟨rfl, ⟨tk', hy2, hn2⟩, ht2⟩))
  have HF : Hid (Did w w2 base P B D tk (Px.feedB b n s).1 (feedP d n s).1) := by
    refine Did.ahead (w1 := W.drew) ?_ (by rw [HOq.out]; exact HB0.out.drew)
    exact Did.of HDd.out (grow_trans HG.out (grow_of_below (Below.refl _ _).drew _)) (by obtain ⟨sl, en, h⟩ := HX.out; exact ⟨sl, en, h.later (Below.refl _ _).drew⟩) hy2 hn2 ht2 (Px.feed_rel HD.out.rel n s).2 (feedB_lr b n s)
  clear c1 hy2 hn2 ht2 p1 p2
  go_wp2_with ((go_at_call 21; refine (lnum_any _ _).mono ?_; rintro e w3 ⟨rfl, rfl⟩))
  go_ret
  exact ⟨rfl, HF.out⟩
end Go.Proofs.YtdajolpoiffimaaGreatDoor

namespace Go.Proofs.YtdajolpoiffimaaGreatDoor
open Go.RowKit

theorem llog_b (w : World) (base P B D : Nat) (tk : Value) (b : Px.Bo) (d : Bx.Bo) (hd : Duo w base P B D tk b d) : Calls Tryz.prog 23 #[.pointer (some ⟨P, 0, none⟩)] w fun e w' => e = .returned (.bool true) ∧ Below w.heap.size w w' :=
  (llog_any w base P B D tk b d hd).mono fun e w' h => ⟨h.1, by rw [h.2]; exact Below.refl _ _⟩
set_option maxHeartbeats 1000000 in
theorem lasked8 (w : World) (base P B D : Nat) (tk : Value) (b : Px.Bo) (d : Bx.Bo) (k n : Int) (s : ByteArray) (hk : k = 8) (hd : Duo w base P B D tk b d) :
    Calls Tryz.prog 52 #[.pointer (some ⟨P, 0, none⟩), opV k n s] w fun e w' => e = .returned (.bool true) ∧ Below w.heap.size w w' := by
  subst hk
  have hb0 := below_alloc w (opO 8 n s)
  have hd0 := hd.later hb0
  have ho := OpIn.new w 8 n s
  clear hd
  go_enter Tryz.func52, Tryz.ntmps52
  go_upto_region 1 with fail
  generalize w.alloc (opO 8 n s) = W at *
  generalize hoq : w.heap.size = oq at *
  have HOq : Hid (w.heap.size = oq) := hoq
  clear hoq
  have HB0 : Hid (Below oq w W) := hb0
  have HD : Hid (Duo W base P B D tk b d) := hd0
  obtain ⟨o0, o1, o2, hOt⟩ := ho
  have hO := hOt.lt
  clear hb0 hd0
  go_wp2_with fail
  refine (llook_any _ base P B D tk b d HD.out).mono ?_
  rintro e w1 ⟨rfl, hb1⟩
  have HF : Hid (Below w.heap.size w w1) := by
    have h1 := HB0.out.trans (hb1.mono (by have := HB0.out.size; rw [HOq.out] at this; exact this))
    rw [HOq.out]; exact h1
  clear hb1 o0 o1 o2
  go_wp2_with fail
  go_ret
  exact ⟨rfl, HF.out⟩
set_option maxHeartbeats 1000000 in
theorem lasked9 (w : World) (base P B D : Nat) (tk : Value) (b : Px.Bo) (d : Bx.Bo) (k n : Int) (s : ByteArray) (hk : k = 9) (hd : Duo w base P B D tk b d) :
    Calls Tryz.prog 52 #[.pointer (some ⟨P, 0, none⟩), opV k n s] w fun e w' => e = .returned (.bool true) ∧ Below w.heap.size w w' := by
  subst hk
  have hb0 := below_alloc w (opO 9 n s)
  have hd0 := hd.later hb0
  have ho := OpIn.new w 9 n s
  clear hd
  go_enter Tryz.func52, Tryz.ntmps52
  go_upto_region 1 with fail
  generalize w.alloc (opO 9 n s) = W at *
  generalize hoq : w.heap.size = oq at *
  have HOq : Hid (w.heap.size = oq) := hoq
  clear hoq
  have HB0 : Hid (Below oq w W) := hb0
  have HD : Hid (Duo W base P B D tk b d) := hd0
  obtain ⟨o0, o1, o2, hOt⟩ := ho
  have hO := hOt.lt
  clear hb0 hd0
  go_wp2_with fail
  refine (lslot_any _ base P B D tk b d _ HD.out).mono ?_
  rintro e w1 ⟨rfl, hb1⟩
  have HF : Hid (Below w.heap.size w w1) := by
    have h1 := HB0.out.trans (hb1.mono (by have := HB0.out.size; rw [HOq.out] at this; exact this))
    rw [HOq.out]; exact h1
  clear hb1 o0 o1 o2
  go_wp2_with fail
  go_ret
  exact ⟨rfl, HF.out⟩
set_option maxHeartbeats 1000000 in
theorem lasked10 (w : World) (base P B D : Nat) (tk : Value) (b : Px.Bo) (d : Bx.Bo) (k n : Int) (s : ByteArray) (hk : k = 10) (hd : Duo w base P B D tk b d) :
    Calls Tryz.prog 52 #[.pointer (some ⟨P, 0, none⟩), opV k n s] w fun e w' => e = .returned (.bool true) ∧ Below w.heap.size w w' := by
  subst hk
  have hb0 := below_alloc w (opO 10 n s)
  have hd0 := hd.later hb0
  have ho := OpIn.new w 10 n s
  clear hd
  go_enter Tryz.func52, Tryz.ntmps52
  go_upto_region 1 with fail
  generalize w.alloc (opO 10 n s) = W at *
  generalize hoq : w.heap.size = oq at *
  have HOq : Hid (w.heap.size = oq) := hoq
  clear hoq
  have HB0 : Hid (Below oq w W) := hb0
  have HD : Hid (Duo W base P B D tk b d) := hd0
  obtain ⟨o0, o1, o2, hOt⟩ := ho
  have hO := hOt.lt
  clear hb0 hd0
  go_wp2_with fail
  refine (lend_any _ base P B D tk b d _ HD.out).mono ?_
  rintro e w1 ⟨rfl, hb1⟩
  have HF : Hid (Below w.heap.size w w1) := by
    have h1 := HB0.out.trans (hb1.mono (by have := HB0.out.size; rw [HOq.out] at this; exact this))
    rw [HOq.out]; exact h1
  clear hb1 o0 o1 o2
  go_wp2_with fail
  go_ret
  exact ⟨rfl, HF.out⟩
set_option maxHeartbeats 1000000 in
theorem lasked11 (w : World) (base P B D : Nat) (tk : Value) (b : Px.Bo) (d : Bx.Bo) (k n : Int) (s : ByteArray) (hk : k = 11) (hd : Duo w base P B D tk b d) :
    Calls Tryz.prog 52 #[.pointer (some ⟨P, 0, none⟩), opV k n s] w fun e w' => e = .returned (.bool true) ∧ Below w.heap.size w w' := by
  subst hk
  have hb0 := below_alloc w (opO 11 n s)
  have hd0 := hd.later hb0
  have ho := OpIn.new w 11 n s
  clear hd
  go_enter Tryz.func52, Tryz.ntmps52
  go_upto_region 1 with fail
  generalize w.alloc (opO 11 n s) = W at *
  generalize hoq : w.heap.size = oq at *
  have HOq : Hid (w.heap.size = oq) := hoq
  clear hoq
  have HB0 : Hid (Below oq w W) := hb0
  have HD : Hid (Duo W base P B D tk b d) := hd0
  obtain ⟨o0, o1, o2, hOt⟩ := ho
  have hO := hOt.lt
  clear hb0 hd0
  go_wp2_with fail
  refine (llog_b _ base P B D tk b d HD.out).mono ?_
  rintro e w1 ⟨rfl, hb1⟩
  have HF : Hid (Below w.heap.size w w1) := by
    have h1 := HB0.out.trans (hb1.mono (by have := HB0.out.size; rw [HOq.out] at this; exact this))
    rw [HOq.out]; exact h1
  clear hb1 o0 o1 o2
  go_wp2_with fail
  go_ret
  exact ⟨rfl, HF.out⟩
set_option maxHeartbeats 1000000 in
theorem lasked12 (w : World) (base P B D : Nat) (tk : Value) (b : Px.Bo) (d : Bx.Bo) (k n : Int) (s : ByteArray) (h8 : ¬ k = 8) (h9 : ¬ k = 9) (h10 : ¬ k = 10) (h11 : ¬ k = 11) (hd : Duo w base P B D tk b d) :
    Calls Tryz.prog 52 #[.pointer (some ⟨P, 0, none⟩), opV k n s] w fun e w' => e = .returned (.bool true) ∧ Below w.heap.size w w' := by
  have hb0 := below_alloc w (opO k n s)
  have hd0 := hd.later hb0
  have ho := OpIn.new w k n s
  clear hd
  go_enter Tryz.func52, Tryz.ntmps52
  go_upto_region 1 with fail
  generalize w.alloc (opO k n s) = W at *
  generalize hoq : w.heap.size = oq at *
  have HOq : Hid (w.heap.size = oq) := hoq
  clear hoq
  have HB0 : Hid (Below oq w W) := hb0
  have HD : Hid (Duo W base P B D tk b d) := hd0
  obtain ⟨o0, o1, o2, hOt⟩ := ho
  have hO := hOt.lt
  clear hb0 hd0
  go_wp2_with fail
  refine (lall_any _ base P B D tk b d HD.out).mono ?_
  rintro e w1 ⟨rfl, hb1⟩
  have HF : Hid (Below w.heap.size w w1) := by
    have h1 := HB0.out.trans (hb1.mono (by have := HB0.out.size; rw [HOq.out] at this; exact this))
    rw [HOq.out]; exact h1
  clear hb1 o0 o1 o2
  go_wp2_with fail
  go_ret
  exact ⟨rfl, HF.out⟩
theorem lasked_any (w : World) (base P B D : Nat) (tk : Value) (b : Px.Bo) (d : Bx.Bo) (k n : Int) (s : ByteArray) (hd : Duo w base P B D tk b d) :
    Calls Tryz.prog 52 #[.pointer (some ⟨P, 0, none⟩), opV k n s] w fun e w' => e = .returned (.bool true) ∧ Below w.heap.size w w' := by
  by_cases h8 : k = 8
  · exact lasked8 w base P B D tk b d k n s h8 hd
  by_cases h9 : k = 9
  · exact lasked9 w base P B D tk b d k n s h9 hd
  by_cases h10 : k = 10
  · exact lasked10 w base P B D tk b d k n s h10 hd
  by_cases h11 : k = 11
  · exact lasked11 w base P B D tk b d k n s h11 hd
  exact lasked12 w base P B D tk b d k n s h8 h9 h10 h11 hd
set_option maxHeartbeats 1000000 in
theorem lstep2 (w : World) (base P B D : Nat) (tk : Value) (b : Px.Bo) (d : Bx.Bo) (k n : Int) (s : ByteArray) (N : Nat) (_hN : N ≤ 100000000000000000) (hm : Px.HMax d N) (hs : s.size ≤ maxLen) (hT : TabLH w) (hM : Tab w) (hk : k = 2) (hd : Duo w base P B D tk b d) :
    Calls Tryz.prog 18 #[.pointer (some ⟨P, 0, none⟩), opV k n s] w fun e w' => e = .returned (.bool true) ∧ ∃ b' d', Did w w' base P B D tk b' d' ∧ Px.HMax d' N := by
  subst hk
  have HMx : Hid (Px.HMax d N) := hm
  have HS : Hid (s.size ≤ maxLen) := hs
  have hb0 := below_alloc w (opO 2 n s)
  have hd0 := hd.later hb0
  have HT : Hid (∀ o, TabLH (w.alloc o)) := fun o => hT.later (below_alloc w o)
  have HM : Hid (∀ o, Tab (w.alloc o)) := fun o => hM.later (below_alloc w o)
  have HT0 := HT.out (opO 2 n s)
  have HM0 := HM.out (opO 2 n s)
  clear HT HM hT hM hm hs
  have ho := OpIn.new w 2 n s
  clear hd
  go_enter Tryz.func18, Tryz.ntmps18
  go_upto_region 1 with fail
  generalize w.alloc (opO 2 n s) = W at *
  generalize hoq : w.heap.size = oq at *
  have HOq : Hid (w.heap.size = oq) := hoq
  clear hoq
  have HB0 : Hid (Below oq w W) := hb0
  have HD : Hid (Duo W base P B D tk b d) := hd0
  obtain ⟨o0, o1, o2, hOt⟩ := ho
  have hO := hOt.lt
  clear hb0 hd0
  have HTW : Hid (TabLH W) := HT0
  have HMW : Hid (Tab W) := HM0
  clear HT0 HM0
  go_wp2_with fail
  refine (lticked_any _ base P B D tk b d _ HTW.out HMW.out HD.out).mono ?_
  rintro e w1 ⟨rfl, hdd⟩
  have HF : Hid (∃ b' d', Did w w1 base P B D tk b' d' ∧ Px.HMax d' N) := ⟨_, _, hdd.ahead (by rw [HOq.out]; exact HB0.out), HMx.out.tick _⟩
  clear hdd o0 o1 o2
  go_wp2_with fail
  go_ret
  exact ⟨rfl, HF.out⟩
set_option maxHeartbeats 1000000 in
theorem lstep4 (w : World) (base P B D : Nat) (tk : Value) (b : Px.Bo) (d : Bx.Bo) (k n : Int) (s : ByteArray) (N : Nat) (_hN : N ≤ 100000000000000000) (hm : Px.HMax d N) (hs : s.size ≤ maxLen) (hT : TabLH w) (hM : Tab w) (hk : k = 4) (hd : Duo w base P B D tk b d) :
    Calls Tryz.prog 18 #[.pointer (some ⟨P, 0, none⟩), opV k n s] w fun e w' => e = .returned (.bool true) ∧ ∃ b' d', Did w w' base P B D tk b' d' ∧ Px.HMax d' N := by
  subst hk
  have HMx : Hid (Px.HMax d N) := hm
  have HS : Hid (s.size ≤ maxLen) := hs
  have hb0 := below_alloc w (opO 4 n s)
  have hd0 := hd.later hb0
  have HT : Hid (∀ o, TabLH (w.alloc o)) := fun o => hT.later (below_alloc w o)
  have HM : Hid (∀ o, Tab (w.alloc o)) := fun o => hM.later (below_alloc w o)
  have HT0 := HT.out (opO 4 n s)
  have HM0 := HM.out (opO 4 n s)
  clear HT HM hT hM hm hs
  have ho := OpIn.new w 4 n s
  clear hd
  go_enter Tryz.func18, Tryz.ntmps18
  go_upto_region 1 with fail
  generalize w.alloc (opO 4 n s) = W at *
  generalize hoq : w.heap.size = oq at *
  have HOq : Hid (w.heap.size = oq) := hoq
  clear hoq
  have HB0 : Hid (Below oq w W) := hb0
  have HD : Hid (Duo W base P B D tk b d) := hd0
  obtain ⟨o0, o1, o2, hOt⟩ := ho
  have hO := hOt.lt
  clear hb0 hd0
  have HTW : Hid (TabLH W) := HT0
  have HMW : Hid (Tab W) := HM0
  clear HT0 HM0
  go_wp2_with fail
  refine (ltalked_start _ base P B D tk b d 4 n s rfl HTW.out HD.out).mono ?_
  rintro e w1 ⟨rfl, hdd⟩
  have HF : Hid (∃ b' d', Did w w1 base P B D tk b' d' ∧ Px.HMax d' N) := ⟨_, _, hdd.ahead (by rw [HOq.out]; exact HB0.out), HMx.out.start _⟩
  clear hdd o0 o1 o2
  go_wp2_with fail
  go_ret
  exact ⟨rfl, HF.out⟩
set_option maxHeartbeats 1000000 in
theorem lstep5 (w : World) (base P B D : Nat) (tk : Value) (b : Px.Bo) (d : Bx.Bo) (k n : Int) (s : ByteArray) (N : Nat) (hN : N ≤ 100000000000000000) (hm : Px.HMax d N) (hs : s.size ≤ maxLen) (hT : TabLH w) (hM : Tab w) (hk : k = 5) (hd : Duo w base P B D tk b d) :
    Calls Tryz.prog 18 #[.pointer (some ⟨P, 0, none⟩), opV k n s] w fun e w' => e = .returned (.bool true) ∧ ∃ b' d', Did w w' base P B D tk b' d' ∧ Px.HMax d' (N + 40) := by
  subst hk
  have HMx : Hid (Px.HMax d N) := hm
  have HS : Hid (s.size ≤ maxLen) := hs
  have hb0 := below_alloc w (opO 5 n s)
  have hd0 := hd.later hb0
  have HT : Hid (∀ o, TabLH (w.alloc o)) := fun o => hT.later (below_alloc w o)
  have HM : Hid (∀ o, Tab (w.alloc o)) := fun o => hM.later (below_alloc w o)
  have HT0 := HT.out (opO 5 n s)
  have HM0 := HM.out (opO 5 n s)
  clear HT HM hT hM hm hs
  have ho := OpIn.new w 5 n s
  clear hd
  go_enter Tryz.func18, Tryz.ntmps18
  go_upto_region 1 with fail
  generalize w.alloc (opO 5 n s) = W at *
  generalize hoq : w.heap.size = oq at *
  have HOq : Hid (w.heap.size = oq) := hoq
  clear hoq
  have HB0 : Hid (Below oq w W) := hb0
  have HD : Hid (Duo W base P B D tk b d) := hd0
  obtain ⟨o0, o1, o2, hOt⟩ := ho
  have hO := hOt.lt
  clear hb0 hd0
  have HTW : Hid (TabLH W) := HT0
  have HMW : Hid (Tab W) := HM0
  clear HT0 HM0
  go_wp2_with fail
  refine (ltalked_feed _ base P B D tk b d 5 n s N hN HMx HS.out (by decide) HTW.out HD.out).mono ?_
  rintro e w1 ⟨rfl, hdd⟩
  have HF : Hid (∃ b' d', Did w w1 base P B D tk b' d' ∧ Px.HMax d' (N + 40)) := ⟨_, _, hdd.ahead (by rw [HOq.out]; exact HB0.out), HMx.out.feed _ _⟩
  clear hdd o0 o1 o2
  go_wp2_with fail
  go_ret
  exact ⟨rfl, HF.out⟩
set_option maxHeartbeats 1000000 in
theorem lstep8 (w : World) (base P B D : Nat) (tk : Value) (b : Px.Bo) (d : Bx.Bo) (k n : Int) (s : ByteArray) (N : Nat) (_hN : N ≤ 100000000000000000) (hm : Px.HMax d N) (hs : s.size ≤ maxLen) (hT : TabLH w) (hM : Tab w) (h1 : 8 ≤ k) (h2 : k ≤ 12) (hd : Duo w base P B D tk b d) :
    Calls Tryz.prog 18 #[.pointer (some ⟨P, 0, none⟩), opV k n s] w fun e w' => e = .returned (.bool true) ∧ ∃ b' d', Did w w' base P B D tk b' d' ∧ Px.HMax d' N := by
  have HMx : Hid (Px.HMax d N) := hm
  have HS : Hid (s.size ≤ maxLen) := hs
  have hb0 := below_alloc w (opO k n s)
  have hd0 := hd.later hb0
  have HT : Hid (∀ o, TabLH (w.alloc o)) := fun o => hT.later (below_alloc w o)
  have HM : Hid (∀ o, Tab (w.alloc o)) := fun o => hM.later (below_alloc w o)
  have HT0 := HT.out (opO k n s)
  have HM0 := HM.out (opO k n s)
  clear HT HM hT hM hm hs
  have ho := OpIn.new w k n s
  clear hd
  go_enter Tryz.func18, Tryz.ntmps18
  go_upto_region 1 with fail
  generalize w.alloc (opO k n s) = W at *
  generalize hoq : w.heap.size = oq at *
  have HOq : Hid (w.heap.size = oq) := hoq
  clear hoq
  have HB0 : Hid (Below oq w W) := hb0
  have HD : Hid (Duo W base P B D tk b d) := hd0
  obtain ⟨o0, o1, o2, hOt⟩ := ho
  have hO := hOt.lt
  clear hb0 hd0
  have HTW : Hid (TabLH W) := HT0
  have HMW : Hid (Tab W) := HM0
  clear HT0 HM0
  have hne : ¬ k = 1 ∧ ¬ k = 2 ∧ ¬ k = 3 ∧ ¬ k = 4 ∧ ¬ k = 5 ∧ ¬ k = 6 ∧ ¬ k = 7 := by omega
  obtain ⟨n1, n2, n3, n4, n5, n6, n7⟩ := hne
  have hor : k = 8 ∨ k = 9 ∨ k = 10 ∨ k = 11 ∨ k = 12 := by omega
  have HAs : Hid (Calls Tryz.prog 52 #[.pointer (some ⟨P, 0, none⟩), opV k n s] W fun e w' => e = .returned (.bool true) ∧ Below W.heap.size W w') := lasked_any W base P B D tk b d k n s HD.out
  have HF : Hid (∀ w1, Below W.heap.size W w1 → ∃ b' d', Did w w1 base P B D tk b' d' ∧ Px.HMax d' N) := fun w1 hb => ⟨b, d, ((Did.same HD.out).later hb).ahead (by rw [HOq.out]; exact HB0.out), HMx.out⟩
  rcases hor with rfl | rfl | rfl | rfl | rfl
  all_goals
    go_wp2_with fail
    refine HAs.out.mono ?_
    rintro e w1 ⟨rfl, hb1⟩
    have HF1 : Hid (∃ b' d', Did w w1 base P B D tk b' d' ∧ Px.HMax d' N) := HF.out w1 hb1
    clear hb1 o0 o1 o2
    go_wp2_with fail
    go_ret
    exact ⟨rfl, HF1.out⟩
set_option maxHeartbeats 1000000 in
theorem lstep0 (w : World) (base P B D : Nat) (tk : Value) (b : Px.Bo) (d : Bx.Bo) (k n : Int) (s : ByteArray) (N : Nat) (_hN : N ≤ 100000000000000000) (hm : Px.HMax d N) (hs : s.size ≤ maxLen) (hT : TabLH w) (hM : Tab w) (h1 : k < 1 ∨ 12 < k) (hd : Duo w base P B D tk b d) :
    Calls Tryz.prog 18 #[.pointer (some ⟨P, 0, none⟩), opV k n s] w fun e w' => e = .returned (.bool true) ∧ ∃ b' d', Did w w' base P B D tk b' d' ∧ Px.HMax d' N := by
  have HMx : Hid (Px.HMax d N) := hm
  have HS : Hid (s.size ≤ maxLen) := hs
  have hb0 := below_alloc w (opO k n s)
  have hd0 := hd.later hb0
  have HT : Hid (∀ o, TabLH (w.alloc o)) := fun o => hT.later (below_alloc w o)
  have HM : Hid (∀ o, Tab (w.alloc o)) := fun o => hM.later (below_alloc w o)
  have HT0 := HT.out (opO k n s)
  have HM0 := HM.out (opO k n s)
  clear HT HM hT hM hm hs
  have ho := OpIn.new w k n s
  clear hd
  go_enter Tryz.func18, Tryz.ntmps18
  go_upto_region 1 with fail
  generalize w.alloc (opO k n s) = W at *
  generalize hoq : w.heap.size = oq at *
  have HOq : Hid (w.heap.size = oq) := hoq
  clear hoq
  have HB0 : Hid (Below oq w W) := hb0
  have HD : Hid (Duo W base P B D tk b d) := hd0
  obtain ⟨o0, o1, o2, hOt⟩ := ho
  have hO := hOt.lt
  clear hb0 hd0
  have HTW : Hid (TabLH W) := HT0
  have HMW : Hid (Tab W) := HM0
  clear HT0 HM0
  have hne : ¬ k = 1 ∧ ¬ k = 2 ∧ ¬ k = 3 ∧ ¬ k = 4 ∧ ¬ k = 5 ∧ ¬ k = 6 ∧ ¬ k = 7 ∧ ¬ k = 8 ∧ ¬ k = 9 ∧ ¬ k = 10 ∧ ¬ k = 11 ∧ ¬ k = 12 := by omega
  obtain ⟨n1, n2, n3, n4, n5, n6, n7, n8, n9, n10, n11, n12⟩ := hne
  have HF1 : Hid (∃ b' d', Did w W base P B D tk b' d' ∧ Px.HMax d' N) := ⟨b, d, (Did.same HD.out).ahead (by rw [HOq.out]; exact HB0.out), HMx.out⟩
  clear h1
  go_wp2_with fail
  go_ret
  exact ⟨rfl, HF1.out⟩
end Go.Proofs.YtdajolpoiffimaaGreatDoor

namespace Go.Proofs.YtdajolpoiffimaaGreatDoor
open Go.RowKit

set_option maxHeartbeats 2000000 in
theorem lstep1 (w : World) (base P B D : Nat) (tk : Value) (b : Px.Bo) (d : Bx.Bo) (k n : Int) (s : ByteArray) (N : Nat) (_hN : N ≤ 100000000000000000) (hm : Px.HMax d N) (hs : s.size ≤ maxLen) (hT : TabLH w) (_hM : Tab w) (hk : k = 1) (hd : Duo w base P B D tk b d) :
    Calls Tryz.prog 18 #[.pointer (some ⟨P, 0, none⟩), opV k n s] w fun e w' => e = .returned (.bool true) ∧ ∃ b' d', Did w w' base P B D tk b' d' ∧ Px.HMax d' N := by
  subst hk
  have HMx : Hid (Px.HMax d N) := hm
  have HS : Hid (s.size ≤ maxLen) := hs
  have hb0 := below_alloc w (opO 1 n s)
  have hd0 := hd.later hb0
  have hT0 := hT.later hb0
  have ho := OpIn.new w 1 n s
  clear hd hT hm hs
  go_enter Tryz.func18, Tryz.ntmps18
  go_upto_region 1 with fail
  generalize w.alloc (opO 1 n s) = W at *
  generalize hoq : w.heap.size = oq at *
  have HOq : Hid (w.heap.size = oq) := hoq
  clear hoq
  have HB0 : Hid (Below _ w W) := hb0
  have HD : Hid (Duo W base P B D tk b d) := hd0
  have HDd : Hid (Duo W.drew base P B D tk b d) := hd0.later (Below.refl _ _).drew
  have HTd : Hid (TabLH W.drew) := hT0.later (Below.refl _ _).drew
  have hP := hd0.p.ty.lt
  have c0 := hd0.p.c0
  have c1 := hd0.p.c1
  obtain ⟨aP1, aP2, aP3⟩ := hd0.apart hd0.p.ty (by decide) (by decide) (by decide)
  obtain ⟨aO1, aO2, aO3⟩ := hd0.apart ho.ty (by decide) (by decide) (by decide)
  have hO := ho.ty.lt
  obtain ⟨o0, o1, o2, _⟩ := ho
  have HAp : Hid (¬ P = D ∧ ¬ tk.ownBlock = some P ∧ ¬ oq = D ∧ ¬ tk.ownBlock = some oq) := ⟨aP2, aP3, aO2, aO3⟩
  have HnP : Hid (some P ≠ some B) := fun e => aP1 (by simpa using e)
  have HnO : Hid (some oq ≠ some B) := fun e => aO1 (by simpa using e)
  clear hb0 hd0 hT0 aP1 aP2 aP3 aO1 aO2 aO3
  go_wp2_with fail
  go_region_held3 (fun w' => w'.cell? ⟨P, 0, none⟩ = some (.pointer (some ⟨B, 0, none⟩)) ∧ w'.cell? ⟨oq, 2, none⟩ = some (.string s))
    (first | exact ⟨hg.cell c0 HnP.out, hg.cell o2 HnO.out⟩ | exact ⟨c0, o2⟩)
    ((go_at_call 29; refine (xload_any b B s _ HD.out.rel.ok HD.out.logsz HS.out HTd.out HDd.out.x).mono ?_; rintro e w1 ⟨b', a, r, rfl, hl, hx, hg⟩))
  obtain ⟨hp1, hy1, _⟩ := HDd.out.prg hg
  have HX : Hid (∃ sl en, PB w1 B b' sl en) := hx
  have HL : Hid (Px.LoadB b s b' a r) := hl
  have HG : Hid (W.drew.grownBy w1 (some B)) := hg
  have HY : Hid (∃ sl en, BoxIn w1.drew D d sl en tk) := (by obtain ⟨sl, en, h⟩ := hy1; exact ⟨sl, en, h.later (Below.refl _ _).drew⟩)
  clear c0 c1
  have c1 := hp1.c1
  have hP1 := hp1.ty.lt
  have p2 : w1.cell? ⟨oq, 2, none⟩ = some (.string s) := hg.cell o2 HnO.out
  have hO1 : oq < w1.heap.size := World.block_lt_of_cell? _ _ p2
  clear hx hg hp1 hy1 hl o0 o1 o2
  go_wp2_with fail
  go_region_held3 (fun w' => w'.cell? ⟨P, 1, none⟩ = some (.pointer (some ⟨D, 0, none⟩)) ∧ w'.cell? ⟨oq, 2, none⟩ = some (.string s))
    (first | exact ⟨ht2.cell c1 HAp.out.1 HAp.out.2.1, ht2.cell p2 HAp.out.2.2.1 HAp.out.2.2.2⟩ | exact ⟨c1, p2⟩)
    ((go_at_call 46; refine (yload_any b b' d D tk s a r _ HS.out HL.out HD.out.rel HY.out).mono ?_; rintro e w2 ⟨rfl, ⟨d', tk', hLR, hR, hy2, hn2⟩, ht2⟩))
  have HF : Hid (∃ b' d', Did w w2 base P B D tk b' d' ∧ Px.HMax d' N) := by
    refine ⟨b', d', Did.ahead (w1 := W.drew) ?_ (by rw [HOq.out]; exact HB0.out.drew), HMx.out.load hLR⟩
    exact Did.of HDd.out (grow_trans HG.out (grow_of_below (Below.refl _ _).drew _)) (by obtain ⟨sl, en, h⟩ := HX.out; exact ⟨sl, en, h.later (Below.refl _ _).drew⟩) hy2 hn2 ht2 hR (loadB_lr HL.out)
  clear c1 hy2 hn2 ht2 p2 hLR hR
  go_wp2_with ((go_at_call 21; refine (lnum_any _ _).mono ?_; rintro e w3 ⟨rfl, rfl⟩))
  go_ret
  exact ⟨rfl, HF.out⟩
set_option maxHeartbeats 2000000 in
theorem lstep6 (w : World) (base P B D : Nat) (tk : Value) (b : Px.Bo) (d : Bx.Bo) (k n : Int) (s : ByteArray) (N : Nat) (_hN : N ≤ 100000000000000000) (hm : Px.HMax d N) (hs : s.size ≤ maxLen) (hT : TabLH w) (_hM : Tab w) (hk : k = 6) (hd : Duo w base P B D tk b d) :
    Calls Tryz.prog 18 #[.pointer (some ⟨P, 0, none⟩), opV k n s] w fun e w' => e = .returned (.bool true) ∧ ∃ b' d', Did w w' base P B D tk b' d' ∧ Px.HMax d' N := by
  subst hk
  have HMx : Hid (Px.HMax d N) := hm
  have HS : Hid (s.size ≤ maxLen) := hs
  have hb0 := below_alloc w (opO 6 n s)
  have hd0 := hd.later hb0
  have hT0 := hT.later hb0
  have ho := OpIn.new w 6 n s
  clear hd hT hm hs
  go_enter Tryz.func18, Tryz.ntmps18
  go_upto_region 1 with fail
  generalize w.alloc (opO 6 n s) = W at *
  generalize hoq : w.heap.size = oq at *
  have HOq : Hid (w.heap.size = oq) := hoq
  clear hoq
  have HB0 : Hid (Below _ w W) := hb0
  have HD : Hid (Duo W base P B D tk b d) := hd0
  have HDd : Hid (Duo W.drew base P B D tk b d) := hd0.later (Below.refl _ _).drew
  have HTd : Hid (TabLH W.drew) := hT0.later (Below.refl _ _).drew
  have hP := hd0.p.ty.lt
  have c0 := hd0.p.c0
  have c1 := hd0.p.c1
  obtain ⟨aP1, aP2, aP3⟩ := hd0.apart hd0.p.ty (by decide) (by decide) (by decide)
  obtain ⟨aO1, aO2, aO3⟩ := hd0.apart ho.ty (by decide) (by decide) (by decide)
  have hO := ho.ty.lt
  obtain ⟨o0, o1, o2, _⟩ := ho
  have HAp : Hid (¬ P = D ∧ ¬ tk.ownBlock = some P ∧ ¬ oq = D ∧ ¬ tk.ownBlock = some oq) := ⟨aP2, aP3, aO2, aO3⟩
  have HnP : Hid (some P ≠ some B) := fun e => aP1 (by simpa using e)
  have HnO : Hid (some oq ≠ some B) := fun e => aO1 (by simpa using e)
  clear hb0 hd0 hT0 aP1 aP2 aP3 aO1 aO2 aO3
  go_wp2_with fail
  go_region_held3 (fun w' => w'.cell? ⟨P, 0, none⟩ = some (.pointer (some ⟨B, 0, none⟩)) ∧ w'.cell? ⟨oq, 1, none⟩ = some (.int .i64 n))
    (first | exact ⟨hg.cell c0 HnP.out, hg.cell o1 HnO.out⟩ | exact ⟨c0, o1⟩)
    ((go_at_call 41; refine (xcancel_any b B n _ HD.out.rel.ok HD.out.logsz HDd.out.x).mono ?_; rintro e w1 ⟨rfl, hx, hg⟩))
  obtain ⟨hp1, hy1, _⟩ := HDd.out.prg hg
  have HX : Hid (∃ sl en, PB w1 B (Px.cancelB b n).1 sl en) := hx
  have HG : Hid (W.drew.grownBy w1 (some B)) := hg
  have HY : Hid (∃ sl en, BoxIn w1.drew D d sl en tk) := (by obtain ⟨sl, en, h⟩ := hy1; exact ⟨sl, en, h.later (Below.refl _ _).drew⟩)
  clear c0 c1
  have c1 := hp1.c1
  have hP1 := hp1.ty.lt
  have p1 : w1.cell? ⟨oq, 1, none⟩ = some (.int .i64 n) := hg.cell o1 HnO.out
  have hO1 : oq < w1.heap.size := World.block_lt_of_cell? _ _ p1
  have HR : Hid (∃ r, (Px.cancelB b n).2 = r) := ⟨_, rfl⟩
  obtain ⟨r, hxr⟩ := HR.out
  have HXR : Hid ((Px.cancelB b n).2 = r) := hxr
  rw [hxr]
  clear hx hg hp1 hy1 HR hxr o0 o1 o2
  go_wp2_with fail
  go_region_held3 (fun w' => w'.cell? ⟨P, 1, none⟩ = some (.pointer (some ⟨D, 0, none⟩)) ∧ w'.cell? ⟨oq, 1, none⟩ = some (.int .i64 n))
    (first | exact ⟨ht2.cell c1 HAp.out.1 HAp.out.2.1, ht2.cell p1 HAp.out.2.2.1 HAp.out.2.2.2⟩ | exact ⟨c1, p1⟩)
    ((go_at_call 50; refine (ycancel_any b d D tk n _ HD.out.rel HY.out).mono ?_; rw [HXR.out]; rintro e w2 ⟨rfl, ⟨tk', hy2, hn2⟩, ht2⟩))
  have HF : Hid (∃ b' d', Did w w2 base P B D tk b' d' ∧ Px.HMax d' N) := by
    refine ⟨(Px.cancelB b n).1, (cancelP d n).1, Did.ahead (w1 := W.drew) ?_ (by rw [HOq.out]; exact HB0.out.drew), HMx.out.cancel n⟩
    exact Did.of HDd.out (grow_trans HG.out (grow_of_below (Below.refl _ _).drew _)) (by obtain ⟨sl, en, h⟩ := HX.out; exact ⟨sl, en, h.later (Below.refl _ _).drew⟩) hy2 hn2 ht2 (Px.cancel_rel HD.out.rel n).2 (cancelB_lr b n)
  clear c1 hy2 hn2 ht2 p1
  go_wp2_with ((go_at_call 21; refine (lnum_any _ _).mono ?_; rintro e w3 ⟨rfl, rfl⟩))
  go_ret
  exact ⟨rfl, HF.out⟩
set_option maxHeartbeats 2000000 in
theorem lstep3 (w : World) (base P B D : Nat) (tk : Value) (b : Px.Bo) (d : Bx.Bo) (k n : Int) (s : ByteArray) (N : Nat) (_hN : N ≤ 100000000000000000) (hm : Px.HMax d N) (_hs : s.size ≤ maxLen) (hT : TabLH w) (hM : Tab w) (hk : k = 3) (hd : Duo w base P B D tk b d) :
    Calls Tryz.prog 18 #[.pointer (some ⟨P, 0, none⟩), opV k n s] w fun e w' => e = .returned (.bool true) ∧ ∃ b' d', Did w w' base P B D tk b' d' ∧ Px.HMax d' N := by
  subst hk
  have HMx : Hid (Px.HMax d N) := hm
  have hb0 := below_alloc w (opO 3 n s)
  have hd0 := hd.later hb0
  have hT0 := hT.later hb0
  have hM0 := hM.later hb0
  have ho := OpIn.new w 3 n s
  clear hd hT hM hm
  go_enter Tryz.func18, Tryz.ntmps18
  go_upto_region 1 with fail
  generalize w.alloc (opO 3 n s) = W at *
  generalize hoq : w.heap.size = oq at *
  have HOq : Hid (w.heap.size = oq) := hoq
  clear hoq
  have HB0 : Hid (Below oq w W) := hb0
  have HD : Hid (Duo W base P B D tk b d) := hd0
  obtain ⟨sl', en', hy⟩ := hd0.y
  obtain ⟨ad, cap, rfl, _⟩ := hy.rows.sl.form
  obtain ⟨ad2, cap2, rfl, _⟩ := hy.rows.en.form
  have HY : Hid (BoxIn W D d (.slice ad d.now.slots.length cap) (.slice ad2 d.now.ends.length cap2) tk) := hy
  have hP := hd0.p.ty.lt
  have c1 := hd0.p.c1
  have hO := ho.ty.lt
  have HOp : Hid (OpIn W oq 3 n s) := ho
  obtain ⟨o0, o1, o2, _⟩ := ho
  have HTW : Hid (TabLH W) := hT0
  have HMW : Hid (Tab W) := hM0
  clear hb0 hd0 hT0 hM0 hy
  go_wp2_with fail
  refine (bstate_any d D (.slice ad d.now.slots.length cap) (.slice ad2 d.now.ends.length cap2) tk _ HY.out).mono ?_
  rintro e w1 ⟨rfl, hb1⟩
  have hb2 : Below W.heap.size W (w1.alloc (stO d.now (.slice ad d.now.slots.length cap) (.slice ad2 d.now.ends.length cap2))) := hb1.alloc hb1.size _
  have g1 : (w1.alloc (stO d.now (.slice ad d.now.slots.length cap) (.slice ad2 d.now.ends.length cap2))).cell? ⟨w1.heap.size, 1, none⟩ = some (.int .i64 d.now.clock) := by simp [go_sem]
  have HD2 : Hid (Duo (w1.alloc (stO d.now (.slice ad d.now.slots.length cap) (.slice ad2 d.now.ends.length cap2))) base P B D tk b d) := HD.out.later hb2
  have HT2 : Hid (TabLH (w1.alloc (stO d.now (.slice ad d.now.slots.length cap) (.slice ad2 d.now.ends.length cap2)))) := HTW.out.later hb2
  have HM2 : Hid (Tab (w1.alloc (stO d.now (.slice ad d.now.slots.length cap) (.slice ad2 d.now.ends.length cap2)))) := HMW.out.later hb2
  have p1 := cell_later hb2 HOp.out.c1
  have HB2 : Hid (Below w.heap.size w (w1.alloc (stO d.now (.slice ad d.now.slots.length cap) (.slice ad2 d.now.ends.length cap2)))) := by
    have h1 := HB0.out.trans (hb2.mono (by have := HB0.out.size; rw [HOq.out] at this; exact this))
    rw [HOq.out]; exact h1
  clear hb1 hb2 o0 o1 o2 c1
  go_upto_region 10 with fail
  generalize w1.alloc (stO d.now (.slice ad d.now.slots.length cap) (.slice ad2 d.now.ends.length cap2)) = W2 at *
  generalize w1.heap.size = q1 at *
  go_wp2_with fail
  refine (lticked_any _ base P B D tk b d _ HT2.out HM2.out HD2.out).mono ?_
  rintro e w3 ⟨rfl, hdd⟩
  have HF : Hid (∃ b' d', Did w w3 base P B D tk b' d' ∧ Px.HMax d' N) := ⟨_, _, hdd.ahead HB2.out, HMx.out.tick _⟩
  clear hdd g1 p1
  go_wp2_with fail
  go_ret
  exact ⟨rfl, HF.out⟩
/-- Every step but Compact. -/
theorem lstep_any (w : World) (base P B D : Nat) (tk : Value) (b : Px.Bo) (d : Bx.Bo) (k n : Int) (s : ByteArray) (N : Nat) (hN : N ≤ 100000000000000000) (hm : Px.HMax d N) (hs : s.size ≤ maxLen) (hT : TabLH w) (hM : Tab w) (h7 : ¬ k = 7) (hd : Duo w base P B D tk b d) :
    Calls Tryz.prog 18 #[.pointer (some ⟨P, 0, none⟩), opV k n s] w fun e w' => e = .returned (.bool true) ∧ ∃ b' d', Did w w' base P B D tk b' d' ∧ Px.HMax d' (if k = 5 then N + 40 else N) := by
  by_cases h1 : k = 1
  · rw [if_neg (by omega)]; exact lstep1 w base P B D tk b d k n s N hN hm hs hT hM h1 hd
  by_cases h2 : k = 2
  · rw [if_neg (by omega)]; exact lstep2 w base P B D tk b d k n s N hN hm hs hT hM h2 hd
  by_cases h3 : k = 3
  · rw [if_neg (by omega)]; exact lstep3 w base P B D tk b d k n s N hN hm hs hT hM h3 hd
  by_cases h4 : k = 4
  · rw [if_neg (by omega)]; exact lstep4 w base P B D tk b d k n s N hN hm hs hT hM h4 hd
  by_cases h5 : k = 5
  · rw [if_pos h5]; exact lstep5 w base P B D tk b d k n s N hN hm hs hT hM h5 hd
  by_cases h6 : k = 6
  · rw [if_neg (by omega)]; exact lstep6 w base P B D tk b d k n s N hN hm hs hT hM h6 hd
  by_cases h8 : k < 1 ∨ 12 < k
  · rw [if_neg (by omega)]; exact lstep0 w base P B D tk b d k n s N hN hm hs hT hM h8 hd
  · rw [if_neg (by omega)]; exact lstep8 w base P B D tk b d k n s N hN hm hs hT hM (by omega) (by omega) hd
end Go.Proofs.YtdajolpoiffimaaGreatDoor

namespace Go.Proofs.YtdajolpoiffimaaGreatDoor
open Go.RowKit

set_option maxHeartbeats 1000000 in
theorem lbegun_no (l r : Int) (w : World) (h : mayB l r = false) : Calls Tryz.prog 16 #[.int .i64 l, .int .i64 r] w fun e w' => e = .returned (.tuple #[.pointer none, .bool true]) ∧ w' = w := by
  go_enter Tryz.func16, Tryz.ntmps16
  go_wp2_with fail
  refine (pnew_no l r _ h).mono ?_
  rintro e w1 ⟨rfl, rfl⟩
  go_wp2_with fail
  refine (rnew_no l r _ h).mono ?_
  rintro e w1 ⟨rfl, rfl⟩
  go_wp2_with ((go_at_call 21; refine (lnum_any _ _).mono ?_; rintro e w3 ⟨rfl, rfl⟩))
  go_ret2
  exact ⟨rfl, rfl⟩
abbrev pairO (B D : Nat) (l r : Int) : Obj := .cells #[.pointer (some ⟨B, 0, none⟩), .pointer (some ⟨D, 0, none⟩), .int .i64 l, .int .i64 r] 33
set_option maxHeartbeats 1000000 in
theorem lbegun_yes (l r : Int) (w : World) (h : mayB l r = true) : Calls Tryz.prog 16 #[.int .i64 l, .int .i64 r] w fun e w' =>
    (∃ P B D, e = .returned (.tuple #[.pointer (some ⟨P, 0, none⟩), .bool true]) ∧ Duo w' w.heap.size P B D nilV ⟨l, r, Px.first, ByteArray.empty⟩ ⟨l, r, Bx.first, ByteArray.empty, []⟩) ∧ Below w.heap.size w w' := by
  have HR : Hid (Px.Rel ⟨l, r, Px.first, ByteArray.empty⟩ ⟨l, r, Bx.first, ByteArray.empty, []⟩) := Px.Rel.new h
  go_enter Tryz.func16, Tryz.ntmps16
  go_wp2_with fail
  refine (pnew_yes l r _ h).mono ?_
  rintro e w1 ⟨⟨B, rfl, hB, hx⟩, hb1⟩
  have HX : Hid (PB w1 B ⟨l, r, Px.first, ByteArray.empty⟩ (.slice none 0 0) (.slice none 0 0)) := hx
  have HB1 : Hid (Below w.heap.size w w1) := hb1
  have HlB : Hid (w.heap.size ≤ B) := hB
  clear hx hb1 hB
  go_wp2_with fail
  refine (rnew_yes l r _ h).mono ?_
  rintro e w2 ⟨⟨D, rfl, hD, hy⟩, hb2⟩
  have hsz1 := HB1.out.size
  have hsz2 := hb2.size
  have hpw : PairIn (w2.alloc (pairO B D l r)) w2.heap.size B D l r := ⟨by simp [go_sem], by simp [go_sem], by simp [go_sem], by simp [go_sem], Typed.new _ _ _⟩
  have HF : Hid (Duo (w2.alloc (pairO B D l r)) w.heap.size w2.heap.size B D nilV ⟨l, r, Px.first, ByteArray.empty⟩ ⟨l, r, Bx.first, ByteArray.empty, []⟩) :=
    ⟨hpw, ⟨_, _, (HX.out.later hb2).later (below_alloc _ _)⟩, ⟨_, _, hy.later (below_alloc _ _)⟩, HR.out, ⟨by omega, HlB.out, by omega⟩⟩
  have HBl : Hid (Below w.heap.size w (w2.alloc (pairO B D l r))) := (HB1.out.trans (hb2.mono hsz1)).alloc (by omega) _
  clear hy hb2 hpw hD
  go_wp2_with ((go_at_call 21; refine (lnum_any _ _).mono ?_; rintro e w3 ⟨rfl, rfl⟩))
  go_ret2
  exact ⟨⟨_, _, _, rfl, HF.out⟩, HBl.out⟩

/-- Two pairs, of which one is at work. -/
def PlayI (w0 wr : World) (N P Q : Nat) : Prop := Below w0.heap.size w0 wr ∧ ∃ B D tk b d B2 D2 tk2 b2 d2, Duo wr w0.heap.size P B D tk b d ∧ Px.HMax d N ∧ Duo wr w0.heap.size Q B2 D2 tk2 b2 d2 ∧ Px.HMax d2 N ∧ ∀ g, Ft B D tk g → ¬ Ft B2 D2 tk2 g
theorem PlayI.later {w0 wr wr' : World} {N P Q : Nat} (h : PlayI w0 wr N P Q) (hb : Below wr.heap.size wr wr') : PlayI w0 wr' N P Q := by
  obtain ⟨h1, B, D, tk, b, d, B2, D2, tk2, b2, d2, h2, h3, h4, h5, h6⟩ := h
  exact ⟨h1.trans (hb.mono h1.size), B, D, tk, b, d, B2, D2, tk2, b2, d2, h2.later hb, h3, h4.later hb, h5, h6⟩
theorem PlayI.mono {w0 wr : World} {N M P Q : Nat} (h : PlayI w0 wr N P Q) (hm : N ≤ M) : PlayI w0 wr M P Q := by
  obtain ⟨h1, B, D, tk, b, d, B2, D2, tk2, b2, d2, h2, h3, h4, h5, h6⟩ := h
  exact ⟨h1, B, D, tk, b, d, B2, D2, tk2, b2, d2, h2, h3.mono hm, h4, h5.mono hm, h6⟩
theorem PlayI.swap {w0 wr : World} {N P Q : Nat} (h : PlayI w0 wr N P Q) : PlayI w0 wr N Q P := by
  obtain ⟨h1, B, D, tk, b, d, B2, D2, tk2, b2, d2, h2, h3, h4, h5, h6⟩ := h
  exact ⟨h1, B2, D2, tk2, b2, d2, B, D, tk, b, d, h4, h5, h2, h3, fun g q q' => h6 g q' q⟩
theorem Ft.lt {w : World} {base P B D g : Nat} {tk : Value} {b : Px.Bo} {d : Bx.Bo} (h : Duo w base P B D tk b d) (hg : Ft B D tk g) : g < w.heap.size := by
  rcases hg with rfl | rfl | q
  · exact h.tyB.lt
  · exact h.tyD.lt
  · exact (h.tyK q).1.lt
theorem PlayI.did {w0 wr wr' : World} {N M P Q B D B2 D2 : Nat} {tk tk2 : Value} {b b2 b' : Px.Bo} {d d2 d' : Bx.Bo} (h1 : Below w0.heap.size w0 wr) (h2 : Duo wr w0.heap.size P B D tk b d) (h4 : Duo wr w0.heap.size Q B2 D2 tk2 b2 d2) (h5 : Px.HMax d2 N) (h6 : ∀ g, Ft B D tk g → ¬ Ft B2 D2 tk2 g)
    (hd : Did wr wr' w0.heap.size P B D tk b' d') (hm : Px.HMax d' M) (hN : N ≤ M) : PlayI w0 wr' M P Q := by
  obtain ⟨tk', g1, g2, g3⟩ := hd
  have hne : ∀ e, e ≠ 67 → e ≠ 115 → e ≠ 172 → ∀ g, Ft B D tk g → ¬ Typed wr g e := fun e a b c => h2.ft e a b c
  refine ⟨h1.trans (g3.below h2.ftLo h1.size), B, D, tk', b', d', B2, D2, tk2, b2, d2, g1, hm, h4.kept g3 h6 (hne _ (by decide) (by decide) (by decide)) (hne _ (by decide) (by decide) (by decide)) (hne _ (by decide) (by decide) (by decide)) (hne _ (by decide) (by decide) (by decide)), h5.mono hN, ?_⟩
  rintro g (rfl | rfl | q) q2
  · exact h6 _ (Or.inl rfl) q2
  · exact h6 _ (Or.inr (Or.inl rfl)) q2
  · rcases g2 with e | e
    · exact h6 g (Or.inr (Or.inr (by rw [← e]; exact q))) q2
    · have := e g q; have := Ft.lt h4 q2; omega

/-- A script in memory. -/
def ScriptAt (w : World) (v : Value) (L : List (Int × Int × ByteArray)) : Prop := ∃ ad cap, v = .slice ad L.length cap ∧ L.length ≤ cap ∧ ∀ i (h : i < L.length), ∃ b off, ad = some ⟨b, off, none⟩ ∧
  w.cell? ⟨b, off + i * 3, none⟩ = some (.int .i64 L[i].1) ∧ w.cell? ⟨b, off + i * 3 + 1, none⟩ = some (.int .i64 L[i].2.1) ∧ w.cell? ⟨b, off + i * 3 + 2, none⟩ = some (.string L[i].2.2)
theorem ScriptAt.later {w w' : World} {v : Value} {L : List (Int × Int × ByteArray)} (h : ScriptAt w v L) (hb : Below w.heap.size w w') : ScriptAt w' v L := by
  obtain ⟨ad, cap, h1, h2, h3⟩ := h
  refine ⟨ad, cap, h1, h2, fun i hi => ?_⟩
  obtain ⟨b, off, e, c0, c1, c2⟩ := h3 i hi
  exact ⟨b, off, e, cell_later hb c0, cell_later hb c1, cell_later hb c2⟩
def inK (K : List Int) (k : Int) (j : Nat) : Bool := (K.take j).any fun x => x == k
theorem inK_succ {K : List Int} {k : Int} {j : Nat} (h : j < K.length) : inK K k (j + 1) = (inK K k j || (K[j] == k)) := by
  unfold inK; rw [List.take_succ_eq_append_getElem h, List.any_append]; simp
theorem inK_mem {K : List Int} {k : Int} (h : inK K k K.length = true) : k ∈ K := by
  unfold inK at h
  rw [List.take_length, List.any_eq_true] at h
  obtain ⟨x, h1, h2⟩ := h
  have : x = k := by simpa using h2
  rw [← this]; exact h1
/-- How much may have been heard. -/
def hm (K : List Int) (i : Nat) : Nat := if 5 ∈ K then 40 * i else 0
theorem hm_step {K : List Int} {k : Int} (hk : k ∈ K) (i : Nat) : (if k = 5 then hm K i + 40 else hm K i) ≤ hm K (i + 1) := by
  unfold hm
  by_cases h : k = 5
  · subst h; rw [if_pos rfl, if_pos hk, if_pos hk]; omega
  · rw [if_neg h]; split <;> omega
theorem hm_mono {K : List Int} (i : Nat) : hm K i ≤ hm K (i + 1) := by unfold hm; split <;> omega

set_option maxRecDepth 10000 in
set_option maxHeartbeats 4000000 in
theorem lplays_any (l r : Int) (L : List (Int × Int × ByteArray)) (K : List Int) (sv kv : Value) (w : World) (hT : TabLH w) (hM : Tab w) (hS : ScriptAt w sv L) (hK : RowAt w kv K.length (K.map (Value.int .i64)))
    (hKl : K.length ≤ 100) (hLl : L.length ≤ 9223372036854775807) (hLs : ∀ x ∈ L, x.2.2.size ≤ maxLen) (hN : ∀ i, i ≤ L.length → hm K i ≤ 100000000000000000) (hKk : ∀ k ∈ K, ¬ k = 7 ∧ ¬ k = 13 ∧ ¬ k = 14) :
    Calls Tryz.prog 8 #[.int .i64 l, .int .i64 r, sv, kv] w fun e w' => e = .returned (.bool true) ∧ Below w.heap.size w w' := by
  obtain ⟨sad, scap, rfl, hsc, hSc⟩ := hS
  obtain ⟨kad, kcap, rfl, hkc⟩ := hK.form
  have HSc : Hid (ScriptAt w (.slice sad L.length scap) L) := ⟨sad, scap, rfl, hsc, hSc⟩
  have HK : Hid (RowAt w (.slice kad K.length kcap) K.length (K.map (Value.int .i64))) := hK
  have HT : Hid (TabLH w) := hT
  have HM : Hid (Tab w) := hM
  have HLs : Hid (∀ x ∈ L, x.2.2.size ≤ maxLen) := hLs
  have HN : Hid (∀ i, i ≤ L.length → hm K i ≤ 100000000000000000) := hN
  have HKk : Hid (∀ k ∈ K, ¬ k = 7 ∧ ¬ k = 13 ∧ ¬ k = 14) := hKk
  clear hK hT hM hLs hN hKk hSc
  cases hmay : mayB l r
  · go_enter Tryz.func8, Tryz.ntmps8
    go_wp2_with fail
    refine (lbegun_no l r _ hmay).mono ?_
    rintro e w1 ⟨rfl, rfl⟩
    clear hmay
    go_wp2_with fail
    go_ret
    exact ⟨rfl, Below.refl _ _⟩
  have hb := of_decide_eq_true hmay
  obtain ⟨l1, l2, r1, r2⟩ := hb
  have q1 : IntKind.i64.wrap (5 - l) = 5 - l := by rw [IntKind.wrap_i64]; omega
  have q2 : IntKind.i64.wrap (4600 - r) = 4600 - r := by rw [IntKind.wrap_i64]; omega
  have hmay2 : mayB (5 - l) (4600 - r) = true := decide_eq_true (by omega)
  have HMy : Hid (mayB l r = true ∧ mayB (5 - l) (4600 - r) = true) := ⟨hmay, hmay2⟩
  clear hmay hmay2
  go_enter Tryz.func8, Tryz.ntmps8
  go_wp2_with fail
  refine (lbegun_yes l r _ HMy.out.1).mono ?_
  rintro e w1 ⟨⟨P, B, D, rfl, hd1⟩, hb1⟩
  have HD1 : Hid (Duo w1 w.heap.size P B D nilV ⟨l, r, Px.first, ByteArray.empty⟩ ⟨l, r, Bx.first, ByteArray.empty, []⟩) := hd1
  have HB1 : Hid (Below w.heap.size w w1) := hb1
  clear hd1 hb1
  go_wp2_with fail
  refine (lbegun_yes (5 - l) (4600 - r) _ HMy.out.2).mono ?_
  rintro e w2 ⟨⟨Q, B2, D2, rfl, hd2⟩, hb2⟩
  have HI : Hid (PlayI w w2 (hm K 0) P Q) := by
    have hd1 := HD1.out.later hb2
    have hs1 := HB1.out.size
    have hd2' : Duo w2 w.heap.size Q B2 D2 nilV _ _ := ⟨hd2.p, hd2.x, hd2.y, hd2.rel, ⟨Nat.le_trans hs1 hd2.lo.1, Nat.le_trans hs1 hd2.lo.2.1, Nat.le_trans hs1 hd2.lo.2.2⟩⟩
    have hz : hm K 0 = 0 := by unfold hm; split <;> rfl
    refine ⟨HB1.out.trans (hb2.mono hs1), B, D, nilV, _, _, B2, D2, nilV, _, _, hd1, ?_, hd2', ?_, fun g q q2 => ?_⟩
    · intro t ht; simp at ht
    · intro t ht; simp at ht
    · have a1 := Ft.lt HD1.out q
      have a2 := hd2.ftLo g q2
      omega
  clear hd2 hb2 HD1 HB1 HMy q1 q2
  go_wp2_with fail
  go_loopw [9, 10, 11, 12] (fun p o q i wr => p = .pointer (some ⟨P, 0, none⟩) ∧ o = .bool true ∧ q = .pointer (some ⟨Q, 0, none⟩) ∧ ∃ k : Nat, k ≤ L.length ∧ i = .int .i64 k ∧ PlayI w wr (hm K k) P Q) (fun _ _ _ i _ => L.length - (intOf i).toNat)
  case atStart => exact ⟨rfl, rfl, rfl, 0, Nat.zero_le _, rfl, HI.out⟩
  case round =>
    obtain ⟨rfl, rfl, rfl, k, hk, rfl, hI⟩ := hrel
    have HIr : Hid (PlayI w wr (hm K k) P Q) := hI
    by_cases hlt : k < L.length
    · obtain ⟨b, off, rfl, c0, c1, c2⟩ : ∃ b off, sad = some ⟨b, off, none⟩ ∧ wr.cell? ⟨b, off + k * 3, none⟩ = some (.int .i64 L[k].1) ∧ wr.cell? ⟨b, off + k * 3 + 1, none⟩ = some (.int .i64 L[k].2.1) ∧ wr.cell? ⟨b, off + k * 3 + 2, none⟩ = some (.string L[k].2.2) := by
        obtain ⟨sad', scap', hv, _, h3⟩ := HSc.out.later hI.1
        cases hv
        exact h3 k hlt
      have HLk : Hid (L[k].2.2.size ≤ maxLen) := HLs.out _ (List.getElem_mem hlt)
      have b1 : (0 : Int) ≤ (k : Int) := by omega
      have b2 : (k : Int) < (L.length : Int) := by omega
      generalize L[k] = o at *
      obtain ⟨kd, n, s⟩ := o
      simp only at c0 c1 c2 HLk
      have hoA := OpIn.new wr kd n s
      have hbA := below_alloc wr (opO kd n s)
      have hI2 := hI.later hbA
      go_upto_region 11 with fail
      clear c0 c1 c2 hI
      generalize wr.alloc (opO kd n s) = W at *
      generalize wr.heap.size = oq at *
      have HIW : Hid (PlayI w W (hm K k) P Q) := hI2
      have HO : Hid (OpIn W oq kd n s) := hoA
      have HKW : Hid (RowAt W (.slice kad K.length kcap) K.length (K.map (Value.int .i64))) := HK.out.later hI2.1
      clear hI2 hoA hbA HIr
      go_wp2_with fail
      go_loopw [14, 15] (fun v j wq => ∃ m : Nat, m ≤ K.length ∧ j = .int .i64 m ∧ v = .bool (inK K kd m) ∧ Below W.heap.size W wq) (fun _ j _ => K.length - (intOf j).toNat)
      case atStart => exact ⟨0, Nat.zero_le _, rfl, rfl, Below.refl _ _⟩
      case round =>
        obtain ⟨m, hm', rfl, rfl, hbq⟩ := hrel
        by_cases hml : m < K.length
        · obtain ⟨kb, koff, kcap', hv, _, hkc'⟩ := (HKW.out.later hbq).some' (by omega)
          cases hv
          have k0 : wr.cell? ⟨kb, koff + m, none⟩ = some (.int .i64 K[m]) := by have := hkc' m (by simpa using hml); simpa using this
          have o0 := cell_later hbq HO.out.c0
          have b3 : (0 : Int) ≤ (m : Int) := by omega
          have b4 : (m : Int) < (K.length : Int) := by omega
          have HS2 : Hid (inK K kd (m + 1) = (inK K kd m || (K[m] == kd))) := inK_succ hml
          clear hkc'
          generalize K[m] = km at *
          cases hin : inK K kd m
          · have HS3 : Hid (inK K kd (m + 1) = (km == kd)) := by unfold Hid; rw [HS2.out, hin]; rfl
            clear hin HS2
            go_wp2_with fail
            go_quiet (fail)
            go_wp2_with fail
            go_roundw
            case rel => exact ⟨m + 1, by omega, by go_num, by rw [HS3.out], below_drewN hbq _⟩
            case measure => simp [intOf]; omega
          · have HS3 : Hid (inK K kd (m + 1) = true) := by unfold Hid; rw [HS2.out, hin]; rfl
            clear hin HS2
            go_wp2_with fail
            go_quiet (fail)
            go_wp2_with fail
            go_roundw
            case rel => exact ⟨m + 1, by omega, by go_num, by rw [HS3.out], below_drewN hbq _⟩
            case measure => simp [intOf]; omega
        · obtain rfl : m = K.length := by omega
          have HIq : Hid (PlayI w wr (hm K k) P Q) := HIW.out.later hbq
          obtain ⟨o0, o1, o2, _⟩ := (⟨cell_later hbq HO.out.c0, cell_later hbq HO.out.c1, cell_later hbq HO.out.c2, trivial⟩ : _ ∧ _ ∧ _ ∧ True)
          have hoq : oq < wr.heap.size := World.block_lt_of_cell? _ _ o0
          cases hin : inK K kd K.length
          · clear hin hbq
            go_wp2_with fail
            go_roundw
            case rel => exact ⟨rfl, rfl, rfl, k + 1, by omega, by go_num, HIq.out.mono (hm_mono k)⟩
            case measure => simp [intOf]; omega
          · have hmem := inK_mem hin
            obtain ⟨n7, n13, n14⟩ := HKk.out kd hmem
            have HStep := hm_step hmem k
            have HSt : Hid ((if kd = 5 then hm K k + 40 else hm K k) ≤ hm K (k + 1)) := HStep
            have HMem : Hid (kd ∈ K) := hmem
            clear hin hbq HStep hmem
            have hIq := HIq.out
            obtain ⟨g1, B, D, tk, b, d, B2, D2, tk2, b2, d2, g2, g3, g4, g5, g6⟩ := hIq
            have HG : Hid (Below w.heap.size w wr ∧ Duo wr w.heap.size P B D tk b d ∧ Px.HMax d (hm K k) ∧ Duo wr w.heap.size Q B2 D2 tk2 b2 d2 ∧ Px.HMax d2 (hm K k) ∧ ∀ g, Ft B D tk g → ¬ Ft B2 D2 tk2 g) := ⟨g1, g2, g3, g4, g5, g6⟩
            clear g1 g2 g3 g4 g5 g6
            go_wp2_with fail
            refine (lstep_any wr w.heap.size P B D tk b d kd n s (hm K k) (HN.out k (by omega)) HG.out.2.2.1 HLk.out (HT.out.later HG.out.1) (HM.out.later HG.out.1) n7 HG.out.2.1).mono ?_
            rintro e w5 ⟨rfl, b', d', hdd, hmx⟩
            have HI5 : Hid (PlayI w w5 (hm K (k + 1)) P Q) := PlayI.did HG.out.1 HG.out.2.1 HG.out.2.2.2.1 HG.out.2.2.2.2.1 HG.out.2.2.2.2.2 hdd (hmx.mono HSt.out) (hm_mono k)
            clear hdd hmx o0 o1 o2
            go_wp2_with fail
            go_roundw
            case rel => exact ⟨rfl, rfl, rfl, k + 1, by omega, by go_num, HI5.out⟩
            case measure => simp [intOf]; omega
    · obtain rfl : k = L.length := by omega
      obtain ⟨g1, B, D, tk, b, d, B2, D2, tk2, b2, d2, g2, g3, g4, g5, g6⟩ := hI
      have HG : Hid (Below w.heap.size w wr ∧ Duo wr w.heap.size P B D tk b d ∧ Duo wr w.heap.size Q B2 D2 tk2 b2 d2) := ⟨g1, g2, g4⟩
      clear g1 g2 g3 g4 g5 g6
      go_wp2_with fail
      refine (lall_any _ _ P B D tk b d HG.out.2.1).mono ?_
      rintro e w5 ⟨rfl, hb5⟩
      have HB5 : Hid (Below w.heap.size w w5) := HG.out.1.trans (hb5.mono HG.out.1.size)
      have HD5 : Hid (Duo w5 w.heap.size Q B2 D2 tk2 b2 d2) := HG.out.2.2.later hb5
      clear hb5
      go_wp2_with fail
      refine (lall_any _ _ Q B2 D2 tk2 b2 d2 HD5.out).mono ?_
      rintro e w6 ⟨rfl, hb6⟩
      have HB6 : Hid (Below w.heap.size w w6) := HB5.out.trans (hb6.mono HB5.out.size)
      clear hb6
      go_wp2_with fail
      go_ret
      exact ⟨rfl, HB6.out⟩
end Go.Proofs.YtdajolpoiffimaaGreatDoor

namespace Go.Proofs.YtdajolpoiffimaaGreatDoor
open Go.RowKit Go.ChangeShapes Go.WideShapes Go.Deep

theorem row_new (w : World) (K : List Int) (t : TypeId) : RowAt (w.alloc (.cells (K.map (Value.int .i64)).toArray t)) (.slice (some ⟨w.heap.size, 0, none⟩) K.length K.length) K.length (K.map (Value.int .i64)) := by
  refine Or.inr ⟨w.heap.size, 0, K.length, rfl, Nat.le_refl _, fun j hj => ?_⟩
  have hb : (w.alloc (.cells (K.map (Value.int .i64)).toArray t)).heap[w.heap.size]? = some (.cells (K.map (Value.int .i64)).toArray t (0, 0)) := by show (w.heap.push (.cells (K.map (Value.int .i64)).toArray t))[w.heap.size]? = _; simp
  rw [cell_of_row _ _ _ (K.map (Value.int .i64)).toArray t (0, 0) hb]
  have hj' : j < K.length := by simpa using hj
  simp [hj']
set_option maxHeartbeats 1000000 in
theorem lticks_any (l r : Int) (L : List (Int × Int × ByteArray)) (sv : Value) (w : World) (hT : TabLH w) (hM : Tab w) (hS : ScriptAt w sv L) (hLl : L.length ≤ 9223372036854775807) (hLs : ∀ x ∈ L, x.2.2.size ≤ maxLen) :
    Calls Tryz.prog 3 #[.int .i64 l, .int .i64 r, sv] w fun e w' => e = .returned (.bool true) ∧ Below w.heap.size w w' := by
  have hb := below_alloc w (.cells ([1, 2, 3, 8, 9, 10, 11, 12].map (Value.int .i64)).toArray 3)
  have HB : Hid (Below w.heap.size w (w.alloc (.cells ([1, 2, 3, 8, 9, 10, 11, 12].map (Value.int .i64)).toArray 3))) := hb
  have HC : Hid (∀ kv, kv = .slice (some ⟨w.heap.size, 0, none⟩) 8 8 → Calls Tryz.prog 8 #[.int .i64 l, .int .i64 r, sv, kv] (w.alloc (.cells ([1, 2, 3, 8, 9, 10, 11, 12].map (Value.int .i64)).toArray 3)) fun e w' => e = .returned (.bool true) ∧ Below (w.alloc (.cells ([1, 2, 3, 8, 9, 10, 11, 12].map (Value.int .i64)).toArray 3)).heap.size (w.alloc (.cells ([1, 2, 3, 8, 9, 10, 11, 12].map (Value.int .i64)).toArray 3)) w') := by
    rintro kv rfl
    exact lplays_any l r L [1, 2, 3, 8, 9, 10, 11, 12] sv _ _ (hT.later hb) (hM.later hb) (hS.later hb) (row_new w [1, 2, 3, 8, 9, 10, 11, 12] 3) (by decide) hLl hLs (fun i _ => by simp [hm]) (by decide)
  obtain ⟨ad, cap, rfl, _, _⟩ := hS
  clear hb hT hM hLs
  go_enter Tryz.func3, Tryz.ntmps3
  go_wp2_with fail
  refine (HC.out _ rfl).mono ?_
  rintro e w1 ⟨rfl, hb1⟩
  have HF : Hid (Below w.heap.size w w1) := HB.out.trans (hb1.mono HB.out.size)
  clear hb1
  go_wp2_with fail
  go_ret
  exact ⟨rfl, HF.out⟩
set_option maxHeartbeats 1000000 in
theorem ltalks_any (l r : Int) (L : List (Int × Int × ByteArray)) (sv : Value) (w : World) (hT : TabLH w) (hM : Tab w) (hS : ScriptAt w sv L) (hLl : L.length ≤ 1048576) (hLs : ∀ x ∈ L, x.2.2.size ≤ maxLen) :
    Calls Tryz.prog 4 #[.int .i64 l, .int .i64 r, sv] w fun e w' => e = .returned (.bool true) ∧ Below w.heap.size w w' := by
  have hb := below_alloc w (.cells ([1, 2, 3, 4, 5, 6, 8, 9, 10, 11, 12].map (Value.int .i64)).toArray 3)
  have HB : Hid (Below w.heap.size w (w.alloc (.cells ([1, 2, 3, 4, 5, 6, 8, 9, 10, 11, 12].map (Value.int .i64)).toArray 3))) := hb
  have HC : Hid (∀ kv, kv = .slice (some ⟨w.heap.size, 0, none⟩) 11 11 → Calls Tryz.prog 8 #[.int .i64 l, .int .i64 r, sv, kv] (w.alloc (.cells ([1, 2, 3, 4, 5, 6, 8, 9, 10, 11, 12].map (Value.int .i64)).toArray 3)) fun e w' => e = .returned (.bool true) ∧ Below (w.alloc (.cells ([1, 2, 3, 4, 5, 6, 8, 9, 10, 11, 12].map (Value.int .i64)).toArray 3)).heap.size (w.alloc (.cells ([1, 2, 3, 4, 5, 6, 8, 9, 10, 11, 12].map (Value.int .i64)).toArray 3)) w') := by
    rintro kv rfl
    exact lplays_any l r L [1, 2, 3, 4, 5, 6, 8, 9, 10, 11, 12] sv _ _ (hT.later hb) (hM.later hb) (hS.later hb) (row_new w [1, 2, 3, 4, 5, 6, 8, 9, 10, 11, 12] 3) (by decide) (by omega) hLs (fun i hi => by simp [hm]; omega) (by decide)
  obtain ⟨ad, cap, rfl, _, _⟩ := hS
  clear hb hT hM hLs
  go_enter Tryz.func4, Tryz.ntmps4
  go_wp2_with fail
  refine (HC.out _ rfl).mono ?_
  rintro e w1 ⟨rfl, hb1⟩
  have HF : Hid (Below w.heap.size w w1) := HB.out.trans (hb1.mono HB.out.size)
  clear hb1
  go_wp2_with fail
  go_ret
  exact ⟨rfl, HF.out⟩

set_option maxRecDepth 100000 in
theorem opT : ∃ f0 f1 f2 : Field, Tryz.prog.underlying 52 = some (.struct #[f0, f1, f2]) ∧ f0.offset = 0 ∧ f1.offset = 1 ∧ f2.offset = 2 ∧ f0.type = 3 ∧ f1.type = 3 ∧ f2.type = 9 := ⟨_, _, _, Tryz.underlying52, rfl, rfl, rfl, rfl, rfl, rfl⟩
theorem opCells : Tryz.prog.cellsOf 52 = 3 := by kernel_rfl
theorem intCells : Tryz.prog.cellsOf 3 = 1 := by kernel_rfl
theorem strCells : Tryz.prog.cellsOf 9 = 1 := by kernel_rfl
set_option maxRecDepth 100000 in
/-- A script that is handed over. -/
theorem open_script {H : Type} {enc : TypeId × Value → H} {W : World} {r : Reach} {b0 : Nat} {v : Value} {d : DataW H} {ps : List MemPlace} (hval : Value.okWide Tryz.prog W r b0 22 v) (hd : DataW.Trod enc Tryz.prog W 0 (fun _ => true) true 22 v d ps) :
    ∃ L, ScriptAt W v L ∧ (∀ x ∈ L, x.2.2.size ≤ maxLen) ∧ L.length ≤ maxLen ∧ ((d = .nil ∧ L = []) ∨ ∃ elems spare, d = .slice elems spare ∧ elems.length = L.length) := by
  obtain ⟨a0, n0, c0, rfl⟩ := okWide_slice Tryz.underlying22 hval
  obtain ⟨fuel, hf⟩ := hd
  have hf' : DataW.trod enc Tryz.prog W 0 (fun _ => true) true fuel 22 [.slice a0 n0 c0] = some (d, ps) := by simpa [Value.cells] using hf
  obtain ⟨f0, f1, f2, he, o0, o1, o2, t0, t1, t2⟩ := opT
  rcases open_slice Tryz.underlying22 hf' with ⟨h1, h2⟩ | ⟨a, len, cap, m, n, D, Pl, h1, hb, hl, hm, hmm, h2, hx⟩
  · simp at h1
    obtain ⟨rfl, rfl, rfl⟩ := h1
    simp only [Prod.mk.injEq] at h2
    exact ⟨[], ⟨none, 0, rfl, Nat.le_refl _, fun i h => absurd h (by simp)⟩, by simp, by simp, Or.inl ⟨h2.1, rfl⟩⟩
  · simp at h1
    obtain ⟨rfl, rfl, rfl⟩ := h1
    simp only [Prod.mk.injEq] at h2
    have hmc : m = c0 := by rw [hmm]; simp
    have each : ∀ i, i < n0 → ∃ q : Int × Int × ByteArray, W.cell? (a.add (i * 3)) = some (.int .i64 q.1) ∧ W.cell? (a.add (i * 3 + 1)) = some (.int .i64 q.2.1) ∧ W.cell? (a.add (i * 3 + 2)) = some (.string q.2.2) ∧ q.2.2.size ≤ maxLen := by
      intro i hi
      obtain ⟨cs', g1, g2⟩ := hx i (by omega)
      rw [opCells] at g1
      obtain ⟨_, hlen, hcell⟩ := World.cells?_some g1
      obtain ⟨xs, k, hk, hxy, _, hxl, hfd⟩ := DataW.trod_struct he g2
      match xs, hxl, cs', hlen with
      | [y0, y1, y2], _, [v0, v1, v2], _ =>
        have k0 := hfd 0 f0 rfl
        have k1 := hfd 1 f1 rfl
        have k2 := hfd 2 f2 rfl
        simp [o0, o1, o2, t0, t1, t2, intCells, strCells] at k0 k1 k2
        have e0 := hcell 0 (by omega)
        have e1 := hcell 1 (by omega)
        have e2 := hcell 2 (by omega)
        rw [add_add] at e0 e1 e2
        obtain ⟨z0, q0, _, _⟩ := DataW.trod_int Tryz.underlying3 k0
        obtain ⟨z1, q1, _, _⟩ := DataW.trod_int Tryz.underlying3 k1
        obtain ⟨z2, q2, _, q3⟩ := DataW.trod_string Tryz.underlying9 k2
        simp at q0 q1 q2
        subst q0 q1 q2
        exact ⟨(z0, z1, z2), by simpa using e0, by simpa using e1, by simpa using e2, q3⟩
    obtain ⟨q, hq⟩ := choose_lt each
    refine ⟨(List.range n0).map q, ⟨some a, c0, by simp, by simpa using hl, fun i hi => ?_⟩, ?_, by simp; omega, Or.inr ⟨_, _, h2.1, by simp⟩⟩
    · have hi' : i < n0 := by simpa using hi
      obtain ⟨e0, e1, e2, _⟩ := hq i hi'
      have z0 := (hq 0 (by omega)).1
      obtain ⟨ab, ao, asp⟩ := a
      have hsp : asp = none := by
        cases asp with
        | none => rfl
        | some z =>
          exfalso
          simp only [World.cell?, Addr.add] at z0
          split at z0
          · simp at z0
          · cases z0
      subst hsp
      refine ⟨ab, ao, rfl, ?_⟩
      simp only [List.getElem_map, List.getElem_range]
      rw [add_plain] at e0 e1 e2
      exact ⟨e0, e1, e2⟩
    · intro x hx'
      obtain ⟨i, hi, rfl⟩ := List.mem_map.1 hx'
      exact (hq i (List.mem_range.1 hi)).2.2.2
end Go.Proofs.YtdajolpoiffimaaGreatDoor
