/-
  PrgLate, PrgArr, PrgLoad, PrgCancel, PrgWClk, PrgCTalk, PrgFeed, PrgBStart, PrgTick, PrgX.
-/
import Derived.Deep.RegionHeld3
import Derived.Deep.DrawnRows
import Derived.Deep.RegionWith
import Derived.Test.YtdajolpoiffimabDoorG2
import Derived.Test.YtdajolpoiffimabDoorG3
import Derived.Test.YtdajolpoiffimabDoorG4
import Derived.Test.YtdajolpoiffimabDoorG6
import Derived.Test.YtdajolpoiffimabDoorG7

namespace Go.Proofs.YtdajolpoiffimabDoor
open Go.RowKit

/-- A block that holds just these cells. -/
def BlkAt (w : World) (q : Nat) (cs : Array Value) (e : TypeId) : Prop := w.heap[q]? = some (.cells cs e (0, 0))
theorem BlkAt.lt {w : World} {q : Nat} {cs : Array Value} {e : TypeId} (h : BlkAt w q cs e) : q < w.heap.size := heap_lt h
theorem BlkAt.new (w : World) (cs : Array Value) (e : TypeId) : BlkAt (w.alloc (.cells cs e)) w.heap.size cs e := by unfold BlkAt; show (w.heap.push _)[w.heap.size]? = _; simp
theorem BlkAt.later {w w' : World} {q : Nat} {cs : Array Value} {e : TypeId} (h : BlkAt w q cs e) (hb : Below w.heap.size w w') : BlkAt w' q cs e := (hb.block q h.lt).trans h
theorem BlkAt.cell {w : World} {q : Nat} {cs : Array Value} {e : TypeId} (h : BlkAt w q cs e) (i : Nat) (hi : i < cs.size) : w.cell? ⟨q, i, none⟩ = some cs[i] := by
  rw [cell_of_row _ _ i _ _ (0, 0) h]; simp [hi]
theorem BlkAt.grown {w w' : World} {q base size n : Nat} {cs : Array Value} {e e' : TypeId} {v : Value} {xs : List Value} (h : BlkAt w q cs e) (ho : w.ownsRow base e' size v n xs) (hg : w.grownBy w' v.ownBlock) (hne : e ≠ e') : BlkAt w' q cs e := by
  refine (hg.block q h.lt ?_).trans h
  intro eq
  rcases ho.2 with ⟨rfl, _⟩ | ⟨g, cap, cur, rfl, _, hg', _⟩
  · cases eq
  · have : q = g := by simpa [Value.ownBlock] using eq
    subst this
    rw [h] at hg'; cases hg'; exact hne rfl
theorem BlkAt.other {w : World} {q M : Nat} {cs : Array Value} {e : TypeId} (h : BlkAt w q cs e) (hne : q ≠ M) (j : Nat) (u : Value) : BlkAt (w.setCell ⟨M, j, none⟩ u) q cs e := (Below.heap_setCell _ _ _ _ hne).trans h
/-- A cell of a block that is not the row's is written. -/
theorem own_other {w : World} {M base size n : Nat} {e : TypeId} {f : Nat → Bool} {v : Value} {xs : List Value} (ho : w.ownsRow base e size v n xs) (h : MetAt w M f) (hne : e ≠ 135) (j : Nat) (u : Value) : (w.setCell ⟨M, j, none⟩ u).ownsRow base e size v n xs := by
  refine ⟨ho.1, ?_⟩
  rcases ho.2 with h2 | ⟨g, cap, cur, hv, hbase, hg, h3⟩
  · exact Or.inl h2
  · refine Or.inr ⟨g, cap, cur, hv, hbase, ?_, h3⟩
    have hgm : g ≠ M := by
      intro eq; subst eq
      unfold MetAt at h; rw [hg] at h; cases h; exact hne rfl
    exact (Below.heap_setCell _ _ _ _ hgm).trans hg
/-- What holds while the minutes are gone through. -/
structure LfIn (w wr : World) (v : Value) (out : List (Nat × Int)) (f : Nat → Bool) : Prop where
  own : wr.ownsRow w.heap.size 118 2 v out.length (out.reverse.flatMap arC)
  met : MetAt wr (w.heap.size + 1) f
  bel : Below w.heap.size w wr
theorem LfIn.later {w wr w' : World} {v : Value} {out : List (Nat × Int)} {f : Nat → Bool} (h : LfIn w wr v out f) (hb : Below wr.heap.size wr w') : LfIn w w' v out f :=
  ⟨own_below h.own hb, h.met.later hb, h.bel.trans (hb.mono h.bel.size)⟩
theorem LfIn.start (w : World) : LfIn w ((w.alloc (.cells #[] 118)).alloc (.cells #[.bool false, .bool false, .bool false, .bool false] 135)) (.slice (some ⟨w.heap.size, 0, none⟩) 0 0) [] (fun _ => false) := by
  have h := MetAt.new (w.alloc (.cells #[] 118))
  exact ⟨(own_empty w 118 2).alloc _, by simpa using h, (below_alloc w _).alloc (by simp) _⟩
theorem LfIn.met' {w wr : World} {v : Value} {out : List (Nat × Int)} {f : Nat → Bool} (h : LfIn w wr v out f) (i : Nat) (hi : i < 4) : LfIn w (wr.setCell ⟨w.heap.size + 1, i, none⟩ (.bool true)) v out (fun j => if j = i then true else f j) :=
  ⟨own_other h.own h.met (by decide) _ _, h.met.set i hi true, h.bel.setCell (by simp) _⟩
theorem LfIn.app {w wr w' : World} {v v' : Value} {out : List (Nat × Int)} {p : Nat × Int} {f : Nat → Bool} (h : LfIn w wr v out f) (hg : wr.grownBy w' v.ownBlock) (ho : w'.ownsRow w.heap.size 118 2 v' (out.length + 1) (out.reverse.flatMap arC ++ arC p)) : LfIn w w' v' (p :: out) f :=
  ⟨by simpa [List.flatMap_append] using ho, h.met.grown h.own hg, h.bel.grown hg h.bel.size (fun k e => (h.own.lt k e).1)⟩
theorem arC_new (w : World) (i : Nat) (t : Int) (e : TypeId) : ∀ j u, (arC (i, t))[j]? = some u → (w.alloc (.cells #[.int .i64 ((i : Int) + 1), .int .i64 t] e)).cell? ((⟨w.heap.size, 0, none⟩ : Addr).add j) = some u := by
  intro j u hj
  match j, hj with
  | 0, hj => simp [arC] at hj; subst hj; simp [Addr.add, go_sem]
  | 1, hj => simp [arC] at hj; subst hj; simp [Addr.add, go_sem]
theorem lns_len (tab : ByteArray) : (Bx.lns tab).length = tn tab := by unfold Bx.lns; rw [List.length_map, Bx.linesOf_len]
theorem lns_at (tab : ByteArray) (k : Nat) (h : k < (Bx.lns tab).length) : (Bx.lns tab)[k] = lnOf (tl tab k) := by
  have h' : k < (Bx.linesOf tab).length := by rw [lns_len] at h; rw [Bx.linesOf_len]; exact h
  show ((Bx.linesOf tab).map lnOf)[k]'(by simpa using h') = _
  rw [List.getElem_map, Bx.linesOf_at tab k h']

theorem due_x (s : ByteArray) (bb cc : Nat → Nat) (ads : Option Addr) (ns caps : Nat) (y m d h i k : Int) (w : World) (x : Bool) (hx : x = dueB s m d h i k) (hs : s.size ≤ 300) (hP : LineP s) (hA : LineAt w s bb cc) (m1 : 0 ≤ m) (m2 : m ≤ 60) (d1 : 0 ≤ d) (d2 : d ≤ 60) (h1 : 0 ≤ h) (h2 : h ≤ 60) (i1 : 0 ≤ i) (i2 : i ≤ 60) (k1 : 0 ≤ k) (k2 : k ≤ 60) :
    Calls Tryd.prog 74 #[lineV s bb cc (.slice ads ns caps), dateV y m d h i k] w fun e w' => e = .returned (.bool x) ∧ Below w.heap.size w w' :=
  hx ▸ due_any s bb cc ads ns caps y m d h i k w hs hP hA m1 m2 d1 d2 h1 h2 i1 i2 k1 k2
theorem counts_x (l : ByteArray) (bb cc : Nat → Nat) (ads : Option Addr) (ns caps : Nat) (now later : Bool) (w : World) (z : Bool) (hz : z = Px.cntB (obt (pt l 5) 1) now later) :
    Calls Tryd.prog 75 #[lineV l bb cc (.slice ads ns caps), .bool now, .bool later] w fun e w' => e = .returned (.bool z) ∧ Below w.heap.size w w' := hz ▸ pcounts_any l bb cc ads ns caps now later w
set_option maxRecDepth 10000 in
set_option maxHeartbeats 8000000 in
theorem latestFirst_any (tab : ByteArray) (g c : Nat) (a m : Int) (w : World) (hC : ChkR tab 0 0) (a0 : 0 ≤ a) (ha : a ≤ m) (hm : m ≤ 4223371679) (hj : m - a ≤ 1500) (hM : Tab w) (hL : PLinesAt w g tab) :
    Calls Tryd.prog 58 #[.slice (some ⟨g, 0, none⟩) (tn tab) c, .int .i64 a, .int .i64 m] w fun e w' => (∃ v, e = .returned v ∧ w'.ownsRow w.heap.size 118 2 v (Bx.comes (Bx.lns tab) a m).length ((Bx.comes (Bx.lns tab) a m).reverse.flatMap arC)) ∧ Below w.heap.size w w' := by
  obtain ⟨i0, hinf, hz0, hz1, hz2⟩ := info_parts info_ar
  have HM : Hid (Tab w) := hM
  have HL : Hid (PLinesAt w g tab) := hL
  have h4 := tn_le hC
  obtain ⟨hs3, _, hP⟩ := hC.lines
  have HP : Hid (∀ j : Nat, j < tn tab → LineP (tl tab j)) := hP
  have hlen := lns_len tab
  have HLen : Hid ((Bx.lns tab).length = tn tab) := hlen
  have H0 : Hid (LfIn w _ _ [] (fun _ => false)) := LfIn.start w
  clear hM hL hC hP hlen
  go_enter Tryd.func58, Tryd.ntmps58
  go_wp2_with fail
  go_loopw [7, 9] (fun v x wr => ∃ (t : Int) (out : List (Nat × Int)) (f : Nat → Bool), a - 1 ≤ t ∧ t ≤ m ∧ x = .int .i64 t ∧ Px.From (Bx.lns tab) m t (tn tab) out ∧ (out.length : Int) ≤ (m - t) * 4 ∧ (∀ i (h : i < (Bx.lns tab).length), f i = Px.metB (Bx.lns tab)[i] m t) ∧ LfIn w wr v out f) (fun _ x _ => (intOf x + 1 - a).toNat)
  case atStart => exact ⟨m, [], _, by omega, Int.le_refl _, rfl, by rw [← HLen.out]; exact Px.From.start _ _, by simp, fun i h => (Px.met_start _ _).symm, H0.out⟩
  case round =>
    clear H0
    obtain ⟨t, out, f, t1, t2, rfl, hFr, hol, hmet, HI⟩ := hrel
    have HFr : Hid (Px.From (Bx.lns tab) m t (tn tab) out) := hFr
    have HMet : Hid (∀ i (h : i < (Bx.lns tab).length), f i = Px.metB (Bx.lns tab)[i] m t) := hmet
    clear hFr hmet
    by_cases hat : a ≤ t
    · have hTw : Hid (Tab wr) := HM.out.later HI.bel
      go_wp2_with fail
      refine (cdate_yes _ _ hTw.out (by omega) (by omega)).mono ?_
      rintro e w2 ⟨⟨y, mo, d, HD, rfl⟩, hb2⟩
      have hdue : Hid (∀ s, dueB s mo d (t % 1440 / 60) (t % 60) ((t / 1440 + 4) % 7) = dueT s t) := fun s => dueT_of HD
      have bm : 0 ≤ mo ∧ mo ≤ 60 := by have := HD.m1; have := HD.m2; omega
      have bd : 0 ≤ d ∧ d ≤ 60 := by have := HD.d1; have := HD.d2; have := Cal.dim_lo y mo; omega
      have HI3 := (HI.later hb2).later (below_alloc w2 (.cells #[.int .i64 y, .int .i64 mo, .int .i64 d, .int .i64 (t % 1440 / 60), .int .i64 (t % 60), .int .i64 ((t / 1440 + 4) % 7)] 137))
      have hBk := BlkAt.new w2 #[.int .i64 y, .int .i64 mo, .int .i64 d, .int .i64 (t % 1440 / 60), .int .i64 (t % 60), .int .i64 ((t / 1440 + 4) % 7)] 137
      have hMq : w.heap.size + 1 < w2.heap.size := Nat.lt_of_lt_of_le HI.met.lt hb2.size
      clear HI hb2 HD hTw
      go_upto_region 7 with fail
      generalize w2.alloc (.cells #[.int .i64 y, .int .i64 mo, .int .i64 d, .int .i64 (t % 1440 / 60), .int .i64 (t % 60), .int .i64 ((t / 1440 + 4) % 7)] 137) = W3 at *
      generalize w2.heap.size = dq at *
      have HI3' : Hid (LfIn w W3 _ out f) := HI3
      have HBk : Hid (BlkAt W3 dq #[.int .i64 y, .int .i64 mo, .int .i64 d, .int .i64 (t % 1440 / 60), .int .i64 (t % 60), .int .i64 ((t / 1440 + 4) % 7)] 137) := hBk
      clear HI3 hBk
      go_wp2_with fail
      go_loopw [7, 12] (fun v x wr2 => ∃ (i : Int) (out2 : List (Nat × Int)) (f2 : Nat → Bool), -1 ≤ i ∧ i < (tn tab : Int) ∧ x = .int .i64 i ∧ Px.From (Bx.lns tab) m t (i + 1).toNat out2 ∧ (out2.length : Int) ≤ (m - t) * 4 + ((tn tab : Int) - 1 - i) ∧ (∀ k (h : k < (Bx.lns tab).length), f2 k = if i < (k : Int) then Px.metB (Bx.lns tab)[k] m (t - 1) else Px.metB (Bx.lns tab)[k] m t) ∧ LfIn w wr2 v out2 f2 ∧ BlkAt wr2 dq #[.int .i64 y, .int .i64 mo, .int .i64 d, .int .i64 (t % 1440 / 60), .int .i64 (t % 60), .int .i64 ((t / 1440 + 4) % 7)] 137) (fun _ x _ => (intOf x + 1).toNat)
      case atStart =>
        refine ⟨(tn tab : Int) - 1, out, f, by omega, by omega, by go_num, ?_, by omega, fun k h => ?_, HI3'.out, HBk.out⟩
        · have : ((tn tab : Int) - 1 + 1).toNat = tn tab := by omega
          rw [this]; exact HFr.out
        · have := HLen.out
          rw [if_neg (by omega)]; exact HMet.out k h
      case round =>
        clear HFr HMet HI3' HBk
        obtain ⟨i, out2, f2, i1, i2, rfl, hFr2, hol2, hmet2, HI2, hBk2⟩ := hrel
        have HFr2 : Hid (Px.From (Bx.lns tab) m t (i + 1).toNat out2) := hFr2
        have HMet2 : Hid (∀ k (h : k < (Bx.lns tab).length), f2 k = if i < (k : Int) then Px.metB (Bx.lns tab)[k] m (t - 1) else Px.metB (Bx.lns tab)[k] m t) := hmet2
        have HBk2 : Hid (BlkAt wr dq #[.int .i64 y, .int .i64 mo, .int .i64 d, .int .i64 (t % 1440 / 60), .int .i64 (t % 60), .int .i64 ((t / 1440 + 4) % 7)] 137) := hBk2
        clear hFr2 hmet2 hBk2
        by_cases hi0 : 0 ≤ i
        · obtain ⟨k, rfl⟩ : ∃ k : Nat, i = (k : Int) := ⟨i.toNat, by omega⟩
          have hk : k < tn tab := by omega
          have hk4 : k < 4 := by omega
          have hkl : Hid (k < (Bx.lns tab).length) := by have := HLen.out; unfold Hid; omega
          obtain ⟨bb, cc, sv, hcl, hla, hsp⟩ := HL.out k hk
          obtain ⟨ads, caps, hvs⟩ : ∃ ad cap, sv = .slice ad (stps (tl tab k)).length cap := by
            obtain ⟨ad, cap, e, _⟩ := TRow.form hsp; exact ⟨ad, cap, e⟩
          subst hvs
          have L0 : wr.cell? ⟨g, k * 14, none⟩ = some (.bool (Txt.opn (pt (tl tab k) 0))) := cell_later HI2.bel ((hcl 0 (by decide)).trans rfl)
          have L1 : wr.cell? ⟨g, k * 14 + 1, none⟩ = some (.slice (some ⟨bb 0, 0, none⟩) (Txt.pcs 44 (pt (tl tab k) 0)).length (cc 0)) := cell_later HI2.bel ((hcl 1 (by decide)).trans rfl)
          have L2 : wr.cell? ⟨g, k * 14 + 2, none⟩ = some (.bool (Txt.opn (pt (tl tab k) 1))) := cell_later HI2.bel ((hcl 2 (by decide)).trans rfl)
          have L3 : wr.cell? ⟨g, k * 14 + 3, none⟩ = some (.slice (some ⟨bb 1, 0, none⟩) (Txt.pcs 44 (pt (tl tab k) 1)).length (cc 1)) := cell_later HI2.bel ((hcl 3 (by decide)).trans rfl)
          have L4 : wr.cell? ⟨g, k * 14 + 4, none⟩ = some (.bool (Txt.opn (pt (tl tab k) 2))) := cell_later HI2.bel ((hcl 4 (by decide)).trans rfl)
          have L5 : wr.cell? ⟨g, k * 14 + 5, none⟩ = some (.slice (some ⟨bb 2, 0, none⟩) (Txt.pcs 44 (pt (tl tab k) 2)).length (cc 2)) := cell_later HI2.bel ((hcl 5 (by decide)).trans rfl)
          have L6 : wr.cell? ⟨g, k * 14 + 6, none⟩ = some (.bool (Txt.opn (pt (tl tab k) 3))) := cell_later HI2.bel ((hcl 6 (by decide)).trans rfl)
          have L7 : wr.cell? ⟨g, k * 14 + 7, none⟩ = some (.slice (some ⟨bb 3, 0, none⟩) (Txt.pcs 44 (pt (tl tab k) 3)).length (cc 3)) := cell_later HI2.bel ((hcl 7 (by decide)).trans rfl)
          have L8 : wr.cell? ⟨g, k * 14 + 8, none⟩ = some (.bool (Txt.opn (pt (tl tab k) 4))) := cell_later HI2.bel ((hcl 8 (by decide)).trans rfl)
          have L9 : wr.cell? ⟨g, k * 14 + 9, none⟩ = some (.slice (some ⟨bb 4, 0, none⟩) (Txt.pcs 44 (pt (tl tab k) 4)).length (cc 4)) := cell_later HI2.bel ((hcl 9 (by decide)).trans rfl)
          have L10 : wr.cell? ⟨g, k * 14 + 10, none⟩ = some (.bool (obt (pt (tl tab k) 5) 0 == 120)) := cell_later HI2.bel ((hcl 10 (by decide)).trans rfl)
          have L11 : wr.cell? ⟨g, k * 14 + 11, none⟩ = some (.int .u8 (obt (pt (tl tab k) 5) 1)) := cell_later HI2.bel ((hcl 11 (by decide)).trans rfl)
          have L12 : wr.cell? ⟨g, k * 14 + 12, none⟩ = some (.int .i64 (obt (pt (tl tab k) 5) 2 - 48)) := cell_later HI2.bel ((hcl 12 (by decide)).trans rfl)
          have L13 : wr.cell? ⟨g, k * 14 + 13, none⟩ = some (.slice ads (stps (tl tab k)).length caps) := cell_later HI2.bel ((hcl 13 (by decide)).trans rfl)
          have HLA : Hid (LineAt wr (tl tab k) bb cc) := hla.later HI2.bel
          have D0 : wr.cell? ⟨dq, 0, none⟩ = some (.int .i64 y) := HBk2.out.cell 0 (show 0 < 6 by decide)
          have D1 : wr.cell? ⟨dq, 1, none⟩ = some (.int .i64 mo) := HBk2.out.cell 1 (show 1 < 6 by decide)
          have D2 : wr.cell? ⟨dq, 2, none⟩ = some (.int .i64 d) := HBk2.out.cell 2 (show 2 < 6 by decide)
          have D3 : wr.cell? ⟨dq, 3, none⟩ = some (.int .i64 (t % 1440 / 60)) := HBk2.out.cell 3 (show 3 < 6 by decide)
          have D4 : wr.cell? ⟨dq, 4, none⟩ = some (.int .i64 (t % 60)) := HBk2.out.cell 4 (show 4 < 6 by decide)
          have D5 : wr.cell? ⟨dq, 5, none⟩ = some (.int .i64 ((t / 1440 + 4) % 7)) := HBk2.out.cell 5 (show 5 < 6 by decide)
          have hgl : g < wr.heap.size := World.block_lt_of_cell? _ _ L0
          have hdl : dq < wr.heap.size := HBk2.out.lt
          have hsz : Hid ((tl tab k).size ≤ 300) := tl_sz hs3 k (by have := tn_lt tab; omega)
          have b0 : (0 : Int) ≤ (k : Int) := by omega
          have b1 : (k : Int) < (tn tab : Int) := by omega
          have b5 : (k : Int) < 4 := by omega
          have b4 : decide ((4 : Int) ≤ (k : Int)) = false := decide_eq_false (by omega)
          have HLk : Hid ((Bx.lns tab)[k]'hkl.out = lnOf (tl tab k)) := lns_at tab k hkl.out
          obtain ⟨x, hx⟩ : ∃ x : Bool, x = dueB (tl tab k) mo d (t % 1440 / 60) (t % 60) ((t / 1440 + 4) % 7) := ⟨_, rfl⟩
          have HX : Hid (x = dueB (tl tab k) mo d (t % 1440 / 60) (t % 60) ((t / 1440 + 4) % 7)) := hx
          have HXd : Hid (((Bx.lns tab)[k]'hkl.out).due t = x) := by unfold Hid; rw [HLk.out, hx, hdue.out]; rfl
          have HI2' : Hid (LfIn w wr _ out2 f2) := HI2
          clear hcl hla hsp hx HI2
          go_wp2_with fail
          go_region_held3 (fun w' => ∀ b o, b < wr.heap.size → w'.cell? ⟨b, o, none⟩ = wr.cell? ⟨b, o, none⟩)
            ((intro b' o' h1; first | (exact hbC.cell (p := ⟨b', o', none⟩) h1) | rfl))
            ((go_at_call 74; refine (due_x (tl tab k) bb cc ads (stps (tl tab k)).length caps _ _ _ _ _ _ _ x HX.out hsz.out (HP.out k hk) ?hla bm.1 bm.2 bd.1 bd.2 (by omega) (by omega) (by omega) (by omega) (by omega) (by omega)).mono ?_; (case hla => exact HLA.out.later (Below.refl _ _).drew); rintro e w4 ⟨rfl, hb4⟩; have hbC : Below wr.heap.size wr w4 := (Below.refl _ _).drew.trans hb4))
          rename ∀ (b o : Nat), b < wr.heap.size → w4.cell? ⟨b, o, none⟩ = wr.cell? ⟨b, o, none⟩ => hSold
          clear hSold
          have HI4 := HI2'.out.later hbC
          have HBk4 := HBk2.out.later hbC
          have HFk : Hid (Px.From (Bx.lns tab) m t (k + 1) out2) := by
            have := HFr2.out
            rw [show ((k : Int) + 1).toNat = k + 1 by omega] at this; exact this
          have HMk : Hid (f2 k = Px.metB ((Bx.lns tab)[k]'hkl.out) m t) := by unfold Hid; rw [HMet2.out k hkl.out, if_neg (by omega)]
          have hk1 : ((k : Int) - 1 + 1).toNat = k := by omega
          cases x
          · have HFr3 : Hid (Px.From (Bx.lns tab) m t ((k : Int) - 1 + 1).toNat out2) := by unfold Hid; rw [hk1]; exact HFk.out.no hkl.out (Px.cnt_due HXd.out)
            have HMet3 : Hid (∀ j (h : j < (Bx.lns tab).length), f2 j = if (k : Int) - 1 < (j : Int) then Px.metB (Bx.lns tab)[j] m (t - 1) else Px.metB (Bx.lns tab)[j] m t) := by
              intro j h
              by_cases q : j = k
              · subst q; rw [if_pos (by omega), HMk.out, Px.met_no HXd.out]
              · rw [HMet2.out j h]
                by_cases q' : (k : Int) < (j : Int)
                · rw [if_pos q', if_pos (by omega)]
                · rw [if_neg q', if_neg (by omega)]
            clear L0 L1 L2 L3 L4 L5 L6 L7 L8 L9 L10 L11 L12 L13 D0 D1 D2 D3 D4 D5 hb4 hbC HI2' HBk2 HFr2 HMet2 HFk HMk HXd HLk
            go_wp2_with fail
            go_roundw
            case rel => exact ⟨(k : Int) - 1, out2, f2, by omega, by omega, by go_num, HFr3.out, by omega, HMet3.out, HI4, HBk4⟩
            case measure => simp [intOf]
          · have HMet3 : Hid (∀ j (h : j < (Bx.lns tab).length), (if j = k then true else f2 j) = if (k : Int) - 1 < (j : Int) then Px.metB (Bx.lns tab)[j] m (t - 1) else Px.metB (Bx.lns tab)[j] m t) := by
              intro j h
              by_cases q : j = k
              · subst q; rw [if_pos rfl, if_pos (by omega), Px.met_yes HXd.out t2]
              · rw [if_neg q, HMet2.out j h]
                by_cases q' : (k : Int) < (j : Int)
                · rw [if_pos q', if_pos (by omega)]
                · rw [if_neg q', if_neg (by omega)]
            obtain ⟨z, hz⟩ : ∃ z : Bool, z = Px.cntB (obt (pt (tl tab k) 5) 1) (t == m) (f2 k) := ⟨_, rfl⟩
            have HZ : Hid (z = Px.cntB (obt (pt (tl tab k) 5) 1) (t == m) (f2 k)) := hz
            have HCn : Hid (z = true ↔ Bx.Cnt ((Bx.lns tab)[k]'hkl.out) m t) := by
              have := Px.cnt_iff (m := m) HXd.out
              unfold Hid; rw [← this, hz, HMk.out]
              have e : ((Bx.lns tab)[k]'hkl.out).catch' = obt (pt (tl tab k) 5) 1 := by rw [HLk.out]; rfl
              rw [e]
            replace L0 := cell_later hbC L0
            replace L1 := cell_later hbC L1
            replace L2 := cell_later hbC L2
            replace L3 := cell_later hbC L3
            replace L4 := cell_later hbC L4
            replace L5 := cell_later hbC L5
            replace L6 := cell_later hbC L6
            replace L7 := cell_later hbC L7
            replace L8 := cell_later hbC L8
            replace L9 := cell_later hbC L9
            replace L10 := cell_later hbC L10
            replace L11 := cell_later hbC L11
            replace L12 := cell_later hbC L12
            replace L13 := cell_later hbC L13
            obtain ⟨mc, mf⟩ := HI4.met.cell k hk4
            have hgl4 : g < w4.heap.size := World.block_lt_of_cell? _ _ L0
            have hml4 : w.heap.size + 1 < w4.heap.size := HI4.met.lt
            have HI4' : Hid (LfIn w w4 _ out2 f2) := HI4
            have HBk4' : Hid (BlkAt w4 dq #[.int .i64 y, .int .i64 mo, .int .i64 d, .int .i64 (t % 1440 / 60), .int .i64 (t % 60), .int .i64 ((t / 1440 + 4) % 7)] 137) := HBk4
            clear D0 D1 D2 D3 D4 D5 hb4 hbC HI2' HBk2 HFr2 HMet2 HMk HXd HLk hz HI4 HBk4 HX HLA
            go_wp2_with fail
            go_region_held3 (fun w' => ∀ b o, b < w4.heap.size → w'.cell? ⟨b, o, none⟩ = w4.cell? ⟨b, o, none⟩)
              ((intro b' o' h1; first | (exact hbE.cell (p := ⟨b', o', none⟩) h1) | rfl))
              ((go_at_call 75; refine (counts_x (tl tab k) bb cc ads (stps (tl tab k)).length caps (t == m) (f2 k) _ z HZ.out).mono ?_; rintro e w5 ⟨rfl, hb5⟩; have hbE : Below w4.heap.size w4 w5 := (Below.refl _ _).drew.trans hb5))
            rename ∀ (b o : Nat), b < w4.heap.size → w5.cell? ⟨b, o, none⟩ = w4.cell? ⟨b, o, none⟩ => hSold
            clear hSold
            have HI5 := HI4'.out.later hbE
            have HBk5 := HBk4'.out.later hbE
            clear L0 L1 L2 L3 L4 L5 L6 L7 L8 L9 L10 L11 L12 L13 mc mf hb5 hbE HI4' HBk4' HZ
            cases z
            · have HFr3 : Hid (Px.From (Bx.lns tab) m t ((k : Int) - 1 + 1).toNat out2) := by unfold Hid; rw [hk1]; exact HFk.out.no hkl.out (fun h => by have := HCn.out.2 h; cases this)
              obtain ⟨mc, mf⟩ := HI5.met.cell k hk4
              have hml5 : w.heap.size + 1 < w5.heap.size := HI5.met.lt
              have HI6 := HI5.met' k hk4
              have HBk6 := HBk5.other (M := w.heap.size + 1) (by omega) k (.bool true)
              clear HI5 HBk5 HFk HCn
              go_wp2_with fail
              go_roundw
              case rel => exact ⟨(k : Int) - 1, out2, _, by omega, by omega, by go_num, HFr3.out, by omega, HMet3.out, HI6, HBk6⟩
              case measure => first | (simp [intOf]; done) | (simp [intOf]; omega)
            · have HFr3 : Hid (Px.From (Bx.lns tab) m t ((k : Int) - 1 + 1).toNat ((k, t) :: out2)) := by unfold Hid; rw [hk1]; exact HFk.out.yes hkl.out t2 (HCn.out.1 rfl)
              have HO5 : Hid (w5.ownsRow w.heap.size 118 2 _ out2.length (out2.reverse.flatMap arC)) := HI5.own
              have hs5 : Hid (w.heap.size ≤ w5.heap.size) := HI5.bel.size
              have hol3 : out2.length ≤ 10000 := by omega
              go_wp2_with (at_builtin; refine wpList_append_lies _ rfl (.tmp 58) (.tmp 63) 114 rfl w.heap.size 118 i0 (.agg #[.int .i64 0, .int .i64 0]) 2 16 Tryd.underlying114 hinf hz0 hz1 hz2 rfl (by decide) _ _ _ rfl (HO5.out.alloc _) ⟨w5.heap.size, 0, none⟩ 1 1 (arC (k, t)) rfl rfl (arC_new _ _ _ _) (arC_one _) (by decide) ?c3 ?c4 ?c5 _ rfl ?_)
              case c3 => unfold maxLen; omega
              case c4 => omega
              case c5 => have := hs5.out; simp; omega
              · intro g' cap' w6 hown' hgrow _ hlt'
                have HI6 := (HI5.later (below_alloc w5 (.cells #[.int .i64 ((k : Int) + 1), .int .i64 t] 118))).app (p := (k, t)) hgrow (by simpa using hown')
                have HBk6 := (HBk5.later (below_alloc w5 (.cells #[.int .i64 ((k : Int) + 1), .int .i64 t] 118))).grown (HO5.out.alloc _) hgrow (by decide)
                obtain ⟨mc, mf⟩ := HI6.met.cell k hk4
                have hml6 : w.heap.size + 1 < w6.heap.size := HI6.met.lt
                have HI7 := HI6.met' k hk4
                have HBk7 := HBk6.other (M := w.heap.size + 1) (by omega) k (.bool true)
                clear hown' hgrow HI5 HBk5 HI6 HBk6 HFk HCn HO5
                go_wp2_with fail
                go_roundw
                case rel => exact ⟨(k : Int) - 1, (k, t) :: out2, _, by omega, by omega, by go_num, HFr3.out, by simp; omega, HMet3.out, HI7, HBk7⟩
                case measure => first | (simp [intOf]; done) | (simp [intOf]; omega)
        · have hin : i = -1 := by omega
          have HFr3 : Hid (Px.From (Bx.lns tab) m (t - 1) (tn tab) out2) := by
            have := HFr2.out
            rw [show (i + 1).toNat = 0 by omega] at this
            have q := this.down
            rw [HLen.out] at q; exact q
          have HMet3 : Hid (∀ j (h : j < (Bx.lns tab).length), f2 j = Px.metB (Bx.lns tab)[j] m (t - 1)) := fun j h => by rw [HMet2.out j h, if_pos (by omega)]
          clear HFr2 HMet2 HBk2 hin
          go_wp2_with fail
          go_roundw
          case rel => exact ⟨t - 1, out2, f2, by omega, by omega, by go_num, HFr3.out, by omega, HMet3.out, HI2⟩
          case measure => first | (simp [intOf]; done) | (simp [intOf]; omega)
    · have HE : Hid (out = Bx.comes (Bx.lns tab) a m) := by
        have := HFr.out
        rw [show t = a - 1 by omega, ← HLen.out] at this
        exact this.done
      have HOw := HI.own
      rw [HE.out] at HOw
      have HBe : Hid (Below w.heap.size w wr) := HI.bel
      clear HI HFr HMet
      go_wp2_with fail
      go_ret
      exact ⟨⟨_, rfl, HOw⟩, HBe.out⟩
end Go.Proofs.YtdajolpoiffimabDoor

namespace Go.Proofs.YtdajolpoiffimabDoor
open Go.RowKit

/-- Behind the head of withArrival: the state, the arrival, the result's block. -/
structure ARes (w W : World) (s : Px.St) (sl en : Value) (p : Nat × Int) : Prop where
  st : PIn W w.heap.size s sl en
  a0 : W.cell? ⟨w.heap.size + 1, 0, none⟩ = some (.int .i64 ((p.1 : Int) + 1))
  a1 : W.cell? ⟨w.heap.size + 1, 1, none⟩ = some (.int .i64 p.2)
  z : ZCell W (w.heap.size + 2) 5
  ty : Typed W (w.heap.size + 2) 49
  bel : Below w.heap.size w W
  lt : w.heap.size + 2 < W.heap.size
theorem ARes.new (w : World) (s : Px.St) (sl en : Value) (p : Nat × Int) : ARes w (((w.alloc (pstO s sl en)).alloc (.cells #[.int .i64 ((p.1 : Int) + 1), .int .i64 p.2] 118)).alloc pzO) s sl en p := by
  have hZ := ZCell.new ((w.alloc (pstO s sl en)).alloc (.cells #[.int .i64 ((p.1 : Int) + 1), .int .i64 p.2] 118)) #[.string { data := #[] }, .int .i64 0, .int .i64 0, .slice none 0 0, .slice none 0 0] 49
  have hT := Typed.new ((w.alloc (pstO s sl en)).alloc (.cells #[.int .i64 ((p.1 : Int) + 1), .int .i64 p.2] 118)) #[.string { data := #[] }, .int .i64 0, .int .i64 0, .slice none 0 0, .slice none 0 0] 49
  refine ⟨((PIn.new w s sl en).later (below_alloc _ _)).later (below_alloc _ _), by simp [go_sem], by simp [go_sem], by simpa using hZ, by simpa using hT, ((below_alloc w _).alloc (by simp) _).alloc (by simp; omega) _, by simp⟩
theorem ARes.later {w W W' : World} {s : Px.St} {sl en : Value} {p : Nat × Int} (h : ARes w W s sl en p) (hb : Below W.heap.size W W') : ARes w W' s sl en p :=
  ⟨h.st.later hb, cell_later hb h.a0, cell_later hb h.a1, h.z.later h.lt hb, h.ty.later hb, h.bel.trans (hb.mono h.bel.size), Nat.lt_of_lt_of_le h.lt hb.size⟩
theorem ARes.set {w W : World} {s : Px.St} {sl en : Value} {p : Nat × Int} (h : ARes w W s sl en p) {q : Nat} (hq : w.heap.size + 2 < q) (j : Nat) (u : Value) : ARes w (W.setCell ⟨q, j, none⟩ u) s sl en p := by
  have oth : ∀ (a i : Nat), a ≤ w.heap.size + 2 → (W.setCell ⟨q, j, none⟩ u).cell? ⟨a, i, none⟩ = W.cell? ⟨a, i, none⟩ := fun a i ha => World.cell?_setCell_other _ _ _ _ (by first | (simp; done) | (simp; omega))
  obtain ⟨c0, c1, c2, c3, c4⟩ := h.st
  refine ⟨⟨?_, ?_, ?_, ?_, ?_⟩, ?_, ?_, fun i hi => ⟨?_, ?_⟩, h.ty.setCell _ _ _, h.bel.setCell (by first | (simp; done) | (simp; omega)) _, by have := h.lt; simpa [World.setCell] using this⟩
  · rw [oth _ _ (by omega)]; exact c0
  · rw [oth _ _ (by omega)]; exact c1
  · rw [oth _ _ (by omega)]; exact c2
  · rw [oth _ _ (by omega)]; exact c3
  · rw [oth _ _ (by omega)]; exact c4
  · rw [oth _ _ (by omega)]; exact h.a0
  · rw [oth _ _ (by omega)]; exact h.a1
  · obtain ⟨u', hu⟩ := (h.z i hi).1
    exact ⟨u', by rw [oth _ _ (by omega)]; exact hu⟩
  · rw [World.frozen?_setCell]; exact (h.z i hi).2
theorem arr_end' {s : Px.St} {p : Nat × Int} (h : 8 ≤ s.slots.length) : Px.arr s p = { { s with next := s.next + 1 } with ends := Bx.push s.ends ⟨s.next, ⟨#[115]⟩⟩ } := by
  unfold Px.arr; rw [if_pos h]; rfl
theorem arr_slot' {s : Px.St} {p : Nat × Int} (h : ¬ 8 ≤ s.slots.length) : Px.arr s p = { { s with next := s.next + 1 } with slots := s.slots ++ [Px.slotOf p s.next] } := by
  unfold Px.arr; rw [if_neg h]

set_option maxRecDepth 10000 in
set_option maxHeartbeats 4000000 in
theorem withArrival_any (s : Px.St) (p : Nat × Int) (sl en : Value) (w : World) (hl : s.slots.length ≤ 10000) (he : s.ends.length ≤ 10000) (n1 : 0 ≤ s.next) (n2 : s.next ≤ 100000) (hS : PAt w s sl en) :
    Calls Tryd.prog 59 #[pstV s sl en, .agg #[.int .i64 ((p.1 : Int) + 1), .int .i64 p.2]] w fun e w' => (∃ sl' en', e = .returned (pstV (Px.arr s p) sl' en') ∧ PAt w' (Px.arr s p) sl' en') ∧ Below w.heap.size w w' := by
  obtain ⟨ad, cap, rfl, hcap⟩ := hS.sl.form
  obtain ⟨ad2, cap2, rfl, hcap2⟩ := hS.en.form
  have HS : Hid (PAt w s (.slice ad s.slots.length cap) (.slice ad2 s.ends.length cap2)) := hS
  have hP := ARes.new w s (.slice ad s.slots.length cap) (.slice ad2 s.ends.length cap2) p
  clear hS
  go_enter Tryd.func59, Tryd.ntmps59
  go_upto_region 1 with fail
  generalize ((w.alloc (pstO s (.slice ad s.slots.length cap) (.slice ad2 s.ends.length cap2))).alloc (.cells #[.int .i64 ((p.1 : Int) + 1), .int .i64 p.2] 118)).alloc pzO = W at *
  have HSW : PAt W s (.slice ad s.slots.length cap) (.slice ad2 s.ends.length cap2) := HS.out.later hP.bel
  obtain ⟨i0, i1, i2, i3, i4⟩ := hP.st
  have hP2 := hP.later (below_alloc W (pstO s (.slice ad s.slots.length cap) (.slice ad2 s.ends.length cap2)))
  have HS2 := HSW.later (below_alloc W (pstO s (.slice ad s.slots.length cap) (.slice ad2 s.ends.length cap2)))
  have hA := PW.new W s (.slice ad s.slots.length cap) (.slice ad2 s.ends.length cap2)
  have hWq := hP.lt
  go_upto_region 3 with fail
  clear i0 i1 i2 i3 i4 hP HSW
  generalize W.alloc (pstO s (.slice ad s.slots.length cap) (.slice ad2 s.ends.length cap2)) = W2 at *
  generalize W.heap.size = q at *
  have a2 := hA.st.c2
  have g2 := hA.f 2 (by decide)
  have hq2 := hA.ty.lt
  have HP3 := hP2.set hWq 2 (.int .i64 (s.next + 1))
  have HA3 := hA.next (s.next + 1)
  have HS3 := HS2.set hA.ty (by decide) (by decide) 2 (.int .i64 (s.next + 1))
  clear hP2 HS2 hA
  go_upto_region 4 with fail
  clear a2 g2
  generalize W2.setCell ⟨q, 2, none⟩ (.int .i64 (s.next + 1)) = W3 at *
  have HPP3 : Hid (ARes w W3 s (.slice ad s.slots.length cap) (.slice ad2 s.ends.length cap2) p) := HP3
  have HAA3 : Hid (PW W3 q { s with next := s.next + 1 } (.slice ad s.slots.length cap) (.slice ad2 s.ends.length cap2)) := HA3
  have HSS3 : Hid (PAt W3 s (.slice ad s.slots.length cap) (.slice ad2 s.ends.length cap2)) := HS3
  obtain ⟨i0, i1, i2, i3, i4⟩ := HP3.st
  have b0 := HP3.a0
  have b1 := HP3.a1
  clear HP3 HA3 HS3
  by_cases h8 : 8 ≤ s.slots.length
  · have HM : Hid (Px.arr s p = { { s with next := s.next + 1 } with ends := Bx.push s.ends ⟨s.next, ⟨#[115]⟩⟩ }) := arr_end' h8
    go_wp2_with fail
    refine (pwithEnd_any s.ends ⟨s.next, ⟨#[115]⟩⟩ _ _ he HSS3.out.en.1).mono ?_
    rintro e w5 ⟨⟨v5, rfl, hown5⟩, hb5⟩
    clear i0 i1 i2 i3 i4 b0 b1
    obtain ⟨ad5, cap5, hv5, _⟩ := (RowAt.of_own hown5).form
    subst hv5
    have hA5 := HAA3.out.later hb5
    have a4 := hA5.st.c4
    have g4 := hA5.f 4 (by decide)
    have hq5 := hA5.ty.lt
    have HP6 := (HPP3.out.later hb5).set hWq 4 (.slice ad5 (Bx.push s.ends ⟨s.next, ⟨#[115]⟩⟩).length cap5)
    have HA6 := hA5.ends (Bx.push s.ends ⟨s.next, ⟨#[115]⟩⟩) (.slice ad5 (Bx.push s.ends ⟨s.next, ⟨#[115]⟩⟩).length cap5)
    have HO6 := ((HSS3.out.later hb5).set hA5.ty (by decide) (by decide) 4 (.slice ad5 (Bx.push s.ends ⟨s.next, ⟨#[115]⟩⟩).length cap5)).sl
    have HE6 := (TRow.of_own hown5).set hA5.ty (by decide) 4 (.slice ad5 (Bx.push s.ends ⟨s.next, ⟨#[115]⟩⟩).length cap5)
    clear hA5 hown5 hb5 HPP3 HAA3 HSS3
    go_upto_region 6 with fail
    clear a4 g4
    generalize w5.setCell ⟨q, 4, none⟩ (.slice ad5 (Bx.push s.ends ⟨s.next, ⟨#[115]⟩⟩).length cap5) = W6 at *
    have HPA : Hid (PAt W6 { { s with next := s.next + 1 } with ends := Bx.push s.ends ⟨s.next, ⟨#[115]⟩⟩ } (.slice ad s.slots.length cap) (.slice ad5 (Bx.push s.ends ⟨s.next, ⟨#[115]⟩⟩).length cap5)) := ⟨HO6, HE6⟩
    have HTy : Hid (Typed W6 (w.heap.size + 2) 49) := HP6.ty
    have HB : Hid (Below w.heap.size w W6) := HP6.bel
    obtain ⟨⟨u0, r0⟩, f0⟩ := HP6.z 0 (by decide)
    obtain ⟨⟨u1, r1⟩, f1⟩ := HP6.z 1 (by decide)
    obtain ⟨⟨u2, r2⟩, f2⟩ := HP6.z 2 (by decide)
    obtain ⟨⟨u3, r3⟩, f3⟩ := HP6.z 3 (by decide)
    obtain ⟨⟨u4, r4⟩, f4⟩ := HP6.z 4 (by decide)
    obtain ⟨c0, c1, c2, c3, c4⟩ := HA6.st
    clear HP6 HA6 HO6 HE6
    go_wp2_with fail
    refine bodyPost_ret (v := pstV { { s with next := s.next + 1 } with ends := Bx.push s.ends ⟨s.next, ⟨#[115]⟩⟩ } (.slice ad s.slots.length cap) (.slice ad5 (Bx.push s.ends ⟨s.next, ⟨#[115]⟩⟩).length cap5)) (by simp [results, Tryd.results59, go_sem, r0, r1, r2, r3, r4]) rfl ?_
    rw [HM.out]
    exact ⟨⟨_, _, rfl, HPA.out.store HTy.out _ _ _ _ _⟩, below_set5' HB.out (by omega) _ _ _ _ _⟩
  · have HM : Hid (Px.arr s p = { { s with next := s.next + 1 } with slots := s.slots ++ [Px.slotOf p s.next] }) := arr_slot' h8
    have hx3 : PsIn (W3.alloc (.cells #[.int .i64 s.next, .int .i64 ((p.1 : Int) + 1), .int .i64 p.2, .int .i64 1, .int .i64 p.2, .int .i64 0, .int .i64 0, .string { data := #[] }] 70)) W3.heap.size (Px.slotOf p s.next) := PsIn.new W3 (Px.slotOf p s.next)
    have HP4 := HPP3.out.later (below_alloc W3 (.cells #[.int .i64 s.next, .int .i64 ((p.1 : Int) + 1), .int .i64 p.2, .int .i64 1, .int .i64 p.2, .int .i64 0, .int .i64 0, .string { data := #[] }] 70))
    have HA4 := HAA3.out.later (below_alloc W3 (.cells #[.int .i64 s.next, .int .i64 ((p.1 : Int) + 1), .int .i64 p.2, .int .i64 1, .int .i64 p.2, .int .i64 0, .int .i64 0, .string { data := #[] }] 70))
    have HS4 := HSS3.out.later (below_alloc W3 (.cells #[.int .i64 s.next, .int .i64 ((p.1 : Int) + 1), .int .i64 p.2, .int .i64 1, .int .i64 p.2, .int .i64 0, .int .i64 0, .string { data := #[] }] 70))
    clear HPP3 HAA3 HSS3
    go_upto_region 8 with fail
    clear i0 i1 i2 i3 i4 b0 b1
    generalize W3.alloc (.cells #[.int .i64 s.next, .int .i64 ((p.1 : Int) + 1), .int .i64 p.2, .int .i64 1, .int .i64 p.2, .int .i64 0, .int .i64 0, .string { data := #[] }] 70) = W4 at *
    generalize W3.heap.size = sq at *
    generalize Px.slotOf p s.next = x at *
    have HPP4 : Hid (ARes w W4 s (.slice ad s.slots.length cap) (.slice ad2 s.ends.length cap2) p) := HP4
    have HAA4 : Hid (PW W4 q { s with next := s.next + 1 } (.slice ad s.slots.length cap) (.slice ad2 s.ends.length cap2)) := HA4
    have HSS4 : Hid (PAt W4 s (.slice ad s.slots.length cap) (.slice ad2 s.ends.length cap2)) := HS4
    obtain ⟨i0, i1, i2, i3, i4⟩ := HP4.st
    obtain ⟨x0, x1, x2, x3, x4, x5, x6, x7⟩ := hx3
    clear HP4 HA4 HS4
    go_wp2_with fail
    refine (pwithSlot_any s.slots x _ _ hl HSS4.out.sl.1).mono ?_
    rintro e w5 ⟨⟨v5, rfl, hown5⟩, hb5⟩
    clear i0 i1 i2 i3 i4 x0 x1 x2 x3 x4 x5 x6 x7
    obtain ⟨ad5, cap5, hv5, _⟩ := (RowAt.of_own hown5).form
    subst hv5
    have hA5 := HAA4.out.later hb5
    have a3 := hA5.st.c3
    have g3 := hA5.f 3 (by decide)
    have hq5 := hA5.ty.lt
    have HP6 := (HPP4.out.later hb5).set hWq 3 (.slice ad5 (s.slots ++ [x]).length cap5)
    have HA6 := hA5.slots (s.slots ++ [x]) (.slice ad5 (s.slots ++ [x]).length cap5)
    have HE6 := ((HSS4.out.later hb5).set hA5.ty (by decide) (by decide) 3 (.slice ad5 (s.slots ++ [x]).length cap5)).en
    have HO6 := (TRow.of_own hown5).set hA5.ty (by decide) 3 (.slice ad5 (s.slots ++ [x]).length cap5)
    clear hA5 hown5 hb5 HPP4 HAA4 HSS4
    generalize hnn : (s.slots ++ [x]).length = nn at *
    have HNN : Hid ((s.slots ++ [x]).length = nn) := hnn
    clear hnn
    go_upto_region 9 with fail
    clear a3 g3
    generalize w5.setCell ⟨q, 3, none⟩ (.slice ad5 nn cap5) = W6 at *
    have HPA : Hid (PAt W6 { { s with next := s.next + 1 } with slots := s.slots ++ [x] } (.slice ad5 nn cap5) (.slice ad2 s.ends.length cap2)) := ⟨by show TRow W6 _ _ (s.slots ++ [x]).length _; rw [HNN.out]; exact HO6, HE6⟩
    have HTy : Hid (Typed W6 (w.heap.size + 2) 49) := HP6.ty
    have HB : Hid (Below w.heap.size w W6) := HP6.bel
    obtain ⟨⟨u0, r0⟩, f0⟩ := HP6.z 0 (by decide)
    obtain ⟨⟨u1, r1⟩, f1⟩ := HP6.z 1 (by decide)
    obtain ⟨⟨u2, r2⟩, f2⟩ := HP6.z 2 (by decide)
    obtain ⟨⟨u3, r3⟩, f3⟩ := HP6.z 3 (by decide)
    obtain ⟨⟨u4, r4⟩, f4⟩ := HP6.z 4 (by decide)
    obtain ⟨c0, c1, c2, c3, c4⟩ := HA6.st
    clear HP6 HA6 HO6 HE6
    go_wp2_with fail
    refine bodyPost_ret (v := pstV { { s with next := s.next + 1 } with slots := s.slots ++ [x] } (.slice ad5 nn cap5) (.slice ad2 s.ends.length cap2)) (by simp [results, Tryd.results59, go_sem, r0, r1, r2, r3, r4]) rfl ?_
    rw [HM.out]
    exact ⟨⟨_, _, rfl, HPA.out.store HTy.out _ _ _ _ _⟩, below_set5' HB.out (by omega) _ _ _ _ _⟩
end Go.Proofs.YtdajolpoiffimabDoor

namespace Go.Proofs.YtdajolpoiffimabDoor
open Go.RowKit

/-- The box, whatever its slices are. -/
def PBx (w : World) (B : Nat) (b : Px.Bo) : Prop := ∃ sl en, PB w B b sl en
/-- What a method of the box does: it answers, the box is this one then, nothing else that was there is changed. -/
theorem frame_sz (c : Bx.Ch) (h : c.tab.size ≤ 300) : (Bx.frame (Bx.body c)).size ≤ 400 := by
  rw [Bx.frame_size]; have := Bx.body_size c; omega
inductive LoadA (b : Px.Bo) (B : Nat) (tab : ByteArray) (w : World) : Ending → World → Prop
  | mk (w' : World) (b' : Px.Bo) (a r : Int) (h : Px.LoadB b tab b' a r) (hB : PBx w' B b') (hg : w.grownBy w' (some B)) : LoadA b B tab w (.returned (.tuple #[.int .i64 a, .int .i64 r])) w'
end Go.Proofs.YtdajolpoiffimabDoor

namespace Go.Proofs.YtdajolpoiffimabDoor
open Go.RowKit

set_option maxRecDepth 10000 in
set_option maxHeartbeats 2000000 in
theorem withCancel_any (s : Px.St) (n : Int) (sl en : Value) (w : World) (hl : s.slots.length ≤ 10000) (he : s.ends.length ≤ 10000) (hS : PAt w s sl en) :
    Calls Tryd.prog 46 #[pstV s sl en, .int .i64 n] w fun e w' => ChgR (Px.cancelP s n) w' e ∧ Below w.heap.size w w' := by
  obtain ⟨ad, cap, rfl, hcap⟩ := hS.sl.form
  obtain ⟨ad2, cap2, rfl, hcap2⟩ := hS.en.form
  have HS : Hid (PAt w s (.slice ad s.slots.length cap) (.slice ad2 s.ends.length cap2)) := hS
  have hP := PRes.new w s (.slice ad s.slots.length cap) (.slice ad2 s.ends.length cap2)
  clear hS
  go_enter Tryd.func46, Tryd.ntmps46
  go_upto_region 1 with fail
  generalize (w.alloc (pstO s (.slice ad s.slots.length cap) (.slice ad2 s.ends.length cap2))).alloc pzO = W at *
  have HSW : Hid (PAt W s (.slice ad s.slots.length cap) (.slice ad2 s.ends.length cap2)) := HS.out.later hP.bel
  have HP : Hid (PRes w W s (.slice ad s.slots.length cap) (.slice ad2 s.ends.length cap2)) := hP
  obtain ⟨i0, i1, i2, i3, i4⟩ := hP.st
  clear hP
  go_wp2_with fail
  refine (pfind_any s n _ _ _ hl HSW.out).mono ?_
  rintro e w1 ⟨hF, hb1⟩
  clear i0 i1 i2 i3 i4
  have HP1 := HP.out.later hb1
  have HS1 := HSW.out.later hb1
  clear HP HSW hb1
  rcases hF with ⟨x, hf, rfl⟩ | ⟨hf, rfl⟩
  rotate_left
  · have HM : Hid (Px.cancelP s n = (Px.st0, 8)) := by unfold Hid Px.cancelP; rw [hf]
    clear hf
    generalize Px.sl0 = x at *
    have HPW2 := HP1.later (below_alloc w1 (psO x))
    clear HP1 HS1
    go_upto_region 2 with fail
    generalize w1.alloc (psO x) = W2 at *
    obtain ⟨⟨⟨u0, r0⟩, f0⟩, ⟨⟨u1, r1⟩, f1⟩, ⟨⟨u2, r2⟩, f2⟩, ⟨⟨u3, r3⟩, f3⟩, ⟨⟨u4, r4⟩, f4⟩⟩ := HPW2.five
    have HB2 : Hid (Below w.heap.size w W2) := HPW2.bel
    clear HPW2
    go_wp2_with fail
    refine bodyPost_ret (v := .tuple #[.agg #[.string { data := #[] }, .int .i64 0, .int .i64 0, .slice none 0 0, .slice none 0 0], .int .i64 8]) (by simp [results, Tryd.results46, go_sem, r0, r1, r2, r3, r4]) rfl ⟨ChgR.err HM.out, below_set5' HB2.out (by omega) _ _ _ _ _⟩
  have HFx : Hid (Px.find s.slots n = some x) := hf
  have HP2 := HP1.later (below_alloc w1 (psO x))
  have HS2 := HS1.later (below_alloc w1 (psO x))
  have hx2 := PsIn.new w1 x
  have hq1 : w1.heap.size < (w1.alloc (psO x)).heap.size := by simp
  have hq0 : w.heap.size + 1 < w1.heap.size := HP1.lt
  clear HP1 HS1 hf
  go_upto_region 2 with fail
  generalize w1.alloc (psO x) = W2 at *
  generalize w1.heap.size = xq at *
  have HPP2 : Hid (PRes w W2 s (.slice ad s.slots.length cap) (.slice ad2 s.ends.length cap2)) := HP2
  have HSS2 : Hid (PAt W2 s (.slice ad s.slots.length cap) (.slice ad2 s.ends.length cap2)) := HS2
  have HX2 : Hid (PsIn W2 xq x) := hx2
  obtain ⟨x0, x1, x2, x3, x4, x5, x6, x7⟩ := hx2
  clear HP2 HS2
  have HM : Hid (Px.cancelP s n = (Px.ended s x.num ⟨#[107]⟩, 0)) := by unfold Hid Px.cancelP; rw [HFx.out, hK_eq]
  obtain ⟨i0, i1, i2, i3, i4⟩ := HPP2.out.st
  go_wp2_with fail
  refine (ended_any s x.num ⟨#[107]⟩ _ _ _ hl he HSS2.out).mono ?_
  rintro e w4 ⟨⟨sl4, en4, rfl, hst4⟩, hb4⟩
  clear i0 i1 i2 i3 i4 x0 x1 x2 x3 x4 x5 x6 x7
  have HPw4 := HPP2.out.later hb4
  obtain ⟨ad4, cap4, hv4, _⟩ := hst4.sl.form
  obtain ⟨ad5, cap5, hv5, _⟩ := hst4.en.form
  subst hv4 hv5
  have H4 : Hid (PAt w4 (Px.ended s x.num ⟨#[107]⟩) (.slice ad4 (Px.ended s x.num ⟨#[107]⟩).slots.length cap4) (.slice ad5 (Px.ended s x.num ⟨#[107]⟩).ends.length cap5)) := hst4
  have HT4 : Hid (Typed w4 (w.heap.size + 1) 49) := HPw4.ty
  have HB4 : Hid (Below w.heap.size w w4) := HPw4.bel
  obtain ⟨⟨⟨u0, r0⟩, f0⟩, ⟨⟨u1, r1⟩, f1⟩, ⟨⟨u2, r2⟩, f2⟩, ⟨⟨u3, r3⟩, f3⟩, ⟨⟨u4, r4⟩, f4⟩⟩ := HPw4.five
  clear hst4 hb4 HPw4 HPP2 HSS2
  go_wp2_with fail
  refine bodyPost_ret (v := .tuple #[pstV (Px.ended s x.num ⟨#[107]⟩) (.slice ad4 (Px.ended s x.num ⟨#[107]⟩).slots.length cap4) (.slice ad5 (Px.ended s x.num ⟨#[107]⟩).ends.length cap5), .int .i64 0]) (by simp [results, Tryd.results46, go_sem, r0, r1, r2, r3, r4]) rfl ⟨ChgR.ok HM.out (H4.out.store HT4.out _ _ _ _ _), below_set5' HB4.out (by omega) _ _ _ _ _⟩

/-- An error, and the box then. -/
inductive AnsC (p : Px.Bo × Int) (B : Nat) (w : World) : Ending → World → Prop
  | mk (w' : World) (hB : PBx w' B p.1) (hg : w.grownBy w' (some B)) : AnsC p B w (.returned (.int .i64 p.2)) w'
theorem AnsC.of {p : Px.Bo × Int} {B : Nat} {w w' : World} {b : Px.Bo} {r : Int} (h : p = (b, r)) (hB : PBx w' B b) (hg : w.grownBy w' (some B)) : AnsC p B w (.returned (.int .i64 r)) w' := by
  subst h; exact AnsC.mk w' hB hg
theorem cancel_bd (s : Px.St) (n : Int) : (Px.cancelP s n).2 = 0 ∨ (Px.cancelP s n).2 = 8 := by
  unfold Px.cancelP
  cases Px.find s.slots n with
  | none => right; rfl
  | some x => left; rfl
theorem cancel_num {s : Px.St} (h : Px.Ok s) {n : Int} (h0 : (Px.cancelP s n).2 = 0) : 0 ≤ n ∧ n ≤ 100000 := by
  unfold Px.cancelP at h0
  cases q : Px.find s.slots n with
  | none => rw [q] at h0; cases h0
  | some x =>
    have hm := List.mem_of_find?_eq_some q
    have hnn : x.num = n := by simpa using List.find?_some q
    have := h.each hm; have : s.next ≤ 10000 := h.st.n2
    omega

end Go.Proofs.YtdajolpoiffimabDoor

namespace Go.Proofs.YtdajolpoiffimabDoor
open Go.RowKit

theorem drew_cell (w : World) (p : Addr) : w.drew.cell? p = w.cell? p := rfl
theorem parr_len {s : Px.St} (p : Nat × Int) (h : s.slots.length ≤ 8) (he : s.ends.length ≤ 6) : (Px.arr s p).slots.length ≤ 8 ∧ (Px.arr s p).ends.length ≤ 6 ∧ (Px.arr s p).next = s.next + 1 := by
  unfold Px.arr; split
  · exact ⟨h, by show (Bx.push _ _).length ≤ 6; simp [Bx.push]; omega, rfl⟩
  · exact ⟨by simp; omega, he, rfl⟩
theorem parrs_len (l : List (Nat × Int)) (s : Px.St) (h : s.slots.length ≤ 8) (he : s.ends.length ≤ 6) : (l.foldl Px.arr s).slots.length ≤ 8 ∧ (l.foldl Px.arr s).ends.length ≤ 6 ∧ (l.foldl Px.arr s).next = s.next + l.length := by
  induction l generalizing s with
  | nil => exact ⟨h, he, by simp⟩
  | cons p r ih =>
    obtain ⟨h1, h2, h3⟩ := parr_len p h he
    obtain ⟨i1, i2, i3⟩ := ih (Px.arr s p) h1 h2
    exact ⟨i1, i2, by rw [List.foldl_cons, i3, h3]; simp; omega⟩
theorem parrs_take (l : List (Nat × Int)) (s : Px.St) (k : Nat) (h : k < l.length) : (l.take (k + 1)).foldl Px.arr s = Px.arr ((l.take k).foldl Px.arr s) l[k] := by
  rw [List.take_succ_eq_append_getElem h, List.foldl_append]; rfl
theorem PW.put {W : World} {q : Nat} {s : Px.St} {sl en : Value} (h : PW W q s sl en) (t : Px.St) (sl' en' : Value) :
    PW (((((W.setCell ⟨q, 0, none⟩ (.string t.tab)).setCell ⟨q, 1, none⟩ (.int .i64 t.clock)).setCell ⟨q, 2, none⟩ (.int .i64 t.next)).setCell ⟨q, 3, none⟩ sl').setCell ⟨q, 4, none⟩ en') q t sl' en' := by
  obtain ⟨⟨c0, c1, c2, c3, c4⟩, f, ty⟩ := h
  refine ⟨⟨?_, ?_, ?_, ?_, ?_⟩, fun j hj => ?_, ((((ty.setCell _ _ _).setCell _ _ _).setCell _ _ _).setCell _ _ _).setCell _ _ _⟩
  case refine_6 => simp [go_sem, f j hj]
  all_goals simp [go_sem, c0, c1, c2, c3, c4]
/-- What holds while the arrivals are put in. -/
structure CkIn (w wr : World) (q : Nat) (s t : Px.St) (sl en slt ent v : Value) (n : Nat) (cells : List Value) : Prop where
  res : PRes w wr s sl en
  pw : PW wr q t slt ent
  at' : PAt wr t slt ent
  row : TRow wr 118 v n cells
theorem CkIn.later {w wr w' : World} {q : Nat} {s t : Px.St} {sl en slt ent v : Value} {n : Nat} {cells : List Value} (h : CkIn w wr q s t sl en slt ent v n cells) (hb : Below wr.heap.size wr w') : CkIn w w' q s t sl en slt ent v n cells :=
  ⟨h.res.later hb, h.pw.later hb, h.at'.later hb, h.row.later hb⟩
theorem CkIn.put {w wr : World} {q : Nat} {s t u : Px.St} {sl en slt ent slu enu v : Value} {n : Nat} {cells : List Value} (h : CkIn w wr q s t sl en slt ent v n cells) (hq : w.heap.size + 1 < q) (hu : PAt wr u slu enu) :
    CkIn w (((((wr.setCell ⟨q, 0, none⟩ (.string u.tab)).setCell ⟨q, 1, none⟩ (.int .i64 u.clock)).setCell ⟨q, 2, none⟩ (.int .i64 u.next)).setCell ⟨q, 3, none⟩ slu).setCell ⟨q, 4, none⟩ enu) q s u sl en slu enu v n cells := by
  refine ⟨((((h.res.set hq _ _).set hq _ _).set hq _ _).set hq _ _).set hq _ _, h.pw.put u slu enu, hu.store h.pw.ty _ _ _ _ _, ?_⟩
  have st : ∀ (w : World) (j : Nat) (x : Value), (Typed w q 49 ∧ TRow w 118 v n cells) → (Typed (w.setCell ⟨q, j, none⟩ x) q 49 ∧ TRow (w.setCell ⟨q, j, none⟩ x) 118 v n cells) := fun w j x h => ⟨h.1.setCell _ _ _, h.2.set h.1 (by decide) _ _⟩
  exact (st _ _ _ (st _ _ _ (st _ _ _ (st _ _ _ (st _ _ _ ⟨h.pw.ty, h.row⟩))))).2
theorem arC_at {w : World} {L : List (Nat × Int)} {b off : Nat} (c : ∀ j (h : j < (L.flatMap arC).length), w.cell? ⟨b, off + j, none⟩ = some (L.flatMap arC)[j]) (i : Nat) (hi : i < L.length) :
    w.cell? ⟨b, off + i * 2, none⟩ = some (.int .i64 ((L[i].1 : Int) + 1)) ∧ w.cell? ⟨b, off + i * 2 + 1, none⟩ = some (.int .i64 L[i].2) :=
  ⟨RowAt.cell arC_len c i hi 0 (by decide), RowAt.cell arC_len c i hi 1 (by decide)⟩

set_option maxRecDepth 10000 in
set_option maxHeartbeats 8000000 in
theorem withClock_any (s : Px.St) (m : Int) (sl en : Value) (w : World) (hO : Px.Ok s) (hT : TabLH w) (hM : Tab w) (hS : PAt w s sl en) :
    Calls Tryd.prog 42 #[pstV s sl en, .int .i64 m] w fun e w' => ChgR (Px.clockP s m) w' e ∧ Below w.heap.size w w' := by
  obtain ⟨ad, cap, rfl, hcap⟩ := hS.sl.form
  obtain ⟨ad2, cap2, rfl, hcap2⟩ := hS.en.form
  have HO : Hid (Px.Ok s) := hO
  have hc1 : -1 ≤ s.clock := hO.st.c1
  have hc2 : s.clock ≤ 4223371679 := hO.st.c2
  have hn1 : 1 ≤ s.next := hO.st.n1
  have hn2 : s.next ≤ 10000 := hO.st.n2
  have HCE := Px.clock_err' s m
  have HCE' : Hid _ := HCE
  have HS : Hid (PAt w s (.slice ad s.slots.length cap) (.slice ad2 s.ends.length cap2)) := hS
  have hP := PRes.new w s (.slice ad s.slots.length cap) (.slice ad2 s.ends.length cap2)
  clear hS hO HCE
  go_enter Tryd.func42, Tryd.ntmps42
  go_upto_region 1 with fail
  generalize (w.alloc (pstO s (.slice ad s.slots.length cap) (.slice ad2 s.ends.length cap2))).alloc pzO = W at *
  have HSW : Hid (PAt W s (.slice ad s.slots.length cap) (.slice ad2 s.ends.length cap2)) := HS.out.later hP.bel
  have HT : Hid (TabLH W) := hT.later hP.bel
  have HMM : Hid (Tab W) := hM.later hP.bel
  have HP : Hid (PRes w W s (.slice ad s.slots.length cap) (.slice ad2 s.ends.length cap2)) := hP
  obtain ⟨i0, i1, i2, i3, i4⟩ := hP.st
  clear hP hT hM
  by_cases h4 : m < 0 ∨ 4223371679 < m
  · have HM : Hid (Px.clockP s m = (Px.st0, 4)) := HCE'.out.1 h4
    have HPW := HP.out
    clear HP HSW HT HMM
    rcases h4 with h4 | h4
    · obtain ⟨⟨⟨u0, r0⟩, f0⟩, ⟨⟨u1, r1⟩, f1⟩, ⟨⟨u2, r2⟩, f2⟩, ⟨⟨u3, r3⟩, f3⟩, ⟨⟨u4, r4⟩, f4⟩⟩ := HPW.five
      have HB2 : Hid (Below w.heap.size w W) := HPW.bel
      clear HPW
      go_wp2_with fail
      refine bodyPost_ret (v := .tuple #[.agg #[.string { data := #[] }, .int .i64 0, .int .i64 0, .slice none 0 0, .slice none 0 0], .int .i64 4]) (by simp [results, Tryd.results42, go_sem, r0, r1, r2, r3, r4]) rfl ⟨ChgR.err HM.out, below_set5' HB2.out (by omega) _ _ _ _ _⟩
    · by_cases h5 : m < 0
      · omega
      · obtain ⟨⟨⟨u0, r0⟩, f0⟩, ⟨⟨u1, r1⟩, f1⟩, ⟨⟨u2, r2⟩, f2⟩, ⟨⟨u3, r3⟩, f3⟩, ⟨⟨u4, r4⟩, f4⟩⟩ := HPW.five
        have HB2 : Hid (Below w.heap.size w W) := HPW.bel
        clear HPW
        go_wp2_with fail
        refine bodyPost_ret (v := .tuple #[.agg #[.string { data := #[] }, .int .i64 0, .int .i64 0, .slice none 0 0, .slice none 0 0], .int .i64 4]) (by simp [results, Tryd.results42, go_sem, r0, r1, r2, r3, r4]) rfl ⟨ChgR.err HM.out, below_set5' HB2.out (by omega) _ _ _ _ _⟩
  have m1 : 0 ≤ m := by omega
  have m2 : m ≤ 4223371679 := by omega
  go_wp2_with fail
  refine (pahead_any s m _ _ _ hc1 hc2 m1 m2 HSW.out).mono ?_
  rintro e w1 ⟨rfl, hb1⟩
  clear i0 i1 i2 i3 i4
  have HPw1 := HP.out.later hb1
  have HS1 : Hid (PAt w1 s (.slice ad s.slots.length cap) (.slice ad2 s.ends.length cap2)) := HSW.out.later hb1
  have HT1 : Hid (TabLH w1) := HT.out.later hb1
  have HM1 : Hid (Tab w1) := HMM.out.later hb1
  clear HP HSW HT HMM hb1
  cases hah : Px.aheadP s m
  · have HM : Hid (Px.clockP s m = (Px.st0, 6)) := HCE'.out.2.1 h4 hah
    clear hah h4
    obtain ⟨⟨⟨u0, r0⟩, f0⟩, ⟨⟨u1, r1⟩, f1⟩, ⟨⟨u2, r2⟩, f2⟩, ⟨⟨u3, r3⟩, f3⟩, ⟨⟨u4, r4⟩, f4⟩⟩ := HPw1.five
    have HB2 : Hid (Below w.heap.size w w1) := HPw1.bel
    clear HPw1
    go_wp2_with fail
    refine bodyPost_ret (v := .tuple #[.agg #[.string { data := #[] }, .int .i64 0, .int .i64 0, .slice none 0 0, .slice none 0 0], .int .i64 6]) (by simp [results, Tryd.results42, go_sem, r0, r1, r2, r3, r4]) rfl ⟨ChgR.err HM.out, below_set5' HB2.out (by omega) _ _ _ _ _⟩
  have hao : s.clock < m ∧ (s.clock = -1 ∨ m - s.clock ≤ 1500) := by unfold Px.aheadP at hah; exact of_decide_eq_true hah
  have hnw : 0 ≤ Px.newA s m ∧ Px.newA s m ≤ m ∧ m - Px.newA s m ≤ 1500 := by unfold Px.newA; split <;> omega
  have HCE2 : Hid (Px.clockP s m = if 10000 < s.next + ((Px.comesP s m).length : Int) then (Px.st0, 7) else ({ (Px.comesP s m).foldl Px.arr s with clock := m }, 0)) := HCE'.out.2.2 h4 hah
  clear hah h4 hao HCE'
  obtain ⟨i0, i1, i2, i3, i4⟩ := HPw1.st
  have HP1 : Hid (PRes w w1 s (.slice ad s.slots.length cap) (.slice ad2 s.ends.length cap2)) := HPw1
  clear HPw1
  go_wp2_with fail
  refine (plines_any s _ _ _ HO.out.st.tab HT1.out HS1.out).mono ?_
  rintro e w2 ⟨⟨g, c, rfl, hgc, hL⟩, hb2⟩
  clear i0 i1 i2 i3 i4
  have HPw2 := HP1.out.later hb2
  have HS2 : Hid (PAt w2 s (.slice ad s.slots.length cap) (.slice ad2 s.ends.length cap2)) := HS1.out.later hb2
  have HM2 : Hid (Tab w2) := HM1.out.later hb2
  have HL2 : Hid (PLinesAt w2 g s.tab) := hL
  have HP2 : Hid (PRes w w2 s (.slice ad s.slots.length cap) (.slice ad2 s.ends.length cap2)) := HPw2
  obtain ⟨i0, i1, i2, i3, i4⟩ := HPw2.st
  clear HPw2 HP1 HS1 HT1 HM1 hb2 hL
  go_wp2_with fail
  refine (firstNew_any s m _ _ _ hc1 hc2 HS2.out).mono ?_
  rintro e w3 ⟨rfl, hb3⟩
  clear i0 i1 i2 i3 i4
  have HP3 : Hid (PRes w w3 s (.slice ad s.slots.length cap) (.slice ad2 s.ends.length cap2)) := HP2.out.later hb3
  have HS3 : Hid (PAt w3 s (.slice ad s.slots.length cap) (.slice ad2 s.ends.length cap2)) := HS2.out.later hb3
  have HM3 : Hid (Tab w3) := HM2.out.later hb3
  have HL3 : Hid (PLinesAt w3 g s.tab) := HL2.out.later hb3
  clear HP2 HS2 HM2 HL2 hb3
  go_wp2_with fail
  refine (latestFirst_any s.tab g c (Px.newA s m) m w3 HO.out.st.tab hnw.1 hnw.2.1 m2 hnw.2.2 HM3.out HL3.out).mono ?_
  rintro e w4 ⟨⟨v, rfl, hown⟩, hb4⟩
  have HPw4 := HP3.out.later hb4
  have HSw4 := HS3.out.later hb4
  have hrow := TRow.of_own hown
  obtain ⟨adv, capv, hvv, _⟩ := hrow.form
  subst hvv
  have HR4 : Hid (TRow w4 118 (.slice adv (Bx.comes (Bx.lns s.tab) (Px.newA s m) m).length capv) (Bx.comes (Bx.lns s.tab) (Px.newA s m) m).length ((Bx.comes (Bx.lns s.tab) (Px.newA s m) m).reverse.flatMap arC)) := hrow
  have HCm : Hid (Px.comesP s m = Bx.comes (Bx.lns s.tab) (Px.newA s m) m) := rfl
  rw [HCm.out] at HCE2
  have hcl : (Bx.comes (Bx.lns s.tab) (Px.newA s m) m).length ≤ 100000 := by
    have h1 := Bx.comes_len (Bx.lns s.tab) (Px.newA s m) m
    have h2 := lns_len s.tab
    have h3 := tn_le HO.out.st.tab
    have h5 : (m + 1 - Px.newA s m).toNat ≤ 1501 := by omega
    have h6 : (m + 1 - Px.newA s m).toNat * (Bx.lns s.tab).length ≤ 1501 * 4 := Nat.mul_le_mul h5 (by rw [h2]; exact h3)
    omega
  clear hown hb4 hrow HP3 HS3 HM3 HL3 HCm
  generalize Bx.comes (Bx.lns s.tab) (Px.newA s m) m = C at *
  obtain ⟨i0, i1, i2, i3, i4⟩ := HPw4.st
  by_cases h7 : 10000 < s.next + (C.length : Int)
  · have HM : Hid (Px.clockP s m = (Px.st0, 7)) := by unfold Hid; rw [HCE2.out, if_pos h7]
    clear HCE2 HR4
    obtain ⟨⟨⟨u0, r0⟩, f0⟩, ⟨⟨u1, r1⟩, f1⟩, ⟨⟨u2, r2⟩, f2⟩, ⟨⟨u3, r3⟩, f3⟩, ⟨⟨u4, r4⟩, f4⟩⟩ := HPw4.five
    have HB2 : Hid (Below w.heap.size w w4) := HPw4.bel
    clear HPw4
    go_wp2_with fail
    refine bodyPost_ret (v := .tuple #[.agg #[.string { data := #[] }, .int .i64 0, .int .i64 0, .slice none 0 0, .slice none 0 0], .int .i64 7]) (by simp [results, Tryd.results42, go_sem, r0, r1, r2, r3, r4]) rfl ⟨ChgR.err HM.out, below_set5' HB2.out (by omega) _ _ _ _ _⟩
  have HM : Hid (Px.clockP s m = ({ C.foldl Px.arr s with clock := m }, 0)) := by unfold Hid; rw [HCE2.out, if_neg h7]
  clear HCE2
  have HK5 : CkIn w (w4.alloc (pstO s (.slice ad s.slots.length cap) (.slice ad2 s.ends.length cap2))) w4.heap.size s s (.slice ad s.slots.length cap) (.slice ad2 s.ends.length cap2) (.slice ad s.slots.length cap) (.slice ad2 s.ends.length cap2) (.slice adv C.length capv) C.length (C.reverse.flatMap arC) :=
    ⟨HPw4.later (below_alloc _ _), PW.new w4 s (.slice ad s.slots.length cap) (.slice ad2 s.ends.length cap2), HSw4.later (below_alloc _ _), HR4.out.later (below_alloc _ _)⟩
  have hq4 : w.heap.size + 1 < w4.heap.size := HPw4.lt
  clear HPw4 HSw4 HR4
  go_upto_region 11 with fail
  clear i0 i1 i2 i3 i4
  generalize w4.alloc (pstO s (.slice ad s.slots.length cap) (.slice ad2 s.ends.length cap2)) = W5 at *
  generalize w4.heap.size = q at *
  have HK : Hid (CkIn w W5 q s s (.slice ad s.slots.length cap) (.slice ad2 s.ends.length cap2) (.slice ad s.slots.length cap) (.slice ad2 s.ends.length cap2) (.slice adv C.length capv) C.length (C.reverse.flatMap arC)) := HK5
  have hsl8 : s.slots.length ≤ 8 := HO.out.len
  have hen6 : s.ends.length ≤ 6 := HO.out.st.en
  clear HK5
  go_wp2_with fail
  go_loopw [10] (fun x wr => ∃ (j : Nat) (slt ent : Value), j ≤ C.length ∧ x = .int .i64 ((C.length : Int) - 1 - (j : Int)) ∧ CkIn w wr q s ((C.take j).foldl Px.arr s) (.slice ad s.slots.length cap) (.slice ad2 s.ends.length cap2) slt ent (.slice adv C.length capv) C.length (C.reverse.flatMap arC)) (fun x _ => (intOf x + 1).toNat)
  case atStart => exact ⟨0, _, _, Nat.zero_le _, by go_num, HK.out⟩
  case round =>
    clear HK
    obtain ⟨j, slt, ent, hj, rfl, HI⟩ := hrel
    obtain ⟨hl1, hl2, hl3⟩ := parrs_len (C.take j) s hsl8 hen6
    have hl4 : (C.take j).length = j := by simp; omega
    rw [hl4] at hl3
    by_cases hlt : j < C.length
    · have HTk : Hid ((C.take (j + 1)).foldl Px.arr s = Px.arr ((C.take j).foldl Px.arr s) C[j]) := parrs_take C s j hlt
      obtain ⟨k, hk⟩ : ∃ k : Nat, (C.length : Int) - 1 - (j : Int) = (k : Int) := ⟨C.length - 1 - j, by omega⟩
      have hkl : k < C.reverse.length := by rw [List.length_reverse]; omega
      have hce : C.reverse[k] = C[j] := by
        rw [List.getElem_reverse]; congr 1; omega
      obtain ⟨b, off, cap', hv, _, hcc⟩ := HI.row.1.some' (by omega)
      cases hv
      obtain ⟨d0, d1⟩ := arC_at hcc k hkl
      rw [hce] at d0 d1
      obtain ⟨adt, capt, hvt, _⟩ := HI.at'.sl.form
      obtain ⟨ade, cape, hve, _⟩ := HI.at'.en.form
      subst hvt hve
      have hbl : b < wr.heap.size := World.block_lt_of_cell? _ _ d0
      have hql : q < wr.heap.size := HI.pw.ty.lt
      obtain ⟨c0, c1, c2, c3, c4⟩ := HI.pw.st
      have f0 := HI.pw.f 0 (by decide); have f1 := HI.pw.f 1 (by decide); have f2 := HI.pw.f 2 (by decide); have f3 := HI.pw.f 3 (by decide); have f4 := HI.pw.f 4 (by decide)
      have HI' : Hid (CkIn w wr q s ((C.take j).foldl Px.arr s) (.slice ad s.slots.length cap) (.slice ad2 s.ends.length cap2) _ _ _ C.length (C.reverse.flatMap arC)) := HI
      have HKk : Hid ((C.length : Int) - 1 - (j : Int) = (k : Int)) := hk
      have bk0 : (0 : Int) ≤ (k : Int) := by omega
      have bk1 : (k : Int) < (C.length : Int) := by omega
      have HA : Hid (PAt wr ((C.take j).foldl Px.arr s) _ _) := HI.at'
      rw [hk]
      generalize (C.take j).foldl Px.arr s = t at *
      generalize C[j] = p at *
      have hl5 : t.slots.length ≤ 10000 := by omega
      have hl6 : t.ends.length ≤ 10000 := by omega
      have hl7 : 0 ≤ t.next := by omega
      have hl8 : t.next ≤ 100000 := by omega
      have HL3 : Hid (t.next = s.next + (j : Int)) := hl3
      clear hcc HI hk hl4 hce hkl hl3
      go_wp2_with fail
      go_region_with ((go_at_call 59; refine (withArrival_any t p _ _ _ hl5 hl6 hl7 hl8 ?hs).mono ?_; (case hs => exact HA.out.later (Below.refl _ _).drew); rintro e w6 ⟨⟨slu, enu, rfl, hst6⟩, hb6⟩; have hbC : Below wr.heap.size wr w6 := (Below.refl _ _).drew.trans hb6; obtain ⟨adu, capu, rfl, hcu⟩ := hst6.sl.form; obtain ⟨adv2, capv2, rfl, hcv⟩ := hst6.en.form; obtain ⟨hcC, hfC⟩ := bcell hbC; clear hb6))
      all_goals
        have HI6 := (HI'.out.later hbC).put hq4 hst6
        clear hbC hst6
        go_wp2_with fail
        go_roundw
        (case rel => exact ⟨j + 1, _, _, by omega, (by have h := HKk.out; congr 1; omega), by rw [HTk.out]; exact HI6⟩)
        (case measure => first | (simp [intOf]; done) | (simp [intOf]; omega))
    · obtain rfl : j = C.length := by omega
      have HTk : Hid (C.take C.length = C) := List.take_length
      rw [HTk.out] at HI
      have hx : (C.length : Int) - 1 - (C.length : Int) = -1 := by omega
      rw [hx]
      obtain ⟨adt, capt, hvt, _⟩ := HI.at'.sl.form
      obtain ⟨ade, cape, hve, _⟩ := HI.at'.en.form
      subst hvt hve
      clear hl1 hl2 hl3 hl4 hj HTk
      have hA := HI.pw
      have a1 := hA.st.c1
      have g1 := hA.f 1 (by decide)
      have hql := hA.ty.lt
      generalize C.foldl Px.arr s = t at *
      have HP7 := HI.res.set hq4 1 (.int .i64 m)
      have HA7 := hA.clock m
      have HS7 := HI.at'.set hA.ty (by decide) (by decide) 1 (.int .i64 m)
      clear hA HI
      go_upto_region 16 with fail
      clear a1 g1
      generalize wr.setCell ⟨q, 1, none⟩ (.int .i64 m) = W7 at *
      have HX : Hid (PEnd w W7 q { t with clock := m } (.slice adt t.slots.length capt) (.slice ade t.ends.length cape)) := ⟨HA7, ⟨HS7.sl, HS7.en⟩, HP7.z, HP7.ty, HP7.bel⟩
      obtain ⟨⟨⟨u0, r0⟩, f0⟩, ⟨⟨u1, r1⟩, f1⟩, ⟨⟨u2, r2⟩, f2⟩, ⟨⟨u3, r3⟩, f3⟩, ⟨⟨u4, r4⟩, f4⟩⟩ := HP7.five
      obtain ⟨c0, c1, c2, c3, c4⟩ := HA7.st
      clear HP7 HA7 HS7
      go_wp2_with fail
      refine bodyPost_ret (v := .tuple #[pstV { t with clock := m } (.slice adt t.slots.length capt) (.slice ade t.ends.length cape), .int .i64 0]) (by simp [results, Tryd.results42, go_sem, r0, r1, r2, r3, r4]) rfl ⟨ChgR.ok HM.out (HX.out.fin _ _ _ _ _).1, (HX.out.fin _ _ _ _ _).2⟩
end Go.Proofs.YtdajolpoiffimabDoor

namespace Go.Proofs.YtdajolpoiffimabDoor
open Go.RowKit

/-- An answer of a text and an error, and the box then. -/
inductive AnsA (p : Px.Bo × ByteArray × Int) (B : Nat) (w : World) : Ending → World → Prop
  | mk (w' : World) (hB : PBx w' B p.1) (hg : w.grownBy w' (some B)) : AnsA p B w (.returned (.tuple #[.string p.2.1, .int .i64 p.2.2])) w'
theorem AnsA.of {p : Px.Bo × ByteArray × Int} {B : Nat} {w w' : World} {b : Px.Bo} {x : ByteArray} {r : Int} (h : p = (b, x, r)) (hB : PBx w' B b) (hg : w.grownBy w' (some B)) : AnsA p B w (.returned (.tuple #[.string x, .int .i64 r])) w' := by
  subst h; exact AnsA.mk w' hB hg
/-- The change Done behind the frames, if the talk is over; then all is kept, or nothing. -/
def ctB (b : Px.Bo) (t : Px.St) (n : Int) (fr said : ByteArray) (over : Bool) : Px.Bo × ByteArray × Int :=
  if over = true then (if ¬ (Px.doneP t n).2 = 0 then (b, ByteArray.empty, (Px.doneP t n).2) else Px.commitB b (Px.doneP t n).1 (fr ++ Bx.frame (Bx.body (chD n))) said) else Px.commitB b t fr said
theorem done_err {t : Px.St} {n : Int} (h : ¬ (Px.doneP t n).2 = 0) : (Px.doneP t n) = (Px.st0, (Px.doneP t n).2) := by
  unfold Px.doneP at h ⊢
  cases q : Px.find t.slots n with
  | none => rfl
  | some x =>
    rw [q] at h
    simp only at h ⊢
    by_cases s : x.step ≤ 0
    · rw [if_pos s]
    · rw [if_neg s] at h; exact absurd rfl h
theorem done_bd (t : Px.St) (n : Int) : (Px.doneP t n).2 = 0 ∨ (Px.doneP t n).2 = 8 ∨ (Px.doneP t n).2 = 9 := by
  unfold Px.doneP
  cases Px.find t.slots n with
  | none => right; left; rfl
  | some x => simp only; split
              · right; right; rfl
              · left; rfl
end Go.Proofs.YtdajolpoiffimabDoor

namespace Go.Proofs.YtdajolpoiffimabDoor
open Go.RowKit

theorem talkB_eq (b : Px.Bo) (s : Px.St) (n : Int) (x fr : ByteArray) (y : Px.Sl) (hf : Px.find s.slots n = some y) (hs : ¬ y.step ≤ 0) :
    Px.talkB b s n x fr = ctB b (Px.talkT s y x) n fr (Px.talkS s y x).2 (decide (((Px.stepsL s y).length : Int) < (Px.talkS s y x).1.step)) := by
  unfold Px.talkB ctB
  rw [hf]
  simp only
  rw [if_neg hs]
  by_cases q : ((Px.stepsL s y).length : Int) < (Px.talkS s y x).1.step
  · rw [if_pos q, if_pos (decide_eq_true q)]
  · rw [if_neg q, if_neg (by simp [q])]
theorem repl_len (l : List Px.Sl) (x : Px.Sl) : (Px.repl l x).length = l.length := by simp [Px.repl]
end Go.Proofs.YtdajolpoiffimabDoor

namespace Go.Proofs.YtdajolpoiffimabDoor
open Go.RowKit

theorem start_okP {s : Px.St} (h : Px.Ok s) (n : Int) (h0 : (Px.startP s n).2 = 0) : Px.Ok (Px.startP s n).1 ∧ (Px.startP s n).1.slots.length = s.slots.length ∧ 0 ≤ n ∧ n ≤ 100000 := by
  rcases Px.start_abs h.dist n with ⟨e8, hf⟩ | ⟨i, hi, hF, hn, hc⟩
  · omega
  rcases hc with ⟨e, q⟩ | ⟨e, q1, q2⟩ | ⟨e, q1, q2, q3⟩ | ⟨e, q1, q2, q3, q4, q5⟩
  · omega
  · omega
  · omega
  have hy : s.slots[i] ∈ s.slots := List.getElem_mem hi
  have hst : Bx.StOk (Px.abs (Px.startP s n).1) := by
    have := Bx.about_ok h.st 83 n
    rw [q5] at this; exact this
  have hh0 := h.ex _ hy
  have hyh : s.slots[i].heard = ByteArray.empty := hh0.2.2.2.2.2 (by omega)
  obtain ⟨s1, s5, sz⟩ := Px.steps_size h hy
  have he := h.each hy
  have hnx : s.next ≤ 10000 := h.st.n2
  refine ⟨?_, ?_, by omega, by omega⟩
  · rw [q4] at hst ⊢
    exact h.repl _ hst ⟨h.st.c1, h.st.c2, by show (0 : Int) ≤ 1; omega, by show (1 : Int) ≤ ((Px.stepsL s s.slots[i]).length : Int); omega, by show s.slots[i].heard.size ≤ 8; omega, fun q => by simp [Px.beg] at q⟩
  · rw [q4]; exact repl_len _ _
theorem start_bd (s : Px.St) (n : Int) : (Px.startP s n).2 = 0 ∨ (Px.startP s n).2 = 8 ∨ (Px.startP s n).2 = 9 ∨ (Px.startP s n).2 = 10 ∨ (Px.startP s n).2 = 11 := by
  unfold Px.startP
  cases Px.find s.slots n with
  | none => right; left; rfl
  | some x => simp only; repeat' split
              all_goals simp

end Go.Proofs.YtdajolpoiffimabDoor

namespace Go.Proofs.YtdajolpoiffimabDoor
open Go.RowKit

/-- An answer of a number and an error, and the box then. -/
inductive AnsT (p : Px.Bo × Int × Int) (B : Nat) (w : World) : Ending → World → Prop
  | mk (w' : World) (hB : PBx w' B p.1) (hg : w.grownBy w' (some B)) : AnsT p B w (.returned (.tuple #[.int .i64 p.2.1, .int .i64 p.2.2])) w'
theorem AnsT.of {p : Px.Bo × Int × Int} {B : Nat} {w w' : World} {b : Px.Bo} {x r : Int} (h : p = (b, x, r)) (hB : PBx w' B b) (hg : w.grownBy w' (some B)) : AnsT p B w (.returned (.tuple #[.int .i64 x, .int .i64 r])) w' := by
  subst h; exact AnsT.mk w' hB hg
theorem clock_bd (s : Px.St) (m : Int) : (Px.clockP s m).2 = 0 ∨ (Px.clockP s m).2 = 4 ∨ (Px.clockP s m).2 = 6 ∨ (Px.clockP s m).2 = 7 := by
  rw [Px.clock_err]; repeat' split
  all_goals simp
theorem fail_bd (s : Px.St) (n : Int) : (Px.failP s n).2 = 0 ∨ (Px.failP s n).2 = 8 ∨ (Px.failP s n).2 = 9 := by
  unfold Px.failP
  cases Px.find s.slots n with
  | none => right; left; rfl
  | some x => simp only; repeat' split
              all_goals simp
theorem fails_ok (l : List Int) : ∀ (p : Px.St × ByteArray), Px.Ok p.1 → Px.Ok (l.foldl Px.failStep p).1 := by
  induction l with
  | nil => intro p h; exact h
  | cons n r ih =>
    intro p h
    apply ih
    unfold Px.failStep
    by_cases q : (Px.failP p.1 n).2 = 0
    · rw [if_pos q]; exact Px.fail_ok h n q
    · rw [if_neg q]; exact h
theorem fails_sz (l : List Int) : ∀ (p : Px.St × ByteArray), (l.foldl Px.failStep p).2.size ≤ p.2.size + 400 * l.length := by
  induction l with
  | nil => intro p; simp
  | cons n r ih =>
    intro p
    have h1 := ih (Px.failStep p n)
    have h2 : (Px.failStep p n).2.size ≤ p.2.size + 400 := by
      unfold Px.failStep
      by_cases q : (Px.failP p.1 n).2 = 0
      · rw [if_pos q]; have := frame_sz (chF n) (by show (0 : Nat) ≤ 300; omega); show (p.2 ++ _).size ≤ _; rw [ByteArray.size_append]; omega
      · rw [if_neg q]; omega
    rw [List.foldl_cons, List.length_cons]; omega
theorem fails_take (l : List Int) (p : Px.St × ByteArray) (k : Nat) (h : k < l.length) : (l.take (k + 1)).foldl Px.failStep p = Px.failStep ((l.take k).foldl Px.failStep p) l[k] := by
  rw [List.take_succ_eq_append_getElem h, List.foldl_append]; rfl
theorem late_mem {s : Px.St} (h : Px.Ok s) {n : Int} (hn : n ∈ Px.late s) : 0 ≤ n ∧ n ≤ 100000 := by
  unfold Px.late at hn
  obtain ⟨x, hx, rfl⟩ := List.mem_map.1 hn
  have := h.each (List.mem_filter.1 hx).1
  have : s.next ≤ 10000 := h.st.n2
  omega
theorem late_len (s : Px.St) : (Px.late s).length ≤ s.slots.length := by unfold Px.late; rw [List.length_map]; exact List.length_filter_le _ _
/-- What holds while the slots that were not answered fail. -/
structure TkIn (w wr : World) (q : Nat) (t : Px.St) (slt ent v : Value) (L : List Int) : Prop where
  pw : PW wr q t slt ent
  at' : PAt wr t slt ent
  row : TRow wr 3 v L.length (L.map (Value.int .i64))
  bel : Below w.heap.size w wr
theorem TkIn.later {w wr w' : World} {q : Nat} {t : Px.St} {slt ent v : Value} {L : List Int} (h : TkIn w wr q t slt ent v L) (hb : Below wr.heap.size wr w') : TkIn w w' q t slt ent v L :=
  ⟨h.pw.later hb, h.at'.later hb, h.row.later hb, h.bel.trans (hb.mono h.bel.size)⟩
theorem TkIn.put {w wr : World} {q : Nat} {t u : Px.St} {slt ent slu enu v : Value} {L : List Int} (h : TkIn w wr q t slt ent v L) (hq : w.heap.size ≤ q) (hu : PAt wr u slu enu) :
    TkIn w (((((wr.setCell ⟨q, 0, none⟩ (.string u.tab)).setCell ⟨q, 1, none⟩ (.int .i64 u.clock)).setCell ⟨q, 2, none⟩ (.int .i64 u.next)).setCell ⟨q, 3, none⟩ slu).setCell ⟨q, 4, none⟩ enu) q u slu enu v L := by
  refine ⟨h.pw.put u slu enu, hu.store h.pw.ty _ _ _ _ _, ?_, below_set5' h.bel hq _ _ _ _ _⟩
  have st : ∀ (w : World) (j : Nat) (x : Value), (Typed w q 49 ∧ TRow w 3 v L.length (L.map (Value.int .i64))) → (Typed (w.setCell ⟨q, j, none⟩ x) q 49 ∧ TRow (w.setCell ⟨q, j, none⟩ x) 3 v L.length (L.map (Value.int .i64))) := fun w j x h => ⟨h.1.setCell _ _ _, h.2.set h.1 (by decide) _ _⟩
  exact (st _ _ _ (st _ _ _ (st _ _ _ (st _ _ _ (st _ _ _ ⟨h.pw.ty, h.row⟩))))).2

end Go.Proofs.YtdajolpoiffimabDoor

namespace Go.Proofs.YtdajolpoiffimabDoor
open Go.RowKit

end Go.Proofs.YtdajolpoiffimabDoor
