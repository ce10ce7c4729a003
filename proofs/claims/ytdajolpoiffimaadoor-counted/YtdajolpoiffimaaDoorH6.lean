/-
  PrgRun, PrgChg, PrgChg2, PrgBox, PrgAsk, PrgAsk2, PrgCl, PrgFail, PrgStart, PrgHear, PrgGo.
-/
import Derived.Deep.RegionHeld3
import Derived.Test.YtdajolpoiffimaaDoorH2
import Derived.Test.YtdajolpoiffimaaDoorH5

namespace Go.Proofs.YtdajolpoiffimaaDoor
open Go.RowKit

set_option maxHeartbeats 400000 in
theorem runs_any (x : Px.Sl) (w : World) : Calls Tryd.prog 82 #[psV x] w fun e w' => e = .returned (.bool (decide (0 < x.step))) ∧ Below w.heap.size w w' := by
  go_enter Tryd.func82, Tryd.ntmps82
  go_wp2_with fail
  go_ret
  exact ⟨rfl, below_alloc _ _⟩

/-- A slot that waits, with nothing left of what was being talked. -/
def waitS (x : Px.Sl) : Px.Sl := { x with step := 0, ans := 0, heard := ByteArray.empty }
set_option maxHeartbeats 1000000 in
theorem waiting_any (x : Px.Sl) (w : World) : Calls Tryd.prog 86 #[psV x] w fun e w' => e = .returned (psV (waitS x)) ∧ Below w.heap.size w w' := by
  go_enter Tryd.func86, Tryd.ntmps86
  go_wp2_with fail
  refine bodyPost_ret (v := psV (waitS x)) (by simp [results, Tryd.results86, go_sem]; exact ⟨rfl, rfl, rfl, rfl, rfl, rfl, rfl, rfl⟩) rfl ⟨rfl, ?_⟩
  exact (below_alloc w _).alloc (by simp) _
set_option maxHeartbeats 1000000 in
theorem delay_any (k : Int) (w : World) (k1 : 1 ≤ k) (k5 : k ≤ 5) : Calls Tryd.prog 87 #[.int .i64 k] w fun e w' => e = .returned (.int .i64 (Bx.delay k)) ∧ w' = w := by
  go_enter Tryd.func87, Tryd.ntmps87
  go_wp2_with fail
  go_loop [3, 4] (fun a b => (a = .int .i64 1 ∧ b = .int .i64 0) ∨ (a = .int .i64 2 ∧ b = .int .i64 1) ∨ (a = .int .i64 4 ∧ b = .int .i64 2 ∧ 2 ≤ k) ∨ (a = .int .i64 8 ∧ b = .int .i64 3 ∧ 3 ≤ k) ∨ (a = .int .i64 16 ∧ b = .int .i64 4 ∧ 4 ≤ k)) (fun _ b => 5 - (intOf b).toNat)
  case atStart => exact Or.inl ⟨rfl, rfl⟩
  case round =>
    rcases hrel with ⟨rfl, rfl⟩ | ⟨rfl, rfl⟩ | ⟨rfl, rfl, h⟩ | ⟨rfl, rfl, h⟩ | ⟨rfl, rfl, h⟩
    · have c : (0 : Int) < k := by omega
      go_wp2_with fail
      go_round
      case rel => exact Or.inr (Or.inl ⟨rfl, rfl⟩)
      case measure => simp [intOf]
    · by_cases c : (1 : Int) < k
      · go_wp2_with fail
        go_round
        case rel => exact Or.inr (Or.inr (Or.inl ⟨rfl, rfl, by omega⟩))
        case measure => simp [intOf]
      · have e : Hid (Bx.delay k = 2) := by have : k = 1 := by omega
                                            subst this; rfl
        go_wp2_with fail
        go_ret
        exact ⟨ret_int' e.out.symm, rfl⟩
    · by_cases c : (2 : Int) < k
      · go_wp2_with fail
        go_round
        case rel => exact Or.inr (Or.inr (Or.inr (Or.inl ⟨rfl, rfl, by omega⟩)))
        case measure => simp [intOf]
      · have e : Hid (Bx.delay k = 4) := by have : k = 2 := by omega
                                            subst this; rfl
        go_wp2_with fail
        go_ret
        exact ⟨ret_int' e.out.symm, rfl⟩
    · by_cases c : (3 : Int) < k
      · go_wp2_with fail
        go_round
        case rel => exact Or.inr (Or.inr (Or.inr (Or.inr ⟨rfl, rfl, by omega⟩)))
        case measure => simp [intOf]
      · have e : Hid (Bx.delay k = 8) := by have : k = 3 := by omega
                                            subst this; rfl
        go_wp2_with fail
        go_ret
        exact ⟨ret_int' e.out.symm, rfl⟩
    · have e : Hid (Bx.delay k = 10) := by
        unfold Hid Bx.delay; rw [if_neg (by omega), if_neg (by omega), if_neg (by omega)]
      by_cases c : (4 : Int) < k
      · go_wp2_with fail
        go_ret
        exact ⟨ret_int' e.out.symm, rfl⟩
      · go_wp2_with fail
        go_ret
        exact ⟨ret_int' e.out.symm, rfl⟩

def runsK (l : List Px.Sl) (k : Nat) : Nat := ((l.take k).filter fun x => decide (0 < x.step)).length
theorem runsK_yes {l : List Px.Sl} {k : Nat} (h : k < l.length) (e : decide (0 < l[k].step) = true) : runsK l (k + 1) = runsK l k + 1 := by
  unfold runsK
  rw [List.take_succ_eq_append_getElem h, List.filter_append, List.filter_cons_of_pos (p := fun x : Px.Sl => decide (0 < x.step)) (a := l[k]) e]; simp
theorem runsK_no {l : List Px.Sl} {k : Nat} (h : k < l.length) (e : decide (0 < l[k].step) = false) : runsK l (k + 1) = runsK l k := by
  unfold runsK
  rw [List.take_succ_eq_append_getElem h, List.filter_append, List.filter_cons_of_neg (by rw [e]; simp)]; simp
theorem runsK_le (l : List Px.Sl) (k : Nat) : runsK l k ≤ k := by
  have := List.length_filter_le (fun x : Px.Sl => decide (0 < x.step)) (l.take k)
  unfold runsK; simp at this ⊢; omega
set_option maxHeartbeats 1000000 in
theorem running_any (s : Px.St) (sl en : Value) (w : World) (hl : s.slots.length ≤ 10000) (hS : PAt w s sl en) :
    Calls Tryd.prog 92 #[pstV s sl en] w fun e w' => e = .returned (.int .i64 (Px.runs s : Nat)) ∧ Below w.heap.size w w' := by
  obtain ⟨ad, cap, rfl, hcap⟩ := hS.sl.form
  obtain ⟨ad2, cap2, rfl, hcap2⟩ := hS.en.form
  have HR : Hid (RowAt w (.slice ad s.slots.length cap) s.slots.length (s.slots.flatMap psC)) := hS.sl.1
  clear hS
  have hb0 := below_alloc w (pstO s (.slice ad s.slots.length cap) (.slice ad2 s.ends.length cap2))
  have hI := PIn.new w s (.slice ad s.slots.length cap) (.slice ad2 s.ends.length cap2)
  go_enter Tryd.func92, Tryd.ntmps92
  go_upto_region 1 with fail
  generalize w.alloc (pstO s (.slice ad s.slots.length cap) (.slice ad2 s.ends.length cap2)) = W at *
  have HB : Hid (Below w.heap.size w W) := hb0
  have HR' : Hid (RowAt W (.slice ad s.slots.length cap) s.slots.length (s.slots.flatMap psC)) := HR.out.later hb0
  have HI : Hid (PIn W w.heap.size s (.slice ad s.slots.length cap) (.slice ad2 s.ends.length cap2)) := hI
  clear hI hb0 HR
  go_wp2_with fail
  go_loopw [3, 4] (fun c i wr => ∃ k : Nat, k ≤ s.slots.length ∧ i = .int .i64 k ∧ c = .int .i64 (runsK s.slots k : Nat) ∧ Below W.heap.size W wr) (fun _ i _ => s.slots.length - (intOf i).toNat)
  case atStart => exact ⟨0, Nat.zero_le _, rfl, rfl, Below.refl _ _⟩
  case round =>
    obtain ⟨k, hk, rfl, rfl, hbr⟩ := hrel
    have i3 := (HI.out.later hbr).c3
    have hsz := hbr.size
    by_cases hlt : k < s.slots.length
    · obtain ⟨b, off, cap', hv, _, hc⟩ := (HR'.out.later hbr).some' (by omega)
      cases hv
      obtain ⟨d0, d1, d2, d3, d4, d5, d6, d7⟩ := ps_cells hc k hlt
      clear hc
      have b1 : (0 : Int) ≤ (k : Int) := by omega
      have b2 : (k : Int) < (s.slots.length : Int) := by omega
      have hle := runsK_le s.slots k
      cases he : decide (0 < s.slots[k].step)
      · have HF : Hid (runsK s.slots (k + 1) = runsK s.slots k) := runsK_no hlt he
        have HE : Hid (decide (0 < s.slots[k].step) = false) := he
        clear he
        generalize s.slots[k] = x at *
        generalize runsK s.slots k = r at *
        go_wp2_with fail
        refine (runs_any x wr).mono ?_
        rintro e w2 ⟨rfl, hb2⟩
        rw [HE.out]
        have B2 := hbr.trans (hb2.mono hsz)
        clear d0 d1 d2 d3 d4 d5 d6 d7 i3 hb2 hbr
        go_wp2_with fail
        go_roundw
        case rel => exact ⟨k + 1, by omega, by go_num, by rw [HF.out], B2⟩
        case measure => simp [intOf]; omega
      · have HF : Hid (runsK s.slots (k + 1) = runsK s.slots k + 1) := runsK_yes hlt he
        have HE : Hid (decide (0 < s.slots[k].step) = true) := he
        clear he
        generalize s.slots[k] = x at *
        generalize runsK s.slots k = r at *
        go_wp2_with fail
        refine (runs_any x wr).mono ?_
        rintro e w2 ⟨rfl, hb2⟩
        rw [HE.out]
        have B2 := hbr.trans (hb2.mono hsz)
        clear d0 d1 d2 d3 d4 d5 d6 d7 i3 hb2 hbr
        go_wp2_with fail
        go_roundw
        case rel => exact ⟨k + 1, by omega, by go_num, by rw [HF.out]; go_num, B2⟩
        case measure => simp [intOf]; omega
    · obtain rfl : k = s.slots.length := by omega
      have HF : Hid (runsK s.slots s.slots.length = Px.runs s) := by unfold Hid runsK Px.runs; rw [List.take_length]
      go_wp2_with fail
      go_ret
      exact ⟨ret_int' (by rw [HF.out]), HB.out.trans (hbr.mono HB.out.size)⟩

theorem info_int : (Tryd.prog.info? 3).map (fun i => (i.zero, i.size, i.bytes)) = some (some (.int .i64 0), 1, 8) := by kernel_rfl
def lateK (s : Px.St) (k : Nat) : List Int := ((s.slots.take k).filter fun x => decide (0 < x.step) && decide (x.ans ≤ s.clock - 3)).map (·.num)
theorem lateK_yes {s : Px.St} {k : Nat} (h : k < s.slots.length) (e : (decide (0 < s.slots[k].step) && decide (s.slots[k].ans ≤ s.clock - 3)) = true) : lateK s (k + 1) = lateK s k ++ [s.slots[k].num] := by
  unfold lateK
  rw [List.take_succ_eq_append_getElem h, List.filter_append, List.filter_cons_of_pos (p := fun x : Px.Sl => decide (0 < x.step) && decide (x.ans ≤ s.clock - 3)) (a := s.slots[k]) e]; simp
theorem lateK_no {s : Px.St} {k : Nat} (h : k < s.slots.length) (e : (decide (0 < s.slots[k].step) && decide (s.slots[k].ans ≤ s.clock - 3)) = false) : lateK s (k + 1) = lateK s k := by
  unfold lateK
  rw [List.take_succ_eq_append_getElem h, List.filter_append, List.filter_cons_of_neg (by rw [e]; simp)]; simp
theorem lateK_le (s : Px.St) (k : Nat) : (lateK s k).length ≤ k := by
  have := List.length_filter_le (fun x : Px.Sl => decide (0 < x.step) && decide (x.ans ≤ s.clock - 3)) (s.slots.take k)
  unfold lateK; simp at this ⊢; omega
theorem int_new (w : World) (n : Int) (t : TypeId) : ∀ j u, ([Value.int .i64 n] : List Value)[j]? = some u → (w.alloc (.cells #[.int .i64 n] t)).cell? ((⟨w.heap.size, 0, none⟩ : Addr).add j) = some u := by
  intro j u hj
  match j, hj with
  | 0, hj => simp at hj; subst hj; simp [Addr.add, go_sem]

set_option maxRecDepth 10000 in
set_option maxHeartbeats 2000000 in
theorem unanswered_any (s : Px.St) (sl en : Value) (w : World) (hl : s.slots.length ≤ 10000) (c1 : -1 ≤ s.clock) (c2 : s.clock ≤ 4223371679) (hS : PAt w s sl en) :
    Calls Tryd.prog 49 #[pstV s sl en] w fun e w' => (∃ v, e = .returned v ∧ w'.ownsRow w.heap.size 3 1 v (Px.late s).length ((Px.late s).map (Value.int .i64))) ∧ Below w.heap.size w w' := by
  obtain ⟨i0, hi, hz0, hz1, hz2⟩ := info_parts info_int
  obtain ⟨ad, cap, rfl, hcap⟩ := hS.sl.form
  obtain ⟨ad2, cap2, rfl, hcap2⟩ := hS.en.form
  have HR : Hid (RowAt w (.slice ad s.slots.length cap) s.slots.length (s.slots.flatMap psC)) := hS.sl.1
  clear hS
  have hb0 := below_alloc w (pstO s (.slice ad s.slots.length cap) (.slice ad2 s.ends.length cap2))
  have hI := PIn.new w s (.slice ad s.slots.length cap) (.slice ad2 s.ends.length cap2)
  have hs0 : w.heap.size ≤ (w.alloc (pstO s (.slice ad s.slots.length cap) (.slice ad2 s.ends.length cap2))).heap.size := by simp
  have HO0 := own_empty (w.alloc (pstO s (.slice ad s.slots.length cap) (.slice ad2 s.ends.length cap2))) 3 1
  have hb1 := below_alloc (w.alloc (pstO s (.slice ad s.slots.length cap) (.slice ad2 s.ends.length cap2))) (.cells #[] 3)
  go_enter Tryd.func49, Tryd.ntmps49
  go_upto_region 1 with fail
  generalize w.alloc (pstO s (.slice ad s.slots.length cap) (.slice ad2 s.ends.length cap2)) = W at *
  have HB : Hid (Below w.heap.size w W) := hb0
  have HB1 : Hid (Below W.heap.size W (W.alloc (.cells #[] 3))) := hb1
  have HO' : Hid ((W.alloc (.cells #[] 3)).ownsRow W.heap.size 3 1 (.slice (some ⟨W.heap.size, 0, none⟩) 0 0) 0 []) := HO0
  have HR' : Hid (RowAt W (.slice ad s.slots.length cap) s.slots.length (s.slots.flatMap psC)) := HR.out.later hb0
  have HI : Hid (PIn W w.heap.size s (.slice ad s.slots.length cap) (.slice ad2 s.ends.length cap2)) := hI
  clear hI hb0 hb1 HO0 HR
  go_wp2_with fail
  go_loopw [3, 4] (fun v i wr => ∃ k : Nat, k ≤ s.slots.length ∧ i = .int .i64 k ∧ wr.ownsRow W.heap.size 3 1 v (lateK s k).length ((lateK s k).map (Value.int .i64)) ∧ Below W.heap.size W wr) (fun _ i _ => s.slots.length - (intOf i).toNat)
  case atStart => exact ⟨0, Nat.zero_le _, rfl, HO'.out, HB1.out⟩
  case round =>
    obtain ⟨k, hk, rfl, hown, hbr⟩ := hrel
    have i3 := (HI.out.later hbr).c3
    have hsz := hbr.size
    by_cases hlt : k < s.slots.length
    · obtain ⟨b, off, cap', hv, _, hc⟩ := (HR'.out.later hbr).some' (by omega)
      cases hv
      obtain ⟨d0, d1, d2, d3, d4, d5, d6, d7⟩ := ps_cells hc k hlt
      clear hc
      have b1 : (0 : Int) ≤ (k : Int) := by omega
      have b2 : (k : Int) < (s.slots.length : Int) := by omega
      have hle := lateK_le s k
      have HX : Hid (∀ v, (decide (0 < s.slots[k].step) && decide (s.slots[k].ans ≤ s.clock - 3)) = v → lateK s (k + 1) = if v = true then lateK s k ++ [s.slots[k].num] else lateK s k) := by
        intro v hv
        cases v
        · rw [if_neg (by simp)]; exact lateK_no hlt hv
        · rw [if_pos rfl]; exact lateK_yes hlt hv
      generalize s.slots[k] = x at *
      have hxI := PsIn.new wr x
      have hbA := below_alloc wr (psO x)
      have hownA := hown.alloc (psO x)
      go_upto_region 6 with fail
      clear d0 d1 d2 d3 d4 d5 d6 d7 i3
      generalize wr.alloc (psO x) = W2 at *
      generalize wr.heap.size = q at *
      have hB2 : Below W.heap.size W W2 := hbr.trans (hbA.mono hsz)
      obtain ⟨x0, x1, x2, x3, x4, x5, x6, x7⟩ := hxI
      have hs2 := hB2.size
      have HX0 : Hid (W2.cell? ⟨q, 0, none⟩ = some (.int .i64 x.num)) := x0
      have HX6 : Hid (W2.cell? ⟨q, 6, none⟩ = some (.int .i64 x.ans)) := x6
      go_wp2_with fail
      refine (runs_any x W2).mono ?_
      rintro e w3 ⟨rfl, hb3⟩
      have hB3 : Below W.heap.size W w3 := hB2.trans (hb3.mono hs2)
      have y0 := cell_later hb3 HX0.out
      have y6 := cell_later hb3 HX6.out
      have j1 := (HI.out.later hB3).c1
      have hown3 := own_below hownA hb3
      have hs3 := hB3.size
      clear x0 x1 x2 x3 x4 x5 x6 x7 HX0 HX6 hownA hown hbr hbA hb3 hB2
      cases he : decide (0 < x.step)
      · have HF : Hid (lateK s (k + 1) = lateK s k) := by have := HX.out false (by rw [he]; rfl); rw [if_neg (by simp)] at this; exact this
        clear he HX
        go_wp2_with fail
        go_roundw
        case rel => exact ⟨k + 1, by omega, by go_num, by rw [HF.out]; exact hown3, hB3⟩
        case measure => simp [intOf]; omega
      · by_cases hc : x.ans ≤ s.clock - 3
        · have HF : Hid (lateK s (k + 1) = lateK s k ++ [x.num]) := by have := HX.out true (by rw [he, decide_eq_true hc]; rfl); rw [if_pos rfl] at this; exact this
          clear he HX
          generalize lateK s k = L at *
          go_wp2_with (at_builtin; refine wpList_append_lies _ rfl (.tmp 29) (.tmp 32) 47 rfl W.heap.size 3 i0 (.int .i64 0) 1 8 Tryd.underlying47 hi hz0 hz1 hz2 rfl (by decide) _ _ _ rfl (hown3.alloc _) ⟨w3.heap.size, 0, none⟩ 1 1 [.int .i64 x.num] rfl rfl (int_new _ _ _) (by intro u hu; simp at hu; subst hu; rfl) (by decide) ?c3 ?c4 ?c5 _ rfl ?_)
          case c3 => unfold maxLen; omega
          case c4 => omega
          case c5 => simp; omega
          · intro g cap1 w4 hown' hgrow _ hlt'
            have B1 : Below W.heap.size W w4 := (hB3.alloc hs3 _).grown hgrow (by simp; omega) (fun k' e => (hown3.lt k' e).1)
            have hown2 : w4.ownsRow W.heap.size 3 1 (.slice (some ⟨g, 0, none⟩) (L.length + 1) cap1) (L ++ [x.num]).length ((L ++ [x.num]).map (Value.int .i64)) := by simpa using hown'
            clear hown' hgrow hown3 hB3 y0 y6 j1
            go_wp2_with fail
            go_roundw
            case rel => exact ⟨k + 1, by omega, by go_num, by rw [HF.out]; exact hown2, B1⟩
            case measure => simp [intOf]; omega
        · have HF : Hid (lateK s (k + 1) = lateK s k) := by have := HX.out false (by rw [he, decide_eq_false hc]; rfl); rw [if_neg (by simp)] at this; exact this
          clear he HX
          go_wp2_with fail
          go_roundw
          case rel => exact ⟨k + 1, by omega, by go_num, by rw [HF.out]; exact hown3, hB3⟩
          case measure => simp [intOf]; omega
    · obtain rfl : k = s.slots.length := by omega
      have HF : Hid (lateK s s.slots.length = Px.late s) := by unfold Hid lateK Px.late; rw [List.take_length]
      rw [HF.out] at hown
      go_wp2_with fail
      go_ret
      exact ⟨⟨_, rfl, own_mono' hown hs0⟩, HB.out.trans (hbr.mono HB.out.size)⟩

/-- The block that a line is laid in. -/
abbrev lnO (l : ByteArray) (bb cc : Nat → Nat) (ads : Option Addr) (caps : Nat) : Obj := .cells #[.bool (Txt.opn (pt l 0)), .slice (some ⟨bb 0, 0, none⟩) (Txt.pcs 44 (pt l 0)).length (cc 0), .bool (Txt.opn (pt l 1)), .slice (some ⟨bb 1, 0, none⟩) (Txt.pcs 44 (pt l 1)).length (cc 1), .bool (Txt.opn (pt l 2)), .slice (some ⟨bb 2, 0, none⟩) (Txt.pcs 44 (pt l 2)).length (cc 2), .bool (Txt.opn (pt l 3)), .slice (some ⟨bb 3, 0, none⟩) (Txt.pcs 44 (pt l 3)).length (cc 3), .bool (Txt.opn (pt l 4)), .slice (some ⟨bb 4, 0, none⟩) (Txt.pcs 44 (pt l 4)).length (cc 4), .bool (obt (pt l 5) 0 == 120), .int .u8 (obt (pt l 5) 1), .int .i64 (obt (pt l 5) 2 - 48), .slice ads (stps l).length caps] 122
/-- How many slots of a line run, among the first k. -/
def onP (n : Int) (x : Px.Sl) : Bool := decide (x.line = n) && decide (0 < x.step)
def onK (l : List Px.Sl) (n : Int) (k : Nat) : Nat := ((l.take k).filter (onP n)).length
theorem onK_yes {l : List Px.Sl} {n : Int} {k : Nat} (h : k < l.length) (e : onP n l[k] = true) : onK l n (k + 1) = onK l n k + 1 := by
  unfold onK
  rw [List.take_succ_eq_append_getElem h, List.filter_append, List.filter_cons_of_pos e]; simp
theorem onK_no {l : List Px.Sl} {n : Int} {k : Nat} (h : k < l.length) (e : onP n l[k] = false) : onK l n (k + 1) = onK l n k := by
  unfold onK
  rw [List.take_succ_eq_append_getElem h, List.filter_append, List.filter_cons_of_neg (by rw [e]; simp)]; simp
theorem onK_le (l : List Px.Sl) (n : Int) (k : Nat) : onK l n k ≤ k := by
  have := List.length_filter_le (onP n) (l.take k)
  unfold onK; simp at this ⊢; omega
def runsOf (s : Px.St) (n : Int) : Nat := (s.slots.filter (onP n)).length
theorem runsOf_any (s : Px.St) (n : Int) : (s.slots.any fun x => decide (x.line = n) && decide (0 < x.step)) = decide (0 < runsOf s n) := by
  show s.slots.any (onP n) = _
  unfold runsOf
  rw [Bool.eq_iff_iff, decide_eq_true_iff, List.any_eq_true, List.length_pos_iff_exists_mem]
  constructor
  · rintro ⟨x, h1, h2⟩; exact ⟨x, List.mem_filter.2 ⟨h1, h2⟩⟩
  · rintro ⟨x, h⟩; exact ⟨x, (List.mem_filter.1 h).1, (List.mem_filter.1 h).2⟩
set_option maxRecDepth 10000 in
set_option maxHeartbeats 2000000 in
theorem runningOf_any (s : Px.St) (n : Int) (sl en : Value) (w : World) (hl : s.slots.length ≤ 10000) (hS : PAt w s sl en) :
    Calls Tryd.prog 123 #[pstV s sl en, .int .i64 n] w fun e w' => e = .returned (.int .i64 (runsOf s n : Nat)) ∧ Below w.heap.size w w' := by
  obtain ⟨ad, cap, rfl, hcap⟩ := hS.sl.form
  obtain ⟨ad2, cap2, rfl, hcap2⟩ := hS.en.form
  have HR : Hid (RowAt w (.slice ad s.slots.length cap) s.slots.length (s.slots.flatMap psC)) := hS.sl.1
  clear hS
  have hb0 := below_alloc w (pstO s (.slice ad s.slots.length cap) (.slice ad2 s.ends.length cap2))
  have hI := PIn.new w s (.slice ad s.slots.length cap) (.slice ad2 s.ends.length cap2)
  go_enter Tryd.func123, Tryd.ntmps123
  go_upto_region 1 with fail
  generalize w.alloc (pstO s (.slice ad s.slots.length cap) (.slice ad2 s.ends.length cap2)) = W at *
  have HB : Hid (Below w.heap.size w W) := hb0
  have HR' : Hid (RowAt W (.slice ad s.slots.length cap) s.slots.length (s.slots.flatMap psC)) := HR.out.later hb0
  have HI : Hid (PIn W w.heap.size s (.slice ad s.slots.length cap) (.slice ad2 s.ends.length cap2)) := hI
  clear hI hb0 HR
  go_wp2_with fail
  go_loopw [5, 6] (fun c i wr => ∃ k : Nat, k ≤ s.slots.length ∧ i = .int .i64 k ∧ c = .int .i64 (onK s.slots n k : Nat) ∧ Below W.heap.size W wr) (fun _ i _ => s.slots.length - (intOf i).toNat)
  case atStart => exact ⟨0, Nat.zero_le _, rfl, rfl, Below.refl _ _⟩
  case round =>
    obtain ⟨k, hk, rfl, rfl, hbr⟩ := hrel
    have i3 := (HI.out.later hbr).c3
    have hsz := hbr.size
    by_cases hlt : k < s.slots.length
    · obtain ⟨b, off, cap', hv, _, hc⟩ := (HR'.out.later hbr).some' (by omega)
      cases hv
      obtain ⟨d0, d1, d2, d3, d4, d5, d6, d7⟩ := ps_cells hc k hlt
      clear hc
      have b1 : (0 : Int) ≤ (k : Int) := by omega
      have b2 : (k : Int) < (s.slots.length : Int) := by omega
      have hle := onK_le s.slots n k
      have HY : Hid (onP n s.slots[k] = true → onK s.slots n (k + 1) = onK s.slots n k + 1) := fun h => onK_yes hlt h
      have HNo : Hid (onP n s.slots[k] = false → onK s.slots n (k + 1) = onK s.slots n k) := fun h => onK_no hlt h
      generalize hxx : s.slots[k] = x at d0 d1 d2 d3 d4 d5 d6 d7
      rw [hxx] at HY HNo
      clear hxx
      generalize onK s.slots n k = r at *
      have hxI := PsIn.new wr x
      have hbA := below_alloc wr (psO x)
      go_upto_region 6 with fail
      clear d0 d1 d2 d3 d4 d5 d6 d7 i3
      generalize wr.alloc (psO x) = W3 at *
      generalize wr.heap.size = q at *
      have hB3 : Below W.heap.size W W3 := hbr.trans (hbA.mono hsz)
      have hs3 := hB3.size
      obtain ⟨x0, x1, x2, x3, x4, x5, x6, x7⟩ := hxI
      clear hbr hbA
      cases he : (x.line == n)
      · have hne : ¬ x.line = n := by simpa using he
        have HF : Hid (onK s.slots n (k + 1) = r) := HNo.out (by unfold onP; rw [decide_eq_false hne]; rfl)
        clear hne HY HNo
        go_wp2_with fail
        go_roundw
        case rel => exact ⟨k + 1, by omega, by go_num, by rw [HF.out], hB3⟩
        case measure => simp [intOf]; omega
      · have heq : x.line = n := by simpa using he
        have HQ : Hid (x.line = n) := heq
        clear heq
        go_wp2_with fail
        refine (runs_any x W3).mono ?_
        rintro e w4 ⟨rfl, hb4⟩
        have hB4 : Below W.heap.size W w4 := hB3.trans (hb4.mono hs3)
        clear x0 x1 x2 x3 x4 x5 x6 x7 hb4 hB3
        cases hr : decide (0 < x.step)
        · have HF : Hid (onK s.slots n (k + 1) = r) := HNo.out (by unfold onP; rw [hr]; simp)
          clear HY HNo hr
          go_wp2_with fail
          go_roundw
          case rel => exact ⟨k + 1, by omega, by go_num, by rw [HF.out], hB4⟩
          case measure => simp [intOf]; omega
        · have HF : Hid (onK s.slots n (k + 1) = r + 1) := HY.out (by unfold onP; rw [hr, decide_eq_true HQ.out]; rfl)
          clear HY HNo hr
          go_wp2_with fail
          go_roundw
          case rel => exact ⟨k + 1, by omega, by go_num, by rw [HF.out]; go_num, hB4⟩
          case measure => simp [intOf]; omega
    · obtain rfl : k = s.slots.length := by omega
      have HF : Hid (onK s.slots n s.slots.length = runsOf s n) := by unfold Hid onK runsOf; rw [List.take_length]
      go_wp2_with fail
      go_ret
      exact ⟨ret_int' (by rw [HF.out]), HB.out.trans (hbr.mono HB.out.size)⟩
theorem runsOf_le (s : Px.St) (n : Int) : runsOf s n ≤ s.slots.length := List.length_filter_le _ _
set_option maxRecDepth 10000 in
set_option maxHeartbeats 2000000 in
theorem plocked_any (s : Px.St) (n : Int) (j : Nat) (sl en : Value) (w : World) (hn : n = (j : Int) + 1) (hj : j < tn s.tab) (hl : s.slots.length ≤ 10000) (hC : ChkR s.tab 0 0) (hT : TabLH w) (hS : PAt w s sl en) :
    Calls Tryd.prog 109 #[pstV s sl en, .int .i64 n] w fun e w' => e = .returned (.bool (Px.lockP s n)) ∧ Below w.heap.size w w' := by
  obtain ⟨ad, cap, rfl, hcap⟩ := hS.sl.form
  obtain ⟨ad2, cap2, rfl, hcap2⟩ := hS.en.form
  have HS : Hid (PAt w s (.slice ad s.slots.length cap) (.slice ad2 s.ends.length cap2)) := hS
  have HC : Hid (ChkR s.tab 0 0) := hC
  have HN : Hid (n = (j : Int) + 1) := hn
  have hn1 : 1 ≤ n := by omega
  have HOp : Hid ((obt (pt (tl s.tab j) 5) 0 == 120) = (Px.opt s n 0 == 120)) := by
    unfold Hid Px.opt; rw [hn, show ((j : Int) + 1 - 1).toNat = j by omega]; rfl
  have hb0 := below_alloc w (pstO s (.slice ad s.slots.length cap) (.slice ad2 s.ends.length cap2))
  have hI := PIn.new w s (.slice ad s.slots.length cap) (.slice ad2 s.ends.length cap2)
  clear hS hC hn
  go_enter Tryd.func109, Tryd.ntmps109
  go_upto_region 1 with fail
  generalize w.alloc (pstO s (.slice ad s.slots.length cap) (.slice ad2 s.ends.length cap2)) = W at *
  have HT : Hid (TabLH W) := hT.later hb0
  have HSW : Hid (PAt W s (.slice ad s.slots.length cap) (.slice ad2 s.ends.length cap2)) := HS.out.later hb0
  have HI : Hid (PIn W w.heap.size s (.slice ad s.slots.length cap) (.slice ad2 s.ends.length cap2)) := hI
  obtain ⟨i0, i1, i2, i3, i4⟩ := hI
  have HB : Hid (Below w.heap.size w W) := hb0
  have hsW := hb0.size
  clear hb0 hT HS
  go_wp2_with fail
  refine (pline_any s n j _ _ _ HN.out hj HC.out HT.out HSW.out).mono ?_
  rintro e w1 ⟨⟨v, rfl, bb, cc, ads, caps, rfl, _, _⟩, hb1⟩
  clear i0 i1 i2 i3 i4
  have g10 : (w1.alloc (lnO (tl s.tab j) bb cc ads caps)).cell? ⟨w1.heap.size, 10, none⟩ = some (.bool (obt (pt (tl s.tab j) 5) 0 == 120)) := by simp [go_sem]
  have hb2 : Below W.heap.size W (w1.alloc (lnO (tl s.tab j) bb cc ads caps)) := hb1.alloc hb1.size _
  rw [HOp.out] at g10
  go_upto_region 2 with fail
  generalize w1.alloc (lnO (tl s.tab j) bb cc ads caps) = W2 at *
  generalize w1.heap.size = q1 at *
  have HSS2 : Hid (PAt W2 s (.slice ad s.slots.length cap) (.slice ad2 s.ends.length cap2)) := HSW.out.later hb2
  have HI2 : Hid (PIn W2 w.heap.size s (.slice ad s.slots.length cap) (.slice ad2 s.ends.length cap2)) := HI.out.later hb2
  have HB2 : Hid (Below w.heap.size w W2) := HB.out.trans (hb2.mono hsW)
  clear hb1 hb2 HSW HT HB HI
  cases ho : (Px.opt s n 0 == 120)
  · have HF : Hid (Px.lockP s n = false) := by unfold Hid Px.lockP; rw [ho]; rfl
    rw [ho] at g10
    clear ho
    go_wp2_with fail
    go_ret
    exact ⟨ret_bool' HF.out.symm, HB2.out⟩
  · have HO : Hid (Px.lockP s n = decide (0 < runsOf s n)) := by unfold Hid Px.lockP; rw [ho, Bool.true_and]; exact runsOf_any s n
    rw [ho] at g10
    clear ho
    obtain ⟨i0, i1, i2, i3, i4⟩ := HI2.out
    go_wp2_with fail
    refine (runningOf_any s n _ _ _ hl HSS2.out).mono ?_
    rintro e w3 ⟨rfl, hb3⟩
    have hle := runsOf_le s n
    generalize runsOf s n = r at *
    have HF : Hid (Below w.heap.size w w3) := HB2.out.trans (hb3.mono HB2.out.size)
    clear hb3 g10 i0 i1 i2 i3 i4
    by_cases hr : 0 < r
    · have z : (0 : Int) < (r : Int) := by omega
      go_wp2_with fail
      go_ret
      exact ⟨ret_bool' (by rw [HO.out, decide_eq_true hr]), HF.out⟩
    · have z : ¬ (0 : Int) < (r : Int) := by omega
      go_wp2_with fail
      go_ret
      exact ⟨ret_bool' (by rw [HO.out, decide_eq_false hr]), HF.out⟩
end Go.Proofs.YtdajolpoiffimaaDoor

namespace Go.Proofs.YtdajolpoiffimaaDoor
open Go.RowKit

/-- The result's block: a state of noughts. -/
abbrev pzO : Obj := .cells #[.string { data := #[] }, .int .i64 0, .int .i64 0, .slice none 0 0, .slice none 0 0] 93
/-- Behind the head of a change: the state in its block, the result's block. -/
structure PRes (w W : World) (s : Px.St) (sl en : Value) : Prop where
  st : PIn W w.heap.size s sl en
  z : ZCell W (w.heap.size + 1) 5
  ty : Typed W (w.heap.size + 1) 93
  bel : Below w.heap.size w W
  lt : w.heap.size + 1 < W.heap.size
theorem PRes.new (w : World) (s : Px.St) (sl en : Value) : PRes w ((w.alloc (pstO s sl en)).alloc pzO) s sl en := by
  have hZ := ZCell.new (w.alloc (pstO s sl en)) #[.string { data := #[] }, .int .i64 0, .int .i64 0, .slice none 0 0, .slice none 0 0] 93
  have hT := Typed.new (w.alloc (pstO s sl en)) #[.string { data := #[] }, .int .i64 0, .int .i64 0, .slice none 0 0, .slice none 0 0] 93
  exact ⟨(PIn.new w s sl en).later (below_alloc _ _), by simpa using hZ, by simpa using hT, (below_alloc w _).alloc (by simp) _, by simp⟩
theorem PRes.later {w W W' : World} {s : Px.St} {sl en : Value} (h : PRes w W s sl en) (hb : Below W.heap.size W W') : PRes w W' s sl en :=
  ⟨h.st.later hb, h.z.later h.lt hb, h.ty.later hb, h.bel.trans (hb.mono h.bel.size), Nat.lt_of_lt_of_le h.lt hb.size⟩
theorem below_set5' {n q : Nat} {w w' : World} (h : Below n w w') (hq : n ≤ q) (u0 u1 u2 u3 u4 : Value) : Below n w (((((w'.setCell ⟨q, 0, none⟩ u0).setCell ⟨q, 1, none⟩ u1).setCell ⟨q, 2, none⟩ u2).setCell ⟨q, 3, none⟩ u3).setCell ⟨q, 4, none⟩ u4) :=
  ((((h.setCell hq _).setCell hq _).setCell hq _).setCell hq _).setCell hq _
theorem PAt.store {W : World} {q : Nat} {s : Px.St} {sl en : Value} (h : PAt W s sl en) (ty : Typed W q 93) (u0 u1 u2 u3 u4 : Value) :
    PAt (((((W.setCell ⟨q, 0, none⟩ u0).setCell ⟨q, 1, none⟩ u1).setCell ⟨q, 2, none⟩ u2).setCell ⟨q, 3, none⟩ u3).setCell ⟨q, 4, none⟩ u4) s sl en := by
  have st : ∀ (w : World) (j : Nat) (u : Value), (Typed w q 93 ∧ PAt w s sl en) → (Typed (w.setCell ⟨q, j, none⟩ u) q 93 ∧ PAt (w.setCell ⟨q, j, none⟩ u) s sl en) := fun w j u h => ⟨h.1.setCell _ _ _, h.2.set h.1 (by decide) (by decide) _ _⟩
  exact (st _ _ _ (st _ _ _ (st _ _ _ (st _ _ _ (st _ _ _ ⟨ty, h⟩))))).2
theorem PAt.nil (w : World) : PAt w Px.st0 (.slice none 0 0) (.slice none 0 0) := ⟨TRow.nil _ _, TRow.nil _ _⟩
/-- What a change answers: a state, an error. -/
def ChgR (p : Px.St × Int) (w' : World) (e : Ending) : Prop := ∃ sl en, e = .returned (.tuple #[pstV p.1 sl en, .int .i64 p.2]) ∧ PAt w' p.1 sl en
theorem ChgR.err {w' : World} {p : Px.St × Int} {k : Int} (h : p = (Px.st0, k)) : ChgR p w' (.returned (.tuple #[.agg #[.string { data := #[] }, .int .i64 0, .int .i64 0, .slice none 0 0, .slice none 0 0], .int .i64 k])) := by
  subst h; exact ⟨_, _, rfl, PAt.nil _⟩

/-- A state in a block that may be written. -/
structure PW (W : World) (q : Nat) (s : Px.St) (sl en : Value) : Prop where
  st : PIn W q s sl en
  f : ∀ j : Nat, j < 5 → W.frozen? ⟨q, j, none⟩ = false
  ty : Typed W q 93
theorem PW.new (w : World) (s : Px.St) (sl en : Value) : PW (w.alloc (pstO s sl en)) w.heap.size s sl en :=
  ⟨PIn.new w s sl en, fun j _ => by simp [go_sem], Typed.new _ _ _⟩
theorem PW.below {W W' : World} {q n : Nat} {s : Px.St} {sl en : Value} (h : PW W q s sl en) (hq : q < n) (hb : Below n W W') : PW W' q s sl en :=
  ⟨h.st.below hq hb, fun j hj => (hb.frozen (p := ⟨q, j, none⟩) hq).trans (h.f j hj), h.ty.below hq hb⟩
theorem PW.later {W W' : World} {q : Nat} {s : Px.St} {sl en : Value} (h : PW W q s sl en) (hb : Below W.heap.size W W') : PW W' q s sl en := h.below h.ty.lt hb
theorem PW.slots {W : World} {q : Nat} {s : Px.St} {sl en : Value} (h : PW W q s sl en) (l : List Px.Sl) (v : Value) : PW (W.setCell ⟨q, 3, none⟩ v) q { s with slots := l } v en := by
  obtain ⟨⟨c0, c1, c2, c3, c4⟩, f, ty⟩ := h
  refine ⟨⟨?_, ?_, ?_, ?_, ?_⟩, fun j hj => ?_, ty.setCell _ _ _⟩
  case refine_6 => simp [go_sem, f j hj]
  all_goals simp [go_sem, c0, c1, c2, c3, c4]
theorem PW.ends {W : World} {q : Nat} {s : Px.St} {sl en : Value} (h : PW W q s sl en) (l : List Bx.En) (v : Value) : PW (W.setCell ⟨q, 4, none⟩ v) q { s with ends := l } sl v := by
  obtain ⟨⟨c0, c1, c2, c3, c4⟩, f, ty⟩ := h
  refine ⟨⟨?_, ?_, ?_, ?_, ?_⟩, fun j hj => ?_, ty.setCell _ _ _⟩
  case refine_6 => simp [go_sem, f j hj]
  all_goals simp [go_sem, c0, c1, c2, c3, c4]
theorem PW.next {W : World} {q : Nat} {s : Px.St} {sl en : Value} (h : PW W q s sl en) (k : Int) : PW (W.setCell ⟨q, 2, none⟩ (.int .i64 k)) q { s with next := k } sl en := by
  obtain ⟨⟨c0, c1, c2, c3, c4⟩, f, ty⟩ := h
  refine ⟨⟨?_, ?_, ?_, ?_, ?_⟩, fun j hj => ?_, ty.setCell _ _ _⟩
  case refine_6 => simp [go_sem, f j hj]
  all_goals simp [go_sem, c0, c1, c2, c3, c4]
theorem PW.clock {W : World} {q : Nat} {s : Px.St} {sl en : Value} (h : PW W q s sl en) (k : Int) : PW (W.setCell ⟨q, 1, none⟩ (.int .i64 k)) q { s with clock := k } sl en := by
  obtain ⟨⟨c0, c1, c2, c3, c4⟩, f, ty⟩ := h
  refine ⟨⟨?_, ?_, ?_, ?_, ?_⟩, fun j hj => ?_, ty.setCell _ _ _⟩
  case refine_6 => simp [go_sem, f j hj]
  all_goals simp [go_sem, c0, c1, c2, c3, c4]
theorem PW.tab {W : World} {q : Nat} {s : Px.St} {sl en : Value} (h : PW W q s sl en) (k : ByteArray) : PW (W.setCell ⟨q, 0, none⟩ (.string k)) q { s with tab := k } sl en := by
  obtain ⟨⟨c0, c1, c2, c3, c4⟩, f, ty⟩ := h
  refine ⟨⟨?_, ?_, ?_, ?_, ?_⟩, fun j hj => ?_, ty.setCell _ _ _⟩
  case refine_6 => simp [go_sem, f j hj]
  all_goals simp [go_sem, c0, c1, c2, c3, c4]
/-- A block further on is written. -/
theorem PRes.set {w W : World} {s : Px.St} {sl en : Value} (h : PRes w W s sl en) {q : Nat} (hq : w.heap.size + 1 < q) (j : Nat) (u : Value) : PRes w (W.setCell ⟨q, j, none⟩ u) s sl en := by
  have oth : ∀ (a i : Nat), a ≤ w.heap.size + 1 → (W.setCell ⟨q, j, none⟩ u).cell? ⟨a, i, none⟩ = W.cell? ⟨a, i, none⟩ := fun a i ha => World.cell?_setCell_other _ _ _ _ (by first | (simp; done) | (simp; omega))
  obtain ⟨c0, c1, c2, c3, c4⟩ := h.st
  refine ⟨⟨?_, ?_, ?_, ?_, ?_⟩, fun i hi => ⟨?_, ?_⟩, h.ty.setCell _ _ _, h.bel.setCell (by first | (simp; done) | (simp; omega)) _, by have := h.lt; simpa [World.setCell] using this⟩
  · rw [oth _ _ (by omega)]; exact c0
  · rw [oth _ _ (by omega)]; exact c1
  · rw [oth _ _ (by omega)]; exact c2
  · rw [oth _ _ (by omega)]; exact c3
  · rw [oth _ _ (by omega)]; exact c4
  · obtain ⟨u', hu⟩ := (h.z i hi).1
    exact ⟨u', by rw [oth _ _ (by omega)]; exact hu⟩
  · rw [World.frozen?_setCell]; exact (h.z i hi).2
/-- The end of a change: a state is loaded, and stored as the result. -/
structure PEnd (w W : World) (q : Nat) (t : Px.St) (sl en : Value) : Prop where
  pw : PW W q t sl en
  at' : PAt W t sl en
  z : ZCell W (w.heap.size + 1) 5
  ty : Typed W (w.heap.size + 1) 93
  bel : Below w.heap.size w W
theorem PEnd.fin {w W : World} {q : Nat} {t : Px.St} {sl en : Value} (h : PEnd w W q t sl en) (u0 u1 u2 u3 u4 : Value) :
    PAt (((((W.setCell ⟨w.heap.size + 1, 0, none⟩ u0).setCell ⟨w.heap.size + 1, 1, none⟩ u1).setCell ⟨w.heap.size + 1, 2, none⟩ u2).setCell ⟨w.heap.size + 1, 3, none⟩ u3).setCell ⟨w.heap.size + 1, 4, none⟩ u4) t sl en ∧
    Below w.heap.size w (((((W.setCell ⟨w.heap.size + 1, 0, none⟩ u0).setCell ⟨w.heap.size + 1, 1, none⟩ u1).setCell ⟨w.heap.size + 1, 2, none⟩ u2).setCell ⟨w.heap.size + 1, 3, none⟩ u3).setCell ⟨w.heap.size + 1, 4, none⟩ u4) :=
  ⟨h.at'.store h.ty _ _ _ _ _, below_set5' h.bel (by omega) _ _ _ _ _⟩

set_option maxRecDepth 10000 in
set_option maxHeartbeats 2000000 in
theorem ended_any (s : Px.St) (n : Int) (how : ByteArray) (sl en : Value) (w : World) (hl : s.slots.length ≤ 10000) (he : s.ends.length ≤ 10000) (hS : PAt w s sl en) :
    Calls Tryd.prog 85 #[pstV s sl en, .int .i64 n, .string how] w fun e w' => (∃ sl' en', e = .returned (pstV (Px.ended s n how) sl' en') ∧ PAt w' (Px.ended s n how) sl' en') ∧ Below w.heap.size w w' := by
  obtain ⟨ad, cap, rfl, hcap⟩ := hS.sl.form
  obtain ⟨ad2, cap2, rfl, hcap2⟩ := hS.en.form
  have HS : Hid (PAt w s (.slice ad s.slots.length cap) (.slice ad2 s.ends.length cap2)) := hS
  have hP := PRes.new w s (.slice ad s.slots.length cap) (.slice ad2 s.ends.length cap2)
  clear hS
  go_enter Tryd.func85, Tryd.ntmps85
  go_upto_region 1 with fail
  generalize (w.alloc (pstO s (.slice ad s.slots.length cap) (.slice ad2 s.ends.length cap2))).alloc pzO = W at *
  have HSW : PAt W s (.slice ad s.slots.length cap) (.slice ad2 s.ends.length cap2) := HS.out.later hP.bel
  obtain ⟨i0, i1, i2, i3, i4⟩ := hP.st
  have hP2 := hP.later (below_alloc W (pstO s (.slice ad s.slots.length cap) (.slice ad2 s.ends.length cap2)))
  have HS2 := HSW.later (below_alloc W (pstO s (.slice ad s.slots.length cap) (.slice ad2 s.ends.length cap2)))
  have hA := PW.new W s (.slice ad s.slots.length cap) (.slice ad2 s.ends.length cap2)
  have hWq := hP.lt
  go_upto_region 2 with fail
  clear i0 i1 i2 i3 i4 hP HSW
  generalize W.alloc (pstO s (.slice ad s.slots.length cap) (.slice ad2 s.ends.length cap2)) = W2 at *
  generalize W.heap.size = q at *
  have HP2 : Hid (PRes w W2 s (.slice ad s.slots.length cap) (.slice ad2 s.ends.length cap2)) := hP2
  have HSW2 : Hid (PAt W2 s (.slice ad s.slots.length cap) (.slice ad2 s.ends.length cap2)) := HS2
  have HA2 : Hid (PW W2 q s (.slice ad s.slots.length cap) (.slice ad2 s.ends.length cap2)) := hA
  obtain ⟨i0, i1, i2, i3, i4⟩ := hP2.st
  clear hP2 HS2 hA
  go_wp2_with fail
  refine (pwithout_any s.slots n _ _ hl HSW2.out.sl.1).mono ?_
  rintro e w3 ⟨⟨v3, rfl, hown3⟩, hb3⟩
  clear i0 i1 i2 i3 i4
  obtain ⟨ad3, cap3, hv3, _⟩ := (RowAt.of_own hown3).form
  subst hv3
  have hA3 := HA2.out.later hb3
  have a3 := hA3.st.c3
  have f3 := hA3.f 3 (by decide)
  have hq3 := hA3.ty.lt
  have HP4 := (HP2.out.later hb3).set hWq 3 (.slice ad3 (Px.skip s.slots n).length cap3)
  have HA4 := hA3.slots (Px.skip s.slots n) (.slice ad3 (Px.skip s.slots n).length cap3)
  have HS4 := (HSW2.out.later hb3).set hA3.ty (by decide) (by decide) 3 (.slice ad3 (Px.skip s.slots n).length cap3)
  have HO4 := (TRow.of_own hown3).set hA3.ty (by decide) 3 (.slice ad3 (Px.skip s.slots n).length cap3)
  clear hA3 hown3 hb3 HP2 HSW2 HA2
  go_upto_region 3 with fail
  clear a3 f3
  generalize w3.setCell ⟨q, 3, none⟩ (.slice ad3 (Px.skip s.slots n).length cap3) = W4 at *
  obtain ⟨i0, i1, i2, i3, i4⟩ := HP4.st
  have HP4' : Hid (PRes w W4 s (.slice ad s.slots.length cap) (.slice ad2 s.ends.length cap2)) := HP4
  have HA4' : Hid (PW W4 q { s with slots := Px.skip s.slots n } (.slice ad3 (Px.skip s.slots n).length cap3) (.slice ad2 s.ends.length cap2)) := HA4
  have HO4' : Hid (TRow W4 131 (.slice ad3 (Px.skip s.slots n).length cap3) (Px.skip s.slots n).length ((Px.skip s.slots n).flatMap psC)) := HO4
  have HS4' : Hid (PAt W4 s (.slice ad s.slots.length cap) (.slice ad2 s.ends.length cap2)) := HS4
  clear HP4 HA4 HO4 HS4
  go_wp2_with fail
  refine (pwithEnd_any s.ends ⟨n, how⟩ _ _ he HS4'.out.en.1).mono ?_
  rintro e w5 ⟨⟨v5, rfl, hown5⟩, hb5⟩
  clear i0 i1 i2 i3 i4
  obtain ⟨ad5, cap5, hv5, _⟩ := (RowAt.of_own hown5).form
  subst hv5
  have hA5 := HA4'.out.later hb5
  have a4 := hA5.st.c4
  have f4 := hA5.f 4 (by decide)
  have hq5 := hA5.ty.lt
  have HP6 := (HP4'.out.later hb5).set hWq 4 (.slice ad5 (Bx.push s.ends ⟨n, how⟩).length cap5)
  have HA6 : PW _ q (Px.ended s n how) _ _ := hA5.ends (Bx.push s.ends ⟨n, how⟩) (.slice ad5 (Bx.push s.ends ⟨n, how⟩).length cap5)
  have HO6 := (HO4'.out.later hb5).set hA5.ty (by decide) 4 (.slice ad5 (Bx.push s.ends ⟨n, how⟩).length cap5)
  have HE6 := (TRow.of_own hown5).set hA5.ty (by decide) 4 (.slice ad5 (Bx.push s.ends ⟨n, how⟩).length cap5)
  clear hA5 hown5 hb5 HP4' HA4' HO4' HS4'
  go_upto_region 4 with fail
  clear a4 f4
  generalize w5.setCell ⟨q, 4, none⟩ (.slice ad5 (Bx.push s.ends ⟨n, how⟩).length cap5) = W6 at *
  have HX : Hid (PEnd w W6 q (Px.ended s n how) (.slice ad3 (Px.skip s.slots n).length cap3) (.slice ad5 (Bx.push s.ends ⟨n, how⟩).length cap5)) := ⟨HA6, ⟨HO6, HE6⟩, HP6.z, HP6.ty, HP6.bel⟩
  obtain ⟨⟨⟨u0, r0⟩, f0⟩, ⟨⟨u1, r1⟩, f1⟩, ⟨⟨u2, r2⟩, f2⟩, ⟨⟨u3, r3⟩, f3⟩, ⟨⟨u4, r4⟩, f4⟩⟩ := And.intro (HP6.z 0 (by decide)) (And.intro (HP6.z 1 (by decide)) (And.intro (HP6.z 2 (by decide)) (And.intro (HP6.z 3 (by decide)) (HP6.z 4 (by decide)))))
  obtain ⟨c0, c1, c2, c3, c4⟩ := HA6.st
  clear HP6 HA6 HO6 HE6
  go_wp2_with fail
  refine bodyPost_ret (v := pstV (Px.ended s n how) (.slice ad3 (Px.skip s.slots n).length cap3) (.slice ad5 (Bx.push s.ends ⟨n, how⟩).length cap5)) (by simp [results, Tryd.results85, go_sem, r0, r1, r2, r3, r4]) rfl ?_
  exact ⟨⟨_, _, rfl, (HX.out.fin _ _ _ _ _).1⟩, (HX.out.fin _ _ _ _ _).2⟩
end Go.Proofs.YtdajolpoiffimaaDoor

namespace Go.Proofs.YtdajolpoiffimaaDoor
open Go.RowKit

theorem PRes.five {w W : World} {s : Px.St} {sl en : Value} (h : PRes w W s sl en) :
    ((∃ u, W.cell? ⟨w.heap.size + 1, 0, none⟩ = some u) ∧ W.frozen? ⟨w.heap.size + 1, 0, none⟩ = false) ∧ ((∃ u, W.cell? ⟨w.heap.size + 1, 1, none⟩ = some u) ∧ W.frozen? ⟨w.heap.size + 1, 1, none⟩ = false) ∧
    ((∃ u, W.cell? ⟨w.heap.size + 1, 2, none⟩ = some u) ∧ W.frozen? ⟨w.heap.size + 1, 2, none⟩ = false) ∧ ((∃ u, W.cell? ⟨w.heap.size + 1, 3, none⟩ = some u) ∧ W.frozen? ⟨w.heap.size + 1, 3, none⟩ = false) ∧
    ((∃ u, W.cell? ⟨w.heap.size + 1, 4, none⟩ = some u) ∧ W.frozen? ⟨w.heap.size + 1, 4, none⟩ = false) := ⟨h.z 0 (by decide), h.z 1 (by decide), h.z 2 (by decide), h.z 3 (by decide), h.z 4 (by decide)⟩
/-- What a change answers that may be. -/
theorem ChgR.ok {w' : World} {p : Px.St × Int} {t : Px.St} {sl en : Value} (h : p = (t, 0)) (ha : PAt w' t sl en) : ChgR p w' (.returned (.tuple #[pstV t sl en, .int .i64 0])) := by
  subst h; exact ⟨_, _, rfl, ha⟩

set_option maxRecDepth 10000 in
set_option maxHeartbeats 2000000 in
theorem withDone_any (s : Px.St) (n : Int) (sl en : Value) (w : World) (hl : s.slots.length ≤ 10000) (he : s.ends.length ≤ 10000) (hS : PAt w s sl en) :
    Calls Tryd.prog 111 #[pstV s sl en, .int .i64 n] w fun e w' => ChgR (Px.doneP s n) w' e ∧ Below w.heap.size w w' := by
  obtain ⟨ad, cap, rfl, hcap⟩ := hS.sl.form
  obtain ⟨ad2, cap2, rfl, hcap2⟩ := hS.en.form
  have HS : Hid (PAt w s (.slice ad s.slots.length cap) (.slice ad2 s.ends.length cap2)) := hS
  have hP := PRes.new w s (.slice ad s.slots.length cap) (.slice ad2 s.ends.length cap2)
  clear hS
  go_enter Tryd.func111, Tryd.ntmps111
  go_upto_region 1 with fail
  generalize (w.alloc (pstO s (.slice ad s.slots.length cap) (.slice ad2 s.ends.length cap2))).alloc pzO = W at *
  have HSW : Hid (PAt W s (.slice ad s.slots.length cap) (.slice ad2 s.ends.length cap2)) := HS.out.later hP.bel
  have HP : Hid (PRes w W s (.slice ad s.slots.length cap) (.slice ad2 s.ends.length cap2)) := hP
  obtain ⟨i0, i1, i2, i3, i4⟩ := hP.st
  clear hP
  go_wp2_with fail
  refine (pfind_any s n _ _ _ hl HSW.out).mono ?_
  rintro e w1 ⟨hF, hb1⟩
  clear i0 i1 i2 i3 i4
  have HP1 := HP.out.later hb1
  have HS1 := HSW.out.later hb1
  clear HP HSW hb1
  rcases hF with ⟨x, hf, rfl⟩ | ⟨hf, rfl⟩
  rotate_left
  · have HM : Hid (Px.doneP s n = (Px.st0, 8)) := by unfold Hid Px.doneP; rw [hf]
    clear hf
    generalize Px.sl0 = x at *
    have HPW2 := HP1.later (below_alloc w1 (psO x))
    clear HP1 HS1
    go_upto_region 2 with fail
    generalize w1.alloc (psO x) = W2 at *
    obtain ⟨⟨⟨u0, r0⟩, f0⟩, ⟨⟨u1, r1⟩, f1⟩, ⟨⟨u2, r2⟩, f2⟩, ⟨⟨u3, r3⟩, f3⟩, ⟨⟨u4, r4⟩, f4⟩⟩ := HPW2.five
    have HB2 : Hid (Below w.heap.size w W2) := HPW2.bel
    clear HPW2
    go_wp2_with fail
    refine bodyPost_ret (v := .tuple #[.agg #[.string { data := #[] }, .int .i64 0, .int .i64 0, .slice none 0 0, .slice none 0 0], .int .i64 8]) (by simp [results, Tryd.results111, go_sem, r0, r1, r2, r3, r4]) rfl ⟨ChgR.err HM.out, below_set5' HB2.out (by omega) _ _ _ _ _⟩
  have HFx : Hid (Px.find s.slots n = some x) := hf
  have HP2 := HP1.later (below_alloc w1 (psO x))
  have HS2 := HS1.later (below_alloc w1 (psO x))
  have hx2 := PsIn.new w1 x
  have hq1 : w1.heap.size < (w1.alloc (psO x)).heap.size := by simp
  have hq0 : w.heap.size + 1 < w1.heap.size := HP1.lt
  clear HP1 HS1 hf
  go_upto_region 2 with fail
  generalize w1.alloc (psO x) = W2 at *
  generalize w1.heap.size = xq at *
  have HPP2 : Hid (PRes w W2 s (.slice ad s.slots.length cap) (.slice ad2 s.ends.length cap2)) := HP2
  have HSS2 : Hid (PAt W2 s (.slice ad s.slots.length cap) (.slice ad2 s.ends.length cap2)) := HS2
  have HX2 : Hid (PsIn W2 xq x) := hx2
  obtain ⟨x0, x1, x2, x3, x4, x5, x6, x7⟩ := hx2
  clear HP2 HS2
  go_wp2_with fail
  refine (runs_any x W2).mono ?_
  rintro e w3 ⟨rfl, hb3⟩
  clear x0 x1 x2 x3 x4 x5 x6 x7
  have HPw3 := HPP2.out.later hb3
  have HSw3 : Hid (PAt w3 s (.slice ad s.slots.length cap) (.slice ad2 s.ends.length cap2)) := HSS2.out.later hb3
  clear HPP2 HSS2 hb3
  cases hr : decide (0 < x.step)
  · have HM : Hid (Px.doneP s n = (Px.st0, 9)) := by unfold Hid Px.doneP; rw [HFx.out]; simp only; rw [if_pos (by have := of_decide_eq_false hr; omega)]
    clear hr
    obtain ⟨⟨⟨u0, r0⟩, f0⟩, ⟨⟨u1, r1⟩, f1⟩, ⟨⟨u2, r2⟩, f2⟩, ⟨⟨u3, r3⟩, f3⟩, ⟨⟨u4, r4⟩, f4⟩⟩ := HPw3.five
    have HB2 : Hid (Below w.heap.size w w3) := HPw3.bel
    clear HPw3
    go_wp2_with fail
    refine bodyPost_ret (v := .tuple #[.agg #[.string { data := #[] }, .int .i64 0, .int .i64 0, .slice none 0 0, .slice none 0 0], .int .i64 9]) (by simp [results, Tryd.results111, go_sem, r0, r1, r2, r3, r4]) rfl ⟨ChgR.err HM.out, below_set5' HB2.out (by omega) _ _ _ _ _⟩
  · have HM : Hid (Px.doneP s n = (Px.ended s n ⟨#[100]⟩, 0)) := by unfold Hid Px.doneP; rw [HFx.out]; simp only; rw [if_neg (by have := of_decide_eq_true hr; omega), hD_eq]
    clear hr
    obtain ⟨i0, i1, i2, i3, i4⟩ := HPw3.st
    have HPP3 : Hid (PRes w w3 s (.slice ad s.slots.length cap) (.slice ad2 s.ends.length cap2)) := HPw3
    clear HPw3
    go_wp2_with fail
    refine (ended_any s n ⟨#[100]⟩ _ _ _ hl he HSw3.out).mono ?_
    rintro e w4 ⟨⟨sl4, en4, rfl, hst4⟩, hb4⟩
    clear i0 i1 i2 i3 i4
    have HPw4 := HPP3.out.later hb4
    obtain ⟨ad4, cap4, hv4, _⟩ := hst4.sl.form
    obtain ⟨ad5, cap5, hv5, _⟩ := hst4.en.form
    subst hv4 hv5
    have H4 : Hid (PAt w4 (Px.ended s n ⟨#[100]⟩) (.slice ad4 (Px.ended s n ⟨#[100]⟩).slots.length cap4) (.slice ad5 (Px.ended s n ⟨#[100]⟩).ends.length cap5)) := hst4
    have HT4 : Hid (Typed w4 (w.heap.size + 1) 93) := HPw4.ty
    have HB4 : Hid (Below w.heap.size w w4) := HPw4.bel
    obtain ⟨⟨⟨u0, r0⟩, f0⟩, ⟨⟨u1, r1⟩, f1⟩, ⟨⟨u2, r2⟩, f2⟩, ⟨⟨u3, r3⟩, f3⟩, ⟨⟨u4, r4⟩, f4⟩⟩ := HPw4.five
    clear hst4 hb4 HPw4 HPP3 HSw3
    go_wp2_with fail
    refine bodyPost_ret (v := .tuple #[pstV (Px.ended s n ⟨#[100]⟩) (.slice ad4 (Px.ended s n ⟨#[100]⟩).slots.length cap4) (.slice ad5 (Px.ended s n ⟨#[100]⟩).ends.length cap5), .int .i64 0]) (by simp [results, Tryd.results111, go_sem, r0, r1, r2, r3, r4]) rfl ⟨ChgR.ok HM.out (H4.out.store HT4.out _ _ _ _ _), below_set5' HB4.out (by omega) _ _ _ _ _⟩

/-- Tab, whatever the text. -/
def tabC (s : Px.St) (tab : ByteArray) (r : Int) : Px.St × Int := if r = 0 then Px.tabP s tab else (Px.st0, r)
set_option maxRecDepth 10000 in
set_option maxHeartbeats 2000000 in
theorem withTab_any (s : Px.St) (tab : ByteArray) (sl en : Value) (w : World) (hs : tab.size ≤ maxLen) (hT : TabLH w) (_hl : s.slots.length ≤ 10000) (hS : PAt w s sl en) :
    Calls Tryd.prog 60 #[pstV s sl en, .string tab] w fun e w' => (∃ a r : Int, ChkR tab a r ∧ ChgR (tabC s tab r) w' e) ∧ Below w.heap.size w w' := by
  obtain ⟨ad, cap, rfl, hcap⟩ := hS.sl.form
  obtain ⟨ad2, cap2, rfl, hcap2⟩ := hS.en.form
  have HS : Hid (PAt w s (.slice ad s.slots.length cap) (.slice ad2 s.ends.length cap2)) := hS
  have HSz : Hid (tab.size ≤ maxLen) := hs
  have hP := PRes.new w s (.slice ad s.slots.length cap) (.slice ad2 s.ends.length cap2)
  clear hS hs
  go_enter Tryd.func60, Tryd.ntmps60
  go_upto_region 1 with fail
  generalize (w.alloc (pstO s (.slice ad s.slots.length cap) (.slice ad2 s.ends.length cap2))).alloc pzO = W at *
  have HSW : Hid (PAt W s (.slice ad s.slots.length cap) (.slice ad2 s.ends.length cap2)) := HS.out.later hP.bel
  have HT : Hid (TabLH W) := hT.later hP.bel
  have HP : Hid (PRes w W s (.slice ad s.slots.length cap) (.slice ad2 s.ends.length cap2)) := hP
  clear hP hT
  go_wp2_with fail
  refine (read_any _ _ HSz.out HT.out).mono ?_
  rintro e w1 ⟨⟨a, r, adr, n', c, rfl, hK, _⟩, hb1⟩
  have HK : Hid (ChkR tab a r) := hK
  have hbd := hK.bd
  have g2 : (w1.alloc (.cells #[.slice adr n' c, .int .i64 a, .int .i64 r] 109)).cell? ⟨w1.heap.size, 2, none⟩ = some (.int .i64 r) := by simp [go_sem]
  have HP2 := (HP.out.later hb1).later (below_alloc w1 (.cells #[.slice adr n' c, .int .i64 a, .int .i64 r] 109))
  have HS2 := (HSW.out.later hb1).later (below_alloc w1 (.cells #[.slice adr n' c, .int .i64 a, .int .i64 r] 109))
  have hrq : w.heap.size + 1 < w1.heap.size := (HP.out.later hb1).lt
  clear hK HP HSW HT hb1
  go_upto_region 2 with fail
  generalize w1.alloc (.cells #[.slice adr n' c, .int .i64 a, .int .i64 r] 109) = W2 at *
  generalize w1.heap.size = rq at *
  have hrl : rq < W2.heap.size := World.block_lt_of_cell? _ _ g2
  by_cases hr : r = 0
  rotate_left
  · have hr' : (r != 0) = true := by simpa using hr
    have HM : Hid (tabC s tab r = (Px.st0, r)) := if_neg hr
    obtain ⟨⟨⟨u0, r0⟩, f0⟩, ⟨⟨u1, r1⟩, f1⟩, ⟨⟨u2, r2⟩, f2⟩, ⟨⟨u3, r3⟩, f3⟩, ⟨⟨u4, r4⟩, f4⟩⟩ := HP2.five
    have HB2 : Hid (Below w.heap.size w W2) := HP2.bel
    clear HP2 HS2 hr
    go_wp2_with fail
    go_region
    go_wp2_with fail
    refine bodyPost_ret (v := .tuple #[.agg #[.string { data := #[] }, .int .i64 0, .int .i64 0, .slice none 0 0, .slice none 0 0], .int .i64 r]) (by simp [results, Tryd.results60, go_sem, r0, r1, r2, r3, r4]) rfl ⟨⟨a, r, HK.out, ChgR.err HM.out⟩, ?_⟩
    first | exact (below_set5' HB2.out (by omega) _ _ _ _ _).drew | exact below_set5' HB2.out.drew (by omega) _ _ _ _ _
  subst hr
  have HP : Hid (PRes w W2 s (.slice ad s.slots.length cap) (.slice ad2 s.ends.length cap2)) := HP2
  have HSW : Hid (PAt W2 s (.slice ad s.slots.length cap) (.slice ad2 s.ends.length cap2)) := HS2
  obtain ⟨i0, i1, i2, i3, i4⟩ := HP2.st
  clear HP2 HS2 hbd
  by_cases h0 : 0 < s.slots.length
  · have HM : Hid (tabC s tab 0 = (Px.st0, 5)) := by unfold Hid tabC; rw [if_pos rfl]; exact if_pos h0
    have HPW := HP.out
    clear HP HSW
    obtain ⟨⟨⟨u0, r0⟩, f0⟩, ⟨⟨u1, r1⟩, f1⟩, ⟨⟨u2, r2⟩, f2⟩, ⟨⟨u3, r3⟩, f3⟩, ⟨⟨u4, r4⟩, f4⟩⟩ := HPW.five
    have HB2 : Hid (Below w.heap.size w W2) := HPW.bel
    clear HPW
    go_wp2_with fail
    refine bodyPost_ret (v := .tuple #[.agg #[.string { data := #[] }, .int .i64 0, .int .i64 0, .slice none 0 0, .slice none 0 0], .int .i64 5]) (by simp [results, Tryd.results60, go_sem, r0, r1, r2, r3, r4]) rfl ⟨⟨a, 0, HK.out, ChgR.err HM.out⟩, below_set5' HB2.out (by omega) _ _ _ _ _⟩
  · have HM : Hid (tabC s tab 0 = ({ s with tab := tab }, 0)) := by unfold Hid tabC; rw [if_pos rfl]; exact if_neg h0
    have hP2 := HP.out.later (below_alloc W2 (pstO s (.slice ad s.slots.length cap) (.slice ad2 s.ends.length cap2)))
    have HS2 := HSW.out.later (below_alloc W2 (pstO s (.slice ad s.slots.length cap) (.slice ad2 s.ends.length cap2)))
    have hA := PW.new W2 s (.slice ad s.slots.length cap) (.slice ad2 s.ends.length cap2)
    have hWq := HP.out.lt
    go_upto_region 7 with fail
    clear i0 i1 i2 i3 i4 HP HSW g2
    generalize W2.alloc (pstO s (.slice ad s.slots.length cap) (.slice ad2 s.ends.length cap2)) = W3 at *
    generalize W2.heap.size = q at *
    have a0 := hA.st.c0
    have f0' := hA.f 0 (by decide)
    have hq2 := hA.ty.lt
    have HP3 := hP2.set hWq 0 (.string tab)
    have HA3 := hA.tab tab
    have HS3 := HS2.set hA.ty (by decide) (by decide) 0 (.string tab)
    clear hP2 HS2 hA
    go_upto_region 8 with fail
    clear a0 f0'
    generalize W3.setCell ⟨q, 0, none⟩ (.string tab) = W4 at *
    have HX : Hid (PEnd w W4 q { s with tab := tab } (.slice ad s.slots.length cap) (.slice ad2 s.ends.length cap2)) := ⟨HA3, ⟨HS3.sl, HS3.en⟩, HP3.z, HP3.ty, HP3.bel⟩
    obtain ⟨⟨⟨u0, r0⟩, f0⟩, ⟨⟨u1, r1⟩, f1⟩, ⟨⟨u2, r2⟩, f2⟩, ⟨⟨u3, r3⟩, f3⟩, ⟨⟨u4, r4⟩, f4⟩⟩ := HP3.five
    obtain ⟨c0, c1, c2, c3, c4⟩ := HA3.st
    clear HP3 HA3 HS3
    go_wp2_with fail
    refine bodyPost_ret (v := .tuple #[pstV { s with tab := tab } (.slice ad s.slots.length cap) (.slice ad2 s.ends.length cap2), .int .i64 0]) (by simp [results, Tryd.results60, go_sem, r0, r1, r2, r3, r4]) rfl ⟨⟨a, 0, HK.out, ChgR.ok HM.out (HX.out.fin _ _ _ _ _).1⟩, (HX.out.fin _ _ _ _ _).2⟩
end Go.Proofs.YtdajolpoiffimaaDoor

namespace Go.Proofs.YtdajolpoiffimaaDoor
open Go.RowKit

abbrev pbO (b : Px.Bo) (sl en : Value) : Obj := .cells #[.int .i64 b.limit, .int .i64 b.room, .string b.st.tab, .int .i64 b.st.clock, .int .i64 b.st.next, sl, en, .string b.log] 96
/-- A box lies in a block. -/
structure PB (w : World) (B : Nat) (b : Px.Bo) (sl en : Value) : Prop where
  c0 : w.cell? ⟨B, 0, none⟩ = some (.int .i64 b.limit)
  c1 : w.cell? ⟨B, 1, none⟩ = some (.int .i64 b.room)
  c2 : w.cell? ⟨B, 2, none⟩ = some (.string b.st.tab)
  c3 : w.cell? ⟨B, 3, none⟩ = some (.int .i64 b.st.clock)
  c4 : w.cell? ⟨B, 4, none⟩ = some (.int .i64 b.st.next)
  c5 : w.cell? ⟨B, 5, none⟩ = some sl
  c6 : w.cell? ⟨B, 6, none⟩ = some en
  c7 : w.cell? ⟨B, 7, none⟩ = some (.string b.log)
  f : ∀ j : Nat, j < 8 → w.frozen? ⟨B, j, none⟩ = false
  ty : Typed w B 96
  rows : PAt w b.st sl en
theorem PB.later {w w' : World} {B : Nat} {b : Px.Bo} {sl en : Value} (h : PB w B b sl en) (hb : Below w.heap.size w w') : PB w' B b sl en :=
  ⟨cell_later hb h.c0, cell_later hb h.c1, cell_later hb h.c2, cell_later hb h.c3, cell_later hb h.c4, cell_later hb h.c5, cell_later hb h.c6, cell_later hb h.c7,
   fun j hj => (hb.frozen (p := ⟨B, j, none⟩) h.ty.lt).trans (h.f j hj), h.ty.later hb, h.rows.later hb⟩
theorem PB.new (w : World) (l r : Int) : PB (w.alloc (pbO ⟨l, r, Px.first, ByteArray.empty⟩ (.slice none 0 0) (.slice none 0 0))) w.heap.size ⟨l, r, Px.first, ByteArray.empty⟩ (.slice none 0 0) (.slice none 0 0) := by
  refine ⟨?_, ?_, ?_, ?_, ?_, ?_, ?_, ?_, fun j _ => ?_, Typed.new _ _ _, ⟨TRow.nil _ _, TRow.nil _ _⟩⟩
  all_goals simp [go_sem]
theorem PB.put {w : World} {B : Nat} {b : Px.Bo} {sl en : Value} (h : PB w B b sl en) (t : Px.St) (slt ent : Value) (log : ByteArray) (ht : PAt w t slt ent) :
    PB ((((((w.setCell ⟨B, 2, none⟩ (.string t.tab)).setCell ⟨B, 3, none⟩ (.int .i64 t.clock)).setCell ⟨B, 4, none⟩ (.int .i64 t.next)).setCell ⟨B, 5, none⟩ slt).setCell ⟨B, 6, none⟩ ent).setCell ⟨B, 7, none⟩ (.string log)) B { b with st := t, log := log } slt ent := by
  obtain ⟨c0, c1, c2, c3, c4, c5, c6, c7, f, ty, _⟩ := h
  have st : ∀ (w : World) (j : Nat) (x : Value), (Typed w B 96 ∧ PAt w t slt ent) → (Typed (w.setCell ⟨B, j, none⟩ x) B 96 ∧ PAt (w.setCell ⟨B, j, none⟩ x) t slt ent) := fun w j x h => ⟨h.1.setCell _ _ _, h.2.set h.1 (by decide) (by decide) _ _⟩
  have hs := st _ 7 (.string log) (st _ 6 ent (st _ 5 slt (st _ 4 (.int .i64 t.next) (st _ 3 (.int .i64 t.clock) (st _ 2 (.string t.tab) ⟨ty, ht⟩)))))
  refine ⟨?_, ?_, ?_, ?_, ?_, ?_, ?_, ?_, fun j hj => ?_, hs.1, hs.2⟩
  case refine_9 => simp [go_sem, f j hj]
  all_goals simp [go_sem, c0, c1, c2, c3, c4, c5, c6, c7]

set_option maxHeartbeats 1000000 in
theorem pfirst_any (w : World) : Calls Tryd.prog 59 #[] w fun e w' => e = .returned (pstV Px.first (.slice none 0 0) (.slice none 0 0)) ∧ Below w.heap.size w w' := by
  go_enter Tryd.func59, Tryd.ntmps59
  go_wp2_with fail
  refine bodyPost_ret (v := pstV Px.first (.slice none 0 0) (.slice none 0 0)) (by simp [results, Tryd.results59, go_sem, Px.first]; rfl) rfl ⟨rfl, below_alloc _ _⟩
set_option maxHeartbeats 1000000 in
theorem pnew_no (l r : Int) (w : World) (h : mayB l r = false) : Calls Tryd.prog 31 #[.int .i64 l, .int .i64 r] w fun e w' => e = .returned (.tuple #[.pointer none, .int .i64 4]) ∧ w' = w := by
  have h' : ¬ (1 ≤ l ∧ l ≤ 4 ∧ 600 ≤ r ∧ r ≤ 4000) := of_decide_eq_false h
  by_cases h1 : l < 1
  · go_enter Tryd.func31, Tryd.ntmps31
    go_wp2_with fail
    go_ret2
    exact ⟨rfl, rfl⟩
  by_cases h2 : 4 < l
  · go_enter Tryd.func31, Tryd.ntmps31
    go_wp2_with fail
    go_ret2
    exact ⟨rfl, rfl⟩
  by_cases h3 : r < 600
  · go_enter Tryd.func31, Tryd.ntmps31
    go_wp2_with fail
    go_ret2
    exact ⟨rfl, rfl⟩
  have h4 : 4000 < r := by omega
  go_enter Tryd.func31, Tryd.ntmps31
  go_wp2_with fail
  go_ret2
  exact ⟨rfl, rfl⟩
set_option maxHeartbeats 1000000 in
theorem pnew_yes (l r : Int) (w : World) (h : mayB l r = true) : Calls Tryd.prog 31 #[.int .i64 l, .int .i64 r] w fun e w' => (∃ B, e = .returned (.tuple #[.pointer (some ⟨B, 0, none⟩), .int .i64 0]) ∧ w.heap.size ≤ B ∧ PB w' B ⟨l, r, Px.first, ByteArray.empty⟩ (.slice none 0 0) (.slice none 0 0)) ∧ Below w.heap.size w w' := by
  obtain ⟨h1, h2, h3, h4⟩ : 1 ≤ l ∧ l ≤ 4 ∧ 600 ≤ r ∧ r ≤ 4000 := of_decide_eq_true h
  clear h
  go_enter Tryd.func31, Tryd.ntmps31
  go_wp2_with fail
  refine (pfirst_any w).mono ?_
  rintro e w1 ⟨rfl, hb1⟩
  have hB : Hid (PB (w1.alloc (pbO ⟨l, r, Px.first, ByteArray.empty⟩ (.slice none 0 0) (.slice none 0 0))) w1.heap.size ⟨l, r, Px.first, ByteArray.empty⟩ (.slice none 0 0) (.slice none 0 0)) := PB.new w1 l r
  have hBl : Hid (∀ o, Below w.heap.size w (w1.alloc o)) := fun o => hb1.alloc hb1.size o
  have hsz : w.heap.size ≤ w1.heap.size := hb1.size
  clear hb1
  go_wp2_with fail
  go_ret2
  exact ⟨⟨w1.heap.size, rfl, hsz, hB.out⟩, hBl.out _⟩

/-- What commit answers: the changes are kept, all of them or none. -/
inductive CommitR (b : Px.Bo) (B : Nat) (t : Px.St) (fr : ByteArray) (slt ent : Value) (w : World) : Ending → World → Prop
  | no (w' : World) (h : b.room < (b.log.size : Int) + fr.size) (hb : Below w.heap.size w w') : CommitR b B t fr slt ent w (.returned (.int .i64 13)) w'
  | yes (w' : World) (h : ¬ b.room < (b.log.size : Int) + fr.size) (hB : PB w' B { b with st := t, log := b.log ++ fr } slt ent) (hg : w.grownBy w' (some B)) : CommitR b B t fr slt ent w (.returned (.int .i64 0)) w'
set_option maxRecDepth 10000 in
set_option maxHeartbeats 2000000 in
theorem commit_any (b : Px.Bo) (B : Nat) (t : Px.St) (fr : ByteArray) (sl en slt ent : Value) (w : World) (hl : b.log.size ≤ 100000) (hf : fr.size ≤ 100000) (hB : PB w B b sl en) (ht : PAt w t slt ent) :
    Calls Tryd.prog 52 #[.pointer (some ⟨B, 0, none⟩), pstV t slt ent, .string fr] w fun e w' => CommitR b B t fr slt ent w e w' := by
  obtain ⟨ad, cap, rfl, hcap⟩ := ht.sl.form
  obtain ⟨ad2, cap2, rfl, hcap2⟩ := ht.en.form
  have hb0 := below_alloc w (pstO t (.slice ad t.slots.length cap) (.slice ad2 t.ends.length cap2))
  have hI := PIn.new w t (.slice ad t.slots.length cap) (.slice ad2 t.ends.length cap2)
  have hB1 := hB.later hb0
  have ht1 := ht.later hb0
  clear hB ht
  go_enter Tryd.func52, Tryd.ntmps52
  go_upto_region 1 with fail
  generalize w.alloc (pstO t (.slice ad t.slots.length cap) (.slice ad2 t.ends.length cap2)) = W at *
  have HB1 : Hid (PB W B b sl en) := hB1
  have HT1 : Hid (PAt W t (.slice ad t.slots.length cap) (.slice ad2 t.ends.length cap2)) := ht1
  have HB0 : Hid (Below w.heap.size w W) := hb0
  have hlt := hB1.ty.lt
  have e0 := hB1.c0; have e1 := hB1.c1; have e2 := hB1.c2; have e3 := hB1.c3; have e4 := hB1.c4; have e5 := hB1.c5; have e6 := hB1.c6; have e7 := hB1.c7
  obtain ⟨i0, i1, i2, i3, i4⟩ := hI
  have g2 := hB1.f 2 (by decide); have g3 := hB1.f 3 (by decide); have g4 := hB1.f 4 (by decide); have g5 := hB1.f 5 (by decide); have g6 := hB1.f 6 (by decide); have g7 := hB1.f 7 (by decide)
  have z0 : ¬ 9223372036854775807 < b.log.size + fr.size := by omega
  clear hB1 ht1 hb0
  by_cases hr : b.room < (b.log.size : Int) + (fr.size : Int)
  · have hd : decide (b.room < (b.log.size : Int) + (fr.size : Int)) = true := decide_eq_true hr
    go_wp2_with fail
    go_quiet (fail)
    go_wp2_with fail
    go_ret
    exact CommitR.no _ hr (below_drewN HB0.out _)
  · have hd : decide (b.room < (b.log.size : Int) + (fr.size : Int)) = false := decide_eq_false hr
    go_wp2_with fail
    go_quiet (fail)
    have hbd : Below W.heap.size W (W.drewN nq) := below_drewN (Below.refl _ _) nq
    have HB2 := HB1.out.later hbd
    have HT2 := HT1.out.later hbd
    have hg0 : Hid (w.grownBy (W.drewN nq) (some B)) := grow_of_below (HB0.out.trans (hbd.mono HB0.out.size)) _
    obtain ⟨j0, j1, j2, j3, j4⟩ : PIn (W.drewN nq) w.heap.size t (.slice ad t.slots.length cap) (.slice ad2 t.ends.length cap2) := (⟨i0, i1, i2, i3, i4⟩ : PIn W w.heap.size t _ _).later hbd
    have hlt2 := HB2.ty.lt
    clear i0 i1 i2 i3 i4 e0 e1 e2 e3 e4 e5 e6 e7 g2 g3 g4 g5 g6 g7
    generalize W.drewN nq = W2 at *
    have e0 := HB2.c0; have e1 := HB2.c1; have e2 := HB2.c2; have e3 := HB2.c3; have e4 := HB2.c4; have e5 := HB2.c5; have e6 := HB2.c6; have e7 := HB2.c7
    have g2 := HB2.f 2 (by decide); have g3 := HB2.f 3 (by decide); have g4 := HB2.f 4 (by decide); have g5 := HB2.f 5 (by decide); have g6 := HB2.f 6 (by decide); have g7 := HB2.f 7 (by decide)
    have HF : Hid (PB _ B { b with st := t, log := b.log ++ fr } (.slice ad t.slots.length cap) (.slice ad2 t.ends.length cap2)) := HB2.put t _ _ (b.log ++ fr) HT2
    clear HB2 HT2 hbd
    go_wp2_with fail
    go_ret
    exact CommitR.yes _ (by omega) HF.out (grow_set (grow_set (grow_set (grow_set (grow_set (grow_set hg0.out _ _) _ _) _ _) _ _) _ _) _ _)
end Go.Proofs.YtdajolpoiffimaaDoor

namespace Go.Proofs.YtdajolpoiffimaaDoor
open Go.RowKit

abbrev pviewV (s : Px.St) : Value := .agg #[.int .i64 s.clock, .int .i64 s.next, .int .i64 s.slots.length, .int .i64 s.ends.length, .string s.tab]
set_option maxHeartbeats 1000000 in
theorem slook_any (s : Px.St) (sl en : Value) (w : World) (hS : PAt w s sl en) :
    Calls Tryd.prog 54 #[pstV s sl en] w fun e w' => e = .returned (pviewV s) ∧ Below w.heap.size w w' := by
  obtain ⟨ad, cap, rfl, hcap⟩ := hS.sl.form
  obtain ⟨ad2, cap2, rfl, hcap2⟩ := hS.en.form
  clear hS
  go_enter Tryd.func54, Tryd.ntmps54
  go_wp2_with fail
  refine bodyPost_ret (v := pviewV s) (by simp [results, Tryd.results54, go_sem]) rfl ⟨rfl, (below_alloc w _).alloc (by simp) _⟩
set_option maxHeartbeats 1000000 in
theorem plook_any (b : Px.Bo) (B : Nat) (sl en : Value) (w : World) (hB : PB w B b sl en) :
    Calls Tryd.prog 25 #[.pointer (some ⟨B, 0, none⟩)] w fun e w' => e = .returned (pviewV b.st) ∧ Below w.heap.size w w' := by
  obtain ⟨ad, cap, rfl, hcap⟩ := hB.rows.sl.form
  obtain ⟨ad2, cap2, rfl, hcap2⟩ := hB.rows.en.form
  have hb0 := below_alloc w (.cells #[.int .i64 0, .int .i64 0, .int .i64 0, .int .i64 0, .string { data := #[] }] 59)
  have hB1 := hB.later hb0
  have hZ := ZCell.new w #[.int .i64 0, .int .i64 0, .int .i64 0, .int .i64 0, .string { data := #[] }] 59
  have hzl : w.heap.size < (w.alloc (.cells #[.int .i64 0, .int .i64 0, .int .i64 0, .int .i64 0, .string { data := #[] }] 59)).heap.size := by simp
  clear hB
  go_enter Tryd.func25, Tryd.ntmps25
  go_upto_region 1 with fail
  generalize w.alloc (.cells #[.int .i64 0, .int .i64 0, .int .i64 0, .int .i64 0, .string { data := #[] }] 59) = W at *
  have hlt := hB1.ty.lt
  have e2 := hB1.c2; have e3 := hB1.c3; have e4 := hB1.c4; have e5 := hB1.c5; have e6 := hB1.c6
  have HR : Hid (PAt W b.st (.slice ad b.st.slots.length cap) (.slice ad2 b.st.ends.length cap2)) := hB1.rows
  clear hB1
  go_wp2_with fail
  refine (slook_any b.st _ _ _ HR.out).mono ?_
  rintro e w1 ⟨rfl, hb1⟩
  have hZ1 : ZCell w1 w.heap.size 5 := ZCell.later hZ hzl hb1
  have HB : Hid (Below w.heap.size w w1) := hb0.trans (hb1.mono hb0.size)
  obtain ⟨⟨u0, r0⟩, f0⟩ := hZ1 0 (by decide)
  obtain ⟨⟨u1, r1⟩, f1⟩ := hZ1 1 (by decide)
  obtain ⟨⟨u2, r2⟩, f2⟩ := hZ1 2 (by decide)
  obtain ⟨⟨u3, r3⟩, f3⟩ := hZ1 3 (by decide)
  obtain ⟨⟨u4, r4⟩, f4⟩ := hZ1 4 (by decide)
  clear hZ1 hZ hb1 hb0 e2 e3 e4 e5 e6
  go_wp2_with fail
  refine bodyPost_ret (v := pviewV b.st) (by simp [results, Tryd.results25, go_sem, r0, r1, r2, r3, r4]) rfl ⟨rfl, below_set5' HB.out (Nat.le_refl _) _ _ _ _ _⟩
abbrev paslV (x : Px.Sl) : Value := .agg #[.int .i64 x.num, .int .i64 x.line, .int .i64 x.minute, .int .i64 x.att, .int .i64 x.frm, .int .i64 x.step]
abbrev paslZ : Value := .agg #[.int .i64 0, .int .i64 0, .int .i64 0, .int .i64 0, .int .i64 0, .int .i64 0]
theorem below_set6 {n q : Nat} {w w' : World} (h : Below n w w') (hq : n ≤ q) (u0 u1 u2 u3 u4 u5 : Value) : Below n w ((((((w'.setCell ⟨q, 0, none⟩ u0).setCell ⟨q, 1, none⟩ u1).setCell ⟨q, 2, none⟩ u2).setCell ⟨q, 3, none⟩ u3).setCell ⟨q, 4, none⟩ u4).setCell ⟨q, 5, none⟩ u5) :=
  (((((h.setCell hq _).setCell hq _).setCell hq _).setCell hq _).setCell hq _).setCell hq _
/-- What Slot answers, what End does. -/
inductive SlotR (l : List Px.Sl) (i : Int) : Ending → Prop
  | no (h : i < 0 ∨ (l.length : Int) ≤ i) : SlotR l i (.returned (.tuple #[paslZ, .int .i64 4]))
  | yes (k : Nat) (hk : k < l.length) (h : i = (k : Int)) : SlotR l i (.returned (.tuple #[paslV l[k], .int .i64 0]))
inductive EndR (l : List Bx.En) (i : Int) : Ending → Prop
  | no (h : i < 0 ∨ (l.length : Int) ≤ i) : EndR l i (.returned (.tuple #[.agg #[.int .i64 0, .string { data := #[] }], .int .i64 4]))
  | yes (k : Nat) (hk : k < l.length) (h : i = (k : Int)) : EndR l i (.returned (.tuple #[.agg #[.int .i64 l[k].num, .string l[k].how], .int .i64 0]))
theorem EndR.yes' {l : List Bx.En} {i : Int} {k : Nat} {x : Bx.En} (hk : k < l.length) (h : i = (k : Int)) (hx : l[k] = x) : EndR l i (.returned (.tuple #[.agg #[.int .i64 x.num, .string x.how], .int .i64 0])) := by subst hx; exact EndR.yes k hk h
theorem SlotR.yes' {l : List Px.Sl} {i : Int} {k : Nat} {x : Px.Sl} (hk : k < l.length) (h : i = (k : Int)) (hx : l[k] = x) : SlotR l i (.returned (.tuple #[paslV x, .int .i64 0])) := by subst hx; exact SlotR.yes k hk h
set_option maxRecDepth 10000 in
set_option maxHeartbeats 2000000 in
theorem sslot_any (s : Px.St) (i : Int) (sl en : Value) (w : World) (hl : s.slots.length ≤ 10000) (hS : PAt w s sl en) :
    Calls Tryd.prog 58 #[pstV s sl en, .int .i64 i] w fun e w' => SlotR s.slots i e ∧ Below w.heap.size w w' := by
  obtain ⟨ad, cap, rfl, hcap⟩ := hS.sl.form
  obtain ⟨ad2, cap2, rfl, hcap2⟩ := hS.en.form
  have HR : Hid (RowAt w (.slice ad s.slots.length cap) s.slots.length (s.slots.flatMap psC)) := hS.sl.1
  have hb0 := (below_alloc w (pstO s (.slice ad s.slots.length cap) (.slice ad2 s.ends.length cap2))).alloc (by simp) (.cells #[.int .i64 0, .int .i64 0, .int .i64 0, .int .i64 0, .int .i64 0, .int .i64 0] 73)
  have hI := (PIn.new w s (.slice ad s.slots.length cap) (.slice ad2 s.ends.length cap2)).later (below_alloc _ (.cells #[.int .i64 0, .int .i64 0, .int .i64 0, .int .i64 0, .int .i64 0, .int .i64 0] 73))
  have hZ := ZCell.new (w.alloc (pstO s (.slice ad s.slots.length cap) (.slice ad2 s.ends.length cap2))) #[.int .i64 0, .int .i64 0, .int .i64 0, .int .i64 0, .int .i64 0, .int .i64 0] 73
  have hZ' : ZCell ((w.alloc (pstO s (.slice ad s.slots.length cap) (.slice ad2 s.ends.length cap2))).alloc (.cells #[.int .i64 0, .int .i64 0, .int .i64 0, .int .i64 0, .int .i64 0, .int .i64 0] 73)) (w.heap.size + 1) 6 := by simpa using hZ
  have hq : w.heap.size + 1 < ((w.alloc (pstO s (.slice ad s.slots.length cap) (.slice ad2 s.ends.length cap2))).alloc (.cells #[.int .i64 0, .int .i64 0, .int .i64 0, .int .i64 0, .int .i64 0, .int .i64 0] 73)).heap.size := by simp
  clear hS hZ
  go_enter Tryd.func58, Tryd.ntmps58
  go_upto_region 1 with fail
  generalize (w.alloc (pstO s (.slice ad s.slots.length cap) (.slice ad2 s.ends.length cap2))).alloc (.cells #[.int .i64 0, .int .i64 0, .int .i64 0, .int .i64 0, .int .i64 0, .int .i64 0] 73) = W at *
  have HB : Hid (Below w.heap.size w W) := hb0
  have HR' : Hid (RowAt W (.slice ad s.slots.length cap) s.slots.length (s.slots.flatMap psC)) := HR.out.later hb0
  have i3 := hI.c3
  clear hI hb0 HR
  by_cases h0 : i < 0
  · obtain ⟨⟨u0, r0⟩, f0⟩ := hZ' 0 (by decide)
    obtain ⟨⟨u1, r1⟩, f1⟩ := hZ' 1 (by decide)
    obtain ⟨⟨u2, r2⟩, f2⟩ := hZ' 2 (by decide)
    obtain ⟨⟨u3, r3⟩, f3⟩ := hZ' 3 (by decide)
    obtain ⟨⟨u4, r4⟩, f4⟩ := hZ' 4 (by decide)
    obtain ⟨⟨u5, r5⟩, f5⟩ := hZ' 5 (by decide)
    clear hZ'
    go_wp2_with fail
    refine bodyPost_ret (v := .tuple #[paslZ, .int .i64 4]) (by simp [results, Tryd.results58, go_sem, r0, r1, r2, r3, r4, r5]) rfl ⟨SlotR.no (Or.inl h0), below_set6 HB.out (by omega) _ _ _ _ _ _⟩
  by_cases h1 : (s.slots.length : Int) ≤ i
  · obtain ⟨⟨u0, r0⟩, f0⟩ := hZ' 0 (by decide)
    obtain ⟨⟨u1, r1⟩, f1⟩ := hZ' 1 (by decide)
    obtain ⟨⟨u2, r2⟩, f2⟩ := hZ' 2 (by decide)
    obtain ⟨⟨u3, r3⟩, f3⟩ := hZ' 3 (by decide)
    obtain ⟨⟨u4, r4⟩, f4⟩ := hZ' 4 (by decide)
    obtain ⟨⟨u5, r5⟩, f5⟩ := hZ' 5 (by decide)
    clear hZ'
    go_wp2_with fail
    refine bodyPost_ret (v := .tuple #[paslZ, .int .i64 4]) (by simp [results, Tryd.results58, go_sem, r0, r1, r2, r3, r4, r5]) rfl ⟨SlotR.no (Or.inr h1), below_set6 HB.out (by omega) _ _ _ _ _ _⟩
  obtain ⟨k, rfl⟩ : ∃ k : Nat, i = (k : Int) := ⟨i.toNat, by omega⟩
  have hlt : k < s.slots.length := by omega
  obtain ⟨b, off, cap', hv, _, hc⟩ := HR'.out.some' (by omega)
  cases hv
  obtain ⟨d0, d1, d2, d3, d4, d5, d6, d7⟩ := ps_cells hc k hlt
  have hxe : Hid (∃ x, s.slots[k] = x) := ⟨_, rfl⟩
  obtain ⟨x, hx⟩ := hxe.out
  have HX : Hid (s.slots[k] = x) := hx
  rw [hx] at d0 d1 d2 d3 d4 d5 d6 d7
  have b1 : (0 : Int) ≤ (k : Int) := by omega
  have b2 : (k : Int) < (s.slots.length : Int) := by omega
  have hxI := PsIn.new W x
  have hbA := below_alloc W (psO x)
  have hZ2 := hZ'.later hq hbA
  have HB2 : Hid (Below w.heap.size w (W.alloc (psO x))) := HB.out.alloc HB.out.size _
  clear hc hx hxe
  go_upto_region 4 with fail
  clear d0 d1 d2 d3 d4 d5 d6 d7 i3
  generalize W.alloc (psO x) = W2 at *
  generalize W.heap.size = xq at *
  obtain ⟨x0, x1, x2, x3, x4, x5, x6, x7⟩ := hxI
  have y0 : (W2.alloc (.cells #[.int .i64 x.num, .int .i64 x.line, .int .i64 x.minute, .int .i64 x.att, .int .i64 x.frm, .int .i64 x.step] 73)).cell? ⟨W2.heap.size, 0, none⟩ = some (.int .i64 x.num) := by simp [go_sem]
  have y1 : (W2.alloc (.cells #[.int .i64 x.num, .int .i64 x.line, .int .i64 x.minute, .int .i64 x.att, .int .i64 x.frm, .int .i64 x.step] 73)).cell? ⟨W2.heap.size, 1, none⟩ = some (.int .i64 x.line) := by simp [go_sem]
  have y2 : (W2.alloc (.cells #[.int .i64 x.num, .int .i64 x.line, .int .i64 x.minute, .int .i64 x.att, .int .i64 x.frm, .int .i64 x.step] 73)).cell? ⟨W2.heap.size, 2, none⟩ = some (.int .i64 x.minute) := by simp [go_sem]
  have y3 : (W2.alloc (.cells #[.int .i64 x.num, .int .i64 x.line, .int .i64 x.minute, .int .i64 x.att, .int .i64 x.frm, .int .i64 x.step] 73)).cell? ⟨W2.heap.size, 3, none⟩ = some (.int .i64 x.att) := by simp [go_sem]
  have y4 : (W2.alloc (.cells #[.int .i64 x.num, .int .i64 x.line, .int .i64 x.minute, .int .i64 x.att, .int .i64 x.frm, .int .i64 x.step] 73)).cell? ⟨W2.heap.size, 4, none⟩ = some (.int .i64 x.frm) := by simp [go_sem]
  have y5 : (W2.alloc (.cells #[.int .i64 x.num, .int .i64 x.line, .int .i64 x.minute, .int .i64 x.att, .int .i64 x.frm, .int .i64 x.step] 73)).cell? ⟨W2.heap.size, 5, none⟩ = some (.int .i64 x.step) := by simp [go_sem]
  have hZ3 := hZ2.later (World.block_lt_of_cell? _ _ (hZ2 0 (by decide)).1.choose_spec) (below_alloc W2 (.cells #[.int .i64 x.num, .int .i64 x.line, .int .i64 x.minute, .int .i64 x.att, .int .i64 x.frm, .int .i64 x.step] 73))
  have HB3 : Hid (Below w.heap.size w (W2.alloc (.cells #[.int .i64 x.num, .int .i64 x.line, .int .i64 x.minute, .int .i64 x.att, .int .i64 x.frm, .int .i64 x.step] 73))) := HB2.out.alloc HB2.out.size _
  clear hZ' hZ2 hbA
  go_upto_region 5 with fail
  clear x0 x1 x2 x3 x4 x5 x6 x7
  generalize W2.alloc (.cells #[.int .i64 x.num, .int .i64 x.line, .int .i64 x.minute, .int .i64 x.att, .int .i64 x.frm, .int .i64 x.step] 73) = W3 at *
  generalize W2.heap.size = yq at *
  obtain ⟨⟨u0, r0⟩, f0⟩ := hZ3 0 (by decide)
  obtain ⟨⟨u1, r1⟩, f1⟩ := hZ3 1 (by decide)
  obtain ⟨⟨u2, r2⟩, f2⟩ := hZ3 2 (by decide)
  obtain ⟨⟨u3, r3⟩, f3⟩ := hZ3 3 (by decide)
  obtain ⟨⟨u4, r4⟩, f4⟩ := hZ3 4 (by decide)
  obtain ⟨⟨u5, r5⟩, f5⟩ := hZ3 5 (by decide)
  clear hZ3
  go_wp2_with fail
  refine bodyPost_ret (v := .tuple #[paslV x, .int .i64 0]) (by simp [results, Tryd.results58, go_sem, r0, r1, r2, r3, r4, r5]) rfl ⟨SlotR.yes' hlt rfl HX.out, below_set6 HB3.out (by omega) _ _ _ _ _ _⟩
set_option maxRecDepth 10000 in
set_option maxHeartbeats 2000000 in
theorem send_any (s : Px.St) (i : Int) (sl en : Value) (w : World) (hl : s.ends.length ≤ 10000) (hS : PAt w s sl en) :
    Calls Tryd.prog 57 #[pstV s sl en, .int .i64 i] w fun e w' => EndR s.ends i e ∧ Below w.heap.size w w' := by
  obtain ⟨ad, cap, rfl, hcap⟩ := hS.sl.form
  obtain ⟨ad2, cap2, rfl, hcap2⟩ := hS.en.form
  have HR : Hid (RowAt w (.slice ad2 s.ends.length cap2) s.ends.length (s.ends.flatMap enC)) := hS.en.1
  have hb0 := (below_alloc w (pstO s (.slice ad s.slots.length cap) (.slice ad2 s.ends.length cap2))).alloc (by simp) (.cells #[.int .i64 0, .string { data := #[] }] 69)
  have hI := (PIn.new w s (.slice ad s.slots.length cap) (.slice ad2 s.ends.length cap2)).later (below_alloc _ (.cells #[.int .i64 0, .string { data := #[] }] 69))
  have hZ := ZCell.new (w.alloc (pstO s (.slice ad s.slots.length cap) (.slice ad2 s.ends.length cap2))) #[.int .i64 0, .string { data := #[] }] 69
  have hZ' : ZCell ((w.alloc (pstO s (.slice ad s.slots.length cap) (.slice ad2 s.ends.length cap2))).alloc (.cells #[.int .i64 0, .string { data := #[] }] 69)) (w.heap.size + 1) 2 := by simpa using hZ
  clear hS hZ
  go_enter Tryd.func57, Tryd.ntmps57
  go_upto_region 1 with fail
  generalize (w.alloc (pstO s (.slice ad s.slots.length cap) (.slice ad2 s.ends.length cap2))).alloc (.cells #[.int .i64 0, .string { data := #[] }] 69) = W at *
  have HB : Hid (Below w.heap.size w W) := hb0
  have HR' : Hid (RowAt W (.slice ad2 s.ends.length cap2) s.ends.length (s.ends.flatMap enC)) := HR.out.later hb0
  have i4 := hI.c4
  obtain ⟨⟨u0, r0⟩, f0⟩ := hZ' 0 (by decide)
  obtain ⟨⟨u1, r1⟩, f1⟩ := hZ' 1 (by decide)
  clear hI hb0 HR hZ'
  by_cases h0 : i < 0
  · go_wp2_with fail
    refine bodyPost_ret (v := .tuple #[.agg #[.int .i64 0, .string { data := #[] }], .int .i64 4]) (by simp [results, Tryd.results57, go_sem, r0, r1]) rfl ⟨EndR.no (Or.inl h0), (HB.out.setCell (by simp) _).setCell (by simp) _⟩
  by_cases h1 : (s.ends.length : Int) ≤ i
  · go_wp2_with fail
    refine bodyPost_ret (v := .tuple #[.agg #[.int .i64 0, .string { data := #[] }], .int .i64 4]) (by simp [results, Tryd.results57, go_sem, r0, r1]) rfl ⟨EndR.no (Or.inr h1), (HB.out.setCell (by simp) _).setCell (by simp) _⟩
  obtain ⟨k, rfl⟩ : ∃ k : Nat, i = (k : Int) := ⟨i.toNat, by omega⟩
  have hlt : k < s.ends.length := by omega
  obtain ⟨b, off, cap', hv, _, hc⟩ := HR'.out.some' (by omega)
  cases hv
  have d0 : W.cell? ⟨b, off + k * 2, none⟩ = some (.int .i64 s.ends[k].num) := RowAt.cell enC_len hc k hlt 0 (by decide)
  have d1 : W.cell? ⟨b, off + k * 2 + 1, none⟩ = some (.string s.ends[k].how) := RowAt.cell enC_len hc k hlt 1 (by decide)
  have hxe : Hid (∃ x, s.ends[k] = x) := ⟨_, rfl⟩
  obtain ⟨x, hx⟩ := hxe.out
  have HX : Hid (s.ends[k] = x) := hx
  rw [hx] at d0 d1
  have b1 : (0 : Int) ≤ (k : Int) := by omega
  have b2 : (k : Int) < (s.ends.length : Int) := by omega
  clear hc hx hxe
  go_wp2_with fail
  refine bodyPost_ret (v := .tuple #[.agg #[.int .i64 x.num, .string x.how], .int .i64 0]) (by simp [results, Tryd.results57, go_sem, r0, r1]) rfl ⟨EndR.yes' hlt rfl HX.out, (HB.out.setCell (by simp) _).setCell (by simp) _⟩
end Go.Proofs.YtdajolpoiffimaaDoor

namespace Go.Proofs.YtdajolpoiffimaaDoor
open Go.RowKit

set_option maxHeartbeats 1000000 in
theorem pslot_any (b : Px.Bo) (B : Nat) (i : Int) (sl en : Value) (w : World) (hl : b.st.slots.length ≤ 10000) (hB : PB w B b sl en) :
    Calls Tryd.prog 30 #[.pointer (some ⟨B, 0, none⟩), .int .i64 i] w fun e w' => SlotR b.st.slots i e ∧ Below w.heap.size w w' := by
  obtain ⟨ad, cap, rfl, hcap⟩ := hB.rows.sl.form
  obtain ⟨ad2, cap2, rfl, hcap2⟩ := hB.rows.en.form
  have hb0 := below_alloc w (.cells #[.int .i64 0, .int .i64 0, .int .i64 0, .int .i64 0, .int .i64 0, .int .i64 0] 73)
  have hB1 := hB.later hb0
  have hZ := ZCell.new w #[.int .i64 0, .int .i64 0, .int .i64 0, .int .i64 0, .int .i64 0, .int .i64 0] 73
  have hzl : w.heap.size < (w.alloc (.cells #[.int .i64 0, .int .i64 0, .int .i64 0, .int .i64 0, .int .i64 0, .int .i64 0] 73)).heap.size := by simp
  clear hB
  go_enter Tryd.func30, Tryd.ntmps30
  go_upto_region 1 with fail
  generalize w.alloc (.cells #[.int .i64 0, .int .i64 0, .int .i64 0, .int .i64 0, .int .i64 0, .int .i64 0] 73) = W at *
  have hlt := hB1.ty.lt
  have e2 := hB1.c2; have e3 := hB1.c3; have e4 := hB1.c4; have e5 := hB1.c5; have e6 := hB1.c6
  have HR : Hid (PAt W b.st (.slice ad b.st.slots.length cap) (.slice ad2 b.st.ends.length cap2)) := hB1.rows
  clear hB1
  go_wp2_with fail
  refine (sslot_any b.st i _ _ _ hl HR.out).mono ?_
  rintro e w1 ⟨hA, hb1⟩
  have hZ1 : ZCell w1 w.heap.size 6 := ZCell.later hZ hzl hb1
  have HB : Hid (Below w.heap.size w w1) := hb0.trans (hb1.mono hb0.size)
  obtain ⟨⟨u0, r0⟩, f0⟩ := hZ1 0 (by decide)
  obtain ⟨⟨u1, r1⟩, f1⟩ := hZ1 1 (by decide)
  obtain ⟨⟨u2, r2⟩, f2⟩ := hZ1 2 (by decide)
  obtain ⟨⟨u3, r3⟩, f3⟩ := hZ1 3 (by decide)
  obtain ⟨⟨u4, r4⟩, f4⟩ := hZ1 4 (by decide)
  obtain ⟨⟨u5, r5⟩, f5⟩ := hZ1 5 (by decide)
  clear hZ1 hZ hb1 hb0 e2 e3 e4 e5 e6
  cases hA with
  | no h =>
    go_wp2_with fail
    refine bodyPost_ret (v := .tuple #[paslZ, .int .i64 4]) (by simp [results, Tryd.results30, go_sem, r0, r1, r2, r3, r4, r5]) rfl ⟨SlotR.no h, below_set6 HB.out (Nat.le_refl _) _ _ _ _ _ _⟩
  | yes k hk h =>
    have HX : Hid (∃ x, b.st.slots[k] = x) := ⟨_, rfl⟩
    obtain ⟨x, hx⟩ := HX.out
    have HE : Hid (b.st.slots[k] = x) := hx
    rw [hx]
    clear hx HX
    go_wp2_with fail
    refine bodyPost_ret (v := .tuple #[paslV x, .int .i64 0]) (by simp [results, Tryd.results30, go_sem, r0, r1, r2, r3, r4, r5]) rfl ⟨SlotR.yes' hk h HE.out, below_set6 HB.out (Nat.le_refl _) _ _ _ _ _ _⟩
set_option maxHeartbeats 1000000 in
theorem pend_any (b : Px.Bo) (B : Nat) (i : Int) (sl en : Value) (w : World) (hl : b.st.ends.length ≤ 10000) (hB : PB w B b sl en) :
    Calls Tryd.prog 29 #[.pointer (some ⟨B, 0, none⟩), .int .i64 i] w fun e w' => EndR b.st.ends i e ∧ Below w.heap.size w w' := by
  obtain ⟨ad, cap, rfl, hcap⟩ := hB.rows.sl.form
  obtain ⟨ad2, cap2, rfl, hcap2⟩ := hB.rows.en.form
  have hb0 := below_alloc w (.cells #[.int .i64 0, .string { data := #[] }] 69)
  have hB1 := hB.later hb0
  have hZ := ZCell.new w #[.int .i64 0, .string { data := #[] }] 69
  have hzl : w.heap.size < (w.alloc (.cells #[.int .i64 0, .string { data := #[] }] 69)).heap.size := by simp
  clear hB
  go_enter Tryd.func29, Tryd.ntmps29
  go_upto_region 1 with fail
  generalize w.alloc (.cells #[.int .i64 0, .string { data := #[] }] 69) = W at *
  have hlt := hB1.ty.lt
  have e2 := hB1.c2; have e3 := hB1.c3; have e4 := hB1.c4; have e5 := hB1.c5; have e6 := hB1.c6
  have HR : Hid (PAt W b.st (.slice ad b.st.slots.length cap) (.slice ad2 b.st.ends.length cap2)) := hB1.rows
  clear hB1
  go_wp2_with fail
  refine (send_any b.st i _ _ _ hl HR.out).mono ?_
  rintro e w1 ⟨hA, hb1⟩
  have hZ1 : ZCell w1 w.heap.size 2 := ZCell.later hZ hzl hb1
  have HB : Hid (Below w.heap.size w w1) := hb0.trans (hb1.mono hb0.size)
  obtain ⟨⟨u0, r0⟩, f0⟩ := hZ1 0 (by decide)
  obtain ⟨⟨u1, r1⟩, f1⟩ := hZ1 1 (by decide)
  clear hZ1 hZ hb1 hb0 e2 e3 e4 e5 e6
  cases hA with
  | no h =>
    go_wp2_with fail
    refine bodyPost_ret (v := .tuple #[.agg #[.int .i64 0, .string { data := #[] }], .int .i64 4]) (by simp [results, Tryd.results29, go_sem, r0, r1]) rfl ⟨EndR.no h, (HB.out.setCell (Nat.le_refl _) _).setCell (Nat.le_refl _) _⟩
  | yes k hk h =>
    have HX : Hid (∃ x, b.st.ends[k] = x) := ⟨_, rfl⟩
    obtain ⟨x, hx⟩ := HX.out
    have HE : Hid (b.st.ends[k] = x) := hx
    rw [hx]
    clear hx HX
    go_wp2_with fail
    refine bodyPost_ret (v := .tuple #[.agg #[.int .i64 x.num, .string x.how], .int .i64 0]) (by simp [results, Tryd.results29, go_sem, r0, r1]) rfl ⟨EndR.yes' hk h HE.out, (HB.out.setCell (Nat.le_refl _) _).setCell (Nat.le_refl _) _⟩
set_option maxHeartbeats 1000000 in
theorem plog_any (b : Px.Bo) (B : Nat) (sl en : Value) (w : World) (hB : PB w B b sl en) :
    Calls Tryd.prog 90 #[.pointer (some ⟨B, 0, none⟩)] w fun e w' => e = .returned (.string b.log) ∧ w' = w := by
  have hlt := hB.ty.lt
  have e7 := hB.c7
  clear hB
  go_enter Tryd.func90, Tryd.ntmps90
  go_wp2_with fail
  go_ret
  exact ⟨rfl, rfl⟩
end Go.Proofs.YtdajolpoiffimaaDoor

namespace Go.Proofs.YtdajolpoiffimaaDoor
open Go.RowKit

/-- A block of one's own, and its cells. -/
structure Cl (W : World) (q : Nat) (t : TypeId) (cs : List Value) : Prop where
  c : ∀ j v, cs[j]? = some v → W.cell? ⟨q, j, none⟩ = some v
  f : ∀ j, j < cs.length → W.frozen? ⟨q, j, none⟩ = false
  ty : Typed W q t
theorem Cl.new (w : World) (cs : List Value) (t : TypeId) : Cl (w.alloc (.cells cs.toArray t)) w.heap.size t cs := by
  have hb : (w.alloc (.cells cs.toArray t)).heap[w.heap.size]? = some (.cells cs.toArray t (0, 0)) := by show (w.heap.push (.cells cs.toArray t))[w.heap.size]? = _; simp
  refine ⟨fun j v hj => ?_, fun j _ => ?_, Typed.new _ _ _⟩
  · rw [cell_of_row _ _ j cs.toArray t (0, 0) hb]; simpa using hj
  · unfold World.frozen?; rw [hb]; simp
theorem Cl.below {W W' : World} {q n : Nat} {t : TypeId} {cs : List Value} (h : Cl W q t cs) (hq : q < n) (hb : Below n W W') : Cl W' q t cs :=
  ⟨fun j v hj => (hb.cell (p := ⟨q, j, none⟩) hq).trans (h.c j v hj), fun j hj => (hb.frozen (p := ⟨q, j, none⟩) hq).trans (h.f j hj), h.ty.below hq hb⟩
theorem Cl.later {W W' : World} {q : Nat} {t : TypeId} {cs : List Value} (h : Cl W q t cs) (hb : Below W.heap.size W W') : Cl W' q t cs := h.below h.ty.lt hb
theorem Cl.grow {W W' : World} {q g : Nat} {t : TypeId} {cs : List Value} (h : Cl W q t cs) (hb : W.grownBy W' (some g)) (hne : q ≠ g) : Cl W' q t cs := by
  have e := hb.block q h.ty.lt (fun e => hne (by cases e; rfl))
  refine ⟨fun j v hj => ?_, fun j hj => ?_, ?_⟩
  · rw [World.cell?_of_block (a := ⟨q, j, none⟩) e]; exact h.c j v hj
  · rw [World.frozen?_of_block (a := ⟨q, j, none⟩) e]; exact h.f j hj
  · obtain ⟨cur, fr, hc⟩ := h.ty; exact ⟨cur, fr, e.trans hc⟩
theorem Cl.set {W : World} {q : Nat} {t : TypeId} {cs : List Value} (h : Cl W q t cs) (j : Nat) (hj : j < cs.length) (v : Value) : Cl (W.setCell ⟨q, j, none⟩ v) q t (cs.set j v) := by
  refine ⟨fun k u hk => ?_, fun k hk => ?_, h.ty.setCell _ _ _⟩
  · by_cases e : j = k
    · subst e
      rw [List.getElem?_set_self hj] at hk
      cases hk
      exact World.cell?_setCell_same _ _ _ (h.c j _ (List.getElem?_eq_getElem hj))
    · rw [List.getElem?_set_ne e] at hk
      rw [World.cell?_setCell_other _ _ _ _ (fun x => e (by cases x; rfl))]
      exact h.c k u hk
  · rw [World.frozen?_setCell]; exact h.f k (by simpa using hk)
theorem Cl.far {W : World} {q g : Nat} {t : TypeId} {cs : List Value} (h : Cl W q t cs) (hne : q ≠ g) (j : Nat) (v : Value) : Cl (W.setCell ⟨g, j, none⟩ v) q t cs :=
  ⟨fun k u hk => (World.cell?_setCell_other _ _ _ _ (fun x => hne (by cases x; rfl))).trans (h.c k u hk), fun k hk => by rw [World.frozen?_setCell]; exact h.f k hk, h.ty.setCell _ _ _⟩
theorem Cl.drewN {W : World} {q : Nat} {t : TypeId} {cs : List Value} (h : Cl W q t cs) (n : Nat) : Cl (W.drewN n) q t cs := h.later (below_drewN (Below.refl _ _) n)
end Go.Proofs.YtdajolpoiffimaaDoor

namespace Go.Proofs.YtdajolpoiffimaaDoor
open Go.RowKit

theorem keep2 {w : World} {a b q o1 o2 o3 : Nat} {u v x : Value} (h1 : w.cell? ⟨a, o1, none⟩ = some u) (h2 : w.cell? ⟨b, o2, none⟩ = some v) (n1 : a ≠ q) (n2 : b ≠ q) :
    (w.setCell ⟨q, o3, none⟩ x).drew.cell? ⟨a, o1, none⟩ = some u ∧ (w.setCell ⟨q, o3, none⟩ x).drew.cell? ⟨b, o2, none⟩ = some v :=
  ⟨(World.cell?_setCell_other _ _ _ _ (fun e => n1 (by cases e; rfl))).trans h1, (World.cell?_setCell_other _ _ _ _ (fun e => n2 (by cases e; rfl))).trans h2⟩
set_option maxRecDepth 10000 in
set_option maxHeartbeats 4000000 in
theorem withFail_any (s : Px.St) (n : Int) (sl en : Value) (w : World) (hO : Px.Ok s) (hT : TabLH w) (hS : PAt w s sl en) :
    Calls Tryd.prog 50 #[pstV s sl en, .int .i64 n] w fun e w' => ChgR (Px.failP s n) w' e ∧ Below w.heap.size w w' := by
  obtain ⟨ad, cap, rfl, hcap⟩ := hS.sl.form
  obtain ⟨ad2, cap2, rfl, hcap2⟩ := hS.en.form
  have HO : Hid (Px.Ok s) := hO
  have hl : s.slots.length ≤ 10000 := by have := hO.len; omega
  have he : s.ends.length ≤ 10000 := by have : s.ends.length ≤ 6 := hO.st.en; omega
  have hc1 : -1 ≤ s.clock := hO.st.c1
  have hc2 : s.clock ≤ 4223371679 := hO.st.c2
  have HS : Hid (PAt w s (.slice ad s.slots.length cap) (.slice ad2 s.ends.length cap2)) := hS
  have hP := PRes.new w s (.slice ad s.slots.length cap) (.slice ad2 s.ends.length cap2)
  clear hS hO
  go_enter Tryd.func50, Tryd.ntmps50
  go_upto_region 1 with fail
  generalize (w.alloc (pstO s (.slice ad s.slots.length cap) (.slice ad2 s.ends.length cap2))).alloc pzO = W at *
  have HSW : Hid (PAt W s (.slice ad s.slots.length cap) (.slice ad2 s.ends.length cap2)) := HS.out.later hP.bel
  have HT : Hid (TabLH W) := hT.later hP.bel
  have HP : Hid (PRes w W s (.slice ad s.slots.length cap) (.slice ad2 s.ends.length cap2)) := hP
  obtain ⟨i0, i1, i2, i3, i4⟩ := hP.st
  clear hP hT
  go_wp2_with fail
  refine (pfind_any s n _ _ _ hl HSW.out).mono ?_
  rintro e w1 ⟨hF, hb1⟩
  clear i0 i1 i2 i3 i4
  have HP1 := HP.out.later hb1
  have HS1 := HSW.out.later hb1
  have HT1 := HT.out.later hb1
  clear HP HSW hb1 HT
  rcases hF with ⟨x, hf, rfl⟩ | ⟨hf, rfl⟩
  rotate_left
  · have HM : Hid (Px.failP s n = (Px.st0, 8)) := by unfold Hid Px.failP; rw [hf]
    clear hf
    generalize Px.sl0 = x at *
    have HPW2 := HP1.later (below_alloc w1 (psO x))
    clear HP1 HS1 HT1
    go_upto_region 2 with fail
    generalize w1.alloc (psO x) = W2 at *
    obtain ⟨⟨⟨u0, r0⟩, f0⟩, ⟨⟨u1, r1⟩, f1⟩, ⟨⟨u2, r2⟩, f2⟩, ⟨⟨u3, r3⟩, f3⟩, ⟨⟨u4, r4⟩, f4⟩⟩ := HPW2.five
    have HB2 : Hid (Below w.heap.size w W2) := HPW2.bel
    clear HPW2
    go_wp2_with fail
    refine bodyPost_ret (v := .tuple #[.agg #[.string { data := #[] }, .int .i64 0, .int .i64 0, .slice none 0 0, .slice none 0 0], .int .i64 8]) (by simp [results, Tryd.results50, go_sem, r0, r1, r2, r3, r4]) rfl ⟨ChgR.err HM.out, below_set5' HB2.out (by omega) _ _ _ _ _⟩
  have HFx : Hid (Px.find s.slots n = some x) := hf
  have hxm : x ∈ s.slots := List.mem_of_find?_eq_some hf
  have HEx : Hid _ := HO.out.each hxm
  obtain ⟨hx1, hx2', hx3, hx4, hx5, hx6⟩ := HEx.out
  have hx7 : x.att ≤ 5 := HO.out.st.att5 (List.mem_map.2 ⟨x, hxm, rfl⟩ : Px.absS x ∈ _)
  obtain ⟨j, hj⟩ : ∃ j : Nat, x.line = (j : Int) + 1 := ⟨(x.line - 1).toNat, by omega⟩
  have hjt : j < tn s.tab := by omega
  have HJ : Hid (x.line = (j : Int) + 1) := hj
  have HP2 := HP1.later (below_alloc w1 (psO x))
  have HS2 := HS1.later (below_alloc w1 (psO x))
  have HT2 := HT1.later (below_alloc w1 (psO x))
  have hx2 := PsIn.new w1 x
  have hq0 : w.heap.size + 1 < w1.heap.size := HP1.lt
  clear HP1 HS1 HT1 hf hx6 hx4 hxm hj hx2'
  go_upto_region 2 with fail
  generalize w1.alloc (psO x) = W2 at *
  generalize w1.heap.size = xq at *
  have HPP2 : Hid (PRes w W2 s (.slice ad s.slots.length cap) (.slice ad2 s.ends.length cap2)) := HP2
  have HSS2 : Hid (PAt W2 s (.slice ad s.slots.length cap) (.slice ad2 s.ends.length cap2)) := HS2
  have HTT2 : Hid (TabLH W2) := HT2
  have HX2 : Hid (PsIn W2 xq x) := hx2
  obtain ⟨x0, x1, x2, x3, x4, x5, x6, x7⟩ := hx2
  clear HP2 HS2 HT2
  go_wp2_with fail
  refine (runs_any x W2).mono ?_
  rintro e w3 ⟨rfl, hb3⟩
  clear x0 x1 x2 x3 x4 x5 x6 x7
  have HPw3 := HPP2.out.later hb3
  have HSw3 : Hid (PAt w3 s (.slice ad s.slots.length cap) (.slice ad2 s.ends.length cap2)) := HSS2.out.later hb3
  have HTw3 : Hid (TabLH w3) := HTT2.out.later hb3
  have HXw3 : Hid (PsIn w3 xq x) := HX2.out.later hb3
  clear HPP2 HSS2 HTT2 HX2 hb3
  cases hr : decide (0 < x.step)
  · have HM : Hid (Px.failP s n = (Px.st0, 9)) := by unfold Hid Px.failP; rw [HFx.out]; simp only; rw [if_pos (by have := of_decide_eq_false hr; omega)]
    clear hr
    obtain ⟨⟨⟨u0, r0⟩, f0⟩, ⟨⟨u1, r1⟩, f1⟩, ⟨⟨u2, r2⟩, f2⟩, ⟨⟨u3, r3⟩, f3⟩, ⟨⟨u4, r4⟩, f4⟩⟩ := HPw3.five
    have HB2 : Hid (Below w.heap.size w w3) := HPw3.bel
    clear HPw3
    go_wp2_with fail
    refine bodyPost_ret (v := .tuple #[.agg #[.string { data := #[] }, .int .i64 0, .int .i64 0, .slice none 0 0, .slice none 0 0], .int .i64 9]) (by simp [results, Tryd.results50, go_sem, r0, r1, r2, r3, r4]) rfl ⟨ChgR.err HM.out, below_set5' HB2.out (by omega) _ _ _ _ _⟩
  have hrs : 0 < x.step := of_decide_eq_true hr
  have HM0 : Hid (Px.failP s n = if obt (pt (tl s.tab j) 5) 2 - 48 ≤ x.att then (Px.ended s n ⟨#[97]⟩, 0) else ({ s with slots := Px.repl s.slots (Px.again s x) }, 0)) := by
    unfold Hid Px.failP; rw [HFx.out]; simp only; rw [if_neg (by omega), hA_eq]
    have : Px.opt s x.line 2 = obt (pt (tl s.tab j) 5) 2 := by
      unfold Px.opt; rw [HJ.out, show ((j : Int) + 1 - 1).toNat = j by omega]; rfl
    rw [this]
  clear hr hrs
  obtain ⟨i0, i1, i2, i3, i4⟩ := HPw3.st
  obtain ⟨x0, x1, x2, x3, x4, x5, x6, x7⟩ := HXw3.out
  have HPP3 : Hid (PRes w w3 s (.slice ad s.slots.length cap) (.slice ad2 s.ends.length cap2)) := HPw3
  clear HPw3
  go_wp2_with fail
  refine (pline_any s x.line j _ _ _ HJ.out hjt HO.out.st.tab HTw3.out HSw3.out).mono ?_
  rintro e w4 ⟨⟨v, rfl, bb, cc, ads, caps, rfl, _, _⟩, hb4⟩
  clear i0 i1 i2 i3 i4 x0 x1 x2 x3 x4 x5 x6 x7
  have g12 : (w4.alloc (lnO (tl s.tab j) bb cc ads caps)).cell? ⟨w4.heap.size, 12, none⟩ = some (.int .i64 (obt (pt (tl s.tab j) 5) 2 - 48)) := by simp [go_sem]
  have HP5 := (HPP3.out.later hb4).later (below_alloc w4 (lnO (tl s.tab j) bb cc ads caps))
  have HS5 := (HSw3.out.later hb4).later (below_alloc w4 (lnO (tl s.tab j) bb cc ads caps))
  have HX5 := (HXw3.out.later hb4).later (below_alloc w4 (lnO (tl s.tab j) bb cc ads caps))
  clear HPP3 HSw3 HTw3 HXw3 hb4
  go_upto_region 7 with fail
  generalize w4.alloc (lnO (tl s.tab j) bb cc ads caps) = W5 at *
  generalize w4.heap.size = lq at *
  generalize obt (pt (tl s.tab j) 5) 2 - 48 = most at *
  have HPP5 : Hid (PRes w W5 s (.slice ad s.slots.length cap) (.slice ad2 s.ends.length cap2)) := HP5
  have HSS5 : Hid (PAt W5 s (.slice ad s.slots.length cap) (.slice ad2 s.ends.length cap2)) := HS5
  have HXX5 : Hid (PsIn W5 xq x) := HX5
  obtain ⟨i0, i1, i2, i3, i4⟩ := HP5.st
  obtain ⟨x0, x1, x2, x3, x4, x5, x6, x7⟩ := HX5
  clear HP5 HS5
  by_cases ha : most ≤ x.att
  · have HM : Hid (Px.failP s n = (Px.ended s n ⟨#[97]⟩, 0)) := by unfold Hid; rw [HM0.out, if_pos ha]
    clear HM0
    go_wp2_with fail
    refine (ended_any s n ⟨#[97]⟩ _ _ _ hl he HSS5.out).mono ?_
    rintro e w6 ⟨⟨sl4, en4, rfl, hst4⟩, hb6⟩
    clear i0 i1 i2 i3 i4 x0 x1 x2 x3 x4 x5 x6 x7 g12
    have HPw4 := HPP5.out.later hb6
    obtain ⟨ad4, cap4, hv4, _⟩ := hst4.sl.form
    obtain ⟨ad5, cap5, hv5, _⟩ := hst4.en.form
    subst hv4 hv5
    have H4 : Hid (PAt w6 (Px.ended s n ⟨#[97]⟩) (.slice ad4 (Px.ended s n ⟨#[97]⟩).slots.length cap4) (.slice ad5 (Px.ended s n ⟨#[97]⟩).ends.length cap5)) := hst4
    have HT4 : Hid (Typed w6 (w.heap.size + 1) 93) := HPw4.ty
    have HB4 : Hid (Below w.heap.size w w6) := HPw4.bel
    obtain ⟨⟨⟨u0, r0⟩, f0⟩, ⟨⟨u1, r1⟩, f1⟩, ⟨⟨u2, r2⟩, f2⟩, ⟨⟨u3, r3⟩, f3⟩, ⟨⟨u4, r4⟩, f4⟩⟩ := HPw4.five
    clear hst4 hb6 HPw4 HPP5 HSS5 HXX5
    go_wp2_with fail
    refine bodyPost_ret (v := .tuple #[pstV (Px.ended s n ⟨#[97]⟩) (.slice ad4 (Px.ended s n ⟨#[97]⟩).slots.length cap4) (.slice ad5 (Px.ended s n ⟨#[97]⟩).ends.length cap5), .int .i64 0]) (by simp [results, Tryd.results50, go_sem, r0, r1, r2, r3, r4]) rfl ⟨ChgR.ok HM.out (H4.out.store HT4.out _ _ _ _ _), below_set5' HB4.out (by omega) _ _ _ _ _⟩
  · have HM : Hid (Px.failP s n = ({ s with slots := Px.repl s.slots (Px.again s x) }, 0)) := by unfold Hid; rw [HM0.out, if_neg ha]
    clear HM0
    have hdl := Px.delay_bd' x.att
    have q1 : IntKind.i64.wrap (s.clock + Bx.delay x.att) = s.clock + Bx.delay x.att := by rw [IntKind.wrap_i64]; omega
    have q2 : IntKind.i64.wrap (x.att + 1) = x.att + 1 := by rw [IntKind.wrap_i64]; omega
    go_wp2_with fail
    refine (waiting_any x _).mono ?_
    rintro e w6 ⟨rfl, hb6⟩
    have HP6 := HPP5.out.later hb6
    have HS6 := HSS5.out.later hb6
    have HX6 := HXX5.out.later hb6
    have hxl : xq < w6.heap.size := World.block_lt_of_cell? _ _ HX6.c3
    have hwl : w.heap.size + 1 < w6.heap.size := HP6.lt
    clear hb6 HPP5 HSS5 HXX5 i0 i1 i2 i3 i4 x0 x1 x2 x3 x4 x5 x6 x7 g12
    have hbA := below_alloc w6 (psO { waitS x with att := x.att + 1 })
    have hI7 := (HP6.later hbA).st.c1
    have hX7 := (HX6.later hbA).c3
    obtain ⟨x0, x1, x2, x3, x4, x5, x6, x7⟩ := HX6
    go_upto_region 11 with fail
    clear x0 x1 x2 x3 x4 x5 x6 x7
    have HBx : Hid (Below w6.heap.size w6 ((w6.alloc (psO { waitS x with att := x.att + 1 })).setCell ⟨w6.heap.size, 4, none⟩ (.int .i64 (s.clock + Bx.delay x.att)))) := hbA.setCell (by simp) _
    have HYx : Hid (PsIn ((w6.alloc (psO { waitS x with att := x.att + 1 })).setCell ⟨w6.heap.size, 4, none⟩ (.int .i64 (s.clock + Bx.delay x.att))) w6.heap.size (Px.again s x)) := ⟨by simp [go_sem, waitS, Px.again], by simp [go_sem, waitS, Px.again], by simp [go_sem, waitS, Px.again], by simp [go_sem, waitS, Px.again], by simp [go_sem, waitS, Px.again], by simp [go_sem, waitS, Px.again], by simp [go_sem, waitS, Px.again], by simp [go_sem, waitS, Px.again]⟩
    have y4 : (w6.alloc (psO { waitS x with att := x.att + 1 })).cell? ⟨w6.heap.size, 4, none⟩ = some (.int .i64 x.frm) := by simp [go_sem, waitS]
    have g4 : (w6.alloc (psO { waitS x with att := x.att + 1 })).frozen? ⟨w6.heap.size, 4, none⟩ = false := by simp [go_sem]
    have hn1 : w.heap.size ≠ w6.heap.size := by omega
    have hn2 : xq ≠ w6.heap.size := by omega
    have hsz7 : w6.heap.size < (w6.alloc (psO { waitS x with att := x.att + 1 })).heap.size := by simp
    generalize w6.alloc (psO { waitS x with att := x.att + 1 }) = W7 at *
    have HP6' : Hid (PRes w w6 s (.slice ad s.slots.length cap) (.slice ad2 s.ends.length cap2)) := HP6
    have HS6' : Hid (PAt w6 s (.slice ad s.slots.length cap) (.slice ad2 s.ends.length cap2)) := HS6
    clear HP6 HS6 hbA
    go_wp2_with fail
    go_region_held3 (fun w' => w'.cell? ⟨w.heap.size, 1, none⟩ = some (.int .i64 s.clock) ∧ w'.cell? ⟨xq, 3, none⟩ = some (.int .i64 x.att)) ((first | exact keep2 hI7 hX7 hn1 hn2 | go_keep))
      (first
        | (go_at_call 87; refine (delay_any _ _ hx5 hx7).mono ?_; rintro e w8 ⟨rfl, rfl⟩))
    have HPx := (HP6'.out.later HBx.out).later (Below.refl _ _).drew
    have HSx := (HS6'.out.later HBx.out).later (Below.refl _ _).drew
    have HYx := HYx.out.later (Below.refl _ _).drew
    clear HP6' HS6' HBx y4 g4 hI7 hX7
    generalize w6.heap.size = aq at *
    generalize (W7.setCell ⟨aq, 4, none⟩ (.int .i64 (s.clock + Bx.delay x.att))).drew = W7 at *
    generalize Px.again s x = y at *
    have HP8 := HPx.later (below_alloc W7 (pstO s (.slice ad s.slots.length cap) (.slice ad2 s.ends.length cap2)))
    have HS8 := HSx.later (below_alloc W7 (pstO s (.slice ad s.slots.length cap) (.slice ad2 s.ends.length cap2)))
    have HY8 := HYx.later (below_alloc W7 (pstO s (.slice ad s.slots.length cap) (.slice ad2 s.ends.length cap2)))
    have hA := PW.new W7 s (.slice ad s.slots.length cap) (.slice ad2 s.ends.length cap2)
    have hWq := HPx.lt
    obtain ⟨i0, i1, i2, i3, i4⟩ := HPx.st
    clear HSx HYx
    go_upto_region 13 with fail
    clear i0 i1 i2 i3 i4 HPx
    generalize W7.alloc (pstO s (.slice ad s.slots.length cap) (.slice ad2 s.ends.length cap2)) = W8 at *
    generalize W7.heap.size = q at *
    have HPP8 : Hid (PRes w W8 s (.slice ad s.slots.length cap) (.slice ad2 s.ends.length cap2)) := HP8
    have HSS8 : Hid (PAt W8 s (.slice ad s.slots.length cap) (.slice ad2 s.ends.length cap2)) := HS8
    have HAA8 : Hid (PW W8 q s (.slice ad s.slots.length cap) (.slice ad2 s.ends.length cap2)) := hA
    obtain ⟨i0, i1, i2, i3, i4⟩ := HP8.st
    obtain ⟨y0, y1, y2, y3, y4, y5, y6, y7⟩ := HY8
    clear HP8 HS8 hA
    go_wp2_with fail
    refine (preplaced_any s.slots y _ _ hl HSS8.out.sl.1).mono ?_
    rintro e w9 ⟨⟨v9, rfl, hown9⟩, hb9⟩
    clear i0 i1 i2 i3 i4 y0 y1 y2 y3 y4 y5 y6 y7
    obtain ⟨ad9, cap9, hv9, _⟩ := (RowAt.of_own hown9).form
    subst hv9
    have hA9 := HAA8.out.later hb9
    have a3 := hA9.st.c3
    have f3' := hA9.f 3 (by decide)
    have hq9 := hA9.ty.lt
    have HP10 := (HPP8.out.later hb9).set hWq 3 (.slice ad9 (Px.repl s.slots y).length cap9)
    have HA10 := hA9.slots (Px.repl s.slots y) (.slice ad9 (Px.repl s.slots y).length cap9)
    have HE10 := ((HSS8.out.later hb9).set hA9.ty (by decide) (by decide) 3 (.slice ad9 (Px.repl s.slots y).length cap9)).en
    have HO10 := (TRow.of_own hown9).set hA9.ty (by decide) 3 (.slice ad9 (Px.repl s.slots y).length cap9)
    clear hA9 hown9 hb9 HPP8 HSS8 HAA8
    go_upto_region 14 with fail
    clear a3 f3'
    generalize w9.setCell ⟨q, 3, none⟩ (.slice ad9 (Px.repl s.slots y).length cap9) = W10 at *
    have HX : Hid (PEnd w W10 q { s with slots := Px.repl s.slots y } (.slice ad9 (Px.repl s.slots y).length cap9) (.slice ad2 s.ends.length cap2)) := ⟨HA10, ⟨HO10, HE10⟩, HP10.z, HP10.ty, HP10.bel⟩
    obtain ⟨⟨⟨u0, r0⟩, f0⟩, ⟨⟨u1, r1⟩, f1⟩, ⟨⟨u2, r2⟩, f2⟩, ⟨⟨u3, r3⟩, f3⟩, ⟨⟨u4, r4⟩, f4⟩⟩ := HP10.five
    obtain ⟨c0, c1, c2, c3, c4⟩ := HA10.st
    clear HP10 HA10 HE10 HO10
    go_wp2_with fail
    refine bodyPost_ret (v := .tuple #[pstV { s with slots := Px.repl s.slots y } (.slice ad9 (Px.repl s.slots y).length cap9) (.slice ad2 s.ends.length cap2), .int .i64 0]) (by simp [results, Tryd.results50, go_sem, r0, r1, r2, r3, r4]) rfl ⟨ChgR.ok HM.out (HX.out.fin _ _ _ _ _).1, (HX.out.fin _ _ _ _ _).2⟩
end Go.Proofs.YtdajolpoiffimaaDoor

namespace Go.Proofs.YtdajolpoiffimaaDoor
open Go.RowKit

set_option maxRecDepth 10000 in
set_option maxHeartbeats 4000000 in
theorem withStart_any (s : Px.St) (n : Int) (sl en : Value) (w : World) (hO : Px.Ok s) (hT : TabLH w) (hS : PAt w s sl en) :
    Calls Tryd.prog 91 #[pstV s sl en, .int .i64 n] w fun e w' => ChgR (Px.startP s n) w' e ∧ Below w.heap.size w w' := by
  obtain ⟨ad, cap, rfl, hcap⟩ := hS.sl.form
  obtain ⟨ad2, cap2, rfl, hcap2⟩ := hS.en.form
  have HO : Hid (Px.Ok s) := hO
  have hl : s.slots.length ≤ 10000 := by have := hO.len; omega
  have he : s.ends.length ≤ 10000 := by have : s.ends.length ≤ 6 := hO.st.en; omega
  have hc1 : -1 ≤ s.clock := hO.st.c1
  have hc2 : s.clock ≤ 4223371679 := hO.st.c2
  have HS : Hid (PAt w s (.slice ad s.slots.length cap) (.slice ad2 s.ends.length cap2)) := hS
  have hP := PRes.new w s (.slice ad s.slots.length cap) (.slice ad2 s.ends.length cap2)
  clear hS hO
  go_enter Tryd.func91, Tryd.ntmps91
  go_upto_region 1 with fail
  generalize (w.alloc (pstO s (.slice ad s.slots.length cap) (.slice ad2 s.ends.length cap2))).alloc pzO = W at *
  have HSW : Hid (PAt W s (.slice ad s.slots.length cap) (.slice ad2 s.ends.length cap2)) := HS.out.later hP.bel
  have HT : Hid (TabLH W) := hT.later hP.bel
  have HP : Hid (PRes w W s (.slice ad s.slots.length cap) (.slice ad2 s.ends.length cap2)) := hP
  obtain ⟨i0, i1, i2, i3, i4⟩ := hP.st
  clear hP hT
  go_wp2_with fail
  refine (pfind_any s n _ _ _ hl HSW.out).mono ?_
  rintro e w1 ⟨hF, hb1⟩
  clear i0 i1 i2 i3 i4
  have HP1 := HP.out.later hb1
  have HS1 := HSW.out.later hb1
  have HT1 := HT.out.later hb1
  clear HP HSW hb1 HT
  rcases hF with ⟨x, hf, rfl⟩ | ⟨hf, rfl⟩
  rotate_left
  · have HM : Hid (Px.startP s n = (Px.st0, 8)) := by unfold Hid Px.startP; rw [hf]
    clear hf
    generalize Px.sl0 = x at *
    have HPW2 := HP1.later (below_alloc w1 (psO x))
    clear HP1 HS1 HT1
    go_upto_region 2 with fail
    generalize w1.alloc (psO x) = W2 at *
    obtain ⟨⟨⟨u0, r0⟩, f0⟩, ⟨⟨u1, r1⟩, f1⟩, ⟨⟨u2, r2⟩, f2⟩, ⟨⟨u3, r3⟩, f3⟩, ⟨⟨u4, r4⟩, f4⟩⟩ := HPW2.five
    have HB2 : Hid (Below w.heap.size w W2) := HPW2.bel
    clear HPW2
    go_wp2_with fail
    refine bodyPost_ret (v := .tuple #[.agg #[.string { data := #[] }, .int .i64 0, .int .i64 0, .slice none 0 0, .slice none 0 0], .int .i64 8]) (by simp [results, Tryd.results91, go_sem, r0, r1, r2, r3, r4]) rfl ⟨ChgR.err HM.out, below_set5' HB2.out (by omega) _ _ _ _ _⟩
  have HFx : Hid (Px.find s.slots n = some x) := hf
  have hxm : x ∈ s.slots := List.mem_of_find?_eq_some hf
  have HEx : Hid _ := HO.out.each hxm
  obtain ⟨hx1, hx2', hx3, hx4, hx5, hx6⟩ := HEx.out
  have hx7 : x.att ≤ 5 := HO.out.st.att5 (List.mem_map.2 ⟨x, hxm, rfl⟩ : Px.absS x ∈ _)
  obtain ⟨j, hj⟩ : ∃ j : Nat, x.line = (j : Int) + 1 := ⟨(x.line - 1).toNat, by omega⟩
  have hjt : j < tn s.tab := by omega
  have HJ : Hid (x.line = (j : Int) + 1) := hj
  have HP2 := HP1.later (below_alloc w1 (psO x))
  have HS2 := HS1.later (below_alloc w1 (psO x))
  have HT2 := HT1.later (below_alloc w1 (psO x))
  have hx2 := PsIn.new w1 x
  have hq0 : w.heap.size + 1 < w1.heap.size := HP1.lt
  clear HP1 HS1 HT1 hf hx6 hx4 hxm hj hx2'
  go_upto_region 2 with fail
  generalize w1.alloc (psO x) = W2 at *
  generalize w1.heap.size = xq at *
  have HPP2 : Hid (PRes w W2 s (.slice ad s.slots.length cap) (.slice ad2 s.ends.length cap2)) := HP2
  have HSS2 : Hid (PAt W2 s (.slice ad s.slots.length cap) (.slice ad2 s.ends.length cap2)) := HS2
  have HTT2 : Hid (TabLH W2) := HT2
  have HX2 : Hid (PsIn W2 xq x) := hx2
  obtain ⟨x0, x1, x2, x3, x4, x5, x6, x7⟩ := hx2
  clear HP2 HS2 HT2
  go_wp2_with fail
  refine (runs_any x W2).mono ?_
  rintro e w3 ⟨rfl, hb3⟩
  clear x0 x1 x2 x3 x4 x5 x6 x7
  have HPw3 := HPP2.out.later hb3
  have HSw3 : Hid (PAt w3 s (.slice ad s.slots.length cap) (.slice ad2 s.ends.length cap2)) := HSS2.out.later hb3
  have HTw3 : Hid (TabLH w3) := HTT2.out.later hb3
  have HXw3 : Hid (PsIn w3 xq x) := HX2.out.later hb3
  clear HPP2 HSS2 HTT2 HX2 hb3
  cases hr : decide (0 < x.step)
  rotate_left
  · have HM : Hid (Px.startP s n = (Px.st0, 9)) := by unfold Hid Px.startP; rw [HFx.out]; simp only; rw [if_pos (of_decide_eq_true hr)]
    clear hr
    obtain ⟨⟨⟨u0, r0⟩, f0⟩, ⟨⟨u1, r1⟩, f1⟩, ⟨⟨u2, r2⟩, f2⟩, ⟨⟨u3, r3⟩, f3⟩, ⟨⟨u4, r4⟩, f4⟩⟩ := HPw3.five
    have HB2 : Hid (Below w.heap.size w w3) := HPw3.bel
    clear HPw3
    go_wp2_with fail
    refine bodyPost_ret (v := .tuple #[.agg #[.string { data := #[] }, .int .i64 0, .int .i64 0, .slice none 0 0, .slice none 0 0], .int .i64 9]) (by simp [results, Tryd.results91, go_sem, r0, r1, r2, r3, r4]) rfl ⟨ChgR.err HM.out, below_set5' HB2.out (by omega) _ _ _ _ _⟩
  have hrs : ¬ 0 < x.step := of_decide_eq_false hr
  have HM0 : Hid (Px.startP s n = if s.clock < x.frm then (Px.st0, 10) else if Px.lockP s x.line = true then (Px.st0, 11) else ({ s with slots := Px.repl s.slots (Px.beg s x) }, 0)) := by
    unfold Hid Px.startP; rw [HFx.out]; simp only; rw [if_neg hrs]
  clear hr hrs
  obtain ⟨i0, i1, i2, i3, i4⟩ := HPw3.st
  obtain ⟨x0, x1, x2, x3, x4, x5, x6, x7⟩ := HXw3.out
  by_cases h10 : s.clock < x.frm
  · have HM : Hid (Px.startP s n = (Px.st0, 10)) := by unfold Hid; rw [HM0.out, if_pos h10]
    clear HM0
    obtain ⟨⟨⟨u0, r0⟩, f0⟩, ⟨⟨u1, r1⟩, f1⟩, ⟨⟨u2, r2⟩, f2⟩, ⟨⟨u3, r3⟩, f3⟩, ⟨⟨u4, r4⟩, f4⟩⟩ := HPw3.five
    have HB2 : Hid (Below w.heap.size w w3) := HPw3.bel
    clear HPw3
    go_wp2_with fail
    refine bodyPost_ret (v := .tuple #[.agg #[.string { data := #[] }, .int .i64 0, .int .i64 0, .slice none 0 0, .slice none 0 0], .int .i64 10]) (by simp [results, Tryd.results91, go_sem, r0, r1, r2, r3, r4]) rfl ⟨ChgR.err HM.out, below_set5' HB2.out (by omega) _ _ _ _ _⟩
  have HM1 : Hid (Px.startP s n = if Px.lockP s x.line = true then (Px.st0, 11) else ({ s with slots := Px.repl s.slots (Px.beg s x) }, 0)) := by unfold Hid; rw [HM0.out, if_neg h10]
  have HPP3 : Hid (PRes w w3 s (.slice ad s.slots.length cap) (.slice ad2 s.ends.length cap2)) := HPw3
  clear HM0 HPw3
  go_wp2_with fail
  refine (plocked_any s x.line j _ _ _ HJ.out hjt hl HO.out.st.tab HTw3.out HSw3.out).mono ?_
  rintro e w5 ⟨rfl, hb5⟩
  clear i0 i1 i2 i3 i4 x0 x1 x2 x3 x4 x5 x6 x7
  have HPw5 := HPP3.out.later hb5
  have HSw5 := HSw3.out.later hb5
  have HXw5 := HXw3.out.later hb5
  clear HPP3 HSw3 HTw3 HXw3 hb5
  cases hk : Px.lockP s x.line
  rotate_left
  · have HM : Hid (Px.startP s n = (Px.st0, 11)) := by unfold Hid; rw [HM1.out, hk]; rfl
    clear HM1 hk HSw5 HXw5
    obtain ⟨⟨⟨u0, r0⟩, f0⟩, ⟨⟨u1, r1⟩, f1⟩, ⟨⟨u2, r2⟩, f2⟩, ⟨⟨u3, r3⟩, f3⟩, ⟨⟨u4, r4⟩, f4⟩⟩ := HPw5.five
    have HB2 : Hid (Below w.heap.size w w5) := HPw5.bel
    clear HPw5
    go_wp2_with fail
    refine bodyPost_ret (v := .tuple #[.agg #[.string { data := #[] }, .int .i64 0, .int .i64 0, .slice none 0 0, .slice none 0 0], .int .i64 11]) (by simp [results, Tryd.results91, go_sem, r0, r1, r2, r3, r4]) rfl ⟨ChgR.err HM.out, below_set5' HB2.out (by omega) _ _ _ _ _⟩
  have HM : Hid (Px.startP s n = ({ s with slots := Px.repl s.slots (Px.beg s x) }, 0)) := by unfold Hid; rw [HM1.out, hk]; rfl
  clear HM1 hk
  have hb6 : Below w5.heap.size w5 (w5.alloc (.cells #[.int .i64 x.num, .int .i64 x.line, .int .i64 x.minute, .int .i64 x.att, .int .i64 x.frm, .int .i64 1, .int .i64 s.clock, .string x.heard] 131)) := below_alloc w5 _
  have HPx := HPw5.later hb6
  have HSx := HSw5.later hb6
  have HYx : PsIn (w5.alloc (.cells #[.int .i64 x.num, .int .i64 x.line, .int .i64 x.minute, .int .i64 x.att, .int .i64 x.frm, .int .i64 1, .int .i64 s.clock, .string x.heard] 131)) w5.heap.size (Px.beg s x) := PsIn.new w5 (Px.beg s x)
  obtain ⟨i0, i1, i2, i3, i4⟩ := HPw5.st
  have hzz := HPw5.lt
  have hz0 : w.heap.size < w5.heap.size := by omega
  obtain ⟨x0, x1, x2, x3, x4, x5, x6, x7⟩ := HXw5
  clear HPw5 HSw5 hb6
  go_upto_region 13 with fail
  clear i0 i1 i2 i3 i4 x0 x1 x2 x3 x4 x5 x6 x7
  generalize w5.alloc (.cells #[.int .i64 x.num, .int .i64 x.line, .int .i64 x.minute, .int .i64 x.att, .int .i64 x.frm, .int .i64 1, .int .i64 s.clock, .string x.heard] 131) = W7 at *
  generalize w5.heap.size = aq at *
  generalize Px.beg s x = y at *
  have HP8 := HPx.later (below_alloc W7 (pstO s (.slice ad s.slots.length cap) (.slice ad2 s.ends.length cap2)))
  have HS8 := HSx.later (below_alloc W7 (pstO s (.slice ad s.slots.length cap) (.slice ad2 s.ends.length cap2)))
  have HY8 := HYx.later (below_alloc W7 (pstO s (.slice ad s.slots.length cap) (.slice ad2 s.ends.length cap2)))
  have hA := PW.new W7 s (.slice ad s.slots.length cap) (.slice ad2 s.ends.length cap2)
  have hWq := HPx.lt
  obtain ⟨i0, i1, i2, i3, i4⟩ := HPx.st
  clear HSx HYx
  go_upto_region 14 with fail
  clear i0 i1 i2 i3 i4 HPx
  generalize W7.alloc (pstO s (.slice ad s.slots.length cap) (.slice ad2 s.ends.length cap2)) = W8 at *
  generalize W7.heap.size = q at *
  have HPP8 : Hid (PRes w W8 s (.slice ad s.slots.length cap) (.slice ad2 s.ends.length cap2)) := HP8
  have HSS8 : Hid (PAt W8 s (.slice ad s.slots.length cap) (.slice ad2 s.ends.length cap2)) := HS8
  have HAA8 : Hid (PW W8 q s (.slice ad s.slots.length cap) (.slice ad2 s.ends.length cap2)) := hA
  obtain ⟨i0, i1, i2, i3, i4⟩ := HP8.st
  obtain ⟨y0, y1, y2, y3, y4, y5, y6, y7⟩ := HY8
  clear HP8 HS8 hA
  go_wp2_with fail
  refine (preplaced_any s.slots y _ _ hl HSS8.out.sl.1).mono ?_
  rintro e w9 ⟨⟨v9, rfl, hown9⟩, hb9⟩
  clear i0 i1 i2 i3 i4 y0 y1 y2 y3 y4 y5 y6 y7
  obtain ⟨ad9, cap9, hv9, _⟩ := (RowAt.of_own hown9).form
  subst hv9
  have hA9 := HAA8.out.later hb9
  have a3 := hA9.st.c3
  have f3' := hA9.f 3 (by decide)
  have hq9 := hA9.ty.lt
  have HP10 := (HPP8.out.later hb9).set hWq 3 (.slice ad9 (Px.repl s.slots y).length cap9)
  have HA10 := hA9.slots (Px.repl s.slots y) (.slice ad9 (Px.repl s.slots y).length cap9)
  have HE10 := ((HSS8.out.later hb9).set hA9.ty (by decide) (by decide) 3 (.slice ad9 (Px.repl s.slots y).length cap9)).en
  have HO10 := (TRow.of_own hown9).set hA9.ty (by decide) 3 (.slice ad9 (Px.repl s.slots y).length cap9)
  clear hA9 hown9 hb9 HPP8 HSS8 HAA8
  go_upto_region 15 with fail
  clear a3 f3'
  generalize w9.setCell ⟨q, 3, none⟩ (.slice ad9 (Px.repl s.slots y).length cap9) = W10 at *
  have HX : Hid (PEnd w W10 q { s with slots := Px.repl s.slots y } (.slice ad9 (Px.repl s.slots y).length cap9) (.slice ad2 s.ends.length cap2)) := ⟨HA10, ⟨HO10, HE10⟩, HP10.z, HP10.ty, HP10.bel⟩
  obtain ⟨⟨⟨u0, r0⟩, f0⟩, ⟨⟨u1, r1⟩, f1⟩, ⟨⟨u2, r2⟩, f2⟩, ⟨⟨u3, r3⟩, f3⟩, ⟨⟨u4, r4⟩, f4⟩⟩ := HP10.five
  obtain ⟨c0, c1, c2, c3, c4⟩ := HA10.st
  clear HP10 HA10 HE10 HO10
  go_wp2_with fail
  refine bodyPost_ret (v := .tuple #[pstV { s with slots := Px.repl s.slots y } (.slice ad9 (Px.repl s.slots y).length cap9) (.slice ad2 s.ends.length cap2), .int .i64 0]) (by simp [results, Tryd.results91, go_sem, r0, r1, r2, r3, r4]) rfl ⟨ChgR.ok HM.out (HX.out.fin _ _ _ _ _).1, (HX.out.fin _ _ _ _ _).2⟩
end Go.Proofs.YtdajolpoiffimaaDoor

namespace Go.Proofs.YtdajolpoiffimaaDoor
open Go.RowKit

theorem behL_drop {u : List UInt8} {t : List UInt8} {k : Nat} (h : k < t.length) (hp : u.isPrefixOf (t.drop k) = false) : behL u (t.drop k) = behL u (t.drop (k + 1)) := by
  rw [List.drop_eq_getElem_cons h] at hp ⊢
  exact behL_no hp
set_option maxHeartbeats 1000000 in
theorem pbehind_any (t u : ByteArray) (w : World) (ht : t.size ≤ 1000000) (hu : u.size ≤ 1000) (hu1 : 0 < u.size) :
    Calls Tryd.prog 124 #[.string t, .string u] w fun e w' => e = .returned (.tuple #[.string (behS t u), .bool (behB t u)]) ∧ w' = w := by
  go_enter Tryd.func124, Tryd.ntmps124
  go_wp2_with fail
  go_loop [6] (fun v => ∃ k : Nat, v = .int .i64 k ∧ k ≤ t.size ∧ behL u.data.toList (t.data.toList.drop k) = behL u.data.toList t.data.toList) (fun v => t.size + 1 - (intOf v).toNat)
  case atStart => exact ⟨0, rfl, Nat.zero_le _, by rw [List.drop_zero]⟩
  case round =>
    obtain ⟨k, rfl, hk, hbe⟩ := hrel
    have Hbe : Hid (behL u.data.toList (t.data.toList.drop k) = behL u.data.toList t.data.toList) := hbe
    clear hbe
    have hul : u.data.toList.length = u.size := by simp
    have htl : t.data.toList.length = t.size := by simp
    by_cases hlt : k + u.size ≤ t.size
    · have z1 : (k : Int) + (u.size : Int) ≤ (t.size : Int) := by omega
      have z2 : (0 : Int) ≤ (k : Int) := by omega
      have z3 : (k : Int) ≤ (k : Int) + (u.size : Int) := by omega
      have z4 : ((k : Int) + (u.size : Int)).toNat = k + u.size := by omega
      have z5 : ((k : Int)).toNat = k := by omega
      have hext : (t.extract k (k + u.size)).data.toList = (t.data.toList.drop k).take u.size := by
        rw [ext_list]; congr 1; omega
      cases he : ((t.extract k (k + u.size)).toList == u.toList)
      · have hp : u.data.toList.isPrefixOf (t.data.toList.drop k) = false := by
          cases hh : u.data.toList.isPrefixOf (t.data.toList.drop k)
          · rfl
          · have h1 := List.prefix_iff_eq_take.1 (List.isPrefixOf_iff_prefix.1 hh)
            have h2 : (t.extract k (k + u.size)).toList = u.toList := by
              rw [ByteArray.toList_eq, ByteArray.toList_eq, hext, ← hul, ← h1]
            rw [h2] at he; simp at he
        have HN : Hid (behL u.data.toList (t.data.toList.drop (k + 1)) = behL u.data.toList t.data.toList) := by
          unfold Hid
          rw [← behL_drop (by omega) hp]; exact Hbe.out
        clear hp hul htl hext
        go_wp2_with fail
        go_round
        case rel => exact ⟨k + 1, by go_num, by omega, HN.out⟩
        case measure => simp [intOf]; omega
      · have hp : u.data.toList.isPrefixOf (t.data.toList.drop k) = true := by
          have h2 : (t.extract k (k + u.size)).toList = u.toList := by simpa using he
          rw [ByteArray.toList_eq, ByteArray.toList_eq, hext] at h2
          rw [List.isPrefixOf_iff_prefix, List.prefix_iff_eq_take, hul]; exact h2.symm
        have HN : Hid (behL u.data.toList t.data.toList = some (t.data.toList.drop (k + u.size))) := by
          unfold Hid; rw [← Hbe.out, behL_yes hp, hul, List.drop_drop]
        have HS : Hid (behS t u = t.extract (k + u.size) t.size ∧ behB t u = true) := by
          unfold Hid behS behB; rw [HN.out]
          refine ⟨?_, rfl⟩
          apply ByteArray.ext
          apply Array.toList_inj.1
          rw [ext_list]
          show (t.data.toList.drop (k + u.size)) = _
          rw [List.take_of_length_le (by rw [List.length_drop, htl]; omega)]
        clear hp hul htl hext HN
        go_wp2_with fail
        go_ret2
        rw [HS.out.1, HS.out.2]
        exact ⟨rfl, rfl⟩
    · have z1 : ¬ (k : Int) + (u.size : Int) ≤ (t.size : Int) := by omega
      have HS : Hid (behS t u = ByteArray.empty ∧ behB t u = false) := by
        unfold Hid behS behB
        rw [← Hbe.out, behL_short (by rw [List.length_drop, hul, htl]; omega)]
        exact ⟨rfl, rfl⟩
      clear hul htl
      go_wp2_with fail
      go_ret2
      rw [HS.out.1, HS.out.2]
      exact ⟨rfl, rfl⟩

set_option maxHeartbeats 1000000 in
theorem ending_any (t : ByteArray) (k : Nat) (n : Int) (w : World) (hn : n = (k : Int)) (ht : t.size ≤ 1000000) (hk : k ≤ 1000) :
    Calls Tryd.prog 125 #[.string t, .int .i64 n] w fun e w' => e = .returned (.string (Px.lastB t k)) ∧ w' = w := by
  subst hn
  by_cases h : k < t.size
  · have HL : Hid (Px.lastB t k = t.extract (t.size - k) t.size) := by unfold Hid Px.lastB; rw [if_pos h]
    have z1 : ¬ (t.size : Int) ≤ (k : Int) := by omega
    have z2 : ((t.size : Int) - (k : Int)).toNat = t.size - k := by omega
    have z3 : (0 : Int) ≤ (t.size : Int) - (k : Int) := by omega
    have z4 : (t.size : Int) - (k : Int) ≤ (t.size : Int) := by omega
    go_enter Tryd.func125, Tryd.ntmps125
    go_wp2_with fail
    go_ret
    rw [HL.out]
    exact ⟨rfl, rfl⟩
  · have HL : Hid (Px.lastB t k = t) := by unfold Hid Px.lastB; rw [if_neg h]
    have z1 : (t.size : Int) ≤ (k : Int) := by omega
    go_enter Tryd.func125, Tryd.ntmps125
    go_wp2_with fail
    go_ret
    rw [HL.out]
    exact ⟨rfl, rfl⟩
end Go.Proofs.YtdajolpoiffimaaDoor

namespace Go.Proofs.YtdajolpoiffimaaDoor
open Go.RowKit

/-- What holds while a slot talks: it lies in its block, behind it the result's. -/
structure GIn (w wr : World) (y : Px.Sl) : Prop where
  ps : PsIn wr w.heap.size y
  fb : ∀ j : Nat, j < 8 → wr.frozen? ⟨w.heap.size, j, none⟩ = false
  z : ZCell wr (w.heap.size + 1) 8
  bel : Below w.heap.size w wr
  lt : w.heap.size + 1 < wr.heap.size
theorem GIn.new (w : World) (x : Px.Sl) : GIn w ((w.alloc (psO x)).alloc (.cells #[.int .i64 0, .int .i64 0, .int .i64 0, .int .i64 0, .int .i64 0, .int .i64 0, .int .i64 0, .string { data := #[] }] 131)) x := by
  have hZ := ZCell.new (w.alloc (psO x)) #[.int .i64 0, .int .i64 0, .int .i64 0, .int .i64 0, .int .i64 0, .int .i64 0, .int .i64 0, .string { data := #[] }] 131
  refine ⟨(PsIn.new w x).later (below_alloc _ _), fun j _ => ?_, by simpa using hZ, (below_alloc w _).alloc (by simp) _, by simp⟩
  rw [(below_alloc (w.alloc (psO x)) _).frozen (p := ⟨w.heap.size, j, none⟩) (by simp)]; simp [go_sem]
/-- A cell of the slot is written. -/
theorem GIn.set {w wr : World} {y y' : Px.Sl} (h : GIn w wr y) (j : Nat) (u : Value) (hps : PsIn (wr.setCell ⟨w.heap.size, j, none⟩ u) w.heap.size y') : GIn w (wr.setCell ⟨w.heap.size, j, none⟩ u) y' := by
  refine ⟨hps, fun i hi => by rw [World.frozen?_setCell]; exact h.fb i hi, fun i hi => ⟨?_, by rw [World.frozen?_setCell]; exact (h.z i hi).2⟩, h.bel.setCell (by simp) _, by have := h.lt; simpa [World.setCell] using this⟩
  obtain ⟨v, hv⟩ := (h.z i hi).1
  exact ⟨v, by rw [World.cell?_setCell_other _ _ _ _ (by simp)]; exact hv⟩
theorem GIn.step {w wr : World} {y : Px.Sl} (h : GIn w wr y) (k : Int) : GIn w (wr.setCell ⟨w.heap.size, 5, none⟩ (.int .i64 k)) { y with step := k } := by
  refine h.set 5 _ ?_
  obtain ⟨c0, c1, c2, c3, c4, c5, c6, c7⟩ := h.ps
  refine ⟨?_, ?_, ?_, ?_, ?_, ?_, ?_, ?_⟩ <;> simp [go_sem, c0, c1, c2, c3, c4, c5, c6, c7]
theorem GIn.ans {w wr : World} {y : Px.Sl} (h : GIn w wr y) (k : Int) : GIn w (wr.setCell ⟨w.heap.size, 6, none⟩ (.int .i64 k)) { y with ans := k } := by
  refine h.set 6 _ ?_
  obtain ⟨c0, c1, c2, c3, c4, c5, c6, c7⟩ := h.ps
  refine ⟨?_, ?_, ?_, ?_, ?_, ?_, ?_, ?_⟩ <;> simp [go_sem, c0, c1, c2, c3, c4, c5, c6, c7]
theorem GIn.heard {w wr : World} {y : Px.Sl} (h : GIn w wr y) (k : ByteArray) : GIn w (wr.setCell ⟨w.heap.size, 7, none⟩ (.string k)) { y with heard := k } := by
  refine h.set 7 _ ?_
  obtain ⟨c0, c1, c2, c3, c4, c5, c6, c7⟩ := h.ps
  refine ⟨?_, ?_, ?_, ?_, ?_, ?_, ?_, ?_⟩ <;> simp [go_sem, c0, c1, c2, c3, c4, c5, c6, c7]
theorem below_set8 {n q : Nat} {w w' : World} (h : Below n w w') (hq : n ≤ q) (u0 u1 u2 u3 u4 u5 u6 u7 : Value) : Below n w ((((((((w'.setCell ⟨q, 0, none⟩ u0).setCell ⟨q, 1, none⟩ u1).setCell ⟨q, 2, none⟩ u2).setCell ⟨q, 3, none⟩ u3).setCell ⟨q, 4, none⟩ u4).setCell ⟨q, 5, none⟩ u5).setCell ⟨q, 6, none⟩ u6).setCell ⟨q, 7, none⟩ u7) :=
  (((((((h.setCell hq _).setCell hq _).setCell hq _).setCell hq _).setCell hq _).setCell hq _).setCell hq _).setCell hq _
theorem ret_go {x : Px.Sl} {a : ByteArray} {p : Px.Sl × ByteArray} (h : p = (x, a)) : Ending.returned (.tuple #[psV x, .string a]) = .returned (.tuple #[psV p.1, .string p.2]) := by subst h; rfl
theorem behB_no {t u : ByteArray} (h : behB t u = false) : behS t u = ByteArray.empty := by
  unfold behB at h; unfold behS
  cases q : behL u.data.toList t.data.toList with
  | none => rfl
  | some l => rw [q] at h; simp at h

set_option maxRecDepth 10000 in
set_option maxHeartbeats 4000000 in
theorem goOn_any (x : Px.Sl) (L : List ByteArray) (sv : Value) (c : Int) (w : World) (hL5 : L.length ≤ 5) (hsz : ∀ z ∈ L, 2 ≤ z.size ∧ z.size ≤ 9) (hs1 : 1 ≤ x.step) (hs2 : x.step ≤ (L.length : Int) + 1) (hh : x.heard.size ≤ 100000) (hR : RowAt w sv L.length (L.flatMap spC)) :
    Calls Tryd.prog 110 #[psV x, sv, .int .i64 c] w fun e w' => e = .returned (.tuple #[psV (Px.goF L c (L.length + 1) x).1, .string (Px.goF L c (L.length + 1) x).2]) ∧ Below w.heap.size w w' := by
  obtain ⟨ad, cap, rfl, hcap⟩ := hR.form
  have HR : Hid (RowAt w (.slice ad L.length cap) L.length (L.flatMap spC)) := hR
  have HG := GIn.new w x
  have hx5 := HG.ps.c5
  obtain ⟨k0, hk0⟩ : ∃ k : Nat, x.step = (k : Int) + 1 := ⟨(x.step - 1).toNat, by omega⟩
  have HK : Hid (x.step = (k0 : Int) + 1) := hk0
  rw [hk0] at hx5
  have hk5 : k0 ≤ 5 := by omega
  clear hR hk0
  go_enter Tryd.func110, Tryd.ntmps110
  go_upto_region 1 with fail
  generalize (w.alloc (psO x)).alloc (.cells #[.int .i64 0, .int .i64 0, .int .i64 0, .int .i64 0, .int .i64 0, .int .i64 0, .int .i64 0, .string { data := #[] }] 131) = W at *
  have HGW : Hid (GIn w W x) := HG
  clear HG
  go_wp2_with fail
  clear hx5
  go_loopw [8, 9] (fun v i wr => ∃ (k n : Nat) (y : Px.Sl) (a : ByteArray), k ≤ L.length ∧ i = .int .i64 k ∧ y.step = (k : Int) + 1 ∧ v = .string a ∧ a.size ≤ 9 * k ∧ y.heard.size ≤ 100000 ∧ L.length + 1 ≤ k + n ∧ Px.goF L c (L.length + 1) x = ((Px.goF L c n y).1, a ++ (Px.goF L c n y).2) ∧ GIn w wr y) (fun _ i _ => L.length - (intOf i).toNat)
  case atStart => exact ⟨k0, L.length + 1, x, ByteArray.empty, by have := HK.out; omega, rfl, HK.out, rfl, by simp, hh, by omega, by rw [Px.ba_nil_app], HGW.out⟩
  case round =>
    obtain ⟨k, n, y, a, hk, rfl, hy5, rfl, ha, hyh, hn, hgo, HI⟩ := hrel
    have HGo : Hid (Px.goF L c (L.length + 1) x = ((Px.goF L c n y).1, a ++ (Px.goF L c n y).2)) := hgo
    have HY5 : Hid (y.step = (k : Int) + 1) := hy5
    clear hgo
    obtain ⟨c0, c1, c2, c3, c4, c5, c6, c7⟩ := HI.ps
    have hb1 := HI.bel.size
    have g5 := HI.fb 5 (by decide)
    have g6 := HI.fb 6 (by decide)
    have g7 := HI.fb 7 (by decide)
    have hlt0 : w.heap.size < wr.heap.size := by have := HI.lt; omega
    obtain ⟨m, rfl⟩ : ∃ m, n = m + 1 := ⟨n - 1, by omega⟩
    by_cases hlt : k < L.length
    · obtain ⟨b, off, cap', hv, _, hc⟩ := (HR.out.later HI.bel).some' (by omega)
      cases hv
      have d0 : wr.cell? ⟨b, off + k * 2, none⟩ = some (.bool (sayB L[k])) := RowAt.cell spC_len hc k hlt 0 (by decide)
      have d1 : wr.cell? ⟨b, off + k * 2 + 1, none⟩ = some (.string (L[k].extract 1 L[k].size)) := RowAt.cell spC_len hc k hlt 1 (by decide)
      clear hc
      have hwz := Px.word_size hlt hsz
      have hwe := word_eq hlt
      have HE : Hid (Px.goF L c (m + 1) y = if sayB L[k] = true then ((Px.goF L c m { y with step := (k : Int) + 2 }).1, wordAt L k ++ (Px.goF L c m { y with step := (k : Int) + 2 }).2)
          else if behB y.heard (wordAt L k) = false then ({ y with heard := Px.lastB y.heard ((wordAt L k).size - 1) }, ByteArray.empty)
          else Px.goF L c m { y with step := (k : Int) + 2, heard := behS y.heard (wordAt L k), ans := c }) := by
        unfold Hid
        rw [Px.goF, if_neg (by omega), HY5.out, show ((k : Int) + 1 - 1).toNat = k by omega, show (k : Int) + 1 + 1 = (k : Int) + 2 by omega]
        have : L.getD k ByteArray.empty = L[k] := by simp [hlt]
        rw [this]
      rw [hwe] at d1
      have b1 : (0 : Int) ≤ (k : Int) := by omega
      have b2 : (k : Int) < (L.length : Int) := by omega
      have hsy : Hid (∃ q, sayB L[k] = q) := ⟨_, rfl⟩
      obtain ⟨q, hq⟩ := hsy.out
      rw [hq] at d0 HE
      clear hq hsy hwe
      rw [hy5] at c5
      clear hy5
      have hwl : Hid ((wordAt L k).size ≤ 8) := hwz.2
      generalize wordAt L k = u at *
      cases q
      · have HE' : Hid (Px.goF L c (m + 1) y = if behB y.heard u = false then ({ y with heard := Px.lastB y.heard (u.size - 1) }, ByteArray.empty) else Px.goF L c m { y with step := (k : Int) + 2, heard := behS y.heard u, ans := c }) := by
          unfold Hid; rw [HE.out, if_neg (by simp)]
        clear HE
        go_wp2_with fail
        refine (pbehind_any y.heard u wr (by omega) (by omega) (by omega)).mono ?_
        rintro e w2 ⟨rfl, rfl⟩
        cases hbb : behB y.heard u
        · have HE2 : Hid (Px.goF L c (L.length + 1) x = ({ y with heard := Px.lastB y.heard (u.size - 1) }, a)) := by
            unfold Hid; rw [HGo.out, HE'.out, if_pos hbb, Px.ba_app_nil]
          clear HE' HGo hbb
          have u1 : (u.size : Int) - 1 = ((u.size - 1 : Nat) : Int) := by omega
          go_wp2_with fail
          refine (ending_any y.heard (u.size - 1) _ w2 (by rw [← u1]) (by omega) (by omega)).mono ?_
          rintro e w3 ⟨rfl, rfl⟩
          have HI2 := HI.heard (Px.lastB y.heard (u.size - 1))
          clear HI d0 d1
          go_upto_region 11 with fail
          clear c0 c1 c2 c3 c4 c5 c6 c7 g5 g6 g7
          generalize w3.setCell ⟨w.heap.size, 7, none⟩ (.string (Px.lastB y.heard (u.size - 1))) = W4 at *
          have HP : Hid (∃ z : Px.Sl, { y with heard := Px.lastB y.heard (u.size - 1) } = z) := ⟨_, rfl⟩
          obtain ⟨z, hz⟩ := HP.out
          rw [hz] at HI2 HE2
          clear hz HP
          obtain ⟨e0, e1, e2, e3, e4, e5, e6, e7⟩ := HI2.ps
          obtain ⟨⟨u0, r0⟩, f0⟩ := HI2.z 0 (by decide)
          obtain ⟨⟨u1, r1⟩, f1⟩ := HI2.z 1 (by decide)
          obtain ⟨⟨u2, r2⟩, f2⟩ := HI2.z 2 (by decide)
          obtain ⟨⟨u3, r3⟩, f3⟩ := HI2.z 3 (by decide)
          obtain ⟨⟨u4, r4⟩, f4⟩ := HI2.z 4 (by decide)
          obtain ⟨⟨u5, r5⟩, f5⟩ := HI2.z 5 (by decide)
          obtain ⟨⟨u6, r6⟩, f6⟩ := HI2.z 6 (by decide)
          obtain ⟨⟨u7, r7⟩, f7⟩ := HI2.z 7 (by decide)
          have HB : Hid (Below w.heap.size w W4) := HI2.bel
          clear HI2
          go_wp2_with fail
          refine bodyPost_ret (v := .tuple #[psV z, .string a]) (by simp [results, Tryd.results110, go_sem, r0, r1, r2, r3, r4, r5, r6, r7]) rfl ⟨ret_go HE2.out, below_set8 HB.out (by omega) _ _ _ _ _ _ _ _⟩
        · have HGo2 : Hid (Px.goF L c (L.length + 1) x = ((Px.goF L c m { y with step := (k : Int) + 2, heard := behS y.heard u, ans := c }).1, a ++ (Px.goF L c m { y with step := (k : Int) + 2, heard := behS y.heard u, ans := c }).2)) := by
            unfold Hid; rw [HGo.out, HE'.out, if_neg (by rw [hbb]; simp)]
          have hss := behS_size y.heard u
          clear HE' HGo hbb
          have HI4 := ((HI.heard (behS y.heard u)).ans c).step ((k : Int) + 2)
          clear HI d0 d1
          generalize behS y.heard u = rest at *
          go_wp2_with fail
          go_roundw
          case rel => exact ⟨k + 1, m, _, a, by omega, by go_num, by show (k : Int) + 2 = ((k + 1 : Nat) : Int) + 1; omega, rfl, by omega, by show rest.size ≤ 100000; omega, by omega, HGo2.out, HI4⟩
          case measure => simp [intOf]; omega
      · have HGo2 : Hid (Px.goF L c (L.length + 1) x = ((Px.goF L c m { y with step := (k : Int) + 2 }).1, (a ++ u) ++ (Px.goF L c m { y with step := (k : Int) + 2 }).2)) := by
          unfold Hid; rw [HGo.out, HE.out, if_pos rfl, ByteArray.append_assoc]
        clear HE HGo
        have HI4 := HI.step ((k : Int) + 2)
        clear HI
        go_wp2_with fail
        go_roundw
        case rel => exact ⟨k + 1, m, { y with step := (k : Int) + 2 }, a ++ u, by omega, by go_num, by show (k : Int) + 2 = ((k + 1 : Nat) : Int) + 1; omega, rfl, by have := hwl.out; simp [ByteArray.size_append]; omega, hyh, by omega, HGo2.out, HI4⟩
        case measure => simp [intOf]; omega
    · have HE2 : Hid (Px.goF L c (L.length + 1) x = (y, a)) := by
        unfold Hid; rw [HGo.out]
        have : Px.goF L c (m + 1) y = (y, ByteArray.empty) := by rw [Px.goF, if_pos (by have := HY5.out; omega)]
        rw [this, Px.ba_app_nil]
      have z1 : ¬ (k : Int) < (L.length : Int) := by omega
      clear hy5
      obtain ⟨⟨u0, r0⟩, f0⟩ := HI.z 0 (by decide)
      obtain ⟨⟨u1, r1⟩, f1⟩ := HI.z 1 (by decide)
      obtain ⟨⟨u2, r2⟩, f2⟩ := HI.z 2 (by decide)
      obtain ⟨⟨u3, r3⟩, f3⟩ := HI.z 3 (by decide)
      obtain ⟨⟨u4, r4⟩, f4⟩ := HI.z 4 (by decide)
      obtain ⟨⟨u5, r5⟩, f5⟩ := HI.z 5 (by decide)
      obtain ⟨⟨u6, r6⟩, f6⟩ := HI.z 6 (by decide)
      obtain ⟨⟨u7, r7⟩, f7⟩ := HI.z 7 (by decide)
      have HB : Hid (Below w.heap.size w wr) := HI.bel
      clear HI HGo
      go_wp2_with fail
      refine bodyPost_ret (v := .tuple #[psV y, .string a]) (by simp [results, Tryd.results110, go_sem, r0, r1, r2, r3, r4, r5, r6, r7]) rfl ⟨ret_go HE2.out, below_set8 HB.out (by omega) _ _ _ _ _ _ _ _⟩
end Go.Proofs.YtdajolpoiffimaaDoor
