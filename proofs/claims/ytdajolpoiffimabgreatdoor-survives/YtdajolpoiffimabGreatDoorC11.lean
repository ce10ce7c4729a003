/-
  PrgWhole2, ChgM, KWorld, KBeg, KScript, KSetup, SnapM, CompM, KSnap, KOf, KEnds, KSame, TakeM.
-/
import Derived.Deep.RegionHeld3
import Derived.Deep.DrawnRows
import Derived.Deep.CutRange
import Derived.Deep.Slices
import Derived.ChangeArms
import Derived.Test.YtdajolpoiffimabGreatDoorC2
import Derived.Test.YtdajolpoiffimabGreatDoorC6
import Derived.Test.YtdajolpoiffimabGreatDoorC7
import Derived.Test.YtdajolpoiffimabGreatDoorC8
import Derived.Test.YtdajolpoiffimabGreatDoorC10

namespace Go.Proofs.YtdajolpoiffimabGreatDoor
open Go.RowKit
attribute [local go_sem] Bx.be_size

theorem whole_enc (s : Px.St) : ({ data := #[90] } : ByteArray) ++ Bx.be (s.clock + 1) 5 ++ Bx.be s.next 2 ++ Bx.be s.tab.size 2 ++ s.tab ++ (Bx.be s.slots.length 1 ++ Bx.cat (s.slots.map encA)) ++ (Bx.be s.ends.length 1 ++ Bx.cat (s.ends.map Bx.encEn)) = Bx.wholeS (Px.abs s) := by
  have e : (Px.abs s).slots.map Bx.encSl = s.slots.map encA := by unfold Px.abs; simp only [List.map_map]; rfl
  have e2 : (Px.abs s).slots.length = s.slots.length := by simp [Px.abs]
  unfold Bx.wholeS Bx.encSt
  rw [e, e2]
  simp only [ByteArray.append_assoc]
  rfl
set_option maxRecDepth 10000 in
set_option maxHeartbeats 2000000 in
theorem pwhole_any (s : Px.St) (sl en : Value) (w : World) (hf : Bx.StFit (Px.abs s)) (ht : s.tab.size ≤ 1000) (hS : PAt w s sl en) :
    Calls Tryz.prog 37 #[pstV s sl en] w fun e w' => e = .returned (.string (Bx.frame (Bx.wholeS (Px.abs s)))) ∧ Below w.heap.size w w' := by
  obtain ⟨ad, cap, rfl, hcap⟩ := hS.sl.form
  obtain ⟨ad2, cap2, rfl, hcap2⟩ := hS.en.form
  obtain ⟨c1, c2⟩ := hf.c
  obtain ⟨n1, n2⟩ := hf.n
  have hsl : s.slots.length ≤ 255 := by have := hf.sl; simp [Px.abs] at this; omega
  have hen : s.ends.length ≤ 255 := by have := hf.en; simp [Px.abs] at this; omega
  have c1' : -1 ≤ s.clock := c1
  have c2' : s.clock < 1099511627775 := c2
  have n1' : 0 ≤ s.next := n1
  have n2' : s.next < 65536 := n2
  have HFs : Hid (∀ x ∈ s.slots, Bx.SlFit (Px.absS x)) := fun x hx => hf.es _ (List.mem_map.2 ⟨x, hx, rfl⟩)
  have HFe : Hid (∀ x ∈ s.ends, Bx.EnFit x) := hf.ee
  have HS : Hid (PAt w s (.slice ad s.slots.length cap) (.slice ad2 s.ends.length cap2)) := hS
  have HE : Hid (({ data := #[90] } : ByteArray) ++ Bx.be (s.clock + 1) 5 ++ Bx.be s.next 2 ++ Bx.be s.tab.size 2 ++ s.tab ++ (Bx.be s.slots.length 1 ++ Bx.cat (s.slots.map encA)) ++ (Bx.be s.ends.length 1 ++ Bx.cat (s.ends.map Bx.encEn)) = Bx.wholeS (Px.abs s)) := whole_enc s
  have hz1 : (Bx.be s.slots.length 1 ++ Bx.cat (s.slots.map encA)).size ≤ 4000 := by
    have h1 := Bx.cat_size encA 15 s.slots (fun x _ => Bx.encSl_size _)
    rw [ByteArray.size_append, Bx.be_size, h1]; omega
  have hz2 : (Bx.be s.ends.length 1 ++ Bx.cat (s.ends.map Bx.encEn)).size ≤ 1000 := by
    have h1 := Bx.cat_size Bx.encEn 3 s.ends (fun x hx => by unfold Bx.encEn; rw [ByteArray.size_append, Bx.be_size, (HFe.out x hx).h])
    rw [ByteArray.size_append, Bx.be_size, h1]; omega
  have hZ : Hid ((Bx.wholeS (Px.abs s)).size ≤ 100000) := by
    unfold Hid; rw [← HE.out]; simp only [ByteArray.size_append, Bx.be_size] at hz1 hz2 ⊢
    have : ({ data := #[90] } : ByteArray).size = 1 := rfl
    omega
  have hb0 := below_alloc w (pstO s (.slice ad s.slots.length cap) (.slice ad2 s.ends.length cap2))
  have hI := PIn.new w s (.slice ad s.slots.length cap) (.slice ad2 s.ends.length cap2)
  clear hf hS c1 c2 n1 n2
  go_enter Tryz.func37, Tryz.ntmps37
  go_upto_region 1 with fail
  generalize w.alloc (pstO s (.slice ad s.slots.length cap) (.slice ad2 s.ends.length cap2)) = W at *
  have HI : Hid (PIn W w.heap.size s (.slice ad s.slots.length cap) (.slice ad2 s.ends.length cap2)) := hI
  have HB : Hid (Below w.heap.size w W) := hb0
  have HA : Hid (PAt W s (.slice ad s.slots.length cap) (.slice ad2 s.ends.length cap2)) := HS.out.later hb0
  obtain ⟨i0, i1, i2, i3, i4⟩ := hI
  clear hb0 HS i0 i2 i3 i4
  go_wp2_with fail
  refine (digits_at _ _ (s.clock + 1) 5 _ rfl rfl (by omega) (by omega) (by decide)).mono ?_
  rintro e w1 ⟨rfl, hb1⟩
  have HI1 := HI.out.later hb1
  have HB1 : Hid (Below w.heap.size w w1) := HB.out.trans (hb1.mono HB.out.size)
  have HA1 : Hid (PAt w1 s (.slice ad s.slots.length cap) (.slice ad2 s.ends.length cap2)) := HA.out.later hb1
  have HII1 : Hid (PIn w1 w.heap.size s (.slice ad s.slots.length cap) (.slice ad2 s.ends.length cap2)) := HI1
  clear HI HB HA hb1 i1
  obtain ⟨i0, i1, i2, i3, i4⟩ := HI1
  clear i0 i1 i3 i4
  go_wp2_with fail
  refine (digits_at _ _ s.next 2 _ rfl rfl (by omega) (by omega) (by decide)).mono ?_
  rintro e w2 ⟨rfl, hb1⟩
  have HI2 := HII1.out.later hb1
  have HB2 : Hid (Below w.heap.size w w2) := HB1.out.trans (hb1.mono HB1.out.size)
  have HA2 : Hid (PAt w2 s (.slice ad s.slots.length cap) (.slice ad2 s.ends.length cap2)) := HA1.out.later hb1
  have HII2 : Hid (PIn w2 w.heap.size s (.slice ad s.slots.length cap) (.slice ad2 s.ends.length cap2)) := HI2
  clear HII1 HB1 HA1 hb1 i2
  obtain ⟨i0, i1, i2, i3, i4⟩ := HI2
  clear i1 i2 i3 i4
  go_wp2_with fail
  refine (digits_at _ _ (s.tab.size : Int) 2 _ rfl rfl (by omega) (by omega) (by decide)).mono ?_
  rintro e w3 ⟨rfl, hb1⟩
  have HI3 := HII2.out.later hb1
  have HB3 : Hid (Below w.heap.size w w3) := HB2.out.trans (hb1.mono HB2.out.size)
  have HA3 : Hid (PAt w3 s (.slice ad s.slots.length cap) (.slice ad2 s.ends.length cap2)) := HA2.out.later hb1
  have HII3 : Hid (PIn w3 w.heap.size s (.slice ad s.slots.length cap) (.slice ad2 s.ends.length cap2)) := HI3
  clear HII2 HB2 HA2 hb1 i0
  obtain ⟨i0, i1, i2, i3, i4⟩ := HI3
  clear i0 i1 i2 i4
  go_wp2_with fail
  refine (pslotsPart_any s.slots _ _ hsl HFs.out HA3.out.sl.1).mono ?_
  rintro e w4 ⟨rfl, hb1⟩
  have HI4 := HII3.out.later hb1
  have HB4 : Hid (Below w.heap.size w w4) := HB3.out.trans (hb1.mono HB3.out.size)
  have HA4 : Hid (PAt w4 s (.slice ad s.slots.length cap) (.slice ad2 s.ends.length cap2)) := HA3.out.later hb1
  have HII4 : Hid (PIn w4 w.heap.size s (.slice ad s.slots.length cap) (.slice ad2 s.ends.length cap2)) := HI4
  clear HII3 HB3 HA3 hb1 i3
  obtain ⟨i0, i1, i2, i3, i4⟩ := HI4
  clear i0 i1 i2 i3
  go_wp2_with fail
  refine (pendsPart_any s.ends _ _ hen HFe.out HA4.out.en.1).mono ?_
  rintro e w5 ⟨rfl, hb1⟩
  have HI5 := HII4.out.later hb1
  have HB5 : Hid (Below w.heap.size w w5) := HB4.out.trans (hb1.mono HB4.out.size)
  clear HII4 HB4 HA4 hb1 i4
  obtain ⟨i0, i1, i2, i3, i4⟩ := HI5
  clear i1 i2 i3 i4
  generalize Bx.be s.slots.length 1 ++ Bx.cat (s.slots.map encA) = X1 at *
  generalize Bx.be s.ends.length 1 ++ Bx.cat (s.ends.map Bx.encEn) = X2 at *
  have q1 : ¬ 9223372036854775807 < 10 + s.tab.size := by omega
  have q2 : ¬ 9223372036854775807 < 10 + s.tab.size + X1.size := by omega
  have q3 : ¬ 9223372036854775807 < 10 + s.tab.size + X1.size + X2.size := by omega
  go_wp2_with fail
  rw [HE.out]
  refine (framed_any _ _ hZ.out).mono ?_
  rintro e w6 ⟨rfl, hb1⟩
  have HB6 : Hid (Below w.heap.size w w6) := HB5.out.trans (hb1.mono HB5.out.size)
  clear HB5 hb1 i0
  go_wp2_with fail
  go_ret
  exact ⟨rfl, HB6.out⟩
set_option maxRecDepth 10000 in
set_option maxHeartbeats 2000000 in
theorem pwaiting_any (x : Px.Sl) (w : World) : Calls Tryz.prog 94 #[psV x] w fun e w' => e = .returned (psV (Px.wait x)) ∧ Below w.heap.size w w' := by
  have HB : Hid (∀ o o', Below w.heap.size w ((w.alloc o).alloc o')) := fun o o' => (below_alloc w o).alloc (by simp) o'
  go_enter Tryz.func94, Tryz.ntmps94
  go_wp2_with fail
  refine bodyPost_ret (v := psV (Px.wait x)) (by simp [results, Tryz.results94, go_sem, Px.wait]; rfl) rfl ⟨rfl, ?_⟩
  first | exact HB.out _ _ | (repeat (refine Below.setCell ?_ (by simp) _); exact HB.out _ _)
set_option maxRecDepth 10000 in
set_option maxHeartbeats 4000000 in
theorem pint_any (s : Px.St) (sl en : Value) (w : World) (hl : s.slots.length ≤ 10000) (hS : PAt w s sl en) :
    Calls Tryz.prog 64 #[pstV s sl en] w fun e w' => (∃ slt ent, e = .returned (pstV (Px.intP s) slt ent) ∧ PAt w' (Px.intP s) slt ent) ∧ Below w.heap.size w w' := by
  obtain ⟨i0, hi, hz0, hz1, hz2⟩ := info_parts info_ps
  obtain ⟨ad, cap, rfl, hcap⟩ := hS.sl.form
  obtain ⟨ad2, cap2, rfl, hcap2⟩ := hS.en.form
  have hb0 := (below_alloc w (pstO s (.slice ad s.slots.length cap) (.slice ad2 s.ends.length cap2))).alloc (by simp) (.cells #[.string { data := #[] }, .int .i64 0, .int .i64 0, .slice none 0 0, .slice none 0 0] 77)
  have hI := (PIn.new w s (.slice ad s.slots.length cap) (.slice ad2 s.ends.length cap2)).later (below_alloc _ (.cells #[.string { data := #[] }, .int .i64 0, .int .i64 0, .slice none 0 0, .slice none 0 0] 77))
  have hz := Cl.new (w.alloc (pstO s (.slice ad s.slots.length cap) (.slice ad2 s.ends.length cap2))) [.string { data := #[] }, .int .i64 0, .int .i64 0, .slice none 0 0, .slice none 0 0] 77
  have hsz : (w.alloc (pstO s (.slice ad s.slots.length cap) (.slice ad2 s.ends.length cap2))).heap.size = w.heap.size + 1 := by simp
  rw [hsz] at hz
  clear hsz
  go_enter Tryz.func64, Tryz.ntmps64
  go_upto_region 1 with fail
  have hz' : Cl ((w.alloc (pstO s (.slice ad s.slots.length cap) (.slice ad2 s.ends.length cap2))).alloc (.cells #[.string { data := #[] }, .int .i64 0, .int .i64 0, .slice none 0 0, .slice none 0 0] 77)) (w.heap.size + 1) 77 [.string { data := #[] }, .int .i64 0, .int .i64 0, .slice none 0 0, .slice none 0 0] := hz
  clear hz
  generalize (w.alloc (pstO s (.slice ad s.slots.length cap) (.slice ad2 s.ends.length cap2))).alloc (.cells #[.string { data := #[] }, .int .i64 0, .int .i64 0, .slice none 0 0, .slice none 0 0] 77) = W at *
  have HZ : Hid (Cl W (w.heap.size + 1) 77 [.string { data := #[] }, .int .i64 0, .int .i64 0, .slice none 0 0, .slice none 0 0]) := hz'
  have HI : Hid (PIn W w.heap.size s (.slice ad s.slots.length cap) (.slice ad2 s.ends.length cap2)) := hI
  have HB : Hid (Below w.heap.size w W) := hb0
  have HA : Hid (PAt W s (.slice ad s.slots.length cap) (.slice ad2 s.ends.length cap2)) := hS.later hb0
  have HO : Hid ((W.alloc (.cells #[] 143)).ownsRow W.heap.size 143 8 (.slice (some ⟨W.heap.size, 0, none⟩) 0 0) 0 []) := own_empty W 143 8
  have HBW : Hid (Below W.heap.size W (W.alloc (.cells #[] 143))) := below_alloc W _
  have hlt0 : w.heap.size + 1 < W.heap.size := hz'.ty.lt
  clear hz' hI hb0 hS
  go_wp2_with fail
  go_loopw [3, 4] (fun v i wr => ∃ k : Nat, k ≤ s.slots.length ∧ i = .int .i64 k ∧ wr.ownsRow W.heap.size 143 8 v ((s.slots.take k).map Px.wait).length (((s.slots.take k).map Px.wait).flatMap psC) ∧ Below W.heap.size W wr) (fun _ i _ => s.slots.length - (intOf i).toNat)
  case atStart => exact ⟨0, Nat.zero_le _, rfl, HO.out, HBW.out⟩
  case round =>
    obtain ⟨k, hk, rfl, hown, hbr⟩ := hrel
    have hszr := hbr.size
    have HIr := HI.out.later hbr
    obtain ⟨j0, j1, j2, j3, j4⟩ := HIr
    by_cases hlt : k < s.slots.length
    · obtain ⟨b, off, cap', hv, _, hc⟩ := (HA.out.sl.1.later hbr).some' (by omega)
      cases hv
      obtain ⟨d0, d1, d2, d3, d4, d5, d6, d7⟩ := ps_cells hc k hlt
      clear hc
      have b1 : (0 : Int) ≤ (k : Int) := by omega
      have b2 : (k : Int) < (s.slots.length : Int) := by omega
      have hn : ((s.slots.take k).map Px.wait).length ≤ 10000 := by simp; omega
      have HF : Hid ((s.slots.take (k + 1)).map Px.wait = (s.slots.take k).map Px.wait ++ [Px.wait s.slots[k]]) := by
        unfold Hid; rw [List.take_succ_eq_append_getElem hlt, List.map_append]; rfl
      generalize s.slots[k] = x at *
      generalize (s.slots.take k).map Px.wait = L at *
      have HOw : Hid (wr.ownsRow W.heap.size 143 8 _ L.length (L.flatMap psC)) := hown
      have HBr : Hid (Below W.heap.size W wr) := hbr
      clear hown hbr j0 j1 j2 j4
      go_wp2_with fail
      refine (pwaiting_any x _).mono ?_
      rintro e w1 ⟨rfl, hb1⟩
      clear d0 d1 d2 d3 d4 d5 d6 d7 j3
      generalize Px.wait x = y at *
      have hown1 := own_below HOw.out hb1
      have hbr1 : Below W.heap.size W w1 := HBr.out.trans (hb1.mono hszr)
      have hsz1 := hbr1.size
      clear HOw HBr hb1
      have hb2 := below_alloc w1 (psO y)
      have hown2 := own_below hown1 hb2
      have hbr2 : Below W.heap.size W (w1.alloc (psO y)) := hbr1.alloc hsz1 _
      have hX := PsIn.new w1 y
      clear hown1 hbr1 hb2
      go_upto_region 6 with fail
      generalize w1.alloc (psO y) = W2 at *
      generalize w1.heap.size = xq at *
      obtain ⟨e0, e1, e2, e3, e4, e5, e6, e7⟩ := hX
      have hsz2 := hbr2.size
      go_wp2_with (at_builtin; refine wpList_append_lies _ rfl (.tmp 21) (.tmp 23) 75 rfl W.heap.size 143 i0 (.agg #[.int .i64 0, .int .i64 0, .int .i64 0, .int .i64 0, .int .i64 0, .int .i64 0, .int .i64 0, .string ByteArray.empty]) 8 72 Tryz.underlying75 hi hz0 hz1 hz2 rfl (by decide) _ _ _ rfl (hown2.alloc _) ⟨W2.heap.size, 0, none⟩ 1 1 (psC y) rfl rfl (psC_new _ _ _) (psC_one y) (by decide) ?c3 ?c4 ?c5 _ rfl ?_)
      case c3 => unfold maxLen; omega
      case c4 => omega
      case c5 => simp; omega
      · intro g cap1 w3 hown' hgrow _ hlt'
        have B1 : Below W.heap.size W w3 := (hbr2.alloc hsz2 _).grown hgrow (by simp; omega) (fun k' e => (hown2.lt k' e).1)
        have hown3 : w3.ownsRow W.heap.size 143 8 (.slice (some ⟨g, 0, none⟩) (L.length + 1) cap1) (L ++ [y]).length ((L ++ [y]).flatMap psC) := by simpa using hown'
        clear hown' hgrow hown2 hbr2 e0 e1 e2 e3 e4 e5 e6 e7
        go_wp2_with fail
        go_roundw
        case rel => exact ⟨k + 1, by omega, by go_num, by rw [HF.out]; exact hown3, B1⟩
        case measure => simp [intOf]; omega
    · obtain rfl : k = s.slots.length := by omega
      rw [List.take_length] at hown
      have hT := TRow.of_own hown
      obtain ⟨ad5, cap5, hv5, _⟩ := hT.form
      subst hv5
      have HT2 : Hid (TRow wr 143 (.slice ad5 (s.slots.map Px.wait).length cap5) (Px.intP s).slots.length ((Px.intP s).slots.flatMap psC)) := hT
      have HZr := HZ.out.later hbr
      have HE2 : Hid (TRow wr 85 (.slice ad2 s.ends.length cap2) s.ends.length (s.ends.flatMap enC)) := HA.out.en.later hbr
      have HBr : Hid (Below w.heap.size w wr) := HB.out.trans (hbr.mono HB.out.size)
      have hP : PRes w wr s (.slice ad s.slots.length cap) (.slice ad2 s.ends.length cap2) := ⟨HI.out.later hbr, fun i hi => ⟨⟨_, HZr.c i _ (List.getElem?_eq_getElem (by simpa using hi))⟩, HZr.f i (by simpa using hi)⟩, HZr.ty, HBr.out, HZr.ty.lt⟩
      have hP2 := hP.later (below_alloc wr (pstO s (.slice ad s.slots.length cap) (.slice ad2 s.ends.length cap2)))
      have hO2 := HT2.out.later (below_alloc wr (pstO s (.slice ad s.slots.length cap) (.slice ad2 s.ends.length cap2)))
      have hE2 := HE2.out.later (below_alloc wr (pstO s (.slice ad s.slots.length cap) (.slice ad2 s.ends.length cap2)))
      have hA := PW.new wr s (.slice ad s.slots.length cap) (.slice ad2 s.ends.length cap2)
      have hWq := hP.lt
      clear hT hown HT2 HE2 HBr HZr hbr hP
      generalize (s.slots.map Px.wait).length = nl at *
      go_upto_region 8 with fail
      clear j0 j1 j2 j3 j4
      generalize wr.alloc (pstO s (.slice ad s.slots.length cap) (.slice ad2 s.ends.length cap2)) = W2 at *
      generalize wr.heap.size = q at *
      have a3 := hA.st.c3
      have f3 := hA.f 3 (by decide)
      have hq3 := hA.ty.lt
      have HP4 := hP2.set hWq 3 (.slice ad5 nl cap5)
      have HA4 : PW _ q (Px.intP s) _ _ := hA.slots (s.slots.map Px.wait) (.slice ad5 nl cap5)
      have HO4 := hO2.set hA.ty (by decide) 3 (.slice ad5 nl cap5)
      have HE4 := hE2.set hA.ty (by decide) 3 (.slice ad5 nl cap5)
      clear hA hP2 hO2 hE2
      go_upto_region 9 with fail
      clear a3 f3
      generalize W2.setCell ⟨q, 3, none⟩ (.slice ad5 nl cap5) = W4 at *
      have HX : Hid (PEnd w W4 q (Px.intP s) (.slice ad5 nl cap5) (.slice ad2 s.ends.length cap2)) := ⟨HA4, ⟨HO4, HE4⟩, HP4.z, HP4.ty, HP4.bel⟩
      obtain ⟨⟨⟨u0, r0⟩, f0⟩, ⟨⟨u1, r1⟩, f1⟩, ⟨⟨u2, r2⟩, f2⟩, ⟨⟨u3, r3⟩, f3⟩, ⟨⟨u4, r4⟩, f4⟩⟩ := And.intro (HP4.z 0 (by decide)) (And.intro (HP4.z 1 (by decide)) (And.intro (HP4.z 2 (by decide)) (And.intro (HP4.z 3 (by decide)) (HP4.z 4 (by decide)))))
      obtain ⟨c0, c1, c2, c3, c4⟩ := HA4.st
      clear HP4 HA4 HO4 HE4
      go_wp2_with fail
      refine bodyPost_ret (v := pstV (Px.intP s) (.slice ad5 nl cap5) (.slice ad2 s.ends.length cap2)) (by simp [results, Tryz.results64, go_sem, r0, r1, r2, r3, r4]) rfl ?_
      exact ⟨⟨_, _, rfl, (HX.out.fin _ _ _ _ _).1⟩, (HX.out.fin _ _ _ _ _).2⟩
end Go.Proofs.YtdajolpoiffimabGreatDoor

namespace Go.Proofs.YtdajolpoiffimabGreatDoor
namespace Px
/-- What the program makes of a change is what the document does. -/
def ChM (s : St) (h : Bx.Ch) (p : St × Int) : Prop := (p.2 = 0 → Bx.doP (abs s) h = (abs p.1, true) ∧ Ok p.1) ∧ (¬ p.2 = 0 → (Bx.doP (abs s) h).2 = false)
open Classical in
theorem chm_tab {s : St} (hO : Ok s) {tab : ByteArray} {n : Int} {a r : Int} (hc : ChkR tab a r) : ChM s ⟨84, tab, n⟩ (if r = 0 then tabP s tab else (st0, r)) := by
  have e : Bx.doP (abs s) ⟨84, tab, n⟩ = if ChkR tab 0 0 ∧ (abs s).slots.length = 0 then ({ abs s with tab := tab }, true) else (abs s, false) := by unfold Bx.doP; rw [if_pos rfl]
  have hl : (abs s).slots.length = s.slots.length := by simp [abs]
  by_cases hr : r = 0
  · subst hr
    have ha := hc.zero rfl
    subst ha
    rw [if_pos rfl]
    unfold tabP
    by_cases hs : 0 < s.slots.length
    · rw [if_pos hs]
      refine ⟨fun q => absurd q (by decide), fun _ => ?_⟩
      rw [e, if_neg (by rw [hl]; omega)]
    · rw [if_neg hs]
      have hs0 : s.slots = [] := List.eq_nil_of_length_eq_zero (by omega)
      refine ⟨fun _ => ⟨?_, ?_⟩, fun q => absurd rfl q⟩
      · rw [e, if_pos ⟨hc, by rw [hl]; omega⟩]; rfl
      · have hst : Bx.StOk (abs { s with tab := tab }) := by
          have := Bx.do_ok hO.st ⟨84, tab, n⟩
          rw [e, if_pos ⟨hc, by rw [hl]; omega⟩] at this
          exact this
        exact ⟨hst, hO.rise, fun x hx => by rw [hs0] at hx; simp at hx⟩
  · rw [if_neg hr]
    refine ⟨fun q => absurd q hr, fun _ => ?_⟩
    rw [e, if_neg]
    rintro ⟨q, _⟩
    exact hr (hc.uniq q).2
theorem chm_clock {s : St} (hO : Ok s) (t : ByteArray) (m : Int) : ChM s ⟨67, t, m⟩ (clockP s m) := by
  have e : Bx.doP (abs s) ⟨67, t, m⟩ = Bx.clockedP (abs s) m := by unfold Bx.doP; rw [if_neg (show ¬ (67 : Int) = 84 by decide), if_pos rfl]
  refine ⟨fun h0 => ⟨by rw [e]; exact clock_abs s m h0, clock_ok hO h0⟩, fun h0 => ?_⟩
  rw [e]
  have hc := clock_err s m
  unfold Bx.clockedP
  by_cases ha : Bx.ahead (abs s) m = true
  · rw [if_pos ha]
    have hA : 0 ≤ m ∧ m ≤ 4223371679 ∧ s.clock < m ∧ (s.clock = -1 ∨ m - s.clock ≤ 1500) := of_decide_eq_true ha
    have hb : aheadP s m = true := decide_eq_true hA.2.2
    rw [if_neg (by omega), hb, if_neg (by simp)] at hc
    by_cases hn : 10000 < s.next + ((comesP s m).length : Int)
    · rw [if_neg]
      show ¬ s.next + ((comesP s m).length : Int) ≤ 10000
      omega
    · rw [if_neg hn] at hc; exact absurd hc h0
  · rw [if_neg ha]
theorem chm_start {s : St} (hO : Ok s) (t : ByteArray) (n : Int) : ChM s ⟨83, t, n⟩ (startP s n) := by
  have e : Bx.doP (abs s) ⟨83, t, n⟩ = Bx.aboutP (abs s) 83 n := do_about _ _ _ _ (by decide) (by decide)
  refine ⟨fun h0 => ?_, fun h0 => ?_⟩
  · refine ⟨?_, startP_ok hO n h0⟩
    rw [e]
    rcases start_abs hO.dist n with ⟨q, _⟩ | ⟨i, hi, _, hn, q⟩
    · omega
    · rcases q with ⟨q, _⟩ | ⟨q, _⟩ | ⟨q, _⟩ | ⟨_, _, _, _, _, q⟩
      · omega
      · omega
      · omega
      · exact q
  · rw [e]
    unfold Bx.aboutP
    rcases start_abs hO.dist n with ⟨_, hf⟩ | ⟨i, hi, hF, hn, q⟩
    · rw [if_pos hf]
    · rw [hF, if_neg (by omega), if_neg (by decide), if_pos rfl]
      simp only [Int.toNat_natCast]
      rw [if_pos]
      rw [slAt_abs hi]
      rcases q with ⟨_, q⟩ | ⟨_, _, q⟩ | ⟨_, q1, _, q⟩ | ⟨q, _⟩
      · left; simp [absS, q]
      · right; left; exact q
      · right; right; rw [lock_abs hi q1]; exact q
      · exact absurd q h0
theorem ended_ok {s : St} (hO : Ok s) {k n : Int} {how : ByteArray} (h : Bx.aboutP (abs s) k n = (abs (ended s n how), true)) : Ok (ended s n how) := by
  refine hO.skip n how ?_
  have := Bx.about_ok hO.st k n
  rw [h] at this; exact this
theorem chm_done {s : St} (hO : Ok s) (t : ByteArray) (n : Int) : ChM s ⟨68, t, n⟩ (doneP s n) := by
  have e : Bx.doP (abs s) ⟨68, t, n⟩ = Bx.aboutP (abs s) 68 n := do_about _ _ _ _ (by decide) (by decide)
  have hd : (doneP s n).2 = 0 → (doneP s n).1 = ended s n Bx.hD := by
    intro h0
    unfold doneP at h0 ⊢
    cases q : find s.slots n with
    | none => rw [q] at h0; cases h0
    | some x =>
      rw [q] at h0
      simp only at h0 ⊢
      split at h0
      · cases h0
      · rename_i h; rw [if_neg h]
  rcases done_abs hO.dist n hO.num1 with ⟨q, hf⟩ | ⟨q, i, hF, hr⟩ | ⟨q, ha⟩
  · refine ⟨fun h0 => by omega, fun _ => ?_⟩
    rw [e]; unfold Bx.aboutP; rw [if_pos hf]
  · refine ⟨fun h0 => by omega, fun _ => ?_⟩
    rw [e]; unfold Bx.aboutP
    rw [hF, if_neg (by omega), if_neg (by decide), if_neg (by decide), if_pos rfl]
    simp only [Int.toNat_natCast]; exact hr
  · refine ⟨fun h0 => ⟨by rw [e]; exact ha, ?_⟩, fun h0 => absurd q h0⟩
    rw [hd h0] at ha ⊢; exact ended_ok hO ha
theorem chm_fail {s : St} (hO : Ok s) (t : ByteArray) (n : Int) : ChM s ⟨70, t, n⟩ (failP s n) := by
  have e : Bx.doP (abs s) ⟨70, t, n⟩ = Bx.aboutP (abs s) 70 n := do_about _ _ _ _ (by decide) (by decide)
  rcases fail_abs hO.dist n hO.num1 hO.att with ⟨q, hf⟩ | ⟨q, i, hF, hr⟩ | ⟨q, ha⟩
  · refine ⟨fun h0 => by omega, fun _ => ?_⟩
    rw [e]; unfold Bx.aboutP; rw [if_pos hf]
  · refine ⟨fun h0 => by omega, fun _ => ?_⟩
    rw [e]; unfold Bx.aboutP
    rw [hF, if_neg (by omega), if_neg (by decide), if_neg (by decide), if_neg (by decide), if_pos rfl]
    simp only [Int.toNat_natCast]; exact hr
  · exact ⟨fun h0 => ⟨by rw [e]; exact ha, fail_ok hO n h0⟩, fun h0 => absurd q h0⟩
theorem chm_cancel {s : St} (hO : Ok s) (t : ByteArray) (n : Int) : ChM s ⟨75, t, n⟩ (cancelP s n) := by
  have e : Bx.doP (abs s) ⟨75, t, n⟩ = Bx.aboutP (abs s) 75 n := do_about _ _ _ _ (by decide) (by decide)
  rcases cancel_abs hO.dist n hO.num1 with ⟨q, hf⟩ | ⟨q, ha⟩
  · refine ⟨fun h0 => by omega, fun _ => ?_⟩
    rw [e]; unfold Bx.aboutP; rw [if_pos hf]
  · refine ⟨fun h0 => ⟨by rw [e]; exact ha, ?_⟩, fun h0 => absurd q h0⟩
    rw [cancel_st h0] at ha ⊢; exact ended_ok hO ha
/-- A state that was read, and may be. -/
theorem fresh_ok {s : St} (hf : ∀ x ∈ s.slots, Fresh x) (hm : Bx.MayS (abs s)) : Ok s := by
  refine ⟨hm.ok, ?_, fun x hx => ?_⟩
  · have := hm.rise
    unfold abs at this
    rw [List.pairwise_map] at this
    exact this
  · obtain ⟨h1, h2, h3, h4⟩ := hf x hx
    have hl : LineP (tl s.tab (x.line - 1).toNat) := by
      have q := (hm.es (absS x) (List.mem_map.2 ⟨x, hx, rfl⟩)).l
      have q1 : 1 ≤ x.line ∧ x.line ≤ tn s.tab := q
      exact hm.tab.lines.2.2 _ (by show (x.line - 1).toNat < tn s.tab; omega)
    have h7 := hl.n7
    have hs : 1 ≤ (stepsOf (tl s.tab (x.line - 1).toNat)).length := by unfold stepsOf; rw [List.length_drop]; omega
    refine ⟨by omega, by omega, by omega, by omega, by rw [h3]; decide, fun _ => h3⟩
end Px
end Go.Proofs.YtdajolpoiffimabGreatDoor

namespace Go.Proofs.YtdajolpoiffimabGreatDoor
open Go.RowKit

/-- A World in memory, and its box. -/
structure KW (w0 w : World) (P B : Nat) (l r : Int) (tab : ByteArray) (c g : Int) (b : Px.Bo) : Prop where
  p : Cl w P 33 [.pointer (some ⟨B, 0, none⟩), .int .i64 l, .int .i64 r, .string tab, .int .i64 c, .int .i64 g]
  b : KB w0 w B b
  lo : w0.heap.size ≤ P
theorem KW.ne {w0 w : World} {P B : Nat} {l r : Int} {tab : ByteArray} {c g : Int} {b : Px.Bo} (h : KW w0 w P B l r tab c g b) : P ≠ B := fun e => by
  obtain ⟨c1, f1, h1⟩ := h.p.ty
  obtain ⟨c2, f2, h2⟩ := h.b.typ
  rw [e, h2] at h1; cases h1
theorem KW.later {w0 w w' : World} {P B : Nat} {l r : Int} {tab : ByteArray} {c g : Int} {b : Px.Bo} (h : KW w0 w P B l r tab c g b) (hb : Below w.heap.size w w') : KW w0 w' P B l r tab c g b := ⟨h.p.later hb, h.b.later hb, h.lo⟩
theorem KW.call {w0 w w' : World} {P B : Nat} {l r : Int} {tab : ByteArray} {c g : Int} {b b' : Px.Bo} (h : KW w0 w P B l r tab c g b) (hb : KB w0 w' B b') (hg : w.grownBy w' (some B)) : KW w0 w' P B l r tab c g b' := ⟨h.p.grow hg h.ne, hb, h.lo⟩
theorem KW.bl {w0 w : World} {P B : Nat} {l r : Int} {tab : ByteArray} {c g : Int} {b : Px.Bo} (h : KW w0 w P B l r tab c g b) : Below w0.heap.size w0 w := h.b.bl
/-- A box is kept when another block is written. -/
theorem PB.far {w : World} {B : Nat} {b : Px.Bo} {sl en : Value} (h : PB w B b sl en) {g : Nat} {t : TypeId} (ht : Typed w g t) (h1 : t ≠ 79) (h2 : 143 ≠ t) (h3 : 85 ≠ t) (j : Nat) (v : Value) : PB (w.setCell ⟨g, j, none⟩ v) B b sl en := by
  have hne : g ≠ B := fun e => by
    obtain ⟨c1, f1, q1⟩ := ht
    obtain ⟨c2, f2, q2⟩ := h.ty
    rw [e, q2] at q1; cases q1; exact h1 rfl
  have cc : ∀ (k : Nat) (u : Value), w.cell? ⟨B, k, none⟩ = some u → (w.setCell ⟨g, j, none⟩ v).cell? ⟨B, k, none⟩ = some u := fun k u q => (World.cell?_setCell_other _ _ _ _ (fun x => hne (by cases x; rfl))).trans q
  exact ⟨cc _ _ h.c0, cc _ _ h.c1, cc _ _ h.c2, cc _ _ h.c3, cc _ _ h.c4, cc _ _ h.c5, cc _ _ h.c6, cc _ _ h.c7, fun k hk => by rw [World.frozen?_setCell]; exact h.f k hk, h.ty.setCell _ _ _, h.rows.set ht h2 h3 _ _⟩
theorem KW.set {w0 w : World} {P B : Nat} {l r : Int} {tab : ByteArray} {c g : Int} {b : Px.Bo} (h : KW w0 w P B l r tab c g b) (j : Nat) (v : Value) {l' r' : Int} {tab' : ByteArray} {c' g' : Int} (hj : j < 6)
    (e : [Value.pointer (some ⟨B, 0, none⟩), .int .i64 l', .int .i64 r', .string tab', .int .i64 c', .int .i64 g'] = [Value.pointer (some ⟨B, 0, none⟩), .int .i64 l, .int .i64 r, .string tab, .int .i64 c, .int .i64 g].set j v) : KW w0 (w.setCell ⟨P, j, none⟩ v) P B l' r' tab' c' g' b := by
  obtain ⟨sl, en, hp⟩ := h.b.pb
  refine ⟨by rw [e]; exact h.p.set j (by simpa using hj) v, ⟨h.b.lo, h.b.bl.setCell h.lo _, sl, en, hp.far h.p.ty (by decide) (by decide) (by decide) _ _⟩, h.lo⟩
/-- The box, when its crontab is loaded; when its clock is set. -/
noncomputable def ldB (l r : Int) (tab : ByteArray) : Px.Bo := ⟨l, r, { Px.first with tab := tab }, ByteArray.empty ++ Bx.frames [chT tab]⟩
noncomputable def begB (l r : Int) (tab : ByteArray) (c : Int) : Px.Bo := (Px.tickB (ldB l r tab) c).1
noncomputable def begG (l r : Int) (tab : ByteArray) (c : Int) : Int := ((Px.comesP (ldB l r tab).st c).length : Int)
theorem ld_load {l r : Int} {tab : ByteArray} {b' : Px.Bo} {a e : Int} (hm : mayB l r = true) (ht : tab ∈ Kp.tabsL) (h : Px.LoadB ⟨l, r, Px.first, ByteArray.empty⟩ tab b' a e) : a = 0 ∧ e = 0 ∧ b' = ldB l r tab ∧ Px.KI b' l r tab (-1) 0 ∧ b'.st.slots = [] ∧ b'.log.size ≤ 400 := by
  have hc := Kp.tabs_chk tab ht
  have hz := Kp.tabs_size tab ht
  obtain ⟨h1, h2, h3, h4⟩ := of_decide_eq_true hm
  have hr : ((⟨l, r, Px.first, ByteArray.empty⟩ : Px.Bo).log.size : Int) + tab.size + 12 ≤ r := by show ((0 : Nat) : Int) + _ + 12 ≤ r; omega
  obtain ⟨e1, e2, e3⟩ := Px.load_yes h hc rfl hr
  obtain ⟨k1, k2, k3, k4, k5⟩ := (Px.KI.new hm).load h hc rfl hr
  refine ⟨e1, e2, e3, k3, k4, ?_⟩
  have : (⟨l, r, Px.first, ByteArray.empty⟩ : Px.Bo).log.size = 0 := rfl
  omega
theorem ld_ki {l r : Int} {tab : ByteArray} (hm : mayB l r = true) (ht : tab ∈ Kp.tabsL) : Px.KI (ldB l r tab) l r tab (-1) 0 ∧ (ldB l r tab).st.slots = [] ∧ (ldB l r tab).log.size ≤ 400 := by
  have hc := Kp.tabs_chk tab ht
  have hz := Kp.tabs_size tab ht
  obtain ⟨h1, h2, h3, h4⟩ := of_decide_eq_true hm
  have hfs : (Bx.frames [chT tab]).size ≤ tab.size + 12 := by rw [Px.frames_one]; exact Px.fsz _
  have hL : Px.LoadB ⟨l, r, Px.first, ByteArray.empty⟩ tab (ldB l r tab) 0 0 := Or.inr (Or.inr (Or.inr ⟨hc, rfl, by show ¬ r < ((0 : Nat) : Int) + _; omega, rfl, rfl, rfl⟩))
  obtain ⟨_, _, _, a, b, c⟩ := ld_load hm ht hL
  exact ⟨a, b, c⟩
theorem beg_ki {l r : Int} {tab : ByteArray} {c : Int} (hm : mayB l r = true) (ht : tab ∈ Kp.tabsL) (c0 : 0 ≤ c) (c1 : c ≤ 4223371679) :
    (Px.tickB (ldB l r tab) c).2 = (begG l r tab c, 0) ∧ 0 ≤ begG l r tab c ∧ begG l r tab c ≤ 4 ∧ Px.KI (begB l r tab c) l r tab c (begG l r tab c) := by
  obtain ⟨h1, _, h3⟩ := ld_ki hm ht
  obtain ⟨k1, k2, k3, k4⟩ := h1.first h3 c0 c1
  exact ⟨Prod.ext k2 k1, by unfold begG; omega, by unfold begG; omega, k4⟩
abbrev tabsO : Obj := .cells #[.string Kp.T0, .string Kp.T1, .string Kp.T2, .string Kp.T3, .string Kp.T4, .string Kp.T5] 9
set_option maxHeartbeats 1000000 in
theorem ktabs_any (w : World) : Calls Tryz.prog 19 #[] w fun e w' => ∃ g, e = .returned (.slice (some ⟨g, 0, none⟩) 6 6) ∧ (∀ i t, Kp.tabsL[i]? = some t → w'.cell? ⟨g, i, none⟩ = some (.string t)) ∧ Below w.heap.size w w' := by
  have hc : Hid (∀ i t, Kp.tabsL[i]? = some t → (w.alloc tabsO).cell? ⟨w.heap.size, i, none⟩ = some (.string t)) := by
    intro i t hi
    have hb : (w.alloc tabsO).heap[w.heap.size]? = some (.cells #[.string Kp.T0, .string Kp.T1, .string Kp.T2, .string Kp.T3, .string Kp.T4, .string Kp.T5] 9 (0, 0)) := by show (w.heap.push tabsO)[w.heap.size]? = _; simp
    rw [cell_of_row _ _ i _ _ (0, 0) hb]
    match i, hi with
    | 0, hi => cases hi; rfl
    | 1, hi => cases hi; rfl
    | 2, hi => cases hi; rfl
    | 3, hi => cases hi; rfl
    | 4, hi => cases hi; rfl
    | 5, hi => cases hi; rfl
    | n + 6, hi => simp [Kp.tabsL] at hi
  go_enter Tryz.func19, Tryz.ntmps19
  go_wp2_with fail
  go_ret
  exact ⟨w.heap.size, rfl, hc.out, below_alloc _ _⟩
end Go.Proofs.YtdajolpoiffimabGreatDoor

namespace Go.Proofs.YtdajolpoiffimabGreatDoor
open Go.RowKit

def sL (a : Int) : Int := 1 + pk a 4
def sR (a : Int) : Int := 600 + pk a 3401
def sT (a : Int) : ByteArray := Kp.tabsL.getD (pk a 6).toNat ByteArray.empty
def sC (a : Int) : Int := pk a 4223371680
theorem s_may (a b : Int) : mayB (sL a) (sR b) = true := by
  have h1 := pk_bd a 4 (by decide)
  have h2 := pk_bd b 3401 (by decide)
  unfold sL sR
  exact decide_eq_true (by omega)
theorem sT_mem (a : Int) : sT a ∈ Kp.tabsL ∧ Kp.tabsL[(pk a 6).toNat]? = some (sT a) := by
  have h1 := pk_bd a 6 (by decide)
  have hl : (pk a 6).toNat < Kp.tabsL.length := by show _ < 6; omega
  have e : sT a = Kp.tabsL[(pk a 6).toNat] := by unfold sT; rw [List.getD_eq_getElem?_getD, List.getElem?_eq_getElem hl]; rfl
  rw [e]
  exact ⟨List.getElem_mem hl, List.getElem?_eq_getElem hl⟩
abbrev suV (a0 a1 a2 a3 : Int) : Value := .agg #[.int .i64 a0, .int .i64 a1, .int .i64 a2, .int .i64 a3]
abbrev suO (a0 a1 a2 a3 : Int) : Obj := .cells #[.int .i64 a0, .int .i64 a1, .int .i64 a2, .int .i64 a3] 23
def I64 (a : Int) : Prop := -9223372036854775808 ≤ a ∧ a ≤ 9223372036854775807
set_option maxRecDepth 10000 in
set_option maxHeartbeats 4000000 in
theorem kbegun_any (a0 a1 a2 a3 : Int) (w : World) (h0 : I64 a0) (h1 : I64 a1) (h2 : I64 a2) (h3 : I64 a3) (hT : TT w) :
    Calls Tryz.prog 6 #[suV a0 a1 a2 a3] w fun e w' => ∃ P B, e = .returned (.tuple #[.pointer (some ⟨P, 0, none⟩), .bool true]) ∧
      KW w w' P B (sL a0) (sR a1) (sT a2) (sC a3) (begG (sL a0) (sR a1) (sT a2) (sC a3)) (begB (sL a0) (sR a1) (sT a2) (sC a3)) := by
  have HT : Hid (TT w) := hT
  have hs := Cl.new w [.int .i64 a0, .int .i64 a1, .int .i64 a2, .int .i64 a3] 23
  have hb0 := below_alloc w (suO a0 a1 a2 a3)
  have HI : Hid (I64 a0 ∧ I64 a1 ∧ I64 a2 ∧ I64 a3) := ⟨h0, h1, h2, h3⟩
  clear h0 h1 h2 h3 hT
  go_enter Tryz.func6, Tryz.ntmps6
  go_upto_region 1 with fail
  have hs' : Cl (w.alloc (suO a0 a1 a2 a3)) w.heap.size 23 [.int .i64 a0, .int .i64 a1, .int .i64 a2, .int .i64 a3] := hs
  clear hs
  generalize w.alloc (suO a0 a1 a2 a3) = W at *
  have HS : Hid (Cl W w.heap.size 23 [.int .i64 a0, .int .i64 a1, .int .i64 a2, .int .i64 a3]) := hs'
  have HB : Hid (Below w.heap.size w W) := hb0
  clear hs' hb0
  go_wp2_with fail
  refine (ktabs_any W).mono ?_
  rintro e w1 ⟨g, rfl, hc, hb1⟩
  have hS1 := HS.out.later hb1
  have HB1 : Hid (Below w.heap.size w w1) := HB.out.trans (hb1.mono HB.out.size)
  have hk := pk_bd a2 6 (by decide)
  have s0 : w1.cell? ⟨w.heap.size, 0, none⟩ = some (.int .i64 a0) := hS1.c 0 _ rfl
  have s1 : w1.cell? ⟨w.heap.size, 1, none⟩ = some (.int .i64 a1) := hS1.c 1 _ rfl
  have s2 : w1.cell? ⟨w.heap.size, 2, none⟩ = some (.int .i64 a2) := hS1.c 2 _ rfl
  have s3 : w1.cell? ⟨w.heap.size, 3, none⟩ = some (.int .i64 a3) := hS1.c 3 _ rfl
  have hqs : w.heap.size < w1.heap.size := hS1.ty.lt
  have hst := hc _ _ (sT_mem a2).2
  have HL : Hid (∃ p0 p1 p3 : Int, ∃ k : Nat, pk a0 4 = p0 ∧ pk a1 3401 = p1 ∧ pk a2 6 = (k : Int) ∧ pk a3 4223371680 = p3 ∧ k = (pk a2 6).toNat ∧ 0 ≤ p0 ∧ p0 < 4 ∧ 0 ≤ p1 ∧ p1 < 3401 ∧ 0 ≤ p3 ∧ p3 < 4223371680) :=
    ⟨_, _, _, _, rfl, rfl, by omega, rfl, rfl, (pk_bd a0 4 (by decide)).1, (pk_bd a0 4 (by decide)).2, (pk_bd a1 3401 (by decide)).1, (pk_bd a1 3401 (by decide)).2, (pk_bd a3 4223371680 (by decide)).1, (pk_bd a3 4223371680 (by decide)).2⟩
  obtain ⟨p0, p1, p3, k, q0, q1, q2, q3, hkk, z0, z1, z2, z3, z4, z5⟩ := HL.out
  rw [← hkk] at hst
  have k1 : (0 : Int) ≤ (k : Int) := by omega
  have k2 : (k : Int) < 6 := by omega
  have hg : g < w1.heap.size := World.block_lt_of_cell? _ _ hst
  have HQ : Hid (pk a0 4 = p0 ∧ pk a1 3401 = p1 ∧ pk a2 6 = (k : Int) ∧ pk a3 4223371680 = p3) := ⟨q0, q1, q2, q3⟩
  clear hc hb1 hS1 HS HB hk hkk q0 q1 q2 q3 HL
  have C0 : Hid (∀ w : World, Calls Tryz.prog 13 #[.int .i64 a0, .int .i64 4] w fun e w' => e = .returned (.int .i64 p0) ∧ w' = w) := fun w => pick_at a0 4 p0 w HQ.out.1 HI.out.1.1 HI.out.1.2 (by decide) (by decide)
  have C1 : Hid (∀ w : World, Calls Tryz.prog 13 #[.int .i64 a1, .int .i64 3401] w fun e w' => e = .returned (.int .i64 p1) ∧ w' = w) := fun w => pick_at a1 3401 p1 w HQ.out.2.1 HI.out.2.1.1 HI.out.2.1.2 (by decide) (by decide)
  have C2 : Hid (∀ w : World, Calls Tryz.prog 13 #[.int .i64 a2, .int .i64 6] w fun e w' => e = .returned (.int .i64 (k : Int)) ∧ w' = w) := fun w => pick_at a2 6 (k : Int) w HQ.out.2.2.1 HI.out.2.2.1.1 HI.out.2.2.1.2 (by decide) (by decide)
  have C3 : Hid (∀ w : World, Calls Tryz.prog 13 #[.int .i64 a3, .int .i64 4223371680] w fun e w' => e = .returned (.int .i64 p3) ∧ w' = w) := fun w => pick_at a3 4223371680 p3 w HQ.out.2.2.2 HI.out.2.2.2.1 HI.out.2.2.2.2 (by decide) (by decide)
  go_wp2_with fail
  go_region_held3 (fun w' => ∀ b o, b < w1.heap.size → w'.cell? ⟨b, o, none⟩ = w1.cell? ⟨b, o, none⟩)
    ((intro b' o' h1; first | rfl | (exact (below_alloc w1.drew _).cell (p := ⟨b', o', none⟩) h1)))
    ((go_at_call 13;
      first
      | (with_reducible refine (C0.out _).mono ?_; rintro e w5 ⟨rfl, rfl⟩)
      | (with_reducible refine (C1.out _).mono ?_; rintro e w5 ⟨rfl, rfl⟩)
      | (with_reducible refine (C2.out _).mono ?_; rintro e w5 ⟨rfl, rfl⟩)
      | (with_reducible refine (C3.out _).mono ?_; rintro e w5 ⟨rfl, rfl⟩)))
  rename ∀ (b o : Nat), b < w1.heap.size → _ = w1.cell? _ => hSold
  clear hSold
  have HW : Hid (∃ l r c t, IntKind.i64.wrap (1 + p0) = l ∧ IntKind.i64.wrap (600 + p1) = r ∧ p3 = c ∧ sT a2 = t ∧ l = sL a0 ∧ r = sR a1 ∧ c = sC a3) :=
    ⟨_, _, _, _, rfl, rfl, rfl, rfl, by rw [IntKind.wrap_i64]; unfold sL; rw [HQ.out.1]; omega, by rw [IntKind.wrap_i64]; unfold sR; rw [HQ.out.2.1]; omega, HQ.out.2.2.2.symm⟩
  obtain ⟨l, r, c, t, e0, e1, e2, e3, e4, e5, e6⟩ := HW.out
  rw [e0, e1, e2, e3]
  have HE : Hid (sL a0 = l ∧ sR a1 = r ∧ sT a2 = t ∧ sC a3 = c) := ⟨e4.symm, e5.symm, e3, e6.symm⟩
  have HM : Hid (mayB l r = true) := by unfold Hid; rw [e4, e5]; exact s_may _ _
  have HMem : Hid (t ∈ Kp.tabsL) := by unfold Hid; rw [← e3]; exact (sT_mem a2).1
  have hc0 : 0 ≤ c := by omega
  have hc1 : c ≤ 4223371679 := by omega
  have hP2 := (Cl.new w1 [.pointer none, .int .i64 l, .int .i64 r, .string t, .int .i64 c, .int .i64 0] 33).later (Below.refl _ _).drew
  have hB2 := (HB1.out.alloc HB1.out.size (.cells #[.pointer none, .int .i64 l, .int .i64 r, .string t, .int .i64 c, .int .i64 0] 33)).drew
  have hlo := HB1.out.size
  clear s0 s1 s2 s3 hst C0 C1 C2 C3 HW HQ e0 e1 e2 e3 e4 e5 e6 HI HB1 k1 k2 hg hqs z0 z1 z2 z3 z4 z5
  have hP2' : Cl (w1.alloc (.cells #[.pointer none, .int .i64 l, .int .i64 r, .string t, .int .i64 c, .int .i64 0] 33)).drew w1.heap.size 33 [.pointer none, .int .i64 l, .int .i64 r, .string t, .int .i64 c, .int .i64 0] := hP2
  clear hP2
  generalize (w1.alloc (.cells #[.pointer none, .int .i64 l, .int .i64 r, .string t, .int .i64 c, .int .i64 0] 33)).drew = W2 at *
  generalize w1.heap.size = P at *
  have HP2 : Hid (Cl W2 P 33 [.pointer none, .int .i64 l, .int .i64 r, .string t, .int .i64 c, .int .i64 0]) := hP2'
  have HB2 : Hid (Below w.heap.size w W2) := hB2
  have c1 : W2.cell? ⟨P, 1, none⟩ = some (.int .i64 l) := hP2'.c 1 _ rfl
  have c2 : W2.cell? ⟨P, 2, none⟩ = some (.int .i64 r) := hP2'.c 2 _ rfl
  have hPW : P < W2.heap.size := hP2'.ty.lt
  clear hP2' hB2
  go_wp2_with fail
  go_region_held3 (fun w' => ∀ b o, b < W2.heap.size → w'.cell? ⟨b, o, none⟩ = W2.cell? ⟨b, o, none⟩)
    ((intro b' o' h1; first | rfl | (exact hbN.cell (p := ⟨b', o', none⟩) h1)))
    ((go_at_call 20; refine (knew_any l r _ HM.out).mono ?_; rintro e w3 ⟨B, rfl, hk3⟩; have hbN : Below W2.heap.size W2 w3 := (Below.refl _ _).drew.trans hk3.bl))
  rename ∀ (b o : Nat), b < W2.heap.size → _ = W2.cell? _ => hSold
  clear hSold c1 c2
  have hP3 := HP2.out.later hbN
  have hK3 : KB w w3 B ⟨l, r, Px.first, ByteArray.empty⟩ := ⟨Nat.le_trans HB2.out.size hk3.lo, HB2.out.trans (hbN.mono HB2.out.size), hk3.pb⟩
  have c0 : w3.cell? ⟨P, 0, none⟩ = some (.pointer none) := hP3.c 0 _ rfl
  have f0 := hP3.f 0 (by simp)
  have hP3l := hP3.ty.lt
  have hW4 : KW w (w3.setCell ⟨P, 0, none⟩ (.pointer (some ⟨B, 0, none⟩))) P B l r t c 0 ⟨l, r, Px.first, ByteArray.empty⟩ := by
    obtain ⟨sl, en, hp⟩ := hK3.pb
    exact ⟨hP3.set 0 (by simp) _, ⟨hK3.lo, hK3.bl.setCell hlo _, sl, en, hp.far hP3.ty (by decide) (by decide) (by decide) _ _⟩, hlo⟩
  clear hP3 hK3 hk3 hbN HP2 HB2
  go_upto_region 7 with fail
  clear c0 f0 hP3l
  generalize w3.setCell ⟨P, 0, none⟩ (.pointer (some ⟨B, 0, none⟩)) = W4 at *
  have HW4 : Hid (KW w W4 P B l r t c 0 ⟨l, r, Px.first, ByteArray.empty⟩) := hW4
  have c3 : W4.cell? ⟨P, 3, none⟩ = some (.string t) := hW4.p.c 3 _ rfl
  have hP4 := hW4.p.ty.lt
  clear hW4
  go_wp2_with fail
  refine (kload_any ⟨l, r, Px.first, ByteArray.empty⟩ B t w _ (Px.KI.new HM.out).ok (Nat.zero_le _) (by have := (Kp.tabs_size t HMem.out).1; unfold maxLen; omega) HT.out HW4.out.b).mono ?_
  rintro e w5 ⟨b', a, r', rfl, hL, hK5, hg5⟩
  obtain ⟨ea, er, eb, hki, _, hz⟩ := ld_load HM.out HMem.out hL
  subst ea er eb
  have hW5 := HW4.out.call hK5 hg5
  have HW5 : Hid (KW w w5 P B l r t c 0 (ldB l r t)) := hW5
  have HKI : Hid (Px.KI (ldB l r t) l r t (-1) 0 ∧ (ldB l r t).log.size ≤ 10000) := ⟨hki, by omega⟩
  have c4 : w5.cell? ⟨P, 4, none⟩ = some (.int .i64 c) := hW5.p.c 4 _ rfl
  have hP5 := hW5.p.ty.lt
  clear hL hK5 hg5 hki hz hW5 c3 HW4
  go_wp2_with fail
  refine (ktick_any (ldB l r t) B c w _ HKI.out.1.ok HKI.out.2 HT.out HW5.out.b).mono ?_
  obtain ⟨m1, m2, m3, m4⟩ := beg_ki HM.out HMem.out hc0 hc1
  rw [m1]
  rintro e w6 ⟨rfl, hK6, hg6⟩
  have hW6 : KW w w6 P B l r t c 0 (begB l r t c) := HW5.out.call hK6 hg6
  have HKI6 : Hid (Px.KI (begB l r t c) l r t c (begG l r t c)) := m4
  have c5 : w6.cell? ⟨P, 5, none⟩ = some (.int .i64 0) := hW6.p.c 5 _ rfl
  have f5 := hW6.p.f 5 (by simp)
  have hP6 := hW6.p.ty.lt
  have hW7 : KW w (w6.setCell ⟨P, 5, none⟩ (.int .i64 (begG l r t c))) P B l r t c (begG l r t c) (begB l r t c) := hW6.set 5 _ (by decide) rfl
  clear hK6 hg6 hW6 c4 HW5 m1 m4
  generalize hG : begG l r t c = G at *
  generalize hb : begB l r t c = b at *
  have HGb : Hid (begG l r t c = G ∧ begB l r t c = b) := ⟨hG, hb⟩
  clear hG hb
  go_upto_region 12 with fail
  clear c5 f5
  generalize w6.setCell ⟨P, 5, none⟩ (.int .i64 G) = W7 at *
  have HW7 : Hid (KW w W7 P B l r t c G b) := hW7
  clear hW7
  go_wp2_with fail
  refine (klook_any b B w _ HW7.out.b).mono ?_
  rintro e w8 ⟨rfl, _, hb8⟩
  unfold pviewV
  rw [HKI6.out.clk, HKI6.out.nxt, HKI6.out.tab]
  have hW8 := (HW7.out.later hb8).later (below_alloc w8 (.cells #[.int .i64 c, .int .i64 (1 + G), .int .i64 b.st.slots.length, .int .i64 b.st.ends.length, .string t] 36))
  have hV := Cl.new w8 [.int .i64 c, .int .i64 (1 + G), .int .i64 b.st.slots.length, .int .i64 b.st.ends.length, .string t] 36
  clear hb8 HW7
  go_upto_region 13 with fail
  have hV' : Cl (w8.alloc (.cells #[.int .i64 c, .int .i64 (1 + G), .int .i64 b.st.slots.length, .int .i64 b.st.ends.length, .string t] 36)) w8.heap.size 36 [.int .i64 c, .int .i64 (1 + G), .int .i64 b.st.slots.length, .int .i64 b.st.ends.length, .string t] := hV
  clear hV
  generalize w8.alloc (.cells #[.int .i64 c, .int .i64 (1 + G), .int .i64 b.st.slots.length, .int .i64 b.st.ends.length, .string t] 36) = W9 at *
  generalize w8.heap.size = vq at *
  have v0 : W9.cell? ⟨vq, 0, none⟩ = some (.int .i64 c) := hV'.c 0 _ rfl
  have v1 : W9.cell? ⟨vq, 1, none⟩ = some (.int .i64 (1 + G)) := hV'.c 1 _ rfl
  have v4 : W9.cell? ⟨vq, 4, none⟩ = some (.string t) := hV'.c 4 _ rfl
  have d3 : W9.cell? ⟨P, 3, none⟩ = some (.string t) := hW8.p.c 3 _ rfl
  have d4 : W9.cell? ⟨P, 4, none⟩ = some (.int .i64 c) := hW8.p.c 4 _ rfl
  have hv9 := hV'.ty.lt
  have hP9 := hW8.p.ty.lt
  have HW9 : Hid (KW w W9 P B l r t c G b) := hW8
  clear hV' hW8
  go_quiet (fail)
  go_wp2_with fail
  go_ret2
  refine ⟨P, B, rfl, ?_⟩
  rw [HE.out.1, HE.out.2.1, HE.out.2.2.1, HE.out.2.2.2, HGb.out.1, HGb.out.2]
  exact HW9.out.later (below_drewN (Below.refl _ _) _)
set_option maxHeartbeats 1000000 in
theorem kfull_any (more : Int) (w0 w : World) (P B : Nat) (l r : Int) (t : ByteArray) (c g : Int) (b : Px.Bo) (h0 : 0 ≤ more) (h1 : more ≤ 100000) (hz : b.log.size ≤ 10000) (h : KW w0 w P B l r t c g b) :
    Calls Tryz.prog 17 #[.pointer (some ⟨P, 0, none⟩), .int .i64 more] w fun e w' => e = .returned (.bool (decide (r < (b.log.size : Int) + more))) ∧ w' = w := by
  have H : Hid (KW w0 w P B l r t c g b) := h
  have c0 : w.cell? ⟨P, 0, none⟩ = some (.pointer (some ⟨B, 0, none⟩)) := h.p.c 0 _ rfl
  have c2 : w.cell? ⟨P, 2, none⟩ = some (.int .i64 r) := h.p.c 2 _ rfl
  have hP := h.p.ty.lt
  clear h
  go_enter Tryz.func17, Tryz.ntmps17
  go_wp2_with fail
  refine (klog_any b B w0 _ H.out.b).mono ?_
  rintro e w1 ⟨rfl, h2⟩
  have h3 := h2.symm
  subst h3
  go_wp2_with fail
  go_ret
  exact ⟨rfl, rfl⟩
/-- May a Tick be refused so? -/
def tkd (b : Px.Bo) (l r g e n : Int) : Bool := (decide (e = 13) && decide (r < (b.log.size : Int) + (12 + 9 * l))) || (decide (e = 7) && decide (9999 < g + 4 * n))
set_option maxHeartbeats 2000000 in
theorem kticked_any (e n : Int) (w0 w : World) (P B : Nat) (l r : Int) (t : ByteArray) (c g : Int) (b : Px.Bo) (hl : 0 ≤ l) (hl2 : l ≤ 4) (hn : 0 ≤ n) (hn2 : n ≤ 100000) (hg : 0 ≤ g) (hg2 : g ≤ 100000) (hz : b.log.size ≤ 10000) (h : KW w0 w P B l r t c g b) :
    Calls Tryz.prog 53 #[.pointer (some ⟨P, 0, none⟩), .int .i64 e, .int .i64 n] w fun x w' => x = .returned (.bool (tkd b l r g e n)) ∧ w' = w := by
  have H : Hid (KW w0 w P B l r t c g b) := h
  have c1 : w.cell? ⟨P, 1, none⟩ = some (.int .i64 l) := h.p.c 1 _ rfl
  have c5 : w.cell? ⟨P, 5, none⟩ = some (.int .i64 g) := h.p.c 5 _ rfl
  have hP := h.p.ty.lt
  have HZ : Hid (b.log.size ≤ 10000) := hz
  have HD : Hid (∃ f, decide (r < (b.log.size : Int) + (12 + 9 * l)) = f) := ⟨_, rfl⟩
  obtain ⟨f, hf⟩ := HD.out
  have HF : Hid (decide (r < (b.log.size : Int) + (12 + 9 * l)) = f) := hf
  have HR : Hid (tkd b l r g e n = ((decide (e = 13) && f) || (decide (e = 7) && decide (9999 < g + 4 * n)))) := by unfold Hid tkd; rw [hf]
  clear h hz HD hf
  go_enter Tryz.func53, Tryz.ntmps53
  go_wp2_with fail
  refine (kfull_any (12 + 9 * l) w0 _ P B l r t c g b (by omega) (by omega) HZ.out H.out).mono ?_
  rw [HF.out]
  rintro e w1 ⟨rfl, h2⟩
  have h3 := h2.symm
  subst h3
  by_cases h13 : e = 13
  · cases f <;> by_cases h7 : e = 7 <;> by_cases h9 : 9999 < g + 4 * n <;> (go_wp2_with fail; go_ret; refine ⟨?_, rfl⟩; rw [HR.out]; simp [*])
  · cases f <;> by_cases h7 : e = 7 <;> by_cases h9 : 9999 < g + 4 * n <;> (go_wp2_with fail; go_ret; refine ⟨?_, rfl⟩; rw [HR.out]; simp [*])
end Go.Proofs.YtdajolpoiffimabGreatDoor

namespace Go.Proofs.YtdajolpoiffimabGreatDoor
open Go.ChangeShapes Go.WideShapes Go.ChangeAt Go.RowKit Go.Deep

namespace Kb
set_option maxRecDepth 100000 in
theorem stepT : ∃ f0 f1 f2 : Field, Tryz.prog.underlying 26 = some (.struct #[f0, f1, f2]) ∧ f0.offset = 0 ∧ f1.offset = 1 ∧ f2.offset = 2 ∧ f0.type = 3 ∧ f1.type = 3 ∧ f2.type = 9 := ⟨_, _, _, Tryz.underlying26, rfl, rfl, rfl, rfl, rfl, rfl⟩
theorem stepCells : Tryz.prog.cellsOf 26 = 3 := by kernel_rfl
theorem intCell1 : Tryz.prog.cellsOf 3 = 1 := by kernel_rfl
theorem strCell1 : Tryz.prog.cellsOf 9 = 1 := by kernel_rfl
set_option maxRecDepth 100000 in
/-- A script that is handed over. -/
theorem open_steps {H : Type} {enc : TypeId × Value → H} {W : World} {r : Reach} {b0 : Nat} {v : Value} {d : DataW H} {ps : List MemPlace} (hval : Value.okWide Tryz.prog W r b0 24 v) (hd : DataW.Trod enc Tryz.prog W 0 (fun _ => true) true 24 v d ps) :
    ∃ L, KScrAt W v L ∧ (∀ x ∈ L, I64 x.2.1 ∧ x.2.2.size ≤ maxLen) ∧ L.length ≤ maxLen ∧ ((d = .nil ∧ L = []) ∨ ∃ elems spare, d = .slice elems spare ∧ elems.length = L.length) := by
  obtain ⟨a0, n0, c0, rfl⟩ := okWide_slice Tryz.underlying24 hval
  obtain ⟨fuel, hf⟩ := hd
  have hf' : DataW.trod enc Tryz.prog W 0 (fun _ => true) true fuel 24 [.slice a0 n0 c0] = some (d, ps) := by simpa [Value.cells] using hf
  obtain ⟨f0, f1, f2, he, o0, o1, o2, t0, t1, t2⟩ := stepT
  rcases open_slice Tryz.underlying24 hf' with ⟨h1, h2⟩ | ⟨a, len, cap, m, n, D, Pl, h1, hb, hl, hm, hmm, h2, hx⟩
  · simp at h1
    obtain ⟨rfl, rfl, rfl⟩ := h1
    simp only [Prod.mk.injEq] at h2
    exact ⟨[], ⟨none, 0, rfl, Nat.le_refl _, fun i h => absurd h (by simp)⟩, by simp, by simp, Or.inl ⟨h2.1, rfl⟩⟩
  · simp at h1
    obtain ⟨rfl, rfl, rfl⟩ := h1
    simp only [Prod.mk.injEq] at h2
    have hmc : m = c0 := by rw [hmm]; simp
    have each : ∀ i, i < n0 → ∃ q : Int × Int × ByteArray, W.cell? (a.add (i * 3)) = some (.int .i64 q.1) ∧ W.cell? (a.add (i * 3 + 1)) = some (.int .i64 q.2.1) ∧ W.cell? (a.add (i * 3 + 2)) = some (.string q.2.2) ∧ I64 q.2.1 ∧ q.2.2.size ≤ maxLen := by
      intro i hi
      obtain ⟨cs', g1, g2⟩ := hx i (by omega)
      rw [stepCells] at g1
      obtain ⟨_, hlen, hcell⟩ := World.cells?_some g1
      obtain ⟨xs, k, hk, hxy, _, hxl, hfd⟩ := DataW.trod_struct he g2
      match xs, hxl, cs', hlen with
      | [y0, y1, y2], _, [v0, v1, v2], _ =>
        have k0 := hfd 0 f0 rfl
        have k1 := hfd 1 f1 rfl
        have k2 := hfd 2 f2 rfl
        simp [o0, o1, o2, t0, t1, t2, intCell1, strCell1] at k0 k1 k2
        have e0 := hcell 0 (by omega)
        have e1 := hcell 1 (by omega)
        have e2 := hcell 2 (by omega)
        rw [add_add] at e0 e1 e2
        obtain ⟨z0, q0, _, _⟩ := DataW.trod_int Tryz.underlying3 k0
        obtain ⟨z1, q1, _, q4⟩ := DataW.trod_int Tryz.underlying3 k1
        obtain ⟨z2, q2, _, q3⟩ := DataW.trod_string Tryz.underlying9 k2
        simp at q0 q1 q2
        subst q0 q1 q2
        exact ⟨(z0, z1, z2), by simpa using e0, by simpa using e1, by simpa using e2, bounds_i64 q4, q3⟩
    obtain ⟨q, hq⟩ := choose_lt each
    refine ⟨(List.range n0).map q, ⟨some a, c0, by simp, by simpa using hl, fun i hi => ?_⟩, ?_, by simp; omega, Or.inr ⟨_, _, h2.1, by simp⟩⟩
    · have hi' : i < n0 := by simpa using hi
      obtain ⟨e0, e1, e2, _⟩ := hq i hi'
      have z0 := (hq 0 (by omega)).1
      obtain ⟨ab, ao, asp⟩ := a
      have hsp : asp = none := by
        cases asp with
        | none => rfl
        | some z =>
          exfalso
          simp only [World.cell?, Addr.add] at z0
          split at z0
          · simp at z0
          · cases z0
      subst hsp
      refine ⟨ab, ao, rfl, ?_⟩
      simp only [List.getElem_map, List.getElem_range]
      rw [add_plain] at e0 e1 e2
      exact ⟨e0, e1, e2⟩
    · intro x hx'
      obtain ⟨i, hi, rfl⟩ := List.mem_map.1 hx'
      exact (hq i (List.mem_range.1 hi)).2.2.2
end Kb
end Go.Proofs.YtdajolpoiffimabGreatDoor

namespace Go.Proofs.YtdajolpoiffimabGreatDoor
open Go.ChangeShapes Go.WideShapes Go.ChangeAt Go.RowKit

namespace Kb
theorem cellsSetup : Tryz.prog.cellsOf 23 = 4 := by kernel_rfl
theorem four {α : Type} {cs : Array α} (h : cs.size = 4) : ∃ a b c d, cs = #[a, b, c, d] := by
  obtain ⟨l⟩ := cs
  match l, h with
  | [a, b, c, d], _ => exact ⟨a, b, c, d, rfl⟩
set_option maxRecDepth 10000 in
theorem open_setup {H : Type} {enc : TypeId × Value → H} {w : World} {r : Reach} {b0 base : Nat} {spare : Nat → Bool} {held : Bool} {v : Value} {x : DataW H} {p : List MemPlace}
    (hv : Value.okWide Tryz.prog w r b0 23 v) (h : DataW.Trod enc Tryz.prog w base spare held 23 v x p) : ∃ a b c d : Int, v = suV a b c d ∧ I64 a ∧ I64 b ∧ I64 c ∧ I64 d := by
  obtain ⟨cs, rfl, hsz⟩ := okWide_struct Tryz.underlying23 hv
  obtain ⟨c0, c1, c2, c3, rfl⟩ := four (hsz.trans cellsSetup)
  obtain ⟨fuel, hf⟩ := h
  obtain ⟨xs, n, _, _, _, hlen, hfld⟩ := DataW.trod_struct Tryz.underlying23 hf
  have q : ∀ (c : Value) (y : DataW H × List MemPlace), DataW.trod enc Tryz.prog w base spare held n 3 [c] = some y → ∃ z : Int, c = .int .i64 z ∧ I64 z := by
    intro c y hy
    obtain ⟨z, e, _, e2⟩ := DataW.trod_int Tryz.underlying3 hy
    exact ⟨z, by simpa using e, bounds_i64 e2⟩
  obtain ⟨x0, e0⟩ := someAt hlen (i := 0) (by decide)
  obtain ⟨x1, e1⟩ := someAt hlen (i := 1) (by decide)
  obtain ⟨x2, e2⟩ := someAt hlen (i := 2) (by decide)
  obtain ⟨x3, e3⟩ := someAt hlen (i := 3) (by decide)
  have h0 := hfld 0 _ rfl
  have h1 := hfld 1 _ rfl
  have h2 := hfld 2 _ rfl
  have h3 := hfld 3 _ rfl
  simp only [Value.cells] at h0 h1 h2 h3
  obtain ⟨a, rfl, ha⟩ := q c0 x0 (h0.trans e0)
  obtain ⟨b, rfl, hb⟩ := q c1 x1 (h1.trans e1)
  obtain ⟨c, rfl, hc⟩ := q c2 x2 (h2.trans e2)
  obtain ⟨d, rfl, hd⟩ := q c3 x3 (h3.trans e3)
  exact ⟨a, b, c, d, rfl, ha, hb, hc, hd⟩
end Kb
end Go.Proofs.YtdajolpoiffimabGreatDoor

namespace Go.Proofs.YtdajolpoiffimabGreatDoor
namespace Kp
/-- A slot, as it is told; a snap. -/
structure Ts where
  num : Int
  line : Int
  minute : Int
  att : Int
  frm : Int
  step : Int
structure Sn where
  clock : Int
  next : Int
  tab : ByteArray
  slots : List Ts
  ends : List Bx.En
def tsOf (x : Px.Sl) : Ts := ⟨x.num, x.line, x.minute, x.att, x.frm, x.step⟩
def snOf (s : Px.St) : Sn := ⟨s.clock, s.next, s.tab, s.slots.map tsOf, s.ends⟩
def stillT (x : Ts) : Ts := { x with step := 0 }
def intT (s : Sn) : Sn := { s with slots := s.slots.map stillT }
def tsB (x : Bx.Sl) : Ts := ⟨x.num, x.line, x.minute, x.att, x.frm, 0⟩
def snB (s : Bx.St) : Sn := ⟨s.clock, s.next, s.tab, s.slots.map tsB, s.ends⟩
theorem sn_int (s : Px.St) : intT (snOf s) = snB (Px.abs s) := by
  unfold intT snOf snB Px.abs
  simp only [List.map_map]
  rfl
theorem sn_open (s : Px.St) : snOf (Px.intP s) = snB (Px.abs s) := by
  unfold snOf snB Px.abs Px.intP
  simp only [List.map_map]
  rfl
theorem still_ts (x : Px.Sl) : stillT (tsOf x) = tsB (Px.absS x) := rfl
/-- The slot of a number. -/
def fnd (s : Sn) (n : Int) : Option Ts := s.slots.find? fun x => x.num == n
def Dst (s : Sn) : Prop := s.slots.Pairwise fun a b => a.num ≠ b.num
theorem fnd_mem {s : Sn} (hd : Dst s) {x : Ts} (hx : x ∈ s.slots) : fnd s x.num = some x := by
  unfold fnd
  unfold Dst at hd
  generalize s.slots = l at *
  induction l with
  | nil => simp at hx
  | cons a r ih =>
    have hp := List.pairwise_cons.1 hd
    rcases List.mem_cons.1 hx with q | q
    · subst q; simp
    · have hne := hp.1 x q
      rw [List.find?_cons_of_neg (by simpa using hne)]
      exact ih hp.2 q
theorem fnd_some {s : Sn} {n : Int} {x : Ts} (h : fnd s n = some x) : x ∈ s.slots ∧ x.num = n := ⟨List.mem_of_find?_eq_some h, by simpa using List.find?_some h⟩
theorem fnd_is {s : Sn} {x : Ts} (hx : x ∈ s.slots) : (fnd s x.num).isSome = true := by
  unfold fnd; rw [List.find?_isSome]; exact ⟨x, hx, by simp⟩
/-- From within a call. -/
structure Btw (a z r : Sn) : Prop where
  clk : r.clock = a.clock ∨ r.clock = z.clock
  nxt : r.next = a.next ∨ r.next = z.next
  tab : r.tab = z.tab
  sl : ∀ y ∈ r.slots, (∃ x, fnd a y.num = some x ∧ y = stillT x) ∨ (∃ x, fnd z y.num = some x ∧ y = stillT x)
  az : ∀ x ∈ a.slots, (fnd z x.num).isSome = true → (fnd r x.num).isSome = true
  zr : r.next = z.next → ∀ x ∈ z.slots, (fnd r x.num).isSome = true
end Kp
namespace Bx
theorem abs_mem {l : List Sl} {i : Nat} {x y : Sl} (hi : i < l.length) (hn : x.num = l[i].num) (_hd : ∀ a (ha : a < l.length) b (hb : b < l.length), l[a].num = l[b].num → a = b) (hy : ¬ y.num = x.num) : (y ∈ l.set i x ↔ y ∈ l) ∧ (y ∈ l.eraseIdx i ↔ y ∈ l) := by
  constructor
  · constructor
    · intro h
      rcases List.mem_or_eq_of_mem_set h with q | q
      · exact q
      · rw [q] at hy; exact absurd rfl hy
    · intro h
      obtain ⟨j, hj, rfl⟩ := List.mem_iff_getElem.1 h
      have hne : i ≠ j := fun e => by subst e; exact hy hn.symm
      rw [List.mem_iff_getElem]
      exact ⟨j, by simpa using hj, by rw [List.getElem_set_ne hne]⟩
  · constructor
    · intro h; exact (List.eraseIdx_sublist _ _).subset h
    · intro h
      obtain ⟨j, hj, rfl⟩ := List.mem_iff_getElem.1 h
      rw [List.mem_eraseIdx_iff_getElem]
      exact ⟨j, hj, fun e => by subst e; exact hy hn.symm, rfl⟩
/-- A failed one leaves the others as they are, and makes no new number. -/
theorem F_other {s : St} (h : MayS s) (n : Int) {y : Sl} (hy : ¬ y.num = n) : (y ∈ (doP s (chF n)).1.slots ↔ y ∈ s.slots) := by
  have e : doP s (chF n) = aboutP s 70 n := Px.do_about _ _ _ _ (by decide) (by decide)
  rw [e]; unfold aboutP
  split
  · exact Iff.rfl
  · rename_i hn
    obtain ⟨hi, hnum⟩ := find_num hn
    have hf := find_nat hn
    generalize (find s n).toNat = i at *
    rw [hf, if_neg (by decide), if_neg (by decide), if_neg (by decide), if_pos rfl]
    show y ∈ (failed s i).slots ↔ _
    have hd : ∀ a (ha : a < s.slots.length) b (hb : b < s.slots.length), s.slots[a].num = s.slots[b].num → a = b := fun a ha b hb e => h.dist ha hb e
    unfold failed
    rw [slAt_eq hi]
    split
    · show y ∈ withoutL s.slots i ↔ _
      rw [Px.without_erase]
      exact (abs_mem (x := s.slots[i]) hi rfl hd (by rw [hnum]; exact hy)).2
    · show y ∈ putL s.slots i _ ↔ _
      rw [put_set]
      refine (abs_mem hi ?_ hd ?_).1
      · rfl
      · show ¬ y.num = s.slots[i].num
        rw [hnum]; exact hy
theorem F_num (s : St) (n : Int) {y : Sl} (hy : y ∈ (doP s (chF n)).1.slots) : ∃ x ∈ s.slots, x.num = y.num := by
  have e : doP s (chF n) = aboutP s 70 n := Px.do_about _ _ _ _ (by decide) (by decide)
  rw [e] at hy; unfold aboutP at hy
  split at hy
  · exact ⟨y, hy, rfl⟩
  · rename_i hn
    obtain ⟨hi, hnum⟩ := find_num hn
    have hf := find_nat hn
    generalize (find s n).toNat = i at *
    rw [hf, if_neg (by decide), if_neg (by decide), if_neg (by decide), if_pos rfl] at hy
    have hy' : y ∈ (failed s i).slots := hy
    unfold failed at hy'
    rw [slAt_eq hi] at hy'
    split at hy'
    · have : y ∈ withoutL s.slots i := hy'
      rw [Px.without_erase] at this
      exact ⟨y, (List.eraseIdx_sublist _ _).subset this, rfl⟩
    · have : y ∈ putL s.slots i _ := hy'
      rw [put_set] at this
      rcases List.mem_or_eq_of_mem_set this with q | q
      · exact ⟨y, q, rfl⟩
      · exact ⟨s.slots[i], List.getElem_mem hi, by rw [q]⟩
theorem tellF_other {s : St} (h : MayS s) (n : Int) {y : Sl} (hy : ¬ y.num = n) : y ∈ (tell s (chF n)).slots ↔ y ∈ s.slots := by
  unfold tell; split
  · exact F_other h n hy
  · exact Iff.rfl
theorem tellF_num (s : St) (n : Int) {y : Sl} (hy : y ∈ (tell s (chF n)).slots) : ∃ x ∈ s.slots, x.num = y.num := by
  unfold tell at hy; split at hy
  · exact F_num s n hy
  · exact ⟨y, hy, rfl⟩
theorem tell_may {s : St} (h : MayS s) (c : Ch) : MayS (tell s c) := by
  unfold tell; split
  · exact h.do c
  · exact h
theorem toldF_other (ns : List Int) : ∀ {s : St}, MayS s → ∀ {y : Sl}, y.num ∉ ns → (y ∈ (told s (ns.map chF)).slots ↔ y ∈ s.slots) := by
  induction ns with
  | nil => intro s _ y _; exact Iff.rfl
  | cons n r ih =>
    intro s h y hy
    have h1 : ¬ y.num = n := fun e => hy (by simp [e])
    have h2 : y.num ∉ r := fun e => hy (by simp [e])
    show y ∈ (told (tell s (chF n)) (r.map chF)).slots ↔ _
    rw [ih (tell_may h _) h2, tellF_other h n h1]
theorem toldF_num (ns : List Int) : ∀ {s : St} {y : Sl}, y ∈ (told s (ns.map chF)).slots → ∃ x ∈ s.slots, x.num = y.num := by
  induction ns with
  | nil => intro s y hy; exact ⟨y, hy, rfl⟩
  | cons n r ih =>
    intro s y hy
    obtain ⟨x, hx, e⟩ := ih (s := tell s (chF n)) hy
    obtain ⟨z, hz, e2⟩ := tellF_num s n hx
    exact ⟨z, hz, by rw [e2, e]⟩
theorem told_app (s : St) (L M : List Ch) : told s (L ++ M) = told (told s L) M := by unfold told; rw [List.foldl_append]
end Bx
namespace Kp
theorem dst_of {s : Px.St} (h : Bx.MayS (Px.abs s)) : Dst (snOf s) := by
  have := h.rise
  unfold Px.abs at this
  rw [List.pairwise_map] at this
  unfold Dst snOf
  rw [List.pairwise_map]
  exact this.imp fun q => by show _ ≠ _; simp only [tsOf]; simp only [Px.absS] at q; omega
/-- A slot that is among the state's is among what is told. -/
theorem has_of {s : Px.St} (h : Bx.MayS (Px.abs s)) {y : Bx.Sl} (hy : y ∈ (Px.abs s).slots) : ∃ x, fnd (snOf s) y.num = some x ∧ tsB y = stillT x := by
  obtain ⟨x, hx, rfl⟩ := List.mem_map.1 hy
  exact ⟨tsOf x, fnd_mem (dst_of h) (x := tsOf x) (List.mem_map.2 ⟨x, hx, rfl⟩), (still_ts x).symm⟩
theorem is_B {s : Bx.St} {n : Int} {y : Bx.Sl} (hy : y ∈ s.slots) (hn : y.num = n) : (fnd (snB s) n).isSome = true := by
  rw [← hn]; exact fnd_is (s := snB s) (x := tsB y) (List.mem_map.2 ⟨y, hy, rfl⟩)
/-- Within a Tick. -/
theorem btw_tick {b : Px.Bo} {l r : Int} {t : ByteArray} {c g : Int} (h : Px.KI b l r t c g) {m : Int} (h0 : (Px.tickB b m).2.2 = 0) {k : Nat} (hk : 1 ≤ k) :
    Btw (snOf b.st) (snOf (Px.tickB b m).1.st) (snB (Bx.told (Px.abs b.st) ((chCl m :: (Px.late (Px.clockP b.st m).1).map chF).take k))) := by
  rcases Px.tick_adv h.ok m with ⟨q, _⟩ | ⟨_, hc0, ha⟩
  · exact absurd h0 q
  obtain ⟨_, hall, hpw⟩ := Px.tick_late h.ok hc0
  have hcl := Px.clock_abs b.st m hc0
  have hd1 : Bx.doP (Px.abs b.st) (chCl m) = (Px.abs (Px.clockP b.st m).1, true) := by
    unfold Bx.doP
    rw [if_neg (show ¬ (chCl m).kind = 84 by show ¬ (67 : Int) = 84; omega), if_pos (show (chCl m).kind = 67 from rfl)]
    exact hcl
  have hdo : (Bx.doP (Px.abs b.st) (chCl m)).2 = true := by rw [hd1]
  obtain ⟨j, rfl⟩ : ∃ j, k = j + 1 := ⟨k - 1, by omega⟩
  obtain ⟨_, _, _, _, hst⟩ := Px.clock_st hc0
  obtain ⟨z, z1, z2, _⟩ := Px.arrs_slots (Px.comesP b.st m) b.st
  generalize hns : Px.late (Px.clockP b.st m).1 = ns at *
  have hz := ha.st
  rw [Bx.told_cons hdo, hd1] at hz
  have hz' : Px.abs (Px.tickB b m).1.st = Bx.told (Px.abs (Px.clockP b.st m).1) (ns.map chF) := hz
  rw [List.take_succ_cons, Bx.told_cons hdo, hd1]
  show Btw _ _ (snB (Bx.told (Px.abs (Px.clockP b.st m).1) ((ns.map chF).take j)))
  rw [← List.map_take]
  have hm0 : Bx.MayS (Px.abs (Px.clockP b.st m).1) := by have := h.may.do (chCl m); rw [hd1] at this; exact this
  have hmj := hm0.told ((ns.take j).map chF)
  have hmz : Bx.MayS (Px.abs (Px.tickB b m).1.st) := by rw [hz']; exact hm0.told _
  have hsp : Px.abs (Px.tickB b m).1.st = Bx.told (Bx.told (Px.abs (Px.clockP b.st m).1) ((ns.take j).map chF)) ((ns.drop j).map chF) := by
    rw [hz', ← Bx.told_app, ← List.map_append, List.take_append_drop]
  have ab : ∀ L : List Int, Px.About (L.map chF) := fun L x hx => by
    obtain ⟨y, _, rfl⟩ := List.mem_map.1 hx
    exact ⟨by show ¬ (70 : Int) = 84; decide, by show ¬ (70 : Int) = 67; decide⟩
  obtain ⟨j1, j2, j3⟩ := Px.told_keep ((ns.take j).map chF) (Px.abs (Px.clockP b.st m).1) (ab _)
  obtain ⟨p1, p2, p3⟩ := Px.told_keep (ns.map chF) (Px.abs (Px.clockP b.st m).1) (ab _)
  rw [← hz'] at p1 p2 p3
  refine ⟨Or.inr (j2.trans p2.symm), Or.inr (j3.trans p3.symm), j1.trans p1.symm, ?_, ?_, ?_⟩
  · intro y hy
    obtain ⟨x, hx, rfl⟩ := List.mem_map.1 hy
    by_cases hin : x.num ∈ ns.drop j
    · left
      have hnt : x.num ∉ ns.take j := by
        intro q
        rw [← List.take_append_drop j ns, List.pairwise_append] at hpw
        exact hpw.2.2 _ q _ hin rfl
      have hx0 : x ∈ (Px.abs (Px.clockP b.st m).1).slots := (Bx.toldF_other (ns.take j) hm0 hnt).1 hx
      obtain ⟨y0, hy0, hyn, hys⟩ := hall x.num (List.mem_of_mem_drop hin)
      obtain ⟨px, hpx, hpe⟩ := List.mem_map.1 hx0
      have hsame : px = y0 := by
        have hd := (Px.tick_late h.ok hc0).1.dist
        exact hd.mem hpx hy0 (by rw [hyn, ← hpe]; rfl)
      subst hsame
      have hpx2 : px ∈ b.st.slots ++ z := by rw [← z1]; rw [hst] at hpx; exact hpx
      have hpb : px ∈ b.st.slots := by
        rcases List.mem_append.1 hpx2 with q | q
        · exact q
        · have := (z2 px q).1; omega
      exact has_of h.may (List.mem_map.2 ⟨px, hpb, hpe⟩)
    · right
      have : x ∈ (Px.abs (Px.tickB b m).1.st).slots := by rw [hsp]; exact (Bx.toldF_other (ns.drop j) hmj hin).2 hx
      exact has_of hmz this
  · intro x _ hxz
    obtain ⟨v, hv⟩ := Option.isSome_iff_exists.1 hxz
    obtain ⟨hv1, hv2⟩ := fnd_some hv
    obtain ⟨q, hq, rfl⟩ := List.mem_map.1 hv1
    have hq2 : Px.absS q ∈ (Px.abs (Px.tickB b m).1.st).slots := List.mem_map.2 ⟨q, hq, rfl⟩
    rw [hsp] at hq2
    obtain ⟨u, hu, e⟩ := Bx.toldF_num _ hq2
    exact is_B hu (by rw [e]; exact hv2)
  · intro _ x hx
    obtain ⟨q, hq, rfl⟩ := List.mem_map.1 hx
    have hq2 : Px.absS q ∈ (Px.abs (Px.tickB b m).1.st).slots := List.mem_map.2 ⟨q, hq, rfl⟩
    rw [hsp] at hq2
    obtain ⟨u, hu, e⟩ := Bx.toldF_num _ hq2
    exact is_B hu (by rw [e]; rfl)
end Kp
end Go.Proofs.YtdajolpoiffimabGreatDoor

namespace Go.Proofs.YtdajolpoiffimabGreatDoor
namespace Bx
theorem says_may {fl : Bool} {s u : St} {r q : ByteArray} (h : Says fl s r u q) (hs : MayS s) : MayS u := by
  induction h with
  | stop => exact hs
  | go h1 h2 _ ih =>
    refine ih ?_
    rcases h2 with ⟨_, h⟩ | ⟨c, _, _, rfl⟩
    · exact h.1
    · exact hs.do c
end Bx
namespace Px
/-- What was opened is known by what the log says. -/
theorem intP_of {s s' : St} (h : abs s = abs s') : intP s = intP s' := by
  have e : ∀ s : St, intP s = ⟨(abs s).tab, (abs s).clock, (abs s).next, (abs s).slots.map fun x => ⟨x.num, x.line, x.minute, x.att, x.frm, 0, 0, ByteArray.empty⟩, (abs s).ends⟩ := by
    intro s
    unfold intP abs
    simp only [List.map_map]
    rfl
  rw [e s, e s', h]
theorem openB_of {l r : Int} {s s' : St} (h : abs s = abs s') : openB l r s = openB l r s' := by unfold openB; rw [intP_of h]
end Px
end Go.Proofs.YtdajolpoiffimabGreatDoor

namespace Go.Proofs.YtdajolpoiffimabGreatDoor
open Go.RowKit

theorem info_as : (Tryz.prog.info? 81).map (fun i => (i.zero, i.size, i.bytes)) = some (some (.agg #[.int .i64 0, .int .i64 0, .int .i64 0, .int .i64 0, .int .i64 0, .int .i64 0]), 6, 48) := by kernel_rfl
/-- The cells of a slot that is told. -/
def tsC (x : Kp.Ts) : List Value := [.int .i64 x.num, .int .i64 x.line, .int .i64 x.minute, .int .i64 x.att, .int .i64 x.frm, .int .i64 x.step]
theorem tsC_len (x : Kp.Ts) : (tsC x).length = 6 := rfl
theorem tsC_one (x : Kp.Ts) : ∀ u ∈ tsC x, u.oneCell' = true := by
  intro u hu; simp [tsC] at hu; rcases hu with rfl | rfl | rfl | rfl | rfl | rfl <;> rfl
abbrev tsO (x : Kp.Ts) : Obj := .cells #[.int .i64 x.num, .int .i64 x.line, .int .i64 x.minute, .int .i64 x.att, .int .i64 x.frm, .int .i64 x.step] 81
abbrev tsV (x : Kp.Ts) : Value := .agg #[.int .i64 x.num, .int .i64 x.line, .int .i64 x.minute, .int .i64 x.att, .int .i64 x.frm, .int .i64 x.step]
theorem tsC_new (w : World) (x : Kp.Ts) (t : TypeId) : ∀ j u, (tsC x)[j]? = some u → (w.alloc (.cells #[.int .i64 x.num, .int .i64 x.line, .int .i64 x.minute, .int .i64 x.att, .int .i64 x.frm, .int .i64 x.step] t)).cell? ((⟨w.heap.size, 0, none⟩ : Addr).add j) = some u := by
  intro j u hj
  match j, hj with
  | 0, hj => simp [tsC] at hj; subst hj; simp [Addr.add, go_sem]
  | 1, hj => simp [tsC] at hj; subst hj; simp [Addr.add, go_sem]
  | 2, hj => simp [tsC] at hj; subst hj; simp [Addr.add, go_sem]
  | 3, hj => simp [tsC] at hj; subst hj; simp [Addr.add, go_sem]
  | 4, hj => simp [tsC] at hj; subst hj; simp [Addr.add, go_sem]
  | 5, hj => simp [tsC] at hj; subst hj; simp [Addr.add, go_sem]
theorem tsC_new' (w : World) (x : Px.Sl) (t : TypeId) : ∀ j u, (tsC (Kp.tsOf x))[j]? = some u → (w.alloc (.cells #[.int .i64 x.num, .int .i64 x.line, .int .i64 x.minute, .int .i64 x.att, .int .i64 x.frm, .int .i64 x.step] t)).cell? ((⟨w.heap.size, 0, none⟩ : Addr).add j) = some u := tsC_new w (Kp.tsOf x) t
abbrev snC (x : Kp.Sn) (sl en : Value) : List Value := [.int .i64 x.clock, .int .i64 x.next, .int .i64 x.slots.length, .int .i64 x.ends.length, .string x.tab, sl, en]
abbrev snV (x : Kp.Sn) (sl en : Value) : Value := .agg #[.int .i64 x.clock, .int .i64 x.next, .int .i64 x.slots.length, .int .i64 x.ends.length, .string x.tab, sl, en]
/-- The rows of a Snap. -/
structure SnAt (w : World) (x : Kp.Sn) (sl en : Value) : Prop where
  sl : TRow w 81 sl x.slots.length (x.slots.flatMap tsC)
  en : TRow w 85 en x.ends.length (x.ends.flatMap enC)
theorem SnAt.later {w w' : World} {x : Kp.Sn} {sl en : Value} (h : SnAt w x sl en) (hb : Below w.heap.size w w') : SnAt w' x sl en := ⟨h.sl.later hb, h.en.later hb⟩
theorem grow_below {w w1 w2 : World} {q : Nat} (h : w.grownBy w1 (some q)) (hb : Below w.heap.size w1 w2) (hs : w1.heap.size ≤ w2.heap.size) : w.grownBy w2 (some q) :=
  ⟨hb.os.trans h.os, hb.tape.trans h.tape, hb.output.trans h.output, Nat.le_trans h.size hs, fun k hk hne => (hb.block k hk).trans (h.block k hk hne)⟩
theorem PB.grow' {w w' : World} {B q : Nat} {b : Px.Bo} {sl en : Value} {t : TypeId} (h : PB w B b sl en) (hg : w.grownBy w' (some q)) (ht : Typed w q t) (h1 : t ≠ 79) (h2 : 143 ≠ t) (h3 : 85 ≠ t) : PB w' B b sl en := by
  have hne : B ≠ q := fun e => by
    obtain ⟨c1, f1, q1⟩ := ht
    obtain ⟨c2, f2, q2⟩ := h.ty
    rw [← e, q2] at q1; cases q1; exact h1 rfl
  have eb := hg.block B h.ty.lt (fun e => hne (by cases e; rfl))
  have cc : ∀ (k : Nat) (u : Value), w.cell? ⟨B, k, none⟩ = some u → w'.cell? ⟨B, k, none⟩ = some u := fun k u x => by rw [World.cell?_of_block (a := ⟨B, k, none⟩) eb]; exact x
  refine ⟨cc _ _ h.c0, cc _ _ h.c1, cc _ _ h.c2, cc _ _ h.c3, cc _ _ h.c4, cc _ _ h.c5, cc _ _ h.c6, cc _ _ h.c7, fun k hk => by rw [World.frozen?_of_block (a := ⟨B, k, none⟩) eb]; exact h.f k hk, ?_, ⟨h.rows.sl.grow' hg ht h2, h.rows.en.grow' hg ht h3⟩⟩
  obtain ⟨c, f, e⟩ := h.ty
  exact ⟨c, f, eb.trans e⟩
theorem below_set7s {n q : Nat} {w w' : World} (h : Below n w w') (hq : n ≤ q) (u0 u1 u2 u3 u4 u5 u6 : Value) : Below n w (((((((w'.setCell ⟨q, 0, none⟩ u0).setCell ⟨q, 1, none⟩ u1).setCell ⟨q, 2, none⟩ u2).setCell ⟨q, 3, none⟩ u3).setCell ⟨q, 4, none⟩ u4).setCell ⟨q, 5, none⟩ u5).setCell ⟨q, 6, none⟩ u6) :=
  ((((((h.setCell hq _).setCell hq _).setCell hq _).setCell hq _).setCell hq _).setCell hq _).setCell hq _
theorem SnAt.set {w : World} {x : Kp.Sn} {sl en : Value} (h : SnAt w x sl en) {g : Nat} {t : TypeId} (hg : Typed w g t) (h1 : 81 ≠ t) (h2 : 85 ≠ t) (o : Nat) (u : Value) : SnAt (w.setCell ⟨g, o, none⟩ u) x sl en := ⟨h.sl.set hg h1 o u, h.en.set hg h2 o u⟩
theorem SnAt.set7 {w : World} {q : Nat} {x : Kp.Sn} {sl en : Value} (h : SnAt w x sl en) (ty : Typed w q 40) (u0 u1 u2 u3 u4 u5 u6 : Value) :
    SnAt (((((((w.setCell ⟨q, 0, none⟩ u0).setCell ⟨q, 1, none⟩ u1).setCell ⟨q, 2, none⟩ u2).setCell ⟨q, 3, none⟩ u3).setCell ⟨q, 4, none⟩ u4).setCell ⟨q, 5, none⟩ u5).setCell ⟨q, 6, none⟩ u6) x sl en := by
  have st : ∀ (w : World) (j : Nat) (u : Value), (Typed w q 40 ∧ SnAt w x sl en) → (Typed (w.setCell ⟨q, j, none⟩ u) q 40 ∧ SnAt (w.setCell ⟨q, j, none⟩ u) x sl en) := fun w j u h => ⟨h.1.setCell _ _ _, h.2.set h.1 (by decide) (by decide) _ _⟩
  exact (st _ _ _ (st _ _ _ (st _ _ _ (st _ _ _ (st _ _ _ (st _ _ _ (st _ _ _ ⟨ty, h⟩))))))).2
abbrev snZ : List Value := [.int .i64 0, .int .i64 0, .int .i64 0, .int .i64 0, .string { data := #[] }, .slice none 0 0, .slice none 0 0]
set_option maxRecDepth 10000 in
set_option maxHeartbeats 8000000 in
theorem ksnap_any (b : Px.Bo) (B : Nat) (w : World) (hO : Px.Ok b.st) (hB : ∃ sl en, PB w B b sl en) :
    Calls Tryz.prog 9 #[.pointer (some ⟨B, 0, none⟩)] w fun e w' => (∃ sl en, e = .returned (.tuple #[snV (Kp.snOf b.st) sl en, .bool true]) ∧ SnAt w' (Kp.snOf b.st) sl en) ∧ Below w.heap.size w w' := by
  obtain ⟨i0, hi, hz0, hz1, hz2⟩ := info_parts info_as
  obtain ⟨sl0, en0, hB⟩ := hB
  have hn8 := hO.len
  have he6 : b.st.ends.length ≤ 6 := hO.st.en
  have hb0 := below_alloc w (.cells #[.int .i64 0, .int .i64 0, .int .i64 0, .int .i64 0, .string { data := #[] }, .slice none 0 0, .slice none 0 0] 40)
  have hz := Cl.new w snZ 40
  have hB0 := hB.later hb0
  have HO : Hid (Px.Ok b.st) := hO
  clear hB hO
  go_enter Tryz.func9, Tryz.ntmps9
  go_upto_region 1 with fail
  have hz' : Cl (w.alloc (.cells #[.int .i64 0, .int .i64 0, .int .i64 0, .int .i64 0, .string { data := #[] }, .slice none 0 0, .slice none 0 0] 40)) w.heap.size 40 snZ := hz
  clear hz
  generalize w.alloc (.cells #[.int .i64 0, .int .i64 0, .int .i64 0, .int .i64 0, .string { data := #[] }, .slice none 0 0, .slice none 0 0] 40) = W0 at *
  have HZ0 : Hid (Cl W0 w.heap.size 40 snZ) := hz'
  have HB0 : Hid (Below w.heap.size w W0) := hb0
  have HP0 : Hid (PB W0 B b sl0 en0) := hB0
  have hlt0 := hz'.ty.lt
  clear hz' hb0 hB0
  go_wp2_with fail
  refine (xlook_any b B W0 ⟨_, _, HP0.out⟩).mono ?_
  rintro e w1 ⟨rfl, hb1⟩
  have hs := Cl.new w1 [.int .i64 b.st.clock, .int .i64 b.st.next, .int .i64 b.st.slots.length, .int .i64 b.st.ends.length, .string b.st.tab, .slice none 0 0, .slice none 0 0] 40
  have hb2 := hb1.trans ((below_alloc w1 (.cells #[.int .i64 b.st.clock, .int .i64 b.st.next, .int .i64 b.st.slots.length, .int .i64 b.st.ends.length, .string b.st.tab, .slice none 0 0, .slice none 0 0] 40)).mono hb1.size)
  have hbs := hb1.size
  clear hb1
  go_upto_region 2 with fail
  have hs' : Cl (w1.alloc (.cells #[.int .i64 b.st.clock, .int .i64 b.st.next, .int .i64 b.st.slots.length, .int .i64 b.st.ends.length, .string b.st.tab, .slice none 0 0, .slice none 0 0] 40)) w1.heap.size 40 [.int .i64 b.st.clock, .int .i64 b.st.next, .int .i64 b.st.slots.length, .int .i64 b.st.ends.length, .string b.st.tab, .slice none 0 0, .slice none 0 0] := hs
  clear hs
  have hq0 := hbs
  generalize w1.alloc (.cells #[.int .i64 b.st.clock, .int .i64 b.st.next, .int .i64 b.st.slots.length, .int .i64 b.st.ends.length, .string b.st.tab, .slice none 0 0, .slice none 0 0] 40) = W at *
  generalize w1.heap.size = q at *
  clear hbs
  have HP : Hid (PB W B b sl0 en0) := HP0.out.later hb2
  have HZ : Hid (Cl W w.heap.size 40 snZ) := HZ0.out.later hb2
  have HB : Hid (Below w.heap.size w W) := HB0.out.trans (hb2.mono HB0.out.size)
  have HS : Hid (Cl W q 40 [.int .i64 b.st.clock, .int .i64 b.st.next, .int .i64 b.st.slots.length, .int .i64 b.st.ends.length, .string b.st.tab, .slice none 0 0, .slice none 0 0]) := hs'
  have s2 : W.cell? ⟨q, 2, none⟩ = some (.int .i64 b.st.slots.length) := hs'.c 2 _ rfl
  have s3 : W.cell? ⟨q, 3, none⟩ = some (.int .i64 b.st.ends.length) := hs'.c 3 _ rfl
  have hqW := hs'.ty.lt
  have hRq : w.heap.size < q := Nat.lt_of_lt_of_le hlt0 hq0
  have HTq : Hid (Typed W q 40) := hs'.ty
  clear hs' hb2 HZ0 HB0 HP0 hq0 hlt0
  go_wp2_with fail
  have HSW : Hid (Cl W q 40 [.int .i64 b.st.clock, .int .i64 b.st.next, .int .i64 b.st.slots.length, .int .i64 b.st.ends.length, .string b.st.tab, .slice none 0 0, .slice none 0 0]) := HS.out
  have HPW : Hid (PB W B b sl0 en0) := HP.out
  have HTqW : Hid (Typed W q 40) := HTq.out
  have hqWW := hqW
  clear HS s2 s3
  go_loopw [5] (fun i wr => ∃ (k : Nat) (v : Value), k ≤ b.st.slots.length ∧ i = .int .i64 k ∧ Cl wr q 40 [.int .i64 b.st.clock, .int .i64 b.st.next, .int .i64 b.st.slots.length, .int .i64 b.st.ends.length, .string b.st.tab, v, .slice none 0 0] ∧ wr.ownsRow W.heap.size 81 6 v ((b.st.slots.take k).map Kp.tsOf).length (((b.st.slots.take k).map Kp.tsOf).flatMap tsC) ∧ W.grownBy wr (some q)) (fun i _ => b.st.slots.length - (intOf i).toNat)
  case atStart => exact ⟨0, _, Nat.zero_le _, rfl, HSW.out, World.ownsRow_nil _ _ _ _, grow_of_below (Below.refl _ _) _⟩
  case round =>
    obtain ⟨k, v, hk, rfl, hCl, hown, hgr⟩ := hrel
    have HPr : Hid (PB wr B b sl0 en0) := HPW.out.grow' hgr HTqW.out (by decide) (by decide) (by decide)
    have HGr : Hid (W.grownBy wr (some q)) := hgr
    have HCl : Hid (Cl wr q 40 [.int .i64 b.st.clock, .int .i64 b.st.next, .int .i64 b.st.slots.length, .int .i64 b.st.ends.length, .string b.st.tab, v, .slice none 0 0]) := hCl
    have s2 : wr.cell? ⟨q, 2, none⟩ = some (.int .i64 b.st.slots.length) := hCl.c 2 _ rfl
    have s3 : wr.cell? ⟨q, 3, none⟩ = some (.int .i64 b.st.ends.length) := hCl.c 3 _ rfl
    have hqr := hCl.ty.lt
    have hszr := hgr.size
    obtain ⟨ad, cap, hv, _⟩ := (RowAt.of_own hown).form
    subst hv
    have HOw : Hid (wr.ownsRow W.heap.size 81 6 _ _ _) := hown
    clear hCl hgr hown
    by_cases hlt : k < b.st.slots.length
    · have hn : ((b.st.slots.take k).map Kp.tsOf).length ≤ 10000 := by simp; omega
      have HF : Hid ((b.st.slots.take (k + 1)).map Kp.tsOf = (b.st.slots.take k).map Kp.tsOf ++ [Kp.tsOf b.st.slots[k]]) := by
        unfold Hid; rw [List.take_succ_eq_append_getElem hlt]; rw [List.map_append]; rfl
      have hki : (k : Int) < (b.st.slots.length : Int) := by omega
      go_wp2_with fail
      refine (xslot_any b B (k : Int) _ HO.out ⟨_, _, HPr.out⟩).mono ?_
      rw [slotA_yes hlt]
      rintro e w2 ⟨rfl, hb2⟩
      generalize b.st.slots[k] = x at *
      generalize (b.st.slots.take k).map Kp.tsOf = L at *
      clear s2 s3
      have hb3 := hb2.trans ((below_alloc w2 (.cells #[.int .i64 x.num, .int .i64 x.line, .int .i64 x.minute, .int .i64 x.att, .int .i64 x.frm, .int .i64 x.step] 81)).mono hb2.size)
      have hX := Cl.new w2 [.int .i64 x.num, .int .i64 x.line, .int .i64 x.minute, .int .i64 x.att, .int .i64 x.frm, .int .i64 x.step] 81
      have hszx := hb2.size
      clear hb2
      go_upto_region 10 with fail
      have hX' : Cl (w2.alloc (.cells #[.int .i64 x.num, .int .i64 x.line, .int .i64 x.minute, .int .i64 x.att, .int .i64 x.frm, .int .i64 x.step] 81)) w2.heap.size 81 [.int .i64 x.num, .int .i64 x.line, .int .i64 x.minute, .int .i64 x.att, .int .i64 x.frm, .int .i64 x.step] := hX
      clear hX
      generalize w2.alloc (.cells #[.int .i64 x.num, .int .i64 x.line, .int .i64 x.minute, .int .i64 x.att, .int .i64 x.frm, .int .i64 x.step] 81) = W2 at *
      generalize w2.heap.size = xq at *
      have hCl2 := HCl.out.later hb3
      have hown2 := own_below HOw.out hb3
      have s5 : W2.cell? ⟨q, 5, none⟩ = some (.slice ad L.length cap) := hCl2.c 5 _ rfl
      have hq2 := hCl2.ty.lt
      have hx2 := hX'.ty.lt
      have e0 := hX'.c 0 _ rfl
      have e1 := hX'.c 1 _ rfl
      have e2 := hX'.c 2 _ rfl
      have e3 := hX'.c 3 _ rfl
      have e4 := hX'.c 4 _ rfl
      have e5 := hX'.c 5 _ rfl
      have hsz2 := hb3.size
      have HClr : Hid (Cl wr q 40 [.int .i64 b.st.clock, .int .i64 b.st.next, .int .i64 b.st.slots.length, .int .i64 b.st.ends.length, .string b.st.tab, (.slice ad L.length cap), .slice none 0 0]) := HCl.out
      clear hX' HCl HOw HPr
      go_wp2_with (at_builtin; refine wpList_append_lies _ rfl (.tmp 58) (.tmp 60) 37 rfl W.heap.size 81 i0 (.agg #[.int .i64 0, .int .i64 0, .int .i64 0, .int .i64 0, .int .i64 0, .int .i64 0]) 6 48 Tryz.underlying37 hi hz0 hz1 hz2 rfl (by decide) _ _ _ rfl (hown2.alloc _) ⟨W2.heap.size, 0, none⟩ 1 1 (tsC (Kp.tsOf x)) rfl rfl (tsC_new' _ _ _) (tsC_one _) (by decide) ?c3 ?c4 ?c5 _ rfl ?_)
      case c3 => unfold maxLen; omega
      case c4 => omega
      case c5 => simp; omega
      · intro g cap1 w3 hown' hgrow _ hlt'
        have B1 : Below W.heap.size wr w3 := ((hb3.mono hszr).alloc (by omega) _).grown hgrow (by simp; omega) (fun k' e => (hown2.lt k' e).1)
        have hown3 : w3.ownsRow W.heap.size 81 6 (.slice (some ⟨g, 0, none⟩) (L.length + 1) cap1) (L ++ [Kp.tsOf x]).length ((L ++ [Kp.tsOf x]).flatMap tsC) := by simpa using hown'
        have hCl3 := HClr.out.below hqWW B1
        have s5 : w3.cell? ⟨q, 5, none⟩ = some (.slice ad L.length cap) := hCl3.c 5 _ rfl
        have f5 := hCl3.f 5 (by simp)
        have hq3 := hCl3.ty.lt
        have HG3 : Hid (W.grownBy (w3.setCell ⟨q, 5, none⟩ (.slice (some ⟨g, 0, none⟩) (L.length + 1) cap1)) (some q)) := grow_set (grow_below HGr.out B1 (by have := B1.size; omega)) _ _
        have HC3 : Hid (Cl (w3.setCell ⟨q, 5, none⟩ (.slice (some ⟨g, 0, none⟩) (L.length + 1) cap1)) q 40 [.int .i64 b.st.clock, .int .i64 b.st.next, .int .i64 b.st.slots.length, .int .i64 b.st.ends.length, .string b.st.tab, (.slice (some ⟨g, 0, none⟩) (L.length + 1) cap1), .slice none 0 0]) := hCl3.set 5 (by simp) _
        have HO3 : Hid ((w3.setCell ⟨q, 5, none⟩ (.slice (some ⟨g, 0, none⟩) (L.length + 1) cap1)).ownsRow _ _ _ _ _ _) := ownsRow_setCell_below hown3 (a := ⟨q, 5, none⟩) hqWW (.slice (some ⟨g, 0, none⟩) (L.length + 1) cap1)
        clear hown' hgrow hown2 hown3 hCl2 hCl3 e0 e1 e2 e3 e4 e5 B1
        go_wp2_with fail
        go_roundw
        case rel => exact ⟨k + 1, _, by omega, by go_num, HC3.out, by rw [HF.out]; exact HO3.out, HG3.out⟩
        case measure => simp [intOf]; omega
    · obtain rfl : k = b.st.slots.length := by omega
      have hTs := TRow.of_own HOw.out
      have hTs' : TRow wr 81 (.slice ad ((b.st.slots.take b.st.slots.length).map Kp.tsOf).length cap) (Kp.snOf b.st).slots.length ((Kp.snOf b.st).slots.flatMap tsC) := by
        have e : (b.st.slots.take b.st.slots.length).map Kp.tsOf = (Kp.snOf b.st).slots := by rw [List.take_length]; rfl
        rw [e] at hTs ⊢; exact hTs
      have HTs2 : Hid (TRow wr 81 (.slice ad ((b.st.slots.take b.st.slots.length).map Kp.tsOf).length cap) (Kp.snOf b.st).slots.length ((Kp.snOf b.st).slots.flatMap tsC)) := hTs'
      clear hTs hTs' HOw
      generalize ((b.st.slots.take b.st.slots.length).map Kp.tsOf).length = n1 at *
      have HZ2 : Hid (Cl wr w.heap.size 40 snZ) := HZ.out.grow HGr.out (Nat.ne_of_lt hRq)
      have HB2 : Hid (Below w.heap.size w wr) := ⟨HGr.out.os.trans HB.out.os, HGr.out.tape.trans HB.out.tape, HGr.out.output.trans HB.out.output, Nat.le_trans HB.out.size HGr.out.size, fun k hk => (HGr.out.block k (Nat.lt_of_lt_of_le hk HB.out.size) (fun e => by cases e; omega)).trans (HB.out.block k hk)⟩
      have HSWB : Hid (Cl wr q 40 [.int .i64 b.st.clock, .int .i64 b.st.next, .int .i64 b.st.slots.length, .int .i64 b.st.ends.length, .string b.st.tab, (.slice ad n1 cap), .slice none 0 0]) := HCl.out
      have HTqWB : Hid (Typed wr q 40) := HCl.out.ty
      have HPWB : Hid (PB wr B b sl0 en0) := HPr.out
      have hqWWB := hqr
      clear HZ HB HCl HPr HGr HSW HTqW HPW HP HTq hqWW hszr hqW hqr
      rename World => WB
      rename Option Addr => ad1
      obtain ⟨capA, hc1⟩ : ∃ c, c = cap := ⟨_, rfl⟩
      subst hc1
      go_wp2_with fail
      obtain ⟨j0, hj, hy0, hy1, hy2⟩ := info_parts info_en
      go_loopw [8] (fun i wr => ∃ (k : Nat) (v : Value), k ≤ b.st.ends.length ∧ i = .int .i64 k ∧ Cl wr q 40 [.int .i64 b.st.clock, .int .i64 b.st.next, .int .i64 b.st.slots.length, .int .i64 b.st.ends.length, .string b.st.tab, (.slice ad1 n1 capA), v] ∧ wr.ownsRow WB.heap.size 85 2 v ((b.st.ends.take k)).length (((b.st.ends.take k)).flatMap enC) ∧ WB.grownBy wr (some q)) (fun i _ => b.st.ends.length - (intOf i).toNat)
      case atStart => exact ⟨0, _, Nat.zero_le _, rfl, HSWB.out, World.ownsRow_nil _ _ _ _, grow_of_below (Below.refl _ _) _⟩
      case round =>
        obtain ⟨k, v, hk, rfl, hCl, hown, hgr⟩ := hrel
        have HPr : Hid (PB wr B b sl0 en0) := HPWB.out.grow' hgr HTqWB.out (by decide) (by decide) (by decide)
        have HGr : Hid (WB.grownBy wr (some q)) := hgr
        have HCl : Hid (Cl wr q 40 [.int .i64 b.st.clock, .int .i64 b.st.next, .int .i64 b.st.slots.length, .int .i64 b.st.ends.length, .string b.st.tab, (.slice ad1 n1 capA), v]) := hCl
        have s2 : wr.cell? ⟨q, 2, none⟩ = some (.int .i64 b.st.slots.length) := hCl.c 2 _ rfl
        have s3 : wr.cell? ⟨q, 3, none⟩ = some (.int .i64 b.st.ends.length) := hCl.c 3 _ rfl
        have hqr := hCl.ty.lt
        have hszr := hgr.size
        obtain ⟨ad, cap, hv, _⟩ := (RowAt.of_own hown).form
        subst hv
        have HOw : Hid (wr.ownsRow WB.heap.size 85 2 _ _ _) := hown
        clear hCl hgr hown
        by_cases hlt : k < b.st.ends.length
        · have hn : ((b.st.ends.take k)).length ≤ 10000 := by simp; omega
          have HF : Hid ((b.st.ends.take (k + 1)) = (b.st.ends.take k) ++ [b.st.ends[k]]) := by
            unfold Hid; rw [List.take_succ_eq_append_getElem hlt]
          have hki : (k : Int) < (b.st.ends.length : Int) := by omega
          go_wp2_with fail
          refine (xend_any b B (k : Int) _ HO.out ⟨_, _, HPr.out⟩).mono ?_
          rw [endA_yes hlt]
          rintro e w2 ⟨rfl, hb2⟩
          generalize b.st.ends[k] = x at *
          generalize (b.st.ends.take k) = L at *
          clear s2 s3
          have hb3 := hb2.trans ((below_alloc w2 (.cells #[.int .i64 x.num, .string x.how] 85)).mono hb2.size)
          have hX := Cl.new w2 [.int .i64 x.num, .string x.how] 85
          have hszx := hb2.size
          clear hb2
          go_upto_region 17 with fail
          have hX' : Cl (w2.alloc (.cells #[.int .i64 x.num, .string x.how] 85)) w2.heap.size 85 [.int .i64 x.num, .string x.how] := hX
          clear hX
          generalize w2.alloc (.cells #[.int .i64 x.num, .string x.how] 85) = W2 at *
          generalize w2.heap.size = xq at *
          have hCl2 := HCl.out.later hb3
          have hown2 := own_below HOw.out hb3
          have s5 : W2.cell? ⟨q, 6, none⟩ = some (.slice ad L.length cap) := hCl2.c 6 _ rfl
          have hq2 := hCl2.ty.lt
          have hx2 := hX'.ty.lt
          have e0 := hX'.c 0 _ rfl
          have e1 := hX'.c 1 _ rfl
          have hsz2 := hb3.size
          have HClr : Hid (Cl wr q 40 [.int .i64 b.st.clock, .int .i64 b.st.next, .int .i64 b.st.slots.length, .int .i64 b.st.ends.length, .string b.st.tab, (.slice ad1 n1 capA), (.slice ad L.length cap)]) := HCl.out
          clear hX' HCl HOw HPr
          go_wp2_with (at_builtin; refine wpList_append_lies _ rfl (.tmp 80) (.tmp 82) 38 rfl WB.heap.size 85 j0 (.agg #[.int .i64 0, .string ByteArray.empty]) 2 24 Tryz.underlying38 hj hy0 hy1 hy2 rfl (by decide) _ _ _ rfl (hown2.alloc _) ⟨W2.heap.size, 0, none⟩ 1 1 (enC (x)) rfl rfl (enC_new' _ _ _) (enC_one' _) (by decide) ?c3 ?c4 ?c5 _ rfl ?_)
          case c3 => unfold maxLen; omega
          case c4 => omega
          case c5 => simp; omega
          · intro g cap1 w3 hown' hgrow _ hlt'
            have B1 : Below WB.heap.size wr w3 := ((hb3.mono hszr).alloc (by omega) _).grown hgrow (by simp; omega) (fun k' e => (hown2.lt k' e).1)
            have hown3 : w3.ownsRow WB.heap.size 85 2 (.slice (some ⟨g, 0, none⟩) (L.length + 1) cap1) (L ++ [x]).length ((L ++ [x]).flatMap enC) := by simpa using hown'
            have hCl3 := HClr.out.below hqWWB B1
            have s5 : w3.cell? ⟨q, 6, none⟩ = some (.slice ad L.length cap) := hCl3.c 6 _ rfl
            have f5 := hCl3.f 6 (by simp)
            have hq3 := hCl3.ty.lt
            have HG3 : Hid (WB.grownBy (w3.setCell ⟨q, 6, none⟩ (.slice (some ⟨g, 0, none⟩) (L.length + 1) cap1)) (some q)) := grow_set (grow_below HGr.out B1 (by have := B1.size; omega)) _ _
            have HC3 : Hid (Cl (w3.setCell ⟨q, 6, none⟩ (.slice (some ⟨g, 0, none⟩) (L.length + 1) cap1)) q 40 [.int .i64 b.st.clock, .int .i64 b.st.next, .int .i64 b.st.slots.length, .int .i64 b.st.ends.length, .string b.st.tab, (.slice ad1 n1 capA), (.slice (some ⟨g, 0, none⟩) (L.length + 1) cap1)]) := hCl3.set 6 (by simp) _
            have HO3 : Hid ((w3.setCell ⟨q, 6, none⟩ (.slice (some ⟨g, 0, none⟩) (L.length + 1) cap1)).ownsRow _ _ _ _ _ _) := ownsRow_setCell_below hown3 (a := ⟨q, 6, none⟩) hqWWB (.slice (some ⟨g, 0, none⟩) (L.length + 1) cap1)
            clear hown' hgrow hown2 hown3 hCl2 hCl3 e0 e1 B1
            go_wp2_with fail
            go_roundw
            case rel => exact ⟨k + 1, _, by omega, by go_num, HC3.out, by rw [HF.out]; exact HO3.out, HG3.out⟩
            case measure => simp [intOf]; omega
        · obtain rfl : k = b.st.ends.length := by omega
          have hTe := TRow.of_own HOw.out
          have HTe : Hid (TRow wr 85 (.slice ad (b.st.ends.take b.st.ends.length).length cap) (Kp.snOf b.st).ends.length ((Kp.snOf b.st).ends.flatMap enC)) := by
            have e : b.st.ends.take b.st.ends.length = (Kp.snOf b.st).ends := List.take_length
            unfold Hid; rw [e] at hTe ⊢; exact hTe
          generalize (b.st.ends.take b.st.ends.length).length = n2 at *
          have HTs : Hid (TRow wr 81 (.slice ad1 n1 capA) (Kp.snOf b.st).slots.length ((Kp.snOf b.st).slots.flatMap tsC)) := HTs2.out.grow' HGr.out HTqWB.out (by decide)
          have HZr : Hid (Cl wr w.heap.size 40 snZ) := HZ2.out.grow HGr.out (Nat.ne_of_lt hRq)
          have HBr : Hid (Below w.heap.size w wr) := ⟨HGr.out.os.trans HB2.out.os, HGr.out.tape.trans HB2.out.tape, HGr.out.output.trans HB2.out.output, Nat.le_trans HB2.out.size HGr.out.size, fun k hk => (HGr.out.block k (Nat.lt_of_lt_of_le hk HB2.out.size) (fun e => by cases e; omega)).trans (HB2.out.block k hk)⟩
          clear hTe HOw HGr HZ2 HB2 HTs2 HPWB HSWB HTqWB
          go_wp2_with fail
          refine (xslot_any b B (b.st.slots.length : Int) _ HO.out ⟨_, _, HPr.out⟩).mono ?_
          rw [slotA_no (Or.inr (Int.le_refl _))]
          rintro e w4 ⟨rfl, hb4⟩
          have hb5 := hb4.trans ((below_alloc w4 (.cells #[.int .i64 Px.sl0.num, .int .i64 Px.sl0.line, .int .i64 Px.sl0.minute, .int .i64 Px.sl0.att, .int .i64 Px.sl0.frm, .int .i64 Px.sl0.step] 81)).mono hb4.size)
          clear hb4 s2 s3
          go_upto_region 19 with fail
          have hb5' : Below wr.heap.size wr (w4.alloc (.cells #[.int .i64 Px.sl0.num, .int .i64 Px.sl0.line, .int .i64 Px.sl0.minute, .int .i64 Px.sl0.att, .int .i64 Px.sl0.frm, .int .i64 Px.sl0.step] 81)) := hb5
          clear hb5
          generalize w4.alloc (.cells #[.int .i64 Px.sl0.num, .int .i64 Px.sl0.line, .int .i64 Px.sl0.minute, .int .i64 Px.sl0.att, .int .i64 Px.sl0.frm, .int .i64 Px.sl0.step] 81) = W5 at *
          have HP5 : Hid (PB W5 B b sl0 en0) := HPr.out.later hb5'
          have HB5 : Hid (Below wr.heap.size wr W5) := hb5'
          have hCl5 := HCl.out.later hb5'
          have s3 : W5.cell? ⟨q, 3, none⟩ = some (.int .i64 b.st.ends.length) := hCl5.c 3 _ rfl
          have hq5 := hCl5.ty.lt
          clear hb5' hCl5 HPr
          go_wp2_with fail
          refine (xend_any b B (b.st.ends.length : Int) _ HO.out ⟨_, _, HP5.out⟩).mono ?_
          rw [endA_no (Or.inr (Int.le_refl _))]
          rintro e w6 ⟨rfl, hb6⟩
          have hb7 := HB5.out.trans ((hb6.trans ((below_alloc w6 (.cells #[.int .i64 0, .string ByteArray.empty] 85)).mono hb6.size)).mono HB5.out.size)
          clear hb6 s3 HB5 HP5
          go_upto_region 20 with fail
          have hb7' : Below wr.heap.size wr (w6.alloc (.cells #[.int .i64 0, .string ByteArray.empty] 85)) := hb7
          clear hb7
          generalize w6.alloc (.cells #[.int .i64 0, .string ByteArray.empty] 85) = W7 at *
          have hC7 := HCl.out.later hb7'
          have hZ7 := HZr.out.later hb7'
          have HA7 : Hid (SnAt W7 (Kp.snOf b.st) (.slice ad1 n1 capA) (.slice ad n2 cap)) := ⟨HTs.out.later hb7', HTe.out.later hb7'⟩
          have HB7 : Hid (Below w.heap.size w W7) := HBr.out.trans (hb7'.mono HBr.out.size)
          have HT7 : Hid (Typed W7 w.heap.size 40) := hZ7.ty
          have s0 := hC7.c 0 _ rfl
          have r0 := hZ7.c 0 _ rfl
          have f0 := hZ7.f 0 (by simp)
          have s1 := hC7.c 1 _ rfl
          have r1 := hZ7.c 1 _ rfl
          have f1 := hZ7.f 1 (by simp)
          have s2 := hC7.c 2 _ rfl
          have r2 := hZ7.c 2 _ rfl
          have f2 := hZ7.f 2 (by simp)
          have s3 := hC7.c 3 _ rfl
          have r3 := hZ7.c 3 _ rfl
          have f3 := hZ7.f 3 (by simp)
          have s4 := hC7.c 4 _ rfl
          have r4 := hZ7.c 4 _ rfl
          have f4 := hZ7.f 4 (by simp)
          have s5 := hC7.c 5 _ rfl
          have r5 := hZ7.c 5 _ rfl
          have f5 := hZ7.f 5 (by simp)
          have s6 := hC7.c 6 _ rfl
          have r6 := hZ7.c 6 _ rfl
          have f6 := hZ7.f 6 (by simp)
          have hq7 := hC7.ty.lt
          have hR7 := hZ7.ty.lt
          have HSn : Hid (.tuple #[.agg #[.int .i64 b.st.clock, .int .i64 b.st.next, .int .i64 b.st.slots.length, .int .i64 b.st.ends.length, .string b.st.tab, (.slice ad1 n1 capA), .slice ad n2 cap], .bool true] = Value.tuple #[snV (Kp.snOf b.st) (.slice ad1 n1 capA) (.slice ad n2 cap), .bool true]) := by unfold Hid Kp.snOf; simp
          clear hC7 hZ7 hb7' HCl
          go_wp2_with fail
          refine bodyPost_ret (v := .tuple #[.agg #[.int .i64 b.st.clock, .int .i64 b.st.next, .int .i64 b.st.slots.length, .int .i64 b.st.ends.length, .string b.st.tab, (.slice ad1 n1 capA), .slice ad n2 cap], .bool true]) (by simp [results, Tryz.results9, go_sem, r0, r1, r2, r3, r4, r5, r6]) rfl ?_
          exact ⟨⟨_, _, congrArg _ HSn.out, HA7.out.set7 HT7.out _ _ _ _ _ _ _⟩, below_set7s HB7.out (Nat.le_refl _) _ _ _ _ _ _ _⟩

end Go.Proofs.YtdajolpoiffimabGreatDoor

namespace Go.Proofs.YtdajolpoiffimabGreatDoor
open Go.RowKit

namespace Kp
def ts0 : Ts := ⟨0, 0, 0, 0, 0, 0⟩
def ofA (s : Sn) (n : Int) : Ts × Bool := match fnd s n with
  | some x => (x, true)
  | none => (ts0, false)
theorem ofA_no {s : Sn} {n : Int} (h : ∀ j (hj : j < s.slots.length), ¬ s.slots[j].num = n) : ofA s n = (ts0, false) := by
  have e : fnd s n = none := by
    unfold fnd; rw [List.find?_eq_none]
    intro x hx
    obtain ⟨j, hj, rfl⟩ := List.mem_iff_getElem.1 hx
    simpa using h j hj
  unfold ofA; rw [e]
theorem ofA_yes {s : Sn} {n : Int} {k : Nat} (hk : k < s.slots.length) (h : ∀ j (hj : j < s.slots.length), j < k → ¬ s.slots[j].num = n) (e : s.slots[k].num = n) : ofA s n = (s.slots[k], true) := by
  have e : fnd s n = some s.slots[k] := by
    unfold fnd; rw [List.find?_eq_some_iff_getElem]
    exact ⟨by simpa using e, k, hk, rfl, fun j hj => by simpa using h j (by omega) hj⟩
  unfold ofA; rw [e]
end Kp
theorem ts_cells {w : World} {L : List Kp.Ts} {b off : Nat} (c : ∀ j (h : j < (L.flatMap tsC).length), w.cell? ⟨b, off + j, none⟩ = some (L.flatMap tsC)[j]) (i : Nat) (hi : i < L.length) :
    w.cell? ⟨b, off + i * 6, none⟩ = some (.int .i64 L[i].num) ∧ w.cell? ⟨b, off + i * 6 + 1, none⟩ = some (.int .i64 L[i].line) ∧ w.cell? ⟨b, off + i * 6 + 2, none⟩ = some (.int .i64 L[i].minute) ∧ w.cell? ⟨b, off + i * 6 + 3, none⟩ = some (.int .i64 L[i].att) ∧ w.cell? ⟨b, off + i * 6 + 4, none⟩ = some (.int .i64 L[i].frm) ∧ w.cell? ⟨b, off + i * 6 + 5, none⟩ = some (.int .i64 L[i].step) :=
  ⟨RowAt.cell tsC_len c i hi 0 (by decide), RowAt.cell tsC_len c i hi 1 (by decide), RowAt.cell tsC_len c i hi 2 (by decide), RowAt.cell tsC_len c i hi 3 (by decide), RowAt.cell tsC_len c i hi 4 (by decide), RowAt.cell tsC_len c i hi 5 (by decide)⟩
abbrev snO (x : Kp.Sn) (sl en : Value) : Obj := .cells #[.int .i64 x.clock, .int .i64 x.next, .int .i64 x.slots.length, .int .i64 x.ends.length, .string x.tab, sl, en] 40
abbrev asZ : List Value := [.int .i64 0, .int .i64 0, .int .i64 0, .int .i64 0, .int .i64 0, .int .i64 0]
set_option maxRecDepth 10000 in
set_option maxHeartbeats 4000000 in
theorem kof_any (x : Kp.Sn) (sl en : Value) (n : Int) (w : World) (hl : x.slots.length ≤ 10000) (hS : SnAt w x sl en) :
    Calls Tryz.prog 36 #[snV x sl en, .int .i64 n] w fun e w' => e = .returned (.tuple #[tsV (Kp.ofA x n).1, .bool (Kp.ofA x n).2]) ∧ Below w.heap.size w w' := by
  obtain ⟨ad, cap, rfl, hcap⟩ := hS.sl.form
  obtain ⟨ad2, cap2, rfl, hcap2⟩ := hS.en.form
  have hb0 := (below_alloc w (snO x (.slice ad x.slots.length cap) (.slice ad2 x.ends.length cap2))).alloc (by simp) (.cells #[.int .i64 0, .int .i64 0, .int .i64 0, .int .i64 0, .int .i64 0, .int .i64 0] 81)
  have hI := (Cl.new w (snC x (.slice ad x.slots.length cap) (.slice ad2 x.ends.length cap2)) 40).later (below_alloc _ (.cells #[.int .i64 0, .int .i64 0, .int .i64 0, .int .i64 0, .int .i64 0, .int .i64 0] 81))
  have hz := Cl.new (w.alloc (snO x (.slice ad x.slots.length cap) (.slice ad2 x.ends.length cap2))) asZ 81
  have hsz : (w.alloc (snO x (.slice ad x.slots.length cap) (.slice ad2 x.ends.length cap2))).heap.size = w.heap.size + 1 := by simp
  rw [hsz] at hz
  clear hsz
  go_enter Tryz.func36, Tryz.ntmps36
  go_upto_region 1 with fail
  have hz' : Cl ((w.alloc (snO x (.slice ad x.slots.length cap) (.slice ad2 x.ends.length cap2))).alloc (.cells #[.int .i64 0, .int .i64 0, .int .i64 0, .int .i64 0, .int .i64 0, .int .i64 0] 81)) (w.heap.size + 1) 81 asZ := hz
  have hI' : Cl ((w.alloc (snO x (.slice ad x.slots.length cap) (.slice ad2 x.ends.length cap2))).alloc (.cells #[.int .i64 0, .int .i64 0, .int .i64 0, .int .i64 0, .int .i64 0, .int .i64 0] 81)) w.heap.size 40 (snC x (.slice ad x.slots.length cap) (.slice ad2 x.ends.length cap2)) := hI
  clear hz hI
  generalize (w.alloc (snO x (.slice ad x.slots.length cap) (.slice ad2 x.ends.length cap2))).alloc (.cells #[.int .i64 0, .int .i64 0, .int .i64 0, .int .i64 0, .int .i64 0, .int .i64 0] 81) = W at *
  have HB : Hid (Below w.heap.size w W) := hb0
  have HS : Hid (SnAt W x (.slice ad x.slots.length cap) (.slice ad2 x.ends.length cap2)) := hS.later hb0
  have i5 : W.cell? ⟨w.heap.size, 5, none⟩ = some (.slice ad x.slots.length cap) := hI'.c 5 _ rfl
  have hq := hI'.ty.lt
  have r0 := hz'.c 0 _ rfl; have r1 := hz'.c 1 _ rfl; have r2 := hz'.c 2 _ rfl; have r3 := hz'.c 3 _ rfl; have r4 := hz'.c 4 _ rfl; have r5 := hz'.c 5 _ rfl
  have f0 := hz'.f 0 (by simp); have f1 := hz'.f 1 (by simp); have f2 := hz'.f 2 (by simp); have f3 := hz'.f 3 (by simp); have f4 := hz'.f 4 (by simp); have f5 := hz'.f 5 (by simp)
  have hR := hz'.ty.lt
  clear hz' hI' hb0 hS
  go_wp2_with fail
  go_loop [6] (fun i => ∃ k : Nat, k ≤ x.slots.length ∧ i = .int .i64 k ∧ ∀ j (hj : j < x.slots.length), j < k → ¬ x.slots[j].num = n) (fun i => x.slots.length - (intOf i).toNat)
  case atStart => exact ⟨0, Nat.zero_le _, rfl, fun j _ h => by omega⟩
  case round =>
    obtain ⟨k, hk, rfl, hall⟩ := hrel
    have HA : Hid (∀ j (hj : j < x.slots.length), j < k → ¬ x.slots[j].num = n) := hall
    clear hall
    by_cases hlt : k < x.slots.length
    · obtain ⟨b, off, cap', hv, _, hc⟩ := HS.out.sl.1.some' (by omega)
      cases hv
      obtain ⟨d0, d1, d2, d3, d4, d5⟩ := ts_cells hc k hlt
      clear hc
      have b1 : (0 : Int) ≤ (k : Int) := by omega
      have b2 : (k : Int) < (x.slots.length : Int) := by omega
      by_cases hn : x.slots[k].num = n
      · have HM : Hid (Kp.ofA x n = (x.slots[k], true)) := Kp.ofA_yes hlt HA.out hn
        have HE : Hid (∃ y : Kp.Ts, x.slots[k] = y ∧ y.num = n) := ⟨_, rfl, hn⟩
        obtain ⟨y, hy, hyn⟩ := HE.out
        rw [hy] at d0 d1 d2 d3 d4 d5
        have HM2 : Hid (Kp.ofA x n = (y, true)) := by unfold Hid; rw [HM.out, hy]
        clear HM hy hn HE HA
        subst hyn
        go_wp2_with fail
        refine bodyPost_ret (v := .tuple #[tsV y, .bool true]) (by simp [results, Tryz.results36, go_sem, r0, r1, r2, r3, r4, r5]) rfl ⟨by rw [HM2.out], below_set6 HB.out (by omega) _ _ _ _ _ _⟩
      · have HN : Hid (∀ j (hj : j < x.slots.length), j < k + 1 → ¬ x.slots[j].num = n) := fun j hj h => by
          by_cases e : j = k
          · subst e; exact hn
          · exact HA.out j hj (by omega)
        clear d1 d2 d3 d4 d5
        go_wp2_with fail
        go_round
        case rel => exact ⟨k + 1, by omega, by go_num, HN.out⟩
        case measure => simp [intOf]; omega
    · obtain rfl : k = x.slots.length := by omega
      have HM : Hid (Kp.ofA x n = (Kp.ts0, false)) := Kp.ofA_no fun j hj => HA.out j hj hj
      go_wp2_with fail
      refine bodyPost_ret (v := .tuple #[tsV Kp.ts0, .bool false]) (by simp [results, Tryz.results36, go_sem, r0, r1, r2, r3, r4, r5, Kp.ts0]) rfl ⟨by rw [HM.out], below_set6 HB.out (by omega) _ _ _ _ _ _⟩
end Go.Proofs.YtdajolpoiffimabGreatDoor

namespace Go.Proofs.YtdajolpoiffimabGreatDoor
open Go.RowKit

theorem en_cells {w : World} {L : List Bx.En} {b off : Nat} (c : ∀ j (h : j < (L.flatMap enC).length), w.cell? ⟨b, off + j, none⟩ = some (L.flatMap enC)[j]) (i : Nat) (hi : i < L.length) :
    w.cell? ⟨b, off + i * 2, none⟩ = some (.int .i64 L[i].num) ∧ w.cell? ⟨b, off + i * 2 + 1, none⟩ = some (.string L[i].how) :=
  ⟨RowAt.cell enC_len c i hi 0 (by decide), RowAt.cell enC_len c i hi 1 (by decide)⟩
end Go.Proofs.YtdajolpoiffimabGreatDoor

namespace Go.Proofs.YtdajolpoiffimabGreatDoor
open Go.RowKit

set_option maxRecDepth 10000 in
set_option maxHeartbeats 8000000 in
theorem ksame_any (x : Kp.Sn) (sl en sl' en' : Value) (w : World) (hl : x.slots.length ≤ 10000) (hel : x.ends.length ≤ 10000) (hS : SnAt w x sl en) (hT : SnAt w x sl' en') :
    Calls Tryz.prog 12 #[snV x sl en, snV x sl' en'] w fun e w' => e = .returned (.bool true) ∧ Below w.heap.size w w' := by
  obtain ⟨ad, cap, rfl, hcap⟩ := hS.sl.form
  obtain ⟨ad2, cap2, rfl, hcap2⟩ := hS.en.form
  obtain ⟨bd, dap, rfl, hdap⟩ := hT.sl.form
  obtain ⟨bd2, dap2, rfl, hdap2⟩ := hT.en.form
  have hb0 := (below_alloc w (snO x (.slice ad x.slots.length cap) (.slice ad2 x.ends.length cap2))).alloc (by simp) (snO x (.slice bd x.slots.length dap) (.slice bd2 x.ends.length dap2))
  have hI := (Cl.new w (snC x (.slice ad x.slots.length cap) (.slice ad2 x.ends.length cap2)) 40).later (below_alloc _ (snO x (.slice bd x.slots.length dap) (.slice bd2 x.ends.length dap2)))
  have hJ := Cl.new (w.alloc (snO x (.slice ad x.slots.length cap) (.slice ad2 x.ends.length cap2))) (snC x (.slice bd x.slots.length dap) (.slice bd2 x.ends.length dap2)) 40
  have hsz : (w.alloc (snO x (.slice ad x.slots.length cap) (.slice ad2 x.ends.length cap2))).heap.size = w.heap.size + 1 := by simp
  rw [hsz] at hJ
  clear hsz
  go_enter Tryz.func12, Tryz.ntmps12
  go_upto_region 1 with fail
  have hI' : Cl ((w.alloc (snO x (.slice ad x.slots.length cap) (.slice ad2 x.ends.length cap2))).alloc (snO x (.slice bd x.slots.length dap) (.slice bd2 x.ends.length dap2))) w.heap.size 40 (snC x (.slice ad x.slots.length cap) (.slice ad2 x.ends.length cap2)) := hI
  have hJ' : Cl ((w.alloc (snO x (.slice ad x.slots.length cap) (.slice ad2 x.ends.length cap2))).alloc (snO x (.slice bd x.slots.length dap) (.slice bd2 x.ends.length dap2))) (w.heap.size + 1) 40 (snC x (.slice bd x.slots.length dap) (.slice bd2 x.ends.length dap2)) := hJ
  clear hI hJ
  generalize (w.alloc (snO x (.slice ad x.slots.length cap) (.slice ad2 x.ends.length cap2))).alloc (snO x (.slice bd x.slots.length dap) (.slice bd2 x.ends.length dap2)) = W at *
  have HB : Hid (Below w.heap.size w W) := hb0
  have HS : Hid (SnAt W x (.slice ad x.slots.length cap) (.slice ad2 x.ends.length cap2)) := hS.later hb0
  have HT : Hid (SnAt W x (.slice bd x.slots.length dap) (.slice bd2 x.ends.length dap2)) := hT.later hb0
  have HI : Hid (Cl W w.heap.size 40 (snC x (.slice ad x.slots.length cap) (.slice ad2 x.ends.length cap2))) := hI'
  have HJ : Hid (Cl W (w.heap.size + 1) 40 (snC x (.slice bd x.slots.length dap) (.slice bd2 x.ends.length dap2))) := hJ'
  have i0 := hI'.c 0 _ rfl; have i1 := hI'.c 1 _ rfl; have i2 := hI'.c 2 _ rfl; have i3 := hI'.c 3 _ rfl; have i4 := hI'.c 4 _ rfl; have i5 := hI'.c 5 _ rfl; have i6 := hI'.c 6 _ rfl
  have j0 := hJ'.c 0 _ rfl; have j1 := hJ'.c 1 _ rfl; have j2 := hJ'.c 2 _ rfl; have j3 := hJ'.c 3 _ rfl; have j4 := hJ'.c 4 _ rfl; have j5 := hJ'.c 5 _ rfl; have j6 := hJ'.c 6 _ rfl
  have hq := hI'.ty.lt
  have hq' := hJ'.ty.lt
  clear hI' hJ' hb0 hS hT
  go_wp2_with fail
  clear i0 i1 i2 i3 i4 i5 i6 j0 j1 j2 j3 j4 j5 j6 hq hq'
  go_loopw [5] (fun i wr => ∃ k : Nat, k ≤ x.slots.length ∧ i = .int .i64 k ∧ Below W.heap.size W wr) (fun i _ => x.slots.length - (intOf i).toNat)
  case atStart => exact ⟨0, Nat.zero_le _, rfl, Below.refl _ _⟩
  case round =>
    rename World => wa
    obtain ⟨k, hk, rfl, hbr⟩ := hrel
    have HBr : Hid (Below W.heap.size W wa) := hbr
    have hIr := HI.out.later hbr
    have hJr := HJ.out.later hbr
    have i5 : wa.cell? ⟨w.heap.size, 5, none⟩ = some (.slice ad x.slots.length cap) := hIr.c 5 _ rfl
    have j5 : wa.cell? ⟨w.heap.size + 1, 5, none⟩ = some (.slice bd x.slots.length dap) := hJr.c 5 _ rfl
    have hq := hIr.ty.lt
    have hq' := hJr.ty.lt
    clear hIr hJr
    by_cases hlt : k < x.slots.length
    · obtain ⟨b, off, cap', hv, _, hc⟩ := (HS.out.later hbr).sl.1.some' (by omega)
      obtain ⟨b', off', cap'', hv', _, hc'⟩ := (HT.out.later hbr).sl.1.some' (by omega)
      cases hv
      cases hv'
      obtain ⟨d0, d1, d2, d3, d4, d5⟩ := ts_cells hc k hlt
      obtain ⟨e0, e1, e2, e3, e4, e5⟩ := ts_cells hc' k hlt
      clear hc hc' hbr
      have b1 : (0 : Int) ≤ (k : Int) := by omega
      have b2 : (k : Int) < (x.slots.length : Int) := by omega
      generalize x.slots[k] = y at *
      go_wp2_with fail
      go_quiet (fail)
      go_wp2_with fail
      go_roundw
      case rel => exact ⟨k + 1, by omega, by go_num, below_drewN HBr.out _⟩
      case measure => simp [intOf]; omega
    · obtain rfl : k = x.slots.length := by omega
      have b2 : ¬ (x.slots.length : Int) < (x.slots.length : Int) := by omega
      clear hlt hbr
      go_wp2_with fail
      clear i5 j5 hq hq'
      go_loopw [6] (fun i wr => ∃ k : Nat, k ≤ x.ends.length ∧ i = .int .i64 k ∧ Below wa.heap.size wa wr) (fun i _ => x.ends.length - (intOf i).toNat)
      case atStart => exact ⟨0, Nat.zero_le _, rfl, Below.refl _ _⟩
      case round =>
        obtain ⟨k, hk, rfl, hbq⟩ := hrel
        have HBq : Hid (Below wa.heap.size wa wr) := hbq
        have hbr : Below W.heap.size W wr := HBr.out.trans (hbq.mono HBr.out.size)
        have hIr := HI.out.later hbr
        have hJr := HJ.out.later hbr
        have i6 : wr.cell? ⟨w.heap.size, 6, none⟩ = some (.slice ad2 x.ends.length cap2) := hIr.c 6 _ rfl
        have j6 : wr.cell? ⟨w.heap.size + 1, 6, none⟩ = some (.slice bd2 x.ends.length dap2) := hJr.c 6 _ rfl
        have hq := hIr.ty.lt
        have hq' := hJr.ty.lt
        clear hIr hJr hbq
        by_cases hlt : k < x.ends.length
        · obtain ⟨b, off, cap', hv, _, hc⟩ := (HS.out.later hbr).en.1.some' (by omega)
          obtain ⟨b', off', cap'', hv', _, hc'⟩ := (HT.out.later hbr).en.1.some' (by omega)
          cases hv
          cases hv'
          obtain ⟨d0, d1⟩ := en_cells hc k hlt
          obtain ⟨e0, e1⟩ := en_cells hc' k hlt
          clear hc hc' hbr
          have b1 : (0 : Int) ≤ (k : Int) := by omega
          have b2 : (k : Int) < (x.ends.length : Int) := by omega
          generalize x.ends[k] = y at *
          go_wp2_with fail
          go_quiet (fail)
          go_wp2_with fail
          go_roundw
          case rel => exact ⟨k + 1, by omega, by go_num, below_drewN HBq.out _⟩
          case measure => simp [intOf]; omega
        · obtain rfl : k = x.ends.length := by omega
          have b2 : ¬ (x.ends.length : Int) < (x.ends.length : Int) := by omega
          have HBn : Hid (Below W.heap.size W wr) := hbr
          clear hlt hbr
          go_wp2_with fail
          go_ret
          exact ⟨rfl, HB.out.trans (HBn.out.mono HB.out.size)⟩
set_option maxRecDepth 10000 in
set_option maxHeartbeats 1000000 in
theorem kstill_any (x : Kp.Ts) (w : World) : Calls Tryz.prog 35 #[tsV x] w fun e w' => e = .returned (tsV (Kp.stillT x)) ∧ Below w.heap.size w w' := by
  have hb0 := (below_alloc w (tsO x)).alloc (by simp) (.cells #[.int .i64 0, .int .i64 0, .int .i64 0, .int .i64 0, .int .i64 0, .int .i64 0] 81)
  have hI := (Cl.new w (tsC x) 81).later (below_alloc _ (.cells #[.int .i64 0, .int .i64 0, .int .i64 0, .int .i64 0, .int .i64 0, .int .i64 0] 81))
  have hz := Cl.new (w.alloc (tsO x)) asZ 81
  have hsz : (w.alloc (tsO x)).heap.size = w.heap.size + 1 := by simp
  rw [hsz] at hz
  clear hsz
  go_enter Tryz.func35, Tryz.ntmps35
  go_upto_region 1 with fail
  have hz' : Cl ((w.alloc (tsO x)).alloc (.cells #[.int .i64 0, .int .i64 0, .int .i64 0, .int .i64 0, .int .i64 0, .int .i64 0] 81)) (w.heap.size + 1) 81 asZ := hz
  have hI' : Cl ((w.alloc (tsO x)).alloc (.cells #[.int .i64 0, .int .i64 0, .int .i64 0, .int .i64 0, .int .i64 0, .int .i64 0] 81)) w.heap.size 81 (tsC x) := hI
  clear hz hI
  generalize (w.alloc (tsO x)).alloc (.cells #[.int .i64 0, .int .i64 0, .int .i64 0, .int .i64 0, .int .i64 0, .int .i64 0] 81) = W at *
  have hB2 : Below w.heap.size w (W.setCell ⟨w.heap.size, 5, none⟩ (.int .i64 0)) := hb0.setCell (Nat.le_refl _) _
  have hI2 : Cl (W.setCell ⟨w.heap.size, 5, none⟩ (.int .i64 0)) w.heap.size 81 [.int .i64 x.num, .int .i64 x.line, .int .i64 x.minute, .int .i64 x.att, .int .i64 x.frm, .int .i64 0] := hI'.set 5 (by simp [tsC]) _
  have hz2 : Cl (W.setCell ⟨w.heap.size, 5, none⟩ (.int .i64 0)) (w.heap.size + 1) 81 asZ := hz'.far (by omega) _ _
  have i5 : W.cell? ⟨w.heap.size, 5, none⟩ = some (.int .i64 x.step) := hI'.c 5 _ rfl
  have g5 := hI'.f 5 (by simp [tsC])
  have hq := hI'.ty.lt
  clear hz' hI' hb0
  go_upto_region 2 with fail
  clear i5 g5 hq
  generalize W.setCell ⟨w.heap.size, 5, none⟩ (.int .i64 0) = W2 at *
  have HB : Hid (Below w.heap.size w W2) := hB2
  have i0 := hI2.c 0 _ rfl; have i1 := hI2.c 1 _ rfl; have i2 := hI2.c 2 _ rfl; have i3 := hI2.c 3 _ rfl; have i4 := hI2.c 4 _ rfl; have i5 := hI2.c 5 _ rfl
  have r0 := hz2.c 0 _ rfl; have r1 := hz2.c 1 _ rfl; have r2 := hz2.c 2 _ rfl; have r3 := hz2.c 3 _ rfl; have r4 := hz2.c 4 _ rfl; have r5 := hz2.c 5 _ rfl
  have f0 := hz2.f 0 (by simp); have f1 := hz2.f 1 (by simp); have f2 := hz2.f 2 (by simp); have f3 := hz2.f 3 (by simp); have f4 := hz2.f 4 (by simp); have f5 := hz2.f 5 (by simp)
  have hq := hI2.ty.lt
  have hR := hz2.ty.lt
  clear hz2 hI2 hB2
  go_wp2_with fail
  refine bodyPost_ret (v := .agg #[.int .i64 x.num, .int .i64 x.line, .int .i64 x.minute, .int .i64 x.att, .int .i64 x.frm, .int .i64 0]) (by simp [results, Tryz.results35, go_sem, r0, r1, r2, r3, r4, r5]) rfl ?_
  exact ⟨rfl, (((((HB.out.setCell (Nat.le_succ _) _).setCell (Nat.le_succ _) _).setCell (Nat.le_succ _) _).setCell (Nat.le_succ _) _).setCell (Nat.le_succ _) _).setCell (Nat.le_succ _) _⟩
end Go.Proofs.YtdajolpoiffimabGreatDoor

namespace Go.Proofs.YtdajolpoiffimabGreatDoor
namespace Bx
theorem nx_parse {log b more : ByteArray} (h : Nx log b more) : numP 2 ⟨log, false⟩ = ((b.size : Int), ⟨b ++ (be (Crc.sumR b) 4 ++ more), false⟩) ∧ txtP (b.size : Int) ⟨b ++ (be (Crc.sumR b) 4 ++ more), false⟩ = (b, ⟨be (Crc.sumR b) 4 ++ more, false⟩) ∧ numP 4 ⟨be (Crc.sumR b) 4 ++ more, false⟩ = (Crc.sumR b, ⟨more, false⟩) := by
  obtain ⟨e, hb⟩ := h
  have hs := sum_bd b
  refine ⟨?_, txtP_app _ _ _ _ rfl, numP_be _ 4 _ _ hs.1 (by simpa using hs.2)⟩
  have e2 : log = be (b.size : Int) 2 ++ (b ++ (be (Crc.sumR b) 4 ++ more)) := by rw [e]; unfold frame; simp only [ByteArray.append_assoc]
  rw [e2]
  exact numP_be _ 2 _ _ (by omega) (by simp; omega)
theorem take_math {log body : ByteArray} {l chk : Int} {p1 p2 p3 : PS} (h1 : numP 2 ⟨log, false⟩ = (l, p1)) (h2 : txtP l p1 = (body, p2)) (h3 : numP 4 p2 = (chk, p3)) :
    (p3.wrong = true → ¬ ∃ b more, Nx log b more) ∧ (p3.wrong = false → chk = Crc.sumR body → Nx log body p3.rest ∧ l = body.size) ∧ (¬ chk = Crc.sumR body → ¬ ∃ b more, Nx log b more) := by
  have key : ∀ b more, Nx log b more → p3.wrong = false ∧ chk = Crc.sumR body := by
    intro b more hN
    obtain ⟨a1, a2, a3⟩ := nx_parse hN
    rw [h1] at a1
    obtain ⟨rfl, rfl⟩ := Prod.mk.inj a1
    rw [h2] at a2
    obtain ⟨rfl, rfl⟩ := Prod.mk.inj a2
    rw [h3] at a3
    obtain ⟨rfl, rfl⟩ := Prod.mk.inj a3
    exact ⟨rfl, rfl⟩
  refine ⟨fun hw ⟨b, more, hN⟩ => ?_, fun hw hc => ?_, fun hc ⟨b, more, hN⟩ => hc (key b more hN).2⟩
  · rw [(key b more hN).1] at hw; cases hw
  · obtain ⟨w2, e2, _, _⟩ := Px.numP_r h3 hw
    obtain ⟨w1, e1, s1⟩ := Px.txtP_r h2 w2
    obtain ⟨_, e0, a0, b0⟩ := Px.numP_r h1 w1
    have hl : l = (body.size : Int) := s1.symm
    have e0' : log = be l 2 ++ p1.rest := e0
    refine ⟨⟨?_, by simp at b0; omega⟩, hl⟩
    rw [e0', e1, e2, hc, hl]
    unfold frame; simp only [ByteArray.append_assoc]
theorem body_tab (c : Ch) : c.kind = 84 → c.tab.size ≤ (body c).size := by
  intro h
  unfold body; rw [if_pos h, ByteArray.size_append]; omega
end Bx
end Go.Proofs.YtdajolpoiffimabGreatDoor
