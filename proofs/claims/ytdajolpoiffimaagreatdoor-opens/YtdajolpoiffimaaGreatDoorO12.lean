/-
  PrgWhole2, ChgM, LawAsk, MayM, RefMay, RefMay2.
-/
import Derived.Test.YtdajolpoiffimaaGreatDoorO2
import Derived.Test.YtdajolpoiffimaaGreatDoorO4
import Derived.Test.YtdajolpoiffimaaGreatDoorO7
import Derived.Test.YtdajolpoiffimaaGreatDoorO8
import Derived.Test.YtdajolpoiffimaaGreatDoorO10
import Derived.Test.YtdajolpoiffimaaGreatDoorO11

namespace Go.Proofs.YtdajolpoiffimaaGreatDoor
open Go.RowKit
attribute [local go_sem] Bx.be_size

theorem whole_enc (s : Px.St) : ({ data := #[90] } : ByteArray) ++ Bx.be (s.clock + 1) 5 ++ Bx.be s.next 2 ++ Bx.be s.tab.size 2 ++ s.tab ++ (Bx.be s.slots.length 1 ++ Bx.cat (s.slots.map encA)) ++ (Bx.be s.ends.length 1 ++ Bx.cat (s.ends.map Bx.encEn)) = Bx.wholeS (Px.abs s) := by
 have e : (Px.abs s).slots.map Bx.encSl = s.slots.map encA := by unfold Px.abs; simp only [List.map_map]; rfl
 have e2 : (Px.abs s).slots.length = s.slots.length := by simp [Px.abs]
 unfold Bx.wholeS Bx.encSt
 rw [e, e2]
 simp only [ByteArray.append_assoc]
 rfl
set_option maxRecDepth 10000 in
set_option maxHeartbeats 2000000 in
theorem pwhole_any (s : Px.St) (sl en : Value) (w : World) (hf : Bx.StFit (Px.abs s)) (ht : s.tab.size ≤ 1000) (hS : PAt w s sl en) :
 Calls Tryz.prog 55 #[pstV s sl en] w fun e w' => e = .returned (.string (Bx.frame (Bx.wholeS (Px.abs s)))) ∧ Below w.heap.size w w' := by
 obtain ⟨ad, cap, rfl, hcap⟩ := hS.sl.form
 obtain ⟨ad2, cap2, rfl, hcap2⟩ := hS.en.form
 obtain ⟨c1, c2⟩ := hf.c
 obtain ⟨n1, n2⟩ := hf.n
 have hsl : s.slots.length ≤ 255 := by have := hf.sl; simp [Px.abs] at this; omega
 have hen : s.ends.length ≤ 255 := by have := hf.en; simp [Px.abs] at this; omega
 have c1' : -1 ≤ s.clock := c1
 have c2' : s.clock < 1099511627775 := c2
 have n1' : 0 ≤ s.next := n1
 have n2' : s.next < 65536 := n2
 have HFs : Hid (∀ x ∈ s.slots, Bx.SlFit (Px.absS x)) := fun x hx => hf.es _ (List.mem_map.2 ⟨x, hx, rfl⟩)
 have HFe : Hid (∀ x ∈ s.ends, Bx.EnFit x) := hf.ee
 have HS : Hid (PAt w s (.slice ad s.slots.length cap) (.slice ad2 s.ends.length cap2)) := hS
 have HE : Hid (({ data := #[90] } : ByteArray) ++ Bx.be (s.clock + 1) 5 ++ Bx.be s.next 2 ++ Bx.be s.tab.size 2 ++ s.tab ++ (Bx.be s.slots.length 1 ++ Bx.cat (s.slots.map encA)) ++ (Bx.be s.ends.length 1 ++ Bx.cat (s.ends.map Bx.encEn)) = Bx.wholeS (Px.abs s)) := whole_enc s
 have hz1 : (Bx.be s.slots.length 1 ++ Bx.cat (s.slots.map encA)).size ≤ 4000 := by
  have h1 := Bx.cat_size encA 15 s.slots (fun x _ => Bx.encSl_size _)
  rw [ByteArray.size_append, Bx.be_size, h1]; omega
 have hz2 : (Bx.be s.ends.length 1 ++ Bx.cat (s.ends.map Bx.encEn)).size ≤ 1000 := by
  have h1 := Bx.cat_size Bx.encEn 3 s.ends (fun x hx => by unfold Bx.encEn; rw [ByteArray.size_append, Bx.be_size, (HFe.out x hx).h])
  rw [ByteArray.size_append, Bx.be_size, h1]; omega
 have hZ : Hid ((Bx.wholeS (Px.abs s)).size ≤ 100000) := by
  unfold Hid; rw [← HE.out]; simp only [ByteArray.size_append, Bx.be_size] at hz1 hz2 ⊢
  have : ({ data := #[90] } : ByteArray).size = 1 := rfl
  omega
 have hb0 := below_alloc w (pstO s (.slice ad s.slots.length cap) (.slice ad2 s.ends.length cap2))
 have hI := PIn.new w s (.slice ad s.slots.length cap) (.slice ad2 s.ends.length cap2)
 clear hf hS c1 c2 n1 n2
 go_enter Tryz.func55, Tryz.ntmps55
 go_upto_region 1 with fail
 generalize w.alloc (pstO s (.slice ad s.slots.length cap) (.slice ad2 s.ends.length cap2)) = W at *
 have HI : Hid (PIn W w.heap.size s (.slice ad s.slots.length cap) (.slice ad2 s.ends.length cap2)) := hI
 have HB : Hid (Below w.heap.size w W) := hb0
 have HA : Hid (PAt W s (.slice ad s.slots.length cap) (.slice ad2 s.ends.length cap2)) := HS.out.later hb0
 obtain ⟨i0, i1, i2, i3, i4⟩ := hI
 clear hb0 HS i0 i2 i3 i4
 go_wp2_with fail
 refine (digits_at _ _ (s.clock + 1) 5 _ rfl rfl (by omega) (by omega) (by decide)).mono ?_
 rintro e w1 ⟨rfl, hb1⟩
 have HI1 := HI.out.later hb1
 have HB1 : Hid (Below w.heap.size w w1) := HB.out.trans (hb1.mono HB.out.size)
 have HA1 : Hid (PAt w1 s (.slice ad s.slots.length cap) (.slice ad2 s.ends.length cap2)) := HA.out.later hb1
 have HII1 : Hid (PIn w1 w.heap.size s (.slice ad s.slots.length cap) (.slice ad2 s.ends.length cap2)) := HI1
 clear HI HB HA hb1 i1
 obtain ⟨i0, i1, i2, i3, i4⟩ := HI1
 clear i0 i1 i3 i4
 go_wp2_with fail
 refine (digits_at _ _ s.next 2 _ rfl rfl (by omega) (by omega) (by decide)).mono ?_
 rintro e w2 ⟨rfl, hb1⟩
 have HI2 := HII1.out.later hb1
 have HB2 : Hid (Below w.heap.size w w2) := HB1.out.trans (hb1.mono HB1.out.size)
 have HA2 : Hid (PAt w2 s (.slice ad s.slots.length cap) (.slice ad2 s.ends.length cap2)) := HA1.out.later hb1
 have HII2 : Hid (PIn w2 w.heap.size s (.slice ad s.slots.length cap) (.slice ad2 s.ends.length cap2)) := HI2
 clear HII1 HB1 HA1 hb1 i2
 obtain ⟨i0, i1, i2, i3, i4⟩ := HI2
 clear i1 i2 i3 i4
 go_wp2_with fail
 refine (digits_at _ _ (s.tab.size : Int) 2 _ rfl rfl (by omega) (by omega) (by decide)).mono ?_
 rintro e w3 ⟨rfl, hb1⟩
 have HI3 := HII2.out.later hb1
 have HB3 : Hid (Below w.heap.size w w3) := HB2.out.trans (hb1.mono HB2.out.size)
 have HA3 : Hid (PAt w3 s (.slice ad s.slots.length cap) (.slice ad2 s.ends.length cap2)) := HA2.out.later hb1
 have HII3 : Hid (PIn w3 w.heap.size s (.slice ad s.slots.length cap) (.slice ad2 s.ends.length cap2)) := HI3
 clear HII2 HB2 HA2 hb1 i0
 obtain ⟨i0, i1, i2, i3, i4⟩ := HI3
 clear i0 i1 i2 i4
 go_wp2_with fail
 refine (pslotsPart_any s.slots _ _ hsl HFs.out HA3.out.sl.1).mono ?_
 rintro e w4 ⟨rfl, hb1⟩
 have HI4 := HII3.out.later hb1
 have HB4 : Hid (Below w.heap.size w w4) := HB3.out.trans (hb1.mono HB3.out.size)
 have HA4 : Hid (PAt w4 s (.slice ad s.slots.length cap) (.slice ad2 s.ends.length cap2)) := HA3.out.later hb1
 have HII4 : Hid (PIn w4 w.heap.size s (.slice ad s.slots.length cap) (.slice ad2 s.ends.length cap2)) := HI4
 clear HII3 HB3 HA3 hb1 i3
 obtain ⟨i0, i1, i2, i3, i4⟩ := HI4
 clear i0 i1 i2 i3
 go_wp2_with fail
 refine (pendsPart_any s.ends _ _ hen HFe.out HA4.out.en.1).mono ?_
 rintro e w5 ⟨rfl, hb1⟩
 have HI5 := HII4.out.later hb1
 have HB5 : Hid (Below w.heap.size w w5) := HB4.out.trans (hb1.mono HB4.out.size)
 clear HII4 HB4 HA4 hb1 i4
 obtain ⟨i0, i1, i2, i3, i4⟩ := HI5
 clear i1 i2 i3 i4
 generalize Bx.be s.slots.length 1 ++ Bx.cat (s.slots.map encA) = X1 at *
 generalize Bx.be s.ends.length 1 ++ Bx.cat (s.ends.map Bx.encEn) = X2 at *
 have q1 : ¬ 9223372036854775807 < 10 + s.tab.size := by omega
 have q2 : ¬ 9223372036854775807 < 10 + s.tab.size + X1.size := by omega
 have q3 : ¬ 9223372036854775807 < 10 + s.tab.size + X1.size + X2.size := by omega
 go_wp2_with fail
 rw [HE.out]
 refine (framed_any _ _ hZ.out).mono ?_
 rintro e w6 ⟨rfl, hb1⟩
 have HB6 : Hid (Below w.heap.size w w6) := HB5.out.trans (hb1.mono HB5.out.size)
 clear HB5 hb1 i0
 go_wp2_with fail
 go_ret
 exact ⟨rfl, HB6.out⟩
set_option maxRecDepth 10000 in
set_option maxHeartbeats 2000000 in
theorem pwaiting_any (x : Px.Sl) (w : World) : Calls Tryz.prog 98 #[psV x] w fun e w' => e = .returned (psV (Px.wait x)) ∧ Below w.heap.size w w' := by
 have HB : Hid (∀ o o', Below w.heap.size w ((w.alloc o).alloc o')) := fun o o' => (below_alloc w o).alloc (by simp) o'
 go_enter Tryz.func98, Tryz.ntmps98
 go_wp2_with fail
 refine bodyPost_ret (v := psV (Px.wait x)) (by simp [results, Tryz.results98, go_sem, Px.wait]; rfl) rfl ⟨rfl, ?_⟩
 first | exact HB.out _ _ | (repeat (refine Below.setCell ?_ (by simp) _); exact HB.out _ _)
set_option maxRecDepth 10000 in
set_option maxHeartbeats 4000000 in
theorem pint_any (s : Px.St) (sl en : Value) (w : World) (hl : s.slots.length ≤ 10000) (hS : PAt w s sl en) :
 Calls Tryz.prog 54 #[pstV s sl en] w fun e w' => (∃ slt ent, e = .returned (pstV (Px.intP s) slt ent) ∧ PAt w' (Px.intP s) slt ent) ∧ Below w.heap.size w w' := by
 obtain ⟨i0, hi, hz0, hz1, hz2⟩ := info_parts info_ps
 obtain ⟨ad, cap, rfl, hcap⟩ := hS.sl.form
 obtain ⟨ad2, cap2, rfl, hcap2⟩ := hS.en.form
 have hb0 := (below_alloc w (pstO s (.slice ad s.slots.length cap) (.slice ad2 s.ends.length cap2))).alloc (by simp) (.cells #[.string { data := #[] }, .int .i64 0, .int .i64 0, .slice none 0 0, .slice none 0 0] 65)
 have hI := (PIn.new w s (.slice ad s.slots.length cap) (.slice ad2 s.ends.length cap2)).later (below_alloc _ (.cells #[.string { data := #[] }, .int .i64 0, .int .i64 0, .slice none 0 0, .slice none 0 0] 65))
 have hz := Cl.new (w.alloc (pstO s (.slice ad s.slots.length cap) (.slice ad2 s.ends.length cap2))) [.string { data := #[] }, .int .i64 0, .int .i64 0, .slice none 0 0, .slice none 0 0] 65
 have hsz : (w.alloc (pstO s (.slice ad s.slots.length cap) (.slice ad2 s.ends.length cap2))).heap.size = w.heap.size + 1 := by simp
 rw [hsz] at hz
 clear hsz
 go_enter Tryz.func54, Tryz.ntmps54
 go_upto_region 1 with fail
 have hz' : Cl ((w.alloc (pstO s (.slice ad s.slots.length cap) (.slice ad2 s.ends.length cap2))).alloc (.cells #[.string { data := #[] }, .int .i64 0, .int .i64 0, .slice none 0 0, .slice none 0 0] 65)) (w.heap.size + 1) 65 [.string { data := #[] }, .int .i64 0, .int .i64 0, .slice none 0 0, .slice none 0 0] := hz
 clear hz
 generalize (w.alloc (pstO s (.slice ad s.slots.length cap) (.slice ad2 s.ends.length cap2))).alloc (.cells #[.string { data := #[] }, .int .i64 0, .int .i64 0, .slice none 0 0, .slice none 0 0] 65) = W at *
 have HZ : Hid (Cl W (w.heap.size + 1) 65 [.string { data := #[] }, .int .i64 0, .int .i64 0, .slice none 0 0, .slice none 0 0]) := hz'
 have HI : Hid (PIn W w.heap.size s (.slice ad s.slots.length cap) (.slice ad2 s.ends.length cap2)) := hI
 have HB : Hid (Below w.heap.size w W) := hb0
 have HA : Hid (PAt W s (.slice ad s.slots.length cap) (.slice ad2 s.ends.length cap2)) := hS.later hb0
 have HO : Hid ((W.alloc (.cells #[] 154)).ownsRow W.heap.size 154 8 (.slice (some ⟨W.heap.size, 0, none⟩) 0 0) 0 []) := own_empty W 154 8
 have HBW : Hid (Below W.heap.size W (W.alloc (.cells #[] 154))) := below_alloc W _
 have hlt0 : w.heap.size + 1 < W.heap.size := hz'.ty.lt
 clear hz' hI hb0 hS
 go_wp2_with fail
 go_loopw [3, 4] (fun v i wr => ∃ k : Nat, k ≤ s.slots.length ∧ i = .int .i64 k ∧ wr.ownsRow W.heap.size 154 8 v ((s.slots.take k).map Px.wait).length (((s.slots.take k).map Px.wait).flatMap psC) ∧ Below W.heap.size W wr) (fun _ i _ => s.slots.length - (intOf i).toNat)
 case atStart => exact ⟨0, Nat.zero_le _, rfl, HO.out, HBW.out⟩
 case round =>
  obtain ⟨k, hk, rfl, hown, hbr⟩ := hrel
  have hszr := hbr.size
  have HIr := HI.out.later hbr
  obtain ⟨j0, j1, j2, j3, j4⟩ := HIr
  by_cases hlt : k < s.slots.length
  ·obtain ⟨b, off, cap', hv, _, hc⟩ := (HA.out.sl.1.later hbr).some' (by omega)
   cases hv
   obtain ⟨d0, d1, d2, d3, d4, d5, d6, d7⟩ := ps_cells hc k hlt
   clear hc
   have b1 : (0 : Int) ≤ (k : Int) := by omega
   have b2 : (k : Int) < (s.slots.length : Int) := by omega
   have hn : ((s.slots.take k).map Px.wait).length ≤ 10000 := by simp; omega
   have HF : Hid ((s.slots.take (k + 1)).map Px.wait = (s.slots.take k).map Px.wait ++ [Px.wait s.slots[k]]) := by
    unfold Hid; rw [List.take_succ_eq_append_getElem hlt, List.map_append]; rfl
   generalize s.slots[k] = x at *
   generalize (s.slots.take k).map Px.wait = L at *
   have HOw : Hid (wr.ownsRow W.heap.size 154 8 _ L.length (L.flatMap psC)) := hown
   have HBr : Hid (Below W.heap.size W wr) := hbr
   clear hown hbr j0 j1 j2 j4
   go_wp2_with fail
   refine (pwaiting_any x _).mono ?_
   rintro e w1 ⟨rfl, hb1⟩
   clear d0 d1 d2 d3 d4 d5 d6 d7 j3
   generalize Px.wait x = y at *
   have hown1 := own_below HOw.out hb1
   have hbr1 : Below W.heap.size W w1 := HBr.out.trans (hb1.mono hszr)
   have hsz1 := hbr1.size
   clear HOw HBr hb1
   have hb2 := below_alloc w1 (psO y)
   have hown2 := own_below hown1 hb2
   have hbr2 : Below W.heap.size W (w1.alloc (psO y)) := hbr1.alloc hsz1 _
   have hX := PsIn.new w1 y
   clear hown1 hbr1 hb2
   go_upto_region 6 with fail
   generalize w1.alloc (psO y) = W2 at *
   generalize w1.heap.size = xq at *
   obtain ⟨e0, e1, e2, e3, e4, e5, e6, e7⟩ := hX
   have hsz2 := hbr2.size
   go_wp2_with (at_builtin; refine wpList_append_lies _ rfl (.tmp 21) (.tmp 23) 62 rfl W.heap.size 154 i0 (.agg #[.int .i64 0, .int .i64 0, .int .i64 0, .int .i64 0, .int .i64 0, .int .i64 0, .int .i64 0, .string ByteArray.empty]) 8 72 Tryz.underlying62 hi hz0 hz1 hz2 rfl (by decide) _ _ _ rfl (hown2.alloc _) ⟨W2.heap.size, 0, none⟩ 1 1 (psC y) rfl rfl (psC_new _ _ _) (psC_one y) (by decide) ?c3 ?c4 ?c5 _ rfl ?_)
   case c3 => unfold maxLen; omega
   case c4 => omega
   case c5 => simp; omega
   ·intro g cap1 w3 hown' hgrow _ hlt'
    have B1 : Below W.heap.size W w3 := (hbr2.alloc hsz2 _).grown hgrow (by simp; omega) (fun k' e => (hown2.lt k' e).1)
    have hown3 : w3.ownsRow W.heap.size 154 8 (.slice (some ⟨g, 0, none⟩) (L.length + 1) cap1) (L ++ [y]).length ((L ++ [y]).flatMap psC) := by simpa using hown'
    clear hown' hgrow hown2 hbr2 e0 e1 e2 e3 e4 e5 e6 e7
    go_wp2_with fail
    go_roundw
    case rel => exact ⟨k + 1, by omega, by go_num, by rw [HF.out]; exact hown3, B1⟩
    case measure => simp [intOf]; omega
  ·obtain rfl : k = s.slots.length := by omega
   rw [List.take_length] at hown
   have hT := TRow.of_own hown
   obtain ⟨ad5, cap5, hv5, _⟩ := hT.form
   subst hv5
   have HT2 : Hid (TRow wr 154 (.slice ad5 (s.slots.map Px.wait).length cap5) (Px.intP s).slots.length ((Px.intP s).slots.flatMap psC)) := hT
   have HZr := HZ.out.later hbr
   have HE2 : Hid (TRow wr 95 (.slice ad2 s.ends.length cap2) s.ends.length (s.ends.flatMap enC)) := HA.out.en.later hbr
   have HBr : Hid (Below w.heap.size w wr) := HB.out.trans (hbr.mono HB.out.size)
   have hP : PRes w wr s (.slice ad s.slots.length cap) (.slice ad2 s.ends.length cap2) := ⟨HI.out.later hbr, fun i hi => ⟨⟨_, HZr.c i _ (List.getElem?_eq_getElem (by simpa using hi))⟩, HZr.f i (by simpa using hi)⟩, HZr.ty, HBr.out, HZr.ty.lt⟩
   have hP2 := hP.later (below_alloc wr (pstO s (.slice ad s.slots.length cap) (.slice ad2 s.ends.length cap2)))
   have hO2 := HT2.out.later (below_alloc wr (pstO s (.slice ad s.slots.length cap) (.slice ad2 s.ends.length cap2)))
   have hE2 := HE2.out.later (below_alloc wr (pstO s (.slice ad s.slots.length cap) (.slice ad2 s.ends.length cap2)))
   have hA := PW.new wr s (.slice ad s.slots.length cap) (.slice ad2 s.ends.length cap2)
   have hWq := hP.lt
   clear hT hown HT2 HE2 HBr HZr hbr hP
   generalize (s.slots.map Px.wait).length = nl at *
   go_upto_region 8 with fail
   clear j0 j1 j2 j3 j4
   generalize wr.alloc (pstO s (.slice ad s.slots.length cap) (.slice ad2 s.ends.length cap2)) = W2 at *
   generalize wr.heap.size = q at *
   have a3 := hA.st.c3
   have f3 := hA.f 3 (by decide)
   have hq3 := hA.ty.lt
   have HP4 := hP2.set hWq 3 (.slice ad5 nl cap5)
   have HA4 : PW _ q (Px.intP s) _ _ := hA.slots (s.slots.map Px.wait) (.slice ad5 nl cap5)
   have HO4 := hO2.set hA.ty (by decide) 3 (.slice ad5 nl cap5)
   have HE4 := hE2.set hA.ty (by decide) 3 (.slice ad5 nl cap5)
   clear hA hP2 hO2 hE2
   go_upto_region 9 with fail
   clear a3 f3
   generalize W2.setCell ⟨q, 3, none⟩ (.slice ad5 nl cap5) = W4 at *
   have HX : Hid (PEnd w W4 q (Px.intP s) (.slice ad5 nl cap5) (.slice ad2 s.ends.length cap2)) := ⟨HA4, ⟨HO4, HE4⟩, HP4.z, HP4.ty, HP4.bel⟩
   obtain ⟨⟨⟨u0, r0⟩, f0⟩, ⟨⟨u1, r1⟩, f1⟩, ⟨⟨u2, r2⟩, f2⟩, ⟨⟨u3, r3⟩, f3⟩, ⟨⟨u4, r4⟩, f4⟩⟩ := And.intro (HP4.z 0 (by decide)) (And.intro (HP4.z 1 (by decide)) (And.intro (HP4.z 2 (by decide)) (And.intro (HP4.z 3 (by decide)) (HP4.z 4 (by decide)))))
   obtain ⟨c0, c1, c2, c3, c4⟩ := HA4.st
   clear HP4 HA4 HO4 HE4
   go_wp2_with fail
   refine bodyPost_ret (v := pstV (Px.intP s) (.slice ad5 nl cap5) (.slice ad2 s.ends.length cap2)) (by simp [results, Tryz.results54, go_sem, r0, r1, r2, r3, r4]) rfl ?_
   exact ⟨⟨_, _, rfl, (HX.out.fin _ _ _ _ _).1⟩, (HX.out.fin _ _ _ _ _).2⟩
end Go.Proofs.YtdajolpoiffimaaGreatDoor

namespace Go.Proofs.YtdajolpoiffimaaGreatDoor
namespace Px
/-- What the program makes of a change is what the document does. -/
def ChM (s : St) (h : Bx.Ch) (p : St × Int) : Prop := (p.2 = 0 → Bx.doP (abs s) h = (abs p.1, true) ∧ Ok p.1) ∧ (¬ p.2 = 0 → (Bx.doP (abs s) h).2 = false)
open Classical in
theorem chm_tab {s : St} (hO : Ok s) {tab : ByteArray} {n : Int} {a r : Int} (hc : ChkR tab a r) : ChM s ⟨84, tab, n⟩ (if r = 0 then tabP s tab else (st0, r)) := by
 have e : Bx.doP (abs s) ⟨84, tab, n⟩ = if ChkR tab 0 0 ∧ (abs s).slots.length = 0 then ({ abs s with tab := tab }, true) else (abs s, false) := by unfold Bx.doP; rw [if_pos rfl]
 have hl : (abs s).slots.length = s.slots.length := by simp [abs]
 by_cases hr : r = 0
 ·subst hr
  have ha := hc.zero rfl
  subst ha
  rw [if_pos rfl]
  unfold tabP
  by_cases hs : 0 < s.slots.length
  ·rw [if_pos hs]
   refine ⟨fun q => absurd q (by decide), fun _ => ?_⟩
   rw [e, if_neg (by rw [hl]; omega)]
  ·rw [if_neg hs]
   have hs0 : s.slots = [] := List.eq_nil_of_length_eq_zero (by omega)
   refine ⟨fun _ => ⟨?_, ?_⟩, fun q => absurd rfl q⟩
   ·rw [e, if_pos ⟨hc, by rw [hl]; omega⟩]; rfl
   ·have hst : Bx.StOk (abs { s with tab := tab }) := by
     have := Bx.do_ok hO.st ⟨84, tab, n⟩
     rw [e, if_pos ⟨hc, by rw [hl]; omega⟩] at this
     exact this
    exact ⟨hst, hO.rise, fun x hx => by rw [hs0] at hx; simp at hx⟩
 ·rw [if_neg hr]
  refine ⟨fun q => absurd q hr, fun _ => ?_⟩
  rw [e, if_neg]
  rintro ⟨q, _⟩
  exact hr (hc.uniq q).2
theorem chm_clock {s : St} (hO : Ok s) (t : ByteArray) (m : Int) : ChM s ⟨67, t, m⟩ (clockP s m) := by
 have e : Bx.doP (abs s) ⟨67, t, m⟩ = Bx.clockedP (abs s) m := by unfold Bx.doP; rw [if_neg (show ¬ (67 : Int) = 84 by decide), if_pos rfl]
 refine ⟨fun h0 => ⟨by rw [e]; exact clock_abs s m h0, clock_ok hO h0⟩, fun h0 => ?_⟩
 rw [e]
 have hc := clock_err s m
 unfold Bx.clockedP
 by_cases ha : Bx.ahead (abs s) m = true
 ·rw [if_pos ha]
  have hA : 0 ≤ m ∧ m ≤ 4223371679 ∧ s.clock < m ∧ (s.clock = -1 ∨ m - s.clock ≤ 1500) := of_decide_eq_true ha
  have hb : aheadP s m = true := decide_eq_true hA.2.2
  rw [if_neg (by omega), hb, if_neg (by simp)] at hc
  by_cases hn : 10000 < s.next + ((comesP s m).length : Int)
  ·rw [if_neg]
   show ¬ s.next + ((comesP s m).length : Int) ≤ 10000
   omega
  ·rw [if_neg hn] at hc; exact absurd hc h0
 ·rw [if_neg ha]
theorem chm_start {s : St} (hO : Ok s) (t : ByteArray) (n : Int) : ChM s ⟨83, t, n⟩ (startP s n) := by
 have e : Bx.doP (abs s) ⟨83, t, n⟩ = Bx.aboutP (abs s) 83 n := do_about _ _ _ _ (by decide) (by decide)
 refine ⟨fun h0 => ?_, fun h0 => ?_⟩
 ·refine ⟨?_, startP_ok hO n h0⟩
  rw [e]
  rcases start_abs hO.dist n with ⟨q, _⟩ | ⟨i, hi, _, hn, q⟩
  ·omega
  ·rcases q with ⟨q, _⟩ | ⟨q, _⟩ | ⟨q, _⟩ | ⟨_, _, _, _, _, q⟩
   ·omega
   ·omega
   ·omega
   ·exact q
 ·rw [e]
  unfold Bx.aboutP
  rcases start_abs hO.dist n with ⟨_, hf⟩ | ⟨i, hi, hF, hn, q⟩
  ·rw [if_pos hf]
  ·rw [hF, if_neg (by omega), if_neg (by decide), if_pos rfl]
   simp only [Int.toNat_natCast]
   rw [if_pos]
   rw [slAt_abs hi]
   rcases q with ⟨_, q⟩ | ⟨_, _, q⟩ | ⟨_, q1, _, q⟩ | ⟨q, _⟩
   ·left; simp [absS, q]
   ·right; left; exact q
   ·right; right; rw [lock_abs hi q1]; exact q
   ·exact absurd q h0
theorem ended_ok {s : St} (hO : Ok s) {k n : Int} {how : ByteArray} (h : Bx.aboutP (abs s) k n = (abs (ended s n how), true)) : Ok (ended s n how) := by
 refine hO.skip n how ?_
 have := Bx.about_ok hO.st k n
 rw [h] at this; exact this
theorem chm_done {s : St} (hO : Ok s) (t : ByteArray) (n : Int) : ChM s ⟨68, t, n⟩ (doneP s n) := by
 have e : Bx.doP (abs s) ⟨68, t, n⟩ = Bx.aboutP (abs s) 68 n := do_about _ _ _ _ (by decide) (by decide)
 have hd : (doneP s n).2 = 0 → (doneP s n).1 = ended s n Bx.hD := by
  intro h0
  unfold doneP at h0 ⊢
  cases q : find s.slots n with
  | none => rw [q] at h0; cases h0
  | some x =>
    rw [q] at h0
    simp only at h0 ⊢
    split at h0
    ·cases h0
    ·rename_i h; rw [if_neg h]
 rcases done_abs hO.dist n hO.num1 with ⟨q, hf⟩ | ⟨q, i, hF, hr⟩ | ⟨q, ha⟩
 ·refine ⟨fun h0 => by omega, fun _ => ?_⟩
  rw [e]; unfold Bx.aboutP; rw [if_pos hf]
 ·refine ⟨fun h0 => by omega, fun _ => ?_⟩
  rw [e]; unfold Bx.aboutP
  rw [hF, if_neg (by omega), if_neg (by decide), if_neg (by decide), if_pos rfl]
  simp only [Int.toNat_natCast]; exact hr
 ·refine ⟨fun h0 => ⟨by rw [e]; exact ha, ?_⟩, fun h0 => absurd q h0⟩
  rw [hd h0] at ha ⊢; exact ended_ok hO ha
theorem chm_fail {s : St} (hO : Ok s) (t : ByteArray) (n : Int) : ChM s ⟨70, t, n⟩ (failP s n) := by
 have e : Bx.doP (abs s) ⟨70, t, n⟩ = Bx.aboutP (abs s) 70 n := do_about _ _ _ _ (by decide) (by decide)
 rcases fail_abs hO.dist n hO.num1 hO.att with ⟨q, hf⟩ | ⟨q, i, hF, hr⟩ | ⟨q, ha⟩
 ·refine ⟨fun h0 => by omega, fun _ => ?_⟩
  rw [e]; unfold Bx.aboutP; rw [if_pos hf]
 ·refine ⟨fun h0 => by omega, fun _ => ?_⟩
  rw [e]; unfold Bx.aboutP
  rw [hF, if_neg (by omega), if_neg (by decide), if_neg (by decide), if_neg (by decide), if_pos rfl]
  simp only [Int.toNat_natCast]; exact hr
 ·exact ⟨fun h0 => ⟨by rw [e]; exact ha, fail_ok hO n h0⟩, fun h0 => absurd q h0⟩
theorem chm_cancel {s : St} (hO : Ok s) (t : ByteArray) (n : Int) : ChM s ⟨75, t, n⟩ (cancelP s n) := by
 have e : Bx.doP (abs s) ⟨75, t, n⟩ = Bx.aboutP (abs s) 75 n := do_about _ _ _ _ (by decide) (by decide)
 rcases cancel_abs hO.dist n hO.num1 with ⟨q, hf⟩ | ⟨q, ha⟩
 ·refine ⟨fun h0 => by omega, fun _ => ?_⟩
  rw [e]; unfold Bx.aboutP; rw [if_pos hf]
 ·refine ⟨fun h0 => ⟨by rw [e]; exact ha, ?_⟩, fun h0 => absurd q h0⟩
  rw [cancel_st h0] at ha ⊢; exact ended_ok hO ha
/-- A state that was read, and may be. -/
theorem fresh_ok {s : St} (hf : ∀ x ∈ s.slots, Fresh x) (hm : Bx.MayS (abs s)) : Ok s := by
 refine ⟨hm.ok, ?_, fun x hx => ?_⟩
 ·have := hm.rise
  unfold abs at this
  rw [List.pairwise_map] at this
  exact this
 ·obtain ⟨h1, h2, h3, h4⟩ := hf x hx
  have hl : LineP (tl s.tab (x.line - 1).toNat) := by
   have q := (hm.es (absS x) (List.mem_map.2 ⟨x, hx, rfl⟩)).l
   have q1 : 1 ≤ x.line ∧ x.line ≤ tn s.tab := q
   exact hm.tab.lines.2.2 _ (by show (x.line - 1).toNat < tn s.tab; omega)
  have h7 := hl.n7
  have hs : 1 ≤ (stepsOf (tl s.tab (x.line - 1).toNat)).length := by unfold stepsOf; rw [List.length_drop]; omega
  refine ⟨by omega, by omega, by omega, by omega, by rw [h3]; decide, fun _ => h3⟩
end Px
end Go.Proofs.YtdajolpoiffimaaGreatDoor

namespace Go.Proofs.YtdajolpoiffimaaGreatDoor
open Go.RowKit

set_option maxHeartbeats 400000 in
theorem lnum_any (e : Int) (w : World) : Calls Tryz.prog 21 #[.int .i64 e] w fun r w' => r = .returned (.int .i64 e) ∧ w' = w := by
 go_enter Tryz.func21, Tryz.ntmps21
 go_wp2_with fail
 go_ret
 exact ⟨rfl, rfl⟩

set_option maxHeartbeats 1000000 in
theorem lslot_any (w : World) (base P B D : Nat) (tk : Value) (b : Px.Bo) (d : Bx.Bo) (i : Int) (hd : Duo w base P B D tk b d) :
 Calls Tryz.prog 24 #[.pointer (some ⟨P, 0, none⟩), .int .i64 i] w fun e w' => e = .returned (.bool true) ∧ Below w.heap.size w w' := by
 have c0 := hd.p.c0
 have hP := hd.p.ty.lt
 have HD : Hid (Duo w base P B D tk b d) := hd
 have HX : Hid (∃ x r, slotA b.st.slots i = (x, r)) := ⟨_, _, rfl⟩
 obtain ⟨x, r, hx⟩ := HX.out
 have HS : Hid (slotA b.st.slots i = (x, r)) := hx
 clear hd hx HX
 go_enter Tryz.func24, Tryz.ntmps24
 go_wp2_with (first
  | (go_at_call 62; refine (xslot_any b B i _ HD.out.rel.ok HD.out.x).mono ?_; rw [HS.out]; rintro e w1 ⟨rfl, hb1⟩; have HD1 : Hid (∀ o, Duo (w1.alloc o) base P B D tk b d) := (fun o => (HD.out.later hb1).later (below_alloc w1 o)); have c1 : Hid (∀ o, (w1.alloc o).cell? ⟨P, 1, none⟩ = some (.pointer (some ⟨D, 0, none⟩))) := (fun o => (HD1.out o).p.c1); have c1' := c1.out (.cells #[.int .i64 x.num, .int .i64 x.line, .int .i64 x.minute, .int .i64 x.att, .int .i64 x.frm, .int .i64 x.step] 97); have hP1 : P < w1.heap.size := Nat.lt_of_lt_of_le hP hb1.size)
  | (go_at_call 63; refine (yslot_any b d D tk i _ HD.out.rel (HD1.out _).y).mono ?_; rw [HS.out]; rintro e w2 ⟨rfl, hb2⟩; obtain ⟨hc2, hf2⟩ := bcell hb2; have hs2 : w1.heap.size < w2.heap.size := (by have := hb2.size; simp at this; omega))
  | (go_at_call 21; refine (lnum_any _ _).mono ?_; rintro e w3 ⟨rfl, rfl⟩))
 go_ret
 exact ⟨rfl, ((hb1.alloc hb1.size _).trans (hb2.mono (by simp; exact Nat.le_succ_of_le hb1.size))).alloc (Nat.le_trans hb1.size (Nat.le_of_lt hs2)) _⟩

set_option maxHeartbeats 1000000 in
theorem lend_any (w : World) (base P B D : Nat) (tk : Value) (b : Px.Bo) (d : Bx.Bo) (i : Int) (hd : Duo w base P B D tk b d) :
 Calls Tryz.prog 25 #[.pointer (some ⟨P, 0, none⟩), .int .i64 i] w fun e w' => e = .returned (.bool true) ∧ Below w.heap.size w w' := by
 have c0 := hd.p.c0
 have hP := hd.p.ty.lt
 have HD : Hid (Duo w base P B D tk b d) := hd
 have HX : Hid (∃ x r, endA b.st.ends i = (x, r)) := ⟨_, _, rfl⟩
 obtain ⟨x, r, hx⟩ := HX.out
 have HS : Hid (endA b.st.ends i = (x, r)) := hx
 clear hd hx HX
 go_enter Tryz.func25, Tryz.ntmps25
 go_wp2_with (first
  | (go_at_call 64; refine (xend_any b B i _ HD.out.rel.ok HD.out.x).mono ?_; rw [HS.out]; rintro e w1 ⟨rfl, hb1⟩; have HD1 : Hid (∀ o, Duo (w1.alloc o) base P B D tk b d) := (fun o => (HD.out.later hb1).later (below_alloc w1 o)); have c1 : Hid (∀ o, (w1.alloc o).cell? ⟨P, 1, none⟩ = some (.pointer (some ⟨D, 0, none⟩))) := (fun o => (HD1.out o).p.c1); have c1' := c1.out (.cells #[.int .i64 x.num, .string x.how] 95); have hP1 : P < w1.heap.size := Nat.lt_of_lt_of_le hP hb1.size)
  | (go_at_call 65; refine (yend_any b d D tk i _ HD.out.rel (HD1.out _).y).mono ?_; rw [HS.out]; rintro e w2 ⟨rfl, hb2⟩; obtain ⟨hc2, hf2⟩ := bcell hb2; have hs2 : w1.heap.size < w2.heap.size := (by have := hb2.size; simp at this; omega))
  | (go_at_call 21; refine (lnum_any _ _).mono ?_; rintro e w3 ⟨rfl, rfl⟩))
 go_ret
 exact ⟨rfl, ((hb1.alloc hb1.size _).trans (hb2.mono (by simp; exact Nat.le_succ_of_le hb1.size))).alloc (Nat.le_trans hb1.size (Nat.le_of_lt hs2)) _⟩

set_option maxHeartbeats 1000000 in
theorem llook_any (w : World) (base P B D : Nat) (tk : Value) (b : Px.Bo) (d : Bx.Bo) (hd : Duo w base P B D tk b d) :
 Calls Tryz.prog 22 #[.pointer (some ⟨P, 0, none⟩)] w fun e w' => e = .returned (.bool true) ∧ Below w.heap.size w w' := by
 have c0 := hd.p.c0
 have hP := hd.p.ty.lt
 have HD : Hid (Duo w base P B D tk b d) := hd
 clear hd
 go_enter Tryz.func22, Tryz.ntmps22
 go_wp2_with (first
  | (go_at_call 31; refine (xlook_any b B _ HD.out.x).mono ?_; rintro e w1 ⟨rfl, hb1⟩; have HD1 : Hid (∀ o, Duo (w1.alloc o) base P B D tk b d) := (fun o => (HD.out.later hb1).later (below_alloc w1 o)); have c1 := (HD1.out (.cells #[.int .i64 b.st.clock, .int .i64 b.st.next, .int .i64 b.st.slots.length, .int .i64 b.st.ends.length, .string b.st.tab] 78)).p.c1; have hP1 : P < w1.heap.size := Nat.lt_of_lt_of_le hP hb1.size)
  | (go_at_call 61; refine (ylook_any b d D tk _ HD.out.rel (HD1.out _).y).mono ?_; rintro e w2 ⟨rfl, hb2⟩; obtain ⟨hc2, hf2⟩ := bcell hb2; have hs2 : w1.heap.size < w2.heap.size := (by have := hb2.size; simp at this; omega)))
 go_ret
 exact ⟨rfl, ((hb1.alloc hb1.size _).trans (hb2.mono (by simp; exact Nat.le_succ_of_le hb1.size))).alloc (Nat.le_trans hb1.size (Nat.le_of_lt hs2)) _⟩

set_option maxHeartbeats 1000000 in
theorem llog_any (w : World) (base P B D : Nat) (tk : Value) (b : Px.Bo) (d : Bx.Bo) (hd : Duo w base P B D tk b d) :
 Calls Tryz.prog 23 #[.pointer (some ⟨P, 0, none⟩)] w fun e w' => e = .returned (.bool true) ∧ w' = w := by
 have c0 := hd.p.c0
 have c1 := hd.p.c1
 have hP := hd.p.ty.lt
 have HD : Hid (Duo w base P B D tk b d) := hd
 clear hd
 go_enter Tryz.func23, Tryz.ntmps23
 go_wp2_with (first
  | (go_at_call 11; refine (xlog_any b B _ HD.out.x).mono ?_; rintro e w1 ⟨rfl, rfl⟩)
  | (go_at_call 45; refine (ylog_any b d D tk _ HD.out.rel HD.out.y).mono ?_; rintro e w2 ⟨rfl, rfl⟩))
 go_ret
 exact ⟨rfl, rfl⟩

set_option maxHeartbeats 1000000 in
theorem lall_any (w : World) (base P B D : Nat) (tk : Value) (b : Px.Bo) (d : Bx.Bo) (hd : Duo w base P B D tk b d) :
 Calls Tryz.prog 10 #[.pointer (some ⟨P, 0, none⟩)] w fun e w' => e = .returned (.bool true) ∧ Below w.heap.size w w' := by
 have HD : Hid (Duo w base P B D tk b d) := hd
 clear hd
 go_enter Tryz.func10, Tryz.ntmps10
 go_wp2_with fail
 refine (llook_any _ base P B D tk b d HD.out).mono ?_
 rintro e w1 ⟨rfl, hb1⟩
 have HD1 : Hid (Duo w1 base P B D tk b d) := HD.out.later hb1
 have HB1 : Hid (Below w.heap.size w w1) := hb1
 clear hb1
 go_wp2_with fail
 refine (llog_any _ base P B D tk b d HD1.out).mono ?_
 rintro e w1' ⟨rfl, rfl⟩
 go_wp2_with fail
 go_loopw [5] (fun i wr => ∃ k : Nat, k ≤ 10 ∧ i = .int .i64 ((k : Int) - 1) ∧ Below w1'.heap.size w1' wr) (fun i _ => (9 - intOf i).toNat)
 case atStart => exact ⟨0, by omega, rfl, Below.refl _ _⟩
 case round =>
  obtain ⟨k, hk, rfl, hbr⟩ := hrel
  have HDr : Hid (Duo wr base P B D tk b d) := HD1.out.later hbr
  by_cases h8 : (k : Int) - 1 ≤ 8
  ·go_wp2_with fail
   refine (lslot_any _ base P B D tk b d _ HDr.out).mono ?_
   rintro e w2 ⟨rfl, hb2⟩
   have HD2 : Hid (Duo w2 base P B D tk b d) := HDr.out.later hb2
   have HB2 : Hid (Below w1'.heap.size w1' w2) := hbr.trans (hb2.mono hbr.size)
   clear hb2 hbr
   go_wp2_with fail
   refine (lend_any _ base P B D tk b d _ HD2.out).mono ?_
   rintro e w3 ⟨rfl, hb3⟩
   have HB3 : Hid (Below w1'.heap.size w1' w3) := HB2.out.trans (hb3.mono HB2.out.size)
   clear hb3
   go_wp2_with fail
   go_roundw
   case rel => exact ⟨k + 1, by omega, by go_num, HB3.out⟩
   case measure => simp [intOf]; omega
  ·go_wp2_with fail
   go_ret
   exact ⟨rfl, HB1.out.trans (hbr.mono HB1.out.size)⟩
end Go.Proofs.YtdajolpoiffimaaGreatDoor

namespace Go.Proofs.YtdajolpoiffimaaGreatDoor

/-- May there be this slot, behind that one? -/
def slMB (s : Bx.St) (i : Nat) (x pv : Bx.Sl) : Bool :=
 !decide (x.num < 1) && !decide (s.next ≤ x.num) && !(decide (0 < i) && decide (x.num ≤ pv.num)) && !decide (x.line < 1) && !decide ((tn s.tab : Int) < x.line) && !decide (s.clock < x.minute) &&
  !decide (x.att < 1) && !decide (Bx.opt s x.line 2 - 48 < x.att) && (if x.att = 1 then decide (x.frm = x.minute) else decide (x.minute < x.frm) && decide (x.frm ≤ s.clock + 10))
def daks : ByteArray := { data := #[100, 97, 107, 115] }
/-- May there be this end at its place? -/
def EnMay (s : Bx.St) (i : Nat) (x : Bx.En) : Prop :=
 Txt.AmgP x.how daks ∧ Bx.find s x.num < 0 ∧ 1 ≤ x.num ∧ x.num < s.next ∧ ∀ j (hj : j < s.ends.length), j ≠ i → s.ends[j].num ≠ x.num
open Classical in
noncomputable def enMB (s : Bx.St) (i : Nat) (x : Bx.En) : Bool := decide (EnMay s i x)
open Classical in
theorem enMB_yes {s : Bx.St} {i : Nat} {x : Bx.En} (h : EnMay s i x) : enMB s i x = true := by unfold enMB; exact decide_eq_true h
open Classical in
theorem enMB_no {s : Bx.St} {i : Nat} {x : Bx.En} (h : ¬ EnMay s i x) : enMB s i x = false := by unfold enMB; exact decide_eq_false h
open Classical in
theorem enMB_iff {s : Bx.St} {i : Nat} {x : Bx.En} : enMB s i x = true ↔ EnMay s i x := by unfold enMB; exact decide_eq_true_iff
open Classical in
noncomputable def mayD (s : Bx.St) : Bool := decide (Bx.MayS s)
open Classical in
theorem mayD_yes {s : Bx.St} (h : Bx.MayS s) : mayD s = true := by unfold mayD; exact decide_eq_true h
open Classical in
theorem mayD_no {s : Bx.St} (h : ¬ Bx.MayS s) : mayD s = false := by unfold mayD; exact decide_eq_false h
open Classical in
theorem mayD_iff {s : Bx.St} : mayD s = true ↔ Bx.MayS s := by unfold mayD; exact decide_eq_true_iff

theorem slMB_iff {s : Bx.St} {i : Nat} {x pv : Bx.Sl} : slMB s i x pv = true ↔ (1 ≤ x.num ∧ x.num < s.next ∧ (0 < i → pv.num < x.num) ∧ 1 ≤ x.line ∧ x.line ≤ (tn s.tab : Int) ∧ x.minute ≤ s.clock ∧ 1 ≤ x.att ∧ x.att ≤ Bx.opt s x.line 2 - 48 ∧ (x.att = 1 → x.frm = x.minute) ∧ (x.att ≠ 1 → x.minute < x.frm ∧ x.frm ≤ s.clock + 10)) := by
 unfold slMB
 have e3 : (!(decide (0 < i) && decide (x.num ≤ pv.num))) = true ↔ (0 < i → pv.num < x.num) := by
  by_cases h : 0 < i
  ·simp [h]
  ·simp [h]
 by_cases ha : x.att = 1
 ·rw [if_pos ha]
  simp only [Bool.and_eq_true, e3]
  simp only [Bool.not_eq_true', decide_eq_false_iff_not, decide_eq_true_eq]
  constructor
  ·rintro ⟨⟨⟨⟨⟨⟨⟨⟨h1, h2⟩, h3⟩, h4⟩, h5⟩, h6⟩, h7⟩, h8⟩, h9⟩
   exact ⟨by omega, by omega, h3, by omega, by omega, by omega, by omega, by omega, fun _ => h9, fun q => absurd ha q⟩
  ·rintro ⟨h1, h2, h3, h4, h5, h6, h7, h8, h9, _⟩
   exact ⟨⟨⟨⟨⟨⟨⟨⟨by omega, by omega⟩, h3⟩, by omega⟩, by omega⟩, by omega⟩, by omega⟩, by omega⟩, h9 ha⟩
 ·rw [if_neg ha]
  simp only [Bool.and_eq_true, e3]
  simp only [Bool.not_eq_true', decide_eq_false_iff_not, decide_eq_true_eq]
  constructor
  ·rintro ⟨⟨⟨⟨⟨⟨⟨⟨h1, h2⟩, h3⟩, h4⟩, h5⟩, h6⟩, h7⟩, h8⟩, h9⟩
   exact ⟨by omega, by omega, h3, by omega, by omega, by omega, by omega, by omega, fun q => absurd q ha, fun _ => h9⟩
  ·rintro ⟨h1, h2, h3, h4, h5, h6, h7, h8, _, h9⟩
   exact ⟨⟨⟨⟨⟨⟨⟨⟨by omega, by omega⟩, h3⟩, by omega⟩, by omega⟩, by omega⟩, by omega⟩, by omega⟩, h9 ha⟩
theorem may_sl {s : Bx.St} (h : Bx.MayS s) (j : Nat) (hj : j < s.slots.length) : slMB s j s.slots[j] (Bx.slAt s (j - 1)) = true := by
 have q := h.es _ (List.getElem_mem hj)
 refine slMB_iff.2 ⟨q.n.1, q.n.2, fun h0 => ?_, q.l.1, q.l.2, q.m, q.a.1, q.a.2, q.f1, q.f2⟩
 rw [Bx.slAt_eq (by omega : j - 1 < s.slots.length)]
 exact List.pairwise_iff_getElem.1 h.rise (j - 1) j (by omega) hj (by omega)
theorem lockK_yes {s : Bx.St} {i k : Nat} (h : Bx.lockK s i k = true) : ∃ j, j < k ∧ j ≠ i ∧ (Bx.slAt s j).line = (Bx.slAt s i).line ∧ (Bx.slAt s j).runs = true := by
 induction k with
 | zero => cases h
 | succ k ih =>
   have e : Bx.lockK s i (k + 1) = (Bx.lockK s i k || (decide (¬ k = i) && (decide ((Bx.slAt s k).line = (Bx.slAt s i).line) && (Bx.slAt s k).runs))) := rfl
   rw [e, Bool.or_eq_true] at h
   rcases h with h | h
   ·obtain ⟨j, h1, h2⟩ := ih h
    exact ⟨j, by omega, h2⟩
   ·simp only [Bool.and_eq_true, decide_eq_true_eq] at h
    exact ⟨k, by omega, h.1, h.2.1, h.2.2⟩
theorem may_run {s : Bx.St} (h : Bx.MayS s) (j : Nat) (hj : j < s.slots.length) (hr : s.slots[j].runs = true) : Bx.locked s j = false ∧ s.slots[j].frm ≤ s.clock := by
 refine ⟨?_, (h.es _ (List.getElem_mem hj)).r hr⟩
 cases hl : Bx.locked s j with
 | false => rfl
 | true =>
   exfalso
   unfold Bx.locked at hl
   rw [Bool.and_eq_true] at hl
   obtain ⟨ho, hk⟩ := hl
   obtain ⟨k, hk1, hk2, hk3, hk4⟩ := lockK_yes hk
   rw [Bx.slAt_eq hj] at ho hk3
   rw [Bx.slAt_eq hk1] at hk3 hk4
   have ho' : Bx.opt s s.slots[j].line 0 = 120 := by simpa using ho
   have hp := List.pairwise_iff_getElem.1 h.lock
   rcases Nat.lt_or_gt_of_ne hk2 with q | q
   ·exact hp k j hk1 hj q hk3 (by rw [hk3]; exact ho') hk4 hr
   ·exact hp j k hj hk1 q hk3.symm ho' hr hk4
theorem findK_no {l : List Bx.Sl} {n : Int} {k : Nat} (h : Bx.findK l n k < 0) : ∀ j (hj : j < l.length), j < k → l[j].num ≠ n := by
 induction k with
 | zero => intro j _ h; omega
 | succ k ih =>
   intro j hj hk
   rw [Bx.findK] at h
   by_cases hkl : k < l.length
   ·by_cases e : l[k].num = n
    ·simp [hkl, e] at h; omega
    ·simp [hkl, e] at h
     by_cases hjk : j = k
     ·subst hjk; exact e
     ·exact ih h j hj (by omega)
   ·have hjk : j < k := by omega
    refine ih ?_ j hj hjk
    simpa [hkl] using h
theorem find_no {s : Bx.St} {n : Int} : Bx.find s n < 0 ↔ ∀ y ∈ s.slots, y.num ≠ n := by
 constructor
 ·intro h y hy
  obtain ⟨j, hj, rfl⟩ := List.mem_iff_getElem.1 hy
  exact findK_no h j hj hj
 ·intro h
  by_cases hf : Bx.find s n < 0
  ·exact hf
  ·obtain ⟨hi, e⟩ := Bx.find_num hf
   exact absurd e (h _ (List.getElem_mem hi))
theorem amg_how {h : ByteArray} : Txt.AmgP h daks ↔ (h = Bx.hD ∨ h = Bx.hA ∨ h = Bx.hK ∨ h = Bx.hS) := by
 have key : ∀ (h : ByteArray) (v : UInt8), h.size = 1 → h.data.toList[0]? = some v → h = ⟨#[v]⟩ := by
  intro h v hs h0
  refine Bx.ba_ext ?_
  have hl : h.data.toList.length = 1 := by rw [Bx.ba_len]; exact hs
  cases hh : h.data.toList with
  | nil => rw [hh] at hl; cases hl
  | cons a r =>
    rw [hh] at hl h0
    have : r = [] := List.eq_nil_of_length_eq_zero (by simpa using hl)
    subst this
    simp at h0
    rw [h0]
 constructor
 ·rintro ⟨hs, j, hj, e⟩
  have h0 : h.data.toList[0]? = some h[0] := by
   rw [List.getElem?_eq_getElem (by rw [Bx.ba_len]; omega)]; rfl
  rw [e] at h0
  have hj4 : j < 4 := hj
  have := key h _ hs h0
  rcases (by omega : j = 0 ∨ j = 1 ∨ j = 2 ∨ j = 3) with rfl | rfl | rfl | rfl
  ·exact Or.inl this
  ·exact Or.inr (Or.inl this)
  ·exact Or.inr (Or.inr (Or.inl this))
  ·exact Or.inr (Or.inr (Or.inr this))
 ·rintro (rfl | rfl | rfl | rfl)
  ·exact ⟨rfl, 0, by decide, rfl⟩
  ·exact ⟨rfl, 1, by decide, rfl⟩
  ·exact ⟨rfl, 2, by decide, rfl⟩
  ·exact ⟨rfl, 3, by decide, rfl⟩
theorem may_en {s : Bx.St} (h : Bx.MayS s) (j : Nat) (hj : j < s.ends.length) : EnMay s j s.ends[j] := by
 have q := h.ee _ (List.getElem_mem hj)
 refine ⟨amg_how.2 q.h, find_no.2 q.o, q.n.1, q.n.2, fun k hk hkj => ?_⟩
 have hp := List.pairwise_iff_getElem.1 h.dif
 rcases Nat.lt_or_gt_of_ne hkj with e | e
 ·exact hp k j hk hj e
 ·exact fun q => hp j k hj hk e q.symm
theorem rise_all {l : List Bx.Sl} (h : ∀ j (hj : j + 1 < l.length), (l[j]'(by omega)).num < (l[j + 1]).num) : ∀ j k (hk : k < l.length) (hjk : j < k), (l[j]'(by omega)).num < l[k].num := by
 intro j k
 induction k with
 | zero => intro _ h; omega
 | succ k ih =>
   intro hk hjk
   have h1 := h k hk
   by_cases e : j = k
   ·subst e; exact h1
   ·exact Int.lt_trans (ih (by omega) (by omega)) h1
theorem may_all {s : Bx.St} (hT : ChkR s.tab 0 0) (c1 : -1 ≤ s.clock) (c2 : s.clock ≤ 4223371679) (n1 : 1 ≤ s.next) (n2 : s.next ≤ 10000) (sl : s.slots.length ≤ 8) (en : s.ends.length ≤ 6) (hm : ∀ x ∈ s.slots, 0 ≤ x.minute)
 (A : ∀ j (hj : j < s.slots.length), slMB s j s.slots[j] (Bx.slAt s (j - 1)) = true) (B : ∀ j (hj : j < s.slots.length), s.slots[j].runs = true → Bx.locked s j = false ∧ s.slots[j].frm ≤ s.clock) (C : ∀ j (hj : j < s.ends.length), EnMay s j s.ends[j]) : Bx.MayS s := by
 have A' := fun j hj => slMB_iff.1 (A j hj)
 refine ⟨hT, c1, c2, n1, n2, sl, en, ?_, ?_, ?_, ?_, ?_⟩
 ·rw [List.pairwise_iff_getElem]
  intro i j hi hj hij
  refine rise_all (fun k hk => ?_) i j hj hij
  have q := (A' (k + 1) hk).2.2.1 (by omega)
  rw [Bx.slAt_eq (by omega : k + 1 - 1 < s.slots.length)] at q
  exact q
 ·rw [List.pairwise_iff_getElem]
  intro i j hi hj hij e1 e2 e3 e4
  have hlk := (B i hi e3).1
  unfold Bx.locked at hlk
  rw [Bx.slAt_eq hi] at hlk
  have ho' : (Bx.opt s s.slots[i].line 0 == 120) = true := by simpa using e2
  rw [ho', Bool.true_and] at hlk
  exact Bx.lockK_no hlk j hj (by omega) (by rw [Bx.slAt_eq hj, Bx.slAt_eq hi]; exact e1.symm) (by rw [Bx.slAt_eq hj]; exact e4)
 ·rw [List.pairwise_iff_getElem]
  intro i j hi hj hij e
  exact (C i hi).2.2.2.2 j hj (by omega) e.symm
 ·intro x hx
  obtain ⟨j, hj, rfl⟩ := List.mem_iff_getElem.1 hx
  obtain ⟨q1, q2, _, q4, q5, q6, q7, q8, q9, q10⟩ := A' j hj
  exact ⟨⟨q1, q2⟩, ⟨q4, q5⟩, hm _ hx, q6, ⟨q7, q8⟩, q9, q10, fun e => (B j hj e).2⟩
 ·intro x hx
  obtain ⟨j, hj, rfl⟩ := List.mem_iff_getElem.1 hx
  obtain ⟨q1, q2, q3, q4, _⟩ := C j hj
  exact ⟨⟨q3, q4⟩, amg_how.1 q1, find_no.1 q2⟩
end Go.Proofs.YtdajolpoiffimaaGreatDoor

namespace Go.Proofs.YtdajolpoiffimaaGreatDoor
open Go.RowKit

theorem ret_b {a b : Bool} (h : a = b) : Ending.returned (.bool a) = .returned (.bool b) := by rw [h]
set_option maxRecDepth 10000 in
set_option maxHeartbeats 4000000 in
theorem slotMay_any (s : Bx.St) (i : Nat) (hi : i < s.slots.length) (sl en : Value) (lb lc : Nat) (w : World) (hT : ChkR s.tab 0 0) (h8 : s.slots.length ≤ 255) (c1 : -1 ≤ s.clock) (c2 : s.clock ≤ 4223371679) (hL : LinesAt w lb s.tab) (hS : StAt w s sl en) :
 Calls Tryz.prog 182 #[stV s sl en, .int .i64 i, .slice (some ⟨lb, 0, none⟩) (tn s.tab) lc] w fun e w' => e = .returned (.bool (slMB s i s.slots[i] (Bx.slAt s (i - 1)))) ∧ Below w.heap.size w w' := by
 obtain ⟨ad, cap, rfl, hcap⟩ := hS.sl.form
 obtain ⟨ad2, cap2, rfl, hcap2⟩ := hS.en.form
 have hb0 := below_alloc w (stO s (.slice ad s.slots.length cap) (.slice ad2 s.ends.length cap2))
 have hI := StIn.new w s (.slice ad s.slots.length cap) (.slice ad2 s.ends.length cap2)
 have HT : Hid (ChkR s.tab 0 0) := hT
 have HPv : Hid (0 < i → ∃ h : i - 1 < s.slots.length, Bx.slAt s (i - 1) = s.slots[i - 1]) := fun h => ⟨by omega, Bx.slAt_eq (by omega)⟩
 obtain ⟨eb, off, cap', hv, _, hc⟩ := (hS.sl.1.later hb0).some' (by omega)
 cases hv
 obtain ⟨d0, d1, d2, d3, d4, d5⟩ := slot_cells hc i hi
 have HPc : Hid (0 < i → (w.alloc (stO s (.slice (some ⟨eb, off, none⟩) s.slots.length cap) (.slice ad2 s.ends.length cap2))).cell? ⟨eb, off + (i - 1) * 6, none⟩ = some (.int .i64 (Bx.slAt s (i - 1)).num)) := fun h => by
  obtain ⟨h1, h2⟩ := HPv.out h
  rw [h2]; exact (slot_cells hc (i - 1) h1).1
 have HL : Hid (LinesAt (w.alloc (stO s (.slice (some ⟨eb, off, none⟩) s.slots.length cap) (.slice ad2 s.ends.length cap2))) lb s.tab) := hL.later hb0
 generalize s.slots[i] = x at *
 generalize Bx.slAt s (i - 1) = pv at *
 have b1 : (0 : Int) ≤ (i : Int) := by omega
 have b2 : (i : Int) < (s.slots.length : Int) := by omega
 clear hc hS hL hT HPv
 go_enter Tryz.func182, Tryz.ntmps182
 go_upto_region 1 with fail
 have hI' : StIn (w.alloc (stO s (.slice (some ⟨eb, off, none⟩) s.slots.length cap) (.slice ad2 s.ends.length cap2))) w.heap.size s (.slice (some ⟨eb, off, none⟩) s.slots.length cap) (.slice ad2 s.ends.length cap2) := hI
 clear hI
 generalize w.alloc (stO s (.slice (some ⟨eb, off, none⟩) s.slots.length cap) (.slice ad2 s.ends.length cap2)) = W at *
 have c3 := hI'.c3
 have hq : w.heap.size < W.heap.size := World.block_lt_of_cell? _ _ c3
 have hb2 := below_alloc W (.cells #[.int .i64 x.num, .int .i64 x.line, .int .i64 x.minute, .int .i64 x.att, .int .i64 x.frm, .bool x.runs] 167)
 have hX := Cl.new W [.int .i64 x.num, .int .i64 x.line, .int .i64 x.minute, .int .i64 x.att, .int .i64 x.frm, .bool x.runs] 167
 go_upto_region 2 with fail
 have hX' : Cl (W.alloc (.cells #[.int .i64 x.num, .int .i64 x.line, .int .i64 x.minute, .int .i64 x.att, .int .i64 x.frm, .bool x.runs] 167)) W.heap.size 167 [.int .i64 x.num, .int .i64 x.line, .int .i64 x.minute, .int .i64 x.att, .int .i64 x.frm, .bool x.runs] := hX
 clear hX d0 d1 d2 d3 d4 d5
 have HB : Hid (Below w.heap.size w (W.alloc (.cells #[.int .i64 x.num, .int .i64 x.line, .int .i64 x.minute, .int .i64 x.att, .int .i64 x.frm, .bool x.runs] 167))) := hb0.trans (hb2.mono hb0.size)
 have hI2 := hI'.later hb2
 have HL2 : Hid (LinesAt (W.alloc (.cells #[.int .i64 x.num, .int .i64 x.line, .int .i64 x.minute, .int .i64 x.att, .int .i64 x.frm, .bool x.runs] 167)) lb s.tab) := HL.out.later hb2
 have HPc2 : Hid (0 < i → (W.alloc (.cells #[.int .i64 x.num, .int .i64 x.line, .int .i64 x.minute, .int .i64 x.att, .int .i64 x.frm, .bool x.runs] 167)).cell? ⟨eb, off + (i - 1) * 6, none⟩ = some (.int .i64 pv.num)) := fun h => cell_later hb2 (HPc.out h)
 clear hb2 hb0 hI' HL HPc c3 hq
 generalize W.alloc (.cells #[.int .i64 x.num, .int .i64 x.line, .int .i64 x.minute, .int .i64 x.att, .int .i64 x.frm, .bool x.runs] 167) = W2 at *
 generalize W.heap.size = xq at *
 obtain ⟨g0, g1, g2, g3, g4⟩ := hI2
 have hq2 : w.heap.size < W2.heap.size := World.block_lt_of_cell? _ _ g3
 have e0 := hX'.c 0 _ rfl; have e1 := hX'.c 1 _ rfl; have e2 := hX'.c 2 _ rfl; have e3 := hX'.c 3 _ rfl; have e4 := hX'.c 4 _ rfl
 have hxl := hX'.ty.lt
 clear hX'
 by_cases k1 : x.num < 1
 ·have k1d : decide (x.num < 1) = true := decide_eq_true k1
  have HM : Hid (slMB s i x pv = false) := by unfold Hid slMB; simp [k1]
  go_wp2_with fail
  go_quiet (fail)
  go_wp2_with fail
  go_ret
  exact ⟨ret_b HM.out.symm, below_drewN HB.out _⟩
 ·have k1d : decide (x.num < 1) = false := decide_eq_false k1
  by_cases k2 : s.next ≤ x.num
  ·have k2d : decide (s.next ≤ x.num) = true := decide_eq_true k2
   have HM : Hid (slMB s i x pv = false) := by unfold Hid slMB; simp [k2]
   go_wp2_with fail
   go_quiet (fail)
   go_wp2_with fail
   go_ret
   exact ⟨ret_b HM.out.symm, below_drewN HB.out _⟩
  ·have k2d : decide (s.next ≤ x.num) = false := decide_eq_false k2
   by_cases k3 : 0 < i
   case' pos =>
    have k3d : decide (0 < i) = true := decide_eq_true k3
    have pc := HPc2.out k3
    obtain ⟨im, him⟩ : ∃ im : Nat, i = im + 1 := ⟨i - 1, by omega⟩
    have wr1 : IntKind.i64.wrap ((i : Int) - 1) = (im : Int) := by rw [IntKind.wrap_i64]; omega
    have him2 : i - 1 = im := by omega
    rw [him2] at pc
    have p1 : (0 : Int) ≤ (im : Int) := by omega
    have p2 : (im : Int) < (s.slots.length : Int) := by omega
    have hebl : eb < W2.heap.size := World.block_lt_of_cell? _ _ pc
    clear him him2
    by_cases k3b : x.num ≤ pv.num
    ·have k3bd : decide (x.num ≤ pv.num) = true := decide_eq_true k3b
     have HM : Hid (slMB s i x pv = false) := by unfold Hid slMB; simp [k3, k3b]
     go_wp2_with fail
     go_quiet (fail)
     go_wp2_with fail
     go_ret
     exact ⟨ret_b HM.out.symm, below_drewN HB.out _⟩
    have k3bd : decide (x.num ≤ pv.num) = false := decide_eq_false k3b
   case' neg =>
    have k3d : decide (0 < i) = false := decide_eq_false k3
   all_goals
    by_cases k4 : x.line < 1
    ·have k4d : decide (x.line < 1) = true := decide_eq_true k4
     have HM : Hid (slMB s i x pv = false) := by unfold Hid slMB; simp [k4]
     go_wp2_with fail
     go_quiet (fail)
     go_wp2_with fail
     go_ret
     exact ⟨ret_b HM.out.symm, below_drewN HB.out _⟩
    ·have k4d : decide (x.line < 1) = false := decide_eq_false k4
     by_cases k5 : (tn s.tab : Int) < x.line
     ·have k5d : decide ((tn s.tab : Int) < x.line) = true := decide_eq_true k5
      have HM : Hid (slMB s i x pv = false) := by unfold Hid slMB; simp [k5]
      go_wp2_with fail
      go_quiet (fail)
      go_wp2_with fail
      go_ret
      exact ⟨ret_b HM.out.symm, below_drewN HB.out _⟩
     ·have k5d : decide ((tn s.tab : Int) < x.line) = false := decide_eq_false k5
      by_cases k6 : s.clock < x.minute
      ·have k6d : decide (s.clock < x.minute) = true := decide_eq_true k6
       have HM : Hid (slMB s i x pv = false) := by unfold Hid slMB; simp [k6]
       go_wp2_with fail
       go_quiet (fail)
       go_wp2_with fail
       go_ret
       exact ⟨ret_b HM.out.symm, below_drewN HB.out _⟩
      ·have k6d : decide (s.clock < x.minute) = false := decide_eq_false k6
       obtain ⟨j, hj⟩ : ∃ j : Nat, x.line = (j : Int) + 1 := ⟨(x.line - 1).toNat, by omega⟩
       have hjt : j < tn s.tab := by omega
       obtain ⟨h300, _, hlines⟩ := HT.out.lines
       have htn := tn_le' HT.out
       have hLP : Hid (LineP (tl s.tab j)) := hlines _ hjt
       have hLs : (tl s.tab j).size ≤ 300 := tl_sz h300 _ (by have := tn_lt s.tab; omega)
       clear h300 hlines
       have wr2 : IntKind.i64.wrap (x.line - 1) = (j : Int) := by rw [IntKind.wrap_i64]; omega
       clear htn
       have p3 : (0 : Int) ≤ (j : Int) := by omega
       have p4 : (j : Int) < (tn s.tab : Int) := by omega
       have HOp : Hid (Bx.opt s x.line 2 - 48 = ob (tl s.tab j) 2 - 48) := by unfold Hid Bx.opt; rw [show (x.line - 1).toNat = j by omega]
       clear hj
       go_wp2_with fail
       go_quiet (fail)
       have hbq : Below W2.heap.size W2 (W2.drewN nq) := below_drewN (Below.refl _ _) nq
       have HB4 : Hid (Below w.heap.size w (W2.drewN nq)) := HB.out.trans (hbq.mono HB.out.size)
       have f1 := cell_later hbq e1; have f2 := cell_later hbq e2; have f3 := cell_later hbq e3; have f4 := cell_later hbq e4; have f5 := cell_later hbq g1
       have cl := cell_later hbq (HL2.out j hjt)
       have hx4 : xq < (W2.drewN nq).heap.size := Nat.lt_of_lt_of_le hxl hbq.size
       have hq4 : w.heap.size < (W2.drewN nq).heap.size := Nat.lt_of_lt_of_le hq2 hbq.size
       clear e0 e1 e2 e3 e4 g0 g1 g2 g3 g4 hbq hxl hq2 HL2 HPc2 HB
       generalize W2.drewN nq = W4 at *
       go_wp2_with fail
       refine (options_any (tl s.tab j) _ hLs hLP.out).mono ?_
       rintro e w5 ⟨rfl, hb5⟩
       have HB5 : Hid (Below w.heap.size w w5) := HB4.out.trans (hb5.mono HB4.out.size)
       have e1 := cell_later hb5 f1; have e2 := cell_later hb5 f2; have e3 := cell_later hb5 f3; have e4 := cell_later hb5 f4; have g1 := cell_later hb5 f5
       have hx5 : xq < w5.heap.size := Nat.lt_of_lt_of_le hx4 hb5.size
       have hq5 : w.heap.size < w5.heap.size := Nat.lt_of_lt_of_le hq4 hb5.size
       have HM0 : Hid (slMB s i x pv = (!decide (x.att < 1) && !decide (ob (tl s.tab j) 2 - 48 < x.att) && (if x.att = 1 then decide (x.frm = x.minute) else decide (x.minute < x.frm) && decide (x.frm ≤ s.clock + 10)))) := by
        unfold Hid slMB; rw [HOp.out]; first | simp only [k1d, k2d, k4d, k5d, k6d, k3d, k3bd, Bool.not_false, Bool.true_and, Bool.and_true, Bool.and_false] | simp only [k1d, k2d, k4d, k5d, k6d, k3d, Bool.not_false, Bool.true_and, Bool.and_true, Bool.false_and]
       clear f1 f2 f3 f4 f5 cl hb5 hx4 hq4 HB4 HOp hjt hLs wr2
       generalize ob (tl s.tab j) 2 - 48 = mo at *
       by_cases k7 : x.att < 1
       ·have HM : Hid (slMB s i x pv = false) := by unfold Hid; rw [HM0.out]; simp [k7]
        go_wp2_with fail
        go_ret
        exact ⟨ret_b HM.out.symm, HB5.out⟩
       ·by_cases k8 : mo < x.att
        ·have HM : Hid (slMB s i x pv = false) := by unfold Hid; rw [HM0.out]; simp [k8]
         go_wp2_with fail
         go_ret
         exact ⟨ret_b HM.out.symm, HB5.out⟩
        ·by_cases k9 : x.att = 1
         ·by_cases k10 : x.frm = x.minute
          ·have HM : Hid (slMB s i x pv = true) := by unfold Hid; rw [HM0.out, if_pos k9]; simp [k7, k8, k10]
           rw [k9] at e3 k7 k8
           rw [← k10] at e2
           clear k9 k10 HM0
           go_wp2_with fail
           go_ret
           exact ⟨ret_b HM.out.symm, HB5.out⟩
          ·have HM : Hid (slMB s i x pv = false) := by unfold Hid; rw [HM0.out, if_pos k9]; simp [k10]
           rw [k9] at e3 k7 k8
           have k10d : (x.frm == x.minute) = false := by rw [beq_eq_false_iff_ne]; exact k10
           clear k9 HM0
           go_wp2_with fail
           go_ret
           exact ⟨ret_b HM.out.symm, HB5.out⟩
         ·have k9d : (x.att == 1) = false := by rw [beq_eq_false_iff_ne]; exact k9
          have wr3 : IntKind.i64.wrap (s.clock + 10) = s.clock + 10 := by rw [IntKind.wrap_i64]; omega
          by_cases k11 : x.minute < x.frm
          ·by_cases k12 : x.frm ≤ s.clock + 10
           ·have HM : Hid (slMB s i x pv = true) := by unfold Hid; rw [HM0.out, if_neg k9]; simp [k7, k8, k11, k12]
            clear HM0
            go_wp2_with fail
            go_ret
            exact ⟨ret_b HM.out.symm, HB5.out⟩
           ·have HM : Hid (slMB s i x pv = false) := by unfold Hid; rw [HM0.out, if_neg k9]; simp [k12]
            have k12d : decide (x.frm ≤ s.clock + 10) = false := decide_eq_false k12
            clear HM0
            go_wp2_with fail
            go_ret
            exact ⟨ret_b HM.out.symm, HB5.out⟩
          ·have HM : Hid (slMB s i x pv = false) := by unfold Hid; rw [HM0.out, if_neg k9]; simp [k11]
           clear HM0
           go_wp2_with fail
           go_ret
           exact ⟨ret_b HM.out.symm, HB5.out⟩
end Go.Proofs.YtdajolpoiffimaaGreatDoor

namespace Go.Proofs.YtdajolpoiffimaaGreatDoor
open Go.RowKit

theorem among_b (s t : ByteArray) (w : World) (hs : s.size ≤ 300) (ht : t.size ≤ 10) :
 Calls Tryz.prog 167 #[.string s, .string t] w fun e w' => e = .returned (.bool (Txt.amgB s t)) ∧ Below w.heap.size w w' :=
 (among_any s t w hs ht).mono fun _ _ h => ⟨h.1, by obtain ⟨n, e⟩ := h.2; rw [e]; exact below_drewN (Below.refl _ _) n⟩
set_option maxRecDepth 10000 in
set_option maxHeartbeats 4000000 in
theorem endMay_any (s : Bx.St) (i : Nat) (hi : i < s.ends.length) (sl en : Value) (w : World) (h8 : s.slots.length ≤ 255) (h6 : s.ends.length ≤ 255) (hh : s.ends[i].how.size = 1) (hS : StAt w s sl en) :
 Calls Tryz.prog 183 #[stV s sl en, .int .i64 i] w fun e w' => e = .returned (.bool (enMB s i s.ends[i])) ∧ Below w.heap.size w w' := by
 obtain ⟨ad, cap, rfl, hcap⟩ := hS.sl.form
 obtain ⟨ad2, cap2, rfl, hcap2⟩ := hS.en.form
 have hb0 := below_alloc w (stO s (.slice ad s.slots.length cap) (.slice ad2 s.ends.length cap2))
 have hI := StIn.new w s (.slice ad s.slots.length cap) (.slice ad2 s.ends.length cap2)
 have HS0 : Hid (StAt w s (.slice ad s.slots.length cap) (.slice ad2 s.ends.length cap2)) := hS
 obtain ⟨eb, off, cap', hv, _, hc⟩ := (hS.en.1.later hb0).some' (by omega)
 cases hv
 obtain ⟨d0, d1⟩ := end_cells hc i hi
 have HC0 : Hid (∀ k (hk : k < s.ends.length), (w.alloc (stO s (.slice ad s.slots.length cap) (.slice (some ⟨eb, off, none⟩) s.ends.length cap2))).cell? ⟨eb, off + k * 2, none⟩ = some (.int .i64 s.ends[k].num)) := fun k hk => (end_cells hc k hk).1
 have HS : Hid (StAt (w.alloc (stO s (.slice ad s.slots.length cap) (.slice (some ⟨eb, off, none⟩) s.ends.length cap2))) s (.slice ad s.slots.length cap) (.slice (some ⟨eb, off, none⟩) s.ends.length cap2)) := HS0.out.later hb0
 have HX : Hid (∀ x, x = s.ends[i] → enMB s i s.ends[i] = enMB s i x) := fun x e => by rw [e]
 have HM0 : Hid (EnMay s i s.ends[i] ↔ EnMay s i s.ends[i]) := Iff.rfl
 generalize s.ends[i] = x at *
 have b1 : (0 : Int) ≤ (i : Int) := by omega
 have b2 : (i : Int) < (s.ends.length : Int) := by omega
 clear hc hS HS0 HX HM0
 go_enter Tryz.func183, Tryz.ntmps183
 go_upto_region 1 with fail
 have hI' : StIn (w.alloc (stO s (.slice ad s.slots.length cap) (.slice (some ⟨eb, off, none⟩) s.ends.length cap2))) w.heap.size s (.slice ad s.slots.length cap) (.slice (some ⟨eb, off, none⟩) s.ends.length cap2) := hI
 clear hI
 generalize w.alloc (stO s (.slice ad s.slots.length cap) (.slice (some ⟨eb, off, none⟩) s.ends.length cap2)) = W at *
 have c4 := hI'.c4
 have hq : w.heap.size < W.heap.size := World.block_lt_of_cell? _ _ c4
 have hb2 := below_alloc W (.cells #[.int .i64 x.num, .string x.how] 95)
 have hX := Cl.new W [.int .i64 x.num, .string x.how] 95
 go_upto_region 2 with fail
 have hX' : Cl (W.alloc (.cells #[.int .i64 x.num, .string x.how] 95)) W.heap.size 95 [.int .i64 x.num, .string x.how] := hX
 clear hX d0 d1
 have HB : Hid (Below w.heap.size w (W.alloc (.cells #[.int .i64 x.num, .string x.how] 95))) := hb0.trans (hb2.mono hb0.size)
 have hI2 := hI'.later hb2
 have HS2 : Hid (StAt (W.alloc (.cells #[.int .i64 x.num, .string x.how] 95)) s (.slice ad s.slots.length cap) (.slice (some ⟨eb, off, none⟩) s.ends.length cap2)) := HS.out.later hb2
 have HC2 : Hid (∀ k (hk : k < s.ends.length), (W.alloc (.cells #[.int .i64 x.num, .string x.how] 95)).cell? ⟨eb, off + k * 2, none⟩ = some (.int .i64 s.ends[k].num)) := fun k hk => cell_later hb2 (HC0.out k hk)
 clear hb2 hb0 hI' HS HC0 c4 hq
 generalize W.alloc (.cells #[.int .i64 x.num, .string x.how] 95) = W2 at *
 generalize W.heap.size = xq at *
 have e0 := hX'.c 0 _ rfl
 have e1 := hX'.c 1 _ rfl
 have hxl := hX'.ty.lt
 clear hX'
 go_wp2_with fail
 refine (among_b x.how { data := #[100, 97, 107, 115] } _ (by omega) (by decide)).mono ?_
 rintro e w3 ⟨rfl, hb3⟩
 have HB3 : Hid (Below w.heap.size w w3) := HB.out.trans (hb3.mono HB.out.size)
 have f0 := cell_later hb3 e0
 have hI3 := hI2.later hb3
 have HS3 : Hid (StAt w3 s (.slice ad s.slots.length cap) (.slice (some ⟨eb, off, none⟩) s.ends.length cap2)) := HS2.out.later hb3
 have HC3 : Hid (∀ k (hk : k < s.ends.length), w3.cell? ⟨eb, off + k * 2, none⟩ = some (.int .i64 s.ends[k].num)) := fun k hk => cell_later hb3 (HC2.out k hk)
 obtain ⟨g0, g1, g2, g3, g4⟩ := hI3
 clear e0 e1 hI2 hb3 HB HS2 HC2 hxl
 have HA : Hid (∀ b, Txt.amgB x.how { data := #[100, 97, 107, 115] } = b → (Txt.AmgP x.how daks ↔ b = true)) := by
  intro b hb
  constructor
  ·intro h; rw [← hb]; exact Txt.amgB_yes h
  ·intro h; rw [h] at hb; by_cases q : Txt.AmgP x.how daks
   ·exact q
   ·have := Txt.amgB_no q; unfold daks at this; rw [hb] at this; cases this
 cases ha : Txt.amgB x.how { data := #[100, 97, 107, 115] }
 ·have HM : Hid (enMB s i x = false) := enMB_no fun h => by have := (HA.out _ ha).1 h.1; cases this
  clear HA ha
  go_wp2_with fail
  refine (find_any s x.num _ _ _ (by omega) HS3.out).mono ?_
  rintro e w4 ⟨rfl, hb4⟩
  have HB4 : Hid (Below w.heap.size w w4) := HB3.out.trans (hb4.mono HB3.out.size)
  clear hb4
  go_wp2_with fail
  go_ret
  exact ⟨ret_b HM.out.symm, HB4.out⟩
 ·have HA1 : Hid (Txt.AmgP x.how daks) := (HA.out _ ha).2 rfl
  clear HA ha
  go_wp2_with fail
  refine (find_any s x.num _ _ _ (by omega) HS3.out).mono ?_
  rintro e w4 ⟨rfl, hb4⟩
  have HB4 : Hid (Below w.heap.size w w4) := HB3.out.trans (hb4.mono HB3.out.size)
  have e0 := cell_later hb4 f0
  have k2 := cell_later hb4 g2
  have k4 := cell_later hb4 g4
  have HC4 : Hid (∀ k (hk : k < s.ends.length), w4.cell? ⟨eb, off + k * 2, none⟩ = some (.int .i64 s.ends[k].num)) := fun k hk => cell_later hb4 (HC3.out k hk)
  clear f0 g0 g1 g2 g3 g4 hb4 HB3 HS3 HC3
  have HFd : Hid (∀ z, Bx.find s x.num = z → (EnMay s i x ↔ (z < 0 ∧ 1 ≤ x.num ∧ x.num < s.next ∧ ∀ j (hj : j < s.ends.length), j ≠ i → s.ends[j].num ≠ x.num))) := by
   intro z hz
   subst hz
   exact ⟨fun h => h.2, fun h => ⟨HA1.out, h⟩⟩
  obtain ⟨z, hz⟩ : ∃ z, Bx.find s x.num = z := ⟨_, rfl⟩
  have HF := HFd.out z hz
  have HF2 : Hid (EnMay s i x ↔ (z < 0 ∧ 1 ≤ x.num ∧ x.num < s.next ∧ ∀ j (hj : j < s.ends.length), j ≠ i → s.ends[j].num ≠ x.num)) := HF
  clear HF HFd HA1
  rw [hz]
  clear hz
  by_cases q1 : 0 ≤ z
  ·have HM : Hid (enMB s i x = false) := enMB_no fun h => by have := (HF2.out.1 h).1; omega
   clear HF2
   go_wp2_with fail
   go_ret
   exact ⟨ret_b HM.out.symm, HB4.out⟩
  ·by_cases q2 : x.num < 1
   ·have HM : Hid (enMB s i x = false) := enMB_no fun h => by have := (HF2.out.1 h).2.1; omega
    clear HF2
    go_wp2_with fail
    go_ret
    exact ⟨ret_b HM.out.symm, HB4.out⟩
   ·by_cases q3 : s.next ≤ x.num
    ·have HM : Hid (enMB s i x = false) := enMB_no fun h => by have := (HF2.out.1 h).2.2.1; omega
     clear HF2
     go_wp2_with fail
     go_ret
     exact ⟨ret_b HM.out.symm, HB4.out⟩
    ·have HF3 : Hid (EnMay s i x ↔ ∀ j (hj : j < s.ends.length), j ≠ i → s.ends[j].num ≠ x.num) := ⟨fun h => (HF2.out.1 h).2.2.2, fun h => HF2.out.2 ⟨by omega, by omega, by omega, h⟩⟩
     clear HF2
     go_wp2_with fail
     go_loopw [8] (fun iv wr => ∃ k n : Nat, k ≤ s.ends.length ∧ iv = .int .i64 k ∧ wr = w4.drewN n ∧ ∀ j (hj : j < s.ends.length), j < k → j ≠ i → s.ends[j].num ≠ x.num) (fun iv _ => s.ends.length - (intOf iv).toNat)
     case atStart => exact ⟨0, 0, Nat.zero_le _, rfl, rfl, fun j _ h => by omega⟩
     case round =>
      obtain ⟨k, n, hk, rfl, rfl, hno⟩ := hrel
      have Hno : Hid (∀ j (hj : j < s.ends.length), j < k → j ≠ i → s.ends[j].num ≠ x.num) := hno
      clear hno
      by_cases hlt : k < s.ends.length
      ·have y2 : (k : Int) < (s.ends.length : Int) := by omega
       have y1 : (0 : Int) ≤ (k : Int) := by omega
       have ck := HC4.out k hlt
       by_cases e1 : k = i
       ·have HN : Hid (∀ j (hj : j < s.ends.length), j < k + 1 → j ≠ i → s.ends[j].num ≠ x.num) := fun j hj h1 h2 => Hno.out j hj (by omega) h2
        have z1 : ((k : Int) != (i : Int)) = false := by simp [e1]
        clear ck e1
        go_wp2_with fail
        go_quiet (fail)
        go_wp2_with fail
        go_roundw
        case rel => exact ⟨k + 1, _, by omega, by go_num, rfl, HN.out⟩
        case measure => simp [intOf]; omega
       ·have z1 : ((k : Int) != (i : Int)) = true := by simp; omega
        have HY : Hid (s.ends[k].num = x.num → enMB s i x = false) := fun h => enMB_no fun h2 => HF3.out.1 h2 k hlt e1 h
        have HN0 : Hid (¬ s.ends[k].num = x.num → ∀ j (hj : j < s.ends.length), j < k + 1 → j ≠ i → s.ends[j].num ≠ x.num) := fun h j hj h1 h2 => by
         by_cases q : j = k
         ·subst q; exact h
         ·exact Hno.out j hj (by omega) h2
        generalize s.ends[k].num = kn at *
        cases e2 : (kn == x.num)
        ·have HN : Hid (∀ j (hj : j < s.ends.length), j < k + 1 → j ≠ i → s.ends[j].num ≠ x.num) := HN0.out (by simpa using e2)
         clear HN0 HY e1
         go_wp2_with fail
         go_quiet (fail)
         go_wp2_with fail
         go_roundw
         case rel => exact ⟨k + 1, _, by omega, by go_num, rfl, HN.out⟩
         case measure => simp [intOf]; omega
        ·have HM : Hid (enMB s i x = false) := HY.out (by simpa using e2)
         clear HN0 HY e1
         go_wp2_with fail
         go_quiet (fail)
         go_wp2_with fail
         go_ret
         exact ⟨ret_b HM.out.symm, below_drewN (below_drewN HB4.out _) _⟩
      ·obtain rfl : k = s.ends.length := by omega
       have HM : Hid (enMB s i x = true) := enMB_yes (HF3.out.2 fun j hj h => Hno.out j hj hj h)
       go_wp2_with fail
       go_ret
       exact ⟨ret_b HM.out.symm, below_drewN HB4.out _⟩
end Go.Proofs.YtdajolpoiffimaaGreatDoor
