import Derived.Test.YtdajolpoiffimabGreatDoorA11

namespace Go.Proofs.YtdajolpoiffimabGreatDoor
open Go.RowKit
theorem gF {w:World} {G g d n i size:Nat} {e:TypeId} {I:List Value} (h:w.ownsRow G e size (.slice (some ⟨g,0,none⟩) n d) n I) (u:Value):(w.setCell ⟨g,i,none⟩ u).ownsRow G e size (.slice (some ⟨g,0,none⟩) n d) n (I.set i u):=by
 have Y:=h.1
 rcases h.2 with ⟨h2,_⟩|⟨g',O,cur,Z,hb,J,U,hm,V,Q⟩
 ·cases h2
 ·cases Z
  refine⟨by simpa using Y,Or.inr ⟨g,d,cur.setIfInBounds i u,rfl,hb,heap_setCell_same _ _ _ _ _ _ J,U,hm,by simpa using V,?_⟩⟩
  rw[←Q,Array.toList_setIfInBounds,List.take_set]
theorem qA (l:List Bx.Tk) (k:Nat) (t:Bx.Tk) (h:k<l.length):(l.set k t).flatMap tkC=((((l.flatMap tkC).set (k*4) (.int .i64 t.num)).set (k*4+1) (.int .i64 t.at')).set (k*4+2) (.int .i64 t.since)).set (k*4+3) (.string t.heard):=by
 induction l generalizing k with
 | nil=>simp at h
 | cons x r d=>
   cases k with
   | zero=>simp[tkC]
   | succ k=>
     have:=d k (by simpa using h)
     rw[List.set_cons_succ,List.flatMap_cons,this,List.flatMap_cons];rw[show (k+1)*4=k*4+1+1+1+1 by omega,show k*4+1+1+1+1+1=(k*4+1)+1+1+1+1 by omega,show k*4+1+1+1+1+2=(k*4+2)+1+1+1+1 by omega,show k*4+1+1+1+1+3=(k*4+3)+1+1+1+1 by omega]
     simp[tkC,List.set_cons_succ]
theorem BoxIn.tset {W:World} {B g d k:Nat} {b:Bx.Bo} {sl en:Value} (h:BoxIn W B b sl en (.slice (some ⟨g,0,none⟩) b.talks.length d)) (V:k<b.talks.length) (t:Bx.Tk):
 BoxIn ((((W.setCell ⟨g,k*4,none⟩ (.int .i64 t.num)).setCell ⟨g,k*4+1,none⟩ (.int .i64 t.at')).setCell ⟨g,k*4+2,none⟩ (.int .i64 t.since)).setCell ⟨g,k*4+3,none⟩ (.string t.heard)) B {b with talks:=b.talks.set k t} sl en (.slice (some ⟨g,0,none⟩) b.talks.length d):=by
 have Z:B≠g:=by
  have:=(h.tk.lt g rfl).1;omega
 have e:Typed W g 220:=by
  rcases h.tk.2 with ⟨h2,_⟩|⟨g',O,cur,Y,_,Q,_⟩
  ·cases h2
  ·cases Y;exact⟨_,_,Q⟩
 have w:=e.setCell g (k*4) (.int .i64 t.num);have I:=w.setCell g (k*4+1) (.int .i64 t.at');have J:=I.setCell g (k*4+2) (.int .i64 t.since);obtain⟨c0,c1,c2,c3,c4,c5,c6,c7,c8,f,ty,rows,G⟩:=h;refine⟨?_,?_,?_,?_,?_,?_,?_,?_,?_,fun j U=>?_,(((ty.setCell _ _ _).setCell _ _ _).setCell _ _ _).setCell _ _ _,(((rows.set e (by decide) (by decide) _ _).set w (by decide) (by decide) _ _).set I (by decide) (by decide) _ _).set J (by decide) (by decide) _ _,?_⟩
 case refine_10=>simp[go_sem,f j U]
 case refine_11=>
  show World.ownsRow _ (B+1) 220 4 _ (b.talks.set k t).length ((b.talks.set k t).flatMap tkC)
  rw[List.length_set,qA b.talks k t V];exact gF (gF (gF (gF G _) _) _) _
 all_goals simp[go_sem,c0,c1,c2,c3,c4,c5,c6,c7,c8]
theorem fE {W:World} {d g n w size:Nat} {e:TypeId} {I:List Value} (h:W.ownsRow d e size (.slice (some ⟨g,0,none⟩) n w) n I) (j:Nat):W.frozen? ⟨g,j,none⟩=false:=by
 rcases h.2 with ⟨h2,_⟩|⟨Q,G,cur,O,_,J,_⟩
 ·cases h2
 ·cases O;unfold World.frozen?;rw[J];simp
set_option maxRecDepth 10000 in
set_option maxHeartbeats 3000000 in
theorem pj (b:Bx.Bo) (B:Nat) (n:Int) (x:ByteArray) (sl en tk:Value) (w:World) (hO:BoOk b) (hx:x.size≤maxLen) (hH:∀t∈b.talks,t.heard.size≤100000000000000000) (hA:¬talkOf b.talks n<0→(tkAt b (talkOf b.talks n).toNat).at'≤(startL b n).length) (hB:BoxIn w B b sl en tk):
 Calls Tryz.prog 113 #[.pointer (some ⟨B,0,none⟩),.int .i64 n,.string x] w fun e w'=>(∃bn bI a3,e=.returned (.tuple #[.string (feedP b n x).2.1,.int .i64 (feedP b n x).2.2])∧BoxIn w' B (feedP b n x).1 bn bI a3∧NewTk w tk a3)∧TwoBy w w' B tk.ownBlock:=by
 unfold maxLen at hx;obtain⟨ad,ab,rfl,bT⟩:=hB.rows.sl.form;obtain⟨Z,O,rfl,bO⟩:=hB.rows.en.form;obtain⟨bE,az,rfl,bQ⟩:=hB.tkr.form;have HB:=Hq hB;have HO:=Hq hO;have HH:=Hq hH;have b4:=hO.st.sl;have bP:=hO.tks
 have U:Hid (feedP b n x=if 40<x.size then (b,ByteArray.empty,1)
  else if Bx.find b.now n<0 then (b,ByteArray.empty,8)
  else if talkOf b.talks n<0 then (b,ByteArray.empty,9)
  else if ((startL b n).length:Int)≤(feedH b n x).1.at' then
   (if b.room<(b.text.size:Int)+(Bx.frames [chD n]).size then (b,ByteArray.empty,13) else ({addB b [chD n] with talks:=hushL (Bx.told b.now [chD n]) b.talks},(feedH b n x).2,0))
  else ({b with talks:=b.talks.set (talkOf b.talks n).toNat (feedH b n x).1},(feedH b n x).2,0)):=rfl
 have HA:=Hq hA;clear hB hO hH hA
 by_cases aS:40<x.size
 ·have I:Hid (feedP b n x=(b,ByteArray.empty,1)):=by unfold Hid;rw[U.out,if_pos aS]
  have z0:(40:Int)<(x.size:Int):=by omega
  go_enter Tryz.func113,Tryz.ntmps113
  go_wp2_with fail;go_ret2;rw[I.out];exact⟨⟨rfl,_,_,_,HB.out,Or.inl rfl⟩,TwoBy.of_grow (eD _ _) _⟩
 rw[if_neg aS] at U;have z0:¬(40:Int)<(x.size:Int):=by omega
 go_enter Tryz.func113,Tryz.ntmps113
 go_wp2_with fail;refine (dW b B _ _ _ _ HB.out).mono ?_;rintro e w2 ⟨rfl,al⟩;have aJ:=cw w2 (stO b.now (.slice ad b.now.slots.length ab) (.slice Z b.now.ends.length O));have aH:Hid (BoxIn (w2.alloc (stO b.now (.slice ad b.now.slots.length ab) (.slice Z b.now.ends.length O))) B b (.slice ad b.now.slots.length ab) (.slice Z b.now.ends.length O) (.slice bE b.talks.length az)):=(HB.out.later al).later aJ;have au:=Hq (al.trans (aJ.mono al.size));have HI:Hid (StIn (w2.alloc (stO b.now (.slice ad b.now.slots.length ab) (.slice Z b.now.ends.length O))) w2.heap.size b.now (.slice ad b.now.slots.length ab) (.slice Z b.now.ends.length O)):=StIn.new w2 b.now _ _;go_upto_region 4 with fail;generalize w2.alloc (stO b.now (.slice ad b.now.slots.length ab) (.slice Z b.now.ends.length O))=W at *;generalize w2.heap.size=sq at *;clear al aJ HB;obtain⟨d0,d1,d2,d3,d4⟩:=HI.out;go_wp2_with fail;refine (eW b.now n _ _ _ (by omega) aH.out.rows).mono ?_
 rintro e w4 ⟨rfl,ak⟩;have ac:=Hq (aH.out.later ak);have aq:=Hq (HI.out.later ak);have ag:=Hq (au.out.trans (ak.mono au.out.size));clear d0 d1 d2 d3 d4 aH HI au ak
 by_cases Y:Bx.find b.now n<0
 ·have I:Hid (feedP b n x=(b,ByteArray.empty,8)):=by unfold Hid;rw[U.out,if_pos Y]
  go_wp2_with fail;go_ret2;rw[I.out];exact⟨⟨_,_,_,rfl,ac.out,Or.inl rfl⟩,TwoBy.of_grow (dx ag.out _) _⟩
 rw[if_neg Y] at U;have hi:=Bx.find_lt b.now n Y;have ar:=find_num Y;have aR:=HO.out.st.each _ (Bx.slAt_mem hi);have b0:=HO.out.st.n2;obtain⟨j,av⟩:∃j:Nat,(Bx.slAt b.now (Bx.find b.now n).toNat).line=(j:Int)+1:=⟨((Bx.slAt b.now (Bx.find b.now n).toNat).line-1).toNat,by omega⟩
 have aw:=Hq av;have hj:j<tn b.now.tab:=by omega
 have HL:Hid (startL b n=stepsS b.now j):=by unfold Hid startL;rw[av,show ((j:Int)+1-1).toNat=j by omega]
 have cc:1≤n∧n<10000:=by rw[ar] at aR;omega
 clear aR av ar;obtain⟨i,a2⟩:∃i:Nat,Bx.find b.now n=i:=Int.eq_ofNat_of_zero_le (by omega)
 rw[a2] at hi aw ⊢;simp only [Int.toNat_natCast] at hi aw;clear Y a2;have y0:¬(i:Int)<0:=by omega
 go_wp2_with fail;refine (iI b B n _ _ _ _ (by omega) ac.out).mono ?_
 rintro e w5 ⟨rfl,bq⟩;subst bq;have bp:=gT b.talks n
 by_cases aF:talkOf b.talks n<0
 ·have I:Hid (feedP b n x=(b,ByteArray.empty,9)):=by unfold Hid;rw[U.out,if_pos aF]
  go_wp2_with fail;go_ret2;rw[I.out];exact⟨⟨_,_,_,rfl,ac.out,Or.inl rfl⟩,TwoBy.of_grow (dx ag.out _) _⟩
 rw[if_neg aF] at U;have aI:=HA.out (by omega)
 obtain⟨k,ap⟩:∃k:Nat,talkOf b.talks n=k:=Int.eq_ofNat_of_zero_le (by omega)
 have aY:Hid (feedH b n x=hearF (stepsS b.now j) b.now.clock (stepsS b.now j).length (more (tkAt b k) x)):=by unfold Hid feedH;rw[HL.out,ap];rfl
 rw[ap] at U aI bp ⊢;simp only [Int.toNat_natCast] at U aI;rw[HL.out] at U aI;have G:k<b.talks.length:=by omega
 have y1:¬(k:Int)<0:=by omega
 clear aF ap HA HL;obtain⟨d0,d1,d2,d3,d4⟩:=aq.out;go_wp2_with fail;refine (i9 b.now i j _ _ _ _ HO.out.st.tab hi (by omega) aw.out hj ac.out.rows).mono ?_
 rintro e d ⟨⟨v6,rfl,ay⟩,ao⟩;obtain⟨a6,aM,rfl,_⟩:=ay.form;have am:=Hq (ac.out.later ao);have bu:=Hq (aq.out.later ao);have a5:=Hq (ag.out.trans (ao.mono ag.out.size));have bG:=Hq ay;clear d0 d1 d2 d3 d4 ac aq ag ao ay;have aK:=HO.out.st.tab.lines.2.2 j hj;have aE:=ik aK;have bg:=eS aK
 change ∀s∈stepsS b.now j,2≤s.size∧s.size≤9 at aE
 change 1≤(stepsS b.now j).length∧(stepsS b.now j).length≤5 at bg
 have bv:=HO.out.ats _ (List.getElem_mem G);have bH:=HH.out _ (List.getElem_mem G);rw[ez b k G] at bv bH;obtain⟨V,ae,bX,aN,_,J⟩:=am.out.tkr.1.some' (by omega)
 cases aN
 have x0:d.cell? ⟨V,ae+k*4,none⟩=some (.int .i64 (tkAt b k).num):=by rw[←ez b k G];exact RowAt.cell ec J k G 0 (by decide)
 have x1:d.cell? ⟨V,ae+k*4+1,none⟩=some (.int .i64 (tkAt b k).at'):=by rw[←ez b k G];exact RowAt.cell ec J k G 1 (by decide)
 have x2:d.cell? ⟨V,ae+k*4+2,none⟩=some (.int .i64 (tkAt b k).since):=by rw[←ez b k G];exact RowAt.cell ec J k G 2 (by decide)
 have x3:d.cell? ⟨V,ae+k*4+3,none⟩=some (.string (tkAt b k).heard):=by rw[←ez b k G];exact RowAt.cell ec J k G 3 (by decide)
 have c8:=am.out.c8;have b6:B<d.heap.size:=am.out.ty.lt;have d1:=bu.out.c1;have ca:sq<d.heap.size:=World.block_lt_of_cell? _ _ d1;have z1:(0:Int)≤(k:Int):=by omega
 have z2:(k:Int)<(b.talks.length:Int):=by omega
 have q8:¬9223372036854775807<(tkAt b k).heard.size+x.size:=by omega
 have bf:Hid (∀W':World,RowAt W' (.slice a6 (stepsS b.now j).length aM) (stepsS b.now j).length ((stepsS b.now j).map Value.string)→Calls Tryz.prog 151 #[.agg #[.int .i64 (tkAt b k).num,.int .i64 (tkAt b k).at',.int .i64 (tkAt b k).since,.string ((tkAt b k).heard++x)],.slice a6 (stepsS b.now j).length aM,.int .i64 b.now.clock] W' fun e w'=>e=.returned (.tuple #[tkV (feedH b n x).1,.string (feedH b n x).2])∧Below W'.heap.size W' w'):=by
  intro W' bN;rw[aY.out];exact pg (stepsS b.now j) _ b.now.clock (by omega) aE (stepsS b.now j).length (by omega) (more (tkAt b k) x) (tkAt b k).at'.toNat W' (by show (tkAt b k).at'=_;omega) (by omega) (by omega) (by show ((tkAt b k).heard++x).size≤_;rw[ByteArray.size_append];omega) bN
 clear J aE aY aK;generalize feedH b n x=R at *;generalize tkAt b k=t at *;generalize stepsS b.now j=L at *;have ax:=cw d (.cells #[.int .i64 t.num,.int .i64 t.at',.int .i64 t.since,.string (t.heard++x)] 220);have bB:=Hq (bG.out.later ax);have ah:=ZIn.new d #[.int .i64 t.num,.int .i64 t.at',.int .i64 t.since,.string (t.heard++x)] 220;go_wp2_with fail;refine (bf.out _ bB.out).mono ?_;rintro e w8 ⟨rfl,aa⟩;have aU:Below d.heap.size d w8:=ax.trans (aa.mono (by simp))
 have b7:d.heap.size<w8.heap.size:=by have:=aa.size;simp at this;omega
 obtain⟨⟨u0,r0⟩,f0⟩:=(ah.later (by simp) aa) 0 (by simp)
 obtain⟨⟨u1,r1⟩,f1⟩:=(ah.later (by simp) aa) 1 (by simp)
 obtain⟨⟨u2,r2⟩,f2⟩:=(ah.later (by simp) aa) 2 (by simp)
 obtain⟨⟨u3,r3⟩,f3⟩:=(ah.later (by simp) aa) 3 (by simp)
 have aX:Below d.heap.size d ((((w8.setCell ⟨d.heap.size,0,none⟩ (.int .i64 R.1.num)).setCell ⟨d.heap.size,1,none⟩ (.int .i64 R.1.at')).setCell ⟨d.heap.size,2,none⟩ (.int .i64 R.1.since)).setCell ⟨d.heap.size,3,none⟩ (.string R.1.heard)):=(((aU.setCell (Nat.le_refl _) _).setCell (Nat.le_refl _) _).setCell (Nat.le_refl _) _).setCell (Nat.le_refl _) _
 have br:RkIn ((((w8.setCell ⟨d.heap.size,0,none⟩ (.int .i64 R.1.num)).setCell ⟨d.heap.size,1,none⟩ (.int .i64 R.1.at')).setCell ⟨d.heap.size,2,none⟩ (.int .i64 R.1.since)).setCell ⟨d.heap.size,3,none⟩ (.string R.1.heard)) d.heap.size R.1:=by
  refine⟨?_,?_,?_,?_⟩<;>simp[go_sem,r0,r1,r2,r3]
 go_upto_region 14 with fail;clear x0 x1 x2 x3 c8 d1 r0 r1 r2 r3 f0 f1 f2 f3 ah ax aa aU;generalize (((w8.setCell ⟨d.heap.size,0,none⟩ (.int .i64 R.1.num)).setCell ⟨d.heap.size,1,none⟩ (.int .i64 R.1.at')).setCell ⟨d.heap.size,2,none⟩ (.int .i64 R.1.since)).setCell ⟨d.heap.size,3,none⟩ (.string R.1.heard)=W9 at *;have Q:=Hq (am.out.later aX);have aL:=Hq (a5.out.trans (aX.mono a5.out.size));obtain⟨t0,t1,t2,t3⟩:=br;generalize d.heap.size=tq at *
 by_cases aG:(L.length:Int)≤R.1.at'
 ·rw[if_pos aG] at U;have aV:∀c∈[chD n],ChOk c:=by intro c hc;simp at hc;subst hc;exact gU (by decide) (by decide) (by omega) (by omega)
  have aW:=cw W9 (chO (chD n));have aT:=kQ W9 (chD n);have aA:=Q.out.later aW;have aD:Hid (w.grownBy (W9.alloc (chO (chD n))) (some B)):=dx (aL.out.trans (aW.mono aL.out.size)) _
  by_cases hF:b.room<(b.text.size:Int)+(Bx.frames [chD n]).size
  ·have I:Hid (feedP b n x=(b,ByteArray.empty,13)):=by unfold Hid;rw[U.out,if_pos hF]
   go_wp2_with fail;refine (gk b B _ _ _ _ [chD n] _ (by simp) aV HO.out.txt hF aT aA).mono ?_
   rintro e bz ⟨rfl,aB⟩;go_wp2_with fail;go_ret2;rw[I.out];exact⟨⟨_,_,_,rfl,aA.later aB,Or.inl rfl⟩,TwoBy.of_grow (dz aD.out (dx aB _)) _⟩
  ·have I:Hid (feedP b n x=({addB b [chD n] with talks:=hushL (Bx.told b.now [chD n]) b.talks},R.2,0)):=by unfold Hid;rw[U.out,if_neg hF]
   go_wp2_with fail;refine (fI b B _ _ _ _ [chD n] _ HO.out.st (by simp) aV HO.out.txt (by omega) aT aA).mono ?_
   rintro e bz ⟨rfl,⟨cb,b2,bF⟩,a4⟩;have bY:(Bx.told b.now [chD n]).slots.length≤8:=(Bx.told_ok HO.out.st _).sl;go_wp2_with fail;refine (iH (addB b [chD n]) B _ _ _ _ (by show (Bx.told b.now [chD n]).slots.length≤10000;omega) (by show b.talks.length≤1000;omega) bF).mono ?_
   rintro e b9 ⟨rfl,⟨b8,bM,bw⟩,bK⟩;go_wp2_with fail;go_ret2;rw[I.out];exact⟨⟨_,_,_,rfl,bM,bw.grow (dz aD.out a4).size⟩,TwoBy.of_grow (dz (dz aD.out a4) bK) _⟩
 ·rw[if_neg aG] at U;obtain⟨g,bS,bJ,b5,b3⟩:=Q.out.tk.form (by omega)
  cases bJ
  have HN:Hid (BoxIn _ B {b with talks:=b.talks.set k R.1} (.slice ad b.now.slots.length ab) (.slice Z b.now.ends.length O) (.slice (some ⟨V,0,none⟩) b.talks.length az)):=(Q.out.tset G R.1).later (Below.refl _ _).drew;obtain⟨_,_,_,aN,_,J⟩:=Q.out.tkr.1.some' (by omega)
  cases aN
  have x0:W9.cell? ⟨V,k*4,none⟩=some (.int .i64 b.talks[k].num):=by have:=RowAt.cell ec J k G 0 (by decide);simpa [tkC] using this
  have x1:W9.cell? ⟨V,k*4+1,none⟩=some (.int .i64 b.talks[k].at'):=by have:=RowAt.cell ec J k G 1 (by decide);simpa [tkC] using this
  have x2:W9.cell? ⟨V,k*4+2,none⟩=some (.int .i64 b.talks[k].since):=by have:=RowAt.cell ec J k G 2 (by decide);simpa [tkC] using this
  have x3:W9.cell? ⟨V,k*4+3,none⟩=some (.string b.talks[k].heard):=by have:=RowAt.cell ec J k G 3 (by decide);simpa [tkC] using this
  have g0:=fE Q.out.tk (k*4);have g1:=fE Q.out.tk (k*4+1);have g2:=fE Q.out.tk (k*4+2);have g3:=fE Q.out.tk (k*4+3);have c8:=Q.out.c8;clear J;have I:=Hq U.out;have aZ:Hid (TwoBy w _ B (some V)):=(TwoBy.of_grow (dx aL.out _) _).trans ((TwoBy.of_grow2 (dI (dI (dI (dI (eD W9 (some V)) (k*4) (.int .i64 R.1.num)) (k*4+1) (.int .i64 R.1.at')) (k*4+2) (.int .i64 R.1.since)) (k*4+3) (.string R.1.heard)) B).trans (TwoBy.of_grow (dx (Below.refl _ _).drew _) _));go_wp2_with fail
  go_region
  go_wp2_with fail;go_ret2;rw[I.out]
  first |exact⟨⟨_,_,_,rfl,HN.out,Or.inl rfl⟩,aZ.out⟩|exact⟨⟨rfl,_,_,_,HN.out,Or.inl rfl⟩,aZ.out⟩
end Go.Proofs.YtdajolpoiffimabGreatDoor
