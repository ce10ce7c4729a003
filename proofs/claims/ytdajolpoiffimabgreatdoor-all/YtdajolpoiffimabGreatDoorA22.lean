import Derived.Deep.Cut
import Derived.Deep.RegionHeld3
import Derived.Deep.DrawnRows
import Derived.Test.YtdajolpoiffimabGreatDoorA21

namespace Go.Proofs.YtdajolpoiffimabGreatDoor
open Go.RowKit
abbrev tzO:Obj:=.cells #[.string {data:= #[]},.int .i64 0,.int .i64 0,.slice none 0 0,.slice none 0 0,.string {data:= #[]},.bool false] 110
structure TRes (w W:World) (s:Px.St) (sl en:Value):Prop where
 st:PIn W w.heap.size s sl en
 z:ZCell W (w.heap.size+1) 7
 ty:Typed W (w.heap.size+1) 110
 bel:Below w.heap.size w W
 lt:w.heap.size+1<W.heap.size
theorem TRes.new (w:World) (s:Px.St) (sl en:Value):TRes w ((w.alloc (pstO s sl en)).alloc tzO) s sl en:=by
 have d:=ZCell.new (w.alloc (pstO s sl en)) #[.string {data:= #[]},.int .i64 0,.int .i64 0,.slice none 0 0,.slice none 0 0,.string {data:= #[]},.bool false] 110;have e:=Typed.new (w.alloc (pstO s sl en)) #[.string {data:= #[]},.int .i64 0,.int .i64 0,.slice none 0 0,.slice none 0 0,.string {data:= #[]},.bool false] 110;exact⟨(PIn.new w s sl en).later (cw _ _),by simpa using d,by simpa using e,(cw w _).alloc (by simp) _,by simp⟩
theorem TRes.later {w W W':World} {s:Px.St} {sl en:Value} (h:TRes w W s sl en) (hb:Below W.heap.size W W'):TRes w W' s sl en:=
 ⟨h.st.later hb,h.z.later h.lt hb,h.ty.later hb,h.bel.trans (hb.mono h.bel.size),Nat.lt_of_lt_of_le h.lt hb.size⟩
theorem TRes.set {w W:World} {s:Px.St} {sl en:Value} (h:TRes w W s sl en) {q:Nat} (I:w.heap.size+1<q) (j:Nat) (u:Value):TRes w (W.setCell ⟨q,j,none⟩ u) s sl en:=by
 have d:∀(a i:Nat),a≤w.heap.size+1→(W.setCell ⟨q,j,none⟩ u).cell? ⟨a,i,none⟩=W.cell? ⟨a,i,none⟩:=fun a i J=>World.cell?_setCell_other _ _ _ _ (by first |(simp;done)|(simp;omega))
 obtain⟨c0,c1,c2,c3,c4⟩:=h.st;refine⟨⟨?_,?_,?_,?_,?_⟩,fun i hi=>⟨?_,?_⟩,h.ty.setCell _ _ _,h.bel.setCell (by first |(simp;done)|(simp;omega)) _,by have:=h.lt;simpa [World.setCell] using this⟩
 ·rw[d _ _ (by omega)];exact c0
 ·rw[d _ _ (by omega)];exact c1
 ·rw[d _ _ (by omega)];exact c2
 ·rw[d _ _ (by omega)];exact c3
 ·rw[d _ _ (by omega)];exact c4
 ·obtain⟨G,e⟩:=(h.z i hi).1;exact⟨G,by rw[d _ _ (by omega)];exact e⟩
 ·rw[World.frozen?_setCell];exact (h.z i hi).2
theorem PsIn.set {W:World} {q:Nat} {x:Px.Sl} (h:PsIn W q x) {g:Nat} (e:g≠q) (j:Nat) (u:Value):PsIn (W.setCell ⟨g,j,none⟩ u) q x:=by
 have d:∀(i:Nat),(W.setCell ⟨g,j,none⟩ u).cell? ⟨q,i,none⟩=W.cell? ⟨q,i,none⟩:=fun i=>World.cell?_setCell_other _ _ _ _ (by simp)
 obtain⟨c0,c1,c2,c3,c4,c5,c6,c7⟩:=h;exact⟨(d _).trans c0,(d _).trans c1,(d _).trans c2,(d _).trans c3,(d _).trans c4,(d _).trans c5,(d _).trans c6,(d _).trans c7⟩
theorem gC {n q:Nat} {w e:World} (h:Below n w e) (d:n≤q) (U O J G Q V I:Value):Below n w (((((((e.setCell ⟨q,0,none⟩ U).setCell ⟨q,1,none⟩ O).setCell ⟨q,2,none⟩ J).setCell ⟨q,3,none⟩ G).setCell ⟨q,4,none⟩ Q).setCell ⟨q,5,none⟩ V).setCell ⟨q,6,none⟩ I):=
 ((((((h.setCell d _).setCell d _).setCell d _).setCell d _).setCell d _).setCell d _).setCell d _
theorem PAt.store7 {W:World} {q:Nat} {s:Px.St} {sl en:Value} (h:PAt W s sl en) (ty:Typed W q 110) (O I G d J Q e:Value):PAt (((((((W.setCell ⟨q,0,none⟩ O).setCell ⟨q,1,none⟩ I).setCell ⟨q,2,none⟩ G).setCell ⟨q,3,none⟩ d).setCell ⟨q,4,none⟩ J).setCell ⟨q,5,none⟩ Q).setCell ⟨q,6,none⟩ e) s sl en:=by
 have st:∀(w:World) (j:Nat) (u:Value),(Typed w q 110∧PAt w s sl en)→(Typed (w.setCell ⟨q,j,none⟩ u) q 110∧PAt (w.setCell ⟨q,j,none⟩ u) s sl en):=fun w j u h=>⟨h.1.setCell _ _ _,h.2.set h.1 (by decide) (by decide) _ _⟩
 exact ((st _ _ _ (st _ _ _ (st _ _ _ (st _ _ _ (st _ _ _ (st _ _ _ (st _ _ _ ⟨ty,h⟩)))))))).2
theorem PsIn.hear {W:World} {q:Nat} {y:Px.Sl} (h:PsIn W q y) (k:ByteArray):PsIn (W.setCell ⟨q,7,none⟩ (.string k)) q {y with heard:=k}:=by
 obtain⟨c0,c1,c2,c3,c4,c5,c6,c7⟩:=h;refine⟨?_,?_,?_,?_,?_,?_,?_,?_⟩<;>simp[go_sem,c0,c1,c2,c3,c4,c5,c6,c7]
abbrev talkV (s:Px.St) (sl en:Value) (said:ByteArray) (over:Bool):Value:=.agg #[.string s.tab,.int .i64 s.clock,.int .i64 s.next,sl,en,.string said,.bool over]
inductive TalkR (s:Px.St) (n:Int) (x:ByteArray) (w':World):Ending→Prop
 | none (h:Px.find s.slots n=.none):TalkR s n x w' (.returned (.tuple #[.agg #[.string {data:= #[]},.int .i64 0,.int .i64 0,.slice none 0 0,.slice none 0 0,.string {data:= #[]},.bool false],.int .i64 8]))
 | wait (y:Px.Sl) (h:Px.find s.slots n=some y) (hs:y.step≤0):TalkR s n x w' (.returned (.tuple #[.agg #[.string {data:= #[]},.int .i64 0,.int .i64 0,.slice none 0 0,.slice none 0 0,.string {data:= #[]},.bool false],.int .i64 9]))
 | ok (y:Px.Sl) (sl en:Value) (said:ByteArray) (over:Bool) (t:Px.St) (h:Px.find s.slots n=some y) (hs:¬y.step≤0) (ht:t=Px.talkT s y x) (h1:said=(Px.talkS s y x).2) (h2:over=decide (((Px.stepsL s y).length:Int)<(Px.talkS s y x).1.step)) (ha:PAt w' t sl en):TalkR s n x w' (.returned (.tuple #[talkV t sl en said over,.int .i64 0]))
set_option maxRecDepth 10000 in
set_option maxHeartbeats 4000000 in
theorem kG (s:Px.St) (n:Int) (x:ByteArray) (sl en:Value) (w:World) (hO:Px.Ok s) (dk:x.size≤100) (hT:TabLH w) (hS:PAt w s sl en):
 Calls Tryz.prog 56 #[pstV s sl en,.int .i64 n,.string x] w fun e w'=>TalkR s n x w' e∧Below w.heap.size w w':=by
 obtain⟨ad,ab,rfl,da⟩:=hS.sl.form;obtain⟨V,G,rfl,cW⟩:=hS.en.form;have HO:=Hq hO;have hl:s.slots.length≤10000:=by have:=hO.len;omega
 have HS:=Hq hS;have hP:=TRes.new w s (.slice ad s.slots.length ab) (.slice V s.ends.length G);clear hS hO
 go_enter Tryz.func56,Tryz.ntmps56
 go_upto_region 1 with fail;generalize (w.alloc (pstO s (.slice ad s.slots.length ab) (.slice V s.ends.length G))).alloc tzO=W at *;have aT:=Hq (HS.out.later hP.bel);have HT:=Hq (hT.later hP.bel);have HP:=Hq hP;obtain⟨i0,i1,i2,i3,i4⟩:=hP.st;clear hP hT;go_wp2_with fail;refine (fy s n _ _ _ hl aT.out).mono ?_;rintro e w1 ⟨hF,aK⟩;clear i0 i1 i2 i3 i4;have av:=HP.out.later aK;have aR:=aT.out.later aK;have bw:=HT.out.later aK;clear HP aT aK HT
 rcases hF with ⟨y,hf,rfl⟩|⟨hf,rfl⟩
 rotate_left
 ·have HM:=Hq hf;clear hf;generalize Px.sl0=x at *;have Q:=av.later (cw w1 (psO x));clear av aR bw;go_upto_region 2 with fail;generalize w1.alloc (psO x)=W2 at *;obtain⟨⟨u0,r0⟩,f0⟩:=Q.z 0 (by decide)
  obtain⟨⟨u1,r1⟩,f1⟩:=Q.z 1 (by decide)
  obtain⟨⟨u2,r2⟩,f2⟩:=Q.z 2 (by decide)
  obtain⟨⟨u3,r3⟩,f3⟩:=Q.z 3 (by decide)
  obtain⟨⟨u4,r4⟩,f4⟩:=Q.z 4 (by decide)
  obtain⟨⟨u5,r5⟩,f5⟩:=Q.z 5 (by decide)
  obtain⟨⟨u6,r6⟩,f6⟩:=Q.z 6 (by decide)
  have ag:Hid (Below w.heap.size w W2):=Q.bel;clear Q;go_wp2_with fail;refine bodyPost_ret (v:=.tuple #[.agg #[.string {data:= #[]},.int .i64 0,.int .i64 0,.slice none 0 0,.slice none 0 0,.string {data:= #[]},.bool false],.int .i64 8]) (by simp[results,Tryz.results56,go_sem,r0,r1,r2,r3,r4,r5,r6]) rfl ⟨TalkR.none HM.out,gC ag.out (by omega) _ _ _ _ _ _ _⟩
 have bO:=Hq hf;have bc:y∈s.slots:=List.mem_of_find?_eq_some hf;obtain⟨cl,ca,cD,ci,cg,cJ⟩:=HO.out.each bc;obtain⟨_,_,dn,a2,cP,_⟩:=HO.out.ex y bc;obtain⟨j,hj⟩:∃j:Nat,y.line=(j:Int)+1:=⟨(y.line-1).toNat,by omega⟩
 have bQ:j<tn s.tab:=by omega
 have HJ:=Hq hj;have bm:(y.line-1).toNat=j:=by omega
 have br:=HO.out.st.tab.lines.2.2 j (by exact bQ)
 have bV:Hid ((stps (tl s.tab j)).length≤5):=(eS br).2;have ct:Hid (∀z∈stps (tl s.tab j),2≤z.size∧z.size≤9):=ik br;have b8:Hid (y.step≤((stps (tl s.tab j)).length:Int)):=by rw[bm] at a2;exact a2
 have bH:Hid (Px.stepsL s y=stps (tl s.tab j)):=by unfold Hid Px.stepsL;rw[bm];rfl
 have bK:=Hq aR;have bM:=av.later (cw w1 (psO y));have bG:=bw.later (cw w1 (psO y));have bF:=PsIn.new w1 y;have bY:(w1.alloc (psO y)).frozen? ⟨w1.heap.size,7,none⟩=false:=by simp[go_sem]
 have bL:Typed (w1.alloc (psO y)) w1.heap.size 143:=Typed.new _ _ _;have cu:w.heap.size+1<w1.heap.size:=av.lt;have b5:=cw w1 (psO y);clear av aR bw hf cJ ci bc hj ca bm br a2 cl cD cg;go_upto_region 2 with fail;generalize w1.alloc (psO y)=W2 at *;have bt:=Hq bM;have bo:=Hq bG;have bT:=Hq bF;have ag:=Hq b5;have bE:=Hq bY;have a6:=Hq bL;obtain⟨x0,x1,x2,x3,x4,x5,x6,x7⟩:=bF;clear bM bG b5 bY bL;go_wp2_with fail;refine (eu y W2).mono ?_;rintro e w3 ⟨rfl,af⟩;clear x0 x1 x2 x3 x4 x5 x6 x7;have d:=bt.out.later af;have a5:=Hq (bo.out.later af);have aD:=Hq (bT.out.later af);have ak:=Hq (ag.out.trans (af.mono ag.out.size));have aM:Hid (w3.frozen? ⟨w1.heap.size,7,none⟩=false):=(af.frozen (p:=⟨w1.heap.size,7,none⟩) a6.out.lt).trans bE.out;have ac:=Hq (a6.out.later af);clear bt bo bT af ag bE a6
 cases hr:decide (0<y.step)
 ·have cx:Hid (y.step≤0):=by have:=of_decide_eq_false hr;unfold Hid;omega
  clear hr;obtain⟨⟨u0,r0⟩,f0⟩:=d.z 0 (by decide)
  obtain⟨⟨u1,r1⟩,f1⟩:=d.z 1 (by decide)
  obtain⟨⟨u2,r2⟩,f2⟩:=d.z 2 (by decide)
  obtain⟨⟨u3,r3⟩,f3⟩:=d.z 3 (by decide)
  obtain⟨⟨u4,r4⟩,f4⟩:=d.z 4 (by decide)
  obtain⟨⟨u5,r5⟩,f5⟩:=d.z 5 (by decide)
  obtain⟨⟨u6,r6⟩,f6⟩:=d.z 6 (by decide)
  have ag:Hid (Below w.heap.size w w3):=d.bel;clear d;go_wp2_with fail;refine bodyPost_ret (v:=.tuple #[.agg #[.string {data:= #[]},.int .i64 0,.int .i64 0,.slice none 0 0,.slice none 0 0,.string {data:= #[]},.bool false],.int .i64 9]) (by simp[results,Tryz.results56,go_sem,r0,r1,r2,r3,r4,r5,r6]) rfl ⟨TalkR.wait y bO.out cx.out,gC ag.out (by omega) _ _ _ _ _ _ _⟩
 have b3:Hid (0<y.step):=by unfold Hid;exact of_decide_eq_true hr
 clear hr;obtain⟨i0,i1,i2,i3,i4⟩:=d.st;obtain⟨x0,x1,x2,x3,x4,x5,x6,x7⟩:=aD.out;have aY:=Hq d;clear d;go_wp2_with fail;refine (fU s y.line j _ _ _ HJ.out bQ HO.out.st.tab a5.out (bK.out.later ak.out)).mono ?_;rintro e w4 ⟨⟨v,rfl,bb,cc,U,J,rfl,_,b2⟩,ai⟩;clear i0 i1 i2 i3 i4 x0 x1 x2 x3 x4 x5 x6 x7;have bZ:(w4.alloc (lnO (tl s.tab j) bb cc U J)).cell? ⟨w4.heap.size,13,none⟩=some (.slice U (stps (tl s.tab j)).length J):=by simp[go_sem]
 have cF:w4.heap.size<(w4.alloc (lnO (tl s.tab j) bb cc U J)).heap.size:=by simp
 have b0:=(aY.out.later ai).later (cw w4 (lnO (tl s.tab j) bb cc U J));have bD:=(aD.out.later ai).later (cw w4 (lnO (tl s.tab j) bb cc U J));have aL:Below w3.heap.size w3 (w4.alloc (lnO (tl s.tab j) bb cc U J)):=ai.alloc ai.size _;have bJ:=ak.out.trans (aL.mono ak.out.size);have b9:=(aL.frozen (p:=⟨w1.heap.size,7,none⟩) ac.out.lt).trans aM.out;have bs:=ac.out.later aL;have dc:=ac.out.lt;have cZ:=ai.size;have bv:=TRow.later b2 (cw w4 (lnO (tl s.tab j) bb cc U J));clear aY a5 aD ai aL ak aM ac b2;go_upto_region 7 with fail;generalize w4.alloc (lnO (tl s.tab j) bb cc U J)=W5 at *;generalize w4.heap.size=lq at *;have du:w1.heap.size≠lq:=by omega
 have cI:PsIn (W5.setCell ⟨w1.heap.size,7,none⟩ (.string (y.heard++x))) w1.heap.size (Px.heardS y x):=bD.hear (y.heard++x);have aZ:=b0.set cu 7 (.string (y.heard++x));have bW:=bJ.setCell (show w1.heap.size≤(⟨w1.heap.size,7,none⟩:Addr).block from Nat.le_refl _) (.string (y.heard++x))
 have a9:(W5.setCell ⟨w1.heap.size,7,none⟩ (.string (y.heard++x))).cell? ⟨lq,13,none⟩=some (.slice U (stps (tl s.tab j)).length J):=by
  rw[World.cell?_setCell_other _ _ _ _ (by simp)];exact bZ
 have bn:=TRow.set bv bs (by decide) 7 (.string (y.heard++x))
 have b6:lq<(W5.setCell ⟨w1.heap.size,7,none⟩ (.string (y.heard++x))).heap.size:=by simpa [World.setCell] using cF
 obtain⟨x0,x1,x2,x3,x4,x5,x6,x7⟩:=bD;have dj:y.heard.size≤8:=cP;have df:¬9223372036854775807<y.heard.size+x.size:=by omega
 have a4:Hid (Px.talkS s y x=Px.goF (stps (tl s.tab j)) s.clock ((stps (tl s.tab j)).length+1) (Px.heardS y x)):=by unfold Hid Px.talkS;rw[bH.out]
 have cG:Hid (1≤(Px.heardS y x).step):=by have:=b3.out;show 1≤y.step;omega
 have cp:Hid ((Px.heardS y x).step≤((stps (tl s.tab j)).length:Int)+1):=by have:=b8.out;show y.step≤_;omega
 have cf:Hid ((Px.heardS y x).heard.size≤100000):=by show (y.heard++x).size≤100000;rw[ByteArray.size_append];omega
 clear b0 bJ bv bZ bs;go_upto_region 8 with fail;clear x0 x1 x2 x3 x4 x5 x6 x7 b9;generalize W5.setCell ⟨w1.heap.size,7,none⟩ (.string (y.heard++x))=W6 at *;generalize Px.heardS y x=y' at *;have aV:=Hq aZ;have bI:=Hq bn;have HB:=Hq bW;have bg:=Hq a9;obtain⟨i0,i1,i2,i3,i4⟩:=aZ.st;obtain⟨x0,x1,x2,x3,x4,x5,x6,x7⟩:=cI;clear aZ bn bW;go_wp2_with fail;refine (pp y' (stps (tl s.tab j)) _ s.clock W6 bV.out ct.out cG.out cp.out cf.out bI.out.1).mono ?_;rintro e w7 ⟨rfl,aj⟩;clear i0 i1 i2 i3 i4 x0 x1 x2 x3 x4 x5 x6 x7 a9;generalize Px.goF (stps (tl s.tab j)) s.clock ((stps (tl s.tab j)).length+1) y'=p at *;obtain⟨X,bf⟩:=p;have aN:=(aV.out.later aj).later (cw w7 (psO X));have bP:=bK.out.later (HB.out.trans ((aj.alloc aj.size (psO X)).mono HB.out.size));have bS:=PsIn.new w7 X;have bR:=cell_later (cw w7 (psO X)) (cell_later aj bg.out);have ds:lq<w7.heap.size:=Nat.lt_of_lt_of_le b6 aj.size;have dp:w7.heap.size<(w7.alloc (psO X)).heap.size:=by simp
 simp only
 clear aV HB bg aj bI;go_upto_region 9 with fail;generalize w7.alloc (psO X)=W8 at *;generalize w7.heap.size=aq at *;have aX:=aN.later (cw W8 (pstO s (.slice ad s.slots.length ab) (.slice V s.ends.length G)));have bU:=bP.later (cw W8 (pstO s (.slice ad s.slots.length ab) (.slice V s.ends.length G)));have bN:=bS.later (cw W8 (pstO s (.slice ad s.slots.length ab) (.slice V s.ends.length G)));have b4:=cell_later (cw W8 (pstO s (.slice ad s.slots.length ab) (.slice V s.ends.length G))) bR;have hA:=PW.new W8 s (.slice ad s.slots.length ab) (.slice V s.ends.length G);have cV:=aN.lt;obtain⟨i0,i1,i2,i3,i4⟩:=aN.st;clear bP bS bR;go_upto_region 10 with fail;clear i0 i1 i2 i3 i4 aN;generalize W8.alloc (pstO s (.slice ad s.slots.length ab) (.slice V s.ends.length G))=W9 at *;generalize W8.heap.size=q at *;have cq:q≠aq:=by omega
 have dr:q≠lq:=by omega
 have bp:=Hq aX;have az:=Hq bU;have bh:=Hq hA;have aW:=Hq bN;have bx:=Hq b4;obtain⟨i0,i1,i2,i3,i4⟩:=aX.st;obtain⟨y0,y1,y2,y3,y4,y5,y6,y7⟩:=bN;clear aX bU hA b4;go_wp2_with fail;refine (fB s.slots X _ _ hl az.out.sl.1).mono ?_;rintro e bX ⟨⟨dm,rfl,ae⟩,aa⟩;clear i0 i1 i2 i3 i4 y0 y1 y2 y3 y4 y5 y6 y7;obtain⟨Z,O,cE,_⟩:=(RowAt.of_own ae).form;subst cE;have Y:=bh.out.later aa;have a3:=Y.st.c3;have cK:=Y.f 3 (by decide)
 have cY:=Y.ty.lt;have I:=(bp.out.later aa).set cV 3 (.slice Z (Px.repl s.slots X).length O);have a8:=Y.slots (Px.repl s.slots X) (.slice Z (Px.repl s.slots X).length O);have ba:=((az.out.later aa).set Y.ty (by decide) (by decide) 3 (.slice Z (Px.repl s.slots X).length O)).en
 have aS:=(TRow.of_own ae).set Y.ty (by decide) 3 (.slice Z (Px.repl s.slots X).length O)
 have ce:=(aW.out.later aa).set cq 3 (.slice Z (Px.repl s.slots X).length O)
 have db:(bX.setCell ⟨q,3,none⟩ (.slice Z (Px.repl s.slots X).length O)).cell? ⟨lq,13,none⟩=some (.slice U (stps (tl s.tab j)).length J):=by
  rw[World.cell?_setCell_other _ _ _ _ (by simp)];exact cell_later aa bx.out
 clear Y ae aa bp az bh aW bx;go_upto_region 11 with fail;clear a3 cK;generalize bX.setCell ⟨q,3,none⟩ (.slice Z (Px.repl s.slots X).length O)=a7 at *;have cC:Hid (PAt a7 {s with slots:=Px.repl s.slots X} (.slice Z (Px.repl s.slots X).length O) (.slice V s.ends.length G)):=⟨aS,ba⟩;have bz:Hid (Typed a7 (w.heap.size+1) 110):=I.ty;have b7:Hid (Below w.heap.size w a7):=I.bel;obtain⟨⟨u0,r0⟩,f0⟩:=I.z 0 (by decide)
 obtain⟨⟨u1,r1⟩,f1⟩:=I.z 1 (by decide)
 obtain⟨⟨u2,r2⟩,f2⟩:=I.z 2 (by decide)
 obtain⟨⟨u3,r3⟩,f3⟩:=I.z 3 (by decide)
 obtain⟨⟨u4,r4⟩,f4⟩:=I.z 4 (by decide)
 obtain⟨⟨u5,r5⟩,f5⟩:=I.z 5 (by decide)
 obtain⟨⟨u6,r6⟩,f6⟩:=I.z 6 (by decide)
 obtain⟨c0,c1,c2,c3,c4⟩:=a8.st;obtain⟨y0,y1,y2,y3,y4,y5,y6,y7⟩:=ce;have dq:=bV.out;clear I a8 ba aS;go_wp2_with fail;refine bodyPost_ret (v:=.tuple #[talkV {s with slots:=Px.repl s.slots X} (.slice Z (Px.repl s.slots X).length O) (.slice V s.ends.length G) bf (decide (((stps (tl s.tab j)).length:Int)<X.step)),.int .i64 0]) (by simp[results,Tryz.results56,go_sem,r0,r1,r2,r3,r4,r5,r6]) rfl ⟨?_,gC b7.out (by omega) _ _ _ _ _ _ _⟩
 refine TalkR.ok y _ _ bf _ _ bO.out (by have:=b3.out;omega) ?_ ?_ ?_ (cC.out.store7 bz.out _ _ _ _ _ _ _)
 ·unfold Px.talkT;rw[a4.out]
 ·rw[a4.out]
 ·rw[a4.out,bH.out]
attribute [local go_sem] Bx.be_size
theorem sN (x:Bx.Sl) (m:Int) (hm:m=Bx.mk1 x.runs):Bx.be x.num 2++Bx.be x.line 1++Bx.be x.minute 5++Bx.be x.att 1++Bx.be x.frm 5++Bx.be m 1=Bx.encSl x:=by
 subst hm;unfold Bx.encSl;simp only [ByteArray.append_assoc]
set_option maxRecDepth 10000 in
set_option maxHeartbeats 2000000 in
theorem jS (x:Px.Sl) (w:World) (I:Bx.SlFit (Px.absS x)):
 Calls Tryz.prog 104 #[psV x] w fun e w'=>e=.returned (.string (Bx.encSl (Px.absS x)))∧Below w.heap.size w w':=by
 have n1:=I.n;have n2:=I.l;have n3:=I.m;have n4:=I.a;have n5:=I.f;simp only [Px.absS] at n1 n2 n3 n4 n5;obtain⟨a1,b1⟩:=n1;obtain⟨a2,b2⟩:=n2;obtain⟨a3,b3⟩:=n3;obtain⟨a4,b4⟩:=n4;obtain⟨a5,b5⟩:=n5;have HE:Hid (∀m:Int,m=Bx.mk1 (decide (0<x.step))→Bx.be x.num 2++Bx.be x.line 1++Bx.be x.minute 5++Bx.be x.att 1++Bx.be x.frm 5++Bx.be m 1=Bx.encSl (Px.absS x)):=fun m hm=>sN (Px.absS x) m hm
 have ai:=cw w (psO x);have hI:=PsIn.new w x;clear I
 go_enter Tryz.func104,Tryz.ntmps104
 go_upto_region 1 with fail;generalize w.alloc (psO x)=W at *;have HI:=Hq hI;have HB:=Hq ai;have c0:=hI.c0;clear hI ai;go_wp2_with fail;refine (dN _ _ x.num 2 _ rfl rfl (by omega) (by omega) (by decide)).mono ?_
 rintro e w1 ⟨rfl,d⟩;have U:=Hq (HI.out.later d);have O:=Hq (HB.out.trans (d.mono HB.out.size));clear HI HB d c0;have c1:=U.out.c1;go_wp2_with fail;refine (dN _ _ x.line 1 _ rfl rfl (by omega) (by omega) (by decide)).mono ?_
 rintro e w2 ⟨rfl,d⟩;have ae:=Hq (U.out.later d);have ab:=Hq (O.out.trans (d.mono O.out.size));clear U O d c1;have c2:=ae.out.c2;go_wp2_with fail;refine (dN _ _ x.minute 5 _ rfl rfl (by omega) (by omega) (by decide)).mono ?_
 rintro e w3 ⟨rfl,d⟩;have Z:=Hq (ae.out.later d);have aa:=Hq (ab.out.trans (d.mono ab.out.size));clear ae ab d c2;have c3:=Z.out.c3;go_wp2_with fail;refine (dN _ _ x.att 1 _ rfl rfl (by omega) (by omega) (by decide)).mono ?_
 rintro e w4 ⟨rfl,d⟩;have ac:=Hq (Z.out.later d);have V:=Hq (aa.out.trans (d.mono aa.out.size));clear Z aa d c3;have c4:=ac.out.c4;go_wp2_with fail;refine (dN _ _ x.frm 5 _ rfl rfl (by omega) (by omega) (by decide)).mono ?_
 rintro e w5 ⟨rfl,d⟩;have ah:=Hq (ac.out.later d);have J:=Hq (V.out.trans (d.mono V.out.size));clear ac V d c4;obtain⟨d0,d1,d2,d3,d4,d5,d6,d7⟩:=ah.out;go_wp2_with fail;refine (eu x _).mono ?_;rintro e w6 ⟨rfl,d⟩;have G:=Hq (J.out.trans (d.mono J.out.size));clear ah J d d0 d1 d2 d3 d4 d5 d6 d7
 by_cases hr:0<x.step
 ·have ad:decide (0<x.step)=true:=decide_eq_true hr;have Q:Hid (Bx.be x.num 2++Bx.be x.line 1++Bx.be x.minute 5++Bx.be x.att 1++Bx.be x.frm 5++Bx.be 1 1=Bx.encSl (Px.absS x)):=HE.out 1 (by rw[ad];rfl)
  clear HE hr;go_wp2_with fail;refine (dN _ _ 1 1 _ rfl rfl (by omega) (by omega) (by decide)).mono ?_
  rintro e w7 ⟨rfl,d⟩;have Y:=Hq (G.out.trans (d.mono G.out.size));clear G d;go_wp2_with fail;go_ret;exact⟨ek Q.out,Y.out⟩
 ·have ad:decide (0<x.step)=false:=decide_eq_false hr;have Q:Hid (Bx.be x.num 2++Bx.be x.line 1++Bx.be x.minute 5++Bx.be x.att 1++Bx.be x.frm 5++Bx.be 0 1=Bx.encSl (Px.absS x)):=HE.out 0 (by rw[ad];rfl)
  clear HE hr;go_wp2_with fail;refine (dN _ _ 0 1 _ rfl rfl (by omega) (by omega) (by decide)).mono ?_
  rintro e w7 ⟨rfl,d⟩;have Y:=Hq (G.out.trans (d.mono G.out.size));clear G d;go_wp2_with fail;go_ret;exact⟨ek Q.out,Y.out⟩
def encA (x:Px.Sl):ByteArray:=Bx.encSl (Px.absS x)
theorem ke {α:Type} (f:α→ByteArray) (l:List α) (k:Nat) (h:k<l.length):Bx.cat ((l.take (k+1)).map f)=Bx.cat ((l.take k).map f)++f l[k]:=by
 rw[List.take_succ_eq_append_getElem h,List.map_append,List.map_cons,List.map_nil,Bx.cat_snoc]
set_option maxRecDepth 10000 in
set_option maxHeartbeats 2000000 in
theorem jq (l:List Px.Sl) (sl:Value) (w:World) (hl:l.length≤255) (Y:∀x∈l,Bx.SlFit (Px.absS x)) (hS:RowAt w sl l.length (l.flatMap psC)):
 Calls Tryz.prog 66 #[sl] w fun e w'=>e=.returned (.string (Bx.be l.length 1++Bx.cat (l.map encA)))∧Below w.heap.size w w':=by
 obtain⟨ad,ar,rfl,am⟩:=hS.form;have HR:=Hq hS;have HF:=Hq Y;clear hS Y
 go_enter Tryz.func66,Tryz.ntmps66
 go_wp2_with fail;refine (dN _ _ (l.length:Int) 1 _ rfl rfl (by omega) (by omega) (by decide)).mono ?_
 rintro e w1 ⟨rfl,J⟩;have Q:=Hq J;clear J;go_wp2_with fail
 go_loopw [3,4] (fun tv i wr=>∃k:Nat,k≤l.length∧i=.int .i64 k∧tv=.string (Bx.be l.length 1++Bx.cat ((l.take k).map encA))∧Below w.heap.size w wr) (fun _ i _=>l.length-(intOf i).toNat)
 case atStart=>exact⟨0,Nat.zero_le _,rfl,by simp[Bx.cat],Q.out⟩
 case round=>
  obtain⟨k,hk,rfl,rfl,I⟩:=hrel;have d:=Hq I
  by_cases G:k<l.length
  ·obtain⟨b,av,aj,hv,_,U⟩:=(HR.out.later I).some' (by omega)
   cases hv
   obtain⟨d0,d1,d2,d3,d4,d5,d6,d7⟩:=ei U k G;have b1:(0:Int)≤(k:Int):=by omega
   have b2:(k:Int)<(l.length:Int):=by omega
   have V:=HF.out _ (List.getElem_mem G)
   have HN:Hid (Bx.be l.length 1++Bx.cat ((l.take (k+1)).map encA)=(Bx.be l.length 1++Bx.cat ((l.take k).map encA))++Bx.encSl (Px.absS l[k])):=by
    unfold Hid;rw[ke encA l k G,ByteArray.append_assoc];rfl
   have hz:(Bx.be l.length 1++Bx.cat ((l.take k).map encA)).size≤10000:=by
    have h1:=Bx.cat_size encA 15 (l.take k) (fun x _=>Bx.encSl_size _)
    have h2:(l.take k).length≤255:=by simp;omega
    rw[ByteArray.size_append,Bx.be_size,h1];omega
   have au:(Bx.encSl (Px.absS l[k])).size=15:=Bx.encSl_size _;have q9:¬9223372036854775807<(Bx.be l.length 1++Bx.cat ((l.take k).map encA)).size+15:=by omega
   clear U I;generalize l[k]=x at *;generalize Bx.be l.length 1++Bx.cat ((l.take k).map encA)=tx at *;go_wp2_with fail;refine (jS x _ V).mono ?_;rintro e w2 ⟨rfl,O⟩;have Z:=Hq (d.out.trans (O.mono d.out.size));clear O d d0 d1 d2 d3 d4 d5 d6 d7;generalize Bx.encSl (Px.absS x)=en at *;go_wp2_with fail;go_roundw
   case rel=>exact⟨k+1,by omega,by go_num,by rw[HN.out],Z.out⟩
   case measure=>simp[intOf];omega
  ·obtain rfl:k=l.length:=by omega
   have HL:Hid (l.take l.length=l):=List.take_length;generalize l.take l.length=l' at *;go_wp2_with fail;go_ret;exact⟨ek (by rw[HL.out]),d.out⟩
set_option maxRecDepth 10000 in
set_option maxHeartbeats 2000000 in
theorem jK (l:List Bx.En) (sl:Value) (w:World) (hl:l.length≤255) (hf:∀x∈l,Bx.EnFit x) (hS:RowAt w sl l.length (l.flatMap enC)):
 Calls Tryz.prog 67 #[sl] w fun e w'=>e=.returned (.string (Bx.be l.length 1++Bx.cat (l.map Bx.encEn)))∧Below w.heap.size w w':=by
 obtain⟨ad,ar,rfl,al⟩:=hS.form;have HR:=Hq hS;have HF:=Hq hf;clear hS hf
 go_enter Tryz.func67,Tryz.ntmps67
 go_wp2_with fail;refine (dN _ _ (l.length:Int) 1 _ rfl rfl (by omega) (by omega) (by decide)).mono ?_
 rintro e w1 ⟨rfl,Q⟩;have Y:=Hq Q;clear Q;go_wp2_with fail
 go_loopw [3,4] (fun tv i wr=>∃k:Nat,k≤l.length∧i=.int .i64 k∧tv=.string (Bx.be l.length 1++Bx.cat ((l.take k).map Bx.encEn))∧Below w.heap.size w wr) (fun _ i _=>l.length-(intOf i).toNat)
 case atStart=>exact⟨0,Nat.zero_le _,rfl,by simp[Bx.cat],Y.out⟩
 case round=>
  obtain⟨k,hk,rfl,rfl,J⟩:=hrel;have G:=Hq J
  by_cases d:k<l.length
  ·obtain⟨b,U,ai,hv,_,V⟩:=(HR.out.later J).some' (by omega)
   cases hv
   have Z:wr.cell? ⟨b,U+k*2,none⟩=some (.int .i64 l[k].num):=RowAt.cell ej V k d 0 (by decide)
   have d1:wr.cell? ⟨b,U+k*2+1,none⟩=some (.string l[k].how):=RowAt.cell ej V k d 1 (by decide)
   have b1:(0:Int)≤(k:Int):=by omega
   have b2:(k:Int)<(l.length:Int):=by omega
   have O:=HF.out _ (List.getElem_mem d);obtain⟨e1,e2⟩:=O.n;have hh:=O.h
   have HN:Hid (Bx.be l.length 1++Bx.cat ((l.take (k+1)).map Bx.encEn)=(Bx.be l.length 1++Bx.cat ((l.take k).map Bx.encEn))++Bx.be l[k].num 2++l[k].how):=by
    unfold Hid;rw[ke Bx.encEn l k d];unfold Bx.encEn;simp only [ByteArray.append_assoc]
   have hz:(Bx.be l.length 1++Bx.cat ((l.take k).map Bx.encEn)).size≤10000:=by
    have h1:=Bx.cat_size Bx.encEn 3 (l.take k) (fun x hx=>by unfold Bx.encEn;rw[ByteArray.size_append,Bx.be_size,(HF.out x (List.mem_of_mem_take hx)).h])
    have h2:(l.take k).length≤255:=by simp;omega
    rw[ByteArray.size_append,Bx.be_size,h1];omega
   have q8:¬9223372036854775807<(Bx.be l.length 1++Bx.cat ((l.take k).map Bx.encEn)).size+2:=by omega
   have q9:¬9223372036854775807<(Bx.be l.length 1++Bx.cat ((l.take k).map Bx.encEn)).size+2+l[k].how.size:=by omega
   have aq:Hid (b<wr.heap.size):=World.block_lt_of_cell? _ _ Z;clear V J O hh;generalize l[k]=x at *;generalize Bx.be l.length 1++Bx.cat ((l.take k).map Bx.encEn)=tx at *;go_wp2_with fail;refine (dN _ _ x.num 2 _ rfl rfl (by omega) (by omega) (by decide)).mono ?_
   rintro e w2 ⟨rfl,I⟩;have ab:=Hq (G.out.trans (I.mono G.out.size));have ap:=cell_later I d1;clear I G Z d1;go_wp2_with fail;go_roundw
   case rel=>exact⟨k+1,by omega,by go_num,by rw[HN.out],ab.out⟩
   case measure=>simp[intOf];omega
  ·obtain rfl:k=l.length:=by omega
   have HL:Hid (l.take l.length=l):=List.take_length;generalize l.take l.length=l' at *;go_wp2_with fail;go_ret;exact⟨ek (by rw[HL.out]),G.out⟩
end Go.Proofs.YtdajolpoiffimabGreatDoor

namespace Go.Proofs.YtdajolpoiffimabGreatDoor
open Go.RowKit
def slotA (l:List Px.Sl) (i:Int):Px.Sl×Int:=if 0≤i∧i<(l.length:Int) then (l.getD i.toNat Px.sl0,0) else (Px.sl0,4)
def endA (l:List Bx.En) (i:Int):Bx.En×Int:=if 0≤i∧i<(l.length:Int) then (l.getD i.toNat ⟨0,ByteArray.empty⟩,0) else (⟨0,ByteArray.empty⟩,4)
theorem kA {l:List Px.Sl} {i:Int} (h:i<0∨(l.length:Int)≤i):slotA l i=(Px.sl0,4):=if_neg (by omega)
theorem jB {l:List Px.Sl} {k:Nat} (h:k<l.length):slotA l (k:Int)=(l[k],0):=by
 unfold slotA;rw[if_pos (by omega),Int.toNat_natCast];simp[h]
theorem l7 {l:List Bx.En} {i:Int} (h:i<0∨(l.length:Int)≤i):endA l i=(⟨0,ByteArray.empty⟩,4):=if_neg (by omega)
theorem kT {l:List Bx.En} {k:Nat} (h:k<l.length):endA l (k:Int)=(l[k],0):=by
 unfold endA;rw[if_pos (by omega),Int.toNat_natCast];simp[h]
theorem qG {l:List Px.Sl} {i:Int} {e:Ending} (h:SlotR l i e):e=.returned (.tuple #[paslV (slotA l i).1,.int .i64 (slotA l i).2]):=by
 cases h with
 | no h=>rw[kA h];rfl
 | yes k hk h=>subst h;rw[jB hk]
abbrev enV (x:Bx.En):Value:=.agg #[.int .i64 x.num,.string x.how]
theorem rv {l:List Bx.En} {i:Int} {e:Ending} (h:EndR l i e):e=.returned (.tuple #[enV (endA l i).1,.int .i64 (endA l i).2]):=by
 cases h with
 | no h=>rw[l7 h];rfl
 | yes k hk h=>subst h;rw[kT hk]
theorem ox (b:Px.Bo) (B:Nat) (i:Int) (w:World) (G:Px.Ok b.st) (hB:∃sl en,PB w B b sl en):
 Calls Tryz.prog 32 #[.pointer (some ⟨B,0,none⟩),.int .i64 i] w fun e d=>e=.returned (.tuple #[paslV (slotA b.st.slots i).1,.int .i64 (slotA b.st.slots i).2])∧Below w.heap.size w d:=by
 obtain⟨sl,en,hB⟩:=hB;exact (oL b B i sl en w (by have:=G.len;omega) hB).mono fun e d h=>⟨qG h.1,h.2⟩
theorem pZ (b:Px.Bo) (B:Nat) (i:Int) (w:World) (G:Px.Ok b.st) (hB:∃sl en,PB w B b sl en):
 Calls Tryz.prog 33 #[.pointer (some ⟨B,0,none⟩),.int .i64 i] w fun e d=>e=.returned (.tuple #[enV (endA b.st.ends i).1,.int .i64 (endA b.st.ends i).2])∧Below w.heap.size w d:=by
 obtain⟨sl,en,hB⟩:=hB;exact (qo b B i sl en w (by have:b.st.ends.length≤6:=G.st.en;omega) hB).mono fun e d h=>⟨rv h.1,h.2⟩
theorem nO (b:Px.Bo) (B:Nat) (w:World) (hB:∃sl en,PB w B b sl en):
 Calls Tryz.prog 23 #[.pointer (some ⟨B,0,none⟩)] w fun e d=>e=.returned (pviewV b.st)∧Below w.heap.size w d:=by
 obtain⟨sl,en,hB⟩:=hB;exact nU b B sl en w hB
theorem kg (b:Px.Bo) (B:Nat) (w:World) (hB:∃sl en,PB w B b sl en):
 Calls Tryz.prog 8 #[.pointer (some ⟨B,0,none⟩)] w fun e d=>e=.returned (.string b.log)∧d=w:=by
 obtain⟨sl,en,hB⟩:=hB;exact qF b B sl en w hB
end Go.Proofs.YtdajolpoiffimabGreatDoor

namespace Go.Proofs.YtdajolpoiffimabGreatDoor
open Go.RowKit
theorem eI (s:ByteArray) (I G:Nat→Nat) (t:Nat) (v:Int) (w:World) (x:Bool) (U:x=Txt.hldB (lo t) (hi t) v (pt s t)) (Q:s.size≤300) (d:t<5) (J:LineP s) (hA:LineAt w s I G) (V:0≤v) (O:v≤60):
 Calls Tryz.prog 163 #[.agg #[.bool (Txt.opn (pt s t)),.slice (some ⟨I t,0,none⟩) (Txt.pcs 44 (pt s t)).length (G t)],.int .i64 v] w fun e Y=>e=.returned (.bool x)∧Below w.heap.size w Y:=
 U▸jj (pt s t) (lo t) (hi t) v _ (I t) (G t) w (J.sz Q t d) (ge t).1 (ge t).2.2.2 V O (J.fl t d) (hA t d).2 (hA t d).1
set_option maxHeartbeats 2000000 in
theorem kF (s:ByteArray) (O Q:Nat→Nat) (ag:Option Addr) (ns aa:Nat) (y m d h i k:Int) (w:World) (hs:s.size≤300) (hP:LineP s) (hA:LineAt w s O Q) (d1:0≤d) (d2:d≤60) (k1:0≤k) (k2:k≤60):
 Calls Tryz.prog 164 #[lineV s O Q (.slice ag ns aa),dateV y m d h i k] w fun e w'=>e=.returned (.bool (dayB s d k))∧Below w.heap.size w w':=by
 have HP:=Hq hP;have HA:Hid (∀o1 o2,LineAt ((w.alloc o1).alloc o2) s O Q):=fun o1 o2=>(hA.later (cw _ _)).later (cw _ _)
 obtain⟨x,hx⟩:∃x:Bool,x=Txt.hldB (lo 2) (hi 2) d (pt s 2):=⟨_,rfl⟩;obtain⟨z,hz⟩:∃z:Bool,z=Txt.hldB (lo 4) (hi 4) k (pt s 4):=⟨_,rfl⟩;have HX:=Hq hx;have HZ:=Hq hz;have J:Hid (dayB s d k=if (Txt.opn (pt s 2)||Txt.opn (pt s 4))=true then (x&&z) else (x||z)):=by unfold Hid;rw[dayB,hx,hz]
 clear hx hz;clear hP hA
 go_enter Tryz.func164,Tryz.ntmps164
 go_wp2_with fail;refine (eI s O Q 2 _ _ x HX.out hs (by decide) HP.out (HA.out _ _) d1 d2).mono ?_
 rintro e w1 ⟨rfl,G⟩;have ak:Hid (LineAt w1 s O Q):=(HA.out _ _).later G;have B1:Hid (Below w.heap.size w w1):=((cw w _).alloc (by simp) _).trans (G.mono (by simp;omega))
 obtain⟨aw,aq⟩:=dT G;have av:w.heap.size+1<w1.heap.size:=by have:=G.size;simp at this;omega
 have ax:w.heap.size<w1.heap.size:=by omega
 clear G HA;go_wp2_with fail;refine (eI s O Q 4 _ _ z HZ.out hs (by decide) HP.out ak.out k1 k2).mono ?_
 rintro e w2 ⟨rfl,V⟩;have U:Hid (Below w.heap.size w w2):=B1.out.trans (V.mono (by omega))
 obtain⟨au,ar⟩:=dT V;clear V;clear HX HZ;have I:∀r:Bool,r=dayB s d k→Hid (r=dayB s d k):=fun _ h=>h
 cases Y:Txt.opn (pt s 2)
 ·cases Z:Txt.opn (pt s 4)
  ·have D:Hid ((x||z)=dayB s d k):=by unfold Hid;rw[J.out,Y,Z];rfl
   clear J I
   cases x
   ·go_wp2_with fail;go_ret;exact⟨dy D.out,U.out⟩
   ·go_wp2_with fail;go_ret;exact⟨dy D.out,U.out⟩
  ·have D:Hid ((x&&z)=dayB s d k):=by unfold Hid;rw[J.out,Y,Z];rfl
   clear J I
   cases x
   ·go_wp2_with fail;go_ret;exact⟨dy D.out,U.out⟩
   ·go_wp2_with fail;go_ret;exact⟨dy D.out,U.out⟩
 ·have D:Hid ((x&&z)=dayB s d k):=by unfold Hid;rw[J.out,Y];rfl
  clear J I
  cases x
  ·go_wp2_with fail;go_ret;exact⟨dy D.out,U.out⟩
  ·go_wp2_with fail;go_ret;exact⟨dy D.out,U.out⟩
set_option maxHeartbeats 2000000 in
theorem rM (s:ByteArray) (O Q:Nat→Nat) (ac:Option Addr) (ns V:Nat) (y m d h i k:Int) (w:World) (hs:s.size≤300) (hP:LineP s) (hA:LineAt w s O Q) (m1:0≤m) (m2:m≤60) (d1:0≤d) (d2:d≤60) (h1:0≤h) (h2:h≤60) (i1:0≤i) (i2:i≤60) (k1:0≤k) (k2:k≤60):
 Calls Tryz.prog 124 #[lineV s O Q (.slice ac ns V),dateV y m d h i k] w fun e w'=>e=.returned (.bool (dueB s m d h i k))∧Below w.heap.size w w':=by
 have HP:=Hq hP;have HA:Hid (∀o1 o2,LineAt ((w.alloc o1).alloc o2) s O Q):=fun o1 o2=>(hA.later (cw _ _)).later (cw _ _)
 obtain⟨x,hx⟩:∃x:Bool,x=Txt.hldB (lo 0) (hi 0) i (pt s 0):=⟨_,rfl⟩;obtain⟨y',hy⟩:∃x:Bool,x=Txt.hldB (lo 1) (hi 1) h (pt s 1):=⟨_,rfl⟩;obtain⟨z,hz⟩:∃z:Bool,z=Txt.hldB (lo 3) (hi 3) m (pt s 3):=⟨_,rfl⟩;have HX:=Hq hx;have HY:=Hq hy;have HZ:=Hq hz;have J:Hid (dueB s m d h i k=(x&&(y'&&(z&&dayB s d k)))):=by unfold Hid;rw[dueB,hx,hy,hz]
 clear hP hA hx hy hz
 go_enter Tryz.func124,Tryz.ntmps124
 go_wp2_with fail;refine (eI s O Q 0 _ _ x HX.out hs (by decide) HP.out (HA.out _ _) i1 i2).mono ?_
 rintro e w1 ⟨rfl,G⟩;have Z:Hid (LineAt w1 s O Q):=(HA.out _ _).later G;have B1:Hid (Below w.heap.size w w1):=((cw w _).alloc (by simp) _).trans (G.mono (by simp;omega))
 obtain⟨aJ,aD⟩:=dT G;have aI:w.heap.size+1<w1.heap.size:=by have:=G.size;simp at this;omega
 have aK:w.heap.size<w1.heap.size:=by omega
 clear G HA HX
 cases x
 ·have D:Hid (false=dueB s m d h i k):=by unfold Hid;rw[J.out];rfl
  clear J;go_wp2_with fail;go_ret;exact⟨dy D.out,B1.out⟩
 go_wp2_with fail;refine (eI s O Q 1 _ _ y' HY.out hs (by decide) HP.out Z.out h1 h2).mono ?_
 rintro e w2 ⟨rfl,I⟩;have Y:=Hq (Z.out.later I);have B2:Hid (Below w.heap.size w w2):=B1.out.trans (I.mono (by omega))
 obtain⟨aG,aF⟩:=dT I;have aL:w.heap.size+1<w2.heap.size:=by have:=I.size;omega
 have ax:w.heap.size<w2.heap.size:=by omega
 clear I Z HY
 cases y'
 ·have D:Hid (false=dueB s m d h i k):=by unfold Hid;rw[J.out];rfl
  clear J;go_wp2_with fail;go_ret;exact⟨dy D.out,B2.out⟩
 go_wp2_with fail;refine (eI s O Q 3 _ _ z HZ.out hs (by decide) HP.out Y.out m1 m2).mono ?_
 rintro e w3 ⟨rfl,U⟩;have am:=Hq (Y.out.later U);have B3:Hid (Below w.heap.size w w3):=B2.out.trans (U.mono (by omega))
 obtain⟨aM,aH⟩:=dT U;have aE:w.heap.size+1<w3.heap.size:=by have:=U.size;omega
 clear U Y HZ
 cases z
 ·have D:Hid (false=dueB s m d h i k):=by unfold Hid;rw[J.out];rfl
  clear J;go_wp2_with fail;go_ret;exact⟨dy D.out,B3.out⟩
 have D:Hid (dayB s d k=dueB s m d h i k):=by unfold Hid;rw[J.out];rfl
 clear J;go_wp2_with fail;refine (kF s O Q ac ns V y m d h i k _ hs HP.out am.out d1 d2 k1 k2).mono ?_;rintro e w4 ⟨rfl,ad⟩;have B4:Hid (Below w.heap.size w w4):=B3.out.trans (ad.mono (by omega))
 clear ad;go_wp2_with fail;go_ret;exact⟨dy D.out,B4.out⟩
end Go.Proofs.YtdajolpoiffimabGreatDoor

namespace Go.Proofs.YtdajolpoiffimabGreatDoor
open Go.RowKit
attribute [local go_sem ↓] Go.wp_at_zero Go.wp_at_succ
set_option maxHeartbeats 1000000 in
theorem mI (s:ByteArray) (w:World) (I:s.size≤maxLen) (d:TabLH w):
 Calls Tryz.prog 43 #[.string s] w fun e O=>(∃a r:Int,e=.returned (.tuple #[.int .i64 a,.int .i64 r])∧ChkR s a r)∧Below w.heap.size w O:=by
 have Q:=Hq d;have J:=Hq I;clear d I
 go_enter Tryz.func43,Tryz.ntmps43
 go_wp2_with fail;refine (gB _ _ J.out Q.out).mono ?_;rintro e w1 ⟨⟨a,r,U,n,c,rfl,G,hL⟩,hb⟩;have K:=Hq G;clear hL G;go_wp2_with fail
 go_quiet (fail)
 go_wp2_with fail;go_ret2;exact⟨⟨a,r,rfl,K.out⟩,below_drewN (hb.alloc hb.size _) _⟩
end Go.Proofs.YtdajolpoiffimabGreatDoor

namespace Go.Proofs.YtdajolpoiffimabGreatDoor
open Go.RowKit
set_option maxHeartbeats 1000000 in
theorem mh (s:Px.St) (m:Int) (sl en:Value) (w:World) (c1: -1≤s.clock) (c2:s.clock≤4223371679) (m1:0≤m) (m2:m≤4223371679) (hS:PAt w s sl en):
 Calls Tryz.prog 85 #[pstV s sl en,.int .i64 m] w fun e Q=>e=.returned (.bool (Px.aheadP s m))∧Below w.heap.size w Q:=by
 obtain⟨Z,U,rfl,J⟩:=hS.sl.form;obtain⟨V,O,rfl,I⟩:=hS.en.form;clear hS
 by_cases h1:m≤s.clock
 ·have d:Hid (Px.aheadP s m=false):=decide_eq_false (by omega)
  go_enter Tryz.func85,Tryz.ntmps85
  go_wp2_with fail;go_ret;exact⟨dy d.out.symm,cw _ _⟩
 by_cases h2:s.clock= -1
 ·have d:Hid (Px.aheadP s m=true):=decide_eq_true (by omega)
  have G:(s.clock== -1)=true:=by simpa using h2
  clear h2
  go_enter Tryz.func85,Tryz.ntmps85
  go_wp2_with fail;go_ret;exact⟨dy d.out.symm,cw _ _⟩
 have G:(s.clock== -1)=false:=by simpa using h2
 by_cases Y:m-s.clock≤1500
 ·have d:Hid (Px.aheadP s m=true):=decide_eq_true (by omega)
  clear h2
  go_enter Tryz.func85,Tryz.ntmps85
  go_wp2_with fail;go_ret;exact⟨dy d.out.symm,cw _ _⟩
 ·have d:Hid (Px.aheadP s m=false):=decide_eq_false (by omega)
  clear h2
  go_enter Tryz.func85,Tryz.ntmps85
  go_wp2_with fail;go_ret;exact⟨dy d.out.symm,cw _ _⟩
set_option maxHeartbeats 1000000 in
theorem kw (s:Px.St) (m:Int) (sl en:Value) (w:World) (c1: -1≤s.clock) (c2:s.clock≤4223371679) (hS:PAt w s sl en):
 Calls Tryz.prog 87 #[pstV s sl en,.int .i64 m] w fun e Q=>e=.returned (.int .i64 (Px.newA s m))∧Below w.heap.size w Q:=by
 obtain⟨Y,U,rfl,J⟩:=hS.sl.form;obtain⟨V,O,rfl,I⟩:=hS.en.form;clear hS
 by_cases h2:s.clock= -1
 ·have d:Hid (Px.newA s m=m):=if_pos h2;have G:(s.clock== -1)=true:=by simpa using h2
  clear h2
  go_enter Tryz.func87,Tryz.ntmps87
  go_wp2_with fail;go_ret;exact⟨dR d.out.symm,cw _ _⟩
 ·have d:Hid (Px.newA s m=s.clock+1):=if_neg h2;have G:(s.clock== -1)=false:=by simpa using h2
  clear h2
  go_enter Tryz.func87,Tryz.ntmps87
  go_wp2_with fail;go_ret;exact⟨dR d.out.symm,cw _ _⟩
set_option maxHeartbeats 1000000 in
theorem lm (l:ByteArray) (O Q:Nat→Nat) (J:Option Addr) (U I:Nat) (now later:Bool) (w:World):
 Calls Tryz.prog 125 #[lineV l O Q (.slice J U I),.bool now,.bool later] w fun e V=>e=.returned (.bool (Px.cntB (obt (pt l 5) 1) now later))∧Below w.heap.size w V:=by
 have d:Hid (∀c,Px.cntB c now later=if c=108 then !later else if c=110 then now else true):=fun _=>rfl
 cases h1:(obt (pt l 5) 1==108)
 ·have n1:¬obt (pt l 5) 1=108:=by simpa using h1
  cases h2:(obt (pt l 5) 1==110)
  ·have n2:¬obt (pt l 5) 1=110:=by simpa using h2
   have G:Hid (Px.cntB (obt (pt l 5) 1) now later=true):=by unfold Hid;rw[d.out,if_neg n1,if_neg n2]
   clear n1 n2 d
   go_enter Tryz.func125,Tryz.ntmps125
   go_wp2_with fail;go_ret;exact⟨dy G.out.symm,cw _ _⟩
  ·have n2:obt (pt l 5) 1=110:=by simpa using h2
   have G:Hid (Px.cntB (obt (pt l 5) 1) now later=now):=by unfold Hid;rw[d.out,if_neg n1,if_pos n2]
   clear n1 n2 d
   go_enter Tryz.func125,Tryz.ntmps125
   go_wp2_with fail;go_ret;exact⟨dy G.out.symm,cw _ _⟩
 ·have n1:obt (pt l 5) 1=108:=by simpa using h1
  have G:Hid (Px.cntB (obt (pt l 5) 1) now later= !later):=by unfold Hid;rw[d.out,if_pos n1]
  clear n1 d
  go_enter Tryz.func125,Tryz.ntmps125
  go_wp2_with fail;go_ret;exact⟨dy G.out.symm,cw _ _⟩
def arC (p:Nat×Int):List Value:=[.int .i64 ((p.1:Int)+1),.int .i64 p.2]
theorem ma (p:Nat×Int):(arC p).length=2:=rfl
theorem ri (p:Nat×Int):∀u∈arC p,u.oneCell'=true:=by intro u d;simp[arC] at d;rcases d with rfl|rfl<;>rfl
theorem rz:(Tryz.prog.info? 141).map (fun i=>(i.zero,i.size,i.bytes))=some (some (.agg #[.int .i64 0,.int .i64 0]),2,16):=by kernel_rfl
def MetAt (w:World) (M:Nat) (f:Nat→Bool):Prop:=w.heap[M]? =some (.cells #[.bool (f 0),.bool (f 1),.bool (f 2),.bool (f 3)] 192 (0,0))
theorem MetAt.lt {w:World} {M:Nat} {f:Nat→Bool} (h:MetAt w M f):M<w.heap.size:=eK h
theorem MetAt.cell {w:World} {M:Nat} {f:Nat→Bool} (h:MetAt w M f) (i:Nat) (hi:i<4):w.cell? ⟨M,i,none⟩=some (.bool (f i))∧w.frozen? ⟨M,i,none⟩=false:=by
 constructor
 ·rw[cell_of_row _ _ i _ _ (0,0) h]
  match i,hi with
  | 0,_=>rfl
  | 1,_=>rfl
  | 2,_=>rfl
  | 3,_=>rfl
 ·unfold World.frozen?;rw[h];simp
theorem MetAt.later {w d:World} {M:Nat} {f:Nat→Bool} (h:MetAt w M f) (hb:Below w.heap.size w d):MetAt d M f:=(hb.block M h.lt).trans h
theorem MetAt.grown {w I:World} {M G size n:Nat} {f:Nat→Bool} {v:Value} {O:List Value} (h:MetAt w M f) (J:w.ownsRow G 141 size v n O) (Q:w.grownBy I v.ownBlock):MetAt I M f:=by
 refine (Q.block M h.lt ?_).trans h;intro e
 rcases J.2 with ⟨rfl,_⟩|⟨g,U,cur,rfl,_,d,_⟩
 ·cases e
 ·have:M=g:=by simpa [Value.ownBlock] using e
  subst this;rw[h] at d;cases d
theorem MetAt.set {w:World} {M:Nat} {f:Nat→Bool} (h:MetAt w M f) (i:Nat) (hi:i<4) (b:Bool):MetAt (w.setCell ⟨M,i,none⟩ (.bool b)) M (fun j=>if j=i then b else f j):=by
 unfold MetAt at h ⊢
 have:(w.setCell ⟨M,i,none⟩ (.bool b)).heap[M]? =some (.cells (#[.bool (f 0),.bool (f 1),.bool (f 2),.bool (f 3)].setIfInBounds i (.bool b)) 192 (0,0)):=by
  simp[World.setCell,Array.getElem?_modify,h]
 rw[this]
 match i,hi with
 | 0,_=>rfl
 | 1,_=>rfl
 | 2,_=>rfl
 | 3,_=>rfl
theorem MetAt.new (w:World):MetAt (w.alloc (.cells #[.bool false,.bool false,.bool false,.bool false] 192)) w.heap.size (fun _=>false):=by
 unfold MetAt;show (w.heap.push _)[w.heap.size]? =_;simp
end Go.Proofs.YtdajolpoiffimabGreatDoor

namespace Go.Proofs.YtdajolpoiffimabGreatDoor
open Go.RowKit
def BlkAt (w:World) (q:Nat) (cs:Array Value) (e:TypeId):Prop:=w.heap[q]? =some (.cells cs e (0,0))
theorem BlkAt.lt {w:World} {q:Nat} {d:Array Value} {e:TypeId} (h:BlkAt w q d e):q<w.heap.size:=eK h
theorem BlkAt.new (w:World) (d:Array Value) (e:TypeId):BlkAt (w.alloc (.cells d e)) w.heap.size d e:=by unfold BlkAt;show (w.heap.push _)[w.heap.size]? =_;simp
theorem BlkAt.later {w G:World} {q:Nat} {d:Array Value} {e:TypeId} (h:BlkAt w q d e) (hb:Below w.heap.size w G):BlkAt G q d e:=(hb.block q h.lt).trans h
theorem BlkAt.cell {w:World} {q:Nat} {d:Array Value} {e:TypeId} (h:BlkAt w q d e) (i:Nat) (hi:i<d.size):w.cell? ⟨q,i,none⟩=some d[i]:=by
 rw[cell_of_row _ _ i _ _ (0,0) h];simp[hi]
theorem BlkAt.grown {w U:World} {q G size n:Nat} {I:Array Value} {e J:TypeId} {v:Value} {Z:List Value} (h:BlkAt w q I e) (Y:w.ownsRow G J size v n Z) (V:w.grownBy U v.ownBlock) (O:e≠J):BlkAt U q I e:=by
 refine (V.block q h.lt ?_).trans h;intro Q
 rcases Y.2 with ⟨rfl,_⟩|⟨g,aa,cur,rfl,_,d,_⟩
 ·cases Q
 ·have:q=g:=by simpa [Value.ownBlock] using Q
  subst this;rw[h] at d;cases d;exact O rfl
theorem BlkAt.other {w:World} {q M:Nat} {d:Array Value} {e:TypeId} (h:BlkAt w q d e) (G:q≠M) (j:Nat) (u:Value):BlkAt (w.setCell ⟨M,j,none⟩ u) q d e:=(Below.heap_setCell _ _ _ _ G).trans h
theorem oF {w:World} {M d size n:Nat} {e:TypeId} {f:Nat→Bool} {v:Value} {U:List Value} (O:w.ownsRow d e size v n U) (h:MetAt w M f) (Q:e≠192) (j:Nat) (u:Value):(w.setCell ⟨M,j,none⟩ u).ownsRow d e size v n U:=by
 refine⟨O.1,?_⟩
 rcases O.2 with h2|⟨g,G,cur,Z,hbase,I,V⟩
 ·exact Or.inl h2
 ·refine Or.inr ⟨g,G,cur,Z,hbase,?_,V⟩
  have J:g≠M:=by
   intro Y;subst Y;unfold MetAt at h;rw[I] at h;cases h;exact Q rfl
  exact (Below.heap_setCell _ _ _ _ J).trans I
structure LfIn (w wr:World) (v:Value) (out:List (Nat×Int)) (f:Nat→Bool):Prop where
 own:wr.ownsRow w.heap.size 141 2 v out.length (out.reverse.flatMap arC)
 met:MetAt wr (w.heap.size+1) f
 bel:Below w.heap.size w wr
theorem LfIn.later {w wr d:World} {v:Value} {out:List (Nat×Int)} {f:Nat→Bool} (h:LfIn w wr v out f) (hb:Below wr.heap.size wr d):LfIn w d v out f:=
 ⟨dU h.own hb,h.met.later hb,h.bel.trans (hb.mono h.bel.size)⟩
theorem LfIn.start (w:World):LfIn w ((w.alloc (.cells #[] 141)).alloc (.cells #[.bool false,.bool false,.bool false,.bool false] 192)) (.slice (some ⟨w.heap.size,0,none⟩) 0 0) [] (fun _=>false):=by
 have h:=MetAt.new (w.alloc (.cells #[] 141));exact⟨(eq w 141 2).alloc _,by simpa using h,(cw w _).alloc (by simp) _⟩
theorem LfIn.met' {w wr:World} {v:Value} {out:List (Nat×Int)} {f:Nat→Bool} (h:LfIn w wr v out f) (i:Nat) (hi:i<4):LfIn w (wr.setCell ⟨w.heap.size+1,i,none⟩ (.bool true)) v out (fun j=>if j=i then true else f j):=
 ⟨oF h.own h.met (by decide) _ _,h.met.set i hi true,h.bel.setCell (by simp) _⟩
theorem LfIn.app {w wr d:World} {v I:Value} {out:List (Nat×Int)} {p:Nat×Int} {f:Nat→Bool} (h:LfIn w wr v out f) (G:wr.grownBy d v.ownBlock) (J:d.ownsRow w.heap.size 141 2 I (out.length+1) (out.reverse.flatMap arC++arC p)):LfIn w d I (p::out) f:=
 ⟨by simpa [List.flatMap_append] using J,h.met.grown h.own G,h.bel.grown G h.bel.size (fun k e=>(h.own.lt k e).1)⟩
theorem rY (w:World) (i:Nat) (t:Int) (e:TypeId):∀j u,(arC (i,t))[j]? =some u→(w.alloc (.cells #[.int .i64 ((i:Int)+1),.int .i64 t] e)).cell? ((⟨w.heap.size,0,none⟩:Addr).add j)=some u:=by
 intro j u d
 match j,d with
 | 0,d=>simp[arC] at d;subst d;simp[Addr.add,go_sem]
 | 1,d=>simp[arC] at d;subst d;simp[Addr.add,go_sem]
theorem js (tab:ByteArray):(Bx.lns tab).length=tn tab:=by unfold Bx.lns;rw[List.length_map,Bx.linesOf_len]
theorem sG (tab:ByteArray) (k:Nat) (h:k<(Bx.lns tab).length):(Bx.lns tab)[k]=lnOf (tl tab k):=by
 have d:k<(Bx.linesOf tab).length:=by rw[js] at h;rw[Bx.linesOf_len];exact h
 show ((Bx.linesOf tab).map lnOf)[k]'(by simpa using d)=_
 rw[List.getElem_map,Bx.linesOf_at tab k d]
theorem tu (s:ByteArray) (O J:Nat→Nat) (I:Option Addr) (Q G:Nat) (y m d h i k:Int) (w:World) (x:Bool) (Z:x=dueB s m d h i k) (U:s.size≤300) (V:LineP s) (hA:LineAt w s O J) (m1:0≤m) (m2:m≤60) (d1:0≤d) (d2:d≤60) (h1:0≤h) (h2:h≤60) (i1:0≤i) (Y:i≤60) (k1:0≤k) (k2:k≤60):
 Calls Tryz.prog 124 #[lineV s O J (.slice I Q G),dateV y m d h i k] w fun e w'=>e=.returned (.bool x)∧Below w.heap.size w w':=
 Z▸rM s O J I Q G y m d h i k w U V hA m1 m2 d1 d2 h1 h2 i1 Y k1 k2
theorem pA (l:ByteArray) (J I:Nat→Nat) (G:Option Addr) (O d:Nat) (now later:Bool) (w:World) (z:Bool) (Q:z=Px.cntB (obt (pt l 5) 1) now later):
 Calls Tryz.prog 125 #[lineV l J I (.slice G O d),.bool now,.bool later] w fun e U=>e=.returned (.bool z)∧Below w.heap.size w U:=Q▸lm l J I G O d now later w
set_option maxRecDepth 10000 in
set_option maxHeartbeats 8000000 in
theorem iZ (tab:ByteArray) (g c:Nat) (a m:Int) (w:World) (hC:ChkR tab 0 0) (a0:0≤a) (ha:a≤m) (hm:m≤4223371679) (hj:m-a≤1500) (hM:Tab w) (hL:PLinesAt w g tab):
 Calls Tryz.prog 88 #[.slice (some ⟨g,0,none⟩) (tn tab) c,.int .i64 a,.int .i64 m] w fun e w'=>(∃v,e=.returned v∧w'.ownsRow w.heap.size 141 2 v (Bx.comes (Bx.lns tab) a m).length ((Bx.comes (Bx.lns tab) a m).reverse.flatMap arC))∧Below w.heap.size w w':=by
 obtain⟨i0,bC,bR,bX,bI⟩:=info_parts rz;have HM:=Hq hM;have HL:=Hq hL;have h4:=gv hC;obtain⟨bU,_,hP⟩:=hC.lines;have HP:=Hq hP;have a2:=js tab;have ac:=Hq a2;have H0:Hid (LfIn w _ _ [] (fun _=>false)):=LfIn.start w
 clear hM hL hC hP a2
 go_enter Tryz.func88,Tryz.ntmps88
 go_wp2_with fail
 go_loopw [7,9] (fun v x wr=>∃(t:Int) (out:List (Nat×Int)) (f:Nat→Bool),a-1≤t∧t≤m∧x=.int .i64 t∧Px.From (Bx.lns tab) m t (tn tab) out∧(out.length:Int)≤(m-t)*4∧(∀i (h:i<(Bx.lns tab).length),f i=Px.metB (Bx.lns tab)[i] m t)∧LfIn w wr v out f) (fun _ x _=>(intOf x+1-a).toNat)
 case atStart=>exact⟨m,[],_,by omega,Int.le_refl _,rfl,by rw[←ac.out];exact Px.From.start _ _,by simp,fun i h=>(Px.met_start _ _).symm,H0.out⟩
 case round=>
  clear H0;obtain⟨t,out,f,t1,t2,rfl,bn,cn,aY,HI⟩:=hrel;have aJ:=Hq bn;have ar:=Hq aY;clear bn aY
  by_cases cr:a≤t
  ·have br:=Hq (HM.out.later HI.bel);go_wp2_with fail;refine (o8 _ _ br.out (by omega) (by omega)).mono ?_
   rintro e w2 ⟨⟨y,mo,d,HD,rfl⟩,aX⟩;have bw:Hid (∀s,dueB s mo d (t % 1440 / 60) (t % 60) ((t / 1440+4) % 7)=dueT s t):=fun s=>lS HD
   have bm:0≤mo∧mo≤60:=by have:=HD.m1;have:=HD.m2;omega
   have bd:0≤d∧d≤60:=by have:=HD.d1;have:=HD.d2;have:=Cal.dim_lo y mo;omega
   have bg:=(HI.later aX).later (cw w2 (.cells #[.int .i64 y,.int .i64 mo,.int .i64 d,.int .i64 (t % 1440 / 60),.int .i64 (t % 60),.int .i64 ((t / 1440+4) % 7)] 194));have bj:=BlkAt.new w2 #[.int .i64 y,.int .i64 mo,.int .i64 d,.int .i64 (t % 1440 / 60),.int .i64 (t % 60),.int .i64 ((t / 1440+4) % 7)] 194;have cs:w.heap.size+1<w2.heap.size:=Nat.lt_of_lt_of_le HI.met.lt aX.size;clear HI aX HD br;go_upto_region 7 with fail;generalize w2.alloc (.cells #[.int .i64 y,.int .i64 mo,.int .i64 d,.int .i64 (t % 1440 / 60),.int .i64 (t % 60),.int .i64 ((t / 1440+4) % 7)] 194)=W3 at *;generalize w2.heap.size=dq at *;have aR:=Hq bg;have bo:=Hq bj;clear bg bj;go_wp2_with fail
   go_loopw [7,12] (fun v x bp=>∃(i:Int) (G:List (Nat×Int)) (f2:Nat→Bool),-1≤i∧i<(tn tab:Int)∧x=.int .i64 i∧Px.From (Bx.lns tab) m t (i+1).toNat G∧(G.length:Int)≤(m-t)*4+((tn tab:Int)-1-i)∧(∀k (h:k<(Bx.lns tab).length),f2 k=if i<(k:Int) then Px.metB (Bx.lns tab)[k] m (t-1) else Px.metB (Bx.lns tab)[k] m t)∧LfIn w bp v G f2∧BlkAt bp dq #[.int .i64 y,.int .i64 mo,.int .i64 d,.int .i64 (t % 1440 / 60),.int .i64 (t % 60),.int .i64 ((t / 1440+4) % 7)] 194) (fun _ x _=>(intOf x+1).toNat)
   case atStart=>
    refine⟨(tn tab:Int)-1,out,f,by omega,by omega,by go_num,?_,by omega,fun k h=>?_,aR.out,bo.out⟩
    ·have:((tn tab:Int)-1+1).toNat=tn tab:=by omega
     rw[this];exact aJ.out
    ·have:=ac.out;rw[if_neg (by omega)];exact ar.out k h
   case round=>
    clear aJ ar aR bo;obtain⟨i,G,f2,i1,i2,rfl,aW,cd,aF,J,aT⟩:=hrel;have ab:=Hq aW;have U:=Hq aF;have Q:=Hq aT;clear aW aF aT
    by_cases co:0≤i
    ·obtain⟨k,rfl⟩:∃k:Nat,i=(k:Int):=⟨i.toNat,by omega⟩
     have hk:k<tn tab:=by omega
     have ap:k<4:=by omega
     have Y:Hid (k<(Bx.lns tab).length):=by have:=ac.out;unfold Hid;omega
     obtain⟨bb,cc,sv,O,hla,bs⟩:=HL.out k hk
     obtain⟨aS,av,bW⟩:∃ad aU,sv=.slice ad (stps (tl tab k)).length aU:=by
      obtain⟨ad,aU,e,_⟩:=TRow.form bs;exact⟨ad,aU,e⟩
     subst bW;have L0:wr.cell? ⟨g,k*14,none⟩=some (.bool (Txt.opn (pt (tl tab k) 0))):=cell_later J.bel ((O 0 (by decide)).trans rfl)
     have L1:wr.cell? ⟨g,k*14+1,none⟩=some (.slice (some ⟨bb 0,0,none⟩) (Txt.pcs 44 (pt (tl tab k) 0)).length (cc 0)):=cell_later J.bel ((O 1 (by decide)).trans rfl)
     have L2:wr.cell? ⟨g,k*14+2,none⟩=some (.bool (Txt.opn (pt (tl tab k) 1))):=cell_later J.bel ((O 2 (by decide)).trans rfl)
     have L3:wr.cell? ⟨g,k*14+3,none⟩=some (.slice (some ⟨bb 1,0,none⟩) (Txt.pcs 44 (pt (tl tab k) 1)).length (cc 1)):=cell_later J.bel ((O 3 (by decide)).trans rfl)
     have L4:wr.cell? ⟨g,k*14+4,none⟩=some (.bool (Txt.opn (pt (tl tab k) 2))):=cell_later J.bel ((O 4 (by decide)).trans rfl)
     have L5:wr.cell? ⟨g,k*14+5,none⟩=some (.slice (some ⟨bb 2,0,none⟩) (Txt.pcs 44 (pt (tl tab k) 2)).length (cc 2)):=cell_later J.bel ((O 5 (by decide)).trans rfl)
     have L6:wr.cell? ⟨g,k*14+6,none⟩=some (.bool (Txt.opn (pt (tl tab k) 3))):=cell_later J.bel ((O 6 (by decide)).trans rfl)
     have L7:wr.cell? ⟨g,k*14+7,none⟩=some (.slice (some ⟨bb 3,0,none⟩) (Txt.pcs 44 (pt (tl tab k) 3)).length (cc 3)):=cell_later J.bel ((O 7 (by decide)).trans rfl)
     have L8:wr.cell? ⟨g,k*14+8,none⟩=some (.bool (Txt.opn (pt (tl tab k) 4))):=cell_later J.bel ((O 8 (by decide)).trans rfl)
     have L9:wr.cell? ⟨g,k*14+9,none⟩=some (.slice (some ⟨bb 4,0,none⟩) (Txt.pcs 44 (pt (tl tab k) 4)).length (cc 4)):=cell_later J.bel ((O 9 (by decide)).trans rfl)
     have az:wr.cell? ⟨g,k*14+10,none⟩=some (.bool (obt (pt (tl tab k) 5) 0==120)):=cell_later J.bel ((O 10 (by decide)).trans rfl)
     have aD:wr.cell? ⟨g,k*14+11,none⟩=some (.int .u8 (obt (pt (tl tab k) 5) 1)):=cell_later J.bel ((O 11 (by decide)).trans rfl)
     have aK:wr.cell? ⟨g,k*14+12,none⟩=some (.int .i64 (obt (pt (tl tab k) 5) 2-48)):=cell_later J.bel ((O 12 (by decide)).trans rfl)
     have aC:wr.cell? ⟨g,k*14+13,none⟩=some (.slice aS (stps (tl tab k)).length av):=cell_later J.bel ((O 13 (by decide)).trans rfl)
     have bk:=Hq (hla.later J.bel);have D0:wr.cell? ⟨dq,0,none⟩=some (.int .i64 y):=Q.out.cell 0 (show 0<6 by decide)
     have D1:wr.cell? ⟨dq,1,none⟩=some (.int .i64 mo):=Q.out.cell 1 (show 1<6 by decide)
     have D2:wr.cell? ⟨dq,2,none⟩=some (.int .i64 d):=Q.out.cell 2 (show 2<6 by decide)
     have D3:wr.cell? ⟨dq,3,none⟩=some (.int .i64 (t % 1440 / 60)):=Q.out.cell 3 (show 3<6 by decide)
     have D4:wr.cell? ⟨dq,4,none⟩=some (.int .i64 (t % 60)):=Q.out.cell 4 (show 4<6 by decide)
     have D5:wr.cell? ⟨dq,5,none⟩=some (.int .i64 ((t / 1440+4) % 7)):=Q.out.cell 5 (show 5<6 by decide)
     have cp:g<wr.heap.size:=World.block_lt_of_cell? _ _ L0;have cq:dq<wr.heap.size:=Q.out.lt;have bL:Hid ((tl tab k).size≤300):=fD bU k (by have:=eP tab;omega)
     have b0:(0:Int)≤(k:Int):=by omega
     have b1:(k:Int)<(tn tab:Int):=by omega
     have b5:(k:Int)<4:=by omega
     have b4:decide ((4:Int)≤(k:Int))=false:=decide_eq_false (by omega)
     have aE:Hid ((Bx.lns tab)[k]'Y.out=lnOf (tl tab k)):=sG tab k Y.out;obtain⟨x,hx⟩:∃x:Bool,x=dueB (tl tab k) mo d (t % 1440 / 60) (t % 60) ((t / 1440+4) % 7):=⟨_,rfl⟩;have HX:=Hq hx;have ah:Hid (((Bx.lns tab)[k]'Y.out).due t=x):=by unfold Hid;rw[aE.out,hx,bw.out];rfl
     have ay:=Hq J;clear O hla bs hx J;go_wp2_with fail
     go_region_held3 (fun w'=>∀b o,b<wr.heap.size→w'.cell? ⟨b,o,none⟩=wr.cell? ⟨b,o,none⟩)
      ((intro b' o' h1;first |(exact I.cell (p:=⟨b',o',none⟩) h1)|rfl))
      ((go_at_call 124;refine (tu (tl tab k) bb cc aS (stps (tl tab k)).length av _ _ _ _ _ _ _ x HX.out bL.out (HP.out k hk) ?hla bm.1 bm.2 bd.1 bd.2 (by omega) (by omega) (by omega) (by omega) (by omega) (by omega)).mono ?_;(case hla=>exact bk.out.later (Below.refl _ _).drew);rintro e w4 ⟨rfl,aP⟩;have I:Below wr.heap.size wr w4:=(Below.refl _ _).drew.trans aP))
     rename ∀(b o:Nat),b<wr.heap.size→w4.cell? ⟨b,o,none⟩=wr.cell? ⟨b,o,none⟩=>hSold
     clear hSold;have al:=ay.out.later I;have aq:=Q.out.later I
     have af:Hid (Px.From (Bx.lns tab) m t (k+1) G):=by
      have:=ab.out;rw[show ((k:Int)+1).toNat=k+1 by omega] at this;exact this
     have aH:Hid (f2 k=Px.metB ((Bx.lns tab)[k]'Y.out) m t):=by unfold Hid;rw[U.out k Y.out,if_neg (by omega)]
     have aQ:((k:Int)-1+1).toNat=k:=by omega
     cases x
     ·have Z:Hid (Px.From (Bx.lns tab) m t ((k:Int)-1+1).toNat G):=by unfold Hid;rw[aQ];exact af.out.no Y.out (Px.cnt_due ah.out)
      have V:Hid (∀j (h:j<(Bx.lns tab).length),f2 j=if (k:Int)-1<(j:Int) then Px.metB (Bx.lns tab)[j] m (t-1) else Px.metB (Bx.lns tab)[j] m t):=by
       intro j h
       by_cases q:j=k
       ·subst q;rw[if_pos (by omega),aH.out,Px.met_no ah.out]
       ·rw[U.out j h]
        by_cases q':(k:Int)<(j:Int)
        ·rw[if_pos q',if_pos (by omega)]
        ·rw[if_neg q',if_neg (by omega)]
      clear L0 L1 L2 L3 L4 L5 L6 L7 L8 L9 az aD aK aC D0 D1 D2 D3 D4 D5 aP I ay Q ab U af aH ah aE;go_wp2_with fail;go_roundw
      case rel=>exact⟨(k:Int)-1,G,f2,by omega,by omega,by go_num,Z.out,by omega,V.out,al,aq⟩
      case measure=>simp[intOf]
     ·have V:Hid (∀j (h:j<(Bx.lns tab).length),(if j=k then true else f2 j)=if (k:Int)-1<(j:Int) then Px.metB (Bx.lns tab)[j] m (t-1) else Px.metB (Bx.lns tab)[j] m t):=by
       intro j h
       by_cases q:j=k
       ·subst q;rw[if_pos rfl,if_pos (by omega),Px.met_yes ah.out t2]
       ·rw[if_neg q,U.out j h]
        by_cases q':(k:Int)<(j:Int)
        ·rw[if_pos q',if_pos (by omega)]
        ·rw[if_neg q',if_neg (by omega)]
      obtain⟨z,hz⟩:∃z:Bool,z=Px.cntB (obt (pt (tl tab k) 5) 1) (t==m) (f2 k):=⟨_,rfl⟩;have HZ:=Hq hz
      have aI:Hid (z=true↔Bx.Cnt ((Bx.lns tab)[k]'Y.out) m t):=by
       have:=Px.cnt_iff (m:=m) ah.out;unfold Hid;rw[←this,hz,aH.out];have e:((Bx.lns tab)[k]'Y.out).catch'=obt (pt (tl tab k) 5) 1:=by rw[aE.out];rfl
       rw[e]
      replace L0:=cell_later I L0;replace L1:=cell_later I L1;replace L2:=cell_later I L2;replace L3:=cell_later I L3;replace L4:=cell_later I L4;replace L5:=cell_later I L5;replace L6:=cell_later I L6;replace L7:=cell_later I L7;replace L8:=cell_later I L8;replace L9:=cell_later I L9;replace az:=cell_later I az;replace aD:=cell_later I aD;replace aK:=cell_later I aK;replace aC:=cell_later I aC;obtain⟨mc,mf⟩:=al.met.cell k ap;have cm:g<w4.heap.size:=World.block_lt_of_cell? _ _ L0;have cb:w.heap.size+1<w4.heap.size:=al.met.lt;have aO:=Hq al;have aB:=Hq aq;clear D0 D1 D2 D3 D4 D5 aP I ay Q ab U aH ah aE hz al aq HX bk;go_wp2_with fail
      go_region_held3 (fun w'=>∀b o,b<w4.heap.size→w'.cell? ⟨b,o,none⟩=w4.cell? ⟨b,o,none⟩)
       ((intro b' o' h1;first |(exact aG.cell (p:=⟨b',o',none⟩) h1)|rfl))
       ((go_at_call 125;refine (pA (tl tab k) bb cc aS (stps (tl tab k)).length av (t==m) (f2 k) _ z HZ.out).mono ?_;rintro e w5 ⟨rfl,bh⟩;have aG:Below w4.heap.size w4 w5:=(Below.refl _ _).drew.trans bh))
      rename ∀(b o:Nat),b<w4.heap.size→w5.cell? ⟨b,o,none⟩=w4.cell? ⟨b,o,none⟩=>hSold
      clear hSold;have aa:=aO.out.later aG;have aj:=aB.out.later aG;clear L0 L1 L2 L3 L4 L5 L6 L7 L8 L9 az aD aK aC mc mf bh aG aO aB HZ
      cases z
      ·have Z:Hid (Px.From (Bx.lns tab) m t ((k:Int)-1+1).toNat G):=by unfold Hid;rw[aQ];exact af.out.no Y.out (fun h=>by have:=aI.out.2 h;cases this)
       obtain⟨mc,mf⟩:=aa.met.cell k ap;have ce:w.heap.size+1<w5.heap.size:=aa.met.lt;have ag:=aa.met' k ap;have ai:=aj.other (M:=w.heap.size+1) (by omega) k (.bool true)
       clear aa aj af aI;go_wp2_with fail;go_roundw
       case rel=>exact⟨(k:Int)-1,G,_,by omega,by omega,by go_num,Z.out,by omega,V.out,ag,ai⟩
       case measure=>first |(simp[intOf];done)|(simp[intOf];omega)
      ·have Z:Hid (Px.From (Bx.lns tab) m t ((k:Int)-1+1).toNat ((k,t)::G)):=by unfold Hid;rw[aQ];exact af.out.yes Y.out t2 (aI.out.1 rfl)
       have a3:Hid (w5.ownsRow w.heap.size 141 2 _ G.length (G.reverse.flatMap arC)):=aa.own;have bQ:Hid (w.heap.size≤w5.heap.size):=aa.bel.size;have b7:G.length≤10000:=by omega
       go_wp2_with (at_builtin;refine wpList_append_lies _ rfl (.tmp 58) (.tmp 63) 137 rfl w.heap.size 141 i0 (.agg #[.int .i64 0,.int .i64 0]) 2 16 Tryz.underlying137 bC bR bX bI rfl (by decide) _ _ _ rfl (a3.out.alloc _) ⟨w5.heap.size,0,none⟩ 1 1 (arC (k,t)) rfl rfl (rY _ _ _ _) (ri _) (by decide) ?c3 ?c4 ?c5 _ rfl ?_)
       case c3=>unfold maxLen;omega
       case c4=>omega
       case c5=>have:=bQ.out;simp;omega
       ·intro g' cj w6 aA ak _ ca;have ag:=(aa.later (cw w5 (.cells #[.int .i64 ((k:Int)+1),.int .i64 t] 141))).app (p:=(k,t)) ak (by simpa using aA)
        have ai:=(aj.later (cw w5 (.cells #[.int .i64 ((k:Int)+1),.int .i64 t] 141))).grown (a3.out.alloc _) ak (by decide)
        obtain⟨mc,mf⟩:=ag.met.cell k ap;have ck:w.heap.size+1<w6.heap.size:=ag.met.lt;have bO:=ag.met' k ap;have bE:=ai.other (M:=w.heap.size+1) (by omega) k (.bool true)
        clear aA ak aa aj ag ai af aI a3;go_wp2_with fail;go_roundw
        case rel=>exact⟨(k:Int)-1,(k,t)::G,_,by omega,by omega,by go_num,Z.out,by simp;omega,V.out,bO,bE⟩
        case measure=>first |(simp[intOf];done)|(simp[intOf];omega)
    ·have bS:i= -1:=by omega
     have Z:Hid (Px.From (Bx.lns tab) m (t-1) (tn tab) G):=by
      have:=ab.out;rw[show (i+1).toNat=0 by omega] at this
      have q:=this.down;rw[ac.out] at q;exact q
     have V:Hid (∀j (h:j<(Bx.lns tab).length),f2 j=Px.metB (Bx.lns tab)[j] m (t-1)):=fun j h=>by rw[U.out j h,if_pos (by omega)]
     clear ab U Q bS;go_wp2_with fail;go_roundw
     case rel=>exact⟨t-1,G,f2,by omega,by omega,by go_num,Z.out,by omega,V.out,J⟩
     case measure=>first |(simp[intOf];done)|(simp[intOf];omega)
  ·have HE:Hid (out=Bx.comes (Bx.lns tab) a m):=by
    have:=aJ.out;rw[show t=a-1 by omega,←ac.out] at this
    exact this.done
   have bq:=HI.own;rw[HE.out] at bq;have bV:Hid (Below w.heap.size w wr):=HI.bel;clear HI aJ ar;go_wp2_with fail;go_ret;exact⟨⟨_,rfl,bq⟩,bV.out⟩
end Go.Proofs.YtdajolpoiffimabGreatDoor
