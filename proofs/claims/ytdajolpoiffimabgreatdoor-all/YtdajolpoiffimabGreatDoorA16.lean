import Derived.Deep.RegionHeld3
import Derived.Test.YtdajolpoiffimabGreatDoorA14

namespace Go.Proofs.YtdajolpoiffimabGreatDoor
open Go.RowKit
theorem tF {w:World}{a b q o1 o2 o3:Nat}{u v x:Value} (h1:w.cell? ⟨a,o1,none⟩=some u) (h2:w.cell? ⟨b,o2,none⟩=some v) (n1:a≠q) (n2:b≠q):
 (w.setCell ⟨q,o3,none⟩ x).drew.cell? ⟨a,o1,none⟩=some u∧(w.setCell ⟨q,o3,none⟩ x).drew.cell? ⟨b,o2,none⟩=some v:=
 ⟨(World.cell?_setCell_other _ _ _ _ (fun e=>n1 (by cases e;rfl))).trans h1,(World.cell?_setCell_other _ _ _ _ (fun e=>n2 (by cases e;rfl))).trans h2⟩
set_option maxRecDepth 10000 in
set_option maxHeartbeats 0 in
theorem fS (s:Px.St) (n:Int) (sl en:Value) (w:World) (hO:Px.Ok s) (hT:TabLH w) (hS:PAt w s sl en):
 Calls Tryz.prog 50 #[pstV s sl en,.int .i64 n] w fun e w'=>ChgR (Px.failP s n) w' e∧Below w.heap.size w w':=by
 obtain⟨ad,aa,rfl,cz⟩:=hS.sl.form;obtain⟨J,G,rfl,cs⟩:=hS.en.form;have HO:=Hq hO;have hl:s.slots.length≤10000:=by have:=hO.len;omega
 have he:s.ends.length≤10000:=by have:s.ends.length≤6:=hO.st.en;omega
 have cL: -1≤s.clock:=hO.st.c1;have cS:s.clock≤4223371679:=hO.st.c2;have HS:=Hq hS;have hP:=PRes.new w s (.slice ad s.slots.length aa) (.slice J s.ends.length G);clear hS hO
 go_enter Tryz.func50,Tryz.ntmps50
 go_upto_region 1 with fail;generalize (w.alloc (pstO s (.slice ad s.slots.length aa) (.slice J s.ends.length G))).alloc pzO=W at *;have br:=Hq (HS.out.later hP.bel);have HT:=Hq (hT.later hP.bel);have HP:=Hq hP;obtain⟨i0,i1,i2,i3,i4⟩:=hP.st;clear hP hT;go_wp2_with fail;refine (fB s n _ _ _ hl br.out).mono ?_;rintro e w1 ⟨hF,aQ⟩;clear i0 i1 i2 i3 i4;have ar:=HP.out.later aQ;have bo:=br.out.later aQ;have bn:=HT.out.later aQ;clear HP br aQ HT
 rcases hF with ⟨x,hf,rfl⟩|⟨hf,rfl⟩
 rotate_left
 ·have HM:Hid (Px.failP s n=(Px.st0,8)):=by unfold Hid Px.failP;rw[hf]
  clear hf;generalize Px.sl0=x at *;have aN:=ar.later (dx w1 (psO x));clear ar bo bn;go_upto_region 2 with fail;generalize w1.alloc (psO x)=W2 at *;obtain⟨⟨⟨u0,r0⟩,f0⟩,⟨⟨u1,r1⟩,f1⟩,⟨⟨u2,r2⟩,f2⟩,⟨⟨u3,r3⟩,f3⟩,⟨⟨u4,r4⟩,f4⟩⟩:=aN.five;have a2:Hid (Below w.heap.size w W2):=aN.bel;clear aN;go_wp2_with fail;refine bodyPost_ret (v:=.tuple #[.agg #[.string {data:= #[]},.int .i64 0,.int .i64 0,.slice none 0 0,.slice none 0 0],.int .i64 8]) (by simp[results,Tryz.results50,go_sem,r0,r1,r2,r3,r4]) rfl ⟨ChgR.err HM.out,dF a2.out (by omega) _ _ _ _ _⟩
 have bA:=Hq hf;have a6:x∈s.slots:=List.mem_of_find?_eq_some hf;have bZ:Hid _:=HO.out.each a6;obtain⟨cO,bT,cT,cb,b7,cp⟩:=bZ.out;have ce:x.att≤5:=HO.out.st.att5 (List.mem_map.2 ⟨x,a6,rfl⟩:Px.absS x∈_);obtain⟨j,hj⟩:∃j:Nat,x.line=(j:Int)+1:=⟨(x.line-1).toNat,by omega⟩
 have cr:j<tn s.tab:=by omega
 have HJ:=Hq hj;have bJ:=ar.later (dx w1 (psO x));have bD:=bo.later (dx w1 (psO x));have bv:=bn.later (dx w1 (psO x));have bC:=PsIn.new w1 x;have cQ:w.heap.size+1<w1.heap.size:=ar.lt;clear ar bo bn hf cp cb a6 hj bT;go_upto_region 2 with fail;generalize w1.alloc (psO x)=W2 at *;generalize w1.heap.size=xq at *;have a9:=Hq bJ;have a5:=Hq bD;have bc:=Hq bv;have bG:=Hq bC;obtain⟨x0,x1,x2,x3,x4,x5,x6,x7⟩:=bC;clear bJ bD bv;go_wp2_with fail;refine (ez x W2).mono ?_;rintro e w3 ⟨rfl,ap⟩;clear x0 x1 x2 x3 x4 x5 x6 x7;have O:=a9.out.later ap;have aM:=Hq (a5.out.later ap);have a7:=Hq (bc.out.later ap);have aE:=Hq (bG.out.later ap);clear a9 a5 bc bG ap
 cases hr:decide (0<x.step)
 ·have HM:Hid (Px.failP s n=(Px.st0,9)):=by unfold Hid Px.failP;rw[bA.out];simp only;rw[if_pos (by have:=of_decide_eq_false hr;omega)]
  clear hr;obtain⟨⟨⟨u0,r0⟩,f0⟩,⟨⟨u1,r1⟩,f1⟩,⟨⟨u2,r2⟩,f2⟩,⟨⟨u3,r3⟩,f3⟩,⟨⟨u4,r4⟩,f4⟩⟩:=O.five;have a2:Hid (Below w.heap.size w w3):=O.bel;clear O;go_wp2_with fail;refine bodyPost_ret (v:=.tuple #[.agg #[.string {data:= #[]},.int .i64 0,.int .i64 0,.slice none 0 0,.slice none 0 0],.int .i64 9]) (by simp[results,Tryz.results50,go_sem,r0,r1,r2,r3,r4]) rfl ⟨ChgR.err HM.out,dF a2.out (by omega) _ _ _ _ _⟩
 have b3:0<x.step:=of_decide_eq_true hr
 have aU:Hid (Px.failP s n=if obt (pt (tl s.tab j) 5) 2-48≤x.att then (Px.ended s n ⟨#[97]⟩,0) else ({s with slots:=Px.repl s.slots (Px.again s x)},0)):=by
  unfold Hid Px.failP;rw[bA.out];simp only;rw[if_neg (by omega),rg]
  have:Px.opt s x.line 2=obt (pt (tl s.tab j) 5) 2:=by
   unfold Px.opt;rw[HJ.out,show ((j:Int)+1-1).toNat=j by omega];rfl
  rw[this]
 clear hr b3;obtain⟨i0,i1,i2,i3,i4⟩:=O.st;obtain⟨x0,x1,x2,x3,x4,x5,x6,x7⟩:=aE.out;have aZ:=Hq O;clear O;go_wp2_with fail;refine (gd s x.line j _ _ _ HJ.out cr HO.out.st.tab a7.out aM.out).mono ?_;rintro e w4 ⟨⟨v,rfl,bb,cc,av,Y,rfl,_,_⟩,aS⟩;clear i0 i1 i2 i3 i4 x0 x1 x2 x3 x4 x5 x6 x7;have bw:(w4.alloc (lnO (tl s.tab j) bb cc av Y)).cell? ⟨w4.heap.size,12,none⟩=some (.int .i64 (obt (pt (tl s.tab j) 5) 2-48)):=by simp[go_sem]
 have ba:=(aZ.out.later aS).later (dx w4 (lnO (tl s.tab j) bb cc av Y));have bH:=(aM.out.later aS).later (dx w4 (lnO (tl s.tab j) bb cc av Y));have bx:=(aE.out.later aS).later (dx w4 (lnO (tl s.tab j) bb cc av Y));clear aZ aM a7 aE aS;go_upto_region 7 with fail;generalize w4.alloc (lnO (tl s.tab j) bb cc av Y)=W5 at *;generalize w4.heap.size=lq at *;generalize obt (pt (tl s.tab j) 5) 2-48=bX at *;have ah:=Hq ba;have al:=Hq bH;have aG:=Hq bx;obtain⟨i0,i1,i2,i3,i4⟩:=ba.st;obtain⟨x0,x1,x2,x3,x4,x5,x6,x7⟩:=bx;clear ba bH
 by_cases ha:bX≤x.att
 ·have HM:Hid (Px.failP s n=(Px.ended s n ⟨#[97]⟩,0)):=by unfold Hid;rw[aU.out,if_pos ha]
  clear aU;go_wp2_with fail;refine (hJ s n ⟨#[97]⟩ _ _ _ hl he al.out).mono ?_;rintro e d ⟨⟨cN,cM,rfl,ak⟩,V⟩;clear i0 i1 i2 i3 i4 x0 x1 x2 x3 x4 x5 x6 x7 bw;have aj:=ah.out.later V;obtain⟨cd,bU,bY,_⟩:=ak.sl.form;obtain⟨ck,bS,b6,_⟩:=ak.en.form;subst bY b6;have H4:=Hq ak;have b0:Hid (Typed d (w.heap.size+1) 77):=aj.ty;have cq:Hid (Below w.heap.size w d):=aj.bel;obtain⟨⟨⟨u0,r0⟩,f0⟩,⟨⟨u1,r1⟩,f1⟩,⟨⟨u2,r2⟩,f2⟩,⟨⟨u3,r3⟩,f3⟩,⟨⟨u4,r4⟩,f4⟩⟩:=aj.five;clear ak V aj ah al aG;go_wp2_with fail;refine bodyPost_ret (v:=.tuple #[pstV (Px.ended s n ⟨#[97]⟩) (.slice cd (Px.ended s n ⟨#[97]⟩).slots.length bU) (.slice ck (Px.ended s n ⟨#[97]⟩).ends.length bS),.int .i64 0]) (by simp[results,Tryz.results50,go_sem,r0,r1,r2,r3,r4]) rfl ⟨ChgR.ok HM.out (H4.out.store b0.out _ _ _ _ _),dF cq.out (by omega) _ _ _ _ _⟩
 ·have HM:Hid (Px.failP s n=({s with slots:=Px.repl s.slots (Px.again s x)},0)):=by unfold Hid;rw[aU.out,if_neg ha]
  clear aU;have cK:=Px.delay_bd' x.att;have q1:IntKind.i64.wrap (s.clock+Bx.delay x.att)=s.clock+Bx.delay x.att:=by rw[IntKind.wrap_i64];omega
  have q2:IntKind.i64.wrap (x.att+1)=x.att+1:=by rw[IntKind.wrap_i64];omega
  go_wp2_with fail;refine (lm x _).mono ?_;rintro e d ⟨rfl,V⟩;have aT:=ah.out.later V;have bI:=al.out.later V;have bq:=aG.out.later V;have cR:xq<d.heap.size:=World.block_lt_of_cell? _ _ bq.c3;have cP:w.heap.size+1<d.heap.size:=aT.lt;clear V ah al aG i0 i1 i2 i3 i4 x0 x1 x2 x3 x4 x5 x6 x7 bw;have aP:=dx d (psO {waitS x with att:=x.att+1});have bE:=(aT.later aP).st.c1;have bF:=(bq.later aP).c3;obtain⟨x0,x1,x2,x3,x4,x5,x6,x7⟩:=bq;go_upto_region 11 with fail;clear x0 x1 x2 x3 x4 x5 x6 x7;have bh:Hid (Below d.heap.size d ((d.alloc (psO {waitS x with att:=x.att+1})).setCell ⟨d.heap.size,4,none⟩ (.int .i64 (s.clock+Bx.delay x.att)))):=aP.setCell (by simp) _
  have aR:Hid (PsIn ((d.alloc (psO {waitS x with att:=x.att+1})).setCell ⟨d.heap.size,4,none⟩ (.int .i64 (s.clock+Bx.delay x.att))) d.heap.size (Px.again s x)):=⟨by simp[go_sem,waitS,Px.again],by simp[go_sem,waitS,Px.again],by simp[go_sem,waitS,Px.again],by simp[go_sem,waitS,Px.again],by simp[go_sem,waitS,Px.again],by simp[go_sem,waitS,Px.again],by simp[go_sem,waitS,Px.again],by simp[go_sem,waitS,Px.again]⟩
  have y4:(d.alloc (psO {waitS x with att:=x.att+1})).cell? ⟨d.heap.size,4,none⟩=some (.int .i64 x.frm):=by simp[go_sem,waitS]
  have g4:(d.alloc (psO {waitS x with att:=x.att+1})).frozen? ⟨d.heap.size,4,none⟩=false:=by simp[go_sem]
  have cf:w.heap.size≠d.heap.size:=by omega
  have co:xq≠d.heap.size:=by omega
  have cI:d.heap.size<(d.alloc (psO {waitS x with att:=x.att+1})).heap.size:=by simp
  generalize d.alloc (psO {waitS x with att:=x.att+1})=W7 at *;have bm:=Hq aT;have bg:=Hq bI;clear aT bI aP;go_wp2_with fail
  go_region_held3 (fun w'=>w'.cell? ⟨w.heap.size,1,none⟩=some (.int .i64 s.clock)∧w'.cell? ⟨xq,3,none⟩=some (.int .i64 x.att)) ((first |exact tF bE bF cf co|go_keep))
   (first
    | (go_at_call 95;refine (nx _ _ b7 ce).mono ?_;rintro e w8 ⟨rfl,rfl⟩))
  have aO:=(bm.out.later bh.out).later (Below.refl _ _).drew;have bz:=(bg.out.later bh.out).later (Below.refl _ _).drew;have aR:=aR.out.later (Below.refl _ _).drew;clear bm bg bh y4 g4 bE bF;generalize d.heap.size=aq at *;generalize (W7.setCell ⟨aq,4,none⟩ (.int .i64 (s.clock+Bx.delay x.att))).drew=W7 at *;generalize Px.again s x=y at *;have bf:=aO.later (dx W7 (pstO s (.slice ad s.slots.length aa) (.slice J s.ends.length G)));have bB:=bz.later (dx W7 (pstO s (.slice ad s.slots.length aa) (.slice J s.ends.length G)));have b8:=aR.later (dx W7 (pstO s (.slice ad s.slots.length aa) (.slice J s.ends.length G)));have hA:=PW.new W7 s (.slice ad s.slots.length aa) (.slice J s.ends.length G);have cm:=aO.lt;obtain⟨i0,i1,i2,i3,i4⟩:=aO.st;clear bz aR;go_upto_region 13 with fail;clear i0 i1 i2 i3 i4 aO;generalize W7.alloc (pstO s (.slice ad s.slots.length aa) (.slice J s.ends.length G))=W8 at *;generalize W7.heap.size=q at *;have aY:=Hq bf;have aJ:=Hq bB;have bt:=Hq hA;obtain⟨i0,i1,i2,i3,i4⟩:=bf.st;obtain⟨y0,y1,y2,y3,y4,y5,y6,y7⟩:=b8;clear bf bB hA;go_wp2_with fail;refine (fE s.slots y _ _ hl aJ.out.sl.1).mono ?_;rintro e w9 ⟨⟨v9,rfl,ai⟩,aV⟩;clear i0 i1 i2 i3 i4 y0 y1 y2 y3 y4 y5 y6 y7;obtain⟨U,I,ca,_⟩:=(RowAt.of_own ai).form;subst ca;have Q:=bt.out.later aV;have a3:=Q.st.c3;have b4:=Q.f 3 (by decide)
  have cJ:=Q.ty.lt;have Z:=(aY.out.later aV).set cm 3 (.slice U (Px.repl s.slots y).length I);have aF:=Q.slots (Px.repl s.slots y) (.slice U (Px.repl s.slots y).length I);have a8:=((aJ.out.later aV).set Q.ty (by decide) (by decide) 3 (.slice U (Px.repl s.slots y).length I)).en
  have bs:=(TRow.of_own ai).set Q.ty (by decide) 3 (.slice U (Px.repl s.slots y).length I)
  clear Q ai aV aY aJ bt;go_upto_region 14 with fail;clear a3 b4;generalize w9.setCell ⟨q,3,none⟩ (.slice U (Px.repl s.slots y).length I)=cj at *;have HX:Hid (PEnd w cj q {s with slots:=Px.repl s.slots y} (.slice U (Px.repl s.slots y).length I) (.slice J s.ends.length G)):=⟨aF,⟨bs,a8⟩,Z.z,Z.ty,Z.bel⟩;obtain⟨⟨⟨u0,r0⟩,f0⟩,⟨⟨u1,r1⟩,f1⟩,⟨⟨u2,r2⟩,f2⟩,⟨⟨u3,r3⟩,f3⟩,⟨⟨u4,r4⟩,f4⟩⟩:=Z.five;obtain⟨c0,c1,c2,c3,c4⟩:=aF.st;clear Z aF a8 bs;go_wp2_with fail;refine bodyPost_ret (v:=.tuple #[pstV {s with slots:=Px.repl s.slots y} (.slice U (Px.repl s.slots y).length I) (.slice J s.ends.length G),.int .i64 0]) (by simp[results,Tryz.results50,go_sem,r0,r1,r2,r3,r4]) rfl ⟨ChgR.ok HM.out (HX.out.fin _ _ _ _ _).1,(HX.out.fin _ _ _ _ _).2⟩
def AnsB (e:Ending) (P:Prop):Prop:=∃b,e=.returned (.bool b)∧(b=true↔P)
theorem AnsB.yes {P:Prop} (h:P):AnsB (.returned (.bool true)) P:=⟨true,rfl,⟨fun _=>h,fun _=>rfl⟩⟩
theorem dD {h:ByteArray}{l:List UInt8} (e:¬h=⟨l.toArray⟩):(h.toList==l)=false:=by
 cases q:(h.toList==l)
 ·rfl
 ·have:h.toList=l:=by simpa using q
  rw[ByteArray.toList_eq] at this;exact (e (Bx.ba_ext (by simpa using this))).elim
theorem AnsB.no {P:Prop} (h:¬P):AnsB (.returned (.bool false)) P:=⟨false,rfl,⟨fun e=>(by cases e),fun e=>(h e).elim⟩⟩
set_option maxHeartbeats 0 in
theorem o4 (h:ByteArray) (w:World):Calls Tryz.prog 193 #[.string h] w fun e V=>AnsB e (h=Bx.hD∨h=Bx.hA∨h=Bx.hK∨h=Bx.hS)∧V=w:=by
 have Q:Hid (Bx.hD=⟨#[100]⟩):=rfl;have O:Hid (Bx.hA=⟨#[97]⟩):=rfl;have U:Hid (Bx.hK=⟨#[107]⟩):=rfl;have I:Hid (Bx.hS=⟨#[115]⟩):=rfl
 by_cases h1:h=⟨#[100]⟩
 ·subst h1
  go_enter Tryz.func193,Tryz.ntmps193
  go_wp2_with fail;go_ret;exact⟨AnsB.yes (Or.inl rfl),rfl⟩
 by_cases h2:h=⟨#[97]⟩
 ·subst h2
  go_enter Tryz.func193,Tryz.ntmps193
  go_wp2_with fail;go_ret;exact⟨AnsB.yes (Or.inr (Or.inl rfl)),rfl⟩
 by_cases d:h=⟨#[107]⟩
 ·subst d
  go_enter Tryz.func193,Tryz.ntmps193
  go_wp2_with fail;go_ret;exact⟨AnsB.yes (Or.inr (Or.inr (Or.inl rfl))),rfl⟩
 by_cases G:h=⟨#[115]⟩
 ·subst G
  go_enter Tryz.func193,Tryz.ntmps193
  go_wp2_with fail;go_ret;exact⟨AnsB.yes (Or.inr (Or.inr (Or.inr rfl))),rfl⟩
 have J:Hid (¬(h=Bx.hD∨h=Bx.hA∨h=Bx.hK∨h=Bx.hS)):=by
  rintro (q|q|q|q)
  ·exact h1 (q.trans Q.out)
  ·exact h2 (q.trans O.out)
  ·exact d (q.trans U.out)
  ·exact G (q.trans I.out)
 have t1:=dD (l:=[100]) h1;have Z:=dD (l:=[97]) h2;have t3:=dD (l:=[107]) d;have Y:=dD (l:=[115]) G;clear h1 h2 d G
 go_enter Tryz.func193,Tryz.ntmps193
 go_wp2_with fail;go_ret;exact⟨AnsB.no J.out,rfl⟩
def cntS (l:List Px.Sl) (n:Int) (k:Nat):Nat:=((l.take k).filter fun x=>x.num==n).length
def cntE (l:List Bx.En) (n:Int) (k:Nat):Nat:=((l.take k).filter fun x=>x.num==n).length
theorem mg {α:Type}{l:List α}{p:α→Bool}{k:Nat} (h:k<l.length) (e:p l[k]=true):((l.take (k+1)).filter p).length=((l.take k).filter p).length+1:=by
 rw[List.take_succ_eq_append_getElem h,List.filter_append,List.filter_cons_of_pos e];simp
theorem oV {α:Type}{l:List α}{p:α→Bool}{k:Nat} (h:k<l.length) (e:p l[k]=false):((l.take (k+1)).filter p).length=((l.take k).filter p).length:=by
 rw[List.take_succ_eq_append_getElem h,List.filter_append,List.filter_cons_of_neg (by rw[e];simp)];simp
theorem nQ {α:Type} (l:List α) (p:α→Bool) (k:Nat):((l.take k).filter p).length≤k:=by
 have:=List.length_filter_le p (l.take k);simp at this ⊢;omega
def timesP (s:Px.St) (n:Int):Nat:=(s.slots.filter fun x=>x.num==n).length+(s.ends.filter fun x=>x.num==n).length
set_option maxRecDepth 10000 in
set_option maxHeartbeats 0 in
theorem oW (s:Px.St) (n:Int) (sl en:Value) (w:World) (hl:s.slots.length≤10000) (aB:s.ends.length≤10000) (hS:PAt w s sl en):
 Calls Tryz.prog 194 #[pstV s sl en,.int .i64 n] w fun e w'=>e=.returned (.int .i64 (timesP s n:Nat))∧Below w.heap.size w w':=by
 obtain⟨ad,U,rfl,ap⟩:=hS.sl.form;obtain⟨V,I,rfl,ai⟩:=hS.en.form;have HR:=Hq hS.sl.1;have Y:=Hq hS.en.1;clear hS;have J:=dx w (pstO s (.slice ad s.slots.length U) (.slice V s.ends.length I));have hI:=PIn.new w s (.slice ad s.slots.length U) (.slice V s.ends.length I)
 go_enter Tryz.func194,Tryz.ntmps194
 go_upto_region 1 with fail;generalize w.alloc (pstO s (.slice ad s.slots.length U) (.slice V s.ends.length I))=W at *;have HB:=Hq J;have ah:=Hq (HR.out.later J);have ag:=Hq (Y.out.later J);have i3:=hI.c3;have i4:=hI.c4;clear hI J HR Y;go_wp2_with fail
 go_loop [5,6] (fun c i=>∃k:Nat,k≤s.slots.length∧i=.int .i64 k∧c=.int .i64 (cntS s.slots n k:Nat)) (fun _ i=>s.slots.length-(intOf i).toNat)
 case atStart=>exact⟨0,Nat.zero_le _,rfl,rfl⟩
 case round=>
  obtain⟨k,hk,rfl,rfl⟩:=hrel;have aA:cntS s.slots n k≤k:=nQ _ _ _
  by_cases d:k<s.slots.length
  ·obtain⟨b,Z,ae,hv,_,O⟩:=ah.out.some' (by omega)
   cases hv
   obtain⟨d0,d1,d2,d3,d4,d5,d6,d7⟩:=ej O k d;clear O d1 d2 d3 d4 d5 d6 d7;have b1:(0:Int)≤(k:Int):=by omega
   have b2:(k:Int)<(s.slots.length:Int):=by omega
   cases Q:(s.slots[k].num==n)
   ·have G:Hid (cntS s.slots n (k+1)=cntS s.slots n k):=oV d Q;generalize s.slots[k]=x at *;generalize cntS s.slots n k=r at *;go_wp2_with fail
    go_round
    case rel=>exact⟨k+1,by omega,by go_num,by rw[G.out]⟩
    case measure=>simp[intOf];omega
   ·have G:Hid (cntS s.slots n (k+1)=cntS s.slots n k+1):=mg d Q;generalize s.slots[k]=x at *;generalize cntS s.slots n k=r at *;go_wp2_with fail
    go_round
    case rel=>exact⟨k+1,by omega,by go_num,by rw[G.out];go_num⟩
    case measure=>simp[intOf];omega
  ·obtain rfl:k=s.slots.length:=by omega
   have HC:Hid (cntS s.slots n s.slots.length=(s.slots.filter fun x=>x.num==n).length):=by unfold Hid cntS;rw[List.take_length]
   generalize cntS s.slots n s.slots.length=r at *;go_wp2_with fail
   go_loop [5,7] (fun c i=>∃k:Nat,k≤s.ends.length∧i=.int .i64 k∧c=.int .i64 ((r+cntE s.ends n k:Nat):Int)) (fun _ i=>s.ends.length-(intOf i).toNat)
   case atStart=>exact⟨0,Nat.zero_le _,rfl,rfl⟩
   case round=>
    obtain⟨k,hk,rfl,rfl⟩:=hrel;have aj:cntE s.ends n k≤k:=nQ _ _ _
    by_cases d:k<s.ends.length
    ·obtain⟨b,Z,ae,hv,_,O⟩:=ag.out.some' (by omega)
     cases hv
     have d0:W.cell? ⟨b,Z+k*2,none⟩=some (.int .i64 s.ends[k].num):=RowAt.cell ek O k d 0 (by decide)
     clear O;have b1:(0:Int)≤(k:Int):=by omega
     have b2:(k:Int)<(s.ends.length:Int):=by omega
     cases Q:(s.ends[k].num==n)
     ·have G:Hid (cntE s.ends n (k+1)=cntE s.ends n k):=oV d Q;generalize s.ends[k]=x at *;generalize cntE s.ends n k=r2 at *;go_wp2_with fail
      go_round
      case rel=>exact⟨k+1,by omega,by go_num,by rw[G.out]⟩
      case measure=>simp[intOf];omega
     ·have G:Hid (cntE s.ends n (k+1)=cntE s.ends n k+1):=mg d Q;generalize s.ends[k]=x at *;generalize cntE s.ends n k=r2 at *;go_wp2_with fail
      go_round
      case rel=>exact⟨k+1,by omega,by go_num,by rw[G.out];go_num⟩
      case measure=>simp[intOf];omega
    ·obtain rfl:k=s.ends.length:=by omega
     have G:Hid (r+cntE s.ends n s.ends.length=timesP s n):=by unfold Hid timesP;rw[←HC.out];unfold cntE;rw[List.take_length]
     go_wp2_with fail;go_ret;exact⟨dS (by rw[←G.out];simp),HB.out⟩
def FromP (s:Px.St) (x:Px.Sl):Prop:=(x.att=1→x.frm=x.minute)∧(¬x.att=1→x.minute<x.frm∧x.frm≤s.clock+10)
set_option maxHeartbeats 0 in
theorem ol (s:Px.St) (x:Px.Sl) (sl en:Value) (w:World) (c1: -1≤s.clock) (c2:s.clock≤4223371679) (hS:PAt w s sl en):
 Calls Tryz.prog 211 #[pstV s sl en,psV x] w fun e w'=>AnsB e (FromP s x)∧Below w.heap.size w w':=by
 obtain⟨O,I,rfl,ae⟩:=hS.sl.form;obtain⟨J,d,rfl,ac⟩:=hS.en.form;clear hS;have Y:=(dx w (pstO s (.slice O s.slots.length I) (.slice J s.ends.length d))).alloc (by simp) (psO x)
 have Z:=(PIn.new w s (.slice O s.slots.length I) (.slice J s.ends.length d)).later (dx _ (psO x));have V:=PsIn.new (w.alloc (pstO s (.slice O s.slots.length I) (.slice J s.ends.length d))) x;have hz:(w.alloc (pstO s (.slice O s.slots.length I) (.slice J s.ends.length d))).heap.size=w.heap.size+1:=by simp
 rw[hz] at V
 go_enter Tryz.func211,Tryz.ntmps211
 go_upto_region 1 with fail;clear hz;generalize (w.alloc (pstO s (.slice O s.slots.length I) (.slice J s.ends.length d))).alloc (psO x)=W at *;have U:=Hq Y;have i1:=Z.c1;have x2:=V.c2;have x3:=V.c3;have x4:=V.c4;clear Z V Y
 by_cases Q:x.att=1
 ·cases hf:(x.frm==x.minute)
  ·have G:Hid (¬FromP s x):=fun q=>by have:=q.1 Q;simp[this] at hf
   go_wp2_with fail;go_ret;exact⟨AnsB.no G.out,U.out⟩
  ·have G:Hid (FromP s x):=⟨fun _=>by simpa using hf,fun q=>(q Q).elim⟩
   go_wp2_with fail;go_ret;exact⟨AnsB.yes G.out,U.out⟩
 ·by_cases h1:x.minute<x.frm
  ·by_cases h2:x.frm≤s.clock+10
   ·have G:Hid (FromP s x):=⟨fun q=>(Q q).elim,fun _=>⟨h1,h2⟩⟩
    go_wp2_with fail;go_ret;exact⟨AnsB.yes G.out,U.out⟩
   ·have G:Hid (¬FromP s x):=fun q=>h2 (q.2 Q).2
    go_wp2_with fail;go_ret;exact⟨AnsB.no G.out,U.out⟩
  ·have G:Hid (¬FromP s x):=fun q=>h1 (q.2 Q).1
   go_wp2_with fail;go_ret;exact⟨AnsB.no G.out,U.out⟩
abbrev ln0:List Value:=[.bool false,.slice none 0 0,.bool false,.slice none 0 0,.bool false,.slice none 0 0,.bool false,.slice none 0 0,.bool false,.slice none 0 0,.bool false,.int .u8 0,.int .i64 0,.slice none 0 0]
theorem ix {n R:Nat}{w J:World} (h:Below n w J) (hR:n≤R) (v0 v1 Q v3 O V Y Z v8 U G I d e:Value):Below n w ((((((((((((((J.setCell ⟨R,0,none⟩ v0).setCell ⟨R,1,none⟩ v1).setCell ⟨R,2,none⟩ Q).setCell ⟨R,3,none⟩ v3).setCell ⟨R,4,none⟩ O).setCell ⟨R,5,none⟩ V).setCell ⟨R,6,none⟩ Y).setCell ⟨R,7,none⟩ Z).setCell ⟨R,8,none⟩ v8).setCell ⟨R,9,none⟩ U).setCell ⟨R,10,none⟩ G).setCell ⟨R,11,none⟩ I).setCell ⟨R,12,none⟩ d).setCell ⟨R,13,none⟩ e):=by
 repeat (refine Below.setCell ?_ hR _)
 exact h
set_option maxRecDepth 10000 in
set_option maxHeartbeats 0 in
theorem mC (s:Px.St) (n:Int) (sl en:Value) (w:World) (hn:¬(1≤n∧n≤tn s.tab)) (hC:ChkR s.tab 0 0) (hT:TabLH w) (hS:PAt w s sl en):
 Calls Tryz.prog 92 #[pstV s sl en,.int .i64 n] w fun e w'=>e=.returned (.agg ln0.toArray)∧Below w.heap.size w w':=by
 obtain⟨Q,I,rfl,aB⟩:=hS.sl.form;obtain⟨J,G,rfl,aw⟩:=hS.en.form;have HS:=Hq hS;have HC:=Hq hC;have h4:=gJ hC;have O:=(dx w (pstO s (.slice Q s.slots.length I) (.slice J s.ends.length G))).alloc (by simp) (.cells #[.bool false,.slice none 0 0,.bool false,.slice none 0 0,.bool false,.slice none 0 0,.bool false,.slice none 0 0,.bool false,.slice none 0 0,.bool false,.int .u8 0,.int .i64 0,.slice none 0 0] 154)
 have hI:=(PIn.new w s (.slice Q s.slots.length I) (.slice J s.ends.length G)).later (dx _ (.cells #[.bool false,.slice none 0 0,.bool false,.slice none 0 0,.bool false,.slice none 0 0,.bool false,.slice none 0 0,.bool false,.slice none 0 0,.bool false,.int .u8 0,.int .i64 0,.slice none 0 0] 154));have hZ:=ZCell.new (w.alloc (pstO s (.slice Q s.slots.length I) (.slice J s.ends.length G))) #[.bool false,.slice none 0 0,.bool false,.slice none 0 0,.bool false,.slice none 0 0,.bool false,.slice none 0 0,.bool false,.slice none 0 0,.bool false,.int .u8 0,.int .i64 0,.slice none 0 0] 154;have Z:ZCell ((w.alloc (pstO s (.slice Q s.slots.length I) (.slice J s.ends.length G))).alloc (.cells #[.bool false,.slice none 0 0,.bool false,.slice none 0 0,.bool false,.slice none 0 0,.bool false,.slice none 0 0,.bool false,.slice none 0 0,.bool false,.int .u8 0,.int .i64 0,.slice none 0 0] 154)) (w.heap.size+1) 14:=by simpa using hZ
 have hq:w.heap.size+1<((w.alloc (pstO s (.slice Q s.slots.length I) (.slice J s.ends.length G))).alloc (.cells #[.bool false,.slice none 0 0,.bool false,.slice none 0 0,.bool false,.slice none 0 0,.bool false,.slice none 0 0,.bool false,.slice none 0 0,.bool false,.int .u8 0,.int .i64 0,.slice none 0 0] 154)).heap.size:=by simp
 clear hZ hS hC
 go_enter Tryz.func92,Tryz.ntmps92
 go_upto_region 1 with fail;generalize (w.alloc (pstO s (.slice Q s.slots.length I) (.slice J s.ends.length G))).alloc (.cells #[.bool false,.slice none 0 0,.bool false,.slice none 0 0,.bool false,.slice none 0 0,.bool false,.slice none 0 0,.bool false,.slice none 0 0,.bool false,.int .u8 0,.int .i64 0,.slice none 0 0] 154)=W at *;have HT:=Hq (hT.later O);have ac:=Hq (HS.out.later O);obtain⟨i0,i1,i2,i3,i4⟩:=hI;have HB:=Hq O;have ak:=O.size;clear O hT HS;go_wp2_with fail;refine (gx s _ _ _ HC.out HT.out ac.out).mono ?_;rintro e w1 ⟨⟨g,c,rfl,aQ,hL⟩,U⟩;have d:=Z.later hq U;have ae:=Hq (HB.out.trans (U.mono ak));obtain⟨⟨u0,r0⟩,f0⟩:=d 0 (by decide)
 obtain⟨⟨u1,r1⟩,f1⟩:=d 1 (by decide)
 obtain⟨⟨u2,r2⟩,f2⟩:=d 2 (by decide)
 obtain⟨⟨u3,r3⟩,f3⟩:=d 3 (by decide)
 obtain⟨⟨u4,r4⟩,f4⟩:=d 4 (by decide)
 obtain⟨⟨u5,r5⟩,f5⟩:=d 5 (by decide)
 obtain⟨⟨u6,r6⟩,f6⟩:=d 6 (by decide)
 obtain⟨⟨u7,r7⟩,f7⟩:=d 7 (by decide)
 obtain⟨⟨u8,r8⟩,f8⟩:=d 8 (by decide)
 obtain⟨⟨u9,r9⟩,f9⟩:=d 9 (by decide)
 obtain⟨⟨aN,aa⟩,aI⟩:=d 10 (by decide)
 obtain⟨⟨aS,Y⟩,aK⟩:=d 11 (by decide)
 obtain⟨⟨aL,V⟩,aR⟩:=d 12 (by decide)
 obtain⟨⟨aO,ab⟩,aJ⟩:=d 13 (by decide)
 clear hL d U Z HT ac i0 i1 i2 i3 i4
 by_cases aM:n<1
 ·go_wp2_with fail;refine bodyPost_ret (v:=.agg ln0.toArray) (by simp[results,Tryz.results92,go_sem,r0,r1,r2,r3,r4,r5,r6,r7,r8,r9,aa,Y,V,ab]) rfl ⟨rfl,ix ae.out (by omega) _ _ _ _ _ _ _ _ _ _ _ _ _ _⟩
 ·have aP:(tn s.tab:Int)<n:=by omega
  go_wp2_with fail;refine bodyPost_ret (v:=.agg ln0.toArray) (by simp[results,Tryz.results92,go_sem,r0,r1,r2,r3,r4,r5,r6,r7,r8,r9,aa,Y,V,ab]) rfl ⟨rfl,ix ae.out (by omega) _ _ _ _ _ _ _ _ _ _ _ _ _ _⟩
def SlP (s:Px.St) (x:Px.Sl):Prop:=(1≤x.line∧x.line≤tn s.tab)∧(1≤x.att∧x.att≤Px.opt s x.line 2-48)∧x.minute≤s.clock∧FromP s x∧(0<x.step→x.frm≤s.clock∧(Px.opt s x.line 0=120→runsOf s x.line=1))
set_option maxRecDepth 10000 in
set_option maxHeartbeats 0 in
theorem kJ (s:Px.St) (x:Px.Sl) (sl en:Value) (w:World) (Z:¬(1≤x.line∧x.line≤tn s.tab)) (hC:ChkR s.tab 0 0) (hT:TabLH w) (hS:PAt w s sl en):
 Calls Tryz.prog 192 #[pstV s sl en,psV x] w fun e w'=>AnsB e (SlP s x)∧Below w.heap.size w w':=by
 have HN:Hid (¬SlP s x):=fun q=>Z q.1
 obtain⟨Q,G,rfl,ap⟩:=hS.sl.form;obtain⟨I,d,rfl,ah⟩:=hS.en.form;have J:=(dx w (pstO s (.slice Q s.slots.length G) (.slice I s.ends.length d))).alloc (by simp) (psO x)
 have hI:=(PIn.new w s (.slice Q s.slots.length G) (.slice I s.ends.length d)).later (dx _ (psO x));have V:=PsIn.new (w.alloc (pstO s (.slice Q s.slots.length G) (.slice I s.ends.length d))) x;have hz:(w.alloc (pstO s (.slice Q s.slots.length G) (.slice I s.ends.length d))).heap.size=w.heap.size+1:=by simp
 rw[hz] at V;have HC:=Hq hC;have ac:=Hq Z;clear hC Z
 go_enter Tryz.func192,Tryz.ntmps192
 go_upto_region 1 with fail;clear hz;generalize (w.alloc (pstO s (.slice Q s.slots.length G) (.slice I s.ends.length d))).alloc (psO x)=W at *;have HB:=Hq J;have HT:=Hq (hT.later J);have HS:=Hq (hS.later J);have HX:=Hq V;obtain⟨i0,i1,i2,i3,i4⟩:=hI;have x1:=V.c1;clear V J hT hS;go_wp2_with fail;refine (mC s x.line _ _ _ ac.out HC.out HT.out HS.out).mono ?_;rintro e w1 ⟨rfl,O⟩;have ay:(w1.alloc (.cells ln0.toArray 154)).cell? ⟨w1.heap.size,12,none⟩=some (.int .i64 0):=by simp[go_sem]
 have U:Below W.heap.size W (w1.alloc (.cells ln0.toArray 154)):=O.alloc O.size _;have y3:=(HX.out.later U).c3;have Y:=Hq (HB.out.trans (U.mono HB.out.size));clear O U i0 i1 i2 i3 i4 x1;go_upto_region 2 with fail;generalize w1.alloc (.cells ln0.toArray 154)=W2 at *;generalize w1.heap.size=lq at *
 by_cases h1:x.att<1
 ·go_wp2_with fail;go_ret;exact⟨AnsB.no HN.out,Y.out⟩
 ·have h2:0<x.att:=by omega
  go_wp2_with fail;go_ret;exact⟨AnsB.no HN.out,Y.out⟩
set_option maxRecDepth 10000 in
set_option maxHeartbeats 0 in
theorem jX (s:Px.St) (x:Px.Sl) (sl en:Value) (w:World) (hn:1≤x.line∧x.line≤tn s.tab) (c1: -1≤s.clock) (c2:s.clock≤4223371679) (hl:s.slots.length≤10000) (hC:ChkR s.tab 0 0) (hT:TabLH w) (hS:PAt w s sl en):
 Calls Tryz.prog 192 #[pstV s sl en,psV x] w fun e w'=>AnsB e (SlP s x)∧Below w.heap.size w w':=by
 obtain⟨j,hj⟩:∃j:Nat,x.line=(j:Int)+1:=⟨(x.line-1).toNat,by omega⟩
 have bs:j<tn s.tab:=by omega
 have HJ:=Hq hj;have bg:Hid (obt (pt (tl s.tab j) 5) 2=Px.opt s x.line 2):=by unfold Hid Px.opt;rw[hj,show ((j:Int)+1-1).toNat=j by omega];rfl
 have ba:Hid ((obt (pt (tl s.tab j) 5) 0==120)=(Px.opt s x.line 0==120)):=by unfold Hid Px.opt;rw[hj,show ((j:Int)+1-1).toNat=j by omega];rfl
 have HN:=Hq hn;obtain⟨ad,Y,rfl,bz⟩:=hS.sl.form;obtain⟨V,G,rfl,bu⟩:=hS.en.form;have ab:=(dx w (pstO s (.slice ad s.slots.length Y) (.slice V s.ends.length G))).alloc (by simp) (psO x)
 have hI:=(PIn.new w s (.slice ad s.slots.length Y) (.slice V s.ends.length G)).later (dx _ (psO x));have hX:=PsIn.new (w.alloc (pstO s (.slice ad s.slots.length Y) (.slice V s.ends.length G))) x;have hz:(w.alloc (pstO s (.slice ad s.slots.length Y) (.slice V s.ends.length G))).heap.size=w.heap.size+1:=by simp
 rw[hz] at hX;have HC:=Hq hC;clear hC hn hj
 go_enter Tryz.func192,Tryz.ntmps192
 go_upto_region 1 with fail;clear hz;generalize (w.alloc (pstO s (.slice ad s.slots.length Y) (.slice V s.ends.length G))).alloc (psO x)=W at *;have HB:=Hq ab;have HT:=Hq (hT.later ab);have HS:=Hq (hS.later ab);have HX:=Hq hX;have HI:=Hq hI;obtain⟨i0,i1,i2,i3,i4⟩:=hI;have x1:=hX.c1;clear hX ab hT hS;go_wp2_with fail;refine (gd s x.line j _ _ _ HJ.out bs HC.out HT.out HS.out).mono ?_;rintro e w1 ⟨⟨v,rfl,bb,cc,ac,Q,rfl,_,_⟩,ap⟩;have ai:(w1.alloc (lnO (tl s.tab j) bb cc ac Q)).cell? ⟨w1.heap.size,12,none⟩=some (.int .i64 (obt (pt (tl s.tab j) 5) 2-48)):=by simp[go_sem]
 have ar:(w1.alloc (lnO (tl s.tab j) bb cc ac Q)).cell? ⟨w1.heap.size,10,none⟩=some (.bool (obt (pt (tl s.tab j) 5) 0==120)):=by simp[go_sem]
 have U:Below W.heap.size W (w1.alloc (lnO (tl s.tab j) bb cc ac Q)):=ap.alloc ap.size _;rw[bg.out] at ai;rw[ba.out] at ar;have aU:=HX.out.later U;have aR:=HI.out.later U;have aq:=Hq (HS.out.later U);have I:=Hq (HB.out.trans (U.mono HB.out.size));clear ap U i0 i1 i2 i3 i4 x1 HS HT HX HI;go_upto_region 2 with fail;generalize w1.alloc (lnO (tl s.tab j) bb cc ac Q)=W2 at *;generalize w1.heap.size=lq at *;have aW:=Hq aU;have aQ:=Hq aR;obtain⟨x0,x1,x2,x3,x4,x5,x6,x7⟩:=aU;obtain⟨i0,i1,i2,i3,i4⟩:=aR
 by_cases h1:x.att<1
 ·have d:Hid (¬SlP s x):=fun q=>by have:=q.2.1.1;omega
  go_wp2_with fail;go_ret;exact⟨AnsB.no d.out,I.out⟩
 by_cases h2:Px.opt s x.line 2-48<x.att
 ·have d:Hid (¬SlP s x):=fun q=>by have:=q.2.1.2;omega
  generalize Px.opt s x.line 2-48=a6 at *;go_wp2_with fail;go_ret;exact⟨AnsB.no d.out,I.out⟩
 have HA:Hid (1≤x.att∧x.att≤Px.opt s x.line 2-48):=⟨by omega,by omega⟩
 generalize Px.opt s x.line 2-48=a6 at ai h2
 by_cases h3:s.clock<x.minute
 ·have d:Hid (¬SlP s x):=fun q=>by have:=q.2.2.1;omega
  go_wp2_with fail;go_ret;exact⟨AnsB.no d.out,I.out⟩
 have HM:Hid (x.minute≤s.clock):=by unfold Hid;omega
 go_wp2_with fail;refine (ol s x _ _ _ c1 c2 aq.out).mono ?_;rintro e w3 ⟨⟨b,rfl,hb⟩,J⟩;have ae:=Hq (I.out.trans (J.mono I.out.size));have aL:=Hq (aq.out.later J);have aK:=aW.out.later J;have aZ:=aQ.out.later J;have aP:=cell_later J ar;clear x0 x1 x2 x3 x4 x5 x6 x7 i0 i1 i2 i3 i4 ai ar J h1 h2 h3 aW aQ aq I
 cases b
 ·have d:Hid (¬SlP s x):=fun q=>by have:=hb.2 q.2.2.2.1;cases this
  clear hb;go_wp2_with fail;go_ret;exact⟨AnsB.no d.out,ae.out⟩
 have aj:Hid (FromP s x):=hb.1 rfl;have aV:=Hq aK;have aN:=Hq aZ;obtain⟨x0,x1,x2,x3,x4,x5,x6,x7⟩:=aK;clear hb aZ;go_wp2_with fail;refine (ez x w3).mono ?_;rintro e w4 ⟨rfl,O⟩;have Z:=Hq (ae.out.trans (O.mono ae.out.size));have bc:=Hq (aL.out.later O);have bq:=aV.out.later O;have bm:=aN.out.later O;have al:=cell_later O aP;clear x0 x1 x2 x3 x4 x5 x6 x7 aP O aV aN aL ae
 cases hr:decide (0<x.step)
 ·have d:Hid (SlP s x):=⟨HN.out,HA.out,HM.out,aj.out,fun q=>by have:=of_decide_eq_false hr;omega⟩
  clear hr;go_wp2_with fail;go_ret;exact⟨AnsB.yes d.out,Z.out⟩
 have aH:0<x.step:=of_decide_eq_true hr;have aJ:=Hq aH;clear aH;obtain⟨x0,x1,x2,x3,x4,x5,x6,x7⟩:=bq;obtain⟨i0,i1,i2,i3,i4⟩:=bm;clear hr
 by_cases h4:s.clock<x.frm
 ·have d:Hid (¬SlP s x):=fun q=>by have:=(q.2.2.2.2 aJ.out).1;omega
  go_wp2_with fail;go_ret;exact⟨AnsB.no d.out,Z.out⟩
 have HL:Hid (x.frm≤s.clock):=by unfold Hid;omega
 cases ho:(Px.opt s x.line 0==120)
 ·have aM:¬Px.opt s x.line 0=120:=by simpa using ho
  have d:Hid (SlP s x):=⟨HN.out,HA.out,HM.out,aj.out,fun _=>⟨HL.out,fun q=>(aM q).elim⟩⟩
  rw[ho] at al;clear ho aM;go_wp2_with fail;go_ret;exact⟨AnsB.yes d.out,Z.out⟩
 have aS:Px.opt s x.line 0=120:=by simpa using ho
 have bt:=Hq aS;clear aS;rw[ho] at al;clear ho;go_wp2_with fail;refine (gL s x.line _ _ _ hl bc.out).mono ?_;rintro e w5 ⟨rfl,aX⟩;have aI:=Hq (Z.out.trans (aX.mono Z.out.size));have bE:=jM s x.line
 have aY:Hid (∀r,runsOf s x.line=r→(SlP s x↔r=1)):=by
  rintro r rfl;exact⟨fun q=>(q.2.2.2.2 aJ.out).2 bt.out,fun q=>⟨HN.out,HA.out,HM.out,aj.out,fun _=>⟨HL.out,fun _=>q⟩⟩⟩
 have aT:=aY.out _ rfl;have aO:=Hq aT;clear x0 x1 x2 x3 x4 x5 x6 x7 i0 i1 i2 i3 i4 al aX aT aY h4;generalize runsOf s x.line=r at *
 cases h5:((r:Int)==1)
 ·have d:Hid (¬SlP s x):=fun q=>by have:=aO.out.1 q;subst this;simp at h5
  go_wp2_with fail;go_ret;exact⟨AnsB.no d.out,aI.out⟩
 ·have d:Hid (SlP s x):=aO.out.2 (by have:(r:Int)=1:=by simpa using h5
                                     omega)
  go_wp2_with fail;go_ret;exact⟨AnsB.yes d.out,aI.out⟩
theorem kc (s:Px.St) (x:Px.Sl) (sl en:Value) (w:World) (c1: -1≤s.clock) (c2:s.clock≤4223371679) (J:s.slots.length≤10000) (I:ChkR s.tab 0 0) (d:TabLH w) (hS:PAt w s sl en):
 Calls Tryz.prog 192 #[pstV s sl en,psV x] w fun e O=>AnsB e (SlP s x)∧Below w.heap.size w O:=by
 by_cases G:1≤x.line∧x.line≤tn s.tab
 ·exact jX s x sl en w G c1 c2 J I d hS
 ·exact kJ s x sl en w G I d hS
def prevN (l:List Px.Sl):Nat→Int
 | 0=>0
 | k+1=>(l.getD k Px.sl0).num
def SlAt (s:Px.St) (j:Nat):Prop:=prevN s.slots j<(s.slots.getD j Px.sl0).num∧(s.slots.getD j Px.sl0).num<s.next∧SlP s (s.slots.getD j Px.sl0)
def SlsP (s:Px.St):Prop:=s.slots.length≤8∧∀j,j<s.slots.length→SlAt s j
set_option maxRecDepth 10000 in
set_option maxHeartbeats 0 in
theorem jP (s:Px.St) (sl en:Value) (w:World) (c1: -1≤s.clock) (c2:s.clock≤4223371679) (hl:s.slots.length≤10000) (hC:ChkR s.tab 0 0) (hT:TabLH w) (hS:PAt w s sl en):
 Calls Tryz.prog 167 #[pstV s sl en] w fun e w'=>AnsB e (SlsP s)∧Below w.heap.size w w':=by
 obtain⟨ad,ak,rfl,aT⟩:=hS.sl.form;obtain⟨ag,Q,rfl,aI⟩:=hS.en.form;have HS:=Hq hS;have HC:=Hq hC;have J:=dx w (pstO s (.slice ad s.slots.length ak) (.slice ag s.ends.length Q));have hI:=PIn.new w s (.slice ad s.slots.length ak) (.slice ag s.ends.length Q);clear hS hC
 go_enter Tryz.func167,Tryz.ntmps167
 go_upto_region 1 with fail;generalize w.alloc (pstO s (.slice ad s.slots.length ak) (.slice ag s.ends.length Q))=W at *;have HB:=Hq J;have ap:=Hq (HS.out.later J);have HT:=Hq (hT.later J);have HI:=Hq hI;have Z:=hI.c3;have V:=J.size;clear hI J HS hT
 by_cases h8:8<s.slots.length
 ·have G:Hid (¬SlsP s):=fun q=>by have:=q.1;omega
  go_wp2_with fail;go_ret;exact⟨AnsB.no G.out,HB.out⟩
 have H8:Hid (s.slots.length≤8):=by unfold Hid;omega
 have z8:¬(8:Int)<(s.slots.length:Int):=by omega
 go_wp2_with fail;clear Z
 go_loopw [3,4] (fun l i wr=>∃k:Nat,k≤s.slots.length∧i=.int .i64 k∧l=.int .i64 (prevN s.slots k)∧(∀j,j<k→SlAt s j)∧Below W.heap.size W wr) (fun _ i _=>s.slots.length-(intOf i).toNat)
 case atStart=>exact⟨0,Nat.zero_le _,rfl,rfl,fun j h=>by omega,Below.refl _ _⟩
 case round=>
  obtain⟨k,hk,rfl,rfl,ai,d⟩:=hrel;have HA:=Hq ai;have O:=HI.out.later d;have aH:=d.size;clear ai
  by_cases af:k<s.slots.length
  ·obtain⟨b,br,aW,hv,_,hc⟩:=(ap.out.sl.1.later d).some' (by omega)
   cases hv
   obtain⟨d0,d1,d2,d3,d4,d5,d6,d7⟩:=ej hc k af;clear hc;have b1:(0:Int)≤(k:Int):=by omega
   have b2:(k:Int)<(s.slots.length:Int):=by omega
   have HX:Hid (s.slots.getD k Px.sl0=s.slots[k]):=by unfold Hid;simp[af]
   have aB:Hid (prevN s.slots (k+1)=s.slots[k].num):=by show (s.slots.getD k Px.sl0).num=_;rw[HX.out]
   have HK:Hid (SlsP s→prevN s.slots k<s.slots[k].num∧s.slots[k].num<s.next∧SlP s s.slots[k]):=fun q=>by have:=q.2 k af;unfold SlAt at this;rw[HX.out] at this;exact this
   have aG:Hid (prevN s.slots k<s.slots[k].num→s.slots[k].num<s.next→SlP s s.slots[k]→∀j,j<k+1→SlAt s j):=fun a1 a2 a3 j hj=>by
    by_cases e:j=k
    ·subst e;unfold SlAt;rw[HX.out];exact⟨a1,a2,a3⟩
    ·exact HA.out j (by omega)
   generalize s.slots[k]=x at *;generalize prevN s.slots k=last at *;have ao:=PsIn.new wr x;have ac:=dx wr (psO x);have Z:=O.c3;have al:=O.later ac;go_upto_region 8 with fail;clear d0 d1 d2 d3 d4 d5 d6 d7 Z O;generalize wr.alloc (psO x)=W2 at *;generalize wr.heap.size=xq at *;have aj:Below W.heap.size W W2:=d.trans (ac.mono aH);have I:=Hq aj;have aa:=Hq (ap.out.later aj);have am:=Hq ao;have aC:=Hq al;obtain⟨x0,x1,x2,x3,x4,x5,x6,x7⟩:=ao;obtain⟨i0,i1,i2,Z,i4⟩:=al;clear d ac aj
   by_cases h1:x.num≤last
   ·have G:Hid (¬SlsP s):=fun q=>by have:=(HK.out q).1;omega
    go_wp2_with fail;go_ret;exact⟨AnsB.no G.out,HB.out.trans (I.out.mono V)⟩
   by_cases h2:s.next≤x.num
   ·have G:Hid (¬SlsP s):=fun q=>by have:=(HK.out q).2.1;omega
    go_wp2_with fail;go_ret;exact⟨AnsB.no G.out,HB.out.trans (I.out.mono V)⟩
   have aA:Hid (last<x.num):=by unfold Hid;omega
   have aD:Hid (x.num<s.next):=by unfold Hid;omega
   go_wp2_with fail;refine (kc s x _ _ _ c1 c2 hl HC.out (HT.out.later I.out) aa.out).mono ?_;rintro e w3 ⟨⟨bo,rfl,Y⟩,ae⟩;have U:Below W.heap.size W w3:=I.out.trans (ae.mono I.out.size);have y0:=(am.out.later ae).c0;have bq:=World.block_lt_of_cell? _ _ y0;clear x0 x1 x2 x3 x4 x5 x6 x7 i0 i1 i2 Z i4 h1 h2 ae am aC aa
   cases bo
   ·have G:Hid (¬SlsP s):=fun q=>by have:=Y.2 (HK.out q).2.2;cases this
    have ah:=Hq (HB.out.trans (U.mono V));clear Y U;go_wp2_with fail;go_ret;exact⟨AnsB.no G.out,ah.out⟩
   ·have HN:Hid (∀j,j<k+1→SlAt s j):=aG.out aA.out aD.out (Y.1 rfl);have ah:=Hq U;clear Y U;go_wp2_with fail;go_roundw
    case rel=>exact⟨k+1,by omega,by go_num,by rw[aB.out],HN.out,ah.out⟩
    case measure=>simp[intOf];omega
  ·have G:Hid (SlsP s):=⟨H8.out,fun j hj=>HA.out j (by omega)⟩
   have Z:=O.c3;have ay:=Hq (HB.out.trans (d.mono V));clear O d;go_wp2_with fail;go_ret;exact⟨AnsB.yes G.out,ay.out⟩
def EnAt (s:Px.St) (x:Bx.En):Prop:=(1≤x.num∧x.num<s.next)∧(x.how=Bx.hD∨x.how=Bx.hA∨x.how=Bx.hK∨x.how=Bx.hS)∧timesP s x.num=1
def EnsP (s:Px.St):Prop:=s.ends.length≤6∧∀x∈s.ends,EnAt s x
abbrev enO (x:Bx.En):Obj:=.cells #[.int .i64 x.num,.string x.how] 85
theorem og (s:Px.St) (n:Int):timesP s n≤s.slots.length+s.ends.length:=Nat.add_le_add (List.length_filter_le _ _) (List.length_filter_le _ _)
set_option maxRecDepth 10000 in
set_option maxHeartbeats 0 in
theorem kT (s:Px.St) (sl en:Value) (w:World) (hl:s.slots.length≤10000) (aB:s.ends.length≤10000) (hS:PAt w s sl en):
 Calls Tryz.prog 168 #[pstV s sl en] w fun e w'=>AnsB e (EnsP s)∧Below w.heap.size w w':=by
 obtain⟨ad,ab,rfl,aL⟩:=hS.sl.form;obtain⟨af,J,rfl,aH⟩:=hS.en.form;have HS:=Hq hS;have O:=dx w (pstO s (.slice ad s.slots.length ab) (.slice af s.ends.length J));have hI:=PIn.new w s (.slice ad s.slots.length ab) (.slice af s.ends.length J);clear hS
 go_enter Tryz.func168,Tryz.ntmps168
 go_upto_region 1 with fail;generalize w.alloc (pstO s (.slice ad s.slots.length ab) (.slice af s.ends.length J))=W at *;have HB:=Hq O;have ap:=Hq (HS.out.later O);have HI:=Hq hI;have V:=hI.c4;have aa:=O.size;clear hI O HS
 by_cases h6:6<s.ends.length
 ·have G:Hid (¬EnsP s):=fun q=>by have:=q.1;omega
  go_wp2_with fail;go_ret;exact⟨AnsB.no G.out,HB.out⟩
 have H6:Hid (s.ends.length≤6):=by unfold Hid;omega
 have z6:¬(6:Int)<(s.ends.length:Int):=by omega
 go_wp2_with fail;clear V
 go_loopw [3] (fun i wr=>∃k:Nat,k≤s.ends.length∧i=.int .i64 k∧(∀j (Y:j<s.ends.length),j<k→EnAt s s.ends[j])∧Below W.heap.size W wr) (fun i _=>s.ends.length-(intOf i).toNat)
 case atStart=>exact⟨0,Nat.zero_le _,rfl,fun j _ h=>by omega,Below.refl _ _⟩
 case round=>
  obtain⟨k,hk,rfl,ae,d⟩:=hrel;have HA:=Hq ae;have I:=HI.out.later d;have aD:=d.size;clear ae
  by_cases ac:k<s.ends.length
  ·obtain⟨b,ar,aW,hv,_,hc⟩:=(ap.out.en.1.later d).some' (by omega)
   cases hv
   have d0:wr.cell? ⟨b,ar+k*2,none⟩=some (.int .i64 s.ends[k].num):=RowAt.cell ek hc k ac 0 (by decide)
   have d1:wr.cell? ⟨b,ar+k*2+1,none⟩=some (.string s.ends[k].how):=RowAt.cell ek hc k ac 1 (by decide)
   clear hc;have b1:(0:Int)≤(k:Int):=by omega
   have b2:(k:Int)<(s.ends.length:Int):=by omega
   have HK:Hid (EnsP s→EnAt s s.ends[k]):=fun q=>q.2 _ (List.getElem_mem ac)
   have aC:Hid (EnAt s s.ends[k]→∀j (Y:j<s.ends.length),j<k+1→EnAt s s.ends[j]):=fun a j Y a4=>by
    by_cases e:j=k
    ·subst e;exact a
    ·exact HA.out j Y (by omega)
   generalize s.ends[k]=x at *;have g0:(wr.alloc (enO x)).cell? ⟨wr.heap.size,0,none⟩=some (.int .i64 x.num):=by simp[go_sem]
   have g1:(wr.alloc (enO x)).cell? ⟨wr.heap.size,1,none⟩=some (.string x.how):=by simp[go_sem]
   have ag:=dx wr (enO x);have V:=I.c4;have az:=I.later ag;go_upto_region 7 with fail;clear d0 d1 V I;generalize wr.alloc (enO x)=W2 at *;generalize wr.heap.size=xq at *;have U:Below W.heap.size W W2:=d.trans (ag.mono aD);have al:=Hq U;have ax:=Hq (ap.out.later U);have Z:=Hq (HB.out.trans (U.mono aa));have a3:=World.block_lt_of_cell? _ _ g0;obtain⟨i0,i1,i2,i3,V⟩:=az;clear d ag U
   by_cases h1:x.num<1
   ·have G:Hid (¬EnsP s):=fun q=>by have:=(HK.out q).1.1;omega
    go_wp2_with fail;go_ret;exact⟨AnsB.no G.out,Z.out⟩
   by_cases h2:s.next≤x.num
   ·have G:Hid (¬EnsP s):=fun q=>by have:=(HK.out q).1.2;omega
    go_wp2_with fail;go_ret;exact⟨AnsB.no G.out,Z.out⟩
   have HL:Hid (1≤x.num∧x.num<s.next):=⟨by omega,by omega⟩
   go_wp2_with fail;refine (o4 x.how _).mono ?_;rintro e w3 ⟨⟨bo,rfl,Q⟩,rfl⟩
   cases bo
   ·have G:Hid (¬EnsP s):=fun q=>by have:=Q.2 (HK.out q).2.1;cases this
    clear Q;go_wp2_with fail;go_ret;exact⟨AnsB.no G.out,Z.out⟩
   have HH:Hid (x.how=Bx.hD∨x.how=Bx.hA∨x.how=Bx.hK∨x.how=Bx.hS):=Q.1 rfl;clear Q;go_wp2_with fail;refine (oW s x.num _ _ _ hl aB ax.out).mono ?_;rintro e w4 ⟨rfl,ao⟩;have a2:=og s x.num
   have aj:Hid (∀r,timesP s x.num=r→(EnAt s x↔r=1)):=by
    rintro r rfl;exact⟨fun q=>q.2.2,fun q=>⟨HL.out,HH.out,q⟩⟩
   have am:Hid (EnAt s x↔timesP s x.num=1):=aj.out _ rfl;have aq:=Hq (al.out.trans (ao.mono al.out.size));clear ao aj i0 i1 i2 i3 V h1 h2 g0 g1;generalize timesP s x.num=r at *
   cases h5:((r:Int) !=1)
   ·have ak:r=1:=by have:(r:Int)=1:=by simpa using h5
                    omega
    have HN:Hid (∀j (Y:j<s.ends.length),j<k+1→EnAt s s.ends[j]):=aC.out (am.out.2 ak);clear ak;go_wp2_with fail;go_roundw
    case rel=>exact⟨k+1,by omega,by go_num,HN.out,aq.out⟩
    case measure=>simp[intOf];omega
   ·have G:Hid (¬EnsP s):=fun q=>by
     have:=am.out.1 (HK.out q);subst this;simp at h5
    go_wp2_with fail;go_ret;exact⟨AnsB.no G.out,HB.out.trans (aq.out.mono aa)⟩
  ·have G:Hid (EnsP s):=⟨H6.out,fun x hx=>by
    obtain⟨j,Y,rfl⟩:=List.mem_iff_getElem.1 hx
    exact HA.out j Y (by omega)⟩
   have V:=I.c4;have ay:=Hq (HB.out.trans (d.mono aa));clear I d;go_wp2_with fail;go_ret;exact⟨AnsB.yes G.out,ay.out⟩
def MayP (s:Px.St):Prop:=(-1≤s.clock∧s.clock≤4223371679)∧(1≤s.next∧s.next≤10000)∧ChkR s.tab 0 0∧SlsP s∧EnsP s
set_option maxRecDepth 10000 in
set_option maxHeartbeats 0 in
theorem qv (s:Px.St) (sl en:Value) (w:World) (ht:s.tab.size≤maxLen) (hl:s.slots.length≤10000) (aC:s.ends.length≤10000) (hT:TabLH w) (hS:PAt w s sl en):
 Calls Tryz.prog 135 #[pstV s sl en] w fun e w'=>AnsB e (MayP s)∧Below w.heap.size w w':=by
 obtain⟨ad,ab,rfl,aO⟩:=hS.sl.form;obtain⟨ah,I,rfl,aL⟩:=hS.en.form;have HS:=Hq hS;have av:=Hq ht;have O:=dx w (pstO s (.slice ad s.slots.length ab) (.slice ah s.ends.length I));have hI:=PIn.new w s (.slice ad s.slots.length ab) (.slice ah s.ends.length I);clear hS ht
 go_enter Tryz.func135,Tryz.ntmps135
 go_upto_region 1 with fail;generalize w.alloc (pstO s (.slice ad s.slots.length ab) (.slice ah s.ends.length I))=W at *;have Q:=Hq O;have ao:=Hq (HS.out.later O);have HT:=Hq (hT.later O);have HI:=Hq hI;obtain⟨V,Y,i2,i3,i4⟩:=hI;clear O HS hT
 by_cases h1:s.clock < -1
 ·have d:Hid (¬MayP s):=fun q=>by have:=q.1.1;omega
  go_wp2_with fail;go_ret;exact⟨AnsB.no d.out,Q.out⟩
 by_cases h2:4223371679<s.clock
 ·have d:Hid (¬MayP s):=fun q=>by have:=q.1.2;omega
  go_wp2_with fail;go_ret;exact⟨AnsB.no d.out,Q.out⟩
 by_cases h3:s.next<1
 ·have d:Hid (¬MayP s):=fun q=>by have:=q.2.1.1;omega
  go_wp2_with fail;go_ret;exact⟨AnsB.no d.out,Q.out⟩
 by_cases h4:10000<s.next
 ·have d:Hid (¬MayP s):=fun q=>by have:=q.2.1.2;omega
  go_wp2_with fail;go_ret;exact⟨AnsB.no d.out,Q.out⟩
 have c1: -1≤s.clock:=by omega
 have c2:s.clock≤4223371679:=by omega
 have aH:Hid (-1≤s.clock∧s.clock≤4223371679):=⟨c1,c2⟩;have aK:Hid (1≤s.next∧s.next≤10000):=⟨by omega,by omega⟩
 go_wp2_with fail;refine (gA _ _ av.out HT.out).mono ?_;rintro e w1 ⟨⟨a,r,ae,n',c,rfl,hK,_⟩,U⟩;have HK:=Hq hK;have aT:=hK.bd;have g2:(w1.alloc (.cells #[.slice ae n' c,.int .i64 a,.int .i64 r] 134)).cell? ⟨w1.heap.size,2,none⟩=some (.int .i64 r):=by simp[go_sem]
 have G:Below W.heap.size W (w1.alloc (.cells #[.slice ae n' c,.int .i64 a,.int .i64 r] 134)):=U.alloc U.size _;have ak:=HI.out.later G;have al:=Hq (ao.out.later G);have az:=Hq (HT.out.later G);have Z:=Hq (Q.out.trans (G.mono Q.out.size));clear U G V Y i2 i3 i4 hK h1 h2 h3 h4 HI ao HT;go_upto_region 6 with fail;generalize w1.alloc (.cells #[.slice ae n' c,.int .i64 a,.int .i64 r] 134)=W2 at *;generalize w1.heap.size=rq at *;have aR:=World.block_lt_of_cell? _ _ g2;have ax:=Hq ak;obtain⟨V,Y,i2,i3,i4⟩:=ak
 by_cases hr:r=0
 rotate_left
 ·have aS:(r !=0)=true:=by simpa using hr
  have d:Hid (¬MayP s):=fun q=>hr (q.2.2.1.uniq HK.out).2.symm
  clear hr;go_wp2_with fail;go_ret;exact⟨AnsB.no d.out,Z.out⟩
 subst hr;have ha:=HK.out.zero rfl;subst ha;go_wp2_with fail;refine (jP s _ _ _ c1 c2 hl HK.out az.out al.out).mono ?_;rintro e w3 ⟨⟨b,rfl,hb⟩,J⟩;have aa:=Hq (Z.out.trans (J.mono Z.out.size));have ay:=Hq (al.out.later J);have aF:=ax.out.later J;clear V Y i2 i3 i4 J g2
 cases b
 ·have d:Hid (¬MayP s):=fun q=>by have:=hb.2 q.2.2.2.1;cases this
  clear hb;go_wp2_with fail;go_ret;exact⟨AnsB.no d.out,aa.out⟩
 have aE:Hid (SlsP s):=hb.1 rfl;clear hb;obtain⟨V,Y,i2,i3,i4⟩:=aF;go_wp2_with fail;refine (kT s _ _ _ hl aC ay.out).mono ?_;rintro e w4 ⟨⟨b,rfl,hb⟩,am⟩;have ap:=Hq (aa.out.trans (am.mono aa.out.size));clear V Y i2 i3 i4 am
 cases b
 ·have d:Hid (¬MayP s):=fun q=>by have:=hb.2 q.2.2.2.2;cases this
  clear hb;go_wp2_with fail;go_ret;exact⟨AnsB.no d.out,ap.out⟩
 ·have d:Hid (MayP s):=⟨aH.out,aK.out,HK.out,aE.out,hb.1 rfl⟩;clear hb;go_wp2_with fail;go_ret;exact⟨AnsB.yes d.out,ap.out⟩
theorem rJ {l:List Px.Sl} (h:∀j,j<l.length→prevN l j<(l.getD j Px.sl0).num):(l.Pairwise fun a b=>a.num<b.num)∧∀x∈l,1≤x.num:=by
 have step:∀j (w:j+1<l.length),(l[j]'(by omega)).num<l[j+1].num:=by
  intro j w;have:=h (j+1) w;simp[prevN,w,show j<l.length by omega] at this
  exact this
 have G:∀d i (hd:i+d+1<l.length),(l[i]'(by omega)).num<l[i+d+1].num:=by
  intro d
  induction d with
  | zero=>intro i hd;exact step i hd
  | succ d J=>
    intro i hd;have h1:=J i (by omega)
    have h2:=step (i+d+1) (by omega)
    have e:i+(d+1)+1=i+d+1+1:=by omega
    simp only [e]
    omega
 constructor
 ·rw[List.pairwise_iff_getElem];intro i j hi w Q;have:=G (j-i-1) i (by omega)
  have e:i+(j-i-1)+1=j:=by omega
  simp only [e] at this
  exact this
 ·intro x I;obtain⟨j,w,rfl⟩:=List.mem_iff_getElem.1 I;have h0:=h 0 (by omega)
  simp[prevN,show 0<l.length by omega] at h0
  by_cases e:j=0
  ·subst e;omega
  ·have:=G (j-1) 0 (by omega)
   have O:0+(j-1)+1=j:=by omega
   simp only [O] at this
   omega
theorem rF {l:List Px.Sl} (h:l.Pairwise fun a b=>a.num<b.num) (h1:∀x∈l,1≤x.num):∀j,j<l.length→prevN l j<(l.getD j Px.sl0).num:=by
 intro j d;have e:l.getD j Px.sl0=l[j]:=by simp[d]
 rw[e]
 cases j with
 | zero=>have:=h1 _ (List.getElem_mem d);show (0:Int)<_;omega
 | succ j=>
   have w:l.getD j Px.sl0=l[j]:=by simp[show j<l.length by omega]
   show (l.getD j Px.sl0).num<_
   rw[w];exact List.pairwise_iff_getElem.1 h j (j+1) (by omega) d (by omega)
theorem rx {s:Px.St} (hf:∀x∈s.slots,0≤x.minute):MayP s↔Bx.MayS (Px.abs s):=by
 have ax:∀l i,Bx.opt (Px.abs s) l i=Px.opt s l i:=fun _ _=>rfl
 have ag:=Bx.one_of (fun x y:Px.Sl=>decide (y.line=x.line)&&decide (0<y.step)|| !decide (0<x.step)) (by intro x;cases decide (0<x.step)<;>simp)
 have O:(∀x∈s.slots,(0<x.step∧Px.opt s x.line 0=120)→runsOf s x.line=1)↔s.slots.Pairwise fun a b=>a.line=b.line→Px.opt s a.line 0=120→0<a.step→0<b.step→False:=by
  have e:∀x∈s.slots,(0<x.step∧Px.opt s x.line 0=120)→s.slots.filter (fun y=>decide (y.line=x.line)&&decide (0<y.step)|| !decide (0<x.step))=s.slots.filter (onP x.line):=fun x _ h=>by
   refine List.filter_congr fun y _=>?_
   unfold onP;simp[h.1]
  have k:=ag s.slots (fun x=>0<x.step∧Px.opt s x.line 0=120) (by
   intro x y w ⟨Y,ah⟩;simp[Y] at w
   exact⟨⟨w.2,by rw[w.1];exact ah⟩,by simp[w.2,w.1,Y]⟩)
  constructor
  ·intro h;have:=k.1 (fun x d c=>by rw[e x d c];exact h x d c)
   refine this.imp fun {a b} q V I U hb=>q ⟨U,I⟩ (by simp[U,hb,V])
  ·intro h x d c
   have:=k.2 (h.imp fun {a b} q c2 w=>by
    simp[c2.1] at w
    exact q w.1.symm c2.2 c2.1 w.2) x d c
   rw[e x d c] at this;exact this
 have Q:(∀x∈s.ends,timesP s x.num=1)↔(∀x∈s.ends,∀y∈s.slots,y.num≠x.num)∧s.ends.Pairwise fun a b=>a.num≠b.num:=by
  have k:=Bx.one_of (fun x y:Bx.En=>y.num==x.num) (by intro x;simp) s.ends (fun _=>True) (by intro x y w _;exact⟨trivial,by simp at w ⊢;exact w.symm⟩)
  have pos:∀x∈s.ends,1≤(s.ends.filter fun y=>y.num==x.num).length:=fun x d=>List.length_pos_of_mem (List.mem_filter.2 ⟨d,by simp⟩)
  constructor
  ·intro h
   have h1:∀x∈s.ends,(s.slots.filter fun y=>y.num==x.num).length=0∧(s.ends.filter fun y=>y.num==x.num).length=1:=fun x d=>by
    have:=h x d;have:=pos x d;unfold timesP at *;omega
   refine⟨fun x d y G e=>?_,?_⟩
   ·have h2:=(h1 x d).1;have h3:y∈s.slots.filter fun y=>y.num==x.num:=List.mem_filter.2 ⟨G,by simpa using e⟩
    have:=List.length_pos_of_mem h3;omega
   ·exact (k.1 fun x d _=>(h1 x d).2).imp fun {a b} q e=>q trivial (by simpa using e.symm)
  ·rintro ⟨h1,h2⟩ x d;have a1:s.slots.filter (fun y=>y.num==x.num)=[]:=List.filter_eq_nil_iff.2 fun y G e=>h1 x d y G (by simpa using e)
   have a2:=k.2 (h2.imp fun {a b} q _ e=>q (by simpa using e:b.num=a.num).symm) x d trivial
   unfold timesP;rw[a1,a2];rfl
 constructor
 ·rintro ⟨⟨c1,c2⟩,⟨n1,n2⟩,hC,⟨h8,hs⟩,h6,he⟩;obtain⟨hr,h1⟩:=rJ (fun j J=>(hs j J).1)
  have each:∀x∈s.slots,x.num<s.next∧SlP s x:=fun x d=>by
   obtain⟨j,J,rfl⟩:=List.mem_iff_getElem.1 d;have:=hs j J;unfold SlAt at this;simp[J] at this;exact this.2
  obtain⟨e1,e2⟩:=Q.1 fun x d=>(he x d).2.2
  refine⟨hC,c1,c2,n1,n2,by simpa [Px.abs] using h8,h6,?_,?_,e2,?_,?_⟩
  ·simp only [Px.abs];rw[List.pairwise_map];exact hr
  ·simp only [Px.abs];rw[List.pairwise_map]
   refine (O.1 fun x d c=>(each x d).2.2.2.2.2 c.1 |>.2 c.2).imp fun {a b} q V I U hb=>q V I (of_decide_eq_true U) (of_decide_eq_true hb)
  ·intro y G;obtain⟨x,d,rfl⟩:=List.mem_map.1 G;obtain⟨q1,q2,q3,q4,q5,q6⟩:=each x d;exact⟨⟨h1 x d,q1⟩,q2,hf x d,q4,q3,q5.1,q5.2,fun e=>(q6 (of_decide_eq_true e)).1⟩
  ·intro x d;refine⟨(he x d).1,(he x d).2.1,fun y G=>?_⟩
   obtain⟨z,Z,rfl⟩:=List.mem_map.1 G;exact e1 x d z Z
 ·intro h;have h8:s.slots.length≤8:=by have:=h.sl;simpa [Px.abs] using this
  have hr:s.slots.Pairwise fun a b=>a.num<b.num:=by have:=h.rise;simp only [Px.abs] at this;rw[List.pairwise_map] at this;exact this
  have hm:∀x∈s.slots,Bx.MaySl (Px.abs s) (Px.absS x):=fun x d=>h.es _ (List.mem_map.2 ⟨x,d,rfl⟩)
  have ae:s.slots.Pairwise fun a b=>a.line=b.line→Px.opt s a.line 0=120→0<a.step→0<b.step→False:=by
   have:=h.lock;simp only [Px.abs] at this;rw[List.pairwise_map] at this;exact this.imp fun {a b} q V I U hb=>q V I (decide_eq_true U) (decide_eq_true hb)
  refine⟨⟨h.c1,h.c2⟩,⟨h.n1,h.n2⟩,h.tab,⟨h8,fun j J=>?_⟩,h.en,fun x d=>?_⟩
  ·have w:=rF hr (fun x d=>(hm x d).n.1) j J
   have d:s.slots.getD j Px.sl0∈s.slots:=by simp[J]
   have q:=hm _ d;refine⟨w,q.n.2,q.l,q.a,q.m,⟨q.f1,q.f2⟩,fun e=>⟨q.r (decide_eq_true e),fun I=>O.2 ae _ d ⟨e,I⟩⟩⟩
  ·have q:=h.ee x d;refine⟨q.n,q.h,Q.2 ⟨fun z Z y G=>(h.ee z Z).o (Px.absS y) (List.mem_map.2 ⟨y,G,rfl⟩),h.dif⟩ x d⟩
abbrev ptC (p:Bx.PS):List Value:=[.string p.rest,.bool p.wrong]
abbrev PtIn (w:World) (q:Nat) (p:Bx.PS):Prop:=Cl w q 207 (ptC p)
theorem PtIn.c0 {w:World}{q:Nat}{p:Bx.PS} (h:PtIn w q p):w.cell? ⟨q,0,none⟩=some (.string p.rest):=h.c 0 _ rfl
theorem PtIn.c1 {w:World}{q:Nat}{p:Bx.PS} (h:PtIn w q p):w.cell? ⟨q,1,none⟩=some (.bool p.wrong):=h.c 1 _ rfl
theorem PtIn.f0 {w:World}{q:Nat}{p:Bx.PS} (h:PtIn w q p):w.frozen? ⟨q,0,none⟩=false:=h.f 0 (by simp)
theorem PtIn.f1 {w:World}{q:Nat}{p:Bx.PS} (h:PtIn w q p):w.frozen? ⟨q,1,none⟩=false:=h.f 1 (by simp)
theorem fV (k:Int) (p:Bx.PS):(Bx.txtP k p).2.rest.size≤p.rest.size:=by
 unfold Bx.txtP;split
 ·exact Nat.le_refl _
 ·simp
theorem dM (k:Nat) (p:Bx.PS):(Bx.numP k p).2.rest.size≤p.rest.size:=fV _ _
set_option maxHeartbeats 0 in
theorem dW (p:Bx.PS) (q:Nat) (k:Int) (w:World) (_hs:p.rest.size≤100000) (d:PtIn w q p):
 Calls Tryz.prog 133 #[.pointer (some ⟨q,0,none⟩),.int .i64 k] w fun e Q=>e=.returned (.string (Bx.txtP k p).1)∧PtIn Q q (Bx.txtP k p).2∧w.grownBy Q (some q):=by
 have O:=Hq d;have c0:=d.c0;have c1:=d.c1;have f0:=d.f0;have f1:=d.f1;have Z:=d.ty.lt;clear d
 by_cases V:k<0
 ·have I:Hid (Bx.txtP k p=(ByteArray.empty,⟨p.rest,true⟩)):=if_pos (Or.inl V);have J:Hid (PtIn (w.setCell ⟨q,1,none⟩ (.bool true)) q ⟨p.rest,true⟩):=O.out.set 1 (by simp) _
  have G:Hid (w.grownBy (w.setCell ⟨q,1,none⟩ (.bool true)) (some q)):=dJ (eF w _) 1 _
  go_enter Tryz.func133,Tryz.ntmps133
  go_wp2_with fail;go_ret;rw[I.out];exact⟨rfl,J.out,G.out⟩
 ·by_cases U:(p.rest.size:Int)<k
  ·have I:Hid (Bx.txtP k p=(ByteArray.empty,⟨p.rest,true⟩)):=if_pos (Or.inr U);have J:Hid (PtIn (w.setCell ⟨q,1,none⟩ (.bool true)) q ⟨p.rest,true⟩):=O.out.set 1 (by simp) _
   have G:Hid (w.grownBy (w.setCell ⟨q,1,none⟩ (.bool true)) (some q)):=dJ (eF w _) 1 _
   go_enter Tryz.func133,Tryz.ntmps133
   go_wp2_with fail;go_ret;rw[I.out];exact⟨rfl,J.out,G.out⟩
  ·obtain⟨n,rfl⟩:∃n:Nat,k=n:=⟨k.toNat,by omega⟩
   have Y:n≤p.rest.size:=by omega
   have I:Hid (Bx.txtP n p=(p.rest.extract 0 n,⟨p.rest.extract n p.rest.size,p.wrong⟩)):=by
    unfold Hid Bx.txtP;rw[if_neg (by omega),Int.toNat_natCast]
   have J:Hid (PtIn (w.setCell ⟨q,0,none⟩ (.string (p.rest.extract n p.rest.size))) q ⟨p.rest.extract n p.rest.size,p.wrong⟩):=O.out.set 0 (by simp) _
   have G:Hid (w.grownBy (w.setCell ⟨q,0,none⟩ (.string (p.rest.extract n p.rest.size))) (some q)):=dJ (eF w _) 0 _
   go_enter Tryz.func133,Tryz.ntmps133
   go_wp2_with fail;go_ret;rw[I.out];exact⟨rfl,J.out,G.out⟩
theorem rV (s:ByteArray) (k:Nat) (h:k<s.size):Bx.nb (s.data.toList.take (k+1))=Bx.nb (s.data.toList.take k)*256+(s[k].toNat:Int):=by
 rw[Crc.take_snoc s k h,Bx.nb_snoc]
theorem mU (s:ByteArray) (k:Nat) (d:k≤5):0≤Bx.nb (s.data.toList.take k)∧Bx.nb (s.data.toList.take k)<1099511627776:=by
 refine⟨Bx.nb_nonneg _,?_⟩;have h1:=Bx.nb_lt (s.data.toList.take k);have h2:(s.data.toList.take k).length≤5:=by simp;omega
 generalize (s.data.toList.take k).length=n at h1 h2;have:n=0∨n=1∨n=2∨n=3∨n=4∨n=5:=by omega
 rcases this with rfl|rfl|rfl|rfl|rfl|rfl<;>simp at h1<;>omega
set_option maxHeartbeats 0 in
theorem dH (p:Bx.PS) (q k:Nat) (I:Int) (w:World) (U:I=k) (hk:k≤5) (hs:p.rest.size≤100000) (Q:PtIn w q p):
 Calls Tryz.prog 132 #[.pointer (some ⟨q,0,none⟩),.int .i64 I] w fun e Y=>e=.returned (.int .i64 (Bx.numP k p).1)∧PtIn Y q (Bx.numP k p).2∧w.grownBy Y (some q):=by
 subst U;have HP:=Hq Q;clear Q
 go_enter Tryz.func132,Tryz.ntmps132
 go_wp2_with fail;refine (dW p q k _ hs HP.out).mono ?_;rintro e w1 ⟨rfl,G,d⟩;have J:=Hq G;have V:=Hq d;have HN:Hid ((Bx.numP k p).1=Bx.nb (Bx.txtP k p).1.data.toList):=rfl
 have hz:(Bx.txtP k p).1.size≤5:=by
  unfold Bx.txtP;split
  ·simp
  ·simp;omega
 generalize (Bx.txtP k p).1=t at *;clear G d;go_wp2_with fail
 go_loop [6,7] (fun n i=>∃j:Nat,j≤t.size∧i=.int .i64 j∧n=.int .i64 (Bx.nb (t.data.toList.take j))) (fun _ i=>t.size-(intOf i).toNat)
 case atStart=>exact⟨0,Nat.zero_le _,rfl,rfl⟩
 case round=>
  obtain⟨j,hj,rfl,rfl⟩:=hrel;obtain⟨n1,n2⟩:=mU t j (by omega)
  by_cases O:j<t.size
  ·have Z:Hid (Bx.nb (t.data.toList.take (j+1))=Bx.nb (t.data.toList.take j)*256+(t[j].toNat:Int)):=rV t j O;have hb:t[j].toNat<256:=t[j].toNat_lt;generalize Bx.nb (t.data.toList.take j)=n at *;go_wp2_with fail
   go_round
   case rel=>exact⟨j+1,by omega,by go_num,by rw[Z.out]⟩
   case measure=>simp[intOf];omega
  ·obtain rfl:j=t.size:=by omega
   have HL:Hid (Bx.nb (t.data.toList.take t.size)=Bx.nb t.data.toList):=by unfold Hid;rw[List.take_of_length_le (by simp)]
   go_wp2_with fail;go_ret;exact⟨dS (by rw[HN.out,HL.out]),J.out,V.out⟩
set_option maxHeartbeats 0 in
theorem eI (p:Bx.PS) (q:Nat) (w:World) (d:PtIn w q p):
 Calls Tryz.prog 166 #[.pointer (some ⟨q,0,none⟩)] w fun e I=>e=.returned (.bool (!p.wrong&&p.rest.toList.isEmpty))∧I=w:=by
 have c0:=d.c0;have c1:=d.c1;have J:=d.ty.lt;clear d
 go_enter Tryz.func166,Tryz.ntmps166
 cases G:p.wrong
 ·rw[G] at c1;go_wp2_with fail;go_ret;exact⟨rfl,rfl⟩
 ·rw[G] at c1;go_wp2_with fail;go_ret;exact⟨rfl,rfl⟩
theorem dY {w w1:World}{r:Option Nat} (h:w.grownBy w1 r) {g:Nat} (G:w.heap.size≤g) (j:Nat) (u:Value):w.grownBy (w1.setCell ⟨g,j,none⟩ u) r:=by
 have e:∀k,k<w.heap.size→(w1.setCell ⟨g,j,none⟩ u).heap[k]? =w1.heap[k]? :=fun k d=>((Below.refl w.heap.size w1).setCell (p:=⟨g,j,none⟩) G u).block k d
 have z:=((Below.refl w.heap.size w1).setCell (p:=⟨g,j,none⟩) G u).size;exact⟨h.os,h.tape,h.output,Nat.le_trans h.size z,fun k d I=>(e k d).trans (h.block k d I)⟩
theorem ie {w w1:World}{r:Option Nat} (h:w.grownBy w1 r) {g:Nat} (d:w.heap.size≤g) (J e G I O V Q U:Value):w.grownBy ((((((((w1.setCell ⟨g,0,none⟩ J).setCell ⟨g,1,none⟩ e).setCell ⟨g,2,none⟩ G).setCell ⟨g,3,none⟩ I).setCell ⟨g,4,none⟩ O).setCell ⟨g,5,none⟩ V).setCell ⟨g,6,none⟩ Q).setCell ⟨g,7,none⟩ U) r:=
 dY (dY (dY (dY (dY (dY (dY (dY h d _ _) d _ _) d _ _) d _ _) d _ _) d _ _) d _ _) d _ _
theorem Cl.far8 {w1:World}{q g:Nat}{t:TypeId}{e:List Value} (h:Cl w1 q t e) (d:q≠g) (J w G I O V Q U:Value):Cl ((((((((w1.setCell ⟨g,0,none⟩ J).setCell ⟨g,1,none⟩ w).setCell ⟨g,2,none⟩ G).setCell ⟨g,3,none⟩ I).setCell ⟨g,4,none⟩ O).setCell ⟨g,5,none⟩ V).setCell ⟨g,6,none⟩ Q).setCell ⟨g,7,none⟩ U) q t e:=
 (((((((h.far d _ _).far d _ _).far d _ _).far d _ _).far d _ _).far d _ _).far d _ _).far d _ _
structure RS (w W:World) (q:Nat) (p:Bx.PS) (x:Px.Sl):Prop where
 p:PtIn W q p
 x:Cl W (w.heap.size+1) 143 (psC x)
 z:Cl W w.heap.size 143 (psC Px.sl0)
 g:w.grownBy W (some q)
 q:q<w.heap.size
theorem RS.call {w W W':World}{q:Nat}{p e:Bx.PS}{x:Px.Sl} (h:RS w W q p x) (G:PtIn W' q e) (d:W.grownBy W' (some q)):RS w W' q e x:=
 ⟨G,h.x.grow d (by have:=h.q;omega),h.z.grow d (by have:=h.q;omega),dA h.g d,h.q⟩
theorem RS.put {w W:World}{q:Nat}{p:Bx.PS}{x:Px.Sl} (h:RS w W q p x) (y:Px.Sl) (j:Nat) (v:Value) (e:j<8) (d:psC y=(psC x).set j v):RS w (W.setCell ⟨w.heap.size+1,j,none⟩ v) q p y:=
 ⟨h.p.far (by have:=h.q;omega) _ _,by rw[d];exact h.x.set j (by simpa [psC] using e) v,h.z.far (by omega) _ _,dY h.g (by omega) _ _,h.q⟩
set_option maxRecDepth 10000 in
set_option maxHeartbeats 0 in
theorem jQ (p:Bx.PS) (q:Nat) (w:World) (hs:p.rest.size≤100000) (hp:PtIn w q p):
 Calls Tryz.prog 210 #[.pointer (some ⟨q,0,none⟩)] w fun e w'=>e=.returned (psV (Px.rdSlot p).1)∧PtIn w' q (Px.rdSlot p).2∧w.grownBy w' (some q):=by
 obtain⟨a,pa,ha⟩:∃a q,Bx.numP 2 p=(a,q):=⟨_,_,dB _⟩;obtain⟨b,pb,hb⟩:∃a q,Bx.numP 1 pa=(a,q):=⟨_,_,dB _⟩;obtain⟨c,pc,hc⟩:∃a q,Bx.numP 5 pb=(a,q):=⟨_,_,dB _⟩;obtain⟨d,pd,hd⟩:∃a q,Bx.numP 1 pc=(a,q):=⟨_,_,dB _⟩;obtain⟨e,pe,he⟩:∃a q,Bx.numP 5 pd=(a,q):=⟨_,_,dB _⟩;obtain⟨f,pf,hf⟩:∃a q,Bx.numP 1 pe=(a,q):=⟨_,_,dB _⟩;have HE:Hid (Px.rdSlot p=(⟨a,b,c,d,e,if f=1 then 1 else 0,0,ByteArray.empty⟩,if f=1∨f=0 then pf else ⟨pf.rest,true⟩)):=Px.rdSlot_eq ha hb hc hd he hf
 have sa:=dM 2 p;have sb:=dM 1 pa;have sc:=dM 5 pb;have sd:=dM 1 pc;have se:=dM 5 pd;rw[ha] at sa;rw[hb] at sb;rw[hc] at sc;rw[hd] at sd;rw[he] at se;simp only at sa sb sc sd se;have Ha:=Hq ha;have Hb:=Hq hb;have Hc:=Hq hc;have Hd:=Hq hd;have He:=Hq he;have Hf:=Hq hf;clear ha hb hc hd he hf
 have hR:RS w ((w.alloc (.cells #[.int .i64 0,.int .i64 0,.int .i64 0,.int .i64 0,.int .i64 0,.int .i64 0,.int .i64 0,.string {data:= #[]}] 143)).alloc (.cells #[.int .i64 0,.int .i64 0,.int .i64 0,.int .i64 0,.int .i64 0,.int .i64 0,.int .i64 0,.string {data:= #[]}] 143)) q p Px.sl0:=by
  have b1:=dx w (.cells #[.int .i64 0,.int .i64 0,.int .i64 0,.int .i64 0,.int .i64 0,.int .i64 0,.int .i64 0,.string {data:= #[]}] 143);have b2:=dx (w.alloc (.cells #[.int .i64 0,.int .i64 0,.int .i64 0,.int .i64 0,.int .i64 0,.int .i64 0,.int .i64 0,.string {data:= #[]}] 143)) (.cells #[.int .i64 0,.int .i64 0,.int .i64 0,.int .i64 0,.int .i64 0,.int .i64 0,.int .i64 0,.string {data:= #[]}] 143);have n1:Cl (w.alloc (.cells #[.int .i64 0,.int .i64 0,.int .i64 0,.int .i64 0,.int .i64 0,.int .i64 0,.int .i64 0,.string {data:= #[]}] 143)) w.heap.size 143 (psC Px.sl0):=Cl.new w (psC Px.sl0) 143;have n2:=Cl.new (w.alloc (.cells #[.int .i64 0,.int .i64 0,.int .i64 0,.int .i64 0,.int .i64 0,.int .i64 0,.int .i64 0,.string {data:= #[]}] 143)) (psC Px.sl0) 143;have hz:(w.alloc (.cells #[.int .i64 0,.int .i64 0,.int .i64 0,.int .i64 0,.int .i64 0,.int .i64 0,.int .i64 0,.string {data:= #[]}] 143)).heap.size=w.heap.size+1:=by simp
  rw[hz] at n2;exact⟨(hp.later b1).later b2,n2,n1.later b2,dy (b1.trans (b2.mono b1.size)) _,hp.ty.lt⟩
 clear hp
 go_enter Tryz.func210,Tryz.ntmps210
 go_upto_region 2 with fail;generalize (w.alloc (.cells #[.int .i64 0,.int .i64 0,.int .i64 0,.int .i64 0,.int .i64 0,.int .i64 0,.int .i64 0,.string {data:= #[]}] 143)).alloc (.cells #[.int .i64 0,.int .i64 0,.int .i64 0,.int .i64 0,.int .i64 0,.int .i64 0,.int .i64 0,.string {data:= #[]}] 143)=W at *;have ar:=Hq hR;clear hR;go_wp2_with fail;refine (dH p q 2 _ _ rfl (by decide) (by omega) ar.out.p).mono ?_
 rintro ex w0 ⟨rfl,I,J⟩;rw[Ha.out] at I ⊢;have Q:=ar.out.call I J;have r0:=Q.x.c 0 _ rfl;have t0:=Q.x.f 0 (by simp[psC])
 have y0:=Q.x.ty.lt;have aA:=Q.put (⟨a,0,0,0,0,0,0,ByteArray.empty⟩:Px.Sl) 0 (.int .i64 a) (by decide) rfl
 clear I J Q ar;go_upto_region 3 with fail;clear r0 t0 y0;generalize w0.setCell ⟨w.heap.size+1,0,none⟩ (.int .i64 a)=W1 at *;have ai:=Hq aA;clear aA;go_wp2_with fail;refine (dH pa q 1 _ _ rfl (by decide) (by omega) ai.out.p).mono ?_
 rintro ex w1 ⟨rfl,I,J⟩;rw[Hb.out] at I ⊢;have Z:=ai.out.call I J;have r1:=Z.x.c 1 _ rfl;have t1:=Z.x.f 1 (by simp[psC])
 have y1:=Z.x.ty.lt;have ay:=Z.put (⟨a,b,0,0,0,0,0,ByteArray.empty⟩:Px.Sl) 1 (.int .i64 b) (by decide) rfl
 clear I J Z ai;go_upto_region 4 with fail;clear r1 t1 y1;generalize w1.setCell ⟨w.heap.size+1,1,none⟩ (.int .i64 b)=W2 at *;have ak:=Hq ay;clear ay;go_wp2_with fail;refine (dH pb q 5 _ _ rfl (by decide) (by omega) ak.out.p).mono ?_
 rintro ex w2 ⟨rfl,I,J⟩;rw[Hc.out] at I ⊢;have V:=ak.out.call I J;have r2:=V.x.c 2 _ rfl;have t2:=V.x.f 2 (by simp[psC])
 have y2:=V.x.ty.lt;have az:=V.put (⟨a,b,c,0,0,0,0,ByteArray.empty⟩:Px.Sl) 2 (.int .i64 c) (by decide) rfl
 clear I J V ak;go_upto_region 5 with fail;clear r2 t2 y2;generalize w2.setCell ⟨w.heap.size+1,2,none⟩ (.int .i64 c)=W3 at *;have ae:=Hq az;clear az;go_wp2_with fail;refine (dH pc q 1 _ _ rfl (by decide) (by omega) ae.out.p).mono ?_
 rintro ex w3 ⟨rfl,I,J⟩;rw[Hd.out] at I ⊢;have U:=ae.out.call I J;have r3:=U.x.c 3 _ rfl;have t3:=U.x.f 3 (by simp[psC])
 have y3:=U.x.ty.lt;have aC:=U.put (⟨a,b,c,d,0,0,0,ByteArray.empty⟩:Px.Sl) 3 (.int .i64 d) (by decide) rfl
 clear I J U ae;go_upto_region 6 with fail;clear r3 t3 y3;generalize w3.setCell ⟨w.heap.size+1,3,none⟩ (.int .i64 d)=W4 at *;have ap:=Hq aC;clear aC;go_wp2_with fail;refine (dH pd q 5 _ _ rfl (by decide) (by omega) ap.out.p).mono ?_
 rintro ex w4 ⟨rfl,I,J⟩;rw[He.out] at I ⊢;have Y:=ap.out.call I J;have r4:=Y.x.c 4 _ rfl;have t4:=Y.x.f 4 (by simp[psC])
 have y4:=Y.x.ty.lt;have aB:=Y.put (⟨a,b,c,d,e,0,0,ByteArray.empty⟩:Px.Sl) 4 (.int .i64 e) (by decide) rfl
 clear I J Y ap;go_upto_region 7 with fail;clear r4 t4 y4;generalize w4.setCell ⟨w.heap.size+1,4,none⟩ (.int .i64 e)=W5 at *;have al:=Hq aB;clear aB;go_wp2_with fail;refine (dH pe q 1 _ _ rfl (by decide) (by omega) al.out.p).mono ?_
 rintro ex w6 ⟨rfl,I,J⟩;rw[Hf.out] at I ⊢;simp only at I;have hR:=al.out.call I J;clear I J al
 by_cases h1:f=1
 ·subst h1;have HF:Hid (Px.rdSlot p=(⟨a,b,c,d,e,1,0,ByteArray.empty⟩,pf)):=by unfold Hid;rw[HE.out,if_pos rfl,if_pos (Or.inl rfl)]
  have G:=hR.put (⟨a,b,c,d,e,1,0,ByteArray.empty⟩:Px.Sl) 5 (.int .i64 1) (by decide) rfl
  have r5:=hR.x.c 5 _ rfl;have t5:=hR.x.f 5 (by simp[psC])
  have y5:=hR.x.ty.lt;clear HE hR;go_upto_region 12 with fail;clear r5 t5 y5;generalize w6.setCell ⟨w.heap.size+1,5,none⟩ (.int .i64 1)=W7 at *;have O:=Hq G;have x0:=G.x.c 0 _ rfl;have x1:=G.x.c 1 _ rfl;have x2:=G.x.c 2 _ rfl;have x3:=G.x.c 3 _ rfl;have x4:=G.x.c 4 _ rfl;have x5:=G.x.c 5 _ rfl;have x6:=G.x.c 6 _ rfl;have x7:=G.x.c 7 _ rfl;have z0:=G.z.c 0 _ rfl;have z1:=G.z.c 1 _ rfl;have z2:=G.z.c 2 _ rfl;have z3:=G.z.c 3 _ rfl;have z4:=G.z.c 4 _ rfl;have z5:=G.z.c 5 _ rfl;have z6:=G.z.c 6 _ rfl;have z7:=G.z.c 7 _ rfl;have f0:=G.z.f 0 (by simp[psC]);have f1:=G.z.f 1 (by simp[psC]);have f2:=G.z.f 2 (by simp[psC]);have f3:=G.z.f 3 (by simp[psC]);have f4:=G.z.f 4 (by simp[psC]);have f5:=G.z.f 5 (by simp[psC]);have f6:=G.z.f 6 (by simp[psC]);have f7:=G.z.f 7 (by simp[psC])
  have yz:=G.z.ty.lt;have yx:=G.x.ty.lt;clear G;go_wp2_with fail;refine bodyPost_ret (v:=psV ⟨a,b,c,d,e,1,0,ByteArray.empty⟩) (by simp[results,Tryz.results210,go_sem,z0,z1,z2,z3,z4,z5,z6,z7]) rfl ?_
  rw[HF.out];exact⟨rfl,O.out.p.far8 (by have:=O.out.q;omega) _ _ _ _ _ _ _ _,ie O.out.g (Nat.le_refl _) _ _ _ _ _ _ _ _⟩
 ·by_cases h0:f=0
  ·subst h0;have HF:Hid (Px.rdSlot p=(⟨a,b,c,d,e,0,0,ByteArray.empty⟩,pf)):=by unfold Hid;rw[HE.out,if_neg (by decide),if_pos (Or.inr rfl)]
   have G:=hR;clear HE hR h1;go_upto_region 12 with fail;generalize w6=W7 at *;have O:=Hq G;have x0:=G.x.c 0 _ rfl;have x1:=G.x.c 1 _ rfl;have x2:=G.x.c 2 _ rfl;have x3:=G.x.c 3 _ rfl;have x4:=G.x.c 4 _ rfl;have x5:=G.x.c 5 _ rfl;have x6:=G.x.c 6 _ rfl;have x7:=G.x.c 7 _ rfl;have z0:=G.z.c 0 _ rfl;have z1:=G.z.c 1 _ rfl;have z2:=G.z.c 2 _ rfl;have z3:=G.z.c 3 _ rfl;have z4:=G.z.c 4 _ rfl;have z5:=G.z.c 5 _ rfl;have z6:=G.z.c 6 _ rfl;have z7:=G.z.c 7 _ rfl;have f0:=G.z.f 0 (by simp[psC]);have f1:=G.z.f 1 (by simp[psC]);have f2:=G.z.f 2 (by simp[psC]);have f3:=G.z.f 3 (by simp[psC]);have f4:=G.z.f 4 (by simp[psC]);have f5:=G.z.f 5 (by simp[psC]);have f6:=G.z.f 6 (by simp[psC]);have f7:=G.z.f 7 (by simp[psC])
   have yz:=G.z.ty.lt;have yx:=G.x.ty.lt;clear G;go_wp2_with fail;refine bodyPost_ret (v:=psV ⟨a,b,c,d,e,0,0,ByteArray.empty⟩) (by simp[results,Tryz.results210,go_sem,z0,z1,z2,z3,z4,z5,z6,z7]) rfl ?_
   rw[HF.out];exact⟨rfl,O.out.p.far8 (by have:=O.out.q;omega) _ _ _ _ _ _ _ _,ie O.out.g (Nat.le_refl _) _ _ _ _ _ _ _ _⟩
  ·have HF:Hid (Px.rdSlot p=(⟨a,b,c,d,e,0,0,ByteArray.empty⟩,⟨pf.rest,true⟩)):=by unfold Hid;rw[HE.out,if_neg h1,if_neg (by omega)]
   have G:RS w (w6.setCell ⟨q,1,none⟩ (.bool true)) q ⟨pf.rest,true⟩ ⟨a,b,c,d,e,0,0,ByteArray.empty⟩:=⟨hR.p.set 1 (by simp) _,hR.x.far (by have:=hR.q;omega) _ _,hR.z.far (by have:=hR.q;omega) _ _,dJ hR.g _ _,hR.q⟩
   have r5:=hR.p.c1;have t5:=hR.p.f1;have y5:=hR.p.ty.lt;clear HE hR;go_upto_region 12 with fail;clear r5 t5 y5 h1 h0;generalize w6.setCell ⟨q,1,none⟩ (.bool true)=W7 at *;have O:=Hq G;have x0:=G.x.c 0 _ rfl;have x1:=G.x.c 1 _ rfl;have x2:=G.x.c 2 _ rfl;have x3:=G.x.c 3 _ rfl;have x4:=G.x.c 4 _ rfl;have x5:=G.x.c 5 _ rfl;have x6:=G.x.c 6 _ rfl;have x7:=G.x.c 7 _ rfl;have z0:=G.z.c 0 _ rfl;have z1:=G.z.c 1 _ rfl;have z2:=G.z.c 2 _ rfl;have z3:=G.z.c 3 _ rfl;have z4:=G.z.c 4 _ rfl;have z5:=G.z.c 5 _ rfl;have z6:=G.z.c 6 _ rfl;have z7:=G.z.c 7 _ rfl;have f0:=G.z.f 0 (by simp[psC]);have f1:=G.z.f 1 (by simp[psC]);have f2:=G.z.f 2 (by simp[psC]);have f3:=G.z.f 3 (by simp[psC]);have f4:=G.z.f 4 (by simp[psC]);have f5:=G.z.f 5 (by simp[psC]);have f6:=G.z.f 6 (by simp[psC]);have f7:=G.z.f 7 (by simp[psC])
   have yz:=G.z.ty.lt;have yx:=G.x.ty.lt;clear G;go_wp2_with fail;refine bodyPost_ret (v:=psV ⟨a,b,c,d,e,0,0,ByteArray.empty⟩) (by simp[results,Tryz.results210,go_sem,z0,z1,z2,z3,z4,z5,z6,z7]) rfl ?_
   rw[HF.out];exact⟨rfl,O.out.p.far8 (by have:=O.out.q;omega) _ _ _ _ _ _ _ _,ie O.out.g (Nat.le_refl _) _ _ _ _ _ _ _ _⟩
end Go.Proofs.YtdajolpoiffimabGreatDoor
