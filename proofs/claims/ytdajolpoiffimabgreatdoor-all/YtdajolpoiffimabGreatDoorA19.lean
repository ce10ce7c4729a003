import Derived.Deep.RegionHeld3
import Derived.Test.YtdajolpoiffimabGreatDoorA17

namespace Go.Proofs.YtdajolpoiffimabGreatDoor
open Go.RowKit
theorem tA {w:World} {a b q o1 o2 o3:Nat} {u v x:Value} (h1:w.cell? ⟨a,o1,none⟩=some u) (h2:w.cell? ⟨b,o2,none⟩=some v) (n1:a≠q) (n2:b≠q):
 (w.setCell ⟨q,o3,none⟩ x).drew.cell? ⟨a,o1,none⟩=some u∧(w.setCell ⟨q,o3,none⟩ x).drew.cell? ⟨b,o2,none⟩=some v:=
 ⟨(World.cell?_setCell_other _ _ _ _ (fun e=>n1 (by cases e;rfl))).trans h1,(World.cell?_setCell_other _ _ _ _ (fun e=>n2 (by cases e;rfl))).trans h2⟩
set_option maxRecDepth 10000 in
set_option maxHeartbeats 4000000 in
theorem fL (s:Px.St) (n:Int) (sl en:Value) (w:World) (hO:Px.Ok s) (hT:TabLH w) (hS:PAt w s sl en):
 Calls Tryz.prog 50 #[pstV s sl en,.int .i64 n] w fun e w'=>ChgR (Px.failP s n) w' e∧Below w.heap.size w w':=by
 obtain⟨ad,U,rfl,cx⟩:=hS.sl.form;obtain⟨J,G,rfl,cs⟩:=hS.en.form;have HO:=Hq hO;have hl:s.slots.length≤10000:=by have:=hO.len;omega
 have he:s.ends.length≤10000:=by have:s.ends.length≤6:=hO.st.en;omega
 have cP: -1≤s.clock:=hO.st.c1;have cS:s.clock≤4223371679:=hO.st.c2;have HS:=Hq hS;have hP:=PRes.new w s (.slice ad s.slots.length U) (.slice J s.ends.length G);clear hS hO
 go_enter Tryz.func50,Tryz.ntmps50
 go_upto_region 1 with fail;generalize (w.alloc (pstO s (.slice ad s.slots.length U) (.slice J s.ends.length G))).alloc pzO=W at *;have a2:=Hq (HS.out.later hP.bel);have HT:=Hq (hT.later hP.bel);have HP:=Hq hP;obtain⟨i0,i1,i2,i3,i4⟩:=hP.st;clear hP hT;go_wp2_with fail;refine (fy s n _ _ _ hl a2.out).mono ?_;rintro e w1 ⟨hF,aO⟩;clear i0 i1 i2 i3 i4;have az:=HP.out.later aO;have aZ:=a2.out.later aO;have bs:=HT.out.later aO;clear HP a2 aO HT
 rcases hF with ⟨x,hf,rfl⟩|⟨hf,rfl⟩
 rotate_left
 ·have HM:Hid (Px.failP s n=(Px.st0,8)):=by unfold Hid Px.failP;rw[hf]
  clear hf;generalize Px.sl0=x at *;have aN:=az.later (cw w1 (psO x));clear az aZ bs;go_upto_region 2 with fail;generalize w1.alloc (psO x)=W2 at *;obtain⟨⟨⟨u0,r0⟩,f0⟩,⟨⟨u1,r1⟩,f1⟩,⟨⟨u2,r2⟩,f2⟩,⟨⟨u3,r3⟩,f3⟩,⟨⟨u4,r4⟩,f4⟩⟩:=aN.five;have br:Hid (Below w.heap.size w W2):=aN.bel;clear aN;go_wp2_with fail;refine bodyPost_ret (v:=.tuple #[.agg #[.string {data:= #[]},.int .i64 0,.int .i64 0,.slice none 0 0,.slice none 0 0],.int .i64 8]) (by simp[results,Tryz.results50,go_sem,r0,r1,r2,r3,r4]) rfl ⟨ChgR.err HM.out,dE br.out (by omega) _ _ _ _ _⟩
 have bD:=Hq hf;have ba:x∈s.slots:=List.mem_of_find?_eq_some hf;have cm:Hid _:=HO.out.each ba;obtain⟨cK,bT,cO,bZ,bY,ci⟩:=cm.out;have b4:x.att≤5:=HO.out.st.att5 (List.mem_map.2 ⟨x,ba,rfl⟩:Px.absS x∈_);obtain⟨j,hj⟩:∃j:Nat,x.line=(j:Int)+1:=⟨(x.line-1).toNat,by omega⟩
 have b9:j<tn s.tab:=by omega
 have HJ:=Hq hj;have bC:=az.later (cw w1 (psO x));have bz:=aZ.later (cw w1 (psO x));have bA:=bs.later (cw w1 (psO x));have bx:=PsIn.new w1 x;have cM:w.heap.size+1<w1.heap.size:=az.lt;clear az aZ bs hf ci bZ ba hj bT;go_upto_region 2 with fail;generalize w1.alloc (psO x)=W2 at *;generalize w1.heap.size=xq at *;have bo:=Hq bC;have aY:=Hq bz;have bk:=Hq bA;have bG:=Hq bx;obtain⟨x0,x1,x2,x3,x4,x5,x6,x7⟩:=bx;clear bC bz bA;go_wp2_with fail;refine (eu x W2).mono ?_;rintro e w3 ⟨rfl,ax⟩;clear x0 x1 x2 x3 x4 x5 x6 x7;have O:=bo.out.later ax;have aD:=Hq (aY.out.later ax);have a8:=Hq (bk.out.later ax);have aJ:=Hq (bG.out.later ax);clear bo aY bk bG ax
 cases hr:decide (0<x.step)
 ·have HM:Hid (Px.failP s n=(Px.st0,9)):=by unfold Hid Px.failP;rw[bD.out];simp only;rw[if_pos (by have:=of_decide_eq_false hr;omega)]
  clear hr;obtain⟨⟨⟨u0,r0⟩,f0⟩,⟨⟨u1,r1⟩,f1⟩,⟨⟨u2,r2⟩,f2⟩,⟨⟨u3,r3⟩,f3⟩,⟨⟨u4,r4⟩,f4⟩⟩:=O.five;have br:Hid (Below w.heap.size w w3):=O.bel;clear O;go_wp2_with fail;refine bodyPost_ret (v:=.tuple #[.agg #[.string {data:= #[]},.int .i64 0,.int .i64 0,.slice none 0 0,.slice none 0 0],.int .i64 9]) (by simp[results,Tryz.results50,go_sem,r0,r1,r2,r3,r4]) rfl ⟨ChgR.err HM.out,dE br.out (by omega) _ _ _ _ _⟩
 have co:0<x.step:=of_decide_eq_true hr
 have aQ:Hid (Px.failP s n=if obt (pt (tl s.tab j) 5) 2-48≤x.att then (Px.ended s n ⟨#[97]⟩,0) else ({s with slots:=Px.repl s.slots (Px.again s x)},0)):=by
  unfold Hid Px.failP;rw[bD.out];simp only;rw[if_neg (by omega),rd]
  have:Px.opt s x.line 2=obt (pt (tl s.tab j) 5) 2:=by
   unfold Px.opt;rw[HJ.out,show ((j:Int)+1-1).toNat=j by omega];rfl
  rw[this]
 clear hr co;obtain⟨i0,i1,i2,i3,i4⟩:=O.st;obtain⟨x0,x1,x2,x3,x4,x5,x6,x7⟩:=aJ.out;have a6:=Hq O;clear O;go_wp2_with fail;refine (fU s x.line j _ _ _ HJ.out b9 HO.out.st.tab a8.out aD.out).mono ?_;rintro e w4 ⟨⟨v,rfl,bb,cc,ap,Y,rfl,_,_⟩,aP⟩;clear i0 i1 i2 i3 i4 x0 x1 x2 x3 x4 x5 x6 x7;have bJ:(w4.alloc (lnO (tl s.tab j) bb cc ap Y)).cell? ⟨w4.heap.size,12,none⟩=some (.int .i64 (obt (pt (tl s.tab j) 5) 2-48)):=by simp[go_sem]
 have bj:=(a6.out.later aP).later (cw w4 (lnO (tl s.tab j) bb cc ap Y));have bw:=(aD.out.later aP).later (cw w4 (lnO (tl s.tab j) bb cc ap Y));have bv:=(aJ.out.later aP).later (cw w4 (lnO (tl s.tab j) bb cc ap Y));clear a6 aD a8 aJ aP;go_upto_region 7 with fail;generalize w4.alloc (lnO (tl s.tab j) bb cc ap Y)=W5 at *;generalize w4.heap.size=lq at *;generalize obt (pt (tl s.tab j) 5) 2-48=bP at *;have ai:=Hq bj;have aj:=Hq bw;have aI:=Hq bv;obtain⟨i0,i1,i2,i3,i4⟩:=bj.st;obtain⟨x0,x1,x2,x3,x4,x5,x6,x7⟩:=bv;clear bj bw
 by_cases ha:bP≤x.att
 ·have HM:Hid (Px.failP s n=(Px.ended s n ⟨#[97]⟩,0)):=by unfold Hid;rw[aQ.out,if_pos ha]
  clear aQ;go_wp2_with fail;refine (g9 s n ⟨#[97]⟩ _ _ _ hl he aj.out).mono ?_;rintro e d ⟨⟨cT,cQ,rfl,al⟩,aa⟩;clear i0 i1 i2 i3 i4 x0 x1 x2 x3 x4 x5 x6 x7 bJ;have ak:=ai.out.later aa;obtain⟨b5,bM,cd,_⟩:=al.sl.form;obtain⟨b2,bN,b6,_⟩:=al.en.form;subst cd b6;have H4:=Hq al;have cg:Hid (Typed d (w.heap.size+1) 77):=ak.ty;have cn:Hid (Below w.heap.size w d):=ak.bel;obtain⟨⟨⟨u0,r0⟩,f0⟩,⟨⟨u1,r1⟩,f1⟩,⟨⟨u2,r2⟩,f2⟩,⟨⟨u3,r3⟩,f3⟩,⟨⟨u4,r4⟩,f4⟩⟩:=ak.five;clear al aa ak ai aj aI;go_wp2_with fail;refine bodyPost_ret (v:=.tuple #[pstV (Px.ended s n ⟨#[97]⟩) (.slice b5 (Px.ended s n ⟨#[97]⟩).slots.length bM) (.slice b2 (Px.ended s n ⟨#[97]⟩).ends.length bN),.int .i64 0]) (by simp[results,Tryz.results50,go_sem,r0,r1,r2,r3,r4]) rfl ⟨ChgR.ok HM.out (H4.out.store cg.out _ _ _ _ _),dE cn.out (by omega) _ _ _ _ _⟩
 ·have HM:Hid (Px.failP s n=({s with slots:=Px.repl s.slots (Px.again s x)},0)):=by unfold Hid;rw[aQ.out,if_neg ha]
  clear aQ;have cL:=Px.delay_bd' x.att;have q1:IntKind.i64.wrap (s.clock+Bx.delay x.att)=s.clock+Bx.delay x.att:=by rw[IntKind.wrap_i64];omega
  have q2:IntKind.i64.wrap (x.att+1)=x.att+1:=by rw[IntKind.wrap_i64];omega
  go_wp2_with fail;refine (lA x _).mono ?_;rintro e d ⟨rfl,aa⟩;have aR:=ai.out.later aa;have bF:=aj.out.later aa;have bh:=aI.out.later aa;have cR:xq<d.heap.size:=World.block_lt_of_cell? _ _ bh.c3;have cJ:w.heap.size+1<d.heap.size:=aR.lt;clear aa ai aj aI i0 i1 i2 i3 i4 x0 x1 x2 x3 x4 x5 x6 x7 bJ;have aU:=cw d (psO {waitS x with att:=x.att+1});have bB:=(aR.later aU).st.c1;have bI:=(bh.later aU).c3;obtain⟨x0,x1,x2,x3,x4,x5,x6,x7⟩:=bh;go_upto_region 11 with fail;clear x0 x1 x2 x3 x4 x5 x6 x7;have a9:Hid (Below d.heap.size d ((d.alloc (psO {waitS x with att:=x.att+1})).setCell ⟨d.heap.size,4,none⟩ (.int .i64 (s.clock+Bx.delay x.att)))):=aU.setCell (by simp) _
  have aS:Hid (PsIn ((d.alloc (psO {waitS x with att:=x.att+1})).setCell ⟨d.heap.size,4,none⟩ (.int .i64 (s.clock+Bx.delay x.att))) d.heap.size (Px.again s x)):=⟨by simp[go_sem,waitS,Px.again],by simp[go_sem,waitS,Px.again],by simp[go_sem,waitS,Px.again],by simp[go_sem,waitS,Px.again],by simp[go_sem,waitS,Px.again],by simp[go_sem,waitS,Px.again],by simp[go_sem,waitS,Px.again],by simp[go_sem,waitS,Px.again]⟩
  have y4:(d.alloc (psO {waitS x with att:=x.att+1})).cell? ⟨d.heap.size,4,none⟩=some (.int .i64 x.frm):=by simp[go_sem,waitS]
  have g4:(d.alloc (psO {waitS x with att:=x.att+1})).frozen? ⟨d.heap.size,4,none⟩=false:=by simp[go_sem]
  have cj:w.heap.size≠d.heap.size:=by omega
  have b3:xq≠d.heap.size:=by omega
  have cG:d.heap.size<(d.alloc (psO {waitS x with att:=x.att+1})).heap.size:=by simp
  generalize d.alloc (psO {waitS x with att:=x.att+1})=W7 at *;have bg:=Hq aR;have bm:=Hq bF;clear aR bF aU;go_wp2_with fail
  go_region_held3 (fun w'=>w'.cell? ⟨w.heap.size,1,none⟩=some (.int .i64 s.clock)∧w'.cell? ⟨xq,3,none⟩=some (.int .i64 x.att)) ((first |exact tA bB bI cj b3|go_keep))
   (first
    | (go_at_call 95;refine (nf _ _ bY b4).mono ?_;rintro e w8 ⟨rfl,rfl⟩))
  have aV:=(bg.out.later a9.out).later (Below.refl _ _).drew;have bE:=(bm.out.later a9.out).later (Below.refl _ _).drew;have aS:=aS.out.later (Below.refl _ _).drew;clear bg bm a9 y4 g4 bB bI;generalize d.heap.size=aq at *;generalize (W7.setCell ⟨aq,4,none⟩ (.int .i64 (s.clock+Bx.delay x.att))).drew=W7 at *;generalize Px.again s x=y at *;have bq:=aV.later (cw W7 (pstO s (.slice ad s.slots.length U) (.slice J s.ends.length G)));have bH:=bE.later (cw W7 (pstO s (.slice ad s.slots.length U) (.slice J s.ends.length G)));have ce:=aS.later (cw W7 (pstO s (.slice ad s.slots.length U) (.slice J s.ends.length G)));have hA:=PW.new W7 s (.slice ad s.slots.length U) (.slice J s.ends.length G);have cr:=aV.lt;obtain⟨i0,i1,i2,i3,i4⟩:=aV.st;clear bE aS;go_upto_region 13 with fail;clear i0 i1 i2 i3 i4 aV;generalize W7.alloc (pstO s (.slice ad s.slots.length U) (.slice J s.ends.length G))=W8 at *;generalize W7.heap.size=q at *;have a4:=Hq bq;have aE:=Hq bH;have bt:=Hq hA;obtain⟨i0,i1,i2,i3,i4⟩:=bq.st;obtain⟨y0,y1,y2,y3,y4,y5,y6,y7⟩:=ce;clear bq bH hA;go_wp2_with fail;refine (fB s.slots y _ _ hl aE.out.sl.1).mono ?_;rintro e w9 ⟨⟨v9,rfl,ah⟩,aT⟩;clear i0 i1 i2 i3 i4 y0 y1 y2 y3 y4 y5 y6 y7;obtain⟨V,I,cf,_⟩:=(RowAt.of_own ah).form;subst cf;have Q:=bt.out.later aT;have a3:=Q.st.c3;have ck:=Q.f 3 (by decide)
  have cN:=Q.ty.lt;have Z:=(a4.out.later aT).set cr 3 (.slice V (Px.repl s.slots y).length I);have aM:=Q.slots (Px.repl s.slots y) (.slice V (Px.repl s.slots y).length I);have a7:=((aE.out.later aT).set Q.ty (by decide) (by decide) 3 (.slice V (Px.repl s.slots y).length I)).en
  have bc:=(TRow.of_own ah).set Q.ty (by decide) 3 (.slice V (Px.repl s.slots y).length I)
  clear Q ah aT a4 aE bt;go_upto_region 14 with fail;clear a3 ck;generalize w9.setCell ⟨q,3,none⟩ (.slice V (Px.repl s.slots y).length I)=b7 at *;have HX:Hid (PEnd w b7 q {s with slots:=Px.repl s.slots y} (.slice V (Px.repl s.slots y).length I) (.slice J s.ends.length G)):=⟨aM,⟨bc,a7⟩,Z.z,Z.ty,Z.bel⟩;obtain⟨⟨⟨u0,r0⟩,f0⟩,⟨⟨u1,r1⟩,f1⟩,⟨⟨u2,r2⟩,f2⟩,⟨⟨u3,r3⟩,f3⟩,⟨⟨u4,r4⟩,f4⟩⟩:=Z.five;obtain⟨c0,c1,c2,c3,c4⟩:=aM.st;clear Z aM a7 bc;go_wp2_with fail;refine bodyPost_ret (v:=.tuple #[pstV {s with slots:=Px.repl s.slots y} (.slice V (Px.repl s.slots y).length I) (.slice J s.ends.length G),.int .i64 0]) (by simp[results,Tryz.results50,go_sem,r0,r1,r2,r3,r4]) rfl ⟨ChgR.ok HM.out (HX.out.fin _ _ _ _ _).1,(HX.out.fin _ _ _ _ _).2⟩
def AnsB (e:Ending) (P:Prop):Prop:=∃b,e=.returned (.bool b)∧(b=true↔P)
theorem AnsB.yes {P:Prop} (h:P):AnsB (.returned (.bool true)) P:=⟨true,rfl,⟨fun _=>h,fun _=>rfl⟩⟩
theorem dC {h:ByteArray} {l:List UInt8} (e:¬h=⟨l.toArray⟩):(h.toList==l)=false:=by
 cases q:(h.toList==l)
 ·rfl
 ·have:h.toList=l:=by simpa using q
  rw[ByteArray.toList_eq] at this;exact (e (Bx.ba_ext (by simpa using this))).elim
theorem AnsB.no {P:Prop} (h:¬P):AnsB (.returned (.bool false)) P:=⟨false,rfl,⟨fun e=>(by cases e),fun e=>(h e).elim⟩⟩
set_option maxHeartbeats 1000000 in
theorem op (h:ByteArray) (w:World):Calls Tryz.prog 193 #[.string h] w fun e Q=>AnsB e (h=Bx.hD∨h=Bx.hA∨h=Bx.hK∨h=Bx.hS)∧Q=w:=by
 have J:Hid (Bx.hD=⟨#[100]⟩):=rfl;have U:Hid (Bx.hA=⟨#[97]⟩):=rfl;have O:Hid (Bx.hK=⟨#[107]⟩):=rfl;have V:Hid (Bx.hS=⟨#[115]⟩):=rfl
 by_cases h1:h=⟨#[100]⟩
 ·subst h1
  go_enter Tryz.func193,Tryz.ntmps193
  go_wp2_with fail;go_ret;exact⟨AnsB.yes (Or.inl rfl),rfl⟩
 by_cases h2:h=⟨#[97]⟩
 ·subst h2
  go_enter Tryz.func193,Tryz.ntmps193
  go_wp2_with fail;go_ret;exact⟨AnsB.yes (Or.inr (Or.inl rfl)),rfl⟩
 by_cases G:h=⟨#[107]⟩
 ·subst G
  go_enter Tryz.func193,Tryz.ntmps193
  go_wp2_with fail;go_ret;exact⟨AnsB.yes (Or.inr (Or.inr (Or.inl rfl))),rfl⟩
 by_cases d:h=⟨#[115]⟩
 ·subst d
  go_enter Tryz.func193,Tryz.ntmps193
  go_wp2_with fail;go_ret;exact⟨AnsB.yes (Or.inr (Or.inr (Or.inr rfl))),rfl⟩
 have I:Hid (¬(h=Bx.hD∨h=Bx.hA∨h=Bx.hK∨h=Bx.hS)):=by
  rintro (q|q|q|q)
  ·exact h1 (q.trans J.out)
  ·exact h2 (q.trans U.out)
  ·exact G (q.trans O.out)
  ·exact d (q.trans V.out)
 have t1:=dC (l:=[100]) h1;have t2:=dC (l:=[97]) h2;have Z:=dC (l:=[107]) G;have Y:=dC (l:=[115]) d;clear h1 h2 G d
 go_enter Tryz.func193,Tryz.ntmps193
 go_wp2_with fail;go_ret;exact⟨AnsB.no I.out,rfl⟩
def cntS (l:List Px.Sl) (n:Int) (k:Nat):Nat:=((l.take k).filter fun x=>x.num==n).length
def cntE (l:List Bx.En) (n:Int) (k:Nat):Nat:=((l.take k).filter fun x=>x.num==n).length
theorem l8 {α:Type} {l:List α} {p:α→Bool} {k:Nat} (h:k<l.length) (e:p l[k]=true):((l.take (k+1)).filter p).length=((l.take k).filter p).length+1:=by
 rw[List.take_succ_eq_append_getElem h,List.filter_append,List.filter_cons_of_pos e];simp
theorem nh {α:Type} {l:List α} {p:α→Bool} {k:Nat} (h:k<l.length) (e:p l[k]=false):((l.take (k+1)).filter p).length=((l.take k).filter p).length:=by
 rw[List.take_succ_eq_append_getElem h,List.filter_append,List.filter_cons_of_neg (by rw[e];simp)];simp
theorem oI {α:Type} (l:List α) (p:α→Bool) (k:Nat):((l.take k).filter p).length≤k:=by
 have:=List.length_filter_le p (l.take k);simp at this ⊢;omega
def timesP (s:Px.St) (n:Int):Nat:=(s.slots.filter fun x=>x.num==n).length+(s.ends.filter fun x=>x.num==n).length
set_option maxRecDepth 10000 in
set_option maxHeartbeats 2000000 in
theorem nF (s:Px.St) (n:Int) (sl en:Value) (w:World) (hl:s.slots.length≤10000) (aB:s.ends.length≤10000) (hS:PAt w s sl en):
 Calls Tryz.prog 194 #[pstV s sl en,.int .i64 n] w fun e w'=>e=.returned (.int .i64 (timesP s n:Nat))∧Below w.heap.size w w':=by
 obtain⟨ad,U,rfl,av⟩:=hS.sl.form;obtain⟨O,I,rfl,ai⟩:=hS.en.form;have HR:=Hq hS.sl.1;have Y:=Hq hS.en.1;clear hS;have J:=cw w (pstO s (.slice ad s.slots.length U) (.slice O s.ends.length I));have hI:=PIn.new w s (.slice ad s.slots.length U) (.slice O s.ends.length I)
 go_enter Tryz.func194,Tryz.ntmps194
 go_upto_region 1 with fail;generalize w.alloc (pstO s (.slice ad s.slots.length U) (.slice O s.ends.length I))=W at *;have HB:=Hq J;have ah:=Hq (HR.out.later J);have ag:=Hq (Y.out.later J);have i3:=hI.c3;have i4:=hI.c4;clear hI J HR Y;go_wp2_with fail
 go_loop [5,6] (fun c i=>∃k:Nat,k≤s.slots.length∧i=.int .i64 k∧c=.int .i64 (cntS s.slots n k:Nat)) (fun _ i=>s.slots.length-(intOf i).toNat)
 case atStart=>exact⟨0,Nat.zero_le _,rfl,rfl⟩
 case round=>
  obtain⟨k,hk,rfl,rfl⟩:=hrel;have aA:cntS s.slots n k≤k:=oI _ _ _
  by_cases d:k<s.slots.length
  ·obtain⟨b,Z,ab,hv,_,Q⟩:=ah.out.some' (by omega)
   cases hv
   obtain⟨d0,d1,d2,d3,d4,d5,d6,d7⟩:=ei Q k d;clear Q d1 d2 d3 d4 d5 d6 d7;have b1:(0:Int)≤(k:Int):=by omega
   have b2:(k:Int)<(s.slots.length:Int):=by omega
   cases V:(s.slots[k].num==n)
   ·have G:Hid (cntS s.slots n (k+1)=cntS s.slots n k):=nh d V;generalize s.slots[k]=x at *;generalize cntS s.slots n k=r at *;go_wp2_with fail
    go_round
    case rel=>exact⟨k+1,by omega,by go_num,by rw[G.out]⟩
    case measure=>simp[intOf];omega
   ·have G:Hid (cntS s.slots n (k+1)=cntS s.slots n k+1):=l8 d V;generalize s.slots[k]=x at *;generalize cntS s.slots n k=r at *;go_wp2_with fail
    go_round
    case rel=>exact⟨k+1,by omega,by go_num,by rw[G.out];go_num⟩
    case measure=>simp[intOf];omega
  ·obtain rfl:k=s.slots.length:=by omega
   have HC:Hid (cntS s.slots n s.slots.length=(s.slots.filter fun x=>x.num==n).length):=by unfold Hid cntS;rw[List.take_length]
   generalize cntS s.slots n s.slots.length=r at *;go_wp2_with fail
   go_loop [5,7] (fun c i=>∃k:Nat,k≤s.ends.length∧i=.int .i64 k∧c=.int .i64 ((r+cntE s.ends n k:Nat):Int)) (fun _ i=>s.ends.length-(intOf i).toNat)
   case atStart=>exact⟨0,Nat.zero_le _,rfl,rfl⟩
   case round=>
    obtain⟨k,hk,rfl,rfl⟩:=hrel;have ak:cntE s.ends n k≤k:=oI _ _ _
    by_cases d:k<s.ends.length
    ·obtain⟨b,Z,ab,hv,_,Q⟩:=ag.out.some' (by omega)
     cases hv
     have d0:W.cell? ⟨b,Z+k*2,none⟩=some (.int .i64 s.ends[k].num):=RowAt.cell ej Q k d 0 (by decide)
     clear Q;have b1:(0:Int)≤(k:Int):=by omega
     have b2:(k:Int)<(s.ends.length:Int):=by omega
     cases V:(s.ends[k].num==n)
     ·have G:Hid (cntE s.ends n (k+1)=cntE s.ends n k):=nh d V;generalize s.ends[k]=x at *;generalize cntE s.ends n k=r2 at *;go_wp2_with fail
      go_round
      case rel=>exact⟨k+1,by omega,by go_num,by rw[G.out]⟩
      case measure=>simp[intOf];omega
     ·have G:Hid (cntE s.ends n (k+1)=cntE s.ends n k+1):=l8 d V;generalize s.ends[k]=x at *;generalize cntE s.ends n k=r2 at *;go_wp2_with fail
      go_round
      case rel=>exact⟨k+1,by omega,by go_num,by rw[G.out];go_num⟩
      case measure=>simp[intOf];omega
    ·obtain rfl:k=s.ends.length:=by omega
     have G:Hid (r+cntE s.ends n s.ends.length=timesP s n):=by unfold Hid timesP;rw[←HC.out];unfold cntE;rw[List.take_length]
     go_wp2_with fail;go_ret;exact⟨dR (by rw[←G.out];simp),HB.out⟩
def FromP (s:Px.St) (x:Px.Sl):Prop:=(x.att=1→x.frm=x.minute)∧(¬x.att=1→x.minute<x.frm∧x.frm≤s.clock+10)
set_option maxHeartbeats 1000000 in
theorem nE (s:Px.St) (x:Px.Sl) (sl en:Value) (w:World) (c1: -1≤s.clock) (c2:s.clock≤4223371679) (hS:PAt w s sl en):
 Calls Tryz.prog 211 #[pstV s sl en,psV x] w fun e w'=>AnsB e (FromP s x)∧Below w.heap.size w w':=by
 obtain⟨U,J,rfl,ae⟩:=hS.sl.form;obtain⟨I,d,rfl,ac⟩:=hS.en.form;clear hS;have Y:=(cw w (pstO s (.slice U s.slots.length J) (.slice I s.ends.length d))).alloc (by simp) (psO x)
 have hI:=(PIn.new w s (.slice U s.slots.length J) (.slice I s.ends.length d)).later (cw _ (psO x));have Q:=PsIn.new (w.alloc (pstO s (.slice U s.slots.length J) (.slice I s.ends.length d))) x;have Z:(w.alloc (pstO s (.slice U s.slots.length J) (.slice I s.ends.length d))).heap.size=w.heap.size+1:=by simp
 rw[Z] at Q
 go_enter Tryz.func211,Tryz.ntmps211
 go_upto_region 1 with fail;clear Z;generalize (w.alloc (pstO s (.slice U s.slots.length J) (.slice I s.ends.length d))).alloc (psO x)=W at *;have O:=Hq Y;have i1:=hI.c1;have x2:=Q.c2;have x3:=Q.c3;have x4:=Q.c4;clear hI Q Y
 by_cases V:x.att=1
 ·cases hf:(x.frm==x.minute)
  ·have G:Hid (¬FromP s x):=fun q=>by have:=q.1 V;simp[this] at hf
   go_wp2_with fail;go_ret;exact⟨AnsB.no G.out,O.out⟩
  ·have G:Hid (FromP s x):=⟨fun _=>by simpa using hf,fun q=>(q V).elim⟩
   go_wp2_with fail;go_ret;exact⟨AnsB.yes G.out,O.out⟩
 ·by_cases h1:x.minute<x.frm
  ·by_cases h2:x.frm≤s.clock+10
   ·have G:Hid (FromP s x):=⟨fun q=>(V q).elim,fun _=>⟨h1,h2⟩⟩
    go_wp2_with fail;go_ret;exact⟨AnsB.yes G.out,O.out⟩
   ·have G:Hid (¬FromP s x):=fun q=>h2 (q.2 V).2
    go_wp2_with fail;go_ret;exact⟨AnsB.no G.out,O.out⟩
  ·have G:Hid (¬FromP s x):=fun q=>h1 (q.2 V).1
   go_wp2_with fail;go_ret;exact⟨AnsB.no G.out,O.out⟩
abbrev ln0:List Value:=[.bool false,.slice none 0 0,.bool false,.slice none 0 0,.bool false,.slice none 0 0,.bool false,.slice none 0 0,.bool false,.slice none 0 0,.bool false,.int .u8 0,.int .i64 0,.slice none 0 0]
theorem iu {n R:Nat} {w J:World} (h:Below n w J) (hR:n≤R) (v0 v1 O Y v4 v5 V Q U Z e d I G:Value):Below n w ((((((((((((((J.setCell ⟨R,0,none⟩ v0).setCell ⟨R,1,none⟩ v1).setCell ⟨R,2,none⟩ O).setCell ⟨R,3,none⟩ Y).setCell ⟨R,4,none⟩ v4).setCell ⟨R,5,none⟩ v5).setCell ⟨R,6,none⟩ V).setCell ⟨R,7,none⟩ Q).setCell ⟨R,8,none⟩ U).setCell ⟨R,9,none⟩ Z).setCell ⟨R,10,none⟩ e).setCell ⟨R,11,none⟩ d).setCell ⟨R,12,none⟩ I).setCell ⟨R,13,none⟩ G):=by
 repeat (refine Below.setCell ?_ hR _)
 exact h
set_option maxRecDepth 10000 in
set_option maxHeartbeats 2000000 in
theorem mr (s:Px.St) (n:Int) (sl en:Value) (w:World) (hn:¬(1≤n∧n≤tn s.tab)) (hC:ChkR s.tab 0 0) (hT:TabLH w) (hS:PAt w s sl en):
 Calls Tryz.prog 92 #[pstV s sl en,.int .i64 n] w fun e w'=>e=.returned (.agg ln0.toArray)∧Below w.heap.size w w':=by
 obtain⟨Q,J,rfl,aE⟩:=hS.sl.form;obtain⟨I,G,rfl,aw⟩:=hS.en.form;have HS:=Hq hS;have HC:=Hq hC;have h4:=gv hC;have O:=(cw w (pstO s (.slice Q s.slots.length J) (.slice I s.ends.length G))).alloc (by simp) (.cells #[.bool false,.slice none 0 0,.bool false,.slice none 0 0,.bool false,.slice none 0 0,.bool false,.slice none 0 0,.bool false,.slice none 0 0,.bool false,.int .u8 0,.int .i64 0,.slice none 0 0] 154)
 have hI:=(PIn.new w s (.slice Q s.slots.length J) (.slice I s.ends.length G)).later (cw _ (.cells #[.bool false,.slice none 0 0,.bool false,.slice none 0 0,.bool false,.slice none 0 0,.bool false,.slice none 0 0,.bool false,.slice none 0 0,.bool false,.int .u8 0,.int .i64 0,.slice none 0 0] 154));have hZ:=ZCell.new (w.alloc (pstO s (.slice Q s.slots.length J) (.slice I s.ends.length G))) #[.bool false,.slice none 0 0,.bool false,.slice none 0 0,.bool false,.slice none 0 0,.bool false,.slice none 0 0,.bool false,.slice none 0 0,.bool false,.int .u8 0,.int .i64 0,.slice none 0 0] 154;have Y:ZCell ((w.alloc (pstO s (.slice Q s.slots.length J) (.slice I s.ends.length G))).alloc (.cells #[.bool false,.slice none 0 0,.bool false,.slice none 0 0,.bool false,.slice none 0 0,.bool false,.slice none 0 0,.bool false,.slice none 0 0,.bool false,.int .u8 0,.int .i64 0,.slice none 0 0] 154)) (w.heap.size+1) 14:=by simpa using hZ
 have hq:w.heap.size+1<((w.alloc (pstO s (.slice Q s.slots.length J) (.slice I s.ends.length G))).alloc (.cells #[.bool false,.slice none 0 0,.bool false,.slice none 0 0,.bool false,.slice none 0 0,.bool false,.slice none 0 0,.bool false,.slice none 0 0,.bool false,.int .u8 0,.int .i64 0,.slice none 0 0] 154)).heap.size:=by simp
 clear hZ hS hC
 go_enter Tryz.func92,Tryz.ntmps92
 go_upto_region 1 with fail;generalize (w.alloc (pstO s (.slice Q s.slots.length J) (.slice I s.ends.length G))).alloc (.cells #[.bool false,.slice none 0 0,.bool false,.slice none 0 0,.bool false,.slice none 0 0,.bool false,.slice none 0 0,.bool false,.slice none 0 0,.bool false,.int .u8 0,.int .i64 0,.slice none 0 0] 154)=W at *;have HT:=Hq (hT.later O);have Z:=Hq (HS.out.later O);obtain⟨i0,i1,i2,i3,i4⟩:=hI;have HB:=Hq O;have ak:=O.size;clear O hT HS;go_wp2_with fail;refine (gy s _ _ _ HC.out HT.out Z.out).mono ?_;rintro e w1 ⟨⟨g,c,rfl,aR,hL⟩,U⟩;have d:=Y.later hq U;have V:=Hq (HB.out.trans (U.mono ak));obtain⟨⟨u0,r0⟩,f0⟩:=d 0 (by decide)
 obtain⟨⟨u1,r1⟩,f1⟩:=d 1 (by decide)
 obtain⟨⟨u2,r2⟩,f2⟩:=d 2 (by decide)
 obtain⟨⟨u3,r3⟩,f3⟩:=d 3 (by decide)
 obtain⟨⟨u4,r4⟩,f4⟩:=d 4 (by decide)
 obtain⟨⟨u5,r5⟩,f5⟩:=d 5 (by decide)
 obtain⟨⟨u6,r6⟩,f6⟩:=d 6 (by decide)
 obtain⟨⟨u7,r7⟩,f7⟩:=d 7 (by decide)
 obtain⟨⟨u8,r8⟩,f8⟩:=d 8 (by decide)
 obtain⟨⟨u9,r9⟩,f9⟩:=d 9 (by decide)
 obtain⟨⟨aO,aa⟩,aS⟩:=d 10 (by decide)
 obtain⟨⟨aQ,ac⟩,aM⟩:=d 11 (by decide)
 obtain⟨⟨aP,ab⟩,aL⟩:=d 12 (by decide)
 obtain⟨⟨aN,ae⟩,aI⟩:=d 13 (by decide)
 clear hL d U Y HT Z i0 i1 i2 i3 i4
 by_cases aJ:n<1
 ·go_wp2_with fail;refine bodyPost_ret (v:=.agg ln0.toArray) (by simp[results,Tryz.results92,go_sem,r0,r1,r2,r3,r4,r5,r6,r7,r8,r9,aa,ac,ab,ae]) rfl ⟨rfl,iu V.out (by omega) _ _ _ _ _ _ _ _ _ _ _ _ _ _⟩
 ·have aK:(tn s.tab:Int)<n:=by omega
  go_wp2_with fail;refine bodyPost_ret (v:=.agg ln0.toArray) (by simp[results,Tryz.results92,go_sem,r0,r1,r2,r3,r4,r5,r6,r7,r8,r9,aa,ac,ab,ae]) rfl ⟨rfl,iu V.out (by omega) _ _ _ _ _ _ _ _ _ _ _ _ _ _⟩
def SlP (s:Px.St) (x:Px.Sl):Prop:=(1≤x.line∧x.line≤tn s.tab)∧(1≤x.att∧x.att≤Px.opt s x.line 2-48)∧x.minute≤s.clock∧FromP s x∧(0<x.step→x.frm≤s.clock∧(Px.opt s x.line 0=120→runsOf s x.line=1))
set_option maxRecDepth 10000 in
set_option maxHeartbeats 2000000 in
theorem j8 (s:Px.St) (x:Px.Sl) (sl en:Value) (w:World) (Z:¬(1≤x.line∧x.line≤tn s.tab)) (hC:ChkR s.tab 0 0) (hT:TabLH w) (hS:PAt w s sl en):
 Calls Tryz.prog 192 #[pstV s sl en,psV x] w fun e w'=>AnsB e (SlP s x)∧Below w.heap.size w w':=by
 have HN:Hid (¬SlP s x):=fun q=>Z q.1
 obtain⟨U,I,rfl,au⟩:=hS.sl.form;obtain⟨G,d,rfl,ah⟩:=hS.en.form;have J:=(cw w (pstO s (.slice U s.slots.length I) (.slice G s.ends.length d))).alloc (by simp) (psO x)
 have hI:=(PIn.new w s (.slice U s.slots.length I) (.slice G s.ends.length d)).later (cw _ (psO x));have V:=PsIn.new (w.alloc (pstO s (.slice U s.slots.length I) (.slice G s.ends.length d))) x;have hz:(w.alloc (pstO s (.slice U s.slots.length I) (.slice G s.ends.length d))).heap.size=w.heap.size+1:=by simp
 rw[hz] at V;have HC:=Hq hC;have af:=Hq Z;clear hC Z
 go_enter Tryz.func192,Tryz.ntmps192
 go_upto_region 1 with fail;clear hz;generalize (w.alloc (pstO s (.slice U s.slots.length I) (.slice G s.ends.length d))).alloc (psO x)=W at *;have HB:=Hq J;have HT:=Hq (hT.later J);have HS:=Hq (hS.later J);have HX:=Hq V;obtain⟨i0,i1,i2,i3,i4⟩:=hI;have x1:=V.c1;clear V J hT hS;go_wp2_with fail;refine (mr s x.line _ _ _ af.out HC.out HT.out HS.out).mono ?_;rintro e w1 ⟨rfl,O⟩;have ay:(w1.alloc (.cells ln0.toArray 154)).cell? ⟨w1.heap.size,12,none⟩=some (.int .i64 0):=by simp[go_sem]
 have Q:Below W.heap.size W (w1.alloc (.cells ln0.toArray 154)):=O.alloc O.size _;have y3:=(HX.out.later Q).c3;have Y:=Hq (HB.out.trans (Q.mono HB.out.size));clear O Q i0 i1 i2 i3 i4 x1;go_upto_region 2 with fail;generalize w1.alloc (.cells ln0.toArray 154)=W2 at *;generalize w1.heap.size=lq at *
 by_cases h1:x.att<1
 ·go_wp2_with fail;go_ret;exact⟨AnsB.no HN.out,Y.out⟩
 ·have h2:0<x.att:=by omega
  go_wp2_with fail;go_ret;exact⟨AnsB.no HN.out,Y.out⟩
set_option maxRecDepth 10000 in
set_option maxHeartbeats 2000000 in
theorem kc (s:Px.St) (x:Px.Sl) (sl en:Value) (w:World) (hn:1≤x.line∧x.line≤tn s.tab) (c1: -1≤s.clock) (c2:s.clock≤4223371679) (hl:s.slots.length≤10000) (hC:ChkR s.tab 0 0) (hT:TabLH w) (hS:PAt w s sl en):
 Calls Tryz.prog 192 #[pstV s sl en,psV x] w fun e w'=>AnsB e (SlP s x)∧Below w.heap.size w w':=by
 obtain⟨j,hj⟩:∃j:Nat,x.line=(j:Int)+1:=⟨(x.line-1).toNat,by omega⟩
 have bh:j<tn s.tab:=by omega
 have HJ:=Hq hj;have bq:Hid (obt (pt (tl s.tab j) 5) 2=Px.opt s x.line 2):=by unfold Hid Px.opt;rw[hj,show ((j:Int)+1-1).toNat=j by omega];rfl
 have bm:Hid ((obt (pt (tl s.tab j) 5) 0==120)=(Px.opt s x.line 0==120)):=by unfold Hid Px.opt;rw[hj,show ((j:Int)+1-1).toNat=j by omega];rfl
 have HN:=Hq hn;obtain⟨ad,V,rfl,bA⟩:=hS.sl.form;obtain⟨U,G,rfl,bu⟩:=hS.en.form;have ab:=(cw w (pstO s (.slice ad s.slots.length V) (.slice U s.ends.length G))).alloc (by simp) (psO x)
 have hI:=(PIn.new w s (.slice ad s.slots.length V) (.slice U s.ends.length G)).later (cw _ (psO x));have hX:=PsIn.new (w.alloc (pstO s (.slice ad s.slots.length V) (.slice U s.ends.length G))) x;have hz:(w.alloc (pstO s (.slice ad s.slots.length V) (.slice U s.ends.length G))).heap.size=w.heap.size+1:=by simp
 rw[hz] at hX;have HC:=Hq hC;clear hC hn hj
 go_enter Tryz.func192,Tryz.ntmps192
 go_upto_region 1 with fail;clear hz;generalize (w.alloc (pstO s (.slice ad s.slots.length V) (.slice U s.ends.length G))).alloc (psO x)=W at *;have HB:=Hq ab;have HT:=Hq (hT.later ab);have HS:=Hq (hS.later ab);have HX:=Hq hX;have HI:=Hq hI;obtain⟨i0,i1,i2,i3,i4⟩:=hI;have x1:=hX.c1;clear hX ab hT hS;go_wp2_with fail;refine (fU s x.line j _ _ _ HJ.out bh HC.out HT.out HS.out).mono ?_;rintro e w1 ⟨⟨v,rfl,bb,cc,ac,Q,rfl,_,_⟩,ag⟩;have aB:(w1.alloc (lnO (tl s.tab j) bb cc ac Q)).cell? ⟨w1.heap.size,12,none⟩=some (.int .i64 (obt (pt (tl s.tab j) 5) 2-48)):=by simp[go_sem]
 have aw:(w1.alloc (lnO (tl s.tab j) bb cc ac Q)).cell? ⟨w1.heap.size,10,none⟩=some (.bool (obt (pt (tl s.tab j) 5) 0==120)):=by simp[go_sem]
 have Y:Below W.heap.size W (w1.alloc (lnO (tl s.tab j) bb cc ac Q)):=ag.alloc ag.size _;rw[bq.out] at aB;rw[bm.out] at aw;have aS:=HX.out.later Y;have aQ:=HI.out.later Y;have aj:=Hq (HS.out.later Y);have O:=Hq (HB.out.trans (Y.mono HB.out.size));clear ag Y i0 i1 i2 i3 i4 x1 HS HT HX HI;go_upto_region 2 with fail;generalize w1.alloc (lnO (tl s.tab j) bb cc ac Q)=W2 at *;generalize w1.heap.size=lq at *;have aR:=Hq aS;have aW:=Hq aQ;obtain⟨x0,x1,x2,x3,x4,x5,x6,x7⟩:=aS;obtain⟨i0,i1,i2,i3,i4⟩:=aQ
 by_cases h1:x.att<1
 ·have d:Hid (¬SlP s x):=fun q=>by have:=q.2.1.1;omega
  go_wp2_with fail;go_ret;exact⟨AnsB.no d.out,O.out⟩
 by_cases h2:Px.opt s x.line 2-48<x.att
 ·have d:Hid (¬SlP s x):=fun q=>by have:=q.2.1.2;omega
  generalize Px.opt s x.line 2-48=a4 at *;go_wp2_with fail;go_ret;exact⟨AnsB.no d.out,O.out⟩
 have HA:Hid (1≤x.att∧x.att≤Px.opt s x.line 2-48):=⟨by omega,by omega⟩
 generalize Px.opt s x.line 2-48=a4 at aB h2
 by_cases h3:s.clock<x.minute
 ·have d:Hid (¬SlP s x):=fun q=>by have:=q.2.2.1;omega
  go_wp2_with fail;go_ret;exact⟨AnsB.no d.out,O.out⟩
 have HM:Hid (x.minute≤s.clock):=by unfold Hid;omega
 go_wp2_with fail;refine (nE s x _ _ _ c1 c2 aj.out).mono ?_;rintro e w3 ⟨⟨b,rfl,hb⟩,J⟩;have ae:=Hq (O.out.trans (J.mono O.out.size));have aL:=Hq (aj.out.later J);have aM:=aR.out.later J;have aO:=aW.out.later J;have aK:=cell_later J aw;clear x0 x1 x2 x3 x4 x5 x6 x7 i0 i1 i2 i3 i4 aB aw J h1 h2 h3 aR aW aj O
 cases b
 ·have d:Hid (¬SlP s x):=fun q=>by have:=hb.2 q.2.2.2.1;cases this
  clear hb;go_wp2_with fail;go_ret;exact⟨AnsB.no d.out,ae.out⟩
 have ax:Hid (FromP s x):=hb.1 rfl;have aT:=Hq aM;have aI:=Hq aO;obtain⟨x0,x1,x2,x3,x4,x5,x6,x7⟩:=aM;clear hb aO;go_wp2_with fail;refine (eu x w3).mono ?_;rintro e w4 ⟨rfl,I⟩;have Z:=Hq (ae.out.trans (I.mono ae.out.size));have bn:=Hq (aL.out.later I);have bk:=aT.out.later I;have ba:=aI.out.later I;have ah:=cell_later I aK;clear x0 x1 x2 x3 x4 x5 x6 x7 aK I aT aI aL ae
 cases hr:decide (0<x.step)
 ·have d:Hid (SlP s x):=⟨HN.out,HA.out,HM.out,ax.out,fun q=>by have:=of_decide_eq_false hr;omega⟩
  clear hr;go_wp2_with fail;go_ret;exact⟨AnsB.yes d.out,Z.out⟩
 have aY:0<x.step:=of_decide_eq_true hr;have aV:=Hq aY;clear aY;obtain⟨x0,x1,x2,x3,x4,x5,x6,x7⟩:=bk;obtain⟨i0,i1,i2,i3,i4⟩:=ba;clear hr
 by_cases h4:s.clock<x.frm
 ·have d:Hid (¬SlP s x):=fun q=>by have:=(q.2.2.2.2 aV.out).1;omega
  go_wp2_with fail;go_ret;exact⟨AnsB.no d.out,Z.out⟩
 have HL:Hid (x.frm≤s.clock):=by unfold Hid;omega
 cases ho:(Px.opt s x.line 0==120)
 ·have aH:¬Px.opt s x.line 0=120:=by simpa using ho
  have d:Hid (SlP s x):=⟨HN.out,HA.out,HM.out,ax.out,fun _=>⟨HL.out,fun q=>(aH q).elim⟩⟩
  rw[ho] at ah;clear ho aH;go_wp2_with fail;go_ret;exact⟨AnsB.yes d.out,Z.out⟩
 have aX:Px.opt s x.line 0=120:=by simpa using ho
 have a7:=Hq aX;clear aX;rw[ho] at ah;clear ho;go_wp2_with fail;refine (gK s x.line _ _ _ hl bn.out).mono ?_;rintro e w5 ⟨rfl,aJ⟩;have aN:=Hq (Z.out.trans (aJ.mono Z.out.size));have bE:=jC s x.line
 have aZ:Hid (∀r,runsOf s x.line=r→(SlP s x↔r=1)):=by
  rintro r rfl;exact⟨fun q=>(q.2.2.2.2 aV.out).2 a7.out,fun q=>⟨HN.out,HA.out,HM.out,ax.out,fun _=>⟨HL.out,fun _=>q⟩⟩⟩
 have aU:=aZ.out _ rfl;have aP:=Hq aU;clear x0 x1 x2 x3 x4 x5 x6 x7 i0 i1 i2 i3 i4 ah aJ aU aZ h4;generalize runsOf s x.line=r at *
 cases h5:((r:Int)==1)
 ·have d:Hid (¬SlP s x):=fun q=>by have:=aP.out.1 q;subst this;simp at h5
  go_wp2_with fail;go_ret;exact⟨AnsB.no d.out,aN.out⟩
 ·have d:Hid (SlP s x):=aP.out.2 (by have:(r:Int)=1:=by simpa using h5
                                     omega)
  go_wp2_with fail;go_ret;exact⟨AnsB.yes d.out,aN.out⟩
theorem ko (s:Px.St) (x:Px.Sl) (sl en:Value) (w:World) (c1: -1≤s.clock) (c2:s.clock≤4223371679) (J:s.slots.length≤10000) (G:ChkR s.tab 0 0) (d:TabLH w) (hS:PAt w s sl en):
 Calls Tryz.prog 192 #[pstV s sl en,psV x] w fun e O=>AnsB e (SlP s x)∧Below w.heap.size w O:=by
 by_cases I:1≤x.line∧x.line≤tn s.tab
 ·exact kc s x sl en w I c1 c2 J G d hS
 ·exact j8 s x sl en w I G d hS
def prevN (l:List Px.Sl):Nat→Int
 | 0=>0
 | k+1=>(l.getD k Px.sl0).num
def SlAt (s:Px.St) (j:Nat):Prop:=prevN s.slots j<(s.slots.getD j Px.sl0).num∧(s.slots.getD j Px.sl0).num<s.next∧SlP s (s.slots.getD j Px.sl0)
def SlsP (s:Px.St):Prop:=s.slots.length≤8∧∀j,j<s.slots.length→SlAt s j
set_option maxRecDepth 10000 in
set_option maxHeartbeats 2000000 in
theorem jQ (s:Px.St) (sl en:Value) (w:World) (c1: -1≤s.clock) (c2:s.clock≤4223371679) (hl:s.slots.length≤10000) (hC:ChkR s.tab 0 0) (hT:TabLH w) (hS:PAt w s sl en):
 Calls Tryz.prog 167 #[pstV s sl en] w fun e w'=>AnsB e (SlsP s)∧Below w.heap.size w w':=by
 obtain⟨ad,ae,rfl,aY⟩:=hS.sl.form;obtain⟨ab,Q,rfl,aI⟩:=hS.en.form;have HS:=Hq hS;have HC:=Hq hC;have I:=cw w (pstO s (.slice ad s.slots.length ae) (.slice ab s.ends.length Q));have hI:=PIn.new w s (.slice ad s.slots.length ae) (.slice ab s.ends.length Q);clear hS hC
 go_enter Tryz.func167,Tryz.ntmps167
 go_upto_region 1 with fail;generalize w.alloc (pstO s (.slice ad s.slots.length ae) (.slice ab s.ends.length Q))=W at *;have HB:=Hq I;have al:=Hq (HS.out.later I);have HT:=Hq (hT.later I);have HI:=Hq hI;have Z:=hI.c3;have Y:=I.size;clear hI I HS hT
 by_cases h8:8<s.slots.length
 ·have G:Hid (¬SlsP s):=fun q=>by have:=q.1;omega
  go_wp2_with fail;go_ret;exact⟨AnsB.no G.out,HB.out⟩
 have H8:Hid (s.slots.length≤8):=by unfold Hid;omega
 have z8:¬(8:Int)<(s.slots.length:Int):=by omega
 go_wp2_with fail;clear Z
 go_loopw [3,4] (fun l i wr=>∃k:Nat,k≤s.slots.length∧i=.int .i64 k∧l=.int .i64 (prevN s.slots k)∧(∀j,j<k→SlAt s j)∧Below W.heap.size W wr) (fun _ i _=>s.slots.length-(intOf i).toNat)
 case atStart=>exact⟨0,Nat.zero_le _,rfl,rfl,fun j h=>by omega,Below.refl _ _⟩
 case round=>
  obtain⟨k,hk,rfl,rfl,ac,d⟩:=hrel;have HA:=Hq ac;have J:=HI.out.later d;have az:=d.size;clear ac
  by_cases af:k<s.slots.length
  ·obtain⟨b,br,bc,hv,_,hc⟩:=(al.out.sl.1.later d).some' (by omega)
   cases hv
   obtain⟨d0,d1,d2,d3,d4,d5,d6,d7⟩:=ei hc k af;clear hc;have b1:(0:Int)≤(k:Int):=by omega
   have b2:(k:Int)<(s.slots.length:Int):=by omega
   have HX:Hid (s.slots.getD k Px.sl0=s.slots[k]):=by unfold Hid;simp[af]
   have aG:Hid (prevN s.slots (k+1)=s.slots[k].num):=by show (s.slots.getD k Px.sl0).num=_;rw[HX.out]
   have HK:Hid (SlsP s→prevN s.slots k<s.slots[k].num∧s.slots[k].num<s.next∧SlP s s.slots[k]):=fun q=>by have:=q.2 k af;unfold SlAt at this;rw[HX.out] at this;exact this
   have ax:Hid (prevN s.slots k<s.slots[k].num→s.slots[k].num<s.next→SlP s s.slots[k]→∀j,j<k+1→SlAt s j):=fun a1 a2 a3 j hj=>by
    by_cases e:j=k
    ·subst e;unfold SlAt;rw[HX.out];exact⟨a1,a2,a3⟩
    ·exact HA.out j (by omega)
   generalize s.slots[k]=x at *;generalize prevN s.slots k=last at *;have ap:=PsIn.new wr x;have aj:=cw wr (psO x);have Z:=J.c3;have am:=J.later aj;go_upto_region 8 with fail;clear d0 d1 d2 d3 d4 d5 d6 d7 Z J;generalize wr.alloc (psO x)=W2 at *;generalize wr.heap.size=xq at *;have ak:Below W.heap.size W W2:=d.trans (aj.mono az);have O:=Hq ak;have aa:=Hq (al.out.later ak);have ao:=Hq ap;have aE:=Hq am;obtain⟨x0,x1,x2,x3,x4,x5,x6,x7⟩:=ap;obtain⟨i0,i1,i2,Z,i4⟩:=am;clear d aj ak
   by_cases h1:x.num≤last
   ·have G:Hid (¬SlsP s):=fun q=>by have:=(HK.out q).1;omega
    go_wp2_with fail;go_ret;exact⟨AnsB.no G.out,HB.out.trans (O.out.mono Y)⟩
   by_cases h2:s.next≤x.num
   ·have G:Hid (¬SlsP s):=fun q=>by have:=(HK.out q).2.1;omega
    go_wp2_with fail;go_ret;exact⟨AnsB.no G.out,HB.out.trans (O.out.mono Y)⟩
   have aF:Hid (last<x.num):=by unfold Hid;omega
   have aH:Hid (x.num<s.next):=by unfold Hid;omega
   go_wp2_with fail;refine (ko s x _ _ _ c1 c2 hl HC.out (HT.out.later O.out) aa.out).mono ?_;rintro e w3 ⟨⟨bo,rfl,V⟩,ah⟩;have U:Below W.heap.size W w3:=O.out.trans (ah.mono O.out.size);have y0:=(ao.out.later ah).c0;have bq:=World.block_lt_of_cell? _ _ y0;clear x0 x1 x2 x3 x4 x5 x6 x7 i0 i1 i2 Z i4 h1 h2 ah ao aE aa
   cases bo
   ·have G:Hid (¬SlsP s):=fun q=>by have:=V.2 (HK.out q).2.2;cases this
    have ag:=Hq (HB.out.trans (U.mono Y));clear V U;go_wp2_with fail;go_ret;exact⟨AnsB.no G.out,ag.out⟩
   ·have HN:Hid (∀j,j<k+1→SlAt s j):=ax.out aF.out aH.out (V.1 rfl);have ag:=Hq U;clear V U;go_wp2_with fail;go_roundw
    case rel=>exact⟨k+1,by omega,by go_num,by rw[aG.out],HN.out,ag.out⟩
    case measure=>simp[intOf];omega
  ·have G:Hid (SlsP s):=⟨H8.out,fun j hj=>HA.out j (by omega)⟩
   have Z:=J.c3;have aC:=Hq (HB.out.trans (d.mono Y));clear J d;go_wp2_with fail;go_ret;exact⟨AnsB.yes G.out,aC.out⟩
def EnAt (s:Px.St) (x:Bx.En):Prop:=(1≤x.num∧x.num<s.next)∧(x.how=Bx.hD∨x.how=Bx.hA∨x.how=Bx.hK∨x.how=Bx.hS)∧timesP s x.num=1
def EnsP (s:Px.St):Prop:=s.ends.length≤6∧∀x∈s.ends,EnAt s x
abbrev enO (x:Bx.En):Obj:=.cells #[.int .i64 x.num,.string x.how] 85
theorem nP (s:Px.St) (n:Int):timesP s n≤s.slots.length+s.ends.length:=Nat.add_le_add (List.length_filter_le _ _) (List.length_filter_le _ _)
set_option maxRecDepth 10000 in
set_option maxHeartbeats 2000000 in
theorem kh (s:Px.St) (sl en:Value) (w:World) (hl:s.slots.length≤10000) (aG:s.ends.length≤10000) (hS:PAt w s sl en):
 Calls Tryz.prog 168 #[pstV s sl en] w fun e w'=>AnsB e (EnsP s)∧Below w.heap.size w w':=by
 obtain⟨ad,ag,rfl,aV⟩:=hS.sl.form;obtain⟨aa,J,rfl,aH⟩:=hS.en.form;have HS:=Hq hS;have Q:=cw w (pstO s (.slice ad s.slots.length ag) (.slice aa s.ends.length J));have hI:=PIn.new w s (.slice ad s.slots.length ag) (.slice aa s.ends.length J);clear hS
 go_enter Tryz.func168,Tryz.ntmps168
 go_upto_region 1 with fail;generalize w.alloc (pstO s (.slice ad s.slots.length ag) (.slice aa s.ends.length J))=W at *;have HB:=Hq Q;have ak:=Hq (HS.out.later Q);have HI:=Hq hI;have Y:=hI.c4;have ab:=Q.size;clear hI Q HS
 by_cases h6:6<s.ends.length
 ·have G:Hid (¬EnsP s):=fun q=>by have:=q.1;omega
  go_wp2_with fail;go_ret;exact⟨AnsB.no G.out,HB.out⟩
 have H6:Hid (s.ends.length≤6):=by unfold Hid;omega
 have z6:¬(6:Int)<(s.ends.length:Int):=by omega
 go_wp2_with fail;clear Y
 go_loopw [3] (fun i wr=>∃k:Nat,k≤s.ends.length∧i=.int .i64 k∧(∀j (V:j<s.ends.length),j<k→EnAt s s.ends[j])∧Below W.heap.size W wr) (fun i _=>s.ends.length-(intOf i).toNat)
 case atStart=>exact⟨0,Nat.zero_le _,rfl,fun j _ h=>by omega,Below.refl _ _⟩
 case round=>
  obtain⟨k,hk,rfl,ac,d⟩:=hrel;have HA:=Hq ac;have I:=HI.out.later d;have aC:=d.size;clear ac
  by_cases Z:k<s.ends.length
  ·obtain⟨b,aq,aO,hv,_,hc⟩:=(ak.out.en.1.later d).some' (by omega)
   cases hv
   have d0:wr.cell? ⟨b,aq+k*2,none⟩=some (.int .i64 s.ends[k].num):=RowAt.cell ej hc k Z 0 (by decide)
   have d1:wr.cell? ⟨b,aq+k*2+1,none⟩=some (.string s.ends[k].how):=RowAt.cell ej hc k Z 1 (by decide)
   clear hc;have b1:(0:Int)≤(k:Int):=by omega
   have b2:(k:Int)<(s.ends.length:Int):=by omega
   have HK:Hid (EnsP s→EnAt s s.ends[k]):=fun q=>q.2 _ (List.getElem_mem Z)
   have aD:Hid (EnAt s s.ends[k]→∀j (V:j<s.ends.length),j<k+1→EnAt s s.ends[j]):=fun a j V a3=>by
    by_cases e:j=k
    ·subst e;exact a
    ·exact HA.out j V (by omega)
   generalize s.ends[k]=x at *;have g0:(wr.alloc (enO x)).cell? ⟨wr.heap.size,0,none⟩=some (.int .i64 x.num):=by simp[go_sem]
   have g1:(wr.alloc (enO x)).cell? ⟨wr.heap.size,1,none⟩=some (.string x.how):=by simp[go_sem]
   have ae:=cw wr (enO x);have Y:=I.c4;have aF:=I.later ae;go_upto_region 7 with fail;clear d0 d1 Y I;generalize wr.alloc (enO x)=W2 at *;generalize wr.heap.size=xq at *;have U:Below W.heap.size W W2:=d.trans (ae.mono aC);have ap:=Hq U;have au:=Hq (ak.out.later U);have af:=Hq (HB.out.trans (U.mono ab));have a2:=World.block_lt_of_cell? _ _ g0;obtain⟨i0,i1,i2,i3,Y⟩:=aF;clear d ae U
   by_cases h1:x.num<1
   ·have G:Hid (¬EnsP s):=fun q=>by have:=(HK.out q).1.1;omega
    go_wp2_with fail;go_ret;exact⟨AnsB.no G.out,af.out⟩
   by_cases h2:s.next≤x.num
   ·have G:Hid (¬EnsP s):=fun q=>by have:=(HK.out q).1.2;omega
    go_wp2_with fail;go_ret;exact⟨AnsB.no G.out,af.out⟩
   have HL:Hid (1≤x.num∧x.num<s.next):=⟨by omega,by omega⟩
   go_wp2_with fail;refine (op x.how _).mono ?_;rintro e w3 ⟨⟨bo,rfl,O⟩,rfl⟩
   cases bo
   ·have G:Hid (¬EnsP s):=fun q=>by have:=O.2 (HK.out q).2.1;cases this
    clear O;go_wp2_with fail;go_ret;exact⟨AnsB.no G.out,af.out⟩
   have HH:Hid (x.how=Bx.hD∨x.how=Bx.hA∨x.how=Bx.hK∨x.how=Bx.hS):=O.1 rfl;clear O;go_wp2_with fail;refine (nF s x.num _ _ _ hl aG au.out).mono ?_;rintro e w4 ⟨rfl,al⟩;have a4:=nP s x.num
   have am:Hid (∀r,timesP s x.num=r→(EnAt s x↔r=1)):=by
    rintro r rfl;exact⟨fun q=>q.2.2,fun q=>⟨HL.out,HH.out,q⟩⟩
   have ar:Hid (EnAt s x↔timesP s x.num=1):=am.out _ rfl;have aj:=Hq (ap.out.trans (al.mono ap.out.size));clear al am i0 i1 i2 i3 Y h1 h2 g0 g1;generalize timesP s x.num=r at *
   cases h5:((r:Int) !=1)
   ·have ao:r=1:=by have:(r:Int)=1:=by simpa using h5
                    omega
    have HN:Hid (∀j (V:j<s.ends.length),j<k+1→EnAt s s.ends[j]):=aD.out (ar.out.2 ao);clear ao;go_wp2_with fail;go_roundw
    case rel=>exact⟨k+1,by omega,by go_num,HN.out,aj.out⟩
    case measure=>simp[intOf];omega
   ·have G:Hid (¬EnsP s):=fun q=>by
     have:=ar.out.1 (HK.out q);subst this;simp at h5
    go_wp2_with fail;go_ret;exact⟨AnsB.no G.out,HB.out.trans (aj.out.mono ab)⟩
  ·have G:Hid (EnsP s):=⟨H6.out,fun x hx=>by
    obtain⟨j,V,rfl⟩:=List.mem_iff_getElem.1 hx
    exact HA.out j V (by omega)⟩
   have Y:=I.c4;have aE:=Hq (HB.out.trans (d.mono ab));clear I d;go_wp2_with fail;go_ret;exact⟨AnsB.yes G.out,aE.out⟩
def MayP (s:Px.St):Prop:=(-1≤s.clock∧s.clock≤4223371679)∧(1≤s.next∧s.next≤10000)∧ChkR s.tab 0 0∧SlsP s∧EnsP s
set_option maxRecDepth 10000 in
set_option maxHeartbeats 2000000 in
theorem qr (s:Px.St) (sl en:Value) (w:World) (ht:s.tab.size≤maxLen) (hl:s.slots.length≤10000) (aI:s.ends.length≤10000) (hT:TabLH w) (hS:PAt w s sl en):
 Calls Tryz.prog 135 #[pstV s sl en] w fun e w'=>AnsB e (MayP s)∧Below w.heap.size w w':=by
 obtain⟨ad,af,rfl,aN⟩:=hS.sl.form;obtain⟨Y,I,rfl,aL⟩:=hS.en.form;have HS:=Hq hS;have av:=Hq ht;have J:=cw w (pstO s (.slice ad s.slots.length af) (.slice Y s.ends.length I));have hI:=PIn.new w s (.slice ad s.slots.length af) (.slice Y s.ends.length I);clear hS ht
 go_enter Tryz.func135,Tryz.ntmps135
 go_upto_region 1 with fail;generalize w.alloc (pstO s (.slice ad s.slots.length af) (.slice Y s.ends.length I))=W at *;have Q:=Hq J;have al:=Hq (HS.out.later J);have HT:=Hq (hT.later J);have HI:=Hq hI;obtain⟨V,i1,i2,i3,i4⟩:=hI;clear J HS hT
 by_cases h1:s.clock < -1
 ·have d:Hid (¬MayP s):=fun q=>by have:=q.1.1;omega
  go_wp2_with fail;go_ret;exact⟨AnsB.no d.out,Q.out⟩
 by_cases h2:4223371679<s.clock
 ·have d:Hid (¬MayP s):=fun q=>by have:=q.1.2;omega
  go_wp2_with fail;go_ret;exact⟨AnsB.no d.out,Q.out⟩
 by_cases h3:s.next<1
 ·have d:Hid (¬MayP s):=fun q=>by have:=q.2.1.1;omega
  go_wp2_with fail;go_ret;exact⟨AnsB.no d.out,Q.out⟩
 by_cases h4:10000<s.next
 ·have d:Hid (¬MayP s):=fun q=>by have:=q.2.1.2;omega
  go_wp2_with fail;go_ret;exact⟨AnsB.no d.out,Q.out⟩
 have c1: -1≤s.clock:=by omega
 have c2:s.clock≤4223371679:=by omega
 have aG:Hid (-1≤s.clock∧s.clock≤4223371679):=⟨c1,c2⟩;have aA:Hid (1≤s.next∧s.next≤10000):=⟨by omega,by omega⟩
 go_wp2_with fail;refine (gB _ _ av.out HT.out).mono ?_;rintro e w1 ⟨⟨a,r,Z,n',c,rfl,hK,_⟩,U⟩;have HK:=Hq hK;have aR:=hK.bd;have g2:(w1.alloc (.cells #[.slice Z n' c,.int .i64 a,.int .i64 r] 134)).cell? ⟨w1.heap.size,2,none⟩=some (.int .i64 r):=by simp[go_sem]
 have G:Below W.heap.size W (w1.alloc (.cells #[.slice Z n' c,.int .i64 a,.int .i64 r] 134)):=U.alloc U.size _;have ao:=HI.out.later G;have ap:=Hq (al.out.later G);have aH:=Hq (HT.out.later G);have ag:=Hq (Q.out.trans (G.mono Q.out.size));clear U G V i1 i2 i3 i4 hK h1 h2 h3 h4 HI al HT;go_upto_region 6 with fail;generalize w1.alloc (.cells #[.slice Z n' c,.int .i64 a,.int .i64 r] 134)=W2 at *;generalize w1.heap.size=rq at *;have aT:=World.block_lt_of_cell? _ _ g2;have aK:=Hq ao;obtain⟨V,i1,i2,i3,i4⟩:=ao
 by_cases hr:r=0
 rotate_left
 ·have aS:(r !=0)=true:=by simpa using hr
  have d:Hid (¬MayP s):=fun q=>hr (q.2.2.1.uniq HK.out).2.symm
  clear hr;go_wp2_with fail;go_ret;exact⟨AnsB.no d.out,ag.out⟩
 subst hr;have ha:=HK.out.zero rfl;subst ha;go_wp2_with fail;refine (jQ s _ _ _ c1 c2 hl HK.out aH.out ap.out).mono ?_;rintro e w3 ⟨⟨b,rfl,hb⟩,O⟩;have aa:=Hq (ag.out.trans (O.mono ag.out.size));have aE:=Hq (ap.out.later O);have az:=aK.out.later O;clear V i1 i2 i3 i4 O g2
 cases b
 ·have d:Hid (¬MayP s):=fun q=>by have:=hb.2 q.2.2.2.1;cases this
  clear hb;go_wp2_with fail;go_ret;exact⟨AnsB.no d.out,aa.out⟩
 have aD:Hid (SlsP s):=hb.1 rfl;clear hb;obtain⟨V,i1,i2,i3,i4⟩:=az;go_wp2_with fail;refine (kh s _ _ _ hl aI aE.out).mono ?_;rintro e w4 ⟨⟨b,rfl,hb⟩,am⟩;have ak:=Hq (aa.out.trans (am.mono aa.out.size));clear V i1 i2 i3 i4 am
 cases b
 ·have d:Hid (¬MayP s):=fun q=>by have:=hb.2 q.2.2.2.2;cases this
  clear hb;go_wp2_with fail;go_ret;exact⟨AnsB.no d.out,ak.out⟩
 ·have d:Hid (MayP s):=⟨aG.out,aA.out,HK.out,aD.out,hb.1 rfl⟩;clear hb;go_wp2_with fail;go_ret;exact⟨AnsB.yes d.out,ak.out⟩
theorem rx {l:List Px.Sl} (h:∀j,j<l.length→prevN l j<(l.getD j Px.sl0).num):(l.Pairwise fun a b=>a.num<b.num)∧∀x∈l,1≤x.num:=by
 have step:∀j (w:j+1<l.length),(l[j]'(by omega)).num<l[j+1].num:=by
  intro j w;have:=h (j+1) w;simp[prevN,w,show j<l.length by omega] at this
  exact this
 have G:∀d i (hd:i+d+1<l.length),(l[i]'(by omega)).num<l[i+d+1].num:=by
  intro d
  induction d with
  | zero=>intro i hd;exact step i hd
  | succ d O=>
    intro i hd;have h1:=O i (by omega)
    have h2:=step (i+d+1) (by omega)
    have e:i+(d+1)+1=i+d+1+1:=by omega
    simp only [e]
    omega
 constructor
 ·rw[List.pairwise_iff_getElem];intro i j hi w Q;have:=G (j-i-1) i (by omega)
  have e:i+(j-i-1)+1=j:=by omega
  simp only [e] at this
  exact this
 ·intro x J;obtain⟨j,w,rfl⟩:=List.mem_iff_getElem.1 J;have h0:=h 0 (by omega)
  simp[prevN,show 0<l.length by omega] at h0
  by_cases e:j=0
  ·subst e;omega
  ·have:=G (j-1) 0 (by omega)
   have I:0+(j-1)+1=j:=by omega
   simp only [I] at this
   omega
theorem rf {l:List Px.Sl} (h:l.Pairwise fun a b=>a.num<b.num) (h1:∀x∈l,1≤x.num):∀j,j<l.length→prevN l j<(l.getD j Px.sl0).num:=by
 intro j d;have e:l.getD j Px.sl0=l[j]:=by simp[d]
 rw[e]
 cases j with
 | zero=>have:=h1 _ (List.getElem_mem d);show (0:Int)<_;omega
 | succ j=>
   have w:l.getD j Px.sl0=l[j]:=by simp[show j<l.length by omega]
   show (l.getD j Px.sl0).num<_
   rw[w];exact List.pairwise_iff_getElem.1 h j (j+1) (by omega) d (by omega)
theorem rW {s:Px.St} (hf:∀x∈s.slots,0≤x.minute):MayP s↔Bx.MayS (Px.abs s):=by
 have ao:∀l i,Bx.opt (Px.abs s) l i=Px.opt s l i:=fun _ _=>rfl
 have af:=Bx.one_of (fun x y:Px.Sl=>decide (y.line=x.line)&&decide (0<y.step)|| !decide (0<x.step)) (by intro x;cases decide (0<x.step)<;>simp)
 have O:(∀x∈s.slots,(0<x.step∧Px.opt s x.line 0=120)→runsOf s x.line=1)↔s.slots.Pairwise fun a b=>a.line=b.line→Px.opt s a.line 0=120→0<a.step→0<b.step→False:=by
  have e:∀x∈s.slots,(0<x.step∧Px.opt s x.line 0=120)→s.slots.filter (fun y=>decide (y.line=x.line)&&decide (0<y.step)|| !decide (0<x.step))=s.slots.filter (onP x.line):=fun x _ h=>by
   refine List.filter_congr fun y _=>?_
   unfold onP;simp[h.1]
  have k:=af s.slots (fun x=>0<x.step∧Px.opt s x.line 0=120) (by
   intro x y w ⟨Y,ah⟩;simp[Y] at w
   exact⟨⟨w.2,by rw[w.1];exact ah⟩,by simp[w.2,w.1,Y]⟩)
  constructor
  ·intro h;have:=k.1 (fun x d c=>by rw[e x d c];exact h x d c)
   refine this.imp fun {a b} q V J U hb=>q ⟨U,J⟩ (by simp[U,hb,V])
  ·intro h x d c
   have:=k.2 (h.imp fun {a b} q c2 w=>by
    simp[c2.1] at w
    exact q w.1.symm c2.2 c2.1 w.2) x d c
   rw[e x d c] at this;exact this
 have Q:(∀x∈s.ends,timesP s x.num=1)↔(∀x∈s.ends,∀y∈s.slots,y.num≠x.num)∧s.ends.Pairwise fun a b=>a.num≠b.num:=by
  have k:=Bx.one_of (fun x y:Bx.En=>y.num==x.num) (by intro x;simp) s.ends (fun _=>True) (by intro x y w _;exact⟨trivial,by simp at w ⊢;exact w.symm⟩)
  have pos:∀x∈s.ends,1≤(s.ends.filter fun y=>y.num==x.num).length:=fun x d=>List.length_pos_of_mem (List.mem_filter.2 ⟨d,by simp⟩)
  constructor
  ·intro h
   have h1:∀x∈s.ends,(s.slots.filter fun y=>y.num==x.num).length=0∧(s.ends.filter fun y=>y.num==x.num).length=1:=fun x d=>by
    have:=h x d;have:=pos x d;unfold timesP at *;omega
   refine⟨fun x d y G e=>?_,?_⟩
   ·have h2:=(h1 x d).1;have h3:y∈s.slots.filter fun y=>y.num==x.num:=List.mem_filter.2 ⟨G,by simpa using e⟩
    have:=List.length_pos_of_mem h3;omega
   ·exact (k.1 fun x d _=>(h1 x d).2).imp fun {a b} q e=>q trivial (by simpa using e.symm)
  ·rintro ⟨h1,h2⟩ x d;have a1:s.slots.filter (fun y=>y.num==x.num)=[]:=List.filter_eq_nil_iff.2 fun y G e=>h1 x d y G (by simpa using e)
   have a2:=k.2 (h2.imp fun {a b} q _ e=>q (by simpa using e:b.num=a.num).symm) x d trivial
   unfold timesP;rw[a1,a2];rfl
 constructor
 ·rintro ⟨⟨c1,c2⟩,⟨n1,n2⟩,hC,⟨h8,hs⟩,h6,he⟩;obtain⟨Z,h1⟩:=rx (fun j I=>(hs j I).1)
  have each:∀x∈s.slots,x.num<s.next∧SlP s x:=fun x d=>by
   obtain⟨j,I,rfl⟩:=List.mem_iff_getElem.1 d;have:=hs j I;unfold SlAt at this;simp[I] at this;exact this.2
  obtain⟨e1,e2⟩:=Q.1 fun x d=>(he x d).2.2
  refine⟨hC,c1,c2,n1,n2,by simpa [Px.abs] using h8,h6,?_,?_,e2,?_,?_⟩
  ·simp only [Px.abs];rw[List.pairwise_map];exact Z
  ·simp only [Px.abs];rw[List.pairwise_map]
   refine (O.1 fun x d c=>(each x d).2.2.2.2.2 c.1 |>.2 c.2).imp fun {a b} q V J U hb=>q V J (of_decide_eq_true U) (of_decide_eq_true hb)
  ·intro y G;obtain⟨x,d,rfl⟩:=List.mem_map.1 G;obtain⟨q1,q2,q3,q4,q5,q6⟩:=each x d;exact⟨⟨h1 x d,q1⟩,q2,hf x d,q4,q3,q5.1,q5.2,fun e=>(q6 (of_decide_eq_true e)).1⟩
  ·intro x d;refine⟨(he x d).1,(he x d).2.1,fun y G=>?_⟩
   obtain⟨z,hz,rfl⟩:=List.mem_map.1 G;exact e1 x d z hz
 ·intro h;have h8:s.slots.length≤8:=by have:=h.sl;simpa [Px.abs] using this
  have Z:s.slots.Pairwise fun a b=>a.num<b.num:=by have:=h.rise;simp only [Px.abs] at this;rw[List.pairwise_map] at this;exact this
  have hm:∀x∈s.slots,Bx.MaySl (Px.abs s) (Px.absS x):=fun x d=>h.es _ (List.mem_map.2 ⟨x,d,rfl⟩)
  have ae:s.slots.Pairwise fun a b=>a.line=b.line→Px.opt s a.line 0=120→0<a.step→0<b.step→False:=by
   have:=h.lock;simp only [Px.abs] at this;rw[List.pairwise_map] at this;exact this.imp fun {a b} q V J U hb=>q V J (decide_eq_true U) (decide_eq_true hb)
  refine⟨⟨h.c1,h.c2⟩,⟨h.n1,h.n2⟩,h.tab,⟨h8,fun j I=>?_⟩,h.en,fun x d=>?_⟩
  ·have w:=rf Z (fun x d=>(hm x d).n.1) j I
   have d:s.slots.getD j Px.sl0∈s.slots:=by simp[I]
   have q:=hm _ d;refine⟨w,q.n.2,q.l,q.a,q.m,⟨q.f1,q.f2⟩,fun e=>⟨q.r (decide_eq_true e),fun J=>O.2 ae _ d ⟨e,J⟩⟩⟩
  ·have q:=h.ee x d;refine⟨q.n,q.h,Q.2 ⟨fun z hz y G=>(h.ee z hz).o (Px.absS y) (List.mem_map.2 ⟨y,G,rfl⟩),h.dif⟩ x d⟩
abbrev ptC (p:Bx.PS):List Value:=[.string p.rest,.bool p.wrong]
abbrev PtIn (w:World) (q:Nat) (p:Bx.PS):Prop:=Cl w q 207 (ptC p)
theorem PtIn.c0 {w:World} {q:Nat} {p:Bx.PS} (h:PtIn w q p):w.cell? ⟨q,0,none⟩=some (.string p.rest):=h.c 0 _ rfl
theorem PtIn.c1 {w:World} {q:Nat} {p:Bx.PS} (h:PtIn w q p):w.cell? ⟨q,1,none⟩=some (.bool p.wrong):=h.c 1 _ rfl
theorem PtIn.f0 {w:World} {q:Nat} {p:Bx.PS} (h:PtIn w q p):w.frozen? ⟨q,0,none⟩=false:=h.f 0 (by simp)
theorem PtIn.f1 {w:World} {q:Nat} {p:Bx.PS} (h:PtIn w q p):w.frozen? ⟨q,1,none⟩=false:=h.f 1 (by simp)
theorem fZ (k:Int) (p:Bx.PS):(Bx.txtP k p).2.rest.size≤p.rest.size:=by
 unfold Bx.txtP;split
 ·exact Nat.le_refl _
 ·simp
theorem dL (k:Nat) (p:Bx.PS):(Bx.numP k p).2.rest.size≤p.rest.size:=fZ _ _
set_option maxHeartbeats 1000000 in
theorem dV (p:Bx.PS) (q:Nat) (k:Int) (w:World) (_hs:p.rest.size≤100000) (d:PtIn w q p):
 Calls Tryz.prog 133 #[.pointer (some ⟨q,0,none⟩),.int .i64 k] w fun e Q=>e=.returned (.string (Bx.txtP k p).1)∧PtIn Q q (Bx.txtP k p).2∧w.grownBy Q (some q):=by
 have O:=Hq d;have c0:=d.c0;have c1:=d.c1;have f0:=d.f0;have f1:=d.f1;have Y:=d.ty.lt;clear d
 by_cases V:k<0
 ·have I:Hid (Bx.txtP k p=(ByteArray.empty,⟨p.rest,true⟩)):=if_pos (Or.inl V);have J:Hid (PtIn (w.setCell ⟨q,1,none⟩ (.bool true)) q ⟨p.rest,true⟩):=O.out.set 1 (by simp) _
  have G:Hid (w.grownBy (w.setCell ⟨q,1,none⟩ (.bool true)) (some q)):=dI (eD w _) 1 _
  go_enter Tryz.func133,Tryz.ntmps133
  go_wp2_with fail;go_ret;rw[I.out];exact⟨rfl,J.out,G.out⟩
 ·by_cases U:(p.rest.size:Int)<k
  ·have I:Hid (Bx.txtP k p=(ByteArray.empty,⟨p.rest,true⟩)):=if_pos (Or.inr U);have J:Hid (PtIn (w.setCell ⟨q,1,none⟩ (.bool true)) q ⟨p.rest,true⟩):=O.out.set 1 (by simp) _
   have G:Hid (w.grownBy (w.setCell ⟨q,1,none⟩ (.bool true)) (some q)):=dI (eD w _) 1 _
   go_enter Tryz.func133,Tryz.ntmps133
   go_wp2_with fail;go_ret;rw[I.out];exact⟨rfl,J.out,G.out⟩
  ·obtain⟨n,rfl⟩:∃n:Nat,k=n:=⟨k.toNat,by omega⟩
   have Z:n≤p.rest.size:=by omega
   have I:Hid (Bx.txtP n p=(p.rest.extract 0 n,⟨p.rest.extract n p.rest.size,p.wrong⟩)):=by
    unfold Hid Bx.txtP;rw[if_neg (by omega),Int.toNat_natCast]
   have J:Hid (PtIn (w.setCell ⟨q,0,none⟩ (.string (p.rest.extract n p.rest.size))) q ⟨p.rest.extract n p.rest.size,p.wrong⟩):=O.out.set 0 (by simp) _
   have G:Hid (w.grownBy (w.setCell ⟨q,0,none⟩ (.string (p.rest.extract n p.rest.size))) (some q)):=dI (eD w _) 0 _
   go_enter Tryz.func133,Tryz.ntmps133
   go_wp2_with fail;go_ret;rw[I.out];exact⟨rfl,J.out,G.out⟩
theorem rm (s:ByteArray) (k:Nat) (h:k<s.size):Bx.nb (s.data.toList.take (k+1))=Bx.nb (s.data.toList.take k)*256+(s[k].toNat:Int):=by
 rw[Crc.take_snoc s k h,Bx.nb_snoc]
theorem mm (s:ByteArray) (k:Nat) (d:k≤5):0≤Bx.nb (s.data.toList.take k)∧Bx.nb (s.data.toList.take k)<1099511627776:=by
 refine⟨Bx.nb_nonneg _,?_⟩;have h1:=Bx.nb_lt (s.data.toList.take k);have h2:(s.data.toList.take k).length≤5:=by simp;omega
 generalize (s.data.toList.take k).length=n at h1 h2;have:n=0∨n=1∨n=2∨n=3∨n=4∨n=5:=by omega
 rcases this with rfl|rfl|rfl|rfl|rfl|rfl<;>simp at h1<;>omega
set_option maxHeartbeats 1000000 in
theorem dG (p:Bx.PS) (q k:Nat) (O:Int) (w:World) (J:O=k) (hk:k≤5) (hs:p.rest.size≤100000) (V:PtIn w q p):
 Calls Tryz.prog 132 #[.pointer (some ⟨q,0,none⟩),.int .i64 O] w fun e Y=>e=.returned (.int .i64 (Bx.numP k p).1)∧PtIn Y q (Bx.numP k p).2∧w.grownBy Y (some q):=by
 subst J;have HP:=Hq V;clear V
 go_enter Tryz.func132,Tryz.ntmps132
 go_wp2_with fail;refine (dV p q k _ hs HP.out).mono ?_;rintro e w1 ⟨rfl,d,G⟩;have Q:=Hq d;have I:=Hq G;have Z:Hid ((Bx.numP k p).1=Bx.nb (Bx.txtP k p).1.data.toList):=rfl
 have hz:(Bx.txtP k p).1.size≤5:=by
  unfold Bx.txtP;split
  ·simp
  ·simp;omega
 generalize (Bx.txtP k p).1=t at *;clear d G;go_wp2_with fail
 go_loop [6,7] (fun n i=>∃j:Nat,j≤t.size∧i=.int .i64 j∧n=.int .i64 (Bx.nb (t.data.toList.take j))) (fun _ i=>t.size-(intOf i).toNat)
 case atStart=>exact⟨0,Nat.zero_le _,rfl,rfl⟩
 case round=>
  obtain⟨j,hj,rfl,rfl⟩:=hrel;obtain⟨n1,n2⟩:=mm t j (by omega)
  by_cases U:j<t.size
  ·have HS:Hid (Bx.nb (t.data.toList.take (j+1))=Bx.nb (t.data.toList.take j)*256+(t[j].toNat:Int)):=rm t j U;have hb:t[j].toNat<256:=t[j].toNat_lt;generalize Bx.nb (t.data.toList.take j)=n at *;go_wp2_with fail
   go_round
   case rel=>exact⟨j+1,by omega,by go_num,by rw[HS.out]⟩
   case measure=>simp[intOf];omega
  ·obtain rfl:j=t.size:=by omega
   have HL:Hid (Bx.nb (t.data.toList.take t.size)=Bx.nb t.data.toList):=by unfold Hid;rw[List.take_of_length_le (by simp)]
   go_wp2_with fail;go_ret;exact⟨dR (by rw[Z.out,HL.out]),Q.out,I.out⟩
set_option maxHeartbeats 1000000 in
theorem eF (p:Bx.PS) (q:Nat) (w:World) (d:PtIn w q p):
 Calls Tryz.prog 166 #[.pointer (some ⟨q,0,none⟩)] w fun e I=>e=.returned (.bool (!p.wrong&&p.rest.toList.isEmpty))∧I=w:=by
 have c0:=d.c0;have c1:=d.c1;have J:=d.ty.lt;clear d
 go_enter Tryz.func166,Tryz.ntmps166
 cases G:p.wrong
 ·rw[G] at c1;go_wp2_with fail;go_ret;exact⟨rfl,rfl⟩
 ·rw[G] at c1;go_wp2_with fail;go_ret;exact⟨rfl,rfl⟩
end Go.Proofs.YtdajolpoiffimabGreatDoor
