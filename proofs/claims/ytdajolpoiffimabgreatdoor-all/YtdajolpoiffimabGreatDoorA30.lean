import Derived.Deep.RegionHeld3
import Derived.Test.YtdajolpoiffimabGreatDoorA26
import Derived.Test.YtdajolpoiffimabGreatDoorA29

namespace Go.Proofs.YtdajolpoiffimabGreatDoor
open Go.RowKit
namespace Px
def compD (d:Bx.Bo):Bx.Bo:={d with text:=Bx.frame (Bx.wholeS d.now)}
theorem Rel.comp {b:Bo}{d:Bx.Bo} (h:Rel b d) (hm:Bx.MayS d.now):Rel (compB b) (compD d)∧(compB b).log=(compD d).text:=by
 have w:Bx.MayS (abs b.st):=by rw[←h.now];exact hm
 have G:=whole_le w;have I:=h.r0;have e:(compB b).log=(compD d).text:=by show Bx.frame (Bx.wholeS (abs b.st))=Bx.frame (Bx.wholeS d.now);rw[h.now]
 exact⟨⟨h.lim,h.room,h.now,e.symm,h.tks,h.ok,h.l1,h.l4,h.r0,h.r1,by show (((Bx.frame (Bx.wholeS (abs b.st))).size:Nat):Int)≤b.room;omega⟩,e⟩
theorem HMax.comp {d:Bx.Bo}{N:Nat} (h:HMax d N):HMax (compD d) N:=h
end Px
set_option maxRecDepth 10000 in
set_option maxHeartbeats 0 in
theorem kr (b:Bx.Bo) (B:Nat) (sl en tk:Value) (w:World) (hm:Bx.MayS b.now) (hB:BoxIn w B b sl en tk):
 Calls Tryz.prog 78 #[.pointer (some ⟨B,0,none⟩)] w fun e Z=>e=.returned (.int .i64 (Px.compD b).text.size)∧BoxIn Z B (Px.compD b) sl en tk∧w.grownBy Z (some B):=by
 obtain⟨ad,Y,rfl,al⟩:=hB.rows.sl.form;obtain⟨ab,U,rfl,ac⟩:=hB.rows.en.form;have Q:=Hq hB;have HF:=Hq hm.fit;have h8:b.now.slots.length≤255:=by have:=hm.sl;omega
 have h6:=hm.en;have HZ:Hid ((Bx.wholeS b.now).size≤450):=Bx.wholeS_size hm;have av:=hB.ty.lt;have e2:=hB.c2;have e3:=hB.c3;have e4:=hB.c4;have e5:=hB.c5;have e6:=hB.c6;clear hB hm
 go_enter Tryz.func78,Tryz.ntmps78
 go_wp2_with fail;refine (gT b.now _ _ _ HF.out h8 h6 Q.out.rows).mono ?_;rintro e w1 ⟨rfl,G⟩;have O:=Hq (Q.out.later G);have J:=Hq G;clear G e2 e3 e4 e5 e6 Q;go_wp2_with fail;refine (ge (Bx.wholeS b.now) _ (by have:=HZ.out;omega)).mono ?_
 rintro e V ⟨rfl,I⟩;have d:=O.out.later I;have hX:Hid (BoxIn (V.setCell ⟨B,7,none⟩ (.string (Bx.frame (Bx.wholeS b.now)))) B (Px.compD b) (.slice ad b.now.slots.length Y) (.slice ab b.now.ends.length U) tk):=d.txt _;have hG:Hid (w.grownBy (V.setCell ⟨B,7,none⟩ (.string (Bx.frame (Bx.wholeS b.now)))) (some B)):=dJ (dy (J.out.trans (I.mono J.out.size)) _) _ _;have hz:(Bx.frame (Bx.wholeS b.now)).size≤1000:=by rw[Bx.frame_size];have:=HZ.out;omega
 have c7:=d.c7;have f7:=d.f 7 (by decide)
 have ag:=d.ty.lt;have HC:Hid ((Px.compD b).text=Bx.frame (Bx.wholeS b.now)):=rfl;clear d I J O;generalize Bx.frame (Bx.wholeS b.now)=lg at *;go_wp2_with fail;go_ret;exact⟨by rw[HC.out];rfl,hX.out,hG.out⟩
theorem kR (b:Px.Bo) (d:Bx.Bo) (D:Nat) (tk:Value) (w:World) (J:Px.Rel b d) (hm:Bx.MayS d.now) (hD:∃sl en,BoxIn w D d sl en tk):
 Calls Tryz.prog 78 #[.pointer (some ⟨D,0,none⟩)] w fun e I=>e=.returned (.int .i64 (Px.compB b).log.size)∧(∃G,(∃sl en,BoxIn I D (Px.compD d) sl en G)∧NewTk w tk G)∧TwoBy w I D tk.ownBlock:=by
 obtain⟨sl,en,hD⟩:=hD;refine (kr d D sl en tk w hm hD).mono fun e I ⟨he,hB,hg⟩=>⟨?_,⟨tk,⟨sl,en,hB⟩,Or.inl rfl⟩,TwoBy.of_grow hg _⟩
 rw[he,(J.comp hm).2]
set_option maxHeartbeats 0 in
theorem sT (w:World) (I P B D:Nat) (tk:Value) (b:Px.Bo) (d:Bx.Bo) (k n:Int) (s:ByteArray) (N:Nat) (hm:Px.HMax d N) (hk:k=7) (hd:Duo w I P B D tk b d):
 Calls Tryz.prog 40 #[.pointer (some ⟨P,0,none⟩),opV k n s] w fun e w'=>e=.returned (.bool true)∧∃b' Q,Did w w' I P B D tk b' Q∧Px.HMax Q N:=by
 subst hk;have J:=Hq hm;have O:=dx w (opO 7 n s);have G:=hd.later O;have ho:=OpIn.new w 7 n s;clear hd hm
 go_enter Tryz.func40,Tryz.ntmps40
 go_upto_region 1 with fail;generalize w.alloc (opO 7 n s)=W at *;generalize ad:w.heap.size=oq at *;have ap:=Hq ad;clear ad;have ai:=Hq O;have U:=Hq G;have ao:Hid (Bx.MayS (Px.abs b.st)):=by unfold Hid;rw[←G.rel.now];exact J.out.2
 have hP:=G.p.ty.lt;have c0:=G.p.c0;have hO:=ho.ty.lt;obtain⟨o0,o1,o2,_⟩:=ho;clear O G;go_wp2_with fail;refine (kG b B _ ao.out U.out.x).mono ?_;rintro e w1 ⟨rfl,hx,hg⟩;obtain⟨V,Y,_⟩:=U.out.prg hg;have HX:=Hq hx;have HG:=Hq hg;have HY:=Hq Y;have c1:=V.c1;have ay:=V.ty.lt;have HR:Hid (Px.Rel (Px.compB b) (Px.compD d)):=(U.out.rel.comp J.out.2).1;have ab:Hid ((Px.compB b).limit=b.limit∧(Px.compB b).room=b.room):=⟨rfl,rfl⟩;clear hx hg V Y c0 o0 o1 o2 hO hP;go_wp2_with fail;refine (kR b d D tk _ U.out.rel J.out.2 HY.out).mono ?_;rintro e w2 ⟨rfl,⟨az,Z,ac⟩,aa⟩
 have HF:Hid (∃b' Q,Did w w2 I P B D tk b' Q∧Px.HMax Q N):=
  ⟨Px.compB b,Px.compD d,(Did.of U.out HG.out HX.out Z ac aa HR.out ab.out).ahead (by rw[ap.out];exact ai.out),J.out.comp⟩
 clear c1 Z ac aa HX HG HY HR ab;generalize (Px.compB b).log.size=z at *;go_wp2_with fail;go_ret;exact⟨rfl,HF.out⟩
theorem oA (w:World) (G P B D:Nat) (tk:Value) (b:Px.Bo) (d:Bx.Bo) (k n:Int) (s:ByteArray) (N:Nat) (V:N≤100000000000000000) (hm:Px.HMax d N) (Y:s.size≤maxLen) (U:TabLH w) (Q:Tab w) (hd:Duo w G P B D tk b d):
 Calls Tryz.prog 40 #[.pointer (some ⟨P,0,none⟩),opV k n s] w fun e Z=>e=.returned (.bool true)∧∃O J,Did w Z G P B D tk O J∧Px.HMax J (if k=5 then N+40 else N):=by
 by_cases I:k=7
 ·rw[if_neg (by omega)]
  exact sT w G P B D tk b d k n s N hm I hd
 ·exact nr w G P B D tk b d k n s N V hm Y U Q I hd
abbrev pairO2 (B D:Nat) (l r:Int):Obj:=.cells #[.pointer (some ⟨B,0,none⟩),.pointer (some ⟨D,0,none⟩),.int .i64 l,.int .i64 r] 124
def LOp (l r:Int) (log:ByteArray) (w w':World) (e:Ending):Prop:=∃(P B D:Nat) (s:Px.St) (q:ByteArray),e=.returned (.tuple #[.pointer (some ⟨P,0,none⟩),.bool true])∧Bx.Says true Bx.first log (Px.abs s) q∧Bx.MayS (Px.abs s)∧
 Duo w' w.heap.size P B D nilV (Px.openB l r s) ⟨l,r,Bx.intS (Px.abs s),Bx.frame (Bx.wholeS (Bx.intS (Px.abs s))),[]⟩∧Below w.heap.size w w'
set_option maxRecDepth 10000 in
set_option maxHeartbeats 0 in
theorem lj (l r:Int) (log:ByteArray) (w:World) (h:mayB l r=true) (hl:log.size≤4000) (hT:TT w):Calls Tryz.prog 72 #[.int .i64 l,.int .i64 r,.string log] w fun e w'=>LOp l r log w w' e:=by
 have H:=Hq h;clear h
 go_enter Tryz.func72,Tryz.ntmps72
 go_wp2_with fail;refine (oR l r log _ H.out hl hT).mono ?_;rintro e w1 ⟨s,q,n,B,rfl,G,hn,Z⟩;have HS:=Hq G;have HM:Hid (Bx.MayS (Px.abs s)):=Bx.says_may G Bx.first_may;have HR:Hid (Px.Rel (Px.openB l r s) ⟨l,r,Bx.intS (Px.abs s),Bx.frame (Bx.wholeS (Bx.intS (Px.abs s))),[]⟩):=Px.Rel.opened H.out HM.out;have O:=Hq Z;have Hn:=Hq hn;have U:Hid ((Px.openB l r s).limit=l∧(Px.openB l r s).room=r):=⟨rfl,rfl⟩;clear G hn Z;go_wp2_with fail;refine (pj l r log _ H.out hl).mono ?_;rintro e d ⟨S,q',n',D,rfl,J,Y,hD,⟨sl,en,hy⟩,I⟩;obtain⟨hS,hq⟩:=J.uniq HS.out;have ag:n'=n:=by have:=Hn.out;rw[hq] at Y;omega
 subst ag;rw[hS] at hy;have ab:=O.out.bl.size;have ao:=I.size;have V:PairIn (d.alloc (pairO2 B D l r)) d.heap.size B D l r:=⟨by simp[go_sem],by simp[go_sem],by simp[go_sem],by simp[go_sem],Typed.new _ _ _⟩
 obtain⟨aw,av,hx⟩:=O.out.pb;have ae:=O.out.lo;have Q:PairIn (d.alloc (pairO2 B D l r)) d.heap.size B D (Px.openB l r s).limit (Px.openB l r s).room:=by rw[U.out.1,U.out.2];exact V
 have HF:Hid (Duo (d.alloc (pairO2 B D l r)) w.heap.size d.heap.size B D nilV (Px.openB l r s) ⟨l,r,Bx.intS (Px.abs s),Bx.frame (Bx.wholeS (Bx.intS (Px.abs s))),[]⟩):=
  ⟨Q,⟨_,_,(hx.later I).later (dx _ _)⟩,⟨_,_,hy.later (dx _ _)⟩,HR.out,⟨by omega,ae,by omega⟩⟩
 have am:Hid (Below w.heap.size w (d.alloc (pairO2 B D l r))):=(O.out.bl.trans (I.mono ab)).alloc (by omega) _
 clear hy I V Q hD hx hS hq J Y O HR Hn U;go_wp2_with ((go_at_call 70;refine (ey _ _).mono ?_;rintro e w3 ⟨rfl,rfl⟩));go_ret2;exact⟨_,_,_,_,_,rfl,HS.out,HM.out,HF.out,am.out⟩
def LFp (w w':World) (e:Ending):Prop:=∃(P B D:Nat) (b:Px.Bo) (d:Bx.Bo),e=.returned (.tuple #[.pointer (some ⟨P,0,none⟩),.bool true])∧Duo w' w.heap.size P B D nilV b d∧Px.HMax d 0∧Below w.heap.size w w'
theorem LOp.fail {l r:Int}{log:ByteArray}{w v d:World}{e:Ending} (h:LOp l r log v d e) (hb:Below w.heap.size w v):LFp w d e:=by
 obtain⟨P,B,D,s,q,rfl,_,hm,hd,G⟩:=h;refine⟨P,B,D,_,_,rfl,⟨hd.p,hd.x,hd.y,hd.rel,⟨Nat.le_trans hb.size hd.lo.1,Nat.le_trans hb.size hd.lo.2.1,Nat.le_trans hb.size hd.lo.2.2⟩⟩,⟨fun t I=>by simp at I,hm.int⟩,hb.trans (G.mono hb.size)⟩
set_option maxRecDepth 10000 in
set_option maxHeartbeats 0 in
theorem lr (w:World) (Z P B D:Nat) (tk:Value) (b:Px.Bo) (d:Bx.Bo) (n:Int) (hT:TT w) (hd:Duo w Z P B D tk b d):
 Calls Tryz.prog 39 #[.pointer (some ⟨P,0,none⟩),.int .i64 n] w fun e J=>LFp w J e:=by
 have hP:=hd.p.ty.lt;have c0:=hd.p.c0;have c1:=hd.p.c1;have c2:=hd.p.c2;have c3:=hd.p.c3;have HD:=Hq hd;have hz:b.log.size≤4000:=by have:=hd.rel.log;have:=hd.rel.r1;omega
 have ag:Hid (mayB b.limit b.room=true):=decide_eq_true ⟨hd.rel.l1,hd.rel.l4,hd.rel.r0,hd.rel.r1⟩
 have CO:Hid (∀(v:World) (U:ByteArray),Below w.heap.size w v→U.size≤4000→Calls Tryz.prog 72 #[.int .i64 b.limit,.int .i64 b.room,.string U] v fun e J=>LFp w J e):=fun v U hb h4=>
  (lj b.limit b.room U v ag.out h4 (hT.later hb)).mono fun e J h=>h.fail hb
 clear hd hT
 go_enter Tryz.func39,Tryz.ntmps39
 go_wp2_with fail;refine (kY b B _ HD.out.x).mono ?_;rintro e w1 ⟨rfl,Q⟩;have hv:=Q.symm;subst hv;clear Q;go_wp2_with fail;refine (j9 b d D tk _ HD.out.rel HD.out.y).mono ?_;rintro e w1 ⟨rfl,Q⟩;have hv:=Q.symm;subst hv;clear Q;generalize b.log=G at *
 by_cases h0:0<n
 case' pos=>
  by_cases h1:n<(G.size:Int)
  case' pos=>
   obtain⟨z,ao⟩:∃z:Nat,(G.size:Int)-n=(z:Int):=⟨((G.size:Int)-n).toNat,by omega⟩
   have wr:IntKind.i64.wrap ((G.size:Int)-n)=(z:Int):=by rw[IntKind.wrap_i64];omega
   have aj:(z:Int)≤(G.size:Int):=by omega
   have am:(0:Int)≤(z:Int):=by omega
   clear ao;go_upto_region 10 with fail
  case' neg=>
   have aj:(0:Int)≤(G.size:Int):=by omega
   go_upto_region 10 with fail
 case' neg=>
  have am:(0:Int)≤(G.size:Int):=by omega
  go_upto_region 10 with fail
 all_goals
  go_wp2_with fail
  go_region_held3 (fun J=>∀b o,b<w.heap.size→J.cell? ⟨b,o,none⟩=w.cell? ⟨b,o,none⟩)
   ((intro b' o' h1;first |(with_reducible exact ((Below.refl _ _).drew).cell (p:=⟨b',o',none⟩) h1)|rfl|(with_reducible exact I.out.2 b' o' h1)))
   ((go_at_call 72;refine (CO.out _ _ ?hb ?hs).mono ?_;(case hb=>first |exact (Below.refl _ _).drew|exact Below.refl _ _);(case hs=>first |omega|(rw[ByteArray.size_extract];omega)|(simp;done)|(simp;omega));rintro e w5 hF;obtain⟨P2,B2,D2,b2,d2,rfl,Y,V,O⟩:=hF;have I:Hid ((Duo w5 w.heap.size P2 B2 D2 nilV b2 d2∧Px.HMax d2 0∧Below w.heap.size w w5)∧∀b o,b<w.heap.size→w5.cell? ⟨b,o,none⟩=w.cell? ⟨b,o,none⟩):=⟨⟨Y,V,O⟩,fun b o h=>O.cell (p:=⟨b,o,none⟩) h⟩;clear Y V O))
  go_wp2_with fail;go_ret2;exact⟨P2,B2,D2,b2,d2,rfl,I.out.1.1,I.out.1.2.1,I.out.1.2.2⟩
theorem PlayI.fresh {e wr I:World}{N M Q B2 D2 Z B3 Y:Nat}{O:Value}{b2 U:Px.Bo}{d2 w:Bx.Bo} (h1:Below e.heap.size e wr) (h4:Duo wr e.heap.size Q B2 D2 O b2 d2) (h5:Px.HMax d2 N)
 (d:Duo I wr.heap.size Z B3 Y nilV U w) (ad:Px.HMax w 0) (J:Below wr.heap.size wr I) (hN:N≤M):PlayI e I M Z Q:=by
 have G:=h1.size;have V:Duo I e.heap.size Z B3 Y nilV U w:=⟨d.p,d.x,d.y,d.rel,⟨Nat.le_trans G d.lo.1,Nat.le_trans G d.lo.2.1,Nat.le_trans G d.lo.2.2⟩⟩;refine⟨h1.trans (J.mono G),B3,Y,nilV,U,w,B2,D2,O,b2,d2,V,ad.mono (Nat.zero_le _),h4.later J,h5.mono hN,fun g q q2=>?_⟩
 have a1:=d.ftLo g q;have a2:=Ft.lt h4 q2;omega
set_option maxRecDepth 10000 in
set_option maxHeartbeats 0 in
theorem m8 (l r:Int) (L:List (Int×Int×ByteArray)) (K:List Int) (sv kv:Value) (w:World) (hT:TabLH w) (hM:Tab w) (hS:ScriptAt w sv L) (hK:RowAt w kv K.length (K.map (Value.int .i64)))
 (bP:K.length≤100) (bL:L.length≤9223372036854775807) (aS:∀x∈L,x.2.2.size≤maxLen) (hN:∀i,i≤L.length→hm K i≤100000000000000000):
 Calls Tryz.prog 18 #[.int .i64 l,.int .i64 r,sv,kv] w fun e w'=>e=.returned (.bool true)∧Below w.heap.size w w':=by
 obtain⟨al,av,rfl,a6,aQ⟩:=hS;obtain⟨bM,bz,rfl,bO⟩:=hK.form;have bu:Hid (ScriptAt w (.slice al L.length av) L):=⟨al,av,rfl,a6,aQ⟩;have HK:=Hq hK;have HT:=Hq hT;have HM:=Hq hM;have a9:=Hq aS;have HN:=Hq hN;clear hK hT hM aS hN aQ
 cases V:mayB l r
 ·go_enter Tryz.func18,Tryz.ntmps18
  go_wp2_with fail;refine (nC l r _ V).mono ?_;rintro e w1 ⟨rfl,rfl⟩;clear V;go_wp2_with fail;go_ret;exact⟨rfl,Below.refl _ _⟩
 have hb:=of_decide_eq_true V;obtain⟨l1,l2,r1,r2⟩:=hb;have q1:IntKind.i64.wrap (5-l)=5-l:=by rw[IntKind.wrap_i64];omega
 have q2:IntKind.i64.wrap (4600-r)=4600-r:=by rw[IntKind.wrap_i64];omega
 have af:mayB (5-l) (4600-r)=true:=decide_eq_true (by omega)
 have aB:Hid (mayB l r=true∧mayB (5-l) (4600-r)=true):=⟨V,af⟩;clear V af
 go_enter Tryz.func18,Tryz.ntmps18
 go_wp2_with fail;refine (i6 l r _ aB.out.1).mono ?_;rintro e w1 ⟨⟨P,B,D,rfl,ae⟩,aM⟩;have aj:=Hq ae;have ak:=Hq aM;clear ae aM;go_wp2_with fail;refine (i6 (5-l) (4600-r) _ aB.out.2).mono ?_;rintro e w2 ⟨⟨Q,Y,D2,rfl,O⟩,aq⟩
 have HI:Hid (PlayI w w2 (hm K 0) P Q):=by
  have ae:=aj.out.later aq;have ag:=ak.out.size;have a4:Duo w2 w.heap.size Q Y D2 nilV _ _:=⟨O.p,O.x,O.y,O.rel,⟨Nat.le_trans ag O.lo.1,Nat.le_trans ag O.lo.2.1,Nat.le_trans ag O.lo.2.2⟩⟩;have hz:hm K 0=0:=by unfold hm;split<;>rfl
  refine⟨ak.out.trans (aq.mono ag),B,D,nilV,_,_,Y,D2,nilV,_,_,ae,?_,a4,?_,fun g q q2=>?_⟩
  ·exact⟨fun t ht=>by simp at ht,Bx.first_may⟩
  ·exact⟨fun t ht=>by simp at ht,Bx.first_may⟩
  ·have a1:=Ft.lt aj.out q;have a2:=O.ftLo g q2;omega
 clear O aq aj ak aB q1 q2;go_wp2_with fail
 go_loopw [9,10,11,12] (fun p o q i wr=>o=.bool true∧∃P Q k:Nat,p=.pointer (some ⟨P,0,none⟩)∧q=.pointer (some ⟨Q,0,none⟩)∧k≤L.length∧i=.int .i64 k∧PlayI w wr (hm K k) P Q) (fun _ _ _ i _=>L.length-(intOf i).toNat)
 case atStart=>exact⟨rfl,P,Q,0,rfl,rfl,Nat.zero_le _,rfl,HI.out⟩
 case round=>
  clear HI;obtain⟨rfl,P,Q,k,rfl,rfl,hk,rfl,hI⟩:=hrel;have bh:=Hq hI
  by_cases aR:k<L.length
  ·obtain⟨b,Z,rfl,c0,c1,c2⟩:∃b Z,al=some ⟨b,Z,none⟩∧wr.cell? ⟨b,Z+k*3,none⟩=some (.int .i64 L[k].1)∧wr.cell? ⟨b,Z+k*3+1,none⟩=some (.int .i64 L[k].2.1)∧wr.cell? ⟨b,Z+k*3+2,none⟩=some (.string L[k].2.2):=by
    obtain⟨bx,bv,hv,_,h3⟩:=bu.out.later hI.1
    cases hv
    exact h3 k aR
   have aT:Hid (L[k].2.2.size≤maxLen):=a9.out _ (List.getElem_mem aR);have b1:(0:Int)≤(k:Int):=by omega
   have b2:(k:Int)<(L.length:Int):=by omega
   generalize L[k]=o at *;obtain⟨J,n,s⟩:=o;simp only at c0 c1 c2 aT;have aX:=OpIn.new wr J n s;have aL:=dx wr (opO J n s);have aw:=hI.later aL;go_upto_region 11 with fail;clear c0 c1 c2 hI;generalize wr.alloc (opO J n s)=W at *;generalize wr.heap.size=oq at *;have bj:=Hq aw;have HO:=Hq aX;have bs:=Hq (HK.out.later aw.1);clear aw aX aL bh;go_wp2_with fail
   go_loopw [14,15] (fun v j wq=>∃m:Nat,m≤K.length∧j=.int .i64 m∧v=.bool (inK K J m)∧Below W.heap.size W wq) (fun _ j _=>K.length-(intOf j).toNat)
   case atStart=>exact⟨0,Nat.zero_le _,rfl,rfl,Below.refl _ _⟩
   case round=>
    obtain⟨m,bN,rfl,rfl,I⟩:=hrel
    by_cases aJ:m<K.length
    ·obtain⟨kb,a3,bw,hv,_,ay⟩:=(bs.out.later I).some' (by omega)
     cases hv
     have k0:wr.cell? ⟨kb,a3+m,none⟩=some (.int .i64 K[m]):=by have:=ay m (by simpa using aJ);simpa using this
     have o0:=cell_later I HO.out.c0;have b3:(0:Int)≤(m:Int):=by omega
     have b4:(m:Int)<(K.length:Int):=by omega
     have ad:Hid (inK K J (m+1)=(inK K J m||(K[m]==J))):=pC aJ
     clear ay;generalize K[m]=km at *
     cases U:inK K J m
     ·have ap:Hid (inK K J (m+1)=(km==J)):=by unfold Hid;rw[ad.out,U];rfl
      clear U ad;go_wp2_with fail
      go_quiet (fail)
      go_wp2_with fail;go_roundw
      case rel=>exact⟨m+1,by omega,by go_num,by rw[ap.out],below_drewN I _⟩
      case measure=>simp[intOf];omega
     ·have ap:Hid (inK K J (m+1)=true):=by unfold Hid;rw[ad.out,U];rfl
      clear U ad;go_wp2_with fail
      go_quiet (fail)
      go_wp2_with fail;go_roundw
      case rel=>exact⟨m+1,by omega,by go_num,by rw[ap.out],below_drewN I _⟩
      case measure=>simp[intOf];omega
    ·obtain rfl:m=K.length:=by omega
     have ax:=Hq (bj.out.later I);obtain⟨o0,o1,o2,_⟩:=(⟨cell_later I HO.out.c0,cell_later I HO.out.c1,cell_later I HO.out.c2,trivial⟩:_∧_∧_∧True);have bQ:oq<wr.heap.size:=World.block_lt_of_cell? _ _ o0
     cases U:inK K J K.length
     ·clear U I;go_wp2_with fail;go_roundw
      case rel=>exact⟨rfl,P,Q,k+1,rfl,rfl,by omega,by go_num,ax.out.mono (io k)⟩
      case measure=>simp[intOf];omega
     ·have ac:=sw U;have ah:=ry ac k;have bk:=Hq ah;have bF:=Hq ac;clear U I ah ac
      by_cases ar:J=14
      ·have bt:Hid (PlayI w wr (hm K (k+1)) Q P):=ax.out.swap.mono (io k);rw[ar] at o0;clear ar;go_wp2_with fail;go_roundw
       case rel=>exact⟨rfl,Q,P,k+1,rfl,rfl,by omega,by go_num,bt.out⟩
       case measure=>simp[intOf];omega
      have bf:=ax.out;obtain⟨g1,B,D,tk,b,d,Y,D2,ab,b2,d2,g2,g3,g4,g5,g6⟩:=bf;have G:Hid (Below w.heap.size w wr∧Duo wr w.heap.size P B D tk b d∧Px.HMax d (hm K k)∧Duo wr w.heap.size Q Y D2 ab b2 d2∧Px.HMax d2 (hm K k)∧∀g,Ft B D tk g→¬Ft Y D2 ab g):=⟨g1,g2,g3,g4,g5,g6⟩;clear g1 g2 g3 g4 g5 g6
      by_cases aU:J=13
      ·rw[aU] at o0;clear aU ar;go_wp2_with fail;refine (lr wr w.heap.size P B D tk b d n ⟨HT.out.later G.out.1,HM.out.later G.out.1⟩ G.out.2.1).mono ?_;rintro e w5 ⟨P3,B3,D3,b3,d3,rfl,aV,aP,aN⟩;have aC:Hid (PlayI w w5 (hm K (k+1)) P3 Q):=PlayI.fresh G.out.1 G.out.2.2.2.1 G.out.2.2.2.2.1 aV aP aN (io k);clear aV aP aN o0 o1 o2;go_wp2_with fail;go_roundw
       case rel=>exact⟨rfl,P3,Q,k+1,rfl,rfl,by omega,by go_num,aC.out⟩
       case measure=>simp[intOf];omega
      go_wp2_with fail;refine (oA wr w.heap.size P B D tk b d J n s (hm K k) (HN.out k (by omega)) G.out.2.2.1 aT.out (HT.out.later G.out.1) (HM.out.later G.out.1) G.out.2.1).mono ?_
      rintro e w5 ⟨rfl,b',d',aI,aO⟩;have aC:Hid (PlayI w w5 (hm K (k+1)) P Q):=PlayI.did G.out.1 G.out.2.1 G.out.2.2.2.1 G.out.2.2.2.2.1 G.out.2.2.2.2.2 aI (aO.mono bk.out) (io k);clear aI aO o0 o1 o2;go_wp2_with fail;go_roundw
      case rel=>exact⟨rfl,P,Q,k+1,rfl,rfl,by omega,by go_num,aC.out⟩
      case measure=>simp[intOf];omega
  ·obtain rfl:k=L.length:=by omega
   obtain⟨g1,B,D,tk,b,d,Y,D2,ab,b2,d2,g2,g3,g4,g5,g6⟩:=hI;have G:Hid (Below w.heap.size w wr∧Duo wr w.heap.size P B D tk b d∧Duo wr w.heap.size Q Y D2 ab b2 d2):=⟨g1,g2,g4⟩;clear g1 g2 g3 g4 g5 g6;go_wp2_with fail;refine (iJ _ _ P B D tk b d G.out.2.1).mono ?_;rintro e w5 ⟨rfl,aA⟩;have aK:=Hq (G.out.1.trans (aA.mono G.out.1.size));have ba:=Hq (G.out.2.2.later aA);clear aA;go_wp2_with fail;refine (iJ _ _ Q Y D2 ab b2 d2 ba.out).mono ?_;rintro e w6 ⟨rfl,aW⟩;have bg:=Hq (aK.out.trans (aW.mono aK.out.size));clear aW;go_wp2_with fail;go_ret;exact⟨rfl,bg.out⟩
set_option maxHeartbeats 0 in
theorem lalls_any (l r:Int) (L:List (Int×Int×ByteArray)) (d:Value) (w:World) (U:TabLH w) (Q:Tab w) (hS:ScriptAt w d L) (ab:L.length≤1048576) (I:∀x∈L,x.2.2.size≤maxLen):
 Calls Tryz.prog 5 #[.int .i64 l,.int .i64 r,d] w fun e O=>e=.returned (.bool true)∧Below w.heap.size w O:=by
 have hb:=dx w (.cells ([1,2,3,4,5,6,7,8,9,10,11,12,13,14].map (Value.int .i64)).toArray 3);have V:=Hq hb
 have Z:Hid (∀J,J=.slice (some ⟨w.heap.size,0,none⟩) 14 14→Calls Tryz.prog 18 #[.int .i64 l,.int .i64 r,d,J] (w.alloc (.cells ([1,2,3,4,5,6,7,8,9,10,11,12,13,14].map (Value.int .i64)).toArray 3)) fun e O=>e=.returned (.bool true)∧Below (w.alloc (.cells ([1,2,3,4,5,6,7,8,9,10,11,12,13,14].map (Value.int .i64)).toArray 3)).heap.size (w.alloc (.cells ([1,2,3,4,5,6,7,8,9,10,11,12,13,14].map (Value.int .i64)).toArray 3)) O):=by
  rintro J rfl;exact m8 l r L [1,2,3,4,5,6,7,8,9,10,11,12,13,14] d _ _ (U.later hb) (Q.later hb) (hS.later hb) (rC w [1,2,3,4,5,6,7,8,9,10,11,12,13,14] 3) (by decide) (by omega) I (fun i hi=>by simp[hm];omega)
 obtain⟨ad,aa,rfl,_,_⟩:=hS;clear hb U Q I
 go_enter Tryz.func5,Tryz.ntmps5
 go_wp2_with fail;refine (Z.out _ rfl).mono ?_;rintro e w1 ⟨rfl,G⟩;have Y:=Hq (V.out.trans (G.mono V.out.size));clear G;go_wp2_with fail;go_ret;exact⟨rfl,Y.out⟩
end Go.Proofs.YtdajolpoiffimabGreatDoor
