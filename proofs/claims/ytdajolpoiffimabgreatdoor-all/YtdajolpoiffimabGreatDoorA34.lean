import Derived.Deep.RegionHeld3
import Derived.Test.YtdajolpoiffimabGreatDoorA30
import Derived.Test.YtdajolpoiffimabGreatDoorA33

namespace Go.Proofs.YtdajolpoiffimabGreatDoor
open Go.RowKit
namespace Px
def compD (d:Bx.Bo):Bx.Bo:={d with text:=Bx.frame (Bx.wholeS d.now)}
theorem Rel.comp {b:Bo} {d:Bx.Bo} (h:Rel b d) (hm:Bx.MayS d.now):Rel (compB b) (compD d)∧(compB b).log=(compD d).text:=by
 have w:Bx.MayS (abs b.st):=by rw[←h.now];exact hm
 have G:=whole_le w;have I:=h.r0;have e:(compB b).log=(compD d).text:=by show Bx.frame (Bx.wholeS (abs b.st))=Bx.frame (Bx.wholeS d.now);rw[h.now]
 exact⟨⟨h.lim,h.room,h.now,e.symm,h.tks,h.ok,h.l1,h.l4,h.r0,h.r1,by show (((Bx.frame (Bx.wholeS (abs b.st))).size:Nat):Int)≤b.room;omega⟩,e⟩
theorem HMax.comp {d:Bx.Bo} {N:Nat} (h:HMax d N):HMax (compD d) N:=h
end Px
set_option maxRecDepth 10000 in
set_option maxHeartbeats 2000000 in
theorem kD (b:Bx.Bo) (B:Nat) (sl en tk:Value) (w:World) (hm:Bx.MayS b.now) (hB:BoxIn w B b sl en tk):
 Calls Tryz.prog 78 #[.pointer (some ⟨B,0,none⟩)] w fun e w'=>e=.returned (.int .i64 (Px.compD b).text.size)∧BoxIn w' B (Px.compD b) sl en tk∧w.grownBy w' (some B):=by
 obtain⟨ad,Z,rfl,ak⟩:=hB.rows.sl.form;obtain⟨Y,U,rfl,ac⟩:=hB.rows.en.form;have Q:=Hq hB;have HF:=Hq hm.fit;have h8:b.now.slots.length≤255:=by have:=hm.sl;omega
 have h6:=hm.en;have V:Hid ((Bx.wholeS b.now).size≤450):=Bx.wholeS_size hm;have av:=hB.ty.lt;have e2:=hB.c2;have e3:=hB.c3;have e4:=hB.c4;have e5:=hB.c5;have e6:=hB.c6;clear hB hm
 go_enter Tryz.func78,Tryz.ntmps78
 go_wp2_with fail;refine (gR b.now _ _ _ HF.out h8 h6 Q.out.rows).mono ?_;rintro e w1 ⟨rfl,G⟩;have O:=Hq (Q.out.later G);have I:=Hq G;clear G e2 e3 e4 e5 e6 Q;go_wp2_with fail;refine (fY (Bx.wholeS b.now) _ (by have:=V.out;omega)).mono ?_
 rintro e w2 ⟨rfl,J⟩;have d:=O.out.later J;have hX:Hid (BoxIn (w2.setCell ⟨B,7,none⟩ (.string (Bx.frame (Bx.wholeS b.now)))) B (Px.compD b) (.slice ad b.now.slots.length Z) (.slice Y b.now.ends.length U) tk):=d.txt _;have hG:Hid (w.grownBy (w2.setCell ⟨B,7,none⟩ (.string (Bx.frame (Bx.wholeS b.now)))) (some B)):=dI (dx (I.out.trans (J.mono I.out.size)) _) _ _;have hz:(Bx.frame (Bx.wholeS b.now)).size≤1000:=by rw[Bx.frame_size];have:=V.out;omega
 have c7:=d.c7;have f7:=d.f 7 (by decide)
 have al:=d.ty.lt;have HC:Hid ((Px.compD b).text=Bx.frame (Bx.wholeS b.now)):=rfl;clear d J I O;generalize Bx.frame (Bx.wholeS b.now)=lg at *;go_wp2_with fail;go_ret;exact⟨by rw[HC.out];rfl,hX.out,hG.out⟩
theorem kJ (b:Px.Bo) (d:Bx.Bo) (D:Nat) (tk:Value) (w:World) (J:Px.Rel b d) (hm:Bx.MayS d.now) (hD:∃sl en,BoxIn w D d sl en tk):
 Calls Tryz.prog 78 #[.pointer (some ⟨D,0,none⟩)] w fun e I=>e=.returned (.int .i64 (Px.compB b).log.size)∧(∃G,(∃sl en,BoxIn I D (Px.compD d) sl en G)∧NewTk w tk G)∧TwoBy w I D tk.ownBlock:=by
 obtain⟨sl,en,hD⟩:=hD;refine (kD d D sl en tk w hm hD).mono fun e I ⟨he,hB,hg⟩=>⟨?_,⟨tk,⟨sl,en,hB⟩,Or.inl rfl⟩,TwoBy.of_grow hg _⟩
 rw[he,(J.comp hm).2]
set_option maxHeartbeats 2000000 in
theorem sU (w:World) (I P B D:Nat) (tk:Value) (b:Px.Bo) (d:Bx.Bo) (k n:Int) (s:ByteArray) (N:Nat) (hm:Px.HMax d N) (hk:k=7) (hd:Duo w I P B D tk b d):
 Calls Tryz.prog 40 #[.pointer (some ⟨P,0,none⟩),opV k n s] w fun e w'=>e=.returned (.bool true)∧∃b' U,Did w w' I P B D tk b' U∧Px.HMax U N:=by
 subst hk;have J:=Hq hm;have O:=cw w (opO 7 n s);have G:=hd.later O;have ho:=OpIn.new w 7 n s;clear hd hm
 go_enter Tryz.func40,Tryz.ntmps40
 go_upto_region 1 with fail;generalize w.alloc (opO 7 n s)=W at *;generalize Y:w.heap.size=oq at *;have al:=Hq Y;clear Y;have aj:=Hq O;have Q:=Hq G;have ak:Hid (Bx.MayS (Px.abs b.st)):=by unfold Hid;rw[←G.rel.now];exact J.out.2
 have hP:=G.p.ty.lt;have c0:=G.p.c0;have hO:=ho.ty.lt;obtain⟨o0,o1,o2,_⟩:=ho;clear O G;go_wp2_with fail;refine (kP b B _ ak.out Q.out.x).mono ?_;rintro e w1 ⟨rfl,hx,hg⟩;obtain⟨V,Z,_⟩:=Q.out.prg hg;have HX:=Hq hx;have HG:=Hq hg;have HY:=Hq Z;have c1:=V.c1;have ay:=V.ty.lt;have HR:Hid (Px.Rel (Px.compB b) (Px.compD d)):=(Q.out.rel.comp J.out.2).1;have ac:Hid ((Px.compB b).limit=b.limit∧(Px.compB b).room=b.room):=⟨rfl,rfl⟩;clear hx hg V Z c0 o0 o1 o2 hO hP;go_wp2_with fail;refine (kJ b d D tk _ Q.out.rel J.out.2 HY.out).mono ?_;rintro e w2 ⟨rfl,⟨az,ad,ab⟩,aa⟩
 have HF:Hid (∃b' U,Did w w2 I P B D tk b' U∧Px.HMax U N):=
  ⟨Px.compB b,Px.compD d,(Did.of Q.out HG.out HX.out ad ab aa HR.out ac.out).ahead (by rw[al.out];exact aj.out),J.out.comp⟩
 clear c1 ad ab aa HX HG HY HR ac;generalize (Px.compB b).log.size=z at *;go_wp2_with fail;go_ret;exact⟨rfl,HF.out⟩
theorem po (w:World) (G P B D:Nat) (tk:Value) (b:Px.Bo) (d:Bx.Bo) (k n:Int) (s:ByteArray) (N:Nat) (U:N≤100000000000000000) (hm:Px.HMax d N) (V:s.size≤maxLen) (Q:TabLH w) (Z:Tab w) (hd:Duo w G P B D tk b d):
 Calls Tryz.prog 40 #[.pointer (some ⟨P,0,none⟩),opV k n s] w fun e Y=>e=.returned (.bool true)∧∃O J,Did w Y G P B D tk O J∧Px.HMax J (if k=5 then N+40 else N):=by
 by_cases I:k=7
 ·rw[if_neg (by omega)]
  exact sU w G P B D tk b d k n s N hm I hd
 ·exact oT w G P B D tk b d k n s N U hm V Q Z I hd
abbrev pairO2 (B D:Nat) (l r:Int):Obj:=.cells #[.pointer (some ⟨B,0,none⟩),.pointer (some ⟨D,0,none⟩),.int .i64 l,.int .i64 r] 124
def LOp (l r:Int) (log:ByteArray) (w w':World) (e:Ending):Prop:=∃(P B D:Nat) (s:Px.St) (q:ByteArray),e=.returned (.tuple #[.pointer (some ⟨P,0,none⟩),.bool true])∧Bx.Says true Bx.first log (Px.abs s) q∧Bx.MayS (Px.abs s)∧
 Duo w' w.heap.size P B D nilV (Px.openB l r s) ⟨l,r,Bx.intS (Px.abs s),Bx.frame (Bx.wholeS (Bx.intS (Px.abs s))),[]⟩∧Below w.heap.size w w'
set_option maxRecDepth 10000 in
set_option maxHeartbeats 2000000 in
theorem li (l r:Int) (log:ByteArray) (w:World) (h:mayB l r=true) (hl:log.size≤4000) (hT:TT w):Calls Tryz.prog 72 #[.int .i64 l,.int .i64 r,.string log] w fun e w'=>LOp l r log w w' e:=by
 have H:=Hq h;clear h
 go_enter Tryz.func72,Tryz.ntmps72
 go_wp2_with fail;refine (nZ l r log _ H.out hl hT).mono ?_;rintro e w1 ⟨s,q,n,B,rfl,G,hn,Y⟩;have HS:=Hq G;have HM:Hid (Bx.MayS (Px.abs s)):=Bx.says_may G Bx.first_may;have HR:Hid (Px.Rel (Px.openB l r s) ⟨l,r,Bx.intS (Px.abs s),Bx.frame (Bx.wholeS (Bx.intS (Px.abs s))),[]⟩):=Px.Rel.opened H.out HM.out;have U:=Hq Y;have Hn:=Hq hn;have O:Hid ((Px.openB l r s).limit=l∧(Px.openB l r s).room=r):=⟨rfl,rfl⟩;clear G hn Y;go_wp2_with fail;refine (pi l r log _ H.out hl).mono ?_;rintro e d ⟨S,q',n',D,rfl,J,V,hD,⟨sl,en,hy⟩,I⟩;obtain⟨hS,hq⟩:=J.uniq HS.out;have al:n'=n:=by have:=Hn.out;rw[hq] at V;omega
 subst al;rw[hS] at hy;have ab:=U.out.bl.size;have ao:=I.size;have Z:PairIn (d.alloc (pairO2 B D l r)) d.heap.size B D l r:=⟨by simp[go_sem],by simp[go_sem],by simp[go_sem],by simp[go_sem],Typed.new _ _ _⟩
 obtain⟨av,aw,hx⟩:=U.out.pb;have ac:=U.out.lo;have Q:PairIn (d.alloc (pairO2 B D l r)) d.heap.size B D (Px.openB l r s).limit (Px.openB l r s).room:=by rw[O.out.1,O.out.2];exact Z
 have HF:Hid (Duo (d.alloc (pairO2 B D l r)) w.heap.size d.heap.size B D nilV (Px.openB l r s) ⟨l,r,Bx.intS (Px.abs s),Bx.frame (Bx.wholeS (Bx.intS (Px.abs s))),[]⟩):=
  ⟨Q,⟨_,_,(hx.later I).later (cw _ _)⟩,⟨_,_,hy.later (cw _ _)⟩,HR.out,⟨by omega,ac,by omega⟩⟩
 have am:Hid (Below w.heap.size w (d.alloc (pairO2 B D l r))):=(U.out.bl.trans (I.mono ab)).alloc (by omega) _
 clear hy I Z Q hD hx hS hq J V U HR Hn O;go_wp2_with ((go_at_call 70;refine (ey _ _).mono ?_;rintro e w3 ⟨rfl,rfl⟩));go_ret2;exact⟨_,_,_,_,_,rfl,HS.out,HM.out,HF.out,am.out⟩
def LFp (w w':World) (e:Ending):Prop:=∃(P B D:Nat) (b:Px.Bo) (d:Bx.Bo),e=.returned (.tuple #[.pointer (some ⟨P,0,none⟩),.bool true])∧Duo w' w.heap.size P B D nilV b d∧Px.HMax d 0∧Below w.heap.size w w'
theorem LOp.fail {l r:Int} {log:ByteArray} {w v d:World} {e:Ending} (h:LOp l r log v d e) (hb:Below w.heap.size w v):LFp w d e:=by
 obtain⟨P,B,D,s,q,rfl,_,hm,hd,G⟩:=h;refine⟨P,B,D,_,_,rfl,⟨hd.p,hd.x,hd.y,hd.rel,⟨Nat.le_trans hb.size hd.lo.1,Nat.le_trans hb.size hd.lo.2.1,Nat.le_trans hb.size hd.lo.2.2⟩⟩,⟨fun t I=>by simp at I,hm.int⟩,hb.trans (G.mono hb.size)⟩
set_option maxRecDepth 10000 in
set_option maxHeartbeats 4000000 in
theorem ll (w:World) (ac P B D:Nat) (tk:Value) (b:Px.Bo) (d:Bx.Bo) (n:Int) (hT:TT w) (hd:Duo w ac P B D tk b d):
 Calls Tryz.prog 39 #[.pointer (some ⟨P,0,none⟩),.int .i64 n] w fun e J=>LFp w J e:=by
 have hP:=hd.p.ty.lt;have c0:=hd.p.c0;have c1:=hd.p.c1;have c2:=hd.p.c2;have c3:=hd.p.c3;have HD:=Hq hd;have hz:b.log.size≤4000:=by have:=hd.rel.log;have:=hd.rel.r1;omega
 have af:Hid (mayB b.limit b.room=true):=decide_eq_true ⟨hd.rel.l1,hd.rel.l4,hd.rel.r0,hd.rel.r1⟩
 have CO:Hid (∀(v:World) (U:ByteArray),Below w.heap.size w v→U.size≤4000→Calls Tryz.prog 72 #[.int .i64 b.limit,.int .i64 b.room,.string U] v fun e J=>LFp w J e):=fun v U hb h4=>
  (li b.limit b.room U v af.out h4 (hT.later hb)).mono fun e J h=>h.fail hb
 clear hd hT
 go_enter Tryz.func39,Tryz.ntmps39
 go_wp2_with fail;refine (kg b B _ HD.out.x).mono ?_;rintro e w1 ⟨rfl,Q⟩;have Z:=Q.symm;subst Z;clear Q;go_wp2_with fail;refine (j9 b d D tk _ HD.out.rel HD.out.y).mono ?_;rintro e w1 ⟨rfl,Q⟩;have Z:=Q.symm;subst Z;clear Q;generalize b.log=G at *
 by_cases h0:0<n
 case' pos=>
  by_cases h1:n<(G.size:Int)
  case' pos=>
   obtain⟨z,ad⟩:∃z:Nat,(G.size:Int)-n=(z:Int):=⟨((G.size:Int)-n).toNat,by omega⟩
   have wr:IntKind.i64.wrap ((G.size:Int)-n)=(z:Int):=by rw[IntKind.wrap_i64];omega
   have ag:(z:Int)≤(G.size:Int):=by omega
   have al:(0:Int)≤(z:Int):=by omega
   clear ad;go_upto_region 10 with fail
  case' neg=>
   have ag:(0:Int)≤(G.size:Int):=by omega
   go_upto_region 10 with fail
 case' neg=>
  have al:(0:Int)≤(G.size:Int):=by omega
  go_upto_region 10 with fail
 all_goals
  go_wp2_with fail
  go_region_held3 (fun J=>∀b o,b<w.heap.size→J.cell? ⟨b,o,none⟩=w.cell? ⟨b,o,none⟩)
   ((intro b' o' h1;first |(with_reducible exact ((Below.refl _ _).drew).cell (p:=⟨b',o',none⟩) h1)|rfl|(with_reducible exact I.out.2 b' o' h1)))
   ((go_at_call 72;refine (CO.out _ _ ?hb ?hs).mono ?_;(case hb=>first |exact (Below.refl _ _).drew|exact Below.refl _ _);(case hs=>first |omega|(rw[ByteArray.size_extract];omega)|(simp;done)|(simp;omega));rintro e w5 hF;obtain⟨P2,B2,D2,b2,d2,rfl,Y,V,O⟩:=hF;have I:Hid ((Duo w5 w.heap.size P2 B2 D2 nilV b2 d2∧Px.HMax d2 0∧Below w.heap.size w w5)∧∀b o,b<w.heap.size→w5.cell? ⟨b,o,none⟩=w.cell? ⟨b,o,none⟩):=⟨⟨Y,V,O⟩,fun b o h=>O.cell (p:=⟨b,o,none⟩) h⟩;clear Y V O))
  go_wp2_with fail;go_ret2;exact⟨P2,B2,D2,b2,d2,rfl,I.out.1.1,I.out.1.2.1,I.out.1.2.2⟩
theorem PlayI.fresh {e wr G:World} {N M Q B2 D2 V B3 U:Nat} {J:Value} {b2 Y:Px.Bo} {d2 w:Bx.Bo} (h1:Below e.heap.size e wr) (h4:Duo wr e.heap.size Q B2 D2 J b2 d2) (h5:Px.HMax d2 N)
 (d:Duo G wr.heap.size V B3 U nilV Y w) (ad:Px.HMax w 0) (O:Below wr.heap.size wr G) (hN:N≤M):PlayI e G M V Q:=by
 have I:=h1.size;have Z:Duo G e.heap.size V B3 U nilV Y w:=⟨d.p,d.x,d.y,d.rel,⟨Nat.le_trans I d.lo.1,Nat.le_trans I d.lo.2.1,Nat.le_trans I d.lo.2.2⟩⟩;refine⟨h1.trans (O.mono I),B3,U,nilV,Y,w,B2,D2,J,b2,d2,Z,ad.mono (Nat.zero_le _),h4.later O,h5.mono hN,fun g q q2=>?_⟩
 have a1:=d.ftLo g q;have a2:=Ft.lt h4 q2;omega
set_option maxRecDepth 10000 in
set_option maxHeartbeats 4000000 in
theorem mg (l r:Int) (L:List (Int×Int×ByteArray)) (K:List Int) (sv kv:Value) (w:World) (hT:TabLH w) (hM:Tab w) (hS:ScriptAt w sv L) (hK:RowAt w kv K.length (K.map (Value.int .i64)))
 (bQ:K.length≤100) (bL:L.length≤9223372036854775807) (aL:∀x∈L,x.2.2.size≤maxLen) (hN:∀i,i≤L.length→hm K i≤100000000000000000):
 Calls Tryz.prog 18 #[.int .i64 l,.int .i64 r,sv,kv] w fun e w'=>e=.returned (.bool true)∧Below w.heap.size w w':=by
 obtain⟨aA,ai,rfl,bu,aQ⟩:=hS;obtain⟨bP,bH,rfl,bO⟩:=hK.form;have bh:Hid (ScriptAt w (.slice aA L.length ai) L):=⟨aA,ai,rfl,bu,aQ⟩;have HK:=Hq hK;have HT:=Hq hT;have HM:=Hq hM;have bg:=Hq aL;have HN:=Hq hN;clear hK hT hM aL hN aQ
 cases V:mayB l r
 ·go_enter Tryz.func18,Tryz.ntmps18
  go_wp2_with fail;refine (oZ l r _ V).mono ?_;rintro e w1 ⟨rfl,rfl⟩;clear V;go_wp2_with fail;go_ret;exact⟨rfl,Below.refl _ _⟩
 have hb:=of_decide_eq_true V;obtain⟨l1,l2,r1,r2⟩:=hb;have q1:IntKind.i64.wrap (5-l)=5-l:=by rw[IntKind.wrap_i64];omega
 have q2:IntKind.i64.wrap (4600-r)=4600-r:=by rw[IntKind.wrap_i64];omega
 have ah:mayB (5-l) (4600-r)=true:=decide_eq_true (by omega)
 have ap:Hid (mayB l r=true∧mayB (5-l) (4600-r)=true):=⟨V,ah⟩;clear V ah
 go_enter Tryz.func18,Tryz.ntmps18
 go_wp2_with fail;refine (i5 l r _ ap.out.1).mono ?_;rintro e w1 ⟨⟨P,B,D,rfl,af⟩,aI⟩;have az:=Hq af;have ao:=Hq aI;clear af aI;go_wp2_with fail;refine (i5 (5-l) (4600-r) _ ap.out.2).mono ?_;rintro e w2 ⟨⟨Q,B2,Y,rfl,O⟩,av⟩
 have HI:Hid (PlayI w w2 (hm K 0) P Q):=by
  have af:=az.out.later av;have ag:=ao.out.size;have aY:Duo w2 w.heap.size Q B2 Y nilV _ _:=⟨O.p,O.x,O.y,O.rel,⟨Nat.le_trans ag O.lo.1,Nat.le_trans ag O.lo.2.1,Nat.le_trans ag O.lo.2.2⟩⟩;have hz:hm K 0=0:=by unfold hm;split<;>rfl
  refine⟨ao.out.trans (av.mono ag),B,D,nilV,_,_,B2,Y,nilV,_,_,af,?_,aY,?_,fun g q q2=>?_⟩
  ·exact⟨fun t ht=>by simp at ht,Bx.first_may⟩
  ·exact⟨fun t ht=>by simp at ht,Bx.first_may⟩
  ·have a1:=Ft.lt az.out q;have a2:=O.ftLo g q2;omega
 clear O av az ao ap q1 q2;go_wp2_with fail
 go_loopw [9,10,11,12] (fun p o q i wr=>o=.bool true∧∃P Q k:Nat,p=.pointer (some ⟨P,0,none⟩)∧q=.pointer (some ⟨Q,0,none⟩)∧k≤L.length∧i=.int .i64 k∧PlayI w wr (hm K k) P Q) (fun _ _ _ i _=>L.length-(intOf i).toNat)
 case atStart=>exact⟨rfl,P,Q,0,rfl,rfl,Nat.zero_le _,rfl,HI.out⟩
 case round=>
  clear HI;obtain⟨rfl,P,Q,k,rfl,rfl,hk,rfl,hI⟩:=hrel;have bo:=Hq hI
  by_cases aP:k<L.length
  ·obtain⟨b,ab,rfl,c0,c1,c2⟩:∃b ab,aA=some ⟨b,ab,none⟩∧wr.cell? ⟨b,ab+k*3,none⟩=some (.int .i64 L[k].1)∧wr.cell? ⟨b,ab+k*3+1,none⟩=some (.int .i64 L[k].2.1)∧wr.cell? ⟨b,ab+k*3+2,none⟩=some (.string L[k].2.2):=by
    obtain⟨bJ,bw,hv,_,h3⟩:=bh.out.later hI.1
    cases hv
    exact h3 k aP
   have aO:Hid (L[k].2.2.size≤maxLen):=bg.out _ (List.getElem_mem aP);have b1:(0:Int)≤(k:Int):=by omega
   have b2:(k:Int)<(L.length:Int):=by omega
   generalize L[k]=o at *;obtain⟨J,n,s⟩:=o;simp only at c0 c1 c2 aO;have aN:=OpIn.new wr J n s;have aW:=cw wr (opO J n s);have ar:=hI.later aW;go_upto_region 11 with fail;clear c0 c1 c2 hI;generalize wr.alloc (opO J n s)=W at *;generalize wr.heap.size=oq at *;have a6:=Hq ar;have HO:=Hq aN;have ba:=Hq (HK.out.later ar.1);clear ar aN aW bo;go_wp2_with fail
   go_loopw [14,15] (fun v j wq=>∃m:Nat,m≤K.length∧j=.int .i64 m∧v=.bool (inK K J m)∧Below W.heap.size W wq) (fun _ j _=>K.length-(intOf j).toNat)
   case atStart=>exact⟨0,Nat.zero_le _,rfl,rfl,Below.refl _ _⟩
   case round=>
    obtain⟨m,bM,rfl,rfl,I⟩:=hrel
    by_cases aR:m<K.length
    ·obtain⟨kb,a3,bv,hv,_,aq⟩:=(ba.out.later I).some' (by omega)
     cases hv
     have k0:wr.cell? ⟨kb,a3+m,none⟩=some (.int .i64 K[m]):=by have:=aq m (by simpa using aR);simpa using this
     have o0:=cell_later I HO.out.c0;have b3:(0:Int)≤(m:Int):=by omega
     have b4:(m:Int)<(K.length:Int):=by omega
     have ad:Hid (inK K J (m+1)=(inK K J m||(K[m]==J))):=pL aR
     clear aq;generalize K[m]=km at *
     cases U:inK K J m
     ·have al:Hid (inK K J (m+1)=(km==J)):=by unfold Hid;rw[ad.out,U];rfl
      clear U ad;go_wp2_with fail
      go_quiet (fail)
      go_wp2_with fail;go_roundw
      case rel=>exact⟨m+1,by omega,by go_num,by rw[al.out],below_drewN I _⟩
      case measure=>simp[intOf];omega
     ·have al:Hid (inK K J (m+1)=true):=by unfold Hid;rw[ad.out,U];rfl
      clear U ad;go_wp2_with fail
      go_quiet (fail)
      go_wp2_with fail;go_roundw
      case rel=>exact⟨m+1,by omega,by go_num,by rw[al.out],below_drewN I _⟩
      case measure=>simp[intOf];omega
    ·obtain rfl:m=K.length:=by omega
     have au:=Hq (a6.out.later I);obtain⟨o0,o1,o2,_⟩:=(⟨cell_later I HO.out.c0,cell_later I HO.out.c1,cell_later I HO.out.c2,trivial⟩:_∧_∧_∧True);have bN:oq<wr.heap.size:=World.block_lt_of_cell? _ _ o0
     cases U:inK K J K.length
     ·clear U I;go_wp2_with fail;go_roundw
      case rel=>exact⟨rfl,P,Q,k+1,rfl,rfl,by omega,by go_num,au.out.mono (io k)⟩
      case measure=>simp[intOf];omega
     ·have ac:=rI U;have ae:=rC ac k;have bj:=Hq ae;have bG:=Hq ac;clear U I ae ac
      by_cases aj:J=14
      ·have a9:Hid (PlayI w wr (hm K (k+1)) Q P):=au.out.swap.mono (io k);rw[aj] at o0;clear aj;go_wp2_with fail;go_roundw
       case rel=>exact⟨rfl,Q,P,k+1,rfl,rfl,by omega,by go_num,a9.out⟩
       case measure=>simp[intOf];omega
      have bb:=au.out;obtain⟨g1,B,D,tk,b,d,B2,Y,Z,b2,d2,g2,g3,g4,g5,g6⟩:=bb;have G:Hid (Below w.heap.size w wr∧Duo wr w.heap.size P B D tk b d∧Px.HMax d (hm K k)∧Duo wr w.heap.size Q B2 Y Z b2 d2∧Px.HMax d2 (hm K k)∧∀g,Ft B D tk g→¬Ft B2 Y Z g):=⟨g1,g2,g3,g4,g5,g6⟩;clear g1 g2 g3 g4 g5 g6
      by_cases aM:J=13
      ·rw[aM] at o0;clear aM aj;go_wp2_with fail;refine (ll wr w.heap.size P B D tk b d n ⟨HT.out.later G.out.1,HM.out.later G.out.1⟩ G.out.2.1).mono ?_;rintro e w5 ⟨P3,B3,D3,b3,d3,rfl,aU,aX,aS⟩;have ax:Hid (PlayI w w5 (hm K (k+1)) P3 Q):=PlayI.fresh G.out.1 G.out.2.2.2.1 G.out.2.2.2.2.1 aU aX aS (io k);clear aU aX aS o0 o1 o2;go_wp2_with fail;go_roundw
       case rel=>exact⟨rfl,P3,Q,k+1,rfl,rfl,by omega,by go_num,ax.out⟩
       case measure=>simp[intOf];omega
      go_wp2_with fail;refine (po wr w.heap.size P B D tk b d J n s (hm K k) (HN.out k (by omega)) G.out.2.2.1 aO.out (HT.out.later G.out.1) (HM.out.later G.out.1) G.out.2.1).mono ?_
      rintro e w5 ⟨rfl,b',d',aJ,aT⟩;have ax:Hid (PlayI w w5 (hm K (k+1)) P Q):=PlayI.did G.out.1 G.out.2.1 G.out.2.2.2.1 G.out.2.2.2.2.1 G.out.2.2.2.2.2 aJ (aT.mono bj.out) (io k);clear aJ aT o0 o1 o2;go_wp2_with fail;go_roundw
      case rel=>exact⟨rfl,P,Q,k+1,rfl,rfl,by omega,by go_num,ax.out⟩
      case measure=>simp[intOf];omega
  ·obtain rfl:k=L.length:=by omega
   obtain⟨g1,B,D,tk,b,d,B2,Y,Z,b2,d2,g2,g3,g4,g5,g6⟩:=hI;have G:Hid (Below w.heap.size w wr∧Duo wr w.heap.size P B D tk b d∧Duo wr w.heap.size Q B2 Y Z b2 d2):=⟨g1,g2,g4⟩;clear g1 g2 g3 g4 g5 g6;go_wp2_with fail;refine (iJ _ _ P B D tk b d G.out.2.1).mono ?_;rintro e w5 ⟨rfl,ak⟩;have aK:=Hq (G.out.1.trans (ak.mono G.out.1.size));have bq:=Hq (G.out.2.2.later ak);clear ak;go_wp2_with fail;refine (iJ _ _ Q B2 Y Z b2 d2 bq.out).mono ?_;rintro e w6 ⟨rfl,aV⟩;have bm:=Hq (aK.out.trans (aV.mono aK.out.size));clear aV;go_wp2_with fail;go_ret;exact⟨rfl,bm.out⟩
set_option maxHeartbeats 1000000 in
theorem lalls_any (l r:Int) (L:List (Int×Int×ByteArray)) (d:Value) (w:World) (Q:TabLH w) (V:Tab w) (hS:ScriptAt w d L) (ab:L.length≤1048576) (G:∀x∈L,x.2.2.size≤maxLen):
 Calls Tryz.prog 5 #[.int .i64 l,.int .i64 r,d] w fun e J=>e=.returned (.bool true)∧Below w.heap.size w J:=by
 have hb:=cw w (.cells ([1,2,3,4,5,6,7,8,9,10,11,12,13,14].map (Value.int .i64)).toArray 3);have U:=Hq hb
 have Y:Hid (∀O,O=.slice (some ⟨w.heap.size,0,none⟩) 14 14→Calls Tryz.prog 18 #[.int .i64 l,.int .i64 r,d,O] (w.alloc (.cells ([1,2,3,4,5,6,7,8,9,10,11,12,13,14].map (Value.int .i64)).toArray 3)) fun e J=>e=.returned (.bool true)∧Below (w.alloc (.cells ([1,2,3,4,5,6,7,8,9,10,11,12,13,14].map (Value.int .i64)).toArray 3)).heap.size (w.alloc (.cells ([1,2,3,4,5,6,7,8,9,10,11,12,13,14].map (Value.int .i64)).toArray 3)) J):=by
  rintro O rfl;exact mg l r L [1,2,3,4,5,6,7,8,9,10,11,12,13,14] d _ _ (Q.later hb) (V.later hb) (hS.later hb) (rA w [1,2,3,4,5,6,7,8,9,10,11,12,13,14] 3) (by decide) (by omega) G (fun i hi=>by simp[hm];omega)
 obtain⟨ad,aa,rfl,_,_⟩:=hS;clear hb Q V G
 go_enter Tryz.func5,Tryz.ntmps5
 go_wp2_with fail;refine (Y.out _ rfl).mono ?_;rintro e w1 ⟨rfl,I⟩;have Z:=Hq (U.out.trans (I.mono U.out.size));clear I;go_wp2_with fail;go_ret;exact⟨rfl,Z.out⟩
end Go.Proofs.YtdajolpoiffimabGreatDoor
