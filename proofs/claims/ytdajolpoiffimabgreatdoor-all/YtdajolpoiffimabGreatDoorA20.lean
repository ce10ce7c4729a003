import Derived.Test.YtdajolpoiffimabGreatDoorA19

namespace Go.Proofs.YtdajolpoiffimabGreatDoor
open Go.RowKit
theorem dX {w w1:World} {r:Option Nat} (h:w.grownBy w1 r) {g:Nat} (G:w.heap.size≤g) (j:Nat) (u:Value):w.grownBy (w1.setCell ⟨g,j,none⟩ u) r:=by
 have e:∀k,k<w.heap.size→(w1.setCell ⟨g,j,none⟩ u).heap[k]? =w1.heap[k]? :=fun k d=>((Below.refl w.heap.size w1).setCell (p:=⟨g,j,none⟩) G u).block k d
 have z:=((Below.refl w.heap.size w1).setCell (p:=⟨g,j,none⟩) G u).size;exact⟨h.os,h.tape,h.output,Nat.le_trans h.size z,fun k d I=>(e k d).trans (h.block k d I)⟩
theorem gV {w w1:World} {r:Option Nat} (h:w.grownBy w1 r) {g:Nat} (d:w.heap.size≤g) (U J I e O V G Q:Value):w.grownBy ((((((((w1.setCell ⟨g,0,none⟩ U).setCell ⟨g,1,none⟩ J).setCell ⟨g,2,none⟩ I).setCell ⟨g,3,none⟩ e).setCell ⟨g,4,none⟩ O).setCell ⟨g,5,none⟩ V).setCell ⟨g,6,none⟩ G).setCell ⟨g,7,none⟩ Q) r:=
 dX (dX (dX (dX (dX (dX (dX (dX h d _ _) d _ _) d _ _) d _ _) d _ _) d _ _) d _ _) d _ _
theorem Cl.far8 {w1:World} {q g:Nat} {t:TypeId} {e:List Value} (h:Cl w1 q t e) (d:q≠g) (U J I w O V G Q:Value):Cl ((((((((w1.setCell ⟨g,0,none⟩ U).setCell ⟨g,1,none⟩ J).setCell ⟨g,2,none⟩ I).setCell ⟨g,3,none⟩ w).setCell ⟨g,4,none⟩ O).setCell ⟨g,5,none⟩ V).setCell ⟨g,6,none⟩ G).setCell ⟨g,7,none⟩ Q) q t e:=
 (((((((h.far d _ _).far d _ _).far d _ _).far d _ _).far d _ _).far d _ _).far d _ _).far d _ _
structure RS (w W:World) (q:Nat) (p:Bx.PS) (x:Px.Sl):Prop where
 p:PtIn W q p
 x:Cl W (w.heap.size+1) 143 (psC x)
 z:Cl W w.heap.size 143 (psC Px.sl0)
 g:w.grownBy W (some q)
 q:q<w.heap.size
theorem RS.call {w W W':World} {q:Nat} {p e:Bx.PS} {x:Px.Sl} (h:RS w W q p x) (G:PtIn W' q e) (d:W.grownBy W' (some q)):RS w W' q e x:=
 ⟨G,h.x.grow d (by have:=h.q;omega),h.z.grow d (by have:=h.q;omega),dz h.g d,h.q⟩
theorem RS.put {w W:World} {q:Nat} {p:Bx.PS} {x:Px.Sl} (h:RS w W q p x) (y:Px.Sl) (j:Nat) (v:Value) (d:j<8) (e:psC y=(psC x).set j v):RS w (W.setCell ⟨w.heap.size+1,j,none⟩ v) q p y:=
 ⟨h.p.far (by have:=h.q;omega) _ _,by rw[e];exact h.x.set j (by simpa [psC] using d) v,h.z.far (by omega) _ _,dX h.g (by omega) _ _,h.q⟩
set_option maxRecDepth 10000 in
set_option maxHeartbeats 2000000 in
theorem jL (p:Bx.PS) (q:Nat) (w:World) (hs:p.rest.size≤100000) (hp:PtIn w q p):
 Calls Tryz.prog 210 #[.pointer (some ⟨q,0,none⟩)] w fun e w'=>e=.returned (psV (Px.rdSlot p).1)∧PtIn w' q (Px.rdSlot p).2∧w.grownBy w' (some q):=by
 obtain⟨a,pa,ha⟩:∃a q,Bx.numP 2 p=(a,q):=⟨_,_,dA _⟩;obtain⟨b,pb,hb⟩:∃a q,Bx.numP 1 pa=(a,q):=⟨_,_,dA _⟩;obtain⟨c,pc,hc⟩:∃a q,Bx.numP 5 pb=(a,q):=⟨_,_,dA _⟩;obtain⟨d,pd,hd⟩:∃a q,Bx.numP 1 pc=(a,q):=⟨_,_,dA _⟩;obtain⟨e,pe,he⟩:∃a q,Bx.numP 5 pd=(a,q):=⟨_,_,dA _⟩;obtain⟨f,pf,hf⟩:∃a q,Bx.numP 1 pe=(a,q):=⟨_,_,dA _⟩;have HE:Hid (Px.rdSlot p=(⟨a,b,c,d,e,if f=1 then 1 else 0,0,ByteArray.empty⟩,if f=1∨f=0 then pf else ⟨pf.rest,true⟩)):=Px.rdSlot_eq ha hb hc hd he hf
 have sa:=dL 2 p;have sb:=dL 1 pa;have sc:=dL 5 pb;have sd:=dL 1 pc;have se:=dL 5 pd;rw[ha] at sa;rw[hb] at sb;rw[hc] at sc;rw[hd] at sd;rw[he] at se;simp only at sa sb sc sd se;have Ha:=Hq ha;have Hb:=Hq hb;have Hc:=Hq hc;have Hd:=Hq hd;have He:=Hq he;have Hf:=Hq hf;clear ha hb hc hd he hf
 have hR:RS w ((w.alloc (.cells #[.int .i64 0,.int .i64 0,.int .i64 0,.int .i64 0,.int .i64 0,.int .i64 0,.int .i64 0,.string {data:= #[]}] 143)).alloc (.cells #[.int .i64 0,.int .i64 0,.int .i64 0,.int .i64 0,.int .i64 0,.int .i64 0,.int .i64 0,.string {data:= #[]}] 143)) q p Px.sl0:=by
  have b1:=cw w (.cells #[.int .i64 0,.int .i64 0,.int .i64 0,.int .i64 0,.int .i64 0,.int .i64 0,.int .i64 0,.string {data:= #[]}] 143);have b2:=cw (w.alloc (.cells #[.int .i64 0,.int .i64 0,.int .i64 0,.int .i64 0,.int .i64 0,.int .i64 0,.int .i64 0,.string {data:= #[]}] 143)) (.cells #[.int .i64 0,.int .i64 0,.int .i64 0,.int .i64 0,.int .i64 0,.int .i64 0,.int .i64 0,.string {data:= #[]}] 143);have n1:Cl (w.alloc (.cells #[.int .i64 0,.int .i64 0,.int .i64 0,.int .i64 0,.int .i64 0,.int .i64 0,.int .i64 0,.string {data:= #[]}] 143)) w.heap.size 143 (psC Px.sl0):=Cl.new w (psC Px.sl0) 143;have n2:=Cl.new (w.alloc (.cells #[.int .i64 0,.int .i64 0,.int .i64 0,.int .i64 0,.int .i64 0,.int .i64 0,.int .i64 0,.string {data:= #[]}] 143)) (psC Px.sl0) 143;have hz:(w.alloc (.cells #[.int .i64 0,.int .i64 0,.int .i64 0,.int .i64 0,.int .i64 0,.int .i64 0,.int .i64 0,.string {data:= #[]}] 143)).heap.size=w.heap.size+1:=by simp
  rw[hz] at n2;exact⟨(hp.later b1).later b2,n2,n1.later b2,dx (b1.trans (b2.mono b1.size)) _,hp.ty.lt⟩
 clear hp
 go_enter Tryz.func210,Tryz.ntmps210
 go_upto_region 2 with fail;generalize (w.alloc (.cells #[.int .i64 0,.int .i64 0,.int .i64 0,.int .i64 0,.int .i64 0,.int .i64 0,.int .i64 0,.string {data:= #[]}] 143)).alloc (.cells #[.int .i64 0,.int .i64 0,.int .i64 0,.int .i64 0,.int .i64 0,.int .i64 0,.int .i64 0,.string {data:= #[]}] 143)=W at *;have ad:=Hq hR;clear hR;go_wp2_with fail;refine (dG p q 2 _ _ rfl (by decide) (by omega) ad.out.p).mono ?_
 rintro ex w0 ⟨rfl,I,J⟩;rw[Ha.out] at I ⊢;have V:=ad.out.call I J;have r0:=V.x.c 0 _ rfl;have t0:=V.x.f 0 (by simp[psC])
 have y0:=V.x.ty.lt;have az:=V.put (⟨a,0,0,0,0,0,0,ByteArray.empty⟩:Px.Sl) 0 (.int .i64 a) (by decide) rfl
 clear I J V ad;go_upto_region 3 with fail;clear r0 t0 y0;generalize w0.setCell ⟨w.heap.size+1,0,none⟩ (.int .i64 a)=W1 at *;have aj:=Hq az;clear az;go_wp2_with fail;refine (dG pa q 1 _ _ rfl (by decide) (by omega) aj.out.p).mono ?_
 rintro ex w1 ⟨rfl,I,J⟩;rw[Hb.out] at I ⊢;have Y:=aj.out.call I J;have r1:=Y.x.c 1 _ rfl;have t1:=Y.x.f 1 (by simp[psC])
 have y1:=Y.x.ty.lt;have aB:=Y.put (⟨a,b,0,0,0,0,0,ByteArray.empty⟩:Px.Sl) 1 (.int .i64 b) (by decide) rfl
 clear I J Y aj;go_upto_region 4 with fail;clear r1 t1 y1;generalize w1.setCell ⟨w.heap.size+1,1,none⟩ (.int .i64 b)=W2 at *;have ap:=Hq aB;clear aB;go_wp2_with fail;refine (dG pb q 5 _ _ rfl (by decide) (by omega) ap.out.p).mono ?_
 rintro ex w2 ⟨rfl,I,J⟩;rw[Hc.out] at I ⊢;have U:=ap.out.call I J;have r2:=U.x.c 2 _ rfl;have t2:=U.x.f 2 (by simp[psC])
 have y2:=U.x.ty.lt;have aA:=U.put (⟨a,b,c,0,0,0,0,ByteArray.empty⟩:Px.Sl) 2 (.int .i64 c) (by decide) rfl
 clear I J U ap;go_upto_region 5 with fail;clear r2 t2 y2;generalize w2.setCell ⟨w.heap.size+1,2,none⟩ (.int .i64 c)=W3 at *;have ar:=Hq aA;clear aA;go_wp2_with fail;refine (dG pc q 1 _ _ rfl (by decide) (by omega) ar.out.p).mono ?_
 rintro ex w3 ⟨rfl,I,J⟩;rw[Hd.out] at I ⊢;have Q:=ar.out.call I J;have r3:=Q.x.c 3 _ rfl;have t3:=Q.x.f 3 (by simp[psC])
 have y3:=Q.x.ty.lt;have aC:=Q.put (⟨a,b,c,d,0,0,0,ByteArray.empty⟩:Px.Sl) 3 (.int .i64 d) (by decide) rfl
 clear I J Q ar;go_upto_region 6 with fail;clear r3 t3 y3;generalize w3.setCell ⟨w.heap.size+1,3,none⟩ (.int .i64 d)=W4 at *;have ae:=Hq aC;clear aC;go_wp2_with fail;refine (dG pd q 5 _ _ rfl (by decide) (by omega) ae.out.p).mono ?_
 rintro ex w4 ⟨rfl,I,J⟩;rw[He.out] at I ⊢;have Z:=ae.out.call I J;have r4:=Z.x.c 4 _ rfl;have t4:=Z.x.f 4 (by simp[psC])
 have y4:=Z.x.ty.lt;have ay:=Z.put (⟨a,b,c,d,e,0,0,ByteArray.empty⟩:Px.Sl) 4 (.int .i64 e) (by decide) rfl
 clear I J Z ae;go_upto_region 7 with fail;clear r4 t4 y4;generalize w4.setCell ⟨w.heap.size+1,4,none⟩ (.int .i64 e)=W5 at *;have ag:=Hq ay;clear ay;go_wp2_with fail;refine (dG pe q 1 _ _ rfl (by decide) (by omega) ag.out.p).mono ?_
 rintro ex w6 ⟨rfl,I,J⟩;rw[Hf.out] at I ⊢;simp only at I;have hR:=ag.out.call I J;clear I J ag
 by_cases h1:f=1
 ·subst h1;have HF:Hid (Px.rdSlot p=(⟨a,b,c,d,e,1,0,ByteArray.empty⟩,pf)):=by unfold Hid;rw[HE.out,if_pos rfl,if_pos (Or.inl rfl)]
  have G:=hR.put (⟨a,b,c,d,e,1,0,ByteArray.empty⟩:Px.Sl) 5 (.int .i64 1) (by decide) rfl
  have r5:=hR.x.c 5 _ rfl;have t5:=hR.x.f 5 (by simp[psC])
  have y5:=hR.x.ty.lt;clear HE hR;go_upto_region 12 with fail;clear r5 t5 y5;generalize w6.setCell ⟨w.heap.size+1,5,none⟩ (.int .i64 1)=W7 at *;have O:=Hq G;have x0:=G.x.c 0 _ rfl;have x1:=G.x.c 1 _ rfl;have x2:=G.x.c 2 _ rfl;have x3:=G.x.c 3 _ rfl;have x4:=G.x.c 4 _ rfl;have x5:=G.x.c 5 _ rfl;have x6:=G.x.c 6 _ rfl;have x7:=G.x.c 7 _ rfl;have z0:=G.z.c 0 _ rfl;have z1:=G.z.c 1 _ rfl;have z2:=G.z.c 2 _ rfl;have z3:=G.z.c 3 _ rfl;have z4:=G.z.c 4 _ rfl;have z5:=G.z.c 5 _ rfl;have z6:=G.z.c 6 _ rfl;have z7:=G.z.c 7 _ rfl;have f0:=G.z.f 0 (by simp[psC]);have f1:=G.z.f 1 (by simp[psC]);have f2:=G.z.f 2 (by simp[psC]);have f3:=G.z.f 3 (by simp[psC]);have f4:=G.z.f 4 (by simp[psC]);have f5:=G.z.f 5 (by simp[psC]);have f6:=G.z.f 6 (by simp[psC]);have f7:=G.z.f 7 (by simp[psC])
  have yz:=G.z.ty.lt;have yx:=G.x.ty.lt;clear G;go_wp2_with fail;refine bodyPost_ret (v:=psV ⟨a,b,c,d,e,1,0,ByteArray.empty⟩) (by simp[results,Tryz.results210,go_sem,z0,z1,z2,z3,z4,z5,z6,z7]) rfl ?_
  rw[HF.out];exact⟨rfl,O.out.p.far8 (by have:=O.out.q;omega) _ _ _ _ _ _ _ _,gV O.out.g (Nat.le_refl _) _ _ _ _ _ _ _ _⟩
 ·by_cases h0:f=0
  ·subst h0;have HF:Hid (Px.rdSlot p=(⟨a,b,c,d,e,0,0,ByteArray.empty⟩,pf)):=by unfold Hid;rw[HE.out,if_neg (by decide),if_pos (Or.inr rfl)]
   have G:=hR;clear HE hR h1;go_upto_region 12 with fail;generalize w6=W7 at *;have O:=Hq G;have x0:=G.x.c 0 _ rfl;have x1:=G.x.c 1 _ rfl;have x2:=G.x.c 2 _ rfl;have x3:=G.x.c 3 _ rfl;have x4:=G.x.c 4 _ rfl;have x5:=G.x.c 5 _ rfl;have x6:=G.x.c 6 _ rfl;have x7:=G.x.c 7 _ rfl;have z0:=G.z.c 0 _ rfl;have z1:=G.z.c 1 _ rfl;have z2:=G.z.c 2 _ rfl;have z3:=G.z.c 3 _ rfl;have z4:=G.z.c 4 _ rfl;have z5:=G.z.c 5 _ rfl;have z6:=G.z.c 6 _ rfl;have z7:=G.z.c 7 _ rfl;have f0:=G.z.f 0 (by simp[psC]);have f1:=G.z.f 1 (by simp[psC]);have f2:=G.z.f 2 (by simp[psC]);have f3:=G.z.f 3 (by simp[psC]);have f4:=G.z.f 4 (by simp[psC]);have f5:=G.z.f 5 (by simp[psC]);have f6:=G.z.f 6 (by simp[psC]);have f7:=G.z.f 7 (by simp[psC])
   have yz:=G.z.ty.lt;have yx:=G.x.ty.lt;clear G;go_wp2_with fail;refine bodyPost_ret (v:=psV ⟨a,b,c,d,e,0,0,ByteArray.empty⟩) (by simp[results,Tryz.results210,go_sem,z0,z1,z2,z3,z4,z5,z6,z7]) rfl ?_
   rw[HF.out];exact⟨rfl,O.out.p.far8 (by have:=O.out.q;omega) _ _ _ _ _ _ _ _,gV O.out.g (Nat.le_refl _) _ _ _ _ _ _ _ _⟩
  ·have HF:Hid (Px.rdSlot p=(⟨a,b,c,d,e,0,0,ByteArray.empty⟩,⟨pf.rest,true⟩)):=by unfold Hid;rw[HE.out,if_neg h1,if_neg (by omega)]
   have G:RS w (w6.setCell ⟨q,1,none⟩ (.bool true)) q ⟨pf.rest,true⟩ ⟨a,b,c,d,e,0,0,ByteArray.empty⟩:=⟨hR.p.set 1 (by simp) _,hR.x.far (by have:=hR.q;omega) _ _,hR.z.far (by have:=hR.q;omega) _ _,dI hR.g _ _,hR.q⟩
   have r5:=hR.p.c1;have t5:=hR.p.f1;have y5:=hR.p.ty.lt;clear HE hR;go_upto_region 12 with fail;clear r5 t5 y5 h1 h0;generalize w6.setCell ⟨q,1,none⟩ (.bool true)=W7 at *;have O:=Hq G;have x0:=G.x.c 0 _ rfl;have x1:=G.x.c 1 _ rfl;have x2:=G.x.c 2 _ rfl;have x3:=G.x.c 3 _ rfl;have x4:=G.x.c 4 _ rfl;have x5:=G.x.c 5 _ rfl;have x6:=G.x.c 6 _ rfl;have x7:=G.x.c 7 _ rfl;have z0:=G.z.c 0 _ rfl;have z1:=G.z.c 1 _ rfl;have z2:=G.z.c 2 _ rfl;have z3:=G.z.c 3 _ rfl;have z4:=G.z.c 4 _ rfl;have z5:=G.z.c 5 _ rfl;have z6:=G.z.c 6 _ rfl;have z7:=G.z.c 7 _ rfl;have f0:=G.z.f 0 (by simp[psC]);have f1:=G.z.f 1 (by simp[psC]);have f2:=G.z.f 2 (by simp[psC]);have f3:=G.z.f 3 (by simp[psC]);have f4:=G.z.f 4 (by simp[psC]);have f5:=G.z.f 5 (by simp[psC]);have f6:=G.z.f 6 (by simp[psC]);have f7:=G.z.f 7 (by simp[psC])
   have yz:=G.z.ty.lt;have yx:=G.x.ty.lt;clear G;go_wp2_with fail;refine bodyPost_ret (v:=psV ⟨a,b,c,d,e,0,0,ByteArray.empty⟩) (by simp[results,Tryz.results210,go_sem,z0,z1,z2,z3,z4,z5,z6,z7]) rfl ?_
   rw[HF.out];exact⟨rfl,O.out.p.far8 (by have:=O.out.q;omega) _ _ _ _ _ _ _ _,gV O.out.g (Nat.le_refl _) _ _ _ _ _ _ _ _⟩
theorem iK {w Q:World} {d size n q:Nat} {e:TypeId} {v:Value} {J:List Value} (h:w.grownBy Q (some q)) (Y:q<d) (I:w.ownsRow d e size v n J):Q.ownsRow d e size v n J:=by
 refine⟨I.1,?_⟩
 rcases I.2 with h2|⟨g,G,cur,V,hbase,O,U⟩
 ·exact Or.inl h2
 ·refine Or.inr ⟨g,G,cur,V,hbase,?_,U⟩;rw[h.block g (eK O) (fun e=>by cases e;omega)];exact O
theorem fh {w w1:World} {r:Option Nat} (h:w.grownBy w1 r) (o:Obj):w.grownBy (w1.alloc o) r:=dz h (dx (cw w1 o) r)
theorem ki {w w1 G:World} {r I:Option Nat} (h:w.grownBy w1 r) (d:w1.grownBy G I) (O:∀k,I=some k→w.heap.size≤k):w.grownBy G r:=
 ⟨d.os.trans h.os,d.tape.trans h.tape,d.output.trans h.output,Nat.le_trans h.size d.size,fun k J Q=>(d.block k (Nat.lt_of_lt_of_le J h.size) (fun e=>by have:=O k e.symm;omega)).trans (h.block k J Q)⟩
theorem Cl.grow' {W W':World} {q:Nat} {r:Option Nat} {t:TypeId} {w:List Value} (h:Cl W q t w) (hb:W.grownBy W' r) (G:¬some q=r):Cl W' q t w:=by
 have e:=hb.block q h.ty.lt G;refine⟨fun j v d=>?_,fun j d=>?_,?_⟩
 ·rw[World.cell?_of_block (a:=⟨q,j,none⟩) e];exact h.c j v d
 ·rw[World.frozen?_of_block (a:=⟨q,j,none⟩) e];exact h.f j d
 ·obtain⟨cur,fr,I⟩:=h.ty;exact⟨cur,fr,e.trans I⟩
structure RdI (w wr:World) (q:Nat) (p p':Bx.PS) (v:Value) (e:TypeId) (sz:Nat) (n:Nat) (cs:List Value):Prop where
 pt:PtIn wr q p'
 ow:wr.ownsRow w.heap.size e sz v n cs
 gr:w.grownBy wr (some q)
 lt:q<w.heap.size
 le:p'.rest.size≤p.rest.size
theorem iF (p:Bx.PS):(Px.rdSlot p).2.rest.size≤p.rest.size:=by
 obtain⟨a,Q,Z⟩:∃a q,Bx.numP 2 p=(a,q):=⟨_,_,dA _⟩;obtain⟨b,pb,hb⟩:∃a q,Bx.numP 1 Q=(a,q):=⟨_,_,dA _⟩;obtain⟨c,pc,V⟩:∃a q,Bx.numP 5 pb=(a,q):=⟨_,_,dA _⟩;obtain⟨d,pd,hd⟩:∃a q,Bx.numP 1 pc=(a,q):=⟨_,_,dA _⟩;obtain⟨e,pe,he⟩:∃a q,Bx.numP 5 pd=(a,q):=⟨_,_,dA _⟩;obtain⟨f,pf,I⟩:∃a q,Bx.numP 1 pe=(a,q):=⟨_,_,dA _⟩;have O:=dL 2 p;have G:=dL 1 Q;have U:=dL 5 pb;have J:=dL 1 pc;have Y:=dL 5 pd;have w:=dL 1 pe;rw[Z] at O;rw[hb] at G;rw[V] at U;rw[hd] at J;rw[he] at Y;rw[I] at w;rw[Px.rdSlot_eq Z hb V hd he I];simp only at O G U J Y w ⊢
 split
 ·omega
 ·show pf.rest.size≤p.rest.size;omega
set_option maxRecDepth 10000 in
set_option maxHeartbeats 2000000 in
theorem jd (p:Bx.PS) (q:Nat) (w:World) (hs:p.rest.size≤100000) (hp:PtIn w q p):
 Calls Tryz.prog 190 #[.pointer (some ⟨q,0,none⟩)] w fun e w'=>(∃v,e=.returned v∧w'.ownsRow w.heap.size 143 8 v (Px.rdSlots p).1.length ((Px.rdSlots p).1.flatMap psC))∧PtIn w' q (Px.rdSlots p).2∧w.grownBy w' (some q):=by
 obtain⟨i0,hi,aE,az,aG⟩:=info_parts gi;have HP:=Hq hp;have hq:=hp.ty.lt;clear hp
 go_enter Tryz.func190,Tryz.ntmps190
 go_wp2_with fail;refine (dG p q 1 _ _ rfl (by decide) hs HP.out).mono ?_
 rintro ex w1 ⟨rfl,ai,Y⟩;have HE:Hid (Px.rdSlots p=Px.rdSlotsK (Bx.numP 1 p).1.toNat (Bx.numP 1 p).2):=rfl;have aq:=Bx.numP_bd 1 p;have ag:=Bx.numP_lt 1 p;have ax:=dL 1 p;generalize (Bx.numP 1 p).2=p1 at *;generalize (Bx.numP 1 p).1=m at *;obtain⟨n,rfl⟩:∃n:Nat,m=n:=⟨m.toNat,by omega⟩
 have hn:n≤255:=by simp at ag;omega
 rw[Int.toNat_natCast] at HE
 have HI:Hid (RdI w (w1.alloc (.cells #[] 143)) q p p1 (.slice (some ⟨w1.heap.size,0,none⟩) 0 0) 143 8 0 []):=
  ⟨ai.later (cw _ _),fc (eq w1 143 8) Y.size,fh Y _,hq,ax⟩
 clear ai Y HP aq ag;go_wp2_with fail
 go_loopw [4,5] (fun v i wr=>∃(k:Nat) (G:Bx.PS) (L:List Px.Sl),k≤n∧i=.int .i64 k∧RdI w wr q p G v 143 8 L.length (L.flatMap psC)∧L.length=k∧Px.rdSlots p=(L++(Px.rdSlotsK (n-k) G).1,(Px.rdSlotsK (n-k) G).2)) (fun _ i _=>n-(intOf i).toNat)
 case atStart=>exact⟨0,p1,[],Nat.zero_le _,rfl,HI.out,rfl,by rw[HE.out];simp⟩
 case round=>
  obtain⟨k,G,L,hk,rfl,hI,aj,hE⟩:=hrel;have O:=Hq hE;have d:=Hq hI;have aC:=Hq aj;have c1:=hI.pt.c1;have aX:=hI.pt.ty.lt;have a2:=hI.le;have a4:L.length≤255:=by omega
  clear hE hI aj
  by_cases aY:k<n
  ·cases Q:G.wrong
   ·rw[Q] at c1
    have HN:Hid (Px.rdSlots p=(L++[(Px.rdSlot G).1]++(Px.rdSlotsK (n-(k+1)) (Px.rdSlot G).2).1,(Px.rdSlotsK (n-(k+1)) (Px.rdSlot G).2).2)):=by
     unfold Hid;rw[O.out,show n-k=(n-(k+1))+1 by omega,Px.rdSlotsK,if_neg (by rw[Q];simp)]
     simp
    have aZ:=iF G;clear Q;go_wp2_with fail;refine (jL G q _ (by omega) d.out.pt).mono ?_
    rintro ex U ⟨rfl,ad,V⟩;generalize (Px.rdSlot G).2=p2 at *;generalize (Px.rdSlot G).1=x at *;have ah:=iK V d.out.lt d.out.ow;have af:=dz d.out.gr V;have aw:PsIn (U.alloc (psO x)) U.heap.size x:=PsIn.new U x;have ab:=ah.alloc (psO x);have ac:=ad.later (cw U (psO x));have Z:=fh af (psO x);clear ad V ah af c1;go_upto_region 7 with fail;generalize U.alloc (psO x)=W3 at *;generalize U.heap.size=xq at *;have aA:=Hq ac;have ar:=Hq Z;obtain⟨x0,x1,x2,x3,x4,x5,x6,x7⟩:=aw;have aD:Hid (p2.rest.size≤p.rest.size):=by unfold Hid;omega
    have a3:=Z.size;clear ac Z O d;go_wp2_with (at_builtin;refine wpList_append_lies _ rfl (.tmp 24) (.tmp 26) 75 rfl w.heap.size 143 i0 (.agg #[.int .i64 0,.int .i64 0,.int .i64 0,.int .i64 0,.int .i64 0,.int .i64 0,.int .i64 0,.string ByteArray.empty]) 8 72 Tryz.underlying75 hi aE az aG rfl (by decide) _ _ _ rfl (ab.alloc _) ⟨W3.heap.size,0,none⟩ 1 1 (psC x) rfl rfl (fo _ _ _) (fp x) (by decide) ?c3 ?c4 ?c5 _ rfl ?_)
    case c3=>unfold maxLen;omega
    case c4=>omega
    case c5=>simp;omega
    ·intro g al w4 J I _ aL;have ae:=fun k' e=>(ab.lt k' e).1
     have aB:Hid (RdI w w4 q p p2 (.slice (some ⟨g,0,none⟩) (L.length+1) al) 143 8 (L++[x]).length ((L++[x]).flatMap psC)):=
      ⟨(aA.out.later (cw _ _)).grow' I (fun e=>by have:=ae q e.symm;omega),by simpa using J,ki (fh ar.out _) I ae,hq,aD.out⟩
     clear J I ab x0 x1 x2 x3 x4 x5 x6 x7;go_wp2_with fail;go_roundw
     case rel=>exact⟨k+1,p2,L++[x],by omega,by go_num,aB.out,by simp[aC.out],HN.out⟩
     case measure=>simp[intOf];omega
   ·rw[Q] at c1
    have HF:Hid (Px.rdSlots p=(L,G)):=by
     unfold Hid;rw[O.out,show n-k=(n-(k+1))+1 by omega,Px.rdSlotsK,if_pos Q]
     simp
    clear Q;go_wp2_with fail;go_ret;rw[HF.out];exact⟨⟨_,rfl,d.out.ow⟩,d.out.pt,d.out.gr⟩
  ·have HF:Hid (Px.rdSlots p=(L,G)):=by
    unfold Hid;rw[O.out,show n-k=0 by omega,Px.rdSlotsK]
    simp
   go_wp2_with fail;go_ret;rw[HF.out];exact⟨⟨_,rfl,d.out.ow⟩,d.out.pt,d.out.gr⟩
theorem pM (p:Bx.PS):Px.rdEnd p=(⟨(Bx.numP 2 p).1,(Bx.txtP 1 (Bx.numP 2 p).2).1⟩,(Bx.txtP 1 (Bx.numP 2 p).2).2):=rfl
set_option maxRecDepth 10000 in
set_option maxHeartbeats 2000000 in
theorem jN (p:Bx.PS) (q:Nat) (w:World) (hs:p.rest.size≤100000) (hp:PtIn w q p):
 Calls Tryz.prog 191 #[.pointer (some ⟨q,0,none⟩)] w fun e w'=>(∃v,e=.returned v∧w'.ownsRow w.heap.size 85 2 v (Px.rdEnds p).1.length ((Px.rdEnds p).1.flatMap enC))∧PtIn w' q (Px.rdEnds p).2∧w.grownBy w' (some q):=by
 obtain⟨i0,hi,aH,aB,aJ⟩:=info_parts lR;have HP:=Hq hp;have hq:=hp.ty.lt;clear hp
 go_enter Tryz.func191,Tryz.ntmps191
 go_wp2_with fail;refine (dG p q 1 _ _ rfl (by decide) hs HP.out).mono ?_
 rintro ex w1 ⟨rfl,ah,V⟩;have HE:Hid (Px.rdEnds p=Px.rdEndsK (Bx.numP 1 p).1.toNat (Bx.numP 1 p).2):=rfl;have ar:=Bx.numP_bd 1 p;have ag:=Bx.numP_lt 1 p;have ay:=dL 1 p;generalize (Bx.numP 1 p).2=p1 at *;generalize (Bx.numP 1 p).1=m at *;obtain⟨n,rfl⟩:∃n:Nat,m=n:=⟨m.toNat,by omega⟩
 have hn:n≤255:=by simp at ag;omega
 rw[Int.toNat_natCast] at HE
 have HI:Hid (RdI w (w1.alloc (.cells #[] 85)) q p p1 (.slice (some ⟨w1.heap.size,0,none⟩) 0 0) 85 2 0 []):=
  ⟨ah.later (cw _ _),fc (eq w1 85 2) V.size,fh V _,hq,ay⟩
 clear ah V HP ar ag;go_wp2_with fail
 go_loopw [4,5] (fun v i wr=>∃(k:Nat) (G:Bx.PS) (L:List Bx.En),k≤n∧i=.int .i64 k∧RdI w wr q p G v 85 2 L.length (L.flatMap enC)∧L.length=k∧Px.rdEnds p=(L++(Px.rdEndsK (n-k) G).1,(Px.rdEndsK (n-k) G).2)) (fun _ i _=>n-(intOf i).toNat)
 case atStart=>exact⟨0,p1,[],Nat.zero_le _,rfl,HI.out,rfl,by rw[HE.out];simp⟩
 case round=>
  obtain⟨k,G,L,hk,rfl,Y,aj,hE⟩:=hrel;have O:=Hq hE;have d:=Hq Y;have aE:=Hq aj;have c1:=Y.pt.c1;have aT:=Y.pt.ty.lt;have aW:=Y.le;have aY:L.length≤255:=by omega
  clear hE Y aj
  by_cases aU:k<n
  ·cases Q:G.wrong
   ·rw[Q] at c1
    have HN:Hid (Px.rdEnds p=(L++[(⟨(Bx.numP 2 G).1,(Bx.txtP 1 (Bx.numP 2 G).2).1⟩:Bx.En)]++(Px.rdEndsK (n-(k+1)) (Bx.txtP 1 (Bx.numP 2 G).2).2).1,(Px.rdEndsK (n-(k+1)) (Bx.txtP 1 (Bx.numP 2 G).2).2).2)):=by
     unfold Hid;rw[O.out,show n-k=(n-(k+1))+1 by omega,Px.rdEndsK,if_neg (by rw[Q];simp),pM]
     simp
    have aV:=dL 2 G;have aS:=fZ 1 (Bx.numP 2 G).2;clear Q;go_wp2_with fail;refine (dG G q 2 _ _ rfl (by decide) (by omega) d.out.pt).mono ?_
    rintro ex w2 ⟨rfl,ad,U⟩;generalize (Bx.numP 2 G).2=p2 at *;generalize (Bx.numP 2 G).1=nm at *;have aA:=Hq ad;have ai:Hid (w2.ownsRow w.heap.size 85 2 _ L.length (L.flatMap enC)):=iK U d.out.lt d.out.ow;have ax:Hid (w.grownBy w2 (some q)):=dz d.out.gr U;clear ad U c1;go_wp2_with fail;refine (dV p2 q 1 _ (by omega) aA.out).mono ?_
    rintro ex w3 ⟨rfl,ac,aa⟩;generalize (Bx.txtP 1 p2).2=p3 at *;generalize (Bx.txtP 1 p2).1=how at *;have Z:=iK aa d.out.lt ai.out;have aC:=Hq ac;have ae:Hid (w.grownBy w3 (some q)):=dz ax.out aa;have aG:Hid (p3.rest.size≤p.rest.size):=by unfold Hid;omega
    have aX:=ae.out.size;clear ac aa O d ai;go_wp2_with (at_builtin;refine wpList_append_lies _ rfl (.tmp 27) (.tmp 31) 38 rfl w.heap.size 85 i0 (.agg #[.int .i64 0,.string ByteArray.empty]) 2 24 Tryz.underlying38 hi aH aB aJ rfl (by decide) _ _ _ rfl (Z.alloc _) ⟨w3.heap.size,0,none⟩ 1 1 (enC ⟨nm,how⟩) rfl rfl (iG _ _ _) (iN _) (by decide) ?c3 ?c4 ?c5 _ rfl ?_)
    case c3=>unfold maxLen;omega
    case c4=>omega
    case c5=>simp;omega
    ·intro g am w4 J I _ aO;have af:=fun k' e=>(Z.lt k' e).1
     have aD:Hid (RdI w w4 q p p3 (.slice (some ⟨g,0,none⟩) (L.length+1) am) 85 2 (L++[(⟨nm,how⟩:Bx.En)]).length ((L++[(⟨nm,how⟩:Bx.En)]).flatMap enC)):=
      ⟨(aC.out.later (cw _ _)).grow' I (fun e=>by have:=af q e.symm;omega),by simpa using J,ki (fh ae.out _) I af,hq,aG.out⟩
     clear J I Z;go_wp2_with fail;go_roundw
     case rel=>exact⟨k+1,p3,L++[(⟨nm,how⟩:Bx.En)],by omega,by go_num,aD.out,by simp[aE.out],HN.out⟩
     case measure=>simp[intOf];omega
   ·rw[Q] at c1
    have HF:Hid (Px.rdEnds p=(L,G)):=by
     unfold Hid;rw[O.out,show n-k=(n-(k+1))+1 by omega,Px.rdEndsK,if_pos Q]
     simp
    clear Q;go_wp2_with fail;go_ret;rw[HF.out];exact⟨⟨_,rfl,d.out.ow⟩,d.out.pt,d.out.gr⟩
  ·have HF:Hid (Px.rdEnds p=(L,G)):=by
    unfold Hid;rw[O.out,show n-k=0 by omega,Px.rdEndsK]
    simp
   go_wp2_with fail;go_ret;rw[HF.out];exact⟨⟨_,rfl,d.out.ow⟩,d.out.pt,d.out.gr⟩
theorem kj (p:Bx.PS):(Px.rdSlots p).2.rest.size≤p.rest.size:=by
 have:∀k p,(Px.rdSlotsK k p).2.rest.size≤p.rest.size:=by
  intro k
  induction k with
  | zero=>intro p;exact Nat.le_refl _
  | succ k d=>
    intro p;rw[Px.rdSlotsK];split
    ·exact Nat.le_refl _
    ·exact Nat.le_trans (d _) (iF p)
 exact Nat.le_trans (this _ _) (dL 1 p)
theorem TRow.grow' {w Z:World} {e:TypeId} {v:Value} {n q:Nat} {J:List Value} {t:TypeId} (h:TRow w e v n J) (Y:w.grownBy Z (some q)) (ht:Typed w q t) (U:e≠t):TRow Z e v n J:=by
 have far:∀b d m G,v=.slice (some ⟨b,d,none⟩) m G→¬some b=some q:=fun b d m G I e'=>by
  cases e'
  obtain⟨c1,f1,h1⟩:=h.2 _ d m G I;obtain⟨c2,f2,h2⟩:=ht;rw[h1] at h2;cases h2;exact U rfl
 refine⟨?_,fun b d m G I=>?_⟩
 ·rcases h.1 with a|⟨b,d,G,I,O,V⟩
  ·exact Or.inl a
  ·exact Or.inr ⟨b,d,G,I,O,fun j Q=>by
    have hl:b<w.heap.size:=World.block_lt_of_cell? _ _ (V j Q)
    rw[World.cell?_of_block (a:=⟨b,d+j,none⟩) (Y.block b hl (far b d n G I))];exact V j Q⟩
 ·obtain⟨c1,f1,h1⟩:=h.2 b d m G I;exact⟨c1,f1,(Y.block b (eK h1) (far b d m G I)).trans h1⟩
theorem ot {w w1:World} {r:Option Nat} (h:w.grownBy w1 r) {g:Nat} (d:w.heap.size≤g) (O I G e J:Value):w.grownBy (((((w1.setCell ⟨g,0,none⟩ O).setCell ⟨g,1,none⟩ I).setCell ⟨g,2,none⟩ G).setCell ⟨g,3,none⟩ e).setCell ⟨g,4,none⟩ J) r:=
 dX (dX (dX (dX (dX h d _ _) d _ _) d _ _) d _ _) d _ _
theorem Cl.far5 {w1:World} {q g:Nat} {t:TypeId} {e:List Value} (h:Cl w1 q t e) (d:q≠g) (O I G w J:Value):Cl (((((w1.setCell ⟨g,0,none⟩ O).setCell ⟨g,1,none⟩ I).setCell ⟨g,2,none⟩ G).setCell ⟨g,3,none⟩ w).setCell ⟨g,4,none⟩ J) q t e:=
 ((((h.far d _ _).far d _ _).far d _ _).far d _ _).far d _ _
structure RZ (w W:World) (q:Nat) (p:Bx.PS):Prop where
 p:PtIn W q p
 z:Cl W w.heap.size 77 [.string {data:= #[]},.int .i64 0,.int .i64 0,.slice none 0 0,.slice none 0 0]
 g:w.grownBy W (some q)
 q:q<w.heap.size
theorem RZ.call {w W W':World} {q:Nat} {p e:Bx.PS} (h:RZ w W q p) (G:PtIn W' q e) (d:W.grownBy W' (some q)):RZ w W' q e:=
 ⟨G,h.z.grow d (by have:=h.q;omega),dz h.g d,h.q⟩
set_option maxRecDepth 10000 in
set_option maxHeartbeats 2000000 in
theorem jv (p:Bx.PS) (q:Nat) (w:World) (hs:p.rest.size≤100000) (hp:PtIn w q p):
 Calls Tryz.prog 165 #[.pointer (some ⟨q,0,none⟩)] w fun e w'=>(∃sl en,e=.returned (pstV (Px.rdState p).1 sl en)∧PAt w' (Px.rdState p).1 sl en)∧PtIn w' q (Px.rdState p).2∧w.grownBy w' (some q):=by
 obtain⟨c,pc,hc⟩:∃a q,Bx.numP 5 p=(a,q):=⟨_,_,dA _⟩;obtain⟨n,pn,hn⟩:∃a q,Bx.numP 2 pc=(a,q):=⟨_,_,dA _⟩;obtain⟨l,pl,hl⟩:∃a q,Bx.numP 2 pn=(a,q):=⟨_,_,dA _⟩;obtain⟨t,pt,ht⟩:∃a q,Bx.txtP l pl=(a,q):=⟨_,_,dA _⟩;obtain⟨sl,ps,O⟩:∃a q,Px.rdSlots pt=(a,q):=⟨_,_,dA _⟩;obtain⟨en,pe,ab⟩:∃a q,Px.rdEnds ps=(a,q):=⟨_,_,dA _⟩;have HE:Hid (Px.rdState p=(⟨t,c-1,n,sl,en⟩,pe)):=Px.rdState_eq hc hn hl ht O ab;have sa:=dL 5 p;have sb:=dL 2 pc;have sc:=dL 2 pn;have sd:=fZ l pl;have se:=kj pt;have c1:=Bx.numP_bd 5 p;have c2:=Bx.numP_lt 5 p;rw[hc] at sa c1 c2;rw[hn] at sb;rw[hl] at sc;rw[ht] at sd;rw[O] at se;simp only at sa sb sc sd se c1 c2;have c3:c<1099511627776:=by simpa using c2
 have Hc:=Hq hc;have Hn:=Hq hn;have Hl:=Hq hl;have Ht:=Hq ht;have Hs:=Hq O;have He:=Hq ab;clear hc hn hl ht O ab c2
 have hR:RZ w (w.alloc (.cells #[.string {data:= #[]},.int .i64 0,.int .i64 0,.slice none 0 0,.slice none 0 0] 77)) q p:=by
  have b1:=cw w (.cells #[.string {data:= #[]},.int .i64 0,.int .i64 0,.slice none 0 0,.slice none 0 0] 77);exact⟨hp.later b1,Cl.new w [.string {data:= #[]},.int .i64 0,.int .i64 0,.slice none 0 0,.slice none 0 0] 77,dx b1 _,hp.ty.lt⟩
 clear hp
 go_enter Tryz.func165,Tryz.ntmps165
 go_upto_region 1 with fail;generalize w.alloc (.cells #[.string {data:= #[]},.int .i64 0,.int .i64 0,.slice none 0 0,.slice none 0 0] 77)=W at *;have Z:=Hq hR;clear hR;go_wp2_with fail;refine (dG p q 5 _ _ rfl (by decide) (by omega) Z.out.p).mono ?_
 rintro ex w1 ⟨rfl,d,G⟩;rw[Hc.out] at d ⊢;simp only at d;have ae:Hid (RZ w w1 q pc):=Z.out.call d G;clear d G Z;go_wp2_with fail;refine (dG pc q 2 _ _ rfl (by decide) (by omega) ae.out.p).mono ?_
 rintro ex w2 ⟨rfl,d,G⟩;rw[Hn.out] at d ⊢;simp only at d;have ag:Hid (RZ w w2 q pn):=ae.out.call d G;clear d G ae;go_wp2_with fail;refine (dG pn q 2 _ _ rfl (by decide) (by omega) ag.out.p).mono ?_
 rintro ex w3 ⟨rfl,d,G⟩;rw[Hl.out] at d ⊢;simp only at d;have ac:Hid (RZ w w3 q pl):=ag.out.call d G;clear d G ag;go_wp2_with fail;refine (dV pl q l _ (by omega) ac.out.p).mono ?_
 rintro ex w4 ⟨rfl,d,G⟩;rw[Ht.out] at d ⊢;simp only at d;have aa:Hid (RZ w w4 q pt):=ac.out.call d G;clear d G ac;go_wp2_with fail;refine (jd pt q _ (by omega) aa.out.p).mono ?_
 rintro ex w5 ⟨⟨v5,rfl,Q⟩,d,G⟩;rw[Hs.out] at d Q;simp only at d Q;have U:Hid (RZ w w5 q ps):=aa.out.call d G;have V:=TRow.of_own Q;obtain⟨ao,Y,ax,_⟩:=V.form;subst ax;have aq:=Hq V;clear d G aa Q V;go_wp2_with fail;refine (jN ps q _ (by omega) U.out.p).mono ?_
 rintro ex w6 ⟨⟨v6,rfl,J⟩,d,G⟩;rw[He.out] at d J;simp only at d J;have I:Hid (RZ w w6 q pe):=U.out.call d G;have af:=TRow.of_own J;obtain⟨ap,ad,aw,_⟩:=af.form;subst aw;have av:Hid (PAt w6 ⟨t,c-1,n,sl,en⟩ (.slice ao sl.length Y) (.slice ap en.length ad)):=⟨aq.out.grow' G U.out.p.ty (by decide),af⟩
 clear d G U J af aq;have z0:=I.out.z.c 0 _ rfl;have z1:=I.out.z.c 1 _ rfl;have z2:=I.out.z.c 2 _ rfl;have z3:=I.out.z.c 3 _ rfl;have z4:=I.out.z.c 4 _ rfl;have f0:=I.out.z.f 0 (by simp);have f1:=I.out.z.f 1 (by simp);have f2:=I.out.z.f 2 (by simp);have f3:=I.out.z.f 3 (by simp);have f4:=I.out.z.f 4 (by simp)
 have yz:=I.out.z.ty.lt;go_wp2_with fail;refine bodyPost_ret (v:=pstV ⟨t,c-1,n,sl,en⟩ (.slice ao sl.length Y) (.slice ap en.length ad)) (by simp[results,Tryz.results165,go_sem,z0,z1,z2,z3,z4]) rfl ?_
 rw[HE.out];exact⟨⟨_,_,rfl,av.out.store I.out.z.ty _ _ _ _ _⟩,I.out.p.far5 (by have:=I.out.q;omega) _ _ _ _ _,ot I.out.g (Nat.le_refl _) _ _ _ _ _⟩
structure Ct where
 kind:ByteArray
 tab:ByteArray
 num:Int
 st:Px.St
 size:Int
abbrev ctC (c:Ct) (sl en:Value):List Value:=[.string c.kind,.string c.tab,.int .i64 c.num,.string c.st.tab,.int .i64 c.st.clock,.int .i64 c.st.next,sl,en,.int .i64 c.size]
abbrev ctV (c:Ct) (sl en:Value):Value:=.agg (ctC c sl en).toArray
def ct0:Ct:=⟨ByteArray.empty,ByteArray.empty,0,Px.st0,0⟩
abbrev nilS:Value:=.slice none 0 0
def IsC (b:ByteArray) (c:Ct):Prop:=∃h:Bx.Ch,Bx.IsCh b h∧c.kind=Bx.b1 h.kind∧c.tab=h.tab∧c.num=h.n
def IsW (b:ByteArray) (c:Ct):Prop:=c.kind=Bx.b1 90∧Bx.wholeS (Px.abs c.st)=b∧Bx.StFit (Px.abs c.st)∧(∀x∈c.st.slots,Px.Fresh x)∧ -1≤c.st.clock
inductive BodyR (b:ByteArray) (w':World):Ending→Prop
 | ch (c:Ct) (h:IsC b c) (hs:c.st=Px.st0) (hz:c.size=0):BodyR b w' (.returned (.tuple #[ctV c nilS nilS,.bool true]))
 | wh (c:Ct) (sl en:Value) (h:IsW b c) (hz:c.size=0) (ha:PAt w' c.st sl en):BodyR b w' (.returned (.tuple #[ctV c sl en,.bool true]))
 | no (c:Ct) (sl en:Value) (h1:¬∃h,Bx.IsCh b h) (h2:¬∃s,Bx.StFit s∧Bx.wholeS s=b) (ha:(∃ad cap,sl=.slice ad c.st.slots.length cap)∧∃ad cap,en=.slice ad c.st.ends.length cap):BodyR b w' (.returned (.tuple #[ctV c sl en,.bool false]))
theorem dJ {n R:Nat} {w d:World} (h:Below n w d) (hR:n≤R) (Y V e O Q U J G I:Value):Below n w (((((((((d.setCell ⟨R,0,none⟩ Y).setCell ⟨R,1,none⟩ V).setCell ⟨R,2,none⟩ e).setCell ⟨R,3,none⟩ O).setCell ⟨R,4,none⟩ Q).setCell ⟨R,5,none⟩ U).setCell ⟨R,6,none⟩ J).setCell ⟨R,7,none⟩ G).setCell ⟨R,8,none⟩ I):=by
 repeat (refine Below.setCell ?_ hR _)
 exact h
structure RB (w W:World) (p:Bx.PS) (cs:List Value):Prop where
 z:Cl W w.heap.size 163 (ctC ct0 nilS nilS)
 p:PtIn W (w.heap.size+1) p
 c:Cl W (w.heap.size+2) 163 cs
 b:Below w.heap.size w W
theorem RB.call {w W W':World} {p I:Bx.PS} {G:List Value} (h:RB w W p G) (O:PtIn W' (w.heap.size+1) I) (d:W.grownBy W' (some (w.heap.size+1))):RB w W' I G:=
 ⟨h.z.grow d (by omega),O,h.c.grow d (by omega),⟨d.os.trans h.b.os,d.tape.trans h.b.tape,d.output.trans h.b.output,Nat.le_trans h.b.size d.size,fun k J=>(d.block k (Nat.lt_of_lt_of_le J h.b.size) (fun e=>by cases e;omega)).trans (h.b.block k J)⟩⟩
theorem RB.put {w W:World} {p:Bx.PS} {d:List Value} (h:RB w W p d) (j:Nat) (v:Value) (e:j<d.length):RB w (W.setCell ⟨w.heap.size+2,j,none⟩ v) p (d.set j v):=
 ⟨h.z.far (by omega) _ _,h.p.far (by omega) _ _,h.c.set j e v,h.b.setCell (by show w.heap.size≤w.heap.size+2;omega) _⟩
theorem RB.new (w:World) (b:ByteArray):RB w (((w.alloc (.cells (ctC ct0 nilS nilS).toArray 163)).alloc (.cells (ptC ⟨b,false⟩).toArray 207)).alloc (.cells (ctC ct0 nilS nilS).toArray 163)) ⟨b,false⟩ (ctC ct0 nilS nilS):=by
 have b1:=cw w (.cells (ctC ct0 nilS nilS).toArray 163);have J:(w.alloc (.cells (ctC ct0 nilS nilS).toArray 163)).heap.size=w.heap.size+1:=by simp
 have I:=cw (w.alloc (.cells (ctC ct0 nilS nilS).toArray 163)) (.cells (ptC ⟨b,false⟩).toArray 207);have e:((w.alloc (.cells (ctC ct0 nilS nilS).toArray 163)).alloc (.cells (ptC ⟨b,false⟩).toArray 207)).heap.size=w.heap.size+2:=by simp
 have d:=cw ((w.alloc (.cells (ctC ct0 nilS nilS).toArray 163)).alloc (.cells (ptC ⟨b,false⟩).toArray 207)) (.cells (ctC ct0 nilS nilS).toArray 163);have n2:=Cl.new (w.alloc (.cells (ctC ct0 nilS nilS).toArray 163)) (ptC ⟨b,false⟩) 207;have G:=Cl.new ((w.alloc (.cells (ctC ct0 nilS nilS).toArray 163)).alloc (.cells (ptC ⟨b,false⟩).toArray 207)) (ctC ct0 nilS nilS) 163;rw[J] at n2;rw[e] at G;exact⟨((Cl.new w (ctC ct0 nilS nilS) 163).later I).later d,n2.later d,G,(b1.trans (I.mono b1.size)).trans (d.mono (by rw[e];omega))⟩
theorem fz {h:ByteArray} {l:List UInt8} (e:h=⟨l.toArray⟩):(h.toList==l)=true:=by
 subst e;simp[ByteArray.toList_eq]
theorem isEmpty_iff (r:ByteArray):r.toList.isEmpty=true↔r=ByteArray.empty:=by
 rw[ByteArray.toList_eq]
 constructor
 ·intro h;exact Bx.ba_ext (by simpa using h)
 ·intro h;subst h;rfl
theorem oO (b:ByteArray) (h:0<b.size):∃k:Int,0≤k∧k<256∧Bx.txtP 1 ⟨b,false⟩=(Bx.b1 k,⟨b.extract 1 b.size,false⟩)∧b=Bx.b1 k++b.extract 1 b.size:=by
 obtain⟨t,q,I⟩:∃t q,Bx.txtP 1 ⟨b,false⟩=(t,q):=⟨_,_,dA _⟩;have e:Bx.txtP 1 ⟨b,false⟩=(b.extract 0 1,⟨b.extract 1 b.size,false⟩):=by unfold Bx.txtP;rw[if_neg (by simp;omega)];rfl
 have w:(b.extract 0 1).size=1:=by simp;omega
 have hb:=Bx.be_nB' w;rw[←Bx.b1_be] at hb;have d:=Bx.nb_lt (b.extract 0 1).data.toList;rw[Bx.ba_len,w] at d;have G:Bx.nB (b.extract 0 1)<256:=d;refine⟨Bx.nB (b.extract 0 1),Bx.nb_nonneg _,G,by rw[e,hb],by rw[hb];exact (Bx.ext_split b 1).symm⟩
theorem dB (k:Int) (h0:0≤k) (h1:k<256) (n:UInt8):Bx.b1 k=⟨[n].toArray⟩↔k=(n.toNat:Int):=by
 constructor
 ·intro h;have h2:Bx.nB (Bx.b1 k)=k:=by rw[Bx.b1_be];exact Bx.nB_be k 1 h0 (by simpa using h1)
  rw[h] at h2;rw[←h2];simp[Bx.nB,Bx.nb]
 ·intro h;subst h;refine Bx.ba_ext ?_;rw[Bx.b1_list];simp;have:((n.toNat:Int) % 256).toNat=n.toNat:=by have:=n.toNat_lt;omega
  rw[this];simp
theorem PAt.store9 {W:World} {q:Nat} {s:Px.St} {sl en:Value} (h:PAt W s sl en) (ty:Typed W q 163) (U J I d O V e Q G:Value):
 PAt (((((((((W.setCell ⟨q,0,none⟩ U).setCell ⟨q,1,none⟩ J).setCell ⟨q,2,none⟩ I).setCell ⟨q,3,none⟩ d).setCell ⟨q,4,none⟩ O).setCell ⟨q,5,none⟩ V).setCell ⟨q,6,none⟩ e).setCell ⟨q,7,none⟩ Q).setCell ⟨q,8,none⟩ G) s sl en:=by
 have q:∀(w:World) (j:Nat) (u:Value),(Typed w q 163∧PAt w s sl en)→(Typed (w.setCell ⟨q,j,none⟩ u) q 163∧PAt (w.setCell ⟨q,j,none⟩ u) s sl en):=fun w j u h=>⟨h.1.setCell _ _ _,h.2.set h.1 (by decide) (by decide) _ _⟩
 exact (q _ _ _ (q _ _ _ (q _ _ _ (q _ _ _ (q _ _ _ (q _ _ _ (q _ _ _ (q _ _ _ (q _ _ _ ⟨ty,h⟩))))))))).2
set_option maxRecDepth 10000 in
set_option maxHeartbeats 4000000 in
theorem mU (b:ByteArray) (k:Int) (w:World) (hb:b.size≤100000) (h0:0≤k) (h1:k<256) (hk:k=84) (ht:Bx.txtP 1 ⟨b,false⟩=(Bx.b1 k,⟨b.extract 1 b.size,false⟩)) (he:b=Bx.b1 k++b.extract 1 b.size):
 Calls Tryz.prog 134 #[.string b] w fun e w'=>BodyR b w' e∧Below w.heap.size w w':=by
 have HT:=Hq ht;have HE:=Hq he;have ak:(b.extract 1 b.size).size≤100000:=by simp;omega
 have aM:((Bx.b1 k).toList==[84])=true:=fz ((dB k h0 h1 84).2 (by rw[hk];rfl))
 have aQ:((Bx.b1 k).toList==[67])=false:=dC (l:=[67]) (fun q=>by have:=(dB k h0 h1 67).1 q;simp at this;omega)
 have aL:((Bx.b1 k).toList==[83])=false:=dC (l:=[83]) (fun q=>by have:=(dB k h0 h1 83).1 q;simp at this;omega)
 have aP:((Bx.b1 k).toList==[68])=false:=dC (l:=[68]) (fun q=>by have:=(dB k h0 h1 68).1 q;simp at this;omega)
 have aN:((Bx.b1 k).toList==[70])=false:=dC (l:=[70]) (fun q=>by have:=(dB k h0 h1 70).1 q;simp at this;omega)
 have aO:((Bx.b1 k).toList==[75])=false:=dC (l:=[75]) (fun q=>by have:=(dB k h0 h1 75).1 q;simp at this;omega)
 have aJ:((Bx.b1 k).toList==[90])=false:=dC (l:=[90]) (fun q=>by have:=(dB k h0 h1 90).1 q;simp at this;omega)
 have am:Hid (∀Q,Q=Bx.b1 k→Q=Bx.b1 k):=fun _ h=>h
 generalize ac:Bx.b1 k=Q at *;have Z:=Hq ac;generalize hr:b.extract 1 b.size=r at *;have aK:=Hq hr;clear ac hr ht he am;have hN:=RB.new w b
 go_enter Tryz.func134,Tryz.ntmps134
 go_upto_region 3 with fail;have aa:RB w (((w.alloc (.cells #[.string {data:= #[]},.string {data:= #[]},.int .i64 0,.string {data:= #[]},.int .i64 0,.int .i64 0,.slice none 0 0,.slice none 0 0,.int .i64 0] 163)).alloc (.cells #[.string b,.bool false] 207)).alloc (.cells #[.string {data:= #[]},.string {data:= #[]},.int .i64 0,.string {data:= #[]},.int .i64 0,.int .i64 0,.slice none 0 0,.slice none 0 0,.int .i64 0] 163)) ⟨b,false⟩ (ctC ct0 nilS nilS):=hN;clear hN;generalize ((w.alloc (.cells #[.string {data:= #[]},.string {data:= #[]},.int .i64 0,.string {data:= #[]},.int .i64 0,.int .i64 0,.slice none 0 0,.slice none 0 0,.int .i64 0] 163)).alloc (.cells #[.string b,.bool false] 207)).alloc (.cells #[.string {data:= #[]},.string {data:= #[]},.int .i64 0,.string {data:= #[]},.int .i64 0,.int .i64 0,.slice none 0 0,.slice none 0 0,.int .i64 0] 163)=W at *;have U:=Hq aa;clear aa;go_wp2_with fail;refine (dV ⟨b,false⟩ (w.heap.size+1) 1 _ hb U.out.p).mono ?_;rintro ex w1 ⟨rfl,d,J⟩;rw[HT.out] at d ⊢;simp only at d;have I:=U.out.call d J;have s0:=I.c.c 0 _ rfl;have t0:=I.c.f 0 (by simp)
 have y0:=I.c.ty.lt;have G:=I.put 0 (.string Q) (by simp)
 clear d J I U;go_upto_region 4 with fail;clear s0 t0 y0;generalize w1.setCell ⟨w.heap.size+2,0,none⟩ (.string Q)=W1 at *;have Y:=Hq G;have k0:=G.c.c 0 _ rfl;have yk:=G.c.ty.lt;have ah:=G.p.c0;have yp:=G.p.ty.lt;clear G
 have HA:Hid (Bx.txtP (r.size:Int) ⟨r,false⟩=(r,⟨ByteArray.empty,false⟩)):=by
  have:=Bx.txtP_app r ByteArray.empty false (r.size:Int) rfl;rw[ByteArray.append_empty] at this;exact this
 go_wp2_with fail;refine (dV ⟨r,false⟩ (w.heap.size+1) r.size _ ak Y.out.p).mono ?_;rintro ex w2 ⟨rfl,d,J⟩;rw[HA.out] at d ⊢;simp only at d;have O:=Y.out.call d J;have s0:=O.c.c 1 _ rfl;have t0:=O.c.f 1 (by simp)
 have y0:=O.c.ty.lt;have ab:=O.put 1 (.string r) (by simp)
 clear d J O Y k0 yk ah yp;go_upto_region 18 with fail;clear s0 t0 y0;generalize w2.setCell ⟨w.heap.size+2,1,none⟩ (.string r)=W3 at *;have V:=Hq ab;clear ab;go_wp2_with fail;refine (eF ⟨ByteArray.empty,false⟩ (w.heap.size+1) _ V.out.p).mono ?_;rintro ex w4 ⟨rfl,rfl⟩;have hR:=V.out;have x0:=hR.c.c 0 _ rfl;have x1:=hR.c.c 1 _ rfl;have x2:=hR.c.c 2 _ rfl;have x3:=hR.c.c 3 _ rfl;have x4:=hR.c.c 4 _ rfl;have x5:=hR.c.c 5 _ rfl;have x6:=hR.c.c 6 _ rfl;have x7:=hR.c.c 7 _ rfl;have x8:=hR.c.c 8 _ rfl;have z0:=hR.z.c 0 _ rfl;have z1:=hR.z.c 1 _ rfl;have z2:=hR.z.c 2 _ rfl;have z3:=hR.z.c 3 _ rfl;have z4:=hR.z.c 4 _ rfl;have z5:=hR.z.c 5 _ rfl;have z6:=hR.z.c 6 _ rfl;have z7:=hR.z.c 7 _ rfl;have z8:=hR.z.c 8 _ rfl;have f0:=hR.z.f 0 (by simp);have f1:=hR.z.f 1 (by simp);have f2:=hR.z.f 2 (by simp);have f3:=hR.z.f 3 (by simp);have f4:=hR.z.f 4 (by simp);have f5:=hR.z.f 5 (by simp);have f6:=hR.z.f 6 (by simp);have f7:=hR.z.f 7 (by simp);have f8:=hR.z.f 8 (by simp)
 have yz:=hR.z.ty.lt;have yx:=hR.c.ty.lt;clear hR
 have HF:Hid (IsC b ⟨Q,r,0,Px.st0,0⟩):=by
  refine⟨⟨84,r,0⟩,?_,by rw[←Z.out,hk],rfl,rfl⟩
  have:=Bx.body_T r;rw[HE.out,←Z.out,hk];exact this
 go_wp2_with fail;refine bodyPost_ret (v:=.tuple #[ctV ⟨Q,r,0,Px.st0,0⟩ nilS nilS,.bool true]) (by simp[results,Tryz.results134,go_sem,z0,z1,z2,z3,z4,z5,z6,z7,z8,ct0,Px.st0]) rfl ⟨BodyR.ch _ HF.out rfl rfl,dJ V.out.b (Nat.le_refl _) _ _ _ _ _ _ _ _ _⟩
set_option maxRecDepth 10000 in
set_option maxHeartbeats 4000000 in
theorem mA (b:ByteArray) (k:Int) (w:World) (hb:b.size≤100000) (h0:0≤k) (h1:k<256) (hk:k=67) (ht:Bx.txtP 1 ⟨b,false⟩=(Bx.b1 k,⟨b.extract 1 b.size,false⟩)) (he:b=Bx.b1 k++b.extract 1 b.size):
 Calls Tryz.prog 134 #[.string b] w fun e w'=>BodyR b w' e∧Below w.heap.size w w':=by
 have HT:=Hq ht;have HE:=Hq he;have ay:(b.extract 1 b.size).size≤100000:=by simp;omega
 have aR:((Bx.b1 k).toList==[84])=false:=dC (l:=[84]) (fun q=>by have:=(dB k h0 h1 84).1 q;simp at this;omega)
 have aV:((Bx.b1 k).toList==[67])=true:=fz ((dB k h0 h1 67).2 (by rw[hk];rfl))
 have aQ:((Bx.b1 k).toList==[83])=false:=dC (l:=[83]) (fun q=>by have:=(dB k h0 h1 83).1 q;simp at this;omega)
 have aU:((Bx.b1 k).toList==[68])=false:=dC (l:=[68]) (fun q=>by have:=(dB k h0 h1 68).1 q;simp at this;omega)
 have aS:((Bx.b1 k).toList==[70])=false:=dC (l:=[70]) (fun q=>by have:=(dB k h0 h1 70).1 q;simp at this;omega)
 have aT:((Bx.b1 k).toList==[75])=false:=dC (l:=[75]) (fun q=>by have:=(dB k h0 h1 75).1 q;simp at this;omega)
 have aO:((Bx.b1 k).toList==[90])=false:=dC (l:=[90]) (fun q=>by have:=(dB k h0 h1 90).1 q;simp at this;omega)
 have aE:Hid (∀J,J=Bx.b1 k→J=Bx.b1 k):=fun _ h=>h
 generalize ah:Bx.b1 k=J at *;have Y:=Hq ah;generalize hr:b.extract 1 b.size=r at *;have aP:=Hq hr;clear ah hr ht he aE;have hN:=RB.new w b
 go_enter Tryz.func134,Tryz.ntmps134
 go_upto_region 3 with fail;have af:RB w (((w.alloc (.cells #[.string {data:= #[]},.string {data:= #[]},.int .i64 0,.string {data:= #[]},.int .i64 0,.int .i64 0,.slice none 0 0,.slice none 0 0,.int .i64 0] 163)).alloc (.cells #[.string b,.bool false] 207)).alloc (.cells #[.string {data:= #[]},.string {data:= #[]},.int .i64 0,.string {data:= #[]},.int .i64 0,.int .i64 0,.slice none 0 0,.slice none 0 0,.int .i64 0] 163)) ⟨b,false⟩ (ctC ct0 nilS nilS):=hN;clear hN;generalize ((w.alloc (.cells #[.string {data:= #[]},.string {data:= #[]},.int .i64 0,.string {data:= #[]},.int .i64 0,.int .i64 0,.slice none 0 0,.slice none 0 0,.int .i64 0] 163)).alloc (.cells #[.string b,.bool false] 207)).alloc (.cells #[.string {data:= #[]},.string {data:= #[]},.int .i64 0,.string {data:= #[]},.int .i64 0,.int .i64 0,.slice none 0 0,.slice none 0 0,.int .i64 0] 163)=W at *;have aa:=Hq af;clear af;go_wp2_with fail;refine (dV ⟨b,false⟩ (w.heap.size+1) 1 _ hb aa.out.p).mono ?_;rintro ex w1 ⟨rfl,d,O⟩;rw[HT.out] at d ⊢;simp only at d;have I:=aa.out.call d O;have s0:=I.c.c 0 _ rfl;have t0:=I.c.f 0 (by simp)
 have y0:=I.c.ty.lt;have G:=I.put 0 (.string J) (by simp)
 clear d O I aa;go_upto_region 4 with fail;clear s0 t0 y0;generalize w1.setCell ⟨w.heap.size+2,0,none⟩ (.string J)=W1 at *;have ab:=Hq G;have k0:=G.c.c 0 _ rfl;have yk:=G.c.ty.lt;have av:=G.p.c0;have yp:=G.p.ty.lt;clear G;obtain⟨n,q,ae⟩:∃n q,Bx.numP 5 ⟨r,false⟩=(n,q):=⟨_,_,dA _⟩;have HA:=Hq ae;clear ae;go_wp2_with fail;refine (dG ⟨r,false⟩ (w.heap.size+1) 5 _ _ rfl (by decide) ay ab.out.p).mono ?_
 rintro ex w2 ⟨rfl,d,O⟩;rw[HA.out] at d ⊢;simp only at d;have Q:=ab.out.call d O;have s0:=Q.c.c 2 _ rfl;have t0:=Q.c.f 2 (by simp)
 have y0:=Q.c.ty.lt;have ag:=Q.put 2 (.int .i64 n) (by simp)
 clear d O Q ab k0 yk av yp;go_upto_region 18 with fail;clear s0 t0 y0;generalize w2.setCell ⟨w.heap.size+2,2,none⟩ (.int .i64 n)=W3 at *;have Z:=Hq ag;clear ag;go_wp2_with fail;refine (eF q (w.heap.size+1) _ Z.out.p).mono ?_;rintro ex w4 ⟨rfl,rfl⟩;have hR:=Z.out;have x0:=hR.c.c 0 _ rfl;have x1:=hR.c.c 1 _ rfl;have x2:=hR.c.c 2 _ rfl;have x3:=hR.c.c 3 _ rfl;have x4:=hR.c.c 4 _ rfl;have x5:=hR.c.c 5 _ rfl;have x6:=hR.c.c 6 _ rfl;have x7:=hR.c.c 7 _ rfl;have x8:=hR.c.c 8 _ rfl;have z0:=hR.z.c 0 _ rfl;have z1:=hR.z.c 1 _ rfl;have z2:=hR.z.c 2 _ rfl;have z3:=hR.z.c 3 _ rfl;have z4:=hR.z.c 4 _ rfl;have z5:=hR.z.c 5 _ rfl;have z6:=hR.z.c 6 _ rfl;have z7:=hR.z.c 7 _ rfl;have z8:=hR.z.c 8 _ rfl;have f0:=hR.z.f 0 (by simp);have f1:=hR.z.f 1 (by simp);have f2:=hR.z.f 2 (by simp);have f3:=hR.z.f 3 (by simp);have f4:=hR.z.f 4 (by simp);have f5:=hR.z.f 5 (by simp);have f6:=hR.z.f 6 (by simp);have f7:=hR.z.f 7 (by simp);have f8:=hR.z.f 8 (by simp)
 have yz:=hR.z.ty.lt;have yx:=hR.c.ty.lt;clear hR
 cases V:(!q.wrong&&q.rest.toList.isEmpty)
 ·have ad:¬(q.wrong=false∧q.rest=ByteArray.empty):=by
   rintro ⟨a1,a2⟩;rw[a1,(isEmpty_iff _).2 a2] at V;cases V
  have HF:Hid ((¬∃h,Bx.IsCh b h)∧¬∃s,Bx.StFit s∧Bx.wholeS s=b):=by
   refine⟨?_,?_⟩
   ·rw[HE.out,←Y.out,hk];exact Bx.body_C_no HA.out ad
   ·rintro ⟨s,_,e⟩;rw[HE.out,←Y.out] at e;exact Bx.whole_no ⟨h0,h1⟩ (by omega) ⟨s,e⟩
  clear V ad;go_wp2_with fail;refine bodyPost_ret (v:=.tuple #[ctV ⟨J,ByteArray.empty,n,Px.st0,0⟩ nilS nilS,.bool false]) (by simp[results,Tryz.results134,go_sem,z0,z1,z2,z3,z4,z5,z6,z7,z8,ct0,Px.st0]) rfl ⟨BodyR.no _ _ _ HF.out.1 HF.out.2 ⟨⟨none,0,rfl⟩,⟨none,0,rfl⟩⟩,dJ Z.out.b (Nat.le_refl _) _ _ _ _ _ _ _ _ _⟩
 ·have U:q.wrong=false∧q.rest=ByteArray.empty:=by
   simp only [Bool.and_eq_true,Bool.not_eq_true'] at V
   exact⟨V.1,(isEmpty_iff _).1 V.2⟩
  have HF:Hid (IsC b ⟨J,ByteArray.empty,n,Px.st0,0⟩):=by
   refine⟨⟨k,ByteArray.empty,n⟩,?_,Y.out.symm,rfl,rfl⟩;rw[HE.out,←Y.out];exact (by subst hk;exact Bx.body_C_yes HA.out U.1 U.2)
  clear V U;go_wp2_with fail;refine bodyPost_ret (v:=.tuple #[ctV ⟨J,ByteArray.empty,n,Px.st0,0⟩ nilS nilS,.bool true]) (by simp[results,Tryz.results134,go_sem,z0,z1,z2,z3,z4,z5,z6,z7,z8,ct0,Px.st0]) rfl ⟨BodyR.ch _ HF.out rfl rfl,dJ Z.out.b (Nat.le_refl _) _ _ _ _ _ _ _ _ _⟩
set_option maxRecDepth 10000 in
set_option maxHeartbeats 4000000 in
theorem kL (b:ByteArray) (k:Int) (w:World) (hb:b.size≤100000) (h0:0≤k) (h1:k<256) (hk:k=70) (ht:Bx.txtP 1 ⟨b,false⟩=(Bx.b1 k,⟨b.extract 1 b.size,false⟩)) (he:b=Bx.b1 k++b.extract 1 b.size):
 Calls Tryz.prog 134 #[.string b] w fun e w'=>BodyR b w' e∧Below w.heap.size w w':=by
 have HT:=Hq ht;have HE:=Hq he;have ax:(b.extract 1 b.size).size≤100000:=by simp;omega
 have aR:((Bx.b1 k).toList==[84])=false:=dC (l:=[84]) (fun q=>by have:=(dB k h0 h1 84).1 q;simp at this;omega)
 have aV:((Bx.b1 k).toList==[67])=false:=dC (l:=[67]) (fun q=>by have:=(dB k h0 h1 67).1 q;simp at this;omega)
 have aQ:((Bx.b1 k).toList==[83])=false:=dC (l:=[83]) (fun q=>by have:=(dB k h0 h1 83).1 q;simp at this;omega)
 have aU:((Bx.b1 k).toList==[68])=false:=dC (l:=[68]) (fun q=>by have:=(dB k h0 h1 68).1 q;simp at this;omega)
 have aS:((Bx.b1 k).toList==[70])=true:=fz ((dB k h0 h1 70).2 (by rw[hk];rfl))
 have aT:((Bx.b1 k).toList==[75])=false:=dC (l:=[75]) (fun q=>by have:=(dB k h0 h1 75).1 q;simp at this;omega)
 have aO:((Bx.b1 k).toList==[90])=false:=dC (l:=[90]) (fun q=>by have:=(dB k h0 h1 90).1 q;simp at this;omega)
 have aE:Hid (∀J,J=Bx.b1 k→J=Bx.b1 k):=fun _ h=>h
 generalize ah:Bx.b1 k=J at *;have Y:=Hq ah;generalize hr:b.extract 1 b.size=r at *;have aP:=Hq hr;clear ah hr ht he aE;have hN:=RB.new w b
 go_enter Tryz.func134,Tryz.ntmps134
 go_upto_region 3 with fail;have af:RB w (((w.alloc (.cells #[.string {data:= #[]},.string {data:= #[]},.int .i64 0,.string {data:= #[]},.int .i64 0,.int .i64 0,.slice none 0 0,.slice none 0 0,.int .i64 0] 163)).alloc (.cells #[.string b,.bool false] 207)).alloc (.cells #[.string {data:= #[]},.string {data:= #[]},.int .i64 0,.string {data:= #[]},.int .i64 0,.int .i64 0,.slice none 0 0,.slice none 0 0,.int .i64 0] 163)) ⟨b,false⟩ (ctC ct0 nilS nilS):=hN;clear hN;generalize ((w.alloc (.cells #[.string {data:= #[]},.string {data:= #[]},.int .i64 0,.string {data:= #[]},.int .i64 0,.int .i64 0,.slice none 0 0,.slice none 0 0,.int .i64 0] 163)).alloc (.cells #[.string b,.bool false] 207)).alloc (.cells #[.string {data:= #[]},.string {data:= #[]},.int .i64 0,.string {data:= #[]},.int .i64 0,.int .i64 0,.slice none 0 0,.slice none 0 0,.int .i64 0] 163)=W at *;have aa:=Hq af;clear af;go_wp2_with fail;refine (dV ⟨b,false⟩ (w.heap.size+1) 1 _ hb aa.out.p).mono ?_;rintro ex w1 ⟨rfl,d,O⟩;rw[HT.out] at d ⊢;simp only at d;have I:=aa.out.call d O;have s0:=I.c.c 0 _ rfl;have t0:=I.c.f 0 (by simp)
 have y0:=I.c.ty.lt;have G:=I.put 0 (.string J) (by simp)
 clear d O I aa;go_upto_region 4 with fail;clear s0 t0 y0;generalize w1.setCell ⟨w.heap.size+2,0,none⟩ (.string J)=W1 at *;have ab:=Hq G;have k0:=G.c.c 0 _ rfl;have yk:=G.c.ty.lt;have au:=G.p.c0;have yp:=G.p.ty.lt;clear G;obtain⟨n,q,ae⟩:∃n q,Bx.numP 2 ⟨r,false⟩=(n,q):=⟨_,_,dA _⟩;have HA:=Hq ae;clear ae;go_wp2_with fail;refine (dG ⟨r,false⟩ (w.heap.size+1) 2 _ _ rfl (by decide) ax ab.out.p).mono ?_
 rintro ex w2 ⟨rfl,d,O⟩;rw[HA.out] at d ⊢;simp only at d;have Q:=ab.out.call d O;have s0:=Q.c.c 2 _ rfl;have t0:=Q.c.f 2 (by simp)
 have y0:=Q.c.ty.lt;have ag:=Q.put 2 (.int .i64 n) (by simp)
 clear d O Q ab k0 yk au yp;go_upto_region 18 with fail;clear s0 t0 y0;generalize w2.setCell ⟨w.heap.size+2,2,none⟩ (.int .i64 n)=W3 at *;have Z:=Hq ag;clear ag;go_wp2_with fail;refine (eF q (w.heap.size+1) _ Z.out.p).mono ?_;rintro ex w4 ⟨rfl,rfl⟩;have hR:=Z.out;have x0:=hR.c.c 0 _ rfl;have x1:=hR.c.c 1 _ rfl;have x2:=hR.c.c 2 _ rfl;have x3:=hR.c.c 3 _ rfl;have x4:=hR.c.c 4 _ rfl;have x5:=hR.c.c 5 _ rfl;have x6:=hR.c.c 6 _ rfl;have x7:=hR.c.c 7 _ rfl;have x8:=hR.c.c 8 _ rfl;have z0:=hR.z.c 0 _ rfl;have z1:=hR.z.c 1 _ rfl;have z2:=hR.z.c 2 _ rfl;have z3:=hR.z.c 3 _ rfl;have z4:=hR.z.c 4 _ rfl;have z5:=hR.z.c 5 _ rfl;have z6:=hR.z.c 6 _ rfl;have z7:=hR.z.c 7 _ rfl;have z8:=hR.z.c 8 _ rfl;have f0:=hR.z.f 0 (by simp);have f1:=hR.z.f 1 (by simp);have f2:=hR.z.f 2 (by simp);have f3:=hR.z.f 3 (by simp);have f4:=hR.z.f 4 (by simp);have f5:=hR.z.f 5 (by simp);have f6:=hR.z.f 6 (by simp);have f7:=hR.z.f 7 (by simp);have f8:=hR.z.f 8 (by simp)
 have yz:=hR.z.ty.lt;have yx:=hR.c.ty.lt;clear hR
 cases V:(!q.wrong&&q.rest.toList.isEmpty)
 ·have ad:¬(q.wrong=false∧q.rest=ByteArray.empty):=by
   rintro ⟨a1,a2⟩;rw[a1,(isEmpty_iff _).2 a2] at V;cases V
  have HF:Hid ((¬∃h,Bx.IsCh b h)∧¬∃s,Bx.StFit s∧Bx.wholeS s=b):=by
   refine⟨?_,?_⟩
   ·rw[HE.out,←Y.out,hk];exact Bx.body_N_no (by decide) HA.out ad
   ·rintro ⟨s,_,e⟩;rw[HE.out,←Y.out] at e;exact Bx.whole_no ⟨h0,h1⟩ (by omega) ⟨s,e⟩
  clear V ad;go_wp2_with fail;refine bodyPost_ret (v:=.tuple #[ctV ⟨J,ByteArray.empty,n,Px.st0,0⟩ nilS nilS,.bool false]) (by simp[results,Tryz.results134,go_sem,z0,z1,z2,z3,z4,z5,z6,z7,z8,ct0,Px.st0]) rfl ⟨BodyR.no _ _ _ HF.out.1 HF.out.2 ⟨⟨none,0,rfl⟩,⟨none,0,rfl⟩⟩,dJ Z.out.b (Nat.le_refl _) _ _ _ _ _ _ _ _ _⟩
 ·have U:q.wrong=false∧q.rest=ByteArray.empty:=by
   simp only [Bool.and_eq_true,Bool.not_eq_true'] at V
   exact⟨V.1,(isEmpty_iff _).1 V.2⟩
  have HF:Hid (IsC b ⟨J,ByteArray.empty,n,Px.st0,0⟩):=by
   refine⟨⟨k,ByteArray.empty,n⟩,?_,Y.out.symm,rfl,rfl⟩;rw[HE.out,←Y.out];exact Bx.body_N_yes (by omega) HA.out U.1 U.2
  clear V U;go_wp2_with fail;refine bodyPost_ret (v:=.tuple #[ctV ⟨J,ByteArray.empty,n,Px.st0,0⟩ nilS nilS,.bool true]) (by simp[results,Tryz.results134,go_sem,z0,z1,z2,z3,z4,z5,z6,z7,z8,ct0,Px.st0]) rfl ⟨BodyR.ch _ HF.out rfl rfl,dJ Z.out.b (Nat.le_refl _) _ _ _ _ _ _ _ _ _⟩
set_option maxRecDepth 10000 in
set_option maxHeartbeats 4000000 in
theorem kr (b:ByteArray) (k:Int) (w:World) (hb:b.size≤100000) (h0:0≤k) (h1:k<256) (hk:k=75) (ht:Bx.txtP 1 ⟨b,false⟩=(Bx.b1 k,⟨b.extract 1 b.size,false⟩)) (he:b=Bx.b1 k++b.extract 1 b.size):
 Calls Tryz.prog 134 #[.string b] w fun e w'=>BodyR b w' e∧Below w.heap.size w w':=by
 have HT:=Hq ht;have HE:=Hq he;have ax:(b.extract 1 b.size).size≤100000:=by simp;omega
 have aR:((Bx.b1 k).toList==[84])=false:=dC (l:=[84]) (fun q=>by have:=(dB k h0 h1 84).1 q;simp at this;omega)
 have aV:((Bx.b1 k).toList==[67])=false:=dC (l:=[67]) (fun q=>by have:=(dB k h0 h1 67).1 q;simp at this;omega)
 have aQ:((Bx.b1 k).toList==[83])=false:=dC (l:=[83]) (fun q=>by have:=(dB k h0 h1 83).1 q;simp at this;omega)
 have aU:((Bx.b1 k).toList==[68])=false:=dC (l:=[68]) (fun q=>by have:=(dB k h0 h1 68).1 q;simp at this;omega)
 have aS:((Bx.b1 k).toList==[70])=false:=dC (l:=[70]) (fun q=>by have:=(dB k h0 h1 70).1 q;simp at this;omega)
 have aT:((Bx.b1 k).toList==[75])=true:=fz ((dB k h0 h1 75).2 (by rw[hk];rfl))
 have aO:((Bx.b1 k).toList==[90])=false:=dC (l:=[90]) (fun q=>by have:=(dB k h0 h1 90).1 q;simp at this;omega)
 have aE:Hid (∀J,J=Bx.b1 k→J=Bx.b1 k):=fun _ h=>h
 generalize ah:Bx.b1 k=J at *;have Y:=Hq ah;generalize hr:b.extract 1 b.size=r at *;have aP:=Hq hr;clear ah hr ht he aE;have hN:=RB.new w b
 go_enter Tryz.func134,Tryz.ntmps134
 go_upto_region 3 with fail;have af:RB w (((w.alloc (.cells #[.string {data:= #[]},.string {data:= #[]},.int .i64 0,.string {data:= #[]},.int .i64 0,.int .i64 0,.slice none 0 0,.slice none 0 0,.int .i64 0] 163)).alloc (.cells #[.string b,.bool false] 207)).alloc (.cells #[.string {data:= #[]},.string {data:= #[]},.int .i64 0,.string {data:= #[]},.int .i64 0,.int .i64 0,.slice none 0 0,.slice none 0 0,.int .i64 0] 163)) ⟨b,false⟩ (ctC ct0 nilS nilS):=hN;clear hN;generalize ((w.alloc (.cells #[.string {data:= #[]},.string {data:= #[]},.int .i64 0,.string {data:= #[]},.int .i64 0,.int .i64 0,.slice none 0 0,.slice none 0 0,.int .i64 0] 163)).alloc (.cells #[.string b,.bool false] 207)).alloc (.cells #[.string {data:= #[]},.string {data:= #[]},.int .i64 0,.string {data:= #[]},.int .i64 0,.int .i64 0,.slice none 0 0,.slice none 0 0,.int .i64 0] 163)=W at *;have aa:=Hq af;clear af;go_wp2_with fail;refine (dV ⟨b,false⟩ (w.heap.size+1) 1 _ hb aa.out.p).mono ?_;rintro ex w1 ⟨rfl,d,O⟩;rw[HT.out] at d ⊢;simp only at d;have I:=aa.out.call d O;have s0:=I.c.c 0 _ rfl;have t0:=I.c.f 0 (by simp)
 have y0:=I.c.ty.lt;have G:=I.put 0 (.string J) (by simp)
 clear d O I aa;go_upto_region 4 with fail;clear s0 t0 y0;generalize w1.setCell ⟨w.heap.size+2,0,none⟩ (.string J)=W1 at *;have ab:=Hq G;have k0:=G.c.c 0 _ rfl;have yk:=G.c.ty.lt;have au:=G.p.c0;have yp:=G.p.ty.lt;clear G;obtain⟨n,q,ae⟩:∃n q,Bx.numP 2 ⟨r,false⟩=(n,q):=⟨_,_,dA _⟩;have HA:=Hq ae;clear ae;go_wp2_with fail;refine (dG ⟨r,false⟩ (w.heap.size+1) 2 _ _ rfl (by decide) ax ab.out.p).mono ?_
 rintro ex w2 ⟨rfl,d,O⟩;rw[HA.out] at d ⊢;simp only at d;have Q:=ab.out.call d O;have s0:=Q.c.c 2 _ rfl;have t0:=Q.c.f 2 (by simp)
 have y0:=Q.c.ty.lt;have ag:=Q.put 2 (.int .i64 n) (by simp)
 clear d O Q ab k0 yk au yp;go_upto_region 18 with fail;clear s0 t0 y0;generalize w2.setCell ⟨w.heap.size+2,2,none⟩ (.int .i64 n)=W3 at *;have Z:=Hq ag;clear ag;go_wp2_with fail;refine (eF q (w.heap.size+1) _ Z.out.p).mono ?_;rintro ex w4 ⟨rfl,rfl⟩;have hR:=Z.out;have x0:=hR.c.c 0 _ rfl;have x1:=hR.c.c 1 _ rfl;have x2:=hR.c.c 2 _ rfl;have x3:=hR.c.c 3 _ rfl;have x4:=hR.c.c 4 _ rfl;have x5:=hR.c.c 5 _ rfl;have x6:=hR.c.c 6 _ rfl;have x7:=hR.c.c 7 _ rfl;have x8:=hR.c.c 8 _ rfl;have z0:=hR.z.c 0 _ rfl;have z1:=hR.z.c 1 _ rfl;have z2:=hR.z.c 2 _ rfl;have z3:=hR.z.c 3 _ rfl;have z4:=hR.z.c 4 _ rfl;have z5:=hR.z.c 5 _ rfl;have z6:=hR.z.c 6 _ rfl;have z7:=hR.z.c 7 _ rfl;have z8:=hR.z.c 8 _ rfl;have f0:=hR.z.f 0 (by simp);have f1:=hR.z.f 1 (by simp);have f2:=hR.z.f 2 (by simp);have f3:=hR.z.f 3 (by simp);have f4:=hR.z.f 4 (by simp);have f5:=hR.z.f 5 (by simp);have f6:=hR.z.f 6 (by simp);have f7:=hR.z.f 7 (by simp);have f8:=hR.z.f 8 (by simp)
 have yz:=hR.z.ty.lt;have yx:=hR.c.ty.lt;clear hR
 cases V:(!q.wrong&&q.rest.toList.isEmpty)
 ·have ad:¬(q.wrong=false∧q.rest=ByteArray.empty):=by
   rintro ⟨a1,a2⟩;rw[a1,(isEmpty_iff _).2 a2] at V;cases V
  have HF:Hid ((¬∃h,Bx.IsCh b h)∧¬∃s,Bx.StFit s∧Bx.wholeS s=b):=by
   refine⟨?_,?_⟩
   ·rw[HE.out,←Y.out,hk];exact Bx.body_N_no (by decide) HA.out ad
   ·rintro ⟨s,_,e⟩;rw[HE.out,←Y.out] at e;exact Bx.whole_no ⟨h0,h1⟩ (by omega) ⟨s,e⟩
  clear V ad;go_wp2_with fail;refine bodyPost_ret (v:=.tuple #[ctV ⟨J,ByteArray.empty,n,Px.st0,0⟩ nilS nilS,.bool false]) (by simp[results,Tryz.results134,go_sem,z0,z1,z2,z3,z4,z5,z6,z7,z8,ct0,Px.st0]) rfl ⟨BodyR.no _ _ _ HF.out.1 HF.out.2 ⟨⟨none,0,rfl⟩,⟨none,0,rfl⟩⟩,dJ Z.out.b (Nat.le_refl _) _ _ _ _ _ _ _ _ _⟩
 ·have U:q.wrong=false∧q.rest=ByteArray.empty:=by
   simp only [Bool.and_eq_true,Bool.not_eq_true'] at V
   exact⟨V.1,(isEmpty_iff _).1 V.2⟩
  have HF:Hid (IsC b ⟨J,ByteArray.empty,n,Px.st0,0⟩):=by
   refine⟨⟨k,ByteArray.empty,n⟩,?_,Y.out.symm,rfl,rfl⟩;rw[HE.out,←Y.out];exact Bx.body_N_yes (by omega) HA.out U.1 U.2
  clear V U;go_wp2_with fail;refine bodyPost_ret (v:=.tuple #[ctV ⟨J,ByteArray.empty,n,Px.st0,0⟩ nilS nilS,.bool true]) (by simp[results,Tryz.results134,go_sem,z0,z1,z2,z3,z4,z5,z6,z7,z8,ct0,Px.st0]) rfl ⟨BodyR.ch _ HF.out rfl rfl,dJ Z.out.b (Nat.le_refl _) _ _ _ _ _ _ _ _ _⟩
end Go.Proofs.YtdajolpoiffimabGreatDoor
