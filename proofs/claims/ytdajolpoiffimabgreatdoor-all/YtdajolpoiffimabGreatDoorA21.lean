import Derived.Test.YtdajolpoiffimabGreatDoorA20

namespace Go.Proofs.YtdajolpoiffimabGreatDoor
open Go.RowKit
set_option maxRecDepth 10000 in
set_option maxHeartbeats 4000000 in
theorem kV (b:ByteArray) (k:Int) (w:World) (hb:b.size≤100000) (h0:0≤k) (h1:k<256) (hk:k=83) (ht:Bx.txtP 1 ⟨b,false⟩=(Bx.b1 k,⟨b.extract 1 b.size,false⟩)) (he:b=Bx.b1 k++b.extract 1 b.size):
 Calls Tryz.prog 134 #[.string b] w fun e w'=>BodyR b w' e∧Below w.heap.size w w':=by
 have HT:=Hq ht;have HE:=Hq he;have ax:(b.extract 1 b.size).size≤100000:=by simp;omega
 have aR:((Bx.b1 k).toList==[84])=false:=dC (l:=[84]) (fun q=>by have:=(dB k h0 h1 84).1 q;simp at this;omega)
 have aV:((Bx.b1 k).toList==[67])=false:=dC (l:=[67]) (fun q=>by have:=(dB k h0 h1 67).1 q;simp at this;omega)
 have aQ:((Bx.b1 k).toList==[83])=true:=fz ((dB k h0 h1 83).2 (by rw[hk];rfl))
 have aU:((Bx.b1 k).toList==[68])=false:=dC (l:=[68]) (fun q=>by have:=(dB k h0 h1 68).1 q;simp at this;omega)
 have aS:((Bx.b1 k).toList==[70])=false:=dC (l:=[70]) (fun q=>by have:=(dB k h0 h1 70).1 q;simp at this;omega)
 have aT:((Bx.b1 k).toList==[75])=false:=dC (l:=[75]) (fun q=>by have:=(dB k h0 h1 75).1 q;simp at this;omega)
 have aO:((Bx.b1 k).toList==[90])=false:=dC (l:=[90]) (fun q=>by have:=(dB k h0 h1 90).1 q;simp at this;omega)
 have aE:Hid (∀J,J=Bx.b1 k→J=Bx.b1 k):=fun _ h=>h
 generalize ah:Bx.b1 k=J at *;have Y:=Hq ah;generalize hr:b.extract 1 b.size=r at *;have aP:=Hq hr;clear ah hr ht he aE;have hN:=RB.new w b
 go_enter Tryz.func134,Tryz.ntmps134
 go_upto_region 3 with fail;have af:RB w (((w.alloc (.cells #[.string {data:= #[]},.string {data:= #[]},.int .i64 0,.string {data:= #[]},.int .i64 0,.int .i64 0,.slice none 0 0,.slice none 0 0,.int .i64 0] 163)).alloc (.cells #[.string b,.bool false] 207)).alloc (.cells #[.string {data:= #[]},.string {data:= #[]},.int .i64 0,.string {data:= #[]},.int .i64 0,.int .i64 0,.slice none 0 0,.slice none 0 0,.int .i64 0] 163)) ⟨b,false⟩ (ctC ct0 nilS nilS):=hN;clear hN;generalize ((w.alloc (.cells #[.string {data:= #[]},.string {data:= #[]},.int .i64 0,.string {data:= #[]},.int .i64 0,.int .i64 0,.slice none 0 0,.slice none 0 0,.int .i64 0] 163)).alloc (.cells #[.string b,.bool false] 207)).alloc (.cells #[.string {data:= #[]},.string {data:= #[]},.int .i64 0,.string {data:= #[]},.int .i64 0,.int .i64 0,.slice none 0 0,.slice none 0 0,.int .i64 0] 163)=W at *;have aa:=Hq af;clear af;go_wp2_with fail;refine (dV ⟨b,false⟩ (w.heap.size+1) 1 _ hb aa.out.p).mono ?_;rintro ex w1 ⟨rfl,d,O⟩;rw[HT.out] at d ⊢;simp only at d;have I:=aa.out.call d O;have s0:=I.c.c 0 _ rfl;have t0:=I.c.f 0 (by simp)
 have y0:=I.c.ty.lt;have G:=I.put 0 (.string J) (by simp)
 clear d O I aa;go_upto_region 4 with fail;clear s0 t0 y0;generalize w1.setCell ⟨w.heap.size+2,0,none⟩ (.string J)=W1 at *;have ab:=Hq G;have k0:=G.c.c 0 _ rfl;have yk:=G.c.ty.lt;have au:=G.p.c0;have yp:=G.p.ty.lt;clear G;obtain⟨n,q,ae⟩:∃n q,Bx.numP 2 ⟨r,false⟩=(n,q):=⟨_,_,dA _⟩;have HA:=Hq ae;clear ae;go_wp2_with fail;refine (dG ⟨r,false⟩ (w.heap.size+1) 2 _ _ rfl (by decide) ax ab.out.p).mono ?_
 rintro ex w2 ⟨rfl,d,O⟩;rw[HA.out] at d ⊢;simp only at d;have Q:=ab.out.call d O;have s0:=Q.c.c 2 _ rfl;have t0:=Q.c.f 2 (by simp)
 have y0:=Q.c.ty.lt;have ag:=Q.put 2 (.int .i64 n) (by simp)
 clear d O Q ab k0 yk au yp;go_upto_region 18 with fail;clear s0 t0 y0;generalize w2.setCell ⟨w.heap.size+2,2,none⟩ (.int .i64 n)=W3 at *;have Z:=Hq ag;clear ag;go_wp2_with fail;refine (eF q (w.heap.size+1) _ Z.out.p).mono ?_;rintro ex w4 ⟨rfl,rfl⟩;have hR:=Z.out;have x0:=hR.c.c 0 _ rfl;have x1:=hR.c.c 1 _ rfl;have x2:=hR.c.c 2 _ rfl;have x3:=hR.c.c 3 _ rfl;have x4:=hR.c.c 4 _ rfl;have x5:=hR.c.c 5 _ rfl;have x6:=hR.c.c 6 _ rfl;have x7:=hR.c.c 7 _ rfl;have x8:=hR.c.c 8 _ rfl;have z0:=hR.z.c 0 _ rfl;have z1:=hR.z.c 1 _ rfl;have z2:=hR.z.c 2 _ rfl;have z3:=hR.z.c 3 _ rfl;have z4:=hR.z.c 4 _ rfl;have z5:=hR.z.c 5 _ rfl;have z6:=hR.z.c 6 _ rfl;have z7:=hR.z.c 7 _ rfl;have z8:=hR.z.c 8 _ rfl;have f0:=hR.z.f 0 (by simp);have f1:=hR.z.f 1 (by simp);have f2:=hR.z.f 2 (by simp);have f3:=hR.z.f 3 (by simp);have f4:=hR.z.f 4 (by simp);have f5:=hR.z.f 5 (by simp);have f6:=hR.z.f 6 (by simp);have f7:=hR.z.f 7 (by simp);have f8:=hR.z.f 8 (by simp)
 have yz:=hR.z.ty.lt;have yx:=hR.c.ty.lt;clear hR
 cases V:(!q.wrong&&q.rest.toList.isEmpty)
 ·have ad:¬(q.wrong=false∧q.rest=ByteArray.empty):=by
   rintro ⟨a1,a2⟩;rw[a1,(isEmpty_iff _).2 a2] at V;cases V
  have HF:Hid ((¬∃h,Bx.IsCh b h)∧¬∃s,Bx.StFit s∧Bx.wholeS s=b):=by
   refine⟨?_,?_⟩
   ·rw[HE.out,←Y.out,hk];exact Bx.body_N_no (by decide) HA.out ad
   ·rintro ⟨s,_,e⟩;rw[HE.out,←Y.out] at e;exact Bx.whole_no ⟨h0,h1⟩ (by omega) ⟨s,e⟩
  clear V ad;go_wp2_with fail;refine bodyPost_ret (v:=.tuple #[ctV ⟨J,ByteArray.empty,n,Px.st0,0⟩ nilS nilS,.bool false]) (by simp[results,Tryz.results134,go_sem,z0,z1,z2,z3,z4,z5,z6,z7,z8,ct0,Px.st0]) rfl ⟨BodyR.no _ _ _ HF.out.1 HF.out.2 ⟨⟨none,0,rfl⟩,⟨none,0,rfl⟩⟩,dJ Z.out.b (Nat.le_refl _) _ _ _ _ _ _ _ _ _⟩
 ·have U:q.wrong=false∧q.rest=ByteArray.empty:=by
   simp only [Bool.and_eq_true,Bool.not_eq_true'] at V
   exact⟨V.1,(isEmpty_iff _).1 V.2⟩
  have HF:Hid (IsC b ⟨J,ByteArray.empty,n,Px.st0,0⟩):=by
   refine⟨⟨k,ByteArray.empty,n⟩,?_,Y.out.symm,rfl,rfl⟩;rw[HE.out,←Y.out];exact Bx.body_N_yes (by omega) HA.out U.1 U.2
  clear V U;go_wp2_with fail;refine bodyPost_ret (v:=.tuple #[ctV ⟨J,ByteArray.empty,n,Px.st0,0⟩ nilS nilS,.bool true]) (by simp[results,Tryz.results134,go_sem,z0,z1,z2,z3,z4,z5,z6,z7,z8,ct0,Px.st0]) rfl ⟨BodyR.ch _ HF.out rfl rfl,dJ Z.out.b (Nat.le_refl _) _ _ _ _ _ _ _ _ _⟩
set_option maxRecDepth 10000 in
set_option maxHeartbeats 4000000 in
theorem ky (b:ByteArray) (k:Int) (w:World) (hb:b.size≤100000) (h0:0≤k) (h1:k<256) (hk:k=68) (ht:Bx.txtP 1 ⟨b,false⟩=(Bx.b1 k,⟨b.extract 1 b.size,false⟩)) (he:b=Bx.b1 k++b.extract 1 b.size):
 Calls Tryz.prog 134 #[.string b] w fun e w'=>BodyR b w' e∧Below w.heap.size w w':=by
 have HT:=Hq ht;have HE:=Hq he;have ax:(b.extract 1 b.size).size≤100000:=by simp;omega
 have aR:((Bx.b1 k).toList==[84])=false:=dC (l:=[84]) (fun q=>by have:=(dB k h0 h1 84).1 q;simp at this;omega)
 have aV:((Bx.b1 k).toList==[67])=false:=dC (l:=[67]) (fun q=>by have:=(dB k h0 h1 67).1 q;simp at this;omega)
 have aQ:((Bx.b1 k).toList==[83])=false:=dC (l:=[83]) (fun q=>by have:=(dB k h0 h1 83).1 q;simp at this;omega)
 have aU:((Bx.b1 k).toList==[68])=true:=fz ((dB k h0 h1 68).2 (by rw[hk];rfl))
 have aS:((Bx.b1 k).toList==[70])=false:=dC (l:=[70]) (fun q=>by have:=(dB k h0 h1 70).1 q;simp at this;omega)
 have aT:((Bx.b1 k).toList==[75])=false:=dC (l:=[75]) (fun q=>by have:=(dB k h0 h1 75).1 q;simp at this;omega)
 have aO:((Bx.b1 k).toList==[90])=false:=dC (l:=[90]) (fun q=>by have:=(dB k h0 h1 90).1 q;simp at this;omega)
 have aE:Hid (∀J,J=Bx.b1 k→J=Bx.b1 k):=fun _ h=>h
 generalize ah:Bx.b1 k=J at *;have Y:=Hq ah;generalize hr:b.extract 1 b.size=r at *;have aP:=Hq hr;clear ah hr ht he aE;have hN:=RB.new w b
 go_enter Tryz.func134,Tryz.ntmps134
 go_upto_region 3 with fail;have af:RB w (((w.alloc (.cells #[.string {data:= #[]},.string {data:= #[]},.int .i64 0,.string {data:= #[]},.int .i64 0,.int .i64 0,.slice none 0 0,.slice none 0 0,.int .i64 0] 163)).alloc (.cells #[.string b,.bool false] 207)).alloc (.cells #[.string {data:= #[]},.string {data:= #[]},.int .i64 0,.string {data:= #[]},.int .i64 0,.int .i64 0,.slice none 0 0,.slice none 0 0,.int .i64 0] 163)) ⟨b,false⟩ (ctC ct0 nilS nilS):=hN;clear hN;generalize ((w.alloc (.cells #[.string {data:= #[]},.string {data:= #[]},.int .i64 0,.string {data:= #[]},.int .i64 0,.int .i64 0,.slice none 0 0,.slice none 0 0,.int .i64 0] 163)).alloc (.cells #[.string b,.bool false] 207)).alloc (.cells #[.string {data:= #[]},.string {data:= #[]},.int .i64 0,.string {data:= #[]},.int .i64 0,.int .i64 0,.slice none 0 0,.slice none 0 0,.int .i64 0] 163)=W at *;have aa:=Hq af;clear af;go_wp2_with fail;refine (dV ⟨b,false⟩ (w.heap.size+1) 1 _ hb aa.out.p).mono ?_;rintro ex w1 ⟨rfl,d,O⟩;rw[HT.out] at d ⊢;simp only at d;have I:=aa.out.call d O;have s0:=I.c.c 0 _ rfl;have t0:=I.c.f 0 (by simp)
 have y0:=I.c.ty.lt;have G:=I.put 0 (.string J) (by simp)
 clear d O I aa;go_upto_region 4 with fail;clear s0 t0 y0;generalize w1.setCell ⟨w.heap.size+2,0,none⟩ (.string J)=W1 at *;have ab:=Hq G;have k0:=G.c.c 0 _ rfl;have yk:=G.c.ty.lt;have au:=G.p.c0;have yp:=G.p.ty.lt;clear G;obtain⟨n,q,ae⟩:∃n q,Bx.numP 2 ⟨r,false⟩=(n,q):=⟨_,_,dA _⟩;have HA:=Hq ae;clear ae;go_wp2_with fail;refine (dG ⟨r,false⟩ (w.heap.size+1) 2 _ _ rfl (by decide) ax ab.out.p).mono ?_
 rintro ex w2 ⟨rfl,d,O⟩;rw[HA.out] at d ⊢;simp only at d;have Q:=ab.out.call d O;have s0:=Q.c.c 2 _ rfl;have t0:=Q.c.f 2 (by simp)
 have y0:=Q.c.ty.lt;have ag:=Q.put 2 (.int .i64 n) (by simp)
 clear d O Q ab k0 yk au yp;go_upto_region 18 with fail;clear s0 t0 y0;generalize w2.setCell ⟨w.heap.size+2,2,none⟩ (.int .i64 n)=W3 at *;have Z:=Hq ag;clear ag;go_wp2_with fail;refine (eF q (w.heap.size+1) _ Z.out.p).mono ?_;rintro ex w4 ⟨rfl,rfl⟩;have hR:=Z.out;have x0:=hR.c.c 0 _ rfl;have x1:=hR.c.c 1 _ rfl;have x2:=hR.c.c 2 _ rfl;have x3:=hR.c.c 3 _ rfl;have x4:=hR.c.c 4 _ rfl;have x5:=hR.c.c 5 _ rfl;have x6:=hR.c.c 6 _ rfl;have x7:=hR.c.c 7 _ rfl;have x8:=hR.c.c 8 _ rfl;have z0:=hR.z.c 0 _ rfl;have z1:=hR.z.c 1 _ rfl;have z2:=hR.z.c 2 _ rfl;have z3:=hR.z.c 3 _ rfl;have z4:=hR.z.c 4 _ rfl;have z5:=hR.z.c 5 _ rfl;have z6:=hR.z.c 6 _ rfl;have z7:=hR.z.c 7 _ rfl;have z8:=hR.z.c 8 _ rfl;have f0:=hR.z.f 0 (by simp);have f1:=hR.z.f 1 (by simp);have f2:=hR.z.f 2 (by simp);have f3:=hR.z.f 3 (by simp);have f4:=hR.z.f 4 (by simp);have f5:=hR.z.f 5 (by simp);have f6:=hR.z.f 6 (by simp);have f7:=hR.z.f 7 (by simp);have f8:=hR.z.f 8 (by simp)
 have yz:=hR.z.ty.lt;have yx:=hR.c.ty.lt;clear hR
 cases V:(!q.wrong&&q.rest.toList.isEmpty)
 ·have ad:¬(q.wrong=false∧q.rest=ByteArray.empty):=by
   rintro ⟨a1,a2⟩;rw[a1,(isEmpty_iff _).2 a2] at V;cases V
  have HF:Hid ((¬∃h,Bx.IsCh b h)∧¬∃s,Bx.StFit s∧Bx.wholeS s=b):=by
   refine⟨?_,?_⟩
   ·rw[HE.out,←Y.out,hk];exact Bx.body_N_no (by decide) HA.out ad
   ·rintro ⟨s,_,e⟩;rw[HE.out,←Y.out] at e;exact Bx.whole_no ⟨h0,h1⟩ (by omega) ⟨s,e⟩
  clear V ad;go_wp2_with fail;refine bodyPost_ret (v:=.tuple #[ctV ⟨J,ByteArray.empty,n,Px.st0,0⟩ nilS nilS,.bool false]) (by simp[results,Tryz.results134,go_sem,z0,z1,z2,z3,z4,z5,z6,z7,z8,ct0,Px.st0]) rfl ⟨BodyR.no _ _ _ HF.out.1 HF.out.2 ⟨⟨none,0,rfl⟩,⟨none,0,rfl⟩⟩,dJ Z.out.b (Nat.le_refl _) _ _ _ _ _ _ _ _ _⟩
 ·have U:q.wrong=false∧q.rest=ByteArray.empty:=by
   simp only [Bool.and_eq_true,Bool.not_eq_true'] at V
   exact⟨V.1,(isEmpty_iff _).1 V.2⟩
  have HF:Hid (IsC b ⟨J,ByteArray.empty,n,Px.st0,0⟩):=by
   refine⟨⟨k,ByteArray.empty,n⟩,?_,Y.out.symm,rfl,rfl⟩;rw[HE.out,←Y.out];exact Bx.body_N_yes (by omega) HA.out U.1 U.2
  clear V U;go_wp2_with fail;refine bodyPost_ret (v:=.tuple #[ctV ⟨J,ByteArray.empty,n,Px.st0,0⟩ nilS nilS,.bool true]) (by simp[results,Tryz.results134,go_sem,z0,z1,z2,z3,z4,z5,z6,z7,z8,ct0,Px.st0]) rfl ⟨BodyR.ch _ HF.out rfl rfl,dJ Z.out.b (Nat.le_refl _) _ _ _ _ _ _ _ _ _⟩
set_option maxRecDepth 10000 in
set_option maxHeartbeats 4000000 in
theorem my (b:ByteArray) (k:Int) (w:World) (hb:b.size≤100000) (h0:0≤k) (h1:k<256) (hk:k=90) (ht:Bx.txtP 1 ⟨b,false⟩=(Bx.b1 k,⟨b.extract 1 b.size,false⟩)) (he:b=Bx.b1 k++b.extract 1 b.size):
 Calls Tryz.prog 134 #[.string b] w fun e w'=>BodyR b w' e∧Below w.heap.size w w':=by
 have HT:=Hq ht;have HE:=Hq he;have aE:(b.extract 1 b.size).size≤100000:=by simp;omega
 have bc:((Bx.b1 k).toList==[84])=false:=dC (l:=[84]) (fun q=>by have:=(dB k h0 h1 84).1 q;simp at this;omega)
 have bg:((Bx.b1 k).toList==[67])=false:=dC (l:=[67]) (fun q=>by have:=(dB k h0 h1 67).1 q;simp at this;omega)
 have bb:((Bx.b1 k).toList==[83])=false:=dC (l:=[83]) (fun q=>by have:=(dB k h0 h1 83).1 q;simp at this;omega)
 have bf:((Bx.b1 k).toList==[68])=false:=dC (l:=[68]) (fun q=>by have:=(dB k h0 h1 68).1 q;simp at this;omega)
 have bm:((Bx.b1 k).toList==[70])=false:=dC (l:=[70]) (fun q=>by have:=(dB k h0 h1 70).1 q;simp at this;omega)
 have bj:((Bx.b1 k).toList==[75])=false:=dC (l:=[75]) (fun q=>by have:=(dB k h0 h1 75).1 q;simp at this;omega)
 have bh:((Bx.b1 k).toList==[90])=true:=fz ((dB k h0 h1 90).2 (by rw[hk];rfl))
 have aG:Hid (∀Z,Z=Bx.b1 k→Z=Bx.b1 k):=fun _ h=>h
 generalize aq:Bx.b1 k=Z at *;have af:=Hq aq;generalize hr:b.extract 1 b.size=r at *;have bk:=Hq hr;clear aq hr ht he aG;have hN:=RB.new w b
 go_enter Tryz.func134,Tryz.ntmps134
 go_upto_region 3 with fail;have ap:RB w (((w.alloc (.cells #[.string {data:= #[]},.string {data:= #[]},.int .i64 0,.string {data:= #[]},.int .i64 0,.int .i64 0,.slice none 0 0,.slice none 0 0,.int .i64 0] 163)).alloc (.cells #[.string b,.bool false] 207)).alloc (.cells #[.string {data:= #[]},.string {data:= #[]},.int .i64 0,.string {data:= #[]},.int .i64 0,.int .i64 0,.slice none 0 0,.slice none 0 0,.int .i64 0] 163)) ⟨b,false⟩ (ctC ct0 nilS nilS):=hN;clear hN;generalize ((w.alloc (.cells #[.string {data:= #[]},.string {data:= #[]},.int .i64 0,.string {data:= #[]},.int .i64 0,.int .i64 0,.slice none 0 0,.slice none 0 0,.int .i64 0] 163)).alloc (.cells #[.string b,.bool false] 207)).alloc (.cells #[.string {data:= #[]},.string {data:= #[]},.int .i64 0,.string {data:= #[]},.int .i64 0,.int .i64 0,.slice none 0 0,.slice none 0 0,.int .i64 0] 163)=W at *;have ah:=Hq ap;clear ap;go_wp2_with fail;refine (dV ⟨b,false⟩ (w.heap.size+1) 1 _ hb ah.out.p).mono ?_;rintro ex w1 ⟨rfl,I,V⟩;rw[HT.out] at I ⊢;simp only at I;have Y:=ah.out.call I V;have s0:=Y.c.c 0 _ rfl;have t0:=Y.c.f 0 (by simp)
 have y0:=Y.c.ty.lt;have Q:=Y.put 0 (.string Z) (by simp)
 clear I V Y ah;go_upto_region 4 with fail;clear s0 t0 y0;generalize w1.setCell ⟨w.heap.size+2,0,none⟩ (.string Z)=W1 at *;have ai:=Hq Q;have k0:=Q.c.c 0 _ rfl;have yk:=Q.c.ty.lt;have az:=Q.p.c0;have yp:=Q.p.ty.lt;clear Q;go_wp2_with fail;refine (jv ⟨r,false⟩ (w.heap.size+1) _ aE ai.out.p).mono ?_;rintro ex w2 ⟨⟨sl,en,rfl,U⟩,I,V⟩;obtain⟨st,q,ag⟩:∃st q,Px.rdState ⟨r,false⟩=(st,q):=⟨_,_,dA _⟩;have HA:=Hq ag;have ar:Hid ((∀x∈st.slots,Px.Fresh x)∧ -1≤st.clock):=by have:=Px.rdState_fresh ⟨r,false⟩;rw[ag] at this;exact this
 rw[ag] at I U ⊢;simp only at I U;obtain⟨ad,O,rfl,_⟩:=U.sl.form;obtain⟨J,G,rfl,_⟩:=U.en.form;have d:=ai.out.call I V;have s3:=d.c.c 3 _ rfl;have s4:=d.c.c 4 _ rfl;have s5:=d.c.c 5 _ rfl;have s6:=d.c.c 6 _ rfl;have s7:=d.c.c 7 _ rfl;have t3:=d.c.f 3 (by simp);have t4:=d.c.f 4 (by simp);have t5:=d.c.f 5 (by simp);have t6:=d.c.f 6 (by simp);have t7:=d.c.f 7 (by simp)
 have y0:=d.c.ty.lt;have ao:=((((d.put 3 (.string st.tab) (by simp)).put 4 (.int .i64 st.clock) (by simp)).put 5 (.int .i64 st.next) (by simp)).put 6 (.slice ad st.slots.length O) (by simp)).put 7 (.slice J st.ends.length G) (by simp)
 have aj:PAt (((((w2.setCell ⟨w.heap.size+2,3,none⟩ (.string st.tab)).setCell ⟨w.heap.size+2,4,none⟩ (.int .i64 st.clock)).setCell ⟨w.heap.size+2,5,none⟩ (.int .i64 st.next)).setCell ⟨w.heap.size+2,6,none⟩ (.slice ad st.slots.length O)).setCell ⟨w.heap.size+2,7,none⟩ (.slice J st.ends.length G)) st (.slice ad st.slots.length O) (.slice J st.ends.length G):=by
  have ty:=d.c.ty;exact ((((U.set ty (by decide) (by decide) _ _).set (ty.setCell _ _ _) (by decide) (by decide) _ _).set ((ty.setCell _ _ _).setCell _ _ _) (by decide) (by decide) _ _).set (((ty.setCell _ _ _).setCell _ _ _).setCell _ _ _) (by decide) (by decide) _ _).set ((((ty.setCell _ _ _).setCell _ _ _).setCell _ _ _).setCell _ _ _) (by decide) (by decide) _ _
 clear I V d ai k0 yk az yp U ag;go_upto_region 18 with fail;clear s3 s4 s5 s6 s7 t3 t4 t5 t6 t7 y0;generalize ((((w2.setCell ⟨w.heap.size+2,3,none⟩ (.string st.tab)).setCell ⟨w.heap.size+2,4,none⟩ (.int .i64 st.clock)).setCell ⟨w.heap.size+2,5,none⟩ (.int .i64 st.next)).setCell ⟨w.heap.size+2,6,none⟩ (.slice ad st.slots.length O)).setCell ⟨w.heap.size+2,7,none⟩ (.slice J st.ends.length G)=W3 at *;have aN:=Hq aj;clear aj;have aa:=Hq ao;clear ao;go_wp2_with fail;refine (eF q (w.heap.size+1) _ aa.out.p).mono ?_;rintro ex w4 ⟨rfl,rfl⟩;have hR:=aa.out;have x0:=hR.c.c 0 _ rfl;have x1:=hR.c.c 1 _ rfl;have x2:=hR.c.c 2 _ rfl;have x3:=hR.c.c 3 _ rfl;have x4:=hR.c.c 4 _ rfl;have x5:=hR.c.c 5 _ rfl;have x6:=hR.c.c 6 _ rfl;have x7:=hR.c.c 7 _ rfl;have x8:=hR.c.c 8 _ rfl;have z0:=hR.z.c 0 _ rfl;have z1:=hR.z.c 1 _ rfl;have z2:=hR.z.c 2 _ rfl;have z3:=hR.z.c 3 _ rfl;have z4:=hR.z.c 4 _ rfl;have z5:=hR.z.c 5 _ rfl;have z6:=hR.z.c 6 _ rfl;have z7:=hR.z.c 7 _ rfl;have z8:=hR.z.c 8 _ rfl;have f0:=hR.z.f 0 (by simp);have f1:=hR.z.f 1 (by simp);have f2:=hR.z.f 2 (by simp);have f3:=hR.z.f 3 (by simp);have f4:=hR.z.f 4 (by simp);have f5:=hR.z.f 5 (by simp);have f6:=hR.z.f 6 (by simp);have f7:=hR.z.f 7 (by simp);have f8:=hR.z.f 8 (by simp)
 have yz:=hR.z.ty.lt;have yx:=hR.c.ty.lt;clear hR
 cases hw:(!q.wrong&&q.rest.toList.isEmpty)
 ·have am:¬(q.wrong=false∧q.rest=ByteArray.empty):=by
   rintro ⟨a1,a2⟩;rw[a1,(isEmpty_iff _).2 a2] at hw;cases hw
  have HF:Hid ((¬∃h,Bx.IsCh b h)∧¬∃s,Bx.StFit s∧Bx.wholeS s=b):=by
   refine⟨?_,?_⟩
   ·rw[HE.out,←af.out];exact Bx.body_no ⟨h0,h1⟩ (by omega)
   ·rw[HE.out,←af.out,hk];exact Bx.whole_fit_no HA.out am
  clear hw am;go_wp2_with fail;refine bodyPost_ret (v:=.tuple #[ctV ⟨Z,ByteArray.empty,0,st,0⟩ (.slice ad st.slots.length O) (.slice J st.ends.length G),.bool false]) (by simp[results,Tryz.results134,go_sem,z0,z1,z2,z3,z4,z5,z6,z7,z8,ct0,Px.st0]) rfl ⟨BodyR.no _ _ _ HF.out.1 HF.out.2 ⟨⟨ad,O,rfl⟩,⟨J,G,rfl⟩⟩,dJ aa.out.b (Nat.le_refl _) _ _ _ _ _ _ _ _ _⟩
 ·have ac:q.wrong=false∧q.rest=ByteArray.empty:=by
   simp only [Bool.and_eq_true,Bool.not_eq_true'] at hw
   exact⟨hw.1,(isEmpty_iff _).1 hw.2⟩
  have HF:Hid (IsW b ⟨Z,ByteArray.empty,0,st,0⟩):=by
   have hz:=Bx.whole_yes HA.out ac.1 ac.2;refine⟨by rw[←af.out,hk],?_,hz.2,ar.out.1,ar.out.2⟩
   rw[HE.out,←af.out,hk];exact hz.1
  clear hw ac;go_wp2_with fail;refine bodyPost_ret (v:=.tuple #[ctV ⟨Z,ByteArray.empty,0,st,0⟩ (.slice ad st.slots.length O) (.slice J st.ends.length G),.bool true]) (by simp[results,Tryz.results134,go_sem,z0,z1,z2,z3,z4,z5,z6,z7,z8,ct0,Px.st0]) rfl ⟨BodyR.wh _ _ _ HF.out rfl (aN.out.store9 aa.out.z.ty _ _ _ _ _ _ _ _ _),dJ aa.out.b (Nat.le_refl _) _ _ _ _ _ _ _ _ _⟩
set_option maxRecDepth 10000 in
set_option maxHeartbeats 4000000 in
theorem mQ (b:ByteArray) (k:Int) (w:World) (hb:b.size≤100000) (h0:0≤k) (h1:k<256) (hk:¬k=84∧¬k=67∧¬k=83∧¬k=68∧¬k=70∧¬k=75∧¬k=90) (ht:Bx.txtP 1 ⟨b,false⟩=(Bx.b1 k,⟨b.extract 1 b.size,false⟩)) (he:b=Bx.b1 k++b.extract 1 b.size):
 Calls Tryz.prog 134 #[.string b] w fun e w'=>BodyR b w' e∧Below w.heap.size w w':=by
 have HT:=Hq ht;have HE:=Hq he;have aA:(b.extract 1 b.size).size≤100000:=by simp;omega
 have aD:((Bx.b1 k).toList==[84])=false:=dC (l:=[84]) (fun q=>by have:=(dB k h0 h1 84).1 q;simp at this;omega)
 have aH:((Bx.b1 k).toList==[67])=false:=dC (l:=[67]) (fun q=>by have:=(dB k h0 h1 67).1 q;simp at this;omega)
 have aC:((Bx.b1 k).toList==[83])=false:=dC (l:=[83]) (fun q=>by have:=(dB k h0 h1 83).1 q;simp at this;omega)
 have aG:((Bx.b1 k).toList==[68])=false:=dC (l:=[68]) (fun q=>by have:=(dB k h0 h1 68).1 q;simp at this;omega)
 have aE:((Bx.b1 k).toList==[70])=false:=dC (l:=[70]) (fun q=>by have:=(dB k h0 h1 70).1 q;simp at this;omega)
 have aF:((Bx.b1 k).toList==[75])=false:=dC (l:=[75]) (fun q=>by have:=(dB k h0 h1 75).1 q;simp at this;omega)
 have ay:((Bx.b1 k).toList==[90])=false:=dC (l:=[90]) (fun q=>by have:=(dB k h0 h1 90).1 q;simp at this;omega)
 have ad:Hid (∀O,O=Bx.b1 k→O=Bx.b1 k):=fun _ h=>h
 generalize V:Bx.b1 k=O at *;have Q:=Hq V;generalize hr:b.extract 1 b.size=r at *;have aB:=Hq hr;clear V hr ht he ad;have hN:=RB.new w b
 go_enter Tryz.func134,Tryz.ntmps134
 go_upto_region 3 with fail;have U:RB w (((w.alloc (.cells #[.string {data:= #[]},.string {data:= #[]},.int .i64 0,.string {data:= #[]},.int .i64 0,.int .i64 0,.slice none 0 0,.slice none 0 0,.int .i64 0] 163)).alloc (.cells #[.string b,.bool false] 207)).alloc (.cells #[.string {data:= #[]},.string {data:= #[]},.int .i64 0,.string {data:= #[]},.int .i64 0,.int .i64 0,.slice none 0 0,.slice none 0 0,.int .i64 0] 163)) ⟨b,false⟩ (ctC ct0 nilS nilS):=hN;clear hN;generalize ((w.alloc (.cells #[.string {data:= #[]},.string {data:= #[]},.int .i64 0,.string {data:= #[]},.int .i64 0,.int .i64 0,.slice none 0 0,.slice none 0 0,.int .i64 0] 163)).alloc (.cells #[.string b,.bool false] 207)).alloc (.cells #[.string {data:= #[]},.string {data:= #[]},.int .i64 0,.string {data:= #[]},.int .i64 0,.int .i64 0,.slice none 0 0,.slice none 0 0,.int .i64 0] 163)=W at *;have J:=Hq U;clear U;go_wp2_with fail;refine (dV ⟨b,false⟩ (w.heap.size+1) 1 _ hb J.out.p).mono ?_;rintro ex w1 ⟨rfl,I,Z⟩;rw[HT.out] at I ⊢;simp only at I;have G:=J.out.call I Z;have s0:=G.c.c 0 _ rfl;have t0:=G.c.f 0 (by simp)
 have y0:=G.c.ty.lt;have d:=G.put 0 (.string O) (by simp)
 clear I Z G J;go_upto_region 4 with fail;clear s0 t0 y0;generalize w1.setCell ⟨w.heap.size+2,0,none⟩ (.string O)=W1 at *;have Y:=Hq d;have k0:=d.c.c 0 _ rfl;have yk:=d.c.ty.lt;have az:=d.p.c0;have yp:=d.p.ty.lt;clear d;have hR:=Y.out;have z0:=hR.z.c 0 _ rfl;have z1:=hR.z.c 1 _ rfl;have z2:=hR.z.c 2 _ rfl;have z3:=hR.z.c 3 _ rfl;have z4:=hR.z.c 4 _ rfl;have z5:=hR.z.c 5 _ rfl;have z6:=hR.z.c 6 _ rfl;have z7:=hR.z.c 7 _ rfl;have z8:=hR.z.c 8 _ rfl;have f0:=hR.z.f 0 (by simp);have f1:=hR.z.f 1 (by simp);have f2:=hR.z.f 2 (by simp);have f3:=hR.z.f 3 (by simp);have f4:=hR.z.f 4 (by simp);have f5:=hR.z.f 5 (by simp);have f6:=hR.z.f 6 (by simp);have f7:=hR.z.f 7 (by simp);have f8:=hR.z.f 8 (by simp)
 have yz:=hR.z.ty.lt;clear hR
 have HF:Hid ((¬∃h,Bx.IsCh b h)∧¬∃s,Bx.StFit s∧Bx.wholeS s=b):=by
  refine⟨?_,?_⟩
  ·rw[HE.out,←Q.out];exact Bx.body_no ⟨h0,h1⟩ (by omega)
  ·rintro ⟨s,_,e⟩;rw[HE.out,←Q.out] at e;exact Bx.whole_no ⟨h0,h1⟩ (by omega) ⟨s,e⟩
 go_wp2_with fail;refine bodyPost_ret (v:=.tuple #[ctV ct0 nilS nilS,.bool false]) (by simp[results,Tryz.results134,go_sem,z0,z1,z2,z3,z4,z5,z6,z7,z8,ct0,Px.st0];rfl) rfl ⟨BodyR.no _ _ _ HF.out.1 HF.out.2 ⟨⟨none,0,rfl⟩,⟨none,0,rfl⟩⟩,dJ Y.out.b (Nat.le_refl _) _ _ _ _ _ _ _ _ _⟩
set_option maxRecDepth 10000 in
set_option maxHeartbeats 4000000 in
theorem mP (b:ByteArray) (w:World) (hb:b=ByteArray.empty):
 Calls Tryz.prog 134 #[.string b] w fun e w'=>BodyR b w' e∧Below w.heap.size w w':=by
 have HT:Hid (Bx.txtP 1 ⟨b,false⟩=(b,⟨b,true⟩)):=by subst hb;unfold Hid Bx.txtP;rw[if_pos (by simp)]
 have ar:(b.toList==[84])=false:=by subst hb;rw[ByteArray.toList_eq];rfl
 have ax:(b.toList==[67])=false:=by subst hb;rw[ByteArray.toList_eq];rfl
 have aq:(b.toList==[83])=false:=by subst hb;rw[ByteArray.toList_eq];rfl
 have aw:(b.toList==[68])=false:=by subst hb;rw[ByteArray.toList_eq];rfl
 have au:(b.toList==[70])=false:=by subst hb;rw[ByteArray.toList_eq];rfl
 have av:(b.toList==[75])=false:=by subst hb;rw[ByteArray.toList_eq];rfl
 have ap:(b.toList==[90])=false:=by subst hb;rw[ByteArray.toList_eq];rfl
 have V:b.size≤100000:=by subst hb;simp
 have Z:Hid ((¬∃h,Bx.IsCh b h)∧¬∃s,Bx.StFit s∧Bx.wholeS s=b):=by subst hb;exact⟨Bx.empty_no.1,fun ⟨s,_,e⟩=>Bx.empty_no.2 ⟨s,e⟩⟩
 clear hb;have Y:=RB.new w b
 go_enter Tryz.func134,Tryz.ntmps134
 go_upto_region 3 with fail;have O:RB w (((w.alloc (.cells #[.string {data:= #[]},.string {data:= #[]},.int .i64 0,.string {data:= #[]},.int .i64 0,.int .i64 0,.slice none 0 0,.slice none 0 0,.int .i64 0] 163)).alloc (.cells #[.string b,.bool false] 207)).alloc (.cells #[.string {data:= #[]},.string {data:= #[]},.int .i64 0,.string {data:= #[]},.int .i64 0,.int .i64 0,.slice none 0 0,.slice none 0 0,.int .i64 0] 163)) ⟨b,false⟩ (ctC ct0 nilS nilS):=Y;clear Y;generalize ((w.alloc (.cells #[.string {data:= #[]},.string {data:= #[]},.int .i64 0,.string {data:= #[]},.int .i64 0,.int .i64 0,.slice none 0 0,.slice none 0 0,.int .i64 0] 163)).alloc (.cells #[.string b,.bool false] 207)).alloc (.cells #[.string {data:= #[]},.string {data:= #[]},.int .i64 0,.string {data:= #[]},.int .i64 0,.int .i64 0,.slice none 0 0,.slice none 0 0,.int .i64 0] 163)=W at *;have J:=Hq O;clear O;go_wp2_with fail;refine (dV ⟨b,false⟩ (w.heap.size+1) 1 _ V J.out.p).mono ?_;rintro ex w1 ⟨rfl,I,U⟩;rw[HT.out] at I ⊢;simp only at I;have d:=J.out.call I U;have s0:=d.c.c 0 _ rfl;have t0:=d.c.f 0 (by simp)
 have y0:=d.c.ty.lt;have G:=d.put 0 (.string b) (by simp)
 clear I U d J;go_upto_region 4 with fail;clear s0 t0 y0;generalize w1.setCell ⟨w.heap.size+2,0,none⟩ (.string b)=W1 at *;have Q:=Hq G;have k0:=G.c.c 0 _ rfl;have yk:=G.c.ty.lt;clear G;have hR:=Q.out;have z0:=hR.z.c 0 _ rfl;have z1:=hR.z.c 1 _ rfl;have z2:=hR.z.c 2 _ rfl;have z3:=hR.z.c 3 _ rfl;have z4:=hR.z.c 4 _ rfl;have z5:=hR.z.c 5 _ rfl;have z6:=hR.z.c 6 _ rfl;have z7:=hR.z.c 7 _ rfl;have z8:=hR.z.c 8 _ rfl;have f0:=hR.z.f 0 (by simp);have f1:=hR.z.f 1 (by simp);have f2:=hR.z.f 2 (by simp);have f3:=hR.z.f 3 (by simp);have f4:=hR.z.f 4 (by simp);have f5:=hR.z.f 5 (by simp);have f6:=hR.z.f 6 (by simp);have f7:=hR.z.f 7 (by simp);have f8:=hR.z.f 8 (by simp)
 have yz:=hR.z.ty.lt;clear hR;go_wp2_with fail;refine bodyPost_ret (v:=.tuple #[ctV ct0 nilS nilS,.bool false]) (by simp[results,Tryz.results134,go_sem,z0,z1,z2,z3,z4,z5,z6,z7,z8,ct0,Px.st0];rfl) rfl ⟨BodyR.no _ _ _ Z.out.1 Z.out.2 ⟨⟨none,0,rfl⟩,⟨none,0,rfl⟩⟩,dJ Q.out.b (Nat.le_refl _) _ _ _ _ _ _ _ _ _⟩
theorem kx (b:ByteArray) (w:World) (hb:b.size≤100000):Calls Tryz.prog 134 #[.string b] w fun e U=>BodyR b U e∧Below w.heap.size w U:=by
 by_cases h:b=ByteArray.empty
 ·exact mP b w h
 have Y:0<b.size:=by
  rcases Nat.eq_zero_or_pos b.size with q|q
  ·exact (h (by simpa using q)).elim
  ·exact q
 obtain⟨k,h0,h1,d,G⟩:=oO b Y
 by_cases k1:k=84
 ·exact mU b k w hb h0 h1 k1 d G
 by_cases k2:k=67
 ·exact mA b k w hb h0 h1 k2 d G
 by_cases V:k=83
 ·exact kV b k w hb h0 h1 V d G
 by_cases J:k=68
 ·exact ky b k w hb h0 h1 J d G
 by_cases O:k=70
 ·exact kL b k w hb h0 h1 O d G
 by_cases Q:k=75
 ·exact kr b k w hb h0 h1 Q d G
 by_cases I:k=90
 ·exact my b k w hb h0 h1 I d G
 exact mQ b k w hb h0 h1 ⟨k1,k2,V,J,O,Q,I⟩ d G
set_option maxRecDepth 10000 in
set_option maxHeartbeats 4000000 in
theorem gJ (s:Px.St) (n:Int) (sl en:Value) (w:World) (hO:Px.Ok s) (hT:TabLH w) (hS:PAt w s sl en):
 Calls Tryz.prog 54 #[pstV s sl en,.int .i64 n] w fun e w'=>ChgR (Px.startP s n) w' e∧Below w.heap.size w w':=by
 obtain⟨ad,U,rfl,bX⟩:=hS.sl.form;obtain⟨O,G,rfl,bR⟩:=hS.en.form;have HO:=Hq hO;have hl:s.slots.length≤10000:=by have:=hO.len;omega
 have he:s.ends.length≤10000:=by have:s.ends.length≤6:=hO.st.en;omega
 have cc: -1≤s.clock:=hO.st.c1;have cd:s.clock≤4223371679:=hO.st.c2;have HS:=Hq hS;have hP:=PRes.new w s (.slice ad s.slots.length U) (.slice O s.ends.length G);clear hS hO
 go_enter Tryz.func54,Tryz.ntmps54
 go_upto_region 1 with fail;generalize (w.alloc (pstO s (.slice ad s.slots.length U) (.slice O s.ends.length G))).alloc pzO=W at *;have aK:=Hq (HS.out.later hP.bel);have HT:=Hq (hT.later hP.bel);have HP:=Hq hP;obtain⟨i0,i1,i2,i3,i4⟩:=hP.st;clear hP hT;go_wp2_with fail;refine (fy s n _ _ _ hl aK.out).mono ?_;rintro e w1 ⟨hF,az⟩;clear i0 i1 i2 i3 i4;have ao:=HP.out.later az;have aJ:=aK.out.later az;have a7:=HT.out.later az;clear HP aK az HT
 rcases hF with ⟨x,hf,rfl⟩|⟨hf,rfl⟩
 rotate_left
 ·have HM:Hid (Px.startP s n=(Px.st0,8)):=by unfold Hid Px.startP;rw[hf]
  clear hf;generalize Px.sl0=x at *;have ay:=ao.later (cw w1 (psO x));clear ao aJ a7;go_upto_region 2 with fail;generalize w1.alloc (psO x)=W2 at *;obtain⟨⟨⟨u0,r0⟩,f0⟩,⟨⟨u1,r1⟩,f1⟩,⟨⟨u2,r2⟩,f2⟩,⟨⟨u3,r3⟩,f3⟩,⟨⟨u4,r4⟩,f4⟩⟩:=ay.five;have aa:Hid (Below w.heap.size w W2):=ay.bel;clear ay;go_wp2_with fail;refine bodyPost_ret (v:=.tuple #[.agg #[.string {data:= #[]},.int .i64 0,.int .i64 0,.slice none 0 0,.slice none 0 0],.int .i64 8]) (by simp[results,Tryz.results54,go_sem,r0,r1,r2,r3,r4]) rfl ⟨ChgR.err HM.out,dE aa.out (by omega) _ _ _ _ _⟩
 have br:=Hq hf;have aT:x∈s.slots:=List.mem_of_find?_eq_some hf;have bN:Hid _:=HO.out.each aT;obtain⟨b6,bz,cb,bB,b5,bK⟩:=bN.out;have b7:x.att≤5:=HO.out.st.att5 (List.mem_map.2 ⟨x,aT,rfl⟩:Px.absS x∈_);obtain⟨j,hj⟩:∃j:Nat,x.line=(j:Int)+1:=⟨(x.line-1).toNat,by omega⟩
 have bF:j<tn s.tab:=by omega
 have HJ:=Hq hj;have bq:=ao.later (cw w1 (psO x));have bn:=aJ.later (cw w1 (psO x));have bo:=a7.later (cw w1 (psO x));have bm:=PsIn.new w1 x;have b8:w.heap.size+1<w1.heap.size:=ao.lt;clear ao aJ a7 hf bK bB aT hj bz;go_upto_region 2 with fail;generalize w1.alloc (psO x)=W2 at *;generalize w1.heap.size=xq at *;have aZ:=Hq bq;have aI:=Hq bn;have aY:=Hq bo;have bu:=Hq bm;obtain⟨x0,x1,x2,x3,x4,x5,x6,x7⟩:=bm;clear bq bn bo;go_wp2_with fail;refine (eu x W2).mono ?_;rintro e w3 ⟨rfl,am⟩;clear x0 x1 x2 x3 x4 x5 x6 x7;have d:=aZ.out.later am;have ap:=Hq (aI.out.later am);have aR:=Hq (aY.out.later am);have av:=Hq (bu.out.later am);clear aZ aI aY bu am
 cases hr:decide (0<x.step)
 rotate_left
 ·have HM:Hid (Px.startP s n=(Px.st0,9)):=by unfold Hid Px.startP;rw[br.out];simp only;rw[if_pos (of_decide_eq_true hr)]
  clear hr;obtain⟨⟨⟨u0,r0⟩,f0⟩,⟨⟨u1,r1⟩,f1⟩,⟨⟨u2,r2⟩,f2⟩,⟨⟨u3,r3⟩,f3⟩,⟨⟨u4,r4⟩,f4⟩⟩:=d.five;have aa:Hid (Below w.heap.size w w3):=d.bel;clear d;go_wp2_with fail;refine bodyPost_ret (v:=.tuple #[.agg #[.string {data:= #[]},.int .i64 0,.int .i64 0,.slice none 0 0,.slice none 0 0],.int .i64 9]) (by simp[results,Tryz.results54,go_sem,r0,r1,r2,r3,r4]) rfl ⟨ChgR.err HM.out,dE aa.out (by omega) _ _ _ _ _⟩
 have bw:¬0<x.step:=of_decide_eq_false hr
 have aA:Hid (Px.startP s n=if s.clock<x.frm then (Px.st0,10) else if Px.lockP s x.line=true then (Px.st0,11) else ({s with slots:=Px.repl s.slots (Px.beg s x)},0)):=by
  unfold Hid Px.startP;rw[br.out];simp only;rw[if_neg bw]
 clear hr bw;obtain⟨i0,i1,i2,i3,i4⟩:=d.st;obtain⟨x0,x1,x2,x3,x4,x5,x6,x7⟩:=av.out
 by_cases bp:s.clock<x.frm
 ·have HM:Hid (Px.startP s n=(Px.st0,10)):=by unfold Hid;rw[aA.out,if_pos bp]
  clear aA;obtain⟨⟨⟨u0,r0⟩,f0⟩,⟨⟨u1,r1⟩,f1⟩,⟨⟨u2,r2⟩,f2⟩,⟨⟨u3,r3⟩,f3⟩,⟨⟨u4,r4⟩,f4⟩⟩:=d.five;have aa:Hid (Below w.heap.size w w3):=d.bel;clear d;go_wp2_with fail;refine bodyPost_ret (v:=.tuple #[.agg #[.string {data:= #[]},.int .i64 0,.int .i64 0,.slice none 0 0,.slice none 0 0],.int .i64 10]) (by simp[results,Tryz.results54,go_sem,r0,r1,r2,r3,r4]) rfl ⟨ChgR.err HM.out,dE aa.out (by omega) _ _ _ _ _⟩
 have aC:Hid (Px.startP s n=if Px.lockP s x.line=true then (Px.st0,11) else ({s with slots:=Px.repl s.slots (Px.beg s x)},0)):=by unfold Hid;rw[aA.out,if_neg bp]
 have aP:=Hq d;clear aA d;go_wp2_with fail;refine (ln s x.line j _ _ _ HJ.out bF hl HO.out.st.tab aR.out ap.out).mono ?_;rintro e Y ⟨rfl,aB⟩;clear i0 i1 i2 i3 i4 x0 x1 x2 x3 x4 x5 x6 x7;have I:=aP.out.later aB;have aw:=ap.out.later aB;have aL:=av.out.later aB;clear aP ap aR av aB
 cases hk:Px.lockP s x.line
 rotate_left
 ·have HM:Hid (Px.startP s n=(Px.st0,11)):=by unfold Hid;rw[aC.out,hk];rfl
  clear aC hk aw aL;obtain⟨⟨⟨u0,r0⟩,f0⟩,⟨⟨u1,r1⟩,f1⟩,⟨⟨u2,r2⟩,f2⟩,⟨⟨u3,r3⟩,f3⟩,⟨⟨u4,r4⟩,f4⟩⟩:=I.five;have aa:Hid (Below w.heap.size w Y):=I.bel;clear I;go_wp2_with fail;refine bodyPost_ret (v:=.tuple #[.agg #[.string {data:= #[]},.int .i64 0,.int .i64 0,.slice none 0 0,.slice none 0 0],.int .i64 11]) (by simp[results,Tryz.results54,go_sem,r0,r1,r2,r3,r4]) rfl ⟨ChgR.err HM.out,dE aa.out (by omega) _ _ _ _ _⟩
 have HM:Hid (Px.startP s n=({s with slots:=Px.repl s.slots (Px.beg s x)},0)):=by unfold Hid;rw[aC.out,hk];rfl
 clear aC hk;have a4:Below Y.heap.size Y (Y.alloc (.cells #[.int .i64 x.num,.int .i64 x.line,.int .i64 x.minute,.int .i64 x.att,.int .i64 x.frm,.int .i64 1,.int .i64 s.clock,.string x.heard] 143)):=cw Y _;have aE:=I.later a4;have bs:=aw.later a4;have bt:PsIn (Y.alloc (.cells #[.int .i64 x.num,.int .i64 x.line,.int .i64 x.minute,.int .i64 x.att,.int .i64 x.frm,.int .i64 1,.int .i64 s.clock,.string x.heard] 143)) Y.heap.size (Px.beg s x):=PsIn.new Y (Px.beg s x);obtain⟨i0,i1,i2,i3,i4⟩:=I.st;have ce:=I.lt;have b9:w.heap.size<Y.heap.size:=by omega
 obtain⟨x0,x1,x2,x3,x4,x5,x6,x7⟩:=aL;clear I aw a4;go_upto_region 13 with fail;clear i0 i1 i2 i3 i4 x0 x1 x2 x3 x4 x5 x6 x7;generalize Y.alloc (.cells #[.int .i64 x.num,.int .i64 x.line,.int .i64 x.minute,.int .i64 x.att,.int .i64 x.frm,.int .i64 1,.int .i64 s.clock,.string x.heard] 143)=W7 at *;generalize Y.heap.size=aq at *;generalize Px.beg s x=y at *;have a5:=aE.later (cw W7 (pstO s (.slice ad s.slots.length U) (.slice O s.ends.length G)));have bv:=bs.later (cw W7 (pstO s (.slice ad s.slots.length U) (.slice O s.ends.length G)));have bI:=bt.later (cw W7 (pstO s (.slice ad s.slots.length U) (.slice O s.ends.length G)));have hA:=PW.new W7 s (.slice ad s.slots.length U) (.slice O s.ends.length G);have bQ:=aE.lt;obtain⟨i0,i1,i2,i3,i4⟩:=aE.st;clear bs bt;go_upto_region 14 with fail;clear i0 i1 i2 i3 i4 aE;generalize W7.alloc (pstO s (.slice ad s.slots.length U) (.slice O s.ends.length G))=W8 at *;generalize W7.heap.size=q at *;have aO:=Hq a5;have ar:=Hq bv;have a8:=Hq hA;obtain⟨i0,i1,i2,i3,i4⟩:=a5.st;obtain⟨y0,y1,y2,y3,y4,y5,y6,y7⟩:=bI;clear a5 bv hA;go_wp2_with fail;refine (fB s.slots y _ _ hl ar.out.sl.1).mono ?_;rintro e w9 ⟨⟨v9,rfl,ac⟩,aD⟩;clear i0 i1 i2 i3 i4 y0 y1 y2 y3 y4 y5 y6 y7;obtain⟨V,J,bJ,_⟩:=(RowAt.of_own ac).form;subst bJ;have Q:=a8.out.later aD;have a3:=Q.st.c3;have bL:=Q.f 3 (by decide)
 have ca:=Q.ty.lt;have Z:=(aO.out.later aD).set bQ 3 (.slice V (Px.repl s.slots y).length J);have ax:=Q.slots (Px.repl s.slots y) (.slice V (Px.repl s.slots y).length J);have aQ:=((ar.out.later aD).set Q.ty (by decide) (by decide) 3 (.slice V (Px.repl s.slots y).length J)).en
 have aU:=(TRow.of_own ac).set Q.ty (by decide) 3 (.slice V (Px.repl s.slots y).length J)
 clear Q ac aD aO ar a8;go_upto_region 15 with fail;clear a3 bL;generalize w9.setCell ⟨q,3,none⟩ (.slice V (Px.repl s.slots y).length J)=bD at *;have HX:Hid (PEnd w bD q {s with slots:=Px.repl s.slots y} (.slice V (Px.repl s.slots y).length J) (.slice O s.ends.length G)):=⟨ax,⟨aU,aQ⟩,Z.z,Z.ty,Z.bel⟩;obtain⟨⟨⟨u0,r0⟩,f0⟩,⟨⟨u1,r1⟩,f1⟩,⟨⟨u2,r2⟩,f2⟩,⟨⟨u3,r3⟩,f3⟩,⟨⟨u4,r4⟩,f4⟩⟩:=Z.five;obtain⟨c0,c1,c2,c3,c4⟩:=ax.st;clear Z ax aQ aU;go_wp2_with fail;refine bodyPost_ret (v:=.tuple #[pstV {s with slots:=Px.repl s.slots y} (.slice V (Px.repl s.slots y).length J) (.slice O s.ends.length G),.int .i64 0]) (by simp[results,Tryz.results54,go_sem,r0,r1,r2,r3,r4]) rfl ⟨ChgR.ok HM.out (HX.out.fin _ _ _ _ _).1,(HX.out.fin _ _ _ _ _).2⟩
theorem nV {u:List UInt8} {t:List UInt8} {k:Nat} (h:k<t.length) (d:u.isPrefixOf (t.drop k)=false):behL u (t.drop k)=behL u (t.drop (k+1)):=by
 rw[List.drop_eq_getElem_cons h] at d ⊢;exact ig d
set_option maxHeartbeats 1000000 in
theorem lj (t u:ByteArray) (w:World) (ht:t.size≤1000000) (hu:u.size≤1000) (ac:0<u.size):
 Calls Tryz.prog 130 #[.string t,.string u] w fun e w'=>e=.returned (.tuple #[.string (behS t u),.bool (behB t u)])∧w'=w:=by
 go_enter Tryz.func130,Tryz.ntmps130
 go_wp2_with fail
 go_loop [6] (fun v=>∃k:Nat,v=.int .i64 k∧k≤t.size∧behL u.data.toList (t.data.toList.drop k)=behL u.data.toList t.data.toList) (fun v=>t.size+1-(intOf v).toNat)
 case atStart=>exact⟨0,rfl,Nat.zero_le _,by rw[List.drop_zero]⟩
 case round=>
  obtain⟨k,rfl,hk,V⟩:=hrel;have O:=Hq V;clear V;have d:u.data.toList.length=u.size:=by simp
  have I:t.data.toList.length=t.size:=by simp
  by_cases ad:k+u.size≤t.size
  ·have Z:(k:Int)+(u.size:Int)≤(t.size:Int):=by omega
   have z2:(0:Int)≤(k:Int):=by omega
   have z3:(k:Int)≤(k:Int)+(u.size:Int):=by omega
   have z4:((k:Int)+(u.size:Int)).toNat=k+u.size:=by omega
   have z5:((k:Int)).toNat=k:=by omega
   have G:(t.extract k (k+u.size)).data.toList=(t.data.toList.drop k).take u.size:=by
    rw[eg];congr 1;omega
   cases Y:((t.extract k (k+u.size)).toList==u.toList)
   ·have Q:u.data.toList.isPrefixOf (t.data.toList.drop k)=false:=by
     cases hh:u.data.toList.isPrefixOf (t.data.toList.drop k)
     ·rfl
     ·have h1:=List.prefix_iff_eq_take.1 (List.isPrefixOf_iff_prefix.1 hh)
      have h2:(t.extract k (k+u.size)).toList=u.toList:=by
       rw[ByteArray.toList_eq,ByteArray.toList_eq,G,←d,←h1]
      rw[h2] at Y;simp at Y
    have U:Hid (behL u.data.toList (t.data.toList.drop (k+1))=behL u.data.toList t.data.toList):=by
     unfold Hid;rw[←nV (by omega) Q];exact O.out
    clear Q d I G;go_wp2_with fail
    go_round
    case rel=>exact⟨k+1,by go_num,by omega,U.out⟩
    case measure=>simp[intOf];omega
   ·have Q:u.data.toList.isPrefixOf (t.data.toList.drop k)=true:=by
     have h2:(t.extract k (k+u.size)).toList=u.toList:=by simpa using Y
     rw[ByteArray.toList_eq,ByteArray.toList_eq,G] at h2;rw[List.isPrefixOf_iff_prefix,List.prefix_iff_eq_take,d];exact h2.symm
    have U:Hid (behL u.data.toList t.data.toList=some (t.data.toList.drop (k+u.size))):=by
     unfold Hid;rw[←O.out,kO Q,d,List.drop_drop]
    have J:Hid (behS t u=t.extract (k+u.size) t.size∧behB t u=true):=by
     unfold Hid behS behB;rw[U.out];refine⟨?_,rfl⟩
     apply ByteArray.ext
     apply Array.toList_inj.1
     rw[eg]
     show (t.data.toList.drop (k+u.size))=_
     rw[List.take_of_length_le (by rw[List.length_drop,I];omega)]
    clear Q d I G U;go_wp2_with fail;go_ret2;rw[J.out.1,J.out.2];exact⟨rfl,rfl⟩
  ·have Z:¬(k:Int)+(u.size:Int)≤(t.size:Int):=by omega
   have J:Hid (behS t u=ByteArray.empty∧behB t u=false):=by
    unfold Hid behS behB;rw[←O.out,gD (by rw[List.length_drop,d,I];omega)]
    exact⟨rfl,rfl⟩
   clear d I;go_wp2_with fail;go_ret2;rw[J.out.1,J.out.2];exact⟨rfl,rfl⟩
set_option maxHeartbeats 1000000 in
theorem mM (t:ByteArray) (k:Nat) (n:Int) (w:World) (G:n=(k:Int)) (U:t.size≤1000000) (Y:k≤1000):
 Calls Tryz.prog 131 #[.string t,.int .i64 n] w fun e I=>e=.returned (.string (Px.lastB t k))∧I=w:=by
 subst G
 by_cases h:k<t.size
 ·have d:Hid (Px.lastB t k=t.extract (t.size-k) t.size):=by unfold Hid Px.lastB;rw[if_pos h]
  have J:¬(t.size:Int)≤(k:Int):=by omega
  have O:((t.size:Int)-(k:Int)).toNat=t.size-k:=by omega
  have Q:(0:Int)≤(t.size:Int)-(k:Int):=by omega
  have V:(t.size:Int)-(k:Int)≤(t.size:Int):=by omega
  go_enter Tryz.func131,Tryz.ntmps131
  go_wp2_with fail;go_ret;rw[d.out];exact⟨rfl,rfl⟩
 ·have d:Hid (Px.lastB t k=t):=by unfold Hid Px.lastB;rw[if_neg h]
  have J:(t.size:Int)≤(k:Int):=by omega
  go_enter Tryz.func131,Tryz.ntmps131
  go_wp2_with fail;go_ret;rw[d.out];exact⟨rfl,rfl⟩
structure GIn (w wr:World) (y:Px.Sl):Prop where
 ps:PsIn wr w.heap.size y
 fb:∀j:Nat,j<8→wr.frozen? ⟨w.heap.size,j,none⟩=false
 z:ZCell wr (w.heap.size+1) 8
 bel:Below w.heap.size w wr
 lt:w.heap.size+1<wr.heap.size
theorem GIn.new (w:World) (x:Px.Sl):GIn w ((w.alloc (psO x)).alloc (.cells #[.int .i64 0,.int .i64 0,.int .i64 0,.int .i64 0,.int .i64 0,.int .i64 0,.int .i64 0,.string {data:= #[]}] 143)) x:=by
 have d:=ZCell.new (w.alloc (psO x)) #[.int .i64 0,.int .i64 0,.int .i64 0,.int .i64 0,.int .i64 0,.int .i64 0,.int .i64 0,.string {data:= #[]}] 143;refine⟨(PsIn.new w x).later (cw _ _),fun j _=>?_,by simpa using d,(cw w _).alloc (by simp) _,by simp⟩
 rw[(cw (w.alloc (psO x)) _).frozen (p:=⟨w.heap.size,j,none⟩) (by simp)];simp[go_sem]
theorem GIn.set {w wr:World} {y d:Px.Sl} (h:GIn w wr y) (j:Nat) (u:Value) (e:PsIn (wr.setCell ⟨w.heap.size,j,none⟩ u) w.heap.size d):GIn w (wr.setCell ⟨w.heap.size,j,none⟩ u) d:=by
 refine⟨e,fun i hi=>by rw[World.frozen?_setCell];exact h.fb i hi,fun i hi=>⟨?_,by rw[World.frozen?_setCell];exact (h.z i hi).2⟩,h.bel.setCell (by simp) _,by have:=h.lt;simpa [World.setCell] using this⟩
 obtain⟨v,G⟩:=(h.z i hi).1;exact⟨v,by rw[World.cell?_setCell_other _ _ _ _ (by simp)];exact G⟩
theorem GIn.step {w wr:World} {y:Px.Sl} (h:GIn w wr y) (k:Int):GIn w (wr.setCell ⟨w.heap.size,5,none⟩ (.int .i64 k)) {y with step:=k}:=by
 refine h.set 5 _ ?_;obtain⟨c0,c1,c2,c3,c4,c5,c6,c7⟩:=h.ps;refine⟨?_,?_,?_,?_,?_,?_,?_,?_⟩<;>simp[go_sem,c0,c1,c2,c3,c4,c5,c6,c7]
theorem GIn.ans {w wr:World} {y:Px.Sl} (h:GIn w wr y) (k:Int):GIn w (wr.setCell ⟨w.heap.size,6,none⟩ (.int .i64 k)) {y with ans:=k}:=by
 refine h.set 6 _ ?_;obtain⟨c0,c1,c2,c3,c4,c5,c6,c7⟩:=h.ps;refine⟨?_,?_,?_,?_,?_,?_,?_,?_⟩<;>simp[go_sem,c0,c1,c2,c3,c4,c5,c6,c7]
theorem GIn.heard {w wr:World} {y:Px.Sl} (h:GIn w wr y) (k:ByteArray):GIn w (wr.setCell ⟨w.heap.size,7,none⟩ (.string k)) {y with heard:=k}:=by
 refine h.set 7 _ ?_;obtain⟨c0,c1,c2,c3,c4,c5,c6,c7⟩:=h.ps;refine⟨?_,?_,?_,?_,?_,?_,?_,?_⟩<;>simp[go_sem,c0,c1,c2,c3,c4,c5,c6,c7]
theorem i8 {n q:Nat} {w e:World} (h:Below n w e) (d:n≤q) (V O J G Q Y I U:Value):Below n w ((((((((e.setCell ⟨q,0,none⟩ V).setCell ⟨q,1,none⟩ O).setCell ⟨q,2,none⟩ J).setCell ⟨q,3,none⟩ G).setCell ⟨q,4,none⟩ Q).setCell ⟨q,5,none⟩ Y).setCell ⟨q,6,none⟩ I).setCell ⟨q,7,none⟩ U):=
 (((((((h.setCell d _).setCell d _).setCell d _).setCell d _).setCell d _).setCell d _).setCell d _).setCell d _
theorem nw {x:Px.Sl} {a:ByteArray} {p:Px.Sl×ByteArray} (h:p=(x,a)):Ending.returned (.tuple #[psV x,.string a])=.returned (.tuple #[psV p.1,.string p.2]):=by subst h;rfl
set_option maxRecDepth 10000 in
set_option maxHeartbeats 4000000 in
theorem pp (x:Px.Sl) (L:List ByteArray) (sv:Value) (c:Int) (w:World) (bc:L.length≤5) (aC:∀z∈L,2≤z.size∧z.size≤9) (bb:1≤x.step) (a9:x.step≤(L.length:Int)+1) (hh:x.heard.size≤100000) (hR:RowAt w sv L.length (L.flatMap spC)):
 Calls Tryz.prog 99 #[psV x,sv,.int .i64 c] w fun e w'=>e=.returned (.tuple #[psV (Px.goF L c (L.length+1) x).1,.string (Px.goF L c (L.length+1) x).2])∧Below w.heap.size w w':=by
 obtain⟨ad,ba,rfl,aQ⟩:=hR.form;have HR:=Hq hR;have HG:=GIn.new w x;have ac:=HG.ps.c5;obtain⟨k0,ab⟩:∃k:Nat,x.step=(k:Int)+1:=⟨(x.step-1).toNat,by omega⟩
 have HK:=Hq ab;rw[ab] at ac;have bf:k0≤5:=by omega
 clear hR ab
 go_enter Tryz.func99,Tryz.ntmps99
 go_upto_region 1 with fail;generalize (w.alloc (psO x)).alloc (.cells #[.int .i64 0,.int .i64 0,.int .i64 0,.int .i64 0,.int .i64 0,.int .i64 0,.int .i64 0,.string {data:= #[]}] 143)=W at *;have aF:=Hq HG;clear HG;go_wp2_with fail;clear ac
 go_loopw [8,9] (fun v i wr=>∃(k n:Nat) (y:Px.Sl) (a:ByteArray),k≤L.length∧i=.int .i64 k∧y.step=(k:Int)+1∧v=.string a∧a.size≤9*k∧y.heard.size≤100000∧L.length+1≤k+n∧Px.goF L c (L.length+1) x=((Px.goF L c n y).1,a++(Px.goF L c n y).2)∧GIn w wr y) (fun _ i _=>L.length-(intOf i).toNat)
 case atStart=>exact⟨k0,L.length+1,x,ByteArray.empty,by have:=HK.out;omega,rfl,HK.out,rfl,by simp,hh,by omega,by rw[Px.ba_nil_app],aF.out⟩
 case round=>
  obtain⟨k,n,y,a,hk,rfl,U,rfl,ha,aB,hn,ah,d⟩:=hrel;have I:=Hq ah;have ag:=Hq U;clear ah;obtain⟨c0,c1,c2,c3,c4,c5,c6,c7⟩:=d.ps;have a8:=d.bel.size;have g5:=d.fb 5 (by decide)
  have g6:=d.fb 6 (by decide)
  have g7:=d.fb 7 (by decide)
  have a4:w.heap.size<wr.heap.size:=by have:=d.lt;omega
  obtain⟨m,rfl⟩:∃m,n=m+1:=⟨n-1,by omega⟩
  by_cases J:k<L.length
  ·obtain⟨b,ai,aZ,hv,_,hc⟩:=(HR.out.later d.bel).some' (by omega)
   cases hv
   have d0:wr.cell? ⟨b,ai+k*2,none⟩=some (.bool (sayB L[k])):=RowAt.cell lV hc k J 0 (by decide)
   have d1:wr.cell? ⟨b,ai+k*2+1,none⟩=some (.string (L[k].extract 1 L[k].size)):=RowAt.cell lV hc k J 1 (by decide)
   clear hc;have az:=Px.word_size J aC;have ae:=gl J
   have HE:Hid (Px.goF L c (m+1) y=if sayB L[k]=true then ((Px.goF L c m {y with step:=(k:Int)+2}).1,wordAt L k++(Px.goF L c m {y with step:=(k:Int)+2}).2)
    else if behB y.heard (wordAt L k)=false then ({y with heard:=Px.lastB y.heard ((wordAt L k).size-1)},ByteArray.empty)
    else Px.goF L c m {y with step:=(k:Int)+2,heard:=behS y.heard (wordAt L k),ans:=c}):=by
    unfold Hid;rw[Px.goF,if_neg (by omega),ag.out,show ((k:Int)+1-1).toNat=k by omega,show (k:Int)+1+1=(k:Int)+2 by omega]
    have:L.getD k ByteArray.empty=L[k]:=by simp[J]
    rw[this]
   rw[ae] at d1;have b1:(0:Int)≤(k:Int):=by omega
   have b2:(k:Int)<(L.length:Int):=by omega
   have af:Hid (∃q,sayB L[k]=q):=⟨_,rfl⟩;obtain⟨q,hq⟩:=af.out;rw[hq] at d0 HE;clear hq af ae;rw[U] at c5;clear U;have ay:=Hq az.2;generalize wordAt L k=u at *
   cases q
   ·have V:Hid (Px.goF L c (m+1) y=if behB y.heard u=false then ({y with heard:=Px.lastB y.heard (u.size-1)},ByteArray.empty) else Px.goF L c m {y with step:=(k:Int)+2,heard:=behS y.heard u,ans:=c}):=by
     unfold Hid;rw[HE.out,if_neg (by simp)]
    clear HE;go_wp2_with fail;refine (lj y.heard u wr (by omega) (by omega) (by omega)).mono ?_
    rintro e w2 ⟨rfl,rfl⟩
    cases Q:behB y.heard u
    ·have Y:Hid (Px.goF L c (L.length+1) x=({y with heard:=Px.lastB y.heard (u.size-1)},a)):=by
      unfold Hid;rw[I.out,V.out,if_pos Q,Px.ba_app_nil]
     clear V I Q;have u1:(u.size:Int)-1=((u.size-1:Nat):Int):=by omega
     go_wp2_with fail;refine (mM y.heard (u.size-1) _ w2 (by rw[←u1]) (by omega) (by omega)).mono ?_
     rintro e w3 ⟨rfl,rfl⟩;have G:=d.heard (Px.lastB y.heard (u.size-1));clear d d0 d1;go_upto_region 11 with fail;clear c0 c1 c2 c3 c4 c5 c6 c7 g5 g6 g7;generalize w3.setCell ⟨w.heap.size,7,none⟩ (.string (Px.lastB y.heard (u.size-1)))=W4 at *;have HP:Hid (∃z:Px.Sl,{y with heard:=Px.lastB y.heard (u.size-1)}=z):=⟨_,rfl⟩;obtain⟨z,hz⟩:=HP.out;rw[hz] at G Y;clear hz HP;obtain⟨e0,e1,e2,e3,e4,e5,e6,e7⟩:=G.ps;obtain⟨⟨u0,r0⟩,f0⟩:=G.z 0 (by decide)
     obtain⟨⟨u1,r1⟩,f1⟩:=G.z 1 (by decide)
     obtain⟨⟨u2,r2⟩,f2⟩:=G.z 2 (by decide)
     obtain⟨⟨u3,r3⟩,f3⟩:=G.z 3 (by decide)
     obtain⟨⟨u4,r4⟩,f4⟩:=G.z 4 (by decide)
     obtain⟨⟨u5,r5⟩,f5⟩:=G.z 5 (by decide)
     obtain⟨⟨u6,r6⟩,f6⟩:=G.z 6 (by decide)
     obtain⟨⟨u7,r7⟩,f7⟩:=G.z 7 (by decide)
     have HB:Hid (Below w.heap.size w W4):=G.bel;clear G;go_wp2_with fail;refine bodyPost_ret (v:=.tuple #[psV z,.string a]) (by simp[results,Tryz.results99,go_sem,r0,r1,r2,r3,r4,r5,r6,r7]) rfl ⟨nw Y.out,i8 HB.out (by omega) _ _ _ _ _ _ _ _⟩
    ·have O:Hid (Px.goF L c (L.length+1) x=((Px.goF L c m {y with step:=(k:Int)+2,heard:=behS y.heard u,ans:=c}).1,a++(Px.goF L c m {y with step:=(k:Int)+2,heard:=behS y.heard u,ans:=c}).2)):=by
      unfold Hid;rw[I.out,V.out,if_neg (by rw[Q];simp)]
     have bg:=hV y.heard u;clear V I Q;have Z:=((d.heard (behS y.heard u)).ans c).step ((k:Int)+2);clear d d0 d1;generalize behS y.heard u=rest at *;go_wp2_with fail;go_roundw
     case rel=>exact⟨k+1,m,_,a,by omega,by go_num,by show (k:Int)+2=((k+1:Nat):Int)+1;omega,rfl,by omega,by show rest.size≤100000;omega,by omega,O.out,Z⟩
     case measure=>simp[intOf];omega
   ·have O:Hid (Px.goF L c (L.length+1) x=((Px.goF L c m {y with step:=(k:Int)+2}).1,(a++u)++(Px.goF L c m {y with step:=(k:Int)+2}).2)):=by
     unfold Hid;rw[I.out,HE.out,if_pos rfl,ByteArray.append_assoc]
    clear HE I;have Z:=d.step ((k:Int)+2);clear d;go_wp2_with fail;go_roundw
    case rel=>exact⟨k+1,m,{y with step:=(k:Int)+2},a++u,by omega,by go_num,by show (k:Int)+2=((k+1:Nat):Int)+1;omega,rfl,by have:=ay.out;simp[ByteArray.size_append];omega,aB,by omega,O.out,Z⟩
    case measure=>simp[intOf];omega
  ·have Y:Hid (Px.goF L c (L.length+1) x=(y,a)):=by
    unfold Hid;rw[I.out];have:Px.goF L c (m+1) y=(y,ByteArray.empty):=by rw[Px.goF,if_pos (by have:=ag.out;omega)]
    rw[this,Px.ba_app_nil]
   have z1:¬(k:Int)<(L.length:Int):=by omega
   clear U;obtain⟨⟨u0,r0⟩,f0⟩:=d.z 0 (by decide)
   obtain⟨⟨u1,r1⟩,f1⟩:=d.z 1 (by decide)
   obtain⟨⟨u2,r2⟩,f2⟩:=d.z 2 (by decide)
   obtain⟨⟨u3,r3⟩,f3⟩:=d.z 3 (by decide)
   obtain⟨⟨u4,r4⟩,f4⟩:=d.z 4 (by decide)
   obtain⟨⟨u5,r5⟩,f5⟩:=d.z 5 (by decide)
   obtain⟨⟨u6,r6⟩,f6⟩:=d.z 6 (by decide)
   obtain⟨⟨u7,r7⟩,f7⟩:=d.z 7 (by decide)
   have HB:Hid (Below w.heap.size w wr):=d.bel;clear d I;go_wp2_with fail;refine bodyPost_ret (v:=.tuple #[psV y,.string a]) (by simp[results,Tryz.results99,go_sem,r0,r1,r2,r3,r4,r5,r6,r7]) rfl ⟨nw Y.out,i8 HB.out (by omega) _ _ _ _ _ _ _ _⟩
end Go.Proofs.YtdajolpoiffimabGreatDoor
