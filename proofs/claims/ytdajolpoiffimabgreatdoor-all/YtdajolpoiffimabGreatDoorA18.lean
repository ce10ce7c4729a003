import Derived.Test.YtdajolpoiffimabGreatDoorA4
import Derived.Test.YtdajolpoiffimabGreatDoorA17

namespace Go.Proofs.YtdajolpoiffimabGreatDoor
open Go.RowKit
set_option maxRecDepth 10000 in
set_option maxHeartbeats 0 in
theorem mS (b:ByteArray) (k:Int) (w:World) (hb:b.size≤100000) (h0:0≤k) (h1:k<256) (hk:k=90) (ht:Bx.txtP 1 ⟨b,false⟩=(Bx.b1 k,⟨b.extract 1 b.size,false⟩)) (he:b=Bx.b1 k++b.extract 1 b.size):
 Calls Tryz.prog 134 #[.string b] w fun e w'=>BodyR b w' e∧Below w.heap.size w w':=by
 have HT:=Hq ht;have HE:=Hq he;have aQ:(b.extract 1 b.size).size≤100000:=by simp;omega
 have bm:((Bx.b1 k).toList==[84])=false:=dD (l:=[84]) (fun q=>by have:=(dC k h0 h1 84).1 q;simp at this;omega)
 have bg:((Bx.b1 k).toList==[67])=false:=dD (l:=[67]) (fun q=>by have:=(dC k h0 h1 67).1 q;simp at this;omega)
 have bj:((Bx.b1 k).toList==[83])=false:=dD (l:=[83]) (fun q=>by have:=(dC k h0 h1 83).1 q;simp at this;omega)
 have bb:((Bx.b1 k).toList==[68])=false:=dD (l:=[68]) (fun q=>by have:=(dC k h0 h1 68).1 q;simp at this;omega)
 have bk:((Bx.b1 k).toList==[70])=false:=dD (l:=[70]) (fun q=>by have:=(dC k h0 h1 70).1 q;simp at this;omega)
 have bc:((Bx.b1 k).toList==[75])=false:=dD (l:=[75]) (fun q=>by have:=(dC k h0 h1 75).1 q;simp at this;omega)
 have bf:((Bx.b1 k).toList==[90])=true:=fA ((dC k h0 h1 90).2 (by rw[hk];rfl))
 have aJ:Hid (∀kd,kd=Bx.b1 k→kd=Bx.b1 k):=fun _ h=>h
 generalize ar:Bx.b1 k=kd at *;have af:=Hq ar;generalize hr:b.extract 1 b.size=r at *;have bh:=Hq hr;clear ar hr ht he aJ;have hN:=RB.new w b
 go_enter Tryz.func134,Tryz.ntmps134
 go_upto_region 3 with fail;have aq:RB w (((w.alloc (.cells #[.string {data:= #[]},.string {data:= #[]},.int .i64 0,.string {data:= #[]},.int .i64 0,.int .i64 0,.slice none 0 0,.slice none 0 0,.int .i64 0] 163)).alloc (.cells #[.string b,.bool false] 207)).alloc (.cells #[.string {data:= #[]},.string {data:= #[]},.int .i64 0,.string {data:= #[]},.int .i64 0,.int .i64 0,.slice none 0 0,.slice none 0 0,.int .i64 0] 163)) ⟨b,false⟩ (ctC ct0 nilS nilS):=hN;clear hN;generalize ((w.alloc (.cells #[.string {data:= #[]},.string {data:= #[]},.int .i64 0,.string {data:= #[]},.int .i64 0,.int .i64 0,.slice none 0 0,.slice none 0 0,.int .i64 0] 163)).alloc (.cells #[.string b,.bool false] 207)).alloc (.cells #[.string {data:= #[]},.string {data:= #[]},.int .i64 0,.string {data:= #[]},.int .i64 0,.int .i64 0,.slice none 0 0,.slice none 0 0,.int .i64 0] 163)=W at *;have ai:=Hq aq;clear aq;go_wp2_with fail;refine (dW ⟨b,false⟩ (w.heap.size+1) 1 _ hb ai.out.p).mono ?_;rintro ex w1 ⟨rfl,I,Z⟩;rw[HT.out] at I ⊢;simp only at I;have V:=ai.out.call I Z;have s0:=V.c.c 0 _ rfl;have t0:=V.c.f 0 (by simp)
 have y0:=V.c.ty.lt;have U:=V.put 0 (.string kd) (by simp)
 clear I Z V ai;go_upto_region 4 with fail;clear s0 t0 y0;generalize w1.setCell ⟨w.heap.size+2,0,none⟩ (.string kd)=W1 at *;have aj:=Hq U;have k0:=U.c.c 0 _ rfl;have yk:=U.c.ty.lt;have aN:=U.p.c0;have yp:=U.p.ty.lt;clear U;go_wp2_with fail;refine (ju ⟨r,false⟩ (w.heap.size+1) _ aQ aj.out.p).mono ?_;rintro ex w2 ⟨⟨sl,en,rfl,Q⟩,I,Z⟩;obtain⟨st,q,ag⟩:∃st q,Px.rdState ⟨r,false⟩=(st,q):=⟨_,_,dB _⟩;have HA:=Hq ag;have ao:Hid ((∀x∈st.slots,Px.Fresh x)∧ -1≤st.clock):=by have:=Px.rdState_fresh ⟨r,false⟩;rw[ag] at this;exact this
 rw[ag] at I Q ⊢;simp only at I Q;obtain⟨ad,O,rfl,_⟩:=Q.sl.form;obtain⟨J,G,rfl,_⟩:=Q.en.form;have d:=aj.out.call I Z;have s3:=d.c.c 3 _ rfl;have s4:=d.c.c 4 _ rfl;have s5:=d.c.c 5 _ rfl;have s6:=d.c.c 6 _ rfl;have s7:=d.c.c 7 _ rfl;have t3:=d.c.f 3 (by simp);have t4:=d.c.f 4 (by simp);have t5:=d.c.f 5 (by simp);have t6:=d.c.f 6 (by simp);have t7:=d.c.f 7 (by simp)
 have y0:=d.c.ty.lt;have am:=((((d.put 3 (.string st.tab) (by simp)).put 4 (.int .i64 st.clock) (by simp)).put 5 (.int .i64 st.next) (by simp)).put 6 (.slice ad st.slots.length O) (by simp)).put 7 (.slice J st.ends.length G) (by simp)
 have ah:PAt (((((w2.setCell ⟨w.heap.size+2,3,none⟩ (.string st.tab)).setCell ⟨w.heap.size+2,4,none⟩ (.int .i64 st.clock)).setCell ⟨w.heap.size+2,5,none⟩ (.int .i64 st.next)).setCell ⟨w.heap.size+2,6,none⟩ (.slice ad st.slots.length O)).setCell ⟨w.heap.size+2,7,none⟩ (.slice J st.ends.length G)) st (.slice ad st.slots.length O) (.slice J st.ends.length G):=by
  have ty:=d.c.ty;exact ((((Q.set ty (by decide) (by decide) _ _).set (ty.setCell _ _ _) (by decide) (by decide) _ _).set ((ty.setCell _ _ _).setCell _ _ _) (by decide) (by decide) _ _).set (((ty.setCell _ _ _).setCell _ _ _).setCell _ _ _) (by decide) (by decide) _ _).set ((((ty.setCell _ _ _).setCell _ _ _).setCell _ _ _).setCell _ _ _) (by decide) (by decide) _ _
 clear I Z d aj k0 yk aN yp Q ag;go_upto_region 18 with fail;clear s3 s4 s5 s6 s7 t3 t4 t5 t6 t7 y0;generalize ((((w2.setCell ⟨w.heap.size+2,3,none⟩ (.string st.tab)).setCell ⟨w.heap.size+2,4,none⟩ (.int .i64 st.clock)).setCell ⟨w.heap.size+2,5,none⟩ (.int .i64 st.next)).setCell ⟨w.heap.size+2,6,none⟩ (.slice ad st.slots.length O)).setCell ⟨w.heap.size+2,7,none⟩ (.slice J st.ends.length G)=W3 at *;have aE:=Hq ah;clear ah;have Y:=Hq am;clear am;go_wp2_with fail;refine (eI q (w.heap.size+1) _ Y.out.p).mono ?_;rintro ex w4 ⟨rfl,rfl⟩;have hR:=Y.out;have x0:=hR.c.c 0 _ rfl;have x1:=hR.c.c 1 _ rfl;have x2:=hR.c.c 2 _ rfl;have x3:=hR.c.c 3 _ rfl;have x4:=hR.c.c 4 _ rfl;have x5:=hR.c.c 5 _ rfl;have x6:=hR.c.c 6 _ rfl;have x7:=hR.c.c 7 _ rfl;have x8:=hR.c.c 8 _ rfl;have z0:=hR.z.c 0 _ rfl;have z1:=hR.z.c 1 _ rfl;have z2:=hR.z.c 2 _ rfl;have z3:=hR.z.c 3 _ rfl;have z4:=hR.z.c 4 _ rfl;have z5:=hR.z.c 5 _ rfl;have z6:=hR.z.c 6 _ rfl;have z7:=hR.z.c 7 _ rfl;have z8:=hR.z.c 8 _ rfl;have f0:=hR.z.f 0 (by simp);have f1:=hR.z.f 1 (by simp);have f2:=hR.z.f 2 (by simp);have f3:=hR.z.f 3 (by simp);have f4:=hR.z.f 4 (by simp);have f5:=hR.z.f 5 (by simp);have f6:=hR.z.f 6 (by simp);have f7:=hR.z.f 7 (by simp);have f8:=hR.z.f 8 (by simp)
 have yz:=hR.z.ty.lt;have yx:=hR.c.ty.lt;clear hR
 cases hw:(!q.wrong&&q.rest.toList.isEmpty)
 ·have ap:¬(q.wrong=false∧q.rest=ByteArray.empty):=by
   rintro ⟨a1,a2⟩;rw[a1,(isEmpty_iff _).2 a2] at hw;cases hw
  have HF:Hid ((¬∃h,Bx.IsCh b h)∧¬∃s,Bx.StFit s∧Bx.wholeS s=b):=by
   refine⟨?_,?_⟩
   ·rw[HE.out,←af.out];exact Bx.body_no ⟨h0,h1⟩ (by omega)
   ·rw[HE.out,←af.out,hk];exact Bx.whole_fit_no HA.out ap
  clear hw ap;go_wp2_with fail;refine bodyPost_ret (v:=.tuple #[ctV ⟨kd,ByteArray.empty,0,st,0⟩ (.slice ad st.slots.length O) (.slice J st.ends.length G),.bool false]) (by simp[results,Tryz.results134,go_sem,z0,z1,z2,z3,z4,z5,z6,z7,z8,ct0,Px.st0]) rfl ⟨BodyR.no _ _ _ HF.out.1 HF.out.2 ⟨⟨ad,O,rfl⟩,⟨J,G,rfl⟩⟩,dK Y.out.b (Nat.le_refl _) _ _ _ _ _ _ _ _ _⟩
 ·have ae:q.wrong=false∧q.rest=ByteArray.empty:=by
   simp only [Bool.and_eq_true,Bool.not_eq_true'] at hw
   exact⟨hw.1,(isEmpty_iff _).1 hw.2⟩
  have HF:Hid (IsW b ⟨kd,ByteArray.empty,0,st,0⟩):=by
   have hz:=Bx.whole_yes HA.out ae.1 ae.2;refine⟨by rw[←af.out,hk],?_,hz.2,ao.out.1,ao.out.2⟩
   rw[HE.out,←af.out,hk];exact hz.1
  clear hw ae;go_wp2_with fail;refine bodyPost_ret (v:=.tuple #[ctV ⟨kd,ByteArray.empty,0,st,0⟩ (.slice ad st.slots.length O) (.slice J st.ends.length G),.bool true]) (by simp[results,Tryz.results134,go_sem,z0,z1,z2,z3,z4,z5,z6,z7,z8,ct0,Px.st0]) rfl ⟨BodyR.wh _ _ _ HF.out rfl (aE.out.store9 Y.out.z.ty _ _ _ _ _ _ _ _ _),dK Y.out.b (Nat.le_refl _) _ _ _ _ _ _ _ _ _⟩
set_option maxRecDepth 10000 in
set_option maxHeartbeats 0 in
theorem mP (b:ByteArray) (k:Int) (w:World) (hb:b.size≤100000) (h0:0≤k) (h1:k<256) (hk:¬k=84∧¬k=67∧¬k=83∧¬k=68∧¬k=70∧¬k=75∧¬k=90) (ht:Bx.txtP 1 ⟨b,false⟩=(Bx.b1 k,⟨b.extract 1 b.size,false⟩)) (he:b=Bx.b1 k++b.extract 1 b.size):
 Calls Tryz.prog 134 #[.string b] w fun e w'=>BodyR b w' e∧Below w.heap.size w w':=by
 have HT:=Hq ht;have HE:=Hq he;have aD:(b.extract 1 b.size).size≤100000:=by simp;omega
 have aE:((Bx.b1 k).toList==[84])=false:=dD (l:=[84]) (fun q=>by have:=(dC k h0 h1 84).1 q;simp at this;omega)
 have aC:((Bx.b1 k).toList==[67])=false:=dD (l:=[67]) (fun q=>by have:=(dC k h0 h1 67).1 q;simp at this;omega)
 have aH:((Bx.b1 k).toList==[83])=false:=dD (l:=[83]) (fun q=>by have:=(dC k h0 h1 83).1 q;simp at this;omega)
 have ay:((Bx.b1 k).toList==[68])=false:=dD (l:=[68]) (fun q=>by have:=(dC k h0 h1 68).1 q;simp at this;omega)
 have aA:((Bx.b1 k).toList==[70])=false:=dD (l:=[70]) (fun q=>by have:=(dC k h0 h1 70).1 q;simp at this;omega)
 have az:((Bx.b1 k).toList==[75])=false:=dD (l:=[75]) (fun q=>by have:=(dC k h0 h1 75).1 q;simp at this;omega)
 have aB:((Bx.b1 k).toList==[90])=false:=dD (l:=[90]) (fun q=>by have:=(dC k h0 h1 90).1 q;simp at this;omega)
 have af:Hid (∀O,O=Bx.b1 k→O=Bx.b1 k):=fun _ h=>h
 generalize Z:Bx.b1 k=O at *;have Y:=Hq Z;generalize hr:b.extract 1 b.size=r at *;have aG:=Hq hr;clear Z hr ht he af;have hN:=RB.new w b
 go_enter Tryz.func134,Tryz.ntmps134
 go_upto_region 3 with fail;have Q:RB w (((w.alloc (.cells #[.string {data:= #[]},.string {data:= #[]},.int .i64 0,.string {data:= #[]},.int .i64 0,.int .i64 0,.slice none 0 0,.slice none 0 0,.int .i64 0] 163)).alloc (.cells #[.string b,.bool false] 207)).alloc (.cells #[.string {data:= #[]},.string {data:= #[]},.int .i64 0,.string {data:= #[]},.int .i64 0,.int .i64 0,.slice none 0 0,.slice none 0 0,.int .i64 0] 163)) ⟨b,false⟩ (ctC ct0 nilS nilS):=hN;clear hN;generalize ((w.alloc (.cells #[.string {data:= #[]},.string {data:= #[]},.int .i64 0,.string {data:= #[]},.int .i64 0,.int .i64 0,.slice none 0 0,.slice none 0 0,.int .i64 0] 163)).alloc (.cells #[.string b,.bool false] 207)).alloc (.cells #[.string {data:= #[]},.string {data:= #[]},.int .i64 0,.string {data:= #[]},.int .i64 0,.int .i64 0,.slice none 0 0,.slice none 0 0,.int .i64 0] 163)=W at *;have J:=Hq Q;clear Q;go_wp2_with fail;refine (dW ⟨b,false⟩ (w.heap.size+1) 1 _ hb J.out.p).mono ?_;rintro ex w1 ⟨rfl,I,U⟩;rw[HT.out] at I ⊢;simp only at I;have G:=J.out.call I U;have s0:=G.c.c 0 _ rfl;have t0:=G.c.f 0 (by simp)
 have y0:=G.c.ty.lt;have d:=G.put 0 (.string O) (by simp)
 clear I U G J;go_upto_region 4 with fail;clear s0 t0 y0;generalize w1.setCell ⟨w.heap.size+2,0,none⟩ (.string O)=W1 at *;have V:=Hq d;have k0:=d.c.c 0 _ rfl;have yk:=d.c.ty.lt;have aF:=d.p.c0;have yp:=d.p.ty.lt;clear d;have hR:=V.out;have z0:=hR.z.c 0 _ rfl;have z1:=hR.z.c 1 _ rfl;have z2:=hR.z.c 2 _ rfl;have z3:=hR.z.c 3 _ rfl;have z4:=hR.z.c 4 _ rfl;have z5:=hR.z.c 5 _ rfl;have z6:=hR.z.c 6 _ rfl;have z7:=hR.z.c 7 _ rfl;have z8:=hR.z.c 8 _ rfl;have f0:=hR.z.f 0 (by simp);have f1:=hR.z.f 1 (by simp);have f2:=hR.z.f 2 (by simp);have f3:=hR.z.f 3 (by simp);have f4:=hR.z.f 4 (by simp);have f5:=hR.z.f 5 (by simp);have f6:=hR.z.f 6 (by simp);have f7:=hR.z.f 7 (by simp);have f8:=hR.z.f 8 (by simp)
 have yz:=hR.z.ty.lt;clear hR
 have HF:Hid ((¬∃h,Bx.IsCh b h)∧¬∃s,Bx.StFit s∧Bx.wholeS s=b):=by
  refine⟨?_,?_⟩
  ·rw[HE.out,←Y.out];exact Bx.body_no ⟨h0,h1⟩ (by omega)
  ·rintro ⟨s,_,e⟩;rw[HE.out,←Y.out] at e;exact Bx.whole_no ⟨h0,h1⟩ (by omega) ⟨s,e⟩
 go_wp2_with fail;refine bodyPost_ret (v:=.tuple #[ctV ct0 nilS nilS,.bool false]) (by simp[results,Tryz.results134,go_sem,z0,z1,z2,z3,z4,z5,z6,z7,z8,ct0,Px.st0];rfl) rfl ⟨BodyR.no _ _ _ HF.out.1 HF.out.2 ⟨⟨none,0,rfl⟩,⟨none,0,rfl⟩⟩,dK V.out.b (Nat.le_refl _) _ _ _ _ _ _ _ _ _⟩
set_option maxRecDepth 10000 in
set_option maxHeartbeats 0 in
theorem nf (b:ByteArray) (w:World) (hb:b=ByteArray.empty):
 Calls Tryz.prog 134 #[.string b] w fun e Z=>BodyR b Z e∧Below w.heap.size w Z:=by
 have HT:Hid (Bx.txtP 1 ⟨b,false⟩=(b,⟨b,true⟩)):=by subst hb;unfold Hid Bx.txtP;rw[if_pos (by simp)]
 have aw:(b.toList==[84])=false:=by subst hb;rw[ByteArray.toList_eq];rfl
 have av:(b.toList==[67])=false:=by subst hb;rw[ByteArray.toList_eq];rfl
 have ax:(b.toList==[83])=false:=by subst hb;rw[ByteArray.toList_eq];rfl
 have ap:(b.toList==[68])=false:=by subst hb;rw[ByteArray.toList_eq];rfl
 have ar:(b.toList==[70])=false:=by subst hb;rw[ByteArray.toList_eq];rfl
 have aq:(b.toList==[75])=false:=by subst hb;rw[ByteArray.toList_eq];rfl
 have au:(b.toList==[90])=false:=by subst hb;rw[ByteArray.toList_eq];rfl
 have Y:b.size≤100000:=by subst hb;simp
 have HF:Hid ((¬∃h,Bx.IsCh b h)∧¬∃s,Bx.StFit s∧Bx.wholeS s=b):=by subst hb;exact⟨Bx.empty_no.1,fun ⟨s,_,e⟩=>Bx.empty_no.2 ⟨s,e⟩⟩
 clear hb;have V:=RB.new w b
 go_enter Tryz.func134,Tryz.ntmps134
 go_upto_region 3 with fail;have O:RB w (((w.alloc (.cells #[.string {data:= #[]},.string {data:= #[]},.int .i64 0,.string {data:= #[]},.int .i64 0,.int .i64 0,.slice none 0 0,.slice none 0 0,.int .i64 0] 163)).alloc (.cells #[.string b,.bool false] 207)).alloc (.cells #[.string {data:= #[]},.string {data:= #[]},.int .i64 0,.string {data:= #[]},.int .i64 0,.int .i64 0,.slice none 0 0,.slice none 0 0,.int .i64 0] 163)) ⟨b,false⟩ (ctC ct0 nilS nilS):=V;clear V;generalize ((w.alloc (.cells #[.string {data:= #[]},.string {data:= #[]},.int .i64 0,.string {data:= #[]},.int .i64 0,.int .i64 0,.slice none 0 0,.slice none 0 0,.int .i64 0] 163)).alloc (.cells #[.string b,.bool false] 207)).alloc (.cells #[.string {data:= #[]},.string {data:= #[]},.int .i64 0,.string {data:= #[]},.int .i64 0,.int .i64 0,.slice none 0 0,.slice none 0 0,.int .i64 0] 163)=W at *;have J:=Hq O;clear O;go_wp2_with fail;refine (dW ⟨b,false⟩ (w.heap.size+1) 1 _ Y J.out.p).mono ?_;rintro ex w1 ⟨rfl,I,Q⟩;rw[HT.out] at I ⊢;simp only at I;have d:=J.out.call I Q;have s0:=d.c.c 0 _ rfl;have t0:=d.c.f 0 (by simp)
 have y0:=d.c.ty.lt;have G:=d.put 0 (.string b) (by simp)
 clear I Q d J;go_upto_region 4 with fail;clear s0 t0 y0;generalize w1.setCell ⟨w.heap.size+2,0,none⟩ (.string b)=W1 at *;have U:=Hq G;have k0:=G.c.c 0 _ rfl;have yk:=G.c.ty.lt;clear G;have hR:=U.out;have z0:=hR.z.c 0 _ rfl;have z1:=hR.z.c 1 _ rfl;have z2:=hR.z.c 2 _ rfl;have z3:=hR.z.c 3 _ rfl;have z4:=hR.z.c 4 _ rfl;have z5:=hR.z.c 5 _ rfl;have z6:=hR.z.c 6 _ rfl;have z7:=hR.z.c 7 _ rfl;have z8:=hR.z.c 8 _ rfl;have f0:=hR.z.f 0 (by simp);have f1:=hR.z.f 1 (by simp);have f2:=hR.z.f 2 (by simp);have f3:=hR.z.f 3 (by simp);have f4:=hR.z.f 4 (by simp);have f5:=hR.z.f 5 (by simp);have f6:=hR.z.f 6 (by simp);have f7:=hR.z.f 7 (by simp);have f8:=hR.z.f 8 (by simp)
 have yz:=hR.z.ty.lt;clear hR;go_wp2_with fail;refine bodyPost_ret (v:=.tuple #[ctV ct0 nilS nilS,.bool false]) (by simp[results,Tryz.results134,go_sem,z0,z1,z2,z3,z4,z5,z6,z7,z8,ct0,Px.st0];rfl) rfl ⟨BodyR.no _ _ _ HF.out.1 HF.out.2 ⟨⟨none,0,rfl⟩,⟨none,0,rfl⟩⟩,dK U.out.b (Nat.le_refl _) _ _ _ _ _ _ _ _ _⟩
theorem kD (b:ByteArray) (w:World) (hb:b.size≤100000):Calls Tryz.prog 134 #[.string b] w fun e V=>BodyR b V e∧Below w.heap.size w V:=by
 by_cases h:b=ByteArray.empty
 ·exact nf b w h
 have Y:0<b.size:=by
  rcases Nat.eq_zero_or_pos b.size with q|q
  ·exact (h (by simpa using q)).elim
  ·exact q
 obtain⟨k,h0,h1,d,G⟩:=oh b Y
 by_cases k1:k=84
 ·exact mA b k w hb h0 h1 k1 d G
 by_cases k2:k=67
 ·exact mJ b k w hb h0 h1 k2 d G
 by_cases Q:k=83
 ·exact kl b k w hb h0 h1 Q d G
 by_cases J:k=68
 ·exact kt b k w hb h0 h1 J d G
 by_cases O:k=70
 ·exact kN b k w hb h0 h1 O d G
 by_cases U:k=75
 ·exact kK b k w hb h0 h1 U d G
 by_cases I:k=90
 ·exact mS b k w hb h0 h1 I d G
 exact mP b k w hb h0 h1 ⟨k1,k2,Q,J,O,U,I⟩ d G
set_option maxRecDepth 10000 in
set_option maxHeartbeats 0 in
theorem gP (s:Px.St) (n:Int) (sl en:Value) (w:World) (hO:Px.Ok s) (hT:TabLH w) (hS:PAt w s sl en):
 Calls Tryz.prog 54 #[pstV s sl en,.int .i64 n] w fun e w'=>ChgR (Px.startP s n) w' e∧Below w.heap.size w w':=by
 obtain⟨ad,aa,rfl,bW⟩:=hS.sl.form;obtain⟨O,G,rfl,bR⟩:=hS.en.form;have HO:=Hq hO;have hl:s.slots.length≤10000:=by have:=hO.len;omega
 have he:s.ends.length≤10000:=by have:s.ends.length≤6:=hO.st.en;omega
 have b7: -1≤s.clock:=hO.st.c1;have cc:s.clock≤4223371679:=hO.st.c2;have HS:=Hq hS;have hP:=PRes.new w s (.slice ad s.slots.length aa) (.slice O s.ends.length G);clear hS hO
 go_enter Tryz.func54,Tryz.ntmps54
 go_upto_region 1 with fail;generalize (w.alloc (pstO s (.slice ad s.slots.length aa) (.slice O s.ends.length G))).alloc pzO=W at *;have a6:=Hq (HS.out.later hP.bel);have HT:=Hq (hT.later hP.bel);have HP:=Hq hP;obtain⟨i0,i1,i2,i3,i4⟩:=hP.st;clear hP hT;go_wp2_with fail;refine (fB s n _ _ _ hl a6.out).mono ?_;rintro e w1 ⟨hF,aA⟩;clear i0 i1 i2 i3 i4;have ao:=HP.out.later aA;have a2:=a6.out.later aA;have aY:=HT.out.later aA;clear HP a6 aA HT
 rcases hF with ⟨x,hf,rfl⟩|⟨hf,rfl⟩
 rotate_left
 ·have HM:Hid (Px.startP s n=(Px.st0,8)):=by unfold Hid Px.startP;rw[hf]
  clear hf;generalize Px.sl0=x at *;have ay:=ao.later (dx w1 (psO x));clear ao a2 aY;go_upto_region 2 with fail;generalize w1.alloc (psO x)=W2 at *;obtain⟨⟨⟨u0,r0⟩,f0⟩,⟨⟨u1,r1⟩,f1⟩,⟨⟨u2,r2⟩,f2⟩,⟨⟨u3,r3⟩,f3⟩,⟨⟨u4,r4⟩,f4⟩⟩:=ay.five;have U:Hid (Below w.heap.size w W2):=ay.bel;clear ay;go_wp2_with fail;refine bodyPost_ret (v:=.tuple #[.agg #[.string {data:= #[]},.int .i64 0,.int .i64 0,.slice none 0 0,.slice none 0 0],.int .i64 8]) (by simp[results,Tryz.results54,go_sem,r0,r1,r2,r3,r4]) rfl ⟨ChgR.err HM.out,dF U.out (by omega) _ _ _ _ _⟩
 have bq:=Hq hf;have aM:x∈s.slots:=List.mem_of_find?_eq_some hf;have bB:Hid _:=HO.out.each aM;obtain⟨ca,bz,ce,bI,b6,bP⟩:=bB.out;have b8:x.att≤5:=HO.out.st.att5 (List.mem_map.2 ⟨x,aM,rfl⟩:Px.absS x∈_);obtain⟨j,hj⟩:∃j:Nat,x.line=(j:Int)+1:=⟨(x.line-1).toNat,by omega⟩
 have bQ:j<tn s.tab:=by omega
 have HJ:=Hq hj;have bw:=ao.later (dx w1 (psO x));have bu:=a2.later (dx w1 (psO x));have bn:=aY.later (dx w1 (psO x));have bt:=PsIn.new w1 x;have cb:w.heap.size+1<w1.heap.size:=ao.lt;clear ao a2 aY hf bP bI aM hj bz;go_upto_region 2 with fail;generalize w1.alloc (psO x)=W2 at *;generalize w1.heap.size=xq at *;have aQ:=Hq bw;have aL:=Hq bu;have aR:=Hq bn;have bv:=Hq bt;obtain⟨x0,x1,x2,x3,x4,x5,x6,x7⟩:=bt;clear bw bu bn;go_wp2_with fail;refine (ez x W2).mono ?_;rintro e w3 ⟨rfl,am⟩;clear x0 x1 x2 x3 x4 x5 x6 x7;have d:=aQ.out.later am;have ax:=Hq (aL.out.later am);have aN:=Hq (aR.out.later am);have ap:=Hq (bv.out.later am);clear aQ aL aR bv am
 cases hr:decide (0<x.step)
 rotate_left
 ·have HM:Hid (Px.startP s n=(Px.st0,9)):=by unfold Hid Px.startP;rw[bq.out];simp only;rw[if_pos (of_decide_eq_true hr)]
  clear hr;obtain⟨⟨⟨u0,r0⟩,f0⟩,⟨⟨u1,r1⟩,f1⟩,⟨⟨u2,r2⟩,f2⟩,⟨⟨u3,r3⟩,f3⟩,⟨⟨u4,r4⟩,f4⟩⟩:=d.five;have U:Hid (Below w.heap.size w w3):=d.bel;clear d;go_wp2_with fail;refine bodyPost_ret (v:=.tuple #[.agg #[.string {data:= #[]},.int .i64 0,.int .i64 0,.slice none 0 0,.slice none 0 0],.int .i64 9]) (by simp[results,Tryz.results54,go_sem,r0,r1,r2,r3,r4]) rfl ⟨ChgR.err HM.out,dF U.out (by omega) _ _ _ _ _⟩
 have bo:¬0<x.step:=of_decide_eq_false hr
 have aD:Hid (Px.startP s n=if s.clock<x.frm then (Px.st0,10) else if Px.lockP s x.line=true then (Px.st0,11) else ({s with slots:=Px.repl s.slots (Px.beg s x)},0)):=by
  unfold Hid Px.startP;rw[bq.out];simp only;rw[if_neg bo]
 clear hr bo;obtain⟨i0,i1,i2,i3,i4⟩:=d.st;obtain⟨x0,x1,x2,x3,x4,x5,x6,x7⟩:=ap.out
 by_cases bm:s.clock<x.frm
 ·have HM:Hid (Px.startP s n=(Px.st0,10)):=by unfold Hid;rw[aD.out,if_pos bm]
  clear aD;obtain⟨⟨⟨u0,r0⟩,f0⟩,⟨⟨u1,r1⟩,f1⟩,⟨⟨u2,r2⟩,f2⟩,⟨⟨u3,r3⟩,f3⟩,⟨⟨u4,r4⟩,f4⟩⟩:=d.five;have U:Hid (Below w.heap.size w w3):=d.bel;clear d;go_wp2_with fail;refine bodyPost_ret (v:=.tuple #[.agg #[.string {data:= #[]},.int .i64 0,.int .i64 0,.slice none 0 0,.slice none 0 0],.int .i64 10]) (by simp[results,Tryz.results54,go_sem,r0,r1,r2,r3,r4]) rfl ⟨ChgR.err HM.out,dF U.out (by omega) _ _ _ _ _⟩
 have aC:Hid (Px.startP s n=if Px.lockP s x.line=true then (Px.st0,11) else ({s with slots:=Px.repl s.slots (Px.beg s x)},0)):=by unfold Hid;rw[aD.out,if_neg bm]
 have aK:=Hq d;clear aD d;go_wp2_with fail;refine (lG s x.line j _ _ _ HJ.out bQ hl HO.out.st.tab aN.out ax.out).mono ?_;rintro e V ⟨rfl,aB⟩;clear i0 i1 i2 i3 i4 x0 x1 x2 x3 x4 x5 x6 x7;have J:=aK.out.later aB;have au:=ax.out.later aB;have aS:=ap.out.later aB;clear aK ax aN ap aB
 cases hk:Px.lockP s x.line
 rotate_left
 ·have HM:Hid (Px.startP s n=(Px.st0,11)):=by unfold Hid;rw[aC.out,hk];rfl
  clear aC hk au aS;obtain⟨⟨⟨u0,r0⟩,f0⟩,⟨⟨u1,r1⟩,f1⟩,⟨⟨u2,r2⟩,f2⟩,⟨⟨u3,r3⟩,f3⟩,⟨⟨u4,r4⟩,f4⟩⟩:=J.five;have U:Hid (Below w.heap.size w V):=J.bel;clear J;go_wp2_with fail;refine bodyPost_ret (v:=.tuple #[.agg #[.string {data:= #[]},.int .i64 0,.int .i64 0,.slice none 0 0,.slice none 0 0],.int .i64 11]) (by simp[results,Tryz.results54,go_sem,r0,r1,r2,r3,r4]) rfl ⟨ChgR.err HM.out,dF U.out (by omega) _ _ _ _ _⟩
 have HM:Hid (Px.startP s n=({s with slots:=Px.repl s.slots (Px.beg s x)},0)):=by unfold Hid;rw[aC.out,hk];rfl
 clear aC hk;have aU:Below V.heap.size V (V.alloc (.cells #[.int .i64 x.num,.int .i64 x.line,.int .i64 x.minute,.int .i64 x.att,.int .i64 x.frm,.int .i64 1,.int .i64 s.clock,.string x.heard] 143)):=dx V _;have az:=J.later aU;have bp:=au.later aU;have br:PsIn (V.alloc (.cells #[.int .i64 x.num,.int .i64 x.line,.int .i64 x.minute,.int .i64 x.att,.int .i64 x.frm,.int .i64 1,.int .i64 s.clock,.string x.heard] 143)) V.heap.size (Px.beg s x):=PsIn.new V (Px.beg s x);obtain⟨i0,i1,i2,i3,i4⟩:=J.st;have cd:=J.lt;have b9:w.heap.size<V.heap.size:=by omega
 obtain⟨x0,x1,x2,x3,x4,x5,x6,x7⟩:=aS;clear J au aU;go_upto_region 13 with fail;clear i0 i1 i2 i3 i4 x0 x1 x2 x3 x4 x5 x6 x7;generalize V.alloc (.cells #[.int .i64 x.num,.int .i64 x.line,.int .i64 x.minute,.int .i64 x.att,.int .i64 x.frm,.int .i64 1,.int .i64 s.clock,.string x.heard] 143)=W7 at *;generalize V.heap.size=aq at *;generalize Px.beg s x=y at *;have aT:=az.later (dx W7 (pstO s (.slice ad s.slots.length aa) (.slice O s.ends.length G)));have bs:=bp.later (dx W7 (pstO s (.slice ad s.slots.length aa) (.slice O s.ends.length G)));have bF:=br.later (dx W7 (pstO s (.slice ad s.slots.length aa) (.slice O s.ends.length G)));have hA:=PW.new W7 s (.slice ad s.slots.length aa) (.slice O s.ends.length G);have bO:=az.lt;obtain⟨i0,i1,i2,i3,i4⟩:=az.st;clear bp br;go_upto_region 14 with fail;clear i0 i1 i2 i3 i4 az;generalize W7.alloc (pstO s (.slice ad s.slots.length aa) (.slice O s.ends.length G))=W8 at *;generalize W7.heap.size=q at *;have aI:=Hq aT;have av:=Hq bs;have a9:=Hq hA;obtain⟨i0,i1,i2,i3,i4⟩:=aT.st;obtain⟨y0,y1,y2,y3,y4,y5,y6,y7⟩:=bF;clear aT bs hA;go_wp2_with fail;refine (fE s.slots y _ _ hl av.out.sl.1).mono ?_;rintro e w9 ⟨⟨v9,rfl,ah⟩,aE⟩;clear i0 i1 i2 i3 i4 y0 y1 y2 y3 y4 y5 y6 y7;obtain⟨Y,I,bH,_⟩:=(RowAt.of_own ah).form;subst bH;have Q:=a9.out.later aE;have a3:=Q.st.c3;have bD:=Q.f 3 (by decide)
 have b5:=Q.ty.lt;have Z:=(aI.out.later aE).set bO 3 (.slice Y (Px.repl s.slots y).length I);have ar:=Q.slots (Px.repl s.slots y) (.slice Y (Px.repl s.slots y).length I);have aO:=((av.out.later aE).set Q.ty (by decide) (by decide) 3 (.slice Y (Px.repl s.slots y).length I)).en
 have a7:=(TRow.of_own ah).set Q.ty (by decide) 3 (.slice Y (Px.repl s.slots y).length I)
 clear Q ah aE aI av a9;go_upto_region 15 with fail;clear a3 bD;generalize w9.setCell ⟨q,3,none⟩ (.slice Y (Px.repl s.slots y).length I)=bK at *;have HX:Hid (PEnd w bK q {s with slots:=Px.repl s.slots y} (.slice Y (Px.repl s.slots y).length I) (.slice O s.ends.length G)):=⟨ar,⟨a7,aO⟩,Z.z,Z.ty,Z.bel⟩;obtain⟨⟨⟨u0,r0⟩,f0⟩,⟨⟨u1,r1⟩,f1⟩,⟨⟨u2,r2⟩,f2⟩,⟨⟨u3,r3⟩,f3⟩,⟨⟨u4,r4⟩,f4⟩⟩:=Z.five;obtain⟨c0,c1,c2,c3,c4⟩:=ar.st;clear Z ar aO a7;go_wp2_with fail;refine bodyPost_ret (v:=.tuple #[pstV {s with slots:=Px.repl s.slots y} (.slice Y (Px.repl s.slots y).length I) (.slice O s.ends.length G),.int .i64 0]) (by simp[results,Tryz.results54,go_sem,r0,r1,r2,r3,r4]) rfl ⟨ChgR.ok HM.out (HX.out.fin _ _ _ _ _).1,(HX.out.fin _ _ _ _ _).2⟩
theorem oP {u:List UInt8}{t:List UInt8}{k:Nat} (h:k<t.length) (d:u.isPrefixOf (t.drop k)=false):behL u (t.drop k)=behL u (t.drop (k+1)):=by
 rw[List.drop_eq_getElem_cons h] at d ⊢;exact ij d
set_option maxHeartbeats 0 in
theorem lB (t u:ByteArray) (w:World) (ht:t.size≤1000000) (hu:u.size≤1000) (ad:0<u.size):
 Calls Tryz.prog 130 #[.string t,.string u] w fun e w'=>e=.returned (.tuple #[.string (behS t u),.bool (behB t u)])∧w'=w:=by
 go_enter Tryz.func130,Tryz.ntmps130
 go_wp2_with fail
 go_loop [6] (fun v=>∃k:Nat,v=.int .i64 k∧k≤t.size∧behL u.data.toList (t.data.toList.drop k)=behL u.data.toList t.data.toList) (fun v=>t.size+1-(intOf v).toNat)
 case atStart=>exact⟨0,rfl,Nat.zero_le _,by rw[List.drop_zero]⟩
 case round=>
  obtain⟨k,rfl,hk,V⟩:=hrel;have J:=Hq V;clear V;have d:u.data.toList.length=u.size:=by simp
  have I:t.data.toList.length=t.size:=by simp
  by_cases ac:k+u.size≤t.size
  ·have Z:(k:Int)+(u.size:Int)≤(t.size:Int):=by omega
   have z2:(0:Int)≤(k:Int):=by omega
   have z3:(k:Int)≤(k:Int)+(u.size:Int):=by omega
   have z4:((k:Int)+(u.size:Int)).toNat=k+u.size:=by omega
   have z5:((k:Int)).toNat=k:=by omega
   have G:(t.extract k (k+u.size)).data.toList=(t.data.toList.drop k).take u.size:=by
    rw[ei];congr 1;omega
   cases Y:((t.extract k (k+u.size)).toList==u.toList)
   ·have Q:u.data.toList.isPrefixOf (t.data.toList.drop k)=false:=by
     cases hh:u.data.toList.isPrefixOf (t.data.toList.drop k)
     ·rfl
     ·have h1:=List.prefix_iff_eq_take.1 (List.isPrefixOf_iff_prefix.1 hh)
      have h2:(t.extract k (k+u.size)).toList=u.toList:=by
       rw[ByteArray.toList_eq,ByteArray.toList_eq,G,←d,←h1]
      rw[h2] at Y;simp at Y
    have U:Hid (behL u.data.toList (t.data.toList.drop (k+1))=behL u.data.toList t.data.toList):=by
     unfold Hid;rw[←oP (by omega) Q];exact J.out
    clear Q d I G;go_wp2_with fail
    go_round
    case rel=>exact⟨k+1,by go_num,by omega,U.out⟩
    case measure=>simp[intOf];omega
   ·have Q:u.data.toList.isPrefixOf (t.data.toList.drop k)=true:=by
     have h2:(t.extract k (k+u.size)).toList=u.toList:=by simpa using Y
     rw[ByteArray.toList_eq,ByteArray.toList_eq,G] at h2;rw[List.isPrefixOf_iff_prefix,List.prefix_iff_eq_take,d];exact h2.symm
    have U:Hid (behL u.data.toList t.data.toList=some (t.data.toList.drop (k+u.size))):=by
     unfold Hid;rw[←J.out,ke Q,d,List.drop_drop]
    have O:Hid (behS t u=t.extract (k+u.size) t.size∧behB t u=true):=by
     unfold Hid behS behB;rw[U.out];refine⟨?_,rfl⟩
     apply ByteArray.ext
     apply Array.toList_inj.1
     rw[ei]
     show (t.data.toList.drop (k+u.size))=_
     rw[List.take_of_length_le (by rw[List.length_drop,I];omega)]
    clear Q d I G U;go_wp2_with fail;go_ret2;rw[O.out.1,O.out.2];exact⟨rfl,rfl⟩
  ·have Z:¬(k:Int)+(u.size:Int)≤(t.size:Int):=by omega
   have O:Hid (behS t u=ByteArray.empty∧behB t u=false):=by
    unfold Hid behS behB;rw[←J.out,gE (by rw[List.length_drop,d,I];omega)]
    exact⟨rfl,rfl⟩
   clear d I;go_wp2_with fail;go_ret2;rw[O.out.1,O.out.2];exact⟨rfl,rfl⟩
set_option maxHeartbeats 0 in
theorem mG (t:ByteArray) (k:Nat) (n:Int) (w:World) (G:n=(k:Int)) (U:t.size≤1000000) (Y:k≤1000):
 Calls Tryz.prog 131 #[.string t,.int .i64 n] w fun e J=>e=.returned (.string (Px.lastB t k))∧J=w:=by
 subst G
 by_cases h:k<t.size
 ·have d:Hid (Px.lastB t k=t.extract (t.size-k) t.size):=by unfold Hid Px.lastB;rw[if_pos h]
  have I:¬(t.size:Int)≤(k:Int):=by omega
  have O:((t.size:Int)-(k:Int)).toNat=t.size-k:=by omega
  have V:(0:Int)≤(t.size:Int)-(k:Int):=by omega
  have Q:(t.size:Int)-(k:Int)≤(t.size:Int):=by omega
  go_enter Tryz.func131,Tryz.ntmps131
  go_wp2_with fail;go_ret;rw[d.out];exact⟨rfl,rfl⟩
 ·have d:Hid (Px.lastB t k=t):=by unfold Hid Px.lastB;rw[if_neg h]
  have I:(t.size:Int)≤(k:Int):=by omega
  go_enter Tryz.func131,Tryz.ntmps131
  go_wp2_with fail;go_ret;rw[d.out];exact⟨rfl,rfl⟩
structure GIn (w wr:World) (y:Px.Sl):Prop where
 ps:PsIn wr w.heap.size y
 fb:∀j:Nat,j<8→wr.frozen? ⟨w.heap.size,j,none⟩=false
 z:ZCell wr (w.heap.size+1) 8
 bel:Below w.heap.size w wr
 lt:w.heap.size+1<wr.heap.size
theorem GIn.new (w:World) (x:Px.Sl):GIn w ((w.alloc (psO x)).alloc (.cells #[.int .i64 0,.int .i64 0,.int .i64 0,.int .i64 0,.int .i64 0,.int .i64 0,.int .i64 0,.string {data:= #[]}] 143)) x:=by
 have d:=ZCell.new (w.alloc (psO x)) #[.int .i64 0,.int .i64 0,.int .i64 0,.int .i64 0,.int .i64 0,.int .i64 0,.int .i64 0,.string {data:= #[]}] 143;refine⟨(PsIn.new w x).later (dx _ _),fun j _=>?_,by simpa using d,(dx w _).alloc (by simp) _,by simp⟩
 rw[(dx (w.alloc (psO x)) _).frozen (p:=⟨w.heap.size,j,none⟩) (by simp)];simp[go_sem]
theorem GIn.set {w wr:World}{y d:Px.Sl} (h:GIn w wr y) (j:Nat) (u:Value) (e:PsIn (wr.setCell ⟨w.heap.size,j,none⟩ u) w.heap.size d):GIn w (wr.setCell ⟨w.heap.size,j,none⟩ u) d:=by
 refine⟨e,fun i hi=>by rw[World.frozen?_setCell];exact h.fb i hi,fun i hi=>⟨?_,by rw[World.frozen?_setCell];exact (h.z i hi).2⟩,h.bel.setCell (by simp) _,by have:=h.lt;simpa [World.setCell] using this⟩
 obtain⟨v,G⟩:=(h.z i hi).1;exact⟨v,by rw[World.cell?_setCell_other _ _ _ _ (by simp)];exact G⟩
theorem GIn.step {w wr:World}{y:Px.Sl} (h:GIn w wr y) (k:Int):GIn w (wr.setCell ⟨w.heap.size,5,none⟩ (.int .i64 k)) {y with step:=k}:=by
 refine h.set 5 _ ?_;obtain⟨c0,c1,c2,c3,c4,c5,c6,c7⟩:=h.ps;refine⟨?_,?_,?_,?_,?_,?_,?_,?_⟩<;>simp[go_sem,c0,c1,c2,c3,c4,c5,c6,c7]
theorem GIn.ans {w wr:World}{y:Px.Sl} (h:GIn w wr y) (k:Int):GIn w (wr.setCell ⟨w.heap.size,6,none⟩ (.int .i64 k)) {y with ans:=k}:=by
 refine h.set 6 _ ?_;obtain⟨c0,c1,c2,c3,c4,c5,c6,c7⟩:=h.ps;refine⟨?_,?_,?_,?_,?_,?_,?_,?_⟩<;>simp[go_sem,c0,c1,c2,c3,c4,c5,c6,c7]
theorem GIn.heard {w wr:World}{y:Px.Sl} (h:GIn w wr y) (k:ByteArray):GIn w (wr.setCell ⟨w.heap.size,7,none⟩ (.string k)) {y with heard:=k}:=by
 refine h.set 7 _ ?_;obtain⟨c0,c1,c2,c3,c4,c5,c6,c7⟩:=h.ps;refine⟨?_,?_,?_,?_,?_,?_,?_,?_⟩<;>simp[go_sem,c0,c1,c2,c3,c4,c5,c6,c7]
theorem ja {n q:Nat}{w e:World} (h:Below n w e) (d:n≤q) (O G I J Q Y U V:Value):Below n w ((((((((e.setCell ⟨q,0,none⟩ O).setCell ⟨q,1,none⟩ G).setCell ⟨q,2,none⟩ I).setCell ⟨q,3,none⟩ J).setCell ⟨q,4,none⟩ Q).setCell ⟨q,5,none⟩ Y).setCell ⟨q,6,none⟩ U).setCell ⟨q,7,none⟩ V):=
 (((((((h.setCell d _).setCell d _).setCell d _).setCell d _).setCell d _).setCell d _).setCell d _).setCell d _
theorem oU {x:Px.Sl}{a:ByteArray}{p:Px.Sl×ByteArray} (h:p=(x,a)):Ending.returned (.tuple #[psV x,.string a])=.returned (.tuple #[psV p.1,.string p.2]):=by subst h;rfl
set_option maxRecDepth 10000 in
set_option maxHeartbeats 0 in
theorem pI (x:Px.Sl) (L:List ByteArray) (sv:Value) (c:Int) (w:World) (a9:L.length≤5) (aH:∀z∈L,2≤z.size∧z.size≤9) (bg:1≤x.step) (bb:x.step≤(L.length:Int)+1) (hh:x.heard.size≤100000) (hR:RowAt w sv L.length (L.flatMap spC)):
 Calls Tryz.prog 99 #[psV x,sv,.int .i64 c] w fun e w'=>e=.returned (.tuple #[psV (Px.goF L c (L.length+1) x).1,.string (Px.goF L c (L.length+1) x).2])∧Below w.heap.size w w':=by
 obtain⟨ad,bf,rfl,aP⟩:=hR.form;have HR:=Hq hR;have HG:=GIn.new w x;have ae:=HG.ps.c5;obtain⟨k0,ab⟩:∃k:Nat,x.step=(k:Int)+1:=⟨(x.step-1).toNat,by omega⟩
 have HK:=Hq ab;rw[ab] at ae;have ba:k0≤5:=by omega
 clear hR ab
 go_enter Tryz.func99,Tryz.ntmps99
 go_upto_region 1 with fail;generalize (w.alloc (psO x)).alloc (.cells #[.int .i64 0,.int .i64 0,.int .i64 0,.int .i64 0,.int .i64 0,.int .i64 0,.int .i64 0,.string {data:= #[]}] 143)=W at *;have aA:=Hq HG;clear HG;go_wp2_with fail;clear ae
 go_loopw [8,9] (fun v i wr=>∃(k n:Nat) (y:Px.Sl) (a:ByteArray),k≤L.length∧i=.int .i64 k∧y.step=(k:Int)+1∧v=.string a∧a.size≤9*k∧y.heard.size≤100000∧L.length+1≤k+n∧Px.goF L c (L.length+1) x=((Px.goF L c n y).1,a++(Px.goF L c n y).2)∧GIn w wr y) (fun _ i _=>L.length-(intOf i).toNat)
 case atStart=>exact⟨k0,L.length+1,x,ByteArray.empty,by have:=HK.out;omega,rfl,HK.out,rfl,by simp,hh,by omega,by rw[Px.ba_nil_app],aA.out⟩
 case round=>
  obtain⟨k,n,y,a,hk,rfl,Q,rfl,ha,aD,hn,ac,d⟩:=hrel;have I:=Hq ac;have ai:=Hq Q;clear ac;obtain⟨c0,c1,c2,c3,c4,c5,c6,c7⟩:=d.ps;have a8:=d.bel.size;have g5:=d.fb 5 (by decide)
  have g6:=d.fb 6 (by decide)
  have g7:=d.fb 7 (by decide)
  have a5:w.heap.size<wr.heap.size:=by have:=d.lt;omega
  obtain⟨m,rfl⟩:∃m,n=m+1:=⟨n-1,by omega⟩
  by_cases J:k<L.length
  ·obtain⟨b,ah,aV,hv,_,hc⟩:=(HR.out.later d.bel).some' (by omega)
   cases hv
   have d0:wr.cell? ⟨b,ah+k*2,none⟩=some (.bool (sayB L[k])):=RowAt.cell lX hc k J 0 (by decide)
   have d1:wr.cell? ⟨b,ah+k*2+1,none⟩=some (.string (L[k].extract 1 L[k].size)):=RowAt.cell lX hc k J 1 (by decide)
   clear hc;have aG:=Px.word_size J aH;have af:=gi J
   have HE:Hid (Px.goF L c (m+1) y=if sayB L[k]=true then ((Px.goF L c m {y with step:=(k:Int)+2}).1,wordAt L k++(Px.goF L c m {y with step:=(k:Int)+2}).2)
    else if behB y.heard (wordAt L k)=false then ({y with heard:=Px.lastB y.heard ((wordAt L k).size-1)},ByteArray.empty)
    else Px.goF L c m {y with step:=(k:Int)+2,heard:=behS y.heard (wordAt L k),ans:=c}):=by
    unfold Hid;rw[Px.goF,if_neg (by omega),ai.out,show ((k:Int)+1-1).toNat=k by omega,show (k:Int)+1+1=(k:Int)+2 by omega]
    have:L.getD k ByteArray.empty=L[k]:=by simp[J]
    rw[this]
   rw[af] at d1;have b1:(0:Int)≤(k:Int):=by omega
   have b2:(k:Int)<(L.length:Int):=by omega
   have ag:Hid (∃q,sayB L[k]=q):=⟨_,rfl⟩;obtain⟨q,hq⟩:=ag.out;rw[hq] at d0 HE;clear hq ag af;rw[Q] at c5;clear Q;have aF:=Hq aG.2;generalize wordAt L k=u at *
   cases q
   ·have V:Hid (Px.goF L c (m+1) y=if behB y.heard u=false then ({y with heard:=Px.lastB y.heard (u.size-1)},ByteArray.empty) else Px.goF L c m {y with step:=(k:Int)+2,heard:=behS y.heard u,ans:=c}):=by
     unfold Hid;rw[HE.out,if_neg (by simp)]
    clear HE;go_wp2_with fail;refine (lB y.heard u wr (by omega) (by omega) (by omega)).mono ?_
    rintro e w2 ⟨rfl,rfl⟩
    cases Y:behB y.heard u
    ·have U:Hid (Px.goF L c (L.length+1) x=({y with heard:=Px.lastB y.heard (u.size-1)},a)):=by
      unfold Hid;rw[I.out,V.out,if_pos Y,Px.ba_app_nil]
     clear V I Y;have u1:(u.size:Int)-1=((u.size-1:Nat):Int):=by omega
     go_wp2_with fail;refine (mG y.heard (u.size-1) _ w2 (by rw[←u1]) (by omega) (by omega)).mono ?_
     rintro e w3 ⟨rfl,rfl⟩;have G:=d.heard (Px.lastB y.heard (u.size-1));clear d d0 d1;go_upto_region 11 with fail;clear c0 c1 c2 c3 c4 c5 c6 c7 g5 g6 g7;generalize w3.setCell ⟨w.heap.size,7,none⟩ (.string (Px.lastB y.heard (u.size-1)))=W4 at *;have HP:Hid (∃z:Px.Sl,{y with heard:=Px.lastB y.heard (u.size-1)}=z):=⟨_,rfl⟩;obtain⟨z,hz⟩:=HP.out;rw[hz] at G U;clear hz HP;obtain⟨e0,e1,e2,e3,e4,e5,e6,e7⟩:=G.ps;obtain⟨⟨u0,r0⟩,f0⟩:=G.z 0 (by decide)
     obtain⟨⟨u1,r1⟩,f1⟩:=G.z 1 (by decide)
     obtain⟨⟨u2,r2⟩,f2⟩:=G.z 2 (by decide)
     obtain⟨⟨u3,r3⟩,f3⟩:=G.z 3 (by decide)
     obtain⟨⟨u4,r4⟩,f4⟩:=G.z 4 (by decide)
     obtain⟨⟨u5,r5⟩,f5⟩:=G.z 5 (by decide)
     obtain⟨⟨u6,r6⟩,f6⟩:=G.z 6 (by decide)
     obtain⟨⟨u7,r7⟩,f7⟩:=G.z 7 (by decide)
     have HB:Hid (Below w.heap.size w W4):=G.bel;clear G;go_wp2_with fail;refine bodyPost_ret (v:=.tuple #[psV z,.string a]) (by simp[results,Tryz.results99,go_sem,r0,r1,r2,r3,r4,r5,r6,r7]) rfl ⟨oU U.out,ja HB.out (by omega) _ _ _ _ _ _ _ _⟩
    ·have O:Hid (Px.goF L c (L.length+1) x=((Px.goF L c m {y with step:=(k:Int)+2,heard:=behS y.heard u,ans:=c}).1,a++(Px.goF L c m {y with step:=(k:Int)+2,heard:=behS y.heard u,ans:=c}).2)):=by
      unfold Hid;rw[I.out,V.out,if_neg (by rw[Y];simp)]
     have bc:=gV y.heard u;clear V I Y;have Z:=((d.heard (behS y.heard u)).ans c).step ((k:Int)+2);clear d d0 d1;generalize behS y.heard u=rest at *;go_wp2_with fail;go_roundw
     case rel=>exact⟨k+1,m,_,a,by omega,by go_num,by show (k:Int)+2=((k+1:Nat):Int)+1;omega,rfl,by omega,by show rest.size≤100000;omega,by omega,O.out,Z⟩
     case measure=>simp[intOf];omega
   ·have O:Hid (Px.goF L c (L.length+1) x=((Px.goF L c m {y with step:=(k:Int)+2}).1,(a++u)++(Px.goF L c m {y with step:=(k:Int)+2}).2)):=by
     unfold Hid;rw[I.out,HE.out,if_pos rfl,ByteArray.append_assoc]
    clear HE I;have Z:=d.step ((k:Int)+2);clear d;go_wp2_with fail;go_roundw
    case rel=>exact⟨k+1,m,{y with step:=(k:Int)+2},a++u,by omega,by go_num,by show (k:Int)+2=((k+1:Nat):Int)+1;omega,rfl,by have:=aF.out;simp[ByteArray.size_append];omega,aD,by omega,O.out,Z⟩
    case measure=>simp[intOf];omega
  ·have U:Hid (Px.goF L c (L.length+1) x=(y,a)):=by
    unfold Hid;rw[I.out];have:Px.goF L c (m+1) y=(y,ByteArray.empty):=by rw[Px.goF,if_pos (by have:=ai.out;omega)]
    rw[this,Px.ba_app_nil]
   have z1:¬(k:Int)<(L.length:Int):=by omega
   clear Q;obtain⟨⟨u0,r0⟩,f0⟩:=d.z 0 (by decide)
   obtain⟨⟨u1,r1⟩,f1⟩:=d.z 1 (by decide)
   obtain⟨⟨u2,r2⟩,f2⟩:=d.z 2 (by decide)
   obtain⟨⟨u3,r3⟩,f3⟩:=d.z 3 (by decide)
   obtain⟨⟨u4,r4⟩,f4⟩:=d.z 4 (by decide)
   obtain⟨⟨u5,r5⟩,f5⟩:=d.z 5 (by decide)
   obtain⟨⟨u6,r6⟩,f6⟩:=d.z 6 (by decide)
   obtain⟨⟨u7,r7⟩,f7⟩:=d.z 7 (by decide)
   have HB:Hid (Below w.heap.size w wr):=d.bel;clear d I;go_wp2_with fail;refine bodyPost_ret (v:=.tuple #[psV y,.string a]) (by simp[results,Tryz.results99,go_sem,r0,r1,r2,r3,r4,r5,r6,r7]) rfl ⟨oU U.out,ja HB.out (by omega) _ _ _ _ _ _ _ _⟩
abbrev tzO:Obj:=.cells #[.string {data:= #[]},.int .i64 0,.int .i64 0,.slice none 0 0,.slice none 0 0,.string {data:= #[]},.bool false] 110
structure TRes (w W:World) (s:Px.St) (sl en:Value):Prop where
 st:PIn W w.heap.size s sl en
 z:ZCell W (w.heap.size+1) 7
 ty:Typed W (w.heap.size+1) 110
 bel:Below w.heap.size w W
 lt:w.heap.size+1<W.heap.size
theorem TRes.new (w:World) (s:Px.St) (sl en:Value):TRes w ((w.alloc (pstO s sl en)).alloc tzO) s sl en:=by
 have e:=ZCell.new (w.alloc (pstO s sl en)) #[.string {data:= #[]},.int .i64 0,.int .i64 0,.slice none 0 0,.slice none 0 0,.string {data:= #[]},.bool false] 110;have d:=Typed.new (w.alloc (pstO s sl en)) #[.string {data:= #[]},.int .i64 0,.int .i64 0,.slice none 0 0,.slice none 0 0,.string {data:= #[]},.bool false] 110;exact⟨(PIn.new w s sl en).later (dx _ _),by simpa using e,by simpa using d,(dx w _).alloc (by simp) _,by simp⟩
theorem TRes.later {w W W':World}{s:Px.St}{sl en:Value} (h:TRes w W s sl en) (hb:Below W.heap.size W W'):TRes w W' s sl en:=
 ⟨h.st.later hb,h.z.later h.lt hb,h.ty.later hb,h.bel.trans (hb.mono h.bel.size),Nat.lt_of_lt_of_le h.lt hb.size⟩
theorem TRes.set {w W:World}{s:Px.St}{sl en:Value} (h:TRes w W s sl en) {q:Nat} (J:w.heap.size+1<q) (j:Nat) (u:Value):TRes w (W.setCell ⟨q,j,none⟩ u) s sl en:=by
 have d:∀(a i:Nat),a≤w.heap.size+1→(W.setCell ⟨q,j,none⟩ u).cell? ⟨a,i,none⟩=W.cell? ⟨a,i,none⟩:=fun a i I=>World.cell?_setCell_other _ _ _ _ (by first |(simp;done)|(simp;omega))
 obtain⟨c0,c1,c2,c3,c4⟩:=h.st;refine⟨⟨?_,?_,?_,?_,?_⟩,fun i hi=>⟨?_,?_⟩,h.ty.setCell _ _ _,h.bel.setCell (by first |(simp;done)|(simp;omega)) _,by have:=h.lt;simpa [World.setCell] using this⟩
 ·rw[d _ _ (by omega)];exact c0
 ·rw[d _ _ (by omega)];exact c1
 ·rw[d _ _ (by omega)];exact c2
 ·rw[d _ _ (by omega)];exact c3
 ·rw[d _ _ (by omega)];exact c4
 ·obtain⟨G,e⟩:=(h.z i hi).1;exact⟨G,by rw[d _ _ (by omega)];exact e⟩
 ·rw[World.frozen?_setCell];exact (h.z i hi).2
theorem PsIn.set {W:World}{q:Nat}{x:Px.Sl} (h:PsIn W q x) {g:Nat} (e:g≠q) (j:Nat) (u:Value):PsIn (W.setCell ⟨g,j,none⟩ u) q x:=by
 have d:∀(i:Nat),(W.setCell ⟨g,j,none⟩ u).cell? ⟨q,i,none⟩=W.cell? ⟨q,i,none⟩:=fun i=>World.cell?_setCell_other _ _ _ _ (by simp)
 obtain⟨c0,c1,c2,c3,c4,c5,c6,c7⟩:=h;exact⟨(d _).trans c0,(d _).trans c1,(d _).trans c2,(d _).trans c3,(d _).trans c4,(d _).trans c5,(d _).trans c6,(d _).trans c7⟩
theorem gH {n q:Nat}{w e:World} (h:Below n w e) (d:n≤q) (O G I J Q V U:Value):Below n w (((((((e.setCell ⟨q,0,none⟩ O).setCell ⟨q,1,none⟩ G).setCell ⟨q,2,none⟩ I).setCell ⟨q,3,none⟩ J).setCell ⟨q,4,none⟩ Q).setCell ⟨q,5,none⟩ V).setCell ⟨q,6,none⟩ U):=
 ((((((h.setCell d _).setCell d _).setCell d _).setCell d _).setCell d _).setCell d _).setCell d _
theorem PAt.store7 {W:World}{q:Nat}{s:Px.St}{sl en:Value} (h:PAt W s sl en) (ty:Typed W q 110) (I d e G J Q O:Value):PAt (((((((W.setCell ⟨q,0,none⟩ I).setCell ⟨q,1,none⟩ d).setCell ⟨q,2,none⟩ e).setCell ⟨q,3,none⟩ G).setCell ⟨q,4,none⟩ J).setCell ⟨q,5,none⟩ Q).setCell ⟨q,6,none⟩ O) s sl en:=by
 have st:∀(w:World) (j:Nat) (u:Value),(Typed w q 110∧PAt w s sl en)→(Typed (w.setCell ⟨q,j,none⟩ u) q 110∧PAt (w.setCell ⟨q,j,none⟩ u) s sl en):=fun w j u h=>⟨h.1.setCell _ _ _,h.2.set h.1 (by decide) (by decide) _ _⟩
 exact ((st _ _ _ (st _ _ _ (st _ _ _ (st _ _ _ (st _ _ _ (st _ _ _ (st _ _ _ ⟨ty,h⟩)))))))).2
theorem PsIn.hear {W:World}{q:Nat}{y:Px.Sl} (h:PsIn W q y) (k:ByteArray):PsIn (W.setCell ⟨q,7,none⟩ (.string k)) q {y with heard:=k}:=by
 obtain⟨c0,c1,c2,c3,c4,c5,c6,c7⟩:=h;refine⟨?_,?_,?_,?_,?_,?_,?_,?_⟩<;>simp[go_sem,c0,c1,c2,c3,c4,c5,c6,c7]
abbrev talkV (s:Px.St) (sl en:Value) (said:ByteArray) (over:Bool):Value:=.agg #[.string s.tab,.int .i64 s.clock,.int .i64 s.next,sl,en,.string said,.bool over]
inductive TalkR (s:Px.St) (n:Int) (x:ByteArray) (w':World):Ending→Prop
 | none (h:Px.find s.slots n=.none):TalkR s n x w' (.returned (.tuple #[.agg #[.string {data:= #[]},.int .i64 0,.int .i64 0,.slice none 0 0,.slice none 0 0,.string {data:= #[]},.bool false],.int .i64 8]))
 | wait (y:Px.Sl) (h:Px.find s.slots n=some y) (hs:y.step≤0):TalkR s n x w' (.returned (.tuple #[.agg #[.string {data:= #[]},.int .i64 0,.int .i64 0,.slice none 0 0,.slice none 0 0,.string {data:= #[]},.bool false],.int .i64 9]))
 | ok (y:Px.Sl) (sl en:Value) (said:ByteArray) (over:Bool) (t:Px.St) (h:Px.find s.slots n=some y) (hs:¬y.step≤0) (ht:t=Px.talkT s y x) (h1:said=(Px.talkS s y x).2) (h2:over=decide (((Px.stepsL s y).length:Int)<(Px.talkS s y x).1.step)) (ha:PAt w' t sl en):TalkR s n x w' (.returned (.tuple #[talkV t sl en said over,.int .i64 0]))
set_option maxRecDepth 10000 in
set_option maxHeartbeats 0 in
theorem j6 (s:Px.St) (n:Int) (x:ByteArray) (sl en:Value) (w:World) (hO:Px.Ok s) (dr:x.size≤100) (hT:TabLH w) (hS:PAt w s sl en):
 Calls Tryz.prog 56 #[pstV s sl en,.int .i64 n,.string x] w fun e w'=>TalkR s n x w' e∧Below w.heap.size w w':=by
 obtain⟨ad,ab,rfl,db⟩:=hS.sl.form;obtain⟨U,I,rfl,cW⟩:=hS.en.form;have HO:=Hq hO;have hl:s.slots.length≤10000:=by have:=hO.len;omega
 have HS:=Hq hS;have hP:=TRes.new w s (.slice ad s.slots.length ab) (.slice U s.ends.length I);clear hS hO
 go_enter Tryz.func56,Tryz.ntmps56
 go_upto_region 1 with fail;generalize (w.alloc (pstO s (.slice ad s.slots.length ab) (.slice U s.ends.length I))).alloc tzO=W at *;have bv:=Hq (HS.out.later hP.bel);have HT:=Hq (hT.later hP.bel);have HP:=Hq hP;obtain⟨i0,i1,i2,i3,i4⟩:=hP.st;clear hP hT;go_wp2_with fail;refine (fB s n _ _ _ hl bv.out).mono ?_;rintro e w1 ⟨hF,aL⟩;clear i0 i1 i2 i3 i4;have av:=HP.out.later aL;have bs:=bv.out.later aL;have br:=HT.out.later aL;clear HP bv aL HT
 rcases hF with ⟨y,hf,rfl⟩|⟨hf,rfl⟩
 rotate_left
 ·have HM:=Hq hf;clear hf;generalize Px.sl0=x at *;have Q:=av.later (dx w1 (psO x));clear av bs br;go_upto_region 2 with fail;generalize w1.alloc (psO x)=W2 at *;obtain⟨⟨u0,r0⟩,f0⟩:=Q.z 0 (by decide)
  obtain⟨⟨u1,r1⟩,f1⟩:=Q.z 1 (by decide)
  obtain⟨⟨u2,r2⟩,f2⟩:=Q.z 2 (by decide)
  obtain⟨⟨u3,r3⟩,f3⟩:=Q.z 3 (by decide)
  obtain⟨⟨u4,r4⟩,f4⟩:=Q.z 4 (by decide)
  obtain⟨⟨u5,r5⟩,f5⟩:=Q.z 5 (by decide)
  obtain⟨⟨u6,r6⟩,f6⟩:=Q.z 6 (by decide)
  have ae:Hid (Below w.heap.size w W2):=Q.bel;clear Q;go_wp2_with fail;refine bodyPost_ret (v:=.tuple #[.agg #[.string {data:= #[]},.int .i64 0,.int .i64 0,.slice none 0 0,.slice none 0 0,.string {data:= #[]},.bool false],.int .i64 8]) (by simp[results,Tryz.results56,go_sem,r0,r1,r2,r3,r4,r5,r6]) rfl ⟨TalkR.none HM.out,gH ae.out (by omega) _ _ _ _ _ _ _⟩
 have bO:=Hq hf;have aW:y∈s.slots:=List.mem_of_find?_eq_some hf;obtain⟨cI,cb,cV,cx,co,cS⟩:=HO.out.each aW;obtain⟨_,_,dj,aV,cp,_⟩:=HO.out.ex y aW;obtain⟨j,hj⟩:∃j:Nat,y.line=(j:Int)+1:=⟨(y.line-1).toNat,by omega⟩
 have b4:j<tn s.tab:=by omega
 have HJ:=Hq hj;have aX:(y.line-1).toNat=j:=by omega
 have bx:=HO.out.st.tab.lines.2.2 j (by exact b4)
 have bV:Hid ((stps (tl s.tab j)).length≤5):=(eW bx).2;have cU:Hid (∀z∈stps (tl s.tab j),2≤z.size∧z.size≤9):=iq bx;have cd:Hid (y.step≤((stps (tl s.tab j)).length:Int)):=by rw[aX] at aV;exact aV
 have bX:Hid (Px.stepsL s y=stps (tl s.tab j)):=by unfold Hid Px.stepsL;rw[aX];rfl
 have bH:=Hq bs;have b5:=av.later (dx w1 (psO y));have bD:=br.later (dx w1 (psO y));have bT:=PsIn.new w1 y;have bY:(w1.alloc (psO y)).frozen? ⟨w1.heap.size,7,none⟩=false:=by simp[go_sem]
 have b3:Typed (w1.alloc (psO y)) w1.heap.size 143:=Typed.new _ _ _;have cM:w.heap.size+1<w1.heap.size:=av.lt;have b2:=dx w1 (psO y);clear av bs br hf cS cx aW hj cb aX bx aV cI cV co;go_upto_region 2 with fail;generalize w1.alloc (psO y)=W2 at *;have a4:=Hq b5;have bc:=Hq bD;have bZ:=Hq bT;have ae:=Hq b2;have bW:=Hq bY;have a6:=Hq b3;obtain⟨x0,x1,x2,x3,x4,x5,x6,x7⟩:=bT;clear b5 bD b2 bY b3;go_wp2_with fail;refine (ez y W2).mono ?_;rintro e w3 ⟨rfl,af⟩;clear x0 x1 x2 x3 x4 x5 x6 x7;have d:=a4.out.later af;have aY:=Hq (bc.out.later af);have az:=Hq (bZ.out.later af);have al:=Hq (ae.out.trans (af.mono ae.out.size));have aM:Hid (w3.frozen? ⟨w1.heap.size,7,none⟩=false):=(af.frozen (p:=⟨w1.heap.size,7,none⟩) a6.out.lt).trans bW.out;have ac:=Hq (a6.out.later af);clear a4 bc bZ af ae bW a6
 cases hr:decide (0<y.step)
 ·have cg:Hid (y.step≤0):=by have:=of_decide_eq_false hr;unfold Hid;omega
  clear hr;obtain⟨⟨u0,r0⟩,f0⟩:=d.z 0 (by decide)
  obtain⟨⟨u1,r1⟩,f1⟩:=d.z 1 (by decide)
  obtain⟨⟨u2,r2⟩,f2⟩:=d.z 2 (by decide)
  obtain⟨⟨u3,r3⟩,f3⟩:=d.z 3 (by decide)
  obtain⟨⟨u4,r4⟩,f4⟩:=d.z 4 (by decide)
  obtain⟨⟨u5,r5⟩,f5⟩:=d.z 5 (by decide)
  obtain⟨⟨u6,r6⟩,f6⟩:=d.z 6 (by decide)
  have ae:Hid (Below w.heap.size w w3):=d.bel;clear d;go_wp2_with fail;refine bodyPost_ret (v:=.tuple #[.agg #[.string {data:= #[]},.int .i64 0,.int .i64 0,.slice none 0 0,.slice none 0 0,.string {data:= #[]},.bool false],.int .i64 9]) (by simp[results,Tryz.results56,go_sem,r0,r1,r2,r3,r4,r5,r6]) rfl ⟨TalkR.wait y bO.out cg.out,gH ae.out (by omega) _ _ _ _ _ _ _⟩
 have bE:Hid (0<y.step):=by unfold Hid;exact of_decide_eq_true hr
 clear hr;obtain⟨i0,i1,i2,i3,i4⟩:=d.st;obtain⟨x0,x1,x2,x3,x4,x5,x6,x7⟩:=az.out;have aS:=Hq d;clear d;go_wp2_with fail;refine (gd s y.line j _ _ _ HJ.out b4 HO.out.st.tab aY.out (bH.out.later al.out)).mono ?_;rintro e w4 ⟨⟨v,rfl,bb,cc,V,J,rfl,_,b0⟩,aj⟩;clear i0 i1 i2 i3 i4 x0 x1 x2 x3 x4 x5 x6 x7;have bR:(w4.alloc (lnO (tl s.tab j) bb cc V J)).cell? ⟨w4.heap.size,13,none⟩=some (.slice V (stps (tl s.tab j)).length J):=by simp[go_sem]
 have cy:w4.heap.size<(w4.alloc (lnO (tl s.tab j) bb cc V J)).heap.size:=by simp
 have bQ:=(aS.out.later aj).later (dx w4 (lnO (tl s.tab j) bb cc V J));have bJ:=(az.out.later aj).later (dx w4 (lnO (tl s.tab j) bb cc V J));have aN:Below w3.heap.size w3 (w4.alloc (lnO (tl s.tab j) bb cc V J)):=aj.alloc aj.size _;have bL:=al.out.trans (aN.mono al.out.size);have b9:=(aN.frozen (p:=⟨w1.heap.size,7,none⟩) ac.out.lt).trans aM.out;have bt:=ac.out.later aN;have cZ:=ac.out.lt;have df:=aj.size;have aT:=TRow.later b0 (dx w4 (lnO (tl s.tab j) bb cc V J));clear aS aY az aj aN al aM ac b0;go_upto_region 7 with fail;generalize w4.alloc (lnO (tl s.tab j) bb cc V J)=W5 at *;generalize w4.heap.size=lq at *;have dn:w1.heap.size≠lq:=by omega
 have cQ:PsIn (W5.setCell ⟨w1.heap.size,7,none⟩ (.string (y.heard++x))) w1.heap.size (Px.heardS y x):=bJ.hear (y.heard++x);have bu:=bQ.set cM 7 (.string (y.heard++x));have bN:=bL.setCell (show w1.heap.size≤(⟨w1.heap.size,7,none⟩:Addr).block from Nat.le_refl _) (.string (y.heard++x))
 have aU:(W5.setCell ⟨w1.heap.size,7,none⟩ (.string (y.heard++x))).cell? ⟨lq,13,none⟩=some (.slice V (stps (tl s.tab j)).length J):=by
  rw[World.cell?_setCell_other _ _ _ _ (by simp)];exact bR
 have a2:=TRow.set aT bt (by decide) 7 (.string (y.heard++x))
 have ca:lq<(W5.setCell ⟨w1.heap.size,7,none⟩ (.string (y.heard++x))).heap.size:=by simpa [World.setCell] using cy
 obtain⟨x0,x1,x2,x3,x4,x5,x6,x7⟩:=bJ;have ds:y.heard.size≤8:=cp;have da:¬9223372036854775807<y.heard.size+x.size:=by omega
 have bk:Hid (Px.talkS s y x=Px.goF (stps (tl s.tab j)) s.clock ((stps (tl s.tab j)).length+1) (Px.heardS y x)):=by unfold Hid Px.talkS;rw[bX.out]
 have cn:Hid (1≤(Px.heardS y x).step):=by have:=bE.out;show 1≤y.step;omega
 have cL:Hid ((Px.heardS y x).step≤((stps (tl s.tab j)).length:Int)+1):=by have:=cd.out;show y.step≤_;omega
 have cO:Hid ((Px.heardS y x).heard.size≤100000):=by show (y.heard++x).size≤100000;rw[ByteArray.size_append];omega
 clear bQ bL aT bR bt;go_upto_region 8 with fail;clear x0 x1 x2 x3 x4 x5 x6 x7 b9;generalize W5.setCell ⟨w1.heap.size,7,none⟩ (.string (y.heard++x))=W6 at *;generalize Px.heardS y x=y' at *;have bh:=Hq bu;have bF:=Hq a2;have HB:=Hq bN;have bj:=Hq aU;obtain⟨i0,i1,i2,i3,i4⟩:=bu.st;obtain⟨x0,x1,x2,x3,x4,x5,x6,x7⟩:=cQ;clear bu a2 bN;go_wp2_with fail;refine (pI y' (stps (tl s.tab j)) _ s.clock W6 bV.out cU.out cn.out cL.out cO.out bF.out.1).mono ?_;rintro e w7 ⟨rfl,ai⟩;clear i0 i1 i2 i3 i4 x0 x1 x2 x3 x4 x5 x6 x7 aU;generalize Px.goF (stps (tl s.tab j)) s.clock ((stps (tl s.tab j)).length+1) y'=p at *;obtain⟨X,bg⟩:=p;have aK:=(bh.out.later ai).later (dx w7 (psO X));have bM:=bH.out.later (HB.out.trans ((ai.alloc ai.size (psO X)).mono HB.out.size));have bP:=PsIn.new w7 X;have bI:=cell_later (dx w7 (psO X)) (cell_later ai bj.out);have du:lq<w7.heap.size:=Nat.lt_of_lt_of_le ca ai.size;have dk:w7.heap.size<(w7.alloc (psO X)).heap.size:=by simp
 simp only
 clear bh HB bj ai bF;go_upto_region 9 with fail;generalize w7.alloc (psO X)=W8 at *;generalize w7.heap.size=aq at *;have bn:=aK.later (dx W8 (pstO s (.slice ad s.slots.length ab) (.slice U s.ends.length I)));have bS:=bM.later (dx W8 (pstO s (.slice ad s.slots.length ab) (.slice U s.ends.length I)));have bU:=bP.later (dx W8 (pstO s (.slice ad s.slots.length ab) (.slice U s.ends.length I)));have bK:=cell_later (dx W8 (pstO s (.slice ad s.slots.length ab) (.slice U s.ends.length I))) bI;have hA:=PW.new W8 s (.slice ad s.slots.length ab) (.slice U s.ends.length I);have cR:=aK.lt;obtain⟨i0,i1,i2,i3,i4⟩:=aK.st;clear bM bP bI;go_upto_region 10 with fail;clear i0 i1 i2 i3 i4 aK;generalize W8.alloc (pstO s (.slice ad s.slots.length ab) (.slice U s.ends.length I))=W9 at *;generalize W8.heap.size=q at *;have ck:q≠aq:=by omega
 have dq:q≠lq:=by omega
 have aZ:=Hq bn;have aE:=Hq bS;have a5:=Hq hA;have bf:=Hq bU;have ba:=Hq bK;obtain⟨i0,i1,i2,i3,i4⟩:=bn.st;obtain⟨y0,y1,y2,y3,y4,y5,y6,y7⟩:=bU;clear bn bS hA bK;go_wp2_with fail;refine (fE s.slots X _ _ hl aE.out.sl.1).mono ?_;rintro e bG ⟨⟨dm,rfl,ag⟩,aa⟩;clear i0 i1 i2 i3 i4 y0 y1 y2 y3 y4 y5 y6 y7;obtain⟨Z,O,cu,_⟩:=(RowAt.of_own ag).form;subst cu;have Y:=a5.out.later aa;have a3:=Y.st.c3;have ci:=Y.f 3 (by decide)
 have cY:=Y.ty.lt;have G:=(aZ.out.later aa).set cR 3 (.slice Z (Px.repl s.slots X).length O);have a9:=Y.slots (Px.repl s.slots X) (.slice Z (Px.repl s.slots X).length O);have a7:=((aE.out.later aa).set Y.ty (by decide) (by decide) 3 (.slice Z (Px.repl s.slots X).length O)).en
 have bw:=(TRow.of_own ag).set Y.ty (by decide) 3 (.slice Z (Px.repl s.slots X).length O)
 have ce:=(bf.out.later aa).set ck 3 (.slice Z (Px.repl s.slots X).length O)
 have di:(bG.setCell ⟨q,3,none⟩ (.slice Z (Px.repl s.slots X).length O)).cell? ⟨lq,13,none⟩=some (.slice V (stps (tl s.tab j)).length J):=by
  rw[World.cell?_setCell_other _ _ _ _ (by simp)];exact cell_later aa ba.out
 clear Y ag aa aZ aE a5 bf ba;go_upto_region 11 with fail;clear a3 ci;generalize bG.setCell ⟨q,3,none⟩ (.slice Z (Px.repl s.slots X).length O)=bm at *;have cj:Hid (PAt bm {s with slots:=Px.repl s.slots X} (.slice Z (Px.repl s.slots X).length O) (.slice U s.ends.length I)):=⟨bw,a7⟩;have bz:Hid (Typed bm (w.heap.size+1) 110):=G.ty;have b7:Hid (Below w.heap.size w bm):=G.bel;obtain⟨⟨u0,r0⟩,f0⟩:=G.z 0 (by decide)
 obtain⟨⟨u1,r1⟩,f1⟩:=G.z 1 (by decide)
 obtain⟨⟨u2,r2⟩,f2⟩:=G.z 2 (by decide)
 obtain⟨⟨u3,r3⟩,f3⟩:=G.z 3 (by decide)
 obtain⟨⟨u4,r4⟩,f4⟩:=G.z 4 (by decide)
 obtain⟨⟨u5,r5⟩,f5⟩:=G.z 5 (by decide)
 obtain⟨⟨u6,r6⟩,f6⟩:=G.z 6 (by decide)
 obtain⟨c0,c1,c2,c3,c4⟩:=a9.st;obtain⟨y0,y1,y2,y3,y4,y5,y6,y7⟩:=ce;have dp:=bV.out;clear G a9 a7 bw;go_wp2_with fail;refine bodyPost_ret (v:=.tuple #[talkV {s with slots:=Px.repl s.slots X} (.slice Z (Px.repl s.slots X).length O) (.slice U s.ends.length I) bg (decide (((stps (tl s.tab j)).length:Int)<X.step)),.int .i64 0]) (by simp[results,Tryz.results56,go_sem,r0,r1,r2,r3,r4,r5,r6]) rfl ⟨?_,gH b7.out (by omega) _ _ _ _ _ _ _⟩
 refine TalkR.ok y _ _ bg _ _ bO.out (by have:=bE.out;omega) ?_ ?_ ?_ (cj.out.store7 bz.out _ _ _ _ _ _ _)
 ·unfold Px.talkT;rw[bk.out]
 ·rw[bk.out]
 ·rw[bk.out,bX.out]
attribute [local go_sem] Bx.be_size
theorem sI (x:Bx.Sl) (m:Int) (hm:m=Bx.mk1 x.runs):Bx.be x.num 2++Bx.be x.line 1++Bx.be x.minute 5++Bx.be x.att 1++Bx.be x.frm 5++Bx.be m 1=Bx.encSl x:=by
 subst hm;unfold Bx.encSl;simp only [ByteArray.append_assoc]
set_option maxRecDepth 10000 in
set_option maxHeartbeats 0 in
theorem jN (x:Px.Sl) (w:World) (I:Bx.SlFit (Px.absS x)):
 Calls Tryz.prog 104 #[psV x] w fun e w'=>e=.returned (.string (Bx.encSl (Px.absS x)))∧Below w.heap.size w w':=by
 have n1:=I.n;have n2:=I.l;have n3:=I.m;have n4:=I.a;have n5:=I.f;simp only [Px.absS] at n1 n2 n3 n4 n5;obtain⟨a1,b1⟩:=n1;obtain⟨a2,b2⟩:=n2;obtain⟨a3,b3⟩:=n3;obtain⟨a4,b4⟩:=n4;obtain⟨a5,b5⟩:=n5;have HE:Hid (∀m:Int,m=Bx.mk1 (decide (0<x.step))→Bx.be x.num 2++Bx.be x.line 1++Bx.be x.minute 5++Bx.be x.att 1++Bx.be x.frm 5++Bx.be m 1=Bx.encSl (Px.absS x)):=fun m hm=>sI (Px.absS x) m hm
 have ah:=dx w (psO x);have hI:=PsIn.new w x;clear I
 go_enter Tryz.func104,Tryz.ntmps104
 go_upto_region 1 with fail;generalize w.alloc (psO x)=W at *;have HI:=Hq hI;have HB:=Hq ah;have c0:=hI.c0;clear hI ah;go_wp2_with fail;refine (dO _ _ x.num 2 _ rfl rfl (by omega) (by omega) (by decide)).mono ?_
 rintro e w1 ⟨rfl,d⟩;have Q:=Hq (HI.out.later d);have ac:=Hq (HB.out.trans (d.mono HB.out.size));clear HI HB d c0;have c1:=Q.out.c1;go_wp2_with fail;refine (dO _ _ x.line 1 _ rfl rfl (by omega) (by omega) (by decide)).mono ?_
 rintro e w2 ⟨rfl,d⟩;have J:=Hq (Q.out.later d);have V:=Hq (ac.out.trans (d.mono ac.out.size));clear Q ac d c1;have c2:=J.out.c2;go_wp2_with fail;refine (dO _ _ x.minute 5 _ rfl rfl (by omega) (by omega) (by decide)).mono ?_
 rintro e w3 ⟨rfl,d⟩;have aa:=Hq (J.out.later d);have Y:=Hq (V.out.trans (d.mono V.out.size));clear J V d c2;have c3:=aa.out.c3;go_wp2_with fail;refine (dO _ _ x.att 1 _ rfl rfl (by omega) (by omega) (by decide)).mono ?_
 rintro e w4 ⟨rfl,d⟩;have ae:=Hq (aa.out.later d);have ab:=Hq (Y.out.trans (d.mono Y.out.size));clear aa Y d c3;have c4:=ae.out.c4;go_wp2_with fail;refine (dO _ _ x.frm 5 _ rfl rfl (by omega) (by omega) (by decide)).mono ?_
 rintro e w5 ⟨rfl,d⟩;have ai:=Hq (ae.out.later d);have ad:=Hq (ab.out.trans (d.mono ab.out.size));clear ae ab d c4;obtain⟨d0,d1,d2,d3,d4,d5,d6,d7⟩:=ai.out;go_wp2_with fail;refine (ez x _).mono ?_;rintro e w6 ⟨rfl,d⟩;have G:=Hq (ad.out.trans (d.mono ad.out.size));clear ai ad d d0 d1 d2 d3 d4 d5 d6 d7
 by_cases hr:0<x.step
 ·have O:decide (0<x.step)=true:=decide_eq_true hr;have Z:Hid (Bx.be x.num 2++Bx.be x.line 1++Bx.be x.minute 5++Bx.be x.att 1++Bx.be x.frm 5++Bx.be 1 1=Bx.encSl (Px.absS x)):=HE.out 1 (by rw[O];rfl)
  clear HE hr;go_wp2_with fail;refine (dO _ _ 1 1 _ rfl rfl (by omega) (by omega) (by decide)).mono ?_
  rintro e w7 ⟨rfl,d⟩;have U:=Hq (G.out.trans (d.mono G.out.size));clear G d;go_wp2_with fail;go_ret;exact⟨em Z.out,U.out⟩
 ·have O:decide (0<x.step)=false:=decide_eq_false hr;have Z:Hid (Bx.be x.num 2++Bx.be x.line 1++Bx.be x.minute 5++Bx.be x.att 1++Bx.be x.frm 5++Bx.be 0 1=Bx.encSl (Px.absS x)):=HE.out 0 (by rw[O];rfl)
  clear HE hr;go_wp2_with fail;refine (dO _ _ 0 1 _ rfl rfl (by omega) (by omega) (by decide)).mono ?_
  rintro e w7 ⟨rfl,d⟩;have U:=Hq (G.out.trans (d.mono G.out.size));clear G d;go_wp2_with fail;go_ret;exact⟨em Z.out,U.out⟩
def encA (x:Px.Sl):ByteArray:=Bx.encSl (Px.absS x)
theorem kM {α:Type} (f:α→ByteArray) (l:List α) (k:Nat) (h:k<l.length):Bx.cat ((l.take (k+1)).map f)=Bx.cat ((l.take k).map f)++f l[k]:=by
 rw[List.take_succ_eq_append_getElem h,List.map_append,List.map_cons,List.map_nil,Bx.cat_snoc]
set_option maxRecDepth 10000 in
set_option maxHeartbeats 0 in
theorem jp (l:List Px.Sl) (sl:Value) (w:World) (hl:l.length≤255) (U:∀x∈l,Bx.SlFit (Px.absS x)) (hS:RowAt w sl l.length (l.flatMap psC)):
 Calls Tryz.prog 66 #[sl] w fun e w'=>e=.returned (.string (Bx.be l.length 1++Bx.cat (l.map encA)))∧Below w.heap.size w w':=by
 obtain⟨ad,au,rfl,ac⟩:=hS.form;have HR:=Hq hS;have HF:=Hq U;clear hS U
 go_enter Tryz.func66,Tryz.ntmps66
 go_wp2_with fail;refine (dO _ _ (l.length:Int) 1 _ rfl rfl (by omega) (by omega) (by decide)).mono ?_
 rintro e w1 ⟨rfl,J⟩;have Z:=Hq J;clear J;go_wp2_with fail
 go_loopw [3,4] (fun tv i wr=>∃k:Nat,k≤l.length∧i=.int .i64 k∧tv=.string (Bx.be l.length 1++Bx.cat ((l.take k).map encA))∧Below w.heap.size w wr) (fun _ i _=>l.length-(intOf i).toNat)
 case atStart=>exact⟨0,Nat.zero_le _,rfl,by simp[Bx.cat],Z.out⟩
 case round=>
  obtain⟨k,hk,rfl,rfl,I⟩:=hrel;have d:=Hq I
  by_cases G:k<l.length
  ·obtain⟨b,av,al,hv,_,Q⟩:=(HR.out.later I).some' (by omega)
   cases hv
   obtain⟨d0,d1,d2,d3,d4,d5,d6,d7⟩:=ej Q k G;have b1:(0:Int)≤(k:Int):=by omega
   have b2:(k:Int)<(l.length:Int):=by omega
   have V:=HF.out _ (List.getElem_mem G)
   have HN:Hid (Bx.be l.length 1++Bx.cat ((l.take (k+1)).map encA)=(Bx.be l.length 1++Bx.cat ((l.take k).map encA))++Bx.encSl (Px.absS l[k])):=by
    unfold Hid;rw[kM encA l k G,ByteArray.append_assoc];rfl
   have hz:(Bx.be l.length 1++Bx.cat ((l.take k).map encA)).size≤10000:=by
    have h1:=Bx.cat_size encA 15 (l.take k) (fun x _=>Bx.encSl_size _)
    have h2:(l.take k).length≤255:=by simp;omega
    rw[ByteArray.size_append,Bx.be_size,h1];omega
   have ar:(Bx.encSl (Px.absS l[k])).size=15:=Bx.encSl_size _;have q9:¬9223372036854775807<(Bx.be l.length 1++Bx.cat ((l.take k).map encA)).size+15:=by omega
   clear Q I;generalize l[k]=x at *;generalize Bx.be l.length 1++Bx.cat ((l.take k).map encA)=tx at *;go_wp2_with fail;refine (jN x _ V).mono ?_;rintro e w2 ⟨rfl,O⟩;have Y:=Hq (d.out.trans (O.mono d.out.size));clear O d d0 d1 d2 d3 d4 d5 d6 d7;generalize Bx.encSl (Px.absS x)=en at *;go_wp2_with fail;go_roundw
   case rel=>exact⟨k+1,by omega,by go_num,by rw[HN.out],Y.out⟩
   case measure=>simp[intOf];omega
  ·obtain rfl:k=l.length:=by omega
   have HL:Hid (l.take l.length=l):=List.take_length;generalize l.take l.length=l' at *;go_wp2_with fail;go_ret;exact⟨em (by rw[HL.out]),d.out⟩
set_option maxRecDepth 10000 in
set_option maxHeartbeats 0 in
theorem jS (l:List Bx.En) (sl:Value) (w:World) (hl:l.length≤255) (Y:∀x∈l,Bx.EnFit x) (hS:RowAt w sl l.length (l.flatMap enC)):
 Calls Tryz.prog 67 #[sl] w fun e w'=>e=.returned (.string (Bx.be l.length 1++Bx.cat (l.map Bx.encEn)))∧Below w.heap.size w w':=by
 obtain⟨ad,aq,rfl,af⟩:=hS.form;have HR:=Hq hS;have HF:=Hq Y;clear hS Y
 go_enter Tryz.func67,Tryz.ntmps67
 go_wp2_with fail;refine (dO _ _ (l.length:Int) 1 _ rfl rfl (by omega) (by omega) (by decide)).mono ?_
 rintro e w1 ⟨rfl,Q⟩;have ab:=Hq Q;clear Q;go_wp2_with fail
 go_loopw [3,4] (fun tv i wr=>∃k:Nat,k≤l.length∧i=.int .i64 k∧tv=.string (Bx.be l.length 1++Bx.cat ((l.take k).map Bx.encEn))∧Below w.heap.size w wr) (fun _ i _=>l.length-(intOf i).toNat)
 case atStart=>exact⟨0,Nat.zero_le _,rfl,by simp[Bx.cat],ab.out⟩
 case round=>
  obtain⟨k,hk,rfl,rfl,J⟩:=hrel;have d:=Hq J
  by_cases G:k<l.length
  ·obtain⟨b,U,am,hv,_,V⟩:=(HR.out.later J).some' (by omega)
   cases hv
   have d0:wr.cell? ⟨b,U+k*2,none⟩=some (.int .i64 l[k].num):=RowAt.cell ek V k G 0 (by decide)
   have d1:wr.cell? ⟨b,U+k*2+1,none⟩=some (.string l[k].how):=RowAt.cell ek V k G 1 (by decide)
   have b1:(0:Int)≤(k:Int):=by omega
   have b2:(k:Int)<(l.length:Int):=by omega
   have I:=HF.out _ (List.getElem_mem G);obtain⟨e1,e2⟩:=I.n;have hh:=I.h
   have HN:Hid (Bx.be l.length 1++Bx.cat ((l.take (k+1)).map Bx.encEn)=(Bx.be l.length 1++Bx.cat ((l.take k).map Bx.encEn))++Bx.be l[k].num 2++l[k].how):=by
    unfold Hid;rw[kM Bx.encEn l k G];unfold Bx.encEn;simp only [ByteArray.append_assoc]
   have hz:(Bx.be l.length 1++Bx.cat ((l.take k).map Bx.encEn)).size≤10000:=by
    have h1:=Bx.cat_size Bx.encEn 3 (l.take k) (fun x hx=>by unfold Bx.encEn;rw[ByteArray.size_append,Bx.be_size,(HF.out x (List.mem_of_mem_take hx)).h])
    have h2:(l.take k).length≤255:=by simp;omega
    rw[ByteArray.size_append,Bx.be_size,h1];omega
   have q8:¬9223372036854775807<(Bx.be l.length 1++Bx.cat ((l.take k).map Bx.encEn)).size+2:=by omega
   have q9:¬9223372036854775807<(Bx.be l.length 1++Bx.cat ((l.take k).map Bx.encEn)).size+2+l[k].how.size:=by omega
   have ar:Hid (b<wr.heap.size):=World.block_lt_of_cell? _ _ d0;clear V J I hh;generalize l[k]=x at *;generalize Bx.be l.length 1++Bx.cat ((l.take k).map Bx.encEn)=tx at *;go_wp2_with fail;refine (dO _ _ x.num 2 _ rfl rfl (by omega) (by omega) (by decide)).mono ?_
   rintro e w2 ⟨rfl,O⟩;have Z:=Hq (d.out.trans (O.mono d.out.size));have ap:=cell_later O d1;clear O d d0 d1;go_wp2_with fail;go_roundw
   case rel=>exact⟨k+1,by omega,by go_num,by rw[HN.out],Z.out⟩
   case measure=>simp[intOf];omega
  ·obtain rfl:k=l.length:=by omega
   have HL:Hid (l.take l.length=l):=List.take_length;generalize l.take l.length=l' at *;go_wp2_with fail;go_ret;exact⟨em (by rw[HL.out]),d.out⟩
end Go.Proofs.YtdajolpoiffimabGreatDoor

namespace Go.Proofs.YtdajolpoiffimabGreatDoor
open Go.RowKit
def slotA (l:List Px.Sl) (i:Int):Px.Sl×Int:=if 0≤i∧i<(l.length:Int) then (l.getD i.toNat Px.sl0,0) else (Px.sl0,4)
def endA (l:List Bx.En) (i:Int):Bx.En×Int:=if 0≤i∧i<(l.length:Int) then (l.getD i.toNat ⟨0,ByteArray.empty⟩,0) else (⟨0,ByteArray.empty⟩,4)
theorem kf {l:List Px.Sl}{i:Int} (h:i<0∨(l.length:Int)≤i):slotA l i=(Px.sl0,4):=if_neg (by omega)
theorem jL {l:List Px.Sl}{k:Nat} (h:k<l.length):slotA l (k:Int)=(l[k],0):=by
 unfold slotA;rw[if_pos (by omega),Int.toNat_natCast];simp[h]
theorem lS {l:List Bx.En}{i:Int} (h:i<0∨(l.length:Int)≤i):endA l i=(⟨0,ByteArray.empty⟩,4):=if_neg (by omega)
theorem kX {l:List Bx.En}{k:Nat} (h:k<l.length):endA l (k:Int)=(l[k],0):=by
 unfold endA;rw[if_pos (by omega),Int.toNat_natCast];simp[h]
theorem qW {l:List Px.Sl}{i:Int}{e:Ending} (h:SlotR l i e):e=.returned (.tuple #[paslV (slotA l i).1,.int .i64 (slotA l i).2]):=by
 cases h with
 | no h=>rw[kf h];rfl
 | yes k hk h=>subst h;rw[jL hk]
abbrev enV (x:Bx.En):Value:=.agg #[.int .i64 x.num,.string x.how]
theorem rk {l:List Bx.En}{i:Int}{e:Ending} (h:EndR l i e):e=.returned (.tuple #[enV (endA l i).1,.int .i64 (endA l i).2]):=by
 cases h with
 | no h=>rw[lS h];rfl
 | yes k hk h=>subst h;rw[kX hk]
theorem nT (b:Px.Bo) (B:Nat) (i:Int) (w:World) (G:Px.Ok b.st) (hB:∃sl en,PB w B b sl en):
 Calls Tryz.prog 32 #[.pointer (some ⟨B,0,none⟩),.int .i64 i] w fun e d=>e=.returned (.tuple #[paslV (slotA b.st.slots i).1,.int .i64 (slotA b.st.slots i).2])∧Below w.heap.size w d:=by
 obtain⟨sl,en,hB⟩:=hB;exact (oE b B i sl en w (by have:=G.len;omega) hB).mono fun e d h=>⟨qW h.1,h.2⟩
theorem pT (b:Px.Bo) (B:Nat) (i:Int) (w:World) (G:Px.Ok b.st) (hB:∃sl en,PB w B b sl en):
 Calls Tryz.prog 33 #[.pointer (some ⟨B,0,none⟩),.int .i64 i] w fun e d=>e=.returned (.tuple #[enV (endA b.st.ends i).1,.int .i64 (endA b.st.ends i).2])∧Below w.heap.size w d:=by
 obtain⟨sl,en,hB⟩:=hB;exact (p7 b B i sl en w (by have:b.st.ends.length≤6:=G.st.en;omega) hB).mono fun e d h=>⟨rk h.1,h.2⟩
theorem oz (b:Px.Bo) (B:Nat) (w:World) (hB:∃sl en,PB w B b sl en):
 Calls Tryz.prog 23 #[.pointer (some ⟨B,0,none⟩)] w fun e d=>e=.returned (pviewV b.st)∧Below w.heap.size w d:=by
 obtain⟨sl,en,hB⟩:=hB;exact oK b B sl en w hB
theorem kY (b:Px.Bo) (B:Nat) (w:World) (hB:∃sl en,PB w B b sl en):
 Calls Tryz.prog 8 #[.pointer (some ⟨B,0,none⟩)] w fun e d=>e=.returned (.string b.log)∧d=w:=by
 obtain⟨sl,en,hB⟩:=hB;exact pR b B sl en w hB
end Go.Proofs.YtdajolpoiffimabGreatDoor
