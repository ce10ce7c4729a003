import Derived.Test.YtdajolpoiffimabGreatDoorA22
import Derived.Test.YtdajolpoiffimabGreatDoorA27

namespace Go.Proofs.YtdajolpoiffimabGreatDoor
open Go.RowKit
inductive TakeR (log:ByteArray) (w':World):Ending→Prop
 | ch (b more:ByteArray) (c:Ct) (hN:Bx.Nx log b more) (h:IsC b c) (hs:c.st=Px.st0) (hz:c.size=(b.size:Int)+6):TakeR log w' (.returned (.tuple #[ctV c nilS nilS,.bool true]))
 | wh (b more:ByteArray) (c:Ct) (sl en:Value) (hN:Bx.Nx log b more) (h:IsW b c) (hz:c.size=(b.size:Int)+6) (ha:PAt w' c.st sl en):TakeR log w' (.returned (.tuple #[ctV c sl en,.bool true]))
 | no (h:¬∃b more,Bx.Nx log b more∧((∃h,Bx.IsCh b h)∨∃s,Bx.StFit s∧Bx.wholeS s=b)):TakeR log w' (.returned (.tuple #[ctV ct0 nilS nilS,.bool false]))
structure RT (w W:World) (p:Bx.PS):Prop where
 z:Cl W w.heap.size 163 (ctC ct0 nilS nilS)
 p:PtIn W (w.heap.size+1) p
 b:Below w.heap.size w W
theorem RT.call {w W W':World}{p G:Bx.PS} (h:RT w W p) (J:PtIn W' (w.heap.size+1) G) (d:W.grownBy W' (some (w.heap.size+1))):RT w W' G:=
 ⟨h.z.grow d (by omega),J,⟨d.os.trans h.b.os,d.tape.trans h.b.tape,d.output.trans h.b.output,Nat.le_trans h.b.size d.size,fun k I=>(d.block k (Nat.lt_of_lt_of_le I h.b.size) (fun e=>by cases e;omega)).trans (h.b.block k I)⟩⟩
theorem RT.later {w W W':World}{p:Bx.PS} (h:RT w W p) (hb:Below W.heap.size W W'):RT w W' p:=⟨h.z.later hb,h.p.later hb,h.b.trans (hb.mono h.b.size)⟩
theorem RT.new (w:World) (b:ByteArray):RT w ((w.alloc (.cells (ctC ct0 nilS nilS).toArray 163)).alloc (.cells (ptC ⟨b,false⟩).toArray 207)) ⟨b,false⟩:=by
 have b1:=dx w (.cells (ctC ct0 nilS nilS).toArray 163);have e:(w.alloc (.cells (ctC ct0 nilS nilS).toArray 163)).heap.size=w.heap.size+1:=by simp
 have d:=dx (w.alloc (.cells (ctC ct0 nilS nilS).toArray 163)) (.cells (ptC ⟨b,false⟩).toArray 207);have n2:=Cl.new (w.alloc (.cells (ctC ct0 nilS nilS).toArray 163)) (ptC ⟨b,false⟩) 207;rw[e] at n2;exact⟨(Cl.new w (ctC ct0 nilS nilS) 163).later d,n2,b1.trans (d.mono b1.size)⟩
theorem rp (k:Int) (p:Bx.PS):(Bx.txtP k p).1.size≤p.rest.size:=by
 unfold Bx.txtP;split
 ·simp
 ·simp;omega
set_option maxRecDepth 10000 in
set_option maxHeartbeats 0 in
theorem nw (log:ByteArray) (w:World) (hl:log.size≤100000):
 Calls Tryz.prog 102 #[.string log] w fun e w'=>TakeR log w' e∧Below w.heap.size w w':=by
 obtain⟨l,p1,h1⟩:∃a q,Bx.numP 2 ⟨log,false⟩=(a,q):=⟨_,_,dB _⟩;obtain⟨body,p2,h2⟩:∃a q,Bx.txtP l p1=(a,q):=⟨_,_,dB _⟩;obtain⟨aw,p3,h3⟩:∃a q,Bx.numP 4 p2=(a,q):=⟨_,_,dB _⟩;have s1:=dM 2 ⟨log,false⟩;have s2:=fV l p1;have s3:=dM 4 p2;have s4:=rp l p1;rw[h1] at s1;rw[h2] at s2 s4;rw[h3] at s3;simp only at s1 s2 s3 s4;have l1:=Bx.numP_bd 2 ⟨log,false⟩;have l2:=Bx.numP_lt 2 ⟨log,false⟩;rw[h1] at l1 l2;simp only at l1 l2;have l3:l<65536:=by simpa using l2
 have aD:Hid ((p3.wrong=true→¬∃b more,Bx.Nx log b more)∧(p3.wrong=false→aw=Crc.sumR body→Bx.Nx log body p3.rest∧l=body.size)∧(¬aw=Crc.sumR body→¬∃b more,Bx.Nx log b more)):=Bx.take_math h1 h2 h3;have H1:=Hq h1;have H2:=Hq h2;have H3:=Hq h3;clear h1 h2 h3 l2;have hR:=RT.new w log
 go_enter Tryz.func102,Tryz.ntmps102
 go_upto_region 2 with fail;have aW:RT w ((w.alloc (.cells #[.string {data:= #[]},.string {data:= #[]},.int .i64 0,.string {data:= #[]},.int .i64 0,.int .i64 0,.slice none 0 0,.slice none 0 0,.int .i64 0] 163)).alloc (.cells #[.string log,.bool false] 207)) ⟨log,false⟩:=hR;clear hR;generalize (w.alloc (.cells #[.string {data:= #[]},.string {data:= #[]},.int .i64 0,.string {data:= #[]},.int .i64 0,.int .i64 0,.slice none 0 0,.slice none 0 0,.int .i64 0] 163)).alloc (.cells #[.string log,.bool false] 207)=W at *;have aH:=Hq aW;clear aW;go_wp2_with fail;refine (dH ⟨log,false⟩ (w.heap.size+1) 2 _ _ rfl (by decide) hl aH.out.p).mono ?_
 rintro ex w1 ⟨rfl,V,ac⟩;rw[H1.out] at V ⊢;simp only at V;have aC:Hid (RT w w1 p1):=aH.out.call V ac;clear V ac aH;go_wp2_with fail;refine (dW p1 (w.heap.size+1) l _ (by omega) aC.out.p).mono ?_
 rintro ex w2 ⟨rfl,V,ac⟩;rw[H2.out] at V ⊢;simp only at V;have aE:Hid (RT w w2 p2):=aC.out.call V ac;clear V ac aC;go_wp2_with fail;refine (dH p2 (w.heap.size+1) 4 _ _ rfl (by decide) (by omega) aE.out.p).mono ?_
 rintro ex w3 ⟨rfl,V,ac⟩;rw[H3.out] at V ⊢;simp only at V;have G:Hid (RT w w3 p3):=aE.out.call V ac;clear V ac aE;have q1:=G.out.p.c1;have yq:=G.out.p.ty.lt;have z0:=G.out.z.c 0 _ rfl;have z1:=G.out.z.c 1 _ rfl;have z2:=G.out.z.c 2 _ rfl;have z3:=G.out.z.c 3 _ rfl;have z4:=G.out.z.c 4 _ rfl;have z5:=G.out.z.c 5 _ rfl;have z6:=G.out.z.c 6 _ rfl;have z7:=G.out.z.c 7 _ rfl;have z8:=G.out.z.c 8 _ rfl;have f0:=G.out.z.f 0 (by simp);have f1:=G.out.z.f 1 (by simp);have f2:=G.out.z.f 2 (by simp);have f3:=G.out.z.f 3 (by simp);have f4:=G.out.z.f 4 (by simp);have f5:=G.out.z.f 5 (by simp);have f6:=G.out.z.f 6 (by simp);have f7:=G.out.z.f 7 (by simp);have f8:=G.out.z.f 8 (by simp)
 have yz:=G.out.z.ty.lt
 cases hw:p3.wrong
 rotate_left
 ·rw[hw] at q1;have HF:Hid (¬∃b more,Bx.Nx log b more∧((∃h,Bx.IsCh b h)∨∃s,Bx.StFit s∧Bx.wholeS s=b)):=fun ⟨b,more,hN,_⟩=>aD.out.1 hw ⟨b,more,hN⟩
  clear hw;go_wp2_with fail;refine bodyPost_ret (v:=.tuple #[ctV ct0 nilS nilS,.bool false]) (by simp[results,Tryz.results102,go_sem,z0,z1,z2,z3,z4,z5,z6,z7,z8,ct0,Px.st0];rfl) rfl ⟨TakeR.no HF.out,dK G.out.b (Nat.le_refl _) _ _ _ _ _ _ _ _ _⟩
 rw[hw] at q1;have HW:=Hq hw;clear hw;go_upto_region 7 with fail;clear q1 yq;go_wp2_with fail;refine (kp body _ (by unfold maxLen;omega)).mono ?_
 rintro e w4 ⟨rfl,bj⟩;have a5:=bj.symm;subst a5
 by_cases hc:aw=Crc.sumR body
 rotate_left
 ·have HF:Hid (¬∃b more,Bx.Nx log b more∧((∃h,Bx.IsCh b h)∨∃s,Bx.StFit s∧Bx.wholeS s=b)):=fun ⟨b,more,hN,_⟩=>aD.out.2.2 hc ⟨b,more,hN⟩
  have bc:(aw !=Crc.sumR body)=true:=by simpa using hc
  clear hc;generalize Crc.sumR body=sm at *;go_wp2_with fail;refine bodyPost_ret (v:=.tuple #[ctV ct0 nilS nilS,.bool false]) (by simp[results,Tryz.results102,go_sem,z0,z1,z2,z3,z4,z5,z6,z7,z8,ct0,Px.st0];rfl) rfl ⟨TakeR.no HF.out,dK G.out.b (Nat.le_refl _) _ _ _ _ _ _ _ _ _⟩
 obtain⟨hN,a9⟩:=aD.out.2.1 HW.out hc;subst a9;have HN:=Hq hN;have bc:(aw !=Crc.sumR body)=false:=by simpa using hc
 clear hc hN;generalize Crc.sumR body=sm at *;go_wp2_with fail;refine (kD body _ (by omega)).mono ?_
 rintro e Y ⟨hB,aV⟩;have ae:=Hq (G.out.later aV);clear z0 z1 z2 z3 z4 z5 z6 z7 z8 f0 f1 f2 f3 f4 f5 f6 f7 f8 yz aV G
 cases hB with
 | no c sl en n1 n2 ha=>
   obtain⟨⟨ad,U,rfl⟩,⟨Q,J,rfl⟩⟩:=ha
   have HF:Hid (¬∃b more,Bx.Nx log b more∧((∃h,Bx.IsCh b h)∨∃s,Bx.StFit s∧Bx.wholeS s=b)):=by
    rintro ⟨b,more,hN,h⟩;obtain⟨rfl,_⟩:=hN.uniq HN.out
    rcases h with h|h
    ·exact n1 h
    ·exact n2 h
   have aU:Hid (∀o,RT w (Y.alloc o) p3):=fun o=>ae.out.later (dx _ _)
   clear n1 n2;have Z:=(aU.out (.cells (ctC c (.slice ad c.st.slots.length U) (.slice Q c.st.ends.length J)).toArray 163)).z;have a8:Hid (Below w.heap.size w (Y.alloc (.cells (ctC c (.slice ad c.st.slots.length U) (.slice Q c.st.ends.length J)).toArray 163))):=(aU.out _).b;go_upto_region 11 with fail;generalize Y.alloc (.cells #[.string c.kind,.string c.tab,.int .i64 c.num,.string c.st.tab,.int .i64 c.st.clock,.int .i64 c.st.next,.slice ad c.st.slots.length U,.slice Q c.st.ends.length J,.int .i64 c.size] 163)=W5 at *;have z0:=Z.c 0 _ rfl;have z1:=Z.c 1 _ rfl;have z2:=Z.c 2 _ rfl;have z3:=Z.c 3 _ rfl;have z4:=Z.c 4 _ rfl;have z5:=Z.c 5 _ rfl;have z6:=Z.c 6 _ rfl;have z7:=Z.c 7 _ rfl;have z8:=Z.c 8 _ rfl;have f0:=Z.f 0 (by simp);have f1:=Z.f 1 (by simp);have f2:=Z.f 2 (by simp);have f3:=Z.f 3 (by simp);have f4:=Z.f 4 (by simp);have f5:=Z.f 5 (by simp);have f6:=Z.f 6 (by simp);have f7:=Z.f 7 (by simp);have f8:=Z.f 8 (by simp)
   have yz:=Z.ty.lt;clear Z;go_wp2_with fail;refine bodyPost_ret (v:=.tuple #[ctV ct0 nilS nilS,.bool false]) (by simp[results,Tryz.results102,go_sem,z0,z1,z2,z3,z4,z5,z6,z7,z8,ct0,Px.st0];rfl) rfl ⟨TakeR.no HF.out,dK a8.out (Nat.le_refl _) _ _ _ _ _ _ _ _ _⟩
 | ch c h hs hz=>
   have az:=Hq h;have bg:=Hq hs;clear h hs hz;have HY:Hid ((2:Int)+(body.size:Int)+4=(body.size:Int)+6):=by unfold Hid;omega
   have ar:=Cl.new Y (ctC c (.slice none 0 0) (.slice none 0 0)) 163;have au:=ae.out.later (dx Y (.cells (ctC c (.slice none 0 0) (.slice none 0 0)).toArray 163));go_upto_region 13 with fail;have O:Cl (Y.alloc (.cells #[.string c.kind,.string c.tab,.int .i64 c.num,.string c.st.tab,.int .i64 c.st.clock,.int .i64 c.st.next,.slice none 0 0,.slice none 0 0,.int .i64 c.size] 163)) Y.heap.size 163 (ctC c (.slice none 0 0) (.slice none 0 0)):=ar;have aa:RT w (Y.alloc (.cells #[.string c.kind,.string c.tab,.int .i64 c.num,.string c.st.tab,.int .i64 c.st.clock,.int .i64 c.st.next,.slice none 0 0,.slice none 0 0,.int .i64 c.size] 163)) p3:=au;clear ar au;have aA:w.heap.size<Y.heap.size:=ae.out.z.ty.lt;generalize Y.alloc (.cells #[.string c.kind,.string c.tab,.int .i64 c.num,.string c.st.tab,.int .i64 c.st.clock,.int .i64 c.st.next,.slice none 0 0,.slice none 0 0,.int .i64 c.size] 163)=W5 at *;generalize Y.heap.size=cq at *;have s8:=O.c 8 _ rfl;have g8:=O.f 8 (by simp)
   have y8:=O.ty.lt;have I:=O.set 8 (by simp) (.int .i64 (2+(body.size:Int)+4))
   have d:=aa.z.far (g:=cq) (by omega) 8 (.int .i64 (2+(body.size:Int)+4))
   have aB:Hid (Below w.heap.size w (W5.setCell ⟨cq,8,none⟩ (.int .i64 (2+(body.size:Int)+4)))):=aa.b.setCell (Nat.le_of_lt aA) _;clear O aa ae;go_upto_region 14 with fail;clear s8 g8 y8;generalize W5.setCell ⟨cq,8,none⟩ (.int .i64 (2+(body.size:Int)+4))=W6 at *;have x0:=I.c 0 _ rfl;have x1:=I.c 1 _ rfl;have x2:=I.c 2 _ rfl;have x3:=I.c 3 _ rfl;have x4:=I.c 4 _ rfl;have x5:=I.c 5 _ rfl;have x6:=I.c 6 _ rfl;have x7:=I.c 7 _ rfl;have x8:=I.c 8 _ rfl;have z0:=d.c 0 _ rfl;have z1:=d.c 1 _ rfl;have z2:=d.c 2 _ rfl;have z3:=d.c 3 _ rfl;have z4:=d.c 4 _ rfl;have z5:=d.c 5 _ rfl;have z6:=d.c 6 _ rfl;have z7:=d.c 7 _ rfl;have z8:=d.c 8 _ rfl;have f0:=d.f 0 (by simp);have f1:=d.f 1 (by simp);have f2:=d.f 2 (by simp);have f3:=d.f 3 (by simp);have f4:=d.f 4 (by simp);have f5:=d.f 5 (by simp);have f6:=d.f 6 (by simp);have f7:=d.f 7 (by simp);have f8:=d.f 8 (by simp)
   have yz:=d.ty.lt;have yx:=I.ty.lt;have aT:=Hq d.ty;clear I d;go_wp2_with fail;refine bodyPost_ret (v:=.tuple #[ctV ⟨c.kind,c.tab,c.num,c.st,2+(body.size:Int)+4⟩ (.slice none 0 0) (.slice none 0 0),.bool true]) (by simp[results,Tryz.results102,go_sem,z0,z1,z2,z3,z4,z5,z6,z7,z8]) rfl ⟨TakeR.ch body p3.rest _ HN.out az.out bg.out HY.out,dK aB.out (Nat.le_refl _) _ _ _ _ _ _ _ _ _⟩
 | wh c sl en h hz ha=>
   obtain⟨ad,U,rfl,_⟩:=ha.sl.form;obtain⟨Q,J,rfl,_⟩:=ha.en.form;have az:=Hq h;have aS:Hid (∀o,PAt (Y.alloc o) c.st (.slice ad c.st.slots.length U) (.slice Q c.st.ends.length J)):=fun o=>ha.later (dx _ _)
   clear h hz ha;have HY:Hid ((2:Int)+(body.size:Int)+4=(body.size:Int)+6):=by unfold Hid;omega
   have ar:=Cl.new Y (ctC c (.slice ad c.st.slots.length U) (.slice Q c.st.ends.length J)) 163;have au:=ae.out.later (dx Y (.cells (ctC c (.slice ad c.st.slots.length U) (.slice Q c.st.ends.length J)).toArray 163));go_upto_region 13 with fail;have O:Cl (Y.alloc (.cells #[.string c.kind,.string c.tab,.int .i64 c.num,.string c.st.tab,.int .i64 c.st.clock,.int .i64 c.st.next,(.slice ad c.st.slots.length U),(.slice Q c.st.ends.length J),.int .i64 c.size] 163)) Y.heap.size 163 (ctC c (.slice ad c.st.slots.length U) (.slice Q c.st.ends.length J)):=ar;have aa:RT w (Y.alloc (.cells #[.string c.kind,.string c.tab,.int .i64 c.num,.string c.st.tab,.int .i64 c.st.clock,.int .i64 c.st.next,(.slice ad c.st.slots.length U),(.slice Q c.st.ends.length J),.int .i64 c.size] 163)) p3:=au;have aF:PAt (Y.alloc (.cells #[.string c.kind,.string c.tab,.int .i64 c.num,.string c.st.tab,.int .i64 c.st.clock,.int .i64 c.st.next,(.slice ad c.st.slots.length U),(.slice Q c.st.ends.length J),.int .i64 c.size] 163)) c.st (.slice ad c.st.slots.length U) (.slice Q c.st.ends.length J):=aS.out _;clear ar au aS;have aA:w.heap.size<Y.heap.size:=ae.out.z.ty.lt;generalize Y.alloc (.cells #[.string c.kind,.string c.tab,.int .i64 c.num,.string c.st.tab,.int .i64 c.st.clock,.int .i64 c.st.next,(.slice ad c.st.slots.length U),(.slice Q c.st.ends.length J),.int .i64 c.size] 163)=W5 at *;generalize Y.heap.size=cq at *;have s8:=O.c 8 _ rfl;have g8:=O.f 8 (by simp)
   have y8:=O.ty.lt;have a7:Hid (PAt (W5.setCell ⟨cq,8,none⟩ (.int .i64 (2+(body.size:Int)+4))) c.st (.slice ad c.st.slots.length U) (.slice Q c.st.ends.length J)):=aF.set O.ty (by decide) (by decide) _ _
   have I:=O.set 8 (by simp) (.int .i64 (2+(body.size:Int)+4))
   have d:=aa.z.far (g:=cq) (by omega) 8 (.int .i64 (2+(body.size:Int)+4))
   have aB:Hid (Below w.heap.size w (W5.setCell ⟨cq,8,none⟩ (.int .i64 (2+(body.size:Int)+4)))):=aa.b.setCell (Nat.le_of_lt aA) _;clear O aa ae aF;go_upto_region 14 with fail;clear s8 g8 y8;generalize W5.setCell ⟨cq,8,none⟩ (.int .i64 (2+(body.size:Int)+4))=W6 at *;have x0:=I.c 0 _ rfl;have x1:=I.c 1 _ rfl;have x2:=I.c 2 _ rfl;have x3:=I.c 3 _ rfl;have x4:=I.c 4 _ rfl;have x5:=I.c 5 _ rfl;have x6:=I.c 6 _ rfl;have x7:=I.c 7 _ rfl;have x8:=I.c 8 _ rfl;have z0:=d.c 0 _ rfl;have z1:=d.c 1 _ rfl;have z2:=d.c 2 _ rfl;have z3:=d.c 3 _ rfl;have z4:=d.c 4 _ rfl;have z5:=d.c 5 _ rfl;have z6:=d.c 6 _ rfl;have z7:=d.c 7 _ rfl;have z8:=d.c 8 _ rfl;have f0:=d.f 0 (by simp);have f1:=d.f 1 (by simp);have f2:=d.f 2 (by simp);have f3:=d.f 3 (by simp);have f4:=d.f 4 (by simp);have f5:=d.f 5 (by simp);have f6:=d.f 6 (by simp);have f7:=d.f 7 (by simp);have f8:=d.f 8 (by simp)
   have yz:=d.ty.lt;have yx:=I.ty.lt;have aT:=Hq d.ty;clear I d;go_wp2_with fail;refine bodyPost_ret (v:=.tuple #[ctV ⟨c.kind,c.tab,c.num,c.st,2+(body.size:Int)+4⟩ (.slice ad c.st.slots.length U) (.slice Q c.st.ends.length J),.bool true]) (by simp[results,Tryz.results102,go_sem,z0,z1,z2,z3,z4,z5,z6,z7,z8]) rfl ⟨TakeR.wh body p3.rest _ _ _ HN.out az.out HY.out (a7.out.store9 aT.out _ _ _ _ _ _ _ _ _),dK aB.out (Nat.le_refl _) _ _ _ _ _ _ _ _ _⟩
structure RC (w W:World) (s:Px.St) (sl en:Value) (c:Ct) (csl cen:Value):Prop where
 s:Cl W w.heap.size 77 [.string s.tab,.int .i64 s.clock,.int .i64 s.next,sl,en]
 c:Cl W (w.heap.size+1) 163 (ctC c csl cen)
 z:Cl W (w.heap.size+2) 77 [.string {data:= #[]},.int .i64 0,.int .i64 0,.slice none 0 0,.slice none 0 0]
 b:Below w.heap.size w W
theorem RC.new (w:World) (s:Px.St) (sl en:Value) (c:Ct) (e d:Value):RC w (((w.alloc (.cells [.string s.tab,.int .i64 s.clock,.int .i64 s.next,sl,en].toArray 77)).alloc (.cells (ctC c e d).toArray 163)).alloc (.cells [.string {data:= #[]},.int .i64 0,.int .i64 0,.slice none 0 0,.slice none 0 0].toArray 77)) s sl en c e d:=by
 have b1:=dx w (.cells [.string s.tab,.int .i64 s.clock,.int .i64 s.next,sl,en].toArray 77);have Q:(w.alloc (.cells [.string s.tab,.int .i64 s.clock,.int .i64 s.next,sl,en].toArray 77)).heap.size=w.heap.size+1:=by simp
 have J:=dx (w.alloc (.cells [.string s.tab,.int .i64 s.clock,.int .i64 s.next,sl,en].toArray 77)) (.cells (ctC c e d).toArray 163);have I:((w.alloc (.cells [.string s.tab,.int .i64 s.clock,.int .i64 s.next,sl,en].toArray 77)).alloc (.cells (ctC c e d).toArray 163)).heap.size=w.heap.size+2:=by simp
 have G:=dx ((w.alloc (.cells [.string s.tab,.int .i64 s.clock,.int .i64 s.next,sl,en].toArray 77)).alloc (.cells (ctC c e d).toArray 163)) (.cells [.string {data:= #[]},.int .i64 0,.int .i64 0,.slice none 0 0,.slice none 0 0].toArray 77);have n2:=Cl.new (w.alloc (.cells [.string s.tab,.int .i64 s.clock,.int .i64 s.next,sl,en].toArray 77)) (ctC c e d) 163;have O:=Cl.new ((w.alloc (.cells [.string s.tab,.int .i64 s.clock,.int .i64 s.next,sl,en].toArray 77)).alloc (.cells (ctC c e d).toArray 163)) [.string {data:= #[]},.int .i64 0,.int .i64 0,.slice none 0 0,.slice none 0 0] 77;rw[Q] at n2;rw[I] at O;exact⟨((Cl.new w [.string s.tab,.int .i64 s.clock,.int .i64 s.next,sl,en] 77).later J).later G,n2.later G,O,(b1.trans (J.mono b1.size)).trans (G.mono (by rw[I];omega))⟩
theorem RC.later {w W W':World}{s:Px.St}{sl en:Value}{c:Ct}{e d:Value} (h:RC w W s sl en c e d) (hb:Below W.heap.size W W'):RC w W' s sl en c e d:=⟨h.s.later hb,h.c.later hb,h.z.later hb,h.b.trans (hb.mono h.b.size)⟩
theorem dL {n R:Nat}{w d:World} (h:Below n w d) (hR:n≤R) (J O e I G:Value):Below n w (((((d.setCell ⟨R,0,none⟩ J).setCell ⟨R,1,none⟩ O).setCell ⟨R,2,none⟩ e).setCell ⟨R,3,none⟩ I).setCell ⟨R,4,none⟩ G):=by
 repeat (refine Below.setCell ?_ hR _)
 exact h
theorem gz {d:ByteArray}{k:Int} (h:d=Bx.b1 k) (h0:0≤k) (h1:k<256) (n:UInt8) (e:k=(n.toNat:Int)):(d.toList==[n])=true:=by subst h;exact fA ((dC k h0 h1 n).2 e)
theorem dP {d:ByteArray}{k:Int} (h:d=Bx.b1 k) (h0:0≤k) (h1:k<256) (n:UInt8) (e:¬k=(n.toNat:Int)):(d.toList==[n])=false:=by subst h;exact dD (l:=[n]) (fun q=>e ((dC k h0 h1 n).1 q))
set_option maxRecDepth 10000 in
set_option maxHeartbeats 0 in
theorem qi (s:Px.St) (sl en:Value) (c:Ct) (ah ai:Value) (_t:ByteArray) (w:World) (hO:Px.Ok s) (hT:TabLH w) (hM:Tab w) (hS:PAt w s sl en) (hf:(∃U I,ah=.slice U c.st.slots.length I)∧∃U I,ai=.slice U c.st.ends.length I) (ag:c.tab.size≤maxLen) (V:c.kind=Bx.b1 84):
 Calls Tryz.prog 136 #[pstV s sl en,ctV c ah ai] w fun e w'=>(∃p,ChgR p w' e∧Px.ChM s ⟨84,c.tab,c.num⟩ p)∧Below w.heap.size w w':=by
 obtain⟨U,I,rfl,aP⟩:=hS.sl.form;obtain⟨ab,J,rfl,aI⟩:=hS.en.form;obtain⟨⟨aa,O,rfl⟩,⟨Z,Q,rfl⟩⟩:=hf;have aF:(c.kind.toList==[84])=true:=gz V (by decide) (by decide) 84 (by decide)
 have ax:(c.kind.toList==[67])=false:=dP V (by decide) (by decide) 67 (by decide)
 have aH:(c.kind.toList==[83])=false:=dP V (by decide) (by decide) 83 (by decide)
 have ap:(c.kind.toList==[68])=false:=dP V (by decide) (by decide) 68 (by decide)
 have av:(c.kind.toList==[70])=false:=dP V (by decide) (by decide) 70 (by decide)
 have au:(c.kind.toList==[75])=false:=dP V (by decide) (by decide) 75 (by decide)
 have hl:s.slots.length≤8:=hO.len;have a4:s.ends.length≤6:=hO.st.en;have HO:=Hq hO;have al:=Hq ag;have hR:=RC.new w s (.slice U s.slots.length I) (.slice ab s.ends.length J) c (.slice aa c.st.slots.length O) (.slice Z c.st.ends.length Q);clear V ag
 go_enter Tryz.func136,Tryz.ntmps136
 go_upto_region 1 with fail;have d:RC w (((w.alloc (.cells #[.string s.tab,.int .i64 s.clock,.int .i64 s.next,.slice U s.slots.length I,.slice ab s.ends.length J] 77)).alloc (.cells #[.string c.kind,.string c.tab,.int .i64 c.num,.string c.st.tab,.int .i64 c.st.clock,.int .i64 c.st.next,.slice aa c.st.slots.length O,.slice Z c.st.ends.length Q,.int .i64 c.size] 163)).alloc (.cells #[.string {data:= #[]},.int .i64 0,.int .i64 0,.slice none 0 0,.slice none 0 0] 77)) s (.slice U s.slots.length I) (.slice ab s.ends.length J) c (.slice aa c.st.slots.length O) (.slice Z c.st.ends.length Q):=hR;clear hR;generalize ((w.alloc (.cells #[.string s.tab,.int .i64 s.clock,.int .i64 s.next,.slice U s.slots.length I,.slice ab s.ends.length J] 77)).alloc (.cells #[.string c.kind,.string c.tab,.int .i64 c.num,.string c.st.tab,.int .i64 c.st.clock,.int .i64 c.st.next,.slice aa c.st.slots.length O,.slice Z c.st.ends.length Q,.int .i64 c.size] 163)).alloc (.cells #[.string {data:= #[]},.int .i64 0,.int .i64 0,.slice none 0 0,.slice none 0 0] 77)=W at *;have HR:=Hq d;have HT:=Hq (hT.later d.b);have HM:=Hq (hM.later d.b);have ar:=Hq (hS.later d.b);have i0:=d.s.c 0 _ rfl;have i1:=d.s.c 1 _ rfl;have i2:=d.s.c 2 _ rfl;have i3:=d.s.c 3 _ rfl;have i4:=d.s.c 4 _ rfl;have x0:=d.c.c 0 _ rfl;have x1:=d.c.c 1 _ rfl;have x2:=d.c.c 2 _ rfl;have yi:=d.s.ty.lt;have yx:=d.c.ty.lt;clear d hO hT hM hS;go_wp2_with fail;refine (iD s c.tab _ _ _ al.out HT.out (by omega) (ar.out)).mono ?_
 rintro e w1 ⟨⟨a,r,ac,a6,a5,rfl,Y⟩,af⟩;have ao:Hid (Px.ChM s ⟨84,c.tab,c.num⟩ (tabC s c.tab r)):=Px.chm_tab HO.out ac;generalize tabC s c.tab r=p at *;clear ac;obtain⟨az,aj,aB,_⟩:=Y.sl.form;obtain⟨am,ak,aC,_⟩:=Y.en.form;subst aB aC;have G:=HR.out.later af;have aE:=Hq Y;have z0:=G.z.c 0 _ rfl;have z1:=G.z.c 1 _ rfl;have z2:=G.z.c 2 _ rfl;have z3:=G.z.c 3 _ rfl;have z4:=G.z.c 4 _ rfl;have f0:=G.z.f 0 (by simp);have f1:=G.z.f 1 (by simp);have f2:=G.z.f 2 (by simp);have f3:=G.z.f 3 (by simp);have f4:=G.z.f 4 (by simp)
 have yz:=G.z.ty.lt;have aG:Hid (Below w.heap.size w w1):=G.b;have aq:Hid (Typed w1 (w.heap.size+2) 77):=G.z.ty;clear Y af G HR i0 i1 i2 i3 i4 x0 x1 x2 yi yx aF ax aH ap av au;go_wp2_with fail;refine bodyPost_ret (v:=.tuple #[pstV p.1 (.slice az p.1.slots.length aj) (.slice am p.1.ends.length ak),.int .i64 p.2]) (by simp[results,Tryz.results136,go_sem,z0,z1,z2,z3,z4]) rfl ⟨⟨p,⟨_,_,rfl,aE.out.store aq.out _ _ _ _ _⟩,ao.out⟩,dL aG.out (by omega) _ _ _ _ _⟩
set_option maxRecDepth 10000 in
set_option maxHeartbeats 0 in
theorem qB (s:Px.St) (sl en:Value) (c:Ct) (ag ah:Value) (t:ByteArray) (w:World) (hO:Px.Ok s) (hT:TabLH w) (hM:Tab w) (hS:PAt w s sl en) (hf:(∃U I,ag=.slice U c.st.slots.length I)∧∃U I,ah=.slice U c.st.ends.length I) (af:c.tab.size≤maxLen) (V:c.kind=Bx.b1 67):
 Calls Tryz.prog 136 #[pstV s sl en,ctV c ag ah] w fun e w'=>(∃p,ChgR p w' e∧Px.ChM s ⟨67,t,c.num⟩ p)∧Below w.heap.size w w':=by
 obtain⟨U,I,rfl,aN⟩:=hS.sl.form;obtain⟨ab,J,rfl,aH⟩:=hS.en.form;obtain⟨⟨aa,O,rfl⟩,⟨Z,Q,rfl⟩⟩:=hf;have aC:(c.kind.toList==[84])=false:=dP V (by decide) (by decide) 84 (by decide)
 have aw:(c.kind.toList==[67])=true:=gz V (by decide) (by decide) 67 (by decide)
 have aG:(c.kind.toList==[83])=false:=dP V (by decide) (by decide) 83 (by decide)
 have am:(c.kind.toList==[68])=false:=dP V (by decide) (by decide) 68 (by decide)
 have au:(c.kind.toList==[70])=false:=dP V (by decide) (by decide) 70 (by decide)
 have ar:(c.kind.toList==[75])=false:=dP V (by decide) (by decide) 75 (by decide)
 have hl:s.slots.length≤8:=hO.len;have a4:s.ends.length≤6:=hO.st.en;have HO:=Hq hO;have a3:=Hq af;have hR:=RC.new w s (.slice U s.slots.length I) (.slice ab s.ends.length J) c (.slice aa c.st.slots.length O) (.slice Z c.st.ends.length Q);clear V af
 go_enter Tryz.func136,Tryz.ntmps136
 go_upto_region 1 with fail;have d:RC w (((w.alloc (.cells #[.string s.tab,.int .i64 s.clock,.int .i64 s.next,.slice U s.slots.length I,.slice ab s.ends.length J] 77)).alloc (.cells #[.string c.kind,.string c.tab,.int .i64 c.num,.string c.st.tab,.int .i64 c.st.clock,.int .i64 c.st.next,.slice aa c.st.slots.length O,.slice Z c.st.ends.length Q,.int .i64 c.size] 163)).alloc (.cells #[.string {data:= #[]},.int .i64 0,.int .i64 0,.slice none 0 0,.slice none 0 0] 77)) s (.slice U s.slots.length I) (.slice ab s.ends.length J) c (.slice aa c.st.slots.length O) (.slice Z c.st.ends.length Q):=hR;clear hR;generalize ((w.alloc (.cells #[.string s.tab,.int .i64 s.clock,.int .i64 s.next,.slice U s.slots.length I,.slice ab s.ends.length J] 77)).alloc (.cells #[.string c.kind,.string c.tab,.int .i64 c.num,.string c.st.tab,.int .i64 c.st.clock,.int .i64 c.st.next,.slice aa c.st.slots.length O,.slice Z c.st.ends.length Q,.int .i64 c.size] 163)).alloc (.cells #[.string {data:= #[]},.int .i64 0,.int .i64 0,.slice none 0 0,.slice none 0 0] 77)=W at *;have HR:=Hq d;have HT:=Hq (hT.later d.b);have HM:=Hq (hM.later d.b);have aq:=Hq (hS.later d.b);have i0:=d.s.c 0 _ rfl;have i1:=d.s.c 1 _ rfl;have i2:=d.s.c 2 _ rfl;have i3:=d.s.c 3 _ rfl;have i4:=d.s.c 4 _ rfl;have x0:=d.c.c 0 _ rfl;have x1:=d.c.c 1 _ rfl;have x2:=d.c.c 2 _ rfl;have yi:=d.s.ty.lt;have yx:=d.c.ty.lt;clear d hO hT hM hS;go_wp2_with fail;refine (gK s c.num _ _ _ HO.out HT.out HM.out (aq.out)).mono ?_;rintro e w1 ⟨⟨a6,a5,rfl,Y⟩,ae⟩;have al:Hid (Px.ChM s ⟨67,t,c.num⟩ (Px.clockP s c.num)):=Px.chm_clock HO.out t c.num;generalize Px.clockP s c.num=p at *;obtain⟨ay,ai,aA,_⟩:=Y.sl.form;obtain⟨ak,aj,aB,_⟩:=Y.en.form;subst aA aB;have G:=HR.out.later ae;have aE:=Hq Y;have z0:=G.z.c 0 _ rfl;have z1:=G.z.c 1 _ rfl;have z2:=G.z.c 2 _ rfl;have z3:=G.z.c 3 _ rfl;have z4:=G.z.c 4 _ rfl;have f0:=G.z.f 0 (by simp);have f1:=G.z.f 1 (by simp);have f2:=G.z.f 2 (by simp);have f3:=G.z.f 3 (by simp);have f4:=G.z.f 4 (by simp)
 have yz:=G.z.ty.lt;have aF:Hid (Below w.heap.size w w1):=G.b;have ap:Hid (Typed w1 (w.heap.size+2) 77):=G.z.ty;clear Y ae G HR i0 i1 i2 i3 i4 x0 x1 x2 yi yx aC aw aG am au ar;go_wp2_with fail;refine bodyPost_ret (v:=.tuple #[pstV p.1 (.slice ay p.1.slots.length ai) (.slice ak p.1.ends.length aj),.int .i64 p.2]) (by simp[results,Tryz.results136,go_sem,z0,z1,z2,z3,z4]) rfl ⟨⟨p,⟨_,_,rfl,aE.out.store ap.out _ _ _ _ _⟩,al.out⟩,dL aF.out (by omega) _ _ _ _ _⟩
set_option maxRecDepth 10000 in
set_option maxHeartbeats 0 in
theorem qw (s:Px.St) (sl en:Value) (c:Ct) (ag ah:Value) (t:ByteArray) (w:World) (hO:Px.Ok s) (hT:TabLH w) (hM:Tab w) (hS:PAt w s sl en) (hf:(∃U I,ag=.slice U c.st.slots.length I)∧∃U I,ah=.slice U c.st.ends.length I) (af:c.tab.size≤maxLen) (V:c.kind=Bx.b1 83):
 Calls Tryz.prog 136 #[pstV s sl en,ctV c ag ah] w fun e w'=>(∃p,ChgR p w' e∧Px.ChM s ⟨83,t,c.num⟩ p)∧Below w.heap.size w w':=by
 obtain⟨U,I,rfl,aN⟩:=hS.sl.form;obtain⟨ab,J,rfl,aH⟩:=hS.en.form;obtain⟨⟨aa,O,rfl⟩,⟨Z,Q,rfl⟩⟩:=hf;have aC:(c.kind.toList==[84])=false:=dP V (by decide) (by decide) 84 (by decide)
 have aw:(c.kind.toList==[67])=false:=dP V (by decide) (by decide) 67 (by decide)
 have aG:(c.kind.toList==[83])=true:=gz V (by decide) (by decide) 83 (by decide)
 have am:(c.kind.toList==[68])=false:=dP V (by decide) (by decide) 68 (by decide)
 have au:(c.kind.toList==[70])=false:=dP V (by decide) (by decide) 70 (by decide)
 have ar:(c.kind.toList==[75])=false:=dP V (by decide) (by decide) 75 (by decide)
 have hl:s.slots.length≤8:=hO.len;have a3:s.ends.length≤6:=hO.st.en;have HO:=Hq hO;have a2:=Hq af;have hR:=RC.new w s (.slice U s.slots.length I) (.slice ab s.ends.length J) c (.slice aa c.st.slots.length O) (.slice Z c.st.ends.length Q);clear V af
 go_enter Tryz.func136,Tryz.ntmps136
 go_upto_region 1 with fail;have d:RC w (((w.alloc (.cells #[.string s.tab,.int .i64 s.clock,.int .i64 s.next,.slice U s.slots.length I,.slice ab s.ends.length J] 77)).alloc (.cells #[.string c.kind,.string c.tab,.int .i64 c.num,.string c.st.tab,.int .i64 c.st.clock,.int .i64 c.st.next,.slice aa c.st.slots.length O,.slice Z c.st.ends.length Q,.int .i64 c.size] 163)).alloc (.cells #[.string {data:= #[]},.int .i64 0,.int .i64 0,.slice none 0 0,.slice none 0 0] 77)) s (.slice U s.slots.length I) (.slice ab s.ends.length J) c (.slice aa c.st.slots.length O) (.slice Z c.st.ends.length Q):=hR;clear hR;generalize ((w.alloc (.cells #[.string s.tab,.int .i64 s.clock,.int .i64 s.next,.slice U s.slots.length I,.slice ab s.ends.length J] 77)).alloc (.cells #[.string c.kind,.string c.tab,.int .i64 c.num,.string c.st.tab,.int .i64 c.st.clock,.int .i64 c.st.next,.slice aa c.st.slots.length O,.slice Z c.st.ends.length Q,.int .i64 c.size] 163)).alloc (.cells #[.string {data:= #[]},.int .i64 0,.int .i64 0,.slice none 0 0,.slice none 0 0] 77)=W at *;have HR:=Hq d;have HT:=Hq (hT.later d.b);have HM:=Hq (hM.later d.b);have aq:=Hq (hS.later d.b);have i0:=d.s.c 0 _ rfl;have i1:=d.s.c 1 _ rfl;have i2:=d.s.c 2 _ rfl;have i3:=d.s.c 3 _ rfl;have i4:=d.s.c 4 _ rfl;have x0:=d.c.c 0 _ rfl;have x1:=d.c.c 1 _ rfl;have x2:=d.c.c 2 _ rfl;have yi:=d.s.ty.lt;have yx:=d.c.ty.lt;clear d hO hT hM hS;go_wp2_with fail;refine (gP s c.num _ _ _ HO.out HT.out (aq.out)).mono ?_;rintro e w1 ⟨⟨a5,a4,rfl,Y⟩,ae⟩;have al:Hid (Px.ChM s ⟨83,t,c.num⟩ (Px.startP s c.num)):=Px.chm_start HO.out t c.num;generalize Px.startP s c.num=p at *;obtain⟨ay,ai,aA,_⟩:=Y.sl.form;obtain⟨ak,aj,aB,_⟩:=Y.en.form;subst aA aB;have G:=HR.out.later ae;have aE:=Hq Y;have z0:=G.z.c 0 _ rfl;have z1:=G.z.c 1 _ rfl;have z2:=G.z.c 2 _ rfl;have z3:=G.z.c 3 _ rfl;have z4:=G.z.c 4 _ rfl;have f0:=G.z.f 0 (by simp);have f1:=G.z.f 1 (by simp);have f2:=G.z.f 2 (by simp);have f3:=G.z.f 3 (by simp);have f4:=G.z.f 4 (by simp)
 have yz:=G.z.ty.lt;have aF:Hid (Below w.heap.size w w1):=G.b;have ap:Hid (Typed w1 (w.heap.size+2) 77):=G.z.ty;clear Y ae G HR i0 i1 i2 i3 i4 x0 x1 x2 yi yx aC aw aG am au ar;go_wp2_with fail;refine bodyPost_ret (v:=.tuple #[pstV p.1 (.slice ay p.1.slots.length ai) (.slice ak p.1.ends.length aj),.int .i64 p.2]) (by simp[results,Tryz.results136,go_sem,z0,z1,z2,z3,z4]) rfl ⟨⟨p,⟨_,_,rfl,aE.out.store ap.out _ _ _ _ _⟩,al.out⟩,dL aF.out (by omega) _ _ _ _ _⟩
set_option maxRecDepth 10000 in
set_option maxHeartbeats 0 in
theorem pV (s:Px.St) (sl en:Value) (c:Ct) (ag ah:Value) (t:ByteArray) (w:World) (hO:Px.Ok s) (hT:TabLH w) (hM:Tab w) (hS:PAt w s sl en) (hf:(∃U I,ag=.slice U c.st.slots.length I)∧∃U I,ah=.slice U c.st.ends.length I) (af:c.tab.size≤maxLen) (V:c.kind=Bx.b1 68):
 Calls Tryz.prog 136 #[pstV s sl en,ctV c ag ah] w fun e w'=>(∃p,ChgR p w' e∧Px.ChM s ⟨68,t,c.num⟩ p)∧Below w.heap.size w w':=by
 obtain⟨U,I,rfl,aN⟩:=hS.sl.form;obtain⟨ab,J,rfl,aG⟩:=hS.en.form;obtain⟨⟨aa,O,rfl⟩,⟨Z,Q,rfl⟩⟩:=hf;have aB:(c.kind.toList==[84])=false:=dP V (by decide) (by decide) 84 (by decide)
 have av:(c.kind.toList==[67])=false:=dP V (by decide) (by decide) 67 (by decide)
 have aF:(c.kind.toList==[83])=false:=dP V (by decide) (by decide) 83 (by decide)
 have am:(c.kind.toList==[68])=true:=gz V (by decide) (by decide) 68 (by decide)
 have ar:(c.kind.toList==[70])=false:=dP V (by decide) (by decide) 70 (by decide)
 have aq:(c.kind.toList==[75])=false:=dP V (by decide) (by decide) 75 (by decide)
 have hl:s.slots.length≤8:=hO.len;have a2:s.ends.length≤6:=hO.st.en;have HO:=Hq hO;have aZ:=Hq af;have hR:=RC.new w s (.slice U s.slots.length I) (.slice ab s.ends.length J) c (.slice aa c.st.slots.length O) (.slice Z c.st.ends.length Q);clear V af
 go_enter Tryz.func136,Tryz.ntmps136
 go_upto_region 1 with fail;have d:RC w (((w.alloc (.cells #[.string s.tab,.int .i64 s.clock,.int .i64 s.next,.slice U s.slots.length I,.slice ab s.ends.length J] 77)).alloc (.cells #[.string c.kind,.string c.tab,.int .i64 c.num,.string c.st.tab,.int .i64 c.st.clock,.int .i64 c.st.next,.slice aa c.st.slots.length O,.slice Z c.st.ends.length Q,.int .i64 c.size] 163)).alloc (.cells #[.string {data:= #[]},.int .i64 0,.int .i64 0,.slice none 0 0,.slice none 0 0] 77)) s (.slice U s.slots.length I) (.slice ab s.ends.length J) c (.slice aa c.st.slots.length O) (.slice Z c.st.ends.length Q):=hR;clear hR;generalize ((w.alloc (.cells #[.string s.tab,.int .i64 s.clock,.int .i64 s.next,.slice U s.slots.length I,.slice ab s.ends.length J] 77)).alloc (.cells #[.string c.kind,.string c.tab,.int .i64 c.num,.string c.st.tab,.int .i64 c.st.clock,.int .i64 c.st.next,.slice aa c.st.slots.length O,.slice Z c.st.ends.length Q,.int .i64 c.size] 163)).alloc (.cells #[.string {data:= #[]},.int .i64 0,.int .i64 0,.slice none 0 0,.slice none 0 0] 77)=W at *;have HR:=Hq d;have HT:=Hq (hT.later d.b);have HM:=Hq (hM.later d.b);have ap:=Hq (hS.later d.b);have i0:=d.s.c 0 _ rfl;have i1:=d.s.c 1 _ rfl;have i2:=d.s.c 2 _ rfl;have i3:=d.s.c 3 _ rfl;have i4:=d.s.c 4 _ rfl;have x0:=d.c.c 0 _ rfl;have x1:=d.c.c 1 _ rfl;have x2:=d.c.c 2 _ rfl;have yi:=d.s.ty.lt;have yx:=d.c.ty.lt;clear d hO hT hM hS;go_wp2_with fail;refine (gR s c.num _ _ _ (by omega) (by omega) (ap.out)).mono ?_
 rintro e w1 ⟨⟨a4,a3,rfl,Y⟩,ae⟩;have al:Hid (Px.ChM s ⟨68,t,c.num⟩ (Px.doneP s c.num)):=Px.chm_done HO.out t c.num;generalize Px.doneP s c.num=p at *;obtain⟨ax,ai,az,_⟩:=Y.sl.form;obtain⟨ak,aj,aA,_⟩:=Y.en.form;subst az aA;have G:=HR.out.later ae;have aD:=Hq Y;have z0:=G.z.c 0 _ rfl;have z1:=G.z.c 1 _ rfl;have z2:=G.z.c 2 _ rfl;have z3:=G.z.c 3 _ rfl;have z4:=G.z.c 4 _ rfl;have f0:=G.z.f 0 (by simp);have f1:=G.z.f 1 (by simp);have f2:=G.z.f 2 (by simp);have f3:=G.z.f 3 (by simp);have f4:=G.z.f 4 (by simp)
 have yz:=G.z.ty.lt;have aE:Hid (Below w.heap.size w w1):=G.b;have ao:Hid (Typed w1 (w.heap.size+2) 77):=G.z.ty;clear Y ae G HR i0 i1 i2 i3 i4 x0 x1 x2 yi yx aB av aF am ar aq;go_wp2_with fail;refine bodyPost_ret (v:=.tuple #[pstV p.1 (.slice ax p.1.slots.length ai) (.slice ak p.1.ends.length aj),.int .i64 p.2]) (by simp[results,Tryz.results136,go_sem,z0,z1,z2,z3,z4]) rfl ⟨⟨p,⟨_,_,rfl,aD.out.store ao.out _ _ _ _ _⟩,al.out⟩,dL aE.out (by omega) _ _ _ _ _⟩
set_option maxRecDepth 10000 in
set_option maxHeartbeats 0 in
theorem p5 (s:Px.St) (sl en:Value) (c:Ct) (ag ah:Value) (t:ByteArray) (w:World) (hO:Px.Ok s) (hT:TabLH w) (hM:Tab w) (hS:PAt w s sl en) (hf:(∃U I,ag=.slice U c.st.slots.length I)∧∃U I,ah=.slice U c.st.ends.length I) (af:c.tab.size≤maxLen) (V:c.kind=Bx.b1 70):
 Calls Tryz.prog 136 #[pstV s sl en,ctV c ag ah] w fun e w'=>(∃p,ChgR p w' e∧Px.ChM s ⟨70,t,c.num⟩ p)∧Below w.heap.size w w':=by
 obtain⟨U,I,rfl,aN⟩:=hS.sl.form;obtain⟨ab,J,rfl,aH⟩:=hS.en.form;obtain⟨⟨aa,O,rfl⟩,⟨Z,Q,rfl⟩⟩:=hf;have aC:(c.kind.toList==[84])=false:=dP V (by decide) (by decide) 84 (by decide)
 have aw:(c.kind.toList==[67])=false:=dP V (by decide) (by decide) 67 (by decide)
 have aG:(c.kind.toList==[83])=false:=dP V (by decide) (by decide) 83 (by decide)
 have am:(c.kind.toList==[68])=false:=dP V (by decide) (by decide) 68 (by decide)
 have au:(c.kind.toList==[70])=true:=gz V (by decide) (by decide) 70 (by decide)
 have ar:(c.kind.toList==[75])=false:=dP V (by decide) (by decide) 75 (by decide)
 have hl:s.slots.length≤8:=hO.len;have a3:s.ends.length≤6:=hO.st.en;have HO:=Hq hO;have a2:=Hq af;have hR:=RC.new w s (.slice U s.slots.length I) (.slice ab s.ends.length J) c (.slice aa c.st.slots.length O) (.slice Z c.st.ends.length Q);clear V af
 go_enter Tryz.func136,Tryz.ntmps136
 go_upto_region 1 with fail;have d:RC w (((w.alloc (.cells #[.string s.tab,.int .i64 s.clock,.int .i64 s.next,.slice U s.slots.length I,.slice ab s.ends.length J] 77)).alloc (.cells #[.string c.kind,.string c.tab,.int .i64 c.num,.string c.st.tab,.int .i64 c.st.clock,.int .i64 c.st.next,.slice aa c.st.slots.length O,.slice Z c.st.ends.length Q,.int .i64 c.size] 163)).alloc (.cells #[.string {data:= #[]},.int .i64 0,.int .i64 0,.slice none 0 0,.slice none 0 0] 77)) s (.slice U s.slots.length I) (.slice ab s.ends.length J) c (.slice aa c.st.slots.length O) (.slice Z c.st.ends.length Q):=hR;clear hR;generalize ((w.alloc (.cells #[.string s.tab,.int .i64 s.clock,.int .i64 s.next,.slice U s.slots.length I,.slice ab s.ends.length J] 77)).alloc (.cells #[.string c.kind,.string c.tab,.int .i64 c.num,.string c.st.tab,.int .i64 c.st.clock,.int .i64 c.st.next,.slice aa c.st.slots.length O,.slice Z c.st.ends.length Q,.int .i64 c.size] 163)).alloc (.cells #[.string {data:= #[]},.int .i64 0,.int .i64 0,.slice none 0 0,.slice none 0 0] 77)=W at *;have HR:=Hq d;have HT:=Hq (hT.later d.b);have HM:=Hq (hM.later d.b);have aq:=Hq (hS.later d.b);have i0:=d.s.c 0 _ rfl;have i1:=d.s.c 1 _ rfl;have i2:=d.s.c 2 _ rfl;have i3:=d.s.c 3 _ rfl;have i4:=d.s.c 4 _ rfl;have x0:=d.c.c 0 _ rfl;have x1:=d.c.c 1 _ rfl;have x2:=d.c.c 2 _ rfl;have yi:=d.s.ty.lt;have yx:=d.c.ty.lt;clear d hO hT hM hS;go_wp2_with fail;refine (fS s c.num _ _ _ HO.out HT.out (aq.out)).mono ?_;rintro e w1 ⟨⟨a5,a4,rfl,Y⟩,ae⟩;have al:Hid (Px.ChM s ⟨70,t,c.num⟩ (Px.failP s c.num)):=Px.chm_fail HO.out t c.num;generalize Px.failP s c.num=p at *;obtain⟨ay,ai,aA,_⟩:=Y.sl.form;obtain⟨ak,aj,aB,_⟩:=Y.en.form;subst aA aB;have G:=HR.out.later ae;have aE:=Hq Y;have z0:=G.z.c 0 _ rfl;have z1:=G.z.c 1 _ rfl;have z2:=G.z.c 2 _ rfl;have z3:=G.z.c 3 _ rfl;have z4:=G.z.c 4 _ rfl;have f0:=G.z.f 0 (by simp);have f1:=G.z.f 1 (by simp);have f2:=G.z.f 2 (by simp);have f3:=G.z.f 3 (by simp);have f4:=G.z.f 4 (by simp)
 have yz:=G.z.ty.lt;have aF:Hid (Below w.heap.size w w1):=G.b;have ap:Hid (Typed w1 (w.heap.size+2) 77):=G.z.ty;clear Y ae G HR i0 i1 i2 i3 i4 x0 x1 x2 yi yx aC aw aG am au ar;go_wp2_with fail;refine bodyPost_ret (v:=.tuple #[pstV p.1 (.slice ay p.1.slots.length ai) (.slice ak p.1.ends.length aj),.int .i64 p.2]) (by simp[results,Tryz.results136,go_sem,z0,z1,z2,z3,z4]) rfl ⟨⟨p,⟨_,_,rfl,aE.out.store ap.out _ _ _ _ _⟩,al.out⟩,dL aF.out (by omega) _ _ _ _ _⟩
set_option maxRecDepth 10000 in
set_option maxHeartbeats 0 in
theorem pQ (s:Px.St) (sl en:Value) (c:Ct) (ag ah:Value) (t:ByteArray) (w:World) (hO:Px.Ok s) (hT:TabLH w) (hM:Tab w) (hS:PAt w s sl en) (hf:(∃U I,ag=.slice U c.st.slots.length I)∧∃U I,ah=.slice U c.st.ends.length I) (af:c.tab.size≤maxLen) (V:c.kind=Bx.b1 75):
 Calls Tryz.prog 136 #[pstV s sl en,ctV c ag ah] w fun e w'=>(∃p,ChgR p w' e∧Px.ChM s ⟨75,t,c.num⟩ p)∧Below w.heap.size w w':=by
 obtain⟨U,I,rfl,aN⟩:=hS.sl.form;obtain⟨ab,J,rfl,aG⟩:=hS.en.form;obtain⟨⟨aa,O,rfl⟩,⟨Z,Q,rfl⟩⟩:=hf;have aB:(c.kind.toList==[84])=false:=dP V (by decide) (by decide) 84 (by decide)
 have av:(c.kind.toList==[67])=false:=dP V (by decide) (by decide) 67 (by decide)
 have aF:(c.kind.toList==[83])=false:=dP V (by decide) (by decide) 83 (by decide)
 have am:(c.kind.toList==[68])=false:=dP V (by decide) (by decide) 68 (by decide)
 have ar:(c.kind.toList==[70])=false:=dP V (by decide) (by decide) 70 (by decide)
 have aq:(c.kind.toList==[75])=true:=gz V (by decide) (by decide) 75 (by decide)
 have hl:s.slots.length≤8:=hO.len;have a2:s.ends.length≤6:=hO.st.en;have HO:=Hq hO;have aZ:=Hq af;have hR:=RC.new w s (.slice U s.slots.length I) (.slice ab s.ends.length J) c (.slice aa c.st.slots.length O) (.slice Z c.st.ends.length Q);clear V af
 go_enter Tryz.func136,Tryz.ntmps136
 go_upto_region 1 with fail;have d:RC w (((w.alloc (.cells #[.string s.tab,.int .i64 s.clock,.int .i64 s.next,.slice U s.slots.length I,.slice ab s.ends.length J] 77)).alloc (.cells #[.string c.kind,.string c.tab,.int .i64 c.num,.string c.st.tab,.int .i64 c.st.clock,.int .i64 c.st.next,.slice aa c.st.slots.length O,.slice Z c.st.ends.length Q,.int .i64 c.size] 163)).alloc (.cells #[.string {data:= #[]},.int .i64 0,.int .i64 0,.slice none 0 0,.slice none 0 0] 77)) s (.slice U s.slots.length I) (.slice ab s.ends.length J) c (.slice aa c.st.slots.length O) (.slice Z c.st.ends.length Q):=hR;clear hR;generalize ((w.alloc (.cells #[.string s.tab,.int .i64 s.clock,.int .i64 s.next,.slice U s.slots.length I,.slice ab s.ends.length J] 77)).alloc (.cells #[.string c.kind,.string c.tab,.int .i64 c.num,.string c.st.tab,.int .i64 c.st.clock,.int .i64 c.st.next,.slice aa c.st.slots.length O,.slice Z c.st.ends.length Q,.int .i64 c.size] 163)).alloc (.cells #[.string {data:= #[]},.int .i64 0,.int .i64 0,.slice none 0 0,.slice none 0 0] 77)=W at *;have HR:=Hq d;have HT:=Hq (hT.later d.b);have HM:=Hq (hM.later d.b);have ap:=Hq (hS.later d.b);have i0:=d.s.c 0 _ rfl;have i1:=d.s.c 1 _ rfl;have i2:=d.s.c 2 _ rfl;have i3:=d.s.c 3 _ rfl;have i4:=d.s.c 4 _ rfl;have x0:=d.c.c 0 _ rfl;have x1:=d.c.c 1 _ rfl;have x2:=d.c.c 2 _ rfl;have yi:=d.s.ty.lt;have yx:=d.c.ty.lt;clear d hO hT hM hS;go_wp2_with fail;refine (gq s c.num _ _ _ (by omega) (by omega) (ap.out)).mono ?_
 rintro e w1 ⟨⟨a4,a3,rfl,Y⟩,ae⟩;have al:Hid (Px.ChM s ⟨75,t,c.num⟩ (Px.cancelP s c.num)):=Px.chm_cancel HO.out t c.num;generalize Px.cancelP s c.num=p at *;obtain⟨ax,ai,az,_⟩:=Y.sl.form;obtain⟨ak,aj,aA,_⟩:=Y.en.form;subst az aA;have G:=HR.out.later ae;have aD:=Hq Y;have z0:=G.z.c 0 _ rfl;have z1:=G.z.c 1 _ rfl;have z2:=G.z.c 2 _ rfl;have z3:=G.z.c 3 _ rfl;have z4:=G.z.c 4 _ rfl;have f0:=G.z.f 0 (by simp);have f1:=G.z.f 1 (by simp);have f2:=G.z.f 2 (by simp);have f3:=G.z.f 3 (by simp);have f4:=G.z.f 4 (by simp)
 have yz:=G.z.ty.lt;have aE:Hid (Below w.heap.size w w1):=G.b;have ao:Hid (Typed w1 (w.heap.size+2) 77):=G.z.ty;clear Y ae G HR i0 i1 i2 i3 i4 x0 x1 x2 yi yx aB av aF am ar aq;go_wp2_with fail;refine bodyPost_ret (v:=.tuple #[pstV p.1 (.slice ax p.1.slots.length ai) (.slice ak p.1.ends.length aj),.int .i64 p.2]) (by simp[results,Tryz.results136,go_sem,z0,z1,z2,z3,z4]) rfl ⟨⟨p,⟨_,_,rfl,aD.out.store ao.out _ _ _ _ _⟩,al.out⟩,dL aE.out (by omega) _ _ _ _ _⟩
theorem mu (s:Px.St) (sl en:Value) (c:Ct) (G d:Value) (b:ByteArray) (h:Bx.Ch) (w:World) (U:Px.Ok s) (Q:TabLH w) (O:Tab w) (hS:PAt w s sl en) (V:(∃ad Y,G=.slice ad c.st.slots.length Y)∧∃ad Y,d=.slice ad c.st.ends.length Y) (hb:b.size≤100000) (hI:Bx.IsCh b h) (J:c.kind=Bx.b1 h.kind) (ht:c.tab=h.tab) (Z:c.num=h.n):
 Calls Tryz.prog 136 #[pstV s sl en,ctV c G d] w fun e w'=>(∃p,ChgR p w' e∧Px.ChM s h p)∧Below w.heap.size w w':=by
 have I:c.tab.size≤maxLen:=by
  rw[ht];unfold maxLen
  rcases hI.1 with ⟨q,_⟩|⟨_,q,_⟩|⟨_,q,_⟩
  ·have h1:=Bx.body_tab h q;rw[hI.2] at h1;omega
  ·rw[q];decide
  ·rw[q];decide
 obtain⟨k,t,n⟩:=h;simp only at J ht Z
 rcases hI.1 with ⟨q,_⟩|⟨q,_⟩|⟨q,_⟩
 ·simp only at q;subst q ht Z
  exact qi s sl en c G d c.tab w U Q O hS V I J
 ·simp only at q;subst q Z
  exact qB s sl en c G d t w U Q O hS V I J
 ·simp only at q
  rcases q with q|q|q|q<;>(subst q Z)
  ·exact qw s sl en c G d t w U Q O hS V I J
  ·exact pV s sl en c G d t w U Q O hS V I J
  ·exact p5 s sl en c G d t w U Q O hS V I J
  ·exact pQ s sl en c G d t w U Q O hS V I J
inductive BehR (fl:Bool) (s:Px.St) (b:ByteArray) (w':World):Ending→Prop
 | yes (t:Px.St) (sl en:Value) (h:Bx.Stp fl (Px.abs s) b (Px.abs t)) (hO:Px.Ok t) (ha:PAt w' t sl en):BehR fl s b w' (.returned (.tuple #[pstV t sl en,.bool true]))
 | no (t:Px.St) (sl en:Value) (h:¬∃t,Bx.Stp fl (Px.abs s) b t) (ha:(∃ad cap,sl=.slice ad t.slots.length cap)∧∃ad cap,en=.slice ad t.ends.length cap):BehR fl s b w' (.returned (.tuple #[pstV t sl en,.bool false]))
theorem ph {fl:Bool}{s:Bx.St}{b:ByteArray}{h:Bx.Ch} (d:Bx.IsCh b h):((Bx.doP s h).2=true→Bx.Stp fl s b (Bx.doP s h).1)∧((Bx.doP s h).2=false→¬∃t,Bx.Stp fl s b t):=by
 refine⟨fun q=>Or.inr ⟨h,d,q,rfl⟩,fun q=>?_⟩
 rintro ⟨t,⟨_,w⟩|⟨c,e,hd,_⟩⟩
 ·exact (w.no_ch d).elim
 ·rw[d.uniq e] at q;rw[q] at hd;cases hd
theorem sP {fl:Bool}{s t:Bx.St}{b:ByteArray} (d:Bx.wholeS t=b) (O:Bx.StFit t):(fl=true∧Bx.MayS t→Bx.Stp fl s b t)∧(¬(fl=true∧Bx.MayS t)→¬∃u,Bx.Stp fl s b u):=by
 refine⟨fun ⟨q,m⟩=>Or.inl ⟨q,m,d⟩,fun q=>?_⟩
 rintro ⟨u,⟨I,hm,Q⟩|⟨c,⟨J,w⟩,_⟩⟩
 ·have:t=u:=by
   have h1:=Px.rdState_enc t O ByteArray.empty;have h2:=Px.rdState_enc u hm.fit ByteArray.empty
   have e:Bx.encSt t=Bx.encSt u:=by
    have:=d.trans Q.symm;unfold Bx.wholeS at this;exact (Bx.app_inj this rfl).2
   rw[e,h2] at h1;have:=congrArg (fun p=>Px.abs p.1) h1
   simp only [Px.rdSt_abs] at this
   exact this.symm
  subst this;exact q ⟨I,hm⟩
 ·rw[←d] at w;unfold Bx.wholeS Bx.body at w;obtain⟨G,_⟩:=Bx.app_inj w rfl;rw[Bx.b1_be,Bx.b1_be] at G;have k:=J.kind;exact k.2.2 (Bx.be_inj G k.1 (by simpa using k.2.1) (by decide) (by decide))
set_option maxRecDepth 10000 in
set_option maxHeartbeats 0 in
theorem ou (fl:Bool) (s:Px.St) (sl en:Value) (c:Ct) (b:ByteArray) (w:World) (hO:Px.Ok s) (hT:TabLH w) (hM:Tab w) (hS:PAt w s sl en) (hb:b.size≤100000) (hI:IsC b c) (hs:c.st=Px.st0):
 Calls Tryz.prog 103 #[pstV s sl en,ctV c nilS nilS,.bool fl] w fun e w'=>BehR fl s b w' e∧Below w.heap.size w w':=by
 obtain⟨h,hI,hk,ht,hn⟩:=hI;obtain⟨ad,aa,rfl,aV⟩:=hS.sl.form;obtain⟨Z,O,rfl,aN⟩:=hS.en.form;have Y:=hI.1.kind;have aA:(c.kind.toList==[90])=false:=dP hk Y.1 Y.2.1 90 (by simpa using Y.2.2)
 have HO:=Hq hO;have HI:Hid (Bx.IsCh b h∧c.kind=Bx.b1 h.kind∧c.tab=h.tab∧c.num=h.n):=⟨hI,hk,ht,hn⟩;have ae:=Hq hs;have hR:=RC.new w s (.slice ad s.slots.length aa) (.slice Z s.ends.length O) c (.slice none 0 0) (.slice none 0 0);clear hI hk ht hn Y;clear hs
 go_enter Tryz.func103,Tryz.ntmps103
 go_upto_region 1 with fail;have d:RC w (((w.alloc (.cells #[.string s.tab,.int .i64 s.clock,.int .i64 s.next,.slice ad s.slots.length aa,.slice Z s.ends.length O] 77)).alloc (.cells #[.string c.kind,.string c.tab,.int .i64 c.num,.string c.st.tab,.int .i64 c.st.clock,.int .i64 c.st.next,.slice none 0 0,.slice none 0 0,.int .i64 c.size] 163)).alloc (.cells #[.string {data:= #[]},.int .i64 0,.int .i64 0,.slice none 0 0,.slice none 0 0] 77)) s (.slice ad s.slots.length aa) (.slice Z s.ends.length O) c (.slice none 0 0) (.slice none 0 0):=hR;clear hR;generalize ((w.alloc (.cells #[.string s.tab,.int .i64 s.clock,.int .i64 s.next,.slice ad s.slots.length aa,.slice Z s.ends.length O] 77)).alloc (.cells #[.string c.kind,.string c.tab,.int .i64 c.num,.string c.st.tab,.int .i64 c.st.clock,.int .i64 c.st.next,.slice none 0 0,.slice none 0 0,.int .i64 c.size] 163)).alloc (.cells #[.string {data:= #[]},.int .i64 0,.int .i64 0,.slice none 0 0,.slice none 0 0] 77)=W at *;have HR:=Hq d;have HT:=Hq (hT.later d.b);have HM:=Hq (hM.later d.b);have aG:=Hq (hS.later d.b);have i0:=d.s.c 0 _ rfl;have i1:=d.s.c 1 _ rfl;have i2:=d.s.c 2 _ rfl;have i3:=d.s.c 3 _ rfl;have i4:=d.s.c 4 _ rfl;have x0:=d.c.c 0 _ rfl;have x1:=d.c.c 1 _ rfl;have x2:=d.c.c 2 _ rfl;have x3:=d.c.c 3 _ rfl;have x4:=d.c.c 4 _ rfl;have x5:=d.c.c 5 _ rfl;have x6:=d.c.c 6 _ rfl;have x7:=d.c.c 7 _ rfl;have x8:=d.c.c 8 _ rfl;have yi:=d.s.ty.lt;have yx:=d.c.ty.lt;clear d hO hT hM hS;go_wp2_with fail;refine (mu s _ _ c (.slice none 0 0) (.slice none 0 0) b h _ HO.out HT.out HM.out aG.out ⟨⟨none,0,by rw[ae.out];rfl⟩,⟨none,0,by rw[ae.out];rfl⟩⟩ hb HI.out.1 HI.out.2.1 HI.out.2.2.1 HI.out.2.2.2).mono ?_
 rintro e w1 ⟨⟨p,⟨bf,bg,rfl,V⟩,ao⟩,al⟩;obtain⟨U,I,aw,_⟩:=V.sl.form;obtain⟨Q,J,aD,_⟩:=V.en.form;subst aw aD;have ag:=dx w1 (pstO p.1 (.slice U p.1.slots.length I) (.slice Q p.1.ends.length J));have G:=(HR.out.later al).later ag;have ah:=V.later ag;have aF:=PIn.new w1 p.1 (.slice U p.1.slots.length I) (.slice Q p.1.ends.length J);have am:=Hq ao;clear V al ag ao HR i0 i1 i2 i3 i4 x0 x1 x2 x3 x4 x5 x6 x7 x8 yi yx aA;go_upto_region 5 with fail;generalize w1.alloc (pstO p.1 (.slice U p.1.slots.length I) (.slice Q p.1.ends.length J))=W2 at *;generalize w1.heap.size=q2 at *;have ay:=Hq ah;obtain⟨j0,j1,j2,j3,j4⟩:=aF;have z0:=G.z.c 0 _ rfl;have z1:=G.z.c 1 _ rfl;have z2:=G.z.c 2 _ rfl;have z3:=G.z.c 3 _ rfl;have z4:=G.z.c 4 _ rfl;have f0:=G.z.f 0 (by simp);have f1:=G.z.f 1 (by simp);have f2:=G.z.f 2 (by simp);have f3:=G.z.f 3 (by simp);have f4:=G.z.f 4 (by simp)
 have yz:=G.z.ty.lt;have ak:Hid (Below w.heap.size w W2):=G.b;have az:Hid (Typed W2 (w.heap.size+2) 77):=G.z.ty;clear ah G
 by_cases hp:p.2=0
 ·have ar:(p.2==0)=true:=by simpa using hp
  have HY:Hid (Bx.Stp fl (Px.abs s) b (Px.abs p.1)∧Px.Ok p.1):=by
   obtain⟨a1,a2⟩:=am.out.1 hp;have:=(ph (fl:=fl) (s:=Px.abs s) HI.out.1).1 (by rw[a1])
   rw[a1] at this;exact⟨this,a2⟩
  clear hp;generalize p.2=pr at *;go_wp2_with fail;refine bodyPost_ret (v:=.tuple #[pstV p.1 (.slice U p.1.slots.length I) (.slice Q p.1.ends.length J),.bool true]) (by simp[results,Tryz.results103,go_sem,z0,z1,z2,z3,z4]) rfl ⟨BehR.yes _ _ _ HY.out.1 HY.out.2 (ay.out.store az.out _ _ _ _ _),dL ak.out (by omega) _ _ _ _ _⟩
 ·have ar:(p.2==0)=false:=by simpa using hp
  have HY:Hid (¬∃t,Bx.Stp fl (Px.abs s) b t):=(ph (fl:=fl) (s:=Px.abs s) HI.out.1).2 (am.out.2 hp);clear hp;generalize p.2=pr at *;go_wp2_with fail;refine bodyPost_ret (v:=.tuple #[pstV p.1 (.slice U p.1.slots.length I) (.slice Q p.1.ends.length J),.bool false]) (by simp[results,Tryz.results103,go_sem,z0,z1,z2,z3,z4]) rfl ⟨BehR.no _ _ _ HY.out ⟨⟨_,_,rfl⟩,⟨_,_,rfl⟩⟩,dL ak.out (by omega) _ _ _ _ _⟩
set_option maxRecDepth 10000 in
set_option maxHeartbeats 0 in
theorem nH (fl:Bool) (s:Px.St) (sl en:Value) (c:Ct) (am aq:Value) (b:ByteArray) (w:World) (hT:TabLH w) (hS:PAt w s sl en) (hC:PAt w c.st am aq) (hI:IsW b c):
 Calls Tryz.prog 103 #[pstV s sl en,ctV c am aq,.bool fl] w fun e w'=>BehR fl s b w' e∧Below w.heap.size w w':=by
 obtain⟨hk,hw,U,ae,ax⟩:=hI;obtain⟨ad,Z,rfl,aW⟩:=hS.sl.form;obtain⟨aa,V,rfl,aR⟩:=hS.en.form;obtain⟨Q,I,rfl,aT⟩:=hC.sl.form;obtain⟨O,J,rfl,aS⟩:=hC.en.form;have aF:(c.kind.toList==[90])=true:=gz hk (by decide) (by decide) 90 (by decide)
 have Y:Hid ((fl=true∧Bx.MayS (Px.abs c.st)→Bx.Stp fl (Px.abs s) b (Px.abs c.st))∧(¬(fl=true∧Bx.MayS (Px.abs c.st))→¬∃u,Bx.Stp fl (Px.abs s) b u)):=sP hw U;have aH:=Hq ae;have aB:Hid (MayP c.st↔Bx.MayS (Px.abs c.st)):=rx fun x hx=>(ae x hx).2.2.2
 have az:Hid (c.st.tab.size≤maxLen):=by have:=U.t;unfold Hid maxLen;have e:(Px.abs c.st).tab=c.st.tab:=rfl;rw[e] at this;omega
 have hl:c.st.slots.length≤10000:=by have:=U.sl;simp[Px.abs] at this;omega
 have aC:c.st.ends.length≤10000:=by have:=U.en;simp[Px.abs] at this;omega
 have hR:=RC.new w s (.slice ad s.slots.length Z) (.slice aa s.ends.length V) c (.slice Q c.st.slots.length I) (.slice O c.st.ends.length J);clear hk hw U ae ax
 go_enter Tryz.func103,Tryz.ntmps103
 go_upto_region 1 with fail;have d:RC w (((w.alloc (.cells #[.string s.tab,.int .i64 s.clock,.int .i64 s.next,.slice ad s.slots.length Z,.slice aa s.ends.length V] 77)).alloc (.cells #[.string c.kind,.string c.tab,.int .i64 c.num,.string c.st.tab,.int .i64 c.st.clock,.int .i64 c.st.next,.slice Q c.st.slots.length I,.slice O c.st.ends.length J,.int .i64 c.size] 163)).alloc (.cells #[.string {data:= #[]},.int .i64 0,.int .i64 0,.slice none 0 0,.slice none 0 0] 77)) s (.slice ad s.slots.length Z) (.slice aa s.ends.length V) c (.slice Q c.st.slots.length I) (.slice O c.st.ends.length J):=hR;clear hR;generalize ((w.alloc (.cells #[.string s.tab,.int .i64 s.clock,.int .i64 s.next,.slice ad s.slots.length Z,.slice aa s.ends.length V] 77)).alloc (.cells #[.string c.kind,.string c.tab,.int .i64 c.num,.string c.st.tab,.int .i64 c.st.clock,.int .i64 c.st.next,.slice Q c.st.slots.length I,.slice O c.st.ends.length J,.int .i64 c.size] 163)).alloc (.cells #[.string {data:= #[]},.int .i64 0,.int .i64 0,.slice none 0 0,.slice none 0 0] 77)=W at *;have HR:=Hq d;have HT:=Hq (hT.later d.b);have HC:=Hq (hC.later d.b);have x0:=d.c.c 0 _ rfl;have x3:=d.c.c 3 _ rfl;have x4:=d.c.c 4 _ rfl;have x5:=d.c.c 5 _ rfl;have x6:=d.c.c 6 _ rfl;have x7:=d.c.c 7 _ rfl;have yx:=d.c.ty.lt;have z0:=d.z.c 0 _ rfl;have z1:=d.z.c 1 _ rfl;have z2:=d.z.c 2 _ rfl;have z3:=d.z.c 3 _ rfl;have z4:=d.z.c 4 _ rfl;have f0:=d.z.f 0 (by simp);have f1:=d.z.f 1 (by simp);have f2:=d.z.f 2 (by simp);have f3:=d.z.f 3 (by simp);have f4:=d.z.f 4 (by simp)
 have yz:=d.z.ty.lt;clear d hT hS hC
 cases fl
 ·have HY:Hid (¬∃t,Bx.Stp false (Px.abs s) b t):=Y.out.2 (fun q=>by cases q.1)
  go_wp2_with fail;refine bodyPost_ret (v:=.tuple #[pstV c.st (.slice Q c.st.slots.length I) (.slice O c.st.ends.length J),.bool false]) (by simp[results,Tryz.results103,go_sem,z0,z1,z2,z3,z4]) rfl ⟨BehR.no _ _ _ HY.out ⟨⟨_,_,rfl⟩,⟨_,_,rfl⟩⟩,dL HR.out.b (by omega) _ _ _ _ _⟩
 ·go_wp2_with fail;refine (qv c.st _ _ _ az.out hl aC HT.out HC.out).mono ?_;rintro e w1 ⟨⟨bb,rfl,ap⟩,ac⟩;have G:=HR.out.later ac;have aG:=Hq (HC.out.later ac);have ao:Hid (bb=true↔Bx.MayS (Px.abs c.st)):=ap.trans aB.out;clear x0 x3 x4 x5 x6 x7 yx z0 z1 z2 z3 z4 f0 f1 f2 f3 f4 yz ap ac HR HC aF;have x3:=G.c.c 3 _ rfl;have x4:=G.c.c 4 _ rfl;have x5:=G.c.c 5 _ rfl;have x6:=G.c.c 6 _ rfl;have x7:=G.c.c 7 _ rfl;have yx:=G.c.ty.lt;have z0:=G.z.c 0 _ rfl;have z1:=G.z.c 1 _ rfl;have z2:=G.z.c 2 _ rfl;have z3:=G.z.c 3 _ rfl;have z4:=G.z.c 4 _ rfl;have f0:=G.z.f 0 (by simp);have f1:=G.z.f 1 (by simp);have f2:=G.z.f 2 (by simp);have f3:=G.z.f 3 (by simp);have f4:=G.z.f 4 (by simp)
  have yz:=G.z.ty.lt;have ar:Hid (Below w.heap.size w w1):=G.b;have aD:Hid (Typed w1 (w.heap.size+2) 77):=G.z.ty;clear G
  cases bb
  ·have HY:Hid (¬∃t,Bx.Stp true (Px.abs s) b t):=Y.out.2 (fun q=>by have:=ao.out.2 q.2;cases this)
   go_wp2_with fail;refine bodyPost_ret (v:=.tuple #[pstV c.st (.slice Q c.st.slots.length I) (.slice O c.st.ends.length J),.bool false]) (by simp[results,Tryz.results103,go_sem,z0,z1,z2,z3,z4]) rfl ⟨BehR.no _ _ _ HY.out ⟨⟨_,_,rfl⟩,⟨_,_,rfl⟩⟩,dL ar.out (by omega) _ _ _ _ _⟩
  ·have hm:=ao.out.1 rfl;have HY:Hid (Bx.Stp true (Px.abs s) b (Px.abs c.st)∧Px.Ok c.st):=⟨Y.out.1 (by first |exact⟨rfl,hm⟩|exact⟨trivial,hm⟩),Px.fresh_ok aH.out hm⟩
   clear hm;go_wp2_with fail;refine bodyPost_ret (v:=.tuple #[pstV c.st (.slice Q c.st.slots.length I) (.slice O c.st.ends.length J),.bool true]) (by simp[results,Tryz.results103,go_sem,z0,z1,z2,z3,z4]) rfl ⟨BehR.yes _ _ _ HY.out.1 HY.out.2 (aG.out.store aD.out _ _ _ _ _),dL ar.out (by omega) _ _ _ _ _⟩
end Go.Proofs.YtdajolpoiffimabGreatDoor
