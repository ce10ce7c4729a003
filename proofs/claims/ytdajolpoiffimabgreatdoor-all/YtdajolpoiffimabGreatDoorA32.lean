import Derived.Test.YtdajolpoiffimabGreatDoorA26
import Derived.Test.YtdajolpoiffimabGreatDoorA31

namespace Go.Proofs.YtdajolpoiffimabGreatDoor
open Go.RowKit
inductive TakeR (log:ByteArray) (w':World):Ending→Prop
 | ch (b more:ByteArray) (c:Ct) (hN:Bx.Nx log b more) (h:IsC b c) (hs:c.st=Px.st0) (hz:c.size=(b.size:Int)+6):TakeR log w' (.returned (.tuple #[ctV c nilS nilS,.bool true]))
 | wh (b more:ByteArray) (c:Ct) (sl en:Value) (hN:Bx.Nx log b more) (h:IsW b c) (hz:c.size=(b.size:Int)+6) (ha:PAt w' c.st sl en):TakeR log w' (.returned (.tuple #[ctV c sl en,.bool true]))
 | no (h:¬∃b more,Bx.Nx log b more∧((∃h,Bx.IsCh b h)∨∃s,Bx.StFit s∧Bx.wholeS s=b)):TakeR log w' (.returned (.tuple #[ctV ct0 nilS nilS,.bool false]))
structure RT (w W:World) (p:Bx.PS):Prop where
 z:Cl W w.heap.size 163 (ctC ct0 nilS nilS)
 p:PtIn W (w.heap.size+1) p
 b:Below w.heap.size w W
theorem RT.call {w W W':World} {p G:Bx.PS} (h:RT w W p) (J:PtIn W' (w.heap.size+1) G) (d:W.grownBy W' (some (w.heap.size+1))):RT w W' G:=
 ⟨h.z.grow d (by omega),J,⟨d.os.trans h.b.os,d.tape.trans h.b.tape,d.output.trans h.b.output,Nat.le_trans h.b.size d.size,fun k I=>(d.block k (Nat.lt_of_lt_of_le I h.b.size) (fun e=>by cases e;omega)).trans (h.b.block k I)⟩⟩
theorem RT.later {w W W':World} {p:Bx.PS} (h:RT w W p) (hb:Below W.heap.size W W'):RT w W' p:=⟨h.z.later hb,h.p.later hb,h.b.trans (hb.mono h.b.size)⟩
theorem RT.new (w:World) (b:ByteArray):RT w ((w.alloc (.cells (ctC ct0 nilS nilS).toArray 163)).alloc (.cells (ptC ⟨b,false⟩).toArray 207)) ⟨b,false⟩:=by
 have b1:=cw w (.cells (ctC ct0 nilS nilS).toArray 163);have e:(w.alloc (.cells (ctC ct0 nilS nilS).toArray 163)).heap.size=w.heap.size+1:=by simp
 have d:=cw (w.alloc (.cells (ctC ct0 nilS nilS).toArray 163)) (.cells (ptC ⟨b,false⟩).toArray 207);have n2:=Cl.new (w.alloc (.cells (ctC ct0 nilS nilS).toArray 163)) (ptC ⟨b,false⟩) 207;rw[e] at n2;exact⟨(Cl.new w (ctC ct0 nilS nilS) 163).later d,n2,b1.trans (d.mono b1.size)⟩
theorem sx (k:Int) (p:Bx.PS):(Bx.txtP k p).1.size≤p.rest.size:=by
 unfold Bx.txtP;split
 ·simp
 ·simp;omega
set_option maxRecDepth 10000 in
set_option maxHeartbeats 4000000 in
theorem oM (log:ByteArray) (w:World) (hl:log.size≤100000):
 Calls Tryz.prog 102 #[.string log] w fun e w'=>TakeR log w' e∧Below w.heap.size w w':=by
 obtain⟨l,p1,h1⟩:∃a q,Bx.numP 2 ⟨log,false⟩=(a,q):=⟨_,_,dA _⟩;obtain⟨body,p2,h2⟩:∃a q,Bx.txtP l p1=(a,q):=⟨_,_,dA _⟩;obtain⟨av,p3,h3⟩:∃a q,Bx.numP 4 p2=(a,q):=⟨_,_,dA _⟩;have s1:=dL 2 ⟨log,false⟩;have s2:=fZ l p1;have s3:=dL 4 p2;have s4:=sx l p1;rw[h1] at s1;rw[h2] at s2 s4;rw[h3] at s3;simp only at s1 s2 s3 s4;have l1:=Bx.numP_bd 2 ⟨log,false⟩;have l2:=Bx.numP_lt 2 ⟨log,false⟩;rw[h1] at l1 l2;simp only at l1 l2;have l3:l<65536:=by simpa using l2
 have aB:Hid ((p3.wrong=true→¬∃b more,Bx.Nx log b more)∧(p3.wrong=false→av=Crc.sumR body→Bx.Nx log body p3.rest∧l=body.size)∧(¬av=Crc.sumR body→¬∃b more,Bx.Nx log b more)):=Bx.take_math h1 h2 h3;have H1:=Hq h1;have H2:=Hq h2;have H3:=Hq h3;clear h1 h2 h3 l2;have hR:=RT.new w log
 go_enter Tryz.func102,Tryz.ntmps102
 go_upto_region 2 with fail;have aW:RT w ((w.alloc (.cells #[.string {data:= #[]},.string {data:= #[]},.int .i64 0,.string {data:= #[]},.int .i64 0,.int .i64 0,.slice none 0 0,.slice none 0 0,.int .i64 0] 163)).alloc (.cells #[.string log,.bool false] 207)) ⟨log,false⟩:=hR;clear hR;generalize (w.alloc (.cells #[.string {data:= #[]},.string {data:= #[]},.int .i64 0,.string {data:= #[]},.int .i64 0,.int .i64 0,.slice none 0 0,.slice none 0 0,.int .i64 0] 163)).alloc (.cells #[.string log,.bool false] 207)=W at *;have aA:=Hq aW;clear aW;go_wp2_with fail;refine (dG ⟨log,false⟩ (w.heap.size+1) 2 _ _ rfl (by decide) hl aA.out.p).mono ?_
 rintro ex w1 ⟨rfl,V,ac⟩;rw[H1.out] at V ⊢;simp only at V;have aF:Hid (RT w w1 p1):=aA.out.call V ac;clear V ac aA;go_wp2_with fail;refine (dV p1 (w.heap.size+1) l _ (by omega) aF.out.p).mono ?_
 rintro ex w2 ⟨rfl,V,ac⟩;rw[H2.out] at V ⊢;simp only at V;have aG:Hid (RT w w2 p2):=aF.out.call V ac;clear V ac aF;go_wp2_with fail;refine (dG p2 (w.heap.size+1) 4 _ _ rfl (by decide) (by omega) aG.out.p).mono ?_
 rintro ex w3 ⟨rfl,V,ac⟩;rw[H3.out] at V ⊢;simp only at V;have G:Hid (RT w w3 p3):=aG.out.call V ac;clear V ac aG;have q1:=G.out.p.c1;have yq:=G.out.p.ty.lt;have z0:=G.out.z.c 0 _ rfl;have z1:=G.out.z.c 1 _ rfl;have z2:=G.out.z.c 2 _ rfl;have z3:=G.out.z.c 3 _ rfl;have z4:=G.out.z.c 4 _ rfl;have z5:=G.out.z.c 5 _ rfl;have z6:=G.out.z.c 6 _ rfl;have z7:=G.out.z.c 7 _ rfl;have z8:=G.out.z.c 8 _ rfl;have f0:=G.out.z.f 0 (by simp);have f1:=G.out.z.f 1 (by simp);have f2:=G.out.z.f 2 (by simp);have f3:=G.out.z.f 3 (by simp);have f4:=G.out.z.f 4 (by simp);have f5:=G.out.z.f 5 (by simp);have f6:=G.out.z.f 6 (by simp);have f7:=G.out.z.f 7 (by simp);have f8:=G.out.z.f 8 (by simp)
 have yz:=G.out.z.ty.lt
 cases hw:p3.wrong
 rotate_left
 ·rw[hw] at q1;have HF:Hid (¬∃b more,Bx.Nx log b more∧((∃h,Bx.IsCh b h)∨∃s,Bx.StFit s∧Bx.wholeS s=b)):=fun ⟨b,more,hN,_⟩=>aB.out.1 hw ⟨b,more,hN⟩
  clear hw;go_wp2_with fail;refine bodyPost_ret (v:=.tuple #[ctV ct0 nilS nilS,.bool false]) (by simp[results,Tryz.results102,go_sem,z0,z1,z2,z3,z4,z5,z6,z7,z8,ct0,Px.st0];rfl) rfl ⟨TakeR.no HF.out,dJ G.out.b (Nat.le_refl _) _ _ _ _ _ _ _ _ _⟩
 rw[hw] at q1;have HW:=Hq hw;clear hw;go_upto_region 7 with fail;clear q1 yq;go_wp2_with fail;refine (kE body _ (by unfold maxLen;omega)).mono ?_
 rintro e w4 ⟨rfl,a5⟩;have a9:=a5.symm;subst a9
 by_cases hc:av=Crc.sumR body
 rotate_left
 ·have HF:Hid (¬∃b more,Bx.Nx log b more∧((∃h,Bx.IsCh b h)∨∃s,Bx.StFit s∧Bx.wholeS s=b)):=fun ⟨b,more,hN,_⟩=>aB.out.2.2 hc ⟨b,more,hN⟩
  have bj:(av !=Crc.sumR body)=true:=by simpa using hc
  clear hc;generalize Crc.sumR body=sm at *;go_wp2_with fail;refine bodyPost_ret (v:=.tuple #[ctV ct0 nilS nilS,.bool false]) (by simp[results,Tryz.results102,go_sem,z0,z1,z2,z3,z4,z5,z6,z7,z8,ct0,Px.st0];rfl) rfl ⟨TakeR.no HF.out,dJ G.out.b (Nat.le_refl _) _ _ _ _ _ _ _ _ _⟩
 obtain⟨hN,ba⟩:=aB.out.2.1 HW.out hc;subst ba;have HN:=Hq hN;have bj:(av !=Crc.sumR body)=false:=by simpa using hc
 clear hc hN;generalize Crc.sumR body=sm at *;go_wp2_with fail;refine (kx body _ (by omega)).mono ?_
 rintro e Y ⟨hB,aS⟩;have ae:=Hq (G.out.later aS);clear z0 z1 z2 z3 z4 z5 z6 z7 z8 f0 f1 f2 f3 f4 f5 f6 f7 f8 yz aS G
 cases hB with
 | no c sl en n1 n2 ha=>
   obtain⟨⟨ad,U,rfl⟩,⟨Q,J,rfl⟩⟩:=ha
   have HF:Hid (¬∃b more,Bx.Nx log b more∧((∃h,Bx.IsCh b h)∨∃s,Bx.StFit s∧Bx.wholeS s=b)):=by
    rintro ⟨b,more,hN,h⟩;obtain⟨rfl,_⟩:=hN.uniq HN.out
    rcases h with h|h
    ·exact n1 h
    ·exact n2 h
   have aT:Hid (∀o,RT w (Y.alloc o) p3):=fun o=>ae.out.later (cw _ _)
   clear n1 n2;have Z:=(aT.out (.cells (ctC c (.slice ad c.st.slots.length U) (.slice Q c.st.ends.length J)).toArray 163)).z;have a7:Hid (Below w.heap.size w (Y.alloc (.cells (ctC c (.slice ad c.st.slots.length U) (.slice Q c.st.ends.length J)).toArray 163))):=(aT.out _).b;go_upto_region 11 with fail;generalize Y.alloc (.cells #[.string c.kind,.string c.tab,.int .i64 c.num,.string c.st.tab,.int .i64 c.st.clock,.int .i64 c.st.next,.slice ad c.st.slots.length U,.slice Q c.st.ends.length J,.int .i64 c.size] 163)=W5 at *;have z0:=Z.c 0 _ rfl;have z1:=Z.c 1 _ rfl;have z2:=Z.c 2 _ rfl;have z3:=Z.c 3 _ rfl;have z4:=Z.c 4 _ rfl;have z5:=Z.c 5 _ rfl;have z6:=Z.c 6 _ rfl;have z7:=Z.c 7 _ rfl;have z8:=Z.c 8 _ rfl;have f0:=Z.f 0 (by simp);have f1:=Z.f 1 (by simp);have f2:=Z.f 2 (by simp);have f3:=Z.f 3 (by simp);have f4:=Z.f 4 (by simp);have f5:=Z.f 5 (by simp);have f6:=Z.f 6 (by simp);have f7:=Z.f 7 (by simp);have f8:=Z.f 8 (by simp)
   have yz:=Z.ty.lt;clear Z;go_wp2_with fail;refine bodyPost_ret (v:=.tuple #[ctV ct0 nilS nilS,.bool false]) (by simp[results,Tryz.results102,go_sem,z0,z1,z2,z3,z4,z5,z6,z7,z8,ct0,Px.st0];rfl) rfl ⟨TakeR.no HF.out,dJ a7.out (Nat.le_refl _) _ _ _ _ _ _ _ _ _⟩
 | ch c h hs hz=>
   have az:=Hq h;have bf:=Hq hs;clear h hs hz;have HY:Hid ((2:Int)+(body.size:Int)+4=(body.size:Int)+6):=by unfold Hid;omega
   have aq:=Cl.new Y (ctC c (.slice none 0 0) (.slice none 0 0)) 163;have au:=ae.out.later (cw Y (.cells (ctC c (.slice none 0 0) (.slice none 0 0)).toArray 163));go_upto_region 13 with fail;have O:Cl (Y.alloc (.cells #[.string c.kind,.string c.tab,.int .i64 c.num,.string c.st.tab,.int .i64 c.st.clock,.int .i64 c.st.next,.slice none 0 0,.slice none 0 0,.int .i64 c.size] 163)) Y.heap.size 163 (ctC c (.slice none 0 0) (.slice none 0 0)):=aq;have aa:RT w (Y.alloc (.cells #[.string c.kind,.string c.tab,.int .i64 c.num,.string c.st.tab,.int .i64 c.st.clock,.int .i64 c.st.next,.slice none 0 0,.slice none 0 0,.int .i64 c.size] 163)) p3:=au;clear aq au;have aI:w.heap.size<Y.heap.size:=ae.out.z.ty.lt;generalize Y.alloc (.cells #[.string c.kind,.string c.tab,.int .i64 c.num,.string c.st.tab,.int .i64 c.st.clock,.int .i64 c.st.next,.slice none 0 0,.slice none 0 0,.int .i64 c.size] 163)=W5 at *;generalize Y.heap.size=cq at *;have s8:=O.c 8 _ rfl;have g8:=O.f 8 (by simp)
   have y8:=O.ty.lt;have I:=O.set 8 (by simp) (.int .i64 (2+(body.size:Int)+4))
   have d:=aa.z.far (g:=cq) (by omega) 8 (.int .i64 (2+(body.size:Int)+4))
   have aC:Hid (Below w.heap.size w (W5.setCell ⟨cq,8,none⟩ (.int .i64 (2+(body.size:Int)+4)))):=aa.b.setCell (Nat.le_of_lt aI) _;clear O aa ae;go_upto_region 14 with fail;clear s8 g8 y8;generalize W5.setCell ⟨cq,8,none⟩ (.int .i64 (2+(body.size:Int)+4))=W6 at *;have x0:=I.c 0 _ rfl;have x1:=I.c 1 _ rfl;have x2:=I.c 2 _ rfl;have x3:=I.c 3 _ rfl;have x4:=I.c 4 _ rfl;have x5:=I.c 5 _ rfl;have x6:=I.c 6 _ rfl;have x7:=I.c 7 _ rfl;have x8:=I.c 8 _ rfl;have z0:=d.c 0 _ rfl;have z1:=d.c 1 _ rfl;have z2:=d.c 2 _ rfl;have z3:=d.c 3 _ rfl;have z4:=d.c 4 _ rfl;have z5:=d.c 5 _ rfl;have z6:=d.c 6 _ rfl;have z7:=d.c 7 _ rfl;have z8:=d.c 8 _ rfl;have f0:=d.f 0 (by simp);have f1:=d.f 1 (by simp);have f2:=d.f 2 (by simp);have f3:=d.f 3 (by simp);have f4:=d.f 4 (by simp);have f5:=d.f 5 (by simp);have f6:=d.f 6 (by simp);have f7:=d.f 7 (by simp);have f8:=d.f 8 (by simp)
   have yz:=d.ty.lt;have yx:=I.ty.lt;have aU:=Hq d.ty;clear I d;go_wp2_with fail;refine bodyPost_ret (v:=.tuple #[ctV ⟨c.kind,c.tab,c.num,c.st,2+(body.size:Int)+4⟩ (.slice none 0 0) (.slice none 0 0),.bool true]) (by simp[results,Tryz.results102,go_sem,z0,z1,z2,z3,z4,z5,z6,z7,z8]) rfl ⟨TakeR.ch body p3.rest _ HN.out az.out bf.out HY.out,dJ aC.out (Nat.le_refl _) _ _ _ _ _ _ _ _ _⟩
 | wh c sl en h hz ha=>
   obtain⟨ad,U,rfl,_⟩:=ha.sl.form;obtain⟨Q,J,rfl,_⟩:=ha.en.form;have az:=Hq h;have aV:Hid (∀o,PAt (Y.alloc o) c.st (.slice ad c.st.slots.length U) (.slice Q c.st.ends.length J)):=fun o=>ha.later (cw _ _)
   clear h hz ha;have HY:Hid ((2:Int)+(body.size:Int)+4=(body.size:Int)+6):=by unfold Hid;omega
   have aq:=Cl.new Y (ctC c (.slice ad c.st.slots.length U) (.slice Q c.st.ends.length J)) 163;have au:=ae.out.later (cw Y (.cells (ctC c (.slice ad c.st.slots.length U) (.slice Q c.st.ends.length J)).toArray 163));go_upto_region 13 with fail;have O:Cl (Y.alloc (.cells #[.string c.kind,.string c.tab,.int .i64 c.num,.string c.st.tab,.int .i64 c.st.clock,.int .i64 c.st.next,(.slice ad c.st.slots.length U),(.slice Q c.st.ends.length J),.int .i64 c.size] 163)) Y.heap.size 163 (ctC c (.slice ad c.st.slots.length U) (.slice Q c.st.ends.length J)):=aq;have aa:RT w (Y.alloc (.cells #[.string c.kind,.string c.tab,.int .i64 c.num,.string c.st.tab,.int .i64 c.st.clock,.int .i64 c.st.next,(.slice ad c.st.slots.length U),(.slice Q c.st.ends.length J),.int .i64 c.size] 163)) p3:=au;have aE:PAt (Y.alloc (.cells #[.string c.kind,.string c.tab,.int .i64 c.num,.string c.st.tab,.int .i64 c.st.clock,.int .i64 c.st.next,(.slice ad c.st.slots.length U),(.slice Q c.st.ends.length J),.int .i64 c.size] 163)) c.st (.slice ad c.st.slots.length U) (.slice Q c.st.ends.length J):=aV.out _;clear aq au aV;have aI:w.heap.size<Y.heap.size:=ae.out.z.ty.lt;generalize Y.alloc (.cells #[.string c.kind,.string c.tab,.int .i64 c.num,.string c.st.tab,.int .i64 c.st.clock,.int .i64 c.st.next,(.slice ad c.st.slots.length U),(.slice Q c.st.ends.length J),.int .i64 c.size] 163)=W5 at *;generalize Y.heap.size=cq at *;have s8:=O.c 8 _ rfl;have g8:=O.f 8 (by simp)
   have y8:=O.ty.lt;have bh:Hid (PAt (W5.setCell ⟨cq,8,none⟩ (.int .i64 (2+(body.size:Int)+4))) c.st (.slice ad c.st.slots.length U) (.slice Q c.st.ends.length J)):=aE.set O.ty (by decide) (by decide) _ _
   have I:=O.set 8 (by simp) (.int .i64 (2+(body.size:Int)+4))
   have d:=aa.z.far (g:=cq) (by omega) 8 (.int .i64 (2+(body.size:Int)+4))
   have aC:Hid (Below w.heap.size w (W5.setCell ⟨cq,8,none⟩ (.int .i64 (2+(body.size:Int)+4)))):=aa.b.setCell (Nat.le_of_lt aI) _;clear O aa ae aE;go_upto_region 14 with fail;clear s8 g8 y8;generalize W5.setCell ⟨cq,8,none⟩ (.int .i64 (2+(body.size:Int)+4))=W6 at *;have x0:=I.c 0 _ rfl;have x1:=I.c 1 _ rfl;have x2:=I.c 2 _ rfl;have x3:=I.c 3 _ rfl;have x4:=I.c 4 _ rfl;have x5:=I.c 5 _ rfl;have x6:=I.c 6 _ rfl;have x7:=I.c 7 _ rfl;have x8:=I.c 8 _ rfl;have z0:=d.c 0 _ rfl;have z1:=d.c 1 _ rfl;have z2:=d.c 2 _ rfl;have z3:=d.c 3 _ rfl;have z4:=d.c 4 _ rfl;have z5:=d.c 5 _ rfl;have z6:=d.c 6 _ rfl;have z7:=d.c 7 _ rfl;have z8:=d.c 8 _ rfl;have f0:=d.f 0 (by simp);have f1:=d.f 1 (by simp);have f2:=d.f 2 (by simp);have f3:=d.f 3 (by simp);have f4:=d.f 4 (by simp);have f5:=d.f 5 (by simp);have f6:=d.f 6 (by simp);have f7:=d.f 7 (by simp);have f8:=d.f 8 (by simp)
   have yz:=d.ty.lt;have yx:=I.ty.lt;have aU:=Hq d.ty;clear I d;go_wp2_with fail;refine bodyPost_ret (v:=.tuple #[ctV ⟨c.kind,c.tab,c.num,c.st,2+(body.size:Int)+4⟩ (.slice ad c.st.slots.length U) (.slice Q c.st.ends.length J),.bool true]) (by simp[results,Tryz.results102,go_sem,z0,z1,z2,z3,z4,z5,z6,z7,z8]) rfl ⟨TakeR.wh body p3.rest _ _ _ HN.out az.out HY.out (bh.out.store9 aU.out _ _ _ _ _ _ _ _ _),dJ aC.out (Nat.le_refl _) _ _ _ _ _ _ _ _ _⟩
structure RC (w W:World) (s:Px.St) (sl en:Value) (c:Ct) (csl cen:Value):Prop where
 s:Cl W w.heap.size 77 [.string s.tab,.int .i64 s.clock,.int .i64 s.next,sl,en]
 c:Cl W (w.heap.size+1) 163 (ctC c csl cen)
 z:Cl W (w.heap.size+2) 77 [.string {data:= #[]},.int .i64 0,.int .i64 0,.slice none 0 0,.slice none 0 0]
 b:Below w.heap.size w W
theorem RC.new (w:World) (s:Px.St) (sl en:Value) (c:Ct) (d e:Value):RC w (((w.alloc (.cells [.string s.tab,.int .i64 s.clock,.int .i64 s.next,sl,en].toArray 77)).alloc (.cells (ctC c d e).toArray 163)).alloc (.cells [.string {data:= #[]},.int .i64 0,.int .i64 0,.slice none 0 0,.slice none 0 0].toArray 77)) s sl en c d e:=by
 have b1:=cw w (.cells [.string s.tab,.int .i64 s.clock,.int .i64 s.next,sl,en].toArray 77);have Q:(w.alloc (.cells [.string s.tab,.int .i64 s.clock,.int .i64 s.next,sl,en].toArray 77)).heap.size=w.heap.size+1:=by simp
 have O:=cw (w.alloc (.cells [.string s.tab,.int .i64 s.clock,.int .i64 s.next,sl,en].toArray 77)) (.cells (ctC c d e).toArray 163);have I:((w.alloc (.cells [.string s.tab,.int .i64 s.clock,.int .i64 s.next,sl,en].toArray 77)).alloc (.cells (ctC c d e).toArray 163)).heap.size=w.heap.size+2:=by simp
 have G:=cw ((w.alloc (.cells [.string s.tab,.int .i64 s.clock,.int .i64 s.next,sl,en].toArray 77)).alloc (.cells (ctC c d e).toArray 163)) (.cells [.string {data:= #[]},.int .i64 0,.int .i64 0,.slice none 0 0,.slice none 0 0].toArray 77);have n2:=Cl.new (w.alloc (.cells [.string s.tab,.int .i64 s.clock,.int .i64 s.next,sl,en].toArray 77)) (ctC c d e) 163;have J:=Cl.new ((w.alloc (.cells [.string s.tab,.int .i64 s.clock,.int .i64 s.next,sl,en].toArray 77)).alloc (.cells (ctC c d e).toArray 163)) [.string {data:= #[]},.int .i64 0,.int .i64 0,.slice none 0 0,.slice none 0 0] 77;rw[Q] at n2;rw[I] at J;exact⟨((Cl.new w [.string s.tab,.int .i64 s.clock,.int .i64 s.next,sl,en] 77).later O).later G,n2.later G,J,(b1.trans (O.mono b1.size)).trans (G.mono (by rw[I];omega))⟩
theorem RC.later {w W W':World} {s:Px.St} {sl en:Value} {c:Ct} {d e:Value} (h:RC w W s sl en c d e) (hb:Below W.heap.size W W'):RC w W' s sl en c d e:=⟨h.s.later hb,h.c.later hb,h.z.later hb,h.b.trans (hb.mono h.b.size)⟩
theorem dK {n R:Nat} {w d:World} (h:Below n w d) (hR:n≤R) (O J e G I:Value):Below n w (((((d.setCell ⟨R,0,none⟩ O).setCell ⟨R,1,none⟩ J).setCell ⟨R,2,none⟩ e).setCell ⟨R,3,none⟩ G).setCell ⟨R,4,none⟩ I):=by
 repeat (refine Below.setCell ?_ hR _)
 exact h
theorem gz {d:ByteArray} {k:Int} (h:d=Bx.b1 k) (h0:0≤k) (h1:k<256) (n:UInt8) (e:k=(n.toNat:Int)):(d.toList==[n])=true:=by subst h;exact fz ((dB k h0 h1 n).2 e)
theorem dO {d:ByteArray} {k:Int} (h:d=Bx.b1 k) (h0:0≤k) (h1:k<256) (n:UInt8) (e:¬k=(n.toNat:Int)):(d.toList==[n])=false:=by subst h;exact dC (l:=[n]) (fun q=>e ((dB k h0 h1 n).1 q))
set_option maxRecDepth 10000 in
set_option maxHeartbeats 4000000 in
theorem pY (s:Px.St) (sl en:Value) (c:Ct) (af ai:Value) (_t:ByteArray) (w:World) (hO:Px.Ok s) (hT:TabLH w) (hM:Tab w) (hS:PAt w s sl en) (hf:(∃U I,af=.slice U c.st.slots.length I)∧∃U I,ai=.slice U c.st.ends.length I) (ah:c.tab.size≤maxLen) (V:c.kind=Bx.b1 84):
 Calls Tryz.prog 136 #[pstV s sl en,ctV c af ai] w fun e w'=>(∃p,ChgR p w' e∧Px.ChM s ⟨84,c.tab,c.num⟩ p)∧Below w.heap.size w w':=by
 obtain⟨U,I,rfl,aY⟩:=hS.sl.form;obtain⟨Z,O,rfl,aI⟩:=hS.en.form;obtain⟨⟨Y,J,rfl⟩,⟨ab,Q,rfl⟩⟩:=hf;have ax:(c.kind.toList==[84])=true:=gz V (by decide) (by decide) 84 (by decide)
 have aC:(c.kind.toList==[67])=false:=dO V (by decide) (by decide) 67 (by decide)
 have aw:(c.kind.toList==[83])=false:=dO V (by decide) (by decide) 83 (by decide)
 have aB:(c.kind.toList==[68])=false:=dO V (by decide) (by decide) 68 (by decide)
 have az:(c.kind.toList==[70])=false:=dO V (by decide) (by decide) 70 (by decide)
 have aA:(c.kind.toList==[75])=false:=dO V (by decide) (by decide) 75 (by decide)
 have hl:s.slots.length≤8:=hO.len;have a6:s.ends.length≤6:=hO.st.en;have HO:=Hq hO;have am:=Hq ah;have hR:=RC.new w s (.slice U s.slots.length I) (.slice Z s.ends.length O) c (.slice Y c.st.slots.length J) (.slice ab c.st.ends.length Q);clear V ah
 go_enter Tryz.func136,Tryz.ntmps136
 go_upto_region 1 with fail;have d:RC w (((w.alloc (.cells #[.string s.tab,.int .i64 s.clock,.int .i64 s.next,.slice U s.slots.length I,.slice Z s.ends.length O] 77)).alloc (.cells #[.string c.kind,.string c.tab,.int .i64 c.num,.string c.st.tab,.int .i64 c.st.clock,.int .i64 c.st.next,.slice Y c.st.slots.length J,.slice ab c.st.ends.length Q,.int .i64 c.size] 163)).alloc (.cells #[.string {data:= #[]},.int .i64 0,.int .i64 0,.slice none 0 0,.slice none 0 0] 77)) s (.slice U s.slots.length I) (.slice Z s.ends.length O) c (.slice Y c.st.slots.length J) (.slice ab c.st.ends.length Q):=hR;clear hR;generalize ((w.alloc (.cells #[.string s.tab,.int .i64 s.clock,.int .i64 s.next,.slice U s.slots.length I,.slice Z s.ends.length O] 77)).alloc (.cells #[.string c.kind,.string c.tab,.int .i64 c.num,.string c.st.tab,.int .i64 c.st.clock,.int .i64 c.st.next,.slice Y c.st.slots.length J,.slice ab c.st.ends.length Q,.int .i64 c.size] 163)).alloc (.cells #[.string {data:= #[]},.int .i64 0,.int .i64 0,.slice none 0 0,.slice none 0 0] 77)=W at *;have HR:=Hq d;have HT:=Hq (hT.later d.b);have HM:=Hq (hM.later d.b);have ap:=Hq (hS.later d.b);have i0:=d.s.c 0 _ rfl;have i1:=d.s.c 1 _ rfl;have i2:=d.s.c 2 _ rfl;have i3:=d.s.c 3 _ rfl;have i4:=d.s.c 4 _ rfl;have x0:=d.c.c 0 _ rfl;have x1:=d.c.c 1 _ rfl;have x2:=d.c.c 2 _ rfl;have yi:=d.s.ty.lt;have yx:=d.c.ty.lt;clear d hO hT hM hS;go_wp2_with fail;refine (iz s c.tab _ _ _ am.out HT.out (by omega) (ap.out)).mono ?_
 rintro e w1 ⟨⟨a,r,ac,a4,a5,rfl,aa⟩,ag⟩;have aE:Hid (Px.ChM s ⟨84,c.tab,c.num⟩ (tabC s c.tab r)):=Px.chm_tab HO.out ac;generalize tabC s c.tab r=p at *;clear ac;obtain⟨aq,aj,ar,_⟩:=aa.sl.form;obtain⟨au,ak,al,_⟩:=aa.en.form;subst ar al;have G:=HR.out.later ag;have aG:=Hq aa;have z0:=G.z.c 0 _ rfl;have z1:=G.z.c 1 _ rfl;have z2:=G.z.c 2 _ rfl;have z3:=G.z.c 3 _ rfl;have z4:=G.z.c 4 _ rfl;have f0:=G.z.f 0 (by simp);have f1:=G.z.f 1 (by simp);have f2:=G.z.f 2 (by simp);have f3:=G.z.f 3 (by simp);have f4:=G.z.f 4 (by simp)
 have yz:=G.z.ty.lt;have aF:Hid (Below w.heap.size w w1):=G.b;have av:Hid (Typed w1 (w.heap.size+2) 77):=G.z.ty;clear aa ag G HR i0 i1 i2 i3 i4 x0 x1 x2 yi yx ax aC aw aB az aA;go_wp2_with fail;refine bodyPost_ret (v:=.tuple #[pstV p.1 (.slice aq p.1.slots.length aj) (.slice au p.1.ends.length ak),.int .i64 p.2]) (by simp[results,Tryz.results136,go_sem,z0,z1,z2,z3,z4]) rfl ⟨⟨p,⟨_,_,rfl,aG.out.store av.out _ _ _ _ _⟩,aE.out⟩,dK aF.out (by omega) _ _ _ _ _⟩
set_option maxRecDepth 10000 in
set_option maxHeartbeats 4000000 in
theorem qN (s:Px.St) (sl en:Value) (c:Ct) (ae ah:Value) (t:ByteArray) (w:World) (hO:Px.Ok s) (hT:TabLH w) (hM:Tab w) (hS:PAt w s sl en) (hf:(∃U I,ae=.slice U c.st.slots.length I)∧∃U I,ah=.slice U c.st.ends.length I) (ag:c.tab.size≤maxLen) (V:c.kind=Bx.b1 67):
 Calls Tryz.prog 136 #[pstV s sl en,ctV c ae ah] w fun e w'=>(∃p,ChgR p w' e∧Px.ChM s ⟨67,t,c.num⟩ p)∧Below w.heap.size w w':=by
 obtain⟨U,I,rfl,aX⟩:=hS.sl.form;obtain⟨Z,O,rfl,aH⟩:=hS.en.form;obtain⟨⟨Y,J,rfl⟩,⟨ab,Q,rfl⟩⟩:=hf;have aw:(c.kind.toList==[84])=false:=dO V (by decide) (by decide) 84 (by decide)
 have aB:(c.kind.toList==[67])=true:=gz V (by decide) (by decide) 67 (by decide)
 have av:(c.kind.toList==[83])=false:=dO V (by decide) (by decide) 83 (by decide)
 have aA:(c.kind.toList==[68])=false:=dO V (by decide) (by decide) 68 (by decide)
 have ay:(c.kind.toList==[70])=false:=dO V (by decide) (by decide) 70 (by decide)
 have az:(c.kind.toList==[75])=false:=dO V (by decide) (by decide) 75 (by decide)
 have hl:s.slots.length≤8:=hO.len;have a6:s.ends.length≤6:=hO.st.en;have HO:=Hq hO;have a3:=Hq ag;have hR:=RC.new w s (.slice U s.slots.length I) (.slice Z s.ends.length O) c (.slice Y c.st.slots.length J) (.slice ab c.st.ends.length Q);clear V ag
 go_enter Tryz.func136,Tryz.ntmps136
 go_upto_region 1 with fail;have d:RC w (((w.alloc (.cells #[.string s.tab,.int .i64 s.clock,.int .i64 s.next,.slice U s.slots.length I,.slice Z s.ends.length O] 77)).alloc (.cells #[.string c.kind,.string c.tab,.int .i64 c.num,.string c.st.tab,.int .i64 c.st.clock,.int .i64 c.st.next,.slice Y c.st.slots.length J,.slice ab c.st.ends.length Q,.int .i64 c.size] 163)).alloc (.cells #[.string {data:= #[]},.int .i64 0,.int .i64 0,.slice none 0 0,.slice none 0 0] 77)) s (.slice U s.slots.length I) (.slice Z s.ends.length O) c (.slice Y c.st.slots.length J) (.slice ab c.st.ends.length Q):=hR;clear hR;generalize ((w.alloc (.cells #[.string s.tab,.int .i64 s.clock,.int .i64 s.next,.slice U s.slots.length I,.slice Z s.ends.length O] 77)).alloc (.cells #[.string c.kind,.string c.tab,.int .i64 c.num,.string c.st.tab,.int .i64 c.st.clock,.int .i64 c.st.next,.slice Y c.st.slots.length J,.slice ab c.st.ends.length Q,.int .i64 c.size] 163)).alloc (.cells #[.string {data:= #[]},.int .i64 0,.int .i64 0,.slice none 0 0,.slice none 0 0] 77)=W at *;have HR:=Hq d;have HT:=Hq (hT.later d.b);have HM:=Hq (hM.later d.b);have am:=Hq (hS.later d.b);have i0:=d.s.c 0 _ rfl;have i1:=d.s.c 1 _ rfl;have i2:=d.s.c 2 _ rfl;have i3:=d.s.c 3 _ rfl;have i4:=d.s.c 4 _ rfl;have x0:=d.c.c 0 _ rfl;have x1:=d.c.c 1 _ rfl;have x2:=d.c.c 2 _ rfl;have yi:=d.s.ty.lt;have yx:=d.c.ty.lt;clear d hO hT hM hS;go_wp2_with fail;refine (gL s c.num _ _ _ HO.out HT.out HM.out (am.out)).mono ?_;rintro e w1 ⟨⟨a4,a5,rfl,aa⟩,af⟩;have aD:Hid (Px.ChM s ⟨67,t,c.num⟩ (Px.clockP s c.num)):=Px.chm_clock HO.out t c.num;generalize Px.clockP s c.num=p at *;obtain⟨ao,ai,ap,_⟩:=aa.sl.form;obtain⟨aq,aj,ak,_⟩:=aa.en.form;subst ap ak;have G:=HR.out.later af;have aF:=Hq aa;have z0:=G.z.c 0 _ rfl;have z1:=G.z.c 1 _ rfl;have z2:=G.z.c 2 _ rfl;have z3:=G.z.c 3 _ rfl;have z4:=G.z.c 4 _ rfl;have f0:=G.z.f 0 (by simp);have f1:=G.z.f 1 (by simp);have f2:=G.z.f 2 (by simp);have f3:=G.z.f 3 (by simp);have f4:=G.z.f 4 (by simp)
 have yz:=G.z.ty.lt;have aE:Hid (Below w.heap.size w w1):=G.b;have au:Hid (Typed w1 (w.heap.size+2) 77):=G.z.ty;clear aa af G HR i0 i1 i2 i3 i4 x0 x1 x2 yi yx aw aB av aA ay az;go_wp2_with fail;refine bodyPost_ret (v:=.tuple #[pstV p.1 (.slice ao p.1.slots.length ai) (.slice aq p.1.ends.length aj),.int .i64 p.2]) (by simp[results,Tryz.results136,go_sem,z0,z1,z2,z3,z4]) rfl ⟨⟨p,⟨_,_,rfl,aF.out.store au.out _ _ _ _ _⟩,aD.out⟩,dK aE.out (by omega) _ _ _ _ _⟩
set_option maxRecDepth 10000 in
set_option maxHeartbeats 4000000 in
theorem qy (s:Px.St) (sl en:Value) (c:Ct) (ae ah:Value) (t:ByteArray) (w:World) (hO:Px.Ok s) (hT:TabLH w) (hM:Tab w) (hS:PAt w s sl en) (hf:(∃U I,ae=.slice U c.st.slots.length I)∧∃U I,ah=.slice U c.st.ends.length I) (ag:c.tab.size≤maxLen) (V:c.kind=Bx.b1 83):
 Calls Tryz.prog 136 #[pstV s sl en,ctV c ae ah] w fun e w'=>(∃p,ChgR p w' e∧Px.ChM s ⟨83,t,c.num⟩ p)∧Below w.heap.size w w':=by
 obtain⟨U,I,rfl,aW⟩:=hS.sl.form;obtain⟨Z,O,rfl,aH⟩:=hS.en.form;obtain⟨⟨Y,J,rfl⟩,⟨ab,Q,rfl⟩⟩:=hf;have aw:(c.kind.toList==[84])=false:=dO V (by decide) (by decide) 84 (by decide)
 have aB:(c.kind.toList==[67])=false:=dO V (by decide) (by decide) 67 (by decide)
 have av:(c.kind.toList==[83])=true:=gz V (by decide) (by decide) 83 (by decide)
 have aA:(c.kind.toList==[68])=false:=dO V (by decide) (by decide) 68 (by decide)
 have ay:(c.kind.toList==[70])=false:=dO V (by decide) (by decide) 70 (by decide)
 have az:(c.kind.toList==[75])=false:=dO V (by decide) (by decide) 75 (by decide)
 have hl:s.slots.length≤8:=hO.len;have a5:s.ends.length≤6:=hO.st.en;have HO:=Hq hO;have a2:=Hq ag;have hR:=RC.new w s (.slice U s.slots.length I) (.slice Z s.ends.length O) c (.slice Y c.st.slots.length J) (.slice ab c.st.ends.length Q);clear V ag
 go_enter Tryz.func136,Tryz.ntmps136
 go_upto_region 1 with fail;have d:RC w (((w.alloc (.cells #[.string s.tab,.int .i64 s.clock,.int .i64 s.next,.slice U s.slots.length I,.slice Z s.ends.length O] 77)).alloc (.cells #[.string c.kind,.string c.tab,.int .i64 c.num,.string c.st.tab,.int .i64 c.st.clock,.int .i64 c.st.next,.slice Y c.st.slots.length J,.slice ab c.st.ends.length Q,.int .i64 c.size] 163)).alloc (.cells #[.string {data:= #[]},.int .i64 0,.int .i64 0,.slice none 0 0,.slice none 0 0] 77)) s (.slice U s.slots.length I) (.slice Z s.ends.length O) c (.slice Y c.st.slots.length J) (.slice ab c.st.ends.length Q):=hR;clear hR;generalize ((w.alloc (.cells #[.string s.tab,.int .i64 s.clock,.int .i64 s.next,.slice U s.slots.length I,.slice Z s.ends.length O] 77)).alloc (.cells #[.string c.kind,.string c.tab,.int .i64 c.num,.string c.st.tab,.int .i64 c.st.clock,.int .i64 c.st.next,.slice Y c.st.slots.length J,.slice ab c.st.ends.length Q,.int .i64 c.size] 163)).alloc (.cells #[.string {data:= #[]},.int .i64 0,.int .i64 0,.slice none 0 0,.slice none 0 0] 77)=W at *;have HR:=Hq d;have HT:=Hq (hT.later d.b);have HM:=Hq (hM.later d.b);have am:=Hq (hS.later d.b);have i0:=d.s.c 0 _ rfl;have i1:=d.s.c 1 _ rfl;have i2:=d.s.c 2 _ rfl;have i3:=d.s.c 3 _ rfl;have i4:=d.s.c 4 _ rfl;have x0:=d.c.c 0 _ rfl;have x1:=d.c.c 1 _ rfl;have x2:=d.c.c 2 _ rfl;have yi:=d.s.ty.lt;have yx:=d.c.ty.lt;clear d hO hT hM hS;go_wp2_with fail;refine (gJ s c.num _ _ _ HO.out HT.out (am.out)).mono ?_;rintro e w1 ⟨⟨a3,a4,rfl,aa⟩,af⟩;have aD:Hid (Px.ChM s ⟨83,t,c.num⟩ (Px.startP s c.num)):=Px.chm_start HO.out t c.num;generalize Px.startP s c.num=p at *;obtain⟨ao,ai,ap,_⟩:=aa.sl.form;obtain⟨aq,aj,ak,_⟩:=aa.en.form;subst ap ak;have G:=HR.out.later af;have aF:=Hq aa;have z0:=G.z.c 0 _ rfl;have z1:=G.z.c 1 _ rfl;have z2:=G.z.c 2 _ rfl;have z3:=G.z.c 3 _ rfl;have z4:=G.z.c 4 _ rfl;have f0:=G.z.f 0 (by simp);have f1:=G.z.f 1 (by simp);have f2:=G.z.f 2 (by simp);have f3:=G.z.f 3 (by simp);have f4:=G.z.f 4 (by simp)
 have yz:=G.z.ty.lt;have aE:Hid (Below w.heap.size w w1):=G.b;have au:Hid (Typed w1 (w.heap.size+2) 77):=G.z.ty;clear aa af G HR i0 i1 i2 i3 i4 x0 x1 x2 yi yx aw aB av aA ay az;go_wp2_with fail;refine bodyPost_ret (v:=.tuple #[pstV p.1 (.slice ao p.1.slots.length ai) (.slice aq p.1.ends.length aj),.int .i64 p.2]) (by simp[results,Tryz.results136,go_sem,z0,z1,z2,z3,z4]) rfl ⟨⟨p,⟨_,_,rfl,aF.out.store au.out _ _ _ _ _⟩,aD.out⟩,dK aE.out (by omega) _ _ _ _ _⟩
set_option maxRecDepth 10000 in
set_option maxHeartbeats 4000000 in
theorem qY (s:Px.St) (sl en:Value) (c:Ct) (ae ah:Value) (t:ByteArray) (w:World) (hO:Px.Ok s) (hT:TabLH w) (hM:Tab w) (hS:PAt w s sl en) (hf:(∃U I,ae=.slice U c.st.slots.length I)∧∃U I,ah=.slice U c.st.ends.length I) (ag:c.tab.size≤maxLen) (V:c.kind=Bx.b1 68):
 Calls Tryz.prog 136 #[pstV s sl en,ctV c ae ah] w fun e w'=>(∃p,ChgR p w' e∧Px.ChM s ⟨68,t,c.num⟩ p)∧Below w.heap.size w w':=by
 obtain⟨U,I,rfl,aV⟩:=hS.sl.form;obtain⟨Z,O,rfl,aG⟩:=hS.en.form;obtain⟨⟨Y,J,rfl⟩,⟨ab,Q,rfl⟩⟩:=hf;have av:(c.kind.toList==[84])=false:=dO V (by decide) (by decide) 84 (by decide)
 have aA:(c.kind.toList==[67])=false:=dO V (by decide) (by decide) 67 (by decide)
 have au:(c.kind.toList==[83])=false:=dO V (by decide) (by decide) 83 (by decide)
 have az:(c.kind.toList==[68])=true:=gz V (by decide) (by decide) 68 (by decide)
 have ax:(c.kind.toList==[70])=false:=dO V (by decide) (by decide) 70 (by decide)
 have ay:(c.kind.toList==[75])=false:=dO V (by decide) (by decide) 75 (by decide)
 have hl:s.slots.length≤8:=hO.len;have a4:s.ends.length≤6:=hO.st.en;have HO:=Hq hO;have aZ:=Hq ag;have hR:=RC.new w s (.slice U s.slots.length I) (.slice Z s.ends.length O) c (.slice Y c.st.slots.length J) (.slice ab c.st.ends.length Q);clear V ag
 go_enter Tryz.func136,Tryz.ntmps136
 go_upto_region 1 with fail;have d:RC w (((w.alloc (.cells #[.string s.tab,.int .i64 s.clock,.int .i64 s.next,.slice U s.slots.length I,.slice Z s.ends.length O] 77)).alloc (.cells #[.string c.kind,.string c.tab,.int .i64 c.num,.string c.st.tab,.int .i64 c.st.clock,.int .i64 c.st.next,.slice Y c.st.slots.length J,.slice ab c.st.ends.length Q,.int .i64 c.size] 163)).alloc (.cells #[.string {data:= #[]},.int .i64 0,.int .i64 0,.slice none 0 0,.slice none 0 0] 77)) s (.slice U s.slots.length I) (.slice Z s.ends.length O) c (.slice Y c.st.slots.length J) (.slice ab c.st.ends.length Q):=hR;clear hR;generalize ((w.alloc (.cells #[.string s.tab,.int .i64 s.clock,.int .i64 s.next,.slice U s.slots.length I,.slice Z s.ends.length O] 77)).alloc (.cells #[.string c.kind,.string c.tab,.int .i64 c.num,.string c.st.tab,.int .i64 c.st.clock,.int .i64 c.st.next,.slice Y c.st.slots.length J,.slice ab c.st.ends.length Q,.int .i64 c.size] 163)).alloc (.cells #[.string {data:= #[]},.int .i64 0,.int .i64 0,.slice none 0 0,.slice none 0 0] 77)=W at *;have HR:=Hq d;have HT:=Hq (hT.later d.b);have HM:=Hq (hM.later d.b);have am:=Hq (hS.later d.b);have i0:=d.s.c 0 _ rfl;have i1:=d.s.c 1 _ rfl;have i2:=d.s.c 2 _ rfl;have i3:=d.s.c 3 _ rfl;have i4:=d.s.c 4 _ rfl;have x0:=d.c.c 0 _ rfl;have x1:=d.c.c 1 _ rfl;have x2:=d.c.c 2 _ rfl;have yi:=d.s.ty.lt;have yx:=d.c.ty.lt;clear d hO hT hM hS;go_wp2_with fail;refine (ia s c.num _ _ _ (by omega) (by omega) (am.out)).mono ?_
 rintro e w1 ⟨⟨a2,a3,rfl,aa⟩,af⟩;have aC:Hid (Px.ChM s ⟨68,t,c.num⟩ (Px.doneP s c.num)):=Px.chm_done HO.out t c.num;generalize Px.doneP s c.num=p at *;obtain⟨ao,ai,ap,_⟩:=aa.sl.form;obtain⟨aq,aj,ak,_⟩:=aa.en.form;subst ap ak;have G:=HR.out.later af;have aE:=Hq aa;have z0:=G.z.c 0 _ rfl;have z1:=G.z.c 1 _ rfl;have z2:=G.z.c 2 _ rfl;have z3:=G.z.c 3 _ rfl;have z4:=G.z.c 4 _ rfl;have f0:=G.z.f 0 (by simp);have f1:=G.z.f 1 (by simp);have f2:=G.z.f 2 (by simp);have f3:=G.z.f 3 (by simp);have f4:=G.z.f 4 (by simp)
 have yz:=G.z.ty.lt;have aD:Hid (Below w.heap.size w w1):=G.b;have ar:Hid (Typed w1 (w.heap.size+2) 77):=G.z.ty;clear aa af G HR i0 i1 i2 i3 i4 x0 x1 x2 yi yx av aA au az ax ay;go_wp2_with fail;refine bodyPost_ret (v:=.tuple #[pstV p.1 (.slice ao p.1.slots.length ai) (.slice aq p.1.ends.length aj),.int .i64 p.2]) (by simp[results,Tryz.results136,go_sem,z0,z1,z2,z3,z4]) rfl ⟨⟨p,⟨_,_,rfl,aE.out.store ar.out _ _ _ _ _⟩,aC.out⟩,dK aD.out (by omega) _ _ _ _ _⟩
set_option maxRecDepth 10000 in
set_option maxHeartbeats 4000000 in
theorem pH (s:Px.St) (sl en:Value) (c:Ct) (ae ah:Value) (t:ByteArray) (w:World) (hO:Px.Ok s) (hT:TabLH w) (hM:Tab w) (hS:PAt w s sl en) (hf:(∃U I,ae=.slice U c.st.slots.length I)∧∃U I,ah=.slice U c.st.ends.length I) (ag:c.tab.size≤maxLen) (V:c.kind=Bx.b1 70):
 Calls Tryz.prog 136 #[pstV s sl en,ctV c ae ah] w fun e w'=>(∃p,ChgR p w' e∧Px.ChM s ⟨70,t,c.num⟩ p)∧Below w.heap.size w w':=by
 obtain⟨U,I,rfl,aW⟩:=hS.sl.form;obtain⟨Z,O,rfl,aH⟩:=hS.en.form;obtain⟨⟨Y,J,rfl⟩,⟨ab,Q,rfl⟩⟩:=hf;have aw:(c.kind.toList==[84])=false:=dO V (by decide) (by decide) 84 (by decide)
 have aB:(c.kind.toList==[67])=false:=dO V (by decide) (by decide) 67 (by decide)
 have av:(c.kind.toList==[83])=false:=dO V (by decide) (by decide) 83 (by decide)
 have aA:(c.kind.toList==[68])=false:=dO V (by decide) (by decide) 68 (by decide)
 have ay:(c.kind.toList==[70])=true:=gz V (by decide) (by decide) 70 (by decide)
 have az:(c.kind.toList==[75])=false:=dO V (by decide) (by decide) 75 (by decide)
 have hl:s.slots.length≤8:=hO.len;have a5:s.ends.length≤6:=hO.st.en;have HO:=Hq hO;have a2:=Hq ag;have hR:=RC.new w s (.slice U s.slots.length I) (.slice Z s.ends.length O) c (.slice Y c.st.slots.length J) (.slice ab c.st.ends.length Q);clear V ag
 go_enter Tryz.func136,Tryz.ntmps136
 go_upto_region 1 with fail;have d:RC w (((w.alloc (.cells #[.string s.tab,.int .i64 s.clock,.int .i64 s.next,.slice U s.slots.length I,.slice Z s.ends.length O] 77)).alloc (.cells #[.string c.kind,.string c.tab,.int .i64 c.num,.string c.st.tab,.int .i64 c.st.clock,.int .i64 c.st.next,.slice Y c.st.slots.length J,.slice ab c.st.ends.length Q,.int .i64 c.size] 163)).alloc (.cells #[.string {data:= #[]},.int .i64 0,.int .i64 0,.slice none 0 0,.slice none 0 0] 77)) s (.slice U s.slots.length I) (.slice Z s.ends.length O) c (.slice Y c.st.slots.length J) (.slice ab c.st.ends.length Q):=hR;clear hR;generalize ((w.alloc (.cells #[.string s.tab,.int .i64 s.clock,.int .i64 s.next,.slice U s.slots.length I,.slice Z s.ends.length O] 77)).alloc (.cells #[.string c.kind,.string c.tab,.int .i64 c.num,.string c.st.tab,.int .i64 c.st.clock,.int .i64 c.st.next,.slice Y c.st.slots.length J,.slice ab c.st.ends.length Q,.int .i64 c.size] 163)).alloc (.cells #[.string {data:= #[]},.int .i64 0,.int .i64 0,.slice none 0 0,.slice none 0 0] 77)=W at *;have HR:=Hq d;have HT:=Hq (hT.later d.b);have HM:=Hq (hM.later d.b);have am:=Hq (hS.later d.b);have i0:=d.s.c 0 _ rfl;have i1:=d.s.c 1 _ rfl;have i2:=d.s.c 2 _ rfl;have i3:=d.s.c 3 _ rfl;have i4:=d.s.c 4 _ rfl;have x0:=d.c.c 0 _ rfl;have x1:=d.c.c 1 _ rfl;have x2:=d.c.c 2 _ rfl;have yi:=d.s.ty.lt;have yx:=d.c.ty.lt;clear d hO hT hM hS;go_wp2_with fail;refine (fL s c.num _ _ _ HO.out HT.out (am.out)).mono ?_;rintro e w1 ⟨⟨a3,a4,rfl,aa⟩,af⟩;have aD:Hid (Px.ChM s ⟨70,t,c.num⟩ (Px.failP s c.num)):=Px.chm_fail HO.out t c.num;generalize Px.failP s c.num=p at *;obtain⟨ao,ai,ap,_⟩:=aa.sl.form;obtain⟨aq,aj,ak,_⟩:=aa.en.form;subst ap ak;have G:=HR.out.later af;have aF:=Hq aa;have z0:=G.z.c 0 _ rfl;have z1:=G.z.c 1 _ rfl;have z2:=G.z.c 2 _ rfl;have z3:=G.z.c 3 _ rfl;have z4:=G.z.c 4 _ rfl;have f0:=G.z.f 0 (by simp);have f1:=G.z.f 1 (by simp);have f2:=G.z.f 2 (by simp);have f3:=G.z.f 3 (by simp);have f4:=G.z.f 4 (by simp)
 have yz:=G.z.ty.lt;have aE:Hid (Below w.heap.size w w1):=G.b;have au:Hid (Typed w1 (w.heap.size+2) 77):=G.z.ty;clear aa af G HR i0 i1 i2 i3 i4 x0 x1 x2 yi yx aw aB av aA ay az;go_wp2_with fail;refine bodyPost_ret (v:=.tuple #[pstV p.1 (.slice ao p.1.slots.length ai) (.slice aq p.1.ends.length aj),.int .i64 p.2]) (by simp[results,Tryz.results136,go_sem,z0,z1,z2,z3,z4]) rfl ⟨⟨p,⟨_,_,rfl,aF.out.store au.out _ _ _ _ _⟩,aD.out⟩,dK aE.out (by omega) _ _ _ _ _⟩
set_option maxRecDepth 10000 in
set_option maxHeartbeats 4000000 in
theorem qh (s:Px.St) (sl en:Value) (c:Ct) (ae ah:Value) (t:ByteArray) (w:World) (hO:Px.Ok s) (hT:TabLH w) (hM:Tab w) (hS:PAt w s sl en) (hf:(∃U I,ae=.slice U c.st.slots.length I)∧∃U I,ah=.slice U c.st.ends.length I) (ag:c.tab.size≤maxLen) (V:c.kind=Bx.b1 75):
 Calls Tryz.prog 136 #[pstV s sl en,ctV c ae ah] w fun e w'=>(∃p,ChgR p w' e∧Px.ChM s ⟨75,t,c.num⟩ p)∧Below w.heap.size w w':=by
 obtain⟨U,I,rfl,aV⟩:=hS.sl.form;obtain⟨Z,O,rfl,aG⟩:=hS.en.form;obtain⟨⟨Y,J,rfl⟩,⟨ab,Q,rfl⟩⟩:=hf;have av:(c.kind.toList==[84])=false:=dO V (by decide) (by decide) 84 (by decide)
 have aA:(c.kind.toList==[67])=false:=dO V (by decide) (by decide) 67 (by decide)
 have au:(c.kind.toList==[83])=false:=dO V (by decide) (by decide) 83 (by decide)
 have az:(c.kind.toList==[68])=false:=dO V (by decide) (by decide) 68 (by decide)
 have ax:(c.kind.toList==[70])=false:=dO V (by decide) (by decide) 70 (by decide)
 have ay:(c.kind.toList==[75])=true:=gz V (by decide) (by decide) 75 (by decide)
 have hl:s.slots.length≤8:=hO.len;have a4:s.ends.length≤6:=hO.st.en;have HO:=Hq hO;have aZ:=Hq ag;have hR:=RC.new w s (.slice U s.slots.length I) (.slice Z s.ends.length O) c (.slice Y c.st.slots.length J) (.slice ab c.st.ends.length Q);clear V ag
 go_enter Tryz.func136,Tryz.ntmps136
 go_upto_region 1 with fail;have d:RC w (((w.alloc (.cells #[.string s.tab,.int .i64 s.clock,.int .i64 s.next,.slice U s.slots.length I,.slice Z s.ends.length O] 77)).alloc (.cells #[.string c.kind,.string c.tab,.int .i64 c.num,.string c.st.tab,.int .i64 c.st.clock,.int .i64 c.st.next,.slice Y c.st.slots.length J,.slice ab c.st.ends.length Q,.int .i64 c.size] 163)).alloc (.cells #[.string {data:= #[]},.int .i64 0,.int .i64 0,.slice none 0 0,.slice none 0 0] 77)) s (.slice U s.slots.length I) (.slice Z s.ends.length O) c (.slice Y c.st.slots.length J) (.slice ab c.st.ends.length Q):=hR;clear hR;generalize ((w.alloc (.cells #[.string s.tab,.int .i64 s.clock,.int .i64 s.next,.slice U s.slots.length I,.slice Z s.ends.length O] 77)).alloc (.cells #[.string c.kind,.string c.tab,.int .i64 c.num,.string c.st.tab,.int .i64 c.st.clock,.int .i64 c.st.next,.slice Y c.st.slots.length J,.slice ab c.st.ends.length Q,.int .i64 c.size] 163)).alloc (.cells #[.string {data:= #[]},.int .i64 0,.int .i64 0,.slice none 0 0,.slice none 0 0] 77)=W at *;have HR:=Hq d;have HT:=Hq (hT.later d.b);have HM:=Hq (hM.later d.b);have am:=Hq (hS.later d.b);have i0:=d.s.c 0 _ rfl;have i1:=d.s.c 1 _ rfl;have i2:=d.s.c 2 _ rfl;have i3:=d.s.c 3 _ rfl;have i4:=d.s.c 4 _ rfl;have x0:=d.c.c 0 _ rfl;have x1:=d.c.c 1 _ rfl;have x2:=d.c.c 2 _ rfl;have yi:=d.s.ty.lt;have yx:=d.c.ty.lt;clear d hO hT hM hS;go_wp2_with fail;refine (gp s c.num _ _ _ (by omega) (by omega) (am.out)).mono ?_
 rintro e w1 ⟨⟨a2,a3,rfl,aa⟩,af⟩;have aC:Hid (Px.ChM s ⟨75,t,c.num⟩ (Px.cancelP s c.num)):=Px.chm_cancel HO.out t c.num;generalize Px.cancelP s c.num=p at *;obtain⟨ao,ai,ap,_⟩:=aa.sl.form;obtain⟨aq,aj,ak,_⟩:=aa.en.form;subst ap ak;have G:=HR.out.later af;have aE:=Hq aa;have z0:=G.z.c 0 _ rfl;have z1:=G.z.c 1 _ rfl;have z2:=G.z.c 2 _ rfl;have z3:=G.z.c 3 _ rfl;have z4:=G.z.c 4 _ rfl;have f0:=G.z.f 0 (by simp);have f1:=G.z.f 1 (by simp);have f2:=G.z.f 2 (by simp);have f3:=G.z.f 3 (by simp);have f4:=G.z.f 4 (by simp)
 have yz:=G.z.ty.lt;have aD:Hid (Below w.heap.size w w1):=G.b;have ar:Hid (Typed w1 (w.heap.size+2) 77):=G.z.ty;clear aa af G HR i0 i1 i2 i3 i4 x0 x1 x2 yi yx av aA au az ax ay;go_wp2_with fail;refine bodyPost_ret (v:=.tuple #[pstV p.1 (.slice ao p.1.slots.length ai) (.slice aq p.1.ends.length aj),.int .i64 p.2]) (by simp[results,Tryz.results136,go_sem,z0,z1,z2,z3,z4]) rfl ⟨⟨p,⟨_,_,rfl,aE.out.store ar.out _ _ _ _ _⟩,aC.out⟩,dK aD.out (by omega) _ _ _ _ _⟩
theorem mY (s:Px.St) (sl en:Value) (c:Ct) (d G:Value) (b:ByteArray) (h:Bx.Ch) (w:World) (Q:Px.Ok s) (U:TabLH w) (V:Tab w) (hS:PAt w s sl en) (O:(∃ad Y,d=.slice ad c.st.slots.length Y)∧∃ad Y,G=.slice ad c.st.ends.length Y) (hb:b.size≤100000) (hI:Bx.IsCh b h) (J:c.kind=Bx.b1 h.kind) (ht:c.tab=h.tab) (Z:c.num=h.n):
 Calls Tryz.prog 136 #[pstV s sl en,ctV c d G] w fun e w'=>(∃p,ChgR p w' e∧Px.ChM s h p)∧Below w.heap.size w w':=by
 have I:c.tab.size≤maxLen:=by
  rw[ht];unfold maxLen
  rcases hI.1 with ⟨q,_⟩|⟨_,q,_⟩|⟨_,q,_⟩
  ·have h1:=Bx.body_tab h q;rw[hI.2] at h1;omega
  ·rw[q];decide
  ·rw[q];decide
 obtain⟨k,t,n⟩:=h;simp only at J ht Z
 rcases hI.1 with ⟨q,_⟩|⟨q,_⟩|⟨q,_⟩
 ·simp only at q;subst q ht Z
  exact pY s sl en c d G c.tab w Q U V hS O I J
 ·simp only at q;subst q Z
  exact qN s sl en c d G t w Q U V hS O I J
 ·simp only at q
  rcases q with q|q|q|q<;>(subst q Z)
  ·exact qy s sl en c d G t w Q U V hS O I J
  ·exact qY s sl en c d G t w Q U V hS O I J
  ·exact pH s sl en c d G t w Q U V hS O I J
  ·exact qh s sl en c d G t w Q U V hS O I J
inductive BehR (fl:Bool) (s:Px.St) (b:ByteArray) (w':World):Ending→Prop
 | yes (t:Px.St) (sl en:Value) (h:Bx.Stp fl (Px.abs s) b (Px.abs t)) (hO:Px.Ok t) (ha:PAt w' t sl en):BehR fl s b w' (.returned (.tuple #[pstV t sl en,.bool true]))
 | no (t:Px.St) (sl en:Value) (h:¬∃t,Bx.Stp fl (Px.abs s) b t) (ha:(∃ad cap,sl=.slice ad t.slots.length cap)∧∃ad cap,en=.slice ad t.ends.length cap):BehR fl s b w' (.returned (.tuple #[pstV t sl en,.bool false]))
theorem od {fl:Bool} {s:Bx.St} {b:ByteArray} {h:Bx.Ch} (d:Bx.IsCh b h):((Bx.doP s h).2=true→Bx.Stp fl s b (Bx.doP s h).1)∧((Bx.doP s h).2=false→¬∃t,Bx.Stp fl s b t):=by
 refine⟨fun q=>Or.inr ⟨h,d,q,rfl⟩,fun q=>?_⟩
 rintro ⟨t,⟨_,e⟩|⟨c,w,hd,_⟩⟩
 ·exact (e.no_ch d).elim
 ·rw[d.uniq w] at q;rw[q] at hd;cases hd
theorem sQ {fl:Bool} {s t:Bx.St} {b:ByteArray} (d:Bx.wholeS t=b) (J:Bx.StFit t):(fl=true∧Bx.MayS t→Bx.Stp fl s b t)∧(¬(fl=true∧Bx.MayS t)→¬∃u,Bx.Stp fl s b u):=by
 refine⟨fun ⟨q,m⟩=>Or.inl ⟨q,m,d⟩,fun q=>?_⟩
 rintro ⟨u,⟨I,hm,O⟩|⟨c,⟨Q,w⟩,_⟩⟩
 ·have:t=u:=by
   have h1:=Px.rdState_enc t J ByteArray.empty;have h2:=Px.rdState_enc u hm.fit ByteArray.empty
   have e:Bx.encSt t=Bx.encSt u:=by
    have:=d.trans O.symm;unfold Bx.wholeS at this;exact (Bx.app_inj this rfl).2
   rw[e,h2] at h1;have:=congrArg (fun p=>Px.abs p.1) h1
   simp only [Px.rdSt_abs] at this
   exact this.symm
  subst this;exact q ⟨I,hm⟩
 ·rw[←d] at w;unfold Bx.wholeS Bx.body at w;obtain⟨G,_⟩:=Bx.app_inj w rfl;rw[Bx.b1_be,Bx.b1_be] at G;have k:=Q.kind;exact k.2.2 (Bx.be_inj G k.1 (by simpa using k.2.1) (by decide) (by decide))
set_option maxRecDepth 10000 in
set_option maxHeartbeats 4000000 in
theorem oW (fl:Bool) (s:Px.St) (sl en:Value) (c:Ct) (b:ByteArray) (w:World) (hO:Px.Ok s) (hT:TabLH w) (hM:Tab w) (hS:PAt w s sl en) (hb:b.size≤100000) (hI:IsC b c) (hs:c.st=Px.st0):
 Calls Tryz.prog 103 #[pstV s sl en,ctV c nilS nilS,.bool fl] w fun e w'=>BehR fl s b w' e∧Below w.heap.size w w':=by
 obtain⟨h,hI,hk,ht,hn⟩:=hI;obtain⟨ad,Z,rfl,aW⟩:=hS.sl.form;obtain⟨Y,O,rfl,aN⟩:=hS.en.form;have V:=hI.1.kind;have ay:(c.kind.toList==[90])=false:=dO hk V.1 V.2.1 90 (by simpa using V.2.2)
 have HO:=Hq hO;have HI:Hid (Bx.IsCh b h∧c.kind=Bx.b1 h.kind∧c.tab=h.tab∧c.num=h.n):=⟨hI,hk,ht,hn⟩;have ah:=Hq hs;have hR:=RC.new w s (.slice ad s.slots.length Z) (.slice Y s.ends.length O) c (.slice none 0 0) (.slice none 0 0);clear hI hk ht hn V;clear hs
 go_enter Tryz.func103,Tryz.ntmps103
 go_upto_region 1 with fail;have d:RC w (((w.alloc (.cells #[.string s.tab,.int .i64 s.clock,.int .i64 s.next,.slice ad s.slots.length Z,.slice Y s.ends.length O] 77)).alloc (.cells #[.string c.kind,.string c.tab,.int .i64 c.num,.string c.st.tab,.int .i64 c.st.clock,.int .i64 c.st.next,.slice none 0 0,.slice none 0 0,.int .i64 c.size] 163)).alloc (.cells #[.string {data:= #[]},.int .i64 0,.int .i64 0,.slice none 0 0,.slice none 0 0] 77)) s (.slice ad s.slots.length Z) (.slice Y s.ends.length O) c (.slice none 0 0) (.slice none 0 0):=hR;clear hR;generalize ((w.alloc (.cells #[.string s.tab,.int .i64 s.clock,.int .i64 s.next,.slice ad s.slots.length Z,.slice Y s.ends.length O] 77)).alloc (.cells #[.string c.kind,.string c.tab,.int .i64 c.num,.string c.st.tab,.int .i64 c.st.clock,.int .i64 c.st.next,.slice none 0 0,.slice none 0 0,.int .i64 c.size] 163)).alloc (.cells #[.string {data:= #[]},.int .i64 0,.int .i64 0,.slice none 0 0,.slice none 0 0] 77)=W at *;have HR:=Hq d;have HT:=Hq (hT.later d.b);have HM:=Hq (hM.later d.b);have aG:=Hq (hS.later d.b);have i0:=d.s.c 0 _ rfl;have i1:=d.s.c 1 _ rfl;have i2:=d.s.c 2 _ rfl;have i3:=d.s.c 3 _ rfl;have i4:=d.s.c 4 _ rfl;have x0:=d.c.c 0 _ rfl;have x1:=d.c.c 1 _ rfl;have x2:=d.c.c 2 _ rfl;have x3:=d.c.c 3 _ rfl;have x4:=d.c.c 4 _ rfl;have x5:=d.c.c 5 _ rfl;have x6:=d.c.c 6 _ rfl;have x7:=d.c.c 7 _ rfl;have x8:=d.c.c 8 _ rfl;have yi:=d.s.ty.lt;have yx:=d.c.ty.lt;clear d hO hT hM hS;go_wp2_with fail;refine (mY s _ _ c (.slice none 0 0) (.slice none 0 0) b h _ HO.out HT.out HM.out aG.out ⟨⟨none,0,by rw[ah.out];rfl⟩,⟨none,0,by rw[ah.out];rfl⟩⟩ hb HI.out.1 HI.out.2.1 HI.out.2.2.1 HI.out.2.2.2).mono ?_
 rintro e w1 ⟨⟨p,⟨bf,bg,rfl,aa⟩,ao⟩,ak⟩;obtain⟨Q,I,az,_⟩:=aa.sl.form;obtain⟨U,J,aL,_⟩:=aa.en.form;subst az aL;have ag:=cw w1 (pstO p.1 (.slice Q p.1.slots.length I) (.slice U p.1.ends.length J));have G:=(HR.out.later ak).later ag;have af:=aa.later ag;have aD:=PIn.new w1 p.1 (.slice Q p.1.slots.length I) (.slice U p.1.ends.length J);have am:=Hq ao;clear aa ak ag ao HR i0 i1 i2 i3 i4 x0 x1 x2 x3 x4 x5 x6 x7 x8 yi yx ay;go_upto_region 5 with fail;generalize w1.alloc (pstO p.1 (.slice Q p.1.slots.length I) (.slice U p.1.ends.length J))=W2 at *;generalize w1.heap.size=q2 at *;have aK:=Hq af;obtain⟨j0,j1,j2,j3,j4⟩:=aD;have z0:=G.z.c 0 _ rfl;have z1:=G.z.c 1 _ rfl;have z2:=G.z.c 2 _ rfl;have z3:=G.z.c 3 _ rfl;have z4:=G.z.c 4 _ rfl;have f0:=G.z.f 0 (by simp);have f1:=G.z.f 1 (by simp);have f2:=G.z.f 2 (by simp);have f3:=G.z.f 3 (by simp);have f4:=G.z.f 4 (by simp)
 have yz:=G.z.ty.lt;have al:Hid (Below w.heap.size w W2):=G.b;have aB:Hid (Typed W2 (w.heap.size+2) 77):=G.z.ty;clear af G
 by_cases hp:p.2=0
 ·have aC:(p.2==0)=true:=by simpa using hp
  have HY:Hid (Bx.Stp fl (Px.abs s) b (Px.abs p.1)∧Px.Ok p.1):=by
   obtain⟨a1,a2⟩:=am.out.1 hp;have:=(od (fl:=fl) (s:=Px.abs s) HI.out.1).1 (by rw[a1])
   rw[a1] at this;exact⟨this,a2⟩
  clear hp;generalize p.2=pr at *;go_wp2_with fail;refine bodyPost_ret (v:=.tuple #[pstV p.1 (.slice Q p.1.slots.length I) (.slice U p.1.ends.length J),.bool true]) (by simp[results,Tryz.results103,go_sem,z0,z1,z2,z3,z4]) rfl ⟨BehR.yes _ _ _ HY.out.1 HY.out.2 (aK.out.store aB.out _ _ _ _ _),dK al.out (by omega) _ _ _ _ _⟩
 ·have aC:(p.2==0)=false:=by simpa using hp
  have HY:Hid (¬∃t,Bx.Stp fl (Px.abs s) b t):=(od (fl:=fl) (s:=Px.abs s) HI.out.1).2 (am.out.2 hp);clear hp;generalize p.2=pr at *;go_wp2_with fail;refine bodyPost_ret (v:=.tuple #[pstV p.1 (.slice Q p.1.slots.length I) (.slice U p.1.ends.length J),.bool false]) (by simp[results,Tryz.results103,go_sem,z0,z1,z2,z3,z4]) rfl ⟨BehR.no _ _ _ HY.out ⟨⟨_,_,rfl⟩,⟨_,_,rfl⟩⟩,dK al.out (by omega) _ _ _ _ _⟩
set_option maxRecDepth 10000 in
set_option maxHeartbeats 4000000 in
theorem oU (fl:Bool) (s:Px.St) (sl en:Value) (c:Ct) (am ap:Value) (b:ByteArray) (w:World) (hT:TabLH w) (hS:PAt w s sl en) (hC:PAt w c.st am ap) (hI:IsW b c):
 Calls Tryz.prog 103 #[pstV s sl en,ctV c am ap,.bool fl] w fun e w'=>BehR fl s b w' e∧Below w.heap.size w w':=by
 obtain⟨hk,hw,Q,aj,aA⟩:=hI;obtain⟨ad,aa,rfl,aZ⟩:=hS.sl.form;obtain⟨Z,V,rfl,aT⟩:=hS.en.form;obtain⟨O,I,rfl,aR⟩:=hC.sl.form;obtain⟨U,J,rfl,aS⟩:=hC.en.form;have ay:(c.kind.toList==[90])=true:=gz hk (by decide) (by decide) 90 (by decide)
 have Y:Hid ((fl=true∧Bx.MayS (Px.abs c.st)→Bx.Stp fl (Px.abs s) b (Px.abs c.st))∧(¬(fl=true∧Bx.MayS (Px.abs c.st))→¬∃u,Bx.Stp fl (Px.abs s) b u)):=sQ hw Q;have aG:=Hq aj;have az:Hid (MayP c.st↔Bx.MayS (Px.abs c.st)):=rW fun x hx=>(aj x hx).2.2.2
 have ax:Hid (c.st.tab.size≤maxLen):=by have:=Q.t;unfold Hid maxLen;have e:(Px.abs c.st).tab=c.st.tab:=rfl;rw[e] at this;omega
 have hl:c.st.slots.length≤10000:=by have:=Q.sl;simp[Px.abs] at this;omega
 have aL:c.st.ends.length≤10000:=by have:=Q.en;simp[Px.abs] at this;omega
 have hR:=RC.new w s (.slice ad s.slots.length aa) (.slice Z s.ends.length V) c (.slice O c.st.slots.length I) (.slice U c.st.ends.length J);clear hk hw Q aj aA
 go_enter Tryz.func103,Tryz.ntmps103
 go_upto_region 1 with fail;have d:RC w (((w.alloc (.cells #[.string s.tab,.int .i64 s.clock,.int .i64 s.next,.slice ad s.slots.length aa,.slice Z s.ends.length V] 77)).alloc (.cells #[.string c.kind,.string c.tab,.int .i64 c.num,.string c.st.tab,.int .i64 c.st.clock,.int .i64 c.st.next,.slice O c.st.slots.length I,.slice U c.st.ends.length J,.int .i64 c.size] 163)).alloc (.cells #[.string {data:= #[]},.int .i64 0,.int .i64 0,.slice none 0 0,.slice none 0 0] 77)) s (.slice ad s.slots.length aa) (.slice Z s.ends.length V) c (.slice O c.st.slots.length I) (.slice U c.st.ends.length J):=hR;clear hR;generalize ((w.alloc (.cells #[.string s.tab,.int .i64 s.clock,.int .i64 s.next,.slice ad s.slots.length aa,.slice Z s.ends.length V] 77)).alloc (.cells #[.string c.kind,.string c.tab,.int .i64 c.num,.string c.st.tab,.int .i64 c.st.clock,.int .i64 c.st.next,.slice O c.st.slots.length I,.slice U c.st.ends.length J,.int .i64 c.size] 163)).alloc (.cells #[.string {data:= #[]},.int .i64 0,.int .i64 0,.slice none 0 0,.slice none 0 0] 77)=W at *;have HR:=Hq d;have HT:=Hq (hT.later d.b);have HC:=Hq (hC.later d.b);have x0:=d.c.c 0 _ rfl;have x3:=d.c.c 3 _ rfl;have x4:=d.c.c 4 _ rfl;have x5:=d.c.c 5 _ rfl;have x6:=d.c.c 6 _ rfl;have x7:=d.c.c 7 _ rfl;have yx:=d.c.ty.lt;have z0:=d.z.c 0 _ rfl;have z1:=d.z.c 1 _ rfl;have z2:=d.z.c 2 _ rfl;have z3:=d.z.c 3 _ rfl;have z4:=d.z.c 4 _ rfl;have f0:=d.z.f 0 (by simp);have f1:=d.z.f 1 (by simp);have f2:=d.z.f 2 (by simp);have f3:=d.z.f 3 (by simp);have f4:=d.z.f 4 (by simp)
 have yz:=d.z.ty.lt;clear d hT hS hC
 cases fl
 ·have HY:Hid (¬∃t,Bx.Stp false (Px.abs s) b t):=Y.out.2 (fun q=>by cases q.1)
  go_wp2_with fail;refine bodyPost_ret (v:=.tuple #[pstV c.st (.slice O c.st.slots.length I) (.slice U c.st.ends.length J),.bool false]) (by simp[results,Tryz.results103,go_sem,z0,z1,z2,z3,z4]) rfl ⟨BehR.no _ _ _ HY.out ⟨⟨_,_,rfl⟩,⟨_,_,rfl⟩⟩,dK HR.out.b (by omega) _ _ _ _ _⟩
 ·go_wp2_with fail;refine (qr c.st _ _ _ ax.out hl aL HT.out HC.out).mono ?_;rintro e w1 ⟨⟨bb,rfl,ao⟩,ae⟩;have G:=HR.out.later ae;have aM:=Hq (HC.out.later ae);have aq:Hid (bb=true↔Bx.MayS (Px.abs c.st)):=ao.trans az.out;clear x0 x3 x4 x5 x6 x7 yx z0 z1 z2 z3 z4 f0 f1 f2 f3 f4 yz ao ae HR HC ay;have x3:=G.c.c 3 _ rfl;have x4:=G.c.c 4 _ rfl;have x5:=G.c.c 5 _ rfl;have x6:=G.c.c 6 _ rfl;have x7:=G.c.c 7 _ rfl;have yx:=G.c.ty.lt;have z0:=G.z.c 0 _ rfl;have z1:=G.z.c 1 _ rfl;have z2:=G.z.c 2 _ rfl;have z3:=G.z.c 3 _ rfl;have z4:=G.z.c 4 _ rfl;have f0:=G.z.f 0 (by simp);have f1:=G.z.f 1 (by simp);have f2:=G.z.f 2 (by simp);have f3:=G.z.f 3 (by simp);have f4:=G.z.f 4 (by simp)
  have yz:=G.z.ty.lt;have ar:Hid (Below w.heap.size w w1):=G.b;have aF:Hid (Typed w1 (w.heap.size+2) 77):=G.z.ty;clear G
  cases bb
  ·have HY:Hid (¬∃t,Bx.Stp true (Px.abs s) b t):=Y.out.2 (fun q=>by have:=aq.out.2 q.2;cases this)
   go_wp2_with fail;refine bodyPost_ret (v:=.tuple #[pstV c.st (.slice O c.st.slots.length I) (.slice U c.st.ends.length J),.bool false]) (by simp[results,Tryz.results103,go_sem,z0,z1,z2,z3,z4]) rfl ⟨BehR.no _ _ _ HY.out ⟨⟨_,_,rfl⟩,⟨_,_,rfl⟩⟩,dK ar.out (by omega) _ _ _ _ _⟩
  ·have hm:=aq.out.1 rfl;have HY:Hid (Bx.Stp true (Px.abs s) b (Px.abs c.st)∧Px.Ok c.st):=⟨Y.out.1 (by first |exact⟨rfl,hm⟩|exact⟨trivial,hm⟩),Px.fresh_ok aG.out hm⟩
   clear hm;go_wp2_with fail;refine bodyPost_ret (v:=.tuple #[pstV c.st (.slice O c.st.slots.length I) (.slice U c.st.ends.length J),.bool true]) (by simp[results,Tryz.results103,go_sem,z0,z1,z2,z3,z4]) rfl ⟨BehR.yes _ _ _ HY.out.1 HY.out.2 (aM.out.store aF.out _ _ _ _ _),dK ar.out (by omega) _ _ _ _ _⟩
end Go.Proofs.YtdajolpoiffimabGreatDoor
