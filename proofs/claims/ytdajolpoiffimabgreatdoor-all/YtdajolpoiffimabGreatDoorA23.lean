import Derived.Deep.RegionWith
import Derived.Test.YtdajolpoiffimabGreatDoorA22

namespace Go.Proofs.YtdajolpoiffimabGreatDoor
open Go.RowKit
structure ARes (w W:World) (s:Px.St) (sl en:Value) (p:Nat×Int):Prop where
 st:PIn W w.heap.size s sl en
 a0:W.cell? ⟨w.heap.size+1,0,none⟩=some (.int .i64 ((p.1:Int)+1))
 a1:W.cell? ⟨w.heap.size+1,1,none⟩=some (.int .i64 p.2)
 z:ZCell W (w.heap.size+2) 5
 ty:Typed W (w.heap.size+2) 77
 bel:Below w.heap.size w W
 lt:w.heap.size+2<W.heap.size
theorem ARes.new (w:World) (s:Px.St) (sl en:Value) (p:Nat×Int):ARes w (((w.alloc (pstO s sl en)).alloc (.cells #[.int .i64 ((p.1:Int)+1),.int .i64 p.2] 141)).alloc pzO) s sl en p:=by
 have d:=ZCell.new ((w.alloc (pstO s sl en)).alloc (.cells #[.int .i64 ((p.1:Int)+1),.int .i64 p.2] 141)) #[.string {data:= #[]},.int .i64 0,.int .i64 0,.slice none 0 0,.slice none 0 0] 77;have e:=Typed.new ((w.alloc (pstO s sl en)).alloc (.cells #[.int .i64 ((p.1:Int)+1),.int .i64 p.2] 141)) #[.string {data:= #[]},.int .i64 0,.int .i64 0,.slice none 0 0,.slice none 0 0] 77;refine⟨((PIn.new w s sl en).later (cw _ _)).later (cw _ _),by simp[go_sem],by simp[go_sem],by simpa using d,by simpa using e,((cw w _).alloc (by simp) _).alloc (by simp;omega) _,by simp⟩
theorem ARes.later {w W W':World} {s:Px.St} {sl en:Value} {p:Nat×Int} (h:ARes w W s sl en p) (hb:Below W.heap.size W W'):ARes w W' s sl en p:=
 ⟨h.st.later hb,cell_later hb h.a0,cell_later hb h.a1,h.z.later h.lt hb,h.ty.later hb,h.bel.trans (hb.mono h.bel.size),Nat.lt_of_lt_of_le h.lt hb.size⟩
theorem ARes.set {w W:World} {s:Px.St} {sl en:Value} {p:Nat×Int} (h:ARes w W s sl en p) {q:Nat} (I:w.heap.size+2<q) (j:Nat) (u:Value):ARes w (W.setCell ⟨q,j,none⟩ u) s sl en p:=by
 have d:∀(a i:Nat),a≤w.heap.size+2→(W.setCell ⟨q,j,none⟩ u).cell? ⟨a,i,none⟩=W.cell? ⟨a,i,none⟩:=fun a i J=>World.cell?_setCell_other _ _ _ _ (by first |(simp;done)|(simp;omega))
 obtain⟨c0,c1,c2,c3,c4⟩:=h.st;refine⟨⟨?_,?_,?_,?_,?_⟩,?_,?_,fun i hi=>⟨?_,?_⟩,h.ty.setCell _ _ _,h.bel.setCell (by first |(simp;done)|(simp;omega)) _,by have:=h.lt;simpa [World.setCell] using this⟩
 ·rw[d _ _ (by omega)];exact c0
 ·rw[d _ _ (by omega)];exact c1
 ·rw[d _ _ (by omega)];exact c2
 ·rw[d _ _ (by omega)];exact c3
 ·rw[d _ _ (by omega)];exact c4
 ·rw[d _ _ (by omega)];exact h.a0
 ·rw[d _ _ (by omega)];exact h.a1
 ·obtain⟨G,e⟩:=(h.z i hi).1;exact⟨G,by rw[d _ _ (by omega)];exact e⟩
 ·rw[World.frozen?_setCell];exact (h.z i hi).2
theorem qH {s:Px.St} {p:Nat×Int} (h:8≤s.slots.length):Px.arr s p={{s with next:=s.next+1} with ends:=Bx.push s.ends ⟨s.next,⟨#[115]⟩⟩}:=by
 unfold Px.arr;rw[if_pos h];rfl
theorem np {s:Px.St} {p:Nat×Int} (h:¬8≤s.slots.length):Px.arr s p={{s with next:=s.next+1} with slots:=s.slots++[Px.slotOf p s.next]}:=by
 unfold Px.arr;rw[if_neg h]
set_option maxRecDepth 10000 in
set_option maxHeartbeats 4000000 in
theorem i6 (s:Px.St) (p:Nat×Int) (sl en:Value) (w:World) (hl:s.slots.length≤10000) (he:s.ends.length≤10000) (n1:0≤s.next) (n2:s.next≤100000) (hS:PAt w s sl en):
 Calls Tryz.prog 89 #[pstV s sl en,.agg #[.int .i64 ((p.1:Int)+1),.int .i64 p.2]] w fun e w'=>(∃aC aI,e=.returned (pstV (Px.arr s p) aC aI)∧PAt w' (Px.arr s p) aC aI)∧Below w.heap.size w w':=by
 obtain⟨ad,Y,rfl,a9⟩:=hS.sl.form;obtain⟨V,Q,rfl,aW⟩:=hS.en.form;have HS:=Hq hS;have hP:=ARes.new w s (.slice ad s.slots.length Y) (.slice V s.ends.length Q) p;clear hS
 go_enter Tryz.func89,Tryz.ntmps89
 go_upto_region 1 with fail;generalize ((w.alloc (pstO s (.slice ad s.slots.length Y) (.slice V s.ends.length Q))).alloc (.cells #[.int .i64 ((p.1:Int)+1),.int .i64 p.2] 141)).alloc pzO=W at *;have az:PAt W s (.slice ad s.slots.length Y) (.slice V s.ends.length Q):=HS.out.later hP.bel;obtain⟨i0,i1,i2,i3,i4⟩:=hP.st;have aH:=hP.later (cw W (pstO s (.slice ad s.slots.length Y) (.slice V s.ends.length Q)));have aD:=az.later (cw W (pstO s (.slice ad s.slots.length Y) (.slice V s.ends.length Q)));have hA:=PW.new W s (.slice ad s.slots.length Y) (.slice V s.ends.length Q);have ay:=hP.lt;go_upto_region 3 with fail;clear i0 i1 i2 i3 i4 hP az;generalize W.alloc (pstO s (.slice ad s.slots.length Y) (.slice V s.ends.length Q))=W2 at *;generalize W.heap.size=q at *;have a2:=hA.st.c2;have g2:=hA.f 2 (by decide)
 have bv:=hA.ty.lt;have af:=aH.set ay 2 (.int .i64 (s.next+1));have aG:=hA.next (s.next+1);have aA:=aD.set hA.ty (by decide) (by decide) 2 (.int .i64 (s.next+1))
 clear aH aD hA;go_upto_region 4 with fail;clear a2 g2;generalize W2.setCell ⟨q,2,none⟩ (.int .i64 (s.next+1))=W3 at *;have ab:=Hq af;have aa:=Hq aG;have Z:=Hq aA;obtain⟨i0,i1,i2,i3,i4⟩:=af.st;have b0:=af.a0;have b1:=af.a1;clear af aG aA
 by_cases h8:8≤s.slots.length
 ·have HM:Hid (Px.arr s p={{s with next:=s.next+1} with ends:=Bx.push s.ends ⟨s.next,⟨#[115]⟩⟩}):=qH h8;go_wp2_with fail;refine (gQ s.ends ⟨s.next,⟨#[115]⟩⟩ _ _ he Z.out.en.1).mono ?_;rintro e w5 ⟨⟨v5,rfl,O⟩,U⟩;clear i0 i1 i2 i3 i4 b0 b1;obtain⟨I,d,ap,_⟩:=(RowAt.of_own O).form;subst ap;have J:=aa.out.later U;have a4:=J.st.c4;have g4:=J.f 4 (by decide)
  have aV:=J.ty.lt;have G:=(ab.out.later U).set ay 4 (.slice I (Bx.push s.ends ⟨s.next,⟨#[115]⟩⟩).length d);have ae:=J.ends (Bx.push s.ends ⟨s.next,⟨#[115]⟩⟩) (.slice I (Bx.push s.ends ⟨s.next,⟨#[115]⟩⟩).length d);have ah:=((Z.out.later U).set J.ty (by decide) (by decide) 4 (.slice I (Bx.push s.ends ⟨s.next,⟨#[115]⟩⟩).length d)).sl
  have ag:=(TRow.of_own O).set J.ty (by decide) 4 (.slice I (Bx.push s.ends ⟨s.next,⟨#[115]⟩⟩).length d)
  clear J O U ab aa Z;go_upto_region 6 with fail;clear a4 g4;generalize w5.setCell ⟨q,4,none⟩ (.slice I (Bx.push s.ends ⟨s.next,⟨#[115]⟩⟩).length d)=W6 at *;have ar:Hid (PAt W6 {{s with next:=s.next+1} with ends:=Bx.push s.ends ⟨s.next,⟨#[115]⟩⟩} (.slice ad s.slots.length Y) (.slice I (Bx.push s.ends ⟨s.next,⟨#[115]⟩⟩).length d)):=⟨ah,ag⟩;have aq:Hid (Typed W6 (w.heap.size+2) 77):=G.ty;have HB:Hid (Below w.heap.size w W6):=G.bel;obtain⟨⟨u0,r0⟩,f0⟩:=G.z 0 (by decide)
  obtain⟨⟨u1,r1⟩,f1⟩:=G.z 1 (by decide)
  obtain⟨⟨u2,r2⟩,f2⟩:=G.z 2 (by decide)
  obtain⟨⟨u3,r3⟩,f3⟩:=G.z 3 (by decide)
  obtain⟨⟨u4,r4⟩,f4⟩:=G.z 4 (by decide)
  obtain⟨c0,c1,c2,c3,c4⟩:=ae.st;clear G ae ah ag;go_wp2_with fail;refine bodyPost_ret (v:=pstV {{s with next:=s.next+1} with ends:=Bx.push s.ends ⟨s.next,⟨#[115]⟩⟩} (.slice ad s.slots.length Y) (.slice I (Bx.push s.ends ⟨s.next,⟨#[115]⟩⟩).length d)) (by simp[results,Tryz.results89,go_sem,r0,r1,r2,r3,r4]) rfl ?_
  rw[HM.out];exact⟨⟨_,_,rfl,ar.out.store aq.out _ _ _ _ _⟩,dE HB.out (by omega) _ _ _ _ _⟩
 ·have HM:Hid (Px.arr s p={{s with next:=s.next+1} with slots:=s.slots++[Px.slotOf p s.next]}):=np h8;have aT:PsIn (W3.alloc (.cells #[.int .i64 s.next,.int .i64 ((p.1:Int)+1),.int .i64 p.2,.int .i64 1,.int .i64 p.2,.int .i64 0,.int .i64 0,.string {data:= #[]}] 143)) W3.heap.size (Px.slotOf p s.next):=PsIn.new W3 (Px.slotOf p s.next);have ax:=ab.out.later (cw W3 (.cells #[.int .i64 s.next,.int .i64 ((p.1:Int)+1),.int .i64 p.2,.int .i64 1,.int .i64 p.2,.int .i64 0,.int .i64 0,.string {data:= #[]}] 143));have aE:=aa.out.later (cw W3 (.cells #[.int .i64 s.next,.int .i64 ((p.1:Int)+1),.int .i64 p.2,.int .i64 1,.int .i64 p.2,.int .i64 0,.int .i64 0,.string {data:= #[]}] 143));have aF:=Z.out.later (cw W3 (.cells #[.int .i64 s.next,.int .i64 ((p.1:Int)+1),.int .i64 p.2,.int .i64 1,.int .i64 p.2,.int .i64 0,.int .i64 0,.string {data:= #[]}] 143));clear ab aa Z;go_upto_region 8 with fail;clear i0 i1 i2 i3 i4 b0 b1;generalize W3.alloc (.cells #[.int .i64 s.next,.int .i64 ((p.1:Int)+1),.int .i64 p.2,.int .i64 1,.int .i64 p.2,.int .i64 0,.int .i64 0,.string {data:= #[]}] 143)=W4 at *;generalize W3.heap.size=sq at *;generalize Px.slotOf p s.next=x at *;have av:=Hq ax;have au:=Hq aE;have ai:=Hq aF;obtain⟨i0,i1,i2,i3,i4⟩:=ax.st;obtain⟨x0,x1,x2,x3,x4,x5,x6,x7⟩:=aT;clear ax aE aF;go_wp2_with fail;refine (jR s.slots x _ _ hl ai.out.sl.1).mono ?_;rintro e w5 ⟨⟨v5,rfl,O⟩,U⟩;clear i0 i1 i2 i3 i4 x0 x1 x2 x3 x4 x5 x6 x7;obtain⟨I,d,ap,_⟩:=(RowAt.of_own O).form;subst ap;have J:=au.out.later U;have a3:=J.st.c3;have g3:=J.f 3 (by decide)
  have aV:=J.ty.lt;have G:=(av.out.later U).set ay 3 (.slice I (s.slots++[x]).length d);have ae:=J.slots (s.slots++[x]) (.slice I (s.slots++[x]).length d);have ag:=((ai.out.later U).set J.ty (by decide) (by decide) 3 (.slice I (s.slots++[x]).length d)).en
  have ah:=(TRow.of_own O).set J.ty (by decide) 3 (.slice I (s.slots++[x]).length d)
  clear J O U av au ai;generalize aB:(s.slots++[x]).length=nn at *;have aR:=Hq aB;clear aB;go_upto_region 9 with fail;clear a3 g3;generalize w5.setCell ⟨q,3,none⟩ (.slice I nn d)=W6 at *;have ar:Hid (PAt W6 {{s with next:=s.next+1} with slots:=s.slots++[x]} (.slice I nn d) (.slice V s.ends.length Q)):=⟨by show TRow W6 _ _ (s.slots++[x]).length _;rw[aR.out];exact ah,ag⟩
  have aq:Hid (Typed W6 (w.heap.size+2) 77):=G.ty;have HB:Hid (Below w.heap.size w W6):=G.bel;obtain⟨⟨u0,r0⟩,f0⟩:=G.z 0 (by decide)
  obtain⟨⟨u1,r1⟩,f1⟩:=G.z 1 (by decide)
  obtain⟨⟨u2,r2⟩,f2⟩:=G.z 2 (by decide)
  obtain⟨⟨u3,r3⟩,f3⟩:=G.z 3 (by decide)
  obtain⟨⟨u4,r4⟩,f4⟩:=G.z 4 (by decide)
  obtain⟨c0,c1,c2,c3,c4⟩:=ae.st;clear G ae ah ag;go_wp2_with fail;refine bodyPost_ret (v:=pstV {{s with next:=s.next+1} with slots:=s.slots++[x]} (.slice I nn d) (.slice V s.ends.length Q)) (by simp[results,Tryz.results89,go_sem,r0,r1,r2,r3,r4]) rfl ?_
  rw[HM.out];exact⟨⟨_,_,rfl,ar.out.store aq.out _ _ _ _ _⟩,dE HB.out (by omega) _ _ _ _ _⟩
def PBx (w:World) (B:Nat) (b:Px.Bo):Prop:=∃sl en,PB w B b sl en
theorem eY (c:Bx.Ch) (h:c.tab.size≤300):(Bx.frame (Bx.body c)).size≤400:=by
 rw[Bx.frame_size];have:=Bx.body_size c;omega
inductive LoadA (b:Px.Bo) (B:Nat) (tab:ByteArray) (w:World):Ending→World→Prop
 | mk (w':World) (b':Px.Bo) (a r:Int) (h:Px.LoadB b tab b' a r) (hB:PBx w' B b') (hg:w.grownBy w' (some B)):LoadA b B tab w (.returned (.tuple #[.int .i64 a,.int .i64 r])) w'
set_option maxRecDepth 10000 in
set_option maxHeartbeats 4000000 in
theorem og (b:Px.Bo) (B:Nat) (tab:ByteArray) (sl en:Value) (w:World) (hO:Px.Ok b.st) (bn:b.log.size≤10000) (hs:tab.size≤maxLen) (hT:TabLH w) (hB:PB w B b sl en):
 Calls Tryz.prog 21 #[.pointer (some ⟨B,0,none⟩),.string tab] w fun e w'=>LoadA b B tab w e w':=by
 obtain⟨ad,aH,rfl,a6⟩:=hB.rows.sl.form;obtain⟨aF,aD,rfl,aU⟩:=hB.rows.en.form;have HB:=Hq hB;have HT:=Hq hT;have HS:=Hq hs;have hl:b.st.slots.length≤10000:=by have:=hO.len;omega
 clear hB hT hs
 go_enter Tryz.func21,Tryz.ntmps21
 go_wp2_with fail;refine (mI _ _ HS.out HT.out).mono ?_;rintro e w1 ⟨⟨a,r,rfl,hC⟩,V⟩;have d:=HB.out.later V;have ay:Hid (w.grownBy w1 (some B)):=dx V _;have HC:=Hq hC;have aT:=Hq (HT.out.later V);have aO:=hC.bd
 by_cases hr:r=0
 rotate_left
 ·have bo:(r !=0)=true:=by simpa using hr
  have HA:Hid (LoadA b B tab w (.returned (.tuple #[.int .i64 a,.int .i64 r])) w1):=LoadA.mk w1 b a r (Or.inl ⟨hr,hC,rfl⟩) ⟨_,_,d⟩ ay.out;clear hr hC d V;go_wp2_with fail;go_ret2;exact HA.out
 subst hr;have ha:=hC.zero rfl;subst ha;have ah:=hC.lines.1;have bk:=d.ty.lt;have e2:=d.c2;have e3:=d.c3;have e4:=d.c4;have e5:=d.c5;have e6:=d.c6;have al:=Hq d;clear hC d V aO;go_wp2_with fail;refine (iz b.st tab _ _ _ HS.out aT.out hl al.out.rows).mono ?_;rintro e O ⟨⟨aa,rr,aG,av⟩,ac⟩;obtain⟨rfl,rfl⟩:=HC.out.uniq aG;rw[show tabC b.st tab 0=Px.tabP b.st tab from if_pos rfl] at av
 obtain⟨bm,bp,rfl,I⟩:=av;obtain⟨U,J,aI,_⟩:=I.sl.form;obtain⟨Q,G,aM,_⟩:=I.en.form;subst aI aM;clear e2 e3 e4 e5 e6;have aC:Hid (w.grownBy O (some B)):=dz ay.out (dx ac _);have Z:=al.out.later ac
 by_cases h0:0<b.st.slots.length
 ·have e:Px.tabP b.st tab=(Px.st0,5):=if_pos h0;rw[e];have ae:=Z.later (cw O (.cells #[.string {data:= #[]},.int .i64 0,.int .i64 0,.slice U (Px.tabP b.st tab).1.slots.length J,.slice Q (Px.tabP b.st tab).1.ends.length G] 77));have aJ:Hid (∀o,w.grownBy (O.alloc o) (some B)):=fun o=>dz aC.out (dx (cw O o) _)
  have aN:Hid (∀o,PB (O.alloc o) B b (.slice ad b.st.slots.length aH) (.slice aF b.st.ends.length aD)):=fun o=>Z.later (cw O o)
  clear ac Z ae I;go_wp2_with fail;go_ret2;exact LoadA.mk _ b 0 5 (Or.inr (Or.inl ⟨HC.out,h0,rfl,rfl,rfl⟩)) ⟨_,_,aN.out _⟩ (aJ.out _)
 ·have e:Px.tabP b.st tab=({b.st with tab:=tab},0):=if_neg h0;rw[e] at I ⊢;have az:b.st.slots.length=0:=by omega
  have au:=Hq az;have ar:=PIn.new O {b.st with tab:=tab} (.slice U b.st.slots.length J) (.slice Q b.st.ends.length G);have ae:=Z.later (cw O (pstO {b.st with tab:=tab} (.slice U b.st.slots.length J) (.slice Q b.st.ends.length G)));have aA:=I.later (cw O (pstO {b.st with tab:=tab} (.slice U b.st.slots.length J) (.slice Q b.st.ends.length G)));have ax:=dz aC.out (dx (cw O (pstO {b.st with tab:=tab} (.slice U b.st.slots.length J) (.slice Q b.st.ends.length G))) (some B));clear ac Z I az;go_upto_region 5 with fail;generalize O.alloc (pstO {b.st with tab:=tab} (.slice U b.st.slots.length J) (.slice Q b.st.ends.length G))=W3 at *;generalize O.heap.size=q at *;have aj:=Hq ae;have am:=Hq aA;have ag:=Hq ar;have ai:=Hq ax;clear ae aA ar ax;go_wp2_with fail;refine (pD tab _ ah).mono ?_;rintro e w4 ⟨rfl,Y⟩;have aB:=Hq (aj.out.later Y);have aL:=Hq (am.out.later Y);obtain⟨i0,i1,i2,i3,i4⟩:=ag.out.later Y;have aw:Hid (w.grownBy w4 (some B)):=dz ai.out (dx Y _);have bj:=eY (chT tab) ah;have ao:Hid (Bx.frames [chT tab]=Bx.frame (Bx.body (chT tab))):=Px.frames_one _;generalize Bx.frame (Bx.body (chT tab))=fr at *;clear Y aj am ag ai;go_wp2_with fail;refine (fj b B {b.st with tab:=tab} fr _ _ _ _ _ (by omega) (by omega) aB.out aL.out).mono ?_
  intro e w5 aQ;clear i0 i1 i2 i3 i4
  cases aQ with
  | no _ h hb=>
    have ak:Hid (w.grownBy w5 (some B)):=dz aw.out (dx hb _);have af:=Hq (aB.out.later hb);have hR:Hid (b.room<(b.log.size:Int)+(Bx.frames [chT tab]).size):=by unfold Hid;rw[ao.out];exact h
    clear hb h;go_wp2_with fail;go_ret2;exact LoadA.mk _ b 0 13 (Or.inr (Or.inr (Or.inl ⟨HC.out,au.out,hR.out,rfl,rfl,rfl⟩))) ⟨_,_,af.out⟩ ak.out
  | yes _ h hB hg=>
    have ak:Hid (w.grownBy w5 (some B)):=dz aw.out hg;have af:=Hq hB;have hR:Hid (¬b.room<(b.log.size:Int)+(Bx.frames [chT tab]).size):=by unfold Hid;rw[ao.out];exact h
    clear hg hB h;go_wp2_with fail;go_ret2;exact LoadA.mk _ _ 0 0 (Or.inr (Or.inr (Or.inr ⟨HC.out,au.out,(by have:=hR.out;omega),rfl,rfl,rfl⟩))) ⟨_,_,by rw[ao.out];exact af.out⟩ ak.out
set_option maxRecDepth 10000 in
set_option maxHeartbeats 2000000 in
theorem gp (s:Px.St) (n:Int) (sl en:Value) (w:World) (hl:s.slots.length≤10000) (he:s.ends.length≤10000) (hS:PAt w s sl en):
 Calls Tryz.prog 59 #[pstV s sl en,.int .i64 n] w fun e w'=>ChgR (Px.cancelP s n) w' e∧Below w.heap.size w w':=by
 obtain⟨ad,ah,rfl,aW⟩:=hS.sl.form;obtain⟨ae,Z,rfl,aK⟩:=hS.en.form;have HS:=Hq hS;have hP:=PRes.new w s (.slice ad s.slots.length ah) (.slice ae s.ends.length Z);clear hS
 go_enter Tryz.func59,Tryz.ntmps59
 go_upto_region 1 with fail;generalize (w.alloc (pstO s (.slice ad s.slots.length ah) (.slice ae s.ends.length Z))).alloc pzO=W at *;have Y:=Hq (HS.out.later hP.bel);have HP:=Hq hP;obtain⟨i0,i1,i2,i3,i4⟩:=hP.st;clear hP;go_wp2_with fail;refine (fy s n _ _ _ hl Y.out).mono ?_;rintro e w1 ⟨hF,Q⟩;clear i0 i1 i2 i3 i4;have I:=HP.out.later Q;have V:=Y.out.later Q;clear HP Y Q
 rcases hF with ⟨x,hf,rfl⟩|⟨hf,rfl⟩
 rotate_left
 ·have HM:Hid (Px.cancelP s n=(Px.st0,8)):=by unfold Hid Px.cancelP;rw[hf]
  clear hf;generalize Px.sl0=x at *;have O:=I.later (cw w1 (psO x));clear I V;go_upto_region 2 with fail;generalize w1.alloc (psO x)=W2 at *;obtain⟨⟨⟨u0,r0⟩,f0⟩,⟨⟨u1,r1⟩,f1⟩,⟨⟨u2,r2⟩,f2⟩,⟨⟨u3,r3⟩,f3⟩,⟨⟨u4,r4⟩,f4⟩⟩:=O.five;have aF:Hid (Below w.heap.size w W2):=O.bel;clear O;go_wp2_with fail;refine bodyPost_ret (v:=.tuple #[.agg #[.string {data:= #[]},.int .i64 0,.int .i64 0,.slice none 0 0,.slice none 0 0],.int .i64 8]) (by simp[results,Tryz.results59,go_sem,r0,r1,r2,r3,r4]) rfl ⟨ChgR.err HM.out,dE aF.out (by omega) _ _ _ _ _⟩
 have aE:=Hq hf;have af:=I.later (cw w1 (psO x));have ai:=V.later (cw w1 (psO x));have ag:=PsIn.new w1 x;have a6:w1.heap.size<(w1.alloc (psO x)).heap.size:=by simp
 have a9:w.heap.size+1<w1.heap.size:=I.lt;clear I V hf;go_upto_region 2 with fail;generalize w1.alloc (psO x)=W2 at *;generalize w1.heap.size=xq at *;have J:=Hq af;have U:=Hq ai;have a7:=Hq ag;obtain⟨x0,x1,x2,x3,x4,x5,x6,x7⟩:=ag;clear af ai;have HM:Hid (Px.cancelP s n=(Px.ended s x.num ⟨#[107]⟩,0)):=by unfold Hid Px.cancelP;rw[aE.out,rb]
 obtain⟨i0,i1,i2,i3,i4⟩:=J.out.st;go_wp2_with fail;refine (g9 s x.num ⟨#[107]⟩ _ _ _ hl he U.out).mono ?_;rintro e w4 ⟨⟨a8,ba,rfl,G⟩,ac⟩;clear i0 i1 i2 i3 i4 x0 x1 x2 x3 x4 x5 x6 x7;have d:=J.out.later ac;obtain⟨aI,aw,ax,_⟩:=G.sl.form;obtain⟨aA,ak,aB,_⟩:=G.en.form;subst ax aB;have H4:=Hq G;have aH:Hid (Typed w4 (w.heap.size+1) 77):=d.ty;have az:Hid (Below w.heap.size w w4):=d.bel;obtain⟨⟨⟨u0,r0⟩,f0⟩,⟨⟨u1,r1⟩,f1⟩,⟨⟨u2,r2⟩,f2⟩,⟨⟨u3,r3⟩,f3⟩,⟨⟨u4,r4⟩,f4⟩⟩:=d.five;clear G ac d J U;go_wp2_with fail;refine bodyPost_ret (v:=.tuple #[pstV (Px.ended s x.num ⟨#[107]⟩) (.slice aI (Px.ended s x.num ⟨#[107]⟩).slots.length aw) (.slice aA (Px.ended s x.num ⟨#[107]⟩).ends.length ak),.int .i64 0]) (by simp[results,Tryz.results59,go_sem,r0,r1,r2,r3,r4]) rfl ⟨ChgR.ok HM.out (H4.out.store aH.out _ _ _ _ _),dE az.out (by omega) _ _ _ _ _⟩
set_option maxHeartbeats 1000000 in
theorem lI (n:Int) (w:World) (h1:0≤n) (h2:n≤100000):
 Calls Tryz.prog 60 #[.int .i64 n] w fun e d=>e=.returned (.string (Bx.frame (Bx.body (chK n))))∧Below w.heap.size w d:=by
 go_enter Tryz.func60,Tryz.ntmps60
 go_wp2_with fail;refine (fH 75 75 n _ (by decide) (by omega) (by omega) h1 h2).mono ?_
 rintro e w1 ⟨rfl,b1⟩;go_wp2_with fail;go_ret;exact⟨rfl,b1⟩
inductive AnsC (p:Px.Bo×Int) (B:Nat) (w:World):Ending→World→Prop
 | mk (w':World) (hB:PBx w' B p.1) (hg:w.grownBy w' (some B)):AnsC p B w (.returned (.int .i64 p.2)) w'
theorem AnsC.of {p:Px.Bo×Int} {B:Nat} {w d:World} {b:Px.Bo} {r:Int} (h:p=(b,r)) (hB:PBx d B b) (e:w.grownBy d (some B)):AnsC p B w (.returned (.int .i64 r)) d:=by
 subst h;exact AnsC.mk d hB e
theorem nW (s:Px.St) (n:Int):(Px.cancelP s n).2=0∨(Px.cancelP s n).2=8:=by
 unfold Px.cancelP
 cases Px.find s.slots n with
 | none=>right;rfl
 | some x=>left;rfl
theorem mR {s:Px.St} (h:Px.Ok s) {n:Int} (h0:(Px.cancelP s n).2=0):0≤n∧n≤100000:=by
 unfold Px.cancelP at h0
 cases q:Px.find s.slots n with
 | none=>rw[q] at h0;cases h0
 | some x=>
   have hm:=List.mem_of_find?_eq_some q;have d:x.num=n:=by simpa using List.find?_some q
   have:=h.each hm;have:s.next≤10000:=h.st.n2;omega
set_option maxRecDepth 10000 in
set_option maxHeartbeats 4000000 in
theorem k9 (b:Px.Bo) (B:Nat) (n:Int) (sl en:Value) (w:World) (hO:Px.Ok b.st) (aX:b.log.size≤10000) (hB:PB w B b sl en):
 Calls Tryz.prog 30 #[.pointer (some ⟨B,0,none⟩),.int .i64 n] w fun e w'=>AnsC (Px.cancelB b n) B w e w':=by
 obtain⟨ad,aB,rfl,aP⟩:=hB.rows.sl.form;obtain⟨ax,ao,rfl,aE⟩:=hB.rows.en.form;have HB:=Hq hB;have HO:=Hq hO;have hl:b.st.slots.length≤8:=hO.len;have he:b.st.ends.length≤6:=hO.st.en;have aY:=hB.ty.lt;have e2:=hB.c2;have e3:=hB.c3;have e4:=hB.c4;have e5:=hB.c5;have e6:=hB.c6;clear hB hO
 go_enter Tryz.func30,Tryz.ntmps30
 go_wp2_with fail;refine (gp b.st n _ _ _ (by omega) (by omega) HB.out.rows).mono ?_
 rintro e w1 ⟨⟨aW,a2,rfl,J⟩,Y⟩;have U:=HB.out.later Y;have V:=dx Y (some B);clear e2 e3 e4 e5 e6 Y;obtain⟨I,d,aC,_⟩:=J.sl.form;obtain⟨O,G,ap,_⟩:=J.en.form;subst aC ap;have av:=nW b.st n
 by_cases hd:(Px.cancelP b.st n).2=0
 rotate_left
 ·have HM:Hid (Px.cancelB b n=(b,(Px.cancelP b.st n).2)):=by unfold Hid Px.cancelB;rw[if_pos hd]
  have aV:((Px.cancelP b.st n).2 !=0)=true:=by simpa using hd
  have ar:Hid (∀o,PB (w1.alloc o) B b (.slice ad b.st.slots.length aB) (.slice ax b.st.ends.length ao)):=fun o=>U.later (cw w1 o)
  have aD:Hid (∀o,w.grownBy (w1.alloc o) (some B)):=fun o=>dz V (dx (cw w1 o) _)
  clear hd U V J;generalize (Px.cancelP b.st n).2=r at *;generalize (Px.cancelP b.st n).1=t at *;go_wp2_with fail;go_ret;exact AnsC.of HM.out ⟨_,_,ar.out _⟩ (aD.out _)
 obtain⟨aq,ay⟩:=mR HO.out hd
 have aj:Hid (Px.cancelB b n=if b.room<(b.log.size:Int)+(Bx.frame (Bx.body (chK n))).size then (b,13) else ({b with st:=(Px.cancelP b.st n).1,log:=b.log++Bx.frame (Bx.body (chK n))},0)):=by
  unfold Hid Px.cancelB;rw[if_neg (by omega),Px.frames_one]
 rw[hd];clear av hd;generalize (Px.cancelP b.st n).1=t at *;have al:=U.later (cw w1 (pstO t (.slice I t.slots.length d) (.slice O t.ends.length G)));have ai:=dz V (dx (cw w1 (pstO t (.slice I t.slots.length d) (.slice O t.ends.length G))) (some B));have ag:=J.later (cw w1 (pstO t (.slice I t.slots.length d) (.slice O t.ends.length G)));have am:=PIn.new w1 t (.slice I t.slots.length d) (.slice O t.ends.length G);clear U V J;go_upto_region 2 with fail;generalize w1.alloc (pstO t (.slice I t.slots.length d) (.slice O t.ends.length G))=W2 at *;generalize w1.heap.size=tq at *;have ae:=Hq al;have ac:=Hq ai;have Z:=Hq ag;have ab:=Hq am;clear al ai ag am;go_wp2_with fail;refine (lI n _ aq ay).mono ?_;rintro e w3 ⟨rfl,Q⟩;have ak:=Hq (ae.out.later Q);have ah:Hid (w.grownBy w3 (some B)):=dz ac.out (dx Q _);have au:=Hq (Z.out.later Q);obtain⟨i0,i1,i2,i3,i4⟩:=ab.out.later Q;have aZ:(Bx.frame (Bx.body (chK n))).size≤10000:=by have:=eY (chK n) (by show (0:Nat)≤300;omega);omega
 clear Q ae ac Z ab;generalize Bx.frame (Bx.body (chK n))=fr at *;go_wp2_with fail;refine (fj b B t fr _ _ _ _ _ (by omega) (by omega) ak.out au.out).mono ?_
 intro e w5 aw;clear i0 i1 i2 i3 i4
 cases aw with
 | no _ h hb=>
   have aa:Hid (AnsC (Px.cancelB b n) B w (.returned (.int .i64 13)) w5):=AnsC.of (by rw[aj.out,if_pos h]) ⟨_,_,ak.out.later hb⟩ (dz ah.out (dx hb _))
   clear hb h;go_wp2_with fail;go_ret;exact aa.out
 | yes _ h hB hg=>
   have aa:Hid (AnsC (Px.cancelB b n) B w (.returned (.int .i64 0)) w5):=AnsC.of (by rw[aj.out,if_neg h]) ⟨_,_,hB⟩ (dz ah.out hg)
   clear hB hg h;go_wp2_with fail;go_ret;exact aa.out
theorem p7 {s:Px.St} (p:Nat×Int) (h:s.slots.length≤8) (d:s.ends.length≤6):(Px.arr s p).slots.length≤8∧(Px.arr s p).ends.length≤6∧(Px.arr s p).next=s.next+1:=by
 unfold Px.arr;split
 ·exact⟨h,by show (Bx.push _ _).length≤6;simp[Bx.push];omega,rfl⟩
 ·exact⟨by simp;omega,d,rfl⟩
theorem nH (l:List (Nat×Int)) (s:Px.St) (h:s.slots.length≤8) (d:s.ends.length≤6):(l.foldl Px.arr s).slots.length≤8∧(l.foldl Px.arr s).ends.length≤6∧(l.foldl Px.arr s).next=s.next+l.length:=by
 induction l generalizing s with
 | nil=>exact⟨h,d,by simp⟩
 | cons p r J=>
   obtain⟨h1,h2,e⟩:=p7 p h d;obtain⟨G,w,I⟩:=J (Px.arr s p) h1 h2;exact⟨G,w,by rw[List.foldl_cons,I,e];simp;omega⟩
theorem mH (l:List (Nat×Int)) (s:Px.St) (k:Nat) (h:k<l.length):(l.take (k+1)).foldl Px.arr s=Px.arr ((l.take k).foldl Px.arr s) l[k]:=by
 rw[List.take_succ_eq_append_getElem h,List.foldl_append];rfl
theorem PW.put {W:World} {q:Nat} {s:Px.St} {sl en:Value} (h:PW W q s sl en) (t:Px.St) (e d:Value):
 PW (((((W.setCell ⟨q,0,none⟩ (.string t.tab)).setCell ⟨q,1,none⟩ (.int .i64 t.clock)).setCell ⟨q,2,none⟩ (.int .i64 t.next)).setCell ⟨q,3,none⟩ e).setCell ⟨q,4,none⟩ d) q t e d:=by
 obtain⟨⟨c0,c1,c2,c3,c4⟩,f,ty⟩:=h;refine⟨⟨?_,?_,?_,?_,?_⟩,fun j w=>?_,((((ty.setCell _ _ _).setCell _ _ _).setCell _ _ _).setCell _ _ _).setCell _ _ _⟩
 case refine_6=>simp[go_sem,f j w]
 all_goals simp[go_sem,c0,c1,c2,c3,c4]
structure CkIn (w wr:World) (q:Nat) (s t:Px.St) (sl en slt ent v:Value) (n:Nat) (cells:List Value):Prop where
 res:PRes w wr s sl en
 pw:PW wr q t slt ent
 at':PAt wr t slt ent
 row:TRow wr 141 v n cells
theorem CkIn.later {w wr I:World} {q:Nat} {s t:Px.St} {sl en e G v:Value} {n:Nat} {d:List Value} (h:CkIn w wr q s t sl en e G v n d) (hb:Below wr.heap.size wr I):CkIn w I q s t sl en e G v n d:=
 ⟨h.res.later hb,h.pw.later hb,h.at'.later hb,h.row.later hb⟩
theorem CkIn.put {w wr:World} {q:Nat} {s t u:Px.St} {sl en O J G e v:Value} {n:Nat} {d:List Value} (h:CkIn w wr q s t sl en O J v n d) (I:w.heap.size+1<q) (Q:PAt wr u G e):
 CkIn w (((((wr.setCell ⟨q,0,none⟩ (.string u.tab)).setCell ⟨q,1,none⟩ (.int .i64 u.clock)).setCell ⟨q,2,none⟩ (.int .i64 u.next)).setCell ⟨q,3,none⟩ G).setCell ⟨q,4,none⟩ e) q s u sl en G e v n d:=by
 refine⟨((((h.res.set I _ _).set I _ _).set I _ _).set I _ _).set I _ _,h.pw.put u G e,Q.store h.pw.ty _ _ _ _ _,?_⟩;have st:∀(w:World) (j:Nat) (x:Value),(Typed w q 77∧TRow w 141 v n d)→(Typed (w.setCell ⟨q,j,none⟩ x) q 77∧TRow (w.setCell ⟨q,j,none⟩ x) 141 v n d):=fun w j x h=>⟨h.1.setCell _ _ _,h.2.set h.1 (by decide) _ _⟩
 exact (st _ _ _ (st _ _ _ (st _ _ _ (st _ _ _ (st _ _ _ ⟨h.pw.ty,h.row⟩))))).2
theorem td {w:World} {L:List (Nat×Int)} {b d:Nat} (c:∀j (h:j<(L.flatMap arC).length),w.cell? ⟨b,d+j,none⟩=some (L.flatMap arC)[j]) (i:Nat) (hi:i<L.length):
 w.cell? ⟨b,d+i*2,none⟩=some (.int .i64 ((L[i].1:Int)+1))∧w.cell? ⟨b,d+i*2+1,none⟩=some (.int .i64 L[i].2):=
 ⟨RowAt.cell ma c i hi 0 (by decide),RowAt.cell ma c i hi 1 (by decide)⟩
set_option maxRecDepth 10000 in
set_option maxHeartbeats 8000000 in
theorem gL (s:Px.St) (m:Int) (sl en:Value) (w:World) (hO:Px.Ok s) (hT:TabLH w) (hM:Tab w) (hS:PAt w s sl en):
 Calls Tryz.prog 47 #[pstV s sl en,.int .i64 m] w fun e w'=>ChgR (Px.clockP s m) w' e∧Below w.heap.size w w':=by
 obtain⟨ad,Q,rfl,b3⟩:=hS.sl.form;obtain⟨O,G,rfl,bX⟩:=hS.en.form;have HO:=Hq hO;have bh: -1≤s.clock:=hO.st.c1;have bm:s.clock≤4223371679:=hO.st.c2;have cq:1≤s.next:=hO.st.n1;have cg:s.next≤10000:=hO.st.n2;have bw:=Px.clock_err' s m;have ae:Hid _:=bw;have HS:=Hq hS;have hP:=PRes.new w s (.slice ad s.slots.length Q) (.slice O s.ends.length G);clear hS hO bw
 go_enter Tryz.func47,Tryz.ntmps47
 go_upto_region 1 with fail;generalize (w.alloc (pstO s (.slice ad s.slots.length Q) (.slice O s.ends.length G))).alloc pzO=W at *;have az:=Hq (HS.out.later hP.bel);have HT:=Hq (hT.later hP.bel);have aL:=Hq (hM.later hP.bel);have HP:=Hq hP;obtain⟨i0,i1,i2,i3,i4⟩:=hP.st;clear hP hT hM
 by_cases h4:m<0∨4223371679<m
 ·have HM:Hid (Px.clockP s m=(Px.st0,4)):=ae.out.1 h4;have Z:=HP.out;clear HP az HT aL
  rcases h4 with h4|h4
  ·obtain⟨⟨⟨u0,r0⟩,f0⟩,⟨⟨u1,r1⟩,f1⟩,⟨⟨u2,r2⟩,f2⟩,⟨⟨u3,r3⟩,f3⟩,⟨⟨u4,r4⟩,f4⟩⟩:=Z.five;have V:Hid (Below w.heap.size w W):=Z.bel;clear Z;go_wp2_with fail;refine bodyPost_ret (v:=.tuple #[.agg #[.string {data:= #[]},.int .i64 0,.int .i64 0,.slice none 0 0,.slice none 0 0],.int .i64 4]) (by simp[results,Tryz.results47,go_sem,r0,r1,r2,r3,r4]) rfl ⟨ChgR.err HM.out,dE V.out (by omega) _ _ _ _ _⟩
  ·by_cases h5:m<0
   ·omega
   ·obtain⟨⟨⟨u0,r0⟩,f0⟩,⟨⟨u1,r1⟩,f1⟩,⟨⟨u2,r2⟩,f2⟩,⟨⟨u3,r3⟩,f3⟩,⟨⟨u4,r4⟩,f4⟩⟩:=Z.five;have V:Hid (Below w.heap.size w W):=Z.bel;clear Z;go_wp2_with fail;refine bodyPost_ret (v:=.tuple #[.agg #[.string {data:= #[]},.int .i64 0,.int .i64 0,.slice none 0 0,.slice none 0 0],.int .i64 4]) (by simp[results,Tryz.results47,go_sem,r0,r1,r2,r3,r4]) rfl ⟨ChgR.err HM.out,dE V.out (by omega) _ _ _ _ _⟩
 have m1:0≤m:=by omega
 have m2:m≤4223371679:=by omega
 go_wp2_with fail;refine (mh s m _ _ _ bh bm m1 m2 az.out).mono ?_;rintro e w1 ⟨rfl,ag⟩;clear i0 i1 i2 i3 i4;have J:=HP.out.later ag;have aH:=Hq (az.out.later ag);have bv:=Hq (HT.out.later ag);have bo:=Hq (aL.out.later ag);clear HP az HT aL ag
 cases Y:Px.aheadP s m
 ·have HM:Hid (Px.clockP s m=(Px.st0,6)):=ae.out.2.1 h4 Y;clear Y h4;obtain⟨⟨⟨u0,r0⟩,f0⟩,⟨⟨u1,r1⟩,f1⟩,⟨⟨u2,r2⟩,f2⟩,⟨⟨u3,r3⟩,f3⟩,⟨⟨u4,r4⟩,f4⟩⟩:=J.five;have V:Hid (Below w.heap.size w w1):=J.bel;clear J;go_wp2_with fail;refine bodyPost_ret (v:=.tuple #[.agg #[.string {data:= #[]},.int .i64 0,.int .i64 0,.slice none 0 0,.slice none 0 0],.int .i64 6]) (by simp[results,Tryz.results47,go_sem,r0,r1,r2,r3,r4]) rfl ⟨ChgR.err HM.out,dE V.out (by omega) _ _ _ _ _⟩
 have bP:s.clock<m∧(s.clock= -1∨m-s.clock≤1500):=by unfold Px.aheadP at Y;exact of_decide_eq_true Y
 have aR:0≤Px.newA s m∧Px.newA s m≤m∧m-Px.newA s m≤1500:=by unfold Px.newA;split<;>omega
 have U:Hid (Px.clockP s m=if 10000<s.next+((Px.comesP s m).length:Int) then (Px.st0,7) else ({(Px.comesP s m).foldl Px.arr s with clock:=m},0)):=ae.out.2.2 h4 Y
 clear Y h4 bP ae;obtain⟨i0,i1,i2,i3,i4⟩:=J.st;have bq:=Hq J;clear J;go_wp2_with fail;refine (gy s _ _ _ HO.out.st.tab bv.out aH.out).mono ?_;rintro e w2 ⟨⟨g,c,rfl,cm,hL⟩,aB⟩;clear i0 i1 i2 i3 i4;have ao:=bq.out.later aB;have aN:=Hq (aH.out.later aB);have br:=Hq (bo.out.later aB);have bu:=Hq hL;have bb:=Hq ao;obtain⟨i0,i1,i2,i3,i4⟩:=ao.st;clear ao bq aH bv bo aB hL;go_wp2_with fail;refine (kw s m _ _ _ bh bm aN.out).mono ?_;rintro e w3 ⟨rfl,aj⟩;clear i0 i1 i2 i3 i4;have bj:=Hq (bb.out.later aj);have a9:=Hq (aN.out.later aj);have bs:=Hq (br.out.later aj);have aS:=Hq (bu.out.later aj);clear bb aN br bu aj;go_wp2_with fail;refine (iZ s.tab g c (Px.newA s m) m w3 HO.out.st.tab aR.1 aR.2.1 m2 aR.2.2 bs.out aS.out).mono ?_;rintro e w4 ⟨⟨v,rfl,aT⟩,aJ⟩;have I:=bj.out.later aJ;have aK:=a9.out.later aJ;have ax:=TRow.of_own aT;obtain⟨ba,aP,bI,_⟩:=ax.form;subst bI;have aG:=Hq ax;have bc:Hid (Px.comesP s m=Bx.comes (Bx.lns s.tab) (Px.newA s m) m):=rfl;rw[bc.out] at U
 have cn:(Bx.comes (Bx.lns s.tab) (Px.newA s m) m).length≤100000:=by
  have h1:=Bx.comes_len (Bx.lns s.tab) (Px.newA s m) m;have h2:=js s.tab;have h3:=gv HO.out.st.tab;have h5:(m+1-Px.newA s m).toNat≤1501:=by omega
  have h6:(m+1-Px.newA s m).toNat*(Bx.lns s.tab).length≤1501*4:=Nat.mul_le_mul h5 (by rw[h2];exact h3)
  omega
 clear aT aJ ax bj a9 bs aS bc;generalize Bx.comes (Bx.lns s.tab) (Px.newA s m) m=C at *;obtain⟨i0,i1,i2,i3,i4⟩:=I.st
 by_cases h7:10000<s.next+(C.length:Int)
 ·have HM:Hid (Px.clockP s m=(Px.st0,7)):=by unfold Hid;rw[U.out,if_pos h7]
  clear U aG;obtain⟨⟨⟨u0,r0⟩,f0⟩,⟨⟨u1,r1⟩,f1⟩,⟨⟨u2,r2⟩,f2⟩,⟨⟨u3,r3⟩,f3⟩,⟨⟨u4,r4⟩,f4⟩⟩:=I.five;have V:Hid (Below w.heap.size w w4):=I.bel;clear I;go_wp2_with fail;refine bodyPost_ret (v:=.tuple #[.agg #[.string {data:= #[]},.int .i64 0,.int .i64 0,.slice none 0 0,.slice none 0 0],.int .i64 7]) (by simp[results,Tryz.results47,go_sem,r0,r1,r2,r3,r4]) rfl ⟨ChgR.err HM.out,dE V.out (by omega) _ _ _ _ _⟩
 have HM:Hid (Px.clockP s m=({C.foldl Px.arr s with clock:=m},0)):=by unfold Hid;rw[U.out,if_neg h7]
 clear U
 have bp:CkIn w (w4.alloc (pstO s (.slice ad s.slots.length Q) (.slice O s.ends.length G))) w4.heap.size s s (.slice ad s.slots.length Q) (.slice O s.ends.length G) (.slice ad s.slots.length Q) (.slice O s.ends.length G) (.slice ba C.length aP) C.length (C.reverse.flatMap arC):=
  ⟨I.later (cw _ _),PW.new w4 s (.slice ad s.slots.length Q) (.slice O s.ends.length G),aK.later (cw _ _),aG.out.later (cw _ _)⟩
 have bn:w.heap.size+1<w4.heap.size:=I.lt;clear I aK aG;go_upto_region 11 with fail;clear i0 i1 i2 i3 i4;generalize w4.alloc (pstO s (.slice ad s.slots.length Q) (.slice O s.ends.length G))=W5 at *;generalize w4.heap.size=q at *;have HK:=Hq bp;have bA:s.slots.length≤8:=HO.out.len;have bx:s.ends.length≤6:=HO.out.st.en;clear bp;go_wp2_with fail
 go_loopw [10] (fun x wr=>∃(j:Nat) (a8 bk:Value),j≤C.length∧x=.int .i64 ((C.length:Int)-1-(j:Int))∧CkIn w wr q s ((C.take j).foldl Px.arr s) (.slice ad s.slots.length Q) (.slice O s.ends.length G) a8 bk (.slice ba C.length aP) C.length (C.reverse.flatMap arC)) (fun x _=>(intOf x+1).toNat)
 case atStart=>exact⟨0,_,_,Nat.zero_le _,by go_num,HK.out⟩
 case round=>
  clear HK;obtain⟨j,a8,bk,hj,rfl,d⟩:=hrel;obtain⟨bL,bE,aC⟩:=nH (C.take j) s bA bx;have aF:(C.take j).length=j:=by simp;omega
  rw[aF] at aC
  by_cases bQ:j<C.length
  ·have aA:Hid ((C.take (j+1)).foldl Px.arr s=Px.arr ((C.take j).foldl Px.arr s) C[j]):=mH C s j bQ;obtain⟨k,hk⟩:∃k:Nat,(C.length:Int)-1-(j:Int)=(k:Int):=⟨C.length-1-j,by omega⟩
   have bf:k<C.reverse.length:=by rw[List.length_reverse];omega
   have a7:C.reverse[k]=C[j]:=by
    rw[List.getElem_reverse];congr 1;omega
   obtain⟨b,ct,b9,hv,_,bg⟩:=d.row.1.some' (by omega)
   cases hv
   obtain⟨d0,d1⟩:=td bg k bf;rw[a7] at d0 d1;obtain⟨aY,av,aX,_⟩:=d.at'.sl.form;obtain⟨aV,ar,aO,_⟩:=d.at'.en.form;subst aX aO;have ci:b<wr.heap.size:=World.block_lt_of_cell? _ _ d0;have bO:q<wr.heap.size:=d.pw.ty.lt;obtain⟨c0,c1,c2,c3,c4⟩:=d.pw.st;have f0:=d.pw.f 0 (by decide);have f1:=d.pw.f 1 (by decide);have f2:=d.pw.f 2 (by decide);have f3:=d.pw.f 3 (by decide);have f4:=d.pw.f 4 (by decide)
   have bC:=Hq d;have bW:=Hq hk;have ck:(0:Int)≤(k:Int):=by omega
   have cp:(k:Int)<(C.length:Int):=by omega
   have HA:Hid (PAt wr ((C.take j).foldl Px.arr s) _ _):=d.at';rw[hk];generalize (C.take j).foldl Px.arr s=t at *;generalize C[j]=p at *;have bK:t.slots.length≤10000:=by omega
   have bV:t.ends.length≤10000:=by omega
   have bH:0≤t.next:=by omega
   have bT:t.next≤100000:=by omega
   have aS:=Hq aC;clear bg d hk aF a7 bf aC;go_wp2_with fail
   go_region_with ((go_at_call 89;refine (i6 t p _ _ _ bK bV bH bT ?hs).mono ?_;(case hs=>exact HA.out.later (Below.refl _ _).drew);rintro e w6 ⟨⟨cl,cr,rfl,ab⟩,bt⟩;have aI:Below wr.heap.size wr w6:=(Below.refl _ _).drew.trans bt;obtain⟨cj,bZ,rfl,ce⟩:=ab.sl.form;obtain⟨b7,bY,rfl,co⟩:=ab.en.form;obtain⟨cf,cs⟩:=dT aI;clear bt))
   all_goals
    have bN:=(bC.out.later aI).put bn ab;clear aI ab;go_wp2_with fail;go_roundw
    (case rel=>exact⟨j+1,_,_,by omega,(by have h:=bW.out;congr 1;omega),by rw[aA.out];exact bN⟩)
    (case measure=>first |(simp[intOf];done)|(simp[intOf];omega))
  ·obtain rfl:j=C.length:=by omega
   have aA:Hid (C.take C.length=C):=List.take_length;rw[aA.out] at d;have hx:(C.length:Int)-1-(C.length:Int)= -1:=by omega
   rw[hx];obtain⟨aY,av,aX,_⟩:=d.at'.sl.form;obtain⟨aV,ar,aO,_⟩:=d.at'.en.form;subst aX aO;clear bL bE aC aF hj aA;have hA:=d.pw;have a1:=hA.st.c1;have g1:=hA.f 1 (by decide)
   have bO:=hA.ty.lt;generalize C.foldl Px.arr s=t at *;have ai:=d.res.set bn 1 (.int .i64 m);have aQ:=hA.clock m;have aM:=d.at'.set hA.ty (by decide) (by decide) 1 (.int .i64 m)
   clear hA d;go_upto_region 16 with fail;clear a1 g1;generalize wr.setCell ⟨q,1,none⟩ (.int .i64 m)=W7 at *;have HX:Hid (PEnd w W7 q {t with clock:=m} (.slice aY t.slots.length av) (.slice aV t.ends.length ar)):=⟨aQ,⟨aM.sl,aM.en⟩,ai.z,ai.ty,ai.bel⟩;obtain⟨⟨⟨u0,r0⟩,f0⟩,⟨⟨u1,r1⟩,f1⟩,⟨⟨u2,r2⟩,f2⟩,⟨⟨u3,r3⟩,f3⟩,⟨⟨u4,r4⟩,f4⟩⟩:=ai.five;obtain⟨c0,c1,c2,c3,c4⟩:=aQ.st;clear ai aQ aM;go_wp2_with fail;refine bodyPost_ret (v:=.tuple #[pstV {t with clock:=m} (.slice aY t.slots.length av) (.slice aV t.ends.length ar),.int .i64 0]) (by simp[results,Tryz.results47,go_sem,r0,r1,r2,r3,r4]) rfl ⟨ChgR.ok HM.out (HX.out.fin _ _ _ _ _).1,(HX.out.fin _ _ _ _ _).2⟩
inductive AnsA (p:Px.Bo×ByteArray×Int) (B:Nat) (w:World):Ending→World→Prop
 | mk (w':World) (hB:PBx w' B p.1) (hg:w.grownBy w' (some B)):AnsA p B w (.returned (.tuple #[.string p.2.1,.int .i64 p.2.2])) w'
theorem AnsA.of {p:Px.Bo×ByteArray×Int} {B:Nat} {w d:World} {b:Px.Bo} {x:ByteArray} {r:Int} (h:p=(b,x,r)) (hB:PBx d B b) (e:w.grownBy d (some B)):AnsA p B w (.returned (.tuple #[.string x,.int .i64 r])) d:=by
 subst h;exact AnsA.mk d hB e
def ctB (b:Px.Bo) (t:Px.St) (n:Int) (fr said:ByteArray) (over:Bool):Px.Bo×ByteArray×Int:=
 if over=true then (if ¬(Px.doneP t n).2=0 then (b,ByteArray.empty,(Px.doneP t n).2) else Px.commitB b (Px.doneP t n).1 (fr++Bx.frame (Bx.body (chD n))) said) else Px.commitB b t fr said
theorem ro (t:Px.St) (n:Int):(Px.doneP t n).2=0∨(Px.doneP t n).2=8∨(Px.doneP t n).2=9:=by
 unfold Px.doneP
 cases Px.find t.slots n with
 | none=>right;left;rfl
 | some x=>simp only;split
           ·right;right;rfl
           ·left;rfl
set_option maxRecDepth 10000 in
set_option maxHeartbeats 4000000 in
theorem gM (b:Px.Bo) (B:Nat) (t:Px.St) (n:Int) (fr d:ByteArray) (sl en aa ab:Value) (w:World) (aE:b.log.size≤10000) (aF:fr.size≤10000) (hB:PB w B b sl en) (Y:PAt w t aa ab):
 Calls Tryz.prog 58 #[.pointer (some ⟨B,0,none⟩),talkV t aa ab d false,.int .i64 n,.string fr] w fun e w'=>AnsA (ctB b t n fr d false) B w e w':=by
 obtain⟨O,J,rfl,aB⟩:=Y.sl.form;obtain⟨I,G,rfl,au⟩:=Y.en.form;have Q:=(cw w (.cells #[.string t.tab,.int .i64 t.clock,.int .i64 t.next,.slice O t.slots.length J,.slice I t.ends.length G,.string d,.bool false] 110)).alloc (by simp) (pstO t (.slice O t.slots.length J) (.slice I t.ends.length G))
 have hI:=PIn.new (w.alloc (.cells #[.string t.tab,.int .i64 t.clock,.int .i64 t.next,.slice O t.slots.length J,.slice I t.ends.length G,.string d,.bool false] 110)) t (.slice O t.slots.length J) (.slice I t.ends.length G);have al:PIn ((w.alloc (.cells #[.string t.tab,.int .i64 t.clock,.int .i64 t.next,.slice O t.slots.length J,.slice I t.ends.length G,.string d,.bool false] 110)).alloc (pstO t (.slice O t.slots.length J) (.slice I t.ends.length G))) (w.heap.size+1) t (.slice O t.slots.length J) (.slice I t.ends.length G):=by simpa using hI
 have k5:((w.alloc (.cells #[.string t.tab,.int .i64 t.clock,.int .i64 t.next,.slice O t.slots.length J,.slice I t.ends.length G,.string d,.bool false] 110)).alloc (pstO t (.slice O t.slots.length J) (.slice I t.ends.length G))).cell? ⟨w.heap.size,5,none⟩=some (.string d):=cell_later (cw _ _) (by simp[go_sem])
 have k6:((w.alloc (.cells #[.string t.tab,.int .i64 t.clock,.int .i64 t.next,.slice O t.slots.length J,.slice I t.ends.length G,.string d,.bool false] 110)).alloc (pstO t (.slice O t.slots.length J) (.slice I t.ends.length G))).cell? ⟨w.heap.size,6,none⟩=some (.bool false):=cell_later (cw _ _) (by simp[go_sem])
 have av:=hB.ty.lt;have Z:=hB.later Q;have ac:=Y.later Q;have af:=dx Q (some B);clear hI hB Y Q
 go_enter Tryz.func58,Tryz.ntmps58
 go_upto_region 2 with fail;generalize (w.alloc (.cells #[.string t.tab,.int .i64 t.clock,.int .i64 t.next,.slice O t.slots.length J,.slice I t.ends.length G,.string d,.bool false] 110)).alloc (pstO t (.slice O t.slots.length J) (.slice I t.ends.length G))=W at *;have V:=Hq Z;have ag:=Hq ac;have ah:=Hq af;have ao:=Hq k5;have aq:some w.heap.size≠some B:=by intro e;cases e;omega
 obtain⟨i0,i1,i2,i3,i4⟩:=al;clear Z ac af;go_wp2_with fail;refine (fj b B t fr _ _ _ _ _ (by omega) (by omega) V.out ag.out).mono ?_
 intro e w5 ak;clear i0 i1 i2 i3 i4 k5 k6;have HM:Hid (ctB b t n fr d false=Px.commitB b t fr d):=by unfold Hid ctB;rw[if_neg (by simp)]
 have aj:=Hq V.out;have ae:=Hq ah.out
 cases ak with
 | no _ h hb=>
   have U:Hid (AnsA (ctB b t n fr d false) B w (.returned (.tuple #[.string ByteArray.empty,.int .i64 13])) w5):=AnsA.of (by rw[HM.out];unfold Px.commitB;rw[if_pos h]) ⟨_,_,aj.out.later hb⟩ (dz ae.out (dx hb _))
   clear hb h;go_wp2_with fail;go_ret2;exact U.out
 | yes _ h hB hg=>
   have U:Hid (AnsA (ctB b t n fr d false) B w (.returned (.tuple #[.string d,.int .i64 0])) w5):=AnsA.of (by rw[HM.out];unfold Px.commitB;rw[if_neg h]) ⟨_,_,hB⟩ (dz ae.out hg)
   have k5:=hg.cell ao.out aq;clear hB hg h;go_wp2_with fail;go_ret2;exact U.out
set_option maxRecDepth 10000 in
set_option maxHeartbeats 4000000 in
theorem gg (b:Px.Bo) (B:Nat) (t:Px.St) (n:Int) (fr d:ByteArray) (sl en aG aN:Value) (w:World) (bz:b.log.size≤10000) (bu:fr.size≤10000) (hl:t.slots.length≤10000) (he:t.ends.length≤10000) (n1:0≤n) (n2:n≤100000) (hB:PB w B b sl en) (ht:PAt w t aG aN):
 Calls Tryz.prog 58 #[.pointer (some ⟨B,0,none⟩),talkV t aG aN d true,.int .i64 n,.string fr] w fun e w'=>AnsA (ctB b t n fr d true) B w e w':=by
 obtain⟨ad,V,rfl,bg⟩:=ht.sl.form;obtain⟨U,J,rfl,a7⟩:=ht.en.form;have ai:=(cw w (.cells #[.string t.tab,.int .i64 t.clock,.int .i64 t.next,.slice ad t.slots.length V,.slice U t.ends.length J,.string d,.bool true] 110)).alloc (by simp) (pstO t (.slice ad t.slots.length V) (.slice U t.ends.length J))
 have hI:=PW.new (w.alloc (.cells #[.string t.tab,.int .i64 t.clock,.int .i64 t.next,.slice ad t.slots.length V,.slice U t.ends.length J,.string d,.bool true] 110)) t (.slice ad t.slots.length V) (.slice U t.ends.length J);have am:PW ((w.alloc (.cells #[.string t.tab,.int .i64 t.clock,.int .i64 t.next,.slice ad t.slots.length V,.slice U t.ends.length J,.string d,.bool true] 110)).alloc (pstO t (.slice ad t.slots.length V) (.slice U t.ends.length J))) (w.heap.size+1) t (.slice ad t.slots.length V) (.slice U t.ends.length J):=by simpa using hI
 have k5:((w.alloc (.cells #[.string t.tab,.int .i64 t.clock,.int .i64 t.next,.slice ad t.slots.length V,.slice U t.ends.length J,.string d,.bool true] 110)).alloc (pstO t (.slice ad t.slots.length V) (.slice U t.ends.length J))).cell? ⟨w.heap.size,5,none⟩=some (.string d):=cell_later (cw _ _) (by simp[go_sem])
 have k6:((w.alloc (.cells #[.string t.tab,.int .i64 t.clock,.int .i64 t.next,.slice ad t.slots.length V,.slice U t.ends.length J,.string d,.bool true] 110)).alloc (pstO t (.slice ad t.slots.length V) (.slice U t.ends.length J))).cell? ⟨w.heap.size,6,none⟩=some (.bool true):=cell_later (cw _ _) (by simp[go_sem])
 have bf:=hB.ty.lt;have a6:=Hq hB;have aJ:=hB.later ai;have aR:=ht.later ai;clear hI hB ht
 go_enter Tryz.func58,Tryz.ntmps58
 go_upto_region 2 with fail;generalize (w.alloc (.cells #[.string t.tab,.int .i64 t.clock,.int .i64 t.next,.slice ad t.slots.length V,.slice U t.ends.length J,.string d,.bool true] 110)).alloc (pstO t (.slice ad t.slots.length V) (.slice U t.ends.length J))=W at *;have ax:=Hq aJ;have aw:=Hq aR;have aH:=Hq am;have ah:=Hq ai;have al:=Hq k5;have a5:some w.heap.size≠some B:=by intro e;cases e;omega
 obtain⟨i0,i1,i2,i3,i4⟩:=am.st;clear aJ aR am ai;go_wp2_with fail;refine (ia t n _ _ _ hl he aw.out).mono ?_;rintro e w2 ⟨⟨bx,bA,rfl,Z⟩,ag⟩;obtain⟨Q,I,aY,_⟩:=Z.sl.form;obtain⟨O,G,aZ,_⟩:=Z.en.form;subst aY aZ;clear i0 i1 i2 i3 i4 k5 k6;have aD:=ax.out.later ag;have ay:=aH.out.later ag;have ab:=ah.out.trans (ag.mono ah.out.size);have av:=cell_later ag al.out;clear ag ax aH ah al aw
 by_cases hd:(Px.doneP t n).2=0
 rotate_left
 ·have HM:Hid (ctB b t n fr d true=(b,ByteArray.empty,(Px.doneP t n).2)):=by unfold Hid ctB;rw[if_pos rfl,if_pos hd]
  have bv:((Px.doneP t n).2 !=0)=true:=by simpa using hd
  have bw:=ro t n;have ak:Hid (∀o,PB (w2.alloc o) B b sl en):=fun o=>aD.later (cw w2 o)
  have aj:Hid (∀o,w.grownBy (w2.alloc o) (some B)):=fun o=>dx (ab.alloc ab.size o) _
  clear hd aD ay ab av Z;go_wp2_with fail;go_ret2;exact AnsA.of HM.out ⟨_,_,ak.out _⟩ (aj.out _)
 ·have HD:Hid (Px.doneP t n=(Px.ended t n Bx.hD,0)):=by
   unfold Hid;unfold Px.doneP at hd ⊢
   cases q:Px.find t.slots n with
   | none=>rw[q] at hd;cases hd
   | some x=>
     rw[q] at hd;simp only at hd ⊢
     by_cases s:x.step≤0
     ·rw[if_pos s] at hd;cases hd
     ·rw[if_neg s]
  have HM:Hid (ctB b t n fr d true=Px.commitB b (Px.ended t n Bx.hD) (fr++Bx.frame (Bx.body (chD n))) d):=by
   unfold Hid ctB;rw[if_pos rfl,if_neg (by rw[hd];simp),HD.out]
  rw[HD.out] at Z ⊢;clear hd HD;generalize Px.ended t n Bx.hD=u at *;have Y:=ay.later (cw w2 (pstO u (.slice Q u.slots.length I) (.slice O u.ends.length G)));have aX:=PIn.new w2 u (.slice Q u.slots.length I) (.slice O u.ends.length G);have aP:=Z.later (cw w2 (pstO u (.slice Q u.slots.length I) (.slice O u.ends.length G)));have az:=ab.alloc ab.size (pstO u (.slice Q u.slots.length I) (.slice O u.ends.length G));have aO:=cell_later (cw w2 (pstO u (.slice Q u.slots.length I) (.slice O u.ends.length G))) av;clear aD ay Z ab av;go_upto_region 4 with fail;generalize w2.alloc (pstO u (.slice Q u.slots.length I) (.slice O u.ends.length G))=W3 at *;generalize w2.heap.size=dq at *;have aI:PW (((((W3.setCell ⟨w.heap.size+1,0,none⟩ (.string u.tab)).setCell ⟨w.heap.size+1,1,none⟩ (.int .i64 u.clock)).setCell ⟨w.heap.size+1,2,none⟩ (.int .i64 u.next)).setCell ⟨w.heap.size+1,3,none⟩ (.slice Q u.slots.length I)).setCell ⟨w.heap.size+1,4,none⟩ (.slice O u.ends.length G)) (w.heap.size+1) u (.slice Q u.slots.length I) (.slice O u.ends.length G):=Y.put u (.slice Q u.slots.length I) (.slice O u.ends.length G);have aK:PAt (((((W3.setCell ⟨w.heap.size+1,0,none⟩ (.string u.tab)).setCell ⟨w.heap.size+1,1,none⟩ (.int .i64 u.clock)).setCell ⟨w.heap.size+1,2,none⟩ (.int .i64 u.next)).setCell ⟨w.heap.size+1,3,none⟩ (.slice Q u.slots.length I)).setCell ⟨w.heap.size+1,4,none⟩ (.slice O u.ends.length G)) u (.slice Q u.slots.length I) (.slice O u.ends.length G):=aP.store Y.ty _ _ _ _ _;have ao:Below w.heap.size w (((((W3.setCell ⟨w.heap.size+1,0,none⟩ (.string u.tab)).setCell ⟨w.heap.size+1,1,none⟩ (.int .i64 u.clock)).setCell ⟨w.heap.size+1,2,none⟩ (.int .i64 u.next)).setCell ⟨w.heap.size+1,3,none⟩ (.slice Q u.slots.length I)).setCell ⟨w.heap.size+1,4,none⟩ (.slice O u.ends.length G)):=dE az (by omega) _ _ _ _ _
  have aM:(((((W3.setCell ⟨w.heap.size+1,0,none⟩ (.string u.tab)).setCell ⟨w.heap.size+1,1,none⟩ (.int .i64 u.clock)).setCell ⟨w.heap.size+1,2,none⟩ (.int .i64 u.next)).setCell ⟨w.heap.size+1,3,none⟩ (.slice Q u.slots.length I)).setCell ⟨w.heap.size+1,4,none⟩ (.slice O u.ends.length G)).cell? ⟨w.heap.size,5,none⟩=some (.string d):=by simp[go_sem,aO]
  obtain⟨i0,i1,i2,i3,i4⟩:=Y.st;have g0:=Y.f 0 (by decide);have g1:=Y.f 1 (by decide);have g2:=Y.f 2 (by decide);have g3:=Y.f 3 (by decide);have g4:=Y.f 4 (by decide)
  have bs:=Y.ty.lt;obtain⟨d0,d1,d2,d3,d4⟩:=aX;clear Y aP az aO;go_upto_region 7 with fail;clear i0 i1 i2 i3 i4 g0 g1 g2 g3 g4 d0 d1 d2 d3 d4;generalize ((((W3.setCell ⟨w.heap.size+1,0,none⟩ (.string u.tab)).setCell ⟨w.heap.size+1,1,none⟩ (.int .i64 u.clock)).setCell ⟨w.heap.size+1,2,none⟩ (.int .i64 u.next)).setCell ⟨w.heap.size+1,3,none⟩ (.slice Q u.slots.length I)).setCell ⟨w.heap.size+1,4,none⟩ (.slice O u.ends.length G)=W5 at *;have aQ:=Hq aI;have aL:=Hq aK;have ac:=Hq ao;have au:=Hq aM;clear aI aK ao aM;have bt:=eY (chD n) (by show (0:Nat)≤300;omega)
  go_wp2_with fail;refine (nD n _ n1 n2).mono ?_;rintro e w6 ⟨rfl,ae⟩;have ak:Hid (PB w6 B b sl en):=a6.out.later (ac.out.trans (ae.mono ac.out.size));have aj:Hid (w.grownBy w6 (some B)):=dx (ac.out.trans (ae.mono ac.out.size)) _;have aV:=Hq (aL.out.later ae);obtain⟨i0,i1,i2,i3,i4⟩:=(aQ.out.later ae).st;have al:Hid (w6.cell? ⟨w.heap.size,5,none⟩=some (.string d)):=cell_later ae au.out;have a4:(fr++Bx.frame (Bx.body (chD n))).size≤100000:=by rw[ByteArray.size_append];omega
  have bh:¬9223372036854775807<fr.size+(Bx.frame (Bx.body (chD n))).size:=by omega
  generalize Bx.frame (Bx.body (chD n))=fd at *;clear ae aQ aL ac au;go_wp2_with fail;refine (fj b B u (fr++fd) _ _ _ _ _ (by omega) a4 ak.out aV.out).mono ?_
  intro e w5 a2;clear i0 i1 i2 i3 i4
  cases a2 with
  | no _ h hb=>
    have aB:Hid (AnsA (ctB b t n fr d true) B w (.returned (.tuple #[.string ByteArray.empty,.int .i64 13])) w5):=AnsA.of (by rw[HM.out];unfold Px.commitB;rw[if_pos h]) ⟨_,_,ak.out.later hb⟩ (dz aj.out (dx hb _))
    clear hb h;go_wp2_with fail;go_ret2;exact aB.out
  | yes _ h hB hg=>
    have aB:Hid (AnsA (ctB b t n fr d true) B w (.returned (.tuple #[.string d,.int .i64 0])) w5):=AnsA.of (by rw[HM.out];unfold Px.commitB;rw[if_neg h]) ⟨_,_,hB⟩ (dz aj.out hg)
    have k5:=hg.cell al.out a5;clear hB hg h;go_wp2_with fail;go_ret2;exact aB.out
theorem j6 (b:Px.Bo) (s:Px.St) (n:Int) (x fr:ByteArray) (y:Px.Sl) (e:Px.find s.slots n=some y) (d:¬y.step≤0):
 Px.talkB b s n x fr=ctB b (Px.talkT s y x) n fr (Px.talkS s y x).2 (decide (((Px.stepsL s y).length:Int)<(Px.talkS s y x).1.step)):=by
 unfold Px.talkB ctB;rw[e];simp only;rw[if_neg d]
 by_cases q:((Px.stepsL s y).length:Int)<(Px.talkS s y x).1.step
 ·rw[if_pos q,if_pos (decide_eq_true q)]
 ·rw[if_neg q,if_neg (by simp[q])]
theorem iP (l:List Px.Sl) (x:Px.Sl):(Px.repl l x).length=l.length:=by simp[Px.repl]
set_option maxRecDepth 10000 in
set_option maxHeartbeats 4000000 in
theorem om (b:Px.Bo) (B:Nat) (n:Int) (x:ByteArray) (sl en:Value) (w:World) (hO:Px.Ok b.st) (ak:b.log.size≤10000) (hT:TabLH w) (hB:PB w B b sl en):
 Calls Tryz.prog 28 #[.pointer (some ⟨B,0,none⟩),.int .i64 n,.string x] w fun e w'=>AnsA (Px.feedB b n x) B w e w':=by
 obtain⟨ad,ap,rfl,aR⟩:=hB.rows.sl.form;obtain⟨am,af,rfl,aK⟩:=hB.rows.en.form;have HB:=Hq hB;have HT:=Hq hT;have HO:=Hq hO;have hl:b.st.slots.length≤8:=hO.len;have he:b.st.ends.length≤6:=hO.st.en;have aW:=hB.ty.lt;have e2:=hB.c2;have e3:=hB.c3;have e4:=hB.c4;have e5:=hB.c5;have e6:=hB.c6;clear hB hT hO
 by_cases ao:40<x.size
 ·have V:Hid (Px.feedB b n x=(b,ByteArray.empty,1)):=if_pos ao;have au:(40:Int)<(x.size:Int):=by omega
  go_enter Tryz.func28,Tryz.ntmps28
  go_wp2_with fail;go_ret2;exact AnsA.of V.out ⟨_,_,HB.out⟩ (eD _ _)
 have ae:Hid (Px.feedB b n x=Px.talkB b b.st n x ByteArray.empty):=if_neg ao;have au:¬(40:Int)<(x.size:Int):=by omega
 go_enter Tryz.func28,Tryz.ntmps28
 go_wp2_with fail;refine (kG b.st n x _ _ _ HO.out (by omega) HT.out HB.out.rows).mono ?_
 rintro e w1 ⟨hR,Z⟩;have O:=HB.out.later Z;have Q:=dx Z (some B);clear e2 e3 e4 e5 e6 Z
 cases hR with
 | none h=>
   have V:Hid (Px.feedB b n x=(b,ByteArray.empty,8)):=by unfold Hid;rw[ae.out];unfold Px.talkB;rw[h]
   have aa:Hid (∀o,PB (w1.alloc o) B b (.slice ad b.st.slots.length ap) (.slice am b.st.ends.length af)):=fun o=>O.later (cw w1 o)
   have ah:Hid (∀o,w.grownBy (w1.alloc o) (some B)):=fun o=>dz Q (dx (cw w1 o) _)
   clear O Q h;go_wp2_with fail;go_ret2;exact AnsA.of V.out ⟨_,_,aa.out _⟩ (ah.out _)
 | wait y h hs=>
   have V:Hid (Px.feedB b n x=(b,ByteArray.empty,9)):=by unfold Hid;rw[ae.out];unfold Px.talkB;rw[h];simp only;rw[if_pos hs]
   have aa:Hid (∀o,PB (w1.alloc o) B b (.slice ad b.st.slots.length ap) (.slice am b.st.ends.length af)):=fun o=>O.later (cw w1 o)
   have ah:Hid (∀o,w.grownBy (w1.alloc o) (some B)):=fun o=>dz Q (dx (cw w1 o) _)
   clear O Q h hs;go_wp2_with fail;go_ret2;exact AnsA.of V.out ⟨_,_,aa.out _⟩ (ah.out _)
 | ok y sl2 en2 said over t h hs ht h1 h2 ha=>
   have V:Hid (Px.feedB b n x=ctB b t n ByteArray.empty said over):=by unfold Hid;rw[ae.out,j6 b b.st n x _ y h hs,ht,h1,h2]
   have hn:0≤n∧n≤100000:=by
    have hm:=List.mem_of_find?_eq_some h;have aX:y.num=n:=by simpa using List.find?_some h
    have:=HO.out.each hm;have:b.st.next≤10000:=HO.out.st.n2;omega
   have ar:t.slots.length≤10000∧t.ends.length≤10000:=by
    rw[ht];have:(Px.talkT b.st y x).slots.length=b.st.slots.length:=iP _ _;have:(Px.talkT b.st y x).ends=b.st.ends:=rfl
    constructor
    ·omega
    ·rw[this];omega
   obtain⟨I,d,aH,_⟩:=ha.sl.form;obtain⟨J,G,az,_⟩:=ha.en.form;subst aH az;have aq:=O.later (cw w1 (.cells #[.string t.tab,.int .i64 t.clock,.int .i64 t.next,.slice I t.slots.length d,.slice J t.ends.length G,.string said,.bool over] 110));have aj:=ha.later (cw w1 (.cells #[.string t.tab,.int .i64 t.clock,.int .i64 t.next,.slice I t.slots.length d,.slice J t.ends.length G,.string said,.bool over] 110));have al:=dz Q (dx (cw w1 (.cells #[.string t.tab,.int .i64 t.clock,.int .i64 t.next,.slice I t.slots.length d,.slice J t.ends.length G,.string said,.bool over] 110)) (some B));have y0:(w1.alloc (.cells #[.string t.tab,.int .i64 t.clock,.int .i64 t.next,.slice I t.slots.length d,.slice J t.ends.length G,.string said,.bool over] 110)).cell? ⟨w1.heap.size,0,none⟩=some (.string t.tab):=by simp[go_sem]
   have y1:(w1.alloc (.cells #[.string t.tab,.int .i64 t.clock,.int .i64 t.next,.slice I t.slots.length d,.slice J t.ends.length G,.string said,.bool over] 110)).cell? ⟨w1.heap.size,1,none⟩=some (.int .i64 t.clock):=by simp[go_sem]
   have y2:(w1.alloc (.cells #[.string t.tab,.int .i64 t.clock,.int .i64 t.next,.slice I t.slots.length d,.slice J t.ends.length G,.string said,.bool over] 110)).cell? ⟨w1.heap.size,2,none⟩=some (.int .i64 t.next):=by simp[go_sem]
   have y3:(w1.alloc (.cells #[.string t.tab,.int .i64 t.clock,.int .i64 t.next,.slice I t.slots.length d,.slice J t.ends.length G,.string said,.bool over] 110)).cell? ⟨w1.heap.size,3,none⟩=some (.slice I t.slots.length d):=by simp[go_sem]
   have y4:(w1.alloc (.cells #[.string t.tab,.int .i64 t.clock,.int .i64 t.next,.slice I t.slots.length d,.slice J t.ends.length G,.string said,.bool over] 110)).cell? ⟨w1.heap.size,4,none⟩=some (.slice J t.ends.length G):=by simp[go_sem]
   have y5:(w1.alloc (.cells #[.string t.tab,.int .i64 t.clock,.int .i64 t.next,.slice I t.slots.length d,.slice J t.ends.length G,.string said,.bool over] 110)).cell? ⟨w1.heap.size,5,none⟩=some (.string said):=by simp[go_sem]
   have y6:(w1.alloc (.cells #[.string t.tab,.int .i64 t.clock,.int .i64 t.next,.slice I t.slots.length d,.slice J t.ends.length G,.string said,.bool over] 110)).cell? ⟨w1.heap.size,6,none⟩=some (.bool over):=by simp[go_sem]
   clear O Q h hs ht h1 h2 ha;go_upto_region 4 with fail;generalize w1.alloc (.cells #[.string t.tab,.int .i64 t.clock,.int .i64 t.next,.slice I t.slots.length d,.slice J t.ends.length G,.string said,.bool over] 110)=W2 at *;generalize w1.heap.size=tq at *;have ag:=Hq aq;have ac:=Hq aj;have ax:=Hq al;clear aq aj al
   have HX:Hid (∀e Y,AnsA (ctB b t n ByteArray.empty said over) B W2 e Y→∃y r,e=.returned (.tuple #[.string y,.int .i64 r])∧AnsA (Px.feedB b n x) B w (.returned (.tuple #[.string y,.int .i64 r])) Y):=by
    intro e Y hA
    cases hA with
    | mk _ hB hg=>exact⟨_,_,rfl,by rw[←V.out] at hB ⊢;exact AnsA.mk Y hB (dz ax.out hg)⟩
   have hc:=ar.1;have hd:=ar.2
   cases over
   ·go_wp2_with fail;refine (gM b B t n _ said _ _ _ _ W2 ak (by decide) ag.out ac.out).mono ?_
    intro e Y U;obtain⟨y',r',rfl,hF⟩:=HX.out _ _ U;have HF:=Hq hF;clear U hF y0 y1 y2 y3 y4 y5 y6;go_wp2_with fail;go_ret2;exact HF.out
   ·go_wp2_with fail;refine (gg b B t n _ said _ _ _ _ W2 ak (by decide) hc hd hn.1 hn.2 ag.out ac.out).mono ?_
    intro e Y U;obtain⟨y',r',rfl,hF⟩:=HX.out _ _ U;have HF:=Hq hF;clear U hF y0 y1 y2 y3 y4 y5 y6;go_wp2_with fail;go_ret2;exact HF.out
end Go.Proofs.YtdajolpoiffimabGreatDoor
