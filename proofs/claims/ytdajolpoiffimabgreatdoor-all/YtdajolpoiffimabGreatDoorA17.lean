import Derived.Test.YtdajolpoiffimabGreatDoorA4
import Derived.Test.YtdajolpoiffimabGreatDoorA16

namespace Go.Proofs.YtdajolpoiffimabGreatDoor
open Go.RowKit
abbrev pbO (b:Px.Bo) (sl en:Value):Obj:=.cells #[.int .i64 b.limit,.int .i64 b.room,.string b.st.tab,.int .i64 b.st.clock,.int .i64 b.st.next,sl,en,.string b.log] 79
structure PB (w:World) (B:Nat) (b:Px.Bo) (sl en:Value):Prop where
 c0:w.cell? ⟨B,0,none⟩=some (.int .i64 b.limit)
 c1:w.cell? ⟨B,1,none⟩=some (.int .i64 b.room)
 c2:w.cell? ⟨B,2,none⟩=some (.string b.st.tab)
 c3:w.cell? ⟨B,3,none⟩=some (.int .i64 b.st.clock)
 c4:w.cell? ⟨B,4,none⟩=some (.int .i64 b.st.next)
 c5:w.cell? ⟨B,5,none⟩=some sl
 c6:w.cell? ⟨B,6,none⟩=some en
 c7:w.cell? ⟨B,7,none⟩=some (.string b.log)
 f:∀j:Nat,j<8→w.frozen? ⟨B,j,none⟩=false
 ty:Typed w B 79
 rows:PAt w b.st sl en
theorem PB.later {w d:World} {B:Nat} {b:Px.Bo} {sl en:Value} (h:PB w B b sl en) (hb:Below w.heap.size w d):PB d B b sl en:=
 ⟨cell_later hb h.c0,cell_later hb h.c1,cell_later hb h.c2,cell_later hb h.c3,cell_later hb h.c4,cell_later hb h.c5,cell_later hb h.c6,cell_later hb h.c7,
  fun j e=>(hb.frozen (p:=⟨B,j,none⟩) h.ty.lt).trans (h.f j e),h.ty.later hb,h.rows.later hb⟩
theorem PB.new (w:World) (l r:Int):PB (w.alloc (pbO ⟨l,r,Px.first,ByteArray.empty⟩ (.slice none 0 0) (.slice none 0 0))) w.heap.size ⟨l,r,Px.first,ByteArray.empty⟩ (.slice none 0 0) (.slice none 0 0):=by
 refine⟨?_,?_,?_,?_,?_,?_,?_,?_,fun j _=>?_,Typed.new _ _ _,⟨TRow.nil _ _,TRow.nil _ _⟩⟩
 all_goals simp[go_sem]
theorem PB.put {w:World} {B:Nat} {b:Px.Bo} {sl en:Value} (h:PB w B b sl en) (t:Px.St) (e d:Value) (log:ByteArray) (J:PAt w t e d):
 PB ((((((w.setCell ⟨B,2,none⟩ (.string t.tab)).setCell ⟨B,3,none⟩ (.int .i64 t.clock)).setCell ⟨B,4,none⟩ (.int .i64 t.next)).setCell ⟨B,5,none⟩ e).setCell ⟨B,6,none⟩ d).setCell ⟨B,7,none⟩ (.string log)) B {b with st:=t,log:=log} e d:=by
 obtain⟨c0,c1,c2,c3,c4,c5,c6,c7,f,ty,_⟩:=h;have st:∀(w:World) (j:Nat) (x:Value),(Typed w B 79∧PAt w t e d)→(Typed (w.setCell ⟨B,j,none⟩ x) B 79∧PAt (w.setCell ⟨B,j,none⟩ x) t e d):=fun w j x h=>⟨h.1.setCell _ _ _,h.2.set h.1 (by decide) (by decide) _ _⟩
 have G:=st _ 7 (.string log) (st _ 6 d (st _ 5 e (st _ 4 (.int .i64 t.next) (st _ 3 (.int .i64 t.clock) (st _ 2 (.string t.tab) ⟨ty,J⟩)))));refine⟨?_,?_,?_,?_,?_,?_,?_,?_,fun j I=>?_,G.1,G.2⟩
 case refine_9=>simp[go_sem,f j I]
 all_goals simp[go_sem,c0,c1,c2,c3,c4,c5,c6,c7]
set_option maxHeartbeats 1000000 in
theorem iS (w:World):Calls Tryz.prog 42 #[] w fun e d=>e=.returned (pstV Px.first (.slice none 0 0) (.slice none 0 0))∧Below w.heap.size w d:=by
 go_enter Tryz.func42,Tryz.ntmps42
 go_wp2_with fail;refine bodyPost_ret (v:=pstV Px.first (.slice none 0 0) (.slice none 0 0)) (by simp[results,Tryz.results42,go_sem,Px.first];rfl) rfl ⟨rfl,cw _ _⟩
set_option maxHeartbeats 1000000 in
theorem rL (l r:Int) (w:World) (h:mayB l r=false):Calls Tryz.prog 20 #[.int .i64 l,.int .i64 r] w fun e d=>e=.returned (.tuple #[.pointer none,.int .i64 4])∧d=w:=by
 have J:¬(1≤l∧l≤4∧600≤r∧r≤4000):=of_decide_eq_false h
 by_cases h1:l<1
 ·go_enter Tryz.func20,Tryz.ntmps20
  go_wp2_with fail;go_ret2;exact⟨rfl,rfl⟩
 by_cases h2:4<l
 ·go_enter Tryz.func20,Tryz.ntmps20
  go_wp2_with fail;go_ret2;exact⟨rfl,rfl⟩
 by_cases I:r<600
 ·go_enter Tryz.func20,Tryz.ntmps20
  go_wp2_with fail;go_ret2;exact⟨rfl,rfl⟩
 have G:4000<r:=by omega
 go_enter Tryz.func20,Tryz.ntmps20
 go_wp2_with fail;go_ret2;exact⟨rfl,rfl⟩
set_option maxHeartbeats 1000000 in
theorem kp (l r:Int) (w:World) (h:mayB l r=true):Calls Tryz.prog 20 #[.int .i64 l,.int .i64 r] w fun e J=>(∃B,e=.returned (.tuple #[.pointer (some ⟨B,0,none⟩),.int .i64 0])∧w.heap.size≤B∧PB J B ⟨l,r,Px.first,ByteArray.empty⟩ (.slice none 0 0) (.slice none 0 0))∧Below w.heap.size w J:=by
 obtain⟨h1,h2,Q,O⟩:1≤l∧l≤4∧600≤r∧r≤4000:=of_decide_eq_true h;clear h
 go_enter Tryz.func20,Tryz.ntmps20
 go_wp2_with fail;refine (iS w).mono ?_;rintro e w1 ⟨rfl,d⟩;have hB:Hid (PB (w1.alloc (pbO ⟨l,r,Px.first,ByteArray.empty⟩ (.slice none 0 0) (.slice none 0 0))) w1.heap.size ⟨l,r,Px.first,ByteArray.empty⟩ (.slice none 0 0) (.slice none 0 0)):=PB.new w1 l r
 have G:Hid (∀o,Below w.heap.size w (w1.alloc o)):=fun o=>d.alloc d.size o
 have I:w.heap.size≤w1.heap.size:=d.size;clear d;go_wp2_with fail;go_ret2;exact⟨⟨w1.heap.size,rfl,I,hB.out⟩,G.out _⟩
inductive CommitR (b:Px.Bo) (B:Nat) (t:Px.St) (fr:ByteArray) (slt ent:Value) (w:World):Ending→World→Prop
 | no (w':World) (h:b.room<(b.log.size:Int)+fr.size) (hb:Below w.heap.size w w'):CommitR b B t fr slt ent w (.returned (.int .i64 13)) w'
 | yes (w':World) (h:¬b.room<(b.log.size:Int)+fr.size) (hB:PB w' B {b with st:=t,log:=b.log++fr} slt ent) (hg:w.grownBy w' (some B)):CommitR b B t fr slt ent w (.returned (.int .i64 0)) w'
set_option maxRecDepth 10000 in
set_option maxHeartbeats 2000000 in
theorem fj (b:Px.Bo) (B:Nat) (t:Px.St) (fr:ByteArray) (sl en Y Z:Value) (w:World) (hl:b.log.size≤100000) (hf:fr.size≤100000) (hB:PB w B b sl en) (ht:PAt w t Y Z):
 Calls Tryz.prog 46 #[.pointer (some ⟨B,0,none⟩),pstV t Y Z,.string fr] w fun e w'=>CommitR b B t fr Y Z w e w':=by
 obtain⟨ad,Q,rfl,aH⟩:=ht.sl.form;obtain⟨O,I,rfl,aF⟩:=ht.en.form;have U:=cw w (pstO t (.slice ad t.slots.length Q) (.slice O t.ends.length I));have hI:=PIn.new w t (.slice ad t.slots.length Q) (.slice O t.ends.length I);have d:=hB.later U;have ac:=ht.later U;clear hB ht
 go_enter Tryz.func46,Tryz.ntmps46
 go_upto_region 1 with fail;generalize w.alloc (pstO t (.slice ad t.slots.length Q) (.slice O t.ends.length I))=W at *;have ah:=Hq d;have aD:=Hq ac;have V:=Hq U;have aL:=d.ty.lt;have e0:=d.c0;have e1:=d.c1;have e2:=d.c2;have e3:=d.c3;have e4:=d.c4;have e5:=d.c5;have e6:=d.c6;have e7:=d.c7;obtain⟨i0,i1,i2,i3,i4⟩:=hI;have g2:=d.f 2 (by decide);have g3:=d.f 3 (by decide);have g4:=d.f 4 (by decide);have g5:=d.f 5 (by decide);have g6:=d.f 6 (by decide);have g7:=d.f 7 (by decide)
 have z0:¬9223372036854775807<b.log.size+fr.size:=by omega
 clear d ac U
 by_cases hr:b.room<(b.log.size:Int)+(fr.size:Int)
 ·have hd:decide (b.room<(b.log.size:Int)+(fr.size:Int))=true:=decide_eq_true hr;go_wp2_with fail
  go_quiet (fail)
  go_wp2_with fail;go_ret;exact CommitR.no _ hr (below_drewN V.out _)
 ·have hd:decide (b.room<(b.log.size:Int)+(fr.size:Int))=false:=decide_eq_false hr;go_wp2_with fail
  go_quiet (fail)
  have J:Below W.heap.size W (W.drewN nq):=below_drewN (Below.refl _ _) nq;have G:=ah.out.later J;have ae:=aD.out.later J;have av:Hid (w.grownBy (W.drewN nq) (some B)):=dx (V.out.trans (J.mono V.out.size)) _;obtain⟨j0,j1,j2,j3,j4⟩:PIn (W.drewN nq) w.heap.size t (.slice ad t.slots.length Q) (.slice O t.ends.length I):=(⟨i0,i1,i2,i3,i4⟩:PIn W w.heap.size t _ _).later J;have aI:=G.ty.lt;clear i0 i1 i2 i3 i4 e0 e1 e2 e3 e4 e5 e6 e7 g2 g3 g4 g5 g6 g7;generalize W.drewN nq=W2 at *;have e0:=G.c0;have e1:=G.c1;have e2:=G.c2;have e3:=G.c3;have e4:=G.c4;have e5:=G.c5;have e6:=G.c6;have e7:=G.c7;have g2:=G.f 2 (by decide);have g3:=G.f 3 (by decide);have g4:=G.f 4 (by decide);have g5:=G.f 5 (by decide);have g6:=G.f 6 (by decide);have g7:=G.f 7 (by decide)
  have HF:Hid (PB _ B {b with st:=t,log:=b.log++fr} (.slice ad t.slots.length Q) (.slice O t.ends.length I)):=G.put t _ _ (b.log++fr) ae;clear G ae J;go_wp2_with fail;go_ret;exact CommitR.yes _ (by omega) HF.out (dI (dI (dI (dI (dI (dI av.out _ _) _ _) _ _) _ _) _ _) _ _)
abbrev pviewV (s:Px.St):Value:=.agg #[.int .i64 s.clock,.int .i64 s.next,.int .i64 s.slots.length,.int .i64 s.ends.length,.string s.tab]
set_option maxHeartbeats 1000000 in
theorem nJ (s:Px.St) (sl en:Value) (w:World) (hS:PAt w s sl en):
 Calls Tryz.prog 52 #[pstV s sl en] w fun e J=>e=.returned (pviewV s)∧Below w.heap.size w J:=by
 obtain⟨U,O,rfl,G⟩:=hS.sl.form;obtain⟨Q,I,rfl,d⟩:=hS.en.form;clear hS
 go_enter Tryz.func52,Tryz.ntmps52
 go_wp2_with fail;refine bodyPost_ret (v:=pviewV s) (by simp[results,Tryz.results52,go_sem]) rfl ⟨rfl,(cw w _).alloc (by simp) _⟩
set_option maxHeartbeats 1000000 in
theorem nU (b:Px.Bo) (B:Nat) (sl en:Value) (w:World) (hB:PB w B b sl en):
 Calls Tryz.prog 23 #[.pointer (some ⟨B,0,none⟩)] w fun e w'=>e=.returned (pviewV b.st)∧Below w.heap.size w w':=by
 obtain⟨ad,ao,rfl,ah⟩:=hB.rows.sl.form;obtain⟨am,ag,rfl,U⟩:=hB.rows.en.form;have I:=cw w (.cells #[.int .i64 0,.int .i64 0,.int .i64 0,.int .i64 0,.string {data:= #[]}] 36);have d:=hB.later I;have O:=ZCell.new w #[.int .i64 0,.int .i64 0,.int .i64 0,.int .i64 0,.string {data:= #[]}] 36;have Q:w.heap.size<(w.alloc (.cells #[.int .i64 0,.int .i64 0,.int .i64 0,.int .i64 0,.string {data:= #[]}] 36)).heap.size:=by simp
 clear hB
 go_enter Tryz.func23,Tryz.ntmps23
 go_upto_region 1 with fail;generalize w.alloc (.cells #[.int .i64 0,.int .i64 0,.int .i64 0,.int .i64 0,.string {data:= #[]}] 36)=W at *;have al:=d.ty.lt;have e2:=d.c2;have e3:=d.c3;have e4:=d.c4;have Y:=d.c5;have e6:=d.c6;have V:=Hq d.rows;clear d;go_wp2_with fail;refine (nJ b.st _ _ _ V.out).mono ?_;rintro e w1 ⟨rfl,J⟩;have G:ZCell w1 w.heap.size 5:=ZCell.later O Q J;have HB:=Hq (I.trans (J.mono I.size));obtain⟨⟨u0,r0⟩,f0⟩:=G 0 (by decide)
 obtain⟨⟨u1,r1⟩,f1⟩:=G 1 (by decide)
 obtain⟨⟨u2,r2⟩,f2⟩:=G 2 (by decide)
 obtain⟨⟨u3,Z⟩,f3⟩:=G 3 (by decide)
 obtain⟨⟨u4,r4⟩,f4⟩:=G 4 (by decide)
 clear G O J I e2 e3 e4 Y e6;go_wp2_with fail;refine bodyPost_ret (v:=pviewV b.st) (by simp[results,Tryz.results23,go_sem,r0,r1,r2,Z,r4]) rfl ⟨rfl,dE HB.out (Nat.le_refl _) _ _ _ _ _⟩
abbrev paslV (x:Px.Sl):Value:=.agg #[.int .i64 x.num,.int .i64 x.line,.int .i64 x.minute,.int .i64 x.att,.int .i64 x.frm,.int .i64 x.step]
abbrev paslZ:Value:=.agg #[.int .i64 0,.int .i64 0,.int .i64 0,.int .i64 0,.int .i64 0,.int .i64 0]
theorem fk {n q:Nat} {w e:World} (h:Below n w e) (d:n≤q) (Q J I G O U:Value):Below n w ((((((e.setCell ⟨q,0,none⟩ Q).setCell ⟨q,1,none⟩ J).setCell ⟨q,2,none⟩ I).setCell ⟨q,3,none⟩ G).setCell ⟨q,4,none⟩ O).setCell ⟨q,5,none⟩ U):=
 (((((h.setCell d _).setCell d _).setCell d _).setCell d _).setCell d _).setCell d _
inductive SlotR (l:List Px.Sl) (i:Int):Ending→Prop
 | no (h:i<0∨(l.length:Int)≤i):SlotR l i (.returned (.tuple #[paslZ,.int .i64 4]))
 | yes (k:Nat) (hk:k<l.length) (h:i=(k:Int)):SlotR l i (.returned (.tuple #[paslV l[k],.int .i64 0]))
inductive EndR (l:List Bx.En) (i:Int):Ending→Prop
 | no (h:i<0∨(l.length:Int)≤i):EndR l i (.returned (.tuple #[.agg #[.int .i64 0,.string {data:= #[]}],.int .i64 4]))
 | yes (k:Nat) (hk:k<l.length) (h:i=(k:Int)):EndR l i (.returned (.tuple #[.agg #[.int .i64 l[k].num,.string l[k].how],.int .i64 0]))
theorem EndR.yes' {l:List Bx.En} {i:Int} {k:Nat} {x:Bx.En} (e:k<l.length) (h:i=(k:Int)) (d:l[k]=x):EndR l i (.returned (.tuple #[.agg #[.int .i64 x.num,.string x.how],.int .i64 0])):=by subst d;exact EndR.yes k e h
theorem SlotR.yes' {l:List Px.Sl} {i:Int} {k:Nat} {x:Px.Sl} (e:k<l.length) (h:i=(k:Int)) (d:l[k]=x):SlotR l i (.returned (.tuple #[paslV x,.int .i64 0])):=by subst d;exact SlotR.yes k e h
set_option maxRecDepth 10000 in
set_option maxHeartbeats 2000000 in
theorem ou (s:Px.St) (i:Int) (sl en:Value) (w:World) (hl:s.slots.length≤10000) (hS:PAt w s sl en):
 Calls Tryz.prog 61 #[pstV s sl en,.int .i64 i] w fun e w'=>SlotR s.slots i e∧Below w.heap.size w w':=by
 obtain⟨Q,O,rfl,aQ⟩:=hS.sl.form;obtain⟨J,G,rfl,aH⟩:=hS.en.form;have HR:=Hq hS.sl.1;have V:=(cw w (pstO s (.slice Q s.slots.length O) (.slice J s.ends.length G))).alloc (by simp) (.cells #[.int .i64 0,.int .i64 0,.int .i64 0,.int .i64 0,.int .i64 0,.int .i64 0] 81)
 have hI:=(PIn.new w s (.slice Q s.slots.length O) (.slice J s.ends.length G)).later (cw _ (.cells #[.int .i64 0,.int .i64 0,.int .i64 0,.int .i64 0,.int .i64 0,.int .i64 0] 81));have hZ:=ZCell.new (w.alloc (pstO s (.slice Q s.slots.length O) (.slice J s.ends.length G))) #[.int .i64 0,.int .i64 0,.int .i64 0,.int .i64 0,.int .i64 0,.int .i64 0] 81;have d:ZCell ((w.alloc (pstO s (.slice Q s.slots.length O) (.slice J s.ends.length G))).alloc (.cells #[.int .i64 0,.int .i64 0,.int .i64 0,.int .i64 0,.int .i64 0,.int .i64 0] 81)) (w.heap.size+1) 6:=by simpa using hZ
 have hq:w.heap.size+1<((w.alloc (pstO s (.slice Q s.slots.length O) (.slice J s.ends.length G))).alloc (.cells #[.int .i64 0,.int .i64 0,.int .i64 0,.int .i64 0,.int .i64 0,.int .i64 0] 81)).heap.size:=by simp
 clear hS hZ
 go_enter Tryz.func61,Tryz.ntmps61
 go_upto_region 1 with fail;generalize (w.alloc (pstO s (.slice Q s.slots.length O) (.slice J s.ends.length G))).alloc (.cells #[.int .i64 0,.int .i64 0,.int .i64 0,.int .i64 0,.int .i64 0,.int .i64 0] 81)=W at *;have HB:=Hq V;have ar:=Hq (HR.out.later V);have i3:=hI.c3;clear hI V HR
 by_cases h0:i<0
 ·obtain⟨⟨u0,r0⟩,f0⟩:=d 0 (by decide)
  obtain⟨⟨u1,r1⟩,f1⟩:=d 1 (by decide)
  obtain⟨⟨u2,r2⟩,f2⟩:=d 2 (by decide)
  obtain⟨⟨u3,Y⟩,f3⟩:=d 3 (by decide)
  obtain⟨⟨u4,Z⟩,f4⟩:=d 4 (by decide)
  obtain⟨⟨u5,U⟩,f5⟩:=d 5 (by decide)
  clear d;go_wp2_with fail;refine bodyPost_ret (v:=.tuple #[paslZ,.int .i64 4]) (by simp[results,Tryz.results61,go_sem,r0,r1,r2,Y,Z,U]) rfl ⟨SlotR.no (Or.inl h0),fk HB.out (by omega) _ _ _ _ _ _⟩
 by_cases h1:(s.slots.length:Int)≤i
 ·obtain⟨⟨u0,r0⟩,f0⟩:=d 0 (by decide)
  obtain⟨⟨u1,r1⟩,f1⟩:=d 1 (by decide)
  obtain⟨⟨u2,r2⟩,f2⟩:=d 2 (by decide)
  obtain⟨⟨u3,Y⟩,f3⟩:=d 3 (by decide)
  obtain⟨⟨u4,Z⟩,f4⟩:=d 4 (by decide)
  obtain⟨⟨u5,U⟩,f5⟩:=d 5 (by decide)
  clear d;go_wp2_with fail;refine bodyPost_ret (v:=.tuple #[paslZ,.int .i64 4]) (by simp[results,Tryz.results61,go_sem,r0,r1,r2,Y,Z,U]) rfl ⟨SlotR.no (Or.inr h1),fk HB.out (by omega) _ _ _ _ _ _⟩
 obtain⟨k,rfl⟩:∃k:Nat,i=(k:Int):=⟨i.toNat,by omega⟩
 have ae:k<s.slots.length:=by omega
 obtain⟨b,aX,aJ,hv,_,hc⟩:=ar.out.some' (by omega)
 cases hv
 obtain⟨d0,d1,d2,d3,d4,d5,d6,d7⟩:=ei hc k ae;have af:Hid (∃x,s.slots[k]=x):=⟨_,rfl⟩;obtain⟨x,hx⟩:=af.out;have HX:=Hq hx;rw[hx] at d0 d1 d2 d3 d4 d5 d6 d7;have b1:(0:Int)≤(k:Int):=by omega
 have b2:(k:Int)<(s.slots.length:Int):=by omega
 have aE:=PsIn.new W x;have ag:=cw W (psO x);have ab:=d.later hq ag;have ah:Hid (Below w.heap.size w (W.alloc (psO x))):=HB.out.alloc HB.out.size _;clear hc hx af;go_upto_region 4 with fail;clear d0 d1 d2 d3 d4 d5 d6 d7 i3;generalize W.alloc (psO x)=W2 at *;generalize W.heap.size=xq at *;obtain⟨x0,x1,x2,x3,x4,x5,x6,x7⟩:=aE;have y0:(W2.alloc (.cells #[.int .i64 x.num,.int .i64 x.line,.int .i64 x.minute,.int .i64 x.att,.int .i64 x.frm,.int .i64 x.step] 81)).cell? ⟨W2.heap.size,0,none⟩=some (.int .i64 x.num):=by simp[go_sem]
 have y1:(W2.alloc (.cells #[.int .i64 x.num,.int .i64 x.line,.int .i64 x.minute,.int .i64 x.att,.int .i64 x.frm,.int .i64 x.step] 81)).cell? ⟨W2.heap.size,1,none⟩=some (.int .i64 x.line):=by simp[go_sem]
 have y2:(W2.alloc (.cells #[.int .i64 x.num,.int .i64 x.line,.int .i64 x.minute,.int .i64 x.att,.int .i64 x.frm,.int .i64 x.step] 81)).cell? ⟨W2.heap.size,2,none⟩=some (.int .i64 x.minute):=by simp[go_sem]
 have y3:(W2.alloc (.cells #[.int .i64 x.num,.int .i64 x.line,.int .i64 x.minute,.int .i64 x.att,.int .i64 x.frm,.int .i64 x.step] 81)).cell? ⟨W2.heap.size,3,none⟩=some (.int .i64 x.att):=by simp[go_sem]
 have y4:(W2.alloc (.cells #[.int .i64 x.num,.int .i64 x.line,.int .i64 x.minute,.int .i64 x.att,.int .i64 x.frm,.int .i64 x.step] 81)).cell? ⟨W2.heap.size,4,none⟩=some (.int .i64 x.frm):=by simp[go_sem]
 have y5:(W2.alloc (.cells #[.int .i64 x.num,.int .i64 x.line,.int .i64 x.minute,.int .i64 x.att,.int .i64 x.frm,.int .i64 x.step] 81)).cell? ⟨W2.heap.size,5,none⟩=some (.int .i64 x.step):=by simp[go_sem]
 have I:=ab.later (World.block_lt_of_cell? _ _ (ab 0 (by decide)).1.choose_spec) (cw W2 (.cells #[.int .i64 x.num,.int .i64 x.line,.int .i64 x.minute,.int .i64 x.att,.int .i64 x.frm,.int .i64 x.step] 81))
 have aA:Hid (Below w.heap.size w (W2.alloc (.cells #[.int .i64 x.num,.int .i64 x.line,.int .i64 x.minute,.int .i64 x.att,.int .i64 x.frm,.int .i64 x.step] 81))):=ah.out.alloc ah.out.size _;clear d ab ag;go_upto_region 5 with fail;clear x0 x1 x2 x3 x4 x5 x6 x7;generalize W2.alloc (.cells #[.int .i64 x.num,.int .i64 x.line,.int .i64 x.minute,.int .i64 x.att,.int .i64 x.frm,.int .i64 x.step] 81)=W3 at *;generalize W2.heap.size=yq at *;obtain⟨⟨u0,r0⟩,f0⟩:=I 0 (by decide)
 obtain⟨⟨u1,r1⟩,f1⟩:=I 1 (by decide)
 obtain⟨⟨u2,r2⟩,f2⟩:=I 2 (by decide)
 obtain⟨⟨u3,Y⟩,f3⟩:=I 3 (by decide)
 obtain⟨⟨u4,Z⟩,f4⟩:=I 4 (by decide)
 obtain⟨⟨u5,U⟩,f5⟩:=I 5 (by decide)
 clear I;go_wp2_with fail;refine bodyPost_ret (v:=.tuple #[paslV x,.int .i64 0]) (by simp[results,Tryz.results61,go_sem,r0,r1,r2,Y,Z,U]) rfl ⟨SlotR.yes' ae rfl HX.out,fk aA.out (by omega) _ _ _ _ _ _⟩
set_option maxRecDepth 10000 in
set_option maxHeartbeats 2000000 in
theorem qt (s:Px.St) (i:Int) (sl en:Value) (w:World) (hl:s.ends.length≤10000) (hS:PAt w s sl en):
 Calls Tryz.prog 62 #[pstV s sl en,.int .i64 i] w fun e w'=>EndR s.ends i e∧Below w.heap.size w w':=by
 obtain⟨U,I,rfl,am⟩:=hS.sl.form;obtain⟨G,d,rfl,ah⟩:=hS.en.form;have HR:=Hq hS.en.1;have Q:=(cw w (pstO s (.slice U s.slots.length I) (.slice G s.ends.length d))).alloc (by simp) (.cells #[.int .i64 0,.string {data:= #[]}] 85)
 have hI:=(PIn.new w s (.slice U s.slots.length I) (.slice G s.ends.length d)).later (cw _ (.cells #[.int .i64 0,.string {data:= #[]}] 85));have hZ:=ZCell.new (w.alloc (pstO s (.slice U s.slots.length I) (.slice G s.ends.length d))) #[.int .i64 0,.string {data:= #[]}] 85;have O:ZCell ((w.alloc (pstO s (.slice U s.slots.length I) (.slice G s.ends.length d))).alloc (.cells #[.int .i64 0,.string {data:= #[]}] 85)) (w.heap.size+1) 2:=by simpa using hZ
 clear hS hZ
 go_enter Tryz.func62,Tryz.ntmps62
 go_upto_region 1 with fail;generalize (w.alloc (pstO s (.slice U s.slots.length I) (.slice G s.ends.length d))).alloc (.cells #[.int .i64 0,.string {data:= #[]}] 85)=W at *;have HB:=Hq Q;have ae:=Hq (HR.out.later Q);have i4:=hI.c4;obtain⟨⟨u0,r0⟩,f0⟩:=O 0 (by decide)
 obtain⟨⟨u1,r1⟩,f1⟩:=O 1 (by decide)
 clear hI Q HR O
 by_cases h0:i<0
 ·go_wp2_with fail;refine bodyPost_ret (v:=.tuple #[.agg #[.int .i64 0,.string {data:= #[]}],.int .i64 4]) (by simp[results,Tryz.results62,go_sem,r0,r1]) rfl ⟨EndR.no (Or.inl h0),(HB.out.setCell (by simp) _).setCell (by simp) _⟩
 by_cases h1:(s.ends.length:Int)≤i
 ·go_wp2_with fail;refine bodyPost_ret (v:=.tuple #[.agg #[.int .i64 0,.string {data:= #[]}],.int .i64 4]) (by simp[results,Tryz.results62,go_sem,r0,r1]) rfl ⟨EndR.no (Or.inr h1),(HB.out.setCell (by simp) _).setCell (by simp) _⟩
 obtain⟨k,rfl⟩:∃k:Nat,i=(k:Int):=⟨i.toNat,by omega⟩
 have J:k<s.ends.length:=by omega
 obtain⟨b,Y,aj,hv,_,hc⟩:=ae.out.some' (by omega)
 cases hv
 have d0:W.cell? ⟨b,Y+k*2,none⟩=some (.int .i64 s.ends[k].num):=RowAt.cell ej hc k J 0 (by decide)
 have d1:W.cell? ⟨b,Y+k*2+1,none⟩=some (.string s.ends[k].how):=RowAt.cell ej hc k J 1 (by decide)
 have V:Hid (∃x,s.ends[k]=x):=⟨_,rfl⟩;obtain⟨x,Z⟩:=V.out;have HX:=Hq Z;rw[Z] at d0 d1;have b1:(0:Int)≤(k:Int):=by omega
 have b2:(k:Int)<(s.ends.length:Int):=by omega
 clear hc Z V;go_wp2_with fail;refine bodyPost_ret (v:=.tuple #[.agg #[.int .i64 x.num,.string x.how],.int .i64 0]) (by simp[results,Tryz.results62,go_sem,r0,r1]) rfl ⟨EndR.yes' J rfl HX.out,(HB.out.setCell (by simp) _).setCell (by simp) _⟩
set_option maxHeartbeats 1000000 in
theorem oL (b:Px.Bo) (B:Nat) (i:Int) (sl en:Value) (w:World) (hl:b.st.slots.length≤10000) (hB:PB w B b sl en):
 Calls Tryz.prog 32 #[.pointer (some ⟨B,0,none⟩),.int .i64 i] w fun e w'=>SlotR b.st.slots i e∧Below w.heap.size w w':=by
 obtain⟨ad,av,rfl,al⟩:=hB.rows.sl.form;obtain⟨au,ak,rfl,ae⟩:=hB.rows.en.form;have I:=cw w (.cells #[.int .i64 0,.int .i64 0,.int .i64 0,.int .i64 0,.int .i64 0,.int .i64 0] 81);have d:=hB.later I;have V:=ZCell.new w #[.int .i64 0,.int .i64 0,.int .i64 0,.int .i64 0,.int .i64 0,.int .i64 0] 81;have ac:w.heap.size<(w.alloc (.cells #[.int .i64 0,.int .i64 0,.int .i64 0,.int .i64 0,.int .i64 0,.int .i64 0] 81)).heap.size:=by simp
 clear hB
 go_enter Tryz.func32,Tryz.ntmps32
 go_upto_region 1 with fail;generalize w.alloc (.cells #[.int .i64 0,.int .i64 0,.int .i64 0,.int .i64 0,.int .i64 0,.int .i64 0] 81)=W at *;have ar:=d.ty.lt;have e2:=d.c2;have e3:=d.c3;have e4:=d.c4;have e5:=d.c5;have e6:=d.c6;have HR:=Hq d.rows;clear d;go_wp2_with fail;refine (ou b.st i _ _ _ hl HR.out).mono ?_;rintro e w1 ⟨hA,J⟩;have G:ZCell w1 w.heap.size 6:=ZCell.later V ac J;have Z:=Hq (I.trans (J.mono I.size));obtain⟨⟨u0,r0⟩,f0⟩:=G 0 (by decide)
 obtain⟨⟨u1,r1⟩,f1⟩:=G 1 (by decide)
 obtain⟨⟨u2,r2⟩,f2⟩:=G 2 (by decide)
 obtain⟨⟨u3,U⟩,f3⟩:=G 3 (by decide)
 obtain⟨⟨u4,Y⟩,f4⟩:=G 4 (by decide)
 obtain⟨⟨u5,Q⟩,f5⟩:=G 5 (by decide)
 clear G V J I e2 e3 e4 e5 e6
 cases hA with
 | no h=>
   go_wp2_with fail;refine bodyPost_ret (v:=.tuple #[paslZ,.int .i64 4]) (by simp[results,Tryz.results32,go_sem,r0,r1,r2,U,Y,Q]) rfl ⟨SlotR.no h,fk Z.out (Nat.le_refl _) _ _ _ _ _ _⟩
 | yes k hk h=>
   have HX:Hid (∃x,b.st.slots[k]=x):=⟨_,rfl⟩;obtain⟨x,O⟩:=HX.out;have HE:=Hq O;rw[O];clear O HX;go_wp2_with fail;refine bodyPost_ret (v:=.tuple #[paslV x,.int .i64 0]) (by simp[results,Tryz.results32,go_sem,r0,r1,r2,U,Y,Q]) rfl ⟨SlotR.yes' hk h HE.out,fk Z.out (Nat.le_refl _) _ _ _ _ _ _⟩
set_option maxHeartbeats 1000000 in
theorem qo (b:Px.Bo) (B:Nat) (i:Int) (sl en:Value) (w:World) (hl:b.st.ends.length≤10000) (hB:PB w B b sl en):
 Calls Tryz.prog 33 #[.pointer (some ⟨B,0,none⟩),.int .i64 i] w fun e w'=>EndR b.st.ends i e∧Below w.heap.size w w':=by
 obtain⟨ad,ap,rfl,ah⟩:=hB.rows.sl.form;obtain⟨ao,ag,rfl,Z⟩:=hB.rows.en.form;have G:=cw w (.cells #[.int .i64 0,.string {data:= #[]}] 85);have d:=hB.later G;have Q:=ZCell.new w #[.int .i64 0,.string {data:= #[]}] 85;have Y:w.heap.size<(w.alloc (.cells #[.int .i64 0,.string {data:= #[]}] 85)).heap.size:=by simp
 clear hB
 go_enter Tryz.func33,Tryz.ntmps33
 go_upto_region 1 with fail;generalize w.alloc (.cells #[.int .i64 0,.string {data:= #[]}] 85)=W at *;have am:=d.ty.lt;have e2:=d.c2;have e3:=d.c3;have e4:=d.c4;have e5:=d.c5;have e6:=d.c6;have HR:=Hq d.rows;clear d;go_wp2_with fail;refine (qt b.st i _ _ _ hl HR.out).mono ?_;rintro e w1 ⟨hA,I⟩;have J:ZCell w1 w.heap.size 2:=ZCell.later Q Y I;have U:=Hq (G.trans (I.mono G.size));obtain⟨⟨u0,r0⟩,f0⟩:=J 0 (by decide)
 obtain⟨⟨u1,r1⟩,f1⟩:=J 1 (by decide)
 clear J Q I G e2 e3 e4 e5 e6
 cases hA with
 | no h=>
   go_wp2_with fail;refine bodyPost_ret (v:=.tuple #[.agg #[.int .i64 0,.string {data:= #[]}],.int .i64 4]) (by simp[results,Tryz.results33,go_sem,r0,r1]) rfl ⟨EndR.no h,(U.out.setCell (Nat.le_refl _) _).setCell (Nat.le_refl _) _⟩
 | yes k hk h=>
   have V:Hid (∃x,b.st.ends[k]=x):=⟨_,rfl⟩;obtain⟨x,O⟩:=V.out;have HE:=Hq O;rw[O];clear O V;go_wp2_with fail;refine bodyPost_ret (v:=.tuple #[.agg #[.int .i64 x.num,.string x.how],.int .i64 0]) (by simp[results,Tryz.results33,go_sem,r0,r1]) rfl ⟨EndR.yes' hk h HE.out,(U.out.setCell (Nat.le_refl _) _).setCell (Nat.le_refl _) _⟩
set_option maxHeartbeats 1000000 in
theorem qF (b:Px.Bo) (B:Nat) (sl en:Value) (w:World) (hB:PB w B b sl en):
 Calls Tryz.prog 8 #[.pointer (some ⟨B,0,none⟩)] w fun e d=>e=.returned (.string b.log)∧d=w:=by
 have G:=hB.ty.lt;have I:=hB.c7;clear hB
 go_enter Tryz.func8,Tryz.ntmps8
 go_wp2_with fail;go_ret;exact⟨rfl,rfl⟩
structure Cl (W:World) (q:Nat) (t:TypeId) (cs:List Value):Prop where
 c:∀j v,cs[j]? =some v→W.cell? ⟨q,j,none⟩=some v
 f:∀j,j<cs.length→W.frozen? ⟨q,j,none⟩=false
 ty:Typed W q t
theorem Cl.new (w:World) (d:List Value) (t:TypeId):Cl (w.alloc (.cells d.toArray t)) w.heap.size t d:=by
 have hb:(w.alloc (.cells d.toArray t)).heap[w.heap.size]? =some (.cells d.toArray t (0,0)):=by show (w.heap.push (.cells d.toArray t))[w.heap.size]? =_;simp
 refine⟨fun j v e=>?_,fun j _=>?_,Typed.new _ _ _⟩
 ·rw[cell_of_row _ _ j d.toArray t (0,0) hb];simpa using e
 ·unfold World.frozen?;rw[hb];simp
theorem Cl.below {W W':World} {q n:Nat} {t:TypeId} {w:List Value} (h:Cl W q t w) (e:q<n) (hb:Below n W W'):Cl W' q t w:=
 ⟨fun j v d=>(hb.cell (p:=⟨q,j,none⟩) e).trans (h.c j v d),fun j d=>(hb.frozen (p:=⟨q,j,none⟩) e).trans (h.f j d),h.ty.below e hb⟩
theorem Cl.later {W W':World} {q:Nat} {t:TypeId} {d:List Value} (h:Cl W q t d) (hb:Below W.heap.size W W'):Cl W' q t d:=h.below h.ty.lt hb
theorem Cl.grow {W W':World} {q g:Nat} {t:TypeId} {w:List Value} (h:Cl W q t w) (hb:W.grownBy W' (some g)) (G:q≠g):Cl W' q t w:=by
 have e:=hb.block q h.ty.lt (fun e=>G (by cases e;rfl))
 refine⟨fun j v d=>?_,fun j d=>?_,?_⟩
 ·rw[World.cell?_of_block (a:=⟨q,j,none⟩) e];exact h.c j v d
 ·rw[World.frozen?_of_block (a:=⟨q,j,none⟩) e];exact h.f j d
 ·obtain⟨cur,fr,I⟩:=h.ty;exact⟨cur,fr,e.trans I⟩
theorem Cl.set {W:World} {q:Nat} {t:TypeId} {w:List Value} (h:Cl W q t w) (j:Nat) (G:j<w.length) (v:Value):Cl (W.setCell ⟨q,j,none⟩ v) q t (w.set j v):=by
 refine⟨fun k u d=>?_,fun k d=>?_,h.ty.setCell _ _ _⟩
 ·by_cases e:j=k
  ·subst e;rw[List.getElem?_set_self G] at d
   cases d
   exact World.cell?_setCell_same _ _ _ (h.c j _ (List.getElem?_eq_getElem G))
  ·rw[List.getElem?_set_ne e] at d;rw[World.cell?_setCell_other _ _ _ _ (fun x=>e (by cases x;rfl))]
   exact h.c k u d
 ·rw[World.frozen?_setCell];exact h.f k (by simpa using d)
theorem Cl.far {W:World} {q g:Nat} {t:TypeId} {e:List Value} (h:Cl W q t e) (w:q≠g) (j:Nat) (v:Value):Cl (W.setCell ⟨g,j,none⟩ v) q t e:=
 ⟨fun k u d=>(World.cell?_setCell_other _ _ _ _ (fun x=>w (by cases x;rfl))).trans (h.c k u d),fun k d=>by rw[World.frozen?_setCell];exact h.f k d,h.ty.setCell _ _ _⟩
end Go.Proofs.YtdajolpoiffimabGreatDoor
