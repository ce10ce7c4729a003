import Derived.Test.YtdajolpoiffimabGreatDoorA15

namespace Go.Proofs.YtdajolpoiffimabGreatDoor
open Go.RowKit
abbrev pstV (s:Px.St) (sl en:Value):Value:=.agg #[.string s.tab,.int .i64 s.clock,.int .i64 s.next,sl,en]
abbrev pstO (s:Px.St) (sl en:Value):Obj:=.cells #[.string s.tab,.int .i64 s.clock,.int .i64 s.next,sl,en] 77
structure PAt (w:World) (s:Px.St) (sl en:Value):Prop where
 sl:TRow w 143 sl s.slots.length (s.slots.flatMap psC)
 en:TRow w 85 en s.ends.length (s.ends.flatMap enC)
theorem PAt.later {w d:World} {s:Px.St} {sl en:Value} (h:PAt w s sl en) (hb:Below w.heap.size w d):PAt d s sl en:=⟨h.sl.later hb,h.en.later hb⟩
theorem PAt.set {w:World} {s:Px.St} {sl en:Value} (h:PAt w s sl en) {g:Nat} {e:TypeId} (d:Typed w g e) (h1:143≠e) (h2:85≠e) (o:Nat) (u:Value):PAt (w.setCell ⟨g,o,none⟩ u) s sl en:=⟨h.sl.set d h1 o u,h.en.set d h2 o u⟩
structure PIn (W:World) (q:Nat) (s:Px.St) (sl en:Value):Prop where
 c0:W.cell? ⟨q,0,none⟩=some (.string s.tab)
 c1:W.cell? ⟨q,1,none⟩=some (.int .i64 s.clock)
 c2:W.cell? ⟨q,2,none⟩=some (.int .i64 s.next)
 c3:W.cell? ⟨q,3,none⟩=some sl
 c4:W.cell? ⟨q,4,none⟩=some en
theorem PIn.new (w:World) (s:Px.St) (sl en:Value):PIn (w.alloc (pstO s sl en)) w.heap.size s sl en:=⟨by simp[go_sem],by simp[go_sem],by simp[go_sem],by simp[go_sem],by simp[go_sem]⟩
theorem PIn.later {W W':World} {q:Nat} {s:Px.St} {sl en:Value} (h:PIn W q s sl en) (hb:Below W.heap.size W W'):PIn W' q s sl en:=
 ⟨cell_later hb h.c0,cell_later hb h.c1,cell_later hb h.c2,cell_later hb h.c3,cell_later hb h.c4⟩
theorem PIn.below {W W':World} {q n:Nat} {s:Px.St} {sl en:Value} (h:PIn W q s sl en) (d:q<n) (hb:Below n W W'):PIn W' q s sl en:=by
 have c:∀j u,W.cell? ⟨q,j,none⟩=some u→W'.cell? ⟨q,j,none⟩=some u:=fun j u h=>(hb.cell (p:=⟨q,j,none⟩) d).trans h
 exact⟨c _ _ h.c0,c _ _ h.c1,c _ _ h.c2,c _ _ h.c3,c _ _ h.c4⟩
def ZCell (W:World) (q n:Nat):Prop:=∀j:Nat,j<n→(∃u,W.cell? ⟨q,j,none⟩=some u)∧W.frozen? ⟨q,j,none⟩=false
theorem ZCell.new (w:World) (d:Array Value) (t:TypeId):ZCell (w.alloc (.cells d t)) w.heap.size d.size:=by
 intro j e;have hb:(w.alloc (.cells d t)).heap[w.heap.size]? =some (.cells d t (0,0)):=by show (w.heap.push (.cells d t))[w.heap.size]? =_;simp
 refine⟨⟨d[j],?_⟩,?_⟩
 ·rw[cell_of_row _ _ j d t (0,0) hb];simp[e]
 ·unfold World.frozen?;rw[hb];simp
theorem ZCell.later {W W':World} {q n:Nat} (h:ZCell W q n) (e:q<W.heap.size) (hb:Below W.heap.size W W'):ZCell W' q n:=
 fun j d=>⟨(h j d).1.elim fun u w=>⟨u,cell_later hb w⟩,(hb.frozen (p:=⟨q,j,none⟩) e).trans (h j d).2⟩
def FindR (l:List Px.Sl) (n:Int) (e:Ending):Prop:=
 (∃x,Px.find l n=some x∧e=.returned (.tuple #[psV x,.bool true]))∨(Px.find l n=none∧e=.returned (.tuple #[psV Px.sl0,.bool false]))
theorem qb {l:List Px.Sl} {n:Int} {k:Nat} (h:k<l.length) (e:(l[k].num==n)=true) (w:∀j (d:j<l.length),j<k→(l[j].num==n)=false):Px.find l n=some l[k]:=by
 unfold Px.find;rw[List.find?_eq_some_iff_getElem];exact⟨e,k,h,rfl,fun j d=>by rw[w j (by omega) d];rfl⟩
theorem oA {l:List Px.Sl} {n:Int} (w:∀j (d:j<l.length),(l[j].num==n)=false):Px.find l n=none:=by
 unfold Px.find;rw[List.find?_eq_none];intro x e;obtain⟨j,d,rfl⟩:=List.mem_iff_getElem.1 e;rw[w j d];simp
set_option maxRecDepth 10000 in
set_option maxHeartbeats 2000000 in
theorem fy (s:Px.St) (n:Int) (sl en:Value) (w:World) (hl:s.slots.length≤10000) (hS:PAt w s sl en):
 Calls Tryz.prog 91 #[pstV s sl en,.int .i64 n] w fun e w'=>FindR s.slots n e∧Below w.heap.size w w':=by
 obtain⟨O,J,rfl,aM⟩:=hS.sl.form;obtain⟨I,G,rfl,au⟩:=hS.en.form;have HR:=Hq hS.sl.1;clear hS;have Q:=(cw w (pstO s (.slice O s.slots.length J) (.slice I s.ends.length G))).alloc (by simp) (.cells #[.int .i64 0,.int .i64 0,.int .i64 0,.int .i64 0,.int .i64 0,.int .i64 0,.int .i64 0,.string {data:= #[]}] 143)
 have hI:=(PIn.new w s (.slice O s.slots.length J) (.slice I s.ends.length G)).later (cw _ (.cells #[.int .i64 0,.int .i64 0,.int .i64 0,.int .i64 0,.int .i64 0,.int .i64 0,.int .i64 0,.string {data:= #[]}] 143));have hZ:=ZCell.new (w.alloc (pstO s (.slice O s.slots.length J) (.slice I s.ends.length G))) #[.int .i64 0,.int .i64 0,.int .i64 0,.int .i64 0,.int .i64 0,.int .i64 0,.int .i64 0,.string {data:= #[]}] 143;have aa:ZCell ((w.alloc (pstO s (.slice O s.slots.length J) (.slice I s.ends.length G))).alloc (.cells #[.int .i64 0,.int .i64 0,.int .i64 0,.int .i64 0,.int .i64 0,.int .i64 0,.int .i64 0,.string {data:= #[]}] 143)) (w.heap.size+1) 8:=by simpa using hZ
 have hq:w.heap.size+1<((w.alloc (pstO s (.slice O s.slots.length J) (.slice I s.ends.length G))).alloc (.cells #[.int .i64 0,.int .i64 0,.int .i64 0,.int .i64 0,.int .i64 0,.int .i64 0,.int .i64 0,.string {data:= #[]}] 143)).heap.size:=by simp
 clear hZ
 go_enter Tryz.func91,Tryz.ntmps91
 go_upto_region 1 with fail;generalize (w.alloc (pstO s (.slice O s.slots.length J) (.slice I s.ends.length G))).alloc (.cells #[.int .i64 0,.int .i64 0,.int .i64 0,.int .i64 0,.int .i64 0,.int .i64 0,.int .i64 0,.string {data:= #[]}] 143)=W at *;have HB:=Hq Q;have am:=Hq (HR.out.later Q);have i3:=hI.c3;have d:=Hq aa;clear hI Q HR aa;go_wp2_with fail
 go_loop [6] (fun i=>∃k:Nat,k≤s.slots.length∧i=.int .i64 k∧∀j (Y:j<s.slots.length),j<k→(s.slots[j].num==n)=false) (fun i=>s.slots.length-(intOf i).toNat)
 case atStart=>exact⟨0,Nat.zero_le _,rfl,fun j _ h=>by omega⟩
 case round=>
  obtain⟨k,hk,rfl,U⟩:=hrel;have HA:=Hq U;clear U
  by_cases Z:k<s.slots.length
  ·obtain⟨b,aS,aC,hv,_,hc⟩:=am.out.some' (by omega)
   cases hv
   obtain⟨d0,d1,d2,d3,d4,d5,d6,d7⟩:=ei hc k Z;clear hc;have b1:(0:Int)≤(k:Int):=by omega
   have b2:(k:Int)<(s.slots.length:Int):=by omega
   cases he:(s.slots[k].num==n)
   ·have HE:=Hq he;have V:Hid (∃x,s.slots[k].num=x):=⟨_,rfl⟩;obtain⟨x,V⟩:=V.out;rw[V] at d0 he;clear d1 d2 d3 d4 d5 d6 d7 V;go_wp2_with fail
    go_round
    case rel=>
     refine⟨k+1,by omega,by go_num,fun j Y h=>?_⟩
     by_cases q:j=k
     ·subst q;exact HE.out
     ·exact HA.out j Y (by omega)
    case measure=>simp[intOf];omega
   ·have HF:Hid (Px.find s.slots n=some s.slots[k]):=qb Z he HA.out;obtain⟨⟨u0,r0⟩,f0⟩:=d.out 0 (by decide)
    obtain⟨⟨u1,r1⟩,f1⟩:=d.out 1 (by decide)
    obtain⟨⟨u2,r2⟩,f2⟩:=d.out 2 (by decide)
    obtain⟨⟨u3,r3⟩,f3⟩:=d.out 3 (by decide)
    obtain⟨⟨u4,r4⟩,f4⟩:=d.out 4 (by decide)
    obtain⟨⟨u5,r5⟩,f5⟩:=d.out 5 (by decide)
    obtain⟨⟨u6,r6⟩,f6⟩:=d.out 6 (by decide)
    obtain⟨⟨u7,r7⟩,f7⟩:=d.out 7 (by decide)
    generalize s.slots[k]=x at *;go_wp2_with fail;refine bodyPost_ret (v:=.tuple #[psV x,.bool true]) (by simp[results,Tryz.results91,go_sem,r0,r1,r2,r3,r4,r5,r6,r7]) rfl ⟨Or.inl ⟨x,HF.out,rfl⟩,?_⟩
    repeat (refine Below.setCell ?_ (by simp) _)
    exact HB.out
  ·have HF:Hid (Px.find s.slots n=none):=oA (fun j Y=>HA.out j Y (by omega))
   obtain⟨⟨u0,r0⟩,f0⟩:=d.out 0 (by decide)
   obtain⟨⟨u1,r1⟩,f1⟩:=d.out 1 (by decide)
   obtain⟨⟨u2,r2⟩,f2⟩:=d.out 2 (by decide)
   obtain⟨⟨u3,r3⟩,f3⟩:=d.out 3 (by decide)
   obtain⟨⟨u4,r4⟩,f4⟩:=d.out 4 (by decide)
   obtain⟨⟨u5,r5⟩,f5⟩:=d.out 5 (by decide)
   obtain⟨⟨u6,r6⟩,f6⟩:=d.out 6 (by decide)
   obtain⟨⟨u7,r7⟩,f7⟩:=d.out 7 (by decide)
   go_wp2_with fail;refine bodyPost_ret (v:=.tuple #[psV Px.sl0,.bool false]) (by simp[results,Tryz.results91,go_sem,r0,r1,r2,r3,r4,r5,r6,r7,Px.sl0];rfl) rfl ⟨Or.inr ⟨HF.out,rfl⟩,?_⟩
   repeat (refine Below.setCell ?_ (by simp) _)
   exact HB.out
set_option maxHeartbeats 1000000 in
theorem gy (s:Px.St) (sl en:Value) (w:World) (G:ChkR s.tab 0 0) (J:TabLH w) (hS:PAt w s sl en):
 Calls Tryz.prog 86 #[pstV s sl en] w fun e O=>(∃g c,e=.returned (.slice (some ⟨g,0,none⟩) (tn s.tab) c)∧tn s.tab≤c∧PLinesAt O g s.tab)∧Below w.heap.size w O:=by
 obtain⟨ad,ag,rfl,ac⟩:=hS.sl.form;obtain⟨af,Z,rfl,Q⟩:=hS.en.form;have V:=G.lines.1;have Y:Hid (s.tab.size≤maxLen):=by unfold Hid maxLen;omega
 have HT:Hid (∀o,TabLH (w.alloc o)):=fun o=>J.later (cw _ _)
 have HC:=Hq G;clear hS J G
 go_enter Tryz.func86,Tryz.ntmps86
 go_wp2_with fail;refine (gB _ _ Y.out (HT.out _)).mono ?_;rintro e w1 ⟨⟨a,r,ah,n',c,rfl,hK,hL⟩,hb⟩;obtain⟨rfl,rfl⟩:=HC.out.uniq hK;obtain⟨g,rfl,rfl,I,d⟩:=hL rfl;have U:Hid (∀o,PLinesAt (w1.alloc o) g s.tab):=fun o=>d.later (cw _ _)
 have B1:Hid (∀o,Below w.heap.size w (w1.alloc o)):=fun o=>((cw w _).trans (hb.mono (by simp))).alloc (by have:=hb.size;simp at this;omega) _
 clear hL hK d hb;go_wp2_with fail;go_ret;exact⟨⟨g,c,rfl,I,U.out _⟩,B1.out _⟩
def PLine (w:World) (l:ByteArray) (v:Value):Prop:=∃(bb cc:Nat→Nat) (ads:Option Addr) (caps:Nat),v=lineV l bb cc (.slice ads (stps l).length caps)∧LineAt w l bb cc∧StepsAt w l (.slice ads (stps l).length caps)
theorem gO {w:World} {R x o:Nat} {u Y v1 U v3 v4 v5 v6 V Z v9 I G Q J:Value} (O:R≠x) (h:w.cell? ⟨x,o,none⟩=some u):((((((((((((((w.setCell ⟨R,0,none⟩ Y).setCell ⟨R,1,none⟩ v1).setCell ⟨R,2,none⟩ U).setCell ⟨R,3,none⟩ v3).setCell ⟨R,4,none⟩ v4).setCell ⟨R,5,none⟩ v5).setCell ⟨R,6,none⟩ v6).setCell ⟨R,7,none⟩ V).setCell ⟨R,8,none⟩ Z).setCell ⟨R,9,none⟩ v9).setCell ⟨R,10,none⟩ I).setCell ⟨R,11,none⟩ G).setCell ⟨R,12,none⟩ Q).setCell ⟨R,13,none⟩ J).cell? ⟨x,o,none⟩=some u:=by
 have d:∀j:Nat,(⟨R,j,none⟩:Addr)≠⟨x,o,none⟩:=fun j e=>by cases e;exact O rfl
 rw[World.cell?_setCell_other _ _ _ _ (d _),World.cell?_setCell_other _ _ _ _ (d _),World.cell?_setCell_other _ _ _ _ (d _),World.cell?_setCell_other _ _ _ _ (d _),World.cell?_setCell_other _ _ _ _ (d _),World.cell?_setCell_other _ _ _ _ (d _),World.cell?_setCell_other _ _ _ _ (d _),World.cell?_setCell_other _ _ _ _ (d _),World.cell?_setCell_other _ _ _ _ (d _),World.cell?_setCell_other _ _ _ _ (d _),World.cell?_setCell_other _ _ _ _ (d _),World.cell?_setCell_other _ _ _ _ (d _),World.cell?_setCell_other _ _ _ _ (d _),World.cell?_setCell_other _ _ _ _ (d _)];exact h
theorem mX {w:World} {R:Nat} {l:ByteArray} {d v0 v1 O Y v4 v5 V Q U Z G e J I:Value} (ty:Typed w R 154) (h:StepsAt w l d):StepsAt ((((((((((((((w.setCell ⟨R,0,none⟩ v0).setCell ⟨R,1,none⟩ v1).setCell ⟨R,2,none⟩ O).setCell ⟨R,3,none⟩ Y).setCell ⟨R,4,none⟩ v4).setCell ⟨R,5,none⟩ v5).setCell ⟨R,6,none⟩ V).setCell ⟨R,7,none⟩ Q).setCell ⟨R,8,none⟩ U).setCell ⟨R,9,none⟩ Z).setCell ⟨R,10,none⟩ G).setCell ⟨R,11,none⟩ e).setCell ⟨R,12,none⟩ J).setCell ⟨R,13,none⟩ I) l d:=by
 have q:∀(w:World) (j:Nat) (u:Value),(Typed w R 154∧StepsAt w l d)→(Typed (w.setCell ⟨R,j,none⟩ u) R 154∧StepsAt (w.setCell ⟨R,j,none⟩ u) l d):=fun w j u h=>⟨h.1.setCell _ _ _,TRow.set h.2 h.1 (by decide) _ _⟩
 exact ((q _ _ _ (q _ _ _ (q _ _ _ (q _ _ _ (q _ _ _ (q _ _ _ (q _ _ _ (q _ _ _ (q _ _ _ (q _ _ _ (q _ _ _ (q _ _ _ (q _ _ _ (q _ _ _ ⟨ty,h⟩))))))))))))))).2
set_option maxRecDepth 10000 in
set_option maxHeartbeats 2000000 in
theorem fU (s:Px.St) (n:Int) (j:Nat) (sl en:Value) (w:World) (hn:n=(j:Int)+1) (hj:j<tn s.tab) (hC:ChkR s.tab 0 0) (hT:TabLH w) (hS:PAt w s sl en):
 Calls Tryz.prog 92 #[pstV s sl en,.int .i64 n] w fun e w'=>(∃v,e=.returned v∧PLine w' (tl s.tab j) v)∧Below w.heap.size w w':=by
 obtain⟨Q,G,rfl,aW⟩:=hS.sl.form;obtain⟨O,I,rfl,aG⟩:=hS.en.form;subst hn;have HS:=Hq hS;have HC:=Hq hC;have h4:=gv hC;have V:=(cw w (pstO s (.slice Q s.slots.length G) (.slice O s.ends.length I))).alloc (by simp) (.cells #[.bool false,.slice none 0 0,.bool false,.slice none 0 0,.bool false,.slice none 0 0,.bool false,.slice none 0 0,.bool false,.slice none 0 0,.bool false,.int .u8 0,.int .i64 0,.slice none 0 0] 154)
 have hI:=(PIn.new w s (.slice Q s.slots.length G) (.slice O s.ends.length I)).later (cw _ (.cells #[.bool false,.slice none 0 0,.bool false,.slice none 0 0,.bool false,.slice none 0 0,.bool false,.slice none 0 0,.bool false,.slice none 0 0,.bool false,.int .u8 0,.int .i64 0,.slice none 0 0] 154));have hZ:=ZCell.new (w.alloc (pstO s (.slice Q s.slots.length G) (.slice O s.ends.length I))) #[.bool false,.slice none 0 0,.bool false,.slice none 0 0,.bool false,.slice none 0 0,.bool false,.slice none 0 0,.bool false,.slice none 0 0,.bool false,.int .u8 0,.int .i64 0,.slice none 0 0] 154;have ak:((w.alloc (pstO s (.slice Q s.slots.length G) (.slice O s.ends.length I))).alloc (.cells #[.bool false,.slice none 0 0,.bool false,.slice none 0 0,.bool false,.slice none 0 0,.bool false,.slice none 0 0,.bool false,.slice none 0 0,.bool false,.int .u8 0,.int .i64 0,.slice none 0 0] 154)).cell? ⟨w.heap.size+1,0,none⟩=some (.bool false):=by simp[go_sem]
 have ai:=Typed.new (w.alloc (pstO s (.slice Q s.slots.length G) (.slice O s.ends.length I))) #[.bool false,.slice none 0 0,.bool false,.slice none 0 0,.bool false,.slice none 0 0,.bool false,.slice none 0 0,.bool false,.slice none 0 0,.bool false,.int .u8 0,.int .i64 0,.slice none 0 0] 154;have al:ZCell ((w.alloc (pstO s (.slice Q s.slots.length G) (.slice O s.ends.length I))).alloc (.cells #[.bool false,.slice none 0 0,.bool false,.slice none 0 0,.bool false,.slice none 0 0,.bool false,.slice none 0 0,.bool false,.slice none 0 0,.bool false,.int .u8 0,.int .i64 0,.slice none 0 0] 154)) (w.heap.size+1) 14:=by simpa using hZ
 have ab:Typed ((w.alloc (pstO s (.slice Q s.slots.length G) (.slice O s.ends.length I))).alloc (.cells #[.bool false,.slice none 0 0,.bool false,.slice none 0 0,.bool false,.slice none 0 0,.bool false,.slice none 0 0,.bool false,.slice none 0 0,.bool false,.int .u8 0,.int .i64 0,.slice none 0 0] 154)) (w.heap.size+1) 154:=by simpa using ai
 have hq:w.heap.size+1<((w.alloc (pstO s (.slice Q s.slots.length G) (.slice O s.ends.length I))).alloc (.cells #[.bool false,.slice none 0 0,.bool false,.slice none 0 0,.bool false,.slice none 0 0,.bool false,.slice none 0 0,.bool false,.slice none 0 0,.bool false,.int .u8 0,.int .i64 0,.slice none 0 0] 154)).heap.size:=by simp
 clear hZ ai hS hC
 go_enter Tryz.func92,Tryz.ntmps92
 go_upto_region 1 with fail;generalize (w.alloc (pstO s (.slice Q s.slots.length G) (.slice O s.ends.length I))).alloc (.cells #[.bool false,.slice none 0 0,.bool false,.slice none 0 0,.bool false,.slice none 0 0,.bool false,.slice none 0 0,.bool false,.slice none 0 0,.bool false,.int .u8 0,.int .i64 0,.slice none 0 0] 154)=W at *;have HT:=Hq (hT.later V);have aj:=Hq (HS.out.later V);obtain⟨i0,i1,i2,i3,i4⟩:=hI;have HB:=Hq V;have aD:=V.size;clear V hT HS;go_wp2_with fail;refine (gy s _ _ _ HC.out HT.out aj.out).mono ?_;rintro e w1 ⟨⟨g,c,rfl,bk,hL⟩,U⟩;obtain⟨Y,Z,sv,d,am,ag⟩:=hL j hj
 obtain⟨ae,aa,aE⟩:∃Q G,sv=.slice Q (stps (tl s.tab j)).length G:=by
  obtain⟨Q,G,e,_⟩:=TRow.form ag;exact⟨Q,G,e⟩
 subst aE;have J:=al.later hq U;have ac:=Hq am;have aw:=Hq ag;have ay:=Hq (ab.later U);have ax:=Hq (HB.out.trans (U.mono aD));have L0:w1.cell? ⟨g,j*14,none⟩=some (.bool (Txt.opn (pt (tl s.tab j) 0))):=(d 0 (by decide)).trans rfl
 obtain⟨⟨u0,r0⟩,f0⟩:=J 0 (by decide)
 have L1:w1.cell? ⟨g,j*14+1,none⟩=some (.slice (some ⟨Y 0,0,none⟩) (Txt.pcs 44 (pt (tl s.tab j) 0)).length (Z 0)):=(d 1 (by decide)).trans rfl
 obtain⟨⟨u1,r1⟩,f1⟩:=J 1 (by decide)
 have L2:w1.cell? ⟨g,j*14+2,none⟩=some (.bool (Txt.opn (pt (tl s.tab j) 1))):=(d 2 (by decide)).trans rfl
 obtain⟨⟨u2,r2⟩,f2⟩:=J 2 (by decide)
 have L3:w1.cell? ⟨g,j*14+3,none⟩=some (.slice (some ⟨Y 1,0,none⟩) (Txt.pcs 44 (pt (tl s.tab j) 1)).length (Z 1)):=(d 3 (by decide)).trans rfl
 obtain⟨⟨u3,r3⟩,f3⟩:=J 3 (by decide)
 have L4:w1.cell? ⟨g,j*14+4,none⟩=some (.bool (Txt.opn (pt (tl s.tab j) 2))):=(d 4 (by decide)).trans rfl
 obtain⟨⟨u4,r4⟩,f4⟩:=J 4 (by decide)
 have L5:w1.cell? ⟨g,j*14+5,none⟩=some (.slice (some ⟨Y 2,0,none⟩) (Txt.pcs 44 (pt (tl s.tab j) 2)).length (Z 2)):=(d 5 (by decide)).trans rfl
 obtain⟨⟨u5,r5⟩,f5⟩:=J 5 (by decide)
 have L6:w1.cell? ⟨g,j*14+6,none⟩=some (.bool (Txt.opn (pt (tl s.tab j) 3))):=(d 6 (by decide)).trans rfl
 obtain⟨⟨u6,r6⟩,f6⟩:=J 6 (by decide)
 have L7:w1.cell? ⟨g,j*14+7,none⟩=some (.slice (some ⟨Y 3,0,none⟩) (Txt.pcs 44 (pt (tl s.tab j) 3)).length (Z 3)):=(d 7 (by decide)).trans rfl
 obtain⟨⟨u7,r7⟩,f7⟩:=J 7 (by decide)
 have L8:w1.cell? ⟨g,j*14+8,none⟩=some (.bool (Txt.opn (pt (tl s.tab j) 4))):=(d 8 (by decide)).trans rfl
 obtain⟨⟨u8,r8⟩,f8⟩:=J 8 (by decide)
 have L9:w1.cell? ⟨g,j*14+9,none⟩=some (.slice (some ⟨Y 4,0,none⟩) (Txt.pcs 44 (pt (tl s.tab j) 4)).length (Z 4)):=(d 9 (by decide)).trans rfl
 obtain⟨⟨u9,r9⟩,f9⟩:=J 9 (by decide)
 have a9:w1.cell? ⟨g,j*14+10,none⟩=some (.bool (obt (pt (tl s.tab j) 5) 0==120)):=(d 10 (by decide)).trans rfl
 obtain⟨⟨ba,aC⟩,bo⟩:=J 10 (by decide)
 have bj:w1.cell? ⟨g,j*14+11,none⟩=some (.int .u8 (obt (pt (tl s.tab j) 5) 1)):=(d 11 (by decide)).trans rfl
 obtain⟨⟨br,ar⟩,bq⟩:=J 11 (by decide)
 have bs:w1.cell? ⟨g,j*14+12,none⟩=some (.int .i64 (obt (pt (tl s.tab j) 5) 2-48)):=(d 12 (by decide)).trans rfl
 obtain⟨⟨bc,aq⟩,bf⟩:=J 12 (by decide)
 have bh:w1.cell? ⟨g,j*14+13,none⟩=some (.slice ae (stps (tl s.tab j)).length aa):=(d 13 (by decide)).trans rfl
 obtain⟨⟨bg,av⟩,bp⟩:=J 13 (by decide)
 have b0:(0:Int)≤(j:Int):=by omega
 have b1:(j:Int)<(tn s.tab:Int):=by omega
 have bn:IntKind.i64.wrap ((j:Int)+1-1)=(j:Int):=by rw[IntKind.wrap_i64];omega
 have bm:IntKind.i64.wrap (j:Int)=(j:Int):=by rw[IntKind.wrap_i64];omega
 have az:Hid (∀t:Nat,t<5→w.heap.size+1≠Y t):=by
  intro t ht e;obtain⟨_,hp⟩:=ac.out t ht;have h0:=(hp 0 (Txt.pcs_ne _ _)).1;rw[←e,cell_later U ak] at h0
  cases h0
 clear d am ag hL J U al ab HT aj i0 i1 i2 i3 i4 ak;go_wp2_with fail;refine bodyPost_ret (v:=lineV (tl s.tab j) Y Z (.slice ae (stps (tl s.tab j)).length aa)) (by simp[results,Tryz.results92,go_sem,r0,r1,r2,r3,r4,r5,r6,r7,r8,r9,aC,ar,aq,av]) rfl ⟨⟨_,rfl,Y,Z,ae,aa,rfl,fun t ht=>⟨(ac.out t ht).1,fun k hk=>?_⟩,mX ay.out aw.out⟩,ep ax.out (by omega)⟩
 obtain⟨p0,p1,p2⟩:=(ac.out t ht).2 k hk;have ah:=az.out t ht;exact⟨gO ah p0,gO ah p1,gO ah p2⟩
set_option maxHeartbeats 400000 in
theorem eu (x:Px.Sl) (w:World):Calls Tryz.prog 90 #[psV x] w fun e d=>e=.returned (.bool (decide (0<x.step)))∧Below w.heap.size w d:=by
 go_enter Tryz.func90,Tryz.ntmps90
 go_wp2_with fail;go_ret;exact⟨rfl,cw _ _⟩
def waitS (x:Px.Sl):Px.Sl:={x with step:=0,ans:=0,heard:=ByteArray.empty}
set_option maxHeartbeats 1000000 in
theorem lA (x:Px.Sl) (w:World):Calls Tryz.prog 94 #[psV x] w fun e d=>e=.returned (psV (waitS x))∧Below w.heap.size w d:=by
 go_enter Tryz.func94,Tryz.ntmps94
 go_wp2_with fail;refine bodyPost_ret (v:=psV (waitS x)) (by simp[results,Tryz.results94,go_sem];exact⟨rfl,rfl,rfl,rfl,rfl,rfl,rfl,rfl⟩) rfl ⟨rfl,?_⟩
 exact (cw w _).alloc (by simp) _
set_option maxHeartbeats 1000000 in
theorem nf (k:Int) (w:World) (k1:1≤k) (G:k≤5):Calls Tryz.prog 95 #[.int .i64 k] w fun e d=>e=.returned (.int .i64 (Bx.delay k))∧d=w:=by
 go_enter Tryz.func95,Tryz.ntmps95
 go_wp2_with fail
 go_loop [3,4] (fun a b=>(a=.int .i64 1∧b=.int .i64 0)∨(a=.int .i64 2∧b=.int .i64 1)∨(a=.int .i64 4∧b=.int .i64 2∧2≤k)∨(a=.int .i64 8∧b=.int .i64 3∧3≤k)∨(a=.int .i64 16∧b=.int .i64 4∧4≤k)) (fun _ b=>5-(intOf b).toNat)
 case atStart=>exact Or.inl ⟨rfl,rfl⟩
 case round=>
  rcases hrel with ⟨rfl,rfl⟩|⟨rfl,rfl⟩|⟨rfl,rfl,h⟩|⟨rfl,rfl,h⟩|⟨rfl,rfl,h⟩
  ·have c:(0:Int)<k:=by omega
   go_wp2_with fail
   go_round
   case rel=>exact Or.inr (Or.inl ⟨rfl,rfl⟩)
   case measure=>simp[intOf]
  ·by_cases c:(1:Int)<k
   ·go_wp2_with fail
    go_round
    case rel=>exact Or.inr (Or.inr (Or.inl ⟨rfl,rfl,by omega⟩))
    case measure=>simp[intOf]
   ·have e:Hid (Bx.delay k=2):=by have:k=1:=by omega
                                  subst this;rfl
    go_wp2_with fail;go_ret;exact⟨dR e.out.symm,rfl⟩
  ·by_cases c:(2:Int)<k
   ·go_wp2_with fail
    go_round
    case rel=>exact Or.inr (Or.inr (Or.inr (Or.inl ⟨rfl,rfl,by omega⟩)))
    case measure=>simp[intOf]
   ·have e:Hid (Bx.delay k=4):=by have:k=2:=by omega
                                  subst this;rfl
    go_wp2_with fail;go_ret;exact⟨dR e.out.symm,rfl⟩
  ·by_cases c:(3:Int)<k
   ·go_wp2_with fail
    go_round
    case rel=>exact Or.inr (Or.inr (Or.inr (Or.inr ⟨rfl,rfl,by omega⟩)))
    case measure=>simp[intOf]
   ·have e:Hid (Bx.delay k=8):=by have:k=3:=by omega
                                  subst this;rfl
    go_wp2_with fail;go_ret;exact⟨dR e.out.symm,rfl⟩
  ·have e:Hid (Bx.delay k=10):=by
    unfold Hid Bx.delay;rw[if_neg (by omega),if_neg (by omega),if_neg (by omega)]
   by_cases c:(4:Int)<k
   ·go_wp2_with fail;go_ret;exact⟨dR e.out.symm,rfl⟩
   ·go_wp2_with fail;go_ret;exact⟨dR e.out.symm,rfl⟩
def runsK (l:List Px.Sl) (k:Nat):Nat:=((l.take k).filter fun x=>decide (0<x.step)).length
theorem oy {l:List Px.Sl} {k:Nat} (h:k<l.length) (e:decide (0<l[k].step)=true):runsK l (k+1)=runsK l k+1:=by
 unfold runsK;rw[List.take_succ_eq_append_getElem h,List.filter_append,List.filter_cons_of_pos (p:=fun x:Px.Sl=>decide (0<x.step)) (a:=l[k]) e];simp
theorem pu {l:List Px.Sl} {k:Nat} (h:k<l.length) (e:decide (0<l[k].step)=false):runsK l (k+1)=runsK l k:=by
 unfold runsK;rw[List.take_succ_eq_append_getElem h,List.filter_append,List.filter_cons_of_neg (by rw[e];simp)];simp
theorem qq (l:List Px.Sl) (k:Nat):runsK l k≤k:=by
 have:=List.length_filter_le (fun x:Px.Sl=>decide (0<x.step)) (l.take k)
 unfold runsK;simp at this ⊢;omega
set_option maxHeartbeats 1000000 in
theorem kZ (s:Px.St) (sl en:Value) (w:World) (hl:s.slots.length≤10000) (hS:PAt w s sl en):
 Calls Tryz.prog 55 #[pstV s sl en] w fun e w'=>e=.returned (.int .i64 (Px.runs s:Nat))∧Below w.heap.size w w':=by
 obtain⟨ad,V,rfl,ax⟩:=hS.sl.form;obtain⟨Q,I,rfl,ar⟩:=hS.en.form;have HR:=Hq hS.sl.1;clear hS;have U:=cw w (pstO s (.slice ad s.slots.length V) (.slice Q s.ends.length I));have hI:=PIn.new w s (.slice ad s.slots.length V) (.slice Q s.ends.length I)
 go_enter Tryz.func55,Tryz.ntmps55
 go_upto_region 1 with fail;generalize w.alloc (pstO s (.slice ad s.slots.length V) (.slice Q s.ends.length I))=W at *;have HB:=Hq U;have ai:=Hq (HR.out.later U);have HI:=Hq hI;clear hI U HR;go_wp2_with fail
 go_loopw [3,4] (fun c i wr=>∃k:Nat,k≤s.slots.length∧i=.int .i64 k∧c=.int .i64 (runsK s.slots k:Nat)∧Below W.heap.size W wr) (fun _ i _=>s.slots.length-(intOf i).toNat)
 case atStart=>exact⟨0,Nat.zero_le _,rfl,rfl,Below.refl _ _⟩
 case round=>
  obtain⟨k,hk,rfl,rfl,d⟩:=hrel;have i3:=(HI.out.later d).c3;have Z:=d.size
  by_cases O:k<s.slots.length
  ·obtain⟨b,aB,av,hv,_,hc⟩:=(ai.out.later d).some' (by omega)
   cases hv
   obtain⟨d0,d1,d2,d3,d4,d5,d6,d7⟩:=ei hc k O;clear hc;have b1:(0:Int)≤(k:Int):=by omega
   have b2:(k:Int)<(s.slots.length:Int):=by omega
   have aA:=qq s.slots k
   cases J:decide (0<s.slots[k].step)
   ·have Y:Hid (runsK s.slots (k+1)=runsK s.slots k):=pu O J;have HE:=Hq J;clear J;generalize s.slots[k]=x at *;generalize runsK s.slots k=r at *;go_wp2_with fail;refine (eu x wr).mono ?_;rintro e w2 ⟨rfl,G⟩;rw[HE.out];have B2:=d.trans (G.mono Z);clear d0 d1 d2 d3 d4 d5 d6 d7 i3 G d;go_wp2_with fail;go_roundw
    case rel=>exact⟨k+1,by omega,by go_num,by rw[Y.out],B2⟩
    case measure=>simp[intOf];omega
   ·have Y:Hid (runsK s.slots (k+1)=runsK s.slots k+1):=oy O J;have HE:=Hq J;clear J;generalize s.slots[k]=x at *;generalize runsK s.slots k=r at *;go_wp2_with fail;refine (eu x wr).mono ?_;rintro e w2 ⟨rfl,G⟩;rw[HE.out];have B2:=d.trans (G.mono Z);clear d0 d1 d2 d3 d4 d5 d6 d7 i3 G d;go_wp2_with fail;go_roundw
    case rel=>exact⟨k+1,by omega,by go_num,by rw[Y.out];go_num,B2⟩
    case measure=>simp[intOf];omega
  ·obtain rfl:k=s.slots.length:=by omega
   have Y:Hid (runsK s.slots s.slots.length=Px.runs s):=by unfold Hid runsK Px.runs;rw[List.take_length]
   go_wp2_with fail;go_ret;exact⟨dR (by rw[Y.out]),HB.out.trans (d.mono HB.out.size)⟩
theorem qe:(Tryz.prog.info? 3).map (fun i=>(i.zero,i.size,i.bytes))=some (some (.int .i64 0),1,8):=by kernel_rfl
def lateK (s:Px.St) (k:Nat):List Int:=((s.slots.take k).filter fun x=>decide (0<x.step)&&decide (x.ans≤s.clock-3)).map (·.num)
theorem nr {s:Px.St} {k:Nat} (h:k<s.slots.length) (e:(decide (0<s.slots[k].step)&&decide (s.slots[k].ans≤s.clock-3))=true):lateK s (k+1)=lateK s k++[s.slots[k].num]:=by
 unfold lateK;rw[List.take_succ_eq_append_getElem h,List.filter_append,List.filter_cons_of_pos (p:=fun x:Px.Sl=>decide (0<x.step)&&decide (x.ans≤s.clock-3)) (a:=s.slots[k]) e];simp
theorem qg {s:Px.St} {k:Nat} (h:k<s.slots.length) (e:(decide (0<s.slots[k].step)&&decide (s.slots[k].ans≤s.clock-3))=false):lateK s (k+1)=lateK s k:=by
 unfold lateK;rw[List.take_succ_eq_append_getElem h,List.filter_append,List.filter_cons_of_neg (by rw[e];simp)];simp
theorem pX (s:Px.St) (k:Nat):(lateK s k).length≤k:=by
 have:=List.length_filter_le (fun x:Px.Sl=>decide (0<x.step)&&decide (x.ans≤s.clock-3)) (s.slots.take k)
 unfold lateK;simp at this ⊢;omega
theorem rV (w:World) (n:Int) (t:TypeId):∀j u,([Value.int .i64 n]:List Value)[j]? =some u→(w.alloc (.cells #[.int .i64 n] t)).cell? ((⟨w.heap.size,0,none⟩:Addr).add j)=some u:=by
 intro j u d
 match j,d with
 | 0,d=>simp at d;subst d;simp[Addr.add,go_sem]
set_option maxRecDepth 10000 in
set_option maxHeartbeats 2000000 in
theorem jr (s:Px.St) (sl en:Value) (w:World) (hl:s.slots.length≤10000) (c1: -1≤s.clock) (c2:s.clock≤4223371679) (hS:PAt w s sl en):
 Calls Tryz.prog 49 #[pstV s sl en] w fun e w'=>(∃v,e=.returned v∧w'.ownsRow w.heap.size 3 1 v (Px.late s).length ((Px.late s).map (Value.int .i64)))∧Below w.heap.size w w':=by
 obtain⟨i0,hi,aL,aE,aN⟩:=info_parts qe;obtain⟨ad,Q,rfl,bb⟩:=hS.sl.form;obtain⟨I,G,rfl,aQ⟩:=hS.en.form;have HR:=Hq hS.sl.1;clear hS;have ah:=cw w (pstO s (.slice ad s.slots.length Q) (.slice I s.ends.length G));have hI:=PIn.new w s (.slice ad s.slots.length Q) (.slice I s.ends.length G);have aK:w.heap.size≤(w.alloc (pstO s (.slice ad s.slots.length Q) (.slice I s.ends.length G))).heap.size:=by simp
 have aq:=eq (w.alloc (pstO s (.slice ad s.slots.length Q) (.slice I s.ends.length G))) 3 1;have am:=cw (w.alloc (pstO s (.slice ad s.slots.length Q) (.slice I s.ends.length G))) (.cells #[] 3)
 go_enter Tryz.func49,Tryz.ntmps49
 go_upto_region 1 with fail;generalize w.alloc (pstO s (.slice ad s.slots.length Q) (.slice I s.ends.length G))=W at *;have HB:=Hq ah;have av:=Hq am;have aH:=Hq aq;have aA:=Hq (HR.out.later ah);have HI:=Hq hI;clear hI ah am aq HR;go_wp2_with fail
 go_loopw [3,4] (fun v i wr=>∃k:Nat,k≤s.slots.length∧i=.int .i64 k∧wr.ownsRow W.heap.size 3 1 v (lateK s k).length ((lateK s k).map (Value.int .i64))∧Below W.heap.size W wr) (fun _ i _=>s.slots.length-(intOf i).toNat)
 case atStart=>exact⟨0,Nat.zero_le _,rfl,aH.out,av.out⟩
 case round=>
  obtain⟨k,hk,rfl,U,O⟩:=hrel;have i3:=(HI.out.later O).c3;have aB:=O.size
  by_cases ag:k<s.slots.length
  ·obtain⟨b,bj,aZ,hv,_,hc⟩:=(aA.out.later O).some' (by omega)
   cases hv
   obtain⟨d0,d1,d2,d3,d4,d5,d6,d7⟩:=ei hc k ag;clear hc;have b1:(0:Int)≤(k:Int):=by omega
   have b2:(k:Int)<(s.slots.length:Int):=by omega
   have bh:=pX s k
   have HX:Hid (∀v,(decide (0<s.slots[k].step)&&decide (s.slots[k].ans≤s.clock-3))=v→lateK s (k+1)=if v=true then lateK s k++[s.slots[k].num] else lateK s k):=by
    intro v hv
    cases v
    ·rw[if_neg (by simp)];exact qg ag hv
    ·rw[if_pos rfl];exact nr ag hv
   generalize s.slots[k]=x at *;have aM:=PsIn.new wr x;have ao:=cw wr (psO x);have aa:=U.alloc (psO x);go_upto_region 6 with fail;clear d0 d1 d2 d3 d4 d5 d6 d7 i3;generalize wr.alloc (psO x)=W2 at *;generalize wr.heap.size=q at *;have aj:Below W.heap.size W W2:=O.trans (ao.mono aB);obtain⟨x0,x1,x2,x3,x4,x5,x6,x7⟩:=aM;have aI:=aj.size;have ar:=Hq x0;have ap:=Hq x6;go_wp2_with fail;refine (eu x W2).mono ?_;rintro e w3 ⟨rfl,V⟩;have J:Below W.heap.size W w3:=aj.trans (V.mono aI);have y0:=cell_later V ar.out;have y6:=cell_later V ap.out;have j1:=(HI.out.later J).c1;have d:=dU aa V;have aJ:=J.size;clear x0 x1 x2 x3 x4 x5 x6 x7 ar ap aa U O ao V aj
   cases he:decide (0<x.step)
   ·have Y:Hid (lateK s (k+1)=lateK s k):=by have:=HX.out false (by rw[he];rfl);rw[if_neg (by simp)] at this;exact this
    clear he HX;go_wp2_with fail;go_roundw
    case rel=>exact⟨k+1,by omega,by go_num,by rw[Y.out];exact d,J⟩
    case measure=>simp[intOf];omega
   ·by_cases hc:x.ans≤s.clock-3
    ·have Y:Hid (lateK s (k+1)=lateK s k++[x.num]):=by have:=HX.out true (by rw[he,decide_eq_true hc];rfl);rw[if_pos rfl] at this;exact this
     clear he HX;generalize lateK s k=L at *;go_wp2_with (at_builtin;refine wpList_append_lies _ rfl (.tmp 29) (.tmp 32) 58 rfl W.heap.size 3 i0 (.int .i64 0) 1 8 Tryz.underlying58 hi aL aE aN rfl (by decide) _ _ _ rfl (d.alloc _) ⟨w3.heap.size,0,none⟩ 1 1 [.int .i64 x.num] rfl rfl (rV _ _ _) (by intro u hu;simp at hu;subst hu;rfl) (by decide) ?c3 ?c4 ?c5 _ rfl ?_)
     case c3=>unfold maxLen;omega
     case c4=>omega
     case c5=>simp;omega
     ·intro g au w4 Z ab _ a4;have B1:Below W.heap.size W w4:=(J.alloc aJ _).grown ab (by simp;omega) (fun k' e=>(d.lt k' e).1)
      have al:w4.ownsRow W.heap.size 3 1 (.slice (some ⟨g,0,none⟩) (L.length+1) au) (L++[x.num]).length ((L++[x.num]).map (Value.int .i64)):=by simpa using Z
      clear Z ab d J y0 y6 j1;go_wp2_with fail;go_roundw
      case rel=>exact⟨k+1,by omega,by go_num,by rw[Y.out];exact al,B1⟩
      case measure=>simp[intOf];omega
    ·have Y:Hid (lateK s (k+1)=lateK s k):=by have:=HX.out false (by rw[he,decide_eq_false hc];rfl);rw[if_neg (by simp)] at this;exact this
     clear he HX;go_wp2_with fail;go_roundw
     case rel=>exact⟨k+1,by omega,by go_num,by rw[Y.out];exact d,J⟩
     case measure=>simp[intOf];omega
  ·obtain rfl:k=s.slots.length:=by omega
   have Y:Hid (lateK s s.slots.length=Px.late s):=by unfold Hid lateK Px.late;rw[List.take_length]
   rw[Y.out] at U;go_wp2_with fail;go_ret;exact⟨⟨_,rfl,fc U aK⟩,HB.out.trans (O.mono HB.out.size)⟩
abbrev lnO (l:ByteArray) (bb cc:Nat→Nat) (ads:Option Addr) (caps:Nat):Obj:=.cells #[.bool (Txt.opn (pt l 0)),.slice (some ⟨bb 0,0,none⟩) (Txt.pcs 44 (pt l 0)).length (cc 0),.bool (Txt.opn (pt l 1)),.slice (some ⟨bb 1,0,none⟩) (Txt.pcs 44 (pt l 1)).length (cc 1),.bool (Txt.opn (pt l 2)),.slice (some ⟨bb 2,0,none⟩) (Txt.pcs 44 (pt l 2)).length (cc 2),.bool (Txt.opn (pt l 3)),.slice (some ⟨bb 3,0,none⟩) (Txt.pcs 44 (pt l 3)).length (cc 3),.bool (Txt.opn (pt l 4)),.slice (some ⟨bb 4,0,none⟩) (Txt.pcs 44 (pt l 4)).length (cc 4),.bool (obt (pt l 5) 0==120),.int .u8 (obt (pt l 5) 1),.int .i64 (obt (pt l 5) 2-48),.slice ads (stps l).length caps] 154
def onP (n:Int) (x:Px.Sl):Bool:=decide (x.line=n)&&decide (0<x.step)
def onK (l:List Px.Sl) (n:Int) (k:Nat):Nat:=((l.take k).filter (onP n)).length
theorem rj {l:List Px.Sl} {n:Int} {k:Nat} (h:k<l.length) (e:onP n l[k]=true):onK l n (k+1)=onK l n k+1:=by
 unfold onK;rw[List.take_succ_eq_append_getElem h,List.filter_append,List.filter_cons_of_pos e];simp
theorem sI {l:List Px.Sl} {n:Int} {k:Nat} (h:k<l.length) (e:onP n l[k]=false):onK l n (k+1)=onK l n k:=by
 unfold onK;rw[List.take_succ_eq_append_getElem h,List.filter_append,List.filter_cons_of_neg (by rw[e];simp)];simp
theorem tc (l:List Px.Sl) (n:Int) (k:Nat):onK l n k≤k:=by
 have:=List.length_filter_le (onP n) (l.take k);unfold onK;simp at this ⊢;omega
def runsOf (s:Px.St) (n:Int):Nat:=(s.slots.filter (onP n)).length
theorem mC (s:Px.St) (n:Int):(s.slots.any fun x=>decide (x.line=n)&&decide (0<x.step))=decide (0<runsOf s n):=by
 show s.slots.any (onP n)=_
 unfold runsOf;rw[Bool.eq_iff_iff,decide_eq_true_iff,List.any_eq_true,List.length_pos_iff_exists_mem]
 constructor
 ·rintro ⟨x,h1,h2⟩;exact⟨x,List.mem_filter.2 ⟨h1,h2⟩⟩
 ·rintro ⟨x,h⟩;exact⟨x,(List.mem_filter.1 h).1,(List.mem_filter.1 h).2⟩
set_option maxRecDepth 10000 in
set_option maxHeartbeats 2000000 in
theorem gK (s:Px.St) (n:Int) (sl en:Value) (w:World) (hl:s.slots.length≤10000) (hS:PAt w s sl en):
 Calls Tryz.prog 129 #[pstV s sl en,.int .i64 n] w fun e w'=>e=.returned (.int .i64 (runsOf s n:Nat))∧Below w.heap.size w w':=by
 obtain⟨ad,Z,rfl,aL⟩:=hS.sl.form;obtain⟨V,I,rfl,aB⟩:=hS.en.form;have HR:=Hq hS.sl.1;clear hS;have Y:=cw w (pstO s (.slice ad s.slots.length Z) (.slice V s.ends.length I));have hI:=PIn.new w s (.slice ad s.slots.length Z) (.slice V s.ends.length I)
 go_enter Tryz.func129,Tryz.ntmps129
 go_upto_region 1 with fail;generalize w.alloc (pstO s (.slice ad s.slots.length Z) (.slice V s.ends.length I))=W at *;have HB:=Hq Y;have ap:=Hq (HR.out.later Y);have HI:=Hq hI;clear hI Y HR;go_wp2_with fail
 go_loopw [5,6] (fun c i wr=>∃k:Nat,k≤s.slots.length∧i=.int .i64 k∧c=.int .i64 (onK s.slots n k:Nat)∧Below W.heap.size W wr) (fun _ i _=>s.slots.length-(intOf i).toNat)
 case atStart=>exact⟨0,Nat.zero_le _,rfl,rfl,Below.refl _ _⟩
 case round=>
  obtain⟨k,hk,rfl,rfl,d⟩:=hrel;have i3:=(HI.out.later d).c3;have ar:=d.size
  by_cases U:k<s.slots.length
  ·obtain⟨b,aT,aE,hv,_,hc⟩:=(ap.out.later d).some' (by omega)
   cases hv
   obtain⟨d0,d1,d2,d3,d4,d5,d6,d7⟩:=ei hc k U;clear hc;have b1:(0:Int)≤(k:Int):=by omega
   have b2:(k:Int)<(s.slots.length:Int):=by omega
   have aS:=tc s.slots n k;have Q:Hid (onP n s.slots[k]=true→onK s.slots n (k+1)=onK s.slots n k+1):=fun h=>rj U h
   have G:Hid (onP n s.slots[k]=false→onK s.slots n (k+1)=onK s.slots n k):=fun h=>sI U h
   generalize ab:s.slots[k]=x at d0 d1 d2 d3 d4 d5 d6 d7;rw[ab] at Q G;clear ab;generalize onK s.slots n k=r at *;have az:=PsIn.new wr x;have ag:=cw wr (psO x);go_upto_region 6 with fail;clear d0 d1 d2 d3 d4 d5 d6 d7 i3;generalize wr.alloc (psO x)=W3 at *;generalize wr.heap.size=q at *;have O:Below W.heap.size W W3:=d.trans (ag.mono ar);have ay:=O.size;obtain⟨x0,x1,x2,x3,x4,x5,x6,x7⟩:=az;clear d ag
   cases he:(x.line==n)
   ·have ae:¬x.line=n:=by simpa using he
    have J:Hid (onK s.slots n (k+1)=r):=G.out (by unfold onP;rw[decide_eq_false ae];rfl)
    clear ae Q G;go_wp2_with fail;go_roundw
    case rel=>exact⟨k+1,by omega,by go_num,by rw[J.out],O⟩
    case measure=>simp[intOf];omega
   ·have af:x.line=n:=by simpa using he
    have HQ:=Hq af;clear af;go_wp2_with fail;refine (eu x W3).mono ?_;rintro e w4 ⟨rfl,ac⟩;have ah:Below W.heap.size W w4:=O.trans (ac.mono ay);clear x0 x1 x2 x3 x4 x5 x6 x7 ac O
    cases hr:decide (0<x.step)
    ·have J:Hid (onK s.slots n (k+1)=r):=G.out (by unfold onP;rw[hr];simp)
     clear Q G hr;go_wp2_with fail;go_roundw
     case rel=>exact⟨k+1,by omega,by go_num,by rw[J.out],ah⟩
     case measure=>simp[intOf];omega
    ·have J:Hid (onK s.slots n (k+1)=r+1):=Q.out (by unfold onP;rw[hr,decide_eq_true HQ.out];rfl)
     clear Q G hr;go_wp2_with fail;go_roundw
     case rel=>exact⟨k+1,by omega,by go_num,by rw[J.out];go_num,ah⟩
     case measure=>simp[intOf];omega
  ·obtain rfl:k=s.slots.length:=by omega
   have J:Hid (onK s.slots n s.slots.length=runsOf s n):=by unfold Hid onK runsOf;rw[List.take_length]
   go_wp2_with fail;go_ret;exact⟨dR (by rw[J.out]),HB.out.trans (d.mono HB.out.size)⟩
theorem jC (s:Px.St) (n:Int):runsOf s n≤s.slots.length:=List.length_filter_le _ _
set_option maxRecDepth 10000 in
set_option maxHeartbeats 2000000 in
theorem ln (s:Px.St) (n:Int) (j:Nat) (sl en:Value) (w:World) (hn:n=(j:Int)+1) (hj:j<tn s.tab) (hl:s.slots.length≤10000) (hC:ChkR s.tab 0 0) (hT:TabLH w) (hS:PAt w s sl en):
 Calls Tryz.prog 98 #[pstV s sl en,.int .i64 n] w fun e w'=>e=.returned (.bool (Px.lockP s n))∧Below w.heap.size w w':=by
 obtain⟨ad,aa,rfl,aI⟩:=hS.sl.form;obtain⟨Z,I,rfl,aE⟩:=hS.en.form;have HS:=Hq hS;have HC:=Hq hC;have HN:=Hq hn;have aL:1≤n:=by omega
 have az:Hid ((obt (pt (tl s.tab j) 5) 0==120)=(Px.opt s n 0==120)):=by
  unfold Hid Px.opt;rw[hn,show ((j:Int)+1-1).toNat=j by omega];rfl
 have d:=cw w (pstO s (.slice ad s.slots.length aa) (.slice Z s.ends.length I));have hI:=PIn.new w s (.slice ad s.slots.length aa) (.slice Z s.ends.length I);clear hS hC hn
 go_enter Tryz.func98,Tryz.ntmps98
 go_upto_region 1 with fail;generalize w.alloc (pstO s (.slice ad s.slots.length aa) (.slice Z s.ends.length I))=W at *;have HT:=Hq (hT.later d);have Y:=Hq (HS.out.later d);have HI:=Hq hI;obtain⟨i0,i1,i2,i3,i4⟩:=hI;have HB:=Hq d;have au:=d.size;clear d hT HS;go_wp2_with fail;refine (fU s n j _ _ _ HN.out hj HC.out HT.out Y.out).mono ?_;rintro e w1 ⟨⟨v,rfl,bb,cc,V,G,rfl,_,_⟩,U⟩;clear i0 i1 i2 i3 i4;have O:(w1.alloc (lnO (tl s.tab j) bb cc V G)).cell? ⟨w1.heap.size,10,none⟩=some (.bool (obt (pt (tl s.tab j) 5) 0==120)):=by simp[go_sem]
 have J:Below W.heap.size W (w1.alloc (lnO (tl s.tab j) bb cc V G)):=U.alloc U.size _;rw[az.out] at O;go_upto_region 2 with fail;generalize w1.alloc (lnO (tl s.tab j) bb cc V G)=W2 at *;generalize w1.heap.size=q1 at *;have af:=Hq (Y.out.later J);have aD:=Hq (HI.out.later J);have ab:=Hq (HB.out.trans (J.mono au));clear U J Y HT HB HI
 cases Q:(Px.opt s n 0==120)
 ·have HF:Hid (Px.lockP s n=false):=by unfold Hid Px.lockP;rw[Q];rfl
  rw[Q] at O;clear Q;go_wp2_with fail;go_ret;exact⟨dy HF.out.symm,ab.out⟩
 ·have HO:Hid (Px.lockP s n=decide (0<runsOf s n)):=by unfold Hid Px.lockP;rw[Q,Bool.true_and];exact mC s n
  rw[Q] at O;clear Q;obtain⟨i0,i1,i2,i3,i4⟩:=aD.out;go_wp2_with fail;refine (gK s n _ _ _ hl af.out).mono ?_;rintro e w3 ⟨rfl,ae⟩;have aM:=jC s n;generalize runsOf s n=r at *;have HF:=Hq (ab.out.trans (ae.mono ab.out.size));clear ae O i0 i1 i2 i3 i4
  by_cases hr:0<r
  ·have z:(0:Int)<(r:Int):=by omega
   go_wp2_with fail;go_ret;exact⟨dy (by rw[HO.out,decide_eq_true hr]),HF.out⟩
  ·have z:¬(0:Int)<(r:Int):=by omega
   go_wp2_with fail;go_ret;exact⟨dy (by rw[HO.out,decide_eq_false hr]),HF.out⟩
abbrev pzO:Obj:=.cells #[.string {data:= #[]},.int .i64 0,.int .i64 0,.slice none 0 0,.slice none 0 0] 77
structure PRes (w W:World) (s:Px.St) (sl en:Value):Prop where
 st:PIn W w.heap.size s sl en
 z:ZCell W (w.heap.size+1) 5
 ty:Typed W (w.heap.size+1) 77
 bel:Below w.heap.size w W
 lt:w.heap.size+1<W.heap.size
theorem PRes.new (w:World) (s:Px.St) (sl en:Value):PRes w ((w.alloc (pstO s sl en)).alloc pzO) s sl en:=by
 have d:=ZCell.new (w.alloc (pstO s sl en)) #[.string {data:= #[]},.int .i64 0,.int .i64 0,.slice none 0 0,.slice none 0 0] 77;have e:=Typed.new (w.alloc (pstO s sl en)) #[.string {data:= #[]},.int .i64 0,.int .i64 0,.slice none 0 0,.slice none 0 0] 77;exact⟨(PIn.new w s sl en).later (cw _ _),by simpa using d,by simpa using e,(cw w _).alloc (by simp) _,by simp⟩
theorem PRes.later {w W W':World} {s:Px.St} {sl en:Value} (h:PRes w W s sl en) (hb:Below W.heap.size W W'):PRes w W' s sl en:=
 ⟨h.st.later hb,h.z.later h.lt hb,h.ty.later hb,h.bel.trans (hb.mono h.bel.size),Nat.lt_of_lt_of_le h.lt hb.size⟩
theorem dE {n q:Nat} {w e:World} (h:Below n w e) (d:n≤q) (Q J I G O:Value):Below n w (((((e.setCell ⟨q,0,none⟩ Q).setCell ⟨q,1,none⟩ J).setCell ⟨q,2,none⟩ I).setCell ⟨q,3,none⟩ G).setCell ⟨q,4,none⟩ O):=
 ((((h.setCell d _).setCell d _).setCell d _).setCell d _).setCell d _
theorem PAt.store {W:World} {q:Nat} {s:Px.St} {sl en:Value} (h:PAt W s sl en) (ty:Typed W q 77) (J G e d I:Value):
 PAt (((((W.setCell ⟨q,0,none⟩ J).setCell ⟨q,1,none⟩ G).setCell ⟨q,2,none⟩ e).setCell ⟨q,3,none⟩ d).setCell ⟨q,4,none⟩ I) s sl en:=by
 have st:∀(w:World) (j:Nat) (u:Value),(Typed w q 77∧PAt w s sl en)→(Typed (w.setCell ⟨q,j,none⟩ u) q 77∧PAt (w.setCell ⟨q,j,none⟩ u) s sl en):=fun w j u h=>⟨h.1.setCell _ _ _,h.2.set h.1 (by decide) (by decide) _ _⟩
 exact (st _ _ _ (st _ _ _ (st _ _ _ (st _ _ _ (st _ _ _ ⟨ty,h⟩))))).2
theorem PAt.nil (w:World):PAt w Px.st0 (.slice none 0 0) (.slice none 0 0):=⟨TRow.nil _ _,TRow.nil _ _⟩
def ChgR (p:Px.St×Int) (w':World) (e:Ending):Prop:=∃sl en,e=.returned (.tuple #[pstV p.1 sl en,.int .i64 p.2])∧PAt w' p.1 sl en
theorem ChgR.err {d:World} {p:Px.St×Int} {k:Int} (h:p=(Px.st0,k)):ChgR p d (.returned (.tuple #[.agg #[.string {data:= #[]},.int .i64 0,.int .i64 0,.slice none 0 0,.slice none 0 0],.int .i64 k])):=by
 subst h;exact⟨_,_,rfl,PAt.nil _⟩
structure PW (W:World) (q:Nat) (s:Px.St) (sl en:Value):Prop where
 st:PIn W q s sl en
 f:∀j:Nat,j<5→W.frozen? ⟨q,j,none⟩=false
 ty:Typed W q 77
theorem PW.new (w:World) (s:Px.St) (sl en:Value):PW (w.alloc (pstO s sl en)) w.heap.size s sl en:=
 ⟨PIn.new w s sl en,fun j _=>by simp[go_sem],Typed.new _ _ _⟩
theorem PW.below {W W':World} {q n:Nat} {s:Px.St} {sl en:Value} (h:PW W q s sl en) (d:q<n) (hb:Below n W W'):PW W' q s sl en:=
 ⟨h.st.below d hb,fun j e=>(hb.frozen (p:=⟨q,j,none⟩) d).trans (h.f j e),h.ty.below d hb⟩
theorem PW.later {W W':World} {q:Nat} {s:Px.St} {sl en:Value} (h:PW W q s sl en) (hb:Below W.heap.size W W'):PW W' q s sl en:=h.below h.ty.lt hb
theorem PW.slots {W:World} {q:Nat} {s:Px.St} {sl en:Value} (h:PW W q s sl en) (l:List Px.Sl) (v:Value):PW (W.setCell ⟨q,3,none⟩ v) q {s with slots:=l} v en:=by
 obtain⟨⟨c0,c1,c2,c3,c4⟩,f,ty⟩:=h;refine⟨⟨?_,?_,?_,?_,?_⟩,fun j d=>?_,ty.setCell _ _ _⟩
 case refine_6=>simp[go_sem,f j d]
 all_goals simp[go_sem,c0,c1,c2,c3,c4]
theorem PW.ends {W:World} {q:Nat} {s:Px.St} {sl en:Value} (h:PW W q s sl en) (l:List Bx.En) (v:Value):PW (W.setCell ⟨q,4,none⟩ v) q {s with ends:=l} sl v:=by
 obtain⟨⟨c0,c1,c2,c3,c4⟩,f,ty⟩:=h;refine⟨⟨?_,?_,?_,?_,?_⟩,fun j d=>?_,ty.setCell _ _ _⟩
 case refine_6=>simp[go_sem,f j d]
 all_goals simp[go_sem,c0,c1,c2,c3,c4]
theorem PW.next {W:World} {q:Nat} {s:Px.St} {sl en:Value} (h:PW W q s sl en) (k:Int):PW (W.setCell ⟨q,2,none⟩ (.int .i64 k)) q {s with next:=k} sl en:=by
 obtain⟨⟨c0,c1,c2,c3,c4⟩,f,ty⟩:=h;refine⟨⟨?_,?_,?_,?_,?_⟩,fun j d=>?_,ty.setCell _ _ _⟩
 case refine_6=>simp[go_sem,f j d]
 all_goals simp[go_sem,c0,c1,c2,c3,c4]
theorem PW.clock {W:World} {q:Nat} {s:Px.St} {sl en:Value} (h:PW W q s sl en) (k:Int):PW (W.setCell ⟨q,1,none⟩ (.int .i64 k)) q {s with clock:=k} sl en:=by
 obtain⟨⟨c0,c1,c2,c3,c4⟩,f,ty⟩:=h;refine⟨⟨?_,?_,?_,?_,?_⟩,fun j d=>?_,ty.setCell _ _ _⟩
 case refine_6=>simp[go_sem,f j d]
 all_goals simp[go_sem,c0,c1,c2,c3,c4]
theorem PW.tab {W:World} {q:Nat} {s:Px.St} {sl en:Value} (h:PW W q s sl en) (k:ByteArray):PW (W.setCell ⟨q,0,none⟩ (.string k)) q {s with tab:=k} sl en:=by
 obtain⟨⟨c0,c1,c2,c3,c4⟩,f,ty⟩:=h;refine⟨⟨?_,?_,?_,?_,?_⟩,fun j d=>?_,ty.setCell _ _ _⟩
 case refine_6=>simp[go_sem,f j d]
 all_goals simp[go_sem,c0,c1,c2,c3,c4]
theorem PRes.set {w W:World} {s:Px.St} {sl en:Value} (h:PRes w W s sl en) {q:Nat} (I:w.heap.size+1<q) (j:Nat) (u:Value):PRes w (W.setCell ⟨q,j,none⟩ u) s sl en:=by
 have d:∀(a i:Nat),a≤w.heap.size+1→(W.setCell ⟨q,j,none⟩ u).cell? ⟨a,i,none⟩=W.cell? ⟨a,i,none⟩:=fun a i J=>World.cell?_setCell_other _ _ _ _ (by first |(simp;done)|(simp;omega))
 obtain⟨c0,c1,c2,c3,c4⟩:=h.st;refine⟨⟨?_,?_,?_,?_,?_⟩,fun i hi=>⟨?_,?_⟩,h.ty.setCell _ _ _,h.bel.setCell (by first |(simp;done)|(simp;omega)) _,by have:=h.lt;simpa [World.setCell] using this⟩
 ·rw[d _ _ (by omega)];exact c0
 ·rw[d _ _ (by omega)];exact c1
 ·rw[d _ _ (by omega)];exact c2
 ·rw[d _ _ (by omega)];exact c3
 ·rw[d _ _ (by omega)];exact c4
 ·obtain⟨G,e⟩:=(h.z i hi).1;exact⟨G,by rw[d _ _ (by omega)];exact e⟩
 ·rw[World.frozen?_setCell];exact (h.z i hi).2
structure PEnd (w W:World) (q:Nat) (t:Px.St) (sl en:Value):Prop where
 pw:PW W q t sl en
 at':PAt W t sl en
 z:ZCell W (w.heap.size+1) 5
 ty:Typed W (w.heap.size+1) 77
 bel:Below w.heap.size w W
theorem PEnd.fin {w W:World} {q:Nat} {t:Px.St} {sl en:Value} (h:PEnd w W q t sl en) (J G e d I:Value):
 PAt (((((W.setCell ⟨w.heap.size+1,0,none⟩ J).setCell ⟨w.heap.size+1,1,none⟩ G).setCell ⟨w.heap.size+1,2,none⟩ e).setCell ⟨w.heap.size+1,3,none⟩ d).setCell ⟨w.heap.size+1,4,none⟩ I) t sl en∧
 Below w.heap.size w (((((W.setCell ⟨w.heap.size+1,0,none⟩ J).setCell ⟨w.heap.size+1,1,none⟩ G).setCell ⟨w.heap.size+1,2,none⟩ e).setCell ⟨w.heap.size+1,3,none⟩ d).setCell ⟨w.heap.size+1,4,none⟩ I):=
 ⟨h.at'.store h.ty _ _ _ _ _,dE h.bel (by omega) _ _ _ _ _⟩
set_option maxRecDepth 10000 in
set_option maxHeartbeats 2000000 in
theorem g9 (s:Px.St) (n:Int) (how:ByteArray) (sl en:Value) (w:World) (hl:s.slots.length≤10000) (he:s.ends.length≤10000) (hS:PAt w s sl en):
 Calls Tryz.prog 93 #[pstV s sl en,.int .i64 n,.string how] w fun e w'=>(∃aE aA,e=.returned (pstV (Px.ended s n how) aE aA)∧PAt w' (Px.ended s n how) aE aA)∧Below w.heap.size w w':=by
 obtain⟨ad,Z,rfl,aY⟩:=hS.sl.form;obtain⟨V,I,rfl,aO⟩:=hS.en.form;have HS:=Hq hS;have hP:=PRes.new w s (.slice ad s.slots.length Z) (.slice V s.ends.length I);clear hS
 go_enter Tryz.func93,Tryz.ntmps93
 go_upto_region 1 with fail;generalize (w.alloc (pstO s (.slice ad s.slots.length Z) (.slice V s.ends.length I))).alloc pzO=W at *;have az:PAt W s (.slice ad s.slots.length Z) (.slice V s.ends.length I):=HS.out.later hP.bel;obtain⟨i0,i1,i2,i3,i4⟩:=hP.st;have aj:=hP.later (cw W (pstO s (.slice ad s.slots.length Z) (.slice V s.ends.length I)));have aF:=az.later (cw W (pstO s (.slice ad s.slots.length Z) (.slice V s.ends.length I)));have hA:=PW.new W s (.slice ad s.slots.length Z) (.slice V s.ends.length I);have aI:=hP.lt;go_upto_region 2 with fail;clear i0 i1 i2 i3 i4 hP az;generalize W.alloc (pstO s (.slice ad s.slots.length Z) (.slice V s.ends.length I))=W2 at *;generalize W.heap.size=q at *;have aB:=Hq aj;have ac:=Hq aF;have ay:=Hq hA;obtain⟨i0,i1,i2,i3,i4⟩:=aj.st;clear aj aF hA;go_wp2_with fail;refine (kM s.slots n _ _ hl ac.out.sl.1).mono ?_;rintro e w3 ⟨⟨v3,rfl,aa⟩,ag⟩;clear i0 i1 i2 i3 i4;obtain⟨U,G,aM,_⟩:=(RowAt.of_own aa).form;subst aM;have O:=ay.out.later ag;have a3:=O.st.c3;have f3:=O.f 3 (by decide)
 have a5:=O.ty.lt;have au:=(aB.out.later ag).set aI 3 (.slice U (Px.skip s.slots n).length G);have aG:=O.slots (Px.skip s.slots n) (.slice U (Px.skip s.slots n).length G);have ax:=(ac.out.later ag).set O.ty (by decide) (by decide) 3 (.slice U (Px.skip s.slots n).length G)
 have aC:=(TRow.of_own aa).set O.ty (by decide) 3 (.slice U (Px.skip s.slots n).length G)
 clear O aa ag aB ac ay;go_upto_region 3 with fail;clear a3 f3;generalize w3.setCell ⟨q,3,none⟩ (.slice U (Px.skip s.slots n).length G)=W4 at *;obtain⟨i0,i1,i2,i3,i4⟩:=au.st;have ak:=Hq au;have av:=Hq aG;have ao:=Hq aC;have ah:=Hq ax;clear au aG aC ax;go_wp2_with fail;refine (gQ s.ends ⟨n,how⟩ _ _ he ah.out.en.1).mono ?_;rintro e w5 ⟨⟨v5,rfl,ab⟩,af⟩;clear i0 i1 i2 i3 i4;obtain⟨Q,d,aJ,_⟩:=(RowAt.of_own ab).form;subst aJ;have Y:=av.out.later af;have a4:=Y.st.c4;have f4:=Y.f 4 (by decide)
 have a2:=Y.ty.lt;have J:=(ak.out.later af).set aI 4 (.slice Q (Bx.push s.ends ⟨n,how⟩).length d);have al:PW _ q (Px.ended s n how) _ _:=Y.ends (Bx.push s.ends ⟨n,how⟩) (.slice Q (Bx.push s.ends ⟨n,how⟩).length d);have aH:=(ao.out.later af).set Y.ty (by decide) 4 (.slice Q (Bx.push s.ends ⟨n,how⟩).length d)
 have aD:=(TRow.of_own ab).set Y.ty (by decide) 4 (.slice Q (Bx.push s.ends ⟨n,how⟩).length d)
 clear Y ab af ak av ao ah;go_upto_region 4 with fail;clear a4 f4;generalize w5.setCell ⟨q,4,none⟩ (.slice Q (Bx.push s.ends ⟨n,how⟩).length d)=W6 at *;have HX:Hid (PEnd w W6 q (Px.ended s n how) (.slice U (Px.skip s.slots n).length G) (.slice Q (Bx.push s.ends ⟨n,how⟩).length d)):=⟨al,⟨aH,aD⟩,J.z,J.ty,J.bel⟩;obtain⟨⟨⟨u0,r0⟩,f0⟩,⟨⟨u1,r1⟩,f1⟩,⟨⟨u2,r2⟩,f2⟩,⟨⟨u3,r3⟩,f3⟩,⟨⟨u4,r4⟩,f4⟩⟩:=And.intro (J.z 0 (by decide)) (And.intro (J.z 1 (by decide)) (And.intro (J.z 2 (by decide)) (And.intro (J.z 3 (by decide)) (J.z 4 (by decide)))))
 obtain⟨c0,c1,c2,c3,c4⟩:=al.st;clear J al aH aD;go_wp2_with fail;refine bodyPost_ret (v:=pstV (Px.ended s n how) (.slice U (Px.skip s.slots n).length G) (.slice Q (Bx.push s.ends ⟨n,how⟩).length d)) (by simp[results,Tryz.results93,go_sem,r0,r1,r2,r3,r4]) rfl ?_
 exact⟨⟨_,_,rfl,(HX.out.fin _ _ _ _ _).1⟩,(HX.out.fin _ _ _ _ _).2⟩
theorem PRes.five {w W:World} {s:Px.St} {sl en:Value} (h:PRes w W s sl en):
 ((∃u,W.cell? ⟨w.heap.size+1,0,none⟩=some u)∧W.frozen? ⟨w.heap.size+1,0,none⟩=false)∧((∃u,W.cell? ⟨w.heap.size+1,1,none⟩=some u)∧W.frozen? ⟨w.heap.size+1,1,none⟩=false)∧
 ((∃u,W.cell? ⟨w.heap.size+1,2,none⟩=some u)∧W.frozen? ⟨w.heap.size+1,2,none⟩=false)∧((∃u,W.cell? ⟨w.heap.size+1,3,none⟩=some u)∧W.frozen? ⟨w.heap.size+1,3,none⟩=false)∧
 ((∃u,W.cell? ⟨w.heap.size+1,4,none⟩=some u)∧W.frozen? ⟨w.heap.size+1,4,none⟩=false):=⟨h.z 0 (by decide),h.z 1 (by decide),h.z 2 (by decide),h.z 3 (by decide),h.z 4 (by decide)⟩
theorem ChgR.ok {d:World} {p:Px.St×Int} {t:Px.St} {sl en:Value} (h:p=(t,0)) (e:PAt d t sl en):ChgR p d (.returned (.tuple #[pstV t sl en,.int .i64 0])):=by
 subst h;exact⟨_,_,rfl,e⟩
set_option maxRecDepth 10000 in
set_option maxHeartbeats 2000000 in
theorem ia (s:Px.St) (n:Int) (sl en:Value) (w:World) (hl:s.slots.length≤10000) (he:s.ends.length≤10000) (hS:PAt w s sl en):
 Calls Tryz.prog 100 #[pstV s sl en,.int .i64 n] w fun e w'=>ChgR (Px.doneP s n) w' e∧Below w.heap.size w w':=by
 obtain⟨ad,av,rfl,a5⟩:=hS.sl.form;obtain⟨ap,af,rfl,aV⟩:=hS.en.form;have HS:=Hq hS;have hP:=PRes.new w s (.slice ad s.slots.length av) (.slice ap s.ends.length af);clear hS
 go_enter Tryz.func100,Tryz.ntmps100
 go_upto_region 1 with fail;generalize (w.alloc (pstO s (.slice ad s.slots.length av) (.slice ap s.ends.length af))).alloc pzO=W at *;have Z:=Hq (HS.out.later hP.bel);have HP:=Hq hP;obtain⟨i0,i1,i2,i3,i4⟩:=hP.st;clear hP;go_wp2_with fail;refine (fy s n _ _ _ hl Z.out).mono ?_;rintro e w1 ⟨hF,Q⟩;clear i0 i1 i2 i3 i4;have J:=HP.out.later Q;have Y:=Z.out.later Q;clear HP Z Q
 rcases hF with ⟨x,hf,rfl⟩|⟨hf,rfl⟩
 rotate_left
 ·have HM:Hid (Px.doneP s n=(Px.st0,8)):=by unfold Hid Px.doneP;rw[hf]
  clear hf;generalize Px.sl0=x at *;have O:=J.later (cw w1 (psO x));clear J Y;go_upto_region 2 with fail;generalize w1.alloc (psO x)=W2 at *;obtain⟨⟨⟨u0,r0⟩,f0⟩,⟨⟨u1,r1⟩,f1⟩,⟨⟨u2,r2⟩,f2⟩,⟨⟨u3,r3⟩,f3⟩,⟨⟨u4,r4⟩,f4⟩⟩:=O.five;have ah:Hid (Below w.heap.size w W2):=O.bel;clear O;go_wp2_with fail;refine bodyPost_ret (v:=.tuple #[.agg #[.string {data:= #[]},.int .i64 0,.int .i64 0,.slice none 0 0,.slice none 0 0],.int .i64 8]) (by simp[results,Tryz.results100,go_sem,r0,r1,r2,r3,r4]) rfl ⟨ChgR.err HM.out,dE ah.out (by omega) _ _ _ _ _⟩
 have au:=Hq hf;have aq:=J.later (cw w1 (psO x));have aw:=Y.later (cw w1 (psO x));have ar:=PsIn.new w1 x;have bc:w1.heap.size<(w1.alloc (psO x)).heap.size:=by simp
 have bh:w.heap.size+1<w1.heap.size:=J.lt;clear J Y hf;go_upto_region 2 with fail;generalize w1.alloc (psO x)=W2 at *;generalize w1.heap.size=xq at *;have ag:=Hq aq;have U:=Hq aw;have bf:=Hq ar;obtain⟨x0,x1,x2,x3,x4,x5,x6,x7⟩:=ar;clear aq aw;go_wp2_with fail;refine (eu x W2).mono ?_;rintro e w3 ⟨rfl,aj⟩;clear x0 x1 x2 x3 x4 x5 x6 x7;have d:=ag.out.later aj;have V:=Hq (U.out.later aj);clear ag U aj
 cases hr:decide (0<x.step)
 ·have HM:Hid (Px.doneP s n=(Px.st0,9)):=by unfold Hid Px.doneP;rw[au.out];simp only;rw[if_pos (by have:=of_decide_eq_false hr;omega)]
  clear hr;obtain⟨⟨⟨u0,r0⟩,f0⟩,⟨⟨u1,r1⟩,f1⟩,⟨⟨u2,r2⟩,f2⟩,⟨⟨u3,r3⟩,f3⟩,⟨⟨u4,r4⟩,f4⟩⟩:=d.five;have ah:Hid (Below w.heap.size w w3):=d.bel;clear d;go_wp2_with fail;refine bodyPost_ret (v:=.tuple #[.agg #[.string {data:= #[]},.int .i64 0,.int .i64 0,.slice none 0 0,.slice none 0 0],.int .i64 9]) (by simp[results,Tryz.results100,go_sem,r0,r1,r2,r3,r4]) rfl ⟨ChgR.err HM.out,dE ah.out (by omega) _ _ _ _ _⟩
 ·have HM:Hid (Px.doneP s n=(Px.ended s n ⟨#[100]⟩,0)):=by unfold Hid Px.doneP;rw[au.out];simp only;rw[if_neg (by have:=of_decide_eq_true hr;omega),rc]
  clear hr;obtain⟨i0,i1,i2,i3,i4⟩:=d.st;have ak:=Hq d;clear d;go_wp2_with fail;refine (g9 s n ⟨#[100]⟩ _ _ _ hl he V.out).mono ?_;rintro e w4 ⟨⟨bg,bj,rfl,I⟩,ao⟩;clear i0 i1 i2 i3 i4;have G:=ak.out.later ao;obtain⟨aT,aD,aE,_⟩:=I.sl.form;obtain⟨aI,ax,aJ,_⟩:=I.en.form;subst aE aJ;have H4:=Hq I;have aR:Hid (Typed w4 (w.heap.size+1) 77):=G.ty;have aG:Hid (Below w.heap.size w w4):=G.bel;obtain⟨⟨⟨u0,r0⟩,f0⟩,⟨⟨u1,r1⟩,f1⟩,⟨⟨u2,r2⟩,f2⟩,⟨⟨u3,r3⟩,f3⟩,⟨⟨u4,r4⟩,f4⟩⟩:=G.five;clear I ao G ak V;go_wp2_with fail;refine bodyPost_ret (v:=.tuple #[pstV (Px.ended s n ⟨#[100]⟩) (.slice aT (Px.ended s n ⟨#[100]⟩).slots.length aD) (.slice aI (Px.ended s n ⟨#[100]⟩).ends.length ax),.int .i64 0]) (by simp[results,Tryz.results100,go_sem,r0,r1,r2,r3,r4]) rfl ⟨ChgR.ok HM.out (H4.out.store aR.out _ _ _ _ _),dE aG.out (by omega) _ _ _ _ _⟩
def tabC (s:Px.St) (tab:ByteArray) (r:Int):Px.St×Int:=if r=0 then Px.tabP s tab else (Px.st0,r)
set_option maxRecDepth 10000 in
set_option maxHeartbeats 2000000 in
theorem iz (s:Px.St) (tab:ByteArray) (sl en:Value) (w:World) (hs:tab.size≤maxLen) (hT:TabLH w) (_hl:s.slots.length≤10000) (hS:PAt w s sl en):
 Calls Tryz.prog 44 #[pstV s sl en,.string tab] w fun e w'=>(∃a r:Int,ChkR tab a r∧ChgR (tabC s tab r) w' e)∧Below w.heap.size w w':=by
 obtain⟨Y,I,rfl,aP⟩:=hS.sl.form;obtain⟨G,d,rfl,aI⟩:=hS.en.form;have HS:=Hq hS;have aq:=Hq hs;have hP:=PRes.new w s (.slice Y s.slots.length I) (.slice G s.ends.length d);clear hS hs
 go_enter Tryz.func44,Tryz.ntmps44
 go_upto_region 1 with fail;generalize (w.alloc (pstO s (.slice Y s.slots.length I) (.slice G s.ends.length d))).alloc pzO=W at *;have J:=Hq (HS.out.later hP.bel);have HT:=Hq (hT.later hP.bel);have U:=Hq hP;clear hP hT;go_wp2_with fail;refine (gB _ _ aq.out HT.out).mono ?_;rintro e w1 ⟨⟨a,r,aa,n',c,rfl,hK,_⟩,Z⟩;have HK:=Hq hK;have au:=hK.bd;have g2:(w1.alloc (.cells #[.slice aa n' c,.int .i64 a,.int .i64 r] 134)).cell? ⟨w1.heap.size,2,none⟩=some (.int .i64 r):=by simp[go_sem]
 have O:=(U.out.later Z).later (cw w1 (.cells #[.slice aa n' c,.int .i64 a,.int .i64 r] 134));have Q:=(J.out.later Z).later (cw w1 (.cells #[.slice aa n' c,.int .i64 a,.int .i64 r] 134));have aT:w.heap.size+1<w1.heap.size:=(U.out.later Z).lt;clear hK U J HT Z;go_upto_region 2 with fail;generalize w1.alloc (.cells #[.slice aa n' c,.int .i64 a,.int .i64 r] 134)=W2 at *;generalize w1.heap.size=rq at *;have aV:rq<W2.heap.size:=World.block_lt_of_cell? _ _ g2
 by_cases hr:r=0
 rotate_left
 ·have aU:(r !=0)=true:=by simpa using hr
  have HM:Hid (tabC s tab r=(Px.st0,r)):=if_neg hr;obtain⟨⟨⟨u0,r0⟩,f0⟩,⟨⟨u1,r1⟩,f1⟩,⟨⟨u2,r2⟩,f2⟩,⟨⟨u3,r3⟩,f3⟩,⟨⟨u4,r4⟩,f4⟩⟩:=O.five;have ab:Hid (Below w.heap.size w W2):=O.bel;clear O Q hr;go_wp2_with fail
  go_region
  go_wp2_with fail;refine bodyPost_ret (v:=.tuple #[.agg #[.string {data:= #[]},.int .i64 0,.int .i64 0,.slice none 0 0,.slice none 0 0],.int .i64 r]) (by simp[results,Tryz.results44,go_sem,r0,r1,r2,r3,r4]) rfl ⟨⟨a,r,HK.out,ChgR.err HM.out⟩,?_⟩
  first |exact (dE ab.out (by omega) _ _ _ _ _).drew|exact dE ab.out.drew (by omega) _ _ _ _ _
 subst hr;have U:=Hq O;have J:=Hq Q;obtain⟨i0,i1,i2,i3,i4⟩:=O.st;clear O Q au
 by_cases h0:0<s.slots.length
 ·have HM:Hid (tabC s tab 0=(Px.st0,5)):=by unfold Hid tabC;rw[if_pos rfl];exact if_pos h0
  have ag:=U.out;clear U J;obtain⟨⟨⟨u0,r0⟩,f0⟩,⟨⟨u1,r1⟩,f1⟩,⟨⟨u2,r2⟩,f2⟩,⟨⟨u3,r3⟩,f3⟩,⟨⟨u4,r4⟩,f4⟩⟩:=ag.five;have ab:Hid (Below w.heap.size w W2):=ag.bel;clear ag;go_wp2_with fail;refine bodyPost_ret (v:=.tuple #[.agg #[.string {data:= #[]},.int .i64 0,.int .i64 0,.slice none 0 0,.slice none 0 0],.int .i64 5]) (by simp[results,Tryz.results44,go_sem,r0,r1,r2,r3,r4]) rfl ⟨⟨a,0,HK.out,ChgR.err HM.out⟩,dE ab.out (by omega) _ _ _ _ _⟩
 ·have HM:Hid (tabC s tab 0=({s with tab:=tab},0)):=by unfold Hid tabC;rw[if_pos rfl];exact if_neg h0
  have ao:=U.out.later (cw W2 (pstO s (.slice Y s.slots.length I) (.slice G s.ends.length d)));have Q:=J.out.later (cw W2 (pstO s (.slice Y s.slots.length I) (.slice G s.ends.length d)));have hA:=PW.new W2 s (.slice Y s.slots.length I) (.slice G s.ends.length d);have aH:=U.out.lt;go_upto_region 7 with fail;clear i0 i1 i2 i3 i4 U J g2;generalize W2.alloc (pstO s (.slice Y s.slots.length I) (.slice G s.ends.length d))=W3 at *;generalize W2.heap.size=q at *;have a0:=hA.st.c0;have ay:=hA.f 0 (by decide)
  have aS:=hA.ty.lt;have V:=ao.set aH 0 (.string tab);have ac:=hA.tab tab;have aj:=Q.set hA.ty (by decide) (by decide) 0 (.string tab)
  clear ao Q hA;go_upto_region 8 with fail;clear a0 ay;generalize W3.setCell ⟨q,0,none⟩ (.string tab)=W4 at *;have HX:Hid (PEnd w W4 q {s with tab:=tab} (.slice Y s.slots.length I) (.slice G s.ends.length d)):=⟨ac,⟨aj.sl,aj.en⟩,V.z,V.ty,V.bel⟩;obtain⟨⟨⟨u0,r0⟩,f0⟩,⟨⟨u1,r1⟩,f1⟩,⟨⟨u2,r2⟩,f2⟩,⟨⟨u3,r3⟩,f3⟩,⟨⟨u4,r4⟩,f4⟩⟩:=V.five;obtain⟨c0,c1,c2,c3,c4⟩:=ac.st;clear V ac aj;go_wp2_with fail;refine bodyPost_ret (v:=.tuple #[pstV {s with tab:=tab} (.slice Y s.slots.length I) (.slice G s.ends.length d),.int .i64 0]) (by simp[results,Tryz.results44,go_sem,r0,r1,r2,r3,r4]) rfl ⟨⟨a,0,HK.out,ChgR.ok HM.out (HX.out.fin _ _ _ _ _).1⟩,(HX.out.fin _ _ _ _ _).2⟩
end Go.Proofs.YtdajolpoiffimabGreatDoor
