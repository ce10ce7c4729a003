import Derived.Deep.RegionHeld3
import Derived.Deep.DrawnRows
import Derived.Test.YtdajolpoiffimabGreatDoorA18
import Derived.Test.YtdajolpoiffimabGreatDoorA19

namespace Go.Proofs.YtdajolpoiffimabGreatDoor
open Go.RowKit
inductive AnsA (p:Px.Bo×ByteArray×Int) (B:Nat) (w:World):Ending→World→Prop
 | mk (w':World) (hB:PBx w' B p.1) (hg:w.grownBy w' (some B)):AnsA p B w (.returned (.tuple #[.string p.2.1,.int .i64 p.2.2])) w'
theorem AnsA.of {p:Px.Bo×ByteArray×Int}{B:Nat}{w d:World}{b:Px.Bo}{x:ByteArray}{r:Int} (h:p=(b,x,r)) (hB:PBx d B b) (e:w.grownBy d (some B)):AnsA p B w (.returned (.tuple #[.string x,.int .i64 r])) d:=by
 subst h;exact AnsA.mk d hB e
def ctB (b:Px.Bo) (t:Px.St) (n:Int) (fr said:ByteArray) (over:Bool):Px.Bo×ByteArray×Int:=
 if over=true then (if ¬(Px.doneP t n).2=0 then (b,ByteArray.empty,(Px.doneP t n).2) else Px.commitB b (Px.doneP t n).1 (fr++Bx.frame (Bx.body (chD n))) said) else Px.commitB b t fr said
theorem so (t:Px.St) (n:Int):(Px.doneP t n).2=0∨(Px.doneP t n).2=8∨(Px.doneP t n).2=9:=by
 unfold Px.doneP
 cases Px.find t.slots n with
 | none=>right;left;rfl
 | some x=>simp only;split
           ·right;right;rfl
           ·left;rfl
set_option maxRecDepth 10000 in
set_option maxHeartbeats 0 in
theorem gN (b:Px.Bo) (B:Nat) (t:Px.St) (n:Int) (fr d:ByteArray) (sl en ac ab:Value) (w:World) (aF:b.log.size≤10000) (aE:fr.size≤10000) (hB:PB w B b sl en) (Y:PAt w t ac ab):
 Calls Tryz.prog 58 #[.pointer (some ⟨B,0,none⟩),talkV t ac ab d false,.int .i64 n,.string fr] w fun e w'=>AnsA (ctB b t n fr d false) B w e w':=by
 obtain⟨O,I,rfl,ax⟩:=Y.sl.form;obtain⟨J,G,rfl,au⟩:=Y.en.form;have Q:=(dx w (.cells #[.string t.tab,.int .i64 t.clock,.int .i64 t.next,.slice O t.slots.length I,.slice J t.ends.length G,.string d,.bool false] 110)).alloc (by simp) (pstO t (.slice O t.slots.length I) (.slice J t.ends.length G))
 have hI:=PIn.new (w.alloc (.cells #[.string t.tab,.int .i64 t.clock,.int .i64 t.next,.slice O t.slots.length I,.slice J t.ends.length G,.string d,.bool false] 110)) t (.slice O t.slots.length I) (.slice J t.ends.length G);have ap:PIn ((w.alloc (.cells #[.string t.tab,.int .i64 t.clock,.int .i64 t.next,.slice O t.slots.length I,.slice J t.ends.length G,.string d,.bool false] 110)).alloc (pstO t (.slice O t.slots.length I) (.slice J t.ends.length G))) (w.heap.size+1) t (.slice O t.slots.length I) (.slice J t.ends.length G):=by simpa using hI
 have k5:((w.alloc (.cells #[.string t.tab,.int .i64 t.clock,.int .i64 t.next,.slice O t.slots.length I,.slice J t.ends.length G,.string d,.bool false] 110)).alloc (pstO t (.slice O t.slots.length I) (.slice J t.ends.length G))).cell? ⟨w.heap.size,5,none⟩=some (.string d):=cell_later (dx _ _) (by simp[go_sem])
 have k6:((w.alloc (.cells #[.string t.tab,.int .i64 t.clock,.int .i64 t.next,.slice O t.slots.length I,.slice J t.ends.length G,.string d,.bool false] 110)).alloc (pstO t (.slice O t.slots.length I) (.slice J t.ends.length G))).cell? ⟨w.heap.size,6,none⟩=some (.bool false):=cell_later (dx _ _) (by simp[go_sem])
 have az:=hB.ty.lt;have af:=hB.later Q;have ae:=Y.later Q;have Z:=dy Q (some B);clear hI hB Y Q
 go_enter Tryz.func58,Tryz.ntmps58
 go_upto_region 2 with fail;generalize (w.alloc (.cells #[.string t.tab,.int .i64 t.clock,.int .i64 t.next,.slice O t.slots.length I,.slice J t.ends.length G,.string d,.bool false] 110)).alloc (pstO t (.slice O t.slots.length I) (.slice J t.ends.length G))=W at *;have V:=Hq af;have ah:=Hq ae;have ag:=Hq Z;have aj:=Hq k5;have aq:some w.heap.size≠some B:=by intro e;cases e;omega
 obtain⟨i0,i1,i2,i3,i4⟩:=ap;clear af ae Z;go_wp2_with fail;refine (fm b B t fr _ _ _ _ _ (by omega) (by omega) V.out ah.out).mono ?_
 intro e w5 al;clear i0 i1 i2 i3 i4 k5 k6;have HM:Hid (ctB b t n fr d false=Px.commitB b t fr d):=by unfold Hid ctB;rw[if_neg (by simp)]
 have ao:=Hq V.out;have aa:=Hq ag.out
 cases al with
 | no _ h hb=>
   have U:Hid (AnsA (ctB b t n fr d false) B w (.returned (.tuple #[.string ByteArray.empty,.int .i64 13])) w5):=AnsA.of (by rw[HM.out];unfold Px.commitB;rw[if_pos h]) ⟨_,_,ao.out.later hb⟩ (dA aa.out (dy hb _))
   clear hb h;go_wp2_with fail;go_ret2;exact U.out
 | yes _ h hB hg=>
   have U:Hid (AnsA (ctB b t n fr d false) B w (.returned (.tuple #[.string d,.int .i64 0])) w5):=AnsA.of (by rw[HM.out];unfold Px.commitB;rw[if_neg h]) ⟨_,_,hB⟩ (dA aa.out hg)
   have k5:=hg.cell aj.out aq;clear hB hg h;go_wp2_with fail;go_ret2;exact U.out
set_option maxRecDepth 10000 in
set_option maxHeartbeats 0 in
theorem gk (b:Px.Bo) (B:Nat) (t:Px.St) (n:Int) (fr d:ByteArray) (sl en aL aP:Value) (w:World) (bu:b.log.size≤10000) (bx:fr.size≤10000) (hl:t.slots.length≤10000) (he:t.ends.length≤10000) (n1:0≤n) (n2:n≤100000) (hB:PB w B b sl en) (ht:PAt w t aL aP):
 Calls Tryz.prog 58 #[.pointer (some ⟨B,0,none⟩),talkV t aL aP d true,.int .i64 n,.string fr] w fun e w'=>AnsA (ctB b t n fr d true) B w e w':=by
 obtain⟨ad,V,rfl,bg⟩:=ht.sl.form;obtain⟨U,J,rfl,a7⟩:=ht.en.form;have aj:=(dx w (.cells #[.string t.tab,.int .i64 t.clock,.int .i64 t.next,.slice ad t.slots.length V,.slice U t.ends.length J,.string d,.bool true] 110)).alloc (by simp) (pstO t (.slice ad t.slots.length V) (.slice U t.ends.length J))
 have hI:=PW.new (w.alloc (.cells #[.string t.tab,.int .i64 t.clock,.int .i64 t.next,.slice ad t.slots.length V,.slice U t.ends.length J,.string d,.bool true] 110)) t (.slice ad t.slots.length V) (.slice U t.ends.length J);have ar:PW ((w.alloc (.cells #[.string t.tab,.int .i64 t.clock,.int .i64 t.next,.slice ad t.slots.length V,.slice U t.ends.length J,.string d,.bool true] 110)).alloc (pstO t (.slice ad t.slots.length V) (.slice U t.ends.length J))) (w.heap.size+1) t (.slice ad t.slots.length V) (.slice U t.ends.length J):=by simpa using hI
 have k5:((w.alloc (.cells #[.string t.tab,.int .i64 t.clock,.int .i64 t.next,.slice ad t.slots.length V,.slice U t.ends.length J,.string d,.bool true] 110)).alloc (pstO t (.slice ad t.slots.length V) (.slice U t.ends.length J))).cell? ⟨w.heap.size,5,none⟩=some (.string d):=cell_later (dx _ _) (by simp[go_sem])
 have k6:((w.alloc (.cells #[.string t.tab,.int .i64 t.clock,.int .i64 t.next,.slice ad t.slots.length V,.slice U t.ends.length J,.string d,.bool true] 110)).alloc (pstO t (.slice ad t.slots.length V) (.slice U t.ends.length J))).cell? ⟨w.heap.size,6,none⟩=some (.bool true):=cell_later (dx _ _) (by simp[go_sem])
 have ba:=hB.ty.lt;have aW:=Hq hB;have aI:=hB.later aj;have aM:=ht.later aj;clear hI hB ht
 go_enter Tryz.func58,Tryz.ntmps58
 go_upto_region 2 with fail;generalize (w.alloc (.cells #[.string t.tab,.int .i64 t.clock,.int .i64 t.next,.slice ad t.slots.length V,.slice U t.ends.length J,.string d,.bool true] 110)).alloc (pstO t (.slice ad t.slots.length V) (.slice U t.ends.length J))=W at *;have aB:=Hq aI;have aq:=Hq aM;have aO:=Hq ar;have ah:=Hq aj;have ak:=Hq k5;have a2:some w.heap.size≠some B:=by intro e;cases e;omega
 obtain⟨i0,i1,i2,i3,i4⟩:=ar.st;clear aI aM ar aj;go_wp2_with fail;refine (gR t n _ _ _ hl he aq.out).mono ?_;rintro e w2 ⟨⟨bw,bA,rfl,aa⟩,ag⟩;obtain⟨O,I,a4,_⟩:=aa.sl.form;obtain⟨Q,G,aV,_⟩:=aa.en.form;subst a4 aV;clear i0 i1 i2 i3 i4 k5 k6;have ap:=aB.out.later ag;have ax:=aO.out.later ag;have Z:=ah.out.trans (ag.mono ah.out.size);have ay:=cell_later ag ak.out;clear ag aB aO ah ak aq
 by_cases hd:(Px.doneP t n).2=0
 rotate_left
 ·have HM:Hid (ctB b t n fr d true=(b,ByteArray.empty,(Px.doneP t n).2)):=by unfold Hid ctB;rw[if_pos rfl,if_pos hd]
  have bs:((Px.doneP t n).2 !=0)=true:=by simpa using hd
  have bt:=so t n;have al:Hid (∀o,PB (w2.alloc o) B b sl en):=fun o=>ap.later (dx w2 o)
  have ai:Hid (∀o,w.grownBy (w2.alloc o) (some B)):=fun o=>dy (Z.alloc Z.size o) _
  clear hd ap ax Z ay aa;go_wp2_with fail;go_ret2;exact AnsA.of HM.out ⟨_,_,al.out _⟩ (ai.out _)
 ·have HD:Hid (Px.doneP t n=(Px.ended t n Bx.hD,0)):=by
   unfold Hid;unfold Px.doneP at hd ⊢
   cases q:Px.find t.slots n with
   | none=>rw[q] at hd;cases hd
   | some x=>
     rw[q] at hd;simp only at hd ⊢
     by_cases s:x.step≤0
     ·rw[if_pos s] at hd;cases hd
     ·rw[if_neg s]
  have HM:Hid (ctB b t n fr d true=Px.commitB b (Px.ended t n Bx.hD) (fr++Bx.frame (Bx.body (chD n))) d):=by
   unfold Hid ctB;rw[if_pos rfl,if_neg (by rw[hd];simp),HD.out]
  rw[HD.out] at aa ⊢;clear hd HD;generalize Px.ended t n Bx.hD=u at *;have Y:=ax.later (dx w2 (pstO u (.slice O u.slots.length I) (.slice Q u.ends.length G)));have aX:=PIn.new w2 u (.slice O u.slots.length I) (.slice Q u.ends.length G);have aN:=aa.later (dx w2 (pstO u (.slice O u.slots.length I) (.slice Q u.ends.length G)));have aD:=Z.alloc Z.size (pstO u (.slice O u.slots.length I) (.slice Q u.ends.length G));have aK:=cell_later (dx w2 (pstO u (.slice O u.slots.length I) (.slice Q u.ends.length G))) ay;clear ap ax aa Z ay;go_upto_region 4 with fail;generalize w2.alloc (pstO u (.slice O u.slots.length I) (.slice Q u.ends.length G))=W3 at *;generalize w2.heap.size=dq at *;have aJ:PW (((((W3.setCell ⟨w.heap.size+1,0,none⟩ (.string u.tab)).setCell ⟨w.heap.size+1,1,none⟩ (.int .i64 u.clock)).setCell ⟨w.heap.size+1,2,none⟩ (.int .i64 u.next)).setCell ⟨w.heap.size+1,3,none⟩ (.slice O u.slots.length I)).setCell ⟨w.heap.size+1,4,none⟩ (.slice Q u.ends.length G)) (w.heap.size+1) u (.slice O u.slots.length I) (.slice Q u.ends.length G):=Y.put u (.slice O u.slots.length I) (.slice Q u.ends.length G);have aR:PAt (((((W3.setCell ⟨w.heap.size+1,0,none⟩ (.string u.tab)).setCell ⟨w.heap.size+1,1,none⟩ (.int .i64 u.clock)).setCell ⟨w.heap.size+1,2,none⟩ (.int .i64 u.next)).setCell ⟨w.heap.size+1,3,none⟩ (.slice O u.slots.length I)).setCell ⟨w.heap.size+1,4,none⟩ (.slice Q u.ends.length G)) u (.slice O u.slots.length I) (.slice Q u.ends.length G):=aN.store Y.ty _ _ _ _ _;have aw:Below w.heap.size w (((((W3.setCell ⟨w.heap.size+1,0,none⟩ (.string u.tab)).setCell ⟨w.heap.size+1,1,none⟩ (.int .i64 u.clock)).setCell ⟨w.heap.size+1,2,none⟩ (.int .i64 u.next)).setCell ⟨w.heap.size+1,3,none⟩ (.slice O u.slots.length I)).setCell ⟨w.heap.size+1,4,none⟩ (.slice Q u.ends.length G)):=dF aD (by omega) _ _ _ _ _
  have aG:(((((W3.setCell ⟨w.heap.size+1,0,none⟩ (.string u.tab)).setCell ⟨w.heap.size+1,1,none⟩ (.int .i64 u.clock)).setCell ⟨w.heap.size+1,2,none⟩ (.int .i64 u.next)).setCell ⟨w.heap.size+1,3,none⟩ (.slice O u.slots.length I)).setCell ⟨w.heap.size+1,4,none⟩ (.slice Q u.ends.length G)).cell? ⟨w.heap.size,5,none⟩=some (.string d):=by simp[go_sem,aK]
  obtain⟨i0,i1,i2,i3,i4⟩:=Y.st;have g0:=Y.f 0 (by decide);have g1:=Y.f 1 (by decide);have g2:=Y.f 2 (by decide);have g3:=Y.f 3 (by decide);have g4:=Y.f 4 (by decide)
  have bv:=Y.ty.lt;obtain⟨d0,d1,d2,d3,d4⟩:=aX;clear Y aN aD aK;go_upto_region 7 with fail;clear i0 i1 i2 i3 i4 g0 g1 g2 g3 g4 d0 d1 d2 d3 d4;generalize ((((W3.setCell ⟨w.heap.size+1,0,none⟩ (.string u.tab)).setCell ⟨w.heap.size+1,1,none⟩ (.int .i64 u.clock)).setCell ⟨w.heap.size+1,2,none⟩ (.int .i64 u.next)).setCell ⟨w.heap.size+1,3,none⟩ (.slice O u.slots.length I)).setCell ⟨w.heap.size+1,4,none⟩ (.slice Q u.ends.length G)=W5 at *;have aQ:=Hq aJ;have aH:=Hq aR;have ac:=Hq aw;have am:=Hq aG;clear aJ aR aw aG;have bz:=eZ (chD n) (by show (0:Nat)≤300;omega)
  go_wp2_with fail;refine (pg n _ n1 n2).mono ?_;rintro e w6 ⟨rfl,ae⟩;have al:Hid (PB w6 B b sl en):=aW.out.later (ac.out.trans (ae.mono ac.out.size));have ai:Hid (w.grownBy w6 (some B)):=dy (ac.out.trans (ae.mono ac.out.size)) _;have aY:=Hq (aH.out.later ae);obtain⟨i0,i1,i2,i3,i4⟩:=(aQ.out.later ae).st;have ak:Hid (w6.cell? ⟨w.heap.size,5,none⟩=some (.string d)):=cell_later ae am.out;have a6:(fr++Bx.frame (Bx.body (chD n))).size≤100000:=by rw[ByteArray.size_append];omega
  have bj:¬9223372036854775807<fr.size+(Bx.frame (Bx.body (chD n))).size:=by omega
  generalize Bx.frame (Bx.body (chD n))=fd at *;clear ae aQ aH ac am;go_wp2_with fail;refine (fm b B u (fr++fd) _ _ _ _ _ (by omega) a6 al.out aY.out).mono ?_
  intro e w5 a5;clear i0 i1 i2 i3 i4
  cases a5 with
  | no _ h hb=>
    have az:Hid (AnsA (ctB b t n fr d true) B w (.returned (.tuple #[.string ByteArray.empty,.int .i64 13])) w5):=AnsA.of (by rw[HM.out];unfold Px.commitB;rw[if_pos h]) ⟨_,_,al.out.later hb⟩ (dA ai.out (dy hb _))
    clear hb h;go_wp2_with fail;go_ret2;exact az.out
  | yes _ h hB hg=>
    have az:Hid (AnsA (ctB b t n fr d true) B w (.returned (.tuple #[.string d,.int .i64 0])) w5):=AnsA.of (by rw[HM.out];unfold Px.commitB;rw[if_neg h]) ⟨_,_,hB⟩ (dA ai.out hg)
    have k5:=hg.cell ak.out a2;clear hB hg h;go_wp2_with fail;go_ret2;exact az.out
theorem ks (b:Px.Bo) (s:Px.St) (n:Int) (x fr:ByteArray) (y:Px.Sl) (d:Px.find s.slots n=some y) (e:¬y.step≤0):
 Px.talkB b s n x fr=ctB b (Px.talkT s y x) n fr (Px.talkS s y x).2 (decide (((Px.stepsL s y).length:Int)<(Px.talkS s y x).1.step)):=by
 unfold Px.talkB ctB;rw[d];simp only;rw[if_neg e]
 by_cases q:((Px.stepsL s y).length:Int)<(Px.talkS s y x).1.step
 ·rw[if_pos q,if_pos (decide_eq_true q)]
 ·rw[if_neg q,if_neg (by simp[q])]
theorem iI (l:List Px.Sl) (x:Px.Sl):(Px.repl l x).length=l.length:=by simp[Px.repl]
set_option maxRecDepth 10000 in
set_option maxHeartbeats 0 in
theorem nO (b:Px.Bo) (B:Nat) (n:Int) (x:ByteArray) (sl en:Value) (w:World) (hO:Px.Ok b.st) (aj:b.log.size≤10000) (hT:TabLH w) (hB:PB w B b sl en):
 Calls Tryz.prog 28 #[.pointer (some ⟨B,0,none⟩),.int .i64 n,.string x] w fun e w'=>AnsA (Px.feedB b n x) B w e w':=by
 obtain⟨ad,ap,rfl,aO⟩:=hB.rows.sl.form;obtain⟨ar,af,rfl,aK⟩:=hB.rows.en.form;have HB:=Hq hB;have HT:=Hq hT;have HO:=Hq hO;have hl:b.st.slots.length≤8:=hO.len;have he:b.st.ends.length≤6:=hO.st.en;have aX:=hB.ty.lt;have e2:=hB.c2;have e3:=hB.c3;have e4:=hB.c4;have e5:=hB.c5;have e6:=hB.c6;clear hB hT hO
 by_cases ak:40<x.size
 ·have V:Hid (Px.feedB b n x=(b,ByteArray.empty,1)):=if_pos ak;have av:(40:Int)<(x.size:Int):=by omega
  go_enter Tryz.func28,Tryz.ntmps28
  go_wp2_with fail;go_ret2;exact AnsA.of V.out ⟨_,_,HB.out⟩ (eF _ _)
 have ag:Hid (Px.feedB b n x=Px.talkB b b.st n x ByteArray.empty):=if_neg ak;have av:¬(40:Int)<(x.size:Int):=by omega
 go_enter Tryz.func28,Tryz.ntmps28
 go_wp2_with fail;refine (j6 b.st n x _ _ _ HO.out (by omega) HT.out HB.out.rows).mono ?_
 rintro e w1 ⟨hR,Z⟩;have Q:=HB.out.later Z;have O:=dy Z (some B);clear e2 e3 e4 e5 e6 Z
 cases hR with
 | none h=>
   have V:Hid (Px.feedB b n x=(b,ByteArray.empty,8)):=by unfold Hid;rw[ag.out];unfold Px.talkB;rw[h]
   have ah:Hid (∀o,PB (w1.alloc o) B b (.slice ad b.st.slots.length ap) (.slice ar b.st.ends.length af)):=fun o=>Q.later (dx w1 o)
   have ac:Hid (∀o,w.grownBy (w1.alloc o) (some B)):=fun o=>dA O (dy (dx w1 o) _)
   clear Q O h;go_wp2_with fail;go_ret2;exact AnsA.of V.out ⟨_,_,ah.out _⟩ (ac.out _)
 | wait y h hs=>
   have V:Hid (Px.feedB b n x=(b,ByteArray.empty,9)):=by unfold Hid;rw[ag.out];unfold Px.talkB;rw[h];simp only;rw[if_pos hs]
   have ah:Hid (∀o,PB (w1.alloc o) B b (.slice ad b.st.slots.length ap) (.slice ar b.st.ends.length af)):=fun o=>Q.later (dx w1 o)
   have ac:Hid (∀o,w.grownBy (w1.alloc o) (some B)):=fun o=>dA O (dy (dx w1 o) _)
   clear Q O h hs;go_wp2_with fail;go_ret2;exact AnsA.of V.out ⟨_,_,ah.out _⟩ (ac.out _)
 | ok y sl2 en2 said over t h hs ht h1 h2 ha=>
   have V:Hid (Px.feedB b n x=ctB b t n ByteArray.empty said over):=by unfold Hid;rw[ag.out,ks b b.st n x _ y h hs,ht,h1,h2]
   have hn:0≤n∧n≤100000:=by
    have hm:=List.mem_of_find?_eq_some h;have aW:y.num=n:=by simpa using List.find?_some h
    have:=HO.out.each hm;have:b.st.next≤10000:=HO.out.st.n2;omega
   have al:t.slots.length≤10000∧t.ends.length≤10000:=by
    rw[ht];have:(Px.talkT b.st y x).slots.length=b.st.slots.length:=iI _ _;have:(Px.talkT b.st y x).ends=b.st.ends:=rfl
    constructor
    ·omega
    ·rw[this];omega
   obtain⟨J,d,aH,_⟩:=ha.sl.form;obtain⟨I,G,az,_⟩:=ha.en.form;subst aH az;have ao:=Q.later (dx w1 (.cells #[.string t.tab,.int .i64 t.clock,.int .i64 t.next,.slice J t.slots.length d,.slice I t.ends.length G,.string said,.bool over] 110));have am:=ha.later (dx w1 (.cells #[.string t.tab,.int .i64 t.clock,.int .i64 t.next,.slice J t.slots.length d,.slice I t.ends.length G,.string said,.bool over] 110));have aq:=dA O (dy (dx w1 (.cells #[.string t.tab,.int .i64 t.clock,.int .i64 t.next,.slice J t.slots.length d,.slice I t.ends.length G,.string said,.bool over] 110)) (some B));have y0:(w1.alloc (.cells #[.string t.tab,.int .i64 t.clock,.int .i64 t.next,.slice J t.slots.length d,.slice I t.ends.length G,.string said,.bool over] 110)).cell? ⟨w1.heap.size,0,none⟩=some (.string t.tab):=by simp[go_sem]
   have y1:(w1.alloc (.cells #[.string t.tab,.int .i64 t.clock,.int .i64 t.next,.slice J t.slots.length d,.slice I t.ends.length G,.string said,.bool over] 110)).cell? ⟨w1.heap.size,1,none⟩=some (.int .i64 t.clock):=by simp[go_sem]
   have y2:(w1.alloc (.cells #[.string t.tab,.int .i64 t.clock,.int .i64 t.next,.slice J t.slots.length d,.slice I t.ends.length G,.string said,.bool over] 110)).cell? ⟨w1.heap.size,2,none⟩=some (.int .i64 t.next):=by simp[go_sem]
   have y3:(w1.alloc (.cells #[.string t.tab,.int .i64 t.clock,.int .i64 t.next,.slice J t.slots.length d,.slice I t.ends.length G,.string said,.bool over] 110)).cell? ⟨w1.heap.size,3,none⟩=some (.slice J t.slots.length d):=by simp[go_sem]
   have y4:(w1.alloc (.cells #[.string t.tab,.int .i64 t.clock,.int .i64 t.next,.slice J t.slots.length d,.slice I t.ends.length G,.string said,.bool over] 110)).cell? ⟨w1.heap.size,4,none⟩=some (.slice I t.ends.length G):=by simp[go_sem]
   have y5:(w1.alloc (.cells #[.string t.tab,.int .i64 t.clock,.int .i64 t.next,.slice J t.slots.length d,.slice I t.ends.length G,.string said,.bool over] 110)).cell? ⟨w1.heap.size,5,none⟩=some (.string said):=by simp[go_sem]
   have y6:(w1.alloc (.cells #[.string t.tab,.int .i64 t.clock,.int .i64 t.next,.slice J t.slots.length d,.slice I t.ends.length G,.string said,.bool over] 110)).cell? ⟨w1.heap.size,6,none⟩=some (.bool over):=by simp[go_sem]
   clear Q O h hs ht h1 h2 ha;go_upto_region 4 with fail;generalize w1.alloc (.cells #[.string t.tab,.int .i64 t.clock,.int .i64 t.next,.slice J t.slots.length d,.slice I t.ends.length G,.string said,.bool over] 110)=W2 at *;generalize w1.heap.size=tq at *;have aa:=Hq ao;have ae:=Hq am;have ay:=Hq aq;clear ao am aq
   have HX:Hid (∀e Y,AnsA (ctB b t n ByteArray.empty said over) B W2 e Y→∃y r,e=.returned (.tuple #[.string y,.int .i64 r])∧AnsA (Px.feedB b n x) B w (.returned (.tuple #[.string y,.int .i64 r])) Y):=by
    intro e Y hA
    cases hA with
    | mk _ hB hg=>exact⟨_,_,rfl,by rw[←V.out] at hB ⊢;exact AnsA.mk Y hB (dA ay.out hg)⟩
   have hc:=al.1;have hd:=al.2
   cases over
   ·go_wp2_with fail;refine (gN b B t n _ said _ _ _ _ W2 aj (by decide) aa.out ae.out).mono ?_
    intro e Y U;obtain⟨y',r',rfl,hF⟩:=HX.out _ _ U;have HF:=Hq hF;clear U hF y0 y1 y2 y3 y4 y5 y6;go_wp2_with fail;go_ret2;exact HF.out
   ·go_wp2_with fail;refine (gk b B t n _ said _ _ _ _ W2 aj (by decide) hc hd hn.1 hn.2 aa.out ae.out).mono ?_
    intro e Y U;obtain⟨y',r',rfl,hF⟩:=HX.out _ _ U;have HF:=Hq hF;clear U hF y0 y1 y2 y3 y4 y5 y6;go_wp2_with fail;go_ret2;exact HF.out
theorem oY {s:Px.St} (h:Px.Ok s) (n:Int) (h0:(Px.startP s n).2=0):Px.Ok (Px.startP s n).1∧(Px.startP s n).1.slots.length=s.slots.length∧0≤n∧n≤100000:=by
 rcases Px.start_abs h.dist n with ⟨e8,hf⟩|⟨i,hi,hF,hn,Q⟩
 ·omega
 rcases Q with ⟨e,q⟩|⟨e,G,I⟩|⟨e,G,I,V⟩|⟨e,G,I,V,J,U⟩
 ·omega
 ·omega
 ·omega
 have w:s.slots[i]∈s.slots:=List.getElem_mem hi
 have d:Bx.StOk (Px.abs (Px.startP s n).1):=by
  have:=Bx.about_ok h.st 83 n;rw[U] at this;exact this
 have O:=h.ex _ w;have Z:s.slots[i].heard=ByteArray.empty:=O.2.2.2.2.2 (by omega)
 obtain⟨s1,s5,sz⟩:=Px.steps_size h w;have he:=h.each w;have Y:s.next≤10000:=h.st.n2;refine⟨?_,?_,by omega,by omega⟩
 ·rw[J] at d ⊢;exact h.repl _ d ⟨h.st.c1,h.st.c2,by show (0:Int)≤1;omega,by show (1:Int)≤((Px.stepsL s s.slots[i]).length:Int);omega,by show s.slots[i].heard.size≤8;omega,fun q=>by simp[Px.beg] at q⟩
 ·rw[J];exact iI _ _
theorem p9 (s:Px.St) (n:Int):(Px.startP s n).2=0∨(Px.startP s n).2=8∨(Px.startP s n).2=9∨(Px.startP s n).2=10∨(Px.startP s n).2=11:=by
 unfold Px.startP
 cases Px.find s.slots n with
 | none=>right;left;rfl
 | some x=>simp only;repeat' split
           all_goals simp
set_option maxRecDepth 10000 in
set_option maxHeartbeats 0 in
theorem mQ (b:Px.Bo) (B:Nat) (n:Int) (sl en:Value) (w:World) (hO:Px.Ok b.st) (a2:b.log.size≤10000) (hT:TabLH w) (hB:PB w B b sl en):
 Calls Tryz.prog 25 #[.pointer (some ⟨B,0,none⟩),.int .i64 n] w fun e w'=>AnsA (Px.startB b n) B w e w':=by
 obtain⟨ad,aH,rfl,bM⟩:=hB.rows.sl.form;obtain⟨aA,ak,rfl,bG⟩:=hB.rows.en.form;have HB:=Hq hB;have HT:=Hq hT;have HO:=Hq hO;have hl:b.st.slots.length≤8:=hO.len;have he:b.st.ends.length≤6:=hO.st.en;have bS:=hB.ty.lt;have e2:=hB.c2;have e3:=hB.c3;have e4:=hB.c4;have e5:=hB.c5;have e6:=hB.c6;clear hB hT hO
 go_enter Tryz.func25,Tryz.ntmps25
 go_wp2_with fail;refine (gP b.st n _ _ _ HO.out HT.out HB.out.rows).mono ?_;rintro e w1 ⟨⟨bV,bX,rfl,ag⟩,ap⟩;have ao:=HB.out.later ap;have ar:=dy ap (some B);have aF:=HT.out.later ap;clear e2 e3 e4 e5 e6 ap;obtain⟨Y,V,bE,_⟩:=ag.sl.form;obtain⟨Z,U,bs,_⟩:=ag.en.form;subst bE bs;have bx:=p9 b.st n
 by_cases hd:(Px.startP b.st n).2=0
 rotate_left
 ·have HM:Hid (Px.startB b n=(b,ByteArray.empty,(Px.startP b.st n).2)):=by unfold Hid Px.startB;rw[if_pos hd]
  have bR:((Px.startP b.st n).2 !=0)=true:=by simpa using hd
  have ai:Hid (∀o,PB (w1.alloc o) B b (.slice ad b.st.slots.length aH) (.slice aA b.st.ends.length ak)):=fun o=>ao.later (dx w1 o)
  have ah:Hid (∀o,w.grownBy (w1.alloc o) (some B)):=fun o=>dA ar (dy (dx w1 o) _)
  clear hd ao ar ag aF;generalize (Px.startP b.st n).2=r at *;generalize (Px.startP b.st n).1=t at *;go_wp2_with fail;go_ret2;exact AnsA.of HM.out ⟨_,_,ai.out _⟩ (ah.out _)
 obtain⟨af,aM,a3,ba⟩:=oY HO.out n hd;have bA:=Hq af;have bT:(Px.startP b.st n).1.slots.length≤8:=af.len;have bY:(Px.startP b.st n).1.ends.length≤6:=af.st.en
 have aI:Hid (Px.startB b n=if b.limit<((Px.runs (Px.startP b.st n).1:Nat):Int) then (b,ByteArray.empty,12) else Px.talkB b (Px.startP b.st n).1 n ByteArray.empty (Bx.frame (Bx.body (chS n)))):=by
  unfold Hid Px.startB;rw[if_neg (by omega)]
 rw[hd];clear bx hd af aM;generalize (Px.startP b.st n).1=t at *;have am:=ao.later (dx w1 (pstO t (.slice Y t.slots.length V) (.slice Z t.ends.length U)));have aW:=dA ar (dy (dx w1 (pstO t (.slice Y t.slots.length V) (.slice Z t.ends.length U))) (some B));have a6:=ag.later (dx w1 (pstO t (.slice Y t.slots.length V) (.slice Z t.ends.length U)));have aU:=aF.later (dx w1 (pstO t (.slice Y t.slots.length V) (.slice Z t.ends.length U)));have a4:=PIn.new w1 t (.slice Y t.slots.length V) (.slice Z t.ends.length U);have bW:w1.heap.size<(w1.alloc (pstO t (.slice Y t.slots.length V) (.slice Z t.ends.length U))).heap.size:=by simp
 clear ao ar ag aF;go_upto_region 2 with fail;generalize w1.alloc (pstO t (.slice Y t.slots.length V) (.slice Z t.ends.length U))=W2 at *;generalize w1.heap.size=tq at *;have aB:=Hq am;have aK:=Hq aW;have al:=Hq a6;have aC:=Hq aU;have aw:=Hq a4;obtain⟨i0,i1,i2,i3,i4⟩:=a4;have c0:=am.c0;have bF:B<W2.heap.size:=am.ty.lt
 have bU:((Px.runs t:Nat):Int)≤100:=by
  have:Px.runs t≤t.slots.length:=by unfold Px.runs;exact List.length_filter_le _ _
  omega
 clear am aW a6 aU;go_wp2_with fail
 go_region_held3 (fun w'=>∀b o,b<W2.heap.size→w'.cell? ⟨b,o,none⟩=W2.cell? ⟨b,o,none⟩)
  ((intro b' o' h1;first |(exact aa.cell (p:=⟨b',o',none⟩) h1)|rfl))
  ((go_at_call 55;refine (ld t _ _ _ ?hl ?hs).mono ?_;(case hl=>omega);(case hs=>exact al.out.later (Below.refl _ _).drew);rintro e w4 ⟨rfl,a9⟩;have aa:Below W2.heap.size W2 w4:=(Below.refl _ _).drew.trans a9))
 rename ∀(b o:Nat),b<W2.heap.size→w4.cell? ⟨b,o,none⟩=W2.cell? ⟨b,o,none⟩=>hSold
 clear hSold;have aJ:=Hq (aB.out.later aa);have az:Hid (w.grownBy w4 (some B)):=dA aK.out (dy aa _);have bb:=Hq (al.out.later aa);have aT:=Hq (aC.out.later aa);have aX:=aw.out.later aa;clear i0 i1 i2 i3 i4 c0 bF aB aK al aC aw aa a9
 by_cases aq:b.limit<((Px.runs t:Nat):Int)
 ·have HM:Hid (Px.startB b n=(b,ByteArray.empty,12)):=by unfold Hid;rw[aI.out,if_pos aq]
  have bf:decide (b.limit<((Px.runs t:Nat):Int))=true:=decide_eq_true aq;clear aX;go_wp2_with fail;go_ret2;exact AnsA.of HM.out ⟨_,_,aJ.out⟩ az.out
 have au:Hid (Px.startB b n=Px.talkB b t n ByteArray.empty (Bx.frame (Bx.body (chS n)))):=by unfold Hid;rw[aI.out,if_neg aq]
 have bf:decide (b.limit<((Px.runs t:Nat):Int))=false:=decide_eq_false aq;clear aI;obtain⟨i0,i1,i2,i3,i4⟩:=aX;go_wp2_with fail;refine (j6 t n _ _ _ _ bA.out (by show (0:Nat)≤100;omega) aT.out bb.out).mono ?_
 rintro e d ⟨hR,aE⟩;have ac:=aJ.out.later aE;have ab:=dA az.out (dy aE (some B));clear i0 i1 i2 i3 i4 aE aJ az bb aT
 cases hR with
 | none h=>
   have HM:Hid (Px.startB b n=(b,ByteArray.empty,8)):=by unfold Hid;rw[au.out];unfold Px.talkB;rw[h]
   have ai:Hid (∀o,PB (d.alloc o) B b (.slice ad b.st.slots.length aH) (.slice aA b.st.ends.length ak)):=fun o=>ac.later (dx d o)
   have ah:Hid (∀o,w.grownBy (d.alloc o) (some B)):=fun o=>dA ab (dy (dx d o) _)
   clear ac ab h;go_wp2_with fail;go_ret2;exact AnsA.of HM.out ⟨_,_,ai.out _⟩ (ah.out _)
 | wait y h hs=>
   have HM:Hid (Px.startB b n=(b,ByteArray.empty,9)):=by unfold Hid;rw[au.out];unfold Px.talkB;rw[h];simp only;rw[if_pos hs]
   have ai:Hid (∀o,PB (d.alloc o) B b (.slice ad b.st.slots.length aH) (.slice aA b.st.ends.length ak)):=fun o=>ac.later (dx d o)
   have ah:Hid (∀o,w.grownBy (d.alloc o) (some B)):=fun o=>dA ab (dy (dx d o) _)
   clear ac ab h hs;go_wp2_with fail;go_ret2;exact AnsA.of HM.out ⟨_,_,ai.out _⟩ (ah.out _)
 | ok y sl2 en2 said over u h hs ht h1 h2 ha=>
   have HM:Hid (Px.startB b n=ctB b u n (Bx.frame (Bx.body (chS n))) said over):=by unfold Hid;rw[au.out,ks b t n _ _ y h hs,ht,h1,h2];rfl
   have a7:u.slots.length≤10000∧u.ends.length≤10000:=by
    rw[ht];have:(Px.talkT t y ByteArray.empty).slots.length=t.slots.length:=iI _ _;have e2:(Px.talkT t y ByteArray.empty).ends=t.ends:=rfl
    constructor
    ·show (Px.talkT t y ByteArray.empty).slots.length≤10000;omega
    ·show (Px.talkT t y ByteArray.empty).ends.length≤10000;rw[e2];omega
   obtain⟨O,G,bv,_⟩:=ha.sl.form;obtain⟨J,I,bB,_⟩:=ha.en.form;subst bv bB;have aZ:=ac.later (dx d (.cells #[.string u.tab,.int .i64 u.clock,.int .i64 u.next,.slice O u.slots.length G,.slice J u.ends.length I,.string said,.bool over] 110));have aY:=ha.later (dx d (.cells #[.string u.tab,.int .i64 u.clock,.int .i64 u.next,.slice O u.slots.length G,.slice J u.ends.length I,.string said,.bool over] 110));have bc:=dA ab (dy (dx d (.cells #[.string u.tab,.int .i64 u.clock,.int .i64 u.next,.slice O u.slots.length G,.slice J u.ends.length I,.string said,.bool over] 110)) (some B));have y0:(d.alloc (.cells #[.string u.tab,.int .i64 u.clock,.int .i64 u.next,.slice O u.slots.length G,.slice J u.ends.length I,.string said,.bool over] 110)).cell? ⟨d.heap.size,0,none⟩=some (.string u.tab):=by simp[go_sem]
   have y1:(d.alloc (.cells #[.string u.tab,.int .i64 u.clock,.int .i64 u.next,.slice O u.slots.length G,.slice J u.ends.length I,.string said,.bool over] 110)).cell? ⟨d.heap.size,1,none⟩=some (.int .i64 u.clock):=by simp[go_sem]
   have y2:(d.alloc (.cells #[.string u.tab,.int .i64 u.clock,.int .i64 u.next,.slice O u.slots.length G,.slice J u.ends.length I,.string said,.bool over] 110)).cell? ⟨d.heap.size,2,none⟩=some (.int .i64 u.next):=by simp[go_sem]
   have y3:(d.alloc (.cells #[.string u.tab,.int .i64 u.clock,.int .i64 u.next,.slice O u.slots.length G,.slice J u.ends.length I,.string said,.bool over] 110)).cell? ⟨d.heap.size,3,none⟩=some (.slice O u.slots.length G):=by simp[go_sem]
   have y4:(d.alloc (.cells #[.string u.tab,.int .i64 u.clock,.int .i64 u.next,.slice O u.slots.length G,.slice J u.ends.length I,.string said,.bool over] 110)).cell? ⟨d.heap.size,4,none⟩=some (.slice J u.ends.length I):=by simp[go_sem]
   have y5:(d.alloc (.cells #[.string u.tab,.int .i64 u.clock,.int .i64 u.next,.slice O u.slots.length G,.slice J u.ends.length I,.string said,.bool over] 110)).cell? ⟨d.heap.size,5,none⟩=some (.string said):=by simp[go_sem]
   have y6:(d.alloc (.cells #[.string u.tab,.int .i64 u.clock,.int .i64 u.next,.slice O u.slots.length G,.slice J u.ends.length I,.string said,.bool over] 110)).cell? ⟨d.heap.size,6,none⟩=some (.bool over):=by simp[go_sem]
   clear ac ab h hs ht h1 h2 ha;go_upto_region 7 with fail;generalize d.alloc (.cells #[.string u.tab,.int .i64 u.clock,.int .i64 u.next,.slice O u.slots.length G,.slice J u.ends.length I,.string said,.bool over] 110)=W6 at *;generalize d.heap.size=uq at *;have ay:=Hq aZ;have ax:=Hq aY;have aG:=Hq bc;clear aZ aY bc;go_wp2_with fail;refine (mY n _ a3 ba).mono ?_;rintro e w7 ⟨rfl,Q⟩;have a5:(Bx.frame (Bx.body (chS n))).size≤10000:=by have:=eZ (chS n) (by show (0:Nat)≤300;omega);omega
   have aV:=Hq (ay.out.later Q);have a8:=Hq (ax.out.later Q);have bz:Hid (w.grownBy w7 (some B)):=dA aG.out (dy Q _);replace y0:=cell_later Q y0;replace y1:=cell_later Q y1;replace y2:=cell_later Q y2;replace y3:=cell_later Q y3;replace y4:=cell_later Q y4;replace y5:=cell_later Q y5;replace y6:=cell_later Q y6;clear Q ay ax aG
   have HX:Hid (∀e w3,AnsA (ctB b u n (Bx.frame (Bx.body (chS n))) said over) B w7 e w3→∃y r,e=.returned (.tuple #[.string y,.int .i64 r])∧AnsA (Px.startB b n) B w (.returned (.tuple #[.string y,.int .i64 r])) w3):=by
    intro e w3 hA
    cases hA with
    | mk _ hB hg=>exact⟨_,_,rfl,by rw[←HM.out] at hB ⊢;exact AnsA.mk w3 hB (dA bz.out hg)⟩
   have hc:=a7.1;have hd:=a7.2;clear au;generalize Bx.frame (Bx.body (chS n))=fr at *
   cases over
   ·go_wp2_with fail;refine (gN b B u n _ said _ _ _ _ w7 a2 a5 aV.out a8.out).mono ?_;intro e w3 aj;obtain⟨y',r',rfl,hF⟩:=HX.out _ _ aj;have HF:=Hq hF;clear aj hF y0 y1 y2 y3 y4 y5 y6;go_wp2_with fail;go_ret2;exact HF.out
   ·go_wp2_with fail;refine (gk b B u n _ said _ _ _ _ w7 a2 a5 hc hd a3 ba aV.out a8.out).mono ?_;intro e w3 aj;obtain⟨y',r',rfl,hF⟩:=HX.out _ _ aj;have HF:=Hq hF;clear aj hF y0 y1 y2 y3 y4 y5 y6;go_wp2_with fail;go_ret2;exact HF.out
inductive AnsT (p:Px.Bo×Int×Int) (B:Nat) (w:World):Ending→World→Prop
 | mk (w':World) (hB:PBx w' B p.1) (hg:w.grownBy w' (some B)):AnsT p B w (.returned (.tuple #[.int .i64 p.2.1,.int .i64 p.2.2])) w'
theorem AnsT.of {p:Px.Bo×Int×Int}{B:Nat}{w d:World}{b:Px.Bo}{x r:Int} (h:p=(b,x,r)) (hB:PBx d B b) (e:w.grownBy d (some B)):AnsT p B w (.returned (.tuple #[.int .i64 x,.int .i64 r])) d:=by
 subst h;exact AnsT.mk d hB e
theorem qq (s:Px.St) (m:Int):(Px.clockP s m).2=0∨(Px.clockP s m).2=4∨(Px.clockP s m).2=6∨(Px.clockP s m).2=7:=by
 rw[Px.clock_err];repeat' split
 all_goals simp
theorem rm (s:Px.St) (n:Int):(Px.failP s n).2=0∨(Px.failP s n).2=8∨(Px.failP s n).2=9:=by
 unfold Px.failP
 cases Px.find s.slots n with
 | none=>right;left;rfl
 | some x=>simp only;repeat' split
           all_goals simp
theorem pM (l:List Int):∀(p:Px.St×ByteArray),Px.Ok p.1→Px.Ok (l.foldl Px.failStep p).1:=by
 induction l with
 | nil=>intro p h;exact h
 | cons n r d=>
   intro p h
   apply d
   unfold Px.failStep
   by_cases q:(Px.failP p.1 n).2=0
   ·rw[if_pos q];exact Px.fail_ok h n q
   ·rw[if_neg q];exact h
theorem pA (l:List Int):∀(p:Px.St×ByteArray),(l.foldl Px.failStep p).2.size≤p.2.size+400*l.length:=by
 induction l with
 | nil=>intro p;simp
 | cons n r d=>
   intro p;have h1:=d (Px.failStep p n)
   have h2:(Px.failStep p n).2.size≤p.2.size+400:=by
    unfold Px.failStep
    by_cases q:(Px.failP p.1 n).2=0
    ·rw[if_pos q];have:=eZ (chF n) (by show (0:Nat)≤300;omega);show (p.2++_).size≤_;rw[ByteArray.size_append];omega
    ·rw[if_neg q];omega
   rw[List.foldl_cons,List.length_cons];omega
theorem mO (l:List Int) (p:Px.St×ByteArray) (k:Nat) (h:k<l.length):(l.take (k+1)).foldl Px.failStep p=Px.failStep ((l.take k).foldl Px.failStep p) l[k]:=by
 rw[List.take_succ_eq_append_getElem h,List.foldl_append];rfl
theorem qt {s:Px.St} (h:Px.Ok s) {n:Int} (d:n∈Px.late s):0≤n∧n≤100000:=by
 unfold Px.late at d;obtain⟨x,e,rfl⟩:=List.mem_map.1 d;have:=h.each (List.mem_filter.1 e).1;have:s.next≤10000:=h.st.n2;omega
theorem qC (s:Px.St):(Px.late s).length≤s.slots.length:=by unfold Px.late;rw[List.length_map];exact List.length_filter_le _ _
structure TkIn (w wr:World) (q:Nat) (t:Px.St) (slt ent v:Value) (L:List Int):Prop where
 pw:PW wr q t slt ent
 at':PAt wr t slt ent
 row:TRow wr 3 v L.length (L.map (Value.int .i64))
 bel:Below w.heap.size w wr
theorem TkIn.later {w wr G:World}{q:Nat}{t:Px.St}{d e v:Value}{L:List Int} (h:TkIn w wr q t d e v L) (hb:Below wr.heap.size wr G):TkIn w G q t d e v L:=
 ⟨h.pw.later hb,h.at'.later hb,h.row.later hb,h.bel.trans (hb.mono h.bel.size)⟩
theorem TkIn.put {w wr:World}{q:Nat}{t u:Px.St}{I G e d v:Value}{L:List Int} (h:TkIn w wr q t I G v L) (J:w.heap.size≤q) (O:PAt wr u e d):
 TkIn w (((((wr.setCell ⟨q,0,none⟩ (.string u.tab)).setCell ⟨q,1,none⟩ (.int .i64 u.clock)).setCell ⟨q,2,none⟩ (.int .i64 u.next)).setCell ⟨q,3,none⟩ e).setCell ⟨q,4,none⟩ d) q u e d v L:=by
 refine⟨h.pw.put u e d,O.store h.pw.ty _ _ _ _ _,?_,dF h.bel J _ _ _ _ _⟩;have st:∀(w:World) (j:Nat) (x:Value),(Typed w q 77∧TRow w 3 v L.length (L.map (Value.int .i64)))→(Typed (w.setCell ⟨q,j,none⟩ x) q 77∧TRow (w.setCell ⟨q,j,none⟩ x) 3 v L.length (L.map (Value.int .i64))):=fun w j x h=>⟨h.1.setCell _ _ _,h.2.set h.1 (by decide) _ _⟩
 exact (st _ _ _ (st _ _ _ (st _ _ _ (st _ _ _ (st _ _ _ ⟨h.pw.ty,h.row⟩))))).2
set_option maxRecDepth 10000 in
set_option maxHeartbeats 0 in
theorem oI (b:Px.Bo) (B:Nat) (m:Int) (sl en:Value) (w:World) (hO:Px.Ok b.st) (cR:b.log.size≤10000) (hT:TabLH w) (hM:Tab w) (hB:PB w B b sl en):
 Calls Tryz.prog 22 #[.pointer (some ⟨B,0,none⟩),.int .i64 m] w fun e w'=>AnsT (Px.tickB b m) B w e w':=by
 obtain⟨ad,ck,rfl,cv⟩:=hB.rows.sl.form;obtain⟨bV,bB,rfl,cm⟩:=hB.rows.en.form;have HB:=Hq hB;have HT:=Hq hT;have bX:=Hq hM;have HO:=Hq hO;have hl:b.st.slots.length≤8:=hO.len;have he:b.st.ends.length≤6:=hO.st.en;have cV:1≤b.st.next:=hO.st.n1;have de:b.st.next≤10000:=hO.st.n2;have cU:=hB.ty.lt;have e2:=hB.c2;have e3:=hB.c3;have e4:=hB.c4;have e5:=hB.c5;have e6:=hB.c6;clear hB hT hO hM
 go_enter Tryz.func22,Tryz.ntmps22
 go_wp2_with fail;refine (gK b.st m _ _ _ HO.out HT.out bX.out HB.out.rows).mono ?_;rintro e w1 ⟨⟨aY,a7,rfl,ae⟩,av⟩;have au:=HB.out.later av;have aV:=dy av (some B);have Q:=av;clear e2 e3 e4 e5 e6 av;obtain⟨aa,O,b8,_⟩:=ae.sl.form;obtain⟨ab,J,bJ,_⟩:=ae.en.form;subst b8 bJ;have bQ:=qq b.st m
 by_cases hd:(Px.clockP b.st m).2=0
 rotate_left
 ·have HM:Hid (Px.tickB b m=(b,0,(Px.clockP b.st m).2)):=by unfold Hid Px.tickB;rw[if_pos hd]
  have cP:((Px.clockP b.st m).2 !=0)=true:=by simpa using hd
  have aC:Hid (∀o,PB (w1.alloc o) B b (.slice ad b.st.slots.length ck) (.slice bV b.st.ends.length bB)):=fun o=>au.later (dx w1 o)
  have ar:Hid (∀o,w.grownBy (w1.alloc o) (some B)):=fun o=>dA aV (dy (dx w1 o) _)
  clear hd au aV ae Q;generalize (Px.clockP b.st m).2=r at *;generalize (Px.clockP b.st m).1=t at *;go_wp2_with fail;go_ret2;exact AnsT.of HM.out ⟨_,_,aC.out _⟩ (ar.out _)
 have d:=Px.clock_ok HO.out hd;have aN:=Px.clock_st hd;have cl:=aN.1;have b4:=aN.2.1;have bg:=Hq d;have cW:(Px.clockP b.st m).1.slots.length≤8:=d.len;have df:(Px.clockP b.st m).1.ends.length≤6:=d.st.en;have cx:1≤(Px.clockP b.st m).1.next:=d.st.n1;have cL:(Px.clockP b.st m).1.next≤10000:=d.st.n2;have bC: -1≤(Px.clockP b.st m).1.clock:=d.st.c1;have bH:(Px.clockP b.st m).1.clock≤4223371679:=d.st.c2
 have bp:Hid (Px.tickB b m=if b.room<(b.log.size:Int)+((Px.late (Px.clockP b.st m).1).foldl Px.failStep ((Px.clockP b.st m).1,Bx.frame (Bx.body (chCl m)))).2.size then (b,0,13)
  else ({b with st:=((Px.late (Px.clockP b.st m).1).foldl Px.failStep ((Px.clockP b.st m).1,Bx.frame (Bx.body (chCl m)))).1,log:=b.log++((Px.late (Px.clockP b.st m).1).foldl Px.failStep ((Px.clockP b.st m).1,Bx.frame (Bx.body (chCl m)))).2},(Px.clockP b.st m).1.next-b.st.next,0)):=by
  unfold Hid Px.tickB;rw[if_neg (by omega)];rfl
 rw[hd];clear bQ hd d aN;generalize (Px.clockP b.st m).1=t at *;have aK:=au.later (dx w1 (pstO t (.slice aa t.slots.length O) (.slice ab t.ends.length J)));have aQ:=Q.alloc Q.size (pstO t (.slice aa t.slots.length O) (.slice ab t.ends.length J));have aA:=ae.later (dx w1 (pstO t (.slice aa t.slots.length O) (.slice ab t.ends.length J)));have aU:=PW.new w1 t (.slice aa t.slots.length O) (.slice ab t.ends.length J);have hq:w.heap.size≤w1.heap.size:=Q.size;clear au aV ae Q;go_upto_region 2 with fail;generalize w1.alloc (pstO t (.slice aa t.slots.length O) (.slice ab t.ends.length J))=W2 at *;generalize w1.heap.size=q at *;have ac:=Hq aQ;have a6:=Hq aA;have aI:=Hq aU;obtain⟨i0,i1,i2,i3,i4⟩:=aU.st;have c4:=aK.c4;have dd:B<W2.heap.size:=aK.ty.lt;clear aK aQ aA aU;go_wp2_with fail
 go_quiet (fail)
 clear c4 i0 i1 i2 i3 i4;go_wp2_with fail;refine (mx m _ cl b4).mono ?_;rintro e w3 ⟨rfl,aR⟩;have aw:Below W2.heap.size W2 w3:=(below_drewN (Below.refl _ _) nq).trans aR;clear aR;have ap:=Hq (ac.out.trans (aw.mono ac.out.size));have a2:=Hq (a6.out.later aw);have aP:=Hq (aI.out.later aw);obtain⟨i0,i1,i2,i3,i4⟩:=aP.out.st;clear aw ac a6 aI;have cX:(Bx.frame (Bx.body (chCl m))).size≤400:=eZ (chCl m) (by show (0:Nat)≤300;omega)
 generalize Bx.frame (Bx.body (chCl m))=fr at *;go_wp2_with fail;refine (jo t _ _ _ (by omega) bC bH a2.out).mono ?_
 rintro e w4 ⟨⟨v,rfl,aZ⟩,aE⟩;have ao:=TRow.of_own aZ;obtain⟨bn,aL,cc,_⟩:=ao.form;subst cc
 have bk:Hid (TkIn w w4 q t (.slice aa t.slots.length O) (.slice ab t.ends.length J) (.slice bn (Px.late t).length aL) (Px.late t)):=
  ⟨aP.out.later aE,a2.out.later aE,ao,ap.out.trans (aE.mono ap.out.size)⟩
 have cO:=qC t;have bO:Hid (∀n∈Px.late t,0≤n∧n≤100000):=fun n hn=>qt bg.out hn
 clear i0 i1 i2 i3 i4 aZ aE ao ap a2 aP;generalize Px.late t=L at *;go_wp2_with fail
 go_loopw [9,11] (fun f i wr=>∃(k:Nat) (aY a7:Value),k≤L.length∧i=.int .i64 k∧f=.string ((L.take k).foldl Px.failStep (t,fr)).2∧TkIn w wr q ((L.take k).foldl Px.failStep (t,fr)).1 aY a7 (.slice bn L.length aL) L) (fun _ i _=>L.length-(intOf i).toNat)
 case atStart=>exact⟨0,_,_,Nat.zero_le _,rfl,rfl,bk.out⟩
 case round=>
  clear bk;obtain⟨k,aY,a7,hk,rfl,rfl,G⟩:=hrel;have ax:=pM (L.take k) (t,fr) bg.out;have bq:=pA (L.take k) (t,fr);have bZ:(L.take k).length=k:=by simp;omega
  rw[bZ] at bq
  by_cases aq:k<L.length
  ·have V:Hid ((L.take (k+1)).foldl Px.failStep (t,fr)=Px.failStep ((L.take k).foldl Px.failStep (t,fr)) L[k]):=mO L (t,fr) k aq;obtain⟨b7,bI⟩:=bO.out L[k] (List.getElem_mem aq);obtain⟨b',bm,cy,hv,_,az⟩:=G.row.1.some' (by omega)
   cases hv
   have d0:wr.cell? ⟨b',bm+k,none⟩=some (.int .i64 L[k]):=by
    have:=az k (by simpa using aq);simpa using this
   obtain⟨aj,Z,aM,_⟩:=G.at'.sl.form;obtain⟨ah,Y,aO,_⟩:=G.at'.en.form;subst aM aO;have dh:b'<wr.heap.size:=World.block_lt_of_cell? _ _ d0;have c9:q<wr.heap.size:=G.pw.ty.lt;obtain⟨c0,c1,c2,c3,c4⟩:=G.pw.st;have aD:=Hq G;have bb:=Hq ax;have db:(0:Int)≤(k:Int):=by omega
   have cZ:(k:Int)<(L.length:Int):=by omega
   have bh:=Hq (HT.out.later G.bel);clear az G ax;generalize ((L.take k).foldl Px.failStep (t,fr))=P at *;generalize bo:L[k]=n at *;have cf:=Hq bo;clear bo;obtain⟨T,f⟩:=P;simp only at *;go_wp2_with fail
   go_cut [12,13] from 45 to 52 (fun bY ci wx=>∃g a5 aS,bY=.pointer (some ⟨g,0,none⟩)∧ci=.int .i64 (Px.failP T n).2∧PIn wx g (Px.failP T n).1 a5 aS∧PAt wx (Px.failP T n).1 a5 aS∧Below wr.heap.size wr wx)
   case first=>
    have b9:Hid (PAt wr.drew T (.slice aj T.slots.length Z) (.slice ah T.ends.length Y)):=aD.out.at'.later (Below.refl _ _).drew;have aA:Hid (PAt (wr.alloc pzO).drew T (.slice aj T.slots.length Z) (.slice ah T.ends.length Y)):=(aD.out.at'.later (dx _ _)).later (Below.refl _ _).drew;have cj:Hid (TabLH wr.drew):=bh.out.later (Below.refl _ _).drew;have bK:Hid (TabLH (wr.alloc pzO).drew):=(bh.out.later (dx _ _)).later (Below.refl _ _).drew
    go_region_with (first
     | (go_at_call 50;refine (fS T n (.slice aj T.slots.length Z) (.slice ah T.ends.length Y) wr.drew bb.out cj.out b9.out).mono ?_;rintro e w2 ⟨⟨bS,cg,rfl,I⟩,ag⟩;obtain⟨aX,ak,rfl,bf⟩:=I.sl.form;obtain⟨aT,am,rfl,ba⟩:=I.en.form;have bR:Below wr.heap.size wr w2:=(Below.refl _ _).drew.trans ag)
     | (go_at_call 50;refine (fS T n (.slice aj T.slots.length Z) (.slice ah T.ends.length Y) (wr.alloc pzO).drew bb.out bK.out aA.out).mono ?_;rintro e w2 ⟨⟨bS,cg,rfl,I⟩,ag⟩;obtain⟨aX,ak,rfl,bf⟩:=I.sl.form;obtain⟨aT,am,rfl,ba⟩:=I.en.form;have ca:Below wr.heap.size wr w2:=(dx _ _).drew.trans (ag.mono (by simp));have hZ:=((PW.new wr Px.st0 (.slice none 0 0) (.slice none 0 0)).later (Below.refl _ _).drew).later ag;obtain⟨⟨z0,z1,z2,z3,z4⟩,zf,zt⟩:=hZ;have HZ:Hid (PW w2 wr.heap.size Px.st0 (.slice none 0 0) (.slice none 0 0)):=((PW.new wr Px.st0 (.slice none 0 0) (.slice none 0 0)).later (Below.refl _ _).drew).later ag;have cN:=zf 0 (by decide);have dc:=zf 1 (by decide);have cQ:=zf 2 (by decide);have cS:=zf 3 (by decide);have cY:=zf 4 (by decide)))
    all_goals (go_wp2_with fail;go_meet)
    all_goals (first |(have bc:=bR;exact⟨_,_,_,rfl,rfl,PIn.new w2 (Px.failP T n).1 _ _,I.later (dx _ _),bc.alloc bc.size _⟩)|exact⟨_,_,_,rfl,rfl,(HZ.out.put (Px.failP T n).1 _ _).st,I.store HZ.out.ty _ _ _ _ _,dF ca (Nat.le_refl _) _ _ _ _ _⟩)
   case rest=>
    obtain⟨g,a5,aS,rfl,rfl,br,af,a3⟩:=hcut;obtain⟨aX,ak,rfl,bf⟩:=af.sl.form;obtain⟨aT,am,rfl,ba⟩:=af.en.form;have ai:=aD.out.later a3;clear c0 c1 c2 c3 c4 aD;have bN:=rm T n;have aB:Hid (Px.failStep (T,f) n=if (Px.failP T n).2=0 then ((Px.failP T n).1,f++Bx.frame (Bx.body (chF n))) else (T,f)):=rfl
    by_cases hF:(Px.failP T n).2=0
    ·have HN:Hid ((L.take (k+1)).foldl Px.failStep (t,fr)=((Px.failP T n).1,f++Bx.frame (Bx.body (chF n)))):=by unfold Hid;rw[V.out,aB.out,if_pos hF]
     have ay:=ai.put hq af;obtain⟨cb,bM,b6,bL,bU⟩:=br;obtain⟨⟨e0,e1,e2,e3,e4⟩,fq,_⟩:=ai.pw;have g0:=fq 0 (by decide);have g1:=fq 1 (by decide);have g2:=fq 2 (by decide);have g3:=fq 3 (by decide);have g4:=fq 4 (by decide)
     rw[hF];have ct:(Bx.frame (Bx.body (chF n))).size≤400:=eZ (chF n) (by show (0:Nat)≤300;omega)
     clear aB V hF bN ai af a3 fq d0;generalize (Px.failP T n).1=U at *;go_upto_region 13 with fail;clear cb bM b6 bL bU e0 e1 e2 e3 e4 g0 g1 g2 g3 g4;have al:=Hq ay;clear ay;generalize ((((wc.setCell ⟨q,0,none⟩ (.string U.tab)).setCell ⟨q,1,none⟩ (.int .i64 U.clock)).setCell ⟨q,2,none⟩ (.int .i64 U.next)).setCell ⟨q,3,none⟩ (.slice aX U.slots.length ak)).setCell ⟨q,4,none⟩ (.slice aT U.ends.length am)=W6 at *
     have d0:W6.cell? ⟨b',bm+k,none⟩=some (.int .i64 n):=by
      obtain⟨b2,cz,cn,hv,_,az⟩:=al.out.row.1.some' (by omega)
      cases hv
      have:=az k (by simpa using aq);simpa [cf.out] using this
     go_wp2_with fail;refine (oX n _ b7 bI).mono ?_;rintro e w7 ⟨rfl,bj⟩;have ce:=Hq (al.out.later bj);clear al bj d0;generalize Bx.frame (Bx.body (chF n))=fn at *;have da:¬9223372036854775807<f.size+fn.size:=by omega
     go_wp2_with fail;go_roundw
     case rel=>exact⟨k+1,_,_,by omega,by go_num,by rw[HN.out],by rw[HN.out];exact ce.out⟩
     case measure=>simp[intOf];omega
    ·have HN:Hid ((L.take (k+1)).foldl Px.failStep (t,fr)=(T,f)):=by unfold Hid;rw[V.out,aB.out,if_neg hF]
     have cT:((Px.failP T n).2==0)=false:=by simpa using hF
     have ay:=Hq ai;clear ai br af a3 aB V d0 hF;generalize (Px.failP T n).2=r at *;generalize (Px.failP T n).1=U at *;go_wp2_with fail;go_roundw
     case rel=>exact⟨k+1,_,_,by omega,by go_num,by rw[HN.out],by rw[HN.out];exact ay.out⟩
     case measure=>simp[intOf];omega
  ·obtain rfl:k=L.length:=by omega
   have V:Hid (L.take L.length=L):=List.take_length;rw[V.out] at G bq ax ⊢;obtain⟨aj,Z,aM,_⟩:=G.at'.sl.form;obtain⟨ah,Y,aO,_⟩:=G.at'.en.form;subst aM aO;obtain⟨c0,c1,c2,c3,c4⟩:=G.pw.st;have aC:=Hq (HB.out.later G.bel);have ar:Hid (w.grownBy wr (some B)):=dy G.bel _;have HA:Hid (PAt wr (L.foldl Px.failStep (t,fr)).1 _ _):=G.at';clear G ax V;generalize L.foldl Px.failStep (t,fr)=P at *;obtain⟨T,f⟩:=P;simp only at *;go_wp2_with fail;refine (fm b B T f _ _ _ _ _ (by omega) (by omega) aC.out HA.out).mono ?_
   intro e w5 cd;clear c0 c1 c2 c3 c4
   cases cd with
   | no _ h hb=>
     have a4:Hid (AnsT (Px.tickB b m) B w (.returned (.tuple #[.int .i64 0,.int .i64 13])) w5):=AnsT.of (by rw[bp.out,if_pos h]) ⟨_,_,aC.out.later hb⟩ (dA ar.out (dy hb _))
     clear hb h;go_wp2_with fail;go_ret2;exact a4.out
   | yes _ h hB hg=>
     have a4:Hid (AnsT (Px.tickB b m) B w (.returned (.tuple #[.int .i64 (t.next-b.st.next),.int .i64 0])) w5):=AnsT.of (by rw[bp.out,if_neg h]) ⟨_,_,hB⟩ (dA ar.out hg)
     clear hB hg h;go_wp2_with fail;go_ret2;exact a4.out
theorem oT (b:Px.Bo) (B:Nat) (m:Int) (w:World) (O:Px.Ok b.st) (G:b.log.size≤10000) (J:TabLH w) (I:Tab w) (hB:∃sl en,PB w B b sl en):
 Calls Tryz.prog 22 #[.pointer (some ⟨B,0,none⟩),.int .i64 m] w fun e d=>e=.returned (.tuple #[.int .i64 (Px.tickB b m).2.1,.int .i64 (Px.tickB b m).2.2])∧(∃sl en,PB d B (Px.tickB b m).1 sl en)∧w.grownBy d (some B):=by
 obtain⟨sl,en,hB⟩:=hB;refine (oI b B m sl en w O G J I hB).mono fun e d h=>?_
 cases h with
 | mk _ hB hg=>exact⟨rfl,hB,hg⟩
theorem my (b:Px.Bo) (B:Nat) (n:Int) (w:World) (I:Px.Ok b.st) (G:b.log.size≤10000) (J:TabLH w) (hB:∃sl en,PB w B b sl en):
 Calls Tryz.prog 25 #[.pointer (some ⟨B,0,none⟩),.int .i64 n] w fun e d=>e=.returned (.tuple #[.string (Px.startB b n).2.1,.int .i64 (Px.startB b n).2.2])∧(∃sl en,PB d B (Px.startB b n).1 sl en)∧w.grownBy d (some B):=by
 obtain⟨sl,en,hB⟩:=hB;refine (mQ b B n sl en w I G J hB).mono fun e d h=>?_
 cases h with
 | mk _ hB hg=>exact⟨rfl,hB,hg⟩
theorem po (b:Px.Bo) (B:Nat) (n:Int) (x:ByteArray) (w:World) (I:Px.Ok b.st) (G:b.log.size≤10000) (J:TabLH w) (hB:∃sl en,PB w B b sl en):
 Calls Tryz.prog 28 #[.pointer (some ⟨B,0,none⟩),.int .i64 n,.string x] w fun e d=>e=.returned (.tuple #[.string (Px.feedB b n x).2.1,.int .i64 (Px.feedB b n x).2.2])∧(∃sl en,PB d B (Px.feedB b n x).1 sl en)∧w.grownBy d (some B):=by
 obtain⟨sl,en,hB⟩:=hB;refine (nO b B n x sl en w I G J hB).mono fun e d h=>?_
 cases h with
 | mk _ hB hg=>exact⟨rfl,hB,hg⟩
theorem np (b:Px.Bo) (B:Nat) (tab:ByteArray) (w:World) (Q:Px.Ok b.st) (I:b.log.size≤10000) (O:tab.size≤maxLen) (J:TabLH w) (hB:∃sl en,PB w B b sl en):
 Calls Tryz.prog 21 #[.pointer (some ⟨B,0,none⟩),.string tab] w fun e G=>∃d a r,e=.returned (.tuple #[.int .i64 a,.int .i64 r])∧Px.LoadB b tab d a r∧(∃sl en,PB G B d sl en)∧w.grownBy G (some B):=by
 obtain⟨sl,en,hB⟩:=hB;refine (o6 b B tab sl en w Q I O J hB).mono fun e G h=>?_
 cases h with
 | mk _ d a r hl hB hg=>exact⟨d,a,r,rfl,hl,hB,hg⟩
end Go.Proofs.YtdajolpoiffimabGreatDoor
