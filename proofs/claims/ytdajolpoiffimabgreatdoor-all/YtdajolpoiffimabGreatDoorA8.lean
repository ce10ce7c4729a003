import Derived.Deep.RegionHeld3
import Derived.WalkKit
import Derived.WalkSpells
import Derived.WalkLawsBesides
import Derived.Laws.BitsAllLaws
import Derived.Deep.RegionWith
import Derived.Deep.DrawnRows
import Derived.Laws.BytesArg
import Derived.Test.YtdajolpoiffimabGreatDoorA3
import Derived.Test.YtdajolpoiffimabGreatDoorA7

namespace Go.Proofs.YtdajolpoiffimabGreatDoor
open Go.RowKit
theorem fh {w:World}{q b o:Nat} (h:b≠q) (I d e G J:Value):(((((w.setCell ⟨q,0,none⟩ I).setCell ⟨q,1,none⟩ d).setCell ⟨q,2,none⟩ e).setCell ⟨q,3,none⟩ G).setCell ⟨q,4,none⟩ J).cell? ⟨b,o,none⟩=w.cell? ⟨b,o,none⟩:=by
 rw[World.cell?_setCell_other _ _ _ _ (by simp),World.cell?_setCell_other _ _ _ _ (by simp),World.cell?_setCell_other _ _ _ _ (by simp),World.cell?_setCell_other _ _ _ _ (by simp),World.cell?_setCell_other _ _ _ _ (by simp)]
theorem dE {n q:Nat}{w e:World} (h:Below n w e) (d:n≤q) (O G I J Q:Value):Below n w (((((e.setCell ⟨q,0,none⟩ O).setCell ⟨q,1,none⟩ G).setCell ⟨q,2,none⟩ I).setCell ⟨q,3,none⟩ J).setCell ⟨q,4,none⟩ Q):=
 ((((h.setCell d _).setCell d _).setCell d _).setCell d _).setCell d _
theorem sL {w:World}{q:Nat}{c a:Option Value} (h1:w.cell? ⟨q,1,none⟩=c) (h2:w.cell? ⟨q+2,3,none⟩=a) (u:Value):(w.setCell ⟨q+1+1,4,none⟩ u).drew.cell? ⟨q,1,none⟩=c∧(w.setCell ⟨q+1+1,4,none⟩ u).drew.cell? ⟨q+2,3,none⟩=a:=by
 refine⟨?_,?_⟩
 ·show (w.setCell ⟨q+1+1,4,none⟩ u).cell? ⟨q,1,none⟩=c
  rw[World.cell?_setCell_other _ _ _ _ (by simp)];exact h1
 ·show (w.setCell ⟨q+1+1,4,none⟩ u).cell? ⟨q+2,3,none⟩=a
  rw[World.cell?_setCell_other _ _ _ _ (by simp)];exact h2
structure FIn (w W:World) (s:Bx.St) (sl en:Value) (x:Bx.Sl):Prop where
 st:StIn W w.heap.size s sl en
 rs:StW W (w.heap.size+1) stZ nilV nilV
 x:SlIn W (w.heap.size+2) x
 fx:∀j:Nat,j<6→W.frozen? ⟨w.heap.size+2,j,none⟩=false
 bel:Below w.heap.size w W
 lt:w.heap.size+2<W.heap.size
theorem FIn.later {w W W':World}{s:Bx.St}{sl en:Value}{x:Bx.Sl} (h:FIn w W s sl en x) (hb:Below W.heap.size W W'):FIn w W' s sl en x:=
 ⟨h.st.later hb,h.rs.later hb,h.x.later hb,fun j d=>(hb.frozen (p:=⟨w.heap.size+2,j,none⟩) h.lt).trans (h.fx j d),h.bel.trans (hb.mono h.bel.size),Nat.lt_of_lt_of_le h.lt hb.size⟩
theorem FIn.new (w:World) (s:Bx.St) (sl en:Value) (x:Bx.Sl):FIn w (((w.alloc (stO s sl en)).alloc (stO stZ nilV nilV)).alloc (slO x)) s sl en x:=by
 have b1:=dx (w.alloc (stO s sl en)) (stO stZ nilV nilV);have d:=dx ((w.alloc (stO s sl en)).alloc (stO stZ nilV nilV)) (slO x);refine⟨((StIn.new w s sl en).later b1).later d,?_,?_,fun j _=>?_,?_,by simp⟩
 ·have:=(StW.new (w.alloc (stO s sl en)) stZ nilV nilV).later d
  simpa using this
 ·have:=SlIn.new ((w.alloc (stO s sl en)).alloc (stO stZ nilV nilV)) x
  simpa using this
 ·simp[go_sem]
 ·exact ((dx w _).alloc (by simp) _).alloc (by simp;omega) _
theorem FIn.upd {w W:World}{s:Bx.St}{sl en:Value}{x:Bx.Sl} (h:FIn w W s sl en x) (f a:Int) (r:Bool):
 FIn w (((W.setCell ⟨w.heap.size+1+1,4,none⟩ (.int .i64 f)).setCell ⟨w.heap.size+1+1,3,none⟩ (.int .i64 a)).setCell ⟨w.heap.size+1+1,5,none⟩ (.bool r)).drew s sl en {x with frm:=f,att:=a,runs:=r}:=by
 obtain⟨⟨I,d1,d2,O,J⟩,⟨⟨r0,r1,r2,U,r4⟩,Y,ty⟩,⟨x0,Q,x2,Z,x4,V⟩,fx,d,G⟩:=h;refine⟨⟨?_,?_,?_,?_,?_⟩,⟨⟨?_,?_,?_,?_,?_⟩,fun j e=>?_,?_⟩,⟨?_,?_,?_,?_,?_,?_⟩,fun j e=>?_,?_,?_⟩
 case refine_11=>simp[go_sem,Y j e]
 case refine_12=>exact (((ty.setCell _ _ _).setCell _ _ _).setCell _ _ _).later (Below.refl _ _).drew
 case refine_19=>simp[go_sem,fx j e]
 case refine_20=>exact (((d.setCell (by simp;omega) _).setCell (by simp;omega) _).setCell (by simp;omega) _).drew
 case refine_21=>simpa using G
 all_goals simp[go_sem,I,d1,d2,O,J,r0,r1,r2,U,r4,x0,Q,x2,Z,x4,V]
set_option maxRecDepth 10000 in
set_option maxHeartbeats 0 in
theorem mw (s:Bx.St) (i j:Nat) (sl en:Value) (w:World) (hT:ChkR s.tab 0 0) (hl:s.slots.length≤10000) (hE:s.ends.length≤10000) (hi:i<s.slots.length) (aE:(Bx.slAt s i).line=(j:Int)+1) (hj:j<tn s.tab) (c1: -1≤s.clock) (c2:s.clock≤4223371679) (bx:0≤(Bx.slAt s i).att) (bw:(Bx.slAt s i).att≤1000) (hS:StAt w s sl en):
 Calls Tryz.prog 217 #[stV s sl en,.int .i64 i] w fun e w'=>(∃aJ aH,e=.returned (stV (Bx.failed s i) aJ aH)∧StAt w' (Bx.failed s i) aJ aH)∧Below w.heap.size w w':=by
 obtain⟨ad,Y,rfl,bh⟩:=hS.sl.form;obtain⟨Q,J,rfl,bf⟩:=hS.en.form;have HS:=Hq hS;clear hS;obtain⟨aW,_,ac⟩:=hT.lines;have bc:Hid (LineP (tl s.tab j)):=ac _ hj;have a7:(tl s.tab j).size≤300:=fG aW _ (by have:=eQ s.tab;omega)
 have HT:=Hq hT;have h4:=iS hT
 have ar:Hid (Bx.failed s i=if (Bx.slAt s i).att=ob (tl s.tab j) 2-48 then Bx.with' s (Bx.withoutL s.slots i) (Bx.slAt s i).num Bx.hA else Bx.with' s (Bx.putL s.slots i {Bx.slAt s i with frm:=s.clock+Bx.delay (Bx.slAt s i).att,att:=(Bx.slAt s i).att+1,runs:=false}) 0 ByteArray.empty):=by
  unfold Hid Bx.failed Bx.opt;rw[aE,show ((j:Int)+1-1).toNat=j by omega]
 have a4:=Hq aE;clear ac hT aE;have b1:(0:Int)≤(i:Int):=by omega
 have b2:(i:Int)<(s.slots.length:Int):=by omega
 have b3:(j:Int)<(tn s.tab:Int):=by omega
 obtain⟨b,U,bk,hv,_,hc⟩:=HS.out.sl.1.some' (by omega)
 cases hv
 have bv:b<w.heap.size:=World.block_lt_of_cell? _ _ (dT hc i hi).1;obtain⟨x0,x1,x2,x3,x4,x5⟩:=dT hc i hi;rw[slAt_eq s i hi] at x0 x1 x2 x3 x4 x5;have aK:Hid (FIn w _ s (.slice (some ⟨b,U,none⟩) s.slots.length Y) (.slice Q s.ends.length J) (Bx.slAt s i)):=FIn.new w s _ _ (Bx.slAt s i);clear hc
 go_enter Tryz.func217,Tryz.ntmps217
 go_wp2_with fail;clear x0 x1 x2 x3 x4 x5;generalize ((w.alloc (stO s (.slice (some ⟨b,U,none⟩) s.slots.length Y) (.slice Q s.ends.length J))).alloc (stO stZ nilV nilV)).alloc (slO (Bx.slAt s i))=W at *;have HW:=aK.out;refine (eU s _ _ _ HT.out (HS.out.later HW.bel)).mono ?_;rintro e w1 ⟨⟨bl,bj,rfl,hL⟩,aI⟩;have aC:Hid (FIn w w1 s (.slice (some ⟨b,U,none⟩) s.slots.length Y) (.slice Q s.ends.length J) (Bx.slAt s i)):=HW.later aI;have cl:w1.cell? ⟨bl,j,none⟩=some (.string (tl s.tab j)):=hL _ hj;clear aK HW aI hL;generalize Bx.slAt s i=x at *;have x1:w1.cell? ⟨w.heap.size+2,1,none⟩=some (.int .i64 ((j:Int)+1)):=by rw[←a4.out];exact aC.out.x.c1
 go_wp2_with fail;refine (ew (tl s.tab j) _ a7 bc.out).mono ?_;rintro e w2 ⟨rfl,aL⟩;have ai:=Hq (aC.out.later aL);have aA:=ai.out.lt;have aM:w.heap.size<w2.heap.size:=by omega
 have au:w.heap.size+1<w2.heap.size:=by omega
 have bn:w.heap.size≠w.heap.size+1:=by omega
 have bq:w.heap.size+2≠w.heap.size+1:=by omega
 clear x1 cl aC aL
 cases he:(x.att==ob (tl s.tab j) 2-48)
 ·have n1:¬x.att=ob (tl s.tab j) 2-48:=by simpa using he
  rw[if_neg n1] at ar;clear n1;obtain⟨⟨d0,d1,d2,d3,d4⟩,_,⟨x0,x1,x2,x3,x4,x5⟩,fx,d,_⟩:=ai.out;have g3:=fx 3 (by decide);have g4:=fx 4 (by decide);have g5:=fx 5 (by decide)
  clear fx d;have bu:0≤Bx.delay x.att∧Bx.delay x.att≤10:=by unfold Bx.delay;split<;>(try split)<;>(try split)<;>omega
  have q1:IntKind.i64.wrap (s.clock+Bx.delay x.att)=s.clock+Bx.delay x.att:=by rw[IntKind.wrap_i64];omega
  have q2:IntKind.i64.wrap (x.att+1)=x.att+1:=by rw[IntKind.wrap_i64];omega
  go_wp2_with fail
  go_region_held3 (fun w'=>w'.cell? ⟨w.heap.size,1,none⟩=some (.int .i64 s.clock)∧w'.cell? ⟨w.heap.size+2,3,none⟩=some (.int .i64 x.att)) ((first |(exact sL d1 x3 _)|go_keep))
   (first
    | (go_at_call 224;refine (mH x.att _).mono ?_;rintro e w3 ⟨rfl,rfl⟩))
  have aN:=ai.out.upd (s.clock+Bx.delay x.att) (x.att+1) false;go_wp2_with fail;clear d0 d1 d2 d3 d4 x0 x1 x2 x3 x4 x5 g3 g4 g5;generalize (((w2.setCell ⟨w.heap.size+1+1,4,none⟩ (.int .i64 (s.clock+Bx.delay x.att))).setCell ⟨w.heap.size+1+1,3,none⟩ (.int .i64 (x.att+1))).setCell ⟨w.heap.size+1+1,5,none⟩ (.bool false)).drew=W3 at *;generalize ({x with frm:=s.clock+Bx.delay x.att,att:=x.att+1,runs:=false}:Bx.Sl)=y at *;clear aA aM au ai;have aA:=aN.lt;have aM:w.heap.size<W3.heap.size:=by omega
  have au:w.heap.size+1<W3.heap.size:=by omega
  have bz:w.heap.size+1+1<W3.heap.size:=by omega
  obtain⟨⟨d0,d1,d2,d3,d4⟩,⟨⟨r0,r1,r2,r3,r4⟩,f,ty⟩,⟨x0,x1,x2,x3,x4,x5⟩,_,d,_⟩:=aN;have f0:=f 0 (by decide);have f1:=f 1 (by decide);have f2:=f 2 (by decide);have f3:=f 3 (by decide);have f4:=f 4 (by decide)
  have ae:=Hq d;have aB:=Hq ty;have ah:=Hq (HS.out.later d);clear f d ty;go_wp2_with fail
  go_region_held3 (fun w'=>∀b o,b<W3.heap.size→b≠w.heap.size+1→w'.cell? ⟨b,o,none⟩=W3.cell? ⟨b,o,none⟩)
   ((intro b' o' h1 h2;first |(rw[fh h2];exact G.cell (p:=⟨b',o',none⟩) h1)|(exact G.cell (p:=⟨b',o',none⟩) h1)|(exact O.cell (p:=⟨b',o',none⟩) h1)|rfl))
   (first
    | (go_at_call 173;refine (jm s i y (.slice (some ⟨b,U,none⟩) s.slots.length Y) (.slice Q s.ends.length J) _ hl ?hs).mono ?_;(case hs=>exact ah.out.later (Below.refl _ _).drew);rintro e w3 ⟨⟨v,rfl,ao⟩,am⟩;have O:Below W3.heap.size W3 w3:=(Below.refl _ _).drew.trans am)
    | (go_at_call 215;refine (e9 s (Bx.putL s.slots i y) _ 0 _ (.slice (some ⟨b,U,none⟩) s.slots.length Y) (.slice Q s.ends.length J) w3 hE ?hL ?hs).mono ?_;(case hL=>exact TRow.of_own ao);(case hs=>exact ah.out.later O);rintro e w4 ⟨⟨a8,rfl,I⟩,al⟩;have G:Below W3.heap.size W3 w4:=O.trans (al.mono O.size);obtain⟨aD,a6⟩:=dU G;obtain⟨af,Z,rfl,aQ⟩:=I.sl.form;obtain⟨ag,V,rfl,aU⟩:=I.en.form))
  go_wp2_with fail;have H4:Hid (StAt _ (Bx.with' s (Bx.putL s.slots i y) 0 {data:= #[]}) _ _):=I.store (aB.out.later G) (.string s.tab) (.int .i64 s.clock) (.int .i64 s.next) (.slice af (Bx.with' s (Bx.putL s.slots i y) 0 {data:= #[]}).slots.length Z) (.slice ag (Bx.with' s (Bx.putL s.slots i y) 0 {data:= #[]}).ends.length V);have B4:=Hq (ae.out.trans (G.mono ae.out.size));refine bodyPost_ret (v:=stV (Bx.with' s (Bx.putL s.slots i y) 0 {data:= #[]}) (.slice af (Bx.with' s (Bx.putL s.slots i y) 0 {data:= #[]}).slots.length Z) (.slice ag (Bx.with' s (Bx.putL s.slots i y) 0 {data:= #[]}).ends.length V)) (by simp[results,Tryz.results217,go_sem,aD,au,r0,r1,r2,r3,r4]) rfl ?_
  rw[ar.out];exact⟨⟨_,_,rfl,H4.out⟩,dE B4.out (by omega) _ _ _ _ _⟩
 ·have n1:x.att=ob (tl s.tab j) 2-48:=by simpa using he
  rw[if_pos n1] at ar;clear n1;obtain⟨⟨d0,d1,d2,d3,d4⟩,⟨⟨r0,r1,r2,r3,r4⟩,f,ty⟩,⟨x0,x1,x2,x3,x4,x5⟩,_,d,_⟩:=ai.out;have f0:=f 0 (by decide);have f1:=f 1 (by decide);have f2:=f 2 (by decide);have f3:=f 3 (by decide);have f4:=f 4 (by decide)
  have ae:=Hq d;have aB:=Hq ty;have ah:=Hq (HS.out.later d);clear f d;go_wp2_with fail
  go_region_held3 (fun w'=>∀b o,b<w2.heap.size→b≠w.heap.size+1→w'.cell? ⟨b,o,none⟩=w2.cell? ⟨b,o,none⟩)
   ((intro b' o' h1 h2;first |(rw[fh h2];exact G.cell (p:=⟨b',o',none⟩) h1)|(exact G.cell (p:=⟨b',o',none⟩) h1)|(exact O.cell (p:=⟨b',o',none⟩) h1)|rfl))
   (first
    | (go_at_call 216;refine (fy s i (.slice (some ⟨b,U,none⟩) s.slots.length Y) (.slice Q s.ends.length J) _ hl ?hs).mono ?_;(case hs=>exact ah.out.later (Below.refl _ _).drew);rintro e w3 ⟨⟨v,rfl,ao⟩,am⟩;have O:Below w2.heap.size w2 w3:=(Below.refl _ _).drew.trans am)
    | (go_at_call 215;refine (e9 s (Bx.withoutL s.slots i) _ x.num _ (.slice (some ⟨b,U,none⟩) s.slots.length Y) (.slice Q s.ends.length J) w3 hE ?hL ?hs).mono ?_;(case hL=>exact TRow.of_own ao);(case hs=>exact ah.out.later O);rintro e w4 ⟨⟨a8,rfl,I⟩,al⟩;have G:Below w2.heap.size w2 w4:=O.trans (al.mono O.size);obtain⟨aD,a6⟩:=dU G;obtain⟨af,Z,rfl,aQ⟩:=I.sl.form;obtain⟨ag,V,rfl,aU⟩:=I.en.form))
  go_wp2_with fail;have H4:Hid (StAt _ (Bx.with' s (Bx.withoutL s.slots i) x.num {data:= #[97]}) _ _):=I.store (aB.out.later G) (.string s.tab) (.int .i64 s.clock) (.int .i64 s.next) (.slice af (Bx.with' s (Bx.withoutL s.slots i) x.num {data:= #[97]}).slots.length Z) (.slice ag (Bx.with' s (Bx.withoutL s.slots i) x.num {data:= #[97]}).ends.length V);have B4:=Hq (ae.out.trans (G.mono ae.out.size));refine bodyPost_ret (v:=stV (Bx.with' s (Bx.withoutL s.slots i) x.num {data:= #[97]}) (.slice af (Bx.with' s (Bx.withoutL s.slots i) x.num {data:= #[97]}).slots.length Z) (.slice ag (Bx.with' s (Bx.withoutL s.slots i) x.num {data:= #[97]}).ends.length V)) (by simp[results,Tryz.results217,go_sem,aD,au,r0,r1,r2,r3,r4]) rfl ?_
  rw[ar.out,rg];exact⟨⟨_,_,rfl,H4.out⟩,dE B4.out (by omega) _ _ _ _ _⟩
structure AIn (w W:World) (s:Bx.St) (sl en:Value) (xq:Nat) (x:Bx.Sl):Prop where
 st:StIn W w.heap.size s sl en
 rs:StW W (w.heap.size+1) stZ nilV nilV
 x:SlIn W xq x
 fx:∀j:Nat,j<6→W.frozen? ⟨xq,j,none⟩=false
 bel:Below w.heap.size w W
 gt:w.heap.size+1<xq
 lt:xq<W.heap.size
theorem AIn.later {w W W':World}{s:Bx.St}{sl en:Value}{d:Nat}{x:Bx.Sl} (h:AIn w W s sl en d x) (hb:Below W.heap.size W W'):AIn w W' s sl en d x:=
 ⟨h.st.later hb,h.rs.later hb,h.x.later hb,fun j e=>(hb.frozen (p:=⟨d,j,none⟩) h.lt).trans (h.fx j e),h.bel.trans (hb.mono h.bel.size),h.gt,Nat.lt_of_lt_of_le h.lt hb.size⟩
theorem AIn.new {w W:World}{s:Bx.St}{sl en:Value} (x:Bx.Sl) (h1:StIn W w.heap.size s sl en) (h2:StW W (w.heap.size+1) stZ nilV nilV) (d:Below w.heap.size w W):AIn w (W.alloc (slO x)) s sl en W.heap.size x:=
 ⟨h1.later (dx _ _),h2.later (dx _ _),SlIn.new W x,fun j _=>by simp[go_sem],d.alloc d.size _,h2.ty.lt,by simp⟩
theorem AIn.run {w W:World}{s:Bx.St}{sl en:Value}{d:Nat}{x:Bx.Sl} (h:AIn w W s sl en d x) (r:Bool):AIn w (W.setCell ⟨d,5,none⟩ (.bool r)) s sl en d {x with runs:=r}:=by
 obtain⟨⟨O,d1,d2,U,Q⟩,⟨⟨r0,r1,r2,Z,r4⟩,f',ty⟩,⟨x0,V,x2,x3,x4,Y⟩,fx,e,I,J⟩:=h;have n1:w.heap.size≠d:=by omega
 have n2:w.heap.size+1≠d:=by omega
 refine⟨⟨?_,?_,?_,?_,?_⟩,⟨⟨?_,?_,?_,?_,?_⟩,fun j G=>?_,?_⟩,⟨?_,?_,?_,?_,?_,?_⟩,fun j G=>?_,?_,I,?_⟩
 case refine_11=>simp[go_sem,f' j G]
 case refine_12=>exact ty.setCell _ _ _
 case refine_19=>simp[go_sem,fx j G]
 case refine_20=>exact e.setCell (by simp;omega) _
 case refine_21=>simpa using J
 all_goals simp[go_sem,O,d1,d2,U,Q,r0,r1,r2,Z,r4,x0,V,x2,x3,x4,Y]
set_option maxRecDepth 10000 in
set_option maxHeartbeats 0 in
theorem nG (s:Bx.St) (kind n:Int) (sl en:Value) (w:World) (hO:Bx.StOk s) (hS:StAt w s sl en):
 Calls Tryz.prog 199 #[stV s sl en,.int .u8 kind,.int .i64 n] w fun e w'=>(∃bj bh,e=.returned (.tuple #[stV (Bx.aboutP s kind n).1 bj bh,.bool (Bx.aboutP s kind n).2])∧StAt w' (Bx.aboutP s kind n).1 bj bh)∧Below w.heap.size w w':=by
 obtain⟨ad,I,rfl,bO⟩:=hS.sl.form;obtain⟨G,d,rfl,bM⟩:=hS.en.form;have HS:=Hq hS;have HO:=Hq hO;have hl:s.slots.length≤10000:=by have:=hO.sl;omega
 have hE:s.ends.length≤10000:=by have:=hO.en;omega
 have bA:=hO.c1;have bI:=hO.c2;have b0:=dx w (stO s (.slice ad s.slots.length I) (.slice G s.ends.length d));have b1:=dx (w.alloc (stO s (.slice ad s.slots.length I) (.slice G s.ends.length d))) (stO stZ nilV nilV);have A1:StIn ((w.alloc (stO s (.slice ad s.slots.length I) (.slice G s.ends.length d))).alloc (stO stZ nilV nilV)) w.heap.size s (.slice ad s.slots.length I) (.slice G s.ends.length d):=(StIn.new w s _ _).later b1
 have A2:StW ((w.alloc (stO s (.slice ad s.slots.length I) (.slice G s.ends.length d))).alloc (stO stZ nilV nilV)) (w.heap.size+1) stZ nilV nilV:=by
  have:=StW.new (w.alloc (stO s (.slice ad s.slots.length I) (.slice G s.ends.length d))) stZ nilV nilV
  simpa using this
 have A4:Below w.heap.size w ((w.alloc (stO s (.slice ad s.slots.length I) (.slice G s.ends.length d))).alloc (stO stZ nilV nilV)):=b0.trans (b1.mono (by simp))
 clear hS b0 b1 hO;obtain⟨F,hF⟩:∃F:Int,F=Bx.find s n:=⟨_,rfl⟩;have HF:=Hq hF;have bx: -1≤F∧F<s.slots.length:=by rw[hF];exact jl s n
 have Z:Hid (Bx.aboutP s kind n=if F<0 then (s,false)
  else if kind=75 then (Bx.with' s (Bx.withoutL s.slots F) n Bx.hK,true)
  else if kind=83 then (if (Bx.slAt s F.toNat).runs=true∨s.clock<(Bx.slAt s F.toNat).frm∨Bx.locked s F.toNat=true then (s,false) else (Bx.with' s (Bx.putL s.slots F {Bx.slAt s F.toNat with runs:=true}) 0 ByteArray.empty,true))
  else if kind=68 then (Bx.with' s (Bx.withoutL s.slots F) n Bx.hD,(Bx.slAt s F.toNat).runs)
  else if kind=70 then (Bx.failed s F.toNat,(Bx.slAt s F.toNat).runs)
  else (s,false)):=by rw[hF];rfl
 clear hF
 go_enter Tryz.func199,Tryz.ntmps199
 go_wp2_with fail;generalize (w.alloc (stO s (.slice ad s.slots.length I) (.slice G s.ends.length d))).alloc (stO stZ nilV nilV)=W at *;refine (eY s n _ _ _ hl (HS.out.later A4)).mono ?_;rintro e w1 ⟨rfl,aT⟩;rw[←HF.out];have B1:Hid (StIn w1 w.heap.size s (.slice ad s.slots.length I) (.slice G s.ends.length d)):=A1.later aT;have B2:Hid (StW w1 (w.heap.size+1) stZ nilV nilV):=A2.later aT;have B4:Hid (Below w.heap.size w w1):=A4.trans (aT.mono A4.size);clear A1 A2 A4 aT
 by_cases a7:F<0
 ·have ak:Hid (Bx.aboutP s kind n=(s,false)):=by unfold Hid;rw[Z.out,if_pos a7]
  have R4:Hid (StAt _ s (.slice ad s.slots.length I) (.slice G s.ends.length d)):=(HS.out.later B4.out).store B2.out.ty (.string s.tab) (.int .i64 s.clock) (.int .i64 s.next) (.slice ad s.slots.length I) (.slice G s.ends.length d);obtain⟨c0,c1,c2,c3,c4⟩:=B1.out;obtain⟨⟨r0,r1,r2,r3,r4⟩,f,_⟩:=B2.out;have f0:=f 0 (by decide);have f1:=f 1 (by decide);have f2:=f 2 (by decide);have f3:=f 3 (by decide);have f4:=f 4 (by decide)
  clear f Z;go_wp2_with fail;refine bodyPost_ret (v:=.tuple #[stV s (.slice ad s.slots.length I) (.slice G s.ends.length d),.bool false]) (by simp[results,Tryz.results199,go_sem,r0,r1,r2,r3,r4]) rfl ?_
  rw[ak.out];refine⟨⟨_,_,rfl,R4.out⟩,?_⟩
  repeat (refine Below.setCell ?_ (by simp) _)
  exact B4.out
 rw[if_neg a7] at Z;obtain⟨i,bF⟩:∃i:Nat,F=i:=Int.eq_ofNat_of_zero_le (by omega)
 subst bF;simp only [Int.toNat_natCast] at Z;have hi:i<s.slots.length:=by omega
 clear bx;have bo:=HO.out.each s.slots[i] (List.getElem_mem _);have ay:=HO.out.att5 (List.getElem_mem hi);rw[slAt_eq s i hi] at bo ay;obtain⟨j,bm⟩:∃j:Nat,(Bx.slAt s i).line=(j:Int)+1:=⟨((Bx.slAt s i).line-1).toNat,by omega⟩
 have bg:=Hq bm;have hj:j<tn s.tab:=by omega
 have bp:0≤(Bx.slAt s i).att∧(Bx.slAt s i).att≤1000:=by omega
 clear bo bm ay;have z1:(0:Int)≤(i:Int):=by omega
 have z2:(i:Int)<(s.slots.length:Int):=by omega
 obtain⟨b,O,bP,hv,_,hc⟩:=(HS.out.later B4.out).sl.1.some' (by omega)
 cases hv
 obtain⟨y0,y1,y2,y3,y4,y5⟩:=dT hc i hi;rw[slAt_eq s i hi] at y0 y1 y2 y3 y4 y5;have HA:Hid (AIn w _ s (.slice (some ⟨b,O,none⟩) s.slots.length I) (.slice G s.ends.length d) w1.heap.size (Bx.slAt s i)):=AIn.new (Bx.slAt s i) B1.out B2.out B4.out;have c3:=B1.out.c3;clear hc B1 B2 B4;have bz:∀t,Hid (StAt t s (.slice (some ⟨b,O,none⟩) s.slots.length I) (.slice G s.ends.length d))→True:=fun _ _=>trivial
 clear bz;go_upto_region 5 with fail;clear y0 y1 y2 y3 y4 y5 c3;generalize w1.alloc (slO (Bx.slAt s i))=W2 at *;generalize w1.heap.size=xq at *;have bX:=HA.out.gt;have bE:=HA.out.lt;have am:=Hq HA.out.bel;have aU:w.heap.size<W2.heap.size:=by omega
 have ao:w.heap.size+1<W2.heap.size:=by omega
 have bQ:w.heap.size≠w.heap.size+1:=by omega
 have bS:xq≠w.heap.size+1:=by omega
 have az:=Hq HA.out.rs.ty;have aj:=Hq (HS.out.later HA.out.bel)
 cases k1:(kind==75)
 ·have m1:¬kind=75:=by simpa using k1
  rw[if_neg m1] at Z;clear m1
  cases k2:(kind==83)
  ·have m2:¬kind=83:=by simpa using k2
   rw[if_neg m2] at Z;clear m2
   cases k3:(kind==68)
   ·have m3:¬kind=68:=by simpa using k3
    rw[if_neg m3] at Z;clear m3
    cases k4:(kind==70)
    ·have m4:¬kind=70:=by simpa using k4
     rw[if_neg m4] at Z;clear m4;obtain⟨⟨d0,d1,d2,d3,d4⟩,⟨⟨r0,r1,r2,r3,r4⟩,f,_⟩,⟨x0,x1,x2,x3,x4,x5⟩,fx,_,_,_⟩:=HA.out;have f0:=f 0 (by decide);have f1:=f 1 (by decide);have f2:=f 2 (by decide);have f3:=f 3 (by decide);have f4:=f 4 (by decide)
     have g5:=fx 5 (by decide)
     clear f fx;have R4:Hid (StAt _ s (.slice (some ⟨b,O,none⟩) s.slots.length I) (.slice G s.ends.length d)):=aj.out.store az.out (.string s.tab) (.int .i64 s.clock) (.int .i64 s.next) (.slice (some ⟨b,O,none⟩) s.slots.length I) (.slice G s.ends.length d);go_wp2_with fail;refine bodyPost_ret (v:=.tuple #[stV s (.slice (some ⟨b,O,none⟩) s.slots.length I) (.slice G s.ends.length d),.bool false]) (by simp[results,Tryz.results199,go_sem,r0,r1,r2,r3,r4]) rfl ?_
     rw[Z.out];exact⟨⟨_,_,rfl,R4.out⟩,dE am.out (by omega) _ _ _ _ _⟩
    ·have m4:kind=70:=by simpa using k4
     rw[if_pos m4] at Z;clear m4;obtain⟨⟨d0,d1,d2,d3,d4⟩,⟨⟨r0,r1,r2,r3,r4⟩,f,_⟩,⟨x0,x1,x2,x3,x4,x5⟩,fx,_,_,_⟩:=HA.out;have f0:=f 0 (by decide);have f1:=f 1 (by decide);have f2:=f 2 (by decide);have f3:=f 3 (by decide);have f4:=f 4 (by decide)
     have g5:=fx 5 (by decide)
     clear f fx;go_wp2_with fail
     go_region_held3 (fun w'=>∀b o,b<W2.heap.size→b≠w.heap.size+1→w'.cell? ⟨b,o,none⟩=W2.cell? ⟨b,o,none⟩)
      ((intro b' o' h1 h2;first |(rw[fh h2];exact J.cell (p:=⟨b',o',none⟩) h1)|(exact J.cell (p:=⟨b',o',none⟩) h1)|(exact U.cell (p:=⟨b',o',none⟩) h1)|rfl))
      (first
       | (go_at_call 217;refine (mw s i j (.slice (some ⟨b,O,none⟩) s.slots.length I) (.slice G s.ends.length d) _ HO.out.tab hl hE hi bg.out hj bA bI bp.1 bp.2 ?hs).mono ?_;(case hs=>exact aj.out.later (Below.refl _ _).drew);rintro e w4 ⟨⟨bW,a3,rfl,Q⟩,ah⟩;have J:Below W2.heap.size W2 w4:=(Below.refl _ _).drew.trans ah;obtain⟨av,a2⟩:=dU J;obtain⟨ae,Y,rfl,aO⟩:=Q.sl.form;obtain⟨af,V,rfl,aQ⟩:=Q.en.form))
     go_wp2_with fail;have H4:Hid (StAt _ (Bx.failed s i) _ _):=Q.store (az.out.later J) (.string (Bx.failed s i).tab) (.int .i64 (Bx.failed s i).clock) (.int .i64 (Bx.failed s i).next) (.slice ae (Bx.failed s i).slots.length Y) (.slice af (Bx.failed s i).ends.length V);have B4:=Hq (am.out.trans (J.mono am.out.size));refine bodyPost_ret (v:=.tuple #[stV (Bx.failed s i) (.slice ae (Bx.failed s i).slots.length Y) (.slice af (Bx.failed s i).ends.length V),.bool (Bx.slAt s i).runs]) (by simp[results,Tryz.results199,go_sem,av,ao,r0,r1,r2,r3,r4]) rfl ?_
     rw[Z.out];exact⟨⟨_,_,rfl,H4.out⟩,dE B4.out (by omega) _ _ _ _ _⟩
   ·have m3:kind=68:=by simpa using k3
    rw[if_pos m3,rf] at Z;clear m3;obtain⟨⟨d0,d1,d2,d3,d4⟩,⟨⟨r0,r1,r2,r3,r4⟩,f,_⟩,⟨x0,x1,x2,x3,x4,x5⟩,fx,_,_,_⟩:=HA.out;have f0:=f 0 (by decide);have f1:=f 1 (by decide);have f2:=f 2 (by decide);have f3:=f 3 (by decide);have f4:=f 4 (by decide)
    have g5:=fx 5 (by decide)
    clear f fx;go_wp2_with fail
    go_region_held3 (fun w'=>∀b o,b<W2.heap.size→b≠w.heap.size+1→w'.cell? ⟨b,o,none⟩=W2.cell? ⟨b,o,none⟩)
     ((intro b' o' h1 h2;first |(rw[fh h2];exact J.cell (p:=⟨b',o',none⟩) h1)|(exact J.cell (p:=⟨b',o',none⟩) h1)|(exact U.cell (p:=⟨b',o',none⟩) h1)|rfl))
     (first
      | (go_at_call 216;refine (fy s i (.slice (some ⟨b,O,none⟩) s.slots.length I) (.slice G s.ends.length d) _ hl ?hs).mono ?_;(case hs=>exact aj.out.later (Below.refl _ _).drew);rintro e w3 ⟨⟨v,rfl,aw⟩,au⟩;have U:Below W2.heap.size W2 w3:=(Below.refl _ _).drew.trans au)
      | (go_at_call 215;refine (e9 s (Bx.withoutL s.slots i) _ n _ (.slice (some ⟨b,O,none⟩) s.slots.length I) (.slice G s.ends.length d) w3 hE ?hL ?hs).mono ?_;(case hL=>exact TRow.of_own aw);(case hs=>exact aj.out.later U);rintro e w4 ⟨⟨a3,rfl,Q⟩,ah⟩;have J:Below W2.heap.size W2 w4:=U.trans (ah.mono U.size);obtain⟨av,a2⟩:=dU J;obtain⟨ae,Y,rfl,aO⟩:=Q.sl.form;obtain⟨af,V,rfl,aQ⟩:=Q.en.form))
    go_wp2_with fail;have H4:Hid (StAt _ (Bx.with' s (Bx.withoutL s.slots i) n {data:= #[100]}) _ _):=Q.store (az.out.later J) (.string (Bx.with' s (Bx.withoutL s.slots i) n {data:= #[100]}).tab) (.int .i64 (Bx.with' s (Bx.withoutL s.slots i) n {data:= #[100]}).clock) (.int .i64 (Bx.with' s (Bx.withoutL s.slots i) n {data:= #[100]}).next) (.slice ae (Bx.with' s (Bx.withoutL s.slots i) n {data:= #[100]}).slots.length Y) (.slice af (Bx.with' s (Bx.withoutL s.slots i) n {data:= #[100]}).ends.length V);have B4:=Hq (am.out.trans (J.mono am.out.size));refine bodyPost_ret (v:=.tuple #[stV (Bx.with' s (Bx.withoutL s.slots i) n {data:= #[100]}) (.slice ae (Bx.with' s (Bx.withoutL s.slots i) n {data:= #[100]}).slots.length Y) (.slice af (Bx.with' s (Bx.withoutL s.slots i) n {data:= #[100]}).ends.length V),.bool (Bx.slAt s i).runs]) (by simp[results,Tryz.results199,go_sem,av,ao,r0,r1,r2,r3,r4]) rfl ?_
    rw[Z.out];exact⟨⟨_,_,rfl,H4.out⟩,dE B4.out (by omega) _ _ _ _ _⟩
  ·have m2:kind=83:=by simpa using k2
   rw[if_pos m2] at Z;clear m2;obtain⟨⟨d0,d1,d2,d3,d4⟩,⟨⟨r0,r1,r2,r3,r4⟩,f,_⟩,⟨x0,x1,x2,x3,x4,x5⟩,fx,_,_,_⟩:=HA.out;have f0:=f 0 (by decide);have f1:=f 1 (by decide);have f2:=f 2 (by decide);have f3:=f 3 (by decide);have f4:=f 4 (by decide)
   have g5:=fx 5 (by decide)
   clear f fx;go_wp2_with fail;refine (gC s i j (.slice (some ⟨b,O,none⟩) s.slots.length I) (.slice G s.ends.length d) _ HO.out.tab hl hi bg.out hj aj.out).mono ?_;rintro e w5 ⟨rfl,aV⟩;clear d0 d1 d2 d3 d4 r0 r1 r2 r3 r4 x0 x1 x2 x3 x4 x5 f0 f1 f2 f3 f4 g5;have aC:=Hq (HA.out.later aV);have ay:=Hq (aj.out.later aV);have aR:=Hq (az.out.later aV);have aZ:=Hq aC.out.bel;have br:=aC.out.lt;clear HA aj az am aV aU ao bE;have aU:w.heap.size<w5.heap.size:=by omega
   have ao:w.heap.size+1<w5.heap.size:=by omega
   obtain⟨⟨d0,d1,d2,d3,d4⟩,⟨⟨r0,r1,r2,r3,r4⟩,f,_⟩,⟨x0,x1,x2,x3,x4,x5⟩,fx,_,_,_⟩:=aC.out;have f0:=f 0 (by decide);have f1:=f 1 (by decide);have f2:=f 2 (by decide);have f3:=f 3 (by decide);have f4:=f 4 (by decide)
   have g5:=fx 5 (by decide)
   clear f fx;generalize Bx.locked s i=lk at *;generalize Bx.slAt s i=x at *
   cases e1:x.runs
   ·by_cases e2:s.clock<x.frm
    ·have ak:Hid (Bx.aboutP s kind n=(s,false)):=by unfold Hid;rw[Z.out,if_pos (Or.inr (Or.inl e2))]
     rw[e1] at x5;have R4:Hid (StAt _ s (.slice (some ⟨b,O,none⟩) s.slots.length I) (.slice G s.ends.length d)):=ay.out.store aR.out (.string s.tab) (.int .i64 s.clock) (.int .i64 s.next) (.slice (some ⟨b,O,none⟩) s.slots.length I) (.slice G s.ends.length d);go_wp2_with fail;refine bodyPost_ret (v:=.tuple #[stV s (.slice (some ⟨b,O,none⟩) s.slots.length I) (.slice G s.ends.length d),.bool false]) (by simp[results,Tryz.results199,go_sem,r0,r1,r2,r3,r4]) rfl ?_
     rw[ak.out];exact⟨⟨_,_,rfl,R4.out⟩,dE aZ.out (by omega) _ _ _ _ _⟩
    ·cases lk
     ·have ak:Hid (Bx.aboutP s kind n=(Bx.with' s (Bx.putL s.slots i {x with runs:=true}) 0 ByteArray.empty,true)):=by
       unfold Hid;rw[Z.out,if_neg (by rw[e1];simp;omega)]
      rw[e1] at x5;have aD:=aC.out.run true;go_upto_region 13 with fail;clear d0 d1 d2 d3 d4 r0 r1 r2 r3 r4 x0 x1 x2 x3 x4 x5 f0 f1 f2 f3 f4 g5 aU ao br aC;have bn:=Hq (HS.out.later aD.bel);generalize w5.setCell ⟨xq,5,none⟩ (.bool true)=W6 at *;generalize ({x with runs:=true}:Bx.Sl)=y at *;have bs:Hid (Typed W6 (w.heap.size+1) 130):=aD.rs.ty;have bk:Hid (Below w.heap.size w W6):=aD.bel;have bU:=aD.lt;have aU:w.heap.size<W6.heap.size:=by omega
      have ao:w.heap.size+1<W6.heap.size:=by omega
      obtain⟨⟨d0,d1,d2,d3,d4⟩,⟨⟨r0,r1,r2,r3,r4⟩,f,_⟩,⟨x0,x1,x2,x3,x4,x5⟩,fx,_,_,_⟩:=aD;have f0:=f 0 (by decide);have f1:=f 1 (by decide);have f2:=f 2 (by decide);have f3:=f 3 (by decide);have f4:=f 4 (by decide)
      have g5:=fx 5 (by decide)
      clear f fx
      go_region_held3 (fun w'=>∀b o,b<W6.heap.size→b≠w.heap.size+1→w'.cell? ⟨b,o,none⟩=W6.cell? ⟨b,o,none⟩)
       ((intro b' o' h1 h2;first |(rw[fh h2];exact J.cell (p:=⟨b',o',none⟩) h1)|(exact J.cell (p:=⟨b',o',none⟩) h1)|(exact U.cell (p:=⟨b',o',none⟩) h1)|rfl))
       (first
        | (go_at_call 173;refine (jm s i y (.slice (some ⟨b,O,none⟩) s.slots.length I) (.slice G s.ends.length d) _ hl ?hs).mono ?_;(case hs=>exact bn.out.later (Below.refl _ _).drew);rintro e w3 ⟨⟨v,rfl,aw⟩,au⟩;have U:Below W6.heap.size W6 w3:=(Below.refl _ _).drew.trans au)
        | (go_at_call 215;refine (e9 s (Bx.putL s.slots i y) _ 0 _ (.slice (some ⟨b,O,none⟩) s.slots.length I) (.slice G s.ends.length d) w3 hE ?hL ?hs).mono ?_;(case hL=>exact TRow.of_own aw);(case hs=>exact bn.out.later U);rintro e w4 ⟨⟨a3,rfl,Q⟩,ah⟩;have J:Below W6.heap.size W6 w4:=U.trans (ah.mono U.size);obtain⟨av,a2⟩:=dU J;obtain⟨ae,Y,rfl,aO⟩:=Q.sl.form;obtain⟨af,V,rfl,aQ⟩:=Q.en.form))
      go_wp2_with fail;have H4:Hid (StAt _ (Bx.with' s (Bx.putL s.slots i y) 0 {data:= #[]}) _ _):=Q.store (bs.out.later J) (.string (Bx.with' s (Bx.putL s.slots i y) 0 {data:= #[]}).tab) (.int .i64 (Bx.with' s (Bx.putL s.slots i y) 0 {data:= #[]}).clock) (.int .i64 (Bx.with' s (Bx.putL s.slots i y) 0 {data:= #[]}).next) (.slice ae (Bx.with' s (Bx.putL s.slots i y) 0 {data:= #[]}).slots.length Y) (.slice af (Bx.with' s (Bx.putL s.slots i y) 0 {data:= #[]}).ends.length V);have B4:=Hq (bk.out.trans (J.mono bk.out.size));refine bodyPost_ret (v:=.tuple #[stV (Bx.with' s (Bx.putL s.slots i y) 0 {data:= #[]}) (.slice ae (Bx.with' s (Bx.putL s.slots i y) 0 {data:= #[]}).slots.length Y) (.slice af (Bx.with' s (Bx.putL s.slots i y) 0 {data:= #[]}).ends.length V),.bool true]) (by simp[results,Tryz.results199,go_sem,av,ao,r0,r1,r2,r3,r4]) rfl ?_
      rw[ak.out];exact⟨⟨_,_,rfl,H4.out⟩,dE B4.out (by omega) _ _ _ _ _⟩
     ·have ak:Hid (Bx.aboutP s kind n=(s,false)):=by unfold Hid;rw[Z.out,if_pos (Or.inr (Or.inr rfl))]
      rw[e1] at x5;have R4:Hid (StAt _ s (.slice (some ⟨b,O,none⟩) s.slots.length I) (.slice G s.ends.length d)):=ay.out.store aR.out (.string s.tab) (.int .i64 s.clock) (.int .i64 s.next) (.slice (some ⟨b,O,none⟩) s.slots.length I) (.slice G s.ends.length d);go_wp2_with fail;refine bodyPost_ret (v:=.tuple #[stV s (.slice (some ⟨b,O,none⟩) s.slots.length I) (.slice G s.ends.length d),.bool false]) (by simp[results,Tryz.results199,go_sem,r0,r1,r2,r3,r4]) rfl ?_
      rw[ak.out];exact⟨⟨_,_,rfl,R4.out⟩,dE aZ.out (by omega) _ _ _ _ _⟩
   ·have ak:Hid (Bx.aboutP s kind n=(s,false)):=by unfold Hid;rw[Z.out,if_pos (Or.inl e1)]
    rw[e1] at x5;have R4:Hid (StAt _ s (.slice (some ⟨b,O,none⟩) s.slots.length I) (.slice G s.ends.length d)):=ay.out.store aR.out (.string s.tab) (.int .i64 s.clock) (.int .i64 s.next) (.slice (some ⟨b,O,none⟩) s.slots.length I) (.slice G s.ends.length d);go_wp2_with fail;refine bodyPost_ret (v:=.tuple #[stV s (.slice (some ⟨b,O,none⟩) s.slots.length I) (.slice G s.ends.length d),.bool false]) (by simp[results,Tryz.results199,go_sem,r0,r1,r2,r3,r4]) rfl ?_
    rw[ak.out];exact⟨⟨_,_,rfl,R4.out⟩,dE aZ.out (by omega) _ _ _ _ _⟩
 ·have m1:kind=75:=by simpa using k1
  rw[if_pos m1,rh] at Z;clear m1;obtain⟨⟨d0,d1,d2,d3,d4⟩,⟨⟨r0,r1,r2,r3,r4⟩,f,_⟩,⟨x0,x1,x2,x3,x4,x5⟩,fx,_,_,_⟩:=HA.out;have f0:=f 0 (by decide);have f1:=f 1 (by decide);have f2:=f 2 (by decide);have f3:=f 3 (by decide);have f4:=f 4 (by decide)
  have g5:=fx 5 (by decide)
  clear f fx;go_wp2_with fail
  go_region_held3 (fun w'=>∀b o,b<W2.heap.size→b≠w.heap.size+1→w'.cell? ⟨b,o,none⟩=W2.cell? ⟨b,o,none⟩)
   ((intro b' o' h1 h2;first |(rw[fh h2];exact J.cell (p:=⟨b',o',none⟩) h1)|(exact J.cell (p:=⟨b',o',none⟩) h1)|(exact U.cell (p:=⟨b',o',none⟩) h1)|rfl))
   (first
    | (go_at_call 216;refine (fy s i (.slice (some ⟨b,O,none⟩) s.slots.length I) (.slice G s.ends.length d) _ hl ?hs).mono ?_;(case hs=>exact aj.out.later (Below.refl _ _).drew);rintro e w3 ⟨⟨v,rfl,aw⟩,au⟩;have U:Below W2.heap.size W2 w3:=(Below.refl _ _).drew.trans au)
    | (go_at_call 215;refine (e9 s (Bx.withoutL s.slots i) _ n _ (.slice (some ⟨b,O,none⟩) s.slots.length I) (.slice G s.ends.length d) w3 hE ?hL ?hs).mono ?_;(case hL=>exact TRow.of_own aw);(case hs=>exact aj.out.later U);rintro e w4 ⟨⟨a3,rfl,Q⟩,ah⟩;have J:Below W2.heap.size W2 w4:=U.trans (ah.mono U.size);obtain⟨av,a2⟩:=dU J;obtain⟨ae,Y,rfl,aO⟩:=Q.sl.form;obtain⟨af,V,rfl,aQ⟩:=Q.en.form))
  go_wp2_with fail;have H4:Hid (StAt _ (Bx.with' s (Bx.withoutL s.slots i) n {data:= #[107]}) _ _):=Q.store (az.out.later J) (.string (Bx.with' s (Bx.withoutL s.slots i) n {data:= #[107]}).tab) (.int .i64 (Bx.with' s (Bx.withoutL s.slots i) n {data:= #[107]}).clock) (.int .i64 (Bx.with' s (Bx.withoutL s.slots i) n {data:= #[107]}).next) (.slice ae (Bx.with' s (Bx.withoutL s.slots i) n {data:= #[107]}).slots.length Y) (.slice af (Bx.with' s (Bx.withoutL s.slots i) n {data:= #[107]}).ends.length V);have B4:=Hq (am.out.trans (J.mono am.out.size));refine bodyPost_ret (v:=.tuple #[stV (Bx.with' s (Bx.withoutL s.slots i) n {data:= #[107]}) (.slice ae (Bx.with' s (Bx.withoutL s.slots i) n {data:= #[107]}).slots.length Y) (.slice af (Bx.with' s (Bx.withoutL s.slots i) n {data:= #[107]}).ends.length V),.bool true]) (by simp[results,Tryz.results199,go_sem,av,ao,r0,r1,r2,r3,r4]) rfl ?_
  rw[Z.out];exact⟨⟨_,_,rfl,H4.out⟩,dE B4.out (by omega) _ _ _ _ _⟩
theorem rB (b j:Nat) (hb:b<256):((b:Int) % 4294967296 / 2 ^ j)=((b / 2 ^ j:Nat):Int):=by
 have e:(b:Int) % 4294967296=(b:Int):=by omega
 rw[e];push_cast;rfl
theorem sB (b j c:Nat) (hb:b<256) (d:c<4294967296):bits .xor .u32 (c:Int) ((b:Int) % 4294967296 / 2 ^ j)=((c ^^^ (b / 2 ^ j):Nat):Int):=by
 rw[rB b j hb];exact u32_xor_nat c _ d (Nat.lt_of_le_of_lt (Nat.div_le_self _ _) (by omega))
theorem qV (c:Nat) (d:c<4294967296):bits .xor .u32 ((c:Int) / 2) 3988292384=((c / 2 ^^^ Crc.poly:Nat):Int):=by
 have:=u32_xor_nat (c / 2) Crc.poly (by omega) (by decide)
 have e:((Crc.poly:Nat):Int)=3988292384:=rfl;rw[e] at this;simpa using this
set_option maxHeartbeats 0 in
theorem qM (s:ByteArray) (w:World) (Z:s.size≤maxLen):
 Calls Tryz.prog 153 #[.string s] w fun e w'=>e=.returned (.int .i64 (Crc.sumR s))∧w'=w:=by
 unfold maxLen at Z
 go_enter Tryz.func153,Tryz.ntmps153
 go_wp2_with fail
 go_loop [3,4] (fun c i=>∃(k:Nat),k≤s.size∧i=.int .i64 k∧c=.int .u32 (Crc.crc (s.data.toList.take k):Int)) (fun _ i=>s.size-(intOf i).toNat)
 case atStart=>exact⟨0,Nat.zero_le _,rfl,rfl⟩
 case round=>
  obtain⟨k,hk,rfl,rfl⟩:=hrel;obtain⟨x,G⟩:∃x:Nat,x=Crc.crc (s.data.toList.take k):=⟨_,rfl⟩;have Q:x<4294967296:=by rw[G];exact Crc.crc_lt _
  have Y:Hid (x=Crc.crc (s.data.toList.take k)):=G;rw[←G];clear G
  by_cases O:k<s.size
  ·have HB:Hid (Crc.crc (s.data.toList.take (k+1))=Crc.bitsK s[k].toNat x 8):=by unfold Hid;rw[Crc.crc_step s k O,←Y.out];rfl
   go_wp2_with fail
   go_loop [3,5] (fun c i=>∃(j:Nat),j≤8∧i=.int .i64 j∧c=.int .u32 (Crc.bitsK s[k].toNat x j:Int)) (fun _ i=>8-(intOf i).toNat)
   case atStart=>exact⟨0,Nat.zero_le _,rfl,rfl⟩
   case round=>
    obtain⟨j,hj,rfl,rfl⟩:=hrel;obtain⟨c,d⟩:∃c:Nat,c=Crc.bitsK s[k].toNat x j:=⟨_,rfl⟩;have I:c<4294967296:=by rw[d];exact Crc.bitsK_lt Q j
    have V:Hid (c=Crc.bitsK s[k].toNat x j):=d;rw[←d];clear d
    by_cases ab:j<8
    ·have hb:=s[k].toNat_lt;have U:=sB s[k].toNat j c (by omega) I
     have J:Hid (Crc.bitsK s[k].toNat x (j+1)=Crc.bitStep s[k].toNat j c):=by unfold Hid;rw[V.out];rfl
     by_cases q:(c ^^^ (s[k].toNat / 2 ^ j)) % 2=1
     ·have t:((bits .xor .u32 (c:Int) ((s[k].toNat:Int) % 4294967296 / 2 ^ j)).tmod 2==1)=true:=by
       rw[U,Int.tmod_eq_emod_of_nonneg (by omega)];simp;omega
      have P:Hid (bits .xor .u32 ((c:Int) / 2) 3988292384=(Crc.bitsK s[k].toNat x (j+1):Int)):=by
       unfold Hid;rw[qV c I,J.out,Crc.bitStep,if_pos q]
      clear U q hb;go_wp2_with fail
      go_round
      case rel=>exact⟨j+1,by omega,by go_num,by rw[P.out]⟩
      case measure=>simp[intOf];omega
     ·have t:((bits .xor .u32 (c:Int) ((s[k].toNat:Int) % 4294967296 / 2 ^ j)).tmod 2==1)=false:=by
       rw[U,Int.tmod_eq_emod_of_nonneg (by omega)];simp;omega
      have P:Hid ((c:Int) / 2=(Crc.bitsK s[k].toNat x (j+1):Int)):=by
       unfold Hid;rw[J.out,Crc.bitStep,if_neg q];simp
      clear U q hb;go_wp2_with fail
      go_round
      case rel=>exact⟨j+1,by omega,by go_num,by rw[P.out]⟩
      case measure=>simp[intOf];omega
    ·obtain rfl:j=8:=by omega
     go_wp2_with fail
     go_round
     case rel=>exact⟨k+1,by omega,by go_num,by rw[HB.out,←V.out]⟩
     case measure=>simp[intOf];omega
  ·obtain rfl:k=s.size:=by omega
   have HE:Hid ((4294967295-(x:Int))=Crc.sumR s):=by unfold Hid;rw[Crc.sumR,Y.out,Crc.crc_whole]
   go_wp2_with fail;go_ret;exact⟨ig HE.out,rfl⟩
attribute [local go_sem] ri kO iw
attribute [local go_sem] gO Bx.be_size
set_option maxHeartbeats 0 in
theorem jI (k:Nat):∀(n:Int) (w:World),0≤n→n≤9223372036854775807→k≤10→
 Calls Tryz.prog 152 #[.int .i64 n,.int .i64 k] w fun e G=>e=.returned (.string (Bx.be n k))∧Below w.heap.size w G:=by
 induction k with
 | zero=>
   intro n w h1 h2 _
   go_enter Tryz.func152,Tryz.ntmps152
   go_wp2_with fail;go_ret;exact⟨rfl,Below.refl _ _⟩
 | succ k I=>
   intro n w h1 h2 hk;have Q:Hid (∀(a b:Int) (w:World),a=n / 256→b=k→Calls Tryz.prog 152 #[.int .i64 a,.int .i64 b] w fun e G=>e=.returned (.string (Bx.be (n / 256) k))∧Below w.heap.size w G):=fun a b w V O=>by subst V;subst O;exact I (n / 256) w (by omega) (by omega) (by omega)
   clear I;have J:IntKind.i64.wrap (n.tdiv 256)=n / 256:=by rw[Int.tdiv_eq_ediv_of_nonneg h1,IntKind.wrap_i64];omega
   have q1:IntKind.u8.wrap (n.tmod 256)=n % 256:=by rw[Int.tmod_eq_emod_of_nonneg h1,IntKind.wrap_u8];omega
   have U:IntKind.i64.wrap (k:Int)=k:=by rw[IntKind.wrap_i64];omega
   go_enter Tryz.func152,Tryz.ntmps152
   go_wp2_with fail;have q3:¬9223372036854775807<k+1:=by omega
   go_region_with ((go_at_call 152;refine (Q.out _ _ _ (by first |exact J|rfl) (by first |exact U|rfl)).mono ?_;rintro e w2 ⟨rfl,d⟩;obtain⟨Z,Y⟩:=dU d))
   all_goals (go_wp2_with fail;go_ret)
   ·exact⟨em (b1_be n k),((Below.refl _ _).drew.trans d).alloc (by have:=d.size;exact this) _⟩
   ·exact⟨em (b1_be n k),((dx _ _).drew).trans (d.mono (by simp))⟩
   ·exact⟨em (b1_be n k),((dx _ _).drew).trans (d.mono (by simp))⟩
theorem gw (a b n:Int) (k:Nat) (w:World) (d:a=n) (hb:b=k) (h1:0≤n) (h2:n≤9223372036854775807) (G:k≤10):
 Calls Tryz.prog 152 #[.int .i64 a,.int .i64 b] w fun e I=>e=.returned (.string (Bx.be n k))∧Below w.heap.size w I:=by
 subst d;subst hb;exact jI k a w h1 h2 G
set_option maxHeartbeats 0 in
theorem ge (s:ByteArray) (w:World) (Q:s.size≤100000):
 Calls Tryz.prog 116 #[.string s] w fun e I=>e=.returned (.string (Bx.frame s))∧Below w.heap.size w I:=by
 have B:=lN s;have J:¬9223372036854775807<2+s.size:=by omega
 have U:¬9223372036854775807<2+s.size+4:=by omega
 have G:Hid (Bx.be (s.size:Int) 2++s++Bx.be (Crc.sumR s) 4=Bx.frame s):=rfl
 go_enter Tryz.func116,Tryz.ntmps116
 go_wp2_with fail;refine (gw _ _ (s.size:Int) 2 _ rfl rfl (by omega) (by omega) (by decide)).mono ?_
 rintro e w1 ⟨rfl,b1⟩;go_wp2_with fail;refine (qM s _ (by unfold maxLen;omega)).mono ?_
 rintro e O ⟨rfl,rfl⟩;go_wp2_with fail;refine (gw _ _ (Crc.sumR s) 4 _ rfl rfl (by omega) (by omega) (by decide)).mono ?_
 rintro e V ⟨rfl,d⟩;go_wp2_with fail;go_ret;exact⟨em G.out,b1.trans (d.mono b1.size)⟩
abbrev chV (c:Bx.Ch):Value:=.agg #[.int .u8 c.kind,.string c.tab,.int .i64 c.n]
set_option maxHeartbeats 0 in
theorem pP (c:Bx.Ch) (w:World) (Z:0≤c.kind) (U:c.kind≤255) (Y:0≤c.n) (Q:c.n≤9223372036854775807) (V:c.tab.size≤100000):
 Calls Tryz.prog 178 #[chV c] w fun e O=>e=.returned (.string (Bx.body c))∧Below w.heap.size w O:=by
 obtain⟨k,t,n⟩:=c
 dsimp only at *
 have J:k % 256=k:=by omega
 have K:strOfNums [k]=Bx.b1 k:=by unfold strOfNums Bx.b1;rw[J];rfl
 have d:Hid (Bx.body ⟨k,t,n⟩=strOfNums [k]++(if k=84 then t else if k=67 then Bx.be n 5 else Bx.be n 2)):=by rw[K];rfl
 clear K;have y1:¬9223372036854775807<1+t.size:=by omega
 cases G:(k==84)
 ·have n1:¬k=84:=by simpa using G
  rw[if_neg n1] at d
  cases I:(k==67)
  ·have n2:¬k=67:=by simpa using I
   rw[if_neg n2] at d;clear n1 n2
   go_enter Tryz.func178,Tryz.ntmps178
   go_wp2_with fail;refine (gw _ _ n 2 _ rfl rfl (by omega) (by omega) (by decide)).mono ?_
   rintro e w1 ⟨rfl,b1⟩;go_wp2_with fail;go_ret;exact⟨em d.out.symm,(((dx _ _).alloc (by simp) _).trans (b1.mono (by simp;omega)))⟩
  ·have n2:k=67:=by simpa using I
   rw[if_pos n2] at d;clear n1 n2
   go_enter Tryz.func178,Tryz.ntmps178
   go_wp2_with fail;refine (gw _ _ n 5 _ rfl rfl (by omega) (by omega) (by decide)).mono ?_
   rintro e w1 ⟨rfl,b1⟩;go_wp2_with fail;go_ret;exact⟨em d.out.symm,(((dx _ _).alloc (by simp) _).trans (b1.mono (by simp;omega)))⟩
 ·have n1:k=84:=by simpa using G
  rw[if_pos n1] at d;clear n1
  go_enter Tryz.func178,Tryz.ntmps178
  go_wp2_with fail;go_ret;exact⟨em d.out.symm,(dx _ _).alloc (by simp) _⟩
end Go.Proofs.YtdajolpoiffimabGreatDoor

namespace Go.Proofs.YtdajolpoiffimabGreatDoor
open Go.RowKit
def chC (c:Bx.Ch):List Value:=[.int .u8 c.kind,.string c.tab,.int .i64 c.n]
theorem fL (c:Bx.Ch):(chC c).length=3:=rfl
structure ChOk (c:Bx.Ch):Prop where
 k1:0≤c.kind
 k2:c.kind≤255
 n1:0≤c.n
 n2:c.n≤9223372036854775807
 t:c.tab.size≤300
theorem iz (L:List Bx.Ch) (k:Nat) (h:k<L.length):Bx.frames (L.take (k+1))=Bx.frames (L.take k)++Bx.frame (Bx.body L[k]):=by
 rw[List.take_succ_eq_append_getElem h,Bx.frames_snoc]
theorem ib (L:List Bx.Ch) (h:∀c∈L,c.tab.size≤300) (k:Nat) (e:k≤L.length):(Bx.frames (L.take k)).size≤k*400:=by
 induction k with
 | zero=>simp[Bx.frames]
 | succ k d=>
   rw[iz L k e,ByteArray.size_append,Bx.frame_size];have:=Bx.body_size L[k];have:=h L[k] (List.getElem_mem _);have:=d (by omega)
   omega
set_option maxHeartbeats 0 in
theorem i9 (L:List Bx.Ch) (v:Value) (w:World) (hL:L.length≤100) (Q:∀c∈L,ChOk c) (hR:RowAt w v L.length (L.flatMap chC)):
 Calls Tryz.prog 142 #[v] w fun e w'=>e=.returned (.string (Bx.frames L))∧Below w.heap.size w w':=by
 obtain⟨ad,ah,rfl,Z⟩:=hR.form;have HR:=Hq hR;have U:=Hq Q;clear hR Q
 go_enter Tryz.func142,Tryz.ntmps142
 go_wp2_with fail
 go_loopw [3,4] (fun x i wr=>∃k:Nat,k≤L.length∧i=.int .i64 k∧x=.string (Bx.frames (L.take k))∧Below w.heap.size w wr) (fun _ i _=>L.length-(intOf i).toNat)
 case atStart=>exact⟨0,Nat.zero_le _,rfl,rfl,Below.refl _ _⟩
 case round=>
  obtain⟨k,Y,rfl,rfl,hb⟩:=hrel;have hz:(Bx.frames (L.take k)).size≤k*400:=ib L (fun c h=>(U.out c h).t) k Y
  by_cases d:k<L.length
  ·obtain⟨b,G,ae,hv,_,I⟩:=(HR.out.later hb).some' (by omega)
   cases hv
   have c0:wr.cell? ⟨b,G+k*3,none⟩=some (.int .u8 L[k].kind):=RowAt.cell fL I k d 0 (by decide)
   have c1:wr.cell? ⟨b,G+k*3+1,none⟩=some (.string L[k].tab):=RowAt.cell fL I k d 1 (by decide)
   have c2:wr.cell? ⟨b,G+k*3+2,none⟩=some (.int .i64 L[k].n):=RowAt.cell fL I k d 2 (by decide)
   have O:Hid (ChOk L[k]):=U.out _ (List.getElem_mem _);have HF:Hid (Bx.frames (L.take k)++Bx.frame (Bx.body L[k])=Bx.frames (L.take (k+1))):=(iz L k d).symm;have ai:=Bx.body_size L[k];have ag:=O.out.t;clear I;generalize hx:L[k]=x at *;generalize Bx.frames (L.take k)=s at *;have b1:(0:Int)≤(k:Int):=by omega
   have b2:(k:Int)<(L.length:Int):=by omega
   have y1:¬9223372036854775807<s.size+(Bx.frame (Bx.body x)).size:=by rw[Bx.frame_size];omega
   go_wp2_with fail;refine (pP x _ O.out.k1 O.out.k2 O.out.n1 O.out.n2 (by omega)).mono ?_
   rintro e w1 ⟨rfl,J⟩;go_wp2_with fail;refine (ge _ _ (by omega)).mono ?_
   rintro e w2 ⟨rfl,V⟩;go_wp2_with fail;go_roundw
   case rel=>exact⟨k+1,by omega,by go_num,by rw[HF.out],hb.trans ((J.trans (V.mono J.size)).mono hb.size)⟩
   case measure=>simp[intOf];omega
  ·obtain rfl:k=L.length:=by omega
   go_wp2_with fail;go_ret;exact⟨em (by rw[List.take_length]),hb⟩
end Go.Proofs.YtdajolpoiffimabGreatDoor

namespace Go.Proofs.YtdajolpoiffimabGreatDoor
open Go.RowKit
def tkC (x:Bx.Tk):List Value:=[.int .i64 x.num,.int .i64 x.at',.int .i64 x.since,.string x.heard]
theorem ed (x:Bx.Tk):(tkC x).length=4:=rfl
abbrev bxO (b:Bx.Bo) (sl en tk:Value):Obj:=.cells #[.int .i64 b.limit,.int .i64 b.room,.string b.now.tab,.int .i64 b.now.clock,.int .i64 b.now.next,sl,en,.string b.text,tk] 173
structure BoxIn (w:World) (B:Nat) (b:Bx.Bo) (sl en tk:Value):Prop where
 c0:w.cell? ⟨B,0,none⟩=some (.int .i64 b.limit)
 c1:w.cell? ⟨B,1,none⟩=some (.int .i64 b.room)
 c2:w.cell? ⟨B,2,none⟩=some (.string b.now.tab)
 c3:w.cell? ⟨B,3,none⟩=some (.int .i64 b.now.clock)
 c4:w.cell? ⟨B,4,none⟩=some (.int .i64 b.now.next)
 c5:w.cell? ⟨B,5,none⟩=some sl
 c6:w.cell? ⟨B,6,none⟩=some en
 c7:w.cell? ⟨B,7,none⟩=some (.string b.text)
 c8:w.cell? ⟨B,8,none⟩=some tk
 f:∀j:Nat,j<9→w.frozen? ⟨B,j,none⟩=false
 ty:Typed w B 173
 rows:StAt w b.now sl en
 tk:w.ownsRow (B+1) 220 4 tk b.talks.length (b.talks.flatMap tkC)
theorem BoxIn.tkr {w:World}{B:Nat}{b:Bx.Bo}{sl en tk:Value} (h:BoxIn w B b sl en tk):TRow w 220 tk b.talks.length (b.talks.flatMap tkC):=TRow.of_own h.tk
theorem BoxIn.later {w d:World}{B:Nat}{b:Bx.Bo}{sl en tk:Value} (h:BoxIn w B b sl en tk) (hb:Below w.heap.size w d):BoxIn d B b sl en tk:=
 ⟨cell_later hb h.c0,cell_later hb h.c1,cell_later hb h.c2,cell_later hb h.c3,cell_later hb h.c4,cell_later hb h.c5,cell_later hb h.c6,cell_later hb h.c7,cell_later hb h.c8,
  fun j e=>(hb.frozen (p:=⟨B,j,none⟩) h.ty.lt).trans (h.f j e),h.ty.later hb,h.rows.later hb,dV h.tk hb⟩
theorem BoxIn.new (w:World) (l r:Int):BoxIn (w.alloc (bxO ⟨l,r,Bx.first,ByteArray.empty,[]⟩ nilV nilV nilV)) w.heap.size ⟨l,r,Bx.first,ByteArray.empty,[]⟩ nilV nilV nilV:=by
 refine⟨?_,?_,?_,?_,?_,?_,?_,?_,?_,fun j _=>?_,Typed.new _ _ _,⟨TRow.nil _ _,TRow.nil _ _⟩,World.ownsRow_nil _ _ _ _⟩
 all_goals simp[go_sem]
def ZIn (W:World) (q n:Nat):Prop:=∀j:Nat,j<n→(∃u,W.cell? ⟨q,j,none⟩=some u)∧W.frozen? ⟨q,j,none⟩=false
theorem ZIn.new (w:World) (d:Array Value) (t:TypeId):ZIn (w.alloc (.cells d t)) w.heap.size d.size:=by
 intro j e;have hb:(w.alloc (.cells d t)).heap[w.heap.size]? =some (.cells d t (0,0)):=by show (w.heap.push (.cells d t))[w.heap.size]? =_;simp
 refine⟨⟨d[j],?_⟩,?_⟩
 ·rw[cell_of_row _ _ j d t (0,0) hb];simp[e]
 ·unfold World.frozen?;rw[hb];simp
theorem ZIn.later {W W':World}{q n:Nat} (h:ZIn W q n) (w:q<W.heap.size) (hb:Below W.heap.size W W'):ZIn W' q n:=
 fun j d=>⟨(h j d).1.elim fun u e=>⟨u,cell_later hb e⟩,(hb.frozen (p:=⟨q,j,none⟩) w).trans (h j d).2⟩
set_option maxHeartbeats 0 in
theorem dX (b:Bx.Bo) (B:Nat) (sl en tk:Value) (w:World) (hB:BoxIn w B b sl en tk):
 Calls Tryz.prog 75 #[.pointer (some ⟨B,0,none⟩)] w fun e U=>e=.returned (stV b.now sl en)∧Below w.heap.size w U:=by
 obtain⟨O,G,rfl,Q⟩:=hB.rows.sl.form;obtain⟨I,d,rfl,J⟩:=hB.rows.en.form;have V:=hB.ty.lt;obtain⟨c0,c1,c2,c3,c4,c5,c6,c7,c8,_,_,_,_⟩:=hB
 go_enter Tryz.func75,Tryz.ntmps75
 go_wp2_with fail;refine bodyPost_ret (v:=stV b.now (.slice O b.now.slots.length G) (.slice I b.now.ends.length d)) (by simp[results,Tryz.results75,go_sem]) rfl ⟨rfl,dx _ _⟩
set_option maxHeartbeats 0 in
theorem i7 (w:World):Calls Tryz.prog 107 #[] w fun e d=>e=.returned (stV Bx.first nilV nilV)∧Below w.heap.size w d:=by
 go_enter Tryz.func107,Tryz.ntmps107
 go_wp2_with fail;refine bodyPost_ret (v:=stV Bx.first nilV nilV) (by simp[results,Tryz.results107,go_sem,Bx.first];rfl) rfl ⟨rfl,dx _ _⟩
set_option maxHeartbeats 0 in
theorem jg (l r:Int) (w:World):Calls Tryz.prog 106 #[.int .i64 l,.int .i64 r] w fun e V=>e=.returned (.bool (mayB l r))∧V=w:=by
 have G:Hid (mayB l r=decide (1≤l∧l≤4∧600≤r∧r≤4000)):=rfl
 by_cases h1:1≤l
 ·by_cases h2:l≤4
  ·by_cases I:600≤r
   ·by_cases O:r≤4000
    ·have d:Hid (mayB l r=true):=by unfold Hid;rw[G.out];exact decide_eq_true ⟨h1,h2,I,O⟩
     have J:decide (1≤l)=true:=decide_eq_true h1;have Q:decide (l≤4)=true:=decide_eq_true h2;have U:decide (600≤r)=true:=decide_eq_true I;clear G
     go_enter Tryz.func106,Tryz.ntmps106
     go_wp2_with fail;go_ret;exact⟨dz d.out.symm,rfl⟩
    ·have d:Hid (decide (r≤4000)=mayB l r):=by unfold Hid;rw[G.out,decide_eq_false O];exact (decide_eq_false (by omega)).symm
     have J:decide (1≤l)=true:=decide_eq_true h1;have Q:decide (l≤4)=true:=decide_eq_true h2;have U:decide (600≤r)=true:=decide_eq_true I;clear G O
     go_enter Tryz.func106,Tryz.ntmps106
     go_wp2_with fail;go_ret;exact⟨dz d.out,rfl⟩
   ·have d:Hid (mayB l r=false):=by unfold Hid;rw[G.out];exact decide_eq_false (by omega)
    have J:decide (1≤l)=true:=decide_eq_true h1;have Q:decide (l≤4)=true:=decide_eq_true h2;have U:decide (600≤r)=false:=decide_eq_false I;clear G I
    go_enter Tryz.func106,Tryz.ntmps106
    go_wp2_with fail;go_ret;exact⟨dz d.out.symm,rfl⟩
  ·have d:Hid (mayB l r=false):=by unfold Hid;rw[G.out];exact decide_eq_false (by omega)
   have J:decide (1≤l)=true:=decide_eq_true h1;have Q:decide (l≤4)=false:=decide_eq_false h2;clear G h2
   go_enter Tryz.func106,Tryz.ntmps106
   go_wp2_with fail;go_ret;exact⟨dz d.out.symm,rfl⟩
 ·have d:Hid (mayB l r=false):=by unfold Hid;rw[G.out];exact decide_eq_false (by omega)
  have J:decide (1≤l)=false:=decide_eq_false h1;clear G h1
  go_enter Tryz.func106,Tryz.ntmps106
  go_wp2_with fail;go_ret;exact⟨dz d.out.symm,rfl⟩
set_option maxHeartbeats 0 in
theorem rt (l r:Int) (w:World) (h:mayB l r=false):Calls Tryz.prog 69 #[.int .i64 l,.int .i64 r] w fun e d=>e=.returned (.tuple #[.pointer none,.int .i64 4])∧d=w:=by
 go_enter Tryz.func69,Tryz.ntmps69
 go_wp2_with fail;refine (jg l r _).mono ?_;rintro e w1 ⟨rfl,rfl⟩;go_wp2_with fail;go_ret2;exact⟨rfl,rfl⟩
set_option maxHeartbeats 0 in
theorem qh (l r:Int) (w:World) (h:mayB l r=true):Calls Tryz.prog 69 #[.int .i64 l,.int .i64 r] w fun e G=>(∃B,e=.returned (.tuple #[.pointer (some ⟨B,0,none⟩),.int .i64 0])∧w.heap.size≤B∧BoxIn G B ⟨l,r,Bx.first,ByteArray.empty,[]⟩ nilV nilV nilV)∧Below w.heap.size w G:=by
 go_enter Tryz.func69,Tryz.ntmps69
 go_wp2_with fail;refine (jg l r _).mono ?_;rintro e w1 ⟨rfl,rfl⟩;go_wp2_with fail;refine (i7 _).mono ?_;rintro e w1 ⟨rfl,d⟩;have I:Hid (BoxIn _ w1.heap.size ⟨l,r,Bx.first,ByteArray.empty,[]⟩ nilV nilV nilV):=BoxIn.new w1 l r
 go_wp2_with fail;go_ret2;exact⟨⟨_,rfl,d.size,I.out⟩,d.alloc d.size _⟩
set_option maxHeartbeats 0 in
theorem pW (b:Bx.Bo) (B:Nat) (sl en tk:Value) (w:World) (hB:BoxIn w B b sl en tk):
 Calls Tryz.prog 71 #[.pointer (some ⟨B,0,none⟩)] w fun e d=>e=.returned (.string b.text)∧d=w:=by
 obtain⟨c0,c1,c2,c3,c4,c5,c6,c7,c8,_,_,_,_⟩:=hB
 go_enter Tryz.func71,Tryz.ntmps71
 go_wp2_with fail;go_ret;exact⟨rfl,rfl⟩
set_option maxHeartbeats 0 in
theorem gD (s:Bx.St) (sl en:Value) (w:World) (V:s.ends.length≤6) (hS:StAt w s sl en):
 Calls Tryz.prog 154 #[stV s sl en] w fun e J=>e=.returned en∧Below w.heap.size w J:=by
 obtain⟨U,O,rfl,I⟩:=hS.sl.form;obtain⟨Q,G,rfl,d⟩:=hS.en.form;have z:¬(6:Int)<(s.ends.length:Int):=by omega
 clear hS
 go_enter Tryz.func154,Tryz.ntmps154
 go_wp2_with fail;go_ret;exact⟨rfl,dx _ _⟩
abbrev viewV (s:Bx.St):Value:=.agg #[.int .i64 s.clock,.int .i64 s.next,.int .i64 s.slots.length,.int .i64 s.ends.length,.string s.tab]
set_option maxHeartbeats 0 in
theorem o8 (b:Bx.Bo) (B:Nat) (sl en tk:Value) (w:World) (hE:b.now.ends.length≤6) (hB:BoxIn w B b sl en tk):
 Calls Tryz.prog 118 #[.pointer (some ⟨B,0,none⟩)] w fun e w'=>e=.returned (viewV b.now)∧Below w.heap.size w w':=by
 obtain⟨ad,Y,rfl,ai⟩:=hB.rows.sl.form;obtain⟨Z,O,rfl,ag⟩:=hB.rows.en.form;have HB:=Hq hB;clear hB
 go_enter Tryz.func118,Tryz.ntmps118
 go_wp2_with fail;refine (dX b B _ _ tk _ (HB.out.later (dx _ _))).mono ?_;rintro e w1 ⟨rfl,d⟩;have V:=(HB.out.later (dx _ _)).rows.later d;have hI:=StIn.new w1 b.now (.slice ad b.now.slots.length Y) (.slice Z b.now.ends.length O);have I:=dx w1 (stO b.now (.slice ad b.now.slots.length Y) (.slice Z b.now.ends.length O));have U:=Hq (V.later I);have Q:=d.size;go_wp2_with fail;refine (gD b.now _ _ _ hE U.out).mono ?_;rintro e w2 ⟨rfl,G⟩;have J:ZIn w2 w.heap.size 5:=((((ZIn.new w #[.int .i64 0,.int .i64 0,.int .i64 0,.int .i64 0,.string {data:= #[]}] 36).later (by simp) d).later (by simp at Q;omega) I).later (by simp at Q;simp;omega) G)
 obtain⟨⟨u0,r0⟩,f0⟩:=J 0 (by decide)
 obtain⟨⟨u1,r1⟩,f1⟩:=J 1 (by decide)
 obtain⟨⟨u2,r2⟩,f2⟩:=J 2 (by decide)
 obtain⟨⟨u3,r3⟩,f3⟩:=J 3 (by decide)
 obtain⟨⟨u4,r4⟩,f4⟩:=J 4 (by decide)
 obtain⟨d0,d1,d2,d3,d4⟩:=hI.later G;have af:=G.size;simp at Q af;have B3:Hid (Below w.heap.size w w2):=(((dx w _).trans (d.mono (by simp))).trans (I.mono (by omega))).trans (G.mono (by simp;omega))
 clear J hI V U d I G;go_wp2_with fail;refine bodyPost_ret (v:=viewV b.now) (by simp[results,Tryz.results118,go_sem,r0,r1,r2,r3,r4]) rfl ⟨rfl,?_⟩
 repeat (refine Below.setCell ?_ (by simp) _)
 exact B3.out
end Go.Proofs.YtdajolpoiffimabGreatDoor

namespace Go.Proofs.YtdajolpoiffimabGreatDoor
open Go.RowKit
abbrev chO (c:Bx.Ch):Obj:=.cells #[.int .u8 c.kind,.string c.tab,.int .i64 c.n] 178
structure ChIn (W:World) (q:Nat) (c:Bx.Ch):Prop where
 c0:W.cell? ⟨q,0,none⟩=some (.int .u8 c.kind)
 c1:W.cell? ⟨q,1,none⟩=some (.string c.tab)
 c2:W.cell? ⟨q,2,none⟩=some (.int .i64 c.n)
theorem ChIn.later {W W':World}{q:Nat}{c:Bx.Ch} (h:ChIn W q c) (hb:Below W.heap.size W W'):ChIn W' q c:=⟨cell_later hb h.c0,cell_later hb h.c1,cell_later hb h.c2⟩
theorem ChIn.new (w:World) (c:Bx.Ch):ChIn (w.alloc (chO c)) w.heap.size c:=⟨by simp[go_sem],by simp[go_sem],by simp[go_sem]⟩
structure DIn (w W:World) (s:Bx.St) (sl en:Value) (c:Bx.Ch):Prop where
 st:StW W w.heap.size s sl en
 ch:ChIn W (w.heap.size+1) c
 rs:StW W (w.heap.size+2) stZ nilV nilV
 bel:Below w.heap.size w W
theorem DIn.later {w W W':World}{s:Bx.St}{sl en:Value}{c:Bx.Ch} (h:DIn w W s sl en c) (hb:Below W.heap.size W W'):DIn w W' s sl en c:=
 ⟨h.st.later hb,h.ch.later hb,h.rs.later hb,h.bel.trans (hb.mono h.bel.size)⟩
theorem DIn.new (w:World) (s:Bx.St) (sl en:Value) (c:Bx.Ch):DIn w (((w.alloc (stO s sl en)).alloc (chO c)).alloc (stO stZ nilV nilV)) s sl en c:=by
 have b1:=dx (w.alloc (stO s sl en)) (chO c);have d:=dx ((w.alloc (stO s sl en)).alloc (chO c)) (stO stZ nilV nilV);refine⟨((StW.new w s sl en).later b1).later d,?_,?_,((dx w _).alloc (by simp) _).alloc (by simp;omega) _⟩
 ·have:=(ChIn.new (w.alloc (stO s sl en)) c).later d
  simpa using this
 ·have:=StW.new ((w.alloc (stO s sl en)).alloc (chO c)) stZ nilV nilV
  simpa using this
set_option maxRecDepth 10000 in
set_option maxHeartbeats 0 in
theorem kL (s:Bx.St) (c:Bx.Ch) (sl en:Value) (w:World) (hO:Bx.StOk s) (ht:c.tab.size≤maxLen) (hS:StAt w s sl en):
 Calls Tryz.prog 172 #[stV s sl en,chV c] w fun e w'=>(∃ak al,e=.returned (.tuple #[stV (Bx.doP s c).1 ak al,.bool (Bx.doP s c).2])∧StAt w' (Bx.doP s c).1 ak al)∧Below w.heap.size w w':=by
 obtain⟨V,I,rfl,aI⟩:=hS.sl.form;obtain⟨J,d,rfl,aH⟩:=hS.en.form;have HS:=Hq hS;have HO:=Hq hO;have HD:Hid (DIn w _ s (.slice V s.slots.length I) (.slice J s.ends.length d) c):=DIn.new w s _ _ c;clear hS hO
 go_enter Tryz.func172,Tryz.ntmps172
 go_upto_region 1 with fail;generalize ((w.alloc (stO s (.slice V s.slots.length I) (.slice J s.ends.length d))).alloc (chO c)).alloc (stO stZ nilV nilV)=W at *;have hD:=HD.out
 cases k1:(c.kind==84)
 ·have m1:¬c.kind=84:=by simpa using k1
  cases k2:(c.kind==67)
  ·have m2:¬c.kind=67:=by simpa using k2
   have HP:Hid (Bx.doP s c=Bx.aboutP s c.kind c.n):=by unfold Hid Bx.doP;rw[if_neg m1,if_neg m2]
   obtain⟨⟨⟨d0,d1,d2,d3,d4⟩,_,_⟩,⟨e0,e1,e2⟩,_,_⟩:=hD;clear m1 m2;go_wp2_with fail;refine (nG s c.kind c.n _ _ _ HO.out (HS.out.later HD.out.bel)).mono ?_;rintro e w1 ⟨⟨ak,al,rfl,U⟩,Z⟩;obtain⟨af,O,rfl,_⟩:=U.sl.form;obtain⟨ac,Q,rfl,_⟩:=U.en.form;have G:=HD.out.later Z;have H4:Hid (StAt _ (Bx.aboutP s c.kind c.n).1 _ _):=U.store G.rs.ty (.string (Bx.aboutP s c.kind c.n).1.tab) (.int .i64 (Bx.aboutP s c.kind c.n).1.clock) (.int .i64 (Bx.aboutP s c.kind c.n).1.next) (.slice af (Bx.aboutP s c.kind c.n).1.slots.length O) (.slice ac (Bx.aboutP s c.kind c.n).1.ends.length Q);have Y:=Hq G.bel;obtain⟨⟨r0,r1,r2,r3,r4⟩,f,_⟩:=G.rs;have f0:=f 0 (by decide);have f1:=f 1 (by decide);have f2:=f 2 (by decide);have f3:=f 3 (by decide);have f4:=f 4 (by decide)
   clear f G d0 d1 d2 d3 d4 e0 e1 e2;go_wp2_with fail;refine bodyPost_ret (v:=.tuple #[stV (Bx.aboutP s c.kind c.n).1 (.slice af (Bx.aboutP s c.kind c.n).1.slots.length O) (.slice ac (Bx.aboutP s c.kind c.n).1.ends.length Q),.bool (Bx.aboutP s c.kind c.n).2]) (by simp[results,Tryz.results172,go_sem,r0,r1,r2,r3,r4]) rfl ?_
   rw[HP.out];exact⟨⟨_,_,rfl,H4.out⟩,dE Y.out (by omega) _ _ _ _ _⟩
  ·have m2:c.kind=67:=by simpa using k2
   have HP:Hid (Bx.doP s c=Bx.clockedP s c.n):=by unfold Hid Bx.doP;rw[if_neg m1,if_pos m2]
   obtain⟨⟨⟨d0,d1,d2,d3,d4⟩,_,_⟩,⟨e0,e1,e2⟩,_,_⟩:=hD;clear m1 m2;go_wp2_with fail;refine (la s _ _ c.n _ HO.out (HS.out.later HD.out.bel)).mono ?_;rintro e w1 ⟨⟨ak,al,rfl,U⟩,Z⟩;obtain⟨af,O,rfl,_⟩:=U.sl.form;obtain⟨ac,Q,rfl,_⟩:=U.en.form;have G:=HD.out.later Z;have H4:Hid (StAt _ (Bx.clockedP s c.n).1 _ _):=U.store G.rs.ty (.string (Bx.clockedP s c.n).1.tab) (.int .i64 (Bx.clockedP s c.n).1.clock) (.int .i64 (Bx.clockedP s c.n).1.next) (.slice af (Bx.clockedP s c.n).1.slots.length O) (.slice ac (Bx.clockedP s c.n).1.ends.length Q);have Y:=Hq G.bel;obtain⟨⟨r0,r1,r2,r3,r4⟩,f,_⟩:=G.rs;have f0:=f 0 (by decide);have f1:=f 1 (by decide);have f2:=f 2 (by decide);have f3:=f 3 (by decide);have f4:=f 4 (by decide)
   clear f G d0 d1 d2 d3 d4 e0 e1 e2;go_wp2_with fail;refine bodyPost_ret (v:=.tuple #[stV (Bx.clockedP s c.n).1 (.slice af (Bx.clockedP s c.n).1.slots.length O) (.slice ac (Bx.clockedP s c.n).1.ends.length Q),.bool (Bx.clockedP s c.n).2]) (by simp[results,Tryz.results172,go_sem,r0,r1,r2,r3,r4]) rfl ?_
   rw[HP.out];exact⟨⟨_,_,rfl,H4.out⟩,dE Y.out (by omega) _ _ _ _ _⟩
 ·have m1:c.kind=84:=by simpa using k1
  have HP:Hid (Bx.doP s c=open Classical in if ChkR c.tab 0 0∧s.slots.length=0 then ({s with tab:=c.tab},true) else (s,false)):=by unfold Hid Bx.doP;rw[if_pos m1]
  clear m1;obtain⟨⟨⟨d0,d1,d2,d3,d4⟩,_,_⟩,⟨e0,e1,e2⟩,_,_⟩:=hD;go_wp2_with fail;refine (gF c.tab _ ht).mono ?_;rintro e w1 ⟨⟨a,r,rfl,az,aM⟩,Z⟩;have G:=HD.out.later Z;have ag:=Hq G;clear d0 d1 d2 d3 d4 e0 e1 e2;obtain⟨⟨⟨d0,d1,d2,d3,d4⟩,fs,_⟩,⟨e0,e1,e2⟩,⟨⟨r0,r1,r2,r3,r4⟩,f,_⟩,_⟩:=G;have f0:=f 0 (by decide);have f1:=f 1 (by decide);have f2:=f 2 (by decide);have f3:=f 3 (by decide);have f4:=f 4 (by decide)
  have g0:=fs 0 (by decide)
  have aA:=Hq az;have Y:=Hq ag.out.bel;clear f fs az
  by_cases ab:r=0∧s.slots.length=0
  ·obtain⟨h1,h2⟩:=ab;subst h1;have ax:ChkR c.tab 0 0:=by have:=aA.out;rwa [this.zero rfl] at this
   have am:Hid (Bx.doP s c=({s with tab:=c.tab},true)):=by unfold Hid;rw[HP.out,if_pos ⟨ax,h2⟩]
   have H4:Hid (StAt _ {s with tab:=c.tab} (.slice V s.slots.length I) (.slice J s.ends.length d)):=(show StAt (w1.setCell ⟨w.heap.size,0,none⟩ (.string c.tab)) {s with tab:=c.tab} (.slice V s.slots.length I) (.slice J s.ends.length d) from ⟨((HS.out.later Y.out).set ag.out.st.ty (by decide) (by decide) 0 (.string c.tab)).sl,((HS.out.later Y.out).set ag.out.st.ty (by decide) (by decide) 0 (.string c.tab)).en⟩).store (ag.out.rs.ty.setCell _ _ _) (.string c.tab) (.int .i64 s.clock) (.int .i64 s.next) (.slice V s.slots.length I) (.slice J s.ends.length d)
   have z1:¬(0:Int)<(s.slots.length:Int):=by omega
   clear h2 ax HP;go_wp2_with fail;refine bodyPost_ret (v:=.tuple #[stV {s with tab:=c.tab} (.slice V s.slots.length I) (.slice J s.ends.length d),.bool true]) (by simp[results,Tryz.results172,go_sem,r0,r1,r2,r3,r4]) rfl ?_
   rw[am.out];exact⟨⟨_,_,rfl,H4.out⟩,dE (Y.out.setCell (by simp) _) (by omega) _ _ _ _ _⟩
  ·have am:Hid (Bx.doP s c=(s,false)):=by
    unfold Hid;rw[HP.out,if_neg (fun h=>ab ⟨(h.1.uniq aA.out).2.symm,h.2⟩)]
   have H4:Hid (StAt _ s (.slice V s.slots.length I) (.slice J s.ends.length d)):=(HS.out.later Y.out).store ag.out.rs.ty (.string s.tab) (.int .i64 s.clock) (.int .i64 s.next) (.slice V s.slots.length I) (.slice J s.ends.length d);clear HP
   cases z0:(r !=0)
   ·have hr:r=0:=by simpa using z0
    have z1:(0:Int)<(s.slots.length:Int):=by
     rcases Nat.eq_zero_or_pos s.slots.length with h|h
     ·exact absurd ⟨hr,h⟩ ab
     ·omega
    clear hr ab;go_wp2_with fail;refine bodyPost_ret (v:=.tuple #[stV s (.slice V s.slots.length I) (.slice J s.ends.length d),.bool false]) (by simp[results,Tryz.results172,go_sem,r0,r1,r2,r3,r4]) rfl ?_
    rw[am.out];exact⟨⟨_,_,rfl,H4.out⟩,dE Y.out (by omega) _ _ _ _ _⟩
   ·clear ab;go_wp2_with fail;refine bodyPost_ret (v:=.tuple #[stV s (.slice V s.slots.length I) (.slice J s.ends.length d),.bool false]) (by simp[results,Tryz.results172,go_sem,r0,r1,r2,r3,r4]) rfl ?_
    rw[am.out];exact⟨⟨_,_,rfl,H4.out⟩,dE Y.out (by omega) _ _ _ _ _⟩
end Go.Proofs.YtdajolpoiffimabGreatDoor

namespace Go.Proofs.YtdajolpoiffimabGreatDoor
open Go.RowKit
set_option maxHeartbeats 0 in
theorem eG (s:ByteArray) (w:World) (U:s.size≤100000):
 Calls Tryz.prog 195 #[.string s] w fun e Z=>e=.returned (.int .i64 (numW s.data.toList))∧Z=w:=by
 go_enter Tryz.func195,Tryz.ntmps195
 go_wp2_with fail
 go_loop [0,3] (fun v x=>∃(y:ByteArray) (n:Int),v=.string y∧x=.int .i64 n∧y.size≤100000∧y.data.toList.foldl numS n=numW s.data.toList) (fun v _=>strSize v)
 case atStart=>exact⟨s,0,rfl,rfl,U,rfl⟩
 case round=>
  obtain⟨y,n,rfl,rfl,hy,O⟩:=hrel;have Q:=Hq O;clear O
  by_cases J:0<y.size
  ·have V:(0:Int)<(y.size:Int):=by omega
   have I:Hid ((y.extract 1 y.size).data.toList.foldl numS (wrap64 (wrap64 (n*256)+wrap64 (y[0].toNat:Int)))=numW s.data.toList):=by
    unfold Hid;rw[←Q.out,ei];have d:y.data.toList.length=y.size:=by simp
    have h0:=jw J
    cases G:y.data.toList with
    | nil=>rw[G] at d;simp at d;omega
    | cons a r=>
      rw[G] at h0 d;have Y:a=y[0]:=by simpa using h0
      simp at d
      rw[List.drop_one,List.tail_cons,List.take_of_length_le (by omega),List.foldl_cons,Y];rfl
   go_wp2_with fail
   go_round
   case rel=>exact⟨_,_,rfl,rfl,by simp;omega,I.out⟩
   case measure=>simp[strSize];omega
  ·have V:¬(0:Int)<(y.size:Int):=by omega
   have I:Hid (n=numW s.data.toList):=by
    unfold Hid;rw[←Q.out];have d:y.data.toList.length=y.size:=by simp
    have:y.data.toList=[]:=List.eq_nil_of_length_eq_zero (by omega)
    rw[this];rfl
   go_wp2_with fail;go_ret;exact⟨dN I.out,rfl⟩
set_option maxHeartbeats 0 in
theorem fa (s:ByteArray) (a n:Nat) (w:World) (hs:s.size≤100000) (ha:a≤100000) (hn:n≤100000):
 Calls Tryz.prog 212 #[.string s,.int .i64 a,.int .i64 n] w fun e Q=>e=.returned (.string (partK s a n))∧Q=w:=by
 have Z:IntKind.i64.wrap ((a:Int)+(n:Int))=(a:Int)+(n:Int):=by rw[IntKind.wrap_i64];omega
 go_enter Tryz.func212,Tryz.ntmps212
 go_wp2_with fail
 go_loop [7,8] (fun v i=>∃k:Nat,k≤n∧i=.int .i64 ((a+k:Nat):Int)∧v=.string (partK s a k)) (fun _ i=>a+n-(intOf i).toNat)
 case atStart=>exact⟨0,Nat.zero_le _,by simp,rfl⟩
 case round=>
  obtain⟨k,hk,rfl,rfl⟩:=hrel;have V:=fo s a k
  by_cases U:k<n
  ·have J:((a+k:Nat):Int)<(a:Int)+(n:Int):=by omega
   by_cases d:a+k<s.size
   ·have G:Hid (partK s a (k+1)=partK s a k++s.extract (a+k) (a+k+1)):=by unfold Hid;rw[partK,if_pos d]
    have I:((a+k:Nat):Int)<(s.size:Int):=by omega
    have Y:¬9223372036854775807<(partK s a k).size+(s.extract (a+k) (a+k+1)).size:=by simp;omega
    have O:¬9223372036854775807<(partK s a k).size+1:=by omega
    go_wp2_with fail
    go_round
    case rel=>exact⟨k+1,by omega,by go_num,by rw[G.out]⟩
    case measure=>simp[intOf];omega
   ·have G:Hid (partK s a (k+1)=partK s a k++{data:= #[0]}):=by unfold Hid;rw[partK,if_neg d]
    have I:¬((a+k:Nat):Int)<(s.size:Int):=by omega
    have O:¬9223372036854775807<(partK s a k).size+1:=by omega
    go_wp2_with fail
    go_round
    case rel=>exact⟨k+1,by omega,by go_num,by rw[G.out]⟩
    case measure=>simp[intOf];omega
  ·obtain rfl:k=n:=by omega
   have J:¬((a+k:Nat):Int)<(a:Int)+(k:Int):=by omega
   go_wp2_with fail;go_ret;exact⟨rfl,rfl⟩
end Go.Proofs.YtdajolpoiffimabGreatDoor
