import Derived.WalkKit
import Derived.WalkSpells
import Derived.WalkLawsBesides
import Derived.Laws.BitsAllLaws
import Derived.Deep.RegionHeld3
import Derived.Deep.RegionWith
import Derived.Deep.DrawnRows
import Derived.Laws.BytesArg
import Derived.Test.YtdajolpoiffimabGreatDoorA8

namespace Go.Proofs.YtdajolpoiffimabGreatDoor
open Go.RowKit
structure AIn (w W:World) (s:Bx.St) (sl en:Value) (xq:Nat) (x:Bx.Sl):Prop where
 st:StIn W w.heap.size s sl en
 rs:StW W (w.heap.size+1) stZ nilV nilV
 x:SlIn W xq x
 fx:∀j:Nat,j<6→W.frozen? ⟨xq,j,none⟩=false
 bel:Below w.heap.size w W
 gt:w.heap.size+1<xq
 lt:xq<W.heap.size
theorem AIn.later {w W W':World} {s:Bx.St} {sl en:Value} {d:Nat} {x:Bx.Sl} (h:AIn w W s sl en d x) (hb:Below W.heap.size W W'):AIn w W' s sl en d x:=
 ⟨h.st.later hb,h.rs.later hb,h.x.later hb,fun j e=>(hb.frozen (p:=⟨d,j,none⟩) h.lt).trans (h.fx j e),h.bel.trans (hb.mono h.bel.size),h.gt,Nat.lt_of_lt_of_le h.lt hb.size⟩
theorem AIn.new {w W:World} {s:Bx.St} {sl en:Value} (x:Bx.Sl) (h1:StIn W w.heap.size s sl en) (h2:StW W (w.heap.size+1) stZ nilV nilV) (d:Below w.heap.size w W):AIn w (W.alloc (slO x)) s sl en W.heap.size x:=
 ⟨h1.later (cw _ _),h2.later (cw _ _),SlIn.new W x,fun j _=>by simp[go_sem],d.alloc d.size _,h2.ty.lt,by simp⟩
theorem AIn.run {w W:World} {s:Bx.St} {sl en:Value} {d:Nat} {x:Bx.Sl} (h:AIn w W s sl en d x) (r:Bool):AIn w (W.setCell ⟨d,5,none⟩ (.bool r)) s sl en d {x with runs:=r}:=by
 obtain⟨⟨d0,d1,d2,O,d4⟩,⟨⟨r0,r1,U,Y,r4⟩,Q,ty⟩,⟨x0,Z,x2,V,x4,x5⟩,fx,e,I,J⟩:=h;have n1:w.heap.size≠d:=by omega
 have n2:w.heap.size+1≠d:=by omega
 refine⟨⟨?_,?_,?_,?_,?_⟩,⟨⟨?_,?_,?_,?_,?_⟩,fun j G=>?_,?_⟩,⟨?_,?_,?_,?_,?_,?_⟩,fun j G=>?_,?_,I,?_⟩
 case refine_11=>simp[go_sem,Q j G]
 case refine_12=>exact ty.setCell _ _ _
 case refine_19=>simp[go_sem,fx j G]
 case refine_20=>exact e.setCell (by simp;omega) _
 case refine_21=>simpa using J
 all_goals simp[go_sem,d0,d1,d2,O,d4,r0,r1,U,Y,r4,x0,Z,x2,V,x4,x5]
set_option maxRecDepth 10000 in
set_option maxHeartbeats 4000000 in
theorem oG (s:Bx.St) (kind n:Int) (sl en:Value) (w:World) (hO:Bx.StOk s) (hS:StAt w s sl en):
 Calls Tryz.prog 199 #[stV s sl en,.int .u8 kind,.int .i64 n] w fun e w'=>(∃bh bo,e=.returned (.tuple #[stV (Bx.aboutP s kind n).1 bh bo,.bool (Bx.aboutP s kind n).2])∧StAt w' (Bx.aboutP s kind n).1 bh bo)∧Below w.heap.size w w':=by
 obtain⟨ad,I,rfl,bQ⟩:=hS.sl.form;obtain⟨G,d,rfl,bM⟩:=hS.en.form;have HS:=Hq hS;have HO:=Hq hO;have hl:s.slots.length≤10000:=by have:=hO.sl;omega
 have hE:s.ends.length≤10000:=by have:=hO.en;omega
 have bD:=hO.c1;have bF:=hO.c2;have b0:=cw w (stO s (.slice ad s.slots.length I) (.slice G s.ends.length d));have b1:=cw (w.alloc (stO s (.slice ad s.slots.length I) (.slice G s.ends.length d))) (stO stZ nilV nilV);have A1:StIn ((w.alloc (stO s (.slice ad s.slots.length I) (.slice G s.ends.length d))).alloc (stO stZ nilV nilV)) w.heap.size s (.slice ad s.slots.length I) (.slice G s.ends.length d):=(StIn.new w s _ _).later b1
 have A2:StW ((w.alloc (stO s (.slice ad s.slots.length I) (.slice G s.ends.length d))).alloc (stO stZ nilV nilV)) (w.heap.size+1) stZ nilV nilV:=by
  have:=StW.new (w.alloc (stO s (.slice ad s.slots.length I) (.slice G s.ends.length d))) stZ nilV nilV
  simpa using this
 have A4:Below w.heap.size w ((w.alloc (stO s (.slice ad s.slots.length I) (.slice G s.ends.length d))).alloc (stO stZ nilV nilV)):=b0.trans (b1.mono (by simp))
 clear hS b0 b1 hO;obtain⟨F,hF⟩:∃F:Int,F=Bx.find s n:=⟨_,rfl⟩;have HF:=Hq hF;have bx: -1≤F∧F<s.slots.length:=by rw[hF];exact jf s n
 have Z:Hid (Bx.aboutP s kind n=if F<0 then (s,false)
  else if kind=75 then (Bx.with' s (Bx.withoutL s.slots F) n Bx.hK,true)
  else if kind=83 then (if (Bx.slAt s F.toNat).runs=true∨s.clock<(Bx.slAt s F.toNat).frm∨Bx.locked s F.toNat=true then (s,false) else (Bx.with' s (Bx.putL s.slots F {Bx.slAt s F.toNat with runs:=true}) 0 ByteArray.empty,true))
  else if kind=68 then (Bx.with' s (Bx.withoutL s.slots F) n Bx.hD,(Bx.slAt s F.toNat).runs)
  else if kind=70 then (Bx.failed s F.toNat,(Bx.slAt s F.toNat).runs)
  else (s,false)):=by rw[hF];rfl
 clear hF
 go_enter Tryz.func199,Tryz.ntmps199
 go_wp2_with fail;generalize (w.alloc (stO s (.slice ad s.slots.length I) (.slice G s.ends.length d))).alloc (stO stZ nilV nilV)=W at *;refine (eW s n _ _ _ hl (HS.out.later A4)).mono ?_;rintro e w1 ⟨rfl,aU⟩;rw[←HF.out];have B1:Hid (StIn w1 w.heap.size s (.slice ad s.slots.length I) (.slice G s.ends.length d)):=A1.later aU;have B2:Hid (StW w1 (w.heap.size+1) stZ nilV nilV):=A2.later aU;have B4:Hid (Below w.heap.size w w1):=A4.trans (aU.mono A4.size);clear A1 A2 A4 aU
 by_cases a2:F<0
 ·have aj:Hid (Bx.aboutP s kind n=(s,false)):=by unfold Hid;rw[Z.out,if_pos a2]
  have R4:Hid (StAt _ s (.slice ad s.slots.length I) (.slice G s.ends.length d)):=(HS.out.later B4.out).store B2.out.ty (.string s.tab) (.int .i64 s.clock) (.int .i64 s.next) (.slice ad s.slots.length I) (.slice G s.ends.length d);obtain⟨c0,c1,c2,c3,c4⟩:=B1.out;obtain⟨⟨r0,r1,r2,r3,r4⟩,f,_⟩:=B2.out;have f0:=f 0 (by decide);have f1:=f 1 (by decide);have f2:=f 2 (by decide);have f3:=f 3 (by decide);have f4:=f 4 (by decide)
  clear f Z;go_wp2_with fail;refine bodyPost_ret (v:=.tuple #[stV s (.slice ad s.slots.length I) (.slice G s.ends.length d),.bool false]) (by simp[results,Tryz.results199,go_sem,r0,r1,r2,r3,r4]) rfl ?_
  rw[aj.out];refine⟨⟨_,_,rfl,R4.out⟩,?_⟩
  repeat (refine Below.setCell ?_ (by simp) _)
  exact B4.out
 rw[if_neg a2] at Z;obtain⟨i,bE⟩:∃i:Nat,F=i:=Int.eq_ofNat_of_zero_le (by omega)
 subst bE;simp only [Int.toNat_natCast] at Z;have hi:i<s.slots.length:=by omega
 clear bx;have bg:=HO.out.each s.slots[i] (List.getElem_mem _);have az:=HO.out.att5 (List.getElem_mem hi);rw[slAt_eq s i hi] at bg az;obtain⟨j,bj⟩:∃j:Nat,(Bx.slAt s i).line=(j:Int)+1:=⟨((Bx.slAt s i).line-1).toNat,by omega⟩
 have bk:=Hq bj;have hj:j<tn s.tab:=by omega
 have bm:0≤(Bx.slAt s i).att∧(Bx.slAt s i).att≤1000:=by omega
 clear bg bj az;have z1:(0:Int)≤(i:Int):=by omega
 have z2:(i:Int)<(s.slots.length:Int):=by omega
 obtain⟨b,O,bT,hv,_,hc⟩:=(HS.out.later B4.out).sl.1.some' (by omega)
 cases hv
 obtain⟨y0,y1,y2,y3,y4,y5⟩:=dS hc i hi;rw[slAt_eq s i hi] at y0 y1 y2 y3 y4 y5;have HA:Hid (AIn w _ s (.slice (some ⟨b,O,none⟩) s.slots.length I) (.slice G s.ends.length d) w1.heap.size (Bx.slAt s i)):=AIn.new (Bx.slAt s i) B1.out B2.out B4.out;have c3:=B1.out.c3;clear hc B1 B2 B4;have bt:∀t,Hid (StAt t s (.slice (some ⟨b,O,none⟩) s.slots.length I) (.slice G s.ends.length d))→True:=fun _ _=>trivial
 clear bt;go_upto_region 5 with fail;clear y0 y1 y2 y3 y4 y5 c3;generalize w1.alloc (slO (Bx.slAt s i))=W2 at *;generalize w1.heap.size=xq at *;have bX:=HA.out.gt;have bA:=HA.out.lt;have ao:=Hq HA.out.bel;have aT:w.heap.size<W2.heap.size:=by omega
 have am:w.heap.size+1<W2.heap.size:=by omega
 have bO:w.heap.size≠w.heap.size+1:=by omega
 have bN:xq≠w.heap.size+1:=by omega
 have ay:=Hq HA.out.rs.ty;have ak:=Hq (HS.out.later HA.out.bel)
 cases k1:(kind==75)
 ·have m1:¬kind=75:=by simpa using k1
  rw[if_neg m1] at Z;clear m1
  cases k2:(kind==83)
  ·have m2:¬kind=83:=by simpa using k2
   rw[if_neg m2] at Z;clear m2
   cases k3:(kind==68)
   ·have m3:¬kind=68:=by simpa using k3
    rw[if_neg m3] at Z;clear m3
    cases k4:(kind==70)
    ·have m4:¬kind=70:=by simpa using k4
     rw[if_neg m4] at Z;clear m4;obtain⟨⟨d0,d1,d2,d3,d4⟩,⟨⟨r0,r1,r2,r3,r4⟩,f,_⟩,⟨x0,x1,x2,x3,x4,x5⟩,fx,_,_,_⟩:=HA.out;have f0:=f 0 (by decide);have f1:=f 1 (by decide);have f2:=f 2 (by decide);have f3:=f 3 (by decide);have f4:=f 4 (by decide)
     have g5:=fx 5 (by decide)
     clear f fx;have R4:Hid (StAt _ s (.slice (some ⟨b,O,none⟩) s.slots.length I) (.slice G s.ends.length d)):=ak.out.store ay.out (.string s.tab) (.int .i64 s.clock) (.int .i64 s.next) (.slice (some ⟨b,O,none⟩) s.slots.length I) (.slice G s.ends.length d);go_wp2_with fail;refine bodyPost_ret (v:=.tuple #[stV s (.slice (some ⟨b,O,none⟩) s.slots.length I) (.slice G s.ends.length d),.bool false]) (by simp[results,Tryz.results199,go_sem,r0,r1,r2,r3,r4]) rfl ?_
     rw[Z.out];exact⟨⟨_,_,rfl,R4.out⟩,dD ao.out (by omega) _ _ _ _ _⟩
    ·have m4:kind=70:=by simpa using k4
     rw[if_pos m4] at Z;clear m4;obtain⟨⟨d0,d1,d2,d3,d4⟩,⟨⟨r0,r1,r2,r3,r4⟩,f,_⟩,⟨x0,x1,x2,x3,x4,x5⟩,fx,_,_,_⟩:=HA.out;have f0:=f 0 (by decide);have f1:=f 1 (by decide);have f2:=f 2 (by decide);have f3:=f 3 (by decide);have f4:=f 4 (by decide)
     have g5:=fx 5 (by decide)
     clear f fx;go_wp2_with fail
     go_region_held3 (fun w'=>∀b o,b<W2.heap.size→b≠w.heap.size+1→w'.cell? ⟨b,o,none⟩=W2.cell? ⟨b,o,none⟩)
      ((intro b' o' h1 h2;first |(rw[fa h2];exact J.cell (p:=⟨b',o',none⟩) h1)|(exact J.cell (p:=⟨b',o',none⟩) h1)|(exact Y.cell (p:=⟨b',o',none⟩) h1)|rfl))
      (first
       | (go_at_call 217;refine (ms s i j (.slice (some ⟨b,O,none⟩) s.slots.length I) (.slice G s.ends.length d) _ HO.out.tab hl hE hi bk.out hj bD bF bm.1 bm.2 ?hs).mono ?_;(case hs=>exact ak.out.later (Below.refl _ _).drew);rintro e w4 ⟨⟨bW,a6,rfl,Q⟩,ai⟩;have J:Below W2.heap.size W2 w4:=(Below.refl _ _).drew.trans ai;obtain⟨au,a7⟩:=dT J;obtain⟨af,V,rfl,aP⟩:=Q.sl.form;obtain⟨ae,U,rfl,aO⟩:=Q.en.form))
     go_wp2_with fail;have H4:Hid (StAt _ (Bx.failed s i) _ _):=Q.store (ay.out.later J) (.string (Bx.failed s i).tab) (.int .i64 (Bx.failed s i).clock) (.int .i64 (Bx.failed s i).next) (.slice af (Bx.failed s i).slots.length V) (.slice ae (Bx.failed s i).ends.length U);have B4:=Hq (ao.out.trans (J.mono ao.out.size));refine bodyPost_ret (v:=.tuple #[stV (Bx.failed s i) (.slice af (Bx.failed s i).slots.length V) (.slice ae (Bx.failed s i).ends.length U),.bool (Bx.slAt s i).runs]) (by simp[results,Tryz.results199,go_sem,au,am,r0,r1,r2,r3,r4]) rfl ?_
     rw[Z.out];exact⟨⟨_,_,rfl,H4.out⟩,dD B4.out (by omega) _ _ _ _ _⟩
   ·have m3:kind=68:=by simpa using k3
    rw[if_pos m3,rc] at Z;clear m3;obtain⟨⟨d0,d1,d2,d3,d4⟩,⟨⟨r0,r1,r2,r3,r4⟩,f,_⟩,⟨x0,x1,x2,x3,x4,x5⟩,fx,_,_,_⟩:=HA.out;have f0:=f 0 (by decide);have f1:=f 1 (by decide);have f2:=f 2 (by decide);have f3:=f 3 (by decide);have f4:=f 4 (by decide)
    have g5:=fx 5 (by decide)
    clear f fx;go_wp2_with fail
    go_region_held3 (fun w'=>∀b o,b<W2.heap.size→b≠w.heap.size+1→w'.cell? ⟨b,o,none⟩=W2.cell? ⟨b,o,none⟩)
     ((intro b' o' h1 h2;first |(rw[fa h2];exact J.cell (p:=⟨b',o',none⟩) h1)|(exact J.cell (p:=⟨b',o',none⟩) h1)|(exact Y.cell (p:=⟨b',o',none⟩) h1)|rfl))
     (first
      | (go_at_call 216;refine (fu s i (.slice (some ⟨b,O,none⟩) s.slots.length I) (.slice G s.ends.length d) _ hl ?hs).mono ?_;(case hs=>exact ak.out.later (Below.refl _ _).drew);rintro e w3 ⟨⟨v,rfl,av⟩,aw⟩;have Y:Below W2.heap.size W2 w3:=(Below.refl _ _).drew.trans aw)
      | (go_at_call 215;refine (eV s (Bx.withoutL s.slots i) _ n _ (.slice (some ⟨b,O,none⟩) s.slots.length I) (.slice G s.ends.length d) w3 hE ?hL ?hs).mono ?_;(case hL=>exact TRow.of_own av);(case hs=>exact ak.out.later Y);rintro e w4 ⟨⟨a6,rfl,Q⟩,ai⟩;have J:Below W2.heap.size W2 w4:=Y.trans (ai.mono Y.size);obtain⟨au,a7⟩:=dT J;obtain⟨af,V,rfl,aP⟩:=Q.sl.form;obtain⟨ae,U,rfl,aO⟩:=Q.en.form))
    go_wp2_with fail;have H4:Hid (StAt _ (Bx.with' s (Bx.withoutL s.slots i) n {data:= #[100]}) _ _):=Q.store (ay.out.later J) (.string (Bx.with' s (Bx.withoutL s.slots i) n {data:= #[100]}).tab) (.int .i64 (Bx.with' s (Bx.withoutL s.slots i) n {data:= #[100]}).clock) (.int .i64 (Bx.with' s (Bx.withoutL s.slots i) n {data:= #[100]}).next) (.slice af (Bx.with' s (Bx.withoutL s.slots i) n {data:= #[100]}).slots.length V) (.slice ae (Bx.with' s (Bx.withoutL s.slots i) n {data:= #[100]}).ends.length U);have B4:=Hq (ao.out.trans (J.mono ao.out.size));refine bodyPost_ret (v:=.tuple #[stV (Bx.with' s (Bx.withoutL s.slots i) n {data:= #[100]}) (.slice af (Bx.with' s (Bx.withoutL s.slots i) n {data:= #[100]}).slots.length V) (.slice ae (Bx.with' s (Bx.withoutL s.slots i) n {data:= #[100]}).ends.length U),.bool (Bx.slAt s i).runs]) (by simp[results,Tryz.results199,go_sem,au,am,r0,r1,r2,r3,r4]) rfl ?_
    rw[Z.out];exact⟨⟨_,_,rfl,H4.out⟩,dD B4.out (by omega) _ _ _ _ _⟩
  ·have m2:kind=83:=by simpa using k2
   rw[if_pos m2] at Z;clear m2;obtain⟨⟨d0,d1,d2,d3,d4⟩,⟨⟨r0,r1,r2,r3,r4⟩,f,_⟩,⟨x0,x1,x2,x3,x4,x5⟩,fx,_,_,_⟩:=HA.out;have f0:=f 0 (by decide);have f1:=f 1 (by decide);have f2:=f 2 (by decide);have f3:=f 3 (by decide);have f4:=f 4 (by decide)
   have g5:=fx 5 (by decide)
   clear f fx;go_wp2_with fail;refine (gG s i j (.slice (some ⟨b,O,none⟩) s.slots.length I) (.slice G s.ends.length d) _ HO.out.tab hl hi bk.out hj ak.out).mono ?_;rintro e w5 ⟨rfl,aV⟩;clear d0 d1 d2 d3 d4 r0 r1 r2 r3 r4 x0 x1 x2 x3 x4 x5 f0 f1 f2 f3 f4 g5;have aJ:=Hq (HA.out.later aV);have az:=Hq (ak.out.later aV);have aR:=Hq (ay.out.later aV);have a4:=Hq aJ.out.bel;have bq:=aJ.out.lt;clear HA ak ay ao aV aT am bA;have aT:w.heap.size<w5.heap.size:=by omega
   have am:w.heap.size+1<w5.heap.size:=by omega
   obtain⟨⟨d0,d1,d2,d3,d4⟩,⟨⟨r0,r1,r2,r3,r4⟩,f,_⟩,⟨x0,x1,x2,x3,x4,x5⟩,fx,_,_,_⟩:=aJ.out;have f0:=f 0 (by decide);have f1:=f 1 (by decide);have f2:=f 2 (by decide);have f3:=f 3 (by decide);have f4:=f 4 (by decide)
   have g5:=fx 5 (by decide)
   clear f fx;generalize Bx.locked s i=lk at *;generalize Bx.slAt s i=x at *
   cases e1:x.runs
   ·by_cases e2:s.clock<x.frm
    ·have aj:Hid (Bx.aboutP s kind n=(s,false)):=by unfold Hid;rw[Z.out,if_pos (Or.inr (Or.inl e2))]
     rw[e1] at x5;have R4:Hid (StAt _ s (.slice (some ⟨b,O,none⟩) s.slots.length I) (.slice G s.ends.length d)):=az.out.store aR.out (.string s.tab) (.int .i64 s.clock) (.int .i64 s.next) (.slice (some ⟨b,O,none⟩) s.slots.length I) (.slice G s.ends.length d);go_wp2_with fail;refine bodyPost_ret (v:=.tuple #[stV s (.slice (some ⟨b,O,none⟩) s.slots.length I) (.slice G s.ends.length d),.bool false]) (by simp[results,Tryz.results199,go_sem,r0,r1,r2,r3,r4]) rfl ?_
     rw[aj.out];exact⟨⟨_,_,rfl,R4.out⟩,dD a4.out (by omega) _ _ _ _ _⟩
    ·cases lk
     ·have aj:Hid (Bx.aboutP s kind n=(Bx.with' s (Bx.putL s.slots i {x with runs:=true}) 0 ByteArray.empty,true)):=by
       unfold Hid;rw[Z.out,if_neg (by rw[e1];simp;omega)]
      rw[e1] at x5;have aC:=aJ.out.run true;go_upto_region 13 with fail;clear d0 d1 d2 d3 d4 r0 r1 r2 r3 r4 x0 x1 x2 x3 x4 x5 f0 f1 f2 f3 f4 g5 aT am bq aJ;have bp:=Hq (HS.out.later aC.bel);generalize w5.setCell ⟨xq,5,none⟩ (.bool true)=W6 at *;generalize ({x with runs:=true}:Bx.Sl)=y at *;have br:Hid (Typed W6 (w.heap.size+1) 130):=aC.rs.ty;have bn:Hid (Below w.heap.size w W6):=aC.bel;have bV:=aC.lt;have aT:w.heap.size<W6.heap.size:=by omega
      have am:w.heap.size+1<W6.heap.size:=by omega
      obtain⟨⟨d0,d1,d2,d3,d4⟩,⟨⟨r0,r1,r2,r3,r4⟩,f,_⟩,⟨x0,x1,x2,x3,x4,x5⟩,fx,_,_,_⟩:=aC;have f0:=f 0 (by decide);have f1:=f 1 (by decide);have f2:=f 2 (by decide);have f3:=f 3 (by decide);have f4:=f 4 (by decide)
      have g5:=fx 5 (by decide)
      clear f fx
      go_region_held3 (fun w'=>∀b o,b<W6.heap.size→b≠w.heap.size+1→w'.cell? ⟨b,o,none⟩=W6.cell? ⟨b,o,none⟩)
       ((intro b' o' h1 h2;first |(rw[fa h2];exact J.cell (p:=⟨b',o',none⟩) h1)|(exact J.cell (p:=⟨b',o',none⟩) h1)|(exact Y.cell (p:=⟨b',o',none⟩) h1)|rfl))
       (first
        | (go_at_call 173;refine (ju s i y (.slice (some ⟨b,O,none⟩) s.slots.length I) (.slice G s.ends.length d) _ hl ?hs).mono ?_;(case hs=>exact bp.out.later (Below.refl _ _).drew);rintro e w3 ⟨⟨v,rfl,av⟩,aw⟩;have Y:Below W6.heap.size W6 w3:=(Below.refl _ _).drew.trans aw)
        | (go_at_call 215;refine (eV s (Bx.putL s.slots i y) _ 0 _ (.slice (some ⟨b,O,none⟩) s.slots.length I) (.slice G s.ends.length d) w3 hE ?hL ?hs).mono ?_;(case hL=>exact TRow.of_own av);(case hs=>exact bp.out.later Y);rintro e w4 ⟨⟨a6,rfl,Q⟩,ai⟩;have J:Below W6.heap.size W6 w4:=Y.trans (ai.mono Y.size);obtain⟨au,a7⟩:=dT J;obtain⟨af,V,rfl,aP⟩:=Q.sl.form;obtain⟨ae,U,rfl,aO⟩:=Q.en.form))
      go_wp2_with fail;have H4:Hid (StAt _ (Bx.with' s (Bx.putL s.slots i y) 0 {data:= #[]}) _ _):=Q.store (br.out.later J) (.string (Bx.with' s (Bx.putL s.slots i y) 0 {data:= #[]}).tab) (.int .i64 (Bx.with' s (Bx.putL s.slots i y) 0 {data:= #[]}).clock) (.int .i64 (Bx.with' s (Bx.putL s.slots i y) 0 {data:= #[]}).next) (.slice af (Bx.with' s (Bx.putL s.slots i y) 0 {data:= #[]}).slots.length V) (.slice ae (Bx.with' s (Bx.putL s.slots i y) 0 {data:= #[]}).ends.length U);have B4:=Hq (bn.out.trans (J.mono bn.out.size));refine bodyPost_ret (v:=.tuple #[stV (Bx.with' s (Bx.putL s.slots i y) 0 {data:= #[]}) (.slice af (Bx.with' s (Bx.putL s.slots i y) 0 {data:= #[]}).slots.length V) (.slice ae (Bx.with' s (Bx.putL s.slots i y) 0 {data:= #[]}).ends.length U),.bool true]) (by simp[results,Tryz.results199,go_sem,au,am,r0,r1,r2,r3,r4]) rfl ?_
      rw[aj.out];exact⟨⟨_,_,rfl,H4.out⟩,dD B4.out (by omega) _ _ _ _ _⟩
     ·have aj:Hid (Bx.aboutP s kind n=(s,false)):=by unfold Hid;rw[Z.out,if_pos (Or.inr (Or.inr rfl))]
      rw[e1] at x5;have R4:Hid (StAt _ s (.slice (some ⟨b,O,none⟩) s.slots.length I) (.slice G s.ends.length d)):=az.out.store aR.out (.string s.tab) (.int .i64 s.clock) (.int .i64 s.next) (.slice (some ⟨b,O,none⟩) s.slots.length I) (.slice G s.ends.length d);go_wp2_with fail;refine bodyPost_ret (v:=.tuple #[stV s (.slice (some ⟨b,O,none⟩) s.slots.length I) (.slice G s.ends.length d),.bool false]) (by simp[results,Tryz.results199,go_sem,r0,r1,r2,r3,r4]) rfl ?_
      rw[aj.out];exact⟨⟨_,_,rfl,R4.out⟩,dD a4.out (by omega) _ _ _ _ _⟩
   ·have aj:Hid (Bx.aboutP s kind n=(s,false)):=by unfold Hid;rw[Z.out,if_pos (Or.inl e1)]
    rw[e1] at x5;have R4:Hid (StAt _ s (.slice (some ⟨b,O,none⟩) s.slots.length I) (.slice G s.ends.length d)):=az.out.store aR.out (.string s.tab) (.int .i64 s.clock) (.int .i64 s.next) (.slice (some ⟨b,O,none⟩) s.slots.length I) (.slice G s.ends.length d);go_wp2_with fail;refine bodyPost_ret (v:=.tuple #[stV s (.slice (some ⟨b,O,none⟩) s.slots.length I) (.slice G s.ends.length d),.bool false]) (by simp[results,Tryz.results199,go_sem,r0,r1,r2,r3,r4]) rfl ?_
    rw[aj.out];exact⟨⟨_,_,rfl,R4.out⟩,dD a4.out (by omega) _ _ _ _ _⟩
 ·have m1:kind=75:=by simpa using k1
  rw[if_pos m1,rb] at Z;clear m1;obtain⟨⟨d0,d1,d2,d3,d4⟩,⟨⟨r0,r1,r2,r3,r4⟩,f,_⟩,⟨x0,x1,x2,x3,x4,x5⟩,fx,_,_,_⟩:=HA.out;have f0:=f 0 (by decide);have f1:=f 1 (by decide);have f2:=f 2 (by decide);have f3:=f 3 (by decide);have f4:=f 4 (by decide)
  have g5:=fx 5 (by decide)
  clear f fx;go_wp2_with fail
  go_region_held3 (fun w'=>∀b o,b<W2.heap.size→b≠w.heap.size+1→w'.cell? ⟨b,o,none⟩=W2.cell? ⟨b,o,none⟩)
   ((intro b' o' h1 h2;first |(rw[fa h2];exact J.cell (p:=⟨b',o',none⟩) h1)|(exact J.cell (p:=⟨b',o',none⟩) h1)|(exact Y.cell (p:=⟨b',o',none⟩) h1)|rfl))
   (first
    | (go_at_call 216;refine (fu s i (.slice (some ⟨b,O,none⟩) s.slots.length I) (.slice G s.ends.length d) _ hl ?hs).mono ?_;(case hs=>exact ak.out.later (Below.refl _ _).drew);rintro e w3 ⟨⟨v,rfl,av⟩,aw⟩;have Y:Below W2.heap.size W2 w3:=(Below.refl _ _).drew.trans aw)
    | (go_at_call 215;refine (eV s (Bx.withoutL s.slots i) _ n _ (.slice (some ⟨b,O,none⟩) s.slots.length I) (.slice G s.ends.length d) w3 hE ?hL ?hs).mono ?_;(case hL=>exact TRow.of_own av);(case hs=>exact ak.out.later Y);rintro e w4 ⟨⟨a6,rfl,Q⟩,ai⟩;have J:Below W2.heap.size W2 w4:=Y.trans (ai.mono Y.size);obtain⟨au,a7⟩:=dT J;obtain⟨af,V,rfl,aP⟩:=Q.sl.form;obtain⟨ae,U,rfl,aO⟩:=Q.en.form))
  go_wp2_with fail;have H4:Hid (StAt _ (Bx.with' s (Bx.withoutL s.slots i) n {data:= #[107]}) _ _):=Q.store (ay.out.later J) (.string (Bx.with' s (Bx.withoutL s.slots i) n {data:= #[107]}).tab) (.int .i64 (Bx.with' s (Bx.withoutL s.slots i) n {data:= #[107]}).clock) (.int .i64 (Bx.with' s (Bx.withoutL s.slots i) n {data:= #[107]}).next) (.slice af (Bx.with' s (Bx.withoutL s.slots i) n {data:= #[107]}).slots.length V) (.slice ae (Bx.with' s (Bx.withoutL s.slots i) n {data:= #[107]}).ends.length U);have B4:=Hq (ao.out.trans (J.mono ao.out.size));refine bodyPost_ret (v:=.tuple #[stV (Bx.with' s (Bx.withoutL s.slots i) n {data:= #[107]}) (.slice af (Bx.with' s (Bx.withoutL s.slots i) n {data:= #[107]}).slots.length V) (.slice ae (Bx.with' s (Bx.withoutL s.slots i) n {data:= #[107]}).ends.length U),.bool true]) (by simp[results,Tryz.results199,go_sem,au,am,r0,r1,r2,r3,r4]) rfl ?_
  rw[Z.out];exact⟨⟨_,_,rfl,H4.out⟩,dD B4.out (by omega) _ _ _ _ _⟩
theorem rX (b j:Nat) (hb:b<256):((b:Int) % 4294967296 / 2 ^ j)=((b / 2 ^ j:Nat):Int):=by
 have e:(b:Int) % 4294967296=(b:Int):=by omega
 rw[e];push_cast;rfl
theorem sp (b j c:Nat) (hb:b<256) (d:c<4294967296):bits .xor .u32 (c:Int) ((b:Int) % 4294967296 / 2 ^ j)=((c ^^^ (b / 2 ^ j):Nat):Int):=by
 rw[rX b j hb];exact u32_xor_nat c _ d (Nat.lt_of_le_of_lt (Nat.div_le_self _ _) (by omega))
theorem p6 (c:Nat) (d:c<4294967296):bits .xor .u32 ((c:Int) / 2) 3988292384=((c / 2 ^^^ Crc.poly:Nat):Int):=by
 have:=u32_xor_nat (c / 2) Crc.poly (by omega) (by decide)
 have e:((Crc.poly:Nat):Int)=3988292384:=rfl;rw[e] at this;simpa using this
set_option maxHeartbeats 400000 in
theorem qI (s:ByteArray) (w:World) (hs:s.size≤maxLen):
 Calls Tryz.prog 153 #[.string s] w fun e w'=>e=.returned (.int .i64 (Crc.sumR s))∧w'=w:=by
 unfold maxLen at hs
 go_enter Tryz.func153,Tryz.ntmps153
 go_wp2_with fail
 go_loop [3,4] (fun c i=>∃(k:Nat),k≤s.size∧i=.int .i64 k∧c=.int .u32 (Crc.crc (s.data.toList.take k):Int)) (fun _ i=>s.size-(intOf i).toNat)
 case atStart=>exact⟨0,Nat.zero_le _,rfl,rfl⟩
 case round=>
  obtain⟨k,hk,rfl,rfl⟩:=hrel;obtain⟨x,G⟩:∃x:Nat,x=Crc.crc (s.data.toList.take k):=⟨_,rfl⟩;have V:x<4294967296:=by rw[G];exact Crc.crc_lt _
  have J:Hid (x=Crc.crc (s.data.toList.take k)):=G;rw[←G];clear G
  by_cases Q:k<s.size
  ·have HB:Hid (Crc.crc (s.data.toList.take (k+1))=Crc.bitsK s[k].toNat x 8):=by unfold Hid;rw[Crc.crc_step s k Q,←J.out];rfl
   go_wp2_with fail
   go_loop [3,5] (fun c i=>∃(j:Nat),j≤8∧i=.int .i64 j∧c=.int .u32 (Crc.bitsK s[k].toNat x j:Int)) (fun _ i=>8-(intOf i).toNat)
   case atStart=>exact⟨0,Nat.zero_le _,rfl,rfl⟩
   case round=>
    obtain⟨j,hj,rfl,rfl⟩:=hrel;obtain⟨c,d⟩:∃c:Nat,c=Crc.bitsK s[k].toNat x j:=⟨_,rfl⟩;have I:c<4294967296:=by rw[d];exact Crc.bitsK_lt V j
    have O:Hid (c=Crc.bitsK s[k].toNat x j):=d;rw[←d];clear d
    by_cases Z:j<8
    ·have hb:=s[k].toNat_lt;have U:=sp s[k].toNat j c (by omega) I
     have Y:Hid (Crc.bitsK s[k].toNat x (j+1)=Crc.bitStep s[k].toNat j c):=by unfold Hid;rw[O.out];rfl
     by_cases q:(c ^^^ (s[k].toNat / 2 ^ j)) % 2=1
     ·have t:((bits .xor .u32 (c:Int) ((s[k].toNat:Int) % 4294967296 / 2 ^ j)).tmod 2==1)=true:=by
       rw[U,Int.tmod_eq_emod_of_nonneg (by omega)];simp;omega
      have P:Hid (bits .xor .u32 ((c:Int) / 2) 3988292384=(Crc.bitsK s[k].toNat x (j+1):Int)):=by
       unfold Hid;rw[p6 c I,Y.out,Crc.bitStep,if_pos q]
      clear U q hb;go_wp2_with fail
      go_round
      case rel=>exact⟨j+1,by omega,by go_num,by rw[P.out]⟩
      case measure=>simp[intOf];omega
     ·have t:((bits .xor .u32 (c:Int) ((s[k].toNat:Int) % 4294967296 / 2 ^ j)).tmod 2==1)=false:=by
       rw[U,Int.tmod_eq_emod_of_nonneg (by omega)];simp;omega
      have P:Hid ((c:Int) / 2=(Crc.bitsK s[k].toNat x (j+1):Int)):=by
       unfold Hid;rw[Y.out,Crc.bitStep,if_neg q];simp
      clear U q hb;go_wp2_with fail
      go_round
      case rel=>exact⟨j+1,by omega,by go_num,by rw[P.out]⟩
      case measure=>simp[intOf];omega
    ·obtain rfl:j=8:=by omega
     go_wp2_with fail
     go_round
     case rel=>exact⟨k+1,by omega,by go_num,by rw[HB.out,←O.out]⟩
     case measure=>simp[intOf];omega
  ·obtain rfl:k=s.size:=by omega
   have HE:Hid ((4294967295-(x:Int))=Crc.sumR s):=by unfold Hid;rw[Crc.sumR,J.out,Crc.crc_whole]
   go_wp2_with fail;go_ret;exact⟨ij HE.out,rfl⟩
attribute [local go_sem] re j7 iA
attribute [local go_sem] gN Bx.be_size
set_option maxHeartbeats 1000000 in
theorem jJ (k:Nat):∀(n:Int) (w:World),0≤n→n≤9223372036854775807→k≤10→
 Calls Tryz.prog 152 #[.int .i64 n,.int .i64 k] w fun e G=>e=.returned (.string (Bx.be n k))∧Below w.heap.size w G:=by
 induction k with
 | zero=>
   intro n w h1 h2 _
   go_enter Tryz.func152,Tryz.ntmps152
   go_wp2_with fail;go_ret;exact⟨rfl,Below.refl _ _⟩
 | succ k I=>
   intro n w h1 h2 hk;have U:Hid (∀(a b:Int) (w:World),a=n / 256→b=k→Calls Tryz.prog 152 #[.int .i64 a,.int .i64 b] w fun e G=>e=.returned (.string (Bx.be (n / 256) k))∧Below w.heap.size w G):=fun a b w Q O=>by subst Q;subst O;exact I (n / 256) w (by omega) (by omega) (by omega)
   clear I;have J:IntKind.i64.wrap (n.tdiv 256)=n / 256:=by rw[Int.tdiv_eq_ediv_of_nonneg h1,IntKind.wrap_i64];omega
   have q1:IntKind.u8.wrap (n.tmod 256)=n % 256:=by rw[Int.tmod_eq_emod_of_nonneg h1,IntKind.wrap_u8];omega
   have V:IntKind.i64.wrap (k:Int)=k:=by rw[IntKind.wrap_i64];omega
   go_enter Tryz.func152,Tryz.ntmps152
   go_wp2_with fail;have q3:¬9223372036854775807<k+1:=by omega
   go_region_with ((go_at_call 152;refine (U.out _ _ _ (by first |exact J|rfl) (by first |exact V|rfl)).mono ?_;rintro e w2 ⟨rfl,d⟩;obtain⟨Z,Y⟩:=dT d))
   all_goals (go_wp2_with fail;go_ret)
   ·exact⟨ek (b1_be n k),((Below.refl _ _).drew.trans d).alloc (by have:=d.size;exact this) _⟩
   ·exact⟨ek (b1_be n k),((cw _ _).drew).trans (d.mono (by simp))⟩
   ·exact⟨ek (b1_be n k),((cw _ _).drew).trans (d.mono (by simp))⟩
theorem gu (a b n:Int) (k:Nat) (w:World) (I:a=n) (hb:b=k) (h1:0≤n) (h2:n≤9223372036854775807) (G:k≤10):
 Calls Tryz.prog 152 #[.int .i64 a,.int .i64 b] w fun e d=>e=.returned (.string (Bx.be n k))∧Below w.heap.size w d:=by
 subst I;subst hb;exact jJ k a w h1 h2 G
set_option maxHeartbeats 1000000 in
theorem fY (s:ByteArray) (w:World) (V:s.size≤100000):
 Calls Tryz.prog 116 #[.string s] w fun e I=>e=.returned (.string (Bx.frame s))∧Below w.heap.size w I:=by
 have B:=lZ s;have U:¬9223372036854775807<2+s.size:=by omega
 have Q:¬9223372036854775807<2+s.size+4:=by omega
 have G:Hid (Bx.be (s.size:Int) 2++s++Bx.be (Crc.sumR s) 4=Bx.frame s):=rfl
 go_enter Tryz.func116,Tryz.ntmps116
 go_wp2_with fail;refine (gu _ _ (s.size:Int) 2 _ rfl rfl (by omega) (by omega) (by decide)).mono ?_
 rintro e w1 ⟨rfl,b1⟩;go_wp2_with fail;refine (qI s _ (by unfold maxLen;omega)).mono ?_
 rintro e J ⟨rfl,rfl⟩;go_wp2_with fail;refine (gu _ _ (Crc.sumR s) 4 _ rfl rfl (by omega) (by omega) (by decide)).mono ?_
 rintro e O ⟨rfl,d⟩;go_wp2_with fail;go_ret;exact⟨ek G.out,b1.trans (d.mono b1.size)⟩
abbrev chV (c:Bx.Ch):Value:=.agg #[.int .u8 c.kind,.string c.tab,.int .i64 c.n]
set_option maxHeartbeats 1000000 in
theorem qM (c:Bx.Ch) (w:World) (Z:0≤c.kind) (U:c.kind≤255) (Y:0≤c.n) (Q:c.n≤9223372036854775807) (V:c.tab.size≤100000):
 Calls Tryz.prog 178 #[chV c] w fun e O=>e=.returned (.string (Bx.body c))∧Below w.heap.size w O:=by
 obtain⟨k,t,n⟩:=c
 dsimp only at *
 have J:k % 256=k:=by omega
 have K:strOfNums [k]=Bx.b1 k:=by unfold strOfNums Bx.b1;rw[J];rfl
 have d:Hid (Bx.body ⟨k,t,n⟩=strOfNums [k]++(if k=84 then t else if k=67 then Bx.be n 5 else Bx.be n 2)):=by rw[K];rfl
 clear K;have y1:¬9223372036854775807<1+t.size:=by omega
 cases G:(k==84)
 ·have n1:¬k=84:=by simpa using G
  rw[if_neg n1] at d
  cases I:(k==67)
  ·have n2:¬k=67:=by simpa using I
   rw[if_neg n2] at d;clear n1 n2
   go_enter Tryz.func178,Tryz.ntmps178
   go_wp2_with fail;refine (gu _ _ n 2 _ rfl rfl (by omega) (by omega) (by decide)).mono ?_
   rintro e w1 ⟨rfl,b1⟩;go_wp2_with fail;go_ret;exact⟨ek d.out.symm,(((cw _ _).alloc (by simp) _).trans (b1.mono (by simp;omega)))⟩
  ·have n2:k=67:=by simpa using I
   rw[if_pos n2] at d;clear n1 n2
   go_enter Tryz.func178,Tryz.ntmps178
   go_wp2_with fail;refine (gu _ _ n 5 _ rfl rfl (by omega) (by omega) (by decide)).mono ?_
   rintro e w1 ⟨rfl,b1⟩;go_wp2_with fail;go_ret;exact⟨ek d.out.symm,(((cw _ _).alloc (by simp) _).trans (b1.mono (by simp;omega)))⟩
 ·have n1:k=84:=by simpa using G
  rw[if_pos n1] at d;clear n1
  go_enter Tryz.func178,Tryz.ntmps178
  go_wp2_with fail;go_ret;exact⟨ek d.out.symm,(cw _ _).alloc (by simp) _⟩
end Go.Proofs.YtdajolpoiffimabGreatDoor

namespace Go.Proofs.YtdajolpoiffimabGreatDoor
open Go.RowKit
def chC (c:Bx.Ch):List Value:=[.int .u8 c.kind,.string c.tab,.int .i64 c.n]
theorem fK (c:Bx.Ch):(chC c).length=3:=rfl
structure ChOk (c:Bx.Ch):Prop where
 k1:0≤c.kind
 k2:c.kind≤255
 n1:0≤c.n
 n2:c.n≤9223372036854775807
 t:c.tab.size≤300
theorem iq (L:List Bx.Ch) (k:Nat) (h:k<L.length):Bx.frames (L.take (k+1))=Bx.frames (L.take k)++Bx.frame (Bx.body L[k]):=by
 rw[List.take_succ_eq_append_getElem h,Bx.frames_snoc]
theorem gW (L:List Bx.Ch) (h:∀c∈L,c.tab.size≤300) (k:Nat) (d:k≤L.length):(Bx.frames (L.take k)).size≤k*400:=by
 induction k with
 | zero=>simp[Bx.frames]
 | succ k e=>
   rw[iq L k d,ByteArray.size_append,Bx.frame_size];have:=Bx.body_size L[k];have:=h L[k] (List.getElem_mem _);have:=e (by omega)
   omega
set_option maxHeartbeats 1000000 in
theorem iQ (L:List Bx.Ch) (v:Value) (w:World) (hL:L.length≤100) (U:∀c∈L,ChOk c) (hR:RowAt w v L.length (L.flatMap chC)):
 Calls Tryz.prog 142 #[v] w fun e w'=>e=.returned (.string (Bx.frames L))∧Below w.heap.size w w':=by
 obtain⟨ad,ai,rfl,ac⟩:=hR.form;have Y:=Hq hR;have V:=Hq U;clear hR U
 go_enter Tryz.func142,Tryz.ntmps142
 go_wp2_with fail
 go_loopw [3,4] (fun x i wr=>∃k:Nat,k≤L.length∧i=.int .i64 k∧x=.string (Bx.frames (L.take k))∧Below w.heap.size w wr) (fun _ i _=>L.length-(intOf i).toNat)
 case atStart=>exact⟨0,Nat.zero_le _,rfl,rfl,Below.refl _ _⟩
 case round=>
  obtain⟨k,hk,rfl,rfl,hb⟩:=hrel;have hz:(Bx.frames (L.take k)).size≤k*400:=gW L (fun c h=>(V.out c h).t) k hk
  by_cases d:k<L.length
  ·obtain⟨b,G,aa,Z,_,I⟩:=(Y.out.later hb).some' (by omega)
   cases Z
   have c0:wr.cell? ⟨b,G+k*3,none⟩=some (.int .u8 L[k].kind):=RowAt.cell fK I k d 0 (by decide)
   have c1:wr.cell? ⟨b,G+k*3+1,none⟩=some (.string L[k].tab):=RowAt.cell fK I k d 1 (by decide)
   have c2:wr.cell? ⟨b,G+k*3+2,none⟩=some (.int .i64 L[k].n):=RowAt.cell fK I k d 2 (by decide)
   have O:Hid (ChOk L[k]):=V.out _ (List.getElem_mem _);have HF:Hid (Bx.frames (L.take k)++Bx.frame (Bx.body L[k])=Bx.frames (L.take (k+1))):=(iq L k d).symm;have ag:=Bx.body_size L[k];have ah:=O.out.t;clear I;generalize hx:L[k]=x at *;generalize Bx.frames (L.take k)=s at *;have b1:(0:Int)≤(k:Int):=by omega
   have b2:(k:Int)<(L.length:Int):=by omega
   have y1:¬9223372036854775807<s.size+(Bx.frame (Bx.body x)).size:=by rw[Bx.frame_size];omega
   go_wp2_with fail;refine (qM x _ O.out.k1 O.out.k2 O.out.n1 O.out.n2 (by omega)).mono ?_
   rintro e w1 ⟨rfl,J⟩;go_wp2_with fail;refine (fY _ _ (by omega)).mono ?_
   rintro e w2 ⟨rfl,Q⟩;go_wp2_with fail;go_roundw
   case rel=>exact⟨k+1,by omega,by go_num,by rw[HF.out],hb.trans ((J.trans (Q.mono J.size)).mono hb.size)⟩
   case measure=>simp[intOf];omega
  ·obtain rfl:k=L.length:=by omega
   go_wp2_with fail;go_ret;exact⟨ek (by rw[List.take_length]),hb⟩
end Go.Proofs.YtdajolpoiffimabGreatDoor

namespace Go.Proofs.YtdajolpoiffimabGreatDoor
open Go.RowKit
def tkC (x:Bx.Tk):List Value:=[.int .i64 x.num,.int .i64 x.at',.int .i64 x.since,.string x.heard]
theorem ec (x:Bx.Tk):(tkC x).length=4:=rfl
abbrev bxO (b:Bx.Bo) (sl en tk:Value):Obj:=.cells #[.int .i64 b.limit,.int .i64 b.room,.string b.now.tab,.int .i64 b.now.clock,.int .i64 b.now.next,sl,en,.string b.text,tk] 173
structure BoxIn (w:World) (B:Nat) (b:Bx.Bo) (sl en tk:Value):Prop where
 c0:w.cell? ⟨B,0,none⟩=some (.int .i64 b.limit)
 c1:w.cell? ⟨B,1,none⟩=some (.int .i64 b.room)
 c2:w.cell? ⟨B,2,none⟩=some (.string b.now.tab)
 c3:w.cell? ⟨B,3,none⟩=some (.int .i64 b.now.clock)
 c4:w.cell? ⟨B,4,none⟩=some (.int .i64 b.now.next)
 c5:w.cell? ⟨B,5,none⟩=some sl
 c6:w.cell? ⟨B,6,none⟩=some en
 c7:w.cell? ⟨B,7,none⟩=some (.string b.text)
 c8:w.cell? ⟨B,8,none⟩=some tk
 f:∀j:Nat,j<9→w.frozen? ⟨B,j,none⟩=false
 ty:Typed w B 173
 rows:StAt w b.now sl en
 tk:w.ownsRow (B+1) 220 4 tk b.talks.length (b.talks.flatMap tkC)
theorem BoxIn.tkr {w:World} {B:Nat} {b:Bx.Bo} {sl en tk:Value} (h:BoxIn w B b sl en tk):TRow w 220 tk b.talks.length (b.talks.flatMap tkC):=TRow.of_own h.tk
theorem BoxIn.later {w d:World} {B:Nat} {b:Bx.Bo} {sl en tk:Value} (h:BoxIn w B b sl en tk) (hb:Below w.heap.size w d):BoxIn d B b sl en tk:=
 ⟨cell_later hb h.c0,cell_later hb h.c1,cell_later hb h.c2,cell_later hb h.c3,cell_later hb h.c4,cell_later hb h.c5,cell_later hb h.c6,cell_later hb h.c7,cell_later hb h.c8,
  fun j e=>(hb.frozen (p:=⟨B,j,none⟩) h.ty.lt).trans (h.f j e),h.ty.later hb,h.rows.later hb,dU h.tk hb⟩
theorem BoxIn.new (w:World) (l r:Int):BoxIn (w.alloc (bxO ⟨l,r,Bx.first,ByteArray.empty,[]⟩ nilV nilV nilV)) w.heap.size ⟨l,r,Bx.first,ByteArray.empty,[]⟩ nilV nilV nilV:=by
 refine⟨?_,?_,?_,?_,?_,?_,?_,?_,?_,fun j _=>?_,Typed.new _ _ _,⟨TRow.nil _ _,TRow.nil _ _⟩,World.ownsRow_nil _ _ _ _⟩
 all_goals simp[go_sem]
def ZIn (W:World) (q n:Nat):Prop:=∀j:Nat,j<n→(∃u,W.cell? ⟨q,j,none⟩=some u)∧W.frozen? ⟨q,j,none⟩=false
theorem ZIn.new (w:World) (d:Array Value) (t:TypeId):ZIn (w.alloc (.cells d t)) w.heap.size d.size:=by
 intro j e;have hb:(w.alloc (.cells d t)).heap[w.heap.size]? =some (.cells d t (0,0)):=by show (w.heap.push (.cells d t))[w.heap.size]? =_;simp
 refine⟨⟨d[j],?_⟩,?_⟩
 ·rw[cell_of_row _ _ j d t (0,0) hb];simp[e]
 ·unfold World.frozen?;rw[hb];simp
theorem ZIn.later {W W':World} {q n:Nat} (h:ZIn W q n) (e:q<W.heap.size) (hb:Below W.heap.size W W'):ZIn W' q n:=
 fun j d=>⟨(h j d).1.elim fun u w=>⟨u,cell_later hb w⟩,(hb.frozen (p:=⟨q,j,none⟩) e).trans (h j d).2⟩
set_option maxHeartbeats 1000000 in
theorem dW (b:Bx.Bo) (B:Nat) (sl en tk:Value) (w:World) (hB:BoxIn w B b sl en tk):
 Calls Tryz.prog 75 #[.pointer (some ⟨B,0,none⟩)] w fun e U=>e=.returned (stV b.now sl en)∧Below w.heap.size w U:=by
 obtain⟨Q,G,rfl,O⟩:=hB.rows.sl.form;obtain⟨I,d,rfl,J⟩:=hB.rows.en.form;have V:=hB.ty.lt;obtain⟨c0,c1,c2,c3,c4,c5,c6,c7,c8,_,_,_,_⟩:=hB
 go_enter Tryz.func75,Tryz.ntmps75
 go_wp2_with fail;refine bodyPost_ret (v:=stV b.now (.slice Q b.now.slots.length G) (.slice I b.now.ends.length d)) (by simp[results,Tryz.results75,go_sem]) rfl ⟨rfl,cw _ _⟩
set_option maxHeartbeats 1000000 in
theorem i7 (w:World):Calls Tryz.prog 107 #[] w fun e d=>e=.returned (stV Bx.first nilV nilV)∧Below w.heap.size w d:=by
 go_enter Tryz.func107,Tryz.ntmps107
 go_wp2_with fail;refine bodyPost_ret (v:=stV Bx.first nilV nilV) (by simp[results,Tryz.results107,go_sem,Bx.first];rfl) rfl ⟨rfl,cw _ _⟩
set_option maxHeartbeats 1000000 in
theorem ji (l r:Int) (w:World):Calls Tryz.prog 106 #[.int .i64 l,.int .i64 r] w fun e V=>e=.returned (.bool (mayB l r))∧V=w:=by
 have G:Hid (mayB l r=decide (1≤l∧l≤4∧600≤r∧r≤4000)):=rfl
 by_cases h1:1≤l
 ·by_cases h2:l≤4
  ·by_cases I:600≤r
   ·by_cases O:r≤4000
    ·have d:Hid (mayB l r=true):=by unfold Hid;rw[G.out];exact decide_eq_true ⟨h1,h2,I,O⟩
     have J:decide (1≤l)=true:=decide_eq_true h1;have Q:decide (l≤4)=true:=decide_eq_true h2;have U:decide (600≤r)=true:=decide_eq_true I;clear G
     go_enter Tryz.func106,Tryz.ntmps106
     go_wp2_with fail;go_ret;exact⟨dy d.out.symm,rfl⟩
    ·have d:Hid (decide (r≤4000)=mayB l r):=by unfold Hid;rw[G.out,decide_eq_false O];exact (decide_eq_false (by omega)).symm
     have J:decide (1≤l)=true:=decide_eq_true h1;have Q:decide (l≤4)=true:=decide_eq_true h2;have U:decide (600≤r)=true:=decide_eq_true I;clear G O
     go_enter Tryz.func106,Tryz.ntmps106
     go_wp2_with fail;go_ret;exact⟨dy d.out,rfl⟩
   ·have d:Hid (mayB l r=false):=by unfold Hid;rw[G.out];exact decide_eq_false (by omega)
    have J:decide (1≤l)=true:=decide_eq_true h1;have Q:decide (l≤4)=true:=decide_eq_true h2;have U:decide (600≤r)=false:=decide_eq_false I;clear G I
    go_enter Tryz.func106,Tryz.ntmps106
    go_wp2_with fail;go_ret;exact⟨dy d.out.symm,rfl⟩
  ·have d:Hid (mayB l r=false):=by unfold Hid;rw[G.out];exact decide_eq_false (by omega)
   have J:decide (1≤l)=true:=decide_eq_true h1;have Q:decide (l≤4)=false:=decide_eq_false h2;clear G h2
   go_enter Tryz.func106,Tryz.ntmps106
   go_wp2_with fail;go_ret;exact⟨dy d.out.symm,rfl⟩
 ·have d:Hid (mayB l r=false):=by unfold Hid;rw[G.out];exact decide_eq_false (by omega)
  have J:decide (1≤l)=false:=decide_eq_false h1;clear G h1
  go_enter Tryz.func106,Tryz.ntmps106
  go_wp2_with fail;go_ret;exact⟨dy d.out.symm,rfl⟩
set_option maxHeartbeats 1000000 in
theorem rE (l r:Int) (w:World) (h:mayB l r=false):Calls Tryz.prog 69 #[.int .i64 l,.int .i64 r] w fun e d=>e=.returned (.tuple #[.pointer none,.int .i64 4])∧d=w:=by
 go_enter Tryz.func69,Tryz.ntmps69
 go_wp2_with fail;refine (ji l r _).mono ?_;rintro e w1 ⟨rfl,rfl⟩;go_wp2_with fail;go_ret2;exact⟨rfl,rfl⟩
set_option maxHeartbeats 1000000 in
theorem py (l r:Int) (w:World) (h:mayB l r=true):Calls Tryz.prog 69 #[.int .i64 l,.int .i64 r] w fun e G=>(∃B,e=.returned (.tuple #[.pointer (some ⟨B,0,none⟩),.int .i64 0])∧w.heap.size≤B∧BoxIn G B ⟨l,r,Bx.first,ByteArray.empty,[]⟩ nilV nilV nilV)∧Below w.heap.size w G:=by
 go_enter Tryz.func69,Tryz.ntmps69
 go_wp2_with fail;refine (ji l r _).mono ?_;rintro e w1 ⟨rfl,rfl⟩;go_wp2_with fail;refine (i7 _).mono ?_;rintro e w1 ⟨rfl,d⟩;have I:Hid (BoxIn _ w1.heap.size ⟨l,r,Bx.first,ByteArray.empty,[]⟩ nilV nilV nilV):=BoxIn.new w1 l r
 go_wp2_with fail;go_ret2;exact⟨⟨_,rfl,d.size,I.out⟩,d.alloc d.size _⟩
set_option maxHeartbeats 1000000 in
theorem qK (b:Bx.Bo) (B:Nat) (sl en tk:Value) (w:World) (hB:BoxIn w B b sl en tk):
 Calls Tryz.prog 71 #[.pointer (some ⟨B,0,none⟩)] w fun e d=>e=.returned (.string b.text)∧d=w:=by
 obtain⟨c0,c1,c2,c3,c4,c5,c6,c7,c8,_,_,_,_⟩:=hB
 go_enter Tryz.func71,Tryz.ntmps71
 go_wp2_with fail;go_ret;exact⟨rfl,rfl⟩
set_option maxHeartbeats 1000000 in
theorem gA (s:Bx.St) (sl en:Value) (w:World) (V:s.ends.length≤6) (hS:StAt w s sl en):
 Calls Tryz.prog 154 #[stV s sl en] w fun e J=>e=.returned en∧Below w.heap.size w J:=by
 obtain⟨U,O,rfl,G⟩:=hS.sl.form;obtain⟨Q,I,rfl,d⟩:=hS.en.form;have z:¬(6:Int)<(s.ends.length:Int):=by omega
 clear hS
 go_enter Tryz.func154,Tryz.ntmps154
 go_wp2_with fail;go_ret;exact⟨rfl,cw _ _⟩
abbrev viewV (s:Bx.St):Value:=.agg #[.int .i64 s.clock,.int .i64 s.next,.int .i64 s.slots.length,.int .i64 s.ends.length,.string s.tab]
set_option maxHeartbeats 1000000 in
theorem nG (b:Bx.Bo) (B:Nat) (sl en tk:Value) (w:World) (hE:b.now.ends.length≤6) (hB:BoxIn w B b sl en tk):
 Calls Tryz.prog 118 #[.pointer (some ⟨B,0,none⟩)] w fun e w'=>e=.returned (viewV b.now)∧Below w.heap.size w w':=by
 obtain⟨ad,Y,rfl,ak⟩:=hB.rows.sl.form;obtain⟨U,Q,rfl,ag⟩:=hB.rows.en.form;have HB:=Hq hB;clear hB
 go_enter Tryz.func118,Tryz.ntmps118
 go_wp2_with fail;refine (dW b B _ _ tk _ (HB.out.later (cw _ _))).mono ?_;rintro e w1 ⟨rfl,d⟩;have V:=(HB.out.later (cw _ _)).rows.later d;have hI:=StIn.new w1 b.now (.slice ad b.now.slots.length Y) (.slice U b.now.ends.length Q);have I:=cw w1 (stO b.now (.slice ad b.now.slots.length Y) (.slice U b.now.ends.length Q));have Z:=Hq (V.later I);have O:=d.size;go_wp2_with fail;refine (gA b.now _ _ _ hE Z.out).mono ?_;rintro e w2 ⟨rfl,G⟩;have J:ZIn w2 w.heap.size 5:=((((ZIn.new w #[.int .i64 0,.int .i64 0,.int .i64 0,.int .i64 0,.string {data:= #[]}] 36).later (by simp) d).later (by simp at O;omega) I).later (by simp at O;simp;omega) G)
 obtain⟨⟨u0,r0⟩,f0⟩:=J 0 (by decide)
 obtain⟨⟨u1,r1⟩,f1⟩:=J 1 (by decide)
 obtain⟨⟨u2,r2⟩,f2⟩:=J 2 (by decide)
 obtain⟨⟨u3,r3⟩,f3⟩:=J 3 (by decide)
 obtain⟨⟨u4,r4⟩,f4⟩:=J 4 (by decide)
 obtain⟨d0,d1,d2,d3,d4⟩:=hI.later G;have aa:=G.size;simp at O aa;have B3:Hid (Below w.heap.size w w2):=(((cw w _).trans (d.mono (by simp))).trans (I.mono (by omega))).trans (G.mono (by simp;omega))
 clear J hI V Z d I G;go_wp2_with fail;refine bodyPost_ret (v:=viewV b.now) (by simp[results,Tryz.results118,go_sem,r0,r1,r2,r3,r4]) rfl ⟨rfl,?_⟩
 repeat (refine Below.setCell ?_ (by simp) _)
 exact B3.out
end Go.Proofs.YtdajolpoiffimabGreatDoor

namespace Go.Proofs.YtdajolpoiffimabGreatDoor
open Go.RowKit
abbrev chO (c:Bx.Ch):Obj:=.cells #[.int .u8 c.kind,.string c.tab,.int .i64 c.n] 178
structure ChIn (W:World) (q:Nat) (c:Bx.Ch):Prop where
 c0:W.cell? ⟨q,0,none⟩=some (.int .u8 c.kind)
 c1:W.cell? ⟨q,1,none⟩=some (.string c.tab)
 c2:W.cell? ⟨q,2,none⟩=some (.int .i64 c.n)
theorem ChIn.later {W W':World} {q:Nat} {c:Bx.Ch} (h:ChIn W q c) (hb:Below W.heap.size W W'):ChIn W' q c:=⟨cell_later hb h.c0,cell_later hb h.c1,cell_later hb h.c2⟩
theorem ChIn.new (w:World) (c:Bx.Ch):ChIn (w.alloc (chO c)) w.heap.size c:=⟨by simp[go_sem],by simp[go_sem],by simp[go_sem]⟩
structure DIn (w W:World) (s:Bx.St) (sl en:Value) (c:Bx.Ch):Prop where
 st:StW W w.heap.size s sl en
 ch:ChIn W (w.heap.size+1) c
 rs:StW W (w.heap.size+2) stZ nilV nilV
 bel:Below w.heap.size w W
theorem DIn.later {w W W':World} {s:Bx.St} {sl en:Value} {c:Bx.Ch} (h:DIn w W s sl en c) (hb:Below W.heap.size W W'):DIn w W' s sl en c:=
 ⟨h.st.later hb,h.ch.later hb,h.rs.later hb,h.bel.trans (hb.mono h.bel.size)⟩
theorem DIn.new (w:World) (s:Bx.St) (sl en:Value) (c:Bx.Ch):DIn w (((w.alloc (stO s sl en)).alloc (chO c)).alloc (stO stZ nilV nilV)) s sl en c:=by
 have b1:=cw (w.alloc (stO s sl en)) (chO c);have d:=cw ((w.alloc (stO s sl en)).alloc (chO c)) (stO stZ nilV nilV);refine⟨((StW.new w s sl en).later b1).later d,?_,?_,((cw w _).alloc (by simp) _).alloc (by simp;omega) _⟩
 ·have:=(ChIn.new (w.alloc (stO s sl en)) c).later d
  simpa using this
 ·have:=StW.new ((w.alloc (stO s sl en)).alloc (chO c)) stZ nilV nilV
  simpa using this
set_option maxRecDepth 10000 in
set_option maxHeartbeats 4000000 in
theorem kt (s:Bx.St) (c:Bx.Ch) (sl en:Value) (w:World) (hO:Bx.StOk s) (ht:c.tab.size≤maxLen) (hS:StAt w s sl en):
 Calls Tryz.prog 172 #[stV s sl en,chV c] w fun e w'=>(∃am al,e=.returned (.tuple #[stV (Bx.doP s c).1 am al,.bool (Bx.doP s c).2])∧StAt w' (Bx.doP s c).1 am al)∧Below w.heap.size w w':=by
 obtain⟨Y,J,rfl,aL⟩:=hS.sl.form;obtain⟨I,d,rfl,aH⟩:=hS.en.form;have HS:=Hq hS;have HO:=Hq hO;have HD:Hid (DIn w _ s (.slice Y s.slots.length J) (.slice I s.ends.length d) c):=DIn.new w s _ _ c;clear hS hO
 go_enter Tryz.func172,Tryz.ntmps172
 go_upto_region 1 with fail;generalize ((w.alloc (stO s (.slice Y s.slots.length J) (.slice I s.ends.length d))).alloc (chO c)).alloc (stO stZ nilV nilV)=W at *;have hD:=HD.out
 cases k1:(c.kind==84)
 ·have m1:¬c.kind=84:=by simpa using k1
  cases k2:(c.kind==67)
  ·have m2:¬c.kind=67:=by simpa using k2
   have HP:Hid (Bx.doP s c=Bx.aboutP s c.kind c.n):=by unfold Hid Bx.doP;rw[if_neg m1,if_neg m2]
   obtain⟨⟨⟨d0,d1,d2,d3,d4⟩,_,_⟩,⟨e0,e1,e2⟩,_,_⟩:=hD;clear m1 m2;go_wp2_with fail;refine (oG s c.kind c.n _ _ _ HO.out (HS.out.later HD.out.bel)).mono ?_;rintro e w1 ⟨⟨am,al,rfl,O⟩,aa⟩;obtain⟨ac,Q,rfl,_⟩:=O.sl.form;obtain⟨ag,U,rfl,_⟩:=O.en.form;have G:=HD.out.later aa;have H4:Hid (StAt _ (Bx.aboutP s c.kind c.n).1 _ _):=O.store G.rs.ty (.string (Bx.aboutP s c.kind c.n).1.tab) (.int .i64 (Bx.aboutP s c.kind c.n).1.clock) (.int .i64 (Bx.aboutP s c.kind c.n).1.next) (.slice ac (Bx.aboutP s c.kind c.n).1.slots.length Q) (.slice ag (Bx.aboutP s c.kind c.n).1.ends.length U);have V:=Hq G.bel;obtain⟨⟨r0,r1,r2,r3,r4⟩,f,_⟩:=G.rs;have f0:=f 0 (by decide);have f1:=f 1 (by decide);have f2:=f 2 (by decide);have f3:=f 3 (by decide);have f4:=f 4 (by decide)
   clear f G d0 d1 d2 d3 d4 e0 e1 e2;go_wp2_with fail;refine bodyPost_ret (v:=.tuple #[stV (Bx.aboutP s c.kind c.n).1 (.slice ac (Bx.aboutP s c.kind c.n).1.slots.length Q) (.slice ag (Bx.aboutP s c.kind c.n).1.ends.length U),.bool (Bx.aboutP s c.kind c.n).2]) (by simp[results,Tryz.results172,go_sem,r0,r1,r2,r3,r4]) rfl ?_
   rw[HP.out];exact⟨⟨_,_,rfl,H4.out⟩,dD V.out (by omega) _ _ _ _ _⟩
  ·have m2:c.kind=67:=by simpa using k2
   have HP:Hid (Bx.doP s c=Bx.clockedP s c.n):=by unfold Hid Bx.doP;rw[if_neg m1,if_pos m2]
   obtain⟨⟨⟨d0,d1,d2,d3,d4⟩,_,_⟩,⟨e0,e1,e2⟩,_,_⟩:=hD;clear m1 m2;go_wp2_with fail;refine (lu s _ _ c.n _ HO.out (HS.out.later HD.out.bel)).mono ?_;rintro e w1 ⟨⟨am,al,rfl,O⟩,aa⟩;obtain⟨ac,Q,rfl,_⟩:=O.sl.form;obtain⟨ag,U,rfl,_⟩:=O.en.form;have G:=HD.out.later aa;have H4:Hid (StAt _ (Bx.clockedP s c.n).1 _ _):=O.store G.rs.ty (.string (Bx.clockedP s c.n).1.tab) (.int .i64 (Bx.clockedP s c.n).1.clock) (.int .i64 (Bx.clockedP s c.n).1.next) (.slice ac (Bx.clockedP s c.n).1.slots.length Q) (.slice ag (Bx.clockedP s c.n).1.ends.length U);have V:=Hq G.bel;obtain⟨⟨r0,r1,r2,r3,r4⟩,f,_⟩:=G.rs;have f0:=f 0 (by decide);have f1:=f 1 (by decide);have f2:=f 2 (by decide);have f3:=f 3 (by decide);have f4:=f 4 (by decide)
   clear f G d0 d1 d2 d3 d4 e0 e1 e2;go_wp2_with fail;refine bodyPost_ret (v:=.tuple #[stV (Bx.clockedP s c.n).1 (.slice ac (Bx.clockedP s c.n).1.slots.length Q) (.slice ag (Bx.clockedP s c.n).1.ends.length U),.bool (Bx.clockedP s c.n).2]) (by simp[results,Tryz.results172,go_sem,r0,r1,r2,r3,r4]) rfl ?_
   rw[HP.out];exact⟨⟨_,_,rfl,H4.out⟩,dD V.out (by omega) _ _ _ _ _⟩
 ·have m1:c.kind=84:=by simpa using k1
  have HP:Hid (Bx.doP s c=open Classical in if ChkR c.tab 0 0∧s.slots.length=0 then ({s with tab:=c.tab},true) else (s,false)):=by unfold Hid Bx.doP;rw[if_pos m1]
  clear m1;obtain⟨⟨⟨d0,d1,d2,d3,d4⟩,_,_⟩,⟨e0,e1,e2⟩,_,_⟩:=hD;go_wp2_with fail;refine (gH c.tab _ ht).mono ?_;rintro e w1 ⟨⟨a,r,rfl,aA,aM⟩,aa⟩;have G:=HD.out.later aa;have ae:=Hq G;clear d0 d1 d2 d3 d4 e0 e1 e2;obtain⟨⟨⟨d0,d1,d2,d3,d4⟩,fs,_⟩,⟨e0,e1,e2⟩,⟨⟨r0,r1,r2,r3,r4⟩,f,_⟩,_⟩:=G;have f0:=f 0 (by decide);have f1:=f 1 (by decide);have f2:=f 2 (by decide);have f3:=f 3 (by decide);have f4:=f 4 (by decide)
  have g0:=fs 0 (by decide)
  have az:=Hq aA;have V:=Hq ae.out.bel;clear f fs aA
  by_cases Z:r=0∧s.slots.length=0
  ·obtain⟨h1,h2⟩:=Z;subst h1;have ay:ChkR c.tab 0 0:=by have:=az.out;rwa [this.zero rfl] at this
   have ak:Hid (Bx.doP s c=({s with tab:=c.tab},true)):=by unfold Hid;rw[HP.out,if_pos ⟨ay,h2⟩]
   have H4:Hid (StAt _ {s with tab:=c.tab} (.slice Y s.slots.length J) (.slice I s.ends.length d)):=(show StAt (w1.setCell ⟨w.heap.size,0,none⟩ (.string c.tab)) {s with tab:=c.tab} (.slice Y s.slots.length J) (.slice I s.ends.length d) from ⟨((HS.out.later V.out).set ae.out.st.ty (by decide) (by decide) 0 (.string c.tab)).sl,((HS.out.later V.out).set ae.out.st.ty (by decide) (by decide) 0 (.string c.tab)).en⟩).store (ae.out.rs.ty.setCell _ _ _) (.string c.tab) (.int .i64 s.clock) (.int .i64 s.next) (.slice Y s.slots.length J) (.slice I s.ends.length d)
   have z1:¬(0:Int)<(s.slots.length:Int):=by omega
   clear h2 ay HP;go_wp2_with fail;refine bodyPost_ret (v:=.tuple #[stV {s with tab:=c.tab} (.slice Y s.slots.length J) (.slice I s.ends.length d),.bool true]) (by simp[results,Tryz.results172,go_sem,r0,r1,r2,r3,r4]) rfl ?_
   rw[ak.out];exact⟨⟨_,_,rfl,H4.out⟩,dD (V.out.setCell (by simp) _) (by omega) _ _ _ _ _⟩
  ·have ak:Hid (Bx.doP s c=(s,false)):=by
    unfold Hid;rw[HP.out,if_neg (fun h=>Z ⟨(h.1.uniq az.out).2.symm,h.2⟩)]
   have H4:Hid (StAt _ s (.slice Y s.slots.length J) (.slice I s.ends.length d)):=(HS.out.later V.out).store ae.out.rs.ty (.string s.tab) (.int .i64 s.clock) (.int .i64 s.next) (.slice Y s.slots.length J) (.slice I s.ends.length d);clear HP
   cases z0:(r !=0)
   ·have hr:r=0:=by simpa using z0
    have z1:(0:Int)<(s.slots.length:Int):=by
     rcases Nat.eq_zero_or_pos s.slots.length with h|h
     ·exact absurd ⟨hr,h⟩ Z
     ·omega
    clear hr Z;go_wp2_with fail;refine bodyPost_ret (v:=.tuple #[stV s (.slice Y s.slots.length J) (.slice I s.ends.length d),.bool false]) (by simp[results,Tryz.results172,go_sem,r0,r1,r2,r3,r4]) rfl ?_
    rw[ak.out];exact⟨⟨_,_,rfl,H4.out⟩,dD V.out (by omega) _ _ _ _ _⟩
   ·clear Z;go_wp2_with fail;refine bodyPost_ret (v:=.tuple #[stV s (.slice Y s.slots.length J) (.slice I s.ends.length d),.bool false]) (by simp[results,Tryz.results172,go_sem,r0,r1,r2,r3,r4]) rfl ?_
    rw[ak.out];exact⟨⟨_,_,rfl,H4.out⟩,dD V.out (by omega) _ _ _ _ _⟩
end Go.Proofs.YtdajolpoiffimabGreatDoor

namespace Go.Proofs.YtdajolpoiffimabGreatDoor
open Go.RowKit
set_option maxHeartbeats 1000000 in
theorem eG (s:ByteArray) (w:World) (U:s.size≤100000):
 Calls Tryz.prog 195 #[.string s] w fun e Y=>e=.returned (.int .i64 (numW s.data.toList))∧Y=w:=by
 go_enter Tryz.func195,Tryz.ntmps195
 go_wp2_with fail
 go_loop [0,3] (fun v x=>∃(y:ByteArray) (n:Int),v=.string y∧x=.int .i64 n∧y.size≤100000∧y.data.toList.foldl numS n=numW s.data.toList) (fun v _=>strSize v)
 case atStart=>exact⟨s,0,rfl,rfl,U,rfl⟩
 case round=>
  obtain⟨y,n,rfl,rfl,hy,Q⟩:=hrel;have J:=Hq Q;clear Q
  by_cases O:0<y.size
  ·have Z:(0:Int)<(y.size:Int):=by omega
   have I:Hid ((y.extract 1 y.size).data.toList.foldl numS (wrap64 (wrap64 (n*256)+wrap64 (y[0].toNat:Int)))=numW s.data.toList):=by
    unfold Hid;rw[←J.out,eg];have d:y.data.toList.length=y.size:=by simp
    have h0:=jp O
    cases G:y.data.toList with
    | nil=>rw[G] at d;simp at d;omega
    | cons a r=>
      rw[G] at h0 d;have V:a=y[0]:=by simpa using h0
      simp at d
      rw[List.drop_one,List.tail_cons,List.take_of_length_le (by omega),List.foldl_cons,V];rfl
   go_wp2_with fail
   go_round
   case rel=>exact⟨_,_,rfl,rfl,by simp;omega,I.out⟩
   case measure=>simp[strSize];omega
  ·have Z:¬(0:Int)<(y.size:Int):=by omega
   have I:Hid (n=numW s.data.toList):=by
    unfold Hid;rw[←J.out];have d:y.data.toList.length=y.size:=by simp
    have:y.data.toList=[]:=List.eq_nil_of_length_eq_zero (by omega)
    rw[this];rfl
   go_wp2_with fail;go_ret;exact⟨dM I.out,rfl⟩
set_option maxHeartbeats 1000000 in
theorem eZ (s:ByteArray) (a n:Nat) (w:World) (hs:s.size≤100000) (ha:a≤100000) (Y:n≤100000):
 Calls Tryz.prog 212 #[.string s,.int .i64 a,.int .i64 n] w fun e O=>e=.returned (.string (partK s a n))∧O=w:=by
 have Z:IntKind.i64.wrap ((a:Int)+(n:Int))=(a:Int)+(n:Int):=by rw[IntKind.wrap_i64];omega
 go_enter Tryz.func212,Tryz.ntmps212
 go_wp2_with fail
 go_loop [7,8] (fun v i=>∃k:Nat,k≤n∧i=.int .i64 ((a+k:Nat):Int)∧v=.string (partK s a k)) (fun _ i=>a+n-(intOf i).toNat)
 case atStart=>exact⟨0,Nat.zero_le _,by simp,rfl⟩
 case round=>
  obtain⟨k,hk,rfl,rfl⟩:=hrel;have U:=fi s a k
  by_cases V:k<n
  ·have Q:((a+k:Nat):Int)<(a:Int)+(n:Int):=by omega
   by_cases d:a+k<s.size
   ·have G:Hid (partK s a (k+1)=partK s a k++s.extract (a+k) (a+k+1)):=by unfold Hid;rw[partK,if_pos d]
    have I:((a+k:Nat):Int)<(s.size:Int):=by omega
    have q1:¬9223372036854775807<(partK s a k).size+(s.extract (a+k) (a+k+1)).size:=by simp;omega
    have J:¬9223372036854775807<(partK s a k).size+1:=by omega
    go_wp2_with fail
    go_round
    case rel=>exact⟨k+1,by omega,by go_num,by rw[G.out]⟩
    case measure=>simp[intOf];omega
   ·have G:Hid (partK s a (k+1)=partK s a k++{data:= #[0]}):=by unfold Hid;rw[partK,if_neg d]
    have I:¬((a+k:Nat):Int)<(s.size:Int):=by omega
    have J:¬9223372036854775807<(partK s a k).size+1:=by omega
    go_wp2_with fail
    go_round
    case rel=>exact⟨k+1,by omega,by go_num,by rw[G.out]⟩
    case measure=>simp[intOf];omega
  ·obtain rfl:k=n:=by omega
   have Q:¬((a+k:Nat):Int)<(a:Int)+(k:Int):=by omega
   go_wp2_with fail;go_ret;exact⟨rfl,rfl⟩
end Go.Proofs.YtdajolpoiffimabGreatDoor
