import Derived.Deep.RegionHeld3
import Derived.Deep.CutRange
import Derived.Test.YtdajolpoiffimabGreatDoorA8

namespace Go.Proofs.YtdajolpoiffimabGreatDoor
open Go.RowKit
theorem StW.slots {W:World}{q:Nat}{t:Bx.St}{sl en:Value} (h:StW W q t sl en) (L:List Bx.Sl) (v:Value):StW (W.setCell ⟨q,3,none⟩ v) q {t with slots:=L} v en:=by
 obtain⟨⟨c0,c1,c2,c3,c4⟩,f,ty⟩:=h;refine⟨⟨?_,?_,?_,?_,?_⟩,fun j d=>?_,ty.setCell _ _ _⟩
 case refine_6=>simp[go_sem,f j d]
 all_goals simp[go_sem,c0,c1,c2,c3,c4]
structure IntAt (w wr:World) (s:Bx.St) (k:Nat) (slk en:Value):Prop where
 st:StW wr w.heap.size {s with slots:=intK s.slots k} slk en
 rs:StW wr (w.heap.size+1) stZ nilV nilV
 rows:StAt wr {s with slots:=intK s.slots k} slk en
 bel:Below w.heap.size w wr
set_option maxRecDepth 10000 in
set_option maxHeartbeats 0 in
theorem sp (s:Bx.St) (sl en:Value) (w:World) (hl:s.slots.length≤10000) (hS:StAt w s sl en):
 Calls Tryz.prog 139 #[stV s sl en] w fun e w'=>(∃ar,e=.returned (stV (intS s) ar en)∧StAt w' (intS s) ar en)∧Below w.heap.size w w':=by
 obtain⟨Z,I,rfl,aW⟩:=hS.sl.form;obtain⟨G,d,rfl,ak⟩:=hS.en.form;have b0:=dx w (stO s (.slice Z s.slots.length I) (.slice G s.ends.length d));have b1:=dx (w.alloc (stO s (.slice Z s.slots.length I) (.slice G s.ends.length d))) (stO stZ nilV nilV)
 have A1:Hid (IntAt w ((w.alloc (stO s (.slice Z s.slots.length I) (.slice G s.ends.length d))).alloc (stO stZ nilV nilV)) s 0 (.slice Z s.slots.length I) (.slice G s.ends.length d)):=by
  have e:({s with slots:=intK s.slots 0}:Bx.St)=s:=by simp[intK]
  refine⟨by rw[e];exact (StW.new w s _ _).later b1,?_,by rw[e];exact (hS.later b0).later b1,b0.trans (b1.mono (by simp))⟩
  have:=StW.new (w.alloc (stO s (.slice Z s.slots.length I) (.slice G s.ends.length d))) stZ nilV nilV
  simpa using this
 clear hS b0 b1
 go_enter Tryz.func139,Tryz.ntmps139
 go_wp2_with fail;generalize (w.alloc (stO s (.slice Z s.slots.length I) (.slice G s.ends.length d))).alloc (stO stZ nilV nilV)=W at *
 go_loopw [3] (fun iv wr=>∃k:Nat,k≤s.slots.length∧iv=.int .i64 k∧∃aw,IntAt w wr s k aw (.slice G s.ends.length d)) (fun iv _=>s.slots.length-(intOf iv).toNat)
 case atStart=>exact⟨0,Nat.zero_le _,rfl,_,A1.out⟩
 case round=>
  obtain⟨k,hk,rfl,aw,hC⟩:=hrel;obtain⟨aa,U,rfl,bf⟩:=hC.rows.sl.form
  by_cases af:k<s.slots.length
  ·obtain⟨st,rs,rows,bel⟩:=hC;have ai:({s with slots:=intK s.slots k}:Bx.St).slots.length=s.slots.length:=jZ s.slots k hk;have ac:({s with slots:=intK s.slots k}:Bx.St).ends=s.ends:=rfl
   have ax:Bx.slAt ({s with slots:=intK s.slots k}:Bx.St) k=s.slots[k]:=by
    rw[←slAt_eq _ k (by rw[ai];exact af)];exact rK s.slots k af
   have av:Hid (({s with slots:=intK s.slots (k+1)}:Bx.St)={({s with slots:=intK s.slots k}:Bx.St) with slots:=Bx.putL (intK s.slots k) k (clr s.slots[k])}):=by
    unfold Hid;rw[ky,oH s.slots k af]
   have aO:Hid (∀(L:List Bx.Sl),L=Bx.putL ({s with slots:=intK s.slots k}:Bx.St).slots k (clr (Bx.slAt ({s with slots:=intK s.slots k}:Bx.St) k))→({s with slots:=intK s.slots (k+1)}:Bx.St)={({s with slots:=intK s.slots k}:Bx.St) with slots:=L}):=by
    intro L hL;rw[hL,ax];exact av.out
   clear av ax;rw[←ac] at st rows ak ⊢;generalize ({s with slots:=intK s.slots k}:Bx.St)=T at *;have HT:=Hq rows;have V:=Hq st;have aq:=Hq rs;have ab:=Hq bel;have ay:k<T.slots.length:=by omega
   have bk:=Hq ai;have bc:=Hq ac;have aH:T.slots.length≤10000:=by omega
   clear ai ac st rs rows bel;obtain⟨b,bj,aX,hv,_,hc⟩:=HT.out.sl.1.some' (by omega)
   cases hv
   obtain⟨y0,y1,y2,y3,y4,y5⟩:=dT hc k ay;rw[slAt_eq T k ay] at y0 y1 y2 y3 y4 y5;obtain⟨⟨d0,d1,d2,d3,d4⟩,_,_⟩:=V.out;have z1:(0:Int)≤(k:Int):=by omega
   have z2:(k:Int)<(T.slots.length:Int):=by omega
   have bg:w.heap.size<wr.heap.size:=V.out.ty.lt;have O:=dx wr (.cells #[.int .i64 (Bx.slAt T k).num,.int .i64 (Bx.slAt T k).line,.int .i64 (Bx.slAt T k).minute,.int .i64 (Bx.slAt T k).att,.int .i64 (Bx.slAt T k).frm,.bool false] 218);have hX:SlIn (wr.alloc (.cells #[.int .i64 (Bx.slAt T k).num,.int .i64 (Bx.slAt T k).line,.int .i64 (Bx.slAt T k).minute,.int .i64 (Bx.slAt T k).att,.int .i64 (Bx.slAt T k).frm,.bool false] 218)) wr.heap.size (clr (Bx.slAt T k)):=SlIn.new wr (clr (Bx.slAt T k));clear hc;go_upto_region 6 with fail;clear d0 d1 d2 d3 d4 y0 y1 y2 y3 y4 y5;generalize wr.alloc (.cells #[.int .i64 (Bx.slAt T k).num,.int .i64 (Bx.slAt T k).line,.int .i64 (Bx.slAt T k).minute,.int .i64 (Bx.slAt T k).att,.int .i64 (Bx.slAt T k).frm,.bool false] 218)=W6 at *;have ap:=Hq (HT.out.later O);have aj:=Hq (V.out.later O);have aC:=Hq (aq.out.later O);have ag:=Hq (ab.out.trans (O.mono ab.out.size));clear O HT V aq ab;generalize wr.heap.size=xq at *;obtain⟨x0,x1,x2,x3,x4,x5⟩:=hX;obtain⟨⟨d0,d1,d2,d3,d4⟩,_,_⟩:=aj.out;generalize aA:clr (Bx.slAt T k)=x at *;have bh:=Hq aA;clear aA;go_wp2_with fail;refine (jm T k x _ _ _ aH ap.out).mono ?_;rintro e w7 ⟨⟨v7,rfl,Y⟩,Q⟩;have ah:=TRow.of_own Y;obtain⟨au,ae,rfl,_⟩:=ah.form;have J:=aj.out.later Q;have az:=aC.out.later Q
   have HN:Hid (IntAt w (w7.setCell ⟨w.heap.size,3,none⟩ (.slice au (Bx.putL T.slots k x).length ae)) s (k+1) (.slice au (Bx.putL T.slots k x).length ae) (.slice G T.ends.length d)):=by
    have e:=aO.out (Bx.putL T.slots k x) rfl;refine⟨by rw[e];exact J.slots _ _,?_,?_,(ag.out.trans (Q.mono ag.out.size)).setCell (by simp) _⟩
    ·obtain⟨⟨c0,c1,c2,c3,c4⟩,f,aP⟩:=az;refine⟨⟨?_,?_,?_,?_,?_⟩,fun j hj=>?_,aP.setCell _ _ _⟩
     case refine_6=>simp[go_sem,f j hj]
     all_goals simp[go_sem,c0,c1,c2,c3,c4]
    ·rw[e];exact⟨ah.set J.ty (by decide) _ _,(ap.out.en.later Q).set J.ty (by decide) _ _⟩
   have e3:=J.st.c3;have g3:=J.f 3 (by decide)
   clear d0 d1 d2 d3 d4 x0 x1 x2 x3 x4 x5 Y Q J az ah;go_wp2_with fail;go_roundw
   case rel=>exact⟨k+1,by omega,by go_num,_,HN.out⟩
   case measure=>simp[intOf];omega
  ·obtain rfl:k=s.slots.length:=by omega
   have aK:Hid (({s with slots:=intK s.slots s.slots.length}:Bx.St)=intS s):=by unfold Hid intS intK;simp
   obtain⟨st,rs,rows,bel⟩:=hC;rw[aK.out] at st rows;have aJ:Hid (StAt _ (intS s) (.slice aa (intS s).slots.length U) (.slice G s.ends.length d)):=rows.store rs.ty (.string (intS s).tab) (.int .i64 (intS s).clock) (.int .i64 (intS s).next) (.slice aa (intS s).slots.length U) (.slice G s.ends.length d);have aL:=Hq bel;obtain⟨⟨d0,d1,d2,d3,d4⟩,_,_⟩:=st;obtain⟨⟨r0,r1,r2,r3,r4⟩,f,_⟩:=rs;have f0:=f 0 (by decide);have f1:=f 1 (by decide);have f2:=f 2 (by decide);have f3:=f 3 (by decide);have f4:=f 4 (by decide)
   have z9:¬(s.slots.length:Int)<((intS s).slots.length:Int):=by simp[intS]
   clear f rows bel;go_wp2_with fail;refine bodyPost_ret (v:=stV (intS s) (.slice aa (intS s).slots.length U) (.slice G s.ends.length d)) (by simp[results,Tryz.results139,go_sem,r0,r1,r2,r3,r4]) rfl ?_
   exact⟨⟨_,rfl,aJ.out⟩,dE aL.out (by omega) _ _ _ _ _⟩
end Go.Proofs.YtdajolpoiffimabGreatDoor



namespace Go.Proofs.YtdajolpoiffimabGreatDoor
open Go.RowKit
def NextR (s:ByteArray) (b more:ByteArray) (ok:Bool):Prop:=(ok=true→Bx.Nx s b more)∧(ok=false→¬∃b more,Bx.Nx s b more)
theorem me (x y z:ByteArray) (a b:Nat) (e:a=x.size) (hb:b=x.size+y.size):(x++y++z).extract a b=y:=by
 have w:x.data.toList.length=x.size:=by simp
 have d:y.data.toList.length=y.size:=by simp
 refine Bx.ba_ext ?_;rw[ei,ByteArray.data_append,ByteArray.data_append,Array.toList_append,Array.toList_append,e,hb,List.append_assoc,←w,List.drop_left,Nat.add_sub_cancel_left,←d,List.take_left]
theorem jz (x y:ByteArray) (b:Nat) (hb:b=x.size):(x++y).extract 0 b=x:=by
 have:=me ByteArray.empty x y 0 b rfl (by rw[hb];simp)
 simpa using this
theorem lW {s b more:ByteArray} (h:Bx.Nx s b more):s.size=b.size+6+more.size∧b.size<65536∧numW (s.extract 0 2).data.toList=(b.size:Int)∧s.extract 2 (2+b.size)=b∧s.extract 0 (6+b.size)=Bx.frame b:=by
 obtain⟨e,hb⟩:=h;have w:s.size=b.size+6+more.size:=by rw[e,ByteArray.size_append,Bx.frame_size]
 have d:s=Bx.be b.size 2++b++(Bx.be (Crc.sumR b) 4++more):=by rw[e];unfold Bx.frame;simp only [ByteArray.append_assoc]
 refine⟨w,hb,?_,?_,?_⟩
 ·have:s.extract 0 2=Bx.be b.size 2:=by rw[d,ByteArray.append_assoc];exact jz _ _ 2 (by rw[Bx.be_size])
  rw[this];exact lP _ 2 (by omega) (by simp;omega) (by decide)
 ·rw[d];exact me _ _ _ _ _ (by rw[Bx.be_size]) (by rw[Bx.be_size])
 ·rw[e];exact jz _ _ _ (by rw[Bx.frame_size];omega)
theorem qx {s:ByteArray}{n:Nat} (d:n<65536) (e:6+n≤s.size) (h:s.extract 0 (6+n)=Bx.frame (s.extract 2 (2+n))):Bx.Nx s (s.extract 2 (2+n)) (s.extract (6+n) s.size):=by
 refine⟨?_,?_⟩
 ·rw[←h];exact (Bx.ext_split s (6+n)).symm
 ·rw[ByteArray.size_extract];omega
theorem sj {s:ByteArray}{n:Nat} (J:numW (s.extract 0 2).data.toList=(n:Int)) (h:s.size<6+n∨¬s.extract 0 (6+n)=Bx.frame (s.extract 2 (2+n))):¬∃b more,Bx.Nx s b more:=by
 rintro ⟨b,more,d⟩;obtain⟨h1,h2,I,w,G⟩:=lW d;have e:n=b.size:=by omega
 subst e
 rcases h with h|h
 ·omega
 ·exact h (by rw[w,G])
theorem mB {s:ByteArray} (h:s.size<2):¬∃b more,Bx.Nx s b more:=by
 rintro ⟨b,more,d⟩;have:=(lW d).1;omega
theorem jr {x y:ByteArray}:(x.toList==y.toList)=true↔x=y:=by
 constructor
 ·intro h;have h2:x.toList=y.toList:=by simpa using h
  exact Bx.ba_ext (by simpa [ByteArray.toList_eq] using h2)
 ·rintro rfl;simp
def NextP (s:ByteArray) (w w':World) (e:Ending):Prop:=∃b more ok,e=.returned (.tuple #[.string b,.string more,.bool ok])∧NextR s b more ok∧(ok=true→more.size<s.size)∧Below w.heap.size w w'
set_option maxHeartbeats 0 in
theorem pH (s:ByteArray) (w:World) (hs:s.size≤100000):
 Calls Tryz.prog 169 #[.string s] w fun e V=>NextP s w V e:=by
 by_cases h2:s.size<2
 ·have U:Hid (¬∃b more,Bx.Nx s b more):=mB h2;have z1:(s.size:Int)<2:=by omega
  go_enter Tryz.func169,Tryz.ntmps169
  go_wp2_with fail
  go_ret3
  exact⟨_,_,false,rfl,⟨fun h=>(by cases h),fun _=>U.out⟩,fun h=>(by cases h),Below.refl _ _⟩
 ·have z1:¬(s.size:Int)<2:=by omega
  obtain⟨k1,k2,Q⟩:=ii (x:=s.extract 0 2) (k:=2) (by rw[ByteArray.size_extract];omega) (by decide)
  obtain⟨n,I⟩:∃n:Nat,numW (s.extract 0 2).data.toList=(n:Int):=⟨(numW (s.extract 0 2).data.toList).toNat,by omega⟩
  have aa:n<65536:=by rw[I] at Q;simp at Q;omega
  have d:Hid (s.size<6+n∨¬s.extract 0 (6+n)=Bx.frame (s.extract 2 (2+n))→¬∃b more,Bx.Nx s b more):=sj I;have G:Hid (6+n≤s.size→s.extract 0 (6+n)=Bx.frame (s.extract 2 (2+n))→Bx.Nx s (s.extract 2 (2+n)) (s.extract (6+n) s.size)):=qx aa
  have Z:Hid (∀W:World,Calls Tryz.prog 195 #[.string (s.extract 0 2)] W fun e V=>e=.returned (.int .i64 (n:Int))∧V=W):=by
   intro W;rw[←I];exact eG (s.extract 0 2) W (by simp;omega)
  clear I k1 k2 Q;have y1:2≤s.size:=by omega
  go_enter Tryz.func169,Tryz.ntmps169
  go_wp2_with fail;refine (Z.out _).mono ?_;rintro e w2 ⟨rfl,O⟩;have ab:=O.symm;subst ab;clear O;have q1:IntKind.i64.wrap (6+(n:Int))=6+(n:Int):=by rw[IntKind.wrap_i64];omega
  have q2:IntKind.i64.wrap (2+(n:Int))=2+(n:Int):=by rw[IntKind.wrap_i64];omega
  by_cases h6:(s.size:Int)<6+(n:Int)
  ·have U:Hid (¬∃b more,Bx.Nx s b more):=d.out (Or.inl (by omega))
   clear d G;go_wp2_with fail
   go_ret3
   exact⟨_,_,false,rfl,⟨fun h=>(by cases h),fun _=>U.out⟩,fun h=>(by cases h),Below.refl _ _⟩
  ·have y2:(2+(n:Int)).toNat=2+n:=by omega
   have y3:(6+(n:Int)).toNat=6+n:=by omega
   have y4:2+(n:Int)≤(s.size:Int):=by omega
   have y5:6+(n:Int)≤(s.size:Int):=by omega
   have y6:(2:Int)≤2+(n:Int):=by omega
   have y7:(0:Int)≤6+(n:Int):=by omega
   have Y:Hid ((s.extract (6+n) s.size).size<s.size):=by unfold Hid;rw[ByteArray.size_extract];omega
   go_wp2_with fail;refine (ge (s.extract 2 (2+n)) _ (by simp;omega)).mono ?_
   rintro e w4 ⟨rfl,J⟩;have ac:=Hq J;clear J;go_wp2_with fail
   go_quiet (fail)
   go_wp2_with fail
   go_ret3
   refine⟨_,_,_,rfl,⟨fun h=>G.out (by omega) (jr.1 h),fun h=>d.out (Or.inr fun e=>?_)⟩,fun _=>Y.out,below_drewN ac.out _⟩
   rw[jr.2 e] at h;cases h
structure TldAt (w wr:World) (t:Bx.St) (sl en v:Value) (n:Nat) (cells:List Value):Prop where
 st:StW wr w.heap.size t sl en
 rs:StW wr (w.heap.size+1) stZ nilV nilV
 rows:StAt wr t sl en
 row:RowAt wr v n cells
 bel:Below w.heap.size w wr
theorem TldAt.later {w W W':World}{t:Bx.St}{sl en v:Value}{n:Nat}{d:List Value} (h:TldAt w W t sl en v n d) (hb:Below W.heap.size W W'):TldAt w W' t sl en v n d:=
 ⟨h.st.later hb,h.rs.later hb,h.rows.later hb,h.row.later hb,h.bel.trans (hb.mono h.bel.size)⟩
theorem TldAt.store {w W:World}{t:Bx.St}{sl en v:Value}{n:Nat}{d:List Value} (h:TldAt w W t sl en v n d) (u:Bx.St) (e G:Value) (Q:StAt W u e G) (O:RowAt w v n d):
 TldAt w (((((W.setCell ⟨w.heap.size,0,none⟩ (.string u.tab)).setCell ⟨w.heap.size,1,none⟩ (.int .i64 u.clock)).setCell ⟨w.heap.size,2,none⟩ (.int .i64 u.next)).setCell ⟨w.heap.size,3,none⟩ e).setCell ⟨w.heap.size,4,none⟩ G) u e G v n d:=by
 refine⟨h.st.store u e G,?_,Q.store h.st.ty _ _ _ _ _,O.later (dE h.bel (Nat.le_refl _) _ _ _ _ _),dE h.bel (Nat.le_refl _) _ _ _ _ _⟩;obtain⟨⟨c0,c1,c2,c3,c4⟩,f,I⟩:=h.rs;refine⟨⟨?_,?_,?_,?_,?_⟩,fun j J=>?_,((((I.setCell _ _ _).setCell _ _ _).setCell _ _ _).setCell _ _ _).setCell _ _ _⟩
 case refine_6=>simp[go_sem,f j J]
 all_goals simp[go_sem,c0,c1,c2,c3,c4]
theorem oN (s:Bx.St) (L:List Bx.Ch) (k:Nat) (h:k<L.length):Bx.told s (L.take (k+1))=Bx.tell (Bx.told s (L.take k)) L[k]:=by
 unfold Bx.told;rw[List.take_succ_eq_append_getElem h,List.foldl_append];rfl
set_option maxRecDepth 10000 in
set_option maxHeartbeats 0 in
theorem pN (s:Bx.St) (L:List Bx.Ch) (sl en v:Value) (w:World) (hO:Bx.StOk s) (hL:L.length≤100) (hT:∀c∈L,c.tab.size≤maxLen) (hR:RowAt w v L.length (L.flatMap chC)) (hS:StAt w s sl en):
 Calls Tryz.prog 143 #[stV s sl en,v] w fun e w'=>(∃aI aF,e=.returned (stV (Bx.told s L) aI aF)∧StAt w' (Bx.told s L) aI aF)∧Below w.heap.size w w':=by
 obtain⟨ad,Y,rfl,bs⟩:=hS.sl.form;obtain⟨V,J,rfl,bp⟩:=hS.en.form;obtain⟨aL,Z,rfl,bO⟩:=hR.form;have HO:Hid (∀k,Bx.StOk (Bx.told s (L.take k))):=fun k=>Bx.told_ok hO _
 have HT:=Hq hT;have HF:Hid (∀k (h:k<L.length),Bx.told s (L.take (k+1))=Bx.tell (Bx.told s (L.take k)) L[k]):=fun k h=>oN s L k h
 have bk:=Hq hR;have b0:=dx w (stO s (.slice ad s.slots.length Y) (.slice V s.ends.length J));have b1:=dx (w.alloc (stO s (.slice ad s.slots.length Y) (.slice V s.ends.length J))) (stO stZ nilV nilV)
 have A1:Hid (TldAt w ((w.alloc (stO s (.slice ad s.slots.length Y) (.slice V s.ends.length J))).alloc (stO stZ nilV nilV)) s (.slice ad s.slots.length Y) (.slice V s.ends.length J) (.slice aL L.length Z) L.length (L.flatMap chC)):=by
  refine⟨(StW.new w s _ _).later b1,?_,(hS.later b0).later b1,(hR.later b0).later b1,b0.trans (b1.mono (by simp))⟩
  have:=StW.new (w.alloc (stO s (.slice ad s.slots.length Y) (.slice V s.ends.length J))) stZ nilV nilV
  simpa using this
 clear hS hR hO hT b0 b1
 go_enter Tryz.func143,Tryz.ntmps143
 go_wp2_with fail;generalize (w.alloc (stO s (.slice ad s.slots.length Y) (.slice V s.ends.length J))).alloc (stO stZ nilV nilV)=W at *
 go_loopw [5] (fun iv wr=>∃k:Nat,k≤L.length∧iv=.int .i64 k∧∃al ao,TldAt w wr (Bx.told s (L.take k)) al ao (.slice aL L.length Z) L.length (L.flatMap chC)) (fun iv _=>L.length-(intOf iv).toNat)
 case atStart=>exact⟨0,Nat.zero_le _,rfl,_,_,A1.out⟩
 case round=>
  obtain⟨k,hk,rfl,al,ao,d⟩:=hrel;have au:=HO.out k
  by_cases ak:k<L.length
  ·have aG:Hid (Bx.told s (L.take (k+1))=Bx.tell (Bx.told s (L.take k)) L[k]):=HF.out k ak;obtain⟨b,ag,bt,hv,_,am⟩:=d.row.some' (by omega)
   cases hv
   have x0:wr.cell? ⟨b,ag+k*3,none⟩=some (.int .u8 L[k].kind):=RowAt.cell fL am k ak 0 (by decide)
   have x1:wr.cell? ⟨b,ag+k*3+1,none⟩=some (.string L[k].tab):=RowAt.cell fL am k ak 1 (by decide)
   have x2:wr.cell? ⟨b,ag+k*3+2,none⟩=some (.int .i64 L[k].n):=RowAt.cell fL am k ak 2 (by decide)
   have bJ:b<wr.heap.size:=World.block_lt_of_cell? _ _ x0;have aH:L[k].tab.size≤maxLen:=HT.out _ (List.getElem_mem _);clear am;generalize L[k]=c at *;generalize bc:Bx.told s (L.take k)=T at *;clear bc;obtain⟨ab,Q,rfl,bH⟩:=d.rows.sl.form;obtain⟨aa,O,rfl,bN⟩:=d.rows.en.form;have HC:=Hq d;have aE:=Hq au;obtain⟨⟨d0,d1,d2,d3,d4⟩,I,_⟩:=d.st;have g0:=I 0 (by decide);have g1:=I 1 (by decide);have g2:=I 2 (by decide);have g3:=I 3 (by decide);have g4:=I 4 (by decide)
   have bL:w.heap.size<wr.heap.size:=d.st.ty.lt;have y1:(0:Int)≤(k:Int):=by omega
   have y2:(k:Int)<(L.length:Int):=by omega
   have ay:Hid (StAt wr.drew T (.slice ab T.slots.length Q) (.slice aa T.ends.length O)):=d.rows.later (Below.refl _ _).drew;clear d I au;go_wp2_with fail
   go_cut [6,7] from 14 to 22 (fun s6 s7 wx=>∃tq ar ax,s6=.pointer (some ⟨tq,0,none⟩)∧s7=.bool (Bx.doP T c).2∧StIn wx tq (Bx.doP T c).1 ar ax∧StAt wx (Bx.doP T c).1 ar ax∧TldAt w wx T (.slice ab T.slots.length Q) (.slice aa T.ends.length O) (.slice (some ⟨b,ag,none⟩) L.length Z) L.length (L.flatMap chC))
   case first=>
    have aC:Hid (StAt (wr.alloc (stO stZ nilV nilV)).drew T (.slice ab T.slots.length Q) (.slice aa T.ends.length O)):=(HC.out.rows.later (dx _ _)).later (Below.refl _ _).drew
    go_region_with (first
     | (go_at_call 172;refine (kL T c (.slice ab T.slots.length Q) (.slice aa T.ends.length O) wr.drew aE.out aH ay.out).mono ?_;rintro e w2 ⟨⟨a8,bj,rfl,G⟩,af⟩;obtain⟨aw,ah,rfl,aK⟩:=G.sl.form;obtain⟨av,ai,rfl,aD⟩:=G.en.form;have a4:Below wr.heap.size wr w2:=(Below.refl _ _).drew.trans af)
     | (go_at_call 172;refine (kL T c (.slice ab T.slots.length Q) (.slice aa T.ends.length O) (wr.alloc (stO stZ nilV nilV)).drew aE.out aH aC.out).mono ?_;rintro e w2 ⟨⟨a8,bj,rfl,G⟩,af⟩;obtain⟨aw,ah,rfl,aK⟩:=G.sl.form;obtain⟨av,ai,rfl,aD⟩:=G.en.form;have bg:Below wr.heap.size wr w2:=(dx _ _).drew.trans (af.mono (by simp));have hZ:=((StW.new wr stZ nilV nilV).later (Below.refl _ _).drew).later af;obtain⟨⟨z0,z1,z2,z3,z4⟩,zf,zt⟩:=hZ;have HZ:Hid (StW w2 wr.heap.size stZ nilV nilV):=((StW.new wr stZ nilV nilV).later (Below.refl _ _).drew).later af;have bG:=zf 0 (by decide);have bP:=zf 1 (by decide);have bI:=zf 2 (by decide);have bK:=zf 3 (by decide);have bM:=zf 4 (by decide)))
    all_goals (go_wp2_with fail;go_meet)
    all_goals (first |(have aZ:=a4;exact⟨_,_,_,rfl,rfl,StIn.new w2 (Bx.doP T c).1 _ _,G.later (dx _ _),(HC.out.later aZ).later (dx _ _)⟩)|exact⟨_,_,_,rfl,rfl,(HZ.out.store (Bx.doP T c).1 _ _).st,G.store HZ.out.ty _ _ _ _ _,HC.out.later (dE bg (Nat.le_refl _) _ _ _ _ _)⟩)
   case rest=>
    obtain⟨tq,ar,ax,rfl,rfl,aM,ac,ae⟩:=hcut;obtain⟨aw,ah,rfl,aK⟩:=ac.sl.form;obtain⟨av,ai,rfl,aD⟩:=ac.en.form;clear d0 d1 d2 d3 d4 g0 g1 g2 g3 g4 x0 x1 x2 HC ay;have a6:=Hq ae;have aj:Hid (Bx.tell T c=if (Bx.doP T c).2=true then (Bx.doP T c).1 else T):=rfl
    cases aJ:(Bx.doP T c).2
    ·have HN:Hid (Bx.told s (L.take (k+1))=T):=by unfold Hid;rw[aG.out,aj.out,aJ];rfl
     clear aj aM ac ae;go_wp2_with fail;go_roundw
     case rel=>exact⟨k+1,by omega,by go_num,_,_,by rw[HN.out];exact a6.out⟩
     case measure=>simp[intOf];omega
    ·have HN:Hid (Bx.told s (L.take (k+1))=(Bx.doP T c).1):=by unfold Hid;rw[aG.out,aj.out,aJ];rfl
     have bb:Hid (TldAt w _ (Bx.doP T c).1 (.slice aw (Bx.doP T c).1.slots.length ah) (.slice av (Bx.doP T c).1.ends.length ai) (.slice (some ⟨b,ag,none⟩) L.length Z) L.length (L.flatMap chC)):=ae.store (Bx.doP T c).1 _ _ ac bk.out;obtain⟨d0,d1,d2,d3,d4⟩:=aM;obtain⟨⟨e0,e1,e2,e3,e4⟩,I,_⟩:=ae.st;have g0:=I 0 (by decide);have g1:=I 1 (by decide);have g2:=I 2 (by decide);have g3:=I 3 (by decide);have g4:=I 4 (by decide)
     clear aj ac ae I;generalize (Bx.doP T c).1=U at *;go_wp2_with fail;go_roundw
     case rel=>exact⟨k+1,by omega,by go_num,_,_,by rw[HN.out];exact bb.out⟩
     case measure=>simp[intOf];omega
  ·obtain rfl:k=L.length:=by omega
   rw[List.take_length] at d;have a2:Hid (StAt _ (Bx.told s L) al ao):=d.rows.store d.rs.ty (.string (Bx.told s L).tab) (.int .i64 (Bx.told s L).clock) (.int .i64 (Bx.told s L).next) al ao;have a5:=Hq d.bel;obtain⟨a7,aO,rfl,_⟩:=d.rows.sl.form;obtain⟨aX,aQ,rfl,_⟩:=d.rows.en.form;obtain⟨⟨d0,d1,d2,d3,d4⟩,_,_⟩:=d.st;obtain⟨⟨r0,r1,r2,r3,r4⟩,f,_⟩:=d.rs;have f0:=f 0 (by decide);have f1:=f 1 (by decide);have f2:=f 2 (by decide);have f3:=f 3 (by decide);have f4:=f 4 (by decide)
   clear f d au;go_wp2_with fail;refine bodyPost_ret (v:=stV (Bx.told s L) (.slice a7 (Bx.told s L).slots.length aO) (.slice aX (Bx.told s L).ends.length aQ)) (by simp[results,Tryz.results143,go_sem,r0,r1,r2,r3,r4]) rfl ?_
   exact⟨⟨_,_,rfl,a2.out⟩,dE a5.out (by omega) _ _ _ _ _⟩
theorem BoxIn.txt {w:World}{B:Nat}{b:Bx.Bo}{sl en tk:Value} (h:BoxIn w B b sl en tk) (t:ByteArray):BoxIn (w.setCell ⟨B,7,none⟩ (.string t)) B {b with text:=t} sl en tk:=by
 obtain⟨c0,c1,c2,c3,c4,c5,c6,c7,c8,f,ty,rows,tk⟩:=h;refine⟨?_,?_,?_,?_,?_,?_,?_,?_,?_,fun j d=>?_,ty.setCell _ _ _,rows.set ty (by decide) (by decide) _ _,ownsRow_setCell_below tk (by simp) _⟩
 case refine_10=>simp[go_sem,f j d]
 all_goals simp[go_sem,c0,c1,c2,c3,c4,c5,c6,c7,c8]
theorem BoxIn.put {w:World}{B:Nat}{b:Bx.Bo}{sl en tk:Value} (h:BoxIn w B b sl en tk) (u:Bx.St) (d e:Value) (U:StAt w u d e):
 BoxIn (((((w.setCell ⟨B,2,none⟩ (.string u.tab)).setCell ⟨B,3,none⟩ (.int .i64 u.clock)).setCell ⟨B,4,none⟩ (.int .i64 u.next)).setCell ⟨B,5,none⟩ d).setCell ⟨B,6,none⟩ e) B {b with now:=u} d e tk:=by
 obtain⟨c0,c1,c2,c3,c4,c5,c6,c7,c8,f,ty,rows,tk⟩:=h;have J:=ty.setCell B 2 (.string u.tab);have I:=J.setCell B 3 (.int .i64 u.clock);have O:=I.setCell B 4 (.int .i64 u.next);have G:=O.setCell B 5 d;refine⟨?_,?_,?_,?_,?_,?_,?_,?_,?_,fun j Q=>?_,G.setCell _ _ _,((((U.set ty (by decide) (by decide) _ _).set J (by decide) (by decide) _ _).set I (by decide) (by decide) _ _).set O (by decide) (by decide) _ _).set G (by decide) (by decide) _ _,ownsRow_setCell_below (ownsRow_setCell_below (ownsRow_setCell_below (ownsRow_setCell_below (ownsRow_setCell_below tk (by simp) _) (by simp) _) (by simp) _) (by simp) _) (by simp) _⟩
 case refine_10=>simp[go_sem,f j Q]
 all_goals simp[go_sem,c0,c1,c2,c3,c4,c5,c6,c7,c8]
set_option maxHeartbeats 0 in
theorem gm (b:Bx.Bo) (B:Nat) (sl en tk v:Value) (L:List Bx.Ch) (w:World) (hL:L.length≤100) (G:∀c∈L,ChOk c) (ht:b.text.size≤100000) (Z:b.room<(b.text.size:Int)+(Bx.frames L).size) (hR:TRow w 178 v L.length (L.flatMap chC)) (hB:BoxIn w B b sl en tk):
 Calls Tryz.prog 110 #[.pointer (some ⟨B,0,none⟩),v] w fun e O=>e=.returned (.bool false)∧Below w.heap.size w O:=by
 obtain⟨V,J,rfl,Q⟩:=hR.form;have I:=Hq hB
 have U:(Bx.frames L).size≤100000:=by
  have:=ib L (fun c h=>(G c h).t) L.length (Nat.le_refl _)
  rw[List.take_length] at this;omega
 clear hB
 go_enter Tryz.func110,Tryz.ntmps110
 go_wp2_with fail;refine (i9 L _ _ hL G hR.1).mono ?_;rintro e w1 ⟨rfl,d⟩;obtain⟨c0,c1,c2,c3,c4,c5,c6,c7,c8,_,_,_,_⟩:=I.out.later d;have Y:IntKind.i64.wrap ((b.text.size:Int)+((Bx.frames L).size:Int))=(b.text.size:Int)+((Bx.frames L).size:Int):=by rw[IntKind.wrap_i64];omega
 clear G hR;go_wp2_with fail
 go_quiet (fail)
 go_wp2_with fail;go_ret;exact⟨rfl,below_drewN d _⟩
set_option maxRecDepth 10000 in
set_option maxHeartbeats 0 in
theorem fK (b:Bx.Bo) (B:Nat) (sl en tk v:Value) (L:List Bx.Ch) (w:World) (hO:Bx.StOk b.now) (hL:L.length≤100) (Y:∀c∈L,ChOk c) (ht:b.text.size≤100000) (hF:¬b.room<(b.text.size:Int)+(Bx.frames L).size) (hR:TRow w 178 v L.length (L.flatMap chC)) (hB:BoxIn w B b sl en tk):
 Calls Tryz.prog 110 #[.pointer (some ⟨B,0,none⟩),v] w fun e w'=>e=.returned (.bool true)∧(∃ag ar,BoxIn w' B {b with text:=b.text++Bx.frames L,now:=Bx.told b.now L} ag ar tk)∧w.grownBy w' (some B):=by
 obtain⟨al,Z,rfl,aE⟩:=hR.form;obtain⟨ad,ao,rfl,aD⟩:=hB.rows.sl.form;obtain⟨ax,aa,rfl,ay⟩:=hB.rows.en.form;have HB:=Hq hB;have HO:=Hq hO
 have aG:(Bx.frames L).size≤100000:=by
  have:=ib L (fun c h=>(Y c h).t) L.length (Nat.le_refl _)
  rw[List.take_length] at this;omega
 have HC:=Hq Y;have HR:=Hq hR;clear hB hO Y hR
 go_enter Tryz.func110,Tryz.ntmps110
 go_wp2_with fail;refine (i9 L _ _ hL HC.out HR.out.1).mono ?_;rintro e w1 ⟨rfl,G⟩;have J:=Hq (HB.out.later G);have V:=Hq (HR.out.later G);have U:Hid (w.grownBy w1 (some B)):=dy G _;obtain⟨c0,c1,c2,c3,c4,c5,c6,c7,c8,f,_,_,_⟩:=J.out;have f7:=f 7 (by decide)
 have q1:IntKind.i64.wrap ((b.text.size:Int)+((Bx.frames L).size:Int))=(b.text.size:Int)+((Bx.frames L).size:Int):=by rw[IntKind.wrap_i64];omega
 have q2:¬9223372036854775807<b.text.size+(Bx.frames L).size:=by omega
 clear f G HB HR;go_wp2_with fail
 go_quiet (fail)
 go_wp2_with fail;have B0:=J.out.later (below_drewN (Below.refl _ _) nq);have Q:Hid (BoxIn _ B {b with text:=b.text++Bx.frames L} (.slice ad b.now.slots.length ao) (.slice ax b.now.ends.length aa) tk):=B0.txt (b.text++Bx.frames L);have aj:Hid (TRow _ 178 (.slice al L.length Z) L.length (L.flatMap chC)):=(V.out.later (below_drewN (Below.refl _ _) nq)).set B0.ty (by decide) 7 (.string (b.text++Bx.frames L))
 have aw:Hid (w.grownBy _ (some B)):=dJ (dA U.out (dy (below_drewN (Below.refl _ _) nq) _)) 7 (.string (b.text++Bx.frames L));clear c0 c1 c2 c3 c4 c5 c6 c7 c8 f7 B0 J V U;generalize (w1.drewN nq).setCell ⟨B,7,none⟩ (.string (b.text++Bx.frames L))=W2 at *;refine (pN b.now L _ _ _ W2 HO.out hL (fun c h=>by have:=(HC.out c h).t;unfold maxLen;omega) aj.out.1 Q.out.rows).mono ?_
 rintro e w3 ⟨⟨aH,aF,rfl,d⟩,I⟩;obtain⟨ap,ab,rfl,_⟩:=d.sl.form;obtain⟨am,af,rfl,_⟩:=d.en.form;have O:=Q.out.later I;have av:Hid (BoxIn _ B {b with text:=b.text++Bx.frames L,now:=Bx.told b.now L} (.slice ap (Bx.told b.now L).slots.length ab) (.slice am (Bx.told b.now L).ends.length af) tk):=O.put (Bx.told b.now L) _ _ d;have ak:Hid (w.grownBy w3 (some B)):=dA aw.out (dy I _);obtain⟨c0,c1,c2,c3,c4,c5,c6,c7,c8,f,_,_,_⟩:=O;have f2:=f 2 (by decide);have f3:=f 3 (by decide);have f4:=f 4 (by decide);have f5:=f 5 (by decide);have f6:=f 6 (by decide)
 clear f d I;go_wp2_with fail;go_ret;exact⟨rfl,⟨_,_,av.out⟩,dJ (dJ (dJ (dJ (dJ ak.out _ _) _ _) _ _) _ _) _ _⟩
set_option maxHeartbeats 0 in
theorem iO (b:Bx.Bo) (B:Nat) (n:Int) (sl en tk:Value) (w:World) (hl:b.talks.length≤10000) (hB:BoxIn w B b sl en tk):
 Calls Tryz.prog 147 #[.pointer (some ⟨B,0,none⟩),.int .i64 n] w fun e w'=>e=.returned (.int .i64 (talkOf b.talks n))∧w'=w:=by
 obtain⟨ad,af,rfl,Z⟩:=hB.tkr.form;have HR:=Hq hB.tkr.1;obtain⟨c0,c1,c2,c3,c4,c5,c6,c7,c8,_,_,_,_⟩:=hB
 go_enter Tryz.func147,Tryz.ntmps147
 go_wp2_with fail
 go_loop [5] (fun i=>∃k:Nat,k≤b.talks.length∧i=.int .i64 k∧∀j (h:j<b.talks.length),j<k→¬b.talks[j].num=n) (fun i=>b.talks.length-(intOf i).toNat)
 case atStart=>exact⟨0,Nat.zero_le _,rfl,fun j _ h=>by omega⟩
 case round=>
  obtain⟨k,hk,rfl,I⟩:=hrel;have d:=Hq I;clear I
  by_cases J:k<b.talks.length
  ·obtain⟨Y,U,ae,hv,_,O⟩:=HR.out.some' (by omega)
   cases hv
   have x0:w.cell? ⟨Y,U+k*4,none⟩=some (.int .i64 b.talks[k].num):=RowAt.cell ed O k J 0 (by decide)
   clear O;have b1:(0:Int)≤(k:Int):=by omega
   have b2:(k:Int)<(b.talks.length:Int):=by omega
   cases Q:(b.talks[k].num==n)
   ·have G:Hid (∀j (h:j<b.talks.length),j<k+1→¬b.talks[j].num=n):=by
     intro j h V
     by_cases e:j=k
     ·subst e;simpa using Q
     ·exact d.out j h (by omega)
    generalize b.talks[k].num=x at *;go_wp2_with fail
    go_round
    case rel=>exact⟨k+1,by omega,by go_num,G.out⟩
    case measure=>simp[intOf];omega
   ·have G:Hid (talkOf b.talks n=k):=iB J (by simpa using Q) (fun j h V=>d.out j h V)
    generalize b.talks[k].num=x at *;go_wp2_with fail;go_ret;exact⟨dN G.out.symm,rfl⟩
  ·obtain rfl:k=b.talks.length:=by omega
   have G:Hid (talkOf b.talks n= -1):=iF (fun j h=>d.out j h h)
   go_wp2_with fail;go_ret;exact⟨dN G.out.symm,rfl⟩
def NewTk (w:World) (tk tk':Value):Prop:=tk'.ownBlock=tk.ownBlock∨∀g,tk'.ownBlock=some g→w.heap.size≤g
theorem NewTk.grow {w G:World}{tk d:Value} (h:NewTk G tk d) (I:w.heap.size≤G.heap.size):NewTk w tk d:=h.imp id fun f g e=>Nat.le_trans I (f g e)
theorem NewTk.own {w O:World}{tk G:Value}{d n size:Nat}{e:TypeId}{I:List Value} (h:O.ownsRow d e size G n I) (J:w.heap.size≤d):NewTk w tk G:=Or.inr fun g e=>Nat.le_trans J (h.lt g e).1
theorem kE:(Tryz.prog.info? 220).map (fun i=>(i.zero,i.size,i.bytes))=some (some (.agg #[.int .i64 0,.int .i64 0,.int .i64 0,.string ByteArray.empty]),4,40):=by kernel_rfl
theorem ma (w:World) (x:Bx.Tk) (t:TypeId):∀j u,(tkC x)[j]? =some u→(w.alloc (.cells #[.int .i64 x.num,.int .i64 x.at',.int .i64 x.since,.string x.heard] t)).cell? ((⟨w.heap.size,0,none⟩:Addr).add j)=some u:=by
 intro j u d
 match j,d with
 | 0,d=>simp[tkC] at d;subst d;simp[Addr.add,go_sem]
 | 1,d=>simp[tkC] at d;subst d;simp[Addr.add,go_sem]
 | 2,d=>simp[tkC] at d;subst d;simp[Addr.add,go_sem]
 | 3,d=>simp[tkC] at d;subst d;simp[Addr.add,go_sem]
theorem lV (x:Bx.Tk):∀u∈tkC x,u.oneCell'=true:=by
 intro u d;simp[tkC] at d;rcases d with rfl|rfl|rfl|rfl<;>rfl
theorem BoxIn.tks {w:World}{B:Nat}{b:Bx.Bo}{sl en tk:Value} (h:BoxIn w B b sl en tk) (l:List Bx.Tk) (d:Value) (G:w.ownsRow (B+1) 220 4 d l.length (l.flatMap tkC)):BoxIn (w.setCell ⟨B,8,none⟩ d) B {b with talks:=l} sl en d:=by
 obtain⟨c0,c1,c2,c3,c4,c5,c6,c7,c8,f,ty,rows,tk⟩:=h;refine⟨?_,?_,?_,?_,?_,?_,?_,?_,?_,fun j e=>?_,ty.setCell _ _ _,rows.set ty (by decide) (by decide) _ _,ownsRow_setCell_below G (by simp) _⟩
 case refine_10=>simp[go_sem,f j e]
 all_goals simp[go_sem,c0,c1,c2,c3,c4,c5,c6,c7,c8]
set_option maxRecDepth 10000 in
set_option maxHeartbeats 0 in
theorem iK (b:Bx.Bo) (B:Nat) (sl en tk:Value) (w:World) (hs:b.now.slots.length≤10000) (hl:b.talks.length≤1000) (hB:BoxIn w B b sl en tk):
 Calls Tryz.prog 115 #[.pointer (some ⟨B,0,none⟩)] w fun e w'=>e=.returned (.tuple #[])∧(∃aA,BoxIn w' B {b with talks:=hushL b.now b.talks} sl en aA∧NewTk w tk aA)∧w.grownBy w' (some B):=by
 obtain⟨i0,hi,a2,aQ,aM⟩:=info_parts kE;obtain⟨ad,Y,rfl,bg⟩:=hB.rows.sl.form;obtain⟨V,I,rfl,a7⟩:=hB.rows.en.form;obtain⟨aP,aL,rfl,a8⟩:=hB.tkr.form;have HB:=Hq hB;clear hB
 go_enter Tryz.func115,Tryz.ntmps115
 go_wp2_with fail;refine (dX b B _ _ _ _ HB.out).mono ?_;rintro e w1 ⟨rfl,ag⟩;have ab:=dx w1 (stO b.now (.slice ad b.now.slots.length Y) (.slice V b.now.ends.length I));have hI:=StIn.new w1 b.now (.slice ad b.now.slots.length Y) (.slice V b.now.ends.length I);have ax:=(HB.out.later ag).later ab;have hG:Below w.heap.size w (w1.alloc (stO b.now (.slice ad b.now.slots.length Y) (.slice V b.now.ends.length I))):=ag.trans (ab.mono ag.size);go_wp2_with fail;generalize w1.alloc (stO b.now (.slice ad b.now.slots.length Y) (.slice V b.now.ends.length I))=W at *;have aB:=Hq ax;have HI:=Hq hI;have HG:=Hq hG;clear ax hI hG ag ab HB;generalize w1.heap.size=sq at *
 go_loopw [3,4] (fun v i wr=>∃k:Nat,k≤b.talks.length∧i=.int .i64 k∧wr.ownsRow W.heap.size 220 4 v (hushL b.now (b.talks.take k)).length ((hushL b.now (b.talks.take k)).flatMap tkC)∧Below W.heap.size W wr) (fun _ i _=>b.talks.length-(intOf i).toNat)
 case atStart=>exact⟨0,Nat.zero_le _,rfl,by simpa [hushL] using World.ownsRow_nil _ _ _ _,Below.refl _ _⟩
 case round=>
  obtain⟨k,hk,rfl,J,U⟩:=hrel;have a5:=U.size;have d:=aB.out.later U
  by_cases aa:k<b.talks.length
  ·have HT:Hid _:=nh b.now b.talks k aa;obtain⟨d0,d1,d2,d3,d4⟩:=HI.out.later U;obtain⟨tb,Z,bn,hv,_,hc⟩:=d.tkr.1.some' (by omega)
   cases hv
   have x0:wr.cell? ⟨tb,Z+k*4,none⟩=some (.int .i64 b.talks[k].num):=RowAt.cell ed hc k aa 0 (by decide)
   have x1:wr.cell? ⟨tb,Z+k*4+1,none⟩=some (.int .i64 b.talks[k].at'):=RowAt.cell ed hc k aa 1 (by decide)
   have x2:wr.cell? ⟨tb,Z+k*4+2,none⟩=some (.int .i64 b.talks[k].since):=RowAt.cell ed hc k aa 2 (by decide)
   have x3:wr.cell? ⟨tb,Z+k*4+3,none⟩=some (.string b.talks[k].heard):=RowAt.cell ed hc k aa 3 (by decide)
   have hn:(hushL b.now (b.talks.take k)).length≤1000:=by have:=qd b.now (b.talks.take k);simp at this;omega
   have c8:=d.c8;have aO:B<wr.heap.size:=d.ty.lt;have aG:tb<wr.heap.size:=World.block_lt_of_cell? _ _ x0;have aW:sq<wr.heap.size:=World.block_lt_of_cell? _ _ d0;have y1:(0:Int)≤(k:Int):=by omega
   have y2:(k:Int)<(b.talks.length:Int):=by omega
   have au:Hid (StAt wr.drew b.now (.slice ad b.now.slots.length Y) (.slice V b.now.ends.length I)):=d.rows.later (Below.refl _ _).drew;have ay:=Hq d;have aw:=jl b.now b.talks[k].num;have Q:Hid (goesOn b.now b.talks[k]=(decide (0≤Bx.find b.now b.talks[k].num)&&(Bx.slAt b.now (Bx.find b.now b.talks[k].num).toNat).runs)):=rfl;clear hc d;generalize hushL b.now (b.talks.take k)=M at *;generalize b.talks[k]=x at *;obtain⟨F,hF⟩:∃F:Int,F=Bx.find b.now x.num:=⟨_,rfl⟩;rw[←hF] at aw Q;have HF:=Hq hF;clear hF;go_wp2_with fail
   go_cut [5] from 17 to 26 (fun s5 wx=>s5=.int .i64 F∧Below wr.heap.size wr wx)
   case first=>
    go_region_with ((go_at_call 114;refine (eY b.now x.num (.slice ad b.now.slots.length Y) (.slice V b.now.ends.length I) wr.drew hs au.out).mono ?_;rintro e w2 ⟨rfl,ab⟩))
    all_goals (go_wp2_with fail;go_meet;exact⟨by rw[HF.out],(Below.refl _ _).drew.trans ab⟩)
   case rest=>
    obtain⟨rfl,G⟩:=hcut;have O:=dV J G;have aN:=Hq (ay.out.later G);have ac:Below W.heap.size W wc:=U.trans (G.mono U.size);have aI:=ac.size;replace x0:=cell_later G x0;replace x1:=cell_later G x1;replace x2:=cell_later G x2;replace x3:=cell_later G x3;replace c8:=cell_later G c8;replace d3:=cell_later G d3;clear d0 d1 d2 d4 J U au ay aO aG aW a5
    by_cases aJ:F<0
    ·have HN:Hid (hushL b.now (b.talks.take (k+1))=M):=by
      unfold Hid;rw[HT.out,Q.out,decide_eq_false (by omega)];rfl
     have z1:¬(0:Int)≤F:=by omega
     clear HT Q x0 x1 x2 x3;go_wp2_with fail;go_roundw
     case rel=>exact⟨k+1,by omega,by go_num,by rw[HN.out];exact O,ac⟩
     case measure=>simp[intOf];omega
    ·obtain⟨i,aV⟩:∃i:Nat,F=i:=Int.eq_ofNat_of_zero_le (by omega)
     subst aV;simp only [Int.toNat_natCast] at Q;have aC:i<b.now.slots.length:=by omega
     obtain⟨b5,aE,bj,aR,_,az⟩:=aN.out.rows.sl.1.some' (by omega)
     cases aR
     have s5:wc.cell? ⟨b5,aE+i*6+5,none⟩=some (.bool (Bx.slAt b.now i).runs):=by rw[←slAt_eq b.now i aC];exact (dT az i aC).2.2.2.2.2
     have z1:(0:Int)≤(i:Int):=by omega
     have z2:(i:Int)<(b.now.slots.length:Int):=by omega
     clear az aJ aw
     cases hr:(Bx.slAt b.now i).runs
     ·have HN:Hid (hushL b.now (b.talks.take (k+1))=M):=by
       unfold Hid;rw[HT.out,Q.out,hr,Bool.and_false];rfl
      rw[hr] at s5;clear HT Q x0 x1 x2 x3 hr;go_wp2_with fail;go_roundw
      case rel=>exact⟨k+1,by omega,by go_num,by rw[HN.out];exact O,ac⟩
      case measure=>simp[intOf];omega
     ·have HN:Hid (hushL b.now (b.talks.take (k+1))=M++[x]):=by
       unfold Hid;rw[HT.out,Q.out,hr,decide_eq_true z1];rfl
      rw[hr] at s5;clear HT Q hr;go_wp2_with (at_builtin;refine wpList_append_lies _ rfl (.tmp 37) (.tmp 45) 171 rfl W.heap.size 220 i0 (.agg #[.int .i64 0,.int .i64 0,.int .i64 0,.string ByteArray.empty]) 4 40 Tryz.underlying171 hi a2 aQ aM rfl (by decide) _ _ _ rfl (O.alloc _) ⟨wc.heap.size,0,none⟩ 1 1 (tkC x) rfl rfl (ma _ _ _) (lV x) (by decide) ?c3 ?c4 ?c5 _ rfl ?_)
      case c3=>unfold maxLen;omega
      case c4=>omega
      case c5=>simp;omega
      ·intro g aF w4 ah ai _ ba;have B1:Below W.heap.size W w4:=(ac.alloc aI _).grown ai (by simp;omega) (fun k' e=>(O.lt k' e).1)
       have av:w4.ownsRow W.heap.size 220 4 (.slice (some ⟨g,0,none⟩) (M.length+1) aF) (M++[x]).length ((M++[x]).flatMap tkC):=by simpa using ah
       clear ah ai O ac x0 x1 x2 x3 c8 d3 s5 G;go_wp2_with fail;go_roundw
       case rel=>exact⟨k+1,by omega,by go_num,by rw[HN.out];exact av,B1⟩
       case measure=>simp[intOf];omega
  ·obtain rfl:k=b.talks.length:=by omega
   rw[List.take_length] at J;have HN:Hid (BoxIn _ B {b with talks:=hushL b.now b.talks} (.slice ad b.now.slots.length Y) (.slice V b.now.ends.length I) _):=d.tks (hushL b.now b.talks) _ (fM J aB.out.ty.lt);have aS:Hid (NewTk w (.slice aP b.talks.length aL) _):=NewTk.own J HG.out.size;obtain⟨bt,bf,rfl,_⟩:=(RowAt.of_own J).form;have aZ:Hid (w.grownBy wr (some B)):=dA (dy HG.out _) (dy U _);have c8:=d.c8;have f8:=d.f 8 (by decide)
   clear J U d;go_wp2_with fail;exact bodyPost_end (v:=.tuple #[]) (by simp[results,Tryz.results115,go_sem]) rfl ⟨rfl,⟨_,HN.out,aS.out⟩,dJ aZ.out _ _⟩
theorem sA (w:World) (x:Bx.Ch) (t:TypeId):∀j (h:j<([x].flatMap chC).length),(w.alloc (.cells #[.int .u8 x.kind,.string x.tab,.int .i64 x.n] t)).cell? ⟨w.heap.size,0+j,none⟩=some ([x].flatMap chC)[j]:=by
 intro j h
 match j,h with
 | 0,h=>simp[chC,go_sem]
 | 1,h=>simp[chC,go_sem]
 | 2,h=>simp[chC,go_sem]
theorem kh (w:World) (x:Bx.Ch):TRow (w.alloc (chO x)) 178 (.slice (some ⟨w.heap.size,0,none⟩) 1 1) [x].length ([x].flatMap chC):=
 ⟨Or.inr ⟨w.heap.size,0,1,rfl,by simp,sA w x _⟩,fun b e n d h=>by cases h;exact Typed.new _ _ _⟩
theorem nS {tab:ByteArray} (h:tab.size≤300):∀c∈[chT tab],ChOk c:=by
 intro c d;simp at d;subst d;exact⟨show (0:Int)≤84 by decide,show (84:Int)≤255 by decide,show (0:Int)≤0 by decide,show (0:Int)≤9223372036854775807 by decide,h⟩
set_option maxRecDepth 10000 in
set_option maxHeartbeats 0 in
theorem nX (b:Bx.Bo) (B:Nat) (tab:ByteArray) (sl en tk:Value) (w:World) (hO:BoOk b) (ht:tab.size≤maxLen) (hB:BoxIn w B b sl en tk):
 Calls Tryz.prog 73 #[.pointer (some ⟨B,0,none⟩),.string tab] w fun e w'=>(∃b' a r av aB ap,e=.returned (.tuple #[.int .i64 a,.int .i64 r])∧LoadR b tab b' a r∧BoxIn w' B b' av aB ap∧NewTk w tk ap)∧w.grownBy w' (some B):=by
 obtain⟨V,G,rfl,aG⟩:=hB.rows.sl.form;obtain⟨I,d,rfl,aF⟩:=hB.rows.en.form;have HB:=Hq hB;have HO:=Hq hO;clear hB hO
 go_enter Tryz.func73,Tryz.ntmps73
 go_wp2_with fail;refine (gF tab _ ht).mono ?_;rintro e w1 ⟨⟨a,r,rfl,ai,aL⟩,Y⟩;have ae:=Hq ai;have Q:=Hq (HB.out.later Y);have ab:Hid (w.grownBy w1 (some B)):=dy Y _;clear ai Y HB
 cases z0:(r !=0)
 ·have hr:r=0:=by simpa using z0
  subst hr;have J:Hid (ChkR tab 0 0):=by have:=ae.out;rwa [this.zero rfl] at this
  clear ae;go_wp2_with fail;refine (dX b B _ _ _ _ Q.out).mono ?_;rintro e U ⟨rfl,O⟩;have Z:=dx U (stO b.now (.slice V b.now.slots.length G) (.slice I b.now.ends.length d));have ao:Hid (BoxIn (U.alloc (stO b.now (.slice V b.now.slots.length G) (.slice I b.now.ends.length d))) B b (.slice V b.now.slots.length G) (.slice I b.now.ends.length d) tk):=(Q.out.later O).later Z;have aj:Hid (w.grownBy (U.alloc (stO b.now (.slice V b.now.slots.length G) (.slice I b.now.ends.length d))) (some B)):=dA ab.out (dy (O.trans (Z.mono O.size)) _);have hI:=StIn.new U b.now (.slice V b.now.slots.length G) (.slice I b.now.ends.length d);clear O Z Q ab;go_upto_region 5 with fail;generalize U.alloc (stO b.now (.slice V b.now.slots.length G) (.slice I b.now.ends.length d))=W at *;generalize U.heap.size=sq at *;have d3:=hI.c3;clear hI
  by_cases ah:0<b.now.slots.length
  ·have z1:(0:Int)<(b.now.slots.length:Int):=by omega
   go_wp2_with fail;go_ret2;exact⟨⟨b,0,5,_,_,_,rfl,Or.inr (Or.inl ⟨J.out,ah,rfl,rfl,rfl⟩),ao.out,Or.inl rfl⟩,aj.out⟩
  ·have z1:¬(0:Int)<(b.now.slots.length:Int):=by omega
   have ak:Hid (b.now.slots.length=0):=by unfold Hid;omega
   clear ah;have am:=dx W (chO (chT tab));have ag:=kh W (chT tab);have ac:=ao.out.later am;have aq:Hid (w.grownBy (W.alloc (chO (chT tab))) (some B)):=dA aj.out (dy am _);have aa:=J.out.lines.1
   by_cases hF:fits b [chT tab]
   ·go_wp2_with fail;refine (fK b B _ _ tk _ [chT tab] _ HO.out.st (by simp) (nS aa) HO.out.txt hF ag ac).mono ?_
    rintro e w5 ⟨rfl,⟨aK,aM,ay⟩,aE⟩;go_wp2_with fail;go_ret2;exact⟨⟨_,0,0,_,_,_,rfl,Or.inr (Or.inr (Or.inr ⟨J.out,ak.out,hF,rfl,rfl,rfl⟩)),ay,Or.inl rfl⟩,dA aq.out aE⟩
   ·go_wp2_with fail;refine (gm b B _ _ tk _ [chT tab] _ (by simp) (nS aa) HO.out.txt (by unfold fits at hF;omega) ag ac).mono ?_
    rintro e w5 ⟨rfl,al⟩;go_wp2_with fail;go_ret2;exact⟨⟨b,0,13,_,_,_,rfl,Or.inr (Or.inr (Or.inl ⟨J.out,ak.out,hF,rfl,rfl,rfl⟩)),ac.later al,Or.inl rfl⟩,dA aq.out (dy al _)⟩
 ·have hr:¬r=0:=by simpa using z0
  go_wp2_with fail;go_ret2;exact⟨⟨b,a,r,_,_,_,rfl,Or.inl ⟨hr,ae.out,rfl⟩,Q.out,Or.inl rfl⟩,ab.out⟩
theorem nM:(Tryz.prog.info? 178).map (fun i=>(i.zero,i.size,i.bytes))=some (some (.agg #[.int .u8 0,.string ByteArray.empty,.int .i64 0]),3,32):=by kernel_rfl
theorem qk {b:Bx.Bo}{m:Int} (e:BoOk b) (h0:0≤m) (h1:m≤4223371679) (k:Nat) (I:k≤b.now.slots.length):∀c∈tickK b m k,ChOk c:=by
 induction k with
 | zero=>
   intro c d;simp[tickK] at d;subst d;exact⟨show (0:Int)≤67 by decide,show (67:Int)≤255 by decide,h0,by show m≤_;omega,by show 0≤300;decide⟩
 | succ k w=>
   rw[tickK];have G:=e.st.each _ (Bx.slAt_mem (s:=b.now) (i:=k) (by omega))
   have:=e.st.n2
   split
   ·intro c d
    rcases List.mem_append.1 d with d|d
    ·exact w (by omega) c d
    ·simp at d;subst d
     exact⟨show (0:Int)≤70 by decide,show (70:Int)≤255 by decide,by show 0≤(Bx.slAt b.now k).num;omega,by show (Bx.slAt b.now k).num≤_;omega,by show 0≤300;decide⟩
   ·exact w (by omega)
theorem pF {s:Bx.St}{m:Int} (d:Bx.StOk s) (hA:Bx.ahead s m=true):(Bx.comesS s m).length≤100000:=by
 have h1:=Bx.comes_len (Bx.lns s.tab) (Bx.newA s m) m;have h2:(Bx.lns s.tab).length≤4:=by rw[Bx.lns,List.length_map,Bx.linesOf_len];exact gJ d.tab
 have e:0≤m∧m≤4223371679∧s.clock<m∧(s.clock= -1∨m-s.clock≤1500):=of_decide_eq_true hA;have w:m-Bx.newA s m≤1500:=by unfold Bx.newA;split<;>omega
 have I:(m+1-Bx.newA s m).toNat*(Bx.lns s.tab).length≤1501*4:=Nat.mul_le_mul (by omega) h2
 have G:(Bx.comesS s m).length≤(m+1-Bx.newA s m).toNat*(Bx.lns s.tab).length:=h1;omega
theorem kF (w:World) (x:Bx.Ch) (t:TypeId):∀j u,(chC x)[j]? =some u→(w.alloc (.cells #[.int .u8 x.kind,.string x.tab,.int .i64 x.n] t)).cell? ((⟨w.heap.size,0,none⟩:Addr).add j)=some u:=by
 intro j u d
 match j,d with
 | 0,d=>simp[chC] at d;subst d;simp[Addr.add,go_sem]
 | 1,d=>simp[chC] at d;subst d;simp[Addr.add,go_sem]
 | 2,d=>simp[chC] at d;subst d;simp[Addr.add,go_sem]
theorem mh (x:Bx.Ch):∀u∈chC x,u.oneCell'=true:=by
 intro u d;simp[chC] at d;rcases d with rfl|rfl|rfl<;>rfl
theorem ni (w:World) (x:Bx.Ch):(w.alloc (chO x)).ownsRow w.heap.size 178 3 (.slice (some ⟨w.heap.size,0,none⟩) 1 1) [x].length ([x].flatMap chC):=
 ⟨rfl,Or.inr ⟨w.heap.size,1,#[.int .u8 x.kind,.string x.tab,.int .i64 x.n],rfl,Nat.le_refl _,by show (w.heap.push (chO x))[w.heap.size]? =_;simp,by simp,by decide,rfl,rfl⟩⟩
set_option maxRecDepth 10000 in
set_option maxHeartbeats 0 in
theorem ny (b:Bx.Bo) (B:Nat) (m:Int) (sl en tk:Value) (w:World) (hO:BoOk b) (hB:BoxIn w B b sl en tk):
 Calls Tryz.prog 111 #[.pointer (some ⟨B,0,none⟩),.int .i64 m] w fun e w'=>(∃bh bb aU,e=.returned (.tuple #[.int .i64 (tickP b m).2.1,.int .i64 (tickP b m).2.2])∧BoxIn w' B (tickP b m).1 bh bb aU∧NewTk w tk aU)∧w.grownBy w' (some B):=by
 obtain⟨i0,hi,bx,ba,a8⟩:=info_parts nM;obtain⟨ad,aa,rfl,bL⟩:=hB.rows.sl.form;obtain⟨Z,J,rfl,bC⟩:=hB.rows.en.form;obtain⟨a9,a7,rfl,bF⟩:=hB.tkr.form;have HB:=Hq hB;have HO:=Hq hO;have aO:=hO.st.c1;have aX:=hO.st.c2;have bY:=hO.st.n1;have b2:=hO.st.n2;have bT:=hO.st.sl;have bE:=hO.tks
 have Y:Hid (tickP b m=if ¬minB m=true then (b,0,4)
  else if ¬Bx.ahead b.now m=true then (b,0,6)
  else if 10000<b.now.next+((Bx.comesS b.now m).length:Int) then (b,0,7)
  else if b.room<(b.text.size:Int)+(Bx.frames (tickL b m)).size then (b,0,13)
  else ({addB b (tickL b m) with talks:=hushL (Bx.told b.now (tickL b m)) b.talks},((Bx.comesS b.now m).length:Int),0)):=rfl
 clear hB hO
 go_enter Tryz.func111,Tryz.ntmps111
 go_wp2_with fail;refine (fO m _).mono ?_;rintro e w ⟨rfl,rfl⟩
 cases hm:minB m
 ·have I:Hid (tickP b m=(b,0,4)):=by unfold Hid;rw[Y.out,hm];rfl
  go_wp2_with fail;go_ret2;rw[I.out];exact⟨⟨_,_,_,rfl,HB.out,Or.inl rfl⟩,eF _ _⟩
 rw[hm] at Y;simp only [not_true_eq_false,if_false] at Y;have aQ:0≤m∧m≤4223371679:=of_decide_eq_true hm;clear hm;go_wp2_with fail;refine (dX b B _ _ _ _ HB.out).mono ?_;rintro e w2 ⟨rfl,ai⟩;have aA:=dx w2 (stO b.now (.slice ad b.now.slots.length aa) (.slice Z b.now.ends.length J));have aD:Hid (BoxIn (w2.alloc (stO b.now (.slice ad b.now.slots.length aa) (.slice Z b.now.ends.length J))) B b (.slice ad b.now.slots.length aa) (.slice Z b.now.ends.length J) (.slice a9 b.talks.length a7)):=(HB.out.later ai).later aA;have aC:=Hq (ai.trans (aA.mono ai.size));have HI:Hid (StIn (w2.alloc (stO b.now (.slice ad b.now.slots.length aa) (.slice Z b.now.ends.length J))) w2.heap.size b.now (.slice ad b.now.slots.length aa) (.slice Z b.now.ends.length J)):=StIn.new w2 b.now _ _;go_upto_region 5 with fail;generalize w2.alloc (stO b.now (.slice ad b.now.slots.length aa) (.slice Z b.now.ends.length J))=W at *;generalize w2.heap.size=sq at *;clear ai aA HB;obtain⟨d0,d1,d2,O,d4⟩:=HI.out;go_wp2_with fail;refine (jB b.now m _ _ _ aO aX aD.out.rows).mono ?_;rintro e w4 ⟨rfl,ar⟩;have aw:=Hq (aD.out.later ar);have az:=Hq (HI.out.later ar);have aj:=Hq (aC.out.trans (ar.mono aC.out.size));clear d0 d1 d2 O d4 aD HI aC ar
 cases al:Bx.ahead b.now m
 ·have I:Hid (tickP b m=(b,0,6)):=by unfold Hid;rw[Y.out,al];rfl
  go_wp2_with fail;go_ret2;rw[I.out];exact⟨⟨_,_,_,rfl,aw.out,Or.inl rfl⟩,dy aj.out _⟩
 have aK:=Hq al;rw[al] at Y;simp only [not_true_eq_false,if_false] at Y;clear al;obtain⟨d0,d1,d2,O,d4⟩:=az.out;go_wp2_with fail;refine (jH b.now _ _ m _ HO.out.st.tab aO aX aK.out aw.out.rows).mono ?_;rintro e V ⟨⟨v5,rfl,ao⟩,ap⟩;obtain⟨bZ,bM,rfl,_⟩:=(RowAt.of_own ao).form;have aP:=Hq (aw.out.later ap);have av:=Hq (az.out.later ap);have aM:=Hq (aj.out.trans (ap.mono aj.out.size));have b0:(Bx.comesS b.now m).length≤100000:=pF HO.out.st aK.out;clear d0 d1 d2 O d4 aw az aj ap ao;obtain⟨d0,d1,d2,O,d4⟩:=av.out;generalize bn:(Bx.comesS b.now m).length=nc at *;clear bn
 by_cases aG:10000<b.now.next+(nc:Int)
 ·have I:Hid (tickP b m=(b,0,7)):=by unfold Hid;rw[Y.out,if_pos aG]
  go_wp2_with fail;go_ret2;rw[I.out];exact⟨⟨_,_,_,rfl,aP.out,Or.inl rfl⟩,dy aM.out _⟩
 rw[if_neg aG] at Y;clear d0 d1 d2 O d4;have aT:Hid ((V.alloc (chO (chCl m))).ownsRow V.heap.size 178 3 (.slice (some ⟨V.heap.size,0,none⟩) 1 1) (tickK b m 0).length ((tickK b m 0).flatMap chC)):=ni V (chCl m);obtain⟨d0,d1,d2,O,d4⟩:=av.out;have q7:IntKind.i64.wrap (b.now.next+(nc:Int))=b.now.next+(nc:Int):=by rw[IntKind.wrap_i64];omega
 go_wp2_with fail;clear d0 d1 d2 O d4
 go_loopw [10,11] (fun v i wr=>∃k:Nat,k≤b.now.slots.length∧i=.int .i64 k∧wr.ownsRow V.heap.size 178 3 v (tickK b m k).length ((tickK b m k).flatMap chC)∧Below V.heap.size V wr) (fun _ i _=>b.now.slots.length-(intOf i).toNat)
 case atStart=>exact⟨0,Nat.zero_le _,rfl,aT.out,dx _ _⟩
 case round=>
  obtain⟨k,hk,rfl,d,G⟩:=hrel;have bB:=G.size;have ac:=aP.out.later G;have bk:=oo b m k
  by_cases aS:k<b.now.slots.length
  ·have HT:Hid (tickK b m (k+1)=if late b m (Bx.slAt b.now k).num=true then tickK b m k++[chF (Bx.slAt b.now k).num] else tickK b m k):=rfl
   have O:=(av.out.later G).c3;obtain⟨b5,aY,bD,bc,_,aR⟩:=ac.rows.sl.1.some' (by omega)
   cases bc
   have s0:wr.cell? ⟨b5,aY+k*6,none⟩=some (.int .i64 (Bx.slAt b.now k).num):=by rw[←slAt_eq b.now k aS];exact (dT aR k aS).1
   have y1:(0:Int)≤(k:Int):=by omega
   have y2:(k:Int)<(b.now.slots.length:Int):=by omega
   have U:=Hq ac;have Q:Hid (late b m (Bx.slAt b.now k).num=(decide (0≤talkOf b.talks (Bx.slAt b.now k).num)&&decide ((tkAt b (talkOf b.talks (Bx.slAt b.now k).num).toNat).since+3≤m))):=rfl;have bj:=gU b.talks (Bx.slAt b.now k).num;clear aR ac;generalize tickK b m k=M at *;generalize (Bx.slAt b.now k).num=n at *;go_wp2_with fail;refine (iO b B n _ _ _ _ (by omega) U.out).mono ?_
   rintro e w6 ⟨rfl,bw⟩;subst bw;generalize talkOf b.talks n=F at *
   by_cases a5:F<0
   ·have HN:Hid (tickK b m (k+1)=M):=by unfold Hid;rw[HT.out,Q.out,decide_eq_false (by omega)];rfl
    have z1:¬(0:Int)≤F:=by omega
    clear HT Q s0;go_wp2_with fail;go_roundw
    case rel=>exact⟨k+1,by omega,by go_num,by rw[HN.out];exact d,G⟩
    case measure=>simp[intOf];omega
   ·obtain⟨i,bp⟩:∃i:Nat,F=i:=Int.eq_ofNat_of_zero_le (by omega)
    subst bp;simp only [Int.toNat_natCast] at Q;have aq:i<b.talks.length:=by omega
    have z1:(0:Int)≤(i:Int):=by omega
    have z2:(i:Int)<(b.talks.length:Int):=by omega
    obtain⟨b6,a3,bN,bo,_,aL⟩:=U.out.tkr.1.some' (by omega)
    cases bo
    have t2:w6.cell? ⟨b6,a3+i*4+2,none⟩=some (.int .i64 (tkAt b i).since):=by rw[←eA b i aq];exact RowAt.cell ed aL i aq 2 (by decide)
    have c8:=U.out.c8;have bs:=HO.out.since _ (List.getElem_mem aq);rw[eA b i aq] at bs;have q3:IntKind.i64.wrap ((tkAt b i).since+3)=(tkAt b i).since+3:=by rw[IntKind.wrap_i64];omega
    clear aL a5 bj
    by_cases ak:(tkAt b i).since+3≤m
    ·have HN:Hid (tickK b m (k+1)=M++[chF n]):=by unfold Hid;rw[HT.out,Q.out,decide_eq_true z1,decide_eq_true ak];rfl
     clear HT Q;go_wp2_with (at_builtin;refine wpList_append_lies _ rfl (.tmp 67) (.tmp 75) 179 rfl V.heap.size 178 i0 (.agg #[.int .u8 0,.string ByteArray.empty,.int .i64 0]) 3 32 Tryz.underlying179 hi bx ba a8 rfl (by decide) _ _ _ rfl (d.alloc _) ⟨w6.heap.size,0,none⟩ 1 1 (chC (chF n)) rfl rfl (kF _ (chF n) _) (mh (chF n)) (by decide) ?c3 ?c4 ?c5 _ rfl ?_)
     case c3=>unfold maxLen;omega
     case c4=>omega
     case c5=>simp;omega
     ·intro g aZ w7 am au _ bG;have B1:Below V.heap.size V w7:=(G.alloc bB _).grown au (by simp;omega) (fun k' e=>(d.lt k' e).1)
      have aH:w7.ownsRow V.heap.size 178 3 (.slice (some ⟨g,0,none⟩) (M.length+1) aZ) (M++[chF n]).length ((M++[chF n]).flatMap chC):=by simpa using am
      clear am au d s0 t2 c8 O;go_wp2_with fail;go_roundw
      case rel=>exact⟨k+1,by omega,by go_num,by rw[HN.out];exact aH,B1⟩
      case measure=>simp[intOf];omega
    ·have HN:Hid (tickK b m (k+1)=M):=by unfold Hid;rw[HT.out,Q.out,decide_eq_true z1,decide_eq_false ak];rfl
     clear HT Q;go_wp2_with fail;go_roundw
     case rel=>exact⟨k+1,by omega,by go_num,by rw[HN.out];exact d,G⟩
     case measure=>simp[intOf];omega
  ·obtain rfl:k=b.now.slots.length:=by omega
   have HL:Hid (tickK b m b.now.slots.length=tickL b m):=rfl;have aB:=qk HO.out aQ.1 aQ.2 b.now.slots.length (Nat.le_refl _);rw[HL.out] at d bk aB;have aV:=Hq aB;have HR:Hid (TRow wr 178 _ (tickL b m).length ((tickL b m).flatMap chC)):=TRow.of_own d;obtain⟨bV,bK,rfl,_⟩:=(RowAt.of_own d).form;have U:=Hq ac;have aF:Hid (w.grownBy wr (some B)):=dA (dy aM.out _) (dy G _);have O:=(av.out.later G).c3;clear d G ac aB HL aT;generalize tickL b m=L at *
   by_cases hF:b.room<(b.text.size:Int)+(Bx.frames L).size
   ·have I:Hid (tickP b m=(b,0,13)):=by unfold Hid;rw[Y.out,if_pos hF]
    go_wp2_with fail;refine (gm b B _ _ _ _ L _ (by omega) aV.out HO.out.txt hF HR.out U.out).mono ?_
    rintro e w8 ⟨rfl,aW⟩;clear O;go_wp2_with fail;go_ret2;rw[I.out];exact⟨⟨_,_,_,rfl,U.out.later aW,Or.inl rfl⟩,dA aF.out (dy aW _)⟩
   ·have I:Hid (tickP b m=({addB b L with talks:=hushL (Bx.told b.now L) b.talks},(nc:Int),0)):=by unfold Hid;rw[Y.out,if_neg hF]
    go_wp2_with fail;refine (fK b B _ _ _ _ L _ HO.out.st (by omega) aV.out HO.out.txt (by omega) HR.out U.out).mono ?_
    rintro e w8 ⟨rfl,⟨bU,bW,bt⟩,aN⟩;clear O;have bH:(Bx.told b.now L).slots.length≤8:=(Bx.told_ok HO.out.st L).sl;go_wp2_with fail;refine (iK (addB b L) B _ _ _ _ (by show (Bx.told b.now L).slots.length≤10000;omega) (by show b.talks.length≤1000;omega) bt).mono ?_
    rintro e w9 ⟨rfl,⟨bX,bA,bf⟩,br⟩;go_wp2_with fail;go_ret2;rw[I.out];exact⟨⟨_,_,_,rfl,bA,bf.grow (dA aF.out aN).size⟩,dA (dA aF.out aN) br⟩
abbrev aslV (x:Bx.Sl) (step:Int):Value:=.agg #[.int .i64 x.num,.int .i64 x.line,.int .i64 x.minute,.int .i64 x.att,.int .i64 x.frm,.int .i64 step]
abbrev aslZ:Value:=.agg #[.int .i64 0,.int .i64 0,.int .i64 0,.int .i64 0,.int .i64 0,.int .i64 0]
def stepOf (b:Bx.Bo) (n:Int):Int:=if 0≤talkOf b.talks n then (tkAt b (talkOf b.talks n).toNat).at'+1 else 0
set_option maxHeartbeats 0 in
theorem sr (b:Bx.Bo) (B:Nat) (i:Int) (sl en tk:Value) (w:World) (hE:b.now.ends.length≤6) (hi:i<0∨(b.now.ends.length:Int)≤i) (hB:BoxIn w B b sl en tk):
 Calls Tryz.prog 120 #[.pointer (some ⟨B,0,none⟩),.int .i64 i] w fun e w'=>e=.returned (.tuple #[.agg #[.int .i64 0,.string ByteArray.empty],.int .i64 4])∧Below w.heap.size w w':=by
 obtain⟨ad,V,rfl,aj⟩:=hB.rows.sl.form;obtain⟨Y,O,rfl,ah⟩:=hB.rows.en.form;have HB:=Hq hB;clear hB
 go_enter Tryz.func120,Tryz.ntmps120
 go_wp2_with fail;refine (dX b B _ _ tk _ (HB.out.later (dx _ _))).mono ?_;rintro e w1 ⟨rfl,d⟩;have J:=dx w (.cells #[.int .i64 0,.string {data:= #[]}] 85);have hZ:=(ZIn.new w #[.int .i64 0,.string {data:= #[]}] 85).later (by simp) d
 have ae:=d.size;have U:=(HB.out.later J).rows.later d;have hI:=StIn.new w1 b.now (.slice ad b.now.slots.length V) (.slice Y b.now.ends.length O);have G:=dx w1 (stO b.now (.slice ad b.now.slots.length V) (.slice Y b.now.ends.length O));have Q:=Hq (U.later G);simp at ae;go_wp2_with fail;refine (gD b.now _ _ _ hE Q.out).mono ?_;rintro e w2 ⟨rfl,I⟩;have Z:ZIn w2 w.heap.size 2:=((hZ.later (by omega) G).later (by simp;omega) I)
 obtain⟨⟨u0,r0⟩,f0⟩:=Z 0 (by decide)
 obtain⟨⟨u1,r1⟩,f1⟩:=Z 1 (by decide)
 have B3:Hid (Below w.heap.size w w2):=((J.trans (d.mono (by simp))).trans (G.mono (by omega))).trans (I.mono (by simp;omega))
 clear Z hZ hI U Q d G I J
 by_cases h0:i<0
 ·go_wp2_with fail;refine bodyPost_ret (v:=.tuple #[.agg #[.int .i64 0,.string ByteArray.empty],.int .i64 4]) (by simp[results,Tryz.results120,go_sem,r0,r1];rfl) rfl ⟨rfl,?_⟩
  repeat (refine Below.setCell ?_ (by simp) _)
  exact B3.out
 ·have h1:(b.now.ends.length:Int)≤i:=by omega
  clear hi;go_wp2_with fail;refine bodyPost_ret (v:=.tuple #[.agg #[.int .i64 0,.string ByteArray.empty],.int .i64 4]) (by simp[results,Tryz.results120,go_sem,r0,r1];rfl) rfl ⟨rfl,?_⟩
  repeat (refine Below.setCell ?_ (by simp) _)
  exact B3.out
set_option maxHeartbeats 0 in
theorem pB (b:Bx.Bo) (B i:Nat) (sl en tk:Value) (w:World) (hE:b.now.ends.length≤6) (hi:i<b.now.ends.length) (hB:BoxIn w B b sl en tk):
 Calls Tryz.prog 120 #[.pointer (some ⟨B,0,none⟩),.int .i64 i] w fun e w'=>e=.returned (.tuple #[.agg #[.int .i64 b.now.ends[i].num,.string b.now.ends[i].how],.int .i64 0])∧Below w.heap.size w w':=by
 obtain⟨ad,Y,rfl,ak⟩:=hB.rows.sl.form;obtain⟨Z,Q,rfl,ai⟩:=hB.rows.en.form;have HB:=Hq hB;clear hB
 go_enter Tryz.func120,Tryz.ntmps120
 go_wp2_with fail;refine (dX b B _ _ tk _ (HB.out.later (dx _ _))).mono ?_;rintro e w1 ⟨rfl,d⟩;have J:=dx w (.cells #[.int .i64 0,.string {data:= #[]}] 85);have hZ:=(ZIn.new w #[.int .i64 0,.string {data:= #[]}] 85).later (by simp) d
 have af:=d.size;have U:=(HB.out.later J).rows.later d;have hI:=StIn.new w1 b.now (.slice ad b.now.slots.length Y) (.slice Z b.now.ends.length Q);have I:=dx w1 (stO b.now (.slice ad b.now.slots.length Y) (.slice Z b.now.ends.length Q));have O:=Hq (U.later I);simp at af;go_wp2_with fail;refine (gD b.now _ _ _ hE O.out).mono ?_;rintro e w2 ⟨rfl,G⟩;have HZ:ZIn w2 w.heap.size 2:=((hZ.later (by omega) I).later (by simp;omega) G)
 obtain⟨⟨u0,r0⟩,f0⟩:=HZ 0 (by decide)
 obtain⟨⟨u1,r1⟩,f1⟩:=HZ 1 (by decide)
 have B3:Hid (Below w.heap.size w w2):=((J.trans (d.mono (by simp))).trans (I.mono (by omega))).trans (G.mono (by simp;omega))
 obtain⟨b5,am,al,ag,_,V⟩:=(O.out.later G).en.1.some' (by omega)
 cases ag
 obtain⟨e0,e1⟩:=fW V i hi;have z1:(0:Int)≤(i:Int):=by omega
 have z2:(i:Int)<(b.now.ends.length:Int):=by omega
 have z3:¬(b.now.ends.length:Int)≤(i:Int):=by omega
 clear HZ hZ hI U O d I G J V;go_wp2_with fail;refine bodyPost_ret (v:=.tuple #[.agg #[.int .i64 b.now.ends[i].num,.string b.now.ends[i].how],.int .i64 0]) (by simp[results,Tryz.results120,go_sem,r0,r1]) rfl ⟨rfl,?_⟩
 repeat (refine Below.setCell ?_ (by simp) _)
 exact B3.out
set_option maxHeartbeats 0 in
theorem qY (b:Bx.Bo) (B:Nat) (i:Int) (sl en tk:Value) (w:World) (hi:i<0∨(b.now.slots.length:Int)≤i) (hB:BoxIn w B b sl en tk):
 Calls Tryz.prog 119 #[.pointer (some ⟨B,0,none⟩),.int .i64 i] w fun e w'=>e=.returned (.tuple #[aslZ,.int .i64 4])∧Below w.heap.size w w':=by
 obtain⟨Q,G,rfl,ai⟩:=hB.rows.sl.form;obtain⟨I,d,rfl,ah⟩:=hB.rows.en.form;have HB:=Hq hB;clear hB
 go_enter Tryz.func119,Tryz.ntmps119
 go_wp2_with fail;refine (dX b B _ _ tk _ (HB.out.later (dx _ _))).mono ?_;rintro e w1 ⟨rfl,O⟩;have V:=dx w (.cells #[.int .i64 0,.int .i64 0,.int .i64 0,.int .i64 0,.int .i64 0,.int .i64 0] 81);have hZ:=(ZIn.new w #[.int .i64 0,.int .i64 0,.int .i64 0,.int .i64 0,.int .i64 0,.int .i64 0] 81).later (by simp) O
 have ac:=O.size;have Z:=StIn.new w1 b.now (.slice Q b.now.slots.length G) (.slice I b.now.ends.length d);have U:=dx w1 (stO b.now (.slice Q b.now.slots.length G) (.slice I b.now.ends.length d));simp at ac;have J:ZIn (w1.alloc (stO b.now (.slice Q b.now.slots.length G) (.slice I b.now.ends.length d))) w.heap.size 6:=hZ.later (by omega) U
 have B3:Hid (Below w.heap.size w (w1.alloc (stO b.now (.slice Q b.now.slots.length G) (.slice I b.now.ends.length d)))):=(V.trans (O.mono (by simp))).trans (U.mono (by omega))
 go_upto_region 2 with fail;generalize w1.alloc (stO b.now (.slice Q b.now.slots.length G) (.slice I b.now.ends.length d))=W at *;generalize w1.heap.size=sq at *;obtain⟨⟨u0,r0⟩,f0⟩:=J 0 (by decide)
 obtain⟨⟨u1,r1⟩,f1⟩:=J 1 (by decide)
 obtain⟨⟨u2,r2⟩,f2⟩:=J 2 (by decide)
 obtain⟨⟨u3,r3⟩,f3⟩:=J 3 (by decide)
 obtain⟨⟨u4,Y⟩,f4⟩:=J 4 (by decide)
 obtain⟨⟨u5,r5⟩,f5⟩:=J 5 (by decide)
 have d3:=Z.c3;clear J hZ Z O U V
 by_cases h0:i<0
 ·go_wp2_with fail;refine bodyPost_ret (v:=.tuple #[aslZ,.int .i64 4]) (by simp[results,Tryz.results119,go_sem,r0,r1,r2,r3,Y,r5]) rfl ⟨rfl,?_⟩
  repeat (refine Below.setCell ?_ (by simp) _)
  exact B3.out
 ·have h1:(b.now.slots.length:Int)≤i:=by omega
  clear hi;go_wp2_with fail;refine bodyPost_ret (v:=.tuple #[aslZ,.int .i64 4]) (by simp[results,Tryz.results119,go_sem,r0,r1,r2,r3,Y,r5]) rfl ⟨rfl,?_⟩
  repeat (refine Below.setCell ?_ (by simp) _)
  exact B3.out
set_option maxRecDepth 10000 in
set_option maxHeartbeats 0 in
theorem ot (b:Bx.Bo) (B i:Nat) (sl en tk:Value) (w:World) (hO:BoOk b) (hi:i<b.now.slots.length) (hB:BoxIn w B b sl en tk):
 Calls Tryz.prog 119 #[.pointer (some ⟨B,0,none⟩),.int .i64 i] w fun e w'=>e=.returned (.tuple #[aslV (Bx.slAt b.now i) (stepOf b (Bx.slAt b.now i).num),.int .i64 0])∧Below w.heap.size w w':=by
 obtain⟨Q,G,rfl,aR⟩:=hB.rows.sl.form;obtain⟨I,d,rfl,aM⟩:=hB.rows.en.form;obtain⟨aD,ao,rfl,aO⟩:=hB.tkr.form;have HB:=Hq hB;have HO:=Hq hO;have aN:=hO.tks;clear hB hO
 go_enter Tryz.func119,Tryz.ntmps119
 go_wp2_with fail;refine (dX b B _ _ _ _ (HB.out.later (dx _ _))).mono ?_;rintro e w1 ⟨rfl,O⟩;have aa:=dx w (.cells #[.int .i64 0,.int .i64 0,.int .i64 0,.int .i64 0,.int .i64 0,.int .i64 0] 81);have hZ:=(ZIn.new w #[.int .i64 0,.int .i64 0,.int .i64 0,.int .i64 0,.int .i64 0,.int .i64 0] 81).later (by simp) O
 have ah:=O.size;have hI:=StIn.new w1 b.now (.slice Q b.now.slots.length G) (.slice I b.now.ends.length d);have Y:=dx w1 (stO b.now (.slice Q b.now.slots.length G) (.slice I b.now.ends.length d));simp at ah;have U:Hid (ZIn (w1.alloc (stO b.now (.slice Q b.now.slots.length G) (.slice I b.now.ends.length d))) w.heap.size 6):=hZ.later (by omega) Y
 have B3:Hid (Below w.heap.size w (w1.alloc (stO b.now (.slice Q b.now.slots.length G) (.slice I b.now.ends.length d)))):=(aa.trans (O.mono (by simp))).trans (Y.mono (by omega))
 have J:Hid (BoxIn (w1.alloc (stO b.now (.slice Q b.now.slots.length G) (.slice I b.now.ends.length d))) B b (.slice Q b.now.slots.length G) (.slice I b.now.ends.length d) (.slice aD b.talks.length ao)):=((HB.out.later aa).later O).later Y;have af:w.heap.size<(w1.alloc (stO b.now (.slice Q b.now.slots.length G) (.slice I b.now.ends.length d))).heap.size:=by simp;omega
 go_upto_region 2 with fail;generalize w1.alloc (stO b.now (.slice Q b.now.slots.length G) (.slice I b.now.ends.length d))=W at *;generalize w1.heap.size=sq at *;have d3:=hI.c3;clear hZ hI O Y aa HB ah;obtain⟨b5,aU,aS,aG,_,ag⟩:=J.out.rows.sl.1.some' (by omega)
 cases aG
 obtain⟨y0,y1,y2,y3,y4,y5⟩:=dT ag i hi;rw[slAt_eq b.now i hi] at y0 y1 y2 y3 y4 y5;have z1:(0:Int)≤(i:Int):=by omega
 have z2:(i:Int)<(b.now.slots.length:Int):=by omega
 have z3:¬(b.now.slots.length:Int)≤(i:Int):=by omega
 have V:Hid (stepOf b (Bx.slAt b.now i).num=if 0≤talkOf b.talks (Bx.slAt b.now i).num then (tkAt b (talkOf b.talks (Bx.slAt b.now i).num).toNat).at'+1 else 0):=rfl
 clear ag;have ac:=(dx W (slO (Bx.slAt b.now i))).alloc (by simp) (.cells #[.int .i64 (Bx.slAt b.now i).num,.int .i64 (Bx.slAt b.now i).line,.int .i64 (Bx.slAt b.now i).minute,.int .i64 (Bx.slAt b.now i).att,.int .i64 (Bx.slAt b.now i).frm,.int .i64 0] 81)
 have aH:=Hq (J.out.later ac);have aY:B<W.heap.size:=J.out.ty.lt;obtain⟨⟨u0,r0⟩,f0⟩:=U.out 0 (by decide)
 obtain⟨⟨u1,r1⟩,f1⟩:=U.out 1 (by decide)
 obtain⟨⟨u2,r2⟩,f2⟩:=U.out 2 (by decide)
 obtain⟨⟨u3,r3⟩,f3⟩:=U.out 3 (by decide)
 obtain⟨⟨u4,r4⟩,f4⟩:=U.out 4 (by decide)
 obtain⟨⟨u5,r5⟩,f5⟩:=U.out 5 (by decide)
 have c8:=J.out.c8;have aE:=Hq J.out.tkr.1;clear ac U J;go_wp2_with fail;refine (iO b B (Bx.slAt b.now i).num _ _ _ _ (by omega) aH.out).mono ?_
 rintro e w6 ⟨rfl,aI⟩;subst aI;have ay:=gU b.talks (Bx.slAt b.now i).num;generalize aC:talkOf b.talks (Bx.slAt b.now i).num=F at *;clear aC
 by_cases al:F<0
 ·have ab:Hid (stepOf b (Bx.slAt b.now i).num=0):=by unfold Hid;rw[V.out,if_neg (by omega)]
  have q1:¬(0:Int)≤F:=by omega
  clear V y0 y1 y2 y3 y4 y5;go_wp2_with fail;refine bodyPost_ret (v:=.tuple #[aslV (Bx.slAt b.now i) 0,.int .i64 0]) (by simp[results,Tryz.results119,go_sem,r0,r1,r2,r3,r4,r5,af]) rfl ?_
  rw[ab.out];refine⟨rfl,Below.alloc (Below.alloc ?_ (by simp;omega) _) (by simp;omega) _⟩
  repeat (refine Below.setCell ?_ (by simp) _)
  exact B3.out
 ·obtain⟨j,az⟩:∃j:Nat,F=j:=Int.eq_ofNat_of_zero_le (by omega)
  subst az;have Z:j<b.talks.length:=by omega
  have ab:Hid (stepOf b (Bx.slAt b.now i).num=(tkAt b j).at'+1):=by unfold Hid;rw[V.out,if_pos (by omega)];simp
  have q1:(0:Int)≤(j:Int):=by omega
  have q2:(j:Int)<(b.talks.length:Int):=by omega
  obtain⟨b6,ai,aV,aF,_,ae⟩:=aE.out.some' (by omega)
  cases aF
  have t1:W.cell? ⟨b6,ai+j*4+1,none⟩=some (.int .i64 (tkAt b j).at'):=by rw[←eA b j Z];exact RowAt.cell ed ae j Z 1 (by decide)
  have aT:b6<W.heap.size:=World.block_lt_of_cell? _ _ t1;have aA:=HO.out.ats _ (List.getElem_mem Z);rw[eA b j Z] at aA;have q3:IntKind.i64.wrap ((tkAt b j).at'+1)=(tkAt b j).at'+1:=by rw[IntKind.wrap_i64];omega
  clear V y0 y1 y2 y3 y4 y5 ae ay al;go_wp2_with fail;refine bodyPost_ret (v:=.tuple #[aslV (Bx.slAt b.now i) ((tkAt b j).at'+1),.int .i64 0]) (by simp[results,Tryz.results119,go_sem,r0,r1,r2,r3,r4,r5,af]) rfl ?_
  rw[ab.out];refine⟨rfl,Below.alloc (Below.alloc ?_ (by simp;omega) _) (by simp;omega) _⟩
  repeat (refine Below.setCell ?_ (by simp) _)
  exact B3.out
end Go.Proofs.YtdajolpoiffimabGreatDoor
