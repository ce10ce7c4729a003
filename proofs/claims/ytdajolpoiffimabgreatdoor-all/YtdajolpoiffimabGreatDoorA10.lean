import Derived.Deep.RegionHeld3
import Derived.Deep.CutRange
import Derived.Test.YtdajolpoiffimabGreatDoorA9

namespace Go.Proofs.YtdajolpoiffimabGreatDoor
open Go.RowKit
theorem StW.slots {W:World} {q:Nat} {t:Bx.St} {sl en:Value} (h:StW W q t sl en) (L:List Bx.Sl) (v:Value):StW (W.setCell ⟨q,3,none⟩ v) q {t with slots:=L} v en:=by
 obtain⟨⟨c0,c1,c2,c3,c4⟩,f,ty⟩:=h;refine⟨⟨?_,?_,?_,?_,?_⟩,fun j d=>?_,ty.setCell _ _ _⟩
 case refine_6=>simp[go_sem,f j d]
 all_goals simp[go_sem,c0,c1,c2,c3,c4]
structure IntAt (w wr:World) (s:Bx.St) (k:Nat) (slk en:Value):Prop where
 st:StW wr w.heap.size {s with slots:=intK s.slots k} slk en
 rs:StW wr (w.heap.size+1) stZ nilV nilV
 rows:StAt wr {s with slots:=intK s.slots k} slk en
 bel:Below w.heap.size w wr
set_option maxRecDepth 10000 in
set_option maxHeartbeats 2000000 in
theorem rZ (s:Bx.St) (sl en:Value) (w:World) (hl:s.slots.length≤10000) (hS:StAt w s sl en):
 Calls Tryz.prog 139 #[stV s sl en] w fun e w'=>(∃ar,e=.returned (stV (intS s) ar en)∧StAt w' (intS s) ar en)∧Below w.heap.size w w':=by
 obtain⟨Z,J,rfl,aY⟩:=hS.sl.form;obtain⟨G,d,rfl,ak⟩:=hS.en.form;have b0:=cw w (stO s (.slice Z s.slots.length J) (.slice G s.ends.length d));have b1:=cw (w.alloc (stO s (.slice Z s.slots.length J) (.slice G s.ends.length d))) (stO stZ nilV nilV)
 have A1:Hid (IntAt w ((w.alloc (stO s (.slice Z s.slots.length J) (.slice G s.ends.length d))).alloc (stO stZ nilV nilV)) s 0 (.slice Z s.slots.length J) (.slice G s.ends.length d)):=by
  have e:({s with slots:=intK s.slots 0}:Bx.St)=s:=by simp[intK]
  refine⟨by rw[e];exact (StW.new w s _ _).later b1,?_,by rw[e];exact (hS.later b0).later b1,b0.trans (b1.mono (by simp))⟩
  have:=StW.new (w.alloc (stO s (.slice Z s.slots.length J) (.slice G s.ends.length d))) stZ nilV nilV
  simpa using this
 clear hS b0 b1
 go_enter Tryz.func139,Tryz.ntmps139
 go_wp2_with fail;generalize (w.alloc (stO s (.slice Z s.slots.length J) (.slice G s.ends.length d))).alloc (stO stZ nilV nilV)=W at *
 go_loopw [3] (fun iv wr=>∃k:Nat,k≤s.slots.length∧iv=.int .i64 k∧∃au,IntAt w wr s k au (.slice G s.ends.length d)) (fun iv _=>s.slots.length-(intOf iv).toNat)
 case atStart=>exact⟨0,Nat.zero_le _,rfl,_,A1.out⟩
 case round=>
  obtain⟨k,hk,rfl,au,hC⟩:=hrel;obtain⟨ag,U,rfl,bh⟩:=hC.rows.sl.form
  by_cases af:k<s.slots.length
  ·obtain⟨st,rs,rows,bel⟩:=hC;have ab:({s with slots:=intK s.slots k}:Bx.St).slots.length=s.slots.length:=kK s.slots k hk;have ai:({s with slots:=intK s.slots k}:Bx.St).ends=s.ends:=rfl
   have ax:Bx.slAt ({s with slots:=intK s.slots k}:Bx.St) k=s.slots[k]:=by
    rw[←slAt_eq _ k (by rw[ab];exact af)];exact sf s.slots k af
   have aw:Hid (({s with slots:=intK s.slots (k+1)}:Bx.St)={({s with slots:=intK s.slots k}:Bx.St) with slots:=Bx.putL (intK s.slots k) k (clr s.slots[k])}):=by
    unfold Hid;rw[kI,oc s.slots k af]
   have aP:Hid (∀(L:List Bx.Sl),L=Bx.putL ({s with slots:=intK s.slots k}:Bx.St).slots k (clr (Bx.slAt ({s with slots:=intK s.slots k}:Bx.St) k))→({s with slots:=intK s.slots (k+1)}:Bx.St)={({s with slots:=intK s.slots k}:Bx.St) with slots:=L}):=by
    intro L hL;rw[hL,ax];exact aw.out
   clear aw ax;rw[←ai] at st rows ak ⊢;generalize ({s with slots:=intK s.slots k}:Bx.St)=T at *;have HT:=Hq rows;have Y:=Hq st;have aq:=Hq rs;have ac:=Hq bel;have az:k<T.slots.length:=by omega
   have bf:=Hq ab;have bc:=Hq ai;have aH:T.slots.length≤10000:=by omega
   clear ab ai st rs rows bel;obtain⟨b,bk,a6,hv,_,hc⟩:=HT.out.sl.1.some' (by omega)
   cases hv
   obtain⟨y0,y1,y2,y3,y4,y5⟩:=dS hc k az;rw[slAt_eq T k az] at y0 y1 y2 y3 y4 y5;obtain⟨⟨d0,d1,d2,d3,d4⟩,_,_⟩:=Y.out;have z1:(0:Int)≤(k:Int):=by omega
   have z2:(k:Int)<(T.slots.length:Int):=by omega
   have bg:w.heap.size<wr.heap.size:=Y.out.ty.lt;have Q:=cw wr (.cells #[.int .i64 (Bx.slAt T k).num,.int .i64 (Bx.slAt T k).line,.int .i64 (Bx.slAt T k).minute,.int .i64 (Bx.slAt T k).att,.int .i64 (Bx.slAt T k).frm,.bool false] 218);have hX:SlIn (wr.alloc (.cells #[.int .i64 (Bx.slAt T k).num,.int .i64 (Bx.slAt T k).line,.int .i64 (Bx.slAt T k).minute,.int .i64 (Bx.slAt T k).att,.int .i64 (Bx.slAt T k).frm,.bool false] 218)) wr.heap.size (clr (Bx.slAt T k)):=SlIn.new wr (clr (Bx.slAt T k));clear hc;go_upto_region 6 with fail;clear d0 d1 d2 d3 d4 y0 y1 y2 y3 y4 y5;generalize wr.alloc (.cells #[.int .i64 (Bx.slAt T k).num,.int .i64 (Bx.slAt T k).line,.int .i64 (Bx.slAt T k).minute,.int .i64 (Bx.slAt T k).att,.int .i64 (Bx.slAt T k).frm,.bool false] 218)=W6 at *;have ap:=Hq (HT.out.later Q);have ah:=Hq (Y.out.later Q);have aC:=Hq (aq.out.later Q);have aa:=Hq (ac.out.trans (Q.mono ac.out.size));clear Q HT Y aq ac;generalize wr.heap.size=xq at *;obtain⟨x0,x1,x2,x3,x4,x5⟩:=hX;obtain⟨⟨d0,d1,d2,d3,d4⟩,_,_⟩:=ah.out;generalize aA:clr (Bx.slAt T k)=x at *;have bj:=Hq aA;clear aA;go_wp2_with fail;refine (ju T k x _ _ _ aH ap.out).mono ?_;rintro e w7 ⟨⟨v7,rfl,V⟩,O⟩;have aj:=TRow.of_own V;obtain⟨ay,ae,rfl,_⟩:=aj.form;have I:=ah.out.later O;have av:=aC.out.later O
   have HN:Hid (IntAt w (w7.setCell ⟨w.heap.size,3,none⟩ (.slice ay (Bx.putL T.slots k x).length ae)) s (k+1) (.slice ay (Bx.putL T.slots k x).length ae) (.slice G T.ends.length d)):=by
    have e:=aP.out (Bx.putL T.slots k x) rfl;refine⟨by rw[e];exact I.slots _ _,?_,?_,(aa.out.trans (O.mono aa.out.size)).setCell (by simp) _⟩
    ·obtain⟨⟨c0,c1,c2,c3,c4⟩,f,aG⟩:=av;refine⟨⟨?_,?_,?_,?_,?_⟩,fun j hj=>?_,aG.setCell _ _ _⟩
     case refine_6=>simp[go_sem,f j hj]
     all_goals simp[go_sem,c0,c1,c2,c3,c4]
    ·rw[e];exact⟨aj.set I.ty (by decide) _ _,(ap.out.en.later O).set I.ty (by decide) _ _⟩
   have e3:=I.st.c3;have g3:=I.f 3 (by decide)
   clear d0 d1 d2 d3 d4 x0 x1 x2 x3 x4 x5 V O I av aj;go_wp2_with fail;go_roundw
   case rel=>exact⟨k+1,by omega,by go_num,_,HN.out⟩
   case measure=>simp[intOf];omega
  ·obtain rfl:k=s.slots.length:=by omega
   have aL:Hid (({s with slots:=intK s.slots s.slots.length}:Bx.St)=intS s):=by unfold Hid intS intK;simp
   obtain⟨st,rs,rows,bel⟩:=hC;rw[aL.out] at st rows;have aI:Hid (StAt _ (intS s) (.slice ag (intS s).slots.length U) (.slice G s.ends.length d)):=rows.store rs.ty (.string (intS s).tab) (.int .i64 (intS s).clock) (.int .i64 (intS s).next) (.slice ag (intS s).slots.length U) (.slice G s.ends.length d);have aM:=Hq bel;obtain⟨⟨d0,d1,d2,d3,d4⟩,_,_⟩:=st;obtain⟨⟨r0,r1,r2,r3,r4⟩,f,_⟩:=rs;have f0:=f 0 (by decide);have f1:=f 1 (by decide);have f2:=f 2 (by decide);have f3:=f 3 (by decide);have f4:=f 4 (by decide)
   have z9:¬(s.slots.length:Int)<((intS s).slots.length:Int):=by simp[intS]
   clear f rows bel;go_wp2_with fail;refine bodyPost_ret (v:=stV (intS s) (.slice ag (intS s).slots.length U) (.slice G s.ends.length d)) (by simp[results,Tryz.results139,go_sem,r0,r1,r2,r3,r4]) rfl ?_
   exact⟨⟨_,rfl,aI.out⟩,dD aM.out (by omega) _ _ _ _ _⟩
end Go.Proofs.YtdajolpoiffimabGreatDoor



namespace Go.Proofs.YtdajolpoiffimabGreatDoor
open Go.RowKit
def NextR (s:ByteArray) (b more:ByteArray) (ok:Bool):Prop:=(ok=true→Bx.Nx s b more)∧(ok=false→¬∃b more,Bx.Nx s b more)
theorem lK (x y z:ByteArray) (a b:Nat) (e:a=x.size) (hb:b=x.size+y.size):(x++y++z).extract a b=y:=by
 have d:x.data.toList.length=x.size:=by simp
 have w:y.data.toList.length=y.size:=by simp
 refine Bx.ba_ext ?_;rw[eg,ByteArray.data_append,ByteArray.data_append,Array.toList_append,Array.toList_append,e,hb,List.append_assoc,←d,List.drop_left,Nat.add_sub_cancel_left,←w,List.take_left]
theorem jz (x y:ByteArray) (b:Nat) (hb:b=x.size):(x++y).extract 0 b=x:=by
 have:=lK ByteArray.empty x y 0 b rfl (by rw[hb];simp)
 simpa using this
theorem lW {s b more:ByteArray} (h:Bx.Nx s b more):s.size=b.size+6+more.size∧b.size<65536∧numW (s.extract 0 2).data.toList=(b.size:Int)∧s.extract 2 (2+b.size)=b∧s.extract 0 (6+b.size)=Bx.frame b:=by
 obtain⟨e,hb⟩:=h;have w:s.size=b.size+6+more.size:=by rw[e,ByteArray.size_append,Bx.frame_size]
 have d:s=Bx.be b.size 2++b++(Bx.be (Crc.sumR b) 4++more):=by rw[e];unfold Bx.frame;simp only [ByteArray.append_assoc]
 refine⟨w,hb,?_,?_,?_⟩
 ·have:s.extract 0 2=Bx.be b.size 2:=by rw[d,ByteArray.append_assoc];exact jz _ _ 2 (by rw[Bx.be_size])
  rw[this];exact lJ _ 2 (by omega) (by simp;omega) (by decide)
 ·rw[d];exact lK _ _ _ _ _ (by rw[Bx.be_size]) (by rw[Bx.be_size])
 ·rw[e];exact jz _ _ _ (by rw[Bx.frame_size];omega)
theorem pN {s:ByteArray} {n:Nat} (e:n<65536) (d:6+n≤s.size) (h:s.extract 0 (6+n)=Bx.frame (s.extract 2 (2+n))):Bx.Nx s (s.extract 2 (2+n)) (s.extract (6+n) s.size):=by
 refine⟨?_,?_⟩
 ·rw[←h];exact (Bx.ext_split s (6+n)).symm
 ·rw[ByteArray.size_extract];omega
theorem ry {s:ByteArray} {n:Nat} (J:numW (s.extract 0 2).data.toList=(n:Int)) (h:s.size<6+n∨¬s.extract 0 (6+n)=Bx.frame (s.extract 2 (2+n))):¬∃b more,Bx.Nx s b more:=by
 rintro ⟨b,more,w⟩;obtain⟨h1,h2,I,d,G⟩:=lW w;have e:n=b.size:=by omega
 subst e
 rcases h with h|h
 ·omega
 ·exact h (by rw[d,G])
theorem mz {s:ByteArray} (h:s.size<2):¬∃b more,Bx.Nx s b more:=by
 rintro ⟨b,more,d⟩;have:=(lW d).1;omega
theorem jo {x y:ByteArray}:(x.toList==y.toList)=true↔x=y:=by
 constructor
 ·intro h;have h2:x.toList=y.toList:=by simpa using h
  exact Bx.ba_ext (by simpa [ByteArray.toList_eq] using h2)
 ·rintro rfl;simp
def NextP (s:ByteArray) (w w':World) (e:Ending):Prop:=∃b more ok,e=.returned (.tuple #[.string b,.string more,.bool ok])∧NextR s b more ok∧(ok=true→more.size<s.size)∧Below w.heap.size w w'
set_option maxHeartbeats 1000000 in
theorem ra (s:ByteArray) (w:World) (hs:s.size≤100000):
 Calls Tryz.prog 169 #[.string s] w fun e V=>NextP s w V e:=by
 by_cases h2:s.size<2
 ·have Q:Hid (¬∃b more,Bx.Nx s b more):=mz h2;have z1:(s.size:Int)<2:=by omega
  go_enter Tryz.func169,Tryz.ntmps169
  go_wp2_with fail
  go_ret3
  exact⟨_,_,false,rfl,⟨fun h=>(by cases h),fun _=>Q.out⟩,fun h=>(by cases h),Below.refl _ _⟩
 ·have z1:¬(s.size:Int)<2:=by omega
  obtain⟨k1,k2,U⟩:=il (x:=s.extract 0 2) (k:=2) (by rw[ByteArray.size_extract];omega) (by decide)
  obtain⟨n,I⟩:∃n:Nat,numW (s.extract 0 2).data.toList=(n:Int):=⟨(numW (s.extract 0 2).data.toList).toNat,by omega⟩
  have ab:n<65536:=by rw[I] at U;simp at U;omega
  have G:Hid (s.size<6+n∨¬s.extract 0 (6+n)=Bx.frame (s.extract 2 (2+n))→¬∃b more,Bx.Nx s b more):=ry I;have d:Hid (6+n≤s.size→s.extract 0 (6+n)=Bx.frame (s.extract 2 (2+n))→Bx.Nx s (s.extract 2 (2+n)) (s.extract (6+n) s.size)):=pN ab
  have ac:Hid (∀W:World,Calls Tryz.prog 195 #[.string (s.extract 0 2)] W fun e V=>e=.returned (.int .i64 (n:Int))∧V=W):=by
   intro W;rw[←I];exact eG (s.extract 0 2) W (by simp;omega)
  clear I k1 k2 U;have y1:2≤s.size:=by omega
  go_enter Tryz.func169,Tryz.ntmps169
  go_wp2_with fail;refine (ac.out _).mono ?_;rintro e w2 ⟨rfl,O⟩;have aa:=O.symm;subst aa;clear O;have q1:IntKind.i64.wrap (6+(n:Int))=6+(n:Int):=by rw[IntKind.wrap_i64];omega
  have q2:IntKind.i64.wrap (2+(n:Int))=2+(n:Int):=by rw[IntKind.wrap_i64];omega
  by_cases h6:(s.size:Int)<6+(n:Int)
  ·have Q:Hid (¬∃b more,Bx.Nx s b more):=G.out (Or.inl (by omega))
   clear G d;go_wp2_with fail
   go_ret3
   exact⟨_,_,false,rfl,⟨fun h=>(by cases h),fun _=>Q.out⟩,fun h=>(by cases h),Below.refl _ _⟩
  ·have y2:(2+(n:Int)).toNat=2+n:=by omega
   have y3:(6+(n:Int)).toNat=6+n:=by omega
   have y4:2+(n:Int)≤(s.size:Int):=by omega
   have y5:6+(n:Int)≤(s.size:Int):=by omega
   have y6:(2:Int)≤2+(n:Int):=by omega
   have y7:(0:Int)≤6+(n:Int):=by omega
   have Y:Hid ((s.extract (6+n) s.size).size<s.size):=by unfold Hid;rw[ByteArray.size_extract];omega
   go_wp2_with fail;refine (fY (s.extract 2 (2+n)) _ (by simp;omega)).mono ?_
   rintro e w4 ⟨rfl,J⟩;have Z:=Hq J;clear J;go_wp2_with fail
   go_quiet (fail)
   go_wp2_with fail
   go_ret3
   refine⟨_,_,_,rfl,⟨fun h=>d.out (by omega) (jo.1 h),fun h=>G.out (Or.inr fun e=>?_)⟩,fun _=>Y.out,below_drewN Z.out _⟩
   rw[jo.2 e] at h;cases h
structure TldAt (w wr:World) (t:Bx.St) (sl en v:Value) (n:Nat) (cells:List Value):Prop where
 st:StW wr w.heap.size t sl en
 rs:StW wr (w.heap.size+1) stZ nilV nilV
 rows:StAt wr t sl en
 row:RowAt wr v n cells
 bel:Below w.heap.size w wr
theorem TldAt.later {w W W':World} {t:Bx.St} {sl en v:Value} {n:Nat} {d:List Value} (h:TldAt w W t sl en v n d) (hb:Below W.heap.size W W'):TldAt w W' t sl en v n d:=
 ⟨h.st.later hb,h.rs.later hb,h.rows.later hb,h.row.later hb,h.bel.trans (hb.mono h.bel.size)⟩
theorem TldAt.store {w W:World} {t:Bx.St} {sl en v:Value} {n:Nat} {d:List Value} (h:TldAt w W t sl en v n d) (u:Bx.St) (e G:Value) (J:StAt W u e G) (Q:RowAt w v n d):
 TldAt w (((((W.setCell ⟨w.heap.size,0,none⟩ (.string u.tab)).setCell ⟨w.heap.size,1,none⟩ (.int .i64 u.clock)).setCell ⟨w.heap.size,2,none⟩ (.int .i64 u.next)).setCell ⟨w.heap.size,3,none⟩ e).setCell ⟨w.heap.size,4,none⟩ G) u e G v n d:=by
 refine⟨h.st.store u e G,?_,J.store h.st.ty _ _ _ _ _,Q.later (dD h.bel (Nat.le_refl _) _ _ _ _ _),dD h.bel (Nat.le_refl _) _ _ _ _ _⟩;obtain⟨⟨c0,c1,c2,c3,c4⟩,f,I⟩:=h.rs;refine⟨⟨?_,?_,?_,?_,?_⟩,fun j O=>?_,((((I.setCell _ _ _).setCell _ _ _).setCell _ _ _).setCell _ _ _).setCell _ _ _⟩
 case refine_6=>simp[go_sem,f j O]
 all_goals simp[go_sem,c0,c1,c2,c3,c4]
theorem ni (s:Bx.St) (L:List Bx.Ch) (k:Nat) (h:k<L.length):Bx.told s (L.take (k+1))=Bx.tell (Bx.told s (L.take k)) L[k]:=by
 unfold Bx.told;rw[List.take_succ_eq_append_getElem h,List.foldl_append];rfl
set_option maxRecDepth 10000 in
set_option maxHeartbeats 1000000 in
theorem pU (s:Bx.St) (L:List Bx.Ch) (sl en v:Value) (w:World) (hO:Bx.StOk s) (hL:L.length≤100) (hT:∀c∈L,c.tab.size≤maxLen) (hR:RowAt w v L.length (L.flatMap chC)) (hS:StAt w s sl en):
 Calls Tryz.prog 143 #[stV s sl en,v] w fun e w'=>(∃aE aM,e=.returned (stV (Bx.told s L) aE aM)∧StAt w' (Bx.told s L) aE aM)∧Below w.heap.size w w':=by
 obtain⟨ad,Y,rfl,bu⟩:=hS.sl.form;obtain⟨V,J,rfl,bp⟩:=hS.en.form;obtain⟨aH,Z,rfl,bK⟩:=hR.form;have HO:Hid (∀k,Bx.StOk (Bx.told s (L.take k))):=fun k=>Bx.told_ok hO _
 have HT:=Hq hT;have HF:Hid (∀k (h:k<L.length),Bx.told s (L.take (k+1))=Bx.tell (Bx.told s (L.take k)) L[k]):=fun k h=>ni s L k h
 have aW:=Hq hR;have b0:=cw w (stO s (.slice ad s.slots.length Y) (.slice V s.ends.length J));have b1:=cw (w.alloc (stO s (.slice ad s.slots.length Y) (.slice V s.ends.length J))) (stO stZ nilV nilV)
 have A1:Hid (TldAt w ((w.alloc (stO s (.slice ad s.slots.length Y) (.slice V s.ends.length J))).alloc (stO stZ nilV nilV)) s (.slice ad s.slots.length Y) (.slice V s.ends.length J) (.slice aH L.length Z) L.length (L.flatMap chC)):=by
  refine⟨(StW.new w s _ _).later b1,?_,(hS.later b0).later b1,(hR.later b0).later b1,b0.trans (b1.mono (by simp))⟩
  have:=StW.new (w.alloc (stO s (.slice ad s.slots.length Y) (.slice V s.ends.length J))) stZ nilV nilV
  simpa using this
 clear hS hR hO hT b0 b1
 go_enter Tryz.func143,Tryz.ntmps143
 go_wp2_with fail;generalize (w.alloc (stO s (.slice ad s.slots.length Y) (.slice V s.ends.length J))).alloc (stO stZ nilV nilV)=W at *
 go_loopw [5] (fun iv wr=>∃k:Nat,k≤L.length∧iv=.int .i64 k∧∃aj ak,TldAt w wr (Bx.told s (L.take k)) aj ak (.slice aH L.length Z) L.length (L.flatMap chC)) (fun iv _=>L.length-(intOf iv).toNat)
 case atStart=>exact⟨0,Nat.zero_le _,rfl,_,_,A1.out⟩
 case round=>
  obtain⟨k,hk,rfl,aj,ak,d⟩:=hrel;have au:=HO.out k
  by_cases al:k<L.length
  ·have aI:Hid (Bx.told s (L.take (k+1))=Bx.tell (Bx.told s (L.take k)) L[k]):=HF.out k al;obtain⟨b,ag,bC,hv,_,am⟩:=d.row.some' (by omega)
   cases hv
   have x0:wr.cell? ⟨b,ag+k*3,none⟩=some (.int .u8 L[k].kind):=RowAt.cell fK am k al 0 (by decide)
   have x1:wr.cell? ⟨b,ag+k*3+1,none⟩=some (.string L[k].tab):=RowAt.cell fK am k al 1 (by decide)
   have x2:wr.cell? ⟨b,ag+k*3+2,none⟩=some (.int .i64 L[k].n):=RowAt.cell fK am k al 2 (by decide)
   have bH:b<wr.heap.size:=World.block_lt_of_cell? _ _ x0;have aL:L[k].tab.size≤maxLen:=HT.out _ (List.getElem_mem _);clear am;generalize L[k]=c at *;generalize aY:Bx.told s (L.take k)=T at *;clear aY;obtain⟨ae,Q,rfl,bM⟩:=d.rows.sl.form;obtain⟨ab,O,rfl,bG⟩:=d.rows.en.form;have HC:=Hq d;have aJ:=Hq au;obtain⟨⟨d0,d1,d2,d3,d4⟩,I,_⟩:=d.st;have g0:=I 0 (by decide);have g1:=I 1 (by decide);have g2:=I 2 (by decide);have g3:=I 3 (by decide);have g4:=I 4 (by decide)
   have bL:w.heap.size<wr.heap.size:=d.st.ty.lt;have y1:(0:Int)≤(k:Int):=by omega
   have y2:(k:Int)<(L.length:Int):=by omega
   have av:Hid (StAt wr.drew T (.slice ae T.slots.length Q) (.slice ab T.ends.length O)):=d.rows.later (Below.refl _ _).drew;clear d I au;go_wp2_with fail
   go_cut [6,7] from 14 to 22 (fun s6 s7 wx=>∃tq ar aw,s6=.pointer (some ⟨tq,0,none⟩)∧s7=.bool (Bx.doP T c).2∧StIn wx tq (Bx.doP T c).1 ar aw∧StAt wx (Bx.doP T c).1 ar aw∧TldAt w wx T (.slice ae T.slots.length Q) (.slice ab T.ends.length O) (.slice (some ⟨b,ag,none⟩) L.length Z) L.length (L.flatMap chC))
   case first=>
    have aB:Hid (StAt (wr.alloc (stO stZ nilV nilV)).drew T (.slice ae T.slots.length Q) (.slice ab T.ends.length O)):=(HC.out.rows.later (cw _ _)).later (Below.refl _ _).drew
    go_region_with (first
     | (go_at_call 172;refine (kt T c (.slice ae T.slots.length Q) (.slice ab T.ends.length O) wr.drew aJ.out aL av.out).mono ?_;rintro e w2 ⟨⟨bb,bg,rfl,G⟩,ac⟩;obtain⟨aq,ah,rfl,aK⟩:=G.sl.form;obtain⟨az,ai,rfl,aG⟩:=G.en.form;have bk:Below wr.heap.size wr w2:=(Below.refl _ _).drew.trans ac)
     | (go_at_call 172;refine (kt T c (.slice ae T.slots.length Q) (.slice ab T.ends.length O) (wr.alloc (stO stZ nilV nilV)).drew aJ.out aL aB.out).mono ?_;rintro e w2 ⟨⟨bb,bg,rfl,G⟩,ac⟩;obtain⟨aq,ah,rfl,aK⟩:=G.sl.form;obtain⟨az,ai,rfl,aG⟩:=G.en.form;have ba:Below wr.heap.size wr w2:=(cw _ _).drew.trans (ac.mono (by simp));have hZ:=((StW.new wr stZ nilV nilV).later (Below.refl _ _).drew).later ac;obtain⟨⟨z0,z1,z2,z3,z4⟩,zf,zt⟩:=hZ;have HZ:Hid (StW w2 wr.heap.size stZ nilV nilV):=((StW.new wr stZ nilV nilV).later (Below.refl _ _).drew).later ac;have bJ:=zf 0 (by decide);have bI:=zf 1 (by decide);have bO:=zf 2 (by decide);have bN:=zf 3 (by decide);have bP:=zf 4 (by decide)))
    all_goals (go_wp2_with fail;go_meet)
    all_goals (first |(have bo:=bk;exact⟨_,_,_,rfl,rfl,StIn.new w2 (Bx.doP T c).1 _ _,G.later (cw _ _),(HC.out.later bo).later (cw _ _)⟩)|exact⟨_,_,_,rfl,rfl,(HZ.out.store (Bx.doP T c).1 _ _).st,G.store HZ.out.ty _ _ _ _ _,HC.out.later (dD ba (Nat.le_refl _) _ _ _ _ _)⟩)
   case rest=>
    obtain⟨tq,ar,aw,rfl,rfl,aD,af,aa⟩:=hcut;obtain⟨aq,ah,rfl,aK⟩:=af.sl.form;obtain⟨az,ai,rfl,aG⟩:=af.en.form;clear d0 d1 d2 d3 d4 g0 g1 g2 g3 g4 x0 x1 x2 HC av;have a7:=Hq aa;have ao:Hid (Bx.tell T c=if (Bx.doP T c).2=true then (Bx.doP T c).1 else T):=rfl
    cases aF:(Bx.doP T c).2
    ·have HN:Hid (Bx.told s (L.take (k+1))=T):=by unfold Hid;rw[aI.out,ao.out,aF];rfl
     clear ao aD af aa;go_wp2_with fail;go_roundw
     case rel=>exact⟨k+1,by omega,by go_num,_,_,by rw[HN.out];exact a7.out⟩
     case measure=>simp[intOf];omega
    ·have HN:Hid (Bx.told s (L.take (k+1))=(Bx.doP T c).1):=by unfold Hid;rw[aI.out,ao.out,aF];rfl
     have a5:Hid (TldAt w _ (Bx.doP T c).1 (.slice aq (Bx.doP T c).1.slots.length ah) (.slice az (Bx.doP T c).1.ends.length ai) (.slice (some ⟨b,ag,none⟩) L.length Z) L.length (L.flatMap chC)):=aa.store (Bx.doP T c).1 _ _ af aW.out;obtain⟨d0,d1,d2,d3,d4⟩:=aD;obtain⟨⟨e0,e1,e2,e3,e4⟩,I,_⟩:=aa.st;have g0:=I 0 (by decide);have g1:=I 1 (by decide);have g2:=I 2 (by decide);have g3:=I 3 (by decide);have g4:=I 4 (by decide)
     clear ao af aa I;generalize (Bx.doP T c).1=U at *;go_wp2_with fail;go_roundw
     case rel=>exact⟨k+1,by omega,by go_num,_,_,by rw[HN.out];exact a5.out⟩
     case measure=>simp[intOf];omega
  ·obtain rfl:k=L.length:=by omega
   rw[List.take_length] at d;have a2:Hid (StAt _ (Bx.told s L) aj ak):=d.rows.store d.rs.ty (.string (Bx.told s L).tab) (.int .i64 (Bx.told s L).clock) (.int .i64 (Bx.told s L).next) aj ak;have bc:=Hq d.bel;obtain⟨bf,aQ,rfl,_⟩:=d.rows.sl.form;obtain⟨aX,aN,rfl,_⟩:=d.rows.en.form;obtain⟨⟨d0,d1,d2,d3,d4⟩,_,_⟩:=d.st;obtain⟨⟨r0,r1,r2,r3,r4⟩,f,_⟩:=d.rs;have f0:=f 0 (by decide);have f1:=f 1 (by decide);have f2:=f 2 (by decide);have f3:=f 3 (by decide);have f4:=f 4 (by decide)
   clear f d au;go_wp2_with fail;refine bodyPost_ret (v:=stV (Bx.told s L) (.slice bf (Bx.told s L).slots.length aQ) (.slice aX (Bx.told s L).ends.length aN)) (by simp[results,Tryz.results143,go_sem,r0,r1,r2,r3,r4]) rfl ?_
   exact⟨⟨_,_,rfl,a2.out⟩,dD bc.out (by omega) _ _ _ _ _⟩
theorem BoxIn.txt {w:World} {B:Nat} {b:Bx.Bo} {sl en tk:Value} (h:BoxIn w B b sl en tk) (t:ByteArray):BoxIn (w.setCell ⟨B,7,none⟩ (.string t)) B {b with text:=t} sl en tk:=by
 obtain⟨c0,c1,c2,c3,c4,c5,c6,c7,c8,f,ty,rows,tk⟩:=h;refine⟨?_,?_,?_,?_,?_,?_,?_,?_,?_,fun j d=>?_,ty.setCell _ _ _,rows.set ty (by decide) (by decide) _ _,ownsRow_setCell_below tk (by simp) _⟩
 case refine_10=>simp[go_sem,f j d]
 all_goals simp[go_sem,c0,c1,c2,c3,c4,c5,c6,c7,c8]
theorem BoxIn.put {w:World} {B:Nat} {b:Bx.Bo} {sl en tk:Value} (h:BoxIn w B b sl en tk) (u:Bx.St) (d e:Value) (Q:StAt w u d e):
 BoxIn (((((w.setCell ⟨B,2,none⟩ (.string u.tab)).setCell ⟨B,3,none⟩ (.int .i64 u.clock)).setCell ⟨B,4,none⟩ (.int .i64 u.next)).setCell ⟨B,5,none⟩ d).setCell ⟨B,6,none⟩ e) B {b with now:=u} d e tk:=by
 obtain⟨c0,c1,c2,c3,c4,c5,c6,c7,c8,f,ty,rows,tk⟩:=h;have J:=ty.setCell B 2 (.string u.tab);have O:=J.setCell B 3 (.int .i64 u.clock);have I:=O.setCell B 4 (.int .i64 u.next);have G:=I.setCell B 5 d;refine⟨?_,?_,?_,?_,?_,?_,?_,?_,?_,fun j U=>?_,G.setCell _ _ _,((((Q.set ty (by decide) (by decide) _ _).set J (by decide) (by decide) _ _).set O (by decide) (by decide) _ _).set I (by decide) (by decide) _ _).set G (by decide) (by decide) _ _,ownsRow_setCell_below (ownsRow_setCell_below (ownsRow_setCell_below (ownsRow_setCell_below (ownsRow_setCell_below tk (by simp) _) (by simp) _) (by simp) _) (by simp) _) (by simp) _⟩
 case refine_10=>simp[go_sem,f j U]
 all_goals simp[go_sem,c0,c1,c2,c3,c4,c5,c6,c7,c8]
set_option maxHeartbeats 1000000 in
theorem gk (b:Bx.Bo) (B:Nat) (sl en tk v:Value) (L:List Bx.Ch) (w:World) (hL:L.length≤100) (G:∀c∈L,ChOk c) (Y:b.text.size≤100000) (hF:b.room<(b.text.size:Int)+(Bx.frames L).size) (hR:TRow w 178 v L.length (L.flatMap chC)) (hB:BoxIn w B b sl en tk):
 Calls Tryz.prog 110 #[.pointer (some ⟨B,0,none⟩),v] w fun e O=>e=.returned (.bool false)∧Below w.heap.size w O:=by
 obtain⟨Q,I,rfl,U⟩:=hR.form;have J:=Hq hB
 have V:(Bx.frames L).size≤100000:=by
  have:=gW L (fun c h=>(G c h).t) L.length (Nat.le_refl _)
  rw[List.take_length] at this;omega
 clear hB
 go_enter Tryz.func110,Tryz.ntmps110
 go_wp2_with fail;refine (iQ L _ _ hL G hR.1).mono ?_;rintro e w1 ⟨rfl,d⟩;obtain⟨c0,c1,c2,c3,c4,c5,c6,c7,c8,_,_,_,_⟩:=J.out.later d;have Z:IntKind.i64.wrap ((b.text.size:Int)+((Bx.frames L).size:Int))=(b.text.size:Int)+((Bx.frames L).size:Int):=by rw[IntKind.wrap_i64];omega
 clear G hR;go_wp2_with fail
 go_quiet (fail)
 go_wp2_with fail;go_ret;exact⟨rfl,below_drewN d _⟩
set_option maxRecDepth 10000 in
set_option maxHeartbeats 2000000 in
theorem fI (b:Bx.Bo) (B:Nat) (sl en tk v:Value) (L:List Bx.Ch) (w:World) (hO:Bx.StOk b.now) (hL:L.length≤100) (Z:∀c∈L,ChOk c) (ht:b.text.size≤100000) (hF:¬b.room<(b.text.size:Int)+(Bx.frames L).size) (hR:TRow w 178 v L.length (L.flatMap chC)) (hB:BoxIn w B b sl en tk):
 Calls Tryz.prog 110 #[.pointer (some ⟨B,0,none⟩),v] w fun e w'=>e=.returned (.bool true)∧(∃ar am,BoxIn w' B {b with text:=b.text++Bx.frames L,now:=Bx.told b.now L} ar am tk)∧w.grownBy w' (some B):=by
 obtain⟨ap,ae,rfl,aF⟩:=hR.form;obtain⟨ad,aq,rfl,aC⟩:=hB.rows.sl.form;obtain⟨ak,ac,rfl,ay⟩:=hB.rows.en.form;have HB:=Hq hB;have HO:=Hq hO
 have aH:(Bx.frames L).size≤100000:=by
  have:=gW L (fun c h=>(Z c h).t) L.length (Nat.le_refl _)
  rw[List.take_length] at this;omega
 have HC:=Hq Z;have Y:=Hq hR;clear hB hO Z hR
 go_enter Tryz.func110,Tryz.ntmps110
 go_wp2_with fail;refine (iQ L _ _ hL HC.out Y.out.1).mono ?_;rintro e w1 ⟨rfl,G⟩;have I:=Hq (HB.out.later G);have Q:=Hq (Y.out.later G);have V:Hid (w.grownBy w1 (some B)):=dx G _;obtain⟨c0,c1,c2,c3,c4,c5,c6,c7,c8,f,_,_,_⟩:=I.out;have f7:=f 7 (by decide)
 have q1:IntKind.i64.wrap ((b.text.size:Int)+((Bx.frames L).size:Int))=(b.text.size:Int)+((Bx.frames L).size:Int):=by rw[IntKind.wrap_i64];omega
 have q2:¬9223372036854775807<b.text.size+(Bx.frames L).size:=by omega
 clear f G HB Y;go_wp2_with fail
 go_quiet (fail)
 go_wp2_with fail;have B0:=I.out.later (below_drewN (Below.refl _ _) nq);have U:Hid (BoxIn _ B {b with text:=b.text++Bx.frames L} (.slice ad b.now.slots.length aq) (.slice ak b.now.ends.length ac) tk):=B0.txt (b.text++Bx.frames L);have aw:Hid (TRow _ 178 (.slice ap L.length ae) L.length (L.flatMap chC)):=(Q.out.later (below_drewN (Below.refl _ _) nq)).set B0.ty (by decide) 7 (.string (b.text++Bx.frames L))
 have aj:Hid (w.grownBy _ (some B)):=dI (dz V.out (dx (below_drewN (Below.refl _ _) nq) _)) 7 (.string (b.text++Bx.frames L));clear c0 c1 c2 c3 c4 c5 c6 c7 c8 f7 B0 I Q V;generalize (w1.drewN nq).setCell ⟨B,7,none⟩ (.string (b.text++Bx.frames L))=W2 at *;refine (pU b.now L _ _ _ W2 HO.out hL (fun c h=>by have:=(HC.out c h).t;unfold maxLen;omega) aw.out.1 U.out.rows).mono ?_
 rintro e w3 ⟨⟨aE,aG,rfl,d⟩,J⟩;obtain⟨ai,ab,rfl,_⟩:=d.sl.form;obtain⟨au,af,rfl,_⟩:=d.en.form;have O:=U.out.later J;have ah:Hid (BoxIn _ B {b with text:=b.text++Bx.frames L,now:=Bx.told b.now L} (.slice ai (Bx.told b.now L).slots.length ab) (.slice au (Bx.told b.now L).ends.length af) tk):=O.put (Bx.told b.now L) _ _ d;have ag:Hid (w.grownBy w3 (some B)):=dz aj.out (dx J _);obtain⟨c0,c1,c2,c3,c4,c5,c6,c7,c8,f,_,_,_⟩:=O;have f2:=f 2 (by decide);have f3:=f 3 (by decide);have f4:=f 4 (by decide);have f5:=f 5 (by decide);have f6:=f 6 (by decide)
 clear f d J;go_wp2_with fail;go_ret;exact⟨rfl,⟨_,_,ah.out⟩,dI (dI (dI (dI (dI ag.out _ _) _ _) _ _) _ _) _ _⟩
set_option maxHeartbeats 1000000 in
theorem iI (b:Bx.Bo) (B:Nat) (n:Int) (sl en tk:Value) (w:World) (hl:b.talks.length≤10000) (hB:BoxIn w B b sl en tk):
 Calls Tryz.prog 147 #[.pointer (some ⟨B,0,none⟩),.int .i64 n] w fun e w'=>e=.returned (.int .i64 (talkOf b.talks n))∧w'=w:=by
 obtain⟨ad,af,rfl,ab⟩:=hB.tkr.form;have Y:=Hq hB.tkr.1;obtain⟨c0,c1,c2,c3,c4,c5,c6,c7,c8,_,_,_,_⟩:=hB
 go_enter Tryz.func147,Tryz.ntmps147
 go_wp2_with fail
 go_loop [5] (fun i=>∃k:Nat,k≤b.talks.length∧i=.int .i64 k∧∀j (h:j<b.talks.length),j<k→¬b.talks[j].num=n) (fun i=>b.talks.length-(intOf i).toNat)
 case atStart=>exact⟨0,Nat.zero_le _,rfl,fun j _ h=>by omega⟩
 case round=>
  obtain⟨k,hk,rfl,J⟩:=hrel;have G:=Hq J;clear J
  by_cases I:k<b.talks.length
  ·obtain⟨b',U,aa,Z,_,Q⟩:=Y.out.some' (by omega)
   cases Z
   have x0:w.cell? ⟨b',U+k*4,none⟩=some (.int .i64 b.talks[k].num):=RowAt.cell ec Q k I 0 (by decide)
   clear Q;have b1:(0:Int)≤(k:Int):=by omega
   have b2:(k:Int)<(b.talks.length:Int):=by omega
   cases V:(b.talks[k].num==n)
   ·have d:Hid (∀j (h:j<b.talks.length),j<k+1→¬b.talks[j].num=n):=by
     intro j h O
     by_cases e:j=k
     ·subst e;simpa using V
     ·exact G.out j h (by omega)
    generalize b.talks[k].num=x at *;go_wp2_with fail
    go_round
    case rel=>exact⟨k+1,by omega,by go_num,d.out⟩
    case measure=>simp[intOf];omega
   ·have d:Hid (talkOf b.talks n=k):=iE I (by simpa using V) (fun j h O=>G.out j h O)
    generalize b.talks[k].num=x at *;go_wp2_with fail;go_ret;exact⟨dM d.out.symm,rfl⟩
  ·obtain rfl:k=b.talks.length:=by omega
   have d:Hid (talkOf b.talks n= -1):=iC (fun j h=>G.out j h h)
   go_wp2_with fail;go_ret;exact⟨dM d.out.symm,rfl⟩
def NewTk (w:World) (tk tk':Value):Prop:=tk'.ownBlock=tk.ownBlock∨∀g,tk'.ownBlock=some g→w.heap.size≤g
theorem NewTk.grow {w G:World} {tk d:Value} (h:NewTk G tk d) (I:w.heap.size≤G.heap.size):NewTk w tk d:=h.imp id fun f g e=>Nat.le_trans I (f g e)
theorem NewTk.own {w O:World} {tk G:Value} {d n size:Nat} {e:TypeId} {I:List Value} (h:O.ownsRow d e size G n I) (J:w.heap.size≤d):NewTk w tk G:=Or.inr fun g e=>Nat.le_trans J (h.lt g e).1
theorem kd:(Tryz.prog.info? 220).map (fun i=>(i.zero,i.size,i.bytes))=some (some (.agg #[.int .i64 0,.int .i64 0,.int .i64 0,.string ByteArray.empty]),4,40):=by kernel_rfl
theorem l0 (w:World) (x:Bx.Tk) (t:TypeId):∀j u,(tkC x)[j]? =some u→(w.alloc (.cells #[.int .i64 x.num,.int .i64 x.at',.int .i64 x.since,.string x.heard] t)).cell? ((⟨w.heap.size,0,none⟩:Addr).add j)=some u:=by
 intro j u d
 match j,d with
 | 0,d=>simp[tkC] at d;subst d;simp[Addr.add,go_sem]
 | 1,d=>simp[tkC] at d;subst d;simp[Addr.add,go_sem]
 | 2,d=>simp[tkC] at d;subst d;simp[Addr.add,go_sem]
 | 3,d=>simp[tkC] at d;subst d;simp[Addr.add,go_sem]
theorem lT (x:Bx.Tk):∀u∈tkC x,u.oneCell'=true:=by
 intro u d;simp[tkC] at d;rcases d with rfl|rfl|rfl|rfl<;>rfl
theorem BoxIn.tks {w:World} {B:Nat} {b:Bx.Bo} {sl en tk:Value} (h:BoxIn w B b sl en tk) (l:List Bx.Tk) (d:Value) (G:w.ownsRow (B+1) 220 4 d l.length (l.flatMap tkC)):BoxIn (w.setCell ⟨B,8,none⟩ d) B {b with talks:=l} sl en d:=by
 obtain⟨c0,c1,c2,c3,c4,c5,c6,c7,c8,f,ty,rows,tk⟩:=h;refine⟨?_,?_,?_,?_,?_,?_,?_,?_,?_,fun j e=>?_,ty.setCell _ _ _,rows.set ty (by decide) (by decide) _ _,ownsRow_setCell_below G (by simp) _⟩
 case refine_10=>simp[go_sem,f j e]
 all_goals simp[go_sem,c0,c1,c2,c3,c4,c5,c6,c7,c8]
set_option maxRecDepth 10000 in
set_option maxHeartbeats 2000000 in
theorem iH (b:Bx.Bo) (B:Nat) (sl en tk:Value) (w:World) (hs:b.now.slots.length≤10000) (hl:b.talks.length≤1000) (hB:BoxIn w B b sl en tk):
 Calls Tryz.prog 115 #[.pointer (some ⟨B,0,none⟩)] w fun e w'=>e=.returned (.tuple #[])∧(∃aA,BoxIn w' B {b with talks:=hushL b.now b.talks} sl en aA∧NewTk w tk aA)∧w.grownBy w' (some B):=by
 obtain⟨i0,hi,aU,a6,aO⟩:=info_parts kd;obtain⟨ad,Y,rfl,bh⟩:=hB.rows.sl.form;obtain⟨V,I,rfl,a7⟩:=hB.rows.en.form;obtain⟨a4,aH,rfl,a8⟩:=hB.tkr.form;have HB:=Hq hB;clear hB
 go_enter Tryz.func115,Tryz.ntmps115
 go_wp2_with fail;refine (dW b B _ _ _ _ HB.out).mono ?_;rintro e w1 ⟨rfl,ah⟩;have ab:=cw w1 (stO b.now (.slice ad b.now.slots.length Y) (.slice V b.now.ends.length I));have hI:=StIn.new w1 b.now (.slice ad b.now.slots.length Y) (.slice V b.now.ends.length I);have az:=(HB.out.later ah).later ab;have hG:Below w.heap.size w (w1.alloc (stO b.now (.slice ad b.now.slots.length Y) (.slice V b.now.ends.length I))):=ah.trans (ab.mono ah.size);go_wp2_with fail;generalize w1.alloc (stO b.now (.slice ad b.now.slots.length Y) (.slice V b.now.ends.length I))=W at *;have aC:=Hq az;have HI:=Hq hI;have HG:=Hq hG;clear az hI hG ah ab HB;generalize w1.heap.size=sq at *
 go_loopw [3,4] (fun v i wr=>∃k:Nat,k≤b.talks.length∧i=.int .i64 k∧wr.ownsRow W.heap.size 220 4 v (hushL b.now (b.talks.take k)).length ((hushL b.now (b.talks.take k)).flatMap tkC)∧Below W.heap.size W wr) (fun _ i _=>b.talks.length-(intOf i).toNat)
 case atStart=>exact⟨0,Nat.zero_le _,rfl,by simpa [hushL] using World.ownsRow_nil _ _ _ _,Below.refl _ _⟩
 case round=>
  obtain⟨k,hk,rfl,J,Q⟩:=hrel;have aT:=Q.size;have G:=aC.out.later Q
  by_cases aa:k<b.talks.length
  ·have HT:Hid _:=oD b.now b.talks k aa;obtain⟨d0,d1,d2,d3,d4⟩:=HI.out.later Q;obtain⟨tb,Z,a9,hv,_,hc⟩:=G.tkr.1.some' (by omega)
   cases hv
   have x0:wr.cell? ⟨tb,Z+k*4,none⟩=some (.int .i64 b.talks[k].num):=RowAt.cell ec hc k aa 0 (by decide)
   have x1:wr.cell? ⟨tb,Z+k*4+1,none⟩=some (.int .i64 b.talks[k].at'):=RowAt.cell ec hc k aa 1 (by decide)
   have x2:wr.cell? ⟨tb,Z+k*4+2,none⟩=some (.int .i64 b.talks[k].since):=RowAt.cell ec hc k aa 2 (by decide)
   have x3:wr.cell? ⟨tb,Z+k*4+3,none⟩=some (.string b.talks[k].heard):=RowAt.cell ec hc k aa 3 (by decide)
   have hn:(hushL b.now (b.talks.take k)).length≤1000:=by have:=qO b.now (b.talks.take k);simp at this;omega
   have c8:=G.c8;have aV:B<wr.heap.size:=G.ty.lt;have aL:tb<wr.heap.size:=World.block_lt_of_cell? _ _ x0;have a3:sq<wr.heap.size:=World.block_lt_of_cell? _ _ d0;have y1:(0:Int)≤(k:Int):=by omega
   have y2:(k:Int)<(b.talks.length:Int):=by omega
   have ao:Hid (StAt wr.drew b.now (.slice ad b.now.slots.length Y) (.slice V b.now.ends.length I)):=G.rows.later (Below.refl _ _).drew;have ay:=Hq G;have aB:=jf b.now b.talks[k].num;have U:Hid (goesOn b.now b.talks[k]=(decide (0≤Bx.find b.now b.talks[k].num)&&(Bx.slAt b.now (Bx.find b.now b.talks[k].num).toNat).runs)):=rfl;clear hc G;generalize hushL b.now (b.talks.take k)=M at *;generalize b.talks[k]=x at *;obtain⟨F,hF⟩:∃F:Int,F=Bx.find b.now x.num:=⟨_,rfl⟩;rw[←hF] at aB U;have HF:=Hq hF;clear hF;go_wp2_with fail
   go_cut [5] from 17 to 26 (fun s5 wx=>s5=.int .i64 F∧Below wr.heap.size wr wx)
   case first=>
    go_region_with ((go_at_call 114;refine (eW b.now x.num (.slice ad b.now.slots.length Y) (.slice V b.now.ends.length I) wr.drew hs ao.out).mono ?_;rintro e w2 ⟨rfl,ab⟩))
    all_goals (go_wp2_with fail;go_meet;exact⟨by rw[HF.out],(Below.refl _ _).drew.trans ab⟩)
   case rest=>
    obtain⟨rfl,d⟩:=hcut;have O:=dU J d;have aR:=Hq (ay.out.later d);have ac:Below W.heap.size W wc:=Q.trans (d.mono Q.size);have aK:=ac.size;replace x0:=cell_later d x0;replace x1:=cell_later d x1;replace x2:=cell_later d x2;replace x3:=cell_later d x3;replace c8:=cell_later d c8;replace d3:=cell_later d d3;clear d0 d1 d2 d4 J Q ao ay aV aL a3 aT
    by_cases aD:F<0
    ·have HN:Hid (hushL b.now (b.talks.take (k+1))=M):=by
      unfold Hid;rw[HT.out,U.out,decide_eq_false (by omega)];rfl
     have z1:¬(0:Int)≤F:=by omega
     clear HT U x0 x1 x2 x3;go_wp2_with fail;go_roundw
     case rel=>exact⟨k+1,by omega,by go_num,by rw[HN.out];exact O,ac⟩
     case measure=>simp[intOf];omega
    ·obtain⟨i,a2⟩:∃i:Nat,F=i:=Int.eq_ofNat_of_zero_le (by omega)
     subst a2;simp only [Int.toNat_natCast] at U;have aw:i<b.now.slots.length:=by omega
     obtain⟨b5,aI,bb,aS,_,ax⟩:=aR.out.rows.sl.1.some' (by omega)
     cases aS
     have s5:wc.cell? ⟨b5,aI+i*6+5,none⟩=some (.bool (Bx.slAt b.now i).runs):=by rw[←slAt_eq b.now i aw];exact (dS ax i aw).2.2.2.2.2
     have z1:(0:Int)≤(i:Int):=by omega
     have z2:(i:Int)<(b.now.slots.length:Int):=by omega
     clear ax aD aB
     cases hr:(Bx.slAt b.now i).runs
     ·have HN:Hid (hushL b.now (b.talks.take (k+1))=M):=by
       unfold Hid;rw[HT.out,U.out,hr,Bool.and_false];rfl
      rw[hr] at s5;clear HT U x0 x1 x2 x3 hr;go_wp2_with fail;go_roundw
      case rel=>exact⟨k+1,by omega,by go_num,by rw[HN.out];exact O,ac⟩
      case measure=>simp[intOf];omega
     ·have HN:Hid (hushL b.now (b.talks.take (k+1))=M++[x]):=by
       unfold Hid;rw[HT.out,U.out,hr,decide_eq_true z1];rfl
      rw[hr] at s5;clear HT U hr;go_wp2_with (at_builtin;refine wpList_append_lies _ rfl (.tmp 37) (.tmp 45) 171 rfl W.heap.size 220 i0 (.agg #[.int .i64 0,.int .i64 0,.int .i64 0,.string ByteArray.empty]) 4 40 Tryz.underlying171 hi aU a6 aO rfl (by decide) _ _ _ rfl (O.alloc _) ⟨wc.heap.size,0,none⟩ 1 1 (tkC x) rfl rfl (l0 _ _ _) (lT x) (by decide) ?c3 ?c4 ?c5 _ rfl ?_)
      case c3=>unfold maxLen;omega
      case c4=>omega
      case c5=>simp;omega
      ·intro g aE w4 ag ai _ bf;have B1:Below W.heap.size W w4:=(ac.alloc aK _).grown ai (by simp;omega) (fun k' e=>(O.lt k' e).1)
       have av:w4.ownsRow W.heap.size 220 4 (.slice (some ⟨g,0,none⟩) (M.length+1) aE) (M++[x]).length ((M++[x]).flatMap tkC):=by simpa using ag
       clear ag ai O ac x0 x1 x2 x3 c8 d3 s5 d;go_wp2_with fail;go_roundw
       case rel=>exact⟨k+1,by omega,by go_num,by rw[HN.out];exact av,B1⟩
       case measure=>simp[intOf];omega
  ·obtain rfl:k=b.talks.length:=by omega
   rw[List.take_length] at J;have HN:Hid (BoxIn _ B {b with talks:=hushL b.now b.talks} (.slice ad b.now.slots.length Y) (.slice V b.now.ends.length I) _):=G.tks (hushL b.now b.talks) _ (fJ J aC.out.ty.lt);have aX:Hid (NewTk w (.slice a4 b.talks.length aH) _):=NewTk.own J HG.out.size;obtain⟨bt,bj,rfl,_⟩:=(RowAt.of_own J).form;have aZ:Hid (w.grownBy wr (some B)):=dz (dx HG.out _) (dx Q _);have c8:=G.c8;have f8:=G.f 8 (by decide)
   clear J Q G;go_wp2_with fail;exact bodyPost_end (v:=.tuple #[]) (by simp[results,Tryz.results115,go_sem]) rfl ⟨rfl,⟨_,HN.out,aX.out⟩,dI aZ.out _ _⟩
theorem rn (w:World) (x:Bx.Ch) (t:TypeId):∀j (h:j<([x].flatMap chC).length),(w.alloc (.cells #[.int .u8 x.kind,.string x.tab,.int .i64 x.n] t)).cell? ⟨w.heap.size,0+j,none⟩=some ([x].flatMap chC)[j]:=by
 intro j h
 match j,h with
 | 0,h=>simp[chC,go_sem]
 | 1,h=>simp[chC,go_sem]
 | 2,h=>simp[chC,go_sem]
theorem kQ (w:World) (x:Bx.Ch):TRow (w.alloc (chO x)) 178 (.slice (some ⟨w.heap.size,0,none⟩) 1 1) [x].length ([x].flatMap chC):=
 ⟨Or.inr ⟨w.heap.size,0,1,rfl,by simp,rn w x _⟩,fun b e n d h=>by cases h;exact Typed.new _ _ _⟩
theorem nR {tab:ByteArray} (h:tab.size≤300):∀c∈[chT tab],ChOk c:=by
 intro c d;simp at d;subst d;exact⟨show (0:Int)≤84 by decide,show (84:Int)≤255 by decide,show (0:Int)≤0 by decide,show (0:Int)≤9223372036854775807 by decide,h⟩
set_option maxRecDepth 10000 in
set_option maxHeartbeats 2000000 in
theorem nM (b:Bx.Bo) (B:Nat) (tab:ByteArray) (sl en tk:Value) (w:World) (hO:BoOk b) (ht:tab.size≤maxLen) (hB:BoxIn w B b sl en tk):
 Calls Tryz.prog 73 #[.pointer (some ⟨B,0,none⟩),.string tab] w fun e w'=>(∃b' a r aD ay ap,e=.returned (.tuple #[.int .i64 a,.int .i64 r])∧LoadR b tab b' a r∧BoxIn w' B b' aD ay ap∧NewTk w tk ap)∧w.grownBy w' (some B):=by
 obtain⟨V,I,rfl,aJ⟩:=hB.rows.sl.form;obtain⟨G,d,rfl,aF⟩:=hB.rows.en.form;have HB:=Hq hB;have HO:=Hq hO;clear hB hO
 go_enter Tryz.func73,Tryz.ntmps73
 go_wp2_with fail;refine (gH tab _ ht).mono ?_;rintro e w1 ⟨⟨a,r,rfl,al,aK⟩,Y⟩;have aa:=Hq al;have J:=Hq (HB.out.later Y);have ac:Hid (w.grownBy w1 (some B)):=dx Y _;clear al Y HB
 cases z0:(r !=0)
 ·have hr:r=0:=by simpa using z0
  subst hr;have Q:Hid (ChkR tab 0 0):=by have:=aa.out;rwa [this.zero rfl] at this
  clear aa;go_wp2_with fail;refine (dW b B _ _ _ _ J.out).mono ?_;rintro e U ⟨rfl,O⟩;have ae:=cw U (stO b.now (.slice V b.now.slots.length I) (.slice G b.now.ends.length d));have am:Hid (BoxIn (U.alloc (stO b.now (.slice V b.now.slots.length I) (.slice G b.now.ends.length d))) B b (.slice V b.now.slots.length I) (.slice G b.now.ends.length d) tk):=(J.out.later O).later ae;have ag:Hid (w.grownBy (U.alloc (stO b.now (.slice V b.now.slots.length I) (.slice G b.now.ends.length d))) (some B)):=dz ac.out (dx (O.trans (ae.mono O.size)) _);have hI:=StIn.new U b.now (.slice V b.now.slots.length I) (.slice G b.now.ends.length d);clear O ae J ac;go_upto_region 5 with fail;generalize U.alloc (stO b.now (.slice V b.now.slots.length I) (.slice G b.now.ends.length d))=W at *;generalize U.heap.size=sq at *;have d3:=hI.c3;clear hI
  by_cases ai:0<b.now.slots.length
  ·have z1:(0:Int)<(b.now.slots.length:Int):=by omega
   go_wp2_with fail;go_ret2;exact⟨⟨b,0,5,_,_,_,rfl,Or.inr (Or.inl ⟨Q.out,ai,rfl,rfl,rfl⟩),am.out,Or.inl rfl⟩,ag.out⟩
  ·have z1:¬(0:Int)<(b.now.slots.length:Int):=by omega
   have ao:Hid (b.now.slots.length=0):=by unfold Hid;omega
   clear ai;have aj:=cw W (chO (chT tab));have ah:=kQ W (chT tab);have ab:=am.out.later aj;have aq:Hid (w.grownBy (W.alloc (chO (chT tab))) (some B)):=dz ag.out (dx aj _);have Z:=Q.out.lines.1
   by_cases hF:fits b [chT tab]
   ·go_wp2_with fail;refine (fI b B _ _ tk _ [chT tab] _ HO.out.st (by simp) (nR Z) HO.out.txt hF ah ab).mono ?_
    rintro e w5 ⟨rfl,⟨aL,aM,az⟩,av⟩;go_wp2_with fail;go_ret2;exact⟨⟨_,0,0,_,_,_,rfl,Or.inr (Or.inr (Or.inr ⟨Q.out,ao.out,hF,rfl,rfl,rfl⟩)),az,Or.inl rfl⟩,dz aq.out av⟩
   ·go_wp2_with fail;refine (gk b B _ _ tk _ [chT tab] _ (by simp) (nR Z) HO.out.txt (by unfold fits at hF;omega) ah ab).mono ?_
    rintro e w5 ⟨rfl,ak⟩;go_wp2_with fail;go_ret2;exact⟨⟨b,0,13,_,_,_,rfl,Or.inr (Or.inr (Or.inl ⟨Q.out,ao.out,hF,rfl,rfl,rfl⟩)),ab.later ak,Or.inl rfl⟩,dz aq.out (dx ak _)⟩
 ·have hr:¬r=0:=by simpa using z0
  go_wp2_with fail;go_ret2;exact⟨⟨b,a,r,_,_,_,rfl,Or.inl ⟨hr,aa.out,rfl⟩,J.out,Or.inl rfl⟩,ac.out⟩
theorem oR:(Tryz.prog.info? 178).map (fun i=>(i.zero,i.size,i.bytes))=some (some (.agg #[.int .u8 0,.string ByteArray.empty,.int .i64 0]),3,32):=by kernel_rfl
theorem qJ {b:Bx.Bo} {m:Int} (e:BoOk b) (h0:0≤m) (h1:m≤4223371679) (k:Nat) (I:k≤b.now.slots.length):∀c∈tickK b m k,ChOk c:=by
 induction k with
 | zero=>
   intro c d;simp[tickK] at d;subst d;exact⟨show (0:Int)≤67 by decide,show (67:Int)≤255 by decide,h0,by show m≤_;omega,by show 0≤300;decide⟩
 | succ k w=>
   rw[tickK];have G:=e.st.each _ (Bx.slAt_mem (s:=b.now) (i:=k) (by omega))
   have:=e.st.n2
   split
   ·intro c d
    rcases List.mem_append.1 d with d|d
    ·exact w (by omega) c d
    ·simp at d;subst d
     exact⟨show (0:Int)≤70 by decide,show (70:Int)≤255 by decide,by show 0≤(Bx.slAt b.now k).num;omega,by show (Bx.slAt b.now k).num≤_;omega,by show 0≤300;decide⟩
   ·exact w (by omega)
theorem qj {s:Bx.St} {m:Int} (d:Bx.StOk s) (hA:Bx.ahead s m=true):(Bx.comesS s m).length≤100000:=by
 have h1:=Bx.comes_len (Bx.lns s.tab) (Bx.newA s m) m;have h2:(Bx.lns s.tab).length≤4:=by rw[Bx.lns,List.length_map,Bx.linesOf_len];exact gv d.tab
 have w:0≤m∧m≤4223371679∧s.clock<m∧(s.clock= -1∨m-s.clock≤1500):=of_decide_eq_true hA;have e:m-Bx.newA s m≤1500:=by unfold Bx.newA;split<;>omega
 have I:(m+1-Bx.newA s m).toNat*(Bx.lns s.tab).length≤1501*4:=Nat.mul_le_mul (by omega) h2
 have G:(Bx.comesS s m).length≤(m+1-Bx.newA s m).toNat*(Bx.lns s.tab).length:=h1;omega
theorem kU (w:World) (x:Bx.Ch) (t:TypeId):∀j u,(chC x)[j]? =some u→(w.alloc (.cells #[.int .u8 x.kind,.string x.tab,.int .i64 x.n] t)).cell? ((⟨w.heap.size,0,none⟩:Addr).add j)=some u:=by
 intro j u d
 match j,d with
 | 0,d=>simp[chC] at d;subst d;simp[Addr.add,go_sem]
 | 1,d=>simp[chC] at d;subst d;simp[Addr.add,go_sem]
 | 2,d=>simp[chC] at d;subst d;simp[Addr.add,go_sem]
theorem lO (x:Bx.Ch):∀u∈chC x,u.oneCell'=true:=by
 intro u d;simp[chC] at d;rcases d with rfl|rfl|rfl<;>rfl
theorem nY (w:World) (x:Bx.Ch):(w.alloc (chO x)).ownsRow w.heap.size 178 3 (.slice (some ⟨w.heap.size,0,none⟩) 1 1) [x].length ([x].flatMap chC):=
 ⟨rfl,Or.inr ⟨w.heap.size,1,#[.int .u8 x.kind,.string x.tab,.int .i64 x.n],rfl,Nat.le_refl _,by show (w.heap.push (chO x))[w.heap.size]? =_;simp,by simp,by decide,rfl,rfl⟩⟩
set_option maxRecDepth 10000 in
set_option maxHeartbeats 3000000 in
theorem nN (b:Bx.Bo) (B:Nat) (m:Int) (sl en tk:Value) (w:World) (hO:BoOk b) (hB:BoxIn w B b sl en tk):
 Calls Tryz.prog 111 #[.pointer (some ⟨B,0,none⟩),.int .i64 m] w fun e w'=>(∃a8 bv aU,e=.returned (.tuple #[.int .i64 (tickP b m).2.1,.int .i64 (tickP b m).2.2])∧BoxIn w' B (tickP b m).1 a8 bv aU∧NewTk w tk aU)∧w.grownBy w' (some B):=by
 obtain⟨i0,hi,bm,bz,a9⟩:=info_parts oR;obtain⟨ad,aa,rfl,bK⟩:=hB.rows.sl.form;obtain⟨Z,J,rfl,bC⟩:=hB.rows.en.form;obtain⟨br,a5,rfl,bE⟩:=hB.tkr.form;have HB:=Hq hB;have HO:=Hq hO;have aS:=hO.st.c1;have aW:=hO.st.c2;have bY:=hO.st.n1;have bU:=hO.st.n2;have bW:=hO.st.sl;have bD:=hO.tks
 have Y:Hid (tickP b m=if ¬minB m=true then (b,0,4)
  else if ¬Bx.ahead b.now m=true then (b,0,6)
  else if 10000<b.now.next+((Bx.comesS b.now m).length:Int) then (b,0,7)
  else if b.room<(b.text.size:Int)+(Bx.frames (tickL b m)).size then (b,0,13)
  else ({addB b (tickL b m) with talks:=hushL (Bx.told b.now (tickL b m)) b.talks},((Bx.comesS b.now m).length:Int),0)):=rfl
 clear hB hO
 go_enter Tryz.func111,Tryz.ntmps111
 go_wp2_with fail;refine (fM m _).mono ?_;rintro e w ⟨rfl,rfl⟩
 cases hm:minB m
 ·have G:Hid (tickP b m=(b,0,4)):=by unfold Hid;rw[Y.out,hm];rfl
  go_wp2_with fail;go_ret2;rw[G.out];exact⟨⟨_,_,_,rfl,HB.out,Or.inl rfl⟩,eD _ _⟩
 rw[hm] at Y;simp only [not_true_eq_false,if_false] at Y;have aM:0≤m∧m≤4223371679:=of_decide_eq_true hm;clear hm;go_wp2_with fail;refine (dW b B _ _ _ _ HB.out).mono ?_;rintro e w2 ⟨rfl,ap⟩;have aF:=cw w2 (stO b.now (.slice ad b.now.slots.length aa) (.slice Z b.now.ends.length J));have aE:Hid (BoxIn (w2.alloc (stO b.now (.slice ad b.now.slots.length aa) (.slice Z b.now.ends.length J))) B b (.slice ad b.now.slots.length aa) (.slice Z b.now.ends.length J) (.slice br b.talks.length a5)):=(HB.out.later ap).later aF;have aB:=Hq (ap.trans (aF.mono ap.size));have HI:Hid (StIn (w2.alloc (stO b.now (.slice ad b.now.slots.length aa) (.slice Z b.now.ends.length J))) w2.heap.size b.now (.slice ad b.now.slots.length aa) (.slice Z b.now.ends.length J)):=StIn.new w2 b.now _ _;go_upto_region 5 with fail;generalize w2.alloc (stO b.now (.slice ad b.now.slots.length aa) (.slice Z b.now.ends.length J))=W at *;generalize w2.heap.size=sq at *;clear ap aF HB;obtain⟨d0,d1,d2,O,d4⟩:=HI.out;go_wp2_with fail;refine (jG b.now m _ _ _ aS aW aE.out.rows).mono ?_;rintro e w4 ⟨rfl,aj⟩;have au:=Hq (aE.out.later aj);have az:=Hq (HI.out.later aj);have am:=Hq (aB.out.trans (aj.mono aB.out.size));clear d0 d1 d2 O d4 aE HI aB aj
 cases aq:Bx.ahead b.now m
 ·have G:Hid (tickP b m=(b,0,6)):=by unfold Hid;rw[Y.out,aq];rfl
  go_wp2_with fail;go_ret2;rw[G.out];exact⟨⟨_,_,_,rfl,au.out,Or.inl rfl⟩,dx am.out _⟩
 have aK:=Hq aq;rw[aq] at Y;simp only [not_true_eq_false,if_false] at Y;clear aq;obtain⟨d0,d1,d2,O,d4⟩:=az.out;go_wp2_with fail;refine (jF b.now _ _ m _ HO.out.st.tab aS aW aK.out au.out.rows).mono ?_;rintro e U ⟨⟨v5,rfl,al⟩,ak⟩;obtain⟨bT,bG,rfl,_⟩:=(RowAt.of_own al).form;have aL:=Hq (au.out.later ak);have ar:=Hq (az.out.later ak);have aT:=Hq (am.out.trans (ak.mono am.out.size));have b2:(Bx.comesS b.now m).length≤100000:=qj HO.out.st aK.out;clear d0 d1 d2 O d4 au az am ak al;obtain⟨d0,d1,d2,O,d4⟩:=ar.out;generalize bk:(Bx.comesS b.now m).length=nc at *;clear bk
 by_cases aG:10000<b.now.next+(nc:Int)
 ·have G:Hid (tickP b m=(b,0,7)):=by unfold Hid;rw[Y.out,if_pos aG]
  go_wp2_with fail;go_ret2;rw[G.out];exact⟨⟨_,_,_,rfl,aL.out,Or.inl rfl⟩,dx aT.out _⟩
 rw[if_neg aG] at Y;clear d0 d1 d2 O d4;have aR:Hid ((U.alloc (chO (chCl m))).ownsRow U.heap.size 178 3 (.slice (some ⟨U.heap.size,0,none⟩) 1 1) (tickK b m 0).length ((tickK b m 0).flatMap chC)):=nY U (chCl m);obtain⟨d0,d1,d2,O,d4⟩:=ar.out;have q7:IntKind.i64.wrap (b.now.next+(nc:Int))=b.now.next+(nc:Int):=by rw[IntKind.wrap_i64];omega
 go_wp2_with fail;clear d0 d1 d2 O d4
 go_loopw [10,11] (fun v i wr=>∃k:Nat,k≤b.now.slots.length∧i=.int .i64 k∧wr.ownsRow U.heap.size 178 3 v (tickK b m k).length ((tickK b m k).flatMap chC)∧Below U.heap.size U wr) (fun _ i _=>b.now.slots.length-(intOf i).toNat)
 case atStart=>exact⟨0,Nat.zero_le _,rfl,aR.out,cw _ _⟩
 case round=>
  obtain⟨k,hk,rfl,d,I⟩:=hrel;have bh:=I.size;have ab:=aL.out.later I;have bx:=nu b m k
  by_cases aP:k<b.now.slots.length
  ·have HT:Hid (tickK b m (k+1)=if late b m (Bx.slAt b.now k).num=true then tickK b m k++[chF (Bx.slAt b.now k).num] else tickK b m k):=rfl
   have O:=(ar.out.later I).c3;obtain⟨b5,a6,bF,bc,_,aQ⟩:=ab.rows.sl.1.some' (by omega)
   cases bc
   have s0:wr.cell? ⟨b5,a6+k*6,none⟩=some (.int .i64 (Bx.slAt b.now k).num):=by rw[←slAt_eq b.now k aP];exact (dS aQ k aP).1
   have y1:(0:Int)≤(k:Int):=by omega
   have y2:(k:Int)<(b.now.slots.length:Int):=by omega
   have Q:=Hq ab;have V:Hid (late b m (Bx.slAt b.now k).num=(decide (0≤talkOf b.talks (Bx.slAt b.now k).num)&&decide ((tkAt b (talkOf b.talks (Bx.slAt b.now k).num).toNat).since+3≤m))):=rfl;have bg:=gT b.talks (Bx.slAt b.now k).num;clear aQ ab;generalize tickK b m k=M at *;generalize (Bx.slAt b.now k).num=n at *;go_wp2_with fail;refine (iI b B n _ _ _ _ (by omega) Q.out).mono ?_
   rintro e w6 ⟨rfl,bj⟩;subst bj;generalize talkOf b.talks n=F at *
   by_cases aY:F<0
   ·have HN:Hid (tickK b m (k+1)=M):=by unfold Hid;rw[HT.out,V.out,decide_eq_false (by omega)];rfl
    have z1:¬(0:Int)≤F:=by omega
    clear HT V s0;go_wp2_with fail;go_roundw
    case rel=>exact⟨k+1,by omega,by go_num,by rw[HN.out];exact d,I⟩
    case measure=>simp[intOf];omega
   ·obtain⟨i,bo⟩:∃i:Nat,F=i:=Int.eq_ofNat_of_zero_le (by omega)
    subst bo;simp only [Int.toNat_natCast] at V;have ao:i<b.talks.length:=by omega
    have z1:(0:Int)≤(i:Int):=by omega
    have z2:(i:Int)<(b.talks.length:Int):=by omega
    obtain⟨b6,aZ,bR,bq,_,aN⟩:=Q.out.tkr.1.some' (by omega)
    cases bq
    have t2:w6.cell? ⟨b6,aZ+i*4+2,none⟩=some (.int .i64 (tkAt b i).since):=by rw[←ez b i ao];exact RowAt.cell ec aN i ao 2 (by decide)
    have c8:=Q.out.c8;have bf:=HO.out.since _ (List.getElem_mem ao);rw[ez b i ao] at bf;have q3:IntKind.i64.wrap ((tkAt b i).since+3)=(tkAt b i).since+3:=by rw[IntKind.wrap_i64];omega
    clear aN aY bg
    by_cases av:(tkAt b i).since+3≤m
    ·have HN:Hid (tickK b m (k+1)=M++[chF n]):=by unfold Hid;rw[HT.out,V.out,decide_eq_true z1,decide_eq_true av];rfl
     clear HT V;go_wp2_with (at_builtin;refine wpList_append_lies _ rfl (.tmp 67) (.tmp 75) 179 rfl U.heap.size 178 i0 (.agg #[.int .u8 0,.string ByteArray.empty,.int .i64 0]) 3 32 Tryz.underlying179 hi bm bz a9 rfl (by decide) _ _ _ rfl (d.alloc _) ⟨w6.heap.size,0,none⟩ 1 1 (chC (chF n)) rfl rfl (kU _ (chF n) _) (lO (chF n)) (by decide) ?c3 ?c4 ?c5 _ rfl ?_)
     case c3=>unfold maxLen;omega
     case c4=>omega
     case c5=>simp;omega
     ·intro g a3 w7 ai aw _ bI;have B1:Below U.heap.size U w7:=(I.alloc bh _).grown aw (by simp;omega) (fun k' e=>(d.lt k' e).1)
      have aH:w7.ownsRow U.heap.size 178 3 (.slice (some ⟨g,0,none⟩) (M.length+1) a3) (M++[chF n]).length ((M++[chF n]).flatMap chC):=by simpa using ai
      clear ai aw d s0 t2 c8 O;go_wp2_with fail;go_roundw
      case rel=>exact⟨k+1,by omega,by go_num,by rw[HN.out];exact aH,B1⟩
      case measure=>simp[intOf];omega
    ·have HN:Hid (tickK b m (k+1)=M):=by unfold Hid;rw[HT.out,V.out,decide_eq_true z1,decide_eq_false av];rfl
     clear HT V;go_wp2_with fail;go_roundw
     case rel=>exact⟨k+1,by omega,by go_num,by rw[HN.out];exact d,I⟩
     case measure=>simp[intOf];omega
  ·obtain rfl:k=b.now.slots.length:=by omega
   have HL:Hid (tickK b m b.now.slots.length=tickL b m):=rfl;have aC:=qJ HO.out aM.1 aM.2 b.now.slots.length (Nat.le_refl _);rw[HL.out] at d bx aC;have aX:=Hq aC;have HR:Hid (TRow wr 178 _ (tickL b m).length ((tickL b m).flatMap chC)):=TRow.of_own d;obtain⟨bZ,bM,rfl,_⟩:=(RowAt.of_own d).form;have Q:=Hq ab;have aD:Hid (w.grownBy wr (some B)):=dz (dx aT.out _) (dx I _);have O:=(ar.out.later I).c3;clear d I ab aC HL aR;generalize tickL b m=L at *
   by_cases hF:b.room<(b.text.size:Int)+(Bx.frames L).size
   ·have G:Hid (tickP b m=(b,0,13)):=by unfold Hid;rw[Y.out,if_pos hF]
    go_wp2_with fail;refine (gk b B _ _ _ _ L _ (by omega) aX.out HO.out.txt hF HR.out Q.out).mono ?_
    rintro e w8 ⟨rfl,aO⟩;clear O;go_wp2_with fail;go_ret2;rw[G.out];exact⟨⟨_,_,_,rfl,Q.out.later aO,Or.inl rfl⟩,dz aD.out (dx aO _)⟩
   ·have G:Hid (tickP b m=({addB b L with talks:=hushL (Bx.told b.now L) b.talks},(nc:Int),0)):=by unfold Hid;rw[Y.out,if_neg hF]
    go_wp2_with fail;refine (fI b B _ _ _ _ L _ HO.out.st (by omega) aX.out HO.out.txt (by omega) HR.out Q.out).mono ?_
    rintro e w8 ⟨rfl,⟨b0,bV,bu⟩,aV⟩;clear O;have bQ:(Bx.told b.now L).slots.length≤8:=(Bx.told_ok HO.out.st L).sl;go_wp2_with fail;refine (iH (addB b L) B _ _ _ _ (by show (Bx.told b.now L).slots.length≤10000;omega) (by show b.talks.length≤1000;omega) bu).mono ?_
    rintro e w9 ⟨rfl,⟨bX,bA,bn⟩,bw⟩;go_wp2_with fail;go_ret2;rw[G.out];exact⟨⟨_,_,_,rfl,bA,bn.grow (dz aD.out aV).size⟩,dz (dz aD.out aV) bw⟩
end Go.Proofs.YtdajolpoiffimabGreatDoor
