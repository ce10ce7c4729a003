import Derived.Test.YtdajolpoiffimabGreatDoorA6

namespace Go.Proofs.YtdajolpoiffimabGreatDoor
open Go.RowKit
theorem jA (t y m d h i k:Int) (w:World) (t0:0≤t) (t1:t≤4223371679) (H:DtIs t y m d h i k):
 Calls Tryz.prog 223 #[dateV y m d h i k] w fun e w'=>(∃y' U V h' Y Z,e=.returned (dateV y' U V h' Y Z)∧DtIs (t+1) y' U V h' Y Z)∧Below w.heap.size w w':=by
 obtain⟨G,rfl,rfl,rfl⟩:=H t1;have aj:=Cal.dim_lo y m;have a1:=G.y1;have Q:=G.y2;have J:=G.m1;have a4:=G.m2;have O:=G.d1;have a6:=G.d2;have a7:=G.num
 by_cases hc:t % 60<59
 ·refine (sg _ _ _ _ _ _ w (by omega) hc).mono ?_
  rintro e w1 ⟨rfl,hb⟩;refine⟨⟨_,_,_,_,_,_,rfl,fun _=>⟨?_,by omega,by omega,by omega⟩⟩,hb⟩
  have I:(t+1) / 1440=t / 1440:=by omega
  rw[I];exact G
 by_cases hd:t % 1440 / 60<23
 ·refine (rF _ _ _ _ _ _ w (by omega) hd (by omega)).mono ?_
  rintro e w1 ⟨rfl,hb⟩;refine⟨⟨_,_,_,_,_,_,rfl,fun _=>⟨?_,by omega,by omega,by omega⟩⟩,hb⟩
  have I:(t+1) / 1440=t / 1440:=by omega
  rw[I];exact G
 have I:(t+1) / 1440=t / 1440+1:=by omega
 by_cases he:d<Cal.dim y m
 ·refine (ru _ _ _ _ _ _ w (by omega) (by omega) O (by omega) (by omega) (by omega) (by omega) he (by omega)).mono ?_
  rintro e w1 ⟨rfl,hb⟩;refine⟨⟨_,_,_,_,_,_,rfl,fun _=>⟨?_,by omega,by omega,by omega⟩⟩,hb⟩
  rw[I];exact⟨a1,Q,J,a4,by omega,by omega,by omega⟩
 by_cases hf:m<12
 ·refine (sr _ _ _ _ _ _ w (by omega) (by omega) O (by omega) (by omega) (by omega) (by omega) (by omega) J hf (by omega)).mono ?_
  rintro e w1 ⟨rfl,hb⟩;refine⟨⟨_,_,_,_,_,_,rfl,fun _=>⟨?_,by omega,by omega,by omega⟩⟩,hb⟩
  have:=Cal.cum_succ y m J (by omega)
  have:=Cal.dim_lo y (m+1);rw[I];exact⟨a1,Q,by omega,by omega,by omega,by omega,by omega⟩
 ·refine (rT _ _ _ _ _ _ w (by omega) (by omega) O (by omega) (by omega) (by omega) (by omega) (by omega) (by omega) (by omega) (by omega)).mono ?_
  rintro e w1 ⟨rfl,hb⟩;refine⟨⟨_,_,_,_,_,_,rfl,fun h=>⟨?_,by omega,by omega,by omega⟩⟩,hb⟩
  obtain rfl:m=12:=by omega
  have q1:Cal.cum y 13=Cal.cum y 12+Cal.dim y 12:=Cal.cum_succ y 12 (by omega) (by omega)
  have q2:=Cal.cum_13 y;have q3:=Cal.dby_succ y;have q4:=Cal.cum_1 (y+1);have q5:=Cal.dim_lo (y+1) 1;have q6:=Cal.dby_10000
  have:y+1≤9999:=by
   rcases Int.lt_or_le (y+1) 10000 with c|c
   ·omega
   ·obtain rfl:y=9999:=by omega
    have:Cal.dby (9999+1)=2932897:=q6;omega
  rw[I];exact⟨by omega,this,by omega,by omega,by omega,by omega,by omega⟩
theorem rG:(Tryz.prog.info? 3).map (fun i=>(i.zero,i.size,i.bytes))=some (some (.int .i64 0),1,8):=by kernel_rfl
structure DtIn (W:World) (q:Nat) (y m d h i k:Int):Prop where
 D:DateAt W q y m d h i k
 f:∀j:Nat,j<6→W.frozen? ⟨q,j,none⟩=false
theorem DtIn.later {W W':World} {q:Nat} {y m d h i k:Int} (a:DtIn W q y m d h i k) (e:q<W.heap.size) (hb:Below W.heap.size W W'):DtIn W' q y m d h i k:=
 ⟨a.D.later hb,fun j w=>(hb.frozen (p:=⟨q,j,none⟩) e).trans (a.f j w)⟩
theorem DtIn.below {W W':World} {q n:Nat} {y m d h i k:Int} (a:DtIn W q y m d h i k) (e:q<n) (hb:Below n W W'):DtIn W' q y m d h i k:=by
 obtain⟨⟨c0,c1,c2,c3,c4,c5⟩,f⟩:=a;refine⟨⟨?_,?_,?_,?_,?_,?_⟩,fun j w=>(hb.frozen (p:=⟨q,j,none⟩) e).trans (f j w)⟩
 ·exact (hb.cell (p:=⟨q,0,none⟩) e).trans c0
 ·exact (hb.cell (p:=⟨q,1,none⟩) e).trans c1
 ·exact (hb.cell (p:=⟨q,2,none⟩) e).trans c2
 ·exact (hb.cell (p:=⟨q,3,none⟩) e).trans c3
 ·exact (hb.cell (p:=⟨q,4,none⟩) e).trans c4
 ·exact (hb.cell (p:=⟨q,5,none⟩) e).trans c5
theorem DtIn.new (w:World) (y m d h i k:Int) (t:TypeId):DtIn (w.alloc (.cells #[.int .i64 y,.int .i64 m,.int .i64 d,.int .i64 h,.int .i64 i,.int .i64 k] t)) w.heap.size y m d h i k:=
 ⟨DateAt.new w y m d h i k t,fun j _=>by simp[go_sem]⟩
theorem DtIn.store {W:World} {q:Nat} {y m d h i k:Int} (a:DtIn W q y m d h i k) (G e I O w J:Int):
 DtIn ((((((W.setCell ⟨q,0,none⟩ (.int .i64 G)).setCell ⟨q,1,none⟩ (.int .i64 e)).setCell ⟨q,2,none⟩ (.int .i64 I)).setCell ⟨q,3,none⟩ (.int .i64 O)).setCell ⟨q,4,none⟩ (.int .i64 w)).setCell ⟨q,5,none⟩ (.int .i64 J)) q G e I O w J:=by
 obtain⟨⟨c0,c1,c2,c3,c4,c5⟩,f⟩:=a;have f0:=f 0 (by decide);have f1:=f 1 (by decide);have f2:=f 2 (by decide);have U:=f 3 (by decide);have f4:=f 4 (by decide);have Q:=f 5 (by decide)
 refine⟨⟨?_,?_,?_,?_,?_,?_⟩,fun j V=>?_⟩
 case refine_7=>
  have:j=0∨j=1∨j=2∨j=3∨j=4∨j=5:=by omega
  rcases this with rfl|rfl|rfl|rfl|rfl|rfl<;>simp[go_sem,f0,f1,f2,U,f4,Q]
 all_goals simp[go_sem,c0,c1,c2,c3,c4,c5]
structure DuesAt (s:ByteArray) (a:Int) (w wr:World) (q k:Nat) (v:Value):Prop where
 own:wr.ownsRow (q+1) 3 1 v (Bx.dl (dueT s) a k).length ((Bx.dl (dueT s) a k).map (Value.int .i64))
 bel:Below w.heap.size w wr
 lt:q<wr.heap.size
 dt:∃y m d h i k',DtIn wr q y m d h i k'∧DtIs (a+k) y m d h i k'
set_option maxHeartbeats 2000000 in
theorem pJ (s:ByteArray) (a b:Int) (w:World) (hs:s.size≤300) (hP:LineP s) (a0:0≤a) (bn:a≤b) (b1:b≤4223371679) (hj:b-a≤1600):
 Calls Tryz.prog 203 #[.string s,.int .i64 a,.int .i64 b] w fun e w'=>(∃v,e=.returned v∧w'.ownsRow w.heap.size 3 1 v (Bx.dl (dueT s) a (b+1-a).toNat).length ((Bx.dl (dueT s) a (b+1-a).toNat).map (Value.int .i64)))∧Below w.heap.size w w':=by
 obtain⟨i0,hi,a2,a8,aT⟩:=info_parts rG;have HP:=Hq hP;clear hP;obtain⟨n,hn⟩:∃n:Nat,n=(b+1-a).toNat:=⟨_,rfl⟩;rw[←hn];have a3:(n:Int)=b+1-a:=by omega
 clear hn
 go_enter Tryz.func203,Tryz.ntmps203
 go_wp2_with fail;refine (oX a _ a0 (by omega)).mono ?_
 rintro e w1 ⟨⟨y,m,d,HD,rfl⟩,ar⟩;have aQ:=ar.size
 have aI:Hid (DtIs (a+(0:Nat)) y m d (a % 1440 / 60) (a % 60) ((a / 1440+4) % 7)):=by
  intro _;rw[show a+((0:Nat):Int)=a by simp];exact⟨HD,rfl,rfl,rfl⟩
 clear HD;generalize a % 1440 / 60=h at *;generalize a % 60=i at *;generalize (a / 1440+4) % 7=k0 at *;go_wp2_with fail;have hI:=DtIn.new w1 y m d h i k0 194;have aJ:Below w.heap.size w (w1.alloc (.cells #[.int .i64 y,.int .i64 m,.int .i64 d,.int .i64 h,.int .i64 i,.int .i64 k0] 194)):=ar.alloc aQ _;have hq:w1.heap.size<(w1.alloc (.cells #[.int .i64 y,.int .i64 m,.int .i64 d,.int .i64 h,.int .i64 i,.int .i64 k0] 194)).heap.size:=by simp
 generalize w1.alloc (.cells #[.int .i64 y,.int .i64 m,.int .i64 d,.int .i64 h,.int .i64 i,.int .i64 k0] 194)=W at *;have HS:Hid (DuesAt s a w W w1.heap.size 0 (.slice none 0 0)):=⟨World.ownsRow_nil _ _ _ _,aJ,hq,y,m,d,h,i,k0,hI,aI.out⟩;clear hI aJ hq ar aI;generalize w1.heap.size=q at *
 go_loopw [7,10] (fun v t wr=>∃k:Nat,k≤n∧t=.int .i64 (a+k)∧DuesAt s a w wr q k v) (fun _ t _=>n-(intOf t-a).toNat)
 case atStart=>exact⟨0,Nat.zero_le _,by simp,HS.out⟩
 case round=>
  obtain⟨k,hk,rfl,⟨am,al,aK,y,m,d,h,i,k',aL,aG⟩⟩:=hrel;have az:=Hq aL;have ai:=Hq aG;obtain⟨⟨V,U,p2,Z,p4,Y⟩,_⟩:=aL;clear aG
  by_cases a4:k<n
  ·have t0:0≤a+(k:Int):=by omega
   have t1:a+(k:Int)≤4223371679:=by omega
   have t2:a+(k:Int)≤b:=by omega
   obtain⟨m1,m2,d1,d2,h1,h2,i1,i2,k1,k2⟩:=ai.out.bd t0 t1;have HE:Hid (dueB s m d h i k'=dueT s (a+k)):=sn t1 ai.out;go_wp2_with fail;refine (nt s y m d h i k' _ hs HP.out m1 m2 d1 d2 h1 h2 i1 i2 k1 k2).mono ?_;rintro e w2 ⟨rfl,aj⟩;rw[HE.out];clear V U p2 Z p4 Y;have Q:Hid (DtIn w2 q y m d h i k'):=az.out.later aK aj;have J:=dU am aj;have ac:Below w.heap.size w w2:=al.trans (aj.mono al.size);have aB:q<w2.heap.size:=Nat.lt_of_lt_of_le aK aj.size;have bo:=Bx.dl_len (dueT s) a k;clear az am al aj HE m1 m2 d1 d2 h1 h2 i1 i2 k1 k2
   cases aH:dueT s (a+k)
   ·have HF:Hid (Bx.dl (dueT s) a (k+1)=Bx.dl (dueT s) a k):=tw aH;obtain⟨⟨V,U,p2,Z,p4,Y⟩,f⟩:=Q.out;have f0:=f 0 (by decide);have f1:=f 1 (by decide);have f2:=f 2 (by decide);have f3:=f 3 (by decide);have f4:=f 4 (by decide);have f5:=f 5 (by decide)
    clear f;go_wp2_with fail;refine (jA (a+k) y m d h i k' _ t0 t1 ai.out).mono ?_;rintro e w3 ⟨⟨y',m',d',h',i',G,rfl,HN⟩,I⟩;clear V U p2 Z p4 Y f0 f1 f2 f3 f4 f5;have O:=Q.out.later aB I
    have au:Hid (DtIs (a+((k+1:Nat):Int)) y' m' d' h' i' G):=by
     unfold Hid;rw[show a+((k+1:Nat):Int)=a+k+1 by push_cast;omega];exact HN
    have aw:Hid (DtIn _ q y' m' d' h' i' G):=O.store y' m' d' h' i' G;obtain⟨⟨V,U,p2,Z,p4,Y⟩,f⟩:=O;have f0:=f 0 (by decide);have f1:=f 1 (by decide);have f2:=f 2 (by decide);have f3:=f 3 (by decide);have f4:=f 4 (by decide);have f5:=f 5 (by decide)
    clear f HN;go_wp2_with fail;go_roundw
    case rel=>
     refine⟨k+1,by omega,by go_num,⟨?_,?_,?_,y',m',d',h',i',G,aw.out,au.out⟩⟩
     ·rw[HF.out];have:=dU J I
      repeat (refine ownsRow_setCell_below ?_ (by simp) _)
      exact this
     ·repeat (refine Below.setCell ?_ (by simp;omega) _)
      exact ac.trans (I.mono ac.size)
     ·have:=I.size;simp;omega
    case measure=>simp[intOf];omega
   ·have HF:Hid (Bx.dl (dueT s) a (k+1)=Bx.dl (dueT s) a k++[a+(k:Int)]):=sD aH;obtain⟨⟨V,U,p2,Z,p4,Y⟩,f⟩:=Q.out;generalize Bx.dl (dueT s) a k=L at *;clear f V U p2 Z p4 Y;go_wp2_with (at_builtin;refine wpList_append_lies _ rfl (.tmp 27) (.tmp 29) 58 rfl (q+1) 3 i0 (.int .i64 0) 1 8 Tryz.underlying58 hi a2 a8 aT rfl (by decide) _ _ _ rfl (J.alloc _) ⟨w2.heap.size,0,none⟩ 1 1 [.int .i64 (a+k)] rfl rfl ?c1 ?c2 (by decide) ?c3 ?c4 ?c5 _ rfl ?_)
    case c1=>exact cell_one_new _ _ _
    case c2=>intro u hu;simp at hu;subst hu;rfl
    case c3=>unfold maxLen;omega
    case c4=>omega
    case c5=>simp;omega
    ·intro g aM w4 ao ap _ bc;have B1:Below (q+1) w2 w4:=((Below.refl (q+1) w2).alloc (by omega) _).grown ap (by simp;omega) (fun k' e=>(J.lt k' e).1)
     have B2:Hid (Below w.heap.size w w4):=ac.trans (B1.mono (by omega))
     have aE:Hid (w4.ownsRow (q+1) 3 1 (.slice (some ⟨g,0,none⟩) (L.length+1) aM) (L++[a+(k:Int)]).length ((L++[a+(k:Int)]).map (Value.int .i64))):=by unfold Hid;simpa using ao
     have aO:q<w4.heap.size:=Nat.lt_of_lt_of_le aB B1.size;have av:Hid (DtIn w4 q y m d h i k'):=Q.out.below (by omega) B1
     clear ao ap J ac Q;obtain⟨⟨V,U,p2,Z,p4,Y⟩,f⟩:=av.out;have f0:=f 0 (by decide);have f1:=f 1 (by decide);have f2:=f 2 (by decide);have f3:=f 3 (by decide);have f4:=f 4 (by decide);have f5:=f 5 (by decide)
     clear f;go_wp2_with fail;refine (jA (a+k) y m d h i k' _ t0 t1 ai.out).mono ?_;rintro e w3 ⟨⟨y',m',d',h',i',G,rfl,HN⟩,I⟩;clear V U p2 Z p4 Y f0 f1 f2 f3 f4 f5;have O:=av.out.later aO I
     have au:Hid (DtIs (a+((k+1:Nat):Int)) y' m' d' h' i' G):=by
      unfold Hid;rw[show a+((k+1:Nat):Int)=a+k+1 by push_cast;omega];exact HN
     have aw:Hid (DtIn _ q y' m' d' h' i' G):=O.store y' m' d' h' i' G;obtain⟨⟨V,U,p2,Z,p4,Y⟩,f⟩:=O;have f0:=f 0 (by decide);have f1:=f 1 (by decide);have f2:=f 2 (by decide);have f3:=f 3 (by decide);have f4:=f 4 (by decide);have f5:=f 5 (by decide)
     clear f HN;go_wp2_with fail;go_roundw
     case rel=>
      refine⟨k+1,by omega,by go_num,⟨?_,?_,?_,y',m',d',h',i',G,aw.out,au.out⟩⟩
      ·rw[HF.out];have:=dU aE.out I
       repeat (refine ownsRow_setCell_below ?_ (by simp) _)
       exact this
      ·repeat (refine Below.setCell ?_ (by simp;omega) _)
       exact B2.out.trans (I.mono B2.out.size)
      ·have:=I.size;simp;omega
     case measure=>simp[intOf];omega
  ·obtain rfl:k=n:=by omega
   have t2:¬a+(k:Int)≤b:=by omega
   have bm:=al.size;clear a3 az ai V U p2 Z p4 Y a4 hk;go_wp2_with fail;go_ret;exact⟨⟨_,rfl,fJ am (by omega)⟩,al⟩
def LinesAt (w:World) (b:Nat) (tab:ByteArray):Prop:=∀i,i<tn tab→w.cell? ⟨b,i,none⟩=some (.string (tl tab i))
theorem LinesAt.later {w d:World} {b:Nat} {tab:ByteArray} (h:LinesAt w b tab) (hb:Below w.heap.size w d):LinesAt d b tab:=fun i hi=>cell_later hb (h i hi)
set_option maxHeartbeats 1000000 in
theorem eQ (s:Bx.St) (sl en:Value) (w:World) (O:ChkR s.tab 0 0) (hS:StAt w s sl en):
 Calls Tryz.prog 179 #[stV s sl en] w fun e Q=>(∃b d,e=.returned (.slice (some ⟨b,0,none⟩) (tn s.tab) d)∧LinesAt Q b s.tab)∧Below w.heap.size w Q:=by
 obtain⟨ad,d,rfl,Y⟩:=hS.sl.form;obtain⟨ac,aa,rfl,U⟩:=hS.en.form;clear hS;obtain⟨I,J,V⟩:=O.lines;have Z:Hid (tm s.tab=tn s.tab):=by unfold Hid tm;rw[if_pos J];rfl
 clear V J O
 go_enter Tryz.func179,Tryz.ntmps179
 go_wp2_with fail;refine (jD _ _ I).mono ?_;rintro e w1 ⟨⟨b,G,rfl,hS⟩,hb⟩;rw[Z.out];have HS:=Hq hS;clear hS;go_wp2_with fail;go_ret;refine⟨⟨b,G,rfl,fun i hi=>?_⟩,(cw _ _).trans (hb.mono (by simp))⟩
 have:=eP s.tab;rw[←ga (by omega)];exact HS.out i (by omega)
theorem RowAt.last {w:World} {g d:Nat} {L:List Int} (I:∀j (h:j<(L.map (Value.int .i64)).length),w.cell? ⟨g,0+j,none⟩=some (L.map (Value.int .i64))[j]) (J:0<L.length) (e:L.length≤d):
 RowAt w (.slice (some ⟨g,L.length-1,none⟩) (L.length-(L.length-1)) (d-(L.length-1))) (L.drop (L.length-1)).length ((L.drop (L.length-1)).map (Value.int .i64)):=by
 refine Or.inr ⟨g,L.length-1,d-(L.length-1),?_,?_,fun j G=>?_⟩
 ·rw[List.length_drop]
 ·rw[List.length_drop];omega
 ·simp at G
  have h2:L.length-1+j<(L.map (Value.int .i64)).length:=by simp;omega
  have:=I (L.length-1+j) h2;rw[Nat.zero_add] at this;rw[this];simp
set_option maxHeartbeats 2000000 in
theorem mO (s:Bx.St) (sl en:Value) (l:ByteArray) (m:Int) (w:World) (hl:l.size≤300) (hP:LineP l) (h0:0≤Bx.newA s m) (h1:Bx.newA s m≤m) (h2:m≤4223371679) (h3:m-Bx.newA s m≤1600) (c1: -1≤s.clock) (c2:s.clock≤4223371679) (hS:StAt w s sl en):
 Calls Tryz.prog 180 #[stV s sl en,.string l,.int .i64 m] w fun e w'=>(∃v,e=.returned v∧TRow w' 3 v (Bx.cntL (lnOf l) (Bx.newA s m) m).length ((Bx.cntL (lnOf l) (Bx.newA s m) m).map (Value.int .i64)))∧Below w.heap.size w w':=by
 obtain⟨ad,aw,rfl,aQ⟩:=hS.sl.form;obtain⟨au,am,rfl,aO⟩:=hS.en.form;clear hS;have HP:=Hq hP;clear hP;obtain⟨a,ha⟩:∃a:Int,a=Bx.newA s m:=⟨_,rfl⟩;rw[←ha] at h0 h1 h3 ⊢;obtain⟨f,hf⟩:∃f:Int,f=Bx.frm (lnOf l) a m:=⟨_,rfl⟩;have ag:f=(if ob l 1=110 then m else a):=hf
 obtain⟨D,hD⟩:∃D:List Int,D=Bx.dl (dueT l) f (m+1-f).toNat:=⟨_,rfl⟩
 have O:Hid (Bx.cntL (lnOf l) a m=if ob l 1=108∧1<D.length then D.drop (D.length-1) else D):=by
  rw[hD,hf];rfl
 have aN:a≤f∧f≤m:=by rw[ag];split<;>omega
 have aR:D.length≤1700:=by rw[hD];have:=Bx.dl_len (dueT l) f (m+1-f).toNat;omega
 have HD:Hid (∀W:World,Calls Tryz.prog 203 #[.string l,.int .i64 f,.int .i64 m] W fun e w'=>(∃v,e=.returned v∧w'.ownsRow W.heap.size 3 1 v D.length (D.map (Value.int .i64)))∧Below W.heap.size W w'):=by
  intro W;rw[hD];exact pJ l f m W hl HP.out (by omega) aN.2 h2 (by omega)
 clear hD hf;have hI:=StIn.new w s (.slice ad s.slots.length aw) (.slice au s.ends.length am);have ae:=cw w (stO s (.slice ad s.slots.length aw) (.slice au s.ends.length am));have hq:w.heap.size≤(w.alloc (stO s (.slice ad s.slots.length aw) (.slice au s.ends.length am))).heap.size:=by simp
 go_enter Tryz.func180,Tryz.ntmps180
 have q0:IntKind.i64.wrap (s.clock+1)=s.clock+1:=by rw[IntKind.wrap_i64];omega
 have hA:a=(if s.clock= -1 then m else s.clock+1):=ha
 clear ha
 cases e1:(s.clock== -1)
 ·have n1:¬s.clock= -1:=by simpa using e1
  rw[if_neg n1] at hA
  cases e2:(ob l 1==110)
  ·have n2:¬ob l 1=110:=by simpa using e2
   rw[if_neg n2,hA] at ag;subst ag;clear n1 n2 hA;go_wp2_with fail;refine (ew l _ hl HP.out).mono ?_;rintro e w1 ⟨rfl,Q⟩;go_wp2_with fail;refine (HD.out _).mono ?_;rintro e Y ⟨⟨v,rfl,d⟩,Z⟩;have HB:Hid (Below w.heap.size w Y):=(ae.trans (Q.mono hq)).trans (Z.mono (Nat.le_trans hq Q.size));obtain⟨aa,I,rfl,av⟩:=(RowAt.of_own d).form;clear ae Q Z hI HD
   cases e3:(ob l 1==108)
   ·have J:¬ob l 1=108:=by simpa using e3
    rw[if_neg (fun h=>J h.1)] at O
    have U:Hid (TRow Y 3 (.slice aa D.length I) D.length (D.map (Value.int .i64))):=TRow.of_own d;clear J d;go_wp2_with fail;go_ret;rw[O.out];exact⟨⟨_,rfl,U.out⟩,HB.out⟩
   ·have J:ob l 1=108:=by simpa using e3
    by_cases h4:1<D.length
    ·rw[if_pos ⟨J,h4⟩] at O;obtain⟨g,ax,al,hv,V,G⟩:=(RowAt.of_own d).some' (by omega)
     cases hv
     obtain⟨g',ap,ah,_⟩:=d.form (by omega)
     cases ah
     have U:Hid (TRow Y 3 (.slice (some ⟨g,D.length-1,none⟩) (D.length-(D.length-1)) (I-(D.length-1))) (D.drop (D.length-1)).length ((D.drop (D.length-1)).map (Value.int .i64))):=⟨RowAt.last G (by omega) V,fun b' o' n' c' hv=>by cases hv;exact (TRow.of_own d).2 _ _ _ _ rfl⟩
     have q4:(1:Int)<(D.length:Int):=by omega
     have q5:IntKind.i64.wrap ((D.length:Int)-1)=((D.length-1:Nat):Int):=by rw[IntKind.wrap_i64];omega
     clear J d G;go_wp2_with fail;go_ret;rw[O.out];exact⟨⟨_,rfl,U.out⟩,HB.out⟩
    ·rw[if_neg (fun h=>h4 h.2)] at O
     have U:Hid (TRow Y 3 (.slice aa D.length I) D.length (D.map (Value.int .i64))):=TRow.of_own d;have q4:¬(1:Int)<(D.length:Int):=by omega
     clear J d;go_wp2_with fail;go_ret;rw[O.out];exact⟨⟨_,rfl,U.out⟩,HB.out⟩
  ·have n2:ob l 1=110:=by simpa using e2
   rw[if_pos n2] at ag;subst ag;clear n1 n2 hA;go_wp2_with fail;refine (ew l _ hl HP.out).mono ?_;rintro e w1 ⟨rfl,Q⟩;go_wp2_with fail;refine (HD.out _).mono ?_;rintro e Y ⟨⟨v,rfl,d⟩,Z⟩;have HB:Hid (Below w.heap.size w Y):=(ae.trans (Q.mono hq)).trans (Z.mono (Nat.le_trans hq Q.size));obtain⟨aa,I,rfl,av⟩:=(RowAt.of_own d).form;clear ae Q Z hI HD
   cases e3:(ob l 1==108)
   ·have J:¬ob l 1=108:=by simpa using e3
    rw[if_neg (fun h=>J h.1)] at O
    have U:Hid (TRow Y 3 (.slice aa D.length I) D.length (D.map (Value.int .i64))):=TRow.of_own d;clear J d;go_wp2_with fail;go_ret;rw[O.out];exact⟨⟨_,rfl,U.out⟩,HB.out⟩
   ·have J:ob l 1=108:=by simpa using e3
    by_cases h4:1<D.length
    ·rw[if_pos ⟨J,h4⟩] at O;obtain⟨g,ax,al,hv,V,G⟩:=(RowAt.of_own d).some' (by omega)
     cases hv
     obtain⟨g',ap,ah,_⟩:=d.form (by omega)
     cases ah
     have U:Hid (TRow Y 3 (.slice (some ⟨g,D.length-1,none⟩) (D.length-(D.length-1)) (I-(D.length-1))) (D.drop (D.length-1)).length ((D.drop (D.length-1)).map (Value.int .i64))):=⟨RowAt.last G (by omega) V,fun b' o' n' c' hv=>by cases hv;exact (TRow.of_own d).2 _ _ _ _ rfl⟩
     have q4:(1:Int)<(D.length:Int):=by omega
     have q5:IntKind.i64.wrap ((D.length:Int)-1)=((D.length-1:Nat):Int):=by rw[IntKind.wrap_i64];omega
     clear J d G;go_wp2_with fail;go_ret;rw[O.out];exact⟨⟨_,rfl,U.out⟩,HB.out⟩
    ·rw[if_neg (fun h=>h4 h.2)] at O
     have U:Hid (TRow Y 3 (.slice aa D.length I) D.length (D.map (Value.int .i64))):=TRow.of_own d;have q4:¬(1:Int)<(D.length:Int):=by omega
     clear J d;go_wp2_with fail;go_ret;rw[O.out];exact⟨⟨_,rfl,U.out⟩,HB.out⟩
 ·have n1:s.clock= -1:=by simpa using e1
  rw[if_pos n1] at hA;have aL:f=m:=by rw[ag];split<;>omega
  subst aL;clear n1 hA ag
  cases e2:(ob l 1==110)
  ·skip
   go_wp2_with fail;refine (ew l _ hl HP.out).mono ?_;rintro e w1 ⟨rfl,Q⟩;go_wp2_with fail;refine (HD.out _).mono ?_;rintro e Y ⟨⟨v,rfl,d⟩,Z⟩;have HB:Hid (Below w.heap.size w Y):=(ae.trans (Q.mono hq)).trans (Z.mono (Nat.le_trans hq Q.size));obtain⟨aa,I,rfl,av⟩:=(RowAt.of_own d).form;clear ae Q Z hI HD
   cases e3:(ob l 1==108)
   ·have J:¬ob l 1=108:=by simpa using e3
    rw[if_neg (fun h=>J h.1)] at O
    have U:Hid (TRow Y 3 (.slice aa D.length I) D.length (D.map (Value.int .i64))):=TRow.of_own d;clear J d;go_wp2_with fail;go_ret;rw[O.out];exact⟨⟨_,rfl,U.out⟩,HB.out⟩
   ·have J:ob l 1=108:=by simpa using e3
    by_cases h4:1<D.length
    ·rw[if_pos ⟨J,h4⟩] at O;obtain⟨g,ax,al,hv,V,G⟩:=(RowAt.of_own d).some' (by omega)
     cases hv
     obtain⟨g',ap,ah,_⟩:=d.form (by omega)
     cases ah
     have U:Hid (TRow Y 3 (.slice (some ⟨g,D.length-1,none⟩) (D.length-(D.length-1)) (I-(D.length-1))) (D.drop (D.length-1)).length ((D.drop (D.length-1)).map (Value.int .i64))):=⟨RowAt.last G (by omega) V,fun b' o' n' c' hv=>by cases hv;exact (TRow.of_own d).2 _ _ _ _ rfl⟩
     have q4:(1:Int)<(D.length:Int):=by omega
     have q5:IntKind.i64.wrap ((D.length:Int)-1)=((D.length-1:Nat):Int):=by rw[IntKind.wrap_i64];omega
     clear J d G;go_wp2_with fail;go_ret;rw[O.out];exact⟨⟨_,rfl,U.out⟩,HB.out⟩
    ·rw[if_neg (fun h=>h4 h.2)] at O
     have U:Hid (TRow Y 3 (.slice aa D.length I) D.length (D.map (Value.int .i64))):=TRow.of_own d;have q4:¬(1:Int)<(D.length:Int):=by omega
     clear J d;go_wp2_with fail;go_ret;rw[O.out];exact⟨⟨_,rfl,U.out⟩,HB.out⟩
  ·skip
   go_wp2_with fail;refine (ew l _ hl HP.out).mono ?_;rintro e w1 ⟨rfl,Q⟩;go_wp2_with fail;refine (HD.out _).mono ?_;rintro e Y ⟨⟨v,rfl,d⟩,Z⟩;have HB:Hid (Below w.heap.size w Y):=(ae.trans (Q.mono hq)).trans (Z.mono (Nat.le_trans hq Q.size));obtain⟨aa,I,rfl,av⟩:=(RowAt.of_own d).form;clear ae Q Z hI HD
   cases e3:(ob l 1==108)
   ·have J:¬ob l 1=108:=by simpa using e3
    rw[if_neg (fun h=>J h.1)] at O
    have U:Hid (TRow Y 3 (.slice aa D.length I) D.length (D.map (Value.int .i64))):=TRow.of_own d;clear J d;go_wp2_with fail;go_ret;rw[O.out];exact⟨⟨_,rfl,U.out⟩,HB.out⟩
   ·have J:ob l 1=108:=by simpa using e3
    by_cases h4:1<D.length
    ·rw[if_pos ⟨J,h4⟩] at O;obtain⟨g,ax,al,hv,V,G⟩:=(RowAt.of_own d).some' (by omega)
     cases hv
     obtain⟨g',ap,ah,_⟩:=d.form (by omega)
     cases ah
     have U:Hid (TRow Y 3 (.slice (some ⟨g,D.length-1,none⟩) (D.length-(D.length-1)) (I-(D.length-1))) (D.drop (D.length-1)).length ((D.drop (D.length-1)).map (Value.int .i64))):=⟨RowAt.last G (by omega) V,fun b' o' n' c' hv=>by cases hv;exact (TRow.of_own d).2 _ _ _ _ rfl⟩
     have q4:(1:Int)<(D.length:Int):=by omega
     have q5:IntKind.i64.wrap ((D.length:Int)-1)=((D.length-1:Nat):Int):=by rw[IntKind.wrap_i64];omega
     clear J d G;go_wp2_with fail;go_ret;rw[O.out];exact⟨⟨_,rfl,U.out⟩,HB.out⟩
    ·rw[if_neg (fun h=>h4 h.2)] at O
     have U:Hid (TRow Y 3 (.slice aa D.length I) D.length (D.map (Value.int .i64))):=TRow.of_own d;have q4:¬(1:Int)<(D.length:Int):=by omega
     clear J d;go_wp2_with fail;go_ret;rw[O.out];exact⟨⟨_,rfl,U.out⟩,HB.out⟩
theorem ql:(Tryz.prog.info? 58).map (fun i=>(i.zero,i.size,i.bytes))=some (some (.slice none 0 0),1,24):=by kernel_rfl
abbrev nilV:Value:=.slice none 0 0
theorem rO {w:World} {G g d n i:Nat} {e:TypeId} {I:List Value} (h:w.ownsRow G e 1 (.slice (some ⟨g,0,none⟩) n d) n I) (_hi:i<n) (u:Value):(w.setCell ⟨g,i,none⟩ u).ownsRow G e 1 (.slice (some ⟨g,0,none⟩) n d) n (I.set i u):=by
 have Y:=h.1
 rcases h.2 with ⟨h2,_⟩|⟨g',O,cur,Z,hb,J,U,hm,V,Q⟩
 ·cases h2
 ·cases Z
  refine⟨by simpa using Y,Or.inr ⟨g,d,cur.setIfInBounds i u,rfl,hb,heap_setCell_same _ _ _ _ _ _ J,U,hm,by simpa using V,?_⟩⟩
  rw[←Q,Array.toList_setIfInBounds,List.take_set]
structure EachOwn (w:World) (base:Nat) (ev:Value) (E:List (List Int)):Prop where
 ex:∃cells:List Value,w.ownsRow base 58 1 ev E.length cells∧∀j,j<E.length→TRow w 3 (cells.getD j nilV) (E.getD j []).length ((E.getD j []).map (Value.int .i64))
theorem EachOwn.nil (w:World) (d:Nat):EachOwn w d nilV []:=⟨[],World.ownsRow_nil _ _ _ _,fun j h=>by simp at h⟩
theorem EachOwn.later {w G:World} {d:Nat} {I:Value} {E:List (List Int)} (h:EachOwn w d I E) (hb:Below w.heap.size w G):EachOwn G d I E:=by
 obtain⟨e,O,Q⟩:=h.ex;exact⟨e,dU O hb,fun j J=>(Q j J).later hb⟩
theorem EachOwn.form {w:World} {e:Nat} {G:Value} {E:List (List Int)} (h:EachOwn w e G E):∃J d,G=.slice J E.length d∧E.length≤d:=by
 obtain⟨I,O,_⟩:=h.ex;exact (RowAt.of_own O).form
theorem EachOwn.at {w:World} {G:Nat} {O:Value} {E:List (List Int)} (h:EachOwn w G O E) (i:Nat) (hi:i<E.length):
 ∃g e v,O=.slice (some ⟨g,0,none⟩) E.length e∧G≤g∧g<w.heap.size∧w.cell? ⟨g,i,none⟩=some v∧w.frozen? ⟨g,i,none⟩=false∧RowAt w v (E.getD i []).length ((E.getD i []).map (Value.int .i64)):=by
 obtain⟨d,I,hr⟩:=h.ex;obtain⟨g,e,rfl,hb,Q⟩:=I.form (by omega)
 have V:=I.cellAt i (by omega)
 have hl:=I.1;have J:i<d.length:=by omega
 refine⟨g,e,d.getD i nilV,rfl,hb,Q,?_,?_,(hr i hi).1⟩
 ·rw[V];simp[J]
 ·rcases I.2 with ⟨h2,_⟩|⟨g',U,cur,Z,_,Y,_⟩
  ·cases h2
  ·cases Z;simp[World.frozen?,Y]
theorem kq {w:World} {v:Value} {L:List Int} (h:RowAt w v L.length (L.map (Value.int .i64))) (I:0<L.length):∃b e d,v=.slice (some ⟨b,e,none⟩) L.length d∧L.length≤d∧w.cell? ⟨b,e,none⟩=some (.int .i64 (L.headD 0)):=by
 obtain⟨b,e,d,O,J,G⟩:=h.some' I;refine⟨b,e,d,O,J,?_⟩;have:=G 0 (by simpa using I)
 rw[Nat.add_zero] at this;rw[this]
 cases L with
 | nil=>simp at I
 | cons t r=>rfl
theorem EachOwn.lt {w:World} {d:Nat} {G:Value} {E:List (List Int)} (h:EachOwn w d G E):∀g,G.ownBlock=some g→g<w.heap.size:=by
 intro g e;obtain⟨I,O,_⟩:=h.ex
 rcases O.2 with ⟨rfl,_⟩|⟨Q,U,cur,rfl,_,J,_⟩
 ·cases e
 ·have:Q=g:=by simpa [Value.ownBlock] using e
  subst this;exact eK J
theorem EachOwn.put {w:World} {I g O i:Nat} {E:List (List Int)} {e:Value} {r:List Int} (h:EachOwn w I (.slice (some ⟨g,0,none⟩) E.length O) E) (hi:i<E.length) (Z:TRow w 3 e r.length (r.map (Value.int .i64))):
 EachOwn (w.setCell ⟨g,i,none⟩ e) I (.slice (some ⟨g,0,none⟩) E.length O) (E.set i r):=by
 obtain⟨d,V,hr⟩:=h.ex;have Y:d.length=E.length:=by have:=V.1;omega
 have J:∃cur fr,w.heap[g]? =some (.cells cur 58 fr):=by
  rcases V.2 with ⟨h2,_⟩|⟨g',aa,cur,hv,_,hh,_⟩
  ·cases h2
  ·cases hv;exact⟨_,_,hh⟩
 obtain⟨cur,fr,J⟩:=J;refine⟨d.set i e,?_,fun j hj=>?_⟩
 ·have:=rO V hi e
  simpa using this
 ·have Q:j<E.length:=by simpa using hj
  rw[Bx.getD_set hi]
  by_cases G:j=i
  ·subst G;rw[if_pos rfl];have U:(d.set j e).getD j nilV=e:=by simp[List.getD_eq_getElem?_getD,Y,Q]
   rw[U];exact TRow.setCell (cur:=cur) (fr:=fr) Z J (by decide) _
  ·rw[if_neg G]
   have U:(d.set i e).getD j nilV=d.getD j nilV:=by
    simp only [List.getD_eq_getElem?_getD,List.getElem?_set_ne (Ne.symm G)]
   rw[U];exact TRow.setCell (cur:=cur) (fr:=fr) (hr j Q) J (by decide) _
theorem EachOwn.tr {w:World} {G g I i:Nat} {v:Value} {E:List (List Int)} (h:EachOwn w G (.slice (some ⟨g,0,none⟩) E.length I) E) (hi:i<E.length) (Q:w.cell? ⟨g,i,none⟩=some v):TRow w 3 v (E.getD i []).length ((E.getD i []).map (Value.int .i64)):=by
 obtain⟨d,O,U⟩:=h.ex;have V:d.length=E.length:=by have:=O.1;omega
 have e:=O.cellAt i (by omega)
 have h2:i<d.length:=by omega
 rw[Q,List.getElem?_eq_getElem h2] at e
 have J:d.getD i nilV=v:=by
  rw[List.getD_eq_getElem?_getD,List.getElem?_eq_getElem h2]
  simpa using e.symm
 have:=U i hi;rw[J] at this;exact this
theorem TRow.rest {w:World} {e:TypeId} {b d I:Nat} {t:Int} {r:List Int} (h:TRow w e (.slice (some ⟨b,d,none⟩) (r.length+1) I) (t::r).length ((t::r).map (Value.int .i64))):TRow w e (.slice (some ⟨b,d+1,none⟩) r.length (I-1)) r.length (r.map (Value.int .i64)):=by
 obtain⟨_,_,_,J,O,G⟩:=h.1.some' (by simp)
 cases J
 refine⟨Or.inr ⟨b,d+1,I-1,rfl,by simp at O;omega,fun k Q=>?_⟩,fun V Y U Z J=>by cases J;exact h.2 _ _ _ _ rfl⟩
 have:=G (k+1) (by simpa using Q)
 rw[show d+1+k=d+(k+1) by omega,this];simp
theorem TRow.rest0 {w:World} {e:TypeId} {b d:Nat} {t:Int} {r:List Int} (h:TRow w e (.slice (some ⟨b,d,none⟩) (r.length+1) 1) (t::r).length ((t::r).map (Value.int .i64))):TRow w e (.slice (some ⟨b,d,none⟩) r.length 0) r.length (r.map (Value.int .i64)):=by
 obtain⟨_,_,_,G,J,I⟩:=h.1.some' (by simp)
 cases G
 have Q:r=[]:=List.eq_nil_of_length_eq_zero (by rw[List.length_cons] at J;omega)
 subst Q;exact⟨Or.inr ⟨b,d,0,rfl,by simp,fun k O=>by simp at O⟩,fun V Y U Z G=>by cases G;exact h.2 _ _ _ _ rfl⟩
theorem ph {w w':World} {e Z:TypeId} {v Y:Value} {n n' I J size O:Nat} {d G:List Value} (h:w.ownsRow I e size v n d) (ho:w.ownsRow J Z O Y n' G) (hg:w.grownBy w' Y.ownBlock) (aa:e≠Z):w'.ownsRow I e size v n d:=by
 refine⟨h.1,?_⟩
 rcases h.2 with h2|⟨g,ab,cur,hv,hb,V,h3⟩
 ·exact Or.inl h2
 ·refine Or.inr ⟨g,ab,cur,hv,hb,?_,h3⟩;rw[hg.block g (eK V)];exact V;intro U
  rcases ho.2 with ⟨rfl,_⟩|⟨g',ae,af,rfl,_,Q,_⟩
  ·cases U
  ·have:g=g':=by simpa [Value.ownBlock] using U
   subst this;rw[V] at Q;cases Q;exact aa rfl
theorem EachOwn.grown {w V:World} {d G size Z:Nat} {J:TypeId} {Y O:Value} {E:List (List Int)} {e:List Value} (h:EachOwn w d Y E) (Q:w.ownsRow G J size O Z e) (U:w.grownBy V O.ownBlock) (h1:58≠J) (h2:3≠J):EachOwn V d Y E:=by
 obtain⟨I,hc,hr⟩:=h.ex;exact⟨I,ph hc Q U h1,fun j hj=>(hr j hj).grown Q U h2⟩
def sliceLen:Value→Nat
 | .slice _ n _=>n
 | _=>0
noncomputable def eachL (tab:ByteArray) (a m:Int):List (List Int):=(Bx.lns tab).map fun l=>Bx.cntL l a m
theorem gc (tab:ByteArray) (a m:Int):(eachL tab a m).length=tn tab:=by simp[eachL,Bx.lns,Bx.linesOf_len]
theorem ks (tab:ByteArray) (a m:Int) (k:Nat) (h:k<(eachL tab a m).length):(eachL tab a m)[k]=Bx.cntL (lnOf (tl tab k)) a m:=by
 have h2:k<(Bx.linesOf tab).length:=by rw[gc] at h;rw[Bx.linesOf_len];exact h
 simp[eachL,Bx.lns,Bx.linesOf_at tab k h2]
theorem qZ (l:Bx.Ln) (a m:Int) (d:a≤m):(Bx.cntL l a m).length≤(m+1-a).toNat:=by
 have e:a≤Bx.frm l a m∧Bx.frm l a m≤m:=by unfold Bx.frm;split<;>omega
 have:=Bx.dl_len l.due (Bx.frm l a m) (m+1-Bx.frm l a m).toNat;unfold Bx.cntL Bx.dsL
 split
 ·simp;omega
 ·omega
theorem mt (L:List (List Int)) (k:Nat) (h:k<L.length):Bx.total (L.take (k+1))=Bx.total (L.take k)+L[k].length:=by
 rw[List.take_succ_eq_append_getElem h,Bx.total,Bx.total,List.map_append,List.sum_append];simp
theorem EachOwn.snoc {w U:World} {e g G:Nat} {Z c:Value} {E:List (List Int)} {x:List Int} {d:List Value} (Q:w.ownsRow e 58 1 Z E.length d) (hr:∀j,j<E.length→TRow w 3 (d.getD j nilV) (E.getD j []).length ((E.getD j []).map (Value.int .i64)))
 (hc:TRow w 3 c x.length (x.map (Value.int .i64))) (Y:w.grownBy U Z.ownBlock) (V:U.ownsRow e 58 1 (.slice (some ⟨g,0,none⟩) (E.length+1) G) (E.length+1) (d++[c])):EachOwn U e (.slice (some ⟨g,0,none⟩) (E.length+1) G) (E++[x]):=by
 have hl:d.length=E.length:=by have:=Q.1;omega
 refine⟨d++[c],by simpa using V,fun j hj=>?_⟩
 by_cases I:j<E.length
 ·have J:(d++[c]).getD j nilV=d.getD j nilV:=by simp only [List.getD_eq_getElem?_getD];rw[List.getElem?_append_left (by omega)]
  have O:(E++[x]).getD j []=E.getD j []:=by simp only [List.getD_eq_getElem?_getD];rw[List.getElem?_append_left I]
  rw[J,O];exact (hr j I).grown Q Y (by decide)
 ·obtain rfl:j=E.length:=by simp at hj;omega
  have J:(d++[c]).getD E.length nilV=c:=by rw[←hl];simp
  have O:(E++[x]).getD E.length []=x:=by simp
  rw[J,O];exact hc.grown Q Y (by decide)
set_option maxRecDepth 10000 in
set_option maxHeartbeats 4000000 in
theorem jF (s:Bx.St) (sl en:Value) (m:Int) (w:World) (hT:ChkR s.tab 0 0) (c1: -1≤s.clock) (c2:s.clock≤4223371679) (hA:Bx.ahead s m=true) (hS:StAt w s sl en):
 Calls Tryz.prog 146 #[stV s sl en,.int .i64 m] w fun e w'=>(∃v,e=.returned v∧w'.ownsRow w.heap.size 218 6 v (Bx.comesS s m).length ((Bx.comesS s m).flatMap fun p=>slC (Bx.slotOf p 0)))∧Below w.heap.size w w':=by
 obtain⟨i0,hi,bC,bJ,bs⟩:=info_parts fN;obtain⟨j0,hj,co,ca,cE⟩:=info_parts ql;obtain⟨ad,am,rfl,cQ⟩:=hS.sl.form;obtain⟨ak,Z,rfl,cG⟩:=hS.en.form;have cv:0≤m∧m≤4223371679∧s.clock<m∧(s.clock= -1∨m-s.clock≤1500):=of_decide_eq_true hA;obtain⟨m0,m1,cm,cj⟩:=cv;have ha:0≤Bx.newA s m∧Bx.newA s m≤m∧m-Bx.newA s m≤1500:=by unfold Bx.newA;split<;>omega
 obtain⟨a,aU⟩:∃a:Int,a=Bx.newA s m:=⟨_,rfl⟩;have bD:=Hq aU;rw[←aU] at ha;clear aU cm cj hA;obtain⟨bO,_,ay⟩:=hT.lines;have aW:Hid (∀j:Nat,j<tn s.tab→LineP (tl s.tab j)∧(tl s.tab j).size≤300):=fun j hj=>⟨ay j hj,fD bO j (by have:=eP s.tab;omega)⟩
 clear ay;have hI:=StIn.new w s (.slice ad s.slots.length am) (.slice ak s.ends.length Z);have aS:=cw w (stO s (.slice ad s.slots.length am) (.slice ak s.ends.length Z));have ci:w.heap.size<(w.alloc (stO s (.slice ad s.slots.length am) (.slice ak s.ends.length Z))).heap.size:=by simp
 have a5:=Hq (hS.later aS);clear hS
 go_enter Tryz.func146,Tryz.ntmps146
 go_wp2_with fail;refine (eQ s _ _ _ hT a5.out).mono ?_;rintro e W ⟨⟨b,cM,rfl,hL⟩,ax⟩;have HL:=Hq hL;have HI:=Hq (hI.later ax);have HS:=Hq (a5.out.later ax);have HB:Hid (Below w.heap.size w W):=aS.trans (ax.mono (by omega))
 have di:w.heap.size<W.heap.size:=by have:=ax.size;omega
 have a3:Hid ((eachL s.tab a m).length=tn s.tab):=gc s.tab a m
 have bI:Hid (∀k (h:k<tn s.tab),(eachL s.tab a m).take (k+1)=(eachL s.tab a m).take k++[Bx.cntL (lnOf (tl s.tab k)) a m]):=by
  intro k h;have h2:k<(eachL s.tab a m).length:=by rw[gc];exact h
  rw[List.take_succ_eq_append_getElem h2,ks s.tab a m k h2]
 have h4:tn s.tab≤4:=by
  rcases hT with ⟨_,_,h2⟩|⟨_,_,_,h2⟩|⟨_,_,_,_,_,_,_,h2⟩|⟨_,_,_,_,_,h2⟩|⟨_,x,_,_,_,_⟩
  ·omega
  ·omega
  ·omega
  ·omega
  ·omega
 clear hL hI aS ax a5 ci;go_wp2_with fail
 go_loopw [5,7,8] (fun ev nv iv wr=>∃k:Nat,k≤tn s.tab∧iv=.int .i64 k∧nv=.int .i64 (Bx.total ((eachL s.tab a m).take k):Nat)∧Bx.total ((eachL s.tab a m).take k)≤k*1600∧EachOwn wr W.heap.size ev ((eachL s.tab a m).take k)∧Below W.heap.size W wr) (fun _ _ iv _=>tn s.tab-(intOf iv).toNat)
 case atStart=>exact⟨0,Nat.zero_le _,rfl,by simp[Bx.total],by simp[Bx.total],by simpa using EachOwn.nil _ _,Below.refl _ _⟩
 case round=>
  obtain⟨k,hk,rfl,rfl,bg,hE,Y⟩:=hrel;have cd:=Y.size
  by_cases ab:k<tn s.tab
  ·obtain⟨bq,ho,hr⟩:=hE.ex;have bA:=bI.out k ab;have ar:((eachL s.tab a m).take k).length=k:=by rw[List.length_take,a3.out];omega
   obtain⟨c0,b9,b3,c3,c4⟩:=HI.out.later Y;have cl:wr.cell? ⟨b,k,none⟩=some (.string (tl s.tab k)):=cell_later Y (HL.out k ab);have a9:Hid (StAt wr.drew s (.slice ad s.slots.length am) (.slice ak s.ends.length Z)):=(HS.out.later Y).later (Below.refl _ _).drew;have b1:(0:Int)≤(k:Int):=by omega
   have b2:(k:Int)<(tn s.tab:Int):=by omega
   have bw:Hid (∀W':World,StAt W' s (.slice ad s.slots.length am) (.slice ak s.ends.length Z)→Calls Tryz.prog 180 #[stV s (.slice ad s.slots.length am) (.slice ak s.ends.length Z),.string (tl s.tab k),.int .i64 m] W' fun e w'=>(∃v,e=.returned v∧TRow w' 3 v (Bx.cntL (lnOf (tl s.tab k)) a m).length ((Bx.cntL (lnOf (tl s.tab k)) a m).map (Value.int .i64)))∧Below W'.heap.size W' w'):=by
    intro W' h;rw[bD.out] at ha ⊢;exact mO s _ _ (tl s.tab k) m W' (aW.out k ab).2 (aW.out k ab).1 ha.1 ha.2.1 m1 (by omega) c1 c2 h
   have dp:(Bx.cntL (lnOf (tl s.tab k)) a m).length≤1600:=by have:=qZ (lnOf (tl s.tab k)) a m ha.2.1;omega
   go_wp2_with fail
   go_region_with ((go_at_call 180;refine (bw.out wr.drew a9.out).mono ?_;rintro e w2 ⟨⟨v,rfl,aF⟩,aq⟩))
   all_goals
    have au:Below wr.heap.size wr w2:=(Below.refl _ _).drew.trans aq;have al:=dU ho au;have cz:Hid (∀j,j<((eachL s.tab a m).take k).length→TRow w2 3 (bq.getD j nilV) (((eachL s.tab a m).take k).getD j []).length ((((eachL s.tab a m).take k).getD j []).map (Value.int .i64))):=fun j hj=>(hr j hj).later au
    have bc:Below W.heap.size W w2:=Y.trans (au.mono Y.size);have ba:=bc.size;obtain⟨cg,bU,rfl,dr⟩:=aF.1.form;have bj:=Hq aF;clear ho hr aF aq au Y cd c0 b9 b3 c3 c4 cl a9 bw hE
    have br:Hid (Bx.total ((eachL s.tab a m).take (k+1))=Bx.total ((eachL s.tab a m).take k)+(Bx.cntL (lnOf (tl s.tab k)) a m).length):=by
     have h2:k<(eachL s.tab a m).length:=by rw[gc];exact ab
     have h3:=mt (eachL s.tab a m) k h2;rw[ks s.tab a m k h2] at h3;exact h3
    have b5:=Hq bA;have cn:=Hq ar;rw[ar] at al;clear bA ar;generalize Bx.cntL (lnOf (tl s.tab k)) a m=x at *;generalize cy:(eachL s.tab a m).take k=E at *;clear cy;go_wp2_with (at_builtin;refine wpList_append_lies _ rfl (.tmp 29) (.tmp 31) 246 rfl W.heap.size 58 j0 (.slice none 0 0) 1 24 Tryz.underlying246 hj co ca cE rfl (by decide) _ _ _ rfl (al.alloc _) ⟨w2.heap.size,0,none⟩ 1 1 [.slice cg x.length bU] rfl rfl ?c1 ?c2 (by decide) ?c3 ?c4 ?c5 _ rfl ?_)
    case c1=>exact cell_one_new _ _ _
    case c2=>intro u hu;simp at hu;subst hu;rfl
    case c3=>unfold maxLen;omega
    case c4=>omega
    case c5=>simp;omega
    ·intro g bM w4 J d _ a2;have B4:Hid (Below W.heap.size W w4):=(bc.alloc ba _).grown d (by simp;omega) (fun k' e=>(al.lt k' e).1)
     have E4:Hid (EachOwn w4 W.heap.size (.slice (some ⟨g,0,none⟩) (k+1) bM) (E++[x])):=by
      unfold Hid;rw[←cn.out] at J al ⊢;exact EachOwn.snoc (al.alloc _) (fun j hj=>(cz.out j hj).later (cw _ _)) (bj.out.later (cw _ _)) d J
     clear J d al bc;go_wp2_with fail;go_roundw
     case rel=>exact⟨k+1,by omega,by go_num,by rw[br.out];push_cast;rfl,by rw[br.out];omega,by rw[b5.out];exact E4.out,B4.out⟩
     case measure=>simp[intOf];omega
  ·have cc:k=tn s.tab:=by omega
   have bK:(eachL s.tab a m).take k=eachL s.tab a m:=List.take_of_length_le (by rw[a3.out];omega)
   rw[bK] at bg hE ⊢
   have HG:Hid (∀E out,Bx.Mg (eachL s.tab a m) E out→out.length=Bx.total (eachL s.tab a m)→out=Bx.comesS s m):=by
    intro E out M h;have:=Bx.Mg.comes (ls:=Bx.lns s.tab) ha.2.1 M h;rw[this,bD.out];rfl
   have b4:Hid (Bx.Mg (eachL s.tab a m) (eachL s.tab a m) []):=Bx.Mg.start (Bx.each_asc ha.2.1);have aN:=a3.out;clear bK bI;obtain⟨T,aT⟩:∃T:Nat,T=Bx.total (eachL s.tab a m):=⟨_,rfl⟩;rw[←aT] at bg HG ⊢;have bz:=Hq aT;clear aT;generalize eachL s.tab a m=E0 at *;rename World=>W2
   have b6:=Hq hE;obtain⟨cA,ai,rfl,cH⟩:=hE.form;have bx:=hE.lt;have aJ:Hid (Below w.heap.size w W2):=HB.out.trans (Y.mono (by omega))
   have dm:T≤8000:=by omega
   clear hE ab Y HS HI HL aW HB hk;go_wp2_with fail
   go_loopw [10] (fun ov wr=>∃E out,Bx.Mg E0 E out∧EachOwn wr W.heap.size (.slice cA E0.length ai) E∧wr.ownsRow W2.heap.size 218 6 ov out.length (out.flatMap fun p=>slC (Bx.slotOf p 0))∧Below w.heap.size w wr∧W2.heap.size≤wr.heap.size) (fun ov _=>T-sliceLen ov)
   case atStart=>exact⟨E0,[],b4.out,b6.out,World.ownsRow_nil _ _ _ _,aJ.out,Nat.le_refl _⟩
   case round=>
    obtain⟨E,out,M,hE,aj,aq,ba⟩:=hrel;obtain⟨bF,aY,rfl,dv⟩:=(RowAt.of_own aj).form;have dn:out.length≤T:=by have:=M.tot;rw[bz.out];omega
    by_cases ab:out.length<T
    ·obtain⟨G,t,r,ag,aK,a4,bG⟩:=M.more (by rw[←bz.out];exact ab)
     have aR:=M.len;have q1:(out.length:Int)<(T:Int):=by omega
     obtain⟨g,da,v0,ah,dk,c9,-⟩:=hE.at G ag
     injection ah with h1 h2 h3
     subst h1;subst h3;rw[←aR] at hE aN;have HE:=Hq hE;have HO:=Hq aj;have HM:=Hq M;have aM:=Hq aK;have bu:=Hq a4;have dq:E.length≤4:=by omega
     rw[←aR];have dh:=Hq bG;rename World=>W3
     have bt:g<W2.heap.size:=bx g rfl;clear hE aj M aK a4 h2 aR bG aN cc bx;go_wp2_with fail
     go_loopw [11,12] (fun bv iv wr=>∃k j:Nat,k≤E.length∧iv=.int .i64 k∧bv=.int .i64 (Bx.bestK E k)∧wr=W3.drewN j) (fun _ iv _=>E.length-(intOf iv).toNat)
     case atStart=>exact⟨0,0,Nat.zero_le _,rfl,rfl,rfl⟩
     case round=>
      obtain⟨k,j,hk,rfl,rfl,rfl⟩:=hrel
      by_cases cp:k<E.length
      ·obtain⟨g',cI,vk,ah,_,_,ds,_,az⟩:=HE.out.at k cp
       cases ah
       have b1:(0:Int)≤(k:Int):=by omega
       have b2:(k:Int)<(E.length:Int):=by omega
       have hB:=Bx.best_ok E k;obtain⟨cL,cX⟩: -1≤Bx.bestK E k∧Bx.bestK E k<k:=⟨hB.lo,hB.hi⟩;have V:Hid (Bx.bestK E (k+1)=if 0<Bx.many E k∧(Bx.bestK E k<0∨Bx.hd E k<Bx.hd E (Bx.bestK E k).toNat) then (k:Int) else Bx.bestK E k):=rfl
       have af:0≤Bx.bestK E k→0<Bx.many E (Bx.bestK E k).toNat:=fun h=>(hB.has h).1
       clear hB;generalize Bx.bestK E k=B at *
       rcases Nat.eq_zero_or_pos (Bx.many E k) with hz|hp
       ·have HN:Hid (Bx.bestK E (k+1)=B):=by unfold Hid;rw[V.out,if_neg (by omega)]
        have bH:(E.getD k []).length=0:=hz;rw[bH] at az;obtain⟨du,bY,rfl,_⟩:=az.form;clear az af hz bH V;go_wp2_with fail
        go_quiet (fail)
        go_wp2_with fail;go_roundw
        case rel=>exact⟨k+1,_,by omega,by go_num,by rw[HN.out],rfl⟩
        case measure=>simp[intOf];omega
       ·obtain⟨bk,bQ,bY,rfl,dc,bE⟩:=kq az hp;have bP:W3.cell? ⟨bk,bQ,none⟩=some (.int .i64 (Bx.hd E k)):=bE;have dw:0<(E.getD k []).length:=hp;clear bE az
        by_cases ck:B<0
        ·have HN:Hid (Bx.bestK E (k+1)=(k:Int)):=by unfold Hid;rw[V.out,if_pos ⟨hp,Or.inl ck⟩]
         have z1:(0:Int)<((E.getD k []).length:Int):=by omega
         generalize (E.getD k []).length=nk at *;clear af V bP hp;go_wp2_with fail
         go_quiet (fail)
         go_wp2_with fail;go_roundw
         case rel=>exact⟨k+1,_,by omega,by go_num,by rw[HN.out],rfl⟩
         case measure=>simp[intOf];omega
        ·obtain⟨Bn,rfl⟩:=Int.eq_ofNat_of_zero_le (show 0≤B by omega)
         have aO:=af (by omega)
         simp only [Int.toNat_natCast] at aO V
         obtain⟨g3,bR,vB,ah,_,_,aL,_,ap⟩:=HE.out.at Bn (by omega)
         cases ah
         obtain⟨bB,I,Q,rfl,aD,aA⟩:=kq ap aO;have bX:W3.cell? ⟨bB,I,none⟩=some (.int .i64 (Bx.hd E Bn)):=aA;have z1:(0:Int)<((E.getD k []).length:Int):=by omega
         have cU:0<(E.getD Bn []).length:=aO;have z2:(0:Int)<((E.getD Bn []).length:Int):=by omega
         have z3:(Bn:Int)<(E.length:Int):=by omega
         have z4:¬(Bn:Int)<0:=by omega
         clear aA ap af aO
         by_cases av:Bx.hd E k<Bx.hd E Bn
         ·have HN:Hid (Bx.bestK E (k+1)=(k:Int)):=by unfold Hid;rw[V.out,if_pos ⟨hp,Or.inr av⟩]
          have z5:decide (Bx.hd E k<Bx.hd E Bn)=true:=decide_eq_true av;clear V hp;generalize (E.getD k []).length=nk at *;generalize (E.getD Bn []).length=nB at *;generalize Bx.hd E k=x at *;generalize Bx.hd E Bn=y at *;go_wp2_with fail
          go_quiet (fail)
          go_wp2_with fail;go_roundw
          case rel=>exact⟨k+1,_,by omega,by go_num,by rw[HN.out],rfl⟩
          case measure=>simp[intOf];omega
         ·have HN:Hid (Bx.bestK E (k+1)=(Bn:Int)):=by
           unfold Hid;rw[V.out,if_neg (fun h=>by rcases h.2 with h|h<;>omega)]
          have z5:decide (Bx.hd E k<Bx.hd E Bn)=false:=decide_eq_false av;clear V hp av;generalize (E.getD k []).length=nk at *;generalize (E.getD Bn []).length=nB at *;generalize Bx.hd E k=x at *;generalize Bx.hd E Bn=y at *;go_wp2_with fail
          go_quiet (fail)
          go_wp2_with fail;go_roundw
          case rel=>exact⟨k+1,_,by omega,by go_num,by rw[HN.out],rfl⟩
          case measure=>simp[intOf];omega
      ·obtain rfl:k=E.length:=by omega
       rw[aM.out];obtain⟨g3,bR,vB,ah,_,_,aL,dj,ap⟩:=HE.out.at G ag
       cases ah
       have a6:E.getD G []=t::r:=by rw[List.getD_eq_getElem?_getD,List.getElem?_eq_getElem ag,bu.out];rfl
       rw[a6] at ap;obtain⟨bB,I,Q,rfl,aD,aA⟩:=kq ap (by simp)
       have bX:W3.cell? ⟨bB,I,none⟩=some (.int .i64 t):=aA;have MN:Hid (Bx.Mg E0 (E.set G r) (out++[(G,t)])):=HM.out.next ag bu.out (by have:=Bx.best_ok E E.length;rw[aM.out] at this;exact this)
       have z1:(0:Int)<((r.length+1:Nat):Int):=by omega
       have z3:(G:Int)<(E.length:Int):=by omega
       have z4:(0:Int)≤(G:Int):=by omega
       have ao:=HE.out.tr ag aL;rw[a6] at ao;simp only [List.length_cons] at aL aD ao;clear ap aA a6
       by_cases bn:Q=1
       ·subst bn;have cr:r=[]:=List.eq_nil_of_length_eq_zero (by omega)
        subst cr;have EN:Hid (EachOwn ((W3.drewN j).setCell ⟨g,G,none⟩ (.slice (some ⟨bB,I,none⟩) 0 0)) W.heap.size (.slice (some ⟨g,0,none⟩) E.length ai) (E.set G [])):=(HE.out.later (below_drewN (Below.refl _ _) j)).put (r:=[]) ag ((TRow.rest0 ao).later (below_drewN (Below.refl _ _) j));simp only [List.length_nil,Nat.zero_add] at aL aD z1;clear ao;have a8:Hid (((W3.drewN j).setCell ⟨g,G,none⟩ (.slice (some ⟨bB,I,none⟩) 0 0)).ownsRow W2.heap.size 218 6 (.slice bF out.length aY) out.length (out.flatMap fun p=>slC (Bx.slotOf p 0))):=ownsRow_setCell_below (fC HO.out j) bt _
        have O:=a8.out;have aw:Below w.heap.size w ((W3.drewN j).setCell ⟨g,G,none⟩ (.slice (some ⟨bB,I,none⟩) 0 0)):=(below_drewN aq j).setCell (by show w.heap.size≤g;omega) _
        have U:((W3.drewN j).setCell ⟨g,G,none⟩ (.slice (some ⟨bB,I,none⟩) 0 0)).heap.size=W3.heap.size:=by simp
        go_wp2_with (at_builtin;refine wpList_append_lies _ rfl (.tmp 87) (.tmp 93) 128 rfl W2.heap.size 218 i0 (.agg #[.int .i64 0,.int .i64 0,.int .i64 0,.int .i64 0,.int .i64 0,.bool false]) 6 48 Tryz.underlying128 hi bC bJ bs rfl (by decide) _ _ _ rfl (O.alloc _) ⟨W3.heap.size,0,none⟩ 1 1 (slC (Bx.slotOf (G,t) 0)) rfl rfl ?c1 (fe _) (by decide) ?c3 ?c4 ?c5 _ rfl ?_)
        case c1=>have hn:=e9 ((W3.drewN j).setCell ⟨g,G,none⟩ (.slice (some ⟨bB,I,none⟩) 0 0)) (Bx.slotOf (G,t) 0) 218;rw[U] at hn;exact hn
        case c3=>unfold maxLen;omega
        case c4=>omega
        case c5=>simp;omega
        ·intro g4 aB w4 J d _ a2;have B4:Hid (Below w.heap.size w w4):=(aw.alloc (by rw[U];omega) _).grown d (by simp;omega) (fun k' e=>Nat.le_trans aJ.out.size (O.lt k' e).1)
         have E4:Hid (EachOwn w4 W.heap.size (.slice (some ⟨g,0,none⟩) E.length ai) (E.set G [])):=(EN.out.later (cw _ _)).grown (O.alloc _) d (by decide) (by decide)
         have O4:Hid (w4.ownsRow W2.heap.size 218 6 (.slice (some ⟨g4,0,none⟩) (out.length+1) aB) (out++[(G,t)]).length ((out++[(G,t)]).flatMap fun p=>slC (Bx.slotOf p 0))):=by unfold Hid;simpa using J
         have S4:Hid (W2.heap.size≤w4.heap.size):=by have:=d.size;simp at this;unfold Hid;omega
         clear J d O aw U;go_wp2_with fail;go_roundw
         case rel=>exact⟨_,_,MN.out,E4.out,O4.out,B4.out,S4.out⟩
         case measure=>simp[sliceLen];omega
       ·have z5:1<Q:=by omega
        have EN:Hid (EachOwn ((W3.drewN j).setCell ⟨g,G,none⟩ (.slice (some ⟨bB,I+1,none⟩) r.length (Q-1))) W.heap.size (.slice (some ⟨g,0,none⟩) E.length ai) (E.set G r)):=(HE.out.later (below_drewN (Below.refl _ _) j)).put ag ((TRow.rest ao).later (below_drewN (Below.refl _ _) j));clear ao;have a8:Hid (((W3.drewN j).setCell ⟨g,G,none⟩ (.slice (some ⟨bB,I+1,none⟩) r.length (Q-1))).ownsRow W2.heap.size 218 6 (.slice bF out.length aY) out.length (out.flatMap fun p=>slC (Bx.slotOf p 0))):=ownsRow_setCell_below (fC HO.out j) bt _
        have O:=a8.out;have aw:Below w.heap.size w ((W3.drewN j).setCell ⟨g,G,none⟩ (.slice (some ⟨bB,I+1,none⟩) r.length (Q-1))):=(below_drewN aq j).setCell (by show w.heap.size≤g;omega) _
        have U:((W3.drewN j).setCell ⟨g,G,none⟩ (.slice (some ⟨bB,I+1,none⟩) r.length (Q-1))).heap.size=W3.heap.size:=by simp
        go_wp2_with (at_builtin;refine wpList_append_lies _ rfl (.tmp 87) (.tmp 93) 128 rfl W2.heap.size 218 i0 (.agg #[.int .i64 0,.int .i64 0,.int .i64 0,.int .i64 0,.int .i64 0,.bool false]) 6 48 Tryz.underlying128 hi bC bJ bs rfl (by decide) _ _ _ rfl (O.alloc _) ⟨W3.heap.size,0,none⟩ 1 1 (slC (Bx.slotOf (G,t) 0)) rfl rfl ?c1 (fe _) (by decide) ?c3 ?c4 ?c5 _ rfl ?_)
        case c1=>have hn:=e9 ((W3.drewN j).setCell ⟨g,G,none⟩ (.slice (some ⟨bB,I+1,none⟩) r.length (Q-1))) (Bx.slotOf (G,t) 0) 218;rw[U] at hn;exact hn
        case c3=>unfold maxLen;omega
        case c4=>omega
        case c5=>simp;omega
        ·intro g4 aB w4 J d _ a2;have B4:Hid (Below w.heap.size w w4):=(aw.alloc (by rw[U];omega) _).grown d (by simp;omega) (fun k' e=>Nat.le_trans aJ.out.size (O.lt k' e).1)
         have E4:Hid (EachOwn w4 W.heap.size (.slice (some ⟨g,0,none⟩) E.length ai) (E.set G r)):=(EN.out.later (cw _ _)).grown (O.alloc _) d (by decide) (by decide)
         have O4:Hid (w4.ownsRow W2.heap.size 218 6 (.slice (some ⟨g4,0,none⟩) (out.length+1) aB) (out++[(G,t)]).length ((out++[(G,t)]).flatMap fun p=>slC (Bx.slotOf p 0))):=by unfold Hid;simpa using J
         have S4:Hid (W2.heap.size≤w4.heap.size):=by have:=d.size;simp at this;unfold Hid;omega
         clear J d O aw U;go_wp2_with fail;go_roundw
         case rel=>exact⟨_,_,MN.out,E4.out,O4.out,B4.out,S4.out⟩
         case measure=>simp[sliceLen];omega
    ·have e1:out.length=T:=by omega
     have e2:Hid (out=Bx.comesS s m):=HG.out E out M e1;have q1:¬(out.length:Int)<(T:Int):=by omega
     have HO:=Hq aj;clear aj e1;go_wp2_with fail;go_ret;exact⟨⟨_,rfl,by rw[←e2.out];exact fJ HO.out (by have:=aJ.out.size;exact this)⟩,aq⟩
theorem eV (s:Bx.St) (L:List Bx.Sl) (G:Value) (n:Int) (how:ByteArray) (sl en:Value) (w:World) (V:s.ends.length≤10000) (hL:TRow w 218 G L.length (L.flatMap slC)) (hS:StAt w s sl en):
 Calls Tryz.prog 215 #[stV s sl en,G,.int .i64 n,.string how] w fun e U=>(∃d,e=.returned (stV (Bx.with' s L n how) G d)∧StAt U (Bx.with' s L n how) G d)∧Below w.heap.size w U:=by
 obtain⟨Q,I,J,_⟩:=hL.form
 by_cases O:0<n
 ·refine (pT s G L.length n how sl en w O Q I J V hS).mono ?_;rintro e w1 ⟨⟨d,rfl,hR⟩,hb⟩;refine⟨⟨d,rfl,⟨hL.later hb,?_⟩⟩,hb⟩
  show TRow w1 85 d (if 0<n then Bx.push s.ends ⟨n,how⟩ else s.ends).length ((if 0<n then Bx.push s.ends ⟨n,how⟩ else s.ends).flatMap enC)
  rw[if_pos O];exact hR
 ·refine (rD s G L.length n how sl en w (by omega) Q I J hS).mono ?_
  rintro e w1 ⟨rfl,hb⟩;refine⟨⟨en,rfl,⟨hL.later hb,?_⟩⟩,hb⟩
  show TRow w1 85 en (if 0<n then Bx.push s.ends ⟨n,how⟩ else s.ends).length ((if 0<n then Bx.push s.ends ⟨n,how⟩ else s.ends).flatMap enC)
  rw[if_neg O];exact hS.en.later hb
structure StW (W:World) (q:Nat) (s:Bx.St) (sl en:Value):Prop where
 st:StIn W q s sl en
 f:∀j:Nat,j<5→W.frozen? ⟨q,j,none⟩=false
 ty:Typed W q 130
theorem StW.new (w:World) (s:Bx.St) (sl en:Value):StW (w.alloc (stO s sl en)) w.heap.size s sl en:=
 ⟨StIn.new w s sl en,fun j _=>by simp[go_sem],Typed.new _ _ _⟩
theorem StW.below {W W':World} {q n:Nat} {s:Bx.St} {sl en:Value} (h:StW W q s sl en) (d:q<n) (hb:Below n W W'):StW W' q s sl en:=by
 obtain⟨⟨c0,c1,c2,c3,c4⟩,f,ty⟩:=h
 exact⟨⟨(hb.cell (p:=⟨q,0,none⟩) d).trans c0,(hb.cell (p:=⟨q,1,none⟩) d).trans c1,(hb.cell (p:=⟨q,2,none⟩) d).trans c2,(hb.cell (p:=⟨q,3,none⟩) d).trans c3,(hb.cell (p:=⟨q,4,none⟩) d).trans c4⟩,
  fun j e=>(hb.frozen (p:=⟨q,j,none⟩) d).trans (f j e),ty.below d hb⟩
theorem StW.later {W W':World} {q:Nat} {s:Bx.St} {sl en:Value} (h:StW W q s sl en) (hb:Below W.heap.size W W'):StW W' q s sl en:=h.below h.ty.lt hb
theorem StW.store {W:World} {q:Nat} {s:Bx.St} {sl en:Value} (h:StW W q s sl en) (t:Bx.St) (d e:Value):
 StW (((((W.setCell ⟨q,0,none⟩ (.string t.tab)).setCell ⟨q,1,none⟩ (.int .i64 t.clock)).setCell ⟨q,2,none⟩ (.int .i64 t.next)).setCell ⟨q,3,none⟩ d).setCell ⟨q,4,none⟩ e) q t d e:=by
 obtain⟨⟨c0,c1,c2,c3,c4⟩,f,ty⟩:=h;have f0:=f 0 (by decide);have f1:=f 1 (by decide);have f2:=f 2 (by decide);have w:=f 3 (by decide);have f4:=f 4 (by decide)
 refine⟨⟨?_,?_,?_,?_,?_⟩,fun j G=>?_,((((ty.setCell _ _ _).setCell _ _ _).setCell _ _ _).setCell _ _ _).setCell _ _ _⟩
 case refine_6=>
  have:j=0∨j=1∨j=2∨j=3∨j=4:=by omega
  rcases this with rfl|rfl|rfl|rfl|rfl<;>simp[go_sem,f0,f1,f2,w,f4]
 all_goals simp[go_sem,c0,c1,c2,c3,c4]
theorem StAt.store {W:World} {q:Nat} {s:Bx.St} {sl en:Value} (h:StAt W s sl en) (ty:Typed W q 130) (I w e d G:Value):
 StAt (((((W.setCell ⟨q,0,none⟩ I).setCell ⟨q,1,none⟩ w).setCell ⟨q,2,none⟩ e).setCell ⟨q,3,none⟩ d).setCell ⟨q,4,none⟩ G) s sl en:=
 ((((h.set ty (by decide) (by decide) _ _).set (ty.setCell _ _ _) (by decide) (by decide) _ _).set ((ty.setCell _ _ _).setCell _ _ _) (by decide) (by decide) _ _).set (((ty.setCell _ _ _).setCell _ _ _).setCell _ _ _) (by decide) (by decide) _ _).set ((((ty.setCell _ _ _).setCell _ _ _).setCell _ _ _).setCell _ _ _) (by decide) (by decide) _ _
end Go.Proofs.YtdajolpoiffimabGreatDoor
