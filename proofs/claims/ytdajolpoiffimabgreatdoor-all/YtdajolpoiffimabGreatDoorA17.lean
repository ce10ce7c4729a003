import Derived.Test.YtdajolpoiffimabGreatDoorA16

namespace Go.Proofs.YtdajolpoiffimabGreatDoor
open Go.RowKit
theorem iL {w Q:World}{d size n q:Nat}{e:TypeId}{v:Value}{I:List Value} (h:w.grownBy Q (some q)) (Y:q<d) (J:w.ownsRow d e size v n I):Q.ownsRow d e size v n I:=by
 refine⟨J.1,?_⟩
 rcases J.2 with h2|⟨g,G,cur,V,hbase,O,U⟩
 ·exact Or.inl h2
 ·refine Or.inr ⟨g,G,cur,V,hbase,?_,U⟩;rw[h.block g (eM O) (fun e=>by cases e;omega)];exact O
theorem fp {w w1:World}{r:Option Nat} (h:w.grownBy w1 r) (o:Obj):w.grownBy (w1.alloc o) r:=dA h (dy (dx w1 o) r)
theorem kI {w w1 G:World}{r I:Option Nat} (h:w.grownBy w1 r) (d:w1.grownBy G I) (Q:∀k,I=some k→w.heap.size≤k):w.grownBy G r:=
 ⟨d.os.trans h.os,d.tape.trans h.tape,d.output.trans h.output,Nat.le_trans h.size d.size,fun k J O=>(d.block k (Nat.lt_of_lt_of_le J h.size) (fun e=>by have:=Q k e.symm;omega)).trans (h.block k J O)⟩
theorem Cl.grow' {W W':World}{q:Nat}{r:Option Nat}{t:TypeId}{w:List Value} (h:Cl W q t w) (hb:W.grownBy W' r) (G:¬some q=r):Cl W' q t w:=by
 have e:=hb.block q h.ty.lt G;refine⟨fun j v d=>?_,fun j d=>?_,?_⟩
 ·rw[World.cell?_of_block (a:=⟨q,j,none⟩) e];exact h.c j v d
 ·rw[World.frozen?_of_block (a:=⟨q,j,none⟩) e];exact h.f j d
 ·obtain⟨cur,fr,I⟩:=h.ty;exact⟨cur,fr,e.trans I⟩
structure RdI (w wr:World) (q:Nat) (p p':Bx.PS) (v:Value) (e:TypeId) (sz:Nat) (n:Nat) (cs:List Value):Prop where
 pt:PtIn wr q p'
 ow:wr.ownsRow w.heap.size e sz v n cs
 gr:w.grownBy wr (some q)
 lt:q<w.heap.size
 le:p'.rest.size≤p.rest.size
theorem iy (p:Bx.PS):(Px.rdSlot p).2.rest.size≤p.rest.size:=by
 obtain⟨a,V,O⟩:∃a q,Bx.numP 2 p=(a,q):=⟨_,_,dB _⟩;obtain⟨b,pb,hb⟩:∃a q,Bx.numP 1 V=(a,q):=⟨_,_,dB _⟩;obtain⟨c,pc,G⟩:∃a q,Bx.numP 5 pb=(a,q):=⟨_,_,dB _⟩;obtain⟨d,pd,hd⟩:∃a q,Bx.numP 1 pc=(a,q):=⟨_,_,dB _⟩;obtain⟨e,pe,he⟩:∃a q,Bx.numP 5 pd=(a,q):=⟨_,_,dB _⟩;obtain⟨f,pf,Z⟩:∃a q,Bx.numP 1 pe=(a,q):=⟨_,_,dB _⟩;have I:=dM 2 p;have J:=dM 1 V;have Y:=dM 5 pb;have Q:=dM 1 pc;have w:=dM 5 pd;have U:=dM 1 pe;rw[O] at I;rw[hb] at J;rw[G] at Y;rw[hd] at Q;rw[he] at w;rw[Z] at U;rw[Px.rdSlot_eq O hb G hd he Z];simp only at I J Y Q w U ⊢
 split
 ·omega
 ·show pf.rest.size≤p.rest.size;omega
set_option maxRecDepth 10000 in
set_option maxHeartbeats 0 in
theorem jx (p:Bx.PS) (q:Nat) (w:World) (hs:p.rest.size≤100000) (hp:PtIn w q p):
 Calls Tryz.prog 190 #[.pointer (some ⟨q,0,none⟩)] w fun e w'=>(∃v,e=.returned v∧w'.ownsRow w.heap.size 143 8 v (Px.rdSlots p).1.length ((Px.rdSlots p).1.flatMap psC))∧PtIn w' q (Px.rdSlots p).2∧w.grownBy w' (some q):=by
 obtain⟨i0,hi,aF,aB,ay⟩:=info_parts gv;have HP:=Hq hp;have hq:=hp.ty.lt;clear hp
 go_enter Tryz.func190,Tryz.ntmps190
 go_wp2_with fail;refine (dH p q 1 _ _ rfl (by decide) hs HP.out).mono ?_
 rintro ex w1 ⟨rfl,ah,aa⟩;have HE:Hid (Px.rdSlots p=Px.rdSlotsK (Bx.numP 1 p).1.toNat (Bx.numP 1 p).2):=rfl;have ar:=Bx.numP_bd 1 p;have ai:=Bx.numP_lt 1 p;have aC:=dM 1 p;generalize (Bx.numP 1 p).2=p1 at *;generalize (Bx.numP 1 p).1=m at *;obtain⟨n,rfl⟩:∃n:Nat,m=n:=⟨m.toNat,by omega⟩
 have hn:n≤255:=by simp at ai;omega
 rw[Int.toNat_natCast] at HE
 have HI:Hid (RdI w (w1.alloc (.cells #[] 143)) q p p1 (.slice (some ⟨w1.heap.size,0,none⟩) 0 0) 143 8 0 []):=
  ⟨ah.later (dx _ _),fe (et w1 143 8) aa.size,fp aa _,hq,aC⟩
 clear ah aa HP ar ai;go_wp2_with fail
 go_loopw [4,5] (fun v i wr=>∃(k:Nat) (G:Bx.PS) (L:List Px.Sl),k≤n∧i=.int .i64 k∧RdI w wr q p G v 143 8 L.length (L.flatMap psC)∧L.length=k∧Px.rdSlots p=(L++(Px.rdSlotsK (n-k) G).1,(Px.rdSlotsK (n-k) G).2)) (fun _ i _=>n-(intOf i).toNat)
 case atStart=>exact⟨0,p1,[],Nat.zero_le _,rfl,HI.out,rfl,by rw[HE.out];simp⟩
 case round=>
  obtain⟨k,G,L,hk,rfl,Y,aj,hE⟩:=hrel;have J:=Hq hE;have d:=Hq Y;have aq:=Hq aj;have c1:=Y.pt.c1;have aX:=Y.pt.ty.lt;have a4:=Y.le;have a3:L.length≤255:=by omega
  clear hE Y aj
  by_cases a2:k<n
  ·cases U:G.wrong
   ·rw[U] at c1
    have HN:Hid (Px.rdSlots p=(L++[(Px.rdSlot G).1]++(Px.rdSlotsK (n-(k+1)) (Px.rdSlot G).2).1,(Px.rdSlotsK (n-(k+1)) (Px.rdSlot G).2).2)):=by
     unfold Hid;rw[J.out,show n-k=(n-(k+1))+1 by omega,Px.rdSlotsK,if_neg (by rw[U];simp)]
     simp
    have aY:=iy G;clear U;go_wp2_with fail;refine (jQ G q _ (by omega) d.out.pt).mono ?_
    rintro ex Q ⟨rfl,ac,ab⟩;generalize (Px.rdSlot G).2=p2 at *;generalize (Px.rdSlot G).1=x at *;have af:=iL ab d.out.lt d.out.ow;have ag:=dA d.out.gr ab;have az:PsIn (Q.alloc (psO x)) Q.heap.size x:=PsIn.new Q x;have Z:=af.alloc (psO x);have ae:=ac.later (dx Q (psO x));have V:=fp ag (psO x);clear ac ab af ag c1;go_upto_region 7 with fail;generalize Q.alloc (psO x)=W3 at *;generalize Q.heap.size=xq at *;have aH:=Hq ae;have aw:=Hq V;obtain⟨x0,x1,x2,x3,x4,x5,x6,x7⟩:=az;have ax:Hid (p2.rest.size≤p.rest.size):=by unfold Hid;omega
    have aZ:=V.size;clear ae V J d;go_wp2_with (at_builtin;refine wpList_append_lies _ rfl (.tmp 24) (.tmp 26) 75 rfl w.heap.size 143 i0 (.agg #[.int .i64 0,.int .i64 0,.int .i64 0,.int .i64 0,.int .i64 0,.int .i64 0,.int .i64 0,.string ByteArray.empty]) 8 72 Tryz.underlying75 hi aF aB ay rfl (by decide) _ _ _ rfl (Z.alloc _) ⟨W3.heap.size,0,none⟩ 1 1 (psC x) rfl rfl (fw _ _ _) (fu x) (by decide) ?c3 ?c4 ?c5 _ rfl ?_)
    case c3=>unfold maxLen;omega
    case c4=>omega
    case c5=>simp;omega
    ·intro g am w4 O I _ aM;have ad:=fun k' e=>(Z.lt k' e).1
     have aG:Hid (RdI w w4 q p p2 (.slice (some ⟨g,0,none⟩) (L.length+1) am) 143 8 (L++[x]).length ((L++[x]).flatMap psC)):=
      ⟨(aH.out.later (dx _ _)).grow' I (fun e=>by have:=ad q e.symm;omega),by simpa using O,kI (fp aw.out _) I ad,hq,ax.out⟩
     clear O I Z x0 x1 x2 x3 x4 x5 x6 x7;go_wp2_with fail;go_roundw
     case rel=>exact⟨k+1,p2,L++[x],by omega,by go_num,aG.out,by simp[aq.out],HN.out⟩
     case measure=>simp[intOf];omega
   ·rw[U] at c1
    have HF:Hid (Px.rdSlots p=(L,G)):=by
     unfold Hid;rw[J.out,show n-k=(n-(k+1))+1 by omega,Px.rdSlotsK,if_pos U]
     simp
    clear U;go_wp2_with fail;go_ret;rw[HF.out];exact⟨⟨_,rfl,d.out.ow⟩,d.out.pt,d.out.gr⟩
  ·have HF:Hid (Px.rdSlots p=(L,G)):=by
    unfold Hid;rw[J.out,show n-k=0 by omega,Px.rdSlotsK]
    simp
   go_wp2_with fail;go_ret;rw[HF.out];exact⟨⟨_,rfl,d.out.ow⟩,d.out.pt,d.out.gr⟩
theorem pG (p:Bx.PS):Px.rdEnd p=(⟨(Bx.numP 2 p).1,(Bx.txtP 1 (Bx.numP 2 p).2).1⟩,(Bx.txtP 1 (Bx.numP 2 p).2).2):=rfl
set_option maxRecDepth 10000 in
set_option maxHeartbeats 0 in
theorem jV (p:Bx.PS) (q:Nat) (w:World) (hs:p.rest.size≤100000) (hp:PtIn w q p):
 Calls Tryz.prog 191 #[.pointer (some ⟨q,0,none⟩)] w fun e w'=>(∃v,e=.returned v∧w'.ownsRow w.heap.size 85 2 v (Px.rdEnds p).1.length ((Px.rdEnds p).1.flatMap enC))∧PtIn w' q (Px.rdEnds p).2∧w.grownBy w' (some q):=by
 obtain⟨i0,hi,aG,aC,aA⟩:=info_parts mb;have HP:=Hq hp;have hq:=hp.ty.lt;clear hp
 go_enter Tryz.func191,Tryz.ntmps191
 go_wp2_with fail;refine (dH p q 1 _ _ rfl (by decide) hs HP.out).mono ?_
 rintro ex w1 ⟨rfl,ah,Z⟩;have HE:Hid (Px.rdEnds p=Px.rdEndsK (Bx.numP 1 p).1.toNat (Bx.numP 1 p).2):=rfl;have au:=Bx.numP_bd 1 p;have ai:=Bx.numP_lt 1 p;have aD:=dM 1 p;generalize (Bx.numP 1 p).2=p1 at *;generalize (Bx.numP 1 p).1=m at *;obtain⟨n,rfl⟩:∃n:Nat,m=n:=⟨m.toNat,by omega⟩
 have hn:n≤255:=by simp at ai;omega
 rw[Int.toNat_natCast] at HE
 have HI:Hid (RdI w (w1.alloc (.cells #[] 85)) q p p1 (.slice (some ⟨w1.heap.size,0,none⟩) 0 0) 85 2 0 []):=
  ⟨ah.later (dx _ _),fe (et w1 85 2) Z.size,fp Z _,hq,aD⟩
 clear ah Z HP au ai;go_wp2_with fail
 go_loopw [4,5] (fun v i wr=>∃(k:Nat) (G:Bx.PS) (L:List Bx.En),k≤n∧i=.int .i64 k∧RdI w wr q p G v 85 2 L.length (L.flatMap enC)∧L.length=k∧Px.rdEnds p=(L++(Px.rdEndsK (n-k) G).1,(Px.rdEndsK (n-k) G).2)) (fun _ i _=>n-(intOf i).toNat)
 case atStart=>exact⟨0,p1,[],Nat.zero_le _,rfl,HI.out,rfl,by rw[HE.out];simp⟩
 case round=>
  obtain⟨k,G,L,hk,rfl,U,aj,hE⟩:=hrel;have J:=Hq hE;have d:=Hq U;have ar:=Hq aj;have c1:=U.pt.c1;have aT:=U.pt.ty.lt;have aY:=U.le;have aX:L.length≤255:=by omega
  clear hE U aj
  by_cases aW:k<n
  ·cases Q:G.wrong
   ·rw[Q] at c1
    have HN:Hid (Px.rdEnds p=(L++[(⟨(Bx.numP 2 G).1,(Bx.txtP 1 (Bx.numP 2 G).2).1⟩:Bx.En)]++(Px.rdEndsK (n-(k+1)) (Bx.txtP 1 (Bx.numP 2 G).2).2).1,(Px.rdEndsK (n-(k+1)) (Bx.txtP 1 (Bx.numP 2 G).2).2).2)):=by
     unfold Hid;rw[J.out,show n-k=(n-(k+1))+1 by omega,Px.rdEndsK,if_neg (by rw[Q];simp),pG]
     simp
    have aU:=dM 2 G;have aM:=fV 1 (Bx.numP 2 G).2;clear Q;go_wp2_with fail;refine (dH G q 2 _ _ rfl (by decide) (by omega) d.out.pt).mono ?_
    rintro ex w2 ⟨rfl,ac,aa⟩;generalize (Bx.numP 2 G).2=p2 at *;generalize (Bx.numP 2 G).1=nm at *;have aH:=Hq ac;have ag:Hid (w2.ownsRow w.heap.size 85 2 _ L.length (L.flatMap enC)):=iL aa d.out.lt d.out.ow;have aI:Hid (w.grownBy w2 (some q)):=dA d.out.gr aa;clear ac aa c1;go_wp2_with fail;refine (dW p2 q 1 _ (by omega) aH.out).mono ?_
    rintro ex w3 ⟨rfl,af,Y⟩;generalize (Bx.txtP 1 p2).2=p3 at *;generalize (Bx.txtP 1 p2).1=how at *;have V:=iL Y d.out.lt ag.out;have aK:=Hq af;have ad:Hid (w.grownBy w3 (some q)):=dA aI.out Y;have az:Hid (p3.rest.size≤p.rest.size):=by unfold Hid;omega
    have aV:=ad.out.size;clear af Y J d ag;go_wp2_with (at_builtin;refine wpList_append_lies _ rfl (.tmp 27) (.tmp 31) 38 rfl w.heap.size 85 i0 (.agg #[.int .i64 0,.string ByteArray.empty]) 2 24 Tryz.underlying38 hi aG aC aA rfl (by decide) _ _ _ rfl (V.alloc _) ⟨w3.heap.size,0,none⟩ 1 1 (enC ⟨nm,how⟩) rfl rfl (iQ _ _ _) (iR _) (by decide) ?c3 ?c4 ?c5 _ rfl ?_)
    case c3=>unfold maxLen;omega
    case c4=>omega
    case c5=>simp;omega
    ·intro g am w4 O I _ aN;have ae:=fun k' e=>(V.lt k' e).1
     have aJ:Hid (RdI w w4 q p p3 (.slice (some ⟨g,0,none⟩) (L.length+1) am) 85 2 (L++[(⟨nm,how⟩:Bx.En)]).length ((L++[(⟨nm,how⟩:Bx.En)]).flatMap enC)):=
      ⟨(aK.out.later (dx _ _)).grow' I (fun e=>by have:=ae q e.symm;omega),by simpa using O,kI (fp ad.out _) I ae,hq,az.out⟩
     clear O I V;go_wp2_with fail;go_roundw
     case rel=>exact⟨k+1,p3,L++[(⟨nm,how⟩:Bx.En)],by omega,by go_num,aJ.out,by simp[ar.out],HN.out⟩
     case measure=>simp[intOf];omega
   ·rw[Q] at c1
    have HF:Hid (Px.rdEnds p=(L,G)):=by
     unfold Hid;rw[J.out,show n-k=(n-(k+1))+1 by omega,Px.rdEndsK,if_pos Q]
     simp
    clear Q;go_wp2_with fail;go_ret;rw[HF.out];exact⟨⟨_,rfl,d.out.ow⟩,d.out.pt,d.out.gr⟩
  ·have HF:Hid (Px.rdEnds p=(L,G)):=by
    unfold Hid;rw[J.out,show n-k=0 by omega,Px.rdEndsK]
    simp
   go_wp2_with fail;go_ret;rw[HF.out];exact⟨⟨_,rfl,d.out.ow⟩,d.out.pt,d.out.gr⟩
theorem jY (p:Bx.PS):(Px.rdSlots p).2.rest.size≤p.rest.size:=by
 have:∀k p,(Px.rdSlotsK k p).2.rest.size≤p.rest.size:=by
  intro k
  induction k with
  | zero=>intro p;exact Nat.le_refl _
  | succ k d=>
    intro p;rw[Px.rdSlotsK];split
    ·exact Nat.le_refl _
    ·exact Nat.le_trans (d _) (iy p)
 exact Nat.le_trans (this _ _) (dM 1 p)
theorem TRow.grow' {w Y:World}{e:TypeId}{v:Value}{n q:Nat}{Q:List Value}{t:TypeId} (h:TRow w e v n Q) (V:w.grownBy Y (some q)) (ht:Typed w q t) (Z:e≠t):TRow Y e v n Q:=by
 have far:∀b d m G,v=.slice (some ⟨b,d,none⟩) m G→¬some b=some q:=fun b d m G I e'=>by
  cases e'
  obtain⟨c1,f1,h1⟩:=h.2 _ d m G I;obtain⟨c2,f2,h2⟩:=ht;rw[h1] at h2;cases h2;exact Z rfl
 refine⟨?_,fun b d m G I=>?_⟩
 ·rcases h.1 with a|⟨b,d,G,I,O,J⟩
  ·exact Or.inl a
  ·exact Or.inr ⟨b,d,G,I,O,fun j U=>by
    have hl:b<w.heap.size:=World.block_lt_of_cell? _ _ (J j U)
    rw[World.cell?_of_block (a:=⟨b,d+j,none⟩) (V.block b hl (far b d n G I))];exact J j U⟩
 ·obtain⟨c1,f1,h1⟩:=h.2 b d m G I;exact⟨c1,f1,(V.block b (eM h1) (far b d m G I)).trans h1⟩
theorem o7 {w w1:World}{r:Option Nat} (h:w.grownBy w1 r) {g:Nat} (d:w.heap.size≤g) (J e G I O:Value):w.grownBy (((((w1.setCell ⟨g,0,none⟩ J).setCell ⟨g,1,none⟩ e).setCell ⟨g,2,none⟩ G).setCell ⟨g,3,none⟩ I).setCell ⟨g,4,none⟩ O) r:=
 dY (dY (dY (dY (dY h d _ _) d _ _) d _ _) d _ _) d _ _
theorem Cl.far5 {w1:World}{q g:Nat}{t:TypeId}{e:List Value} (h:Cl w1 q t e) (d:q≠g) (J w G I O:Value):Cl (((((w1.setCell ⟨g,0,none⟩ J).setCell ⟨g,1,none⟩ w).setCell ⟨g,2,none⟩ G).setCell ⟨g,3,none⟩ I).setCell ⟨g,4,none⟩ O) q t e:=
 ((((h.far d _ _).far d _ _).far d _ _).far d _ _).far d _ _
structure RZ (w W:World) (q:Nat) (p:Bx.PS):Prop where
 p:PtIn W q p
 z:Cl W w.heap.size 77 [.string {data:= #[]},.int .i64 0,.int .i64 0,.slice none 0 0,.slice none 0 0]
 g:w.grownBy W (some q)
 q:q<w.heap.size
theorem RZ.call {w W W':World}{q:Nat}{p e:Bx.PS} (h:RZ w W q p) (G:PtIn W' q e) (d:W.grownBy W' (some q)):RZ w W' q e:=
 ⟨G,h.z.grow d (by have:=h.q;omega),dA h.g d,h.q⟩
set_option maxRecDepth 10000 in
set_option maxHeartbeats 0 in
theorem ju (p:Bx.PS) (q:Nat) (w:World) (hs:p.rest.size≤100000) (hp:PtIn w q p):
 Calls Tryz.prog 165 #[.pointer (some ⟨q,0,none⟩)] w fun e w'=>(∃sl en,e=.returned (pstV (Px.rdState p).1 sl en)∧PAt w' (Px.rdState p).1 sl en)∧PtIn w' q (Px.rdState p).2∧w.grownBy w' (some q):=by
 obtain⟨c,pc,hc⟩:∃a q,Bx.numP 5 p=(a,q):=⟨_,_,dB _⟩;obtain⟨n,pn,hn⟩:∃a q,Bx.numP 2 pc=(a,q):=⟨_,_,dB _⟩;obtain⟨l,pl,hl⟩:∃a q,Bx.numP 2 pn=(a,q):=⟨_,_,dB _⟩;obtain⟨t,pt,ht⟩:∃a q,Bx.txtP l pl=(a,q):=⟨_,_,dB _⟩;obtain⟨sl,ps,J⟩:∃a q,Px.rdSlots pt=(a,q):=⟨_,_,dB _⟩;obtain⟨en,pe,V⟩:∃a q,Px.rdEnds ps=(a,q):=⟨_,_,dB _⟩;have HE:Hid (Px.rdState p=(⟨t,c-1,n,sl,en⟩,pe)):=Px.rdState_eq hc hn hl ht J V;have sa:=dM 5 p;have sb:=dM 2 pc;have sc:=dM 2 pn;have sd:=fV l pl;have se:=jY pt;have c1:=Bx.numP_bd 5 p;have c2:=Bx.numP_lt 5 p;rw[hc] at sa c1 c2;rw[hn] at sb;rw[hl] at sc;rw[ht] at sd;rw[J] at se;simp only at sa sb sc sd se c1 c2;have c3:c<1099511627776:=by simpa using c2
 have Hc:=Hq hc;have Hn:=Hq hn;have Hl:=Hq hl;have Ht:=Hq ht;have Hs:=Hq J;have He:=Hq V;clear hc hn hl ht J V c2
 have hR:RZ w (w.alloc (.cells #[.string {data:= #[]},.int .i64 0,.int .i64 0,.slice none 0 0,.slice none 0 0] 77)) q p:=by
  have b1:=dx w (.cells #[.string {data:= #[]},.int .i64 0,.int .i64 0,.slice none 0 0,.slice none 0 0] 77);exact⟨hp.later b1,Cl.new w [.string {data:= #[]},.int .i64 0,.int .i64 0,.slice none 0 0,.slice none 0 0] 77,dy b1 _,hp.ty.lt⟩
 clear hp
 go_enter Tryz.func165,Tryz.ntmps165
 go_upto_region 1 with fail;generalize w.alloc (.cells #[.string {data:= #[]},.int .i64 0,.int .i64 0,.slice none 0 0,.slice none 0 0] 77)=W at *;have ad:=Hq hR;clear hR;go_wp2_with fail;refine (dH p q 5 _ _ rfl (by decide) (by omega) ad.out.p).mono ?_
 rintro ex w1 ⟨rfl,d,G⟩;rw[Hc.out] at d ⊢;simp only at d;have ag:Hid (RZ w w1 q pc):=ad.out.call d G;clear d G ad;go_wp2_with fail;refine (dH pc q 2 _ _ rfl (by decide) (by omega) ag.out.p).mono ?_
 rintro ex w2 ⟨rfl,d,G⟩;rw[Hn.out] at d ⊢;simp only at d;have Y:Hid (RZ w w2 q pn):=ag.out.call d G;clear d G ag;go_wp2_with fail;refine (dH pn q 2 _ _ rfl (by decide) (by omega) Y.out.p).mono ?_
 rintro ex w3 ⟨rfl,d,G⟩;rw[Hl.out] at d ⊢;simp only at d;have ac:Hid (RZ w w3 q pl):=Y.out.call d G;clear d G Y;go_wp2_with fail;refine (dW pl q l _ (by omega) ac.out.p).mono ?_
 rintro ex w4 ⟨rfl,d,G⟩;rw[Ht.out] at d ⊢;simp only at d;have Z:Hid (RZ w w4 q pt):=ac.out.call d G;clear d G ac;go_wp2_with fail;refine (jx pt q _ (by omega) Z.out.p).mono ?_
 rintro ex w5 ⟨⟨v5,rfl,U⟩,d,G⟩;rw[Hs.out] at d U;simp only at d U;have O:Hid (RZ w w5 q ps):=Z.out.call d G;have ae:=TRow.of_own U;obtain⟨aq,ab,aB,_⟩:=ae.form;subst aB;have ap:=Hq ae;clear d G Z U ae;go_wp2_with fail;refine (jV ps q _ (by omega) O.out.p).mono ?_
 rintro ex w6 ⟨⟨v6,rfl,Q⟩,d,G⟩;rw[He.out] at d Q;simp only at d Q;have I:Hid (RZ w w6 q pe):=O.out.call d G;have aa:=TRow.of_own Q;obtain⟨ao,af,aC,_⟩:=aa.form;subst aC;have ax:Hid (PAt w6 ⟨t,c-1,n,sl,en⟩ (.slice aq sl.length ab) (.slice ao en.length af)):=⟨ap.out.grow' G O.out.p.ty (by decide),aa⟩
 clear d G O Q aa ap;have z0:=I.out.z.c 0 _ rfl;have z1:=I.out.z.c 1 _ rfl;have z2:=I.out.z.c 2 _ rfl;have z3:=I.out.z.c 3 _ rfl;have z4:=I.out.z.c 4 _ rfl;have f0:=I.out.z.f 0 (by simp);have f1:=I.out.z.f 1 (by simp);have f2:=I.out.z.f 2 (by simp);have f3:=I.out.z.f 3 (by simp);have f4:=I.out.z.f 4 (by simp)
 have yz:=I.out.z.ty.lt;go_wp2_with fail;refine bodyPost_ret (v:=pstV ⟨t,c-1,n,sl,en⟩ (.slice aq sl.length ab) (.slice ao en.length af)) (by simp[results,Tryz.results165,go_sem,z0,z1,z2,z3,z4]) rfl ?_
 rw[HE.out];exact⟨⟨_,_,rfl,ax.out.store I.out.z.ty _ _ _ _ _⟩,I.out.p.far5 (by have:=I.out.q;omega) _ _ _ _ _,o7 I.out.g (Nat.le_refl _) _ _ _ _ _⟩
structure Ct where
 kind:ByteArray
 tab:ByteArray
 num:Int
 st:Px.St
 size:Int
abbrev ctC (c:Ct) (sl en:Value):List Value:=[.string c.kind,.string c.tab,.int .i64 c.num,.string c.st.tab,.int .i64 c.st.clock,.int .i64 c.st.next,sl,en,.int .i64 c.size]
abbrev ctV (c:Ct) (sl en:Value):Value:=.agg (ctC c sl en).toArray
def ct0:Ct:=⟨ByteArray.empty,ByteArray.empty,0,Px.st0,0⟩
abbrev nilS:Value:=.slice none 0 0
def IsC (b:ByteArray) (c:Ct):Prop:=∃h:Bx.Ch,Bx.IsCh b h∧c.kind=Bx.b1 h.kind∧c.tab=h.tab∧c.num=h.n
def IsW (b:ByteArray) (c:Ct):Prop:=c.kind=Bx.b1 90∧Bx.wholeS (Px.abs c.st)=b∧Bx.StFit (Px.abs c.st)∧(∀x∈c.st.slots,Px.Fresh x)∧ -1≤c.st.clock
inductive BodyR (b:ByteArray) (w':World):Ending→Prop
 | ch (c:Ct) (h:IsC b c) (hs:c.st=Px.st0) (hz:c.size=0):BodyR b w' (.returned (.tuple #[ctV c nilS nilS,.bool true]))
 | wh (c:Ct) (sl en:Value) (h:IsW b c) (hz:c.size=0) (ha:PAt w' c.st sl en):BodyR b w' (.returned (.tuple #[ctV c sl en,.bool true]))
 | no (c:Ct) (sl en:Value) (h1:¬∃h,Bx.IsCh b h) (h2:¬∃s,Bx.StFit s∧Bx.wholeS s=b) (ha:(∃ad cap,sl=.slice ad c.st.slots.length cap)∧∃ad cap,en=.slice ad c.st.ends.length cap):BodyR b w' (.returned (.tuple #[ctV c sl en,.bool false]))
theorem dK {n R:Nat}{w d:World} (h:Below n w d) (hR:n≤R) (V Y e U G I J O Q:Value):Below n w (((((((((d.setCell ⟨R,0,none⟩ V).setCell ⟨R,1,none⟩ Y).setCell ⟨R,2,none⟩ e).setCell ⟨R,3,none⟩ U).setCell ⟨R,4,none⟩ G).setCell ⟨R,5,none⟩ I).setCell ⟨R,6,none⟩ J).setCell ⟨R,7,none⟩ O).setCell ⟨R,8,none⟩ Q):=by
 repeat (refine Below.setCell ?_ hR _)
 exact h
structure RB (w W:World) (p:Bx.PS) (cs:List Value):Prop where
 z:Cl W w.heap.size 163 (ctC ct0 nilS nilS)
 p:PtIn W (w.heap.size+1) p
 c:Cl W (w.heap.size+2) 163 cs
 b:Below w.heap.size w W
theorem RB.call {w W W':World}{p G:Bx.PS}{I:List Value} (h:RB w W p I) (O:PtIn W' (w.heap.size+1) G) (d:W.grownBy W' (some (w.heap.size+1))):RB w W' G I:=
 ⟨h.z.grow d (by omega),O,h.c.grow d (by omega),⟨d.os.trans h.b.os,d.tape.trans h.b.tape,d.output.trans h.b.output,Nat.le_trans h.b.size d.size,fun k J=>(d.block k (Nat.lt_of_lt_of_le J h.b.size) (fun e=>by cases e;omega)).trans (h.b.block k J)⟩⟩
theorem RB.put {w W:World}{p:Bx.PS}{d:List Value} (h:RB w W p d) (j:Nat) (v:Value) (e:j<d.length):RB w (W.setCell ⟨w.heap.size+2,j,none⟩ v) p (d.set j v):=
 ⟨h.z.far (by omega) _ _,h.p.far (by omega) _ _,h.c.set j e v,h.b.setCell (by show w.heap.size≤w.heap.size+2;omega) _⟩
theorem RB.new (w:World) (b:ByteArray):RB w (((w.alloc (.cells (ctC ct0 nilS nilS).toArray 163)).alloc (.cells (ptC ⟨b,false⟩).toArray 207)).alloc (.cells (ctC ct0 nilS nilS).toArray 163)) ⟨b,false⟩ (ctC ct0 nilS nilS):=by
 have b1:=dx w (.cells (ctC ct0 nilS nilS).toArray 163);have J:(w.alloc (.cells (ctC ct0 nilS nilS).toArray 163)).heap.size=w.heap.size+1:=by simp
 have G:=dx (w.alloc (.cells (ctC ct0 nilS nilS).toArray 163)) (.cells (ptC ⟨b,false⟩).toArray 207);have e:((w.alloc (.cells (ctC ct0 nilS nilS).toArray 163)).alloc (.cells (ptC ⟨b,false⟩).toArray 207)).heap.size=w.heap.size+2:=by simp
 have d:=dx ((w.alloc (.cells (ctC ct0 nilS nilS).toArray 163)).alloc (.cells (ptC ⟨b,false⟩).toArray 207)) (.cells (ctC ct0 nilS nilS).toArray 163);have n2:=Cl.new (w.alloc (.cells (ctC ct0 nilS nilS).toArray 163)) (ptC ⟨b,false⟩) 207;have I:=Cl.new ((w.alloc (.cells (ctC ct0 nilS nilS).toArray 163)).alloc (.cells (ptC ⟨b,false⟩).toArray 207)) (ctC ct0 nilS nilS) 163;rw[J] at n2;rw[e] at I;exact⟨((Cl.new w (ctC ct0 nilS nilS) 163).later G).later d,n2.later d,I,(b1.trans (G.mono b1.size)).trans (d.mono (by rw[e];omega))⟩
theorem fA {h:ByteArray}{l:List UInt8} (e:h=⟨l.toArray⟩):(h.toList==l)=true:=by
 subst e;simp[ByteArray.toList_eq]
theorem isEmpty_iff (r:ByteArray):r.toList.isEmpty=true↔r=ByteArray.empty:=by
 rw[ByteArray.toList_eq]
 constructor
 ·intro h;exact Bx.ba_ext (by simpa using h)
 ·intro h;subst h;rfl
theorem oh (b:ByteArray) (h:0<b.size):∃k:Int,0≤k∧k<256∧Bx.txtP 1 ⟨b,false⟩=(Bx.b1 k,⟨b.extract 1 b.size,false⟩)∧b=Bx.b1 k++b.extract 1 b.size:=by
 obtain⟨t,q,I⟩:∃t q,Bx.txtP 1 ⟨b,false⟩=(t,q):=⟨_,_,dB _⟩;have e:Bx.txtP 1 ⟨b,false⟩=(b.extract 0 1,⟨b.extract 1 b.size,false⟩):=by unfold Bx.txtP;rw[if_neg (by simp;omega)];rfl
 have w:(b.extract 0 1).size=1:=by simp;omega
 have hb:=Bx.be_nB' w;rw[←Bx.b1_be] at hb;have d:=Bx.nb_lt (b.extract 0 1).data.toList;rw[Bx.ba_len,w] at d;have G:Bx.nB (b.extract 0 1)<256:=d;refine⟨Bx.nB (b.extract 0 1),Bx.nb_nonneg _,G,by rw[e,hb],by rw[hb];exact (Bx.ext_split b 1).symm⟩
theorem dC (k:Int) (h0:0≤k) (h1:k<256) (n:UInt8):Bx.b1 k=⟨[n].toArray⟩↔k=(n.toNat:Int):=by
 constructor
 ·intro h;have h2:Bx.nB (Bx.b1 k)=k:=by rw[Bx.b1_be];exact Bx.nB_be k 1 h0 (by simpa using h1)
  rw[h] at h2;rw[←h2];simp[Bx.nB,Bx.nb]
 ·intro h;subst h;refine Bx.ba_ext ?_;rw[Bx.b1_list];simp;have:((n.toNat:Int) % 256).toNat=n.toNat:=by have:=n.toNat_lt;omega
  rw[this];simp
theorem PAt.store9 {W:World}{q:Nat}{s:Px.St}{sl en:Value} (h:PAt W s sl en) (ty:Typed W q 163) (I d e G J U O Q V:Value):
 PAt (((((((((W.setCell ⟨q,0,none⟩ I).setCell ⟨q,1,none⟩ d).setCell ⟨q,2,none⟩ e).setCell ⟨q,3,none⟩ G).setCell ⟨q,4,none⟩ J).setCell ⟨q,5,none⟩ U).setCell ⟨q,6,none⟩ O).setCell ⟨q,7,none⟩ Q).setCell ⟨q,8,none⟩ V) s sl en:=by
 have q:∀(w:World) (j:Nat) (u:Value),(Typed w q 163∧PAt w s sl en)→(Typed (w.setCell ⟨q,j,none⟩ u) q 163∧PAt (w.setCell ⟨q,j,none⟩ u) s sl en):=fun w j u h=>⟨h.1.setCell _ _ _,h.2.set h.1 (by decide) (by decide) _ _⟩
 exact (q _ _ _ (q _ _ _ (q _ _ _ (q _ _ _ (q _ _ _ (q _ _ _ (q _ _ _ (q _ _ _ (q _ _ _ ⟨ty,h⟩))))))))).2
set_option maxRecDepth 10000 in
set_option maxHeartbeats 0 in
theorem mA (b:ByteArray) (k:Int) (w:World) (hb:b.size≤100000) (h0:0≤k) (h1:k<256) (hk:k=84) (ht:Bx.txtP 1 ⟨b,false⟩=(Bx.b1 k,⟨b.extract 1 b.size,false⟩)) (he:b=Bx.b1 k++b.extract 1 b.size):
 Calls Tryz.prog 134 #[.string b] w fun e w'=>BodyR b w' e∧Below w.heap.size w w':=by
 have HT:=Hq ht;have HE:=Hq he;have am:(b.extract 1 b.size).size≤100000:=by simp;omega
 have aO:((Bx.b1 k).toList==[84])=true:=fA ((dC k h0 h1 84).2 (by rw[hk];rfl))
 have aN:((Bx.b1 k).toList==[67])=false:=dD (l:=[67]) (fun q=>by have:=(dC k h0 h1 67).1 q;simp at this;omega)
 have aQ:((Bx.b1 k).toList==[83])=false:=dD (l:=[83]) (fun q=>by have:=(dC k h0 h1 83).1 q;simp at this;omega)
 have aJ:((Bx.b1 k).toList==[68])=false:=dD (l:=[68]) (fun q=>by have:=(dC k h0 h1 68).1 q;simp at this;omega)
 have aL:((Bx.b1 k).toList==[70])=false:=dD (l:=[70]) (fun q=>by have:=(dC k h0 h1 70).1 q;simp at this;omega)
 have aK:((Bx.b1 k).toList==[75])=false:=dD (l:=[75]) (fun q=>by have:=(dC k h0 h1 75).1 q;simp at this;omega)
 have aM:((Bx.b1 k).toList==[90])=false:=dD (l:=[90]) (fun q=>by have:=(dC k h0 h1 90).1 q;simp at this;omega)
 have ao:Hid (∀Q,Q=Bx.b1 k→Q=Bx.b1 k):=fun _ h=>h
 generalize ac:Bx.b1 k=Q at *;have ab:=Hq ac;generalize hr:b.extract 1 b.size=r at *;have aP:=Hq hr;clear ac hr ht he ao;have hN:=RB.new w b
 go_enter Tryz.func134,Tryz.ntmps134
 go_upto_region 3 with fail;have aa:RB w (((w.alloc (.cells #[.string {data:= #[]},.string {data:= #[]},.int .i64 0,.string {data:= #[]},.int .i64 0,.int .i64 0,.slice none 0 0,.slice none 0 0,.int .i64 0] 163)).alloc (.cells #[.string b,.bool false] 207)).alloc (.cells #[.string {data:= #[]},.string {data:= #[]},.int .i64 0,.string {data:= #[]},.int .i64 0,.int .i64 0,.slice none 0 0,.slice none 0 0,.int .i64 0] 163)) ⟨b,false⟩ (ctC ct0 nilS nilS):=hN;clear hN;generalize ((w.alloc (.cells #[.string {data:= #[]},.string {data:= #[]},.int .i64 0,.string {data:= #[]},.int .i64 0,.int .i64 0,.slice none 0 0,.slice none 0 0,.int .i64 0] 163)).alloc (.cells #[.string b,.bool false] 207)).alloc (.cells #[.string {data:= #[]},.string {data:= #[]},.int .i64 0,.string {data:= #[]},.int .i64 0,.int .i64 0,.slice none 0 0,.slice none 0 0,.int .i64 0] 163)=W at *;have U:=Hq aa;clear aa;go_wp2_with fail;refine (dW ⟨b,false⟩ (w.heap.size+1) 1 _ hb U.out.p).mono ?_;rintro ex w1 ⟨rfl,d,J⟩;rw[HT.out] at d ⊢;simp only at d;have I:=U.out.call d J;have s0:=I.c.c 0 _ rfl;have t0:=I.c.f 0 (by simp)
 have y0:=I.c.ty.lt;have G:=I.put 0 (.string Q) (by simp)
 clear d J I U;go_upto_region 4 with fail;clear s0 t0 y0;generalize w1.setCell ⟨w.heap.size+2,0,none⟩ (.string Q)=W1 at *;have Y:=Hq G;have k0:=G.c.c 0 _ rfl;have yk:=G.c.ty.lt;have ap:=G.p.c0;have yp:=G.p.ty.lt;clear G
 have HA:Hid (Bx.txtP (r.size:Int) ⟨r,false⟩=(r,⟨ByteArray.empty,false⟩)):=by
  have:=Bx.txtP_app r ByteArray.empty false (r.size:Int) rfl;rw[ByteArray.append_empty] at this;exact this
 go_wp2_with fail;refine (dW ⟨r,false⟩ (w.heap.size+1) r.size _ am Y.out.p).mono ?_;rintro ex w2 ⟨rfl,d,J⟩;rw[HA.out] at d ⊢;simp only at d;have O:=Y.out.call d J;have s0:=O.c.c 1 _ rfl;have t0:=O.c.f 1 (by simp)
 have y0:=O.c.ty.lt;have Z:=O.put 1 (.string r) (by simp)
 clear d J O Y k0 yk ap yp;go_upto_region 18 with fail;clear s0 t0 y0;generalize w2.setCell ⟨w.heap.size+2,1,none⟩ (.string r)=W3 at *;have V:=Hq Z;clear Z;go_wp2_with fail;refine (eI ⟨ByteArray.empty,false⟩ (w.heap.size+1) _ V.out.p).mono ?_;rintro ex w4 ⟨rfl,rfl⟩;have hR:=V.out;have x0:=hR.c.c 0 _ rfl;have x1:=hR.c.c 1 _ rfl;have x2:=hR.c.c 2 _ rfl;have x3:=hR.c.c 3 _ rfl;have x4:=hR.c.c 4 _ rfl;have x5:=hR.c.c 5 _ rfl;have x6:=hR.c.c 6 _ rfl;have x7:=hR.c.c 7 _ rfl;have x8:=hR.c.c 8 _ rfl;have z0:=hR.z.c 0 _ rfl;have z1:=hR.z.c 1 _ rfl;have z2:=hR.z.c 2 _ rfl;have z3:=hR.z.c 3 _ rfl;have z4:=hR.z.c 4 _ rfl;have z5:=hR.z.c 5 _ rfl;have z6:=hR.z.c 6 _ rfl;have z7:=hR.z.c 7 _ rfl;have z8:=hR.z.c 8 _ rfl;have f0:=hR.z.f 0 (by simp);have f1:=hR.z.f 1 (by simp);have f2:=hR.z.f 2 (by simp);have f3:=hR.z.f 3 (by simp);have f4:=hR.z.f 4 (by simp);have f5:=hR.z.f 5 (by simp);have f6:=hR.z.f 6 (by simp);have f7:=hR.z.f 7 (by simp);have f8:=hR.z.f 8 (by simp)
 have yz:=hR.z.ty.lt;have yx:=hR.c.ty.lt;clear hR
 have HF:Hid (IsC b ⟨Q,r,0,Px.st0,0⟩):=by
  refine⟨⟨84,r,0⟩,?_,by rw[←ab.out,hk],rfl,rfl⟩
  have:=Bx.body_T r;rw[HE.out,←ab.out,hk];exact this
 go_wp2_with fail;refine bodyPost_ret (v:=.tuple #[ctV ⟨Q,r,0,Px.st0,0⟩ nilS nilS,.bool true]) (by simp[results,Tryz.results134,go_sem,z0,z1,z2,z3,z4,z5,z6,z7,z8,ct0,Px.st0]) rfl ⟨BodyR.ch _ HF.out rfl rfl,dK V.out.b (Nat.le_refl _) _ _ _ _ _ _ _ _ _⟩
set_option maxRecDepth 10000 in
set_option maxHeartbeats 0 in
theorem mJ (b:ByteArray) (k:Int) (w:World) (hb:b.size≤100000) (h0:0≤k) (h1:k<256) (hk:k=67) (ht:Bx.txtP 1 ⟨b,false⟩=(Bx.b1 k,⟨b.extract 1 b.size,false⟩)) (he:b=Bx.b1 k++b.extract 1 b.size):
 Calls Tryz.prog 134 #[.string b] w fun e w'=>BodyR b w' e∧Below w.heap.size w w':=by
 have HT:=Hq ht;have HE:=Hq he;have aE:(b.extract 1 b.size).size≤100000:=by simp;omega
 have aT:((Bx.b1 k).toList==[84])=false:=dD (l:=[84]) (fun q=>by have:=(dC k h0 h1 84).1 q;simp at this;omega)
 have aS:((Bx.b1 k).toList==[67])=true:=fA ((dC k h0 h1 67).2 (by rw[hk];rfl))
 have aV:((Bx.b1 k).toList==[83])=false:=dD (l:=[83]) (fun q=>by have:=(dC k h0 h1 83).1 q;simp at this;omega)
 have aO:((Bx.b1 k).toList==[68])=false:=dD (l:=[68]) (fun q=>by have:=(dC k h0 h1 68).1 q;simp at this;omega)
 have aQ:((Bx.b1 k).toList==[70])=false:=dD (l:=[70]) (fun q=>by have:=(dC k h0 h1 70).1 q;simp at this;omega)
 have aP:((Bx.b1 k).toList==[75])=false:=dD (l:=[75]) (fun q=>by have:=(dC k h0 h1 75).1 q;simp at this;omega)
 have aR:((Bx.b1 k).toList==[90])=false:=dD (l:=[90]) (fun q=>by have:=(dC k h0 h1 90).1 q;simp at this;omega)
 have aG:Hid (∀Q,Q=Bx.b1 k→Q=Bx.b1 k):=fun _ h=>h
 generalize ah:Bx.b1 k=Q at *;have Z:=Hq ah;generalize hr:b.extract 1 b.size=r at *;have aU:=Hq hr;clear ah hr ht he aG;have hN:=RB.new w b
 go_enter Tryz.func134,Tryz.ntmps134
 go_upto_region 3 with fail;have ag:RB w (((w.alloc (.cells #[.string {data:= #[]},.string {data:= #[]},.int .i64 0,.string {data:= #[]},.int .i64 0,.int .i64 0,.slice none 0 0,.slice none 0 0,.int .i64 0] 163)).alloc (.cells #[.string b,.bool false] 207)).alloc (.cells #[.string {data:= #[]},.string {data:= #[]},.int .i64 0,.string {data:= #[]},.int .i64 0,.int .i64 0,.slice none 0 0,.slice none 0 0,.int .i64 0] 163)) ⟨b,false⟩ (ctC ct0 nilS nilS):=hN;clear hN;generalize ((w.alloc (.cells #[.string {data:= #[]},.string {data:= #[]},.int .i64 0,.string {data:= #[]},.int .i64 0,.int .i64 0,.slice none 0 0,.slice none 0 0,.int .i64 0] 163)).alloc (.cells #[.string b,.bool false] 207)).alloc (.cells #[.string {data:= #[]},.string {data:= #[]},.int .i64 0,.string {data:= #[]},.int .i64 0,.int .i64 0,.slice none 0 0,.slice none 0 0,.int .i64 0] 163)=W at *;have aa:=Hq ag;clear ag;go_wp2_with fail;refine (dW ⟨b,false⟩ (w.heap.size+1) 1 _ hb aa.out.p).mono ?_;rintro ex w1 ⟨rfl,d,J⟩;rw[HT.out] at d ⊢;simp only at d;have I:=aa.out.call d J;have s0:=I.c.c 0 _ rfl;have t0:=I.c.f 0 (by simp)
 have y0:=I.c.ty.lt;have G:=I.put 0 (.string Q) (by simp)
 clear d J I aa;go_upto_region 4 with fail;clear s0 t0 y0;generalize w1.setCell ⟨w.heap.size+2,0,none⟩ (.string Q)=W1 at *;have ab:=Hq G;have k0:=G.c.c 0 _ rfl;have yk:=G.c.ty.lt;have aH:=G.p.c0;have yp:=G.p.ty.lt;clear G;obtain⟨n,q,ad⟩:∃n q,Bx.numP 5 ⟨r,false⟩=(n,q):=⟨_,_,dB _⟩;have HA:=Hq ad;clear ad;go_wp2_with fail;refine (dH ⟨r,false⟩ (w.heap.size+1) 5 _ _ rfl (by decide) aE ab.out.p).mono ?_
 rintro ex w2 ⟨rfl,d,J⟩;rw[HA.out] at d ⊢;simp only at d;have O:=ab.out.call d J;have s0:=O.c.c 2 _ rfl;have t0:=O.c.f 2 (by simp)
 have y0:=O.c.ty.lt;have ae:=O.put 2 (.int .i64 n) (by simp)
 clear d J O ab k0 yk aH yp;go_upto_region 18 with fail;clear s0 t0 y0;generalize w2.setCell ⟨w.heap.size+2,2,none⟩ (.int .i64 n)=W3 at *;have Y:=Hq ae;clear ae;go_wp2_with fail;refine (eI q (w.heap.size+1) _ Y.out.p).mono ?_;rintro ex w4 ⟨rfl,rfl⟩;have hR:=Y.out;have x0:=hR.c.c 0 _ rfl;have x1:=hR.c.c 1 _ rfl;have x2:=hR.c.c 2 _ rfl;have x3:=hR.c.c 3 _ rfl;have x4:=hR.c.c 4 _ rfl;have x5:=hR.c.c 5 _ rfl;have x6:=hR.c.c 6 _ rfl;have x7:=hR.c.c 7 _ rfl;have x8:=hR.c.c 8 _ rfl;have z0:=hR.z.c 0 _ rfl;have z1:=hR.z.c 1 _ rfl;have z2:=hR.z.c 2 _ rfl;have z3:=hR.z.c 3 _ rfl;have z4:=hR.z.c 4 _ rfl;have z5:=hR.z.c 5 _ rfl;have z6:=hR.z.c 6 _ rfl;have z7:=hR.z.c 7 _ rfl;have z8:=hR.z.c 8 _ rfl;have f0:=hR.z.f 0 (by simp);have f1:=hR.z.f 1 (by simp);have f2:=hR.z.f 2 (by simp);have f3:=hR.z.f 3 (by simp);have f4:=hR.z.f 4 (by simp);have f5:=hR.z.f 5 (by simp);have f6:=hR.z.f 6 (by simp);have f7:=hR.z.f 7 (by simp);have f8:=hR.z.f 8 (by simp)
 have yz:=hR.z.ty.lt;have yx:=hR.c.ty.lt;clear hR
 cases V:(!q.wrong&&q.rest.toList.isEmpty)
 ·have af:¬(q.wrong=false∧q.rest=ByteArray.empty):=by
   rintro ⟨a1,a2⟩;rw[a1,(isEmpty_iff _).2 a2] at V;cases V
  have HF:Hid ((¬∃h,Bx.IsCh b h)∧¬∃s,Bx.StFit s∧Bx.wholeS s=b):=by
   refine⟨?_,?_⟩
   ·rw[HE.out,←Z.out,hk];exact Bx.body_C_no HA.out af
   ·rintro ⟨s,_,e⟩;rw[HE.out,←Z.out] at e;exact Bx.whole_no ⟨h0,h1⟩ (by omega) ⟨s,e⟩
  clear V af;go_wp2_with fail;refine bodyPost_ret (v:=.tuple #[ctV ⟨Q,ByteArray.empty,n,Px.st0,0⟩ nilS nilS,.bool false]) (by simp[results,Tryz.results134,go_sem,z0,z1,z2,z3,z4,z5,z6,z7,z8,ct0,Px.st0]) rfl ⟨BodyR.no _ _ _ HF.out.1 HF.out.2 ⟨⟨none,0,rfl⟩,⟨none,0,rfl⟩⟩,dK Y.out.b (Nat.le_refl _) _ _ _ _ _ _ _ _ _⟩
 ·have U:q.wrong=false∧q.rest=ByteArray.empty:=by
   simp only [Bool.and_eq_true,Bool.not_eq_true'] at V
   exact⟨V.1,(isEmpty_iff _).1 V.2⟩
  have HF:Hid (IsC b ⟨Q,ByteArray.empty,n,Px.st0,0⟩):=by
   refine⟨⟨k,ByteArray.empty,n⟩,?_,Z.out.symm,rfl,rfl⟩;rw[HE.out,←Z.out];exact (by subst hk;exact Bx.body_C_yes HA.out U.1 U.2)
  clear V U;go_wp2_with fail;refine bodyPost_ret (v:=.tuple #[ctV ⟨Q,ByteArray.empty,n,Px.st0,0⟩ nilS nilS,.bool true]) (by simp[results,Tryz.results134,go_sem,z0,z1,z2,z3,z4,z5,z6,z7,z8,ct0,Px.st0]) rfl ⟨BodyR.ch _ HF.out rfl rfl,dK Y.out.b (Nat.le_refl _) _ _ _ _ _ _ _ _ _⟩
set_option maxRecDepth 10000 in
set_option maxHeartbeats 0 in
theorem kN (b:ByteArray) (k:Int) (w:World) (hb:b.size≤100000) (h0:0≤k) (h1:k<256) (hk:k=70) (ht:Bx.txtP 1 ⟨b,false⟩=(Bx.b1 k,⟨b.extract 1 b.size,false⟩)) (he:b=Bx.b1 k++b.extract 1 b.size):
 Calls Tryz.prog 134 #[.string b] w fun e w'=>BodyR b w' e∧Below w.heap.size w w':=by
 have HT:=Hq ht;have HE:=Hq he;have aE:(b.extract 1 b.size).size≤100000:=by simp;omega
 have aT:((Bx.b1 k).toList==[84])=false:=dD (l:=[84]) (fun q=>by have:=(dC k h0 h1 84).1 q;simp at this;omega)
 have aS:((Bx.b1 k).toList==[67])=false:=dD (l:=[67]) (fun q=>by have:=(dC k h0 h1 67).1 q;simp at this;omega)
 have aV:((Bx.b1 k).toList==[83])=false:=dD (l:=[83]) (fun q=>by have:=(dC k h0 h1 83).1 q;simp at this;omega)
 have aO:((Bx.b1 k).toList==[68])=false:=dD (l:=[68]) (fun q=>by have:=(dC k h0 h1 68).1 q;simp at this;omega)
 have aQ:((Bx.b1 k).toList==[70])=true:=fA ((dC k h0 h1 70).2 (by rw[hk];rfl))
 have aP:((Bx.b1 k).toList==[75])=false:=dD (l:=[75]) (fun q=>by have:=(dC k h0 h1 75).1 q;simp at this;omega)
 have aR:((Bx.b1 k).toList==[90])=false:=dD (l:=[90]) (fun q=>by have:=(dC k h0 h1 90).1 q;simp at this;omega)
 have aG:Hid (∀Q,Q=Bx.b1 k→Q=Bx.b1 k):=fun _ h=>h
 generalize ah:Bx.b1 k=Q at *;have Z:=Hq ah;generalize hr:b.extract 1 b.size=r at *;have aU:=Hq hr;clear ah hr ht he aG;have hN:=RB.new w b
 go_enter Tryz.func134,Tryz.ntmps134
 go_upto_region 3 with fail;have ag:RB w (((w.alloc (.cells #[.string {data:= #[]},.string {data:= #[]},.int .i64 0,.string {data:= #[]},.int .i64 0,.int .i64 0,.slice none 0 0,.slice none 0 0,.int .i64 0] 163)).alloc (.cells #[.string b,.bool false] 207)).alloc (.cells #[.string {data:= #[]},.string {data:= #[]},.int .i64 0,.string {data:= #[]},.int .i64 0,.int .i64 0,.slice none 0 0,.slice none 0 0,.int .i64 0] 163)) ⟨b,false⟩ (ctC ct0 nilS nilS):=hN;clear hN;generalize ((w.alloc (.cells #[.string {data:= #[]},.string {data:= #[]},.int .i64 0,.string {data:= #[]},.int .i64 0,.int .i64 0,.slice none 0 0,.slice none 0 0,.int .i64 0] 163)).alloc (.cells #[.string b,.bool false] 207)).alloc (.cells #[.string {data:= #[]},.string {data:= #[]},.int .i64 0,.string {data:= #[]},.int .i64 0,.int .i64 0,.slice none 0 0,.slice none 0 0,.int .i64 0] 163)=W at *;have aa:=Hq ag;clear ag;go_wp2_with fail;refine (dW ⟨b,false⟩ (w.heap.size+1) 1 _ hb aa.out.p).mono ?_;rintro ex w1 ⟨rfl,d,J⟩;rw[HT.out] at d ⊢;simp only at d;have I:=aa.out.call d J;have s0:=I.c.c 0 _ rfl;have t0:=I.c.f 0 (by simp)
 have y0:=I.c.ty.lt;have G:=I.put 0 (.string Q) (by simp)
 clear d J I aa;go_upto_region 4 with fail;clear s0 t0 y0;generalize w1.setCell ⟨w.heap.size+2,0,none⟩ (.string Q)=W1 at *;have ab:=Hq G;have k0:=G.c.c 0 _ rfl;have yk:=G.c.ty.lt;have aH:=G.p.c0;have yp:=G.p.ty.lt;clear G;obtain⟨n,q,ad⟩:∃n q,Bx.numP 2 ⟨r,false⟩=(n,q):=⟨_,_,dB _⟩;have HA:=Hq ad;clear ad;go_wp2_with fail;refine (dH ⟨r,false⟩ (w.heap.size+1) 2 _ _ rfl (by decide) aE ab.out.p).mono ?_
 rintro ex w2 ⟨rfl,d,J⟩;rw[HA.out] at d ⊢;simp only at d;have O:=ab.out.call d J;have s0:=O.c.c 2 _ rfl;have t0:=O.c.f 2 (by simp)
 have y0:=O.c.ty.lt;have ae:=O.put 2 (.int .i64 n) (by simp)
 clear d J O ab k0 yk aH yp;go_upto_region 18 with fail;clear s0 t0 y0;generalize w2.setCell ⟨w.heap.size+2,2,none⟩ (.int .i64 n)=W3 at *;have Y:=Hq ae;clear ae;go_wp2_with fail;refine (eI q (w.heap.size+1) _ Y.out.p).mono ?_;rintro ex w4 ⟨rfl,rfl⟩;have hR:=Y.out;have x0:=hR.c.c 0 _ rfl;have x1:=hR.c.c 1 _ rfl;have x2:=hR.c.c 2 _ rfl;have x3:=hR.c.c 3 _ rfl;have x4:=hR.c.c 4 _ rfl;have x5:=hR.c.c 5 _ rfl;have x6:=hR.c.c 6 _ rfl;have x7:=hR.c.c 7 _ rfl;have x8:=hR.c.c 8 _ rfl;have z0:=hR.z.c 0 _ rfl;have z1:=hR.z.c 1 _ rfl;have z2:=hR.z.c 2 _ rfl;have z3:=hR.z.c 3 _ rfl;have z4:=hR.z.c 4 _ rfl;have z5:=hR.z.c 5 _ rfl;have z6:=hR.z.c 6 _ rfl;have z7:=hR.z.c 7 _ rfl;have z8:=hR.z.c 8 _ rfl;have f0:=hR.z.f 0 (by simp);have f1:=hR.z.f 1 (by simp);have f2:=hR.z.f 2 (by simp);have f3:=hR.z.f 3 (by simp);have f4:=hR.z.f 4 (by simp);have f5:=hR.z.f 5 (by simp);have f6:=hR.z.f 6 (by simp);have f7:=hR.z.f 7 (by simp);have f8:=hR.z.f 8 (by simp)
 have yz:=hR.z.ty.lt;have yx:=hR.c.ty.lt;clear hR
 cases V:(!q.wrong&&q.rest.toList.isEmpty)
 ·have af:¬(q.wrong=false∧q.rest=ByteArray.empty):=by
   rintro ⟨a1,a2⟩;rw[a1,(isEmpty_iff _).2 a2] at V;cases V
  have HF:Hid ((¬∃h,Bx.IsCh b h)∧¬∃s,Bx.StFit s∧Bx.wholeS s=b):=by
   refine⟨?_,?_⟩
   ·rw[HE.out,←Z.out,hk];exact Bx.body_N_no (by decide) HA.out af
   ·rintro ⟨s,_,e⟩;rw[HE.out,←Z.out] at e;exact Bx.whole_no ⟨h0,h1⟩ (by omega) ⟨s,e⟩
  clear V af;go_wp2_with fail;refine bodyPost_ret (v:=.tuple #[ctV ⟨Q,ByteArray.empty,n,Px.st0,0⟩ nilS nilS,.bool false]) (by simp[results,Tryz.results134,go_sem,z0,z1,z2,z3,z4,z5,z6,z7,z8,ct0,Px.st0]) rfl ⟨BodyR.no _ _ _ HF.out.1 HF.out.2 ⟨⟨none,0,rfl⟩,⟨none,0,rfl⟩⟩,dK Y.out.b (Nat.le_refl _) _ _ _ _ _ _ _ _ _⟩
 ·have U:q.wrong=false∧q.rest=ByteArray.empty:=by
   simp only [Bool.and_eq_true,Bool.not_eq_true'] at V
   exact⟨V.1,(isEmpty_iff _).1 V.2⟩
  have HF:Hid (IsC b ⟨Q,ByteArray.empty,n,Px.st0,0⟩):=by
   refine⟨⟨k,ByteArray.empty,n⟩,?_,Z.out.symm,rfl,rfl⟩;rw[HE.out,←Z.out];exact Bx.body_N_yes (by omega) HA.out U.1 U.2
  clear V U;go_wp2_with fail;refine bodyPost_ret (v:=.tuple #[ctV ⟨Q,ByteArray.empty,n,Px.st0,0⟩ nilS nilS,.bool true]) (by simp[results,Tryz.results134,go_sem,z0,z1,z2,z3,z4,z5,z6,z7,z8,ct0,Px.st0]) rfl ⟨BodyR.ch _ HF.out rfl rfl,dK Y.out.b (Nat.le_refl _) _ _ _ _ _ _ _ _ _⟩
set_option maxRecDepth 10000 in
set_option maxHeartbeats 0 in
theorem kK (b:ByteArray) (k:Int) (w:World) (hb:b.size≤100000) (h0:0≤k) (h1:k<256) (hk:k=75) (ht:Bx.txtP 1 ⟨b,false⟩=(Bx.b1 k,⟨b.extract 1 b.size,false⟩)) (he:b=Bx.b1 k++b.extract 1 b.size):
 Calls Tryz.prog 134 #[.string b] w fun e w'=>BodyR b w' e∧Below w.heap.size w w':=by
 have HT:=Hq ht;have HE:=Hq he;have aE:(b.extract 1 b.size).size≤100000:=by simp;omega
 have aT:((Bx.b1 k).toList==[84])=false:=dD (l:=[84]) (fun q=>by have:=(dC k h0 h1 84).1 q;simp at this;omega)
 have aS:((Bx.b1 k).toList==[67])=false:=dD (l:=[67]) (fun q=>by have:=(dC k h0 h1 67).1 q;simp at this;omega)
 have aV:((Bx.b1 k).toList==[83])=false:=dD (l:=[83]) (fun q=>by have:=(dC k h0 h1 83).1 q;simp at this;omega)
 have aO:((Bx.b1 k).toList==[68])=false:=dD (l:=[68]) (fun q=>by have:=(dC k h0 h1 68).1 q;simp at this;omega)
 have aQ:((Bx.b1 k).toList==[70])=false:=dD (l:=[70]) (fun q=>by have:=(dC k h0 h1 70).1 q;simp at this;omega)
 have aP:((Bx.b1 k).toList==[75])=true:=fA ((dC k h0 h1 75).2 (by rw[hk];rfl))
 have aR:((Bx.b1 k).toList==[90])=false:=dD (l:=[90]) (fun q=>by have:=(dC k h0 h1 90).1 q;simp at this;omega)
 have aG:Hid (∀Q,Q=Bx.b1 k→Q=Bx.b1 k):=fun _ h=>h
 generalize ah:Bx.b1 k=Q at *;have Z:=Hq ah;generalize hr:b.extract 1 b.size=r at *;have aU:=Hq hr;clear ah hr ht he aG;have hN:=RB.new w b
 go_enter Tryz.func134,Tryz.ntmps134
 go_upto_region 3 with fail;have ag:RB w (((w.alloc (.cells #[.string {data:= #[]},.string {data:= #[]},.int .i64 0,.string {data:= #[]},.int .i64 0,.int .i64 0,.slice none 0 0,.slice none 0 0,.int .i64 0] 163)).alloc (.cells #[.string b,.bool false] 207)).alloc (.cells #[.string {data:= #[]},.string {data:= #[]},.int .i64 0,.string {data:= #[]},.int .i64 0,.int .i64 0,.slice none 0 0,.slice none 0 0,.int .i64 0] 163)) ⟨b,false⟩ (ctC ct0 nilS nilS):=hN;clear hN;generalize ((w.alloc (.cells #[.string {data:= #[]},.string {data:= #[]},.int .i64 0,.string {data:= #[]},.int .i64 0,.int .i64 0,.slice none 0 0,.slice none 0 0,.int .i64 0] 163)).alloc (.cells #[.string b,.bool false] 207)).alloc (.cells #[.string {data:= #[]},.string {data:= #[]},.int .i64 0,.string {data:= #[]},.int .i64 0,.int .i64 0,.slice none 0 0,.slice none 0 0,.int .i64 0] 163)=W at *;have aa:=Hq ag;clear ag;go_wp2_with fail;refine (dW ⟨b,false⟩ (w.heap.size+1) 1 _ hb aa.out.p).mono ?_;rintro ex w1 ⟨rfl,d,J⟩;rw[HT.out] at d ⊢;simp only at d;have I:=aa.out.call d J;have s0:=I.c.c 0 _ rfl;have t0:=I.c.f 0 (by simp)
 have y0:=I.c.ty.lt;have G:=I.put 0 (.string Q) (by simp)
 clear d J I aa;go_upto_region 4 with fail;clear s0 t0 y0;generalize w1.setCell ⟨w.heap.size+2,0,none⟩ (.string Q)=W1 at *;have ab:=Hq G;have k0:=G.c.c 0 _ rfl;have yk:=G.c.ty.lt;have aH:=G.p.c0;have yp:=G.p.ty.lt;clear G;obtain⟨n,q,ad⟩:∃n q,Bx.numP 2 ⟨r,false⟩=(n,q):=⟨_,_,dB _⟩;have HA:=Hq ad;clear ad;go_wp2_with fail;refine (dH ⟨r,false⟩ (w.heap.size+1) 2 _ _ rfl (by decide) aE ab.out.p).mono ?_
 rintro ex w2 ⟨rfl,d,J⟩;rw[HA.out] at d ⊢;simp only at d;have O:=ab.out.call d J;have s0:=O.c.c 2 _ rfl;have t0:=O.c.f 2 (by simp)
 have y0:=O.c.ty.lt;have ae:=O.put 2 (.int .i64 n) (by simp)
 clear d J O ab k0 yk aH yp;go_upto_region 18 with fail;clear s0 t0 y0;generalize w2.setCell ⟨w.heap.size+2,2,none⟩ (.int .i64 n)=W3 at *;have Y:=Hq ae;clear ae;go_wp2_with fail;refine (eI q (w.heap.size+1) _ Y.out.p).mono ?_;rintro ex w4 ⟨rfl,rfl⟩;have hR:=Y.out;have x0:=hR.c.c 0 _ rfl;have x1:=hR.c.c 1 _ rfl;have x2:=hR.c.c 2 _ rfl;have x3:=hR.c.c 3 _ rfl;have x4:=hR.c.c 4 _ rfl;have x5:=hR.c.c 5 _ rfl;have x6:=hR.c.c 6 _ rfl;have x7:=hR.c.c 7 _ rfl;have x8:=hR.c.c 8 _ rfl;have z0:=hR.z.c 0 _ rfl;have z1:=hR.z.c 1 _ rfl;have z2:=hR.z.c 2 _ rfl;have z3:=hR.z.c 3 _ rfl;have z4:=hR.z.c 4 _ rfl;have z5:=hR.z.c 5 _ rfl;have z6:=hR.z.c 6 _ rfl;have z7:=hR.z.c 7 _ rfl;have z8:=hR.z.c 8 _ rfl;have f0:=hR.z.f 0 (by simp);have f1:=hR.z.f 1 (by simp);have f2:=hR.z.f 2 (by simp);have f3:=hR.z.f 3 (by simp);have f4:=hR.z.f 4 (by simp);have f5:=hR.z.f 5 (by simp);have f6:=hR.z.f 6 (by simp);have f7:=hR.z.f 7 (by simp);have f8:=hR.z.f 8 (by simp)
 have yz:=hR.z.ty.lt;have yx:=hR.c.ty.lt;clear hR
 cases V:(!q.wrong&&q.rest.toList.isEmpty)
 ·have af:¬(q.wrong=false∧q.rest=ByteArray.empty):=by
   rintro ⟨a1,a2⟩;rw[a1,(isEmpty_iff _).2 a2] at V;cases V
  have HF:Hid ((¬∃h,Bx.IsCh b h)∧¬∃s,Bx.StFit s∧Bx.wholeS s=b):=by
   refine⟨?_,?_⟩
   ·rw[HE.out,←Z.out,hk];exact Bx.body_N_no (by decide) HA.out af
   ·rintro ⟨s,_,e⟩;rw[HE.out,←Z.out] at e;exact Bx.whole_no ⟨h0,h1⟩ (by omega) ⟨s,e⟩
  clear V af;go_wp2_with fail;refine bodyPost_ret (v:=.tuple #[ctV ⟨Q,ByteArray.empty,n,Px.st0,0⟩ nilS nilS,.bool false]) (by simp[results,Tryz.results134,go_sem,z0,z1,z2,z3,z4,z5,z6,z7,z8,ct0,Px.st0]) rfl ⟨BodyR.no _ _ _ HF.out.1 HF.out.2 ⟨⟨none,0,rfl⟩,⟨none,0,rfl⟩⟩,dK Y.out.b (Nat.le_refl _) _ _ _ _ _ _ _ _ _⟩
 ·have U:q.wrong=false∧q.rest=ByteArray.empty:=by
   simp only [Bool.and_eq_true,Bool.not_eq_true'] at V
   exact⟨V.1,(isEmpty_iff _).1 V.2⟩
  have HF:Hid (IsC b ⟨Q,ByteArray.empty,n,Px.st0,0⟩):=by
   refine⟨⟨k,ByteArray.empty,n⟩,?_,Z.out.symm,rfl,rfl⟩;rw[HE.out,←Z.out];exact Bx.body_N_yes (by omega) HA.out U.1 U.2
  clear V U;go_wp2_with fail;refine bodyPost_ret (v:=.tuple #[ctV ⟨Q,ByteArray.empty,n,Px.st0,0⟩ nilS nilS,.bool true]) (by simp[results,Tryz.results134,go_sem,z0,z1,z2,z3,z4,z5,z6,z7,z8,ct0,Px.st0]) rfl ⟨BodyR.ch _ HF.out rfl rfl,dK Y.out.b (Nat.le_refl _) _ _ _ _ _ _ _ _ _⟩
set_option maxRecDepth 10000 in
set_option maxHeartbeats 0 in
theorem kl (b:ByteArray) (k:Int) (w:World) (hb:b.size≤100000) (h0:0≤k) (h1:k<256) (hk:k=83) (ht:Bx.txtP 1 ⟨b,false⟩=(Bx.b1 k,⟨b.extract 1 b.size,false⟩)) (he:b=Bx.b1 k++b.extract 1 b.size):
 Calls Tryz.prog 134 #[.string b] w fun e w'=>BodyR b w' e∧Below w.heap.size w w':=by
 have HT:=Hq ht;have HE:=Hq he;have aE:(b.extract 1 b.size).size≤100000:=by simp;omega
 have aT:((Bx.b1 k).toList==[84])=false:=dD (l:=[84]) (fun q=>by have:=(dC k h0 h1 84).1 q;simp at this;omega)
 have aS:((Bx.b1 k).toList==[67])=false:=dD (l:=[67]) (fun q=>by have:=(dC k h0 h1 67).1 q;simp at this;omega)
 have aV:((Bx.b1 k).toList==[83])=true:=fA ((dC k h0 h1 83).2 (by rw[hk];rfl))
 have aO:((Bx.b1 k).toList==[68])=false:=dD (l:=[68]) (fun q=>by have:=(dC k h0 h1 68).1 q;simp at this;omega)
 have aQ:((Bx.b1 k).toList==[70])=false:=dD (l:=[70]) (fun q=>by have:=(dC k h0 h1 70).1 q;simp at this;omega)
 have aP:((Bx.b1 k).toList==[75])=false:=dD (l:=[75]) (fun q=>by have:=(dC k h0 h1 75).1 q;simp at this;omega)
 have aR:((Bx.b1 k).toList==[90])=false:=dD (l:=[90]) (fun q=>by have:=(dC k h0 h1 90).1 q;simp at this;omega)
 have aG:Hid (∀Q,Q=Bx.b1 k→Q=Bx.b1 k):=fun _ h=>h
 generalize ah:Bx.b1 k=Q at *;have Z:=Hq ah;generalize hr:b.extract 1 b.size=r at *;have aU:=Hq hr;clear ah hr ht he aG;have hN:=RB.new w b
 go_enter Tryz.func134,Tryz.ntmps134
 go_upto_region 3 with fail;have ag:RB w (((w.alloc (.cells #[.string {data:= #[]},.string {data:= #[]},.int .i64 0,.string {data:= #[]},.int .i64 0,.int .i64 0,.slice none 0 0,.slice none 0 0,.int .i64 0] 163)).alloc (.cells #[.string b,.bool false] 207)).alloc (.cells #[.string {data:= #[]},.string {data:= #[]},.int .i64 0,.string {data:= #[]},.int .i64 0,.int .i64 0,.slice none 0 0,.slice none 0 0,.int .i64 0] 163)) ⟨b,false⟩ (ctC ct0 nilS nilS):=hN;clear hN;generalize ((w.alloc (.cells #[.string {data:= #[]},.string {data:= #[]},.int .i64 0,.string {data:= #[]},.int .i64 0,.int .i64 0,.slice none 0 0,.slice none 0 0,.int .i64 0] 163)).alloc (.cells #[.string b,.bool false] 207)).alloc (.cells #[.string {data:= #[]},.string {data:= #[]},.int .i64 0,.string {data:= #[]},.int .i64 0,.int .i64 0,.slice none 0 0,.slice none 0 0,.int .i64 0] 163)=W at *;have aa:=Hq ag;clear ag;go_wp2_with fail;refine (dW ⟨b,false⟩ (w.heap.size+1) 1 _ hb aa.out.p).mono ?_;rintro ex w1 ⟨rfl,d,J⟩;rw[HT.out] at d ⊢;simp only at d;have I:=aa.out.call d J;have s0:=I.c.c 0 _ rfl;have t0:=I.c.f 0 (by simp)
 have y0:=I.c.ty.lt;have G:=I.put 0 (.string Q) (by simp)
 clear d J I aa;go_upto_region 4 with fail;clear s0 t0 y0;generalize w1.setCell ⟨w.heap.size+2,0,none⟩ (.string Q)=W1 at *;have ab:=Hq G;have k0:=G.c.c 0 _ rfl;have yk:=G.c.ty.lt;have aH:=G.p.c0;have yp:=G.p.ty.lt;clear G;obtain⟨n,q,ad⟩:∃n q,Bx.numP 2 ⟨r,false⟩=(n,q):=⟨_,_,dB _⟩;have HA:=Hq ad;clear ad;go_wp2_with fail;refine (dH ⟨r,false⟩ (w.heap.size+1) 2 _ _ rfl (by decide) aE ab.out.p).mono ?_
 rintro ex w2 ⟨rfl,d,J⟩;rw[HA.out] at d ⊢;simp only at d;have O:=ab.out.call d J;have s0:=O.c.c 2 _ rfl;have t0:=O.c.f 2 (by simp)
 have y0:=O.c.ty.lt;have ae:=O.put 2 (.int .i64 n) (by simp)
 clear d J O ab k0 yk aH yp;go_upto_region 18 with fail;clear s0 t0 y0;generalize w2.setCell ⟨w.heap.size+2,2,none⟩ (.int .i64 n)=W3 at *;have Y:=Hq ae;clear ae;go_wp2_with fail;refine (eI q (w.heap.size+1) _ Y.out.p).mono ?_;rintro ex w4 ⟨rfl,rfl⟩;have hR:=Y.out;have x0:=hR.c.c 0 _ rfl;have x1:=hR.c.c 1 _ rfl;have x2:=hR.c.c 2 _ rfl;have x3:=hR.c.c 3 _ rfl;have x4:=hR.c.c 4 _ rfl;have x5:=hR.c.c 5 _ rfl;have x6:=hR.c.c 6 _ rfl;have x7:=hR.c.c 7 _ rfl;have x8:=hR.c.c 8 _ rfl;have z0:=hR.z.c 0 _ rfl;have z1:=hR.z.c 1 _ rfl;have z2:=hR.z.c 2 _ rfl;have z3:=hR.z.c 3 _ rfl;have z4:=hR.z.c 4 _ rfl;have z5:=hR.z.c 5 _ rfl;have z6:=hR.z.c 6 _ rfl;have z7:=hR.z.c 7 _ rfl;have z8:=hR.z.c 8 _ rfl;have f0:=hR.z.f 0 (by simp);have f1:=hR.z.f 1 (by simp);have f2:=hR.z.f 2 (by simp);have f3:=hR.z.f 3 (by simp);have f4:=hR.z.f 4 (by simp);have f5:=hR.z.f 5 (by simp);have f6:=hR.z.f 6 (by simp);have f7:=hR.z.f 7 (by simp);have f8:=hR.z.f 8 (by simp)
 have yz:=hR.z.ty.lt;have yx:=hR.c.ty.lt;clear hR
 cases V:(!q.wrong&&q.rest.toList.isEmpty)
 ·have af:¬(q.wrong=false∧q.rest=ByteArray.empty):=by
   rintro ⟨a1,a2⟩;rw[a1,(isEmpty_iff _).2 a2] at V;cases V
  have HF:Hid ((¬∃h,Bx.IsCh b h)∧¬∃s,Bx.StFit s∧Bx.wholeS s=b):=by
   refine⟨?_,?_⟩
   ·rw[HE.out,←Z.out,hk];exact Bx.body_N_no (by decide) HA.out af
   ·rintro ⟨s,_,e⟩;rw[HE.out,←Z.out] at e;exact Bx.whole_no ⟨h0,h1⟩ (by omega) ⟨s,e⟩
  clear V af;go_wp2_with fail;refine bodyPost_ret (v:=.tuple #[ctV ⟨Q,ByteArray.empty,n,Px.st0,0⟩ nilS nilS,.bool false]) (by simp[results,Tryz.results134,go_sem,z0,z1,z2,z3,z4,z5,z6,z7,z8,ct0,Px.st0]) rfl ⟨BodyR.no _ _ _ HF.out.1 HF.out.2 ⟨⟨none,0,rfl⟩,⟨none,0,rfl⟩⟩,dK Y.out.b (Nat.le_refl _) _ _ _ _ _ _ _ _ _⟩
 ·have U:q.wrong=false∧q.rest=ByteArray.empty:=by
   simp only [Bool.and_eq_true,Bool.not_eq_true'] at V
   exact⟨V.1,(isEmpty_iff _).1 V.2⟩
  have HF:Hid (IsC b ⟨Q,ByteArray.empty,n,Px.st0,0⟩):=by
   refine⟨⟨k,ByteArray.empty,n⟩,?_,Z.out.symm,rfl,rfl⟩;rw[HE.out,←Z.out];exact Bx.body_N_yes (by omega) HA.out U.1 U.2
  clear V U;go_wp2_with fail;refine bodyPost_ret (v:=.tuple #[ctV ⟨Q,ByteArray.empty,n,Px.st0,0⟩ nilS nilS,.bool true]) (by simp[results,Tryz.results134,go_sem,z0,z1,z2,z3,z4,z5,z6,z7,z8,ct0,Px.st0]) rfl ⟨BodyR.ch _ HF.out rfl rfl,dK Y.out.b (Nat.le_refl _) _ _ _ _ _ _ _ _ _⟩
set_option maxRecDepth 10000 in
set_option maxHeartbeats 0 in
theorem kt (b:ByteArray) (k:Int) (w:World) (hb:b.size≤100000) (h0:0≤k) (h1:k<256) (hk:k=68) (ht:Bx.txtP 1 ⟨b,false⟩=(Bx.b1 k,⟨b.extract 1 b.size,false⟩)) (he:b=Bx.b1 k++b.extract 1 b.size):
 Calls Tryz.prog 134 #[.string b] w fun e w'=>BodyR b w' e∧Below w.heap.size w w':=by
 have HT:=Hq ht;have HE:=Hq he;have aE:(b.extract 1 b.size).size≤100000:=by simp;omega
 have aT:((Bx.b1 k).toList==[84])=false:=dD (l:=[84]) (fun q=>by have:=(dC k h0 h1 84).1 q;simp at this;omega)
 have aS:((Bx.b1 k).toList==[67])=false:=dD (l:=[67]) (fun q=>by have:=(dC k h0 h1 67).1 q;simp at this;omega)
 have aV:((Bx.b1 k).toList==[83])=false:=dD (l:=[83]) (fun q=>by have:=(dC k h0 h1 83).1 q;simp at this;omega)
 have aO:((Bx.b1 k).toList==[68])=true:=fA ((dC k h0 h1 68).2 (by rw[hk];rfl))
 have aQ:((Bx.b1 k).toList==[70])=false:=dD (l:=[70]) (fun q=>by have:=(dC k h0 h1 70).1 q;simp at this;omega)
 have aP:((Bx.b1 k).toList==[75])=false:=dD (l:=[75]) (fun q=>by have:=(dC k h0 h1 75).1 q;simp at this;omega)
 have aR:((Bx.b1 k).toList==[90])=false:=dD (l:=[90]) (fun q=>by have:=(dC k h0 h1 90).1 q;simp at this;omega)
 have aG:Hid (∀Q,Q=Bx.b1 k→Q=Bx.b1 k):=fun _ h=>h
 generalize ah:Bx.b1 k=Q at *;have Z:=Hq ah;generalize hr:b.extract 1 b.size=r at *;have aU:=Hq hr;clear ah hr ht he aG;have hN:=RB.new w b
 go_enter Tryz.func134,Tryz.ntmps134
 go_upto_region 3 with fail;have ag:RB w (((w.alloc (.cells #[.string {data:= #[]},.string {data:= #[]},.int .i64 0,.string {data:= #[]},.int .i64 0,.int .i64 0,.slice none 0 0,.slice none 0 0,.int .i64 0] 163)).alloc (.cells #[.string b,.bool false] 207)).alloc (.cells #[.string {data:= #[]},.string {data:= #[]},.int .i64 0,.string {data:= #[]},.int .i64 0,.int .i64 0,.slice none 0 0,.slice none 0 0,.int .i64 0] 163)) ⟨b,false⟩ (ctC ct0 nilS nilS):=hN;clear hN;generalize ((w.alloc (.cells #[.string {data:= #[]},.string {data:= #[]},.int .i64 0,.string {data:= #[]},.int .i64 0,.int .i64 0,.slice none 0 0,.slice none 0 0,.int .i64 0] 163)).alloc (.cells #[.string b,.bool false] 207)).alloc (.cells #[.string {data:= #[]},.string {data:= #[]},.int .i64 0,.string {data:= #[]},.int .i64 0,.int .i64 0,.slice none 0 0,.slice none 0 0,.int .i64 0] 163)=W at *;have aa:=Hq ag;clear ag;go_wp2_with fail;refine (dW ⟨b,false⟩ (w.heap.size+1) 1 _ hb aa.out.p).mono ?_;rintro ex w1 ⟨rfl,d,J⟩;rw[HT.out] at d ⊢;simp only at d;have I:=aa.out.call d J;have s0:=I.c.c 0 _ rfl;have t0:=I.c.f 0 (by simp)
 have y0:=I.c.ty.lt;have G:=I.put 0 (.string Q) (by simp)
 clear d J I aa;go_upto_region 4 with fail;clear s0 t0 y0;generalize w1.setCell ⟨w.heap.size+2,0,none⟩ (.string Q)=W1 at *;have ab:=Hq G;have k0:=G.c.c 0 _ rfl;have yk:=G.c.ty.lt;have aH:=G.p.c0;have yp:=G.p.ty.lt;clear G;obtain⟨n,q,ad⟩:∃n q,Bx.numP 2 ⟨r,false⟩=(n,q):=⟨_,_,dB _⟩;have HA:=Hq ad;clear ad;go_wp2_with fail;refine (dH ⟨r,false⟩ (w.heap.size+1) 2 _ _ rfl (by decide) aE ab.out.p).mono ?_
 rintro ex w2 ⟨rfl,d,J⟩;rw[HA.out] at d ⊢;simp only at d;have O:=ab.out.call d J;have s0:=O.c.c 2 _ rfl;have t0:=O.c.f 2 (by simp)
 have y0:=O.c.ty.lt;have ae:=O.put 2 (.int .i64 n) (by simp)
 clear d J O ab k0 yk aH yp;go_upto_region 18 with fail;clear s0 t0 y0;generalize w2.setCell ⟨w.heap.size+2,2,none⟩ (.int .i64 n)=W3 at *;have Y:=Hq ae;clear ae;go_wp2_with fail;refine (eI q (w.heap.size+1) _ Y.out.p).mono ?_;rintro ex w4 ⟨rfl,rfl⟩;have hR:=Y.out;have x0:=hR.c.c 0 _ rfl;have x1:=hR.c.c 1 _ rfl;have x2:=hR.c.c 2 _ rfl;have x3:=hR.c.c 3 _ rfl;have x4:=hR.c.c 4 _ rfl;have x5:=hR.c.c 5 _ rfl;have x6:=hR.c.c 6 _ rfl;have x7:=hR.c.c 7 _ rfl;have x8:=hR.c.c 8 _ rfl;have z0:=hR.z.c 0 _ rfl;have z1:=hR.z.c 1 _ rfl;have z2:=hR.z.c 2 _ rfl;have z3:=hR.z.c 3 _ rfl;have z4:=hR.z.c 4 _ rfl;have z5:=hR.z.c 5 _ rfl;have z6:=hR.z.c 6 _ rfl;have z7:=hR.z.c 7 _ rfl;have z8:=hR.z.c 8 _ rfl;have f0:=hR.z.f 0 (by simp);have f1:=hR.z.f 1 (by simp);have f2:=hR.z.f 2 (by simp);have f3:=hR.z.f 3 (by simp);have f4:=hR.z.f 4 (by simp);have f5:=hR.z.f 5 (by simp);have f6:=hR.z.f 6 (by simp);have f7:=hR.z.f 7 (by simp);have f8:=hR.z.f 8 (by simp)
 have yz:=hR.z.ty.lt;have yx:=hR.c.ty.lt;clear hR
 cases V:(!q.wrong&&q.rest.toList.isEmpty)
 ·have af:¬(q.wrong=false∧q.rest=ByteArray.empty):=by
   rintro ⟨a1,a2⟩;rw[a1,(isEmpty_iff _).2 a2] at V;cases V
  have HF:Hid ((¬∃h,Bx.IsCh b h)∧¬∃s,Bx.StFit s∧Bx.wholeS s=b):=by
   refine⟨?_,?_⟩
   ·rw[HE.out,←Z.out,hk];exact Bx.body_N_no (by decide) HA.out af
   ·rintro ⟨s,_,e⟩;rw[HE.out,←Z.out] at e;exact Bx.whole_no ⟨h0,h1⟩ (by omega) ⟨s,e⟩
  clear V af;go_wp2_with fail;refine bodyPost_ret (v:=.tuple #[ctV ⟨Q,ByteArray.empty,n,Px.st0,0⟩ nilS nilS,.bool false]) (by simp[results,Tryz.results134,go_sem,z0,z1,z2,z3,z4,z5,z6,z7,z8,ct0,Px.st0]) rfl ⟨BodyR.no _ _ _ HF.out.1 HF.out.2 ⟨⟨none,0,rfl⟩,⟨none,0,rfl⟩⟩,dK Y.out.b (Nat.le_refl _) _ _ _ _ _ _ _ _ _⟩
 ·have U:q.wrong=false∧q.rest=ByteArray.empty:=by
   simp only [Bool.and_eq_true,Bool.not_eq_true'] at V
   exact⟨V.1,(isEmpty_iff _).1 V.2⟩
  have HF:Hid (IsC b ⟨Q,ByteArray.empty,n,Px.st0,0⟩):=by
   refine⟨⟨k,ByteArray.empty,n⟩,?_,Z.out.symm,rfl,rfl⟩;rw[HE.out,←Z.out];exact Bx.body_N_yes (by omega) HA.out U.1 U.2
  clear V U;go_wp2_with fail;refine bodyPost_ret (v:=.tuple #[ctV ⟨Q,ByteArray.empty,n,Px.st0,0⟩ nilS nilS,.bool true]) (by simp[results,Tryz.results134,go_sem,z0,z1,z2,z3,z4,z5,z6,z7,z8,ct0,Px.st0]) rfl ⟨BodyR.ch _ HF.out rfl rfl,dK Y.out.b (Nat.le_refl _) _ _ _ _ _ _ _ _ _⟩
end Go.Proofs.YtdajolpoiffimabGreatDoor
