import Derived.Deep.RegionLaw
import Derived.Deep.CutRange
import Derived.Test.YtdajolpoiffimabGreatDoorA6

namespace Go.Proofs.YtdajolpoiffimabGreatDoor
open Go.RowKit
theorem pY:(Tryz.prog.info? 58).map (fun i=>(i.zero,i.size,i.bytes))=some (some (.slice none 0 0),1,24):=by kernel_rfl
abbrev nilV:Value:=.slice none 0 0
theorem rE {w:World}{G g d n i:Nat}{e:TypeId}{I:List Value} (h:w.ownsRow G e 1 (.slice (some ⟨g,0,none⟩) n d) n I) (_hi:i<n) (u:Value):(w.setCell ⟨g,i,none⟩ u).ownsRow G e 1 (.slice (some ⟨g,0,none⟩) n d) n (I.set i u):=by
 have O:=h.1
 rcases h.2 with ⟨h2,_⟩|⟨g',Z,cur,V,hb,Y,J,hm,Q,U⟩
 ·cases h2
 ·cases V
  refine⟨by simpa using O,Or.inr ⟨g,d,cur.setIfInBounds i u,rfl,hb,heap_setCell_same _ _ _ _ _ _ Y,J,hm,by simpa using Q,?_⟩⟩
  rw[←U,Array.toList_setIfInBounds,List.take_set]
structure EachOwn (w:World) (base:Nat) (ev:Value) (E:List (List Int)):Prop where
 ex:∃cells:List Value,w.ownsRow base 58 1 ev E.length cells∧∀j,j<E.length→TRow w 3 (cells.getD j nilV) (E.getD j []).length ((E.getD j []).map (Value.int .i64))
theorem EachOwn.nil (w:World) (d:Nat):EachOwn w d nilV []:=⟨[],World.ownsRow_nil _ _ _ _,fun j h=>by simp at h⟩
theorem EachOwn.later {w I:World}{d:Nat}{G:Value}{E:List (List Int)} (h:EachOwn w d G E) (hb:Below w.heap.size w I):EachOwn I d G E:=by
 obtain⟨e,O,J⟩:=h.ex;exact⟨e,dV O hb,fun j Q=>(J j Q).later hb⟩
theorem EachOwn.form {w:World}{e:Nat}{G:Value}{E:List (List Int)} (h:EachOwn w e G E):∃J d,G=.slice J E.length d∧E.length≤d:=by
 obtain⟨I,O,_⟩:=h.ex;exact (RowAt.of_own O).form
theorem EachOwn.at {w:World}{G:Nat}{Q:Value}{E:List (List Int)} (h:EachOwn w G Q E) (i:Nat) (hi:i<E.length):
 ∃g e v,Q=.slice (some ⟨g,0,none⟩) E.length e∧G≤g∧g<w.heap.size∧w.cell? ⟨g,i,none⟩=some v∧w.frozen? ⟨g,i,none⟩=false∧RowAt w v (E.getD i []).length ((E.getD i []).map (Value.int .i64)):=by
 obtain⟨d,I,V⟩:=h.ex;obtain⟨g,e,rfl,hb,J⟩:=I.form (by omega)
 have U:=I.cellAt i (by omega)
 have hl:=I.1;have O:i<d.length:=by omega
 refine⟨g,e,d.getD i nilV,rfl,hb,J,?_,?_,(V i hi).1⟩
 ·rw[U];simp[O]
 ·rcases I.2 with ⟨h2,_⟩|⟨g',aa,cur,Y,_,Z,_⟩
  ·cases h2
  ·cases Y;simp[World.frozen?,Z]
theorem ki {w:World}{v:Value}{L:List Int} (h:RowAt w v L.length (L.map (Value.int .i64))) (I:0<L.length):∃b e d,v=.slice (some ⟨b,e,none⟩) L.length d∧L.length≤d∧w.cell? ⟨b,e,none⟩=some (.int .i64 (L.headD 0)):=by
 obtain⟨b,e,d,O,J,G⟩:=h.some' I;refine⟨b,e,d,O,J,?_⟩;have:=G 0 (by simpa using I)
 rw[Nat.add_zero] at this;rw[this]
 cases L with
 | nil=>simp at I
 | cons t r=>rfl
theorem EachOwn.lt {w:World}{d:Nat}{e:Value}{E:List (List Int)} (h:EachOwn w d e E):∀g,e.ownBlock=some g→g<w.heap.size:=by
 intro g G;obtain⟨I,Q,_⟩:=h.ex
 rcases Q.2 with ⟨rfl,_⟩|⟨J,U,cur,rfl,_,O,_⟩
 ·cases G
 ·have:J=g:=by simpa [Value.ownBlock] using G
  subst this;exact eM O
theorem EachOwn.put {w:World}{G g O i:Nat}{E:List (List Int)}{e:Value}{r:List Int} (h:EachOwn w G (.slice (some ⟨g,0,none⟩) E.length O) E) (hi:i<E.length) (Z:TRow w 3 e r.length (r.map (Value.int .i64))):
 EachOwn (w.setCell ⟨g,i,none⟩ e) G (.slice (some ⟨g,0,none⟩) E.length O) (E.set i r):=by
 obtain⟨d,V,hr⟩:=h.ex;have Y:d.length=E.length:=by have:=V.1;omega
 have J:∃cur fr,w.heap[g]? =some (.cells cur 58 fr):=by
  rcases V.2 with ⟨h2,_⟩|⟨g',ae,cur,hv,_,hh,_⟩
  ·cases h2
  ·cases hv;exact⟨_,_,hh⟩
 obtain⟨cur,fr,J⟩:=J;refine⟨d.set i e,?_,fun j hj=>?_⟩
 ·have:=rE V hi e
  simpa using this
 ·have Q:j<E.length:=by simpa using hj
  rw[Bx.getD_set hi]
  by_cases I:j=i
  ·subst I;rw[if_pos rfl];have U:(d.set j e).getD j nilV=e:=by simp[List.getD_eq_getElem?_getD,Y,Q]
   rw[U];exact TRow.setCell (cur:=cur) (fr:=fr) Z J (by decide) _
  ·rw[if_neg I]
   have U:(d.set i e).getD j nilV=d.getD j nilV:=by
    simp only [List.getD_eq_getElem?_getD,List.getElem?_set_ne (Ne.symm I)]
   rw[U];exact TRow.setCell (cur:=cur) (fr:=fr) (hr j Q) J (by decide) _
theorem EachOwn.tr {w:World}{G g I i:Nat}{v:Value}{E:List (List Int)} (h:EachOwn w G (.slice (some ⟨g,0,none⟩) E.length I) E) (hi:i<E.length) (Q:w.cell? ⟨g,i,none⟩=some v):TRow w 3 v (E.getD i []).length ((E.getD i []).map (Value.int .i64)):=by
 obtain⟨d,J,U⟩:=h.ex;have V:d.length=E.length:=by have:=J.1;omega
 have e:=J.cellAt i (by omega)
 have h2:i<d.length:=by omega
 rw[Q,List.getElem?_eq_getElem h2] at e
 have O:d.getD i nilV=v:=by
  rw[List.getD_eq_getElem?_getD,List.getElem?_eq_getElem h2]
  simpa using e.symm
 have:=U i hi;rw[O] at this;exact this
theorem TRow.rest {w:World}{e:TypeId}{b d I:Nat}{t:Int}{r:List Int} (h:TRow w e (.slice (some ⟨b,d,none⟩) (r.length+1) I) (t::r).length ((t::r).map (Value.int .i64))):TRow w e (.slice (some ⟨b,d+1,none⟩) r.length (I-1)) r.length (r.map (Value.int .i64)):=by
 obtain⟨_,_,_,J,O,G⟩:=h.1.some' (by simp)
 cases J
 refine⟨Or.inr ⟨b,d+1,I-1,rfl,by simp at O;omega,fun k Q=>?_⟩,fun U V Z Y J=>by cases J;exact h.2 _ _ _ _ rfl⟩
 have:=G (k+1) (by simpa using Q)
 rw[show d+1+k=d+(k+1) by omega,this];simp
theorem TRow.rest0 {w:World}{e:TypeId}{b d:Nat}{t:Int}{r:List Int} (h:TRow w e (.slice (some ⟨b,d,none⟩) (r.length+1) 1) (t::r).length ((t::r).map (Value.int .i64))):TRow w e (.slice (some ⟨b,d,none⟩) r.length 0) r.length (r.map (Value.int .i64)):=by
 obtain⟨_,_,_,G,I,J⟩:=h.1.some' (by simp)
 cases G
 have O:r=[]:=List.eq_nil_of_length_eq_zero (by rw[List.length_cons] at I;omega)
 subst O;exact⟨Or.inr ⟨b,d,0,rfl,by simp,fun k Q=>by simp at Q⟩,fun U V Z Y G=>by cases G;exact h.2 _ _ _ _ rfl⟩
theorem oZ {w w':World}{e Y:TypeId}{v v':Value}{n n' G O size J:Nat}{d I:List Value} (h:w.ownsRow G e size v n d) (ho:w.ownsRow O Y J v' n' I) (hg:w.grownBy w' v'.ownBlock) (ac:e≠Y):w'.ownsRow G e size v n d:=by
 refine⟨h.1,?_⟩
 rcases h.2 with h2|⟨g,Z,cur,hv,hb,V,h3⟩
 ·exact Or.inl h2
 ·refine Or.inr ⟨g,Z,cur,hv,hb,?_,h3⟩;rw[hg.block g (eM V)];exact V;intro U
  rcases ho.2 with ⟨rfl,_⟩|⟨g',aj,ad,rfl,_,Q,_⟩
  ·cases U
  ·have:g=g':=by simpa [Value.ownBlock] using U
   subst this;rw[V] at Q;cases Q;exact ac rfl
theorem EachOwn.grown {w Y:World}{d I size n':Nat}{J:TypeId}{O V:Value}{E:List (List Int)}{e:List Value} (h:EachOwn w d O E) (Q:w.ownsRow I J size V n' e) (U:w.grownBy Y V.ownBlock) (h1:58≠J) (h2:3≠J):EachOwn Y d O E:=by
 obtain⟨G,Z,hr⟩:=h.ex;exact⟨G,oZ Z Q U h1,fun j hj=>(hr j hj).grown Q U h2⟩
def sliceLen:Value→Nat
 | .slice _ n _=>n
 | _=>0
noncomputable def eachL (tab:ByteArray) (a m:Int):List (List Int):=(Bx.lns tab).map fun l=>Bx.cntL l a m
theorem fY (tab:ByteArray) (a m:Int):(eachL tab a m).length=tn tab:=by simp[eachL,Bx.lns,Bx.linesOf_len]
theorem j5 (tab:ByteArray) (a m:Int) (k:Nat) (h:k<(eachL tab a m).length):(eachL tab a m)[k]=Bx.cntL (lnOf (tl tab k)) a m:=by
 have h2:k<(Bx.linesOf tab).length:=by rw[fY] at h;rw[Bx.linesOf_len];exact h
 simp[eachL,Bx.lns,Bx.linesOf_at tab k h2]
theorem qZ (l:Bx.Ln) (a m:Int) (e:a≤m):(Bx.cntL l a m).length≤(m+1-a).toNat:=by
 have d:a≤Bx.frm l a m∧Bx.frm l a m≤m:=by unfold Bx.frm;split<;>omega
 have:=Bx.dl_len l.due (Bx.frm l a m) (m+1-Bx.frm l a m).toNat;unfold Bx.cntL Bx.dsL
 split
 ·simp;omega
 ·omega
theorem mr (L:List (List Int)) (k:Nat) (h:k<L.length):Bx.total (L.take (k+1))=Bx.total (L.take k)+L[k].length:=by
 rw[List.take_succ_eq_append_getElem h,Bx.total,Bx.total,List.map_append,List.sum_append];simp
theorem EachOwn.snoc {w Q:World}{e g G:Nat}{Y c:Value}{E:List (List Int)}{x:List Int}{d:List Value} (O:w.ownsRow e 58 1 Y E.length d) (hr:∀j,j<E.length→TRow w 3 (d.getD j nilV) (E.getD j []).length ((E.getD j []).map (Value.int .i64)))
 (hc:TRow w 3 c x.length (x.map (Value.int .i64))) (Z:w.grownBy Q Y.ownBlock) (V:Q.ownsRow e 58 1 (.slice (some ⟨g,0,none⟩) (E.length+1) G) (E.length+1) (d++[c])):EachOwn Q e (.slice (some ⟨g,0,none⟩) (E.length+1) G) (E++[x]):=by
 have hl:d.length=E.length:=by have:=O.1;omega
 refine⟨d++[c],by simpa using V,fun j hj=>?_⟩
 by_cases I:j<E.length
 ·have J:(d++[c]).getD j nilV=d.getD j nilV:=by simp only [List.getD_eq_getElem?_getD];rw[List.getElem?_append_left (by omega)]
  have U:(E++[x]).getD j []=E.getD j []:=by simp only [List.getD_eq_getElem?_getD];rw[List.getElem?_append_left I]
  rw[J,U];exact (hr j I).grown O Z (by decide)
 ·obtain rfl:j=E.length:=by simp at hj;omega
  have J:(d++[c]).getD E.length nilV=c:=by rw[←hl];simp
  have U:(E++[x]).getD E.length []=x:=by simp
  rw[J,U];exact hc.grown O Z (by decide)
set_option maxRecDepth 10000 in
set_option maxHeartbeats 0 in
theorem jH (s:Bx.St) (sl en:Value) (m:Int) (w:World) (hT:ChkR s.tab 0 0) (c1: -1≤s.clock) (c2:s.clock≤4223371679) (hA:Bx.ahead s m=true) (hS:StAt w s sl en):
 Calls Tryz.prog 146 #[stV s sl en,.int .i64 m] w fun e w'=>(∃v,e=.returned v∧w'.ownsRow w.heap.size 218 6 v (Bx.comesS s m).length ((Bx.comesS s m).flatMap fun p=>slC (Bx.slotOf p 0)))∧Below w.heap.size w w':=by
 obtain⟨i0,hi,bF,bw,bs⟩:=info_parts fP;obtain⟨j0,hj,cF,cd,cs⟩:=info_parts pY;obtain⟨ad,ap,rfl,cO⟩:=hS.sl.form;obtain⟨am,aa,rfl,cG⟩:=hS.en.form;have ca:0≤m∧m≤4223371679∧s.clock<m∧(s.clock= -1∨m-s.clock≤1500):=of_decide_eq_true hA;obtain⟨m0,m1,cm,cj⟩:=ca;have ha:0≤Bx.newA s m∧Bx.newA s m≤m∧m-Bx.newA s m≤1500:=by unfold Bx.newA;split<;>omega
 obtain⟨a,aZ⟩:∃a:Int,a=Bx.newA s m:=⟨_,rfl⟩;have bu:=Hq aZ;rw[←aZ] at ha;clear aZ cm cj hA;obtain⟨bV,_,aw⟩:=hT.lines;have a9:Hid (∀j:Nat,j<tn s.tab→LineP (tl s.tab j)∧(tl s.tab j).size≤300):=fun j hj=>⟨aw j hj,fG bV j (by have:=eQ s.tab;omega)⟩
 clear aw;have hI:=StIn.new w s (.slice ad s.slots.length ap) (.slice am s.ends.length aa);have aV:=dx w (stO s (.slice ad s.slots.length ap) (.slice am s.ends.length aa));have cx:w.heap.size<(w.alloc (stO s (.slice ad s.slots.length ap) (.slice am s.ends.length aa))).heap.size:=by simp
 have a5:=Hq (hS.later aV);clear hS
 go_enter Tryz.func146,Tryz.ntmps146
 go_wp2_with fail;refine (eU s _ _ _ hT a5.out).mono ?_;rintro e W ⟨⟨b,cP,rfl,hL⟩,ax⟩;have HL:=Hq hL;have HI:=Hq (hI.later ax);have HS:=Hq (a5.out.later ax);have HB:Hid (Below w.heap.size w W):=aV.trans (ax.mono (by omega))
 have dp:w.heap.size<W.heap.size:=by have:=ax.size;omega
 have aT:Hid ((eachL s.tab a m).length=tn s.tab):=fY s.tab a m
 have bJ:Hid (∀k (h:k<tn s.tab),(eachL s.tab a m).take (k+1)=(eachL s.tab a m).take k++[Bx.cntL (lnOf (tl s.tab k)) a m]):=by
  intro k h;have h2:k<(eachL s.tab a m).length:=by rw[fY];exact h
  rw[List.take_succ_eq_append_getElem h2,j5 s.tab a m k h2]
 have h4:tn s.tab≤4:=by
  rcases hT with ⟨_,_,h2⟩|⟨_,_,_,h2⟩|⟨_,_,_,_,_,_,_,h2⟩|⟨_,_,_,_,_,h2⟩|⟨_,x,_,_,_,_⟩
  ·omega
  ·omega
  ·omega
  ·omega
  ·omega
 clear hL hI aV ax a5 cx;go_wp2_with fail
 go_loopw [5,7,8] (fun ev nv iv wr=>∃k:Nat,k≤tn s.tab∧iv=.int .i64 k∧nv=.int .i64 (Bx.total ((eachL s.tab a m).take k):Nat)∧Bx.total ((eachL s.tab a m).take k)≤k*1600∧EachOwn wr W.heap.size ev ((eachL s.tab a m).take k)∧Below W.heap.size W wr) (fun _ _ iv _=>tn s.tab-(intOf iv).toNat)
 case atStart=>exact⟨0,Nat.zero_le _,rfl,by simp[Bx.total],by simp[Bx.total],by simpa using EachOwn.nil _ _,Below.refl _ _⟩
 case round=>
  obtain⟨k,hk,rfl,rfl,a7,hE,Y⟩:=hrel;have cE:=Y.size
  by_cases ab:k<tn s.tab
  ·obtain⟨bj,ho,hr⟩:=hE.ex;have bD:=bJ.out k ab;have au:((eachL s.tab a m).take k).length=k:=by rw[List.length_take,aT.out];omega
   obtain⟨c0,co,ci,c3,c4⟩:=HI.out.later Y;have cl:wr.cell? ⟨b,k,none⟩=some (.string (tl s.tab k)):=cell_later Y (HL.out k ab);have bf:Hid (StAt wr.drew s (.slice ad s.slots.length ap) (.slice am s.ends.length aa)):=(HS.out.later Y).later (Below.refl _ _).drew;have b1:(0:Int)≤(k:Int):=by omega
   have b2:(k:Int)<(tn s.tab:Int):=by omega
   have bA:Hid (∀W':World,StAt W' s (.slice ad s.slots.length ap) (.slice am s.ends.length aa)→Calls Tryz.prog 180 #[stV s (.slice ad s.slots.length ap) (.slice am s.ends.length aa),.string (tl s.tab k),.int .i64 m] W' fun e w'=>(∃v,e=.returned v∧TRow w' 3 v (Bx.cntL (lnOf (tl s.tab k)) a m).length ((Bx.cntL (lnOf (tl s.tab k)) a m).map (Value.int .i64)))∧Below W'.heap.size W' w'):=by
    intro W' h;rw[bu.out] at ha ⊢;exact mn s _ _ (tl s.tab k) m W' (a9.out k ab).2 (a9.out k ab).1 ha.1 ha.2.1 m1 (by omega) c1 c2 h
   have ds:(Bx.cntL (lnOf (tl s.tab k)) a m).length≤1600:=by have:=qZ (lnOf (tl s.tab k)) a m ha.2.1;omega
   go_wp2_with fail
   go_region_with ((go_at_call 180;refine (bA.out wr.drew bf.out).mono ?_;rintro e w2 ⟨⟨v,rfl,aG⟩,al⟩))
   all_goals
    have ar:Below wr.heap.size wr w2:=(Below.refl _ _).drew.trans al;have aq:=dV ho ar;have b0:Hid (∀j,j<((eachL s.tab a m).take k).length→TRow w2 3 (bj.getD j nilV) (((eachL s.tab a m).take k).getD j []).length ((((eachL s.tab a m).take k).getD j []).map (Value.int .i64))):=fun j hj=>(hr j hj).later ar
    have bc:Below W.heap.size W w2:=Y.trans (ar.mono Y.size);have aW:=bc.size;obtain⟨cA,bM,rfl,du⟩:=aG.1.form;have bm:=Hq aG;clear ho hr aG al ar Y cE c0 co ci c3 c4 cl bf bA hE
    have br:Hid (Bx.total ((eachL s.tab a m).take (k+1))=Bx.total ((eachL s.tab a m).take k)+(Bx.cntL (lnOf (tl s.tab k)) a m).length):=by
     have h2:k<(eachL s.tab a m).length:=by rw[fY];exact ab
     have h3:=mr (eachL s.tab a m) k h2;rw[j5 s.tab a m k h2] at h3;exact h3
    have cv:=Hq bD;have cq:=Hq au;rw[au] at aq;clear bD au;generalize Bx.cntL (lnOf (tl s.tab k)) a m=x at *;generalize cr:(eachL s.tab a m).take k=E at *;clear cr;go_wp2_with (at_builtin;refine wpList_append_lies _ rfl (.tmp 29) (.tmp 31) 246 rfl W.heap.size 58 j0 (.slice none 0 0) 1 24 Tryz.underlying246 hj cF cd cs rfl (by decide) _ _ _ rfl (aq.alloc _) ⟨w2.heap.size,0,none⟩ 1 1 [.slice cA x.length bM] rfl rfl ?c1 ?c2 (by decide) ?c3 ?c4 ?c5 _ rfl ?_)
    case c1=>exact cell_one_new _ _ _
    case c2=>intro u hu;simp at hu;subst hu;rfl
    case c3=>unfold maxLen;omega
    case c4=>omega
    case c5=>simp;omega
    ·intro g bO w4 O d _ aR;have B4:Hid (Below W.heap.size W w4):=(bc.alloc aW _).grown d (by simp;omega) (fun k' e=>(aq.lt k' e).1)
     have E4:Hid (EachOwn w4 W.heap.size (.slice (some ⟨g,0,none⟩) (k+1) bO) (E++[x])):=by
      unfold Hid;rw[←cq.out] at O aq ⊢;exact EachOwn.snoc (aq.alloc _) (fun j hj=>(b0.out j hj).later (dx _ _)) (bm.out.later (dx _ _)) d O
     clear O d aq bc;go_wp2_with fail;go_roundw
     case rel=>exact⟨k+1,by omega,by go_num,by rw[br.out];push_cast;rfl,by rw[br.out];omega,by rw[cv.out];exact E4.out,B4.out⟩
     case measure=>simp[intOf];omega
  ·have ck:k=tn s.tab:=by omega
   have bC:(eachL s.tab a m).take k=eachL s.tab a m:=List.take_of_length_le (by rw[aT.out];omega)
   rw[bC] at a7 hE ⊢
   have HG:Hid (∀E out,Bx.Mg (eachL s.tab a m) E out→out.length=Bx.total (eachL s.tab a m)→out=Bx.comesS s m):=by
    intro E out M h;have:=Bx.Mg.comes (ls:=Bx.lns s.tab) ha.2.1 M h;rw[this,bu.out];rfl
   have cD:Hid (Bx.Mg (eachL s.tab a m) (eachL s.tab a m) []):=Bx.Mg.start (Bx.each_asc ha.2.1);have aL:=aT.out;clear bC bJ;obtain⟨T,a6⟩:∃T:Nat,T=Bx.total (eachL s.tab a m):=⟨_,rfl⟩;rw[←a6] at a7 HG ⊢;have bE:=Hq a6;clear a6;generalize eachL s.tab a m=E0 at *;rename World=>W2
   have cn:=Hq hE;obtain⟨cC,ai,rfl,cH⟩:=hE.form;have bx:=hE.lt;have aK:Hid (Below w.heap.size w W2):=HB.out.trans (Y.mono (by omega))
   have dw:T≤8000:=by omega
   clear hE ab Y HS HI HL a9 HB hk;go_wp2_with fail
   go_loopw [10] (fun ov wr=>∃E out,Bx.Mg E0 E out∧EachOwn wr W.heap.size (.slice cC E0.length ai) E∧wr.ownsRow W2.heap.size 218 6 ov out.length (out.flatMap fun p=>slC (Bx.slotOf p 0))∧Below w.heap.size w wr∧W2.heap.size≤wr.heap.size) (fun ov _=>T-sliceLen ov)
   case atStart=>exact⟨E0,[],cD.out,cn.out,World.ownsRow_nil _ _ _ _,aK.out,Nat.le_refl _⟩
   case round=>
    obtain⟨E,out,M,hE,ah,al,aW⟩:=hrel;obtain⟨bH,a3,rfl,dn⟩:=(RowAt.of_own ah).form;have dq:out.length≤T:=by have:=M.tot;rw[bE.out];omega
    by_cases ab:out.length<T
    ·obtain⟨G,t,r,aj,aO,aY,bI⟩:=M.more (by rw[←bE.out];exact ab)
     have a2:=M.len;have q1:(out.length:Int)<(T:Int):=by omega
     obtain⟨g,cQ,v0,ag,dr,cS,-⟩:=hE.at G aj
     injection ag with h1 h2 h3
     subst h1;subst h3;rw[←a2] at hE aL;have HE:=Hq hE;have HO:=Hq ah;have HM:=Hq M;have aM:=Hq aO;have bK:=Hq aY;have dm:E.length≤4:=by omega
     rw[←a2];have dv:=Hq bI;rename World=>W3
     have bG:g<W2.heap.size:=bx g rfl;clear hE ah M aO aY h2 a2 bI aL ck bx;go_wp2_with fail
     go_loopw [11,12] (fun bv iv wr=>∃k j:Nat,k≤E.length∧iv=.int .i64 k∧bv=.int .i64 (Bx.bestK E k)∧wr=W3.drewN j) (fun _ iv _=>E.length-(intOf iv).toNat)
     case atStart=>exact⟨0,0,Nat.zero_le _,rfl,rfl,rfl⟩
     case round=>
      obtain⟨k,j,hk,rfl,rfl,rfl⟩:=hrel
      by_cases b5:k<E.length
      ·obtain⟨g',cI,vk,ag,_,_,dh,_,ay⟩:=HE.out.at k b5
       cases ag
       have b1:(0:Int)≤(k:Int):=by omega
       have b2:(k:Int)<(E.length:Int):=by omega
       have hB:=Bx.best_ok E k;obtain⟨cR,de⟩: -1≤Bx.bestK E k∧Bx.bestK E k<k:=⟨hB.lo,hB.hi⟩;have V:Hid (Bx.bestK E (k+1)=if 0<Bx.many E k∧(Bx.bestK E k<0∨Bx.hd E k<Bx.hd E (Bx.bestK E k).toNat) then (k:Int) else Bx.bestK E k):=rfl
       have af:0≤Bx.bestK E k→0<Bx.many E (Bx.bestK E k).toNat:=fun h=>(hB.has h).1
       clear hB;generalize Bx.bestK E k=B at *
       rcases Nat.eq_zero_or_pos (Bx.many E k) with hz|hp
       ·have HN:Hid (Bx.bestK E (k+1)=B):=by unfold Hid;rw[V.out,if_neg (by omega)]
        have bt:(E.getD k []).length=0:=hz;rw[bt] at ay;obtain⟨dj,bZ,rfl,_⟩:=ay.form;clear ay af hz bt V;go_wp2_with fail
        go_quiet (fail)
        go_wp2_with fail;go_roundw
        case rel=>exact⟨k+1,_,by omega,by go_num,by rw[HN.out],rfl⟩
        case measure=>simp[intOf];omega
       ·obtain⟨bk,bR,bZ,rfl,df,bz⟩:=ki ay hp;have bT:W3.cell? ⟨bk,bR,none⟩=some (.int .i64 (Bx.hd E k)):=bz;have dk:0<(E.getD k []).length:=hp;clear bz ay
        by_cases cb:B<0
        ·have HN:Hid (Bx.bestK E (k+1)=(k:Int)):=by unfold Hid;rw[V.out,if_pos ⟨hp,Or.inl cb⟩]
         have z1:(0:Int)<((E.getD k []).length:Int):=by omega
         generalize (E.getD k []).length=nk at *;clear af V bT hp;go_wp2_with fail
         go_quiet (fail)
         go_wp2_with fail;go_roundw
         case rel=>exact⟨k+1,_,by omega,by go_num,by rw[HN.out],rfl⟩
         case measure=>simp[intOf];omega
        ·obtain⟨Bn,rfl⟩:=Int.eq_ofNat_of_zero_le (show 0≤B by omega)
         have aN:=af (by omega)
         simp only [Int.toNat_natCast] at aN V
         obtain⟨g3,bY,vB,ag,_,_,aJ,_,ak⟩:=HE.out.at Bn (by omega)
         cases ag
         obtain⟨Z,I,Q,rfl,aI,aA⟩:=ki ak aN;have bX:W3.cell? ⟨Z,I,none⟩=some (.int .i64 (Bx.hd E Bn)):=aA;have z1:(0:Int)<((E.getD k []).length:Int):=by omega
         have db:0<(E.getD Bn []).length:=aN;have z2:(0:Int)<((E.getD Bn []).length:Int):=by omega
         have z3:(Bn:Int)<(E.length:Int):=by omega
         have z4:¬(Bn:Int)<0:=by omega
         clear aA ak af aN
         by_cases av:Bx.hd E k<Bx.hd E Bn
         ·have HN:Hid (Bx.bestK E (k+1)=(k:Int)):=by unfold Hid;rw[V.out,if_pos ⟨hp,Or.inr av⟩]
          have z5:decide (Bx.hd E k<Bx.hd E Bn)=true:=decide_eq_true av;clear V hp;generalize (E.getD k []).length=nk at *;generalize (E.getD Bn []).length=nB at *;generalize Bx.hd E k=x at *;generalize Bx.hd E Bn=y at *;go_wp2_with fail
          go_quiet (fail)
          go_wp2_with fail;go_roundw
          case rel=>exact⟨k+1,_,by omega,by go_num,by rw[HN.out],rfl⟩
          case measure=>simp[intOf];omega
         ·have HN:Hid (Bx.bestK E (k+1)=(Bn:Int)):=by
           unfold Hid;rw[V.out,if_neg (fun h=>by rcases h.2 with h|h<;>omega)]
          have z5:decide (Bx.hd E k<Bx.hd E Bn)=false:=decide_eq_false av;clear V hp av;generalize (E.getD k []).length=nk at *;generalize (E.getD Bn []).length=nB at *;generalize Bx.hd E k=x at *;generalize Bx.hd E Bn=y at *;go_wp2_with fail
          go_quiet (fail)
          go_wp2_with fail;go_roundw
          case rel=>exact⟨k+1,_,by omega,by go_num,by rw[HN.out],rfl⟩
          case measure=>simp[intOf];omega
      ·obtain rfl:k=E.length:=by omega
       rw[aM.out];obtain⟨g3,bY,vB,ag,_,_,aJ,di,ak⟩:=HE.out.at G aj
       cases ag
       have bg:E.getD G []=t::r:=by rw[List.getD_eq_getElem?_getD,List.getElem?_eq_getElem aj,bK.out];rfl
       rw[bg] at ak;obtain⟨Z,I,Q,rfl,aI,aA⟩:=ki ak (by simp)
       have bX:W3.cell? ⟨Z,I,none⟩=some (.int .i64 t):=aA;have MN:Hid (Bx.Mg E0 (E.set G r) (out++[(G,t)])):=HM.out.next aj bK.out (by have:=Bx.best_ok E E.length;rw[aM.out] at this;exact this)
       have z1:(0:Int)<((r.length+1:Nat):Int):=by omega
       have z3:(G:Int)<(E.length:Int):=by omega
       have z4:(0:Int)≤(G:Int):=by omega
       have ao:=HE.out.tr aj aJ;rw[bg] at ao;simp only [List.length_cons] at aJ aI ao;clear ak aA bg
       by_cases bq:Q=1
       ·subst bq;have b9:r=[]:=List.eq_nil_of_length_eq_zero (by omega)
        subst b9;have EN:Hid (EachOwn ((W3.drewN j).setCell ⟨g,G,none⟩ (.slice (some ⟨Z,I,none⟩) 0 0)) W.heap.size (.slice (some ⟨g,0,none⟩) E.length ai) (E.set G [])):=(HE.out.later (below_drewN (Below.refl _ _) j)).put (r:=[]) aj ((TRow.rest0 ao).later (below_drewN (Below.refl _ _) j));simp only [List.length_nil,Nat.zero_add] at aJ aI z1;clear ao;have a4:Hid (((W3.drewN j).setCell ⟨g,G,none⟩ (.slice (some ⟨Z,I,none⟩) 0 0)).ownsRow W2.heap.size 218 6 (.slice bH out.length a3) out.length (out.flatMap fun p=>slC (Bx.slotOf p 0))):=ownsRow_setCell_below (fD HO.out j) bG _
        have J:=a4.out;have az:Below w.heap.size w ((W3.drewN j).setCell ⟨g,G,none⟩ (.slice (some ⟨Z,I,none⟩) 0 0)):=(below_drewN al j).setCell (by show w.heap.size≤g;omega) _
        have U:((W3.drewN j).setCell ⟨g,G,none⟩ (.slice (some ⟨Z,I,none⟩) 0 0)).heap.size=W3.heap.size:=by simp
        go_wp2_with (at_builtin;refine wpList_append_lies _ rfl (.tmp 87) (.tmp 93) 128 rfl W2.heap.size 218 i0 (.agg #[.int .i64 0,.int .i64 0,.int .i64 0,.int .i64 0,.int .i64 0,.bool false]) 6 48 Tryz.underlying128 hi bF bw bs rfl (by decide) _ _ _ rfl (J.alloc _) ⟨W3.heap.size,0,none⟩ 1 1 (slC (Bx.slotOf (G,t) 0)) rfl rfl ?c1 (fc _) (by decide) ?c3 ?c4 ?c5 _ rfl ?_)
        case c1=>have hn:=fg ((W3.drewN j).setCell ⟨g,G,none⟩ (.slice (some ⟨Z,I,none⟩) 0 0)) (Bx.slotOf (G,t) 0) 218;rw[U] at hn;exact hn
        case c3=>unfold maxLen;omega
        case c4=>omega
        case c5=>simp;omega
        ·intro g4 aE w4 O d _ aR;have B4:Hid (Below w.heap.size w w4):=(az.alloc (by rw[U];omega) _).grown d (by simp;omega) (fun k' e=>Nat.le_trans aK.out.size (J.lt k' e).1)
         have E4:Hid (EachOwn w4 W.heap.size (.slice (some ⟨g,0,none⟩) E.length ai) (E.set G [])):=(EN.out.later (dx _ _)).grown (J.alloc _) d (by decide) (by decide)
         have O4:Hid (w4.ownsRow W2.heap.size 218 6 (.slice (some ⟨g4,0,none⟩) (out.length+1) aE) (out++[(G,t)]).length ((out++[(G,t)]).flatMap fun p=>slC (Bx.slotOf p 0))):=by unfold Hid;simpa using O
         have S4:Hid (W2.heap.size≤w4.heap.size):=by have:=d.size;simp at this;unfold Hid;omega
         clear O d J az U;go_wp2_with fail;go_roundw
         case rel=>exact⟨_,_,MN.out,E4.out,O4.out,B4.out,S4.out⟩
         case measure=>simp[sliceLen];omega
       ·have z5:1<Q:=by omega
        have EN:Hid (EachOwn ((W3.drewN j).setCell ⟨g,G,none⟩ (.slice (some ⟨Z,I+1,none⟩) r.length (Q-1))) W.heap.size (.slice (some ⟨g,0,none⟩) E.length ai) (E.set G r)):=(HE.out.later (below_drewN (Below.refl _ _) j)).put aj ((TRow.rest ao).later (below_drewN (Below.refl _ _) j));clear ao;have a4:Hid (((W3.drewN j).setCell ⟨g,G,none⟩ (.slice (some ⟨Z,I+1,none⟩) r.length (Q-1))).ownsRow W2.heap.size 218 6 (.slice bH out.length a3) out.length (out.flatMap fun p=>slC (Bx.slotOf p 0))):=ownsRow_setCell_below (fD HO.out j) bG _
        have J:=a4.out;have az:Below w.heap.size w ((W3.drewN j).setCell ⟨g,G,none⟩ (.slice (some ⟨Z,I+1,none⟩) r.length (Q-1))):=(below_drewN al j).setCell (by show w.heap.size≤g;omega) _
        have U:((W3.drewN j).setCell ⟨g,G,none⟩ (.slice (some ⟨Z,I+1,none⟩) r.length (Q-1))).heap.size=W3.heap.size:=by simp
        go_wp2_with (at_builtin;refine wpList_append_lies _ rfl (.tmp 87) (.tmp 93) 128 rfl W2.heap.size 218 i0 (.agg #[.int .i64 0,.int .i64 0,.int .i64 0,.int .i64 0,.int .i64 0,.bool false]) 6 48 Tryz.underlying128 hi bF bw bs rfl (by decide) _ _ _ rfl (J.alloc _) ⟨W3.heap.size,0,none⟩ 1 1 (slC (Bx.slotOf (G,t) 0)) rfl rfl ?c1 (fc _) (by decide) ?c3 ?c4 ?c5 _ rfl ?_)
        case c1=>have hn:=fg ((W3.drewN j).setCell ⟨g,G,none⟩ (.slice (some ⟨Z,I+1,none⟩) r.length (Q-1))) (Bx.slotOf (G,t) 0) 218;rw[U] at hn;exact hn
        case c3=>unfold maxLen;omega
        case c4=>omega
        case c5=>simp;omega
        ·intro g4 aE w4 O d _ aR;have B4:Hid (Below w.heap.size w w4):=(az.alloc (by rw[U];omega) _).grown d (by simp;omega) (fun k' e=>Nat.le_trans aK.out.size (J.lt k' e).1)
         have E4:Hid (EachOwn w4 W.heap.size (.slice (some ⟨g,0,none⟩) E.length ai) (E.set G r)):=(EN.out.later (dx _ _)).grown (J.alloc _) d (by decide) (by decide)
         have O4:Hid (w4.ownsRow W2.heap.size 218 6 (.slice (some ⟨g4,0,none⟩) (out.length+1) aE) (out++[(G,t)]).length ((out++[(G,t)]).flatMap fun p=>slC (Bx.slotOf p 0))):=by unfold Hid;simpa using O
         have S4:Hid (W2.heap.size≤w4.heap.size):=by have:=d.size;simp at this;unfold Hid;omega
         clear O d J az U;go_wp2_with fail;go_roundw
         case rel=>exact⟨_,_,MN.out,E4.out,O4.out,B4.out,S4.out⟩
         case measure=>simp[sliceLen];omega
    ·have e1:out.length=T:=by omega
     have e2:Hid (out=Bx.comesS s m):=HG.out E out M e1;have q1:¬(out.length:Int)<(T:Int):=by omega
     have HO:=Hq ah;clear ah e1;go_wp2_with fail;go_ret;exact⟨⟨_,rfl,by rw[←e2.out];exact fM HO.out (by have:=aK.out.size;exact this)⟩,al⟩
theorem e9 (s:Bx.St) (L:List Bx.Sl) (G:Value) (n:Int) (how:ByteArray) (sl en:Value) (w:World) (V:s.ends.length≤10000) (hL:TRow w 218 G L.length (L.flatMap slC)) (hS:StAt w s sl en):
 Calls Tryz.prog 215 #[stV s sl en,G,.int .i64 n,.string how] w fun e U=>(∃d,e=.returned (stV (Bx.with' s L n how) G d)∧StAt U (Bx.with' s L n how) G d)∧Below w.heap.size w U:=by
 obtain⟨Q,J,I,_⟩:=hL.form
 by_cases O:0<n
 ·refine (qO s G L.length n how sl en w O Q J I V hS).mono ?_;rintro e w1 ⟨⟨d,rfl,hR⟩,hb⟩;refine⟨⟨d,rfl,⟨hL.later hb,?_⟩⟩,hb⟩
  show TRow w1 85 d (if 0<n then Bx.push s.ends ⟨n,how⟩ else s.ends).length ((if 0<n then Bx.push s.ends ⟨n,how⟩ else s.ends).flatMap enC)
  rw[if_pos O];exact hR
 ·refine (rL s G L.length n how sl en w (by omega) Q J I hS).mono ?_
  rintro e w1 ⟨rfl,hb⟩;refine⟨⟨en,rfl,⟨hL.later hb,?_⟩⟩,hb⟩
  show TRow w1 85 en (if 0<n then Bx.push s.ends ⟨n,how⟩ else s.ends).length ((if 0<n then Bx.push s.ends ⟨n,how⟩ else s.ends).flatMap enC)
  rw[if_neg O];exact hS.en.later hb
structure StW (W:World) (q:Nat) (s:Bx.St) (sl en:Value):Prop where
 st:StIn W q s sl en
 f:∀j:Nat,j<5→W.frozen? ⟨q,j,none⟩=false
 ty:Typed W q 130
theorem StW.new (w:World) (s:Bx.St) (sl en:Value):StW (w.alloc (stO s sl en)) w.heap.size s sl en:=
 ⟨StIn.new w s sl en,fun j _=>by simp[go_sem],Typed.new _ _ _⟩
theorem StW.below {W W':World}{q n:Nat}{s:Bx.St}{sl en:Value} (h:StW W q s sl en) (d:q<n) (hb:Below n W W'):StW W' q s sl en:=by
 obtain⟨⟨c0,c1,c2,c3,c4⟩,f,ty⟩:=h
 exact⟨⟨(hb.cell (p:=⟨q,0,none⟩) d).trans c0,(hb.cell (p:=⟨q,1,none⟩) d).trans c1,(hb.cell (p:=⟨q,2,none⟩) d).trans c2,(hb.cell (p:=⟨q,3,none⟩) d).trans c3,(hb.cell (p:=⟨q,4,none⟩) d).trans c4⟩,
  fun j e=>(hb.frozen (p:=⟨q,j,none⟩) d).trans (f j e),ty.below d hb⟩
theorem StW.later {W W':World}{q:Nat}{s:Bx.St}{sl en:Value} (h:StW W q s sl en) (hb:Below W.heap.size W W'):StW W' q s sl en:=h.below h.ty.lt hb
theorem StW.store {W:World}{q:Nat}{s:Bx.St}{sl en:Value} (h:StW W q s sl en) (t:Bx.St) (d e:Value):
 StW (((((W.setCell ⟨q,0,none⟩ (.string t.tab)).setCell ⟨q,1,none⟩ (.int .i64 t.clock)).setCell ⟨q,2,none⟩ (.int .i64 t.next)).setCell ⟨q,3,none⟩ d).setCell ⟨q,4,none⟩ e) q t d e:=by
 obtain⟨⟨c0,c1,c2,c3,c4⟩,f,ty⟩:=h;have f0:=f 0 (by decide);have f1:=f 1 (by decide);have f2:=f 2 (by decide);have w:=f 3 (by decide);have f4:=f 4 (by decide)
 refine⟨⟨?_,?_,?_,?_,?_⟩,fun j G=>?_,((((ty.setCell _ _ _).setCell _ _ _).setCell _ _ _).setCell _ _ _).setCell _ _ _⟩
 case refine_6=>
  have:j=0∨j=1∨j=2∨j=3∨j=4:=by omega
  rcases this with rfl|rfl|rfl|rfl|rfl<;>simp[go_sem,f0,f1,f2,w,f4]
 all_goals simp[go_sem,c0,c1,c2,c3,c4]
theorem StAt.store {W:World}{q:Nat}{s:Bx.St}{sl en:Value} (h:StAt W s sl en) (ty:Typed W q 130) (G d e w I:Value):
 StAt (((((W.setCell ⟨q,0,none⟩ G).setCell ⟨q,1,none⟩ d).setCell ⟨q,2,none⟩ e).setCell ⟨q,3,none⟩ w).setCell ⟨q,4,none⟩ I) s sl en:=
 ((((h.set ty (by decide) (by decide) _ _).set (ty.setCell _ _ _) (by decide) (by decide) _ _).set ((ty.setCell _ _ _).setCell _ _ _) (by decide) (by decide) _ _).set (((ty.setCell _ _ _).setCell _ _ _).setCell _ _ _) (by decide) (by decide) _ _).set ((((ty.setCell _ _ _).setCell _ _ _).setCell _ _ _).setCell _ _ _) (by decide) (by decide) _ _
theorem iS {tab:ByteArray} (d:ChkR tab 0 0):tn tab≤4:=by
 rcases d with ⟨_,_,h2⟩|⟨_,_,_,h2⟩|⟨_,_,_,_,_,_,_,h2⟩|⟨_,_,_,_,_,h2⟩|⟨_,x,_,_,_,_⟩<;>omega
set_option maxHeartbeats 0 in
theorem kC (s:Bx.St) (sl en:Value) (w:World) (hl:s.slots.length≤10000) (hS:StAt w s sl en):
 Calls Tryz.prog 182 #[stV s sl en] w fun e w'=>e=.returned (.int .i64 (Bx.running s:Nat))∧Below w.heap.size w w':=by
 obtain⟨Z,I,rfl,ag⟩:=hS.sl.form;obtain⟨O,d,rfl,af⟩:=hS.en.form;have G:=dx w (stO s (.slice Z s.slots.length I) (.slice O s.ends.length d));have hI:=StIn.new w s (.slice Z s.slots.length I) (.slice O s.ends.length d);have Y:=hS.sl.1.later G;clear hS
 go_enter Tryz.func182,Tryz.ntmps182
 go_wp2_with fail;generalize w.alloc (stO s (.slice Z s.slots.length I) (.slice O s.ends.length d))=W at *;have HR:=Hq Y;have HB:=Hq G;have c3:=hI.c3;clear hI Y G
 have ac:Hid (∀k,Bx.runK s k≤k):=by
  intro k
  induction k with
  | zero=>simp[Bx.runK]
  | succ k ih=>rw[Bx.runK];split<;>omega
 go_loop [3,4] (fun a i=>∃k:Nat,k≤s.slots.length∧i=.int .i64 k∧a=.int .i64 (Bx.runK s k:Nat)) (fun _ i=>s.slots.length-(intOf i).toNat)
 case atStart=>exact⟨0,Nat.zero_le _,rfl,rfl⟩
 case round=>
  obtain⟨k,hk,rfl,rfl⟩:=hrel;have hb:=ac.out k
  by_cases V:k<s.slots.length
  ·obtain⟨b,ae,al,hv,_,hc⟩:=HR.out.some' (by omega)
   cases hv
   have c0:W.cell? ⟨b,ae+k*6+5,none⟩=some (.bool s.slots[k].runs):=RowAt.cell ep hc k V 5 (by decide)
   rw[slAt_eq s k V] at c0;have U:Hid (Bx.runK s (k+1)=Bx.runK s k+(if (Bx.slAt s k).runs=true then 1 else 0)):=rfl
   clear hc;have b1:(0:Int)≤(k:Int):=by omega
   have b2:(k:Int)<(s.slots.length:Int):=by omega
   cases Q:(Bx.slAt s k).runs
   ·rw[Q] at c0;have J:Hid (Bx.runK s (k+1)=Bx.runK s k):=by unfold Hid;rw[U.out,Q];rfl
    clear U;go_wp2_with fail
    go_round
    case rel=>exact⟨k+1,by omega,by go_num,by rw[J.out]⟩
    case measure=>simp[intOf];omega
   ·rw[Q] at c0;have J:Hid (Bx.runK s (k+1)=Bx.runK s k+1):=by unfold Hid;rw[U.out,Q];rfl
    clear U;go_wp2_with fail
    go_round
    case rel=>exact⟨k+1,by omega,by go_num,by rw[J.out];push_cast;rfl⟩
    case measure=>simp[intOf];omega
  ·obtain rfl:k=s.slots.length:=by omega
   go_wp2_with fail;go_ret;exact⟨rfl,HB.out⟩
set_option maxHeartbeats 0 in
theorem mH (k:Int) (w:World):
 Calls Tryz.prog 224 #[.int .i64 k] w fun e Q=>e=.returned (.int .i64 (Bx.delay k))∧Q=w:=by
 have d:Hid (Bx.delay k=if k=1 then 2 else if k=2 then 4 else if k=3 then 8 else 10):=rfl
 cases J:(k==1)
 ·have n1:¬k=1:=by simpa using J
  rw[if_neg n1] at d
  cases O:(k==2)
  ·have n2:¬k=2:=by simpa using O
   rw[if_neg n2] at d
   cases I:(k==3)
   ·have G:¬k=3:=by simpa using I
    rw[if_neg G] at d;clear n1 n2 G
    go_enter Tryz.func224,Tryz.ntmps224
    go_wp2_with fail;go_ret;exact⟨dN d.out.symm,rfl⟩
   ·have G:k=3:=by simpa using I
    rw[if_pos G] at d;clear n1 n2 G
    go_enter Tryz.func224,Tryz.ntmps224
    go_wp2_with fail;go_ret;exact⟨dN d.out.symm,rfl⟩
  ·have n2:k=2:=by simpa using O
   rw[if_pos n2] at d;clear n1 n2
   go_enter Tryz.func224,Tryz.ntmps224
   go_wp2_with fail;go_ret;exact⟨dN d.out.symm,rfl⟩
 ·have n1:k=1:=by simpa using J
  rw[if_pos n1] at d;clear n1
  go_enter Tryz.func224,Tryz.ntmps224
  go_wp2_with fail;go_ret;exact⟨dN d.out.symm,rfl⟩
theorem iV (s:Bx.St) (i k:Nat):Bx.lockK s i (k+1)=(Bx.lockK s i k||(decide (¬k=i)&&(decide ((Bx.slAt s k).line=(Bx.slAt s i).line)&&(Bx.slAt s k).runs))):=rfl
theorem qe (s:Bx.St) (i k n:Nat) (h:Bx.lockK s i k=true) (w:k≤n):Bx.lockK s i n=true:=by
 induction n with
 | zero=>obtain rfl:k=0:=by omega
         exact h
 | succ n e=>
   by_cases d:k=n+1
   ·subst d;exact h
   ·rw[iV,e (by omega)];rfl
set_option maxHeartbeats 0 in
theorem gC (s:Bx.St) (i j:Nat) (sl en:Value) (w:World) (hT:ChkR s.tab 0 0) (hl:s.slots.length≤10000) (hi:i<s.slots.length) (aa:(Bx.slAt s i).line=(j:Int)+1) (hj:j<tn s.tab) (hS:StAt w s sl en):
 Calls Tryz.prog 181 #[stV s sl en,.int .i64 i] w fun e w'=>e=.returned (.bool (Bx.locked s i))∧Below w.heap.size w w':=by
 obtain⟨ad,ab,rfl,aM⟩:=hS.sl.form;obtain⟨ae,G,rfl,aK⟩:=hS.en.form;have ai:=dx w (stO s (.slice ad s.slots.length ab) (.slice ae s.ends.length G));have hI:=StIn.new w s (.slice ad s.slots.length ab) (.slice ae s.ends.length G);have al:=hS.later ai;have aU:w.heap.size<(w.alloc (stO s (.slice ad s.slots.length ab) (.slice ae s.ends.length G))).heap.size:=by simp
 clear hS;obtain⟨aw,_,O⟩:=hT.lines;have aG:Hid (LineP (tl s.tab j)):=O _ hj;have aF:(tl s.tab j).size≤300:=fG aw _ (by have:=eQ s.tab;omega)
 have HT:=Hq hT;have h4:=iS hT
 have ar:Hid (Bx.locked s i=((ob (tl s.tab j) 0==120)&&Bx.lockK s i s.slots.length)):=by
  unfold Hid Bx.locked Bx.opt;rw[aa,show ((j:Int)+1-1).toNat=j by omega]
 clear O hT
 go_enter Tryz.func181,Tryz.ntmps181
 go_wp2_with fail;generalize w.alloc (stO s (.slice ad s.slots.length ab) (.slice ae s.ends.length G))=W at *;refine (eU s _ _ _ HT.out al).mono ?_;rintro e w1 ⟨⟨bl,aQ,rfl,hL⟩,Q⟩;have ak:=Hq (al.sl.1.later Q);have HI:=Hq (hI.later Q);have c3:=HI.out.c3;have cl:w1.cell? ⟨bl,j,none⟩=some (.string (tl s.tab j)):=hL _ hj;have HB:Hid (Below w.heap.size w w1):=ai.trans (Q.mono (by omega))
 have aV:w.heap.size<w1.heap.size:=by have:=Q.size;omega
 obtain⟨b,ac,aT,hv,_,hc⟩:=ak.out.some' (by omega)
 cases hv
 have ci:w1.cell? ⟨b,ac+i*6+1,none⟩=some (.int .i64 ((j:Int)+1)):=by rw[←aa,←slAt_eq s i hi];exact RowAt.cell ep hc i hi 1 (by decide)
 have b1:(0:Int)≤(i:Int):=by omega
 have b2:(i:Int)<(s.slots.length:Int):=by omega
 have b3:(j:Int)<(tn s.tab:Int):=by omega
 have az:=Hq aa;clear hI al ai Q hL hc aa;go_wp2_with fail;refine (ew (tl s.tab j) _ aF aG.out).mono ?_;rintro e w2 ⟨rfl,V⟩;have aB:=Hq (ak.out.later V);have aj:Hid (Below w.heap.size w w2):=HB.out.trans (V.mono (by omega))
 have d3:=(HI.out.later V).c3;have di:w2.cell? ⟨b,ac+i*6+1,none⟩=some (.int .i64 ((j:Int)+1)):=cell_later V ci;clear c3 cl ci ak HI HB V
 cases ho:(ob (tl s.tab j) 0==120)
 ·have I:Hid (Bx.locked s i=false):=by unfold Hid;rw[ar.out,ho];rfl
  go_wp2_with fail
  go_loopw [9] (fun Z wr=>∃k n:Nat,k≤s.slots.length∧Z=.int .i64 k∧wr=w2.drewN n) (fun Z _=>s.slots.length-(intOf Z).toNat)
  case atStart=>exact⟨0,0,Nat.zero_le _,rfl,rfl⟩
  case round=>
   obtain⟨k,n,hk,rfl,rfl⟩:=hrel
   by_cases U:k<s.slots.length
   ·have y2:(k:Int)<(s.slots.length:Int):=by omega
    go_wp2_with fail
    go_quiet (fail)
    go_wp2_with fail;go_roundw
    case rel=>exact⟨k+1,_,by omega,by go_num,rfl⟩
    case measure=>simp[intOf];omega
   ·obtain rfl:k=s.slots.length:=by omega
    go_wp2_with fail;go_ret;exact⟨dz I.out.symm,below_drewN aj.out n⟩
 ·have I:Hid (Bx.locked s i=Bx.lockK s i s.slots.length):=by unfold Hid;rw[ar.out,ho];rfl
  go_wp2_with fail
  go_loopw [9] (fun Z wr=>∃k n:Nat,k≤s.slots.length∧Z=.int .i64 k∧wr=w2.drewN n∧Bx.lockK s i k=false) (fun Z _=>s.slots.length-(intOf Z).toNat)
  case atStart=>exact⟨0,0,Nat.zero_le _,rfl,rfl,rfl⟩
  case round=>
   obtain⟨k,n,hk,rfl,rfl,av⟩:=hrel;have au:=Hq av;clear av
   by_cases U:k<s.slots.length
   ·have y2:(k:Int)<(s.slots.length:Int):=by omega
    have y1:(0:Int)≤(k:Int):=by omega
    have d:=iV s i k;obtain⟨b',aP,aJ,hv,_,hc⟩:=aB.out.some' (by omega)
    cases hv
    have k1:w2.cell? ⟨b,ac+k*6+1,none⟩=some (.int .i64 (Bx.slAt s k).line):=by rw[←slAt_eq s k U];exact RowAt.cell ep hc k U 1 (by decide)
    have k5:w2.cell? ⟨b,ac+k*6+5,none⟩=some (.bool (Bx.slAt s k).runs):=by rw[←slAt_eq s k U];exact RowAt.cell ep hc k U 5 (by decide)
    clear hc;rw[au.out,Bool.false_or,az.out] at d
    by_cases Y:k=i
    ·have J:Hid (Bx.lockK s i (k+1)=false):=by unfold Hid;rw[d];simp[Y]
     have z1:((k:Int) !=(i:Int))=false:=by simp[Y]
     clear d k1 k5 Y;go_wp2_with fail
     go_quiet (fail)
     go_wp2_with fail;go_roundw
     case rel=>exact⟨k+1,_,by omega,by go_num,rfl,J.out⟩
     case measure=>simp[intOf];omega
    ·have z1:((k:Int) !=(i:Int))=true:=by simp;omega
     cases e2:((Bx.slAt s k).line==(j:Int)+1)
     ·have J:Hid (Bx.lockK s i (k+1)=false):=by
       have:¬(Bx.slAt s k).line=(j:Int)+1:=by simpa using e2
       unfold Hid;rw[d];simp[this]
      clear d k5 Y;go_wp2_with fail
      go_quiet (fail)
      go_wp2_with fail;go_roundw
      case rel=>exact⟨k+1,_,by omega,by go_num,rfl,J.out⟩
      case measure=>simp[intOf];omega
     ·have am:(Bx.slAt s k).line=(j:Int)+1:=by simpa using e2
      cases e3:(Bx.slAt s k).runs
      ·have J:Hid (Bx.lockK s i (k+1)=false):=by unfold Hid;rw[d];simp[e3]
       rw[e3] at k5;clear d Y am e3;go_wp2_with fail
       go_quiet (fail)
       go_wp2_with fail;go_roundw
       case rel=>exact⟨k+1,_,by omega,by go_num,rfl,J.out⟩
       case measure=>simp[intOf];omega
      ·have J:Hid (Bx.locked s i=true):=by
        unfold Hid;rw[I.out];refine qe s i (k+1) _ ?_ (by omega)
        rw[d];simp[Y,am,e3]
       rw[e3] at k5;clear d Y am e3;go_wp2_with fail
       go_quiet (fail)
       go_wp2_with fail;go_ret;exact⟨dz J.out.symm,below_drewN (below_drewN aj.out n) _⟩
   ·obtain rfl:k=s.slots.length:=by omega
    have J:Hid (Bx.locked s i=false):=by unfold Hid;rw[I.out,au.out]
    go_wp2_with fail;go_ret;exact⟨dz J.out.symm,below_drewN aj.out n⟩
abbrev stZ:Bx.St:=⟨{data:= #[]},0,0,[],[]⟩
theorem iC (s:Bx.St) (sl en:Value) (w:World) (G:s.slots.length≤10000) (hS:StAt w s sl en):
 Calls Tryz.prog 216 #[stV s sl en,.int .i64 (-1)] w fun e d=>(∃v,e=.returned v∧d.ownsRow w.heap.size 218 6 v s.slots.length (s.slots.flatMap slC))∧Below w.heap.size w d:=by
 have:=fy s (-1) sl en w G hS;rw[kj] at this;exact this
theorem gB {n:Nat}{w:World} (h:n≤w.heap.size) (o:Obj):n≤(w.alloc o).heap.size:=by simp;omega
structure ClkAt (w wr:World) (q:Nat) (t:Bx.St) (slk enk v:Value) (n:Nat) (cells:List Value):Prop where
 st:StW wr q t slk enk
 rs:StW wr (q+1) stZ nilV nilV
 rows:StAt wr t slk enk
 row:TRow wr 218 v n cells
 bel:Below w.heap.size w wr
theorem ClkAt.later {w W W':World}{q:Nat}{t:Bx.St}{G e v:Value}{n:Nat}{d:List Value} (h:ClkAt w W q t G e v n d) (hb:Below W.heap.size W W'):ClkAt w W' q t G e v n d:=
 ⟨h.st.later hb,h.rs.later hb,h.rows.later hb,h.row.later hb,h.bel.trans (hb.mono h.bel.size)⟩
theorem ClkAt.store {w W:World}{q:Nat}{t:Bx.St}{O I v:Value}{n:Nat}{d:List Value} (h:ClkAt w W q t O I v n d) (Q:w.heap.size≤q) (u:Bx.St) (e G:Value) (V:StAt W u e G):
 ClkAt w (((((W.setCell ⟨q,0,none⟩ (.string u.tab)).setCell ⟨q,1,none⟩ (.int .i64 u.clock)).setCell ⟨q,2,none⟩ (.int .i64 u.next)).setCell ⟨q,3,none⟩ e).setCell ⟨q,4,none⟩ G) q u e G v n d:=by
 have ty:=h.st.ty;have Y:q<q+1:=by omega
 refine⟨h.st.store u e G,?_,V.store ty _ _ _ _ _,?_,?_⟩
 ·obtain⟨⟨c0,c1,c2,c3,c4⟩,f,J⟩:=h.rs;refine⟨⟨?_,?_,?_,?_,?_⟩,fun j U=>?_,((((J.setCell _ _ _).setCell _ _ _).setCell _ _ _).setCell _ _ _).setCell _ _ _⟩
  case refine_6=>simp[go_sem,f j U]
  all_goals simp[go_sem,c0,c1,c2,c3,c4]
 ·refine TRow.set ?_ ((((ty.setCell _ _ _).setCell _ _ _).setCell _ _ _).setCell _ _ _) (by decide) _ _
  refine TRow.set ?_ (((ty.setCell _ _ _).setCell _ _ _).setCell _ _ _) (by decide) _ _
  refine TRow.set ?_ ((ty.setCell _ _ _).setCell _ _ _) (by decide) _ _
  refine TRow.set ?_ (ty.setCell _ _ _) (by decide) _ _
  exact TRow.set h.row ty (by decide) _ _
 ·repeat (refine Below.setCell ?_ (by simpa using Q) _)
  exact h.bel
theorem ClkAt.next {w W:World}{q:Nat}{t:Bx.St}{G e v:Value}{n:Nat}{d:List Value} (h:ClkAt w W q t G e v n d) (Y:w.heap.size≤q) (m:Int):
 ClkAt w (W.setCell ⟨q,2,none⟩ (.int .i64 m)) q {t with next:=m} G e v n d:=by
 have ty:=h.st.ty;obtain⟨⟨c0,c1,c2,c3,c4⟩,f,_⟩:=h.st;obtain⟨⟨r0,r1,O,Q,V⟩,U,J⟩:=h.rs;refine⟨⟨⟨?_,?_,?_,?_,?_⟩,fun j I=>?_,ty.setCell _ _ _⟩,⟨⟨?_,?_,?_,?_,?_⟩,fun j I=>?_,J.setCell _ _ _⟩,⟨h.rows.sl.set ty (by decide) _ _,h.rows.en.set ty (by decide) _ _⟩,h.row.set ty (by decide) _ _,h.bel.setCell (by simpa using Y) _⟩
 case refine_6=>simp[go_sem,f j I]
 case refine_12=>simp[go_sem,U j I]
 all_goals simp[go_sem,c0,c1,c2,c3,c4,r0,r1,O,Q,V]
theorem ClkAt.clk {w W:World}{q:Nat}{t:Bx.St}{G e v:Value}{n:Nat}{d:List Value} (h:ClkAt w W q t G e v n d) (Y:w.heap.size≤q) (m:Int):
 ClkAt w (W.setCell ⟨q,1,none⟩ (.int .i64 m)) q {t with clock:=m} G e v n d:=by
 have ty:=h.st.ty;obtain⟨⟨c0,c1,c2,c3,c4⟩,f,_⟩:=h.st;obtain⟨⟨r0,r1,O,Q,V⟩,U,J⟩:=h.rs;refine⟨⟨⟨?_,?_,?_,?_,?_⟩,fun j I=>?_,ty.setCell _ _ _⟩,⟨⟨?_,?_,?_,?_,?_⟩,fun j I=>?_,J.setCell _ _ _⟩,⟨h.rows.sl.set ty (by decide) _ _,h.rows.en.set ty (by decide) _ _⟩,h.row.set ty (by decide) _ _,h.bel.setCell (by simpa using Y) _⟩
 case refine_6=>simp[go_sem,f j I]
 case refine_12=>simp[go_sem,U j I]
 all_goals simp[go_sem,c0,c1,c2,c3,c4,r0,r1,O,Q,V]
set_option maxRecDepth 10000 in
set_option maxHeartbeats 0 in
theorem la (s:Bx.St) (sl en:Value) (m:Int) (w:World) (hO:Bx.StOk s) (hS:StAt w s sl en):
 Calls Tryz.prog 198 #[stV s sl en,.int .i64 m] w fun e w'=>(∃am al,e=.returned (.tuple #[stV (Bx.clockedP s m).1 am al,.bool (Bx.clockedP s m).2])∧StAt w' (Bx.clockedP s m).1 am al)∧Below w.heap.size w w':=by
 obtain⟨i0,hi,bn,bb,a9⟩:=info_parts fP;obtain⟨ad,I,rfl,cu⟩:=hS.sl.form;obtain⟨G,d,rfl,cr⟩:=hS.en.form;have HO:=Hq hO;have cD:=hO.n1;have cI:=hO.n2;have bc:=hO.c1;have bp:=hO.c2;have b0:=dx w (stO s (.slice ad s.slots.length I) (.slice G s.ends.length d));have b1:=dx (w.alloc (stO s (.slice ad s.slots.length I) (.slice G s.ends.length d))) (stO stZ nilV nilV);have A1:StW ((w.alloc (stO s (.slice ad s.slots.length I) (.slice G s.ends.length d))).alloc (stO stZ nilV nilV)) w.heap.size s (.slice ad s.slots.length I) (.slice G s.ends.length d):=(StW.new w s _ _).later b1
 have A2:StW ((w.alloc (stO s (.slice ad s.slots.length I) (.slice G s.ends.length d))).alloc (stO stZ nilV nilV)) (w.heap.size+1) stZ nilV nilV:=by
  have:=StW.new (w.alloc (stO s (.slice ad s.slots.length I) (.slice G s.ends.length d))) stZ nilV nilV
  simpa using this
 have A3:StAt ((w.alloc (stO s (.slice ad s.slots.length I) (.slice G s.ends.length d))).alloc (stO stZ nilV nilV)) s (.slice ad s.slots.length I) (.slice G s.ends.length d):=(hS.later b0).later b1;have A4:Below w.heap.size w ((w.alloc (stO s (.slice ad s.slots.length I) (.slice G s.ends.length d))).alloc (stO stZ nilV nilV)):=b0.trans (b1.mono (by simp))
 clear hS b0 b1
 go_enter Tryz.func198,Tryz.ntmps198
 go_wp2_with fail;generalize (w.alloc (stO s (.slice ad s.slots.length I) (.slice G s.ends.length d))).alloc (stO stZ nilV nilV)=W at *;refine (jB s m _ _ _ bc bp A3).mono ?_;rintro e w1 ⟨rfl,ar⟩;have B1:Hid (StW w1 w.heap.size s (.slice ad s.slots.length I) (.slice G s.ends.length d)):=A1.later ar;have B2:Hid (StW w1 (w.heap.size+1) stZ nilV nilV):=A2.later ar;have B3:Hid (StAt w1 s (.slice ad s.slots.length I) (.slice G s.ends.length d)):=A3.later ar;have B4:Hid (Below w.heap.size w w1):=A4.trans (ar.mono A4.size);clear A1 A2 A3 A4 ar
 cases hA:Bx.ahead s m
 ·have HP:Hid (Bx.clockedP s m=(s,false)):=by unfold Hid;rw[Bx.clockedP,hA];rfl
  have R1:=B1.out;have R2:=B2.out;have R4:Hid (StAt _ s (.slice ad s.slots.length I) (.slice G s.ends.length d)):=B3.out.store R2.ty (.string s.tab) (.int .i64 s.clock) (.int .i64 s.next) (.slice ad s.slots.length I) (.slice G s.ends.length d);obtain⟨⟨c0,c1,c2,c3,c4⟩,_,_⟩:=R1;obtain⟨⟨r0,r1,r2,r3,r4⟩,f,_⟩:=R2;have f0:=f 0 (by decide);have f1:=f 1 (by decide);have f2:=f 2 (by decide);have f3:=f 3 (by decide);have f4:=f 4 (by decide)
  clear f;go_wp2_with fail;refine bodyPost_ret (v:=.tuple #[stV s (.slice ad s.slots.length I) (.slice G s.ends.length d),.bool false]) (by simp[results,Tryz.results198,go_sem,r0,r1,r2,r3,r4]) rfl ?_
  rw[HP.out];refine⟨⟨_,_,rfl,R4.out⟩,?_⟩
  repeat (refine Below.setCell ?_ (by simp) _)
  exact B4.out
 ·have R1:=B1.out;obtain⟨⟨c0,c1,c2,c3,c4⟩,_,_⟩:=R1;go_wp2_with fail;refine (jH s _ _ m w1 HO.out.tab bc bp hA B3.out).mono ?_;rintro e w2 ⟨⟨v,rfl,af⟩,au⟩;clear c0 c1 c2 c3 c4
  have cG:(Bx.comesS s m).length≤100000:=by
   have h1:=Bx.comes_len (Bx.lns s.tab) (Bx.newA s m) m;have h2:(Bx.lns s.tab).length≤4:=by rw[Bx.lns,List.length_map,Bx.linesOf_len];exact gJ HO.out.tab
   have h3:0≤m∧m≤4223371679∧s.clock<m∧(s.clock= -1∨m-s.clock≤1500):=of_decide_eq_true hA;have h4:m-Bx.newA s m≤1500:=by unfold Bx.newA;split<;>omega
   have h5:(m+1-Bx.newA s m).toNat*(Bx.lns s.tab).length≤1501*4:=Nat.mul_le_mul (by omega) h2
   have h6:(Bx.comesS s m).length≤(m+1-Bx.newA s m).toNat*(Bx.lns s.tab).length:=h1;omega
  have HP:Hid (Bx.clockedP s m=if s.next+((Bx.comesS s m).length:Int)≤10000 then ({(Bx.comesS s m).foldl Bx.arr s with clock:=m},true) else (s,false)):=by unfold Hid;rw[Bx.clockedP,hA];rfl
  have D1:Hid (ClkAt w w2 w.heap.size s (.slice ad s.slots.length I) (.slice G s.ends.length d) v (Bx.comesS s m).length ((Bx.comesS s m).flatMap fun p=>slC (Bx.slotOf p 0))):=
   ⟨B1.out.later au,B2.out.later au,B3.out.later au,TRow.of_own af,B4.out.trans (au.mono B4.out.size)⟩
  obtain⟨cl,O,rfl,cH⟩:=(RowAt.of_own af).form;clear B1 B2 B3 B4 au af hA;obtain⟨⟨⟨c0,c1,c2,c3,c4⟩,_,_⟩,R2,R3,_,R5⟩:=D1.out;generalize cb:Bx.comesS s m=L at *;clear cb
  by_cases hN:s.next+(L.length:Int)≤10000
  ·have aU:Hid (Bx.clockedP s m=({L.foldl Bx.arr s with clock:=m},true)):=by unfold Hid;rw[HP.out,if_pos hN]
   have bf:Hid (∀k (h:k<L.length),(L.take (k+1)).foldl Bx.arr s=Bx.arr ((L.take k).foldl Bx.arr s) L[k]):=fun k h=>nW L s k h
   have ba:Hid (∀k,k≤L.length→((L.take k).foldl Bx.arr s).slots.length≤8∧((L.take k).foldl Bx.arr s).ends.length≤6∧((L.take k).foldl Bx.arr s).next=s.next+k):=by
    intro k hk;have:=ro (L.take k) s HO.out.sl HO.out.en;rw[List.length_take,Nat.min_eq_left hk] at this;exact this
   have q1:¬10000<s.next+(L.length:Int):=by omega
   clear HP R2 R3 R5;go_wp2_with fail
   go_loopw [8] (fun iv wr=>∃k:Nat,k≤L.length∧iv=.int .i64 k∧∃aB aD,ClkAt w wr w.heap.size ((L.take k).foldl Bx.arr s) aB aD (.slice cl L.length O) L.length (L.flatMap fun p=>slC (Bx.slotOf p 0))) (fun iv _=>L.length-(intOf iv).toNat)
   case atStart=>exact⟨0,Nat.zero_le _,rfl,_,_,D1.out⟩
   case round=>
    obtain⟨k,hk,rfl,aB,aD,hC⟩:=hrel;obtain⟨o1,o2,o3⟩:=ba.out k hk;have HN:=Hq o3;clear o3
    by_cases bh:k<L.length
    ·have hF:=bf.out k bh;have HF:=Hq hF;obtain⟨b,J,cw,hv,_,bo⟩:=hC.row.1.some' (by omega)
     cases hv
     have aa:=fun j hj=>RowAt.cell (f:=fun p=>slC (Bx.slotOf p 0)) (k:=6) (fun _=>rfl) bo k bh j hj
     have x0:wr.cell? ⟨b,J+k*6,none⟩=some (.int .i64 0):=aa 0 (by decide)
     have x1:wr.cell? ⟨b,J+k*6+1,none⟩=some (.int .i64 ((L[k].1:Int)+1)):=aa 1 (by decide)
     have x2:wr.cell? ⟨b,J+k*6+2,none⟩=some (.int .i64 L[k].2):=aa 2 (by decide)
     have x3:wr.cell? ⟨b,J+k*6+3,none⟩=some (.int .i64 1):=aa 3 (by decide)
     have x4:wr.cell? ⟨b,J+k*6+4,none⟩=some (.int .i64 L[k].2):=aa 4 (by decide)
     have x5:wr.cell? ⟨b,J+k*6+5,none⟩=some (.bool false):=aa 5 (by decide)
     clear aa bo hF;generalize L[k]=p at *;generalize hT:(L.take k).foldl Bx.arr s=T at *;clear hT;have HC:=Hq hC;obtain⟨ae,U,rfl,cA⟩:=hC.rows.sl.form;obtain⟨ah,ac,rfl,cF⟩:=hC.rows.en.form;obtain⟨⟨d0,d1,d2,d3,d4⟩,Q,_⟩:=hC.st;have g0:=Q 0 (by decide);have g1:=Q 1 (by decide);have g2:=Q 2 (by decide);have g3:=Q 3 (by decide);have g4:=Q 4 (by decide)
     have cC:w.heap.size<wr.heap.size:=hC.st.ty.lt;have y1:(0:Int)≤(k:Int):=by omega
     have y2:(k:Int)<(L.length:Int):=by omega
     clear hC Q
     by_cases h8:T.slots.length<8
     ·have z1:(T.slots.length:Int)<8:=by omega
      have HX:Hid (SlIn _ wr.heap.size (Bx.slotOf p T.next)):=SlIn.new wr (Bx.slotOf p T.next);have Y:Hid (ClkAt w _ w.heap.size T (.slice ae T.slots.length U) (.slice ah T.ends.length ac) (.slice (some ⟨b,J,none⟩) L.length O) L.length (L.flatMap fun p=>slC (Bx.slotOf p 0))):=HC.out.later (dx wr (slO (Bx.slotOf p T.next)))
      have ap:w.heap.size<(wr.alloc (slO (Bx.slotOf p T.next))).heap.size:=by simp;omega
      have aw:wr.heap.size<(wr.alloc (slO (Bx.slotOf p T.next))).heap.size:=by simp
      go_wp2_with fail
      change SlIn (wr.alloc (.cells #[.int .i64 T.next,.int .i64 ((p.1:Int)+1),.int .i64 p.2,.int .i64 1,.int .i64 p.2,.bool false] 218)) wr.heap.size (Bx.slotOf p T.next) at HX
      change ClkAt w (wr.alloc (.cells #[.int .i64 T.next,.int .i64 ((p.1:Int)+1),.int .i64 p.2,.int .i64 1,.int .i64 p.2,.bool false] 218)) w.heap.size T (.slice ae T.slots.length U) (.slice ah T.ends.length ac) (.slice (some ⟨b,J,none⟩) L.length O) L.length (L.flatMap fun p=>slC (Bx.slotOf p 0)) at Y
      change w.heap.size<(wr.alloc (.cells #[.int .i64 T.next,.int .i64 ((p.1:Int)+1),.int .i64 p.2,.int .i64 1,.int .i64 p.2,.bool false] 218)).heap.size at ap
      change wr.heap.size<(wr.alloc (.cells #[.int .i64 T.next,.int .i64 ((p.1:Int)+1),.int .i64 p.2,.int .i64 1,.int .i64 p.2,.bool false] 218)).heap.size at aw
      clear x0 x1 x2 x3 x4 x5 d0 d1 d2 d3 d4 g0 g1 g2 g3 g4 HC;generalize wr.alloc (.cells #[.int .i64 T.next,.int .i64 ((p.1:Int)+1),.int .i64 p.2,.int .i64 1,.int .i64 p.2,.bool false] 218)=Z at *;generalize wr.heap.size=xq at *;have bj:=HX;have bg:=Y;replace HX:Hid (SlIn Z xq (Bx.slotOf p T.next)):=bj;replace Y:Hid (ClkAt w Z w.heap.size T (.slice ae T.slots.length U) (.slice ah T.ends.length ac) (.slice (some ⟨b,J,none⟩) L.length O) L.length (L.flatMap fun p=>slC (Bx.slotOf p 0))):=bg
      clear bj bg;obtain⟨x0,x1,x2,x3,x4,x5⟩:=HX.out;obtain⟨⟨d0,d1,d2,d3,d4⟩,Q,_⟩:=Y.out.st;have g0:=Q 0 (by decide);have g1:=Q 1 (by decide);have g2:=Q 2 (by decide);have g3:=Q 3 (by decide);have g4:=Q 4 (by decide)
      have bm:T.slots.length+1≤maxLen:=by unfold maxLen;omega
      have bq:(T.slots.length+1)*48≤140737488355328:=by omega
      have aR:Hid (Bx.arr T p={Bx.with' T (T.slots++[Bx.slotOf p T.next]) 0 ByteArray.empty with next:=T.next+1}):=pE h8;clear Q HX;generalize Bx.slotOf p T.next=X at *
      go_cut [] from 43 to 49 (fun wx=>∃am al,ClkAt w wx w.heap.size (Bx.with' T (T.slots++[X]) 0 ByteArray.empty) am al (.slice (some ⟨b,J,none⟩) L.length O) L.length (L.flatMap fun p=>slC (Bx.slotOf p 0)))
      case first=>
       go_region_law ((first
        | (refine step_append_lies _ rfl (.tmp 45) (.tmp 47) 128 rfl Z.heap.size 218 i0 (.agg #[.int .i64 0,.int .i64 0,.int .i64 0,.int .i64 0,.int .i64 0,.bool false]) 6 48 Tryz.underlying128 hi bn bb a9 rfl (by decide) v _ _ rfl (af.alloc _) ⟨w2.heap.size,0,none⟩ 1 1 (slC X) rfl rfl (fg _ _ _) (fc X) (by decide) bm bq (gB V.size _) _ rfl ?_;intro g bw w3 aA ak _ bH;have ao:Below Z.heap.size Z w3:=(V.alloc V.size _).grown ak (by simp;exact Nat.le_succ_of_le V.size) (fun k' e=>(af.lt k' e).1);obtain⟨bW,bX⟩:=dU ao)
        | (refine step_append_lies _ rfl (.tmp 45) (.tmp 47) 128 rfl Z.heap.size 218 i0 (.agg #[.int .i64 0,.int .i64 0,.int .i64 0,.int .i64 0,.int .i64 0,.bool false]) 6 48 Tryz.underlying128 hi bn bb a9 rfl (by decide) v _ _ rfl aC ⟨Z.heap.size,0,none⟩ 1 1 (slC X) rfl rfl aT (fc X) (by decide) bm bq V.size _ rfl ?_;intro g bw w3 aA ak _ bH;have ao:Below Z.heap.size Z w3:=V.grown ak V.size (fun k' e=>(aC.lt k' e).1);obtain⟨bW,bX⟩:=dU ao)
        | (go_simp;go_at_call 216;refine (iC T (.slice ae T.slots.length U) (.slice ah T.ends.length ac) Z.drew ?hl ?hs).mono ?_;(case hl=>omega);(case hs=>exact Y.out.rows.later (Below.refl _ _).drew);rintro e w2 ⟨⟨v,rfl,af⟩,aq⟩;have V:Below Z.heap.size Z w2:=(Below.refl _ _).drew.trans aq;obtain⟨cc,bV⟩:=dU V;have bU:w.heap.size<w2.heap.size:=Nat.lt_of_lt_of_le ap V.size;have bR:xq<w2.heap.size:=Nat.lt_of_lt_of_le aw V.size)
        | (go_simp;go_at_call 216;refine (iC T (.slice ae T.slots.length U) (.slice ah T.ends.length ac) (Z.alloc (slO X)).drew ?hl ?hs).mono ?_;(case hl=>omega);(case hs=>exact (Y.out.rows.later (dx _ _)).later (Below.refl _ _).drew);rintro e w2 ⟨⟨v,rfl,af⟩,aq⟩;have V:Below Z.heap.size Z w2:=(dx _ _).drew.trans (aq.mono (by simp));obtain⟨cc,bV⟩:=dU V;have bU:w.heap.size<w2.heap.size:=Nat.lt_of_lt_of_le ap V.size;have bR:xq<w2.heap.size:=Nat.lt_of_lt_of_le aw V.size;have aC:=fM af (show Z.heap.size≤(Z.alloc (slO X)).drew.heap.size by simp);have aT:∀j u,(slC X)[j]? =some u→w2.cell? ((⟨Z.heap.size,0,none⟩:Addr).add j)=some u:=fun j u hj=>cell_later aq (fg Z X _ j u hj))
        | (go_simp;go_at_call 215;refine (e9 T (T.slots++[X]) _ 0 _ (.slice ae T.slots.length U) (.slice ah T.ends.length ac) w3 ?he ?hL ?hs).mono ?_;(case he=>omega);(case hL=>exact TRow.of_own (by simpa using aA));(case hs=>exact Y.out.rows.later ao);rintro e w4 ⟨⟨b9,rfl,aj⟩,bE⟩;have bk:Below Z.heap.size Z w4:=ao.trans (bE.mono ao.size);obtain⟨cE,cB⟩:=dU bk;obtain⟨b6,bO,rfl,bF⟩:=aj.en.form)))
       all_goals (go_wp2_with fail;go_meet;exact⟨_,_,(Y.out.later bk).store (Nat.le_refl _) (Bx.with' T (T.slots++[X]) 0 {data:= #[]}) _ _ aj⟩)
      case rest=>
       obtain⟨b8,cf,hK⟩:=hcut;obtain⟨ce,bK,rfl,_⟩:=hK.rows.sl.form;obtain⟨ca,bM,rfl,_⟩:=hK.rows.en.form;have HK:Hid (ClkAt w _ w.heap.size {Bx.with' T (T.slots++[X]) 0 ByteArray.empty with next:=T.next+1} _ _ (.slice (some ⟨b,J,none⟩) L.length O) L.length (L.flatMap fun p=>slC (Bx.slotOf p 0))):=hK.next (Nat.le_refl _) (T.next+1)
       have q2:IntKind.i64.wrap (T.next+1)=T.next+1:=by rw[IntKind.wrap_i64,HN.out];omega
       have e2:wc.cell? ⟨w.heap.size,2,none⟩=some (.int .i64 T.next):=hK.st.st.c2;have e3:=hK.st.f 2 (by decide)
       clear x0 x1 x2 x3 x4 x5 d0 d1 d2 d3 d4 g0 g1 g2 g3 g4 hK;go_wp2_with fail;go_roundw
       case rel=>exact⟨k+1,by omega,by go_num,_,_,by rw[HF.out,aR.out];exact HK.out⟩
       case measure=>simp[intOf];omega
     ·have z1:¬(T.slots.length:Int)<8:=by omega
      have Y:Hid (ClkAt w _ w.heap.size T (.slice ae T.slots.length U) (.slice ah T.ends.length ac) (.slice (some ⟨b,J,none⟩) L.length O) L.length (L.flatMap fun p=>slC (Bx.slotOf p 0))):=HC.out.later (dx wr (slO (Bx.slotOf p T.next)))
      have HX:Hid (SlIn _ wr.heap.size (Bx.slotOf p T.next)):=SlIn.new wr (Bx.slotOf p T.next);have ap:w.heap.size<(wr.alloc (slO (Bx.slotOf p T.next))).heap.size:=by simp;omega
      have b4:0<T.next:=by rw[HN.out];omega
      have aR:Hid (Bx.arr T p={Bx.with' T T.slots T.next Bx.hS with next:=T.next+1}):=rP h8 b4;have q2:IntKind.i64.wrap (T.next+1)=T.next+1:=by rw[IntKind.wrap_i64,HN.out];omega
      go_upto_region 14 with fail
      go_cut [] from 50 to 55 (fun wx=>∃am al,ClkAt w wx w.heap.size (Bx.with' T T.slots T.next Bx.hS) am al (.slice (some ⟨b,J,none⟩) L.length O) L.length (L.flatMap fun p=>slC (Bx.slotOf p 0)))
      case first=>
       go_wp2_with fail
       change ClkAt w (wr.alloc (.cells #[.int .i64 T.next,.int .i64 ((p.1:Int)+1),.int .i64 p.2,.int .i64 1,.int .i64 p.2,.bool false] 218)) w.heap.size T (.slice ae T.slots.length U) (.slice ah T.ends.length ac) (.slice (some ⟨b,J,none⟩) L.length O) L.length (L.flatMap fun p=>slC (Bx.slotOf p 0)) at Y
       refine (e9 T T.slots (.slice ae T.slots.length U) T.next _ (.slice ae T.slots.length U) (.slice ah T.ends.length ac) _ (by omega) Y.rows.sl Y.rows).mono ?_
       rintro e w4 ⟨⟨b9,rfl,aj⟩,cn⟩;obtain⟨b6,bO,rfl,bF⟩:=aj.en.form;have aO:=Y.later cn;have cd:Hid (ClkAt w _ w.heap.size _ _ _ (.slice (some ⟨b,J,none⟩) L.length O) L.length (L.flatMap fun p=>slC (Bx.slotOf p 0))):=aO.store (Nat.le_refl _) (Bx.with' T T.slots T.next Bx.hS) (.slice ae T.slots.length U) _ aj
       clear x0 x1 x2 x3 x4 x5 d0 d1 d2 d3 d4 g0 g1 g2 g3 g4 HC Y;obtain⟨⟨d0,d1,d2,d3,d4⟩,Q,_⟩:=aO.st;have g0:=Q 0 (by decide);have g1:=Q 1 (by decide);have g2:=Q 2 (by decide);have g3:=Q 3 (by decide);have g4:=Q 4 (by decide)
       clear Q aO;go_wp2_with fail;go_meet;exact⟨_,_,cd.out⟩
      case rest=>
       clear q2;obtain⟨b8,cf,hK⟩:=hcut;obtain⟨ce,bK,rfl,_⟩:=hK.rows.sl.form;obtain⟨ca,bM,rfl,_⟩:=hK.rows.en.form;have HK:Hid (ClkAt w _ w.heap.size {Bx.with' T T.slots T.next Bx.hS with next:=T.next+1} _ _ (.slice (some ⟨b,J,none⟩) L.length O) L.length (L.flatMap fun p=>slC (Bx.slotOf p 0))):=hK.next (Nat.le_refl _) (T.next+1)
       have q2:IntKind.i64.wrap (T.next+1)=T.next+1:=by rw[IntKind.wrap_i64,HN.out];omega
       have e2:wc.cell? ⟨w.heap.size,2,none⟩=some (.int .i64 T.next):=hK.st.st.c2;have e3:=hK.st.f 2 (by decide)
       clear x0 x1 x2 x3 x4 x5 d0 d1 d2 d3 d4 g0 g1 g2 g3 g4 hK;go_wp2_with fail;go_roundw
       case rel=>exact⟨k+1,by omega,by go_num,_,_,by rw[HF.out,aR.out];exact HK.out⟩
       case measure=>simp[intOf];omega
    ·obtain rfl:k=L.length:=by omega
     rw[List.take_length] at hC;have aP:=hC.clk (Nat.le_refl _) m;have bY:Hid (StAt _ {L.foldl Bx.arr s with clock:=m} aB aD):=aP.rows.store aP.rs.ty (.string (L.foldl Bx.arr s).tab) (.int .i64 m) (.int .i64 (L.foldl Bx.arr s).next) aB aD;have b3:=Hq hC.bel;obtain⟨b7,bA,rfl,_⟩:=hC.rows.sl.form;obtain⟨bS,bG,rfl,_⟩:=hC.rows.en.form;generalize L.foldl Bx.arr s=T at *;obtain⟨⟨d0,d1,d2,d3,d4⟩,Q,_⟩:=hC.st;have g1:=Q 1 (by decide)
     obtain⟨⟨r0,r1,r2,r3,r4⟩,f,_⟩:=hC.rs;have f0:=f 0 (by decide);have f1:=f 1 (by decide);have f2:=f 2 (by decide);have f3:=f 3 (by decide);have f4:=f 4 (by decide)
     clear f Q hC aP ba bf HN;go_wp2_with fail;refine bodyPost_ret (v:=.tuple #[stV {T with clock:=m} (.slice b7 T.slots.length bA) (.slice bS T.ends.length bG),.bool true]) (by simp[results,Tryz.results198,go_sem,r0,r1,r2,r3,r4]) rfl ?_
     rw[aU.out];refine⟨⟨_,_,rfl,bY.out⟩,?_⟩
     repeat (refine Below.setCell ?_ (by simp) _)
     exact b3.out
  ·have aU:Hid (Bx.clockedP s m=(s,false)):=by unfold Hid;rw[HP.out,if_neg hN]
   have q1:10000<s.next+(L.length:Int):=by omega
   have R4:Hid (StAt _ s (.slice ad s.slots.length I) (.slice G s.ends.length d)):=R3.store R2.ty (.string s.tab) (.int .i64 s.clock) (.int .i64 s.next) (.slice ad s.slots.length I) (.slice G s.ends.length d);have ci:=Hq R5;obtain⟨⟨r0,r1,r2,r3,r4⟩,f,_⟩:=R2;have f0:=f 0 (by decide);have f1:=f 1 (by decide);have f2:=f 2 (by decide);have f3:=f 3 (by decide);have f4:=f 4 (by decide)
   clear f R3 R5;go_wp2_with fail;refine bodyPost_ret (v:=.tuple #[stV s (.slice ad s.slots.length I) (.slice G s.ends.length d),.bool false]) (by simp[results,Tryz.results198,go_sem,r0,r1,r2,r3,r4]) rfl ?_
   rw[aU.out];refine⟨⟨_,_,rfl,R4.out⟩,?_⟩
   repeat (refine Below.setCell ?_ (by simp) _)
   exact ci.out
end Go.Proofs.YtdajolpoiffimabGreatDoor
