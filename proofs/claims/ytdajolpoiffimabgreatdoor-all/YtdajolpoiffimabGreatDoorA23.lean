import Derived.Test.YtdajolpoiffimabGreatDoorA15

namespace Go.Proofs.YtdajolpoiffimabGreatDoor
def slMB (s:Bx.St) (i:Nat) (x pv:Bx.Sl):Bool:=
 !decide (x.num<1)&& !decide (s.next≤x.num)&& !(decide (0<i)&&decide (x.num≤pv.num))&& !decide (x.line<1)&& !decide ((tn s.tab:Int)<x.line)&& !decide (s.clock<x.minute)&&
  !decide (x.att<1)&& !decide (Bx.opt s x.line 2-48<x.att)&&(if x.att=1 then decide (x.frm=x.minute) else decide (x.minute<x.frm)&&decide (x.frm≤s.clock+10))
def daks:ByteArray:={data:= #[100,97,107,115]}
def EnMay (s:Bx.St) (i:Nat) (x:Bx.En):Prop:=
 Txt.AmgP x.how daks∧Bx.find s x.num<0∧1≤x.num∧x.num<s.next∧∀j (hj:j<s.ends.length),j≠i→s.ends[j].num≠x.num
open Classical in
noncomputable def enMB (s:Bx.St) (i:Nat) (x:Bx.En):Bool:=decide (EnMay s i x)
open Classical in
theorem kq {s:Bx.St}{i:Nat}{x:Bx.En} (h:EnMay s i x):enMB s i x=true:=by unfold enMB;exact decide_eq_true h
open Classical in
theorem gu {s:Bx.St}{i:Nat}{x:Bx.En} (h:¬EnMay s i x):enMB s i x=false:=by unfold enMB;exact decide_eq_false h
open Classical in
theorem qX {s:Bx.St}{i:Nat}{x:Bx.En}:enMB s i x=true↔EnMay s i x:=by unfold enMB;exact decide_eq_true_iff
open Classical in
noncomputable def mayD (s:Bx.St):Bool:=decide (Bx.MayS s)
open Classical in
theorem ra {s:Bx.St} (h:Bx.MayS s):mayD s=true:=by unfold mayD;exact decide_eq_true h
open Classical in
theorem eP {s:Bx.St} (h:¬Bx.MayS s):mayD s=false:=by unfold mayD;exact decide_eq_false h
open Classical in
theorem qb {s:Bx.St}:mayD s=true↔Bx.MayS s:=by unfold mayD;exact decide_eq_true_iff
theorem iP {s:Bx.St}{i:Nat}{x pv:Bx.Sl}:slMB s i x pv=true↔(1≤x.num∧x.num<s.next∧(0<i→pv.num<x.num)∧1≤x.line∧x.line≤(tn s.tab:Int)∧x.minute≤s.clock∧1≤x.att∧x.att≤Bx.opt s x.line 2-48∧(x.att=1→x.frm=x.minute)∧(x.att≠1→x.minute<x.frm∧x.frm≤s.clock+10)):=by
 unfold slMB
 have U:(!(decide (0<i)&&decide (x.num≤pv.num)))=true↔(0<i→pv.num<x.num):=by
  by_cases h:0<i
  ·simp[h]
  ·simp[h]
 by_cases w:x.att=1
 ·rw[if_pos w];simp only [Bool.and_eq_true,U];simp only [Bool.not_eq_true',decide_eq_false_iff_not,decide_eq_true_eq]
  constructor
  ·rintro ⟨⟨⟨⟨⟨⟨⟨⟨h1,h2⟩,d⟩,J⟩,Q⟩,O⟩,I⟩,G⟩,e⟩;exact⟨by omega,by omega,d,by omega,by omega,by omega,by omega,by omega,fun _=>e,fun q=>absurd w q⟩
  ·rintro ⟨h1,h2,d,J,Q,O,I,G,e,_⟩;exact⟨⟨⟨⟨⟨⟨⟨⟨by omega,by omega⟩,d⟩,by omega⟩,by omega⟩,by omega⟩,by omega⟩,by omega⟩,e w⟩
 ·rw[if_neg w];simp only [Bool.and_eq_true,U];simp only [Bool.not_eq_true',decide_eq_false_iff_not,decide_eq_true_eq]
  constructor
  ·rintro ⟨⟨⟨⟨⟨⟨⟨⟨h1,h2⟩,d⟩,J⟩,Q⟩,O⟩,I⟩,G⟩,e⟩;exact⟨by omega,by omega,d,by omega,by omega,by omega,by omega,by omega,fun q=>absurd q w,fun _=>e⟩
  ·rintro ⟨h1,h2,d,J,Q,O,I,G,_,e⟩;exact⟨⟨⟨⟨⟨⟨⟨⟨by omega,by omega⟩,d⟩,by omega⟩,by omega⟩,by omega⟩,by omega⟩,by omega⟩,e w⟩
theorem tg {s:Bx.St} (h:Bx.MayS s) (j:Nat) (d:j<s.slots.length):slMB s j s.slots[j] (Bx.slAt s (j-1))=true:=by
 have q:=h.es _ (List.getElem_mem d);refine iP.2 ⟨q.n.1,q.n.2,fun h0=>?_,q.l.1,q.l.2,q.m,q.a.1,q.a.2,q.f1,q.f2⟩
 rw[Bx.slAt_eq (by omega:j-1<s.slots.length)]
 exact List.pairwise_iff_getElem.1 h.rise (j-1) j (by omega) d (by omega)
theorem pp {s:Bx.St}{i k:Nat} (h:Bx.lockK s i k=true):∃j,j<k∧j≠i∧(Bx.slAt s j).line=(Bx.slAt s i).line∧(Bx.slAt s j).runs=true:=by
 induction k with
 | zero=>cases h
 | succ k d=>
   have e:Bx.lockK s i (k+1)=(Bx.lockK s i k||(decide (¬k=i)&&(decide ((Bx.slAt s k).line=(Bx.slAt s i).line)&&(Bx.slAt s k).runs))):=rfl
   rw[e,Bool.or_eq_true] at h
   rcases h with h|h
   ·obtain⟨j,h1,h2⟩:=d h;exact⟨j,by omega,h2⟩
   ·simp only [Bool.and_eq_true,decide_eq_true_eq] at h
    exact⟨k,by omega,h.1,h.2.1,h.2.2⟩
theorem sk {s:Bx.St} (h:Bx.MayS s) (j:Nat) (G:j<s.slots.length) (J:s.slots[j].runs=true):Bx.locked s j=false∧s.slots[j].frm≤s.clock:=by
 refine⟨?_,(h.es _ (List.getElem_mem G)).r J⟩
 cases O:Bx.locked s j with
 | false=>rfl
 | true=>
   exfalso
   unfold Bx.locked at O;rw[Bool.and_eq_true] at O;obtain⟨U,Y⟩:=O;obtain⟨k,e,V,d,w⟩:=pp Y;rw[Bx.slAt_eq G] at U d;rw[Bx.slAt_eq e] at d w;have I:Bx.opt s s.slots[j].line 0=120:=by simpa using U
   have Q:=List.pairwise_iff_getElem.1 h.lock
   rcases Nat.lt_or_gt_of_ne V with q|q
   ·exact Q k j e G q d (by rw[d];exact I) w J
   ·exact Q j k G e q d.symm I J w
theorem findK_no {l:List Bx.Sl}{n:Int}{k:Nat} (h:Bx.findK l n k<0):∀j (G:j<l.length),j<k→l[j].num≠n:=by
 induction k with
 | zero=>intro j _ h;omega
 | succ k I=>
   intro j G J;rw[Bx.findK] at h
   by_cases d:k<l.length
   ·by_cases e:l[k].num=n
    ·simp[d,e] at h;omega
    ·simp[d,e] at h
     by_cases w:j=k
     ·subst w;exact e
     ·exact I h j G (by omega)
   ·have w:j<k:=by omega
    refine I ?_ j G w
    simpa [d] using h
theorem mi {s:Bx.St}{n:Int}:Bx.find s n<0↔∀y∈s.slots,y.num≠n:=by
 constructor
 ·intro h y G;obtain⟨j,w,rfl⟩:=List.mem_iff_getElem.1 G;exact findK_no h j w w
 ·intro h
  by_cases d:Bx.find s n<0
  ·exact d
  ·obtain⟨hi,e⟩:=Bx.find_num d;exact absurd e (h _ (List.getElem_mem hi))
theorem l0 {h:ByteArray}:Txt.AmgP h daks↔(h=Bx.hD∨h=Bx.hA∨h=Bx.hK∨h=Bx.hS):=by
 have I:∀(h:ByteArray) (v:UInt8),h.size=1→h.data.toList[0]? =some v→h=⟨#[v]⟩:=by
  intro h v w h0;refine Bx.ba_ext ?_;have d:h.data.toList.length=1:=by rw[Bx.ba_len];exact w
  cases G:h.data.toList with
  | nil=>rw[G] at d;cases d
  | cons a r=>
    rw[G] at d h0;have:r=[]:=List.eq_nil_of_length_eq_zero (by simpa using d)
    subst this;simp at h0;rw[h0]
 constructor
 ·rintro ⟨w,j,J,e⟩
  have h0:h.data.toList[0]? =some h[0]:=by
   rw[List.getElem?_eq_getElem (by rw[Bx.ba_len];omega)];rfl
  rw[e] at h0;have O:j<4:=J;have:=I h _ w h0
  rcases (by omega:j=0∨j=1∨j=2∨j=3) with rfl|rfl|rfl|rfl
  ·exact Or.inl this
  ·exact Or.inr (Or.inl this)
  ·exact Or.inr (Or.inr (Or.inl this))
  ·exact Or.inr (Or.inr (Or.inr this))
 ·rintro (rfl|rfl|rfl|rfl)
  ·exact⟨rfl,0,by decide,rfl⟩
  ·exact⟨rfl,1,by decide,rfl⟩
  ·exact⟨rfl,2,by decide,rfl⟩
  ·exact⟨rfl,3,by decide,rfl⟩
theorem sO {s:Bx.St} (h:Bx.MayS s) (j:Nat) (d:j<s.ends.length):EnMay s j s.ends[j]:=by
 have q:=h.ee _ (List.getElem_mem d);refine⟨l0.2 q.h,mi.2 q.o,q.n.1,q.n.2,fun k G I=>?_⟩
 have w:=List.pairwise_iff_getElem.1 h.dif
 rcases Nat.lt_or_gt_of_ne I with e|e
 ·exact w k j G d e
 ·exact fun q=>w j k d G e q.symm
theorem pO {l:List Bx.Sl} (h:∀j (I:j+1<l.length),(l[j]'(by omega)).num<(l[j+1]).num):∀j k (w:k<l.length) (d:j<k),(l[j]'(by omega)).num<l[k].num:=by
 intro j k
 induction k with
 | zero=>intro _ h;omega
 | succ k G=>
   intro w d;have h1:=h k w
   by_cases e:j=k
   ·subst e;exact h1
   ·exact Int.lt_trans (G (by omega) (by omega)) h1
theorem rO {s:Bx.St} (hT:ChkR s.tab 0 0) (c1: -1≤s.clock) (c2:s.clock≤4223371679) (n1:1≤s.next) (n2:s.next≤10000) (sl:s.slots.length≤8) (en:s.ends.length≤6) (hm:∀x∈s.slots,0≤x.minute)
 (A:∀j (d:j<s.slots.length),slMB s j s.slots[j] (Bx.slAt s (j-1))=true) (B:∀j (d:j<s.slots.length),s.slots[j].runs=true→Bx.locked s j=false∧s.slots[j].frm≤s.clock) (C:∀j (d:j<s.ends.length),EnMay s j s.ends[j]):Bx.MayS s:=by
 have Y:=fun j d=>iP.1 (A j d)
 refine⟨hT,c1,c2,n1,n2,sl,en,?_,?_,?_,?_,?_⟩
 ·rw[List.pairwise_iff_getElem];intro i j hi d G;refine pO (fun k Z=>?_) i j d G
  have q:=(Y (k+1) Z).2.2.1 (by omega)
  rw[Bx.slAt_eq (by omega:k+1-1<s.slots.length)] at q
  exact q
 ·rw[List.pairwise_iff_getElem];intro i j hi d G e1 e2 e3 e4;have w:=(B i hi e3).1;unfold Bx.locked at w;rw[Bx.slAt_eq hi] at w;have U:(Bx.opt s s.slots[i].line 0==120)=true:=by simpa using e2
  rw[U,Bool.true_and] at w;exact Bx.lockK_no w j d (by omega) (by rw[Bx.slAt_eq d,Bx.slAt_eq hi];exact e1.symm) (by rw[Bx.slAt_eq d];exact e4)
 ·rw[List.pairwise_iff_getElem];intro i j hi d G e;exact (C i hi).2.2.2.2 j d (by omega) e.symm
 ·intro x I;obtain⟨j,d,rfl⟩:=List.mem_iff_getElem.1 I;obtain⟨J,O,_,Q,q5,q6,q7,q8,q9,V⟩:=Y j d;exact⟨⟨J,O⟩,⟨Q,q5⟩,hm _ I,q6,⟨q7,q8⟩,q9,V,fun e=>(B j d e).2⟩
 ·intro x I;obtain⟨j,d,rfl⟩:=List.mem_iff_getElem.1 I;obtain⟨J,O,q3,Q,_⟩:=C j d;exact⟨⟨q3,Q⟩,l0.1 J,mi.1 O⟩
end Go.Proofs.YtdajolpoiffimabGreatDoor

namespace Go.Proofs.YtdajolpoiffimabGreatDoor
open Go.RowKit
theorem dQ {a b:Bool} (h:a=b):Ending.returned (.bool a)=.returned (.bool b):=by rw[h]
set_option maxRecDepth 10000 in
set_option maxHeartbeats 0 in
theorem ll (s:Bx.St) (i:Nat) (hi:i<s.slots.length) (sl en:Value) (lb lc:Nat) (w:World) (hT:ChkR s.tab 0 0) (h8:s.slots.length≤255) (c1: -1≤s.clock) (c2:s.clock≤4223371679) (hL:LinesAt w lb s.tab) (hS:StAt w s sl en):
 Calls Tryz.prog 213 #[stV s sl en,.int .i64 i,.slice (some ⟨lb,0,none⟩) (tn s.tab) lc] w fun e w'=>e=.returned (.bool (slMB s i s.slots[i] (Bx.slAt s (i-1))))∧Below w.heap.size w w':=by
 obtain⟨ad,aa,rfl,bq⟩:=hS.sl.form;obtain⟨Y,O,rfl,bj⟩:=hS.en.form;have ae:=dx w (stO s (.slice ad s.slots.length aa) (.slice Y s.ends.length O));have hI:=StIn.new w s (.slice ad s.slots.length aa) (.slice Y s.ends.length O);have HT:=Hq hT;have aN:Hid (0<i→∃h:i-1<s.slots.length,Bx.slAt s (i-1)=s.slots[i-1]):=fun h=>⟨by omega,Bx.slAt_eq (by omega)⟩
 obtain⟨eb,Z,bs,hv,_,hc⟩:=(hS.sl.1.later ae).some' (by omega)
 cases hv
 obtain⟨d0,d1,d2,d3,d4,d5⟩:=dT hc i hi
 have aG:Hid (0<i→(w.alloc (stO s (.slice (some ⟨eb,Z,none⟩) s.slots.length aa) (.slice Y s.ends.length O))).cell? ⟨eb,Z+(i-1)*6,none⟩=some (.int .i64 (Bx.slAt s (i-1)).num)):=fun h=>by
  obtain⟨h1,h2⟩:=aN.out h;rw[h2];exact (dT hc (i-1) h1).1
 have HL:=Hq (hL.later ae);generalize s.slots[i]=x at *;generalize Bx.slAt s (i-1)=pv at *;have b1:(0:Int)≤(i:Int):=by omega
 have b2:(i:Int)<(s.slots.length:Int):=by omega
 clear hc hS hL hT aN
 go_enter Tryz.func213,Tryz.ntmps213
 go_upto_region 1 with fail;have am:StIn (w.alloc (stO s (.slice (some ⟨eb,Z,none⟩) s.slots.length aa) (.slice Y s.ends.length O))) w.heap.size s (.slice (some ⟨eb,Z,none⟩) s.slots.length aa) (.slice Y s.ends.length O):=hI;clear hI;generalize w.alloc (stO s (.slice (some ⟨eb,Z,none⟩) s.slots.length aa) (.slice Y s.ends.length O))=W at *;have c3:=am.c3;have hq:w.heap.size<W.heap.size:=World.block_lt_of_cell? _ _ c3;have af:=dx W (.cells #[.int .i64 x.num,.int .i64 x.line,.int .i64 x.minute,.int .i64 x.att,.int .i64 x.frm,.bool x.runs] 218);have hX:=Cl.new W [.int .i64 x.num,.int .i64 x.line,.int .i64 x.minute,.int .i64 x.att,.int .i64 x.frm,.bool x.runs] 218;go_upto_region 2 with fail;have U:Cl (W.alloc (.cells #[.int .i64 x.num,.int .i64 x.line,.int .i64 x.minute,.int .i64 x.att,.int .i64 x.frm,.bool x.runs] 218)) W.heap.size 218 [.int .i64 x.num,.int .i64 x.line,.int .i64 x.minute,.int .i64 x.att,.int .i64 x.frm,.bool x.runs]:=hX;clear hX d0 d1 d2 d3 d4 d5;have HB:=Hq (ae.trans (af.mono ae.size));have a7:=am.later af;have aK:=Hq (HL.out.later af);have ap:Hid (0<i→(W.alloc (.cells #[.int .i64 x.num,.int .i64 x.line,.int .i64 x.minute,.int .i64 x.att,.int .i64 x.frm,.bool x.runs] 218)).cell? ⟨eb,Z+(i-1)*6,none⟩=some (.int .i64 pv.num)):=fun h=>cell_later af (aG.out h)
 clear af ae am HL aG c3 hq;generalize W.alloc (.cells #[.int .i64 x.num,.int .i64 x.line,.int .i64 x.minute,.int .i64 x.att,.int .i64 x.frm,.bool x.runs] 218)=W2 at *;generalize W.heap.size=xq at *;obtain⟨g0,g1,g2,g3,g4⟩:=a7;have aL:w.heap.size<W2.heap.size:=World.block_lt_of_cell? _ _ g3;have e0:=U.c 0 _ rfl;have e1:=U.c 1 _ rfl;have e2:=U.c 2 _ rfl;have e3:=U.c 3 _ rfl;have e4:=U.c 4 _ rfl;have aM:=U.ty.lt;clear U
 by_cases k1:x.num<1
 ·have aA:decide (x.num<1)=true:=decide_eq_true k1;have d:Hid (slMB s i x pv=false):=by unfold Hid slMB;simp[k1]
  go_wp2_with fail
  go_quiet (fail)
  go_wp2_with fail;go_ret;exact⟨dQ d.out.symm,below_drewN HB.out _⟩
 ·have aA:decide (x.num<1)=false:=decide_eq_false k1
  by_cases k2:s.next≤x.num
  ·have aC:decide (s.next≤x.num)=true:=decide_eq_true k2;have d:Hid (slMB s i x pv=false):=by unfold Hid slMB;simp[k2]
   go_wp2_with fail
   go_quiet (fail)
   go_wp2_with fail;go_ret;exact⟨dQ d.out.symm,below_drewN HB.out _⟩
  ·have aC:decide (s.next≤x.num)=false:=decide_eq_false k2
   by_cases k3:0<i
   case' pos=>
    have av:decide (0<i)=true:=decide_eq_true k3;have pc:=ap.out k3;obtain⟨im,a3⟩:∃im:Nat,i=im+1:=⟨i-1,by omega⟩
    have bH:IntKind.i64.wrap ((i:Int)-1)=(im:Int):=by rw[IntKind.wrap_i64];omega
    have aj:i-1=im:=by omega
    rw[aj] at pc;have p1:(0:Int)≤(im:Int):=by omega
    have p2:(im:Int)<(s.slots.length:Int):=by omega
    have bv:eb<W2.heap.size:=World.block_lt_of_cell? _ _ pc;clear a3 aj
    by_cases aq:x.num≤pv.num
    ·have ar:decide (x.num≤pv.num)=true:=decide_eq_true aq;have d:Hid (slMB s i x pv=false):=by unfold Hid slMB;simp[k3,aq]
     go_wp2_with fail
     go_quiet (fail)
     go_wp2_with fail;go_ret;exact⟨dQ d.out.symm,below_drewN HB.out _⟩
    have ar:decide (x.num≤pv.num)=false:=decide_eq_false aq
   case' neg=>
    have av:decide (0<i)=false:=decide_eq_false k3
   all_goals
    by_cases k4:x.line<1
    ·have aw:decide (x.line<1)=true:=decide_eq_true k4;have d:Hid (slMB s i x pv=false):=by unfold Hid slMB;simp[k4]
     go_wp2_with fail
     go_quiet (fail)
     go_wp2_with fail;go_ret;exact⟨dQ d.out.symm,below_drewN HB.out _⟩
    ·have aw:decide (x.line<1)=false:=decide_eq_false k4
     by_cases k5:(tn s.tab:Int)<x.line
     ·have ay:decide ((tn s.tab:Int)<x.line)=true:=decide_eq_true k5;have d:Hid (slMB s i x pv=false):=by unfold Hid slMB;simp[k5]
      go_wp2_with fail
      go_quiet (fail)
      go_wp2_with fail;go_ret;exact⟨dQ d.out.symm,below_drewN HB.out _⟩
     ·have ay:decide ((tn s.tab:Int)<x.line)=false:=decide_eq_false k5
      by_cases k6:s.clock<x.minute
      ·have az:decide (s.clock<x.minute)=true:=decide_eq_true k6;have d:Hid (slMB s i x pv=false):=by unfold Hid slMB;simp[k6]
       go_wp2_with fail
       go_quiet (fail)
       go_wp2_with fail;go_ret;exact⟨dQ d.out.symm,below_drewN HB.out _⟩
      ·have az:decide (s.clock<x.minute)=false:=decide_eq_false k6;obtain⟨j,hj⟩:∃j:Nat,x.line=(j:Int)+1:=⟨(x.line-1).toNat,by omega⟩
       have aD:j<tn s.tab:=by omega
       obtain⟨au,_,ac⟩:=HT.out.lines;have a5:=iS HT.out;have bh:Hid (LineP (tl s.tab j)):=ac _ aD;have aJ:(tl s.tab j).size≤300:=fG au _ (by have:=eQ s.tab;omega)
       clear au ac;have aX:IntKind.i64.wrap (x.line-1)=(j:Int):=by rw[IntKind.wrap_i64];omega
       clear a5;have p3:(0:Int)≤(j:Int):=by omega
       have p4:(j:Int)<(tn s.tab:Int):=by omega
       have aO:Hid (Bx.opt s x.line 2-48=ob (tl s.tab j) 2-48):=by unfold Hid Bx.opt;rw[show (x.line-1).toNat=j by omega]
       clear hj;go_wp2_with fail
       go_quiet (fail)
       have I:Below W2.heap.size W2 (W2.drewN nq):=below_drewN (Below.refl _ _) nq;have aB:=Hq (HB.out.trans (I.mono HB.out.size));have f1:=cell_later I e1;have f2:=cell_later I e2;have f3:=cell_later I e3;have f4:=cell_later I e4;have f5:=cell_later I g1;have cl:=cell_later I (aK.out j aD);have aI:xq<(W2.drewN nq).heap.size:=Nat.lt_of_lt_of_le aM I.size;have aP:w.heap.size<(W2.drewN nq).heap.size:=Nat.lt_of_lt_of_le aL I.size;clear e0 e1 e2 e3 e4 g0 g1 g2 g3 g4 I aM aL aK ap HB;generalize W2.drewN nq=W4 at *;go_wp2_with fail;refine (ew (tl s.tab j) _ aJ bh.out).mono ?_;rintro e w5 ⟨rfl,J⟩;have Q:=Hq (aB.out.trans (J.mono aB.out.size));have e1:=cell_later J f1;have e2:=cell_later J f2;have e3:=cell_later J f3;have e4:=cell_later J f4;have g1:=cell_later J f5;have bG:xq<w5.heap.size:=Nat.lt_of_lt_of_le aI J.size;have bF:w.heap.size<w5.heap.size:=Nat.lt_of_lt_of_le aP J.size
       have G:Hid (slMB s i x pv=(!decide (x.att<1)&& !decide (ob (tl s.tab j) 2-48<x.att)&&(if x.att=1 then decide (x.frm=x.minute) else decide (x.minute<x.frm)&&decide (x.frm≤s.clock+10)))):=by
        unfold Hid slMB;rw[aO.out];first |simp only [aA,aC,aw,ay,az,av,ar,Bool.not_false,Bool.true_and,Bool.and_true,Bool.and_false]|simp only [aA,aC,aw,ay,az,av,Bool.not_false,Bool.true_and,Bool.and_true,Bool.false_and]
       clear f1 f2 f3 f4 f5 cl J aI aP aB aO aD aJ aX;generalize ob (tl s.tab j) 2-48=mo at *
       by_cases k7:x.att<1
       ·have d:Hid (slMB s i x pv=false):=by unfold Hid;rw[G.out];simp[k7]
        go_wp2_with fail;go_ret;exact⟨dQ d.out.symm,Q.out⟩
       ·by_cases k8:mo<x.att
        ·have d:Hid (slMB s i x pv=false):=by unfold Hid;rw[G.out];simp[k8]
         go_wp2_with fail;go_ret;exact⟨dQ d.out.symm,Q.out⟩
        ·by_cases V:x.att=1
         ·by_cases ag:x.frm=x.minute
          ·have d:Hid (slMB s i x pv=true):=by unfold Hid;rw[G.out,if_pos V];simp[k7,k8,ag]
           rw[V] at e3 k7 k8;rw[←ag] at e2;clear V ag G;go_wp2_with fail;go_ret;exact⟨dQ d.out.symm,Q.out⟩
          ·have d:Hid (slMB s i x pv=false):=by unfold Hid;rw[G.out,if_pos V];simp[ag]
           rw[V] at e3 k7 k8;have bu:(x.frm==x.minute)=false:=by rw[beq_eq_false_iff_ne];exact ag
           clear V G;go_wp2_with fail;go_ret;exact⟨dQ d.out.symm,Q.out⟩
         ·have bI:(x.att==1)=false:=by rw[beq_eq_false_iff_ne];exact V
          have bJ:IntKind.i64.wrap (s.clock+10)=s.clock+10:=by rw[IntKind.wrap_i64];omega
          by_cases aH:x.minute<x.frm
          ·by_cases ak:x.frm≤s.clock+10
           ·have d:Hid (slMB s i x pv=true):=by unfold Hid;rw[G.out,if_neg V];simp[k7,k8,aH,ak]
            clear G;go_wp2_with fail;go_ret;exact⟨dQ d.out.symm,Q.out⟩
           ·have d:Hid (slMB s i x pv=false):=by unfold Hid;rw[G.out,if_neg V];simp[ak]
            have bo:decide (x.frm≤s.clock+10)=false:=decide_eq_false ak;clear G;go_wp2_with fail;go_ret;exact⟨dQ d.out.symm,Q.out⟩
          ·have d:Hid (slMB s i x pv=false):=by unfold Hid;rw[G.out,if_neg V];simp[aH]
           clear G;go_wp2_with fail;go_ret;exact⟨dQ d.out.symm,Q.out⟩
theorem rS (s t:ByteArray) (w:World) (I:s.size≤300) (G:t.size≤10):
 Calls Tryz.prog 176 #[.string s,.string t] w fun e d=>e=.returned (.bool (Txt.amgB s t))∧Below w.heap.size w d:=
 (fX s t w I G).mono fun _ _ h=>⟨h.1,by obtain⟨n,e⟩:=h.2;rw[e];exact below_drewN (Below.refl _ _) n⟩
set_option maxRecDepth 10000 in
set_option maxHeartbeats 0 in
theorem m6 (s:Bx.St) (i:Nat) (hi:i<s.ends.length) (sl en:Value) (w:World) (h8:s.slots.length≤255) (h6:s.ends.length≤255) (hh:s.ends[i].how.size=1) (hS:StAt w s sl en):
 Calls Tryz.prog 214 #[stV s sl en,.int .i64 i] w fun e w'=>e=.returned (.bool (enMB s i s.ends[i]))∧Below w.heap.size w w':=by
 obtain⟨ad,Z,rfl,aZ⟩:=hS.sl.form;obtain⟨ax,I,rfl,aW⟩:=hS.en.form;have aa:=dx w (stO s (.slice ad s.slots.length Z) (.slice ax s.ends.length I));have hI:=StIn.new w s (.slice ad s.slots.length Z) (.slice ax s.ends.length I);have av:=Hq hS;obtain⟨eb,J,a4,hv,_,hc⟩:=(hS.en.1.later aa).some' (by omega)
 cases hv
 obtain⟨d0,d1⟩:=fW hc i hi;have aB:Hid (∀k (Q:k<s.ends.length),(w.alloc (stO s (.slice ad s.slots.length Z) (.slice (some ⟨eb,J,none⟩) s.ends.length I))).cell? ⟨eb,J+k*2,none⟩=some (.int .i64 s.ends[k].num)):=fun k Q=>(fW hc k Q).1
 have HS:=Hq (av.out.later aa);have HX:Hid (∀x,x=s.ends[i]→enMB s i s.ends[i]=enMB s i x):=fun x e=>by rw[e]
 have aV:Hid (EnMay s i s.ends[i]↔EnMay s i s.ends[i]):=Iff.rfl;generalize s.ends[i]=x at *;have b1:(0:Int)≤(i:Int):=by omega
 have b2:(i:Int)<(s.ends.length:Int):=by omega
 clear hc hS av HX aV
 go_enter Tryz.func214,Tryz.ntmps214
 go_upto_region 1 with fail;have ai:StIn (w.alloc (stO s (.slice ad s.slots.length Z) (.slice (some ⟨eb,J,none⟩) s.ends.length I))) w.heap.size s (.slice ad s.slots.length Z) (.slice (some ⟨eb,J,none⟩) s.ends.length I):=hI;clear hI;generalize w.alloc (stO s (.slice ad s.slots.length Z) (.slice (some ⟨eb,J,none⟩) s.ends.length I))=W at *;have c4:=ai.c4;have hq:w.heap.size<W.heap.size:=World.block_lt_of_cell? _ _ c4;have ac:=dx W (.cells #[.int .i64 x.num,.string x.how] 85);have hX:=Cl.new W [.int .i64 x.num,.string x.how] 85;go_upto_region 2 with fail;have ag:Cl (W.alloc (.cells #[.int .i64 x.num,.string x.how] 85)) W.heap.size 85 [.int .i64 x.num,.string x.how]:=hX;clear hX d0 d1;have HB:=Hq (aa.trans (ac.mono aa.size));have ay:=ai.later ac;have az:=Hq (HS.out.later ac);have aD:Hid (∀k (Q:k<s.ends.length),(W.alloc (.cells #[.int .i64 x.num,.string x.how] 85)).cell? ⟨eb,J+k*2,none⟩=some (.int .i64 s.ends[k].num)):=fun k Q=>cell_later ac (aB.out k Q)
 clear ac aa ai HS aB c4 hq;generalize W.alloc (.cells #[.int .i64 x.num,.string x.how] 85)=W2 at *;generalize W.heap.size=xq at *;have e0:=ag.c 0 _ rfl;have e1:=ag.c 1 _ rfl;have aT:=ag.ty.lt;clear ag;go_wp2_with fail;refine (rS x.how {data:= #[100,97,107,115]} _ (by omega) (by decide)).mono ?_
 rintro e w3 ⟨rfl,Y⟩;have ae:=Hq (HB.out.trans (Y.mono HB.out.size));have f0:=cell_later Y e0;have aU:=ay.later Y;have ak:=Hq (az.out.later Y);have aC:Hid (∀k (Q:k<s.ends.length),w3.cell? ⟨eb,J+k*2,none⟩=some (.int .i64 s.ends[k].num)):=fun k Q=>cell_later Y (aD.out k Q)
 obtain⟨g0,g1,g2,g3,g4⟩:=aU;clear e0 e1 ay Y HB az aD aT
 have HA:Hid (∀b,Txt.amgB x.how {data:= #[100,97,107,115]}=b→(Txt.AmgP x.how daks↔b=true)):=by
  intro b hb
  constructor
  ·intro h;rw[←hb];exact Txt.amgB_yes h
  ·intro h;rw[h] at hb;by_cases q:Txt.AmgP x.how daks
   ·exact q
   ·have:=Txt.amgB_no q;unfold daks at this;rw[hb] at this;cases this
 cases ha:Txt.amgB x.how {data:= #[100,97,107,115]}
 ·have U:Hid (enMB s i x=false):=gu fun h=>by have:=(HA.out _ ha).1 h.1;cases this
  clear HA ha;go_wp2_with fail;refine (eY s x.num _ _ _ (by omega) ak.out).mono ?_
  rintro e w4 ⟨rfl,G⟩;have V:=Hq (ae.out.trans (G.mono ae.out.size));clear G;go_wp2_with fail;go_ret;exact⟨dQ U.out.symm,V.out⟩
 ·have aA:Hid (Txt.AmgP x.how daks):=(HA.out _ ha).2 rfl;clear HA ha;go_wp2_with fail;refine (eY s x.num _ _ _ (by omega) ak.out).mono ?_
  rintro e w4 ⟨rfl,G⟩;have V:=Hq (ae.out.trans (G.mono ae.out.size));have e0:=cell_later G f0;have k2:=cell_later G g2;have k4:=cell_later G g4;have aS:Hid (∀k (Q:k<s.ends.length),w4.cell? ⟨eb,J+k*2,none⟩=some (.int .i64 s.ends[k].num)):=fun k Q=>cell_later G (aC.out k Q)
  clear f0 g0 g1 g2 g3 g4 G ae ak aC
  have aq:Hid (∀z,Bx.find s x.num=z→(EnMay s i x↔(z<0∧1≤x.num∧x.num<s.next∧∀j (O:j<s.ends.length),j≠i→s.ends[j].num≠x.num))):=by
   intro z hz;subst hz;exact⟨fun h=>h.2,fun h=>⟨aA.out,h⟩⟩
  obtain⟨z,hz⟩:∃z,Bx.find s x.num=z:=⟨_,rfl⟩;have HF:=aq.out z hz;have d:=Hq HF;clear HF aq aA;rw[hz];clear hz
  by_cases q1:0≤z
  ·have U:Hid (enMB s i x=false):=gu fun h=>by have:=(d.out.1 h).1;omega
   clear d;go_wp2_with fail;go_ret;exact⟨dQ U.out.symm,V.out⟩
  ·by_cases q2:x.num<1
   ·have U:Hid (enMB s i x=false):=gu fun h=>by have:=(d.out.1 h).2.1;omega
    clear d;go_wp2_with fail;go_ret;exact⟨dQ U.out.symm,V.out⟩
   ·by_cases q3:s.next≤x.num
    ·have U:Hid (enMB s i x=false):=gu fun h=>by have:=(d.out.1 h).2.2.1;omega
     clear d;go_wp2_with fail;go_ret;exact⟨dQ U.out.symm,V.out⟩
    ·have ar:Hid (EnMay s i x↔∀j (O:j<s.ends.length),j≠i→s.ends[j].num≠x.num):=⟨fun h=>(d.out.1 h).2.2.2,fun h=>d.out.2 ⟨by omega,by omega,by omega,h⟩⟩
     clear d;go_wp2_with fail
     go_loopw [8] (fun iv wr=>∃k n:Nat,k≤s.ends.length∧iv=.int .i64 k∧wr=w4.drewN n∧∀j (O:j<s.ends.length),j<k→j≠i→s.ends[j].num≠x.num) (fun iv _=>s.ends.length-(intOf iv).toNat)
     case atStart=>exact⟨0,0,Nat.zero_le _,rfl,rfl,fun j _ h=>by omega⟩
     case round=>
      obtain⟨k,n,Q,rfl,rfl,au⟩:=hrel;have am:=Hq au;clear au
      by_cases aw:k<s.ends.length
      ·have y2:(k:Int)<(s.ends.length:Int):=by omega
       have y1:(0:Int)≤(k:Int):=by omega
       have ck:=aS.out k aw
       by_cases e1:k=i
       ·have HN:Hid (∀j (O:j<s.ends.length),j<k+1→j≠i→s.ends[j].num≠x.num):=fun j O h1 h2=>am.out j O (by omega) h2
        have z1:((k:Int) !=(i:Int))=false:=by simp[e1]
        clear ck e1;go_wp2_with fail
        go_quiet (fail)
        go_wp2_with fail;go_roundw
        case rel=>exact⟨k+1,_,by omega,by go_num,rfl,HN.out⟩
        case measure=>simp[intOf];omega
       ·have z1:((k:Int) !=(i:Int))=true:=by simp;omega
        have HY:Hid (s.ends[k].num=x.num→enMB s i x=false):=fun h=>gu fun h2=>ar.out.1 h2 k aw e1 h
        have al:Hid (¬s.ends[k].num=x.num→∀j (O:j<s.ends.length),j<k+1→j≠i→s.ends[j].num≠x.num):=fun h j O h1 h2=>by
         by_cases q:j=k
         ·subst q;exact h
         ·exact am.out j O (by omega) h2
        generalize s.ends[k].num=kn at *
        cases e2:(kn==x.num)
        ·have HN:Hid (∀j (O:j<s.ends.length),j<k+1→j≠i→s.ends[j].num≠x.num):=al.out (by simpa using e2)
         clear al HY e1;go_wp2_with fail
         go_quiet (fail)
         go_wp2_with fail;go_roundw
         case rel=>exact⟨k+1,_,by omega,by go_num,rfl,HN.out⟩
         case measure=>simp[intOf];omega
        ·have U:Hid (enMB s i x=false):=HY.out (by simpa using e2)
         clear al HY e1;go_wp2_with fail
         go_quiet (fail)
         go_wp2_with fail;go_ret;exact⟨dQ U.out.symm,below_drewN (below_drewN V.out _) _⟩
      ·obtain rfl:k=s.ends.length:=by omega
       have U:Hid (enMB s i x=true):=kq (ar.out.2 fun j O h=>am.out j O O h)
       go_wp2_with fail;go_ret;exact⟨dQ U.out.symm,below_drewN V.out _⟩
end Go.Proofs.YtdajolpoiffimabGreatDoor
