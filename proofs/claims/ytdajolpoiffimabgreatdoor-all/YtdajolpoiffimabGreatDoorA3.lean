import Derived.Test.YtdajolpoiffimabGreatDoorA2

namespace Go.Proofs.YtdajolpoiffimabGreatDoor
namespace Bx
def cat:List ByteArray→ByteArray
 | []=>ByteArray.empty
 | x::r=>x++cat r
theorem cat_app (a b:List ByteArray):cat (a++b)=cat a++cat b:=by
 induction a with
 | nil=>simp[cat]
 | cons x r d=>rw[List.cons_append,cat,cat,d,ByteArray.append_assoc]
theorem cat_snoc (a:List ByteArray) (x:ByteArray):cat (a++[x])=cat a++x:=by rw[cat_app];simp[cat]
def mk1 (b:Bool):Int:=if b=true then 1 else 0
def encSl (x:Sl):ByteArray:=be x.num 2++(be x.line 1++(be x.minute 5++(be x.att 1++(be x.frm 5++be (mk1 x.runs) 1))))
def encEn (x:En):ByteArray:=be x.num 2++x.how
def encSt (s:St):ByteArray:=be (s.clock+1) 5++(be s.next 2++(be s.tab.size 2++(s.tab++(be s.slots.length 1++(cat (s.slots.map encSl)++(be s.ends.length 1++cat (s.ends.map encEn)))))))
def wholeS (s:St):ByteArray:=b1 90++encSt s
structure SlFit (x:Sl):Prop where
 n:0≤x.num∧x.num<65536
 l:0≤x.line∧x.line<256
 m:0≤x.minute∧x.minute<1099511627776
 a:0≤x.att∧x.att<256
 f:0≤x.frm∧x.frm<1099511627776
structure EnFit (x:En):Prop where
 n:0≤x.num∧x.num<65536
 h:x.how.size=1
structure StFit (s:St):Prop where
 c: -1≤s.clock∧s.clock<1099511627775
 n:0≤s.next∧s.next<65536
 t:s.tab.size<65536
 sl:s.slots.length<256
 en:s.ends.length<256
 es:∀x∈s.slots,SlFit x
 ee:∀x∈s.ends,EnFit x
end Bx
theorem dB {α β:Type} (p:α×β):p=(p.1,p.2):=rfl
namespace Px
open Bx
def rdSlot (p:PS):Sl×PS:=
 let a:=numP 2 p
 let b:=numP 1 a.2
 let c:=numP 5 b.2
 let d:=numP 1 c.2
 let e:=numP 5 d.2
 let f:=numP 1 e.2
 (⟨a.1,b.1,c.1,d.1,e.1,if f.1=1 then 1 else 0,0,ByteArray.empty⟩,if f.1=1∨f.1=0 then f.2 else ⟨f.2.rest,true⟩)
def rdSlotsK:Nat→PS→List Sl×PS
 | 0,p=>([],p)
 | k+1,p=>if p.wrong=true then ([],p) else ((rdSlot p).1::(rdSlotsK k (rdSlot p).2).1,(rdSlotsK k (rdSlot p).2).2)
def rdEnd (p:PS):En×PS:=(⟨(numP 2 p).1,(txtP 1 (numP 2 p).2).1⟩,(txtP 1 (numP 2 p).2).2)
def rdEndsK:Nat→PS→List En×PS
 | 0,p=>([],p)
 | k+1,p=>if p.wrong=true then ([],p) else ((rdEnd p).1::(rdEndsK k (rdEnd p).2).1,(rdEndsK k (rdEnd p).2).2)
def rdSlots (p:PS):List Sl×PS:=rdSlotsK (numP 1 p).1.toNat (numP 1 p).2
def rdEnds (p:PS):List En×PS:=rdEndsK (numP 1 p).1.toNat (numP 1 p).2
def rdState (p:PS):St×PS:=
 let c:=numP 5 p
 let n:=numP 2 c.2
 let l:=numP 2 n.2
 let t:=txtP l.1 l.2
 let sl:=rdSlots t.2
 let en:=rdEnds sl.2
 (⟨t.1,c.1-1,n.1,sl.1,en.1⟩,en.2)
theorem rdSlot_eq {p G pb pc J I w:PS}{a b c d e f:Int} (Q:numP 2 p=(a,G)) (hb:numP 1 G=(b,pb)) (O:numP 5 pb=(c,pc)) (hd:numP 1 pc=(d,J)) (V:numP 5 J=(e,I)) (U:numP 1 I=(f,w)):
 rdSlot p=(⟨a,b,c,d,e,if f=1 then 1 else 0,0,ByteArray.empty⟩,if f=1∨f=0 then w else ⟨w.rest,true⟩):=by
 unfold rdSlot;simp only [Q,hb,O,hd,V,U]
theorem numP_r {k:Nat}{p q:PS}{a:Int} (h:numP k p=(a,q)) (d:q.wrong=false):p.wrong=false∧p.rest=be a k++q.rest∧0≤a∧a<256 ^ k:=by
 have:=numP_right (k:=k) (p:=p) (by rw[h];exact d)
 rw[h] at this;exact this
theorem txtP_r {k:Int}{p q:PS}{a:ByteArray} (h:txtP k p=(a,q)) (d:q.wrong=false):p.wrong=false∧p.rest=a++q.rest∧(a.size:Int)=k:=by
 have:=txtP_right (k:=k) (p:=p) (by rw[h];exact d)
 rw[h] at this;exact this
theorem rdSlot_right {p q:PS}{x:Sl} (h:rdSlot p=(x,q)) (w:q.wrong=false):p.wrong=false∧p.rest=encSl (absS x)++q.rest∧SlFit (absS x):=by
 obtain⟨a,G,Q⟩:∃a G,numP 2 p=(a,G):=⟨_,_,dB _⟩;obtain⟨b,pb,hb⟩:∃a q,numP 1 G=(a,q):=⟨_,_,dB _⟩;obtain⟨c,pc,I⟩:∃a q,numP 5 pb=(a,q):=⟨_,_,dB _⟩;obtain⟨d,pd,hd⟩:∃a q,numP 1 pc=(a,q):=⟨_,_,dB _⟩;obtain⟨e,pe,O⟩:∃a q,numP 5 pd=(a,q):=⟨_,_,dB _⟩;obtain⟨f,pf,J⟩:∃a q,numP 1 pe=(a,q):=⟨_,_,dB _⟩;rw[rdSlot_eq Q hb I hd O J] at h;obtain⟨rfl,rfl⟩:=Prod.mk.inj h
 have hm:f=1∨f=0:=by
  by_cases q:f=1∨f=0
  ·exact q
  ·rw[if_neg q] at w;cases w
 rw[if_pos hm] at w ⊢;obtain⟨w6,e6,a6,b6⟩:=numP_r J w;obtain⟨w5,e5,a5,b5⟩:=numP_r O w6;obtain⟨w4,e4,a4,b4⟩:=numP_r hd w5;obtain⟨V,e3,a3,U⟩:=numP_r I w4;obtain⟨w2,e2,a2,Y⟩:=numP_r hb V;obtain⟨w1,e1,a1,b1⟩:=numP_r Q w2;refine⟨w1,?_,⟨⟨a1,by simpa [absS] using b1⟩,⟨a2,by simpa [absS] using Y⟩,⟨a3,by simpa [absS] using U⟩,⟨a4,by simpa [absS] using b4⟩,⟨a5,by simpa [absS] using b5⟩⟩⟩
 have Z:mk1 (absS ⟨a,b,c,d,e,if f=1 then 1 else 0,0,ByteArray.empty⟩).runs=f:=by
  unfold absS mk1;simp only
  rcases hm with q|q
  ·rw[q];rfl
  ·rw[q];rfl
 unfold encSl;rw[Z];simp only [ByteArray.append_assoc,absS];rw[←e6,←e5,←e4,←e3,←e2,←e1]
theorem rdSlot_enc (x:Bx.Sl) (d:SlFit x) (r:ByteArray):rdSlot ⟨encSl x++r,false⟩=(⟨x.num,x.line,x.minute,x.att,x.frm,mk1 x.runs,0,ByteArray.empty⟩,⟨r,false⟩):=by
 have hm:mk1 x.runs=1∨mk1 x.runs=0:=by unfold mk1;split<;>simp
 have e:0≤mk1 x.runs∧mk1 x.runs<256:=by omega
 have w:encSl x++r=be x.num 2++(be x.line 1++(be x.minute 5++(be x.att 1++(be x.frm 5++(be (mk1 x.runs) 1++r))))):=by simp only [encSl,ByteArray.append_assoc]
 rw[w];refine (rdSlot_eq (numP_be x.num 2 _ false d.n.1 (by simpa using d.n.2)) (numP_be x.line 1 _ false d.l.1 (by simpa using d.l.2)) (numP_be x.minute 5 _ false d.m.1 (by simpa using d.m.2)) (numP_be x.att 1 _ false d.a.1 (by simpa using d.a.2)) (numP_be x.frm 5 _ false d.f.1 (by simpa using d.f.2)) (numP_be (mk1 x.runs) 1 r false e.1 (by simpa using e.2))).trans ?_
 rw[if_pos hm]
 rcases hm with q|q<;>rw[q]<;>rfl
theorem rdSlotsK_right:∀(k:Nat) {p q:PS}{l:List Sl},rdSlotsK k p=(l,q)→q.wrong=false→p.wrong=false∧p.rest=cat (l.map fun x=>encSl (absS x))++q.rest∧l.length=k∧∀x∈l,SlFit (absS x)
 | 0,p,q,l,h,hw=>by
   rw[rdSlotsK] at h;obtain⟨rfl,rfl⟩:=Prod.mk.inj h;exact⟨hw,by simp[cat],rfl,by simp⟩
 | k+1,p,q,l,h,hw=>by
   rw[rdSlotsK] at h
   split at h
   ·rename_i hp
    obtain⟨rfl,rfl⟩:=Prod.mk.inj h;rw[hp] at hw;cases hw
   ·obtain⟨y,d,w⟩:∃y d,rdSlot p=(y,d):=⟨_,_,dB _⟩;obtain⟨m,e,hm⟩:∃m e,rdSlotsK k d=(m,e):=⟨_,_,dB _⟩;rw[w] at h;simp only at h;rw[hm] at h;obtain⟨rfl,rfl⟩:=Prod.mk.inj h;obtain⟨h1,h2,G,O⟩:=rdSlotsK_right k hm hw;obtain⟨J,Q,U⟩:=rdSlot_right w h1;refine⟨J,?_,by simp[G],?_⟩
    ·rw[List.map_cons,cat,ByteArray.append_assoc,←h2];exact Q
    ·intro x I
     rcases List.mem_cons.1 I with q|q
     ·rw[q];exact U
     ·exact O x q
def rdOf (x:Bx.Sl):Sl:=⟨x.num,x.line,x.minute,x.att,x.frm,mk1 x.runs,0,ByteArray.empty⟩
theorem rdOf_abs (x:Bx.Sl):absS (rdOf x)=x:=by
 obtain⟨a,b,c,d,e,f⟩:=x
 cases f<;>rfl
theorem rdSlotsK_enc (l:List Bx.Sl) (d:∀x∈l,SlFit x) (r:ByteArray):rdSlotsK l.length ⟨cat (l.map encSl)++r,false⟩=(l.map rdOf,⟨r,false⟩):=by
 induction l with
 | nil=>simp[cat,rdSlotsK]
 | cons x l w=>
   rw[List.length_cons,rdSlotsK,if_neg (by simp),List.map_cons,cat,ByteArray.append_assoc,rdSlot_enc x (d x (by simp)),w (fun y e=>d y (by simp[e]))]
   rfl
theorem rdEnd_right {p q:PS}{x:En} (h:rdEnd p=(x,q)) (O:q.wrong=false):p.wrong=false∧p.rest=encEn x++q.rest∧EnFit x:=by
 obtain⟨a,J,e⟩:∃y d,numP 2 p=(y,d):=⟨_,_,dB _⟩;obtain⟨t,pt,w⟩:∃y d,txtP 1 J=(y,d):=⟨_,_,dB _⟩;unfold rdEnd at h;rw[e] at h;simp only at h;rw[w] at h;obtain⟨rfl,rfl⟩:=Prod.mk.inj h;obtain⟨G,Q,U⟩:=txtP_r w O;obtain⟨w1,I,a1,b1⟩:=numP_r e G;refine⟨w1,?_,⟨⟨a1,by simpa using b1⟩,by show t.size=1;omega⟩⟩
 unfold encEn;rw[ByteArray.append_assoc]
 show p.rest=be a 2++(t++pt.rest)
 rw[←Q,←I]
theorem rdEnd_enc (x:En) (d:EnFit x) (r:ByteArray):rdEnd ⟨encEn x++r,false⟩=(x,⟨r,false⟩):=by
 unfold rdEnd encEn;rw[ByteArray.append_assoc,numP_be _ 2 _ _ d.n.1 (by simpa using d.n.2),txtP_app _ _ _ _ (by rw[d.h];rfl)]
theorem rdEndsK_right:∀(k:Nat) {p q:PS}{l:List En},rdEndsK k p=(l,q)→q.wrong=false→p.wrong=false∧p.rest=cat (l.map encEn)++q.rest∧l.length=k∧∀x∈l,EnFit x
 | 0,p,q,l,h,hw=>by
   rw[rdEndsK] at h;obtain⟨rfl,rfl⟩:=Prod.mk.inj h;exact⟨hw,by simp[cat],rfl,by simp⟩
 | k+1,p,q,l,h,hw=>by
   rw[rdEndsK] at h
   split at h
   ·rename_i hp
    obtain⟨rfl,rfl⟩:=Prod.mk.inj h;rw[hp] at hw;cases hw
   ·obtain⟨y,d,w⟩:∃y d,rdEnd p=(y,d):=⟨_,_,dB _⟩;obtain⟨m,e,hm⟩:∃m e,rdEndsK k d=(m,e):=⟨_,_,dB _⟩;rw[w] at h;simp only at h;rw[hm] at h;obtain⟨rfl,rfl⟩:=Prod.mk.inj h;obtain⟨h1,h2,G,O⟩:=rdEndsK_right k hm hw;obtain⟨J,Q,U⟩:=rdEnd_right w h1;refine⟨J,?_,by simp[G],?_⟩
    ·rw[List.map_cons,cat,ByteArray.append_assoc,←h2];exact Q
    ·intro x I
     rcases List.mem_cons.1 I with q|q
     ·rw[q];exact U
     ·exact O x q
theorem rdEndsK_enc (l:List En) (d:∀x∈l,EnFit x) (r:ByteArray):rdEndsK l.length ⟨cat (l.map encEn)++r,false⟩=(l,⟨r,false⟩):=by
 induction l with
 | nil=>simp[cat,rdEndsK]
 | cons x l w=>
   rw[List.length_cons,rdEndsK,if_neg (by simp),List.map_cons,cat,ByteArray.append_assoc,rdEnd_enc x (d x (by simp)),w (fun y e=>d y (by simp[e]))]
theorem rdSlots_right {p q:PS}{l:List Sl} (h:rdSlots p=(l,q)) (w:q.wrong=false):p.wrong=false∧p.rest=be l.length 1++(cat (l.map fun x=>encSl (absS x))++q.rest)∧l.length<256∧∀x∈l,SlFit (absS x):=by
 obtain⟨h1,h2,I,e⟩:=rdSlotsK_right _ h w;obtain⟨w1,d,a1,b1⟩:=numP_r (p:=p) (a:=(numP 1 p).1) (q:=(numP 1 p).2) (dB _) h1;have G:(numP 1 p).1=(l.length:Int):=by omega
 refine⟨w1,by rw[←h2,←G];exact d,by simp at b1;omega,e⟩
theorem rdSlots_enc (l:List Bx.Sl) (e:l.length<256) (d:∀x∈l,SlFit x) (r:ByteArray):rdSlots ⟨be l.length 1++(cat (l.map encSl)++r),false⟩=(l.map rdOf,⟨r,false⟩):=by
 unfold rdSlots;rw[numP_be _ 1 _ _ (by omega) (by simp;omega),Int.toNat_natCast,rdSlotsK_enc l d]
theorem rdEnds_right {p q:PS}{l:List En} (h:rdEnds p=(l,q)) (w:q.wrong=false):p.wrong=false∧p.rest=be l.length 1++(cat (l.map encEn)++q.rest)∧l.length<256∧∀x∈l,EnFit x:=by
 obtain⟨h1,h2,I,e⟩:=rdEndsK_right _ h w;obtain⟨w1,d,a1,b1⟩:=numP_r (p:=p) (a:=(numP 1 p).1) (q:=(numP 1 p).2) (dB _) h1;have G:(numP 1 p).1=(l.length:Int):=by omega
 refine⟨w1,by rw[←h2,←G];exact d,by simp at b1;omega,e⟩
theorem rdEnds_enc (l:List En) (e:l.length<256) (d:∀x∈l,EnFit x) (r:ByteArray):rdEnds ⟨be l.length 1++(cat (l.map encEn)++r),false⟩=(l,⟨r,false⟩):=by
 unfold rdEnds;rw[numP_be _ 1 _ _ (by omega) (by simp;omega),Int.toNat_natCast,rdEndsK_enc l d]
theorem rdState_eq {p pc w d pt ps e:PS}{c n l:Int}{t:ByteArray}{sl:List Sl}{en:List En} (G:numP 5 p=(c,pc)) (O:numP 2 pc=(n,w)) (U:numP 2 w=(l,d)) (Q:txtP l d=(t,pt)) (I:rdSlots pt=(sl,ps)) (J:rdEnds ps=(en,e)):
 rdState p=(⟨t,c-1,n,sl,en⟩,e):=by
 unfold rdState;simp only [G,O,U,Q,I,J]
theorem rdState_right {p q:PS}{s:St} (h:rdState p=(s,q)) (hw:q.wrong=false):p.wrong=false∧p.rest=encSt (abs s)++q.rest∧StFit (abs s):=by
 obtain⟨c,pc,d⟩:∃a q,numP 5 p=(a,q):=⟨_,_,dB _⟩;obtain⟨n,pn,J⟩:∃a q,numP 2 pc=(a,q):=⟨_,_,dB _⟩;obtain⟨l,pl,w⟩:∃a q,numP 2 pn=(a,q):=⟨_,_,dB _⟩;obtain⟨t,pt,O⟩:∃a q,txtP l pl=(a,q):=⟨_,_,dB _⟩;obtain⟨sl,ps,I⟩:∃a q,rdSlots pt=(a,q):=⟨_,_,dB _⟩;obtain⟨en,pe,G⟩:∃a q,rdEnds ps=(a,q):=⟨_,_,dB _⟩;rw[rdState_eq d J w O I G] at h;obtain⟨rfl,rfl⟩:=Prod.mk.inj h;obtain⟨w6,Y,U,f6⟩:=rdEnds_right G hw;obtain⟨w5,e5,l5,f5⟩:=rdSlots_right I w6;obtain⟨w4,e4,s4⟩:=txtP_r O w5;obtain⟨V,e3,a3,Q⟩:=numP_r w w4;obtain⟨Z,e2,a2,e⟩:=numP_r J V;obtain⟨w1,e1,a1,b1⟩:=numP_r d Z;simp at b1 e Q;refine⟨w1,?_,⟨⟨by show -1≤c-1;omega,by show c-1<_;omega⟩,⟨a2,e⟩,by show t.size<65536;omega,by simpa [abs] using l5,U,?_,f6⟩⟩
 ·unfold encSt abs;simp only [ByteArray.append_assoc,List.length_map,List.map_map];rw[show c-1+1=c by omega,s4,←Y]
  rw[show (encSl ∘ absS)=fun x=>encSl (absS x) from rfl,←e5,←e4,←e3,←e2,←e1]
 ·intro x hx;obtain⟨y,hy,rfl⟩:=List.mem_map.1 hx;exact f5 y hy
def rdSt (s:Bx.St):St:=⟨s.tab,s.clock,s.next,s.slots.map rdOf,s.ends⟩
theorem rdSt_abs (s:Bx.St):abs (rdSt s)=s:=by
 obtain⟨a,b,c,d,e⟩:=s;unfold abs rdSt;simp only [List.map_map];have:(absS ∘ rdOf)=id:=funext rdOf_abs;rw[this,List.map_id]
theorem rdState_enc (s:Bx.St) (d:StFit s) (r:ByteArray):rdState ⟨encSt s++r,false⟩=(rdSt s,⟨r,false⟩):=by
 have e:encSt s++r=be (s.clock+1) 5++(be s.next 2++(be s.tab.size 2++(s.tab++(be s.slots.length 1++(cat (s.slots.map encSl)++(be s.ends.length 1++(cat (s.ends.map encEn)++r))))))):=by simp only [encSt,ByteArray.append_assoc]
 rw[e];have w:=d.c;have G:=d.t;refine (rdState_eq (numP_be (s.clock+1) 5 _ false (by omega) (by simp;omega)) (numP_be s.next 2 _ false d.n.1 (by simpa using d.n.2)) (numP_be (s.tab.size:Int) 2 _ false (by omega) (by simp;omega)) (txtP_app s.tab _ false _ rfl) (rdSlots_enc s.slots d.sl d.es _) (rdEnds_enc s.ends d.en d.ee r)).trans ?_
 rw[show s.clock+1-1=s.clock by omega];rfl
end Px
namespace Bx
theorem sum_bd (s:ByteArray):0≤Crc.sumR s∧Crc.sumR s<4294967296:=by
 have:=Crc.crc_lt s.data.toList;unfold Crc.sumR;omega
theorem app_inj {a b c d:ByteArray} (h:a++b=c++d) (w:a.size=c.size):a=c∧b=d:=by
 have e:a.data.toList++b.data.toList=c.data.toList++d.data.toList:=by
  have:=congrArg (fun x:ByteArray=>x.data.toList) h
  simpa [ByteArray.data_append] using this
 obtain⟨h1,h2⟩:=List.append_inj e (by rw[ba_len,ba_len,w])
 exact⟨ba_ext h1,ba_ext h2⟩
def Nx (r b more:ByteArray):Prop:=r=frame b++more∧b.size<65536
theorem be_inj {n m:Int}{k:Nat} (h:be n k=be m k) (d:0≤n) (n1:n<256 ^ k) (m0:0≤m) (m1:m<256 ^ k):n=m:=by
 rw[←nB_be n k d n1,←nB_be m k m0 m1,h]
theorem Nx.uniq {r b more G d:ByteArray} (h:Nx r b more) (U:Nx r G d):b=G∧more=d:=by
 obtain⟨e,hb⟩:=h;obtain⟨w,Y⟩:=U;rw[e] at w;unfold frame at w;simp only [ByteArray.append_assoc] at w;obtain⟨O,V⟩:=app_inj w (by rw[be_size,be_size])
 have Z:=be_inj O (by omega) (by simp;omega) (by omega) (by simp;omega)
 obtain⟨I,Q⟩:=app_inj V (by omega)
 obtain⟨_,J⟩:=app_inj Q (by rw[be_size,be_size])
 exact⟨I,J⟩
theorem Nx.lt {r b more:ByteArray} (h:Nx r b more):more.size<r.size:=by rw[h.1,ByteArray.size_append,frame_size];omega
def ChFit (c:Ch):Prop:=(c.kind=84∧c.n=0)∨(c.kind=67∧c.tab=ByteArray.empty∧0≤c.n∧c.n<1099511627776)∨((c.kind=83∨c.kind=68∨c.kind=70∨c.kind=75)∧c.tab=ByteArray.empty∧0≤c.n∧c.n<65536)
def IsCh (b:ByteArray) (c:Ch):Prop:=ChFit c∧body c=b
theorem ChFit.kind {c:Ch} (h:ChFit c):0≤c.kind∧c.kind<256∧c.kind≠90:=by rcases h with h|h|h<;>omega
theorem b1_be (n:Int):b1 n=be n 1:=by simp[be]
theorem IsCh.uniq {b:ByteArray}{c Z:Ch} (h:IsCh b c) (h':IsCh b Z):c=Z:=by
 obtain⟨f,e⟩:=h;obtain⟨Y,e'⟩:=h';rw[←e'] at e;unfold body at e;obtain⟨e1,J⟩:=app_inj e (by rw[b1_size,b1_size])
 rw[b1_be,b1_be] at e1;have k1:=f.kind;have k2:=Y.kind;have hk:=be_inj e1 k1.1 (by simpa using k1.2.1) k2.1 (by simpa using k2.2.1)
 obtain⟨k,t,n⟩:=c;obtain⟨k',t',n'⟩:=Z;simp only at hk J;subst hk
 rcases f with ⟨q,I⟩|⟨q,I,Q,V⟩|⟨q,I,Q,V⟩
 ·simp only at q I
  subst q I
  rcases Y with ⟨p,d⟩|⟨p,d,G,w⟩|⟨p,d,G,w⟩
  ·simp only at d;subst d
   rw[if_pos rfl,if_pos rfl] at J;rw[J]
  ·cases p
  ·simp at p
 ·simp only at q I Q V
  subst q I
  rcases Y with ⟨p,d⟩|⟨p,d,G,w⟩|⟨p,d,G,w⟩
  ·cases p
  ·simp only at d G w;subst d
   rw[if_neg (show ¬(67:Int)=84 by decide),if_pos rfl,if_neg (show ¬(67:Int)=84 by decide),if_pos rfl] at J
   rw[be_inj J Q (by simpa using V) G (by simpa using w)]
  ·simp at p
 ·simp only at q I Q V
  subst I;have O:¬k=84:=by omega
  have U:¬k=67:=by omega
  rcases Y with ⟨p,d⟩|⟨p,d,G,w⟩|⟨p,d,G,w⟩
  ·exact absurd p O
  ·exact absurd p U
  ·simp only at d G w;subst d
   rw[if_neg O,if_neg O,if_neg U,if_neg U] at J;rw[be_inj J Q (by simpa using V) G (by simpa using w)]
structure MaySl (s:St) (x:Sl):Prop where
 n:1≤x.num∧x.num<s.next
 l:1≤x.line∧x.line≤tn s.tab
 m0:0≤x.minute
 m:x.minute≤s.clock
 a:1≤x.att∧x.att≤opt s x.line 2-48
 f1:x.att=1→x.frm=x.minute
 f2:x.att≠1→x.minute<x.frm∧x.frm≤s.clock+10
 r:x.runs=true→x.frm≤s.clock
structure MayEn (s:St) (x:En):Prop where
 n:1≤x.num∧x.num<s.next
 h:x.how=hD∨x.how=hA∨x.how=hK∨x.how=hS
 o:∀y∈s.slots,y.num≠x.num
structure MayS (s:St):Prop where
 tab:ChkR s.tab 0 0
 c1: -1≤s.clock
 c2:s.clock≤4223371679
 n1:1≤s.next
 n2:s.next≤10000
 sl:s.slots.length≤8
 en:s.ends.length≤6
 rise:s.slots.Pairwise fun a b=>a.num<b.num
 lock:s.slots.Pairwise fun a b=>a.line=b.line→opt s a.line 0=120→a.runs=true→b.runs=true→False
 dif:s.ends.Pairwise fun a b=>a.num≠b.num
 es:∀x∈s.slots,MaySl s x
 ee:∀x∈s.ends,MayEn s x
theorem MayS.ok {s:St} (h:MayS s):StOk s:=⟨h.tab,h.c1,h.c2,h.n1,h.n2,h.sl,h.en,fun x d=>⟨(h.es x d).n.1,(h.es x d).n.2,(h.es x d).l.1,(h.es x d).l.2,(h.es x d).a.1,(h.es x d).a.2⟩⟩
theorem first_may:MayS first:=⟨empty_tab,by decide,by decide,by decide,by decide,by decide,by decide,by simp[first],by simp[first],by simp[first],by simp[first],by simp[first]⟩
theorem how_size {h:ByteArray} (e:h=hD∨h=hA∨h=hK∨h=hS):h.size=1:=by rcases e with rfl|rfl|rfl|rfl<;>rfl
theorem MayS.fit {s:St} (h:MayS s):StFit s:=by
 have I:=h.tab.lines.1;have h4:=gJ h.tab;have w:=h.c1;have U:=h.c2;have Q:=h.n1;have V:=h.n2;have Y:=h.sl;have O:=h.en;refine⟨⟨w,by omega⟩,⟨by omega,by omega⟩,by omega,by omega,by omega,fun x d=>?_,fun x d=>?_⟩
 ·have q:=h.es x d;have Z:=q.n;have q2:=q.l;have q3:=q.m;have q4:=q.a;have J:=q.m0;have q6:=h.ok.att5 d
  have G:0≤x.frm∧x.frm<1099511627776:=by
   by_cases e:x.att=1
   ·have:=q.f1 e;omega
   ·have:=q.f2 e;omega
  exact⟨⟨by omega,by omega⟩,⟨by omega,by omega⟩,⟨J,by omega⟩,⟨by omega,by omega⟩,G⟩
 ·have q:=h.ee x d;exact⟨by have:=q.n;omega,how_size q.h⟩
def IsZ (b:ByteArray) (s:St):Prop:=MayS s∧wholeS s=b
theorem IsZ.uniq {b:ByteArray}{s t:St} (h:IsZ b s) (G:IsZ b t):s=t:=by
 obtain⟨f,e⟩:=h;obtain⟨d,w⟩:=G;rw[←w] at e;unfold wholeS at e;obtain⟨_,I⟩:=app_inj e rfl;have h1:=Px.rdState_enc s f.fit ByteArray.empty;have h2:=Px.rdState_enc t d.fit ByteArray.empty;rw[I,h2] at h1;have:=congrArg (fun p=>Px.abs p.1) h1
 simp only [Px.rdSt_abs] at this
 exact this.symm
theorem IsZ.no_ch {b:ByteArray}{s:St}{c:Ch} (h:IsZ b s) (G:IsCh b c):False:=by
 obtain⟨_,e⟩:=h;obtain⟨f,w⟩:=G;rw[←w] at e;unfold wholeS body at e;obtain⟨d,_⟩:=app_inj e rfl;rw[b1_be,b1_be] at d;have k:=f.kind;exact k.2.2 (be_inj d (by decide) (by decide) k.1 (by simpa using k.2.1)).symm
def Stp (first:Bool) (s:St) (b:ByteArray) (t:St):Prop:=(first=true∧IsZ b t)∨(∃c,IsCh b c∧(doP s c).2=true∧t=(doP s c).1)
theorem Stp.uniq {fl:Bool}{s t e:St}{b:ByteArray} (h:Stp fl s b t) (d:Stp fl s b e):t=e:=by
 rcases h with ⟨_,h⟩|⟨c,h,_,rfl⟩
 ·rcases d with ⟨_,d⟩|⟨c,d,_⟩
  ·exact h.uniq d
  ·exact (h.no_ch d).elim
 ·rcases d with ⟨_,d⟩|⟨w,d,_,rfl⟩
  ·exact (d.no_ch h).elim
  ·rw[h.uniq d]
inductive Says:Bool→St→ByteArray→St→ByteArray→Prop
 | stop (fl:Bool) (s:St) (r:ByteArray) (h:¬∃b more t,Nx r b more∧Stp fl s b t):Says fl s r s r
 | go {fl:Bool} {s t u:St} {r b more q:ByteArray} (h1:Nx r b more) (h2:Stp fl s b t) (h3:Says false t more u q):Says fl s r u q
theorem Says.uniq {fl:Bool}{s u J:St}{r q O:ByteArray} (h:Says fl s r u q) (w:Says fl s r J O):u=J∧q=O:=by
 induction h with
 | stop fl s r d=>
   cases w with
   | stop=>exact⟨rfl,rfl⟩
   | go h1 h2 U=>exact (d ⟨_,_,_,h1,h2⟩).elim
 | go h1 h2 _ Q=>
   cases w with
   | stop _ _ _ d=>exact (d ⟨_,_,_,h1,h2⟩).elim
   | go e G I=>
     obtain⟨rfl,rfl⟩:=h1.uniq e;obtain rfl:=h2.uniq G;exact Q I
theorem cat_size {α:Type} (f:α→ByteArray) (n:Nat) (l:List α) (h:∀x∈l,(f x).size=n):(cat (l.map f)).size=n*l.length:=by
 induction l with
 | nil=>simp[cat]
 | cons x l e=>
   rw[List.map_cons,cat,ByteArray.size_append,h x (by simp),e (fun y d=>h y (by simp[d])),List.length_cons,Nat.mul_succ];omega
theorem encSl_size (x:Sl):(encSl x).size=15:=by
 unfold encSl;simp only [ByteArray.size_append,be_size]
theorem wholeS_size {s:St} (h:MayS s):(wholeS s).size≤450:=by
 have d:=h.tab.lines.1;have h1:=cat_size encSl 15 s.slots (fun x _=>encSl_size x)
 have h2:=cat_size encEn 3 s.ends (fun x e=>by unfold encEn;rw[ByteArray.size_append,be_size,how_size (h.ee x e).h])
 have G:=h.sl;have w:=h.en;unfold wholeS encSt;simp only [ByteArray.size_append,be_size,b1_size,h1,h2];omega
end Bx
namespace Bx
theorem MayS.dist {s:St} (h:MayS s) {i j:Nat} (hi:i<s.slots.length) (d:j<s.slots.length) (e:s.slots[i].num=s.slots[j].num):i=j:=by
 rcases Nat.lt_trichotomy i j with q|q|q
 ·have:=List.pairwise_iff_getElem.1 h.rise i j hi d q;omega
 ·exact q
 ·have:=List.pairwise_iff_getElem.1 h.rise j i d hi q;omega
theorem findK_num (l:List Sl) (n:Int) (k:Nat) (w:k≤l.length) (h:¬findK l n k<0):∃hi:(findK l n k).toNat<l.length,(l[(findK l n k).toNat]).num=n:=by
 induction k with
 | zero=>exact absurd (show findK l n 0<0 by simp[findK]) h
 | succ k e=>
   unfold findK at h ⊢
   split
   ·rename_i hc
    refine⟨by simp;omega,?_⟩
    have d:k<l.length:=by omega
    rw[List.getElem?_eq_getElem d] at hc
    simpa using hc
   ·rename_i hc
    rw[if_neg hc] at h;exact e (by omega) h
theorem find_num {s:St}{n:Int} (h:¬find s n<0):∃hi:(find s n).toNat<s.slots.length,(s.slots[(find s n).toNat]).num=n:=findK_num _ _ _ (Nat.le_refl _) h
theorem find_nat {s:St}{n:Int} (h:¬find s n<0):find s n=((find s n).toNat:Int):=by omega
theorem slAt_eq {s:St}{i:Nat} (h:i<s.slots.length):slAt s i=s.slots[i]:=by simp[slAt,h]
theorem putK_set (l:List Sl) (i:Nat) (x:Sl) (k:Nat) (I:k≤l.length):putK l i x k=(l.set i x).take k:=by
 induction k with
 | zero=>simp[putK]
 | succ k G=>
   have d:k<l.length:=by omega
   have w:k<(l.set i x).length:=by simpa using d
   rw[putK,G (by omega),List.take_succ_eq_append_getElem w,List.getElem_set]
   by_cases e:i=k
   ·subst e;simp
   ·rw[if_neg (by omega),if_neg e,List.getElem?_eq_getElem d];rfl
theorem put_set (l:List Sl) (i:Nat) (x:Sl):putL l i x=l.set i x:=by
 unfold putL;rw[putK_set l i x _ (Nat.le_refl _),List.take_of_length_le (by simp)]
theorem push_mem {l:List En}{e x:En} (h:x∈push l e):x∈l∨x=e:=by
 unfold push at h
 rcases List.mem_append.1 h with h|h
 ·exact Or.inl (List.mem_of_mem_drop h)
 ·exact Or.inr (by simpa using h)
theorem push_dif {l:List En}{e:En} (h:l.Pairwise fun a b=>a.num≠b.num) (d:∀x∈l,x.num≠e.num):(push l e).Pairwise fun a b=>a.num≠b.num:=by
 unfold push;rw[List.pairwise_append];refine⟨h.sublist (List.drop_sublist _ _),by simp,fun a w b hb=>?_⟩
 simp at hb;subst hb
 exact d a (List.mem_of_mem_drop w)
theorem MaySl.sub {s t:St}{x:Sl} (h:MaySl s x) (h1:t.next=s.next) (h2:t.tab=s.tab) (d:t.clock=s.clock):MaySl t x:=by
 obtain⟨a1,w,J,G,e,Q,O,I⟩:=h;refine⟨by rw[h1];exact a1,by rw[h2];exact w,J,by rw[d];exact G,?_,Q,by rw[d];exact O,by rw[d];exact I⟩
 unfold opt at e ⊢;rw[h2];exact e
theorem MayS.gone {s:St} (h:MayS s) {i:Nat} (hi:i<s.slots.length) {how:ByteArray} (V:how=hD∨how=hA∨how=hK∨how=hS):MayS (with' s (withoutL s.slots i) s.slots[i].num how):=by
 have w:=h.es _ (List.getElem_mem hi);have I:0<s.slots[i].num:=by have:=w.n;omega
 have Z:(with' s (withoutL s.slots i) s.slots[i].num how)={s with slots:=s.slots.eraseIdx i,ends:=push s.ends ⟨s.slots[i].num,how⟩}:=by
  unfold with';rw[if_pos I,Px.without_erase]
 rw[Z];have d:(s.slots.eraseIdx i).Sublist s.slots:=List.eraseIdx_sublist _ _
 have J:∀y∈s.slots.eraseIdx i,y.num≠s.slots[i].num:=by
  intro y G e;obtain⟨j,Y,U,O⟩:=List.mem_eraseIdx_iff_getElem.1 G;exact U (h.dist Y hi (by rw[O];exact e))
 refine⟨h.tab,h.c1,h.c2,h.n1,h.n2,Nat.le_trans (d.length_le) h.sl,push_len _,h.rise.sublist d,h.lock.sublist d,?_,fun x w=>(h.es x (d.subset w)).sub rfl rfl rfl,?_⟩
 ·refine push_dif h.dif fun x w e=>?_
  exact (h.ee x w).o _ (List.getElem_mem hi) e.symm
 ·intro x Q
  rcases push_mem Q with q|q
  ·have:=h.ee x q;exact⟨this.n,this.h,fun y G=>this.o y (d.subset G)⟩
  ·subst q;exact⟨w.n,V,fun y G=>J y G⟩
theorem MayS.put {s:St} (h:MayS s) {i:Nat} (hi:i<s.slots.length) {y:Sl} (V:y.num=s.slots[i].num) (_hl:y.line=s.slots[i].line) (hy:MaySl s y)
 (hr:y.runs=true→∀k (Q:k<s.slots.length),k≠i→s.slots[k].line=y.line→opt s y.line 0=120→s.slots[k].runs=true→False):MayS (with' s (putL s.slots i y) 0 ByteArray.empty):=by
 have he:with' s (putL s.slots i y) 0 ByteArray.empty={s with slots:=s.slots.set i y}:=by
  unfold with';rw[if_neg (by decide),put_set]
 rw[he]
 have hg:∀k (Q:k<(s.slots.set i y).length),(s.slots.set i y)[k].num=(s.slots[k]'(by simpa using Q)).num:=by
  intro k Q;rw[List.getElem_set]
  by_cases e:i=k
  ·subst e;rw[if_pos rfl];exact V
  ·rw[if_neg e]
 refine⟨h.tab,h.c1,h.c2,h.n1,h.n2,by simpa using h.sl,h.en,?_,?_,h.dif,?_,?_⟩
 ·rw[List.pairwise_iff_getElem];intro a b Y hb d;rw[hg,hg];exact List.pairwise_iff_getElem.1 h.rise a b _ _ d
 ·rw[List.pairwise_iff_getElem];intro a b Y hb d;have G:a<s.slots.length:=by simpa using Y
  have w:b<s.slots.length:=by simpa using hb
  rw[List.getElem_set,List.getElem_set]
  by_cases Z:i=a
  ·subst Z;rw[if_pos rfl,if_neg (by omega)]
   intro h1 h2 I O;exact hr I b w (by omega) h1.symm h2 O
  ·rw[if_neg Z]
   by_cases U:i=b
   ·subst U;rw[if_pos rfl];intro h1 h2 I O;exact hr O a G (by omega) h1 (by rw[←h1];exact h2) I
   ·rw[if_neg U];exact List.pairwise_iff_getElem.1 h.lock a b G w d
 ·intro x J
  rcases List.mem_or_eq_of_mem_set J with q|q
  ·exact (h.es x q).sub rfl rfl rfl
  ·rw[q];exact hy.sub rfl rfl rfl
 ·intro x J;have q:=h.ee x J;refine⟨q.n,q.h,fun z hz=>?_⟩
  rcases List.mem_or_eq_of_mem_set hz with p|p
  ·exact q.o z p
  ·rw[p,V];exact q.o _ (List.getElem_mem hi)
theorem lockK_no {s:St}{i k:Nat} (h:lockK s i k=false):∀j,j<k→j≠i→(slAt s j).line=(slAt s i).line→(slAt s j).runs=true→False:=by
 induction k with
 | zero=>intro j J;omega
 | succ k I=>
   intro j J d G w;rw[lockK] at h;simp only [Bool.or_eq_false_iff] at h
   by_cases e:j=k
   ·subst e;have:=h.2;simp[d,G,w] at this
   ·exact I h.1 j (by omega) d G w
theorem MayS.failed {s:St} (h:MayS s) {i:Nat} (hi:i<s.slots.length):MayS (failed s i):=by
 have d:=h.es _ (List.getElem_mem hi);unfold Bx.failed;rw[slAt_eq hi]
 split
 ·exact h.gone hi (Or.inr (Or.inl rfl))
 ·rename_i hne
  have hd:=Px.delay_bd s.slots[i].att;have w:=d.a;have hm:=d.m;refine h.put hi rfl rfl ⟨d.n,d.l,d.m0,d.m,?_,?_,?_,?_⟩ ?_
  ·show 1≤s.slots[i].att+1∧s.slots[i].att+1≤opt s s.slots[i].line 2-48
   omega
  ·intro e;have:s.slots[i].att+1=1:=e;omega
  ·intro _
   show s.slots[i].minute<s.clock+delay s.slots[i].att∧s.clock+delay s.slots[i].att≤s.clock+10
   omega
  ·intro e;cases e
  ·intro e;cases e
theorem MayS.about {s:St} (h:MayS s) (kind n:Int):MayS (aboutP s kind n).1:=by
 unfold aboutP
 split
 ·exact h
 ·rename_i hn
  obtain⟨hi,G⟩:=find_num hn;have U:=find_nat hn;generalize (find s n).toNat=i at *;rw[U];have d:=h.es _ (List.getElem_mem hi)
  split
  ·have:=h.gone hi (how:=hK) (Or.inr (Or.inr (Or.inl rfl)));rw[G] at this;exact this
  ·split
   ·split
    ·exact h
    ·rename_i hc
     rw[slAt_eq hi] at hc ⊢;have aa:¬s.slots[i].runs=true:=fun e=>hc (Or.inl e)
     have ab:¬s.clock<s.slots[i].frm:=fun e=>hc (Or.inr (Or.inl e))
     have O:¬locked s i=true:=fun e=>hc (Or.inr (Or.inr e))
     refine h.put hi rfl rfl ⟨d.n,d.l,d.m0,d.m,d.a,d.f1,d.f2,fun _=>by show s.slots[i].frm≤s.clock;omega⟩ ?_
     intro _ k I Q Z Y V;have w:locked s i=false:=by simpa using O
     unfold locked at w;rw[slAt_eq hi] at w;have J:(opt s s.slots[i].line 0==120)=true:=by simpa using Y
     rw[J,Bool.true_and] at w;exact lockK_no w k I Q (by rw[slAt_eq I,slAt_eq hi];exact Z) (by rw[slAt_eq I];exact V)
   ·split
    ·have:=h.gone hi (how:=hD) (Or.inl rfl);rw[G] at this;exact this
    ·split
     ·exact h.failed hi
     ·exact h
theorem MayS.later {s:St} (h:MayS s) {m:Int} (h1:s.clock≤m) (h2:m≤4223371679):MayS {s with clock:=m}:=by
 refine⟨h.tab,by have:=h.c1;show -1≤m;omega,h2,h.n1,h.n2,h.sl,h.en,h.rise,h.lock,h.dif,fun x d=>?_,fun x d=>⟨(h.ee x d).n,(h.ee x d).h,(h.ee x d).o⟩⟩
 have q:=h.es x d;have w:=q.m;refine⟨q.n,q.l,q.m0,by show x.minute≤m;omega,q.a,q.f1,fun e=>?_,fun e=>?_⟩
 ·have:=q.f2 e;exact⟨this.1,by show x.frm≤m+10;omega⟩
 ·have:=q.r e;show x.frm≤m;omega
theorem MayS.arr {s:St} (h:MayS s) (p:Nat×Int) (V:p.1<tn s.tab) (h0:0≤p.2) (h1:p.2≤s.clock) (Q:s.next+1≤10000):MayS (arr s p):=by
 have J:=h.n1
 have I:∀x∈s.slots,MaySl {s with next:=s.next+1} x:=fun x d=>by
  have q:=h.es x d;have G:=q.n;exact⟨⟨G.1,by show x.num<s.next+1;omega⟩,q.l,q.m0,q.m,q.a,q.f1,q.f2,q.r⟩
 unfold Bx.arr
 split
 ·have o:=(jf (h.tab.lines.2.2 p.1 V)).2.2.2.1;refine⟨h.tab,h.c1,h.c2,by show 1≤s.next+1;omega,Q,by simp;omega,h.en,?_,?_,h.dif,?_,?_⟩
  ·rw[List.pairwise_append];refine⟨h.rise,by simp,fun a U b hb=>?_⟩
   simp at hb;subst hb
   exact (h.es a U).n.2
  ·rw[List.pairwise_append];refine⟨h.lock,by simp,fun a U b hb=>?_⟩
   simp at hb;subst hb
   intro _ _ _ q;cases q
  ·intro x d
   rcases List.mem_append.1 d with d|d
   ·exact (I x d).sub rfl rfl rfl
   ·simp at d;subst d
    refine⟨⟨J,by show s.next<s.next+1;omega⟩,⟨by simp[slotOf];omega,by simp[slotOf];omega⟩,h0,h1,⟨by simp[slotOf],?_⟩,fun _=>rfl,fun e=>(e rfl).elim,fun e=>by cases e⟩
    show (1:Int)≤ob (tl s.tab (((p.1:Int)+1)-1).toNat) 2-48
    rw[show (((p.1:Int)+1)-1).toNat=p.1 by omega];omega
  ·intro x d;have q:=h.ee x d;have G:=q.n;refine⟨⟨G.1,by show x.num<s.next+1;omega⟩,q.h,fun y w=>?_⟩
   rcases List.mem_append.1 w with w|w
   ·exact q.o y w
   ·simp at w;subst w;show s.next≠x.num;omega
 ·refine⟨h.tab,h.c1,h.c2,by show 1≤s.next+1;omega,Q,h.sl,push_len _,h.rise,h.lock,?_,fun x d=>(I x d).sub rfl rfl rfl,?_⟩
  ·exact push_dif h.dif fun x d e=>by have:=(h.ee x d).n;have Y:x.num=s.next:=e;omega
  ·intro x d
   rcases push_mem d with q|q
   ·have O:=h.ee x q;have G:=O.n;exact⟨⟨G.1,by show x.num<s.next+1;omega⟩,O.h,O.o⟩
   ·subst q;exact⟨⟨J,by show s.next<s.next+1;omega⟩,Or.inr (Or.inr (Or.inr rfl)),fun y w=>by have:=(h.es y w).n;show y.num≠s.next;omega⟩
theorem arr_next (s:St) (p:Nat×Int):(arr s p).next=s.next+1∧(arr s p).tab=s.tab∧(arr s p).clock=s.clock:=by
 unfold arr;split<;>exact⟨rfl,rfl,rfl⟩
theorem arr_clock (s:St) (p:Nat×Int) (m:Int):arr {s with clock:=m} p={arr s p with clock:=m}:=by
 unfold arr
 by_cases h:s.slots.length<8
 ·rw[if_pos h,if_pos h]
 ·rw[if_neg h,if_neg h]
theorem arrs_clock (l:List (Nat×Int)) (s:St) (m:Int):l.foldl arr {s with clock:=m}={l.foldl arr s with clock:=m}:=by
 induction l generalizing s with
 | nil=>rfl
 | cons p l d=>rw[List.foldl_cons,List.foldl_cons,arr_clock,d]
theorem MayS.arrs (l:List (Nat×Int)) {s:St} (h:MayS s) (d:∀p∈l,p.1<tn s.tab∧0≤p.2∧p.2≤s.clock) (J:s.next+(l.length:Int)≤10000):MayS (l.foldl Bx.arr s):=by
 induction l generalizing s with
 | nil=>exact h
 | cons p l Q=>
   simp only [List.length_cons] at J
   obtain⟨e,O,U⟩:=d p (by simp)
   obtain⟨G,V,w⟩:=arr_next s p;rw[List.foldl_cons];exact Q (h.arr p e O U (by omega)) (fun x I=>by rw[V,w];exact d x (by simp[I])) (by rw[G];omega)
theorem MayS.clocked {s:St} (h:MayS s) (m:Int):MayS (clockedP s m).1:=by
 unfold clockedP
 split
 ·rename_i ha
  split
  ·rename_i hn
   have hA:0≤m∧m≤4223371679∧s.clock<m∧(s.clock= -1∨m-s.clock≤1500):=of_decide_eq_true ha
   show MayS {(comesS s m).foldl Bx.arr s with clock:=m}
   rw[←arrs_clock];refine MayS.arrs _ (h.later (by omega) hA.2.1) (fun p d=>?_) hn
   have w:=comes_line d;obtain⟨_,G,e,_⟩:=((comes_ok (lns s.tab) (newA s m) m).mem p.1 p.2).1 d;have h0:0≤newA s m:=by have:=h.c1;unfold newA;split<;>omega
   exact⟨w,by omega,e⟩
  ·exact h
 ·exact h
theorem MayS.do {s:St} (h:MayS s) (c:Ch):MayS (doP s c).1:=by
 unfold doP
 split
 ·split
  ·rename_i hc
   have h0:s.slots=[]:=List.eq_nil_of_length_eq_zero hc.2;refine⟨hc.1,h.c1,h.c2,h.n1,h.n2,h.sl,h.en,h.rise,?_,h.dif,?_,fun x d=>⟨(h.ee x d).n,(h.ee x d).h,(h.ee x d).o⟩⟩
   ·show s.slots.Pairwise _;rw[h0];exact List.Pairwise.nil
   ·show ∀x∈s.slots,_;rw[h0];simp
  ·exact h
 ·split
  ·exact h.clocked _
  ·exact h.about _ _
theorem MayS.told {s:St} (h:MayS s) (l:List Ch):MayS (told s l):=by
 induction l generalizing s with
 | nil=>exact h
 | cons a r d=>
   refine d ?_;unfold tell;split
   ·exact h.do a
   ·exact h
end Bx
namespace Bx
theorem b1_inj {k d:Int}{r e:ByteArray} (h:b1 k++r=b1 d++e) (h1:0≤k∧k<256) (h2:0≤d∧d<256):k=d∧r=e:=by
 obtain⟨w,G⟩:=app_inj h rfl;rw[b1_be,b1_be] at w;exact⟨be_inj w h1.1 (by simpa using h1.2) h2.1 (by simpa using h2.2),G⟩
theorem body_T (r:ByteArray):IsCh (b1 84++r) ⟨84,r,0⟩:=⟨Or.inl ⟨rfl,rfl⟩,by unfold body;rw[if_pos rfl]⟩
theorem numP_all {k:Nat}{r:ByteArray}{n:Int}{q:PS} (h:numP k ⟨r,false⟩=(n,q)) (d:q.wrong=false) (w:q.rest=ByteArray.empty):r=be n k∧0≤n∧n<256 ^ k:=by
 obtain⟨_,e,a,b⟩:=Px.numP_r h d;rw[w] at e;exact⟨by simpa using e,a,b⟩
theorem body_C_yes {r:ByteArray}{n:Int}{q:PS} (h:numP 5 ⟨r,false⟩=(n,q)) (d:q.wrong=false) (w:q.rest=ByteArray.empty):IsCh (b1 67++r) ⟨67,ByteArray.empty,n⟩:=by
 obtain⟨e,a,b⟩:=numP_all h d w;refine⟨Or.inr (Or.inl ⟨rfl,rfl,a,by simpa using b⟩),?_⟩
 unfold body;rw[if_neg (show ¬(67:Int)=84 by decide),if_pos rfl,e]
theorem body_N_yes {k:Int}{r:ByteArray}{n:Int}{q:PS} (w:k=83∨k=68∨k=70∨k=75) (h:numP 2 ⟨r,false⟩=(n,q)) (d:q.wrong=false) (G:q.rest=ByteArray.empty):IsCh (b1 k++r) ⟨k,ByteArray.empty,n⟩:=by
 obtain⟨e,a,b⟩:=numP_all h d G;refine⟨Or.inr (Or.inr ⟨w,rfl,a,by simpa using b⟩),?_⟩
 unfold body;rw[if_neg (by simp;omega),if_neg (by simp;omega),e]
theorem isCh_split {k:Int}{r:ByteArray}{c:Ch} (h:IsCh (b1 k++r) c) (d:0≤k∧k<256):c.kind=k∧r=(if c.kind=84 then c.tab else if c.kind=67 then be c.n 5 else be c.n 2):=by
 obtain⟨f,e⟩:=h;unfold body at e;have q:=f.kind;obtain⟨w,G⟩:=b1_inj e ⟨q.1,q.2.1⟩ d;exact⟨w,G.symm⟩
theorem body_C_no {r:ByteArray}{n:Int}{q:PS} (h:numP 5 ⟨r,false⟩=(n,q)) (I:¬(q.wrong=false∧q.rest=ByteArray.empty)):¬∃c,IsCh (b1 67++r) c:=by
 rintro ⟨c,d⟩;obtain⟨G,w⟩:=isCh_split d (by decide)
 rw[if_neg (by omega),if_pos G] at w
 have e:0≤c.n∧c.n<1099511627776:=by rcases d.1 with ⟨q,_⟩|⟨_,_,q⟩|⟨q,_⟩<;>omega
 have:=numP_be c.n 5 ByteArray.empty false e.1 (by simpa using e.2)
 rw[w] at h;simp only [ByteArray.append_empty] at this;rw[this] at h;obtain⟨_,rfl⟩:=Prod.mk.inj h;exact I ⟨rfl,rfl⟩
theorem body_N_no {k:Int}{r:ByteArray}{n:Int}{q:PS} (J:k=83∨k=68∨k=70∨k=75) (h:numP 2 ⟨r,false⟩=(n,q)) (G:¬(q.wrong=false∧q.rest=ByteArray.empty)):¬∃c,IsCh (b1 k++r) c:=by
 rintro ⟨c,d⟩;obtain⟨I,w⟩:=isCh_split d (by omega)
 rw[if_neg (by omega),if_neg (by omega)] at w
 have e:0≤c.n∧c.n<65536:=by rcases d.1 with ⟨q,_⟩|⟨q,_⟩|⟨_,_,q⟩<;>omega
 have:=numP_be c.n 2 ByteArray.empty false e.1 (by simpa using e.2)
 rw[w] at h;simp only [ByteArray.append_empty] at this;rw[this] at h;obtain⟨_,rfl⟩:=Prod.mk.inj h;exact G ⟨rfl,rfl⟩
theorem body_no {k:Int}{r:ByteArray} (e:0≤k∧k<256) (h:¬k=84∧¬k=67∧¬k=83∧¬k=68∧¬k=70∧¬k=75):¬∃c,IsCh (b1 k++r) c:=by
 rintro ⟨c,d⟩;obtain⟨w,_⟩:=isCh_split d e
 rcases d.1 with ⟨q,_⟩|⟨q,_⟩|⟨q,_⟩<;>omega
theorem whole_no {k:Int}{r:ByteArray} (d:0≤k∧k<256) (h:¬k=90):¬∃s,wholeS s=b1 k++r:=by
 rintro ⟨s,e⟩;exact h (b1_inj e (by decide) d).1.symm
theorem whole_yes {r:ByteArray}{s:Px.St}{q:PS} (h:Px.rdState ⟨r,false⟩=(s,q)) (d:q.wrong=false) (w:q.rest=ByteArray.empty):wholeS (Px.abs s)=b1 90++r∧StFit (Px.abs s):=by
 obtain⟨_,e,f⟩:=Px.rdState_right h d;rw[w] at e;exact⟨by unfold wholeS;rw[show r=encSt (Px.abs s) from by simpa using e],f⟩
theorem whole_fit_no {r:ByteArray}{s:Px.St}{q:PS} (h:Px.rdState ⟨r,false⟩=(s,q)) (d:¬(q.wrong=false∧q.rest=ByteArray.empty)):¬∃t,StFit t∧wholeS t=b1 90++r:=by
 rintro ⟨t,ft,e⟩;obtain⟨_,w⟩:=b1_inj e (by decide) (by decide)
 have:=Px.rdState_enc t ft ByteArray.empty;simp only [ByteArray.append_empty] at this;rw[w,h] at this;obtain⟨_,rfl⟩:=Prod.mk.inj this;exact d ⟨rfl,rfl⟩
theorem empty_no:(¬∃c,IsCh ByteArray.empty c)∧¬∃s,wholeS s=ByteArray.empty:=by
 constructor
 ·rintro ⟨c,_,e⟩;have:=congrArg ByteArray.size e;unfold body at this;rw[ByteArray.size_append,b1_size] at this;simp at this
 ·rintro ⟨s,e⟩;have:=congrArg ByteArray.size e;unfold wholeS at this;rw[ByteArray.size_append,b1_size] at this;simp at this
theorem one_of {α:Type} (p:α→α→Bool) (J:∀x,p x x=true) (l:List α) (c:α→Prop) (Q:∀x y,p x y=true→c x→c y∧p y x=true):
 (∀x∈l,c x→(l.filter (p x)).length=1)↔l.Pairwise fun a b=>c a→p a b=true→False:=by
 induction l with
 | nil=>simp
 | cons a l U=>
   rw[List.pairwise_cons,←U]
   constructor
   ·intro h;refine⟨fun b hb I O=>?_,fun x d w=>?_⟩
    ·have h1:=h a (by simp) I
     rw[List.filter_cons_of_pos (J a),List.length_cons] at h1;have:b∈l.filter (p a):=List.mem_filter.2 ⟨hb,O⟩;have:=List.length_pos_of_mem this;omega
    ·have h1:=h x (by simp[d]) w
     have h2:x∈l.filter (p x):=List.mem_filter.2 ⟨d,J x⟩;have Y:=List.length_pos_of_mem h2
     by_cases G:p x a=true
     ·rw[List.filter_cons_of_pos G,List.length_cons] at h1;omega
     ·rw[List.filter_cons_of_neg G] at h1;exact h1
   ·rintro ⟨h1,h2⟩ x d w
    rcases List.mem_cons.1 d with rfl|d
    ·rw[List.filter_cons_of_pos (J x),List.length_cons];have:l.filter (p x)=[]:=List.filter_eq_nil_iff.2 fun b hb e=>h1 b hb w e
     rw[this];rfl
    ·have G:¬p x a=true:=fun e=>by
      obtain⟨I,V⟩:=Q x a e w;exact h1 x d I V
     rw[List.filter_cons_of_neg G];exact h2 x d w
end Bx
namespace Px
open Bx (PS numP)
def Fresh (x:Sl):Prop:=(x.step=0∨x.step=1)∧x.ans=0∧x.heard=ByteArray.empty∧0≤x.minute
theorem rdSlot_fresh (p:PS):Fresh (rdSlot p).1:=by
 obtain⟨a,I,G⟩:∃a q,numP 2 p=(a,q):=⟨_,_,dB _⟩;obtain⟨b,pb,hb⟩:∃a q,numP 1 I=(a,q):=⟨_,_,dB _⟩;obtain⟨c,pc,w⟩:∃a q,numP 5 pb=(a,q):=⟨_,_,dB _⟩;obtain⟨d,Q,hd⟩:∃a q,numP 1 pc=(a,q):=⟨_,_,dB _⟩;obtain⟨e,O,U⟩:∃a q,numP 5 Q=(a,q):=⟨_,_,dB _⟩;obtain⟨f,V,J⟩:∃a q,numP 1 O=(a,q):=⟨_,_,dB _⟩;rw[rdSlot_eq G hb w hd U J];have hm:=Bx.numP_bd 5 pb;rw[w] at hm;refine⟨?_,rfl,rfl,hm⟩
 show (if f=1 then (1:Int) else 0)=0∨(if f=1 then (1:Int) else 0)=1
 split
 ·exact Or.inr rfl
 ·exact Or.inl rfl
theorem rdSlots_fresh (p:PS):∀x∈(rdSlots p).1,Fresh x:=by
 have:∀k p,∀x∈(rdSlotsK k p).1,Fresh x:=by
  intro k
  induction k with
  | zero=>intro p x d;simp[rdSlotsK] at d
  | succ k w=>
    intro p x d;rw[rdSlotsK] at d
    split at d
    ·simp at d
    ·rcases List.mem_cons.1 d with e|e
     ·rw[e];exact rdSlot_fresh p
     ·exact w _ x e
 exact this _ _
theorem rdState_fresh (p:PS):(∀x∈(rdState p).1.slots,Fresh x)∧ -1≤(rdState p).1.clock:=by
 obtain⟨c,pc,d⟩:∃a q,numP 5 p=(a,q):=⟨_,_,dB _⟩;obtain⟨n,Q,G⟩:∃a q,numP 2 pc=(a,q):=⟨_,_,dB _⟩;obtain⟨l,I,O⟩:∃a q,numP 2 Q=(a,q):=⟨_,_,dB _⟩;obtain⟨t,pt,J⟩:∃a q,Bx.txtP l I=(a,q):=⟨_,_,dB _⟩;obtain⟨sl,ps,e⟩:∃a q,rdSlots pt=(a,q):=⟨_,_,dB _⟩;obtain⟨en,U,w⟩:∃a q,rdEnds ps=(a,q):=⟨_,_,dB _⟩;rw[rdState_eq d G O J e w];have h1:=rdSlots_fresh pt;rw[e] at h1;have h2:=Bx.numP_bd 5 p;rw[d] at h2;exact⟨h1,by show -1≤c-1;simp only at h2;omega⟩
end Px
end Go.Proofs.YtdajolpoiffimabGreatDoor

namespace Go.Proofs.YtdajolpoiffimabGreatDoor
open Go.RowKit
def numS (n:Int) (b:UInt8):Int:=wrap64 (wrap64 (n*256)+wrap64 (b.toNat:Int))
def numW (l:List UInt8):Int:=l.foldl numS 0
def partK (s:ByteArray) (a:Nat):Nat→ByteArray
 | 0=>{data:= #[]}
 | k+1=>partK s a k++(if a+k<s.size then s.extract (a+k) (a+k+1) else {data:= #[0]})
theorem fo (s:ByteArray) (a k:Nat):(partK s a k).size=k:=by
 induction k with
 | zero=>rfl
 | succ k d=>
   rw[partK,ByteArray.size_append,d]
   split
   ·simp;omega
   ·rfl
theorem gY (x:Int) (h1:0≤x) (h2:x<9223372036854775808):wrap64 x=x:=by unfold wrap64;omega
theorem nN (l:List UInt8) (b:UInt8):numW (l++[b])=numS (numW l) b:=by simp[numW,List.foldl_append]
theorem te {n:Nat} (h:n≤6):(256:Int) ^ n≤281474976710656:=by
 match n,h with
 | 0,_=>decide
 | 1,_=>decide
 | 2,_=>decide
 | 3,_=>decide
 | 4,_=>decide
 | 5,_=>decide
 | 6,_=>decide
theorem sn (l:List UInt8):l.length≤7→numW l=Bx.nb l:=by
 induction l using Bx.snoc_ind with
 | h0=>intro _;rfl
 | h1 l b d=>
   intro h;have e:l.length≤6:=by simp at h;omega
   rw[nN,Bx.nb_snoc,d (by omega)]
   have h1:=Bx.nb_nonneg l;have h2:=Bx.nb_lt l;have G:=te e;have w:=b.toNat_lt;unfold numS;rw[gY (Bx.nb l*256) (by omega) (by omega),gY (b.toNat:Int) (by omega) (by omega),gY _ (by omega) (by omega)]
theorem l9 (x:ByteArray) (h:x.size≤7):numW x.data.toList=Bx.nB x:=sn _ (by simpa using h)
theorem lP (n:Int) (k:Nat) (h0:0≤n) (h1:n<256 ^ k) (d:k≤7):numW (Bx.be n k).data.toList=n:=by
 rw[l9 _ (by rw[Bx.be_size];exact d),Bx.nB_be n k h0 h1]
theorem ii {x:ByteArray}{k:Nat} (h:x.size=k) (d:k≤7):Bx.be (numW x.data.toList) k=x∧0≤numW x.data.toList∧numW x.data.toList<256 ^ k:=by
 rw[l9 x (by omega)]
 refine⟨Bx.be_nB' h,Bx.nb_nonneg _,?_⟩;have:=Bx.nb_lt x.data.toList;have e:x.data.toList.length=k:=by simpa using h
 rw[e] at this;exact this
end Go.Proofs.YtdajolpoiffimabGreatDoor

namespace Go.Proofs.YtdajolpoiffimabGreatDoor
namespace Px
theorem start_abs {s:St} (hd:Dist s.slots) (n:Int):
 ((startP s n).2=8∧Bx.find (abs s) n<0)∨
 (∃i:Nat,∃hi:i<s.slots.length,Bx.find (abs s) n=i∧s.slots[i].num=n∧
  (((startP s n).2=9∧0<s.slots[i].step)∨((startP s n).2=10∧s.slots[i].step≤0∧s.clock<s.slots[i].frm)∨
   ((startP s n).2=11∧s.slots[i].step≤0∧¬s.clock<s.slots[i].frm∧lockP s s.slots[i].line=true)∨
   ((startP s n).2=0∧s.slots[i].step≤0∧¬s.clock<s.slots[i].frm∧lockP s s.slots[i].line=false∧(startP s n).1={s with slots:=repl s.slots (beg s s.slots[i])}∧
    Bx.aboutP (abs s) 83 n=(abs (startP s n).1,true)))):=by
 unfold startP
 cases h:find s.slots n with
 | none=>left;rw[find_none h];exact⟨rfl,by omega⟩
 | some x=>
   right
   obtain⟨i,hi,rfl,I,G⟩:=find_some hd h;refine⟨i,hi,G,I,?_⟩
   by_cases w:0<s.slots[i].step
   ·left;simp only [w,if_true];exact⟨trivial,trivial⟩
   right
   by_cases d:s.clock<s.slots[i].frm
   ·left;simp only [w,d,if_true,if_false];exact⟨trivial,by omega,trivial⟩
   right
   cases e:lockP s s.slots[i].line
   ·right
    have O:=abs_repl hd hi (beg s s.slots[i]) rfl;simp only [w,d,e,if_false,Bool.false_eq_true];refine⟨trivial,by omega,not_false,trivial,trivial,?_⟩
    unfold Bx.aboutP;rw[G,if_neg (by omega),if_neg (by omega),if_pos rfl]
    simp only [Int.toNat_natCast]
    have J:¬((Bx.slAt (abs s) i).runs=true∨(abs s).clock<(Bx.slAt (abs s) i).frm∨Bx.locked (abs s) i=true):=by
     rw[slAt_abs hi,lock_abs hi (by omega),e]
     rintro (q|q|q)
     ·simp[absS] at q;omega
     ·exact d q
     ·cases q
    rw[if_neg J,slAt_abs hi];simp only [Bx.with'];rw[if_neg (by omega)]
    show _=(({tab:=s.tab,clock:=s.clock,next:=s.next,slots:=(repl s.slots (beg s s.slots[i])).map absS,ends:=s.ends}:Bx.St),true)
    rw[O];rfl
   ·left;simp only [w,d,e,if_true,if_false];exact⟨trivial,by omega,not_false,trivial⟩
theorem arr_abs (s:St) (p:Nat×Int):abs (arr s p)=Bx.arr (abs s) p:=by
 unfold arr Bx.arr;have d:(abs s).slots.length=s.slots.length:=by simp[abs]
 by_cases q:8≤s.slots.length
 ·rw[if_pos q,if_neg (by omega)];rfl
 ·rw[if_neg q,if_pos (by omega)]
  simp[abs,slotOf,Bx.slotOf,absS]
theorem arrs_abs (l:List (Nat×Int)) (s:St):abs (l.foldl arr s)=l.foldl Bx.arr (abs s):=by
 induction l generalizing s with
 | nil=>rfl
 | cons p r d=>rw[List.foldl_cons,List.foldl_cons,d,arr_abs]
theorem comes_abs (s:St) (m:Int):Bx.comesS (abs s) m=comesP s m:=rfl
theorem clock_abs (s:St) (m:Int) (h:(clockP s m).2=0):Bx.clockedP (abs s) m=(abs (clockP s m).1,true):=by
 unfold clockP at h ⊢
 by_cases e:m<0∨4223371679<m
 ·rw[if_pos e] at h;cases h
 rw[if_neg e] at h ⊢
 by_cases d:aheadP s m=false
 ·rw[if_pos d] at h;cases h
 rw[if_neg d] at h ⊢
 by_cases w:10000<s.next+((comesP s m).length:Int)
 ·rw[if_pos w] at h;cases h
 rw[if_neg w]
 have G:Bx.ahead (abs s) m=true:=by
  have:aheadP s m=true:=by simpa using d
  unfold aheadP at this;have:=of_decide_eq_true this;unfold Bx.ahead;exact decide_eq_true ⟨by omega,by omega,this.1,this.2⟩
 unfold Bx.clockedP;rw[if_pos G,comes_abs,if_pos (by show s.next+_≤_;omega)]
 have:=arrs_abs (comesP s m) s;simp only [←this];rfl
theorem clock_err (s:St) (m:Int):(clockP s m).2=if m<0∨4223371679<m then 4 else if aheadP s m=false then 6 else if 10000<s.next+((comesP s m).length:Int) then 7 else 0:=by
 unfold clockP
 by_cases d:m<0∨4223371679<m
 ·rw[if_pos d,if_pos d]
 rw[if_neg d,if_neg d]
 by_cases w:aheadP s m=false
 ·rw[if_pos w,if_pos w]
 rw[if_neg w,if_neg w]
 by_cases e:10000<s.next+((comesP s m).length:Int)
 ·rw[if_pos e,if_pos e]
 ·rw[if_neg e,if_neg e]
structure Bo where
 limit:Int
 room:Int
 st:St
 log:ByteArray
def stepsL (s:St) (x:Sl):List ByteArray:=stepsOf (tl s.tab (x.line-1).toNat)
def Goes (s:St) (x:Sl) (t:Bx.Tk):Prop:=t.num=x.num∧0<x.step∧∃a,a<(stepsL s x).length∧Rest (stepsL s x) x t a
structure Tks (s:St) (l:List Bx.Tk):Prop where
 dist:l.Pairwise fun a b=>a.num≠b.num
 of:∀t∈l,∃x∈s.slots,Goes s x t
 all:∀x∈s.slots,0<x.step→∃t∈l,t.num=x.num
structure Rel (b:Bo) (d:Bx.Bo):Prop where
 lim:d.limit=b.limit
 room:d.room=b.room
 now:d.now=abs b.st
 txt:d.text=b.log
 tks:Tks b.st d.talks
 ok:Ok b.st
 l1:1≤b.limit
 l4:b.limit≤4
 r0:600≤b.room
 r1:b.room≤4000
 log:(b.log.size:Int)≤b.room
theorem Dist.mem {l:List Sl} (h:Dist l) {x y:Sl} (G:x∈l) (d:y∈l) (e:x.num=y.num):x=y:=by
 obtain⟨i,hi,rfl⟩:=List.mem_iff_getElem.1 G;obtain⟨j,w,rfl⟩:=List.mem_iff_getElem.1 d;have:=h.at hi w e;subst this;rfl
theorem find_mem {l:List Sl} (hd:Dist l) {x:Sl} (d:x∈l):find l x.num=some x:=by
 unfold find
 cases h:l.find? (fun y=>y.num==x.num) with
 | none=>have:=List.find?_eq_none.1 h x d;simp at this
 | some y=>
   have w:=List.mem_of_find?_eq_some h;have e:y.num=x.num:=by simpa using List.find?_some h
   rw[hd.mem w d e]
theorem goesOn_iff {s:St} (hd:Dist s.slots) (t:Bx.Tk):goesOn (abs s) t=true↔∃y∈s.slots,y.num=t.num∧0<y.step:=by
 unfold goesOn
 cases h:find s.slots t.num with
 | none=>
   rw[find_none h]
   constructor
   ·intro q;simp at q
   ·rintro ⟨y,w,e,_⟩;rw[←e,find_mem hd w] at h;cases h
 | some x=>
   obtain⟨i,hi,rfl,d,G⟩:=find_some hd h;rw[G];simp only [Int.toNat_natCast];rw[slAt_abs hi]
   constructor
   ·intro q;simp[absS] at q;exact⟨_,List.getElem_mem hi,d,q⟩
   ·rintro ⟨y,w,e,I⟩;have:=hd.mem w (List.getElem_mem hi) (by rw[e,d])
    subst this;simp[absS];exact I
theorem Tks.hush {s w:St}{l:List Bx.Tk} (h:Tks s l) (hd:Dist s.slots) (I:Dist w.slots) (Y:w.tab=s.tab) (Q:∀y∈w.slots,0<y.step→y∈s.slots):Tks w (hushL (abs w) l):=by
 refine⟨h.dist.filter _,?_,?_⟩
 ·intro t O;obtain⟨h1,h2⟩:=List.mem_filter.1 O;obtain⟨y,G,V,d⟩:=(goesOn_iff I t).1 h2;obtain⟨x,U,J⟩:=h.of t h1;have:y=x:=hd.mem (Q y G d) U (by rw[V,J.1])
  subst this;refine⟨y,G,J.1,d,?_⟩;have e:stepsL w y=stepsL s y:=by unfold stepsL;rw[Y]
  rw[e];exact J.2.2
 ·intro y G d;obtain⟨t,h1,h2⟩:=h.all y (Q y G d) d;exact⟨t,List.mem_filter.2 ⟨h1,(goesOn_iff I t).2 ⟨y,G,h2.symm,d⟩⟩,h2⟩
end Px
namespace Px
open Bx (En push hA hD hK hS)
theorem told_one (s:Bx.St) (c:Bx.Ch):Bx.told s [c]=Bx.tell s c:=rfl
theorem do_about (s:Bx.St) (k n:Int) (t:ByteArray) (h1:¬k=84) (h2:¬k=67):Bx.doP s ⟨k,t,n⟩=Bx.aboutP s k n:=by
 unfold Bx.doP;rw[if_neg h1,if_neg h2]
theorem tell_about {s u:Bx.St}{k n:Int}{t:ByteArray} (h1:¬k=84) (h2:¬k=67) (h:Bx.aboutP s k n=(u,true)):Bx.tell s ⟨k,t,n⟩=u:=by
 unfold Bx.tell;rw[do_about s k n t h1 h2,h];rfl
theorem frames_one (c:Bx.Ch):Bx.frames [c]=Bx.frame (Bx.body c):=by simp[Bx.frames]
theorem Ok.num1 {s:St} (h:Ok s):∀x∈s.slots,1≤x.num:=fun _ d=>(h.each d).1
theorem Ok.att {s:St} (h:Ok s):∀x∈s.slots,x.att≤opt s x.line 2-48:=fun _ d=>(h.each d).2.2.2.2.2
theorem Ok.skip {s:St} (h:Ok s) (n:Int) (how:ByteArray) (e:Bx.StOk (abs (ended s n how))):Ok (ended s n how):=
 ⟨e,h.rise.filter _,fun x d=>h.ex x ((List.mem_filter.1 d).1)⟩
theorem repl_mem {l:List Sl}{x y:Sl} (h:y∈repl l x):y=x∨y∈l:=by
 obtain⟨z,d,rfl⟩:=List.mem_map.1 h
 by_cases q:(z.num==x.num)=true
 ·rw[if_pos q];exact Or.inl rfl
 ·rw[if_neg q];exact Or.inr d
theorem Ok.repl {s:St} (h:Ok s) (x:Sl) (G:Bx.StOk (abs {s with slots:=repl s.slots x})) (w: -1≤x.ans∧x.ans≤4223371679∧0≤x.step∧x.step≤((stepsOf (tl s.tab (x.line-1).toNat)).length:Int)∧x.heard.size≤8∧(x.step=0→x.heard=ByteArray.empty)):Ok {s with slots:=Px.repl s.slots x}:=by
 refine⟨G,?_,fun y d=>?_⟩
 ·unfold Px.repl;refine List.Pairwise.map _ ?_ h.rise;intro a b e
  have J:(if (a.num==x.num)=true then x else a).num=a.num:=by
   split
   ·rename_i q;exact (by simpa using q:a.num=x.num).symm
   ·rfl
  have I:(if (b.num==x.num)=true then x else b).num=b.num:=by
   split
   ·rename_i q;exact (by simpa using q:b.num=x.num).symm
   ·rfl
  rw[J,I];exact e
 ·rcases repl_mem d with rfl|d
  ·exact w
  ·exact h.ex y d
def cancelB (b:Bo) (n:Int):Bo×Int:=
 if ¬(cancelP b.st n).2=0 then (b,(cancelP b.st n).2)
 else if b.room<(b.log.size:Int)+(Bx.frames [chK n]).size then (b,13)
 else ({b with st:=(cancelP b.st n).1,log:=b.log++Bx.frames [chK n]},0)
theorem cancel_st {s:St}{n:Int} (h:(cancelP s n).2=0):(cancelP s n).1=ended s n hK:=by
 unfold cancelP at h ⊢
 cases q:find s.slots n with
 | none=>rw[q] at h;cases h
 | some x=>
   have d:x.num=n:=by simpa using List.find?_some q
   simp only [d]
theorem cancel_rel {b:Bo}{d:Bx.Bo} (h:Rel b d) (n:Int):(cancelB b n).2=(Go.Proofs.YtdajolpoiffimabGreatDoor.cancelP d n).2∧Rel (cancelB b n).1 (Go.Proofs.YtdajolpoiffimabGreatDoor.cancelP d n).1:=by
 unfold cancelB Go.Proofs.YtdajolpoiffimabGreatDoor.cancelP;rw[h.now,h.room,h.txt]
 rcases cancel_abs h.ok.dist n h.ok.num1 with ⟨U,O⟩|⟨h0,G⟩
 ·rw[if_pos (by omega),if_pos O];exact⟨U,h⟩
 ·have O:¬Bx.find (abs b.st) n<0:=fun q=>by
   unfold Bx.aboutP at G;rw[if_pos q] at G;exact absurd (congrArg Prod.snd G) (by simp)
  rw[if_neg (by omega),if_neg O]
  by_cases I:b.room<(b.log.size:Int)+(Bx.frames [chK n]).size
  ·rw[if_pos I,if_pos I];exact⟨rfl,h⟩
  ·rw[if_neg I,if_neg I];have w:=cancel_st h0
   have Q:Bx.told d.now [chK n]=abs (ended b.st n hK):=by
    rw[told_one,h.now,←w];exact tell_about (by omega) (by omega) G
   have J:Ok (ended b.st n hK):=by
    refine h.ok.skip _ _ ?_;have:=Bx.about_ok h.ok.st 75 n;rw[G,w] at this;exact this
   refine⟨rfl,h.lim,h.room,(by show Bx.told d.now [chK n]=abs (cancelP b.st n).1;rw[Q,w]),by simp[addB,h.txt],?_,w▸J,h.l1,h.l4,h.r0,h.r1,?_⟩
   ·have e:Bx.told (abs b.st) [chK n]=abs (ended b.st n hK):=by rw[←h.now];exact Q
    rw[e,w];exact h.tks.hush h.ok.dist J.dist rfl (fun y V _=>(List.mem_filter.1 V).1)
   ·simp[ByteArray.size_append] at I ⊢;omega
def LoadB (b:Bo) (tab:ByteArray) (b':Bo) (a r:Int):Prop:=
 (¬r=0∧ChkR tab a r∧b'=b)∨(ChkR tab 0 0∧0<b.st.slots.length∧b'=b∧a=0∧r=5)∨
 (ChkR tab 0 0∧b.st.slots.length=0∧b.room<(b.log.size:Int)+(Bx.frames [chT tab]).size∧b'=b∧a=0∧r=13)∨
 (ChkR tab 0 0∧b.st.slots.length=0∧¬b.room<(b.log.size:Int)+(Bx.frames [chT tab]).size∧b'={b with st:={b.st with tab:=tab},log:=b.log++Bx.frames [chT tab]}∧a=0∧r=0)
theorem load_rel {b Z:Bo}{d d':Bx.Bo}{tab:ByteArray}{a r a' r':Int} (h:Rel b d) (hp:LoadB b tab Z a r) (hd:LoadR d tab d' a' r'):a=a'∧r=r'∧Rel Z d':=by
 have hl:d.now.slots.length=b.st.slots.length:=by rw[h.now];simp[abs]
 have Y:fits d [chT tab]↔¬b.room<(b.log.size:Int)+(Bx.frames [chT tab]).size:=by unfold fits;rw[h.room,h.txt]
 rcases hp with ⟨p1,I,rfl⟩|⟨I,V,rfl,rfl,rfl⟩|⟨I,V,U,rfl,rfl,rfl⟩|⟨I,V,U,rfl,rfl,rfl⟩
 ·rcases hd with ⟨O,w,rfl⟩|⟨w,_⟩|⟨w,_⟩|⟨w,_⟩
  ·obtain⟨rfl,rfl⟩:=I.uniq w;exact⟨rfl,rfl,h⟩
  all_goals exact absurd (I.uniq w).2 p1
 ·rcases hd with ⟨O,w,_⟩|⟨w,J,rfl,rfl,rfl⟩|⟨w,J,_⟩|⟨w,J,_⟩
  ·exact absurd (w.uniq I).2 O
  ·exact⟨rfl,rfl,h⟩
  ·omega
  ·omega
 ·rcases hd with ⟨O,w,_⟩|⟨w,J,_⟩|⟨w,J,Q,rfl,rfl,rfl⟩|⟨w,J,Q,_⟩
  ·exact absurd (w.uniq I).2 O
  ·omega
  ·exact⟨rfl,rfl,h⟩
  ·exact absurd U (Y.1 Q)
 ·rcases hd with ⟨O,w,_⟩|⟨w,J,_⟩|⟨w,J,Q,_⟩|⟨w,J,Q,rfl,rfl,rfl⟩
  ·exact absurd (w.uniq I).2 O
  ·omega
  ·exact absurd (Y.2 U) Q
  ·have hT:Bx.told d.now [chT tab]=abs {b.st with tab:=tab}:=by
    rw[told_one,h.now]
    have e:Bx.doP (abs b.st) (chT tab)=(abs {b.st with tab:=tab},true):=by
     unfold Bx.doP;rw[if_pos (show (chT tab).kind=84 from rfl),if_pos ⟨I,by simpa [abs] using V⟩]
     rfl
    unfold Bx.tell;rw[e];rfl
   have G:b.st.slots=[]:=List.eq_nil_of_length_eq_zero V
   have ag:Bx.StOk (abs {b.st with tab:=tab}):=by
    rw[←hT];exact Bx.told_ok (by rw[h.now];exact h.ok.st) _
   have aa:Ok {b.st with tab:=tab}:=⟨ag,by simp[G],by simp[G]⟩
   have ht:d.talks=[]:=by
    cases e:d.talks with
    | nil=>rfl
    | cons t r=>obtain⟨x,hx,_⟩:=h.tks.of t (by rw[e];simp);rw[G] at hx;cases hx
   refine⟨rfl,rfl,h.lim,h.room,hT,by simp[addB,h.txt],?_,aa,h.l1,h.l4,h.r0,h.r1,?_⟩
   ·show Tks _ d.talks
    rw[ht];exact⟨List.Pairwise.nil,by simp,by simp[G]⟩
   ·simp[ByteArray.size_append] at U ⊢;omega
end Px
namespace Px
open Bx (En push hA hD hK hS)
def failStep (p:St×ByteArray) (n:Int):St×ByteArray:=if (failP p.1 n).2=0 then ((failP p.1 n).1,p.2++Bx.frame (Bx.body (chF n))) else p
noncomputable def tickQ (b:Bo) (m:Int):St×ByteArray:=(late (clockP b.st m).1).foldl failStep ((clockP b.st m).1,Bx.frame (Bx.body (chCl m)))
noncomputable def tickB (b:Bo) (m:Int):Bo×Int×Int:=
 if ¬(clockP b.st m).2=0 then (b,0,(clockP b.st m).2)
 else if b.room<(b.log.size:Int)+(tickQ b m).2.size then (b,0,13)
 else ({b with st:=(tickQ b m).1,log:=b.log++(tickQ b m).2},(clockP b.st m).1.next-b.st.next,0)
theorem fail_ok {s:St} (h:Ok s) (n:Int) (h0:(failP s n).2=0):Ok (failP s n).1:=by
 have d:Bx.StOk (abs (failP s n).1):=by
  rcases fail_abs h.dist n h.num1 h.att with ⟨q,_⟩|⟨q,_⟩|⟨_,q⟩
  ·omega
  ·omega
  ·have:=Bx.about_ok h.st 70 n;rw[q] at this;exact this
 unfold failP at h0 d ⊢
 cases q:find s.slots n with
 | none=>rw[q] at h0;cases h0
 | some x=>
   rw[q] at h0 d;simp only at h0 d ⊢
   by_cases e:x.step≤0
   ·rw[if_pos e] at h0;cases h0
   rw[if_neg e] at d ⊢
   by_cases w:opt s x.line 2-48≤x.att
   ·rw[if_pos w] at d ⊢;exact h.skip _ _ d
   ·rw[if_neg w] at d ⊢;exact h.repl _ d ⟨by show (-1:Int)≤0;omega,by show (0:Int)≤_;omega,by show (0:Int)≤0;omega,by show (0:Int)≤((_:Nat):Int);omega,by show (0:Nat)≤8;omega,fun _=>rfl⟩
theorem fail_other {s:St} (n:Int) (h0:(failP s n).2=0):(failP s n).1.tab=s.tab∧(∀y∈(failP s n).1.slots,0<y.step→y∈s.slots)∧∀y∈s.slots,¬y.num=n→y∈(failP s n).1.slots:=by
 unfold failP at h0 ⊢
 cases q:find s.slots n with
 | none=>rw[q] at h0;cases h0
 | some x=>
   rw[q] at h0;have J:x.num=n:=by simpa using List.find?_some q
   simp only at h0 ⊢
   by_cases w:x.step≤0
   ·rw[if_pos w] at h0;cases h0
   rw[if_neg w]
   by_cases G:opt s x.line 2-48≤x.att
   ·rw[if_pos G];exact⟨rfl,fun y d _=>(List.mem_filter.1 d).1,fun y d e=>List.mem_filter.2 ⟨d,by simpa using e⟩⟩
   ·rw[if_neg G];refine⟨rfl,fun y d I=>?_,fun y d e=>?_⟩
    ·rcases repl_mem d with rfl|d
     ·exact absurd I (by show ¬(0:Int)<0;omega)
     ·exact d
    ·refine List.mem_map.2 ⟨y,d,?_⟩
     have:(y.num==(again s x).num)=false:=by
      have:¬y.num=(again s x).num:=by show ¬y.num=x.num;rw[J];exact e
      simpa using this
     rw[this];rfl
theorem fails_rel (d:List Int):∀(s:St) (f:ByteArray),Ok s→(∀n∈d,∃x∈s.slots,x.num=n∧0<x.step)→d.Pairwise (·≠·)→
 (d.map chF).foldl Bx.tell (abs s)=abs (d.foldl failStep (s,f)).1∧(d.foldl failStep (s,f)).2=(d.map chF).foldl (fun s c=>s++Bx.frame (Bx.body c)) f∧Ok (d.foldl failStep (s,f)).1∧
 (d.foldl failStep (s,f)).1.tab=s.tab∧∀y∈(d.foldl failStep (s,f)).1.slots,0<y.step→y∈s.slots:=by
 induction d with
 | nil=>intro s f h _ _;exact⟨rfl,rfl,h,rfl,fun y w _=>w⟩
 | cons n r Y=>
   intro s f h G hp;obtain⟨x,hx,V,ai⟩:=G n (by simp)
   have hF:find s.slots n=some x:=by rw[←V];exact find_mem h.dist hx
   have h0:(failP s n).2=0:=by
    unfold failP;rw[hF];simp only;rw[if_neg (by omega)];split<;>rfl
   obtain⟨o1,o2,o3⟩:=fail_other n h0;have J:=List.pairwise_cons.1 hp;have e:failStep (s,f) n=((failP s n).1,f++Bx.frame (Bx.body (chF n))):=by unfold failStep;rw[if_pos h0]
   obtain⟨Z,i2,i3,i4,i5⟩:=Y (failP s n).1 (f++Bx.frame (Bx.body (chF n))) (fail_ok h n h0) (fun k Q=>by
    obtain⟨y,w,I,O⟩:=G k (by simp[Q])
    exact⟨y,o3 y w (by rw[I];exact fun e=>J.1 k Q e.symm),I,O⟩) J.2
   rw[List.map_cons,List.foldl_cons,List.foldl_cons,List.foldl_cons,e];refine⟨?_,i2,i3,by rw[i4,o1],fun y w U=>o2 y (i5 y w U) U⟩
   have ht:Bx.tell (abs s) (chF n)=abs (failP s n).1:=by
    rcases fail_abs h.dist n h.num1 h.att with ⟨q,_⟩|⟨q,_⟩|⟨_,q⟩
    ·omega
    ·omega
    ·exact tell_about (by omega) (by omega) q
   rw[ht];exact Z
theorem arrs_slots (l:List (Nat×Int)) (s:St):∃z,(l.foldl arr s).slots=s.slots++z∧(∀y∈z,y.step=0∧y.ans=0∧y.heard=ByteArray.empty∧s.next≤y.num∧y.num<s.next+l.length)∧z.Pairwise (fun a b=>a.num<b.num)∧(l.foldl arr s).next=s.next+l.length∧(l.foldl arr s).tab=s.tab∧(l.foldl arr s).clock=s.clock:=by
 induction l generalizing s with
 | nil=>exact⟨[],by simp,by simp,List.Pairwise.nil,by simp,rfl,rfl⟩
 | cons p r ih=>
   rw[List.foldl_cons];obtain⟨z,h1,h2,I,O,Z,Y⟩:=ih (arr s p);have Q:(arr s p).next=s.next+1:=by unfold arr;split<;>rfl
   have V:(arr s p).tab=s.tab:=by unfold arr;split<;>rfl
   have J:(arr s p).clock=s.clock:=by unfold arr;split<;>rfl
   by_cases q:8≤s.slots.length
   ·have e:(arr s p).slots=s.slots:=by unfold arr;rw[if_pos q]
    refine⟨z,by rw[h1,e],fun y d=>?_,I,by rw[O,Q];simp;omega,by rw[Z,V],by rw[Y,J]⟩
    obtain⟨a1,w,G,U,a5⟩:=h2 y d;exact⟨a1,w,G,by omega,by simp;omega⟩
   ·have e:(arr s p).slots=s.slots++[slotOf p s.next]:=by unfold arr;rw[if_neg q]
    refine⟨slotOf p s.next::z,by rw[h1,e];simp,fun y d=>?_,List.pairwise_cons.2 ⟨fun y d=>?_,I⟩,by rw[O,Q];simp;omega,by rw[Z,V],by rw[Y,J]⟩
    ·rcases List.mem_cons.1 d with rfl|d
     ·exact⟨rfl,rfl,rfl,by show s.next≤s.next;omega,by show s.next<_;simp;omega⟩
     ·obtain⟨a1,w,G,U,a5⟩:=h2 y d;exact⟨a1,w,G,by omega,by simp;omega⟩
    ·obtain⟨_,_,_,U,_⟩:=h2 y d
     show s.next<y.num;omega
theorem clock_st {s:St}{m:Int} (h0:(clockP s m).2=0):0≤m∧m≤4223371679∧aheadP s m=true∧¬10000<s.next+((comesP s m).length:Int)∧(clockP s m).1={(comesP s m).foldl arr s with clock:=m}:=by
 have e:=clock_err s m;rw[h0] at e
 by_cases w:m<0∨4223371679<m
 ·rw[if_pos w] at e;cases e
 rw[if_neg w] at e
 by_cases d:aheadP s m=false
 ·rw[if_pos d] at e;cases e
 rw[if_neg d] at e
 by_cases G:10000<s.next+((comesP s m).length:Int)
 ·rw[if_pos G] at e;cases e
 refine⟨by omega,by omega,by simpa using d,G,?_⟩
 unfold clockP;rw[if_neg w,if_neg d,if_neg G]
theorem clock_ok {s:St} (h:Ok s) {m:Int} (h0:(clockP s m).2=0):Ok (clockP s m).1:=by
 have w:Bx.StOk (abs (clockP s m).1):=by
  have:=Bx.clocked_ok h.st m;rw[clock_abs s m h0] at this;exact this
 obtain⟨_,_,_,_,e⟩:=clock_st h0;obtain⟨z,h1,h2,I,U,Q,Y⟩:=arrs_slots (comesP s m) s;rw[e] at w ⊢;refine⟨w,?_,fun x J=>?_⟩
 ·show ((comesP s m).foldl arr s).slots.Pairwise _
  rw[h1,List.pairwise_append];refine⟨h.rise,I,fun a O b hb=>?_⟩
  have:=(h.each O).2.1;have:=(h2 b hb).2.2.2.1;omega
 ·have d:x∈s.slots++z:=by rw[←h1];exact J
  rcases List.mem_append.1 d with d|d
  ·have:=h.ex x d
   show _∧_∧_∧x.step≤((stepsOf (tl ((comesP s m).foldl arr s).tab (x.line-1).toNat)).length:Int)∧_
   rw[Q];exact this
  ·obtain⟨a1,V,G,_,_⟩:=h2 x d;exact⟨by omega,by omega,by omega,by rw[a1];show (0:Int)≤((_:Nat):Int);omega,by rw[G];decide,fun _=>G⟩
theorem Tks.talk {s:St}{l:List Bx.Tk} (h:Tks s l) (hd:Dist s.slots) {x:Sl} (G:x∈s.slots):
 (0<x.step→∃k:Nat,∃w:k<l.length,talkOf l x.num=k∧Goes s x l[k])∧(x.step≤0→talkOf l x.num= -1):=by
 constructor
 ·intro Q;obtain⟨t,U,I⟩:=h.all x G Q;obtain⟨k,w,rfl⟩:=List.mem_iff_getElem.1 U;refine⟨k,w,iB w I (fun j O V e=>?_),?_⟩
  ·exact List.pairwise_iff_getElem.1 h.dist j k O w V (by rw[e,I])
  ·obtain⟨y,J,d⟩:=h.of _ U;have:y=x:=hd.mem J G (by rw[←d.1,I])
   subst this;exact d
 ·intro Q;refine iF (fun j O e=>?_)
  obtain⟨y,J,d⟩:=h.of _ (List.getElem_mem O);have:y=x:=hd.mem J G (by rw[←d.1,e])
  subst this;have:=d.2.1;omega
def ltB (m:Int) (x:Sl):Bool:=decide (0<x.step)&&decide (x.ans≤m-3)
theorem late_iff {b:Bo}{d:Bx.Bo} (h:Rel b d) (m:Int) {x:Sl} (G:x∈b.st.slots):Go.Proofs.YtdajolpoiffimabGreatDoor.late d m x.num=ltB m x:=by
 unfold Go.Proofs.YtdajolpoiffimabGreatDoor.late ltB;obtain⟨h1,h2⟩:=h.tks.talk h.ok.dist G
 by_cases w:0<x.step
 ·obtain⟨k,O,e,J⟩:=h1 w;rw[e];obtain⟨a,_,I⟩:=J.2.2;have Q:tkAt d ((k:Int)).toNat=d.talks[k]:=by simp[tkAt,O]
  rw[Q];have:=I.ans
  congr 1
  ·simp[w]
  ·apply decide_eq_decide.2;omega
 ·rw[h2 (by omega)];simp[w]
theorem tickK_list {b:Bo}{d:Bx.Bo} (h:Rel b d) (m:Int) (k:Nat) (I:k≤b.st.slots.length):tickK d m k=chCl m::(((b.st.slots.take k).filter (ltB m)).map (·.num)).map chF:=by
 induction k with
 | zero=>rfl
 | succ k G=>
   have w:k<b.st.slots.length:=by omega
   have e:(Bx.slAt d.now k).num=b.st.slots[k].num:=by rw[h.now,slAt_abs w];rfl
   rw[tickK,G (by omega),e,late_iff h m (List.getElem_mem w),List.take_succ_eq_append_getElem w,List.filter_append]
   by_cases q:ltB m b.st.slots[k]=true
   ·rw[if_pos q];simp[q]
   ·rw[if_neg q];simp[q]
theorem late_clock {s:St}{m:Int} (h0:(clockP s m).2=0):late (clockP s m).1=(s.slots.filter (ltB m)).map (·.num):=by
 obtain⟨_,_,_,_,e⟩:=clock_st h0;obtain⟨z,h1,h2,_⟩:=arrs_slots (comesP s m) s;unfold late;rw[e]
 show (((comesP s m).foldl arr s).slots.filter fun x=>decide (0<x.step)&&decide (x.ans≤m-3)).map (·.num)=_
 rw[h1,List.filter_append]
 have:z.filter (fun x=>decide (0<x.step)&&decide (x.ans≤m-3))=[]:=by
  rw[List.filter_eq_nil_iff];intro y d;have:=(h2 y d).1;simp;omega
 rw[this,List.append_nil];rfl
theorem frames_fold (l:List Bx.Ch) (c:Bx.Ch):Bx.frames (c::l)=l.foldl (fun s c=>s++Bx.frame (Bx.body c)) (Bx.frame (Bx.body c)):=by simp[Bx.frames]
theorem Rise.nums {l:List Sl} (h:l.Pairwise fun a b=>a.num<b.num) (p:Sl→Bool):((l.filter p).map (·.num)).Pairwise (·≠·):=
 List.Pairwise.map _ (fun _ _ d=>by omega) (h.filter p)
theorem tick_all {b:Bo}{d:Bx.Bo} (h:Rel b d) (m:Int) (h0:(clockP b.st m).2=0):
 Bx.told d.now (tickL d m)=abs (tickQ b m).1∧Bx.frames (tickL d m)=(tickQ b m).2∧Ok (tickQ b m).1∧(tickQ b m).1.tab=b.st.tab∧∀y∈(tickQ b m).1.slots,0<y.step→y∈b.st.slots:=by
 have Z:d.now.slots.length=b.st.slots.length:=by rw[h.now];simp[abs]
 have U:tickL d m=chCl m::(late (clockP b.st m).1).map chF:=by
  unfold tickL;rw[Z,tickK_list h m _ (Nat.le_refl _),List.take_length,late_clock h0]
 have G:∀n∈late (clockP b.st m).1,∃x∈b.st.slots,x.num=n∧0<x.step:=by
  rw[late_clock h0];intro n Q;obtain⟨x,O,rfl⟩:=List.mem_map.1 Q;obtain⟨Y,w⟩:=List.mem_filter.1 O;refine⟨x,Y,rfl,?_⟩;unfold ltB at w;simp at w;exact w.1
 obtain⟨_,_,_,_,V⟩:=clock_st h0;obtain⟨z,h1,h2,h3,h4,h5,h6⟩:=arrs_slots (comesP b.st m) b.st;have I:(clockP b.st m).1.slots=b.st.slots++z:=by rw[V];exact h1
 have J:(clockP b.st m).1.tab=b.st.tab:=by rw[V];exact h5
 obtain⟨f1,f2,f3,f4,f5⟩:=fails_rel (late (clockP b.st m).1) (clockP b.st m).1 (Bx.frame (Bx.body (chCl m))) (clock_ok h.ok h0) (fun n Q=>by
  obtain⟨x,O,a,c⟩:=G n Q
  exact⟨x,by rw[I];simp[O],a,c⟩) (by rw[late_clock h0];exact Rise.nums h.ok.rise _)
 refine⟨?_,?_,f3,by rw[←J];exact f4,fun y hy hs=>?_⟩
 ·rw[U];unfold Bx.told;rw[List.foldl_cons]
  have ht:Bx.tell d.now (chCl m)=abs (clockP b.st m).1:=by
   rw[h.now]
   have e:Bx.doP (abs b.st) (chCl m)=(abs (clockP b.st m).1,true):=by
    unfold Bx.doP;rw[if_neg (show ¬(chCl m).kind=84 by show ¬(67:Int)=84;omega),if_pos (show (chCl m).kind=67 from rfl)]
    exact clock_abs b.st m h0
   unfold Bx.tell;rw[e];rfl
  rw[ht];exact f1
 ·rw[U,frames_fold];exact f2.symm
 ·have:=f5 y hy hs;rw[I] at this
  rcases List.mem_append.1 this with q|q
  ·exact q
  ·have:=(h2 y q).1;omega
theorem tick_rel {b:Bo}{d:Bx.Bo} (h:Rel b d) (m:Int):(tickB b m).2=(tickP d m).2∧Rel (tickB b m).1 (tickP d m).1:=by
 have e:=clock_err b.st m;unfold tickB tickP
 by_cases J:m<0∨4223371679<m
 ·rw[if_pos J] at e;rw[if_pos (by omega),if_pos (by rw[il J];simp),e];exact⟨rfl,h⟩
 rw[if_neg J] at e;rw[if_neg (show ¬¬minB m=true by rw[gy (by omega) (by omega)];simp)]
 have Q:Bx.ahead d.now m=aheadP b.st m:=by
  rw[h.now];unfold Bx.ahead aheadP
  apply decide_eq_decide.2
  show (0≤m∧m≤4223371679∧b.st.clock<m∧(b.st.clock= -1∨m-b.st.clock≤1500))↔_
  omega
 rw[Q]
 by_cases I:aheadP b.st m=false
 ·rw[if_pos I] at e;rw[if_pos (by omega),if_pos (by rw[I];simp),e];exact⟨rfl,h⟩
 rw[if_neg I] at e;rw[if_neg (show ¬¬aheadP b.st m=true by simpa using I)]
 have aa:Bx.comesS d.now m=comesP b.st m:=by rw[h.now];rfl
 have O:d.now.next=b.st.next:=by rw[h.now];rfl
 rw[aa,O]
 by_cases G:10000<b.st.next+((comesP b.st m).length:Int)
 ·rw[if_pos G] at e;rw[if_pos (by omega),if_pos G,e];exact⟨rfl,h⟩
 rw[if_neg G] at e;rw[if_neg (by omega),if_neg G]
 obtain⟨V,U,Z,t4,t5⟩:=tick_all h m e;rw[U,h.room,h.txt]
 by_cases w:b.room<(b.log.size:Int)+(tickQ b m).2.size
 ·rw[if_pos w,if_pos w];exact⟨rfl,h⟩
 ·rw[if_neg w,if_neg w];obtain⟨_,_,_,_,eC⟩:=clock_st e;obtain⟨z,h1,h2,h3,Y,h5,af⟩:=arrs_slots (comesP b.st m) b.st
  have hn:(clockP b.st m).1.next-b.st.next=((comesP b.st m).length:Int):=by
   rw[eC];show ((comesP b.st m).foldl arr b.st).next-_=_;rw[Y];omega
  refine⟨by rw[hn],h.lim,h.room,V,by simp[addB,h.txt,U],?_,Z,h.l1,h.l4,h.r0,h.r1,?_⟩
  ·show Tks (tickQ b m).1 (hushL (Bx.told d.now (tickL d m)) d.talks)
   rw[V];exact h.tks.hush h.ok.dist Z.dist t4 t5
  ·simp[ByteArray.size_append] at w ⊢;omega
end Px
end Go.Proofs.YtdajolpoiffimabGreatDoor
