import Derived.Test.YtdajolpoiffimabGreatDoorA3

namespace Go.Proofs.YtdajolpoiffimabGreatDoor
namespace Bx
theorem b1_inj {k d:Int} {r e:ByteArray} (h:b1 k++r=b1 d++e) (h1:0≤k∧k<256) (h2:0≤d∧d<256):k=d∧r=e:=by
 obtain⟨w,G⟩:=app_inj h rfl;rw[b1_be,b1_be] at w;exact⟨be_inj w h1.1 (by simpa using h1.2) h2.1 (by simpa using h2.2),G⟩
theorem body_T (r:ByteArray):IsCh (b1 84++r) ⟨84,r,0⟩:=⟨Or.inl ⟨rfl,rfl⟩,by unfold body;rw[if_pos rfl]⟩
theorem numP_all {k:Nat} {r:ByteArray} {n:Int} {q:PS} (h:numP k ⟨r,false⟩=(n,q)) (d:q.wrong=false) (w:q.rest=ByteArray.empty):r=be n k∧0≤n∧n<256 ^ k:=by
 obtain⟨_,e,a,b⟩:=Px.numP_r h d;rw[w] at e;exact⟨by simpa using e,a,b⟩
theorem body_C_yes {r:ByteArray} {n:Int} {q:PS} (h:numP 5 ⟨r,false⟩=(n,q)) (d:q.wrong=false) (w:q.rest=ByteArray.empty):IsCh (b1 67++r) ⟨67,ByteArray.empty,n⟩:=by
 obtain⟨e,a,b⟩:=numP_all h d w;refine⟨Or.inr (Or.inl ⟨rfl,rfl,a,by simpa using b⟩),?_⟩
 unfold body;rw[if_neg (show ¬(67:Int)=84 by decide),if_pos rfl,e]
theorem body_N_yes {k:Int} {r:ByteArray} {n:Int} {q:PS} (w:k=83∨k=68∨k=70∨k=75) (h:numP 2 ⟨r,false⟩=(n,q)) (d:q.wrong=false) (G:q.rest=ByteArray.empty):IsCh (b1 k++r) ⟨k,ByteArray.empty,n⟩:=by
 obtain⟨e,a,b⟩:=numP_all h d G;refine⟨Or.inr (Or.inr ⟨w,rfl,a,by simpa using b⟩),?_⟩
 unfold body;rw[if_neg (by simp;omega),if_neg (by simp;omega),e]
theorem isCh_split {k:Int} {r:ByteArray} {c:Ch} (h:IsCh (b1 k++r) c) (w:0≤k∧k<256):c.kind=k∧r=(if c.kind=84 then c.tab else if c.kind=67 then be c.n 5 else be c.n 2):=by
 obtain⟨f,e⟩:=h;unfold body at e;have q:=f.kind;obtain⟨G,d⟩:=b1_inj e ⟨q.1,q.2.1⟩ w;exact⟨G,d.symm⟩
theorem body_C_no {r:ByteArray} {n:Int} {q:PS} (h:numP 5 ⟨r,false⟩=(n,q)) (I:¬(q.wrong=false∧q.rest=ByteArray.empty)):¬∃c,IsCh (b1 67++r) c:=by
 rintro ⟨c,e⟩;obtain⟨G,d⟩:=isCh_split e (by decide)
 rw[if_neg (by omega),if_pos G] at d
 have w:0≤c.n∧c.n<1099511627776:=by rcases e.1 with ⟨q,_⟩|⟨_,_,q⟩|⟨q,_⟩<;>omega
 have:=numP_be c.n 5 ByteArray.empty false w.1 (by simpa using w.2)
 rw[d] at h;simp only [ByteArray.append_empty] at this;rw[this] at h;obtain⟨_,rfl⟩:=Prod.mk.inj h;exact I ⟨rfl,rfl⟩
theorem body_N_no {k:Int} {r:ByteArray} {n:Int} {q:PS} (J:k=83∨k=68∨k=70∨k=75) (h:numP 2 ⟨r,false⟩=(n,q)) (G:¬(q.wrong=false∧q.rest=ByteArray.empty)):¬∃c,IsCh (b1 k++r) c:=by
 rintro ⟨c,e⟩;obtain⟨I,d⟩:=isCh_split e (by omega)
 rw[if_neg (by omega),if_neg (by omega)] at d
 have w:0≤c.n∧c.n<65536:=by rcases e.1 with ⟨q,_⟩|⟨q,_⟩|⟨_,_,q⟩<;>omega
 have:=numP_be c.n 2 ByteArray.empty false w.1 (by simpa using w.2)
 rw[d] at h;simp only [ByteArray.append_empty] at this;rw[this] at h;obtain⟨_,rfl⟩:=Prod.mk.inj h;exact G ⟨rfl,rfl⟩
theorem body_no {k:Int} {r:ByteArray} (e:0≤k∧k<256) (h:¬k=84∧¬k=67∧¬k=83∧¬k=68∧¬k=70∧¬k=75):¬∃c,IsCh (b1 k++r) c:=by
 rintro ⟨c,d⟩;obtain⟨w,_⟩:=isCh_split d e
 rcases d.1 with ⟨q,_⟩|⟨q,_⟩|⟨q,_⟩<;>omega
theorem whole_no {k:Int} {r:ByteArray} (d:0≤k∧k<256) (h:¬k=90):¬∃s,wholeS s=b1 k++r:=by
 rintro ⟨s,e⟩;exact h (b1_inj e (by decide) d).1.symm
theorem whole_yes {r:ByteArray} {s:Px.St} {q:PS} (h:Px.rdState ⟨r,false⟩=(s,q)) (d:q.wrong=false) (w:q.rest=ByteArray.empty):wholeS (Px.abs s)=b1 90++r∧StFit (Px.abs s):=by
 obtain⟨_,e,f⟩:=Px.rdState_right h d;rw[w] at e;exact⟨by unfold wholeS;rw[show r=encSt (Px.abs s) from by simpa using e],f⟩
theorem whole_fit_no {r:ByteArray} {s:Px.St} {q:PS} (h:Px.rdState ⟨r,false⟩=(s,q)) (d:¬(q.wrong=false∧q.rest=ByteArray.empty)):¬∃t,StFit t∧wholeS t=b1 90++r:=by
 rintro ⟨t,ft,e⟩;obtain⟨_,w⟩:=b1_inj e (by decide) (by decide)
 have:=Px.rdState_enc t ft ByteArray.empty;simp only [ByteArray.append_empty] at this;rw[w,h] at this;obtain⟨_,rfl⟩:=Prod.mk.inj this;exact d ⟨rfl,rfl⟩
theorem empty_no:(¬∃c,IsCh ByteArray.empty c)∧¬∃s,wholeS s=ByteArray.empty:=by
 constructor
 ·rintro ⟨c,_,e⟩;have:=congrArg ByteArray.size e;unfold body at this;rw[ByteArray.size_append,b1_size] at this;simp at this
 ·rintro ⟨s,e⟩;have:=congrArg ByteArray.size e;unfold wholeS at this;rw[ByteArray.size_append,b1_size] at this;simp at this
theorem one_of {α:Type} (p:α→α→Bool) (J:∀x,p x x=true) (l:List α) (c:α→Prop) (U:∀x y,p x y=true→c x→c y∧p y x=true):
 (∀x∈l,c x→(l.filter (p x)).length=1)↔l.Pairwise fun a b=>c a→p a b=true→False:=by
 induction l with
 | nil=>simp
 | cons a l V=>
   rw[List.pairwise_cons,←V]
   constructor
   ·intro h;refine⟨fun b hb I O=>?_,fun x d w=>?_⟩
    ·have h1:=h a (by simp) I
     rw[List.filter_cons_of_pos (J a),List.length_cons] at h1;have:b∈l.filter (p a):=List.mem_filter.2 ⟨hb,O⟩;have:=List.length_pos_of_mem this;omega
    ·have h1:=h x (by simp[d]) w
     have h2:x∈l.filter (p x):=List.mem_filter.2 ⟨d,J x⟩;have Y:=List.length_pos_of_mem h2
     by_cases G:p x a=true
     ·rw[List.filter_cons_of_pos G,List.length_cons] at h1;omega
     ·rw[List.filter_cons_of_neg G] at h1;exact h1
   ·rintro ⟨h1,h2⟩ x d w
    rcases List.mem_cons.1 d with rfl|d
    ·rw[List.filter_cons_of_pos (J x),List.length_cons];have:l.filter (p x)=[]:=List.filter_eq_nil_iff.2 fun b hb e=>h1 b hb w e
     rw[this];rfl
    ·have G:¬p x a=true:=fun e=>by
      obtain⟨I,Q⟩:=U x a e w;exact h1 x d I Q
     rw[List.filter_cons_of_neg G];exact h2 x d w
end Bx
namespace Px
open Bx (PS numP)
def Fresh (x:Sl):Prop:=(x.step=0∨x.step=1)∧x.ans=0∧x.heard=ByteArray.empty∧0≤x.minute
theorem rdSlot_fresh (p:PS):Fresh (rdSlot p).1:=by
 obtain⟨a,I,J⟩:∃a q,numP 2 p=(a,q):=⟨_,_,dA _⟩;obtain⟨b,pb,hb⟩:∃a q,numP 1 I=(a,q):=⟨_,_,dA _⟩;obtain⟨c,pc,w⟩:∃a q,numP 5 pb=(a,q):=⟨_,_,dA _⟩;obtain⟨d,U,hd⟩:∃a q,numP 1 pc=(a,q):=⟨_,_,dA _⟩;obtain⟨e,Q,O⟩:∃a q,numP 5 U=(a,q):=⟨_,_,dA _⟩;obtain⟨f,V,G⟩:∃a q,numP 1 Q=(a,q):=⟨_,_,dA _⟩;rw[rdSlot_eq J hb w hd O G];have hm:=Bx.numP_bd 5 pb;rw[w] at hm;refine⟨?_,rfl,rfl,hm⟩
 show (if f=1 then (1:Int) else 0)=0∨(if f=1 then (1:Int) else 0)=1
 split
 ·exact Or.inr rfl
 ·exact Or.inl rfl
theorem rdSlots_fresh (p:PS):∀x∈(rdSlots p).1,Fresh x:=by
 have:∀k p,∀x∈(rdSlotsK k p).1,Fresh x:=by
  intro k
  induction k with
  | zero=>intro p x d;simp[rdSlotsK] at d
  | succ k w=>
    intro p x d;rw[rdSlotsK] at d
    split at d
    ·simp at d
    ·rcases List.mem_cons.1 d with e|e
     ·rw[e];exact rdSlot_fresh p
     ·exact w _ x e
 exact this _ _
theorem rdState_fresh (p:PS):(∀x∈(rdState p).1.slots,Fresh x)∧ -1≤(rdState p).1.clock:=by
 obtain⟨c,pc,d⟩:∃a q,numP 5 p=(a,q):=⟨_,_,dA _⟩;obtain⟨n,O,J⟩:∃a q,numP 2 pc=(a,q):=⟨_,_,dA _⟩;obtain⟨l,G,w⟩:∃a q,numP 2 O=(a,q):=⟨_,_,dA _⟩;obtain⟨t,pt,I⟩:∃a q,Bx.txtP l G=(a,q):=⟨_,_,dA _⟩;obtain⟨sl,ps,e⟩:∃a q,rdSlots pt=(a,q):=⟨_,_,dA _⟩;obtain⟨en,U,Q⟩:∃a q,rdEnds ps=(a,q):=⟨_,_,dA _⟩;rw[rdState_eq d J w I e Q];have h1:=rdSlots_fresh pt;rw[e] at h1;have h2:=Bx.numP_bd 5 p;rw[d] at h2;exact⟨h1,by show -1≤c-1;simp only at h2;omega⟩
end Px
end Go.Proofs.YtdajolpoiffimabGreatDoor

namespace Go.Proofs.YtdajolpoiffimabGreatDoor
open Go.RowKit
def numS (n:Int) (b:UInt8):Int:=wrap64 (wrap64 (n*256)+wrap64 (b.toNat:Int))
def numW (l:List UInt8):Int:=l.foldl numS 0
def partK (s:ByteArray) (a:Nat):Nat→ByteArray
 | 0=>{data:= #[]}
 | k+1=>partK s a k++(if a+k<s.size then s.extract (a+k) (a+k+1) else {data:= #[0]})
theorem fi (s:ByteArray) (a k:Nat):(partK s a k).size=k:=by
 induction k with
 | zero=>rfl
 | succ k d=>
   rw[partK,ByteArray.size_append,d]
   split
   ·simp;omega
   ·rfl
theorem gS (x:Int) (h1:0≤x) (h2:x<9223372036854775808):wrap64 x=x:=by unfold wrap64;omega
theorem oj (l:List UInt8) (b:UInt8):numW (l++[b])=numS (numW l) b:=by simp[numW,List.foldl_append]
theorem tg {n:Nat} (h:n≤6):(256:Int) ^ n≤281474976710656:=by
 match n,h with
 | 0,_=>decide
 | 1,_=>decide
 | 2,_=>decide
 | 3,_=>decide
 | 4,_=>decide
 | 5,_=>decide
 | 6,_=>decide
theorem rH (l:List UInt8):l.length≤7→numW l=Bx.nb l:=by
 induction l using Bx.snoc_ind with
 | h0=>intro _;rfl
 | h1 l b e=>
   intro h;have d:l.length≤6:=by simp at h;omega
   rw[oj,Bx.nb_snoc,e (by omega)]
   have h1:=Bx.nb_nonneg l;have h2:=Bx.nb_lt l;have G:=tg d;have w:=b.toNat_lt;unfold numS;rw[gS (Bx.nb l*256) (by omega) (by omega),gS (b.toNat:Int) (by omega) (by omega),gS _ (by omega) (by omega)]
theorem l9 (x:ByteArray) (h:x.size≤7):numW x.data.toList=Bx.nB x:=rH _ (by simpa using h)
theorem lJ (n:Int) (k:Nat) (h0:0≤n) (h1:n<256 ^ k) (d:k≤7):numW (Bx.be n k).data.toList=n:=by
 rw[l9 _ (by rw[Bx.be_size];exact d),Bx.nB_be n k h0 h1]
theorem il {x:ByteArray} {k:Nat} (h:x.size=k) (d:k≤7):Bx.be (numW x.data.toList) k=x∧0≤numW x.data.toList∧numW x.data.toList<256 ^ k:=by
 rw[l9 x (by omega)]
 refine⟨Bx.be_nB' h,Bx.nb_nonneg _,?_⟩;have:=Bx.nb_lt x.data.toList;have e:x.data.toList.length=k:=by simpa using h
 rw[e] at this;exact this
end Go.Proofs.YtdajolpoiffimabGreatDoor

namespace Go.Proofs.YtdajolpoiffimabGreatDoor
namespace Px
theorem start_abs {s:St} (hd:Dist s.slots) (n:Int):
 ((startP s n).2=8∧Bx.find (abs s) n<0)∨
 (∃i:Nat,∃hi:i<s.slots.length,Bx.find (abs s) n=i∧s.slots[i].num=n∧
  (((startP s n).2=9∧0<s.slots[i].step)∨((startP s n).2=10∧s.slots[i].step≤0∧s.clock<s.slots[i].frm)∨
   ((startP s n).2=11∧s.slots[i].step≤0∧¬s.clock<s.slots[i].frm∧lockP s s.slots[i].line=true)∨
   ((startP s n).2=0∧s.slots[i].step≤0∧¬s.clock<s.slots[i].frm∧lockP s s.slots[i].line=false∧(startP s n).1={s with slots:=repl s.slots (beg s s.slots[i])}∧
    Bx.aboutP (abs s) 83 n=(abs (startP s n).1,true)))):=by
 unfold startP
 cases h:find s.slots n with
 | none=>left;rw[find_none h];exact⟨rfl,by omega⟩
 | some x=>
   right
   obtain⟨i,hi,rfl,G,I⟩:=find_some hd h;refine⟨i,hi,I,G,?_⟩
   by_cases w:0<s.slots[i].step
   ·left;simp only [w,if_true];exact⟨trivial,trivial⟩
   right
   by_cases d:s.clock<s.slots[i].frm
   ·left;simp only [w,d,if_true,if_false];exact⟨trivial,by omega,trivial⟩
   right
   cases e:lockP s s.slots[i].line
   ·right
    have O:=abs_repl hd hi (beg s s.slots[i]) rfl;simp only [w,d,e,if_false,Bool.false_eq_true];refine⟨trivial,by omega,not_false,trivial,trivial,?_⟩
    unfold Bx.aboutP;rw[I,if_neg (by omega),if_neg (by omega),if_pos rfl]
    simp only [Int.toNat_natCast]
    have J:¬((Bx.slAt (abs s) i).runs=true∨(abs s).clock<(Bx.slAt (abs s) i).frm∨Bx.locked (abs s) i=true):=by
     rw[slAt_abs hi,lock_abs hi (by omega),e]
     rintro (q|q|q)
     ·simp[absS] at q;omega
     ·exact d q
     ·cases q
    rw[if_neg J,slAt_abs hi];simp only [Bx.with'];rw[if_neg (by omega)]
    show _=(({tab:=s.tab,clock:=s.clock,next:=s.next,slots:=(repl s.slots (beg s s.slots[i])).map absS,ends:=s.ends}:Bx.St),true)
    rw[O];rfl
   ·left;simp only [w,d,e,if_true,if_false];exact⟨trivial,by omega,not_false,trivial⟩
theorem arr_abs (s:St) (p:Nat×Int):abs (arr s p)=Bx.arr (abs s) p:=by
 unfold arr Bx.arr;have d:(abs s).slots.length=s.slots.length:=by simp[abs]
 by_cases q:8≤s.slots.length
 ·rw[if_pos q,if_neg (by omega)];rfl
 ·rw[if_neg q,if_pos (by omega)]
  simp[abs,slotOf,Bx.slotOf,absS]
theorem arrs_abs (l:List (Nat×Int)) (s:St):abs (l.foldl arr s)=l.foldl Bx.arr (abs s):=by
 induction l generalizing s with
 | nil=>rfl
 | cons p r d=>rw[List.foldl_cons,List.foldl_cons,d,arr_abs]
theorem comes_abs (s:St) (m:Int):Bx.comesS (abs s) m=comesP s m:=rfl
theorem clock_abs (s:St) (m:Int) (h:(clockP s m).2=0):Bx.clockedP (abs s) m=(abs (clockP s m).1,true):=by
 unfold clockP at h ⊢
 by_cases e:m<0∨4223371679<m
 ·rw[if_pos e] at h;cases h
 rw[if_neg e] at h ⊢
 by_cases d:aheadP s m=false
 ·rw[if_pos d] at h;cases h
 rw[if_neg d] at h ⊢
 by_cases w:10000<s.next+((comesP s m).length:Int)
 ·rw[if_pos w] at h;cases h
 rw[if_neg w]
 have G:Bx.ahead (abs s) m=true:=by
  have:aheadP s m=true:=by simpa using d
  unfold aheadP at this;have:=of_decide_eq_true this;unfold Bx.ahead;exact decide_eq_true ⟨by omega,by omega,this.1,this.2⟩
 unfold Bx.clockedP;rw[if_pos G,comes_abs,if_pos (by show s.next+_≤_;omega)]
 have:=arrs_abs (comesP s m) s;simp only [←this];rfl
theorem clock_err (s:St) (m:Int):(clockP s m).2=if m<0∨4223371679<m then 4 else if aheadP s m=false then 6 else if 10000<s.next+((comesP s m).length:Int) then 7 else 0:=by
 unfold clockP
 by_cases d:m<0∨4223371679<m
 ·rw[if_pos d,if_pos d]
 rw[if_neg d,if_neg d]
 by_cases e:aheadP s m=false
 ·rw[if_pos e,if_pos e]
 rw[if_neg e,if_neg e]
 by_cases w:10000<s.next+((comesP s m).length:Int)
 ·rw[if_pos w,if_pos w]
 ·rw[if_neg w,if_neg w]
structure Bo where
 limit:Int
 room:Int
 st:St
 log:ByteArray
def stepsL (s:St) (x:Sl):List ByteArray:=stepsOf (tl s.tab (x.line-1).toNat)
def Goes (s:St) (x:Sl) (t:Bx.Tk):Prop:=t.num=x.num∧0<x.step∧∃a,a<(stepsL s x).length∧Rest (stepsL s x) x t a
structure Tks (s:St) (l:List Bx.Tk):Prop where
 dist:l.Pairwise fun a b=>a.num≠b.num
 of:∀t∈l,∃x∈s.slots,Goes s x t
 all:∀x∈s.slots,0<x.step→∃t∈l,t.num=x.num
structure Rel (b:Bo) (d:Bx.Bo):Prop where
 lim:d.limit=b.limit
 room:d.room=b.room
 now:d.now=abs b.st
 txt:d.text=b.log
 tks:Tks b.st d.talks
 ok:Ok b.st
 l1:1≤b.limit
 l4:b.limit≤4
 r0:600≤b.room
 r1:b.room≤4000
 log:(b.log.size:Int)≤b.room
theorem Dist.mem {l:List Sl} (h:Dist l) {x y:Sl} (w:x∈l) (G:y∈l) (e:x.num=y.num):x=y:=by
 obtain⟨i,hi,rfl⟩:=List.mem_iff_getElem.1 w;obtain⟨j,d,rfl⟩:=List.mem_iff_getElem.1 G;have:=h.at hi d e;subst this;rfl
theorem find_mem {l:List Sl} (hd:Dist l) {x:Sl} (d:x∈l):find l x.num=some x:=by
 unfold find
 cases h:l.find? (fun y=>y.num==x.num) with
 | none=>have:=List.find?_eq_none.1 h x d;simp at this
 | some y=>
   have w:=List.mem_of_find?_eq_some h;have e:y.num=x.num:=by simpa using List.find?_some h
   rw[hd.mem w d e]
theorem goesOn_iff {s:St} (hd:Dist s.slots) (t:Bx.Tk):goesOn (abs s) t=true↔∃y∈s.slots,y.num=t.num∧0<y.step:=by
 unfold goesOn
 cases h:find s.slots t.num with
 | none=>
   rw[find_none h]
   constructor
   ·intro q;simp at q
   ·rintro ⟨y,e,w,_⟩;rw[←w,find_mem hd e] at h;cases h
 | some x=>
   obtain⟨i,hi,rfl,d,I⟩:=find_some hd h;rw[I];simp only [Int.toNat_natCast];rw[slAt_abs hi]
   constructor
   ·intro q;simp[absS] at q;exact⟨_,List.getElem_mem hi,d,q⟩
   ·rintro ⟨y,e,w,G⟩;have:=hd.mem e (List.getElem_mem hi) (by rw[w,d])
    subst this;simp[absS];exact G
theorem Tks.hush {s d:St} {l:List Bx.Tk} (h:Tks s l) (hd:Dist s.slots) (I:Dist d.slots) (U:d.tab=s.tab) (Q:∀y∈d.slots,0<y.step→y∈s.slots):Tks d (hushL (abs d) l):=by
 refine⟨h.dist.filter _,?_,?_⟩
 ·intro t O;obtain⟨h1,h2⟩:=List.mem_filter.1 O;obtain⟨y,G,V,w⟩:=(goesOn_iff I t).1 h2;obtain⟨x,Y,J⟩:=h.of t h1;have:y=x:=hd.mem (Q y G w) Y (by rw[V,J.1])
  subst this;refine⟨y,G,J.1,w,?_⟩;have e:stepsL d y=stepsL s y:=by unfold stepsL;rw[U]
  rw[e];exact J.2.2
 ·intro y G w;obtain⟨t,h1,h2⟩:=h.all y (Q y G w) w;exact⟨t,List.mem_filter.2 ⟨h1,(goesOn_iff I t).2 ⟨y,G,h2.symm,w⟩⟩,h2⟩
end Px
namespace Px
open Bx (En push hA hD hK hS)
theorem told_one (s:Bx.St) (c:Bx.Ch):Bx.told s [c]=Bx.tell s c:=rfl
theorem do_about (s:Bx.St) (k n:Int) (t:ByteArray) (h1:¬k=84) (h2:¬k=67):Bx.doP s ⟨k,t,n⟩=Bx.aboutP s k n:=by
 unfold Bx.doP;rw[if_neg h1,if_neg h2]
theorem tell_about {s u:Bx.St} {k n:Int} {t:ByteArray} (h1:¬k=84) (h2:¬k=67) (h:Bx.aboutP s k n=(u,true)):Bx.tell s ⟨k,t,n⟩=u:=by
 unfold Bx.tell;rw[do_about s k n t h1 h2,h];rfl
theorem frames_one (c:Bx.Ch):Bx.frames [c]=Bx.frame (Bx.body c):=by simp[Bx.frames]
theorem Ok.num1 {s:St} (h:Ok s):∀x∈s.slots,1≤x.num:=fun _ d=>(h.each d).1
theorem Ok.att {s:St} (h:Ok s):∀x∈s.slots,x.att≤opt s x.line 2-48:=fun _ d=>(h.each d).2.2.2.2.2
theorem Ok.skip {s:St} (h:Ok s) (n:Int) (how:ByteArray) (e:Bx.StOk (abs (ended s n how))):Ok (ended s n how):=
 ⟨e,h.rise.filter _,fun x d=>h.ex x ((List.mem_filter.1 d).1)⟩
theorem repl_mem {l:List Sl} {x y:Sl} (h:y∈repl l x):y=x∨y∈l:=by
 obtain⟨z,d,rfl⟩:=List.mem_map.1 h
 by_cases q:(z.num==x.num)=true
 ·rw[if_pos q];exact Or.inl rfl
 ·rw[if_neg q];exact Or.inr d
theorem Ok.repl {s:St} (h:Ok s) (x:Sl) (I:Bx.StOk (abs {s with slots:=repl s.slots x})) (J: -1≤x.ans∧x.ans≤4223371679∧0≤x.step∧x.step≤((stepsOf (tl s.tab (x.line-1).toNat)).length:Int)∧x.heard.size≤8∧(x.step=0→x.heard=ByteArray.empty)):Ok {s with slots:=Px.repl s.slots x}:=by
 refine⟨I,?_,fun y d=>?_⟩
 ·unfold Px.repl;refine List.Pairwise.map _ ?_ h.rise;intro a b e
  have G:(if (a.num==x.num)=true then x else a).num=a.num:=by
   split
   ·rename_i q;exact (by simpa using q:a.num=x.num).symm
   ·rfl
  have w:(if (b.num==x.num)=true then x else b).num=b.num:=by
   split
   ·rename_i q;exact (by simpa using q:b.num=x.num).symm
   ·rfl
  rw[G,w];exact e
 ·rcases repl_mem d with rfl|d
  ·exact J
  ·exact h.ex y d
def cancelB (b:Bo) (n:Int):Bo×Int:=
 if ¬(cancelP b.st n).2=0 then (b,(cancelP b.st n).2)
 else if b.room<(b.log.size:Int)+(Bx.frames [chK n]).size then (b,13)
 else ({b with st:=(cancelP b.st n).1,log:=b.log++Bx.frames [chK n]},0)
theorem cancel_st {s:St} {n:Int} (h:(cancelP s n).2=0):(cancelP s n).1=ended s n hK:=by
 unfold cancelP at h ⊢
 cases q:find s.slots n with
 | none=>rw[q] at h;cases h
 | some x=>
   have d:x.num=n:=by simpa using List.find?_some q
   simp only [d]
theorem cancel_rel {b:Bo} {d:Bx.Bo} (h:Rel b d) (n:Int):(cancelB b n).2=(Go.Proofs.YtdajolpoiffimabGreatDoor.cancelP d n).2∧Rel (cancelB b n).1 (Go.Proofs.YtdajolpoiffimabGreatDoor.cancelP d n).1:=by
 unfold cancelB Go.Proofs.YtdajolpoiffimabGreatDoor.cancelP;rw[h.now,h.room,h.txt]
 rcases cancel_abs h.ok.dist n h.ok.num1 with ⟨V,O⟩|⟨h0,G⟩
 ·rw[if_pos (by omega),if_pos O];exact⟨V,h⟩
 ·have O:¬Bx.find (abs b.st) n<0:=fun q=>by
   unfold Bx.aboutP at G;rw[if_pos q] at G;exact absurd (congrArg Prod.snd G) (by simp)
  rw[if_neg (by omega),if_neg O]
  by_cases I:b.room<(b.log.size:Int)+(Bx.frames [chK n]).size
  ·rw[if_pos I,if_pos I];exact⟨rfl,h⟩
  ·rw[if_neg I,if_neg I];have w:=cancel_st h0
   have Q:Bx.told d.now [chK n]=abs (ended b.st n hK):=by
    rw[told_one,h.now,←w];exact tell_about (by omega) (by omega) G
   have J:Ok (ended b.st n hK):=by
    refine h.ok.skip _ _ ?_;have:=Bx.about_ok h.ok.st 75 n;rw[G,w] at this;exact this
   refine⟨rfl,h.lim,h.room,(by show Bx.told d.now [chK n]=abs (cancelP b.st n).1;rw[Q,w]),by simp[addB,h.txt],?_,w▸J,h.l1,h.l4,h.r0,h.r1,?_⟩
   ·have e:Bx.told (abs b.st) [chK n]=abs (ended b.st n hK):=by rw[←h.now];exact Q
    rw[e,w];exact h.tks.hush h.ok.dist J.dist rfl (fun y U _=>(List.mem_filter.1 U).1)
   ·simp[ByteArray.size_append] at I ⊢;omega
def LoadB (b:Bo) (tab:ByteArray) (b':Bo) (a r:Int):Prop:=
 (¬r=0∧ChkR tab a r∧b'=b)∨(ChkR tab 0 0∧0<b.st.slots.length∧b'=b∧a=0∧r=5)∨
 (ChkR tab 0 0∧b.st.slots.length=0∧b.room<(b.log.size:Int)+(Bx.frames [chT tab]).size∧b'=b∧a=0∧r=13)∨
 (ChkR tab 0 0∧b.st.slots.length=0∧¬b.room<(b.log.size:Int)+(Bx.frames [chT tab]).size∧b'={b with st:={b.st with tab:=tab},log:=b.log++Bx.frames [chT tab]}∧a=0∧r=0)
theorem load_rel {b b':Bo} {d d':Bx.Bo} {tab:ByteArray} {a r a' r':Int} (h:Rel b d) (hp:LoadB b tab b' a r) (hd:LoadR d tab d' a' r'):a=a'∧r=r'∧Rel b' d':=by
 have hl:d.now.slots.length=b.st.slots.length:=by rw[h.now];simp[abs]
 have hf:fits d [chT tab]↔¬b.room<(b.log.size:Int)+(Bx.frames [chT tab]).size:=by unfold fits;rw[h.room,h.txt]
 rcases hp with ⟨p1,I,rfl⟩|⟨I,U,rfl,rfl,rfl⟩|⟨I,U,V,rfl,rfl,rfl⟩|⟨I,U,V,rfl,rfl,rfl⟩
 ·rcases hd with ⟨O,w,rfl⟩|⟨w,_⟩|⟨w,_⟩|⟨w,_⟩
  ·obtain⟨rfl,rfl⟩:=I.uniq w;exact⟨rfl,rfl,h⟩
  all_goals exact absurd (I.uniq w).2 p1
 ·rcases hd with ⟨O,w,_⟩|⟨w,J,rfl,rfl,rfl⟩|⟨w,J,_⟩|⟨w,J,_⟩
  ·exact absurd (w.uniq I).2 O
  ·exact⟨rfl,rfl,h⟩
  ·omega
  ·omega
 ·rcases hd with ⟨O,w,_⟩|⟨w,J,_⟩|⟨w,J,Q,rfl,rfl,rfl⟩|⟨w,J,Q,_⟩
  ·exact absurd (w.uniq I).2 O
  ·omega
  ·exact⟨rfl,rfl,h⟩
  ·exact absurd V (hf.1 Q)
 ·rcases hd with ⟨O,w,_⟩|⟨w,J,_⟩|⟨w,J,Q,_⟩|⟨w,J,Q,rfl,rfl,rfl⟩
  ·exact absurd (w.uniq I).2 O
  ·omega
  ·exact absurd (hf.2 V) Q
  ·have hT:Bx.told d.now [chT tab]=abs {b.st with tab:=tab}:=by
    rw[told_one,h.now]
    have e:Bx.doP (abs b.st) (chT tab)=(abs {b.st with tab:=tab},true):=by
     unfold Bx.doP;rw[if_pos (show (chT tab).kind=84 from rfl),if_pos ⟨I,by simpa [abs] using U⟩]
     rfl
    unfold Bx.tell;rw[e];rfl
   have G:b.st.slots=[]:=List.eq_nil_of_length_eq_zero U
   have Z:Bx.StOk (abs {b.st with tab:=tab}):=by
    rw[←hT];exact Bx.told_ok (by rw[h.now];exact h.ok.st) _
   have Y:Ok {b.st with tab:=tab}:=⟨Z,by simp[G],by simp[G]⟩
   have ht:d.talks=[]:=by
    cases e:d.talks with
    | nil=>rfl
    | cons t r=>obtain⟨x,hx,_⟩:=h.tks.of t (by rw[e];simp);rw[G] at hx;cases hx
   refine⟨rfl,rfl,h.lim,h.room,hT,by simp[addB,h.txt],?_,Y,h.l1,h.l4,h.r0,h.r1,?_⟩
   ·show Tks _ d.talks
    rw[ht];exact⟨List.Pairwise.nil,by simp,by simp[G]⟩
   ·simp[ByteArray.size_append] at V ⊢;omega
end Px
namespace Px
open Bx (En push hA hD hK hS)
def failStep (p:St×ByteArray) (n:Int):St×ByteArray:=if (failP p.1 n).2=0 then ((failP p.1 n).1,p.2++Bx.frame (Bx.body (chF n))) else p
noncomputable def tickQ (b:Bo) (m:Int):St×ByteArray:=(late (clockP b.st m).1).foldl failStep ((clockP b.st m).1,Bx.frame (Bx.body (chCl m)))
noncomputable def tickB (b:Bo) (m:Int):Bo×Int×Int:=
 if ¬(clockP b.st m).2=0 then (b,0,(clockP b.st m).2)
 else if b.room<(b.log.size:Int)+(tickQ b m).2.size then (b,0,13)
 else ({b with st:=(tickQ b m).1,log:=b.log++(tickQ b m).2},(clockP b.st m).1.next-b.st.next,0)
theorem fail_ok {s:St} (h:Ok s) (n:Int) (h0:(failP s n).2=0):Ok (failP s n).1:=by
 have d:Bx.StOk (abs (failP s n).1):=by
  rcases fail_abs h.dist n h.num1 h.att with ⟨q,_⟩|⟨q,_⟩|⟨_,q⟩
  ·omega
  ·omega
  ·have:=Bx.about_ok h.st 70 n;rw[q] at this;exact this
 unfold failP at h0 d ⊢
 cases q:find s.slots n with
 | none=>rw[q] at h0;cases h0
 | some x=>
   rw[q] at h0 d;simp only at h0 d ⊢
   by_cases w:x.step≤0
   ·rw[if_pos w] at h0;cases h0
   rw[if_neg w] at d ⊢
   by_cases e:opt s x.line 2-48≤x.att
   ·rw[if_pos e] at d ⊢;exact h.skip _ _ d
   ·rw[if_neg e] at d ⊢;exact h.repl _ d ⟨by show (-1:Int)≤0;omega,by show (0:Int)≤_;omega,by show (0:Int)≤0;omega,by show (0:Int)≤((_:Nat):Int);omega,by show (0:Nat)≤8;omega,fun _=>rfl⟩
theorem fail_other {s:St} (n:Int) (h0:(failP s n).2=0):(failP s n).1.tab=s.tab∧(∀y∈(failP s n).1.slots,0<y.step→y∈s.slots)∧∀y∈s.slots,¬y.num=n→y∈(failP s n).1.slots:=by
 unfold failP at h0 ⊢
 cases q:find s.slots n with
 | none=>rw[q] at h0;cases h0
 | some x=>
   rw[q] at h0;have I:x.num=n:=by simpa using List.find?_some q
   simp only at h0 ⊢
   by_cases w:x.step≤0
   ·rw[if_pos w] at h0;cases h0
   rw[if_neg w]
   by_cases G:opt s x.line 2-48≤x.att
   ·rw[if_pos G];exact⟨rfl,fun y d _=>(List.mem_filter.1 d).1,fun y d e=>List.mem_filter.2 ⟨d,by simpa using e⟩⟩
   ·rw[if_neg G];refine⟨rfl,fun y d J=>?_,fun y d e=>?_⟩
    ·rcases repl_mem d with rfl|d
     ·exact absurd J (by show ¬(0:Int)<0;omega)
     ·exact d
    ·refine List.mem_map.2 ⟨y,d,?_⟩
     have:(y.num==(again s x).num)=false:=by
      have:¬y.num=(again s x).num:=by show ¬y.num=x.num;rw[I];exact e
      simpa using this
     rw[this];rfl
theorem fails_rel (d:List Int):∀(s:St) (f:ByteArray),Ok s→(∀n∈d,∃x∈s.slots,x.num=n∧0<x.step)→d.Pairwise (·≠·)→
 (d.map chF).foldl Bx.tell (abs s)=abs (d.foldl failStep (s,f)).1∧(d.foldl failStep (s,f)).2=(d.map chF).foldl (fun s c=>s++Bx.frame (Bx.body c)) f∧Ok (d.foldl failStep (s,f)).1∧
 (d.foldl failStep (s,f)).1.tab=s.tab∧∀y∈(d.foldl failStep (s,f)).1.slots,0<y.step→y∈s.slots:=by
 induction d with
 | nil=>intro s f h _ _;exact⟨rfl,rfl,h,rfl,fun y G _=>G⟩
 | cons n r ih=>
   intro s f h w hp;obtain⟨x,hx,O,ai⟩:=w n (by simp)
   have Z:find s.slots n=some x:=by rw[←O];exact find_mem h.dist hx
   have h0:(failP s n).2=0:=by
    unfold failP;rw[Z];simp only;rw[if_neg (by omega)];split<;>rfl
   obtain⟨o1,o2,o3⟩:=fail_other n h0;have J:=List.pairwise_cons.1 hp;have e:failStep (s,f) n=((failP s n).1,f++Bx.frame (Bx.body (chF n))):=by unfold failStep;rw[if_pos h0]
   obtain⟨i1,i2,i3,i4,Y⟩:=ih (failP s n).1 (f++Bx.frame (Bx.body (chF n))) (fail_ok h n h0) (fun k U=>by
    obtain⟨y,G,I,Q⟩:=w k (by simp[U])
    exact⟨y,o3 y G (by rw[I];exact fun e=>J.1 k U e.symm),I,Q⟩) J.2
   rw[List.map_cons,List.foldl_cons,List.foldl_cons,List.foldl_cons,e];refine⟨?_,i2,i3,by rw[i4,o1],fun y G V=>o2 y (Y y G V) V⟩
   have ht:Bx.tell (abs s) (chF n)=abs (failP s n).1:=by
    rcases fail_abs h.dist n h.num1 h.att with ⟨q,_⟩|⟨q,_⟩|⟨_,q⟩
    ·omega
    ·omega
    ·exact tell_about (by omega) (by omega) q
   rw[ht];exact i1
theorem arrs_slots (l:List (Nat×Int)) (s:St):∃z,(l.foldl arr s).slots=s.slots++z∧(∀y∈z,y.step=0∧y.ans=0∧y.heard=ByteArray.empty∧s.next≤y.num∧y.num<s.next+l.length)∧z.Pairwise (fun a b=>a.num<b.num)∧(l.foldl arr s).next=s.next+l.length∧(l.foldl arr s).tab=s.tab∧(l.foldl arr s).clock=s.clock:=by
 induction l generalizing s with
 | nil=>exact⟨[],by simp,by simp,List.Pairwise.nil,by simp,rfl,rfl⟩
 | cons p r ih=>
   rw[List.foldl_cons];obtain⟨z,h1,h2,J,I,Y,O⟩:=ih (arr s p);have V:(arr s p).next=s.next+1:=by unfold arr;split<;>rfl
   have Q:(arr s p).tab=s.tab:=by unfold arr;split<;>rfl
   have U:(arr s p).clock=s.clock:=by unfold arr;split<;>rfl
   by_cases q:8≤s.slots.length
   ·have e:(arr s p).slots=s.slots:=by unfold arr;rw[if_pos q]
    refine⟨z,by rw[h1,e],fun y d=>?_,J,by rw[I,V];simp;omega,by rw[Y,Q],by rw[O,U]⟩
    obtain⟨a1,w,G,Z,a5⟩:=h2 y d;exact⟨a1,w,G,by omega,by simp;omega⟩
   ·have e:(arr s p).slots=s.slots++[slotOf p s.next]:=by unfold arr;rw[if_neg q]
    refine⟨slotOf p s.next::z,by rw[h1,e];simp,fun y d=>?_,List.pairwise_cons.2 ⟨fun y d=>?_,J⟩,by rw[I,V];simp;omega,by rw[Y,Q],by rw[O,U]⟩
    ·rcases List.mem_cons.1 d with rfl|d
     ·exact⟨rfl,rfl,rfl,by show s.next≤s.next;omega,by show s.next<_;simp;omega⟩
     ·obtain⟨a1,w,G,Z,a5⟩:=h2 y d;exact⟨a1,w,G,by omega,by simp;omega⟩
    ·obtain⟨_,_,_,Z,_⟩:=h2 y d
     show s.next<y.num;omega
theorem clock_st {s:St} {m:Int} (h0:(clockP s m).2=0):0≤m∧m≤4223371679∧aheadP s m=true∧¬10000<s.next+((comesP s m).length:Int)∧(clockP s m).1={(comesP s m).foldl arr s with clock:=m}:=by
 have e:=clock_err s m;rw[h0] at e
 by_cases w:m<0∨4223371679<m
 ·rw[if_pos w] at e;cases e
 rw[if_neg w] at e
 by_cases d:aheadP s m=false
 ·rw[if_pos d] at e;cases e
 rw[if_neg d] at e
 by_cases G:10000<s.next+((comesP s m).length:Int)
 ·rw[if_pos G] at e;cases e
 refine⟨by omega,by omega,by simpa using d,G,?_⟩
 unfold clockP;rw[if_neg w,if_neg d,if_neg G]
theorem clock_ok {s:St} (h:Ok s) {m:Int} (h0:(clockP s m).2=0):Ok (clockP s m).1:=by
 have w:Bx.StOk (abs (clockP s m).1):=by
  have:=Bx.clocked_ok h.st m;rw[clock_abs s m h0] at this;exact this
 obtain⟨_,_,_,_,e⟩:=clock_st h0;obtain⟨z,h1,h2,I,U,Q,Y⟩:=arrs_slots (comesP s m) s;rw[e] at w ⊢;refine⟨w,?_,fun x O=>?_⟩
 ·show ((comesP s m).foldl arr s).slots.Pairwise _
  rw[h1,List.pairwise_append];refine⟨h.rise,I,fun a J b hb=>?_⟩
  have:=(h.each J).2.1;have:=(h2 b hb).2.2.2.1;omega
 ·have d:x∈s.slots++z:=by rw[←h1];exact O
  rcases List.mem_append.1 d with d|d
  ·have:=h.ex x d
   show _∧_∧_∧x.step≤((stepsOf (tl ((comesP s m).foldl arr s).tab (x.line-1).toNat)).length:Int)∧_
   rw[Q];exact this
  ·obtain⟨a1,V,G,_,_⟩:=h2 x d;exact⟨by omega,by omega,by omega,by rw[a1];show (0:Int)≤((_:Nat):Int);omega,by rw[G];decide,fun _=>G⟩
theorem Tks.talk {s:St} {l:List Bx.Tk} (h:Tks s l) (hd:Dist s.slots) {x:Sl} (O:x∈s.slots):
 (0<x.step→∃k:Nat,∃w:k<l.length,talkOf l x.num=k∧Goes s x l[k])∧(x.step≤0→talkOf l x.num= -1):=by
 constructor
 ·intro U;obtain⟨t,Q,J⟩:=h.all x O U;obtain⟨k,w,rfl⟩:=List.mem_iff_getElem.1 Q;refine⟨k,w,iE w J (fun j I V e=>?_),?_⟩
  ·exact List.pairwise_iff_getElem.1 h.dist j k I w V (by rw[e,J])
  ·obtain⟨y,G,d⟩:=h.of _ Q;have:y=x:=hd.mem G O (by rw[←d.1,J])
   subst this;exact d
 ·intro U;refine iC (fun j I e=>?_)
  obtain⟨y,G,d⟩:=h.of _ (List.getElem_mem I);have:y=x:=hd.mem G O (by rw[←d.1,e])
  subst this;have:=d.2.1;omega
def ltB (m:Int) (x:Sl):Bool:=decide (0<x.step)&&decide (x.ans≤m-3)
theorem late_iff {b:Bo} {d:Bx.Bo} (h:Rel b d) (m:Int) {x:Sl} (I:x∈b.st.slots):Go.Proofs.YtdajolpoiffimabGreatDoor.late d m x.num=ltB m x:=by
 unfold Go.Proofs.YtdajolpoiffimabGreatDoor.late ltB;obtain⟨h1,h2⟩:=h.tks.talk h.ok.dist I
 by_cases w:0<x.step
 ·obtain⟨k,O,e,J⟩:=h1 w;rw[e];obtain⟨a,_,Q⟩:=J.2.2;have G:tkAt d ((k:Int)).toNat=d.talks[k]:=by simp[tkAt,O]
  rw[G];have:=Q.ans
  congr 1
  ·simp[w]
  ·apply decide_eq_decide.2;omega
 ·rw[h2 (by omega)];simp[w]
theorem tickK_list {b:Bo} {d:Bx.Bo} (h:Rel b d) (m:Int) (k:Nat) (I:k≤b.st.slots.length):tickK d m k=chCl m::(((b.st.slots.take k).filter (ltB m)).map (·.num)).map chF:=by
 induction k with
 | zero=>rfl
 | succ k G=>
   have w:k<b.st.slots.length:=by omega
   have e:(Bx.slAt d.now k).num=b.st.slots[k].num:=by rw[h.now,slAt_abs w];rfl
   rw[tickK,G (by omega),e,late_iff h m (List.getElem_mem w),List.take_succ_eq_append_getElem w,List.filter_append]
   by_cases q:ltB m b.st.slots[k]=true
   ·rw[if_pos q];simp[q]
   ·rw[if_neg q];simp[q]
theorem late_clock {s:St} {m:Int} (h0:(clockP s m).2=0):late (clockP s m).1=(s.slots.filter (ltB m)).map (·.num):=by
 obtain⟨_,_,_,_,e⟩:=clock_st h0;obtain⟨z,h1,h2,_⟩:=arrs_slots (comesP s m) s;unfold late;rw[e]
 show (((comesP s m).foldl arr s).slots.filter fun x=>decide (0<x.step)&&decide (x.ans≤m-3)).map (·.num)=_
 rw[h1,List.filter_append]
 have:z.filter (fun x=>decide (0<x.step)&&decide (x.ans≤m-3))=[]:=by
  rw[List.filter_eq_nil_iff];intro y d;have:=(h2 y d).1;simp;omega
 rw[this,List.append_nil];rfl
theorem frames_fold (l:List Bx.Ch) (c:Bx.Ch):Bx.frames (c::l)=l.foldl (fun s c=>s++Bx.frame (Bx.body c)) (Bx.frame (Bx.body c)):=by simp[Bx.frames]
theorem Rise.nums {l:List Sl} (h:l.Pairwise fun a b=>a.num<b.num) (p:Sl→Bool):((l.filter p).map (·.num)).Pairwise (·≠·):=
 List.Pairwise.map _ (fun _ _ d=>by omega) (h.filter p)
theorem tick_all {b:Bo} {d:Bx.Bo} (h:Rel b d) (m:Int) (h0:(clockP b.st m).2=0):
 Bx.told d.now (tickL d m)=abs (tickQ b m).1∧Bx.frames (tickL d m)=(tickQ b m).2∧Ok (tickQ b m).1∧(tickQ b m).1.tab=b.st.tab∧∀y∈(tickQ b m).1.slots,0<y.step→y∈b.st.slots:=by
 have hl:d.now.slots.length=b.st.slots.length:=by rw[h.now];simp[abs]
 have Y:tickL d m=chCl m::(late (clockP b.st m).1).map chF:=by
  unfold tickL;rw[hl,tickK_list h m _ (Nat.le_refl _),List.take_length,late_clock h0]
 have G:∀n∈late (clockP b.st m).1,∃x∈b.st.slots,x.num=n∧0<x.step:=by
  rw[late_clock h0];intro n J;obtain⟨x,O,rfl⟩:=List.mem_map.1 J;obtain⟨V,w⟩:=List.mem_filter.1 O;refine⟨x,V,rfl,?_⟩;unfold ltB at w;simp at w;exact w.1
 obtain⟨_,_,_,_,U⟩:=clock_st h0;obtain⟨z,h1,h2,h3,h4,Z,h6⟩:=arrs_slots (comesP b.st m) b.st;have I:(clockP b.st m).1.slots=b.st.slots++z:=by rw[U];exact h1
 have Q:(clockP b.st m).1.tab=b.st.tab:=by rw[U];exact Z
 obtain⟨f1,f2,f3,f4,f5⟩:=fails_rel (late (clockP b.st m).1) (clockP b.st m).1 (Bx.frame (Bx.body (chCl m))) (clock_ok h.ok h0) (fun n J=>by
  obtain⟨x,O,a,c⟩:=G n J
  exact⟨x,by rw[I];simp[O],a,c⟩) (by rw[late_clock h0];exact Rise.nums h.ok.rise _)
 refine⟨?_,?_,f3,by rw[←Q];exact f4,fun y hy hs=>?_⟩
 ·rw[Y];unfold Bx.told;rw[List.foldl_cons]
  have ht:Bx.tell d.now (chCl m)=abs (clockP b.st m).1:=by
   rw[h.now]
   have e:Bx.doP (abs b.st) (chCl m)=(abs (clockP b.st m).1,true):=by
    unfold Bx.doP;rw[if_neg (show ¬(chCl m).kind=84 by show ¬(67:Int)=84;omega),if_pos (show (chCl m).kind=67 from rfl)]
    exact clock_abs b.st m h0
   unfold Bx.tell;rw[e];rfl
  rw[ht];exact f1
 ·rw[Y,frames_fold];exact f2.symm
 ·have:=f5 y hy hs;rw[I] at this
  rcases List.mem_append.1 this with q|q
  ·exact q
  ·have:=(h2 y q).1;omega
theorem tick_rel {b:Bo} {d:Bx.Bo} (h:Rel b d) (m:Int):(tickB b m).2=(tickP d m).2∧Rel (tickB b m).1 (tickP d m).1:=by
 have e:=clock_err b.st m;unfold tickB tickP
 by_cases J:m<0∨4223371679<m
 ·rw[if_pos J] at e;rw[if_pos (by omega),if_pos (by rw[ii J];simp),e];exact⟨rfl,h⟩
 rw[if_neg J] at e;rw[if_neg (show ¬¬minB m=true by rw[gw (by omega) (by omega)];simp)]
 have O:Bx.ahead d.now m=aheadP b.st m:=by
  rw[h.now];unfold Bx.ahead aheadP
  apply decide_eq_decide.2
  show (0≤m∧m≤4223371679∧b.st.clock<m∧(b.st.clock= -1∨m-b.st.clock≤1500))↔_
  omega
 rw[O]
 by_cases I:aheadP b.st m=false
 ·rw[if_pos I] at e;rw[if_pos (by omega),if_pos (by rw[I];simp),e];exact⟨rfl,h⟩
 rw[if_neg I] at e;rw[if_neg (show ¬¬aheadP b.st m=true by simpa using I)]
 have Q:Bx.comesS d.now m=comesP b.st m:=by rw[h.now];rfl
 have Z:d.now.next=b.st.next:=by rw[h.now];rfl
 rw[Q,Z]
 by_cases G:10000<b.st.next+((comesP b.st m).length:Int)
 ·rw[if_pos G] at e;rw[if_pos (by omega),if_pos G,e];exact⟨rfl,h⟩
 rw[if_neg G] at e;rw[if_neg (by omega),if_neg G]
 obtain⟨V,t2,U,t4,t5⟩:=tick_all h m e;rw[t2,h.room,h.txt]
 by_cases w:b.room<(b.log.size:Int)+(tickQ b m).2.size
 ·rw[if_pos w,if_pos w];exact⟨rfl,h⟩
 ·rw[if_neg w,if_neg w];obtain⟨_,_,_,_,eC⟩:=clock_st e;obtain⟨z,h1,h2,h3,Y,h5,af⟩:=arrs_slots (comesP b.st m) b.st
  have hn:(clockP b.st m).1.next-b.st.next=((comesP b.st m).length:Int):=by
   rw[eC];show ((comesP b.st m).foldl arr b.st).next-_=_;rw[Y];omega
  refine⟨by rw[hn],h.lim,h.room,V,by simp[addB,h.txt,t2],?_,U,h.l1,h.l4,h.r0,h.r1,?_⟩
  ·show Tks (tickQ b m).1 (hushL (Bx.told d.now (tickL d m)) d.talks)
   rw[V];exact h.tks.hush h.ok.dist U.dist t4 t5
  ·simp[ByteArray.size_append] at w ⊢;omega
end Px
namespace Px
open Bx (En push hA hD hK hS)
theorem repl_repl (l:List Sl) (a b:Sl) (h:a.num=b.num):repl (repl l a) b=repl l b:=by
 unfold repl;rw[List.map_map]
 apply List.map_congr_left
 intro y _;simp only [Function.comp]
 by_cases q:(y.num==a.num)=true
 ·have d:(y.num==b.num)=true:=by rw[←h];exact q
  rw[if_pos q,if_pos d,if_pos (by simpa using h)]
 ·rw[if_neg q]
theorem skip_repl (l:List Sl) (x:Sl) (n:Int) (h:x.num=n):skip (repl l x) n=skip l n:=by
 unfold skip repl
 induction l with
 | nil=>rfl
 | cons y r d=>
   rw[List.map_cons]
   by_cases q:y.num=x.num
   ·rw[if_pos (by simpa using q),List.filter_cons_of_neg (by simp[h]),List.filter_cons_of_neg (by simp[q,h]),d]
   ·rw[if_neg (by simpa using q),List.filter_cons_of_pos (by simpa [←h] using q),List.filter_cons_of_pos (by simpa [←h] using q),d]
theorem find_repl {l:List Sl} {x y:Sl} (d:y∈l) (h:y.num=x.num):find (repl l x) x.num=some x:=by
 unfold find repl
 induction l with
 | nil=>cases d
 | cons z r e=>
   rw[List.map_cons]
   by_cases q:z.num=x.num
   ·rw[if_pos (by simpa using q),List.find?_cons_of_pos (by simp)]
   ·rw[if_neg (by simpa using q),List.find?_cons_of_neg (by simpa using q)]
    rcases List.mem_cons.1 d with rfl|d
    ·exact absurd h q
    ·exact e d
theorem repl_keep {l:List Sl} {x y:Sl} (d:y∈l) (h:¬y.num=x.num):y∈repl l x:=
 List.mem_map.2 ⟨y,d,by rw[if_neg (by simpa using h)]⟩
theorem repl_new {l:List Sl} {x y:Sl} (d:y∈l) (h:y.num=x.num):x∈repl l x:=
 List.mem_map.2 ⟨y,d,by rw[if_pos (by simpa using h)]⟩
theorem repl_mem' {l:List Sl} {x y:Sl} (h:y∈repl l x):y=x∨(y∈l∧¬y.num=x.num):=by
 obtain⟨z,d,rfl⟩:=List.mem_map.1 h
 by_cases q:(z.num==x.num)=true
 ·rw[if_pos q];exact Or.inl rfl
 ·rw[if_neg q];exact Or.inr ⟨d,by simpa using q⟩
theorem repl_abs (s:St) {x y:Sl} (hd:Dist s.slots) (w:y∈s.slots) (h:absS x=absS y):abs {s with slots:=repl s.slots x}=abs s:=by
 unfold abs repl;simp only [List.map_map]
 congr 1
 apply List.map_congr_left
 intro z e;simp only [Function.comp];have d:x.num=y.num:=congrArg Bx.Sl.num h
 by_cases q:(z.num==x.num)=true
 ·rw[if_pos q,h];have:z=y:=hd.mem e w (by rw[←d];simpa using q)
  rw[this]
 ·rw[if_neg q]
theorem filter_set {l:List Sl} {p:Sl→Bool} {i:Nat} {x:Sl} (hi:i<l.length) (h1:p l[i]=false) (h2:p x=true):((l.set i x).filter p).length=(l.filter p).length+1:=by
 induction l generalizing i with
 | nil=>simp at hi
 | cons a r e=>
   cases i with
   | zero=>
     simp only [List.getElem_cons_zero] at h1
     rw[List.set_cons_zero,List.filter_cons_of_pos h2,List.filter_cons_of_neg (by simp[h1])];simp
   | succ i=>
     have d:i<r.length:=by simpa using hi
     have:=e d (by simpa using h1)
     rw[List.set_cons_succ]
     by_cases q:p a=true
     ·rw[List.filter_cons_of_pos q,List.filter_cons_of_pos q];simp[this]
     ·rw[List.filter_cons_of_neg q,List.filter_cons_of_neg q,this]
theorem goF_ans (L:List ByteArray) (c:Int) (n:Nat) (x:Sl):(goF L c n x).1.ans=x.ans∨(goF L c n x).1.ans=c:=by
 induction n generalizing x with
 | zero=>exact Or.inl rfl
 | succ n d=>
   rw[goF]
   split
   ·exact Or.inl rfl
   ·split
    ·exact d {x with step:=x.step+1}
    ·split
     ·exact Or.inl rfl
     ·rcases d {x with step:=x.step+1,heard:=behS x.heard (wordAt L (x.step-1).toNat),ans:=c} with q|q
      ·exact Or.inr q
      ·exact Or.inr q
def heardS (y:Sl) (x:ByteArray):Sl:={y with heard:=y.heard++x}
def talkS (s:St) (y:Sl) (x:ByteArray):Sl×ByteArray:=goF (stepsL s y) s.clock ((stepsL s y).length+1) (heardS y x)
def talkT (s:St) (y:Sl) (x:ByteArray):St:={s with slots:=repl s.slots (talkS s y x).1}
def commitB (b:Bo) (s:St) (fr said:ByteArray):Bo×ByteArray×Int:=
 if b.room<(b.log.size:Int)+fr.size then (b,ByteArray.empty,13) else ({b with st:=s,log:=b.log++fr},said,0)
def talkB (b:Bo) (s:St) (n:Int) (x fr:ByteArray):Bo×ByteArray×Int:=
 match find s.slots n with
 | none=>(b,ByteArray.empty,8)
 | some y=>if y.step≤0 then (b,ByteArray.empty,9)
   else if ((stepsL s y).length:Int)<(talkS s y x).1.step then
    (if ¬(doneP (talkT s y x) n).2=0 then (b,ByteArray.empty,(doneP (talkT s y x) n).2) else commitB b (doneP (talkT s y x) n).1 (fr++Bx.frame (Bx.body (chD n))) (talkS s y x).2)
   else commitB b (talkT s y x) fr (talkS s y x).2
def feedB (b:Bo) (n:Int) (x:ByteArray):Bo×ByteArray×Int:=if 40<x.size then (b,ByteArray.empty,1) else talkB b b.st n x ByteArray.empty
def startB (b:Bo) (n:Int):Bo×ByteArray×Int:=
 if ¬(startP b.st n).2=0 then (b,ByteArray.empty,(startP b.st n).2)
 else if b.limit<((runs (startP b.st n).1:Nat):Int) then (b,ByteArray.empty,12)
 else talkB b (startP b.st n).1 n ByteArray.empty (Bx.frame (Bx.body (chS n)))
theorem done_talk {s:St} {y X:Sl} {n:Int} (w:y∈s.slots) (e:y.num=n) (d:X.num=n) (G:0<X.step):doneP {s with slots:=repl s.slots X} n=(ended s n hD,0):=by
 unfold doneP;have:find (repl s.slots X) n=some X:=by rw[←d];exact find_repl w (by rw[e,d])
 simp only [this]
 rw[if_neg (by omega)]
 unfold ended;simp only [skip_repl s.slots X n d]
theorem steps_size {s:St} (h:Ok s) {y:Sl} (e:y∈s.slots):1≤(stepsL s y).length∧(stepsL s y).length≤5∧∀z∈stepsL s y,2≤z.size∧z.size≤9:=by
 have h1:=h.each e;have d:=h.st.tab.lines.2.2 (y.line-1).toNat (by show _<tn s.tab;omega)
 exact⟨(eS d).1,(eS d).2,ik d⟩
theorem word_size {L:List ByteArray} {a:Nat} (h:a<L.length) (hL:∀z∈L,2≤z.size∧z.size≤9):1≤(wordAt L a).size∧(wordAt L a).size≤8:=by
 have:=hL _ (List.getElem_mem h);rw[←gl h];simp[ByteArray.size_extract];omega
theorem app_list (a b:ByteArray):(a++b).data.toList=a.data.toList++b.data.toList:=by simp[ByteArray.data_append]
theorem size_list (a:ByteArray):a.data.toList.length=a.size:=by simp
end Px
namespace Px
open Bx (En push hA hD hK hS)
theorem Tks.set {s:St} {l:List Bx.Tk} (h:Tks s l) (_hd:Dist s.slots) {y X:Sl} {T:Bx.Tk} {k:Nat} (Y:k<l.length) (hy:y∈s.slots) (O:Goes s y l[k]) (hL:Like y X) (hT:T.num=l[k].num) (hs:0<X.step) {a:Nat} (ha:a<(stepsL s y).length) (hR:Rest (stepsL s y) X T a):
 Tks {s with slots:=repl s.slots X} (l.set k T):=by
 have w:X.num=y.num:=hL.1;have eL:∀z,stepsL {s with slots:=repl s.slots X} z=stepsL s z:=fun _=>rfl
 have eX:stepsL s X=stepsL s y:=by unfold stepsL;rw[hL.2.1]
 refine⟨?_,?_,?_⟩
 ·rw[List.pairwise_iff_getElem];intro i j hi I ae;have Q:i<l.length:=by simpa using hi
  have d:j<l.length:=by simpa using I
  have Z:=List.pairwise_iff_getElem.1 h.dist i j Q d ae
  have num:∀(m:Nat) (hm:m<l.length),((l.set k T)[m]'(by simpa using hm)).num=l[m].num:=by
   intro m hm
   by_cases q:k=m
   ·subst q;simp[hT]
   ·rw[List.getElem_set_ne q]
  rw[num i Q,num j d];exact Z
 ·intro t V;obtain⟨j,I,rfl⟩:=List.mem_iff_getElem.1 V;have d:j<l.length:=by simpa using I
  by_cases q:k=j
  ·subst q;refine⟨X,repl_new hy w.symm,?_⟩;rw[List.getElem_set_self];exact⟨by rw[hT,O.1,w],hs,a,by rw[eL,eX];exact ha,by rw[eL,eX];exact hR⟩
  ·rw[List.getElem_set_ne q];obtain⟨x,G,U⟩:=h.of _ (List.getElem_mem d)
   have J:¬x.num=X.num:=by
    rw[w,←U.1,←O.1];intro e
    rcases Nat.lt_or_gt_of_ne q with c|c
    ·exact List.pairwise_iff_getElem.1 h.dist k j Y d c e.symm
    ·exact List.pairwise_iff_getElem.1 h.dist j k d Y c e
   exact⟨x,repl_keep G J,U⟩
 ·intro x G ad
  rcases repl_mem' G with rfl|⟨G,J⟩
  ·exact⟨T,List.mem_iff_getElem.2 ⟨k,by simpa using Y,by simp⟩,by rw[hT,O.1,w]⟩
  ·obtain⟨t,V,hn⟩:=h.all x G ad;obtain⟨j,I,rfl⟩:=List.mem_iff_getElem.1 V
   have q:¬k=j:=by
    intro q;subst q;exact J (by rw[←hn,O.1,w])
   exact⟨l[j],List.mem_iff_getElem.2 ⟨j,by simpa using I,by rw[List.getElem_set_ne q]⟩,hn⟩
theorem rest_heard {L:List ByteArray} {x:Sl} {t:Bx.Tk} {a:Nat} (h:Rest L x t a) (d:a<L.length) (hL:∀z∈L,2≤z.size∧z.size≤9):x.heard.size≤7:=by
 obtain⟨_,_,e⟩:=h.hear d;have:=word_size d hL;rw[←size_list,e,lastN,List.length_drop];omega
theorem feed_rel {b:Bo} {d:Bx.Bo} (h:Rel b d) (n:Int) (x:ByteArray):(feedB b n x).2=(feedP d n x).2∧Rel (feedB b n x).1 (feedP d n x).1:=by
 unfold feedB feedP
 by_cases J:40<x.size
 ·rw[if_pos J,if_pos J];exact⟨rfl,h⟩
 rw[if_neg J,if_neg J];unfold talkB
 cases hF:find b.st.slots n with
 | none=>
   have:=find_none hF;rw[←h.now] at this;rw[if_pos (by omega)];exact⟨rfl,h⟩
 | some y=>
   obtain⟨i,hi,ag,U,ae⟩:=find_some h.ok.dist hF;have O:y∈b.st.slots:=by rw[←ag];exact List.getElem_mem hi
   rw[←h.now] at ae;rw[if_neg (by omega)]
   obtain⟨t1,t2⟩:=h.tks.talk h.ok.dist O;rw[U] at t1 t2;simp only
   by_cases hs:y.step≤0
   ·rw[if_pos hs,if_pos (by rw[t2 hs];omega)];exact⟨rfl,h⟩
   rw[if_neg hs];obtain⟨k,hk,af,hg⟩:=t1 (by omega)
   obtain⟨a,ha,hR⟩:=hg.2.2;rw[af,if_neg (show ¬(k:Int)<0 by omega)]
   have eL:startL d n=stepsL b.st y:=by
    unfold startL stepsS stepsL;rw[ae,h.now];simp only [Int.toNat_natCast];rw[slAt_abs hi,ag];rfl
   have eH:feedH d n x=hearF (stepsL b.st y) b.st.clock (stepsL b.st y).length (more d.talks[k] x):=by
    unfold feedH;rw[eL,af];have:tkAt d ((k:Int)).toNat=d.talks[k]:=by simp[tkAt,hk]
    rw[this,h.now];rfl
   obtain⟨_,s5,sz⟩:=steps_size h.ok O;obtain⟨q1,q2,q3⟩:=hR.hear ha;have hw:=word_size ha sz
   obtain⟨r1,⟨a',w⟩,V,r4⟩:=hear_same (stepsL b.st y) b.st.clock _ a (stepsL b.st y).length ((stepsL b.st y).length+1) (heardS y x) (more d.talks[k] x) rfl (by omega) (by omega) hR.at' hR.le hR.step hR.ans
    (fun _=>⟨q1,by
     show behL _ (y.heard++x).data.toList=behL _ (d.talks[k].heard++x).data.toList
     rw[app_list,app_list,q3,←size_list]
     exact pO _ _ _ (by rw[size_list];omega) q2,fun _=>by
     show lastN _ (y.heard++x).data.toList=lastN _ (d.talks[k].heard++x).data.toList
     rw[app_list,app_list,q3,oe]⟩)
   have eT:talkS b.st y x=goF (stepsL b.st y) b.st.clock ((stepsL b.st y).length+1) (heardS y x):=rfl;rw[←eT] at r1 w V;rw[←eH] at r1 w r4;have ak:(talkS b.st y x).1.num=n:=by rw[←U];exact V.1
   have Y:0<(talkS b.st y x).1.step:=by rw[w.step];omega
   rw[eL]
   by_cases ho:((stepsL b.st y).length:Int)<(talkS b.st y x).1.step
   ·have Q:((stepsL b.st y).length:Int)≤(feedH d n x).1.at':=by rw[w.at'];rw[w.step] at ho;omega
    rw[if_pos ho,if_pos Q];have aq:doneP (talkT b.st y x) n=(ended b.st n hD,0):=done_talk O U ak Y;rw[aq];simp only [not_true,if_false];unfold commitB;have aj:ByteArray.empty++Bx.frame (Bx.body (chD n))=Bx.frames [chD n]:=by rw[frames_one,ba_nil_app]
    rw[aj,h.room,h.txt]
    by_cases G:b.room<(b.log.size:Int)+(Bx.frames [chD n]).size
    ·rw[if_pos G,if_pos G];exact⟨rfl,h⟩
    ·rw[if_neg G,if_neg G]
     have ad:Bx.aboutP (abs b.st) 68 n=(abs (ended b.st n hD),true):=by
      have e:doneP b.st n=(ended b.st n hD,0):=by unfold doneP;rw[hF];simp only;rw[if_neg hs]
      rcases done_abs h.ok.dist n h.ok.num1 with ⟨q,_⟩|⟨q,_⟩|⟨_,q⟩
      ·rw[e] at q;cases q
      ·rw[e] at q;cases q
      ·rw[e] at q;exact q
     have hT:Bx.told d.now [chD n]=abs (ended b.st n hD):=by
      rw[told_one,h.now];exact tell_about (by omega) (by omega) ad
     have I:Ok (ended b.st n hD):=by
      refine h.ok.skip _ _ ?_;have:=Bx.about_ok h.ok.st 68 n;rw[ad] at this;exact this
     refine⟨by rw[r1],h.lim,h.room,hT,by simp[addB,h.txt],?_,I,h.l1,h.l4,h.r0,h.r1,?_⟩
     ·show Tks (ended b.st n hD) (hushL (Bx.told d.now [chD n]) d.talks)
      rw[hT];exact h.tks.hush h.ok.dist I.dist rfl (fun z hz _=>(List.mem_filter.1 hz).1)
     ·simp[ByteArray.size_append] at G ⊢;omega
   ·have Q:¬((stepsL b.st y).length:Int)≤(feedH d n x).1.at':=by rw[w.at'];rw[w.step] at ho;omega
    rw[if_neg ho,if_neg Q];have ah:a'<(stepsL b.st y).length:=by have:=w.step;omega
    unfold commitB;have G:¬b.room<(b.log.size:Int)+ByteArray.empty.size:=by have:=h.log;show ¬_<_+((0:Nat):Int);omega
    rw[if_neg G]
    have Z:abs (talkT b.st y x)=abs b.st:=by
     refine repl_abs b.st h.ok.dist O ?_;obtain⟨l1,l2,l3,l4,l5⟩:=V;unfold absS;have e1:(talkS b.st y x).1.num=y.num:=l1;have e2:(talkS b.st y x).1.line=y.line:=l2;have e3:(talkS b.st y x).1.minute=y.minute:=l3;have e4:(talkS b.st y x).1.att=y.att:=l4;have e5:(talkS b.st y x).1.frm=y.frm:=l5;rw[e1,e2,e3,e4,e5,decide_eq_true Y,decide_eq_true (by omega:0<y.step)]
    have aP:=h.ok.ex y O;have aa:(talkS b.st y x).1.ans=y.ans∨(talkS b.st y x).1.ans=b.st.clock:=goF_ans _ _ _ _;have aQ: -1≤b.st.clock:=h.ok.st.c1;have aO:b.st.clock≤4223371679:=h.ok.st.c2
    have I:Ok (talkT b.st y x):=by
     refine h.ok.repl _ (by show Bx.StOk (abs (talkT b.st y x));rw[Z];exact h.ok.st) ⟨?_,?_,by omega,by have:=w.step;have el:(talkS b.st y x).1.line=y.line:=V.2.1;rw[el];show _≤((stepsL b.st y).length:Int);omega,?_,fun q=>by omega⟩
     ·rcases aa with q|q<;>omega
     ·rcases aa with q|q<;>omega
     ·have:=rest_heard w ah sz;omega
    have au:Like y (talkS b.st y x).1:=Like.trans (⟨rfl,rfl,rfl,rfl,rfl⟩:Like y (heardS y x)) V;refine⟨by rw[r1],h.lim,h.room,by show d.now=abs (talkT b.st y x);rw[Z];exact h.now,by simp[h.txt],?_,I,h.l1,h.l4,h.r0,h.r1,by simpa using h.log⟩
    show Tks (talkT b.st y x) (d.talks.set ((k:Int)).toNat (feedH d n x).1)
    rw[Int.toNat_natCast];exact h.tks.set h.ok.dist hk O hg au r4 Y ah w
end Px
namespace Px
open Bx (En push hA hD hK hS)
theorem behL_nil {w:List UInt8} (h:0<w.length):behL w []=none:=gD (by simpa using h)
theorem go_start (L:List ByteArray) (c:Int) (x:Sl) (U:x.step=1) (G:x.heard=ByteArray.empty) (sz:∀z∈L,2≤z.size∧z.size≤9):
 (goF L c (L.length+1) x)=({x with step:=(((saysL L).2:Nat):Int)+1},(saysL L).1):=by
 obtain⟨d,h1,h2⟩:=goF_says L c L.length 0 (L.length+1) x rfl (by omega) (by rw[U];rfl) (by omega)
 rw[List.drop_zero,Nat.zero_add] at h2;rw[List.drop_zero] at h1;have V:=saysL_le L;obtain⟨w,rfl⟩:∃k,d=k+1:=⟨d-1,by omega⟩
 rw[h2]
 have I:goF L c (w+1) {x with step:=(((saysL L).2:Nat):Int)+1}=({x with step:=(((saysL L).2:Nat):Int)+1},ByteArray.empty):=by
  by_cases q:(saysL L).2<L.length
  ·rw[goF];have J:((((saysL L).2:Nat):Int)+1-1).toNat=(saysL L).2:=by omega
   have Q:L.getD (saysL L).2 ByteArray.empty=L[(saysL L).2]:=by simp[q]
   have O:=saysL_stop L q;simp only [J,Q,O];rw[if_neg (by omega),if_neg (by simp)]
   have hb:behB x.heard (wordAt L (saysL L).2)=false:=by
    unfold behB;rw[G];have:=word_size q sz;have e:ByteArray.empty.data.toList=[]:=rfl;rw[e,behL_nil (by rw[size_list];omega)];rfl
   rw[if_pos hb]
   have:lastB x.heard ((wordAt L (saysL L).2).size-1)=x.heard:=by
    rw[G];unfold lastB;rw[if_neg (by show ¬_<0;omega)]
   rw[this]
  ·rw[goF,if_pos (by show (L.length:Int)<_;simp only;omega)]
 rw[I,ba_app_nil]
theorem runs_repl {s:St} (hd:Dist s.slots) {i:Nat} (hi:i<s.slots.length) (w:s.slots[i].step≤0) {X:Sl} (d:X.num=s.slots[i].num) (e:0<X.step):runs {s with slots:=repl s.slots X}=runs s+1:=by
 unfold runs;simp only;rw[repl_set hd hi X d];exact filter_set hi (by simp;omega) (by simpa using e)
set_option maxHeartbeats 1000000 in
theorem start_rel {b:Bo} {d:Bx.Bo} (h:Rel b d) (n:Int):(startB b n).2=(Go.Proofs.YtdajolpoiffimabGreatDoor.startP d n).2∧Rel (startB b n).1 (Go.Proofs.YtdajolpoiffimabGreatDoor.startP d n).1:=by
 unfold startB Go.Proofs.YtdajolpoiffimabGreatDoor.startP;have w:=h.now
 rcases start_abs h.ok.dist n with ⟨e8,hf⟩|⟨i,hi,hF,Z,hc⟩
 ·have er:refusedP d (Bx.find d.now n)=8:=by unfold refusedP;rw[w,if_pos hf]
  rw[if_pos (by omega),er,if_pos (by omega),e8];exact⟨rfl,h⟩
 have aa:Bx.find d.now n=i:=by rw[w];exact hF
 have Y:Bx.slAt d.now ((i:Int)).toNat=absS b.st.slots[i]:=by rw[w,Int.toNat_natCast,slAt_abs hi]
 have ah:d.now.clock=b.st.clock:=by rw[w];rfl
 have au:(absS b.st.slots[i]).frm=b.st.slots[i].frm:=rfl
 rcases hc with ⟨e,q⟩|⟨e,q1,q2⟩|⟨e,q1,q2,q3⟩|⟨e,q1,q2,q3,V,q5⟩
 ·have er:refusedP d (Bx.find d.now n)=9:=by
   unfold refusedP;rw[aa,if_neg (by omega),Y,if_pos (by simpa [absS] using q)]
  rw[if_pos (by omega),er,if_pos (by omega),e];exact⟨rfl,h⟩
 ·have er:refusedP d (Bx.find d.now n)=10:=by
   unfold refusedP;rw[aa,if_neg (by omega),Y,if_neg (by simp[absS];omega),ah,au,if_pos q2]
  rw[if_pos (by omega),er,if_pos (by omega),e];exact⟨rfl,h⟩
 ·have er:refusedP d (Bx.find d.now n)=11:=by
   unfold refusedP;rw[aa,if_neg (by omega),Y,if_neg (by simp[absS];omega),ah,au,if_neg q2,Int.toNat_natCast,w,lock_abs hi q1,if_pos q3]
  rw[if_pos (by omega),er,if_pos (by omega),e];exact⟨rfl,h⟩
 have ai:refusedP d (Bx.find d.now n)=if b.limit≤(runs b.st:Int) then 12 else 0:=by
  unfold refusedP;rw[aa,if_neg (by omega),Y,if_neg (by simp[absS];omega),ah,au,if_neg q2,Int.toNat_natCast,w,lock_abs hi q1,if_neg (by simp[q3]),runs_abs,h.lim]
 have aC:runs (startP b.st n).1=runs b.st+1:=by rw[V];exact runs_repl h.ok.dist hi q1 rfl (by show (0:Int)<1;omega)
 rw[if_neg (by omega),aC]
 by_cases aw:b.limit≤(runs b.st:Int)
 ·rw[if_pos aw] at ai;rw[if_pos (by omega),ai,if_pos (by omega)];exact⟨rfl,h⟩
 rw[if_neg aw] at ai;rw[if_neg (by omega),if_neg (by rw[ai];simp)]
 have hy:b.st.slots[i]∈b.st.slots:=List.getElem_mem hi;generalize aX:b.st.slots[i]=y at *;have aL:=h.ok.ex y hy;have ay:y.heard=ByteArray.empty:=aL.2.2.2.2.2 (by omega)
 obtain⟨s1,s5,sz⟩:=steps_size h.ok hy
 have eL:startL d n=stepsL b.st y:=by
  unfold startL stepsS stepsL;rw[aa,Y,h.now];rfl
 have aP:find (startP b.st n).1.slots n=some (beg b.st y):=by
  rw[V];have aH:(beg b.st y).num=n:=Z;rw[←aH];exact find_repl hy rfl
 have az:stepsL (startP b.st n).1 (beg b.st y)=stepsL b.st y:=by rw[V];rfl
 have aE:(startP b.st n).1.clock=b.st.clock:=by rw[V]
 have hT:talkS (startP b.st n).1 (beg b.st y) ByteArray.empty=({beg b.st y with step:=(((saysL (stepsL b.st y)).2:Nat):Int)+1},(saysL (stepsL b.st y)).1):=by
  unfold talkS;rw[az,aE]
  have:heardS (beg b.st y) ByteArray.empty=beg b.st y:=by
   unfold heardS;rw[ba_app_nil]
  rw[this];exact go_start _ _ _ rfl ay sz
 unfold talkB;rw[aP];simp only;rw[if_neg (show ¬(beg b.st y).step≤0 by show ¬(1:Int)≤0;omega),az,hT,eL]
 have hk:=saysL_le (stepsL b.st y)
 have aA:talkT (startP b.st n).1 (beg b.st y) ByteArray.empty={b.st with slots:=repl b.st.slots {beg b.st y with step:=(((saysL (stepsL b.st y)).2:Nat):Int)+1}}:=by
  unfold talkT;rw[hT,V];have rr:=repl_repl b.st.slots (beg b.st y) {beg b.st y with step:=(((saysL (stepsL b.st y)).2:Nat):Int)+1} rfl;simp only;rw[rr]
 have hS:Bx.tell d.now (chS n)=abs (startP b.st n).1:=by rw[w];exact tell_about (by omega) (by omega) q5
 have Q:Ok (startP b.st n).1:=by
  have ax:Bx.StOk (abs (startP b.st n).1):=by
   have:=Bx.about_ok h.ok.st 83 n;rw[q5] at this;exact this
  rw[V] at ax ⊢;exact h.ok.repl _ ax ⟨h.ok.st.c1,h.ok.st.c2,by show (0:Int)≤1;omega,by show (1:Int)≤((stepsL b.st y).length:Int);omega,by show y.heard.size≤8;omega,fun q=>by simp[beg] at q⟩
 have ar:∀t∈d.talks,∃x∈b.st.slots,¬x.num=n∧Goes b.st x t:=by
  intro t G;obtain⟨x,I,hg⟩:=h.tks.of t G;refine⟨x,I,?_,hg⟩;intro e';have:x=y:=h.ok.dist.mem I hy (by rw[e',Z])
  subst this;have:=hg.2.1;omega
 by_cases ho:(saysL (stepsL b.st y)).2=(stepsL b.st y).length
 ·rw[if_pos (show ((stepsL b.st y).length:Int)<((saysL (stepsL b.st y)).2:Int)+1 by omega)]
  have aM:doneP (talkT (startP b.st n).1 (beg b.st y) ByteArray.empty) n=(ended b.st n hD,0):=by
   rw[aA];exact done_talk hy Z Z (by simp only;omega)
  rw[aM];simp only [not_true,if_false];have eC:startC (stepsL b.st y) n=[chS n]++[chD n]:=by unfold startC;rw[if_pos ho]
  have am:Bx.frame (Bx.body (chS n))++Bx.frame (Bx.body (chD n))=Bx.frames (startC (stepsL b.st y) n):=by rw[eC];simp[Bx.frames]
  unfold commitB;rw[am,h.room,h.txt]
  by_cases J:b.room<(b.log.size:Int)+(Bx.frames (startC (stepsL b.st y) n)).size
  ·rw[if_pos J,if_pos J];exact⟨rfl,h⟩
  ·rw[if_neg J,if_neg J]
   have aB:Bx.aboutP (abs (startP b.st n).1) 68 n=(abs (ended b.st n hD),true):=by
    have e':doneP (startP b.st n).1 n=(ended b.st n hD,0):=by
     rw[V];exact done_talk hy Z Z (by show (0:Int)<1;omega)
    rcases done_abs Q.dist n Q.num1 with ⟨q,_⟩|⟨q,_⟩|⟨_,q⟩
    ·rw[e'] at q;cases q
    ·rw[e'] at q;cases q
    ·rw[e'] at q;exact q
   have ao:Bx.told d.now (startC (stepsL b.st y) n)=abs (ended b.st n hD):=by
    rw[eC]
    show Bx.tell (Bx.tell d.now (chS n)) (chD n)=_
    rw[hS];exact tell_about (by omega) (by omega) aB
   have aj:Ok (ended b.st n hD):=by
    refine h.ok.skip _ _ ?_;have:=Bx.about_ok Q.st 68 n;rw[aB] at this;exact this
   refine⟨rfl,h.lim,h.room,ao,by simp[addB,h.txt],?_,aj,h.l1,h.l4,h.r0,h.r1,?_⟩
   ·show Tks (ended b.st n hD) (if (saysL (stepsL b.st y)).2<(stepsL b.st y).length then _ else d.talks)
    rw[if_neg (by omega)]
    refine⟨h.tks.dist,fun t G=>?_,fun x I aq=>h.tks.all x (List.mem_filter.1 I).1 aq⟩
    obtain⟨x,I,U,hg⟩:=ar t G;exact⟨x,List.mem_filter.2 ⟨I,by simpa using U⟩,hg⟩
   ·simp[ByteArray.size_append] at J ⊢;omega
 ·have af:(saysL (stepsL b.st y)).2<(stepsL b.st y).length:=by omega
  rw[if_neg (show ¬((stepsL b.st y).length:Int)<((saysL (stepsL b.st y)).2:Int)+1 by omega),aA]
  have eC:startC (stepsL b.st y) n=[chS n]:=by unfold startC;rw[if_neg ho]
  have am:Bx.frame (Bx.body (chS n))=Bx.frames (startC (stepsL b.st y) n):=by rw[eC,frames_one]
  unfold commitB;rw[am,h.room,h.txt]
  by_cases J:b.room<(b.log.size:Int)+(Bx.frames (startC (stepsL b.st y) n)).size
  ·rw[if_pos J,if_pos J];exact⟨rfl,h⟩
  ·rw[if_neg J,if_neg J];generalize O:({beg b.st y with step:=(((saysL (stepsL b.st y)).2:Nat):Int)+1}:Sl)=X;have ag:X.num=n:=by rw[←O];exact Z
   have aK:X.step=(((saysL (stepsL b.st y)).2:Nat):Int)+1:=by rw[←O]
   have ap:abs {b.st with slots:=repl b.st.slots X}=abs (startP b.st n).1:=by
    rw[V];have hm:beg b.st y∈(repl b.st.slots (beg b.st y)):=repl_new hy rfl
    have:=repl_abs {b.st with slots:=repl b.st.slots (beg b.st y)} (x:=X) (y:=beg b.st y) (by have:=Q.dist;rw[V] at this;exact this) hm (by
     rw[←O];unfold absS beg;simp only
     rw[decide_eq_true (by omega),decide_eq_true (by omega)])
    simp only at this
    rw[repl_repl b.st.slots (beg b.st y) X (by rw[←O])] at this
    exact this
   have ao:Bx.told d.now (startC (stepsL b.st y) n)=abs {b.st with slots:=repl b.st.slots X}:=by
    rw[eC,told_one,hS,ap]
   have aj:Ok {b.st with slots:=repl b.st.slots X}:=by
    refine h.ok.repl _ (by rw[ap];exact Q.st) ⟨?_,?_,by omega,(by have el:X.line=y.line:=(by rw[←O];rfl);rw[el];show _≤((stepsL b.st y).length:Int);omega),?_,fun q=>by omega⟩
    ·rw[←O];exact h.ok.st.c1
    ·rw[←O];exact h.ok.st.c2
    ·rw[←O];show y.heard.size≤8;omega
   refine⟨rfl,h.lim,h.room,ao,by simp[addB,h.txt],?_,aj,h.l1,h.l4,h.r0,h.r1,?_⟩
   ·show Tks {b.st with slots:=repl b.st.slots X} (if (saysL (stepsL b.st y)).2<(stepsL b.st y).length then d.talks++[⟨n,((saysL (stepsL b.st y)).2:Nat),d.now.clock,{data:= #[]}⟩] else d.talks)
    rw[if_pos af,ah];have eX:stepsL {b.st with slots:=repl b.st.slots X} X=stepsL b.st y:=by rw[←O];rfl
    have aI:Goes {b.st with slots:=repl b.st.slots X} X ⟨n,((saysL (stepsL b.st y)).2:Nat),b.st.clock,{data:= #[]}⟩:=by
     refine⟨ag.symm,by omega,(saysL (stepsL b.st y)).2,by rw[eX];exact af,?_⟩
     rw[eX];have aY:=word_size af sz;refine⟨rfl,by omega,aK,by rw[←O];rfl,fun _=>⟨saysL_stop _ af,behL_nil (by rw[size_list];omega),?_⟩⟩
     rw[←O]
     show y.heard.data.toList=_
     rw[ay]
     show ([]:List UInt8)=lastN _ []
     simp[lastN]
    refine⟨?_,?_,?_⟩
    ·rw[List.pairwise_append];refine⟨h.tks.dist,by simp,fun t G u hu=>?_⟩
     obtain⟨x,I,U,hg⟩:=ar t G;simp at hu;subst hu;rw[hg.1];exact U
    ·intro t G
     rcases List.mem_append.1 G with G|G
     ·obtain⟨x,I,U,hg⟩:=ar t G;exact⟨x,repl_keep I (by rw[ag];exact U),hg⟩
     ·simp at G;subst G
      exact⟨X,repl_new hy (by rw[ag];exact Z),aI⟩
    ·intro x I aq
     rcases repl_mem' I with rfl|⟨I,U⟩
     ·exact⟨_,List.mem_append.2 (Or.inr (List.mem_singleton.2 rfl)),ag.symm⟩
     ·obtain⟨t,G,e'⟩:=h.tks.all x I aq;exact⟨t,List.mem_append.2 (Or.inl G),e'⟩
   ·simp[ByteArray.size_append] at J ⊢;omega
end Px
end Go.Proofs.YtdajolpoiffimabGreatDoor
