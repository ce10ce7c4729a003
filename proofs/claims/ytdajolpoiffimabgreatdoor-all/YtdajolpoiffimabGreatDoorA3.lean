import Derived.Test.YtdajolpoiffimabGreatDoorA2

namespace Go.Proofs.YtdajolpoiffimabGreatDoor
namespace Px
open Bx (Ln Cnt Lt)
structure From (ls:List Ln) (m t:Int) (i:Nat) (out:List (Nat×Int)):Prop where
 ord:out.Pairwise Lt
 mem:∀j u,(j,u)∈out↔(t<u∨(u=t∧i≤j))∧u≤m∧∃h:j<ls.length,Cnt ls[j] m u
theorem From.start (ls:List Ln) (m:Int):From ls m m ls.length []:=
 ⟨List.Pairwise.nil,fun j u=>⟨(fun h=>by cases h),(fun ⟨h1,h2,h3,_⟩=>by omega)⟩⟩
theorem From.yes {ls:List Ln} {m t:Int} {i:Nat} {out:List (Nat×Int)} (h:From ls m t (i+1) out) (hi:i<ls.length) (G:t≤m) (I:Cnt ls[i] m t):From ls m t i ((i,t)::out):=by
 refine⟨List.pairwise_cons.2 ⟨fun p w=>?_,h.ord⟩,fun j u=>?_⟩
 ·obtain⟨j,u⟩:=p;obtain⟨h1,_,_⟩:=(h.mem j u).1 w
  show t<u∨(t=u∧i<j)
  omega
 ·rw[List.mem_cons,h.mem]
  constructor
  ·rintro (e|⟨h1,h2,d⟩)
   ·cases e;exact⟨Or.inr ⟨rfl,Nat.le_refl _⟩,G,hi,I⟩
   ·exact⟨by omega,h2,d⟩
  ·rintro ⟨h1,h2,d⟩
   by_cases q:j=i∧u=t
   ·left;rw[q.1,q.2]
   ·right;exact⟨by omega,h2,d⟩
theorem From.no {ls:List Ln} {m t:Int} {i:Nat} {out:List (Nat×Int)} (h:From ls m t (i+1) out) (hi:i<ls.length) (w:¬Cnt ls[i] m t):From ls m t i out:=by
 refine⟨h.ord,fun j u=>?_⟩
 rw[h.mem]
 constructor
 ·rintro ⟨h1,h2,d⟩;exact⟨by omega,h2,d⟩
 ·rintro ⟨h1,h2,d,e⟩;refine⟨?_,h2,d,e⟩
  by_cases q:j=i∧u=t
  ·obtain⟨rfl,rfl⟩:=q;exact absurd e w
  ·omega
theorem From.down {ls:List Ln} {m t:Int} {out:List (Nat×Int)} (h:From ls m t 0 out):From ls m (t-1) ls.length out:=by
 refine⟨h.ord,fun j u=>?_⟩
 rw[h.mem]
 constructor
 ·rintro ⟨h1,h2,d⟩;exact⟨by omega,h2,d⟩
 ·rintro ⟨h1,h2,d,e⟩;exact⟨by omega,h2,d,e⟩
theorem From.done {ls:List Ln} {a m:Int} {out:List (Nat×Int)} (h:From ls m (a-1) ls.length out):out=Bx.comes ls a m:=by
 refine Bx.ComesR.uniq (a:=a) (m:=m) (ls:=ls) ⟨h.ord,fun j u=>?_⟩ (Bx.comes_ok ls a m)
 rw[h.mem]
 constructor
 ·rintro ⟨h1,h2,e,d⟩;exact⟨e,by omega,h2,d⟩
 ·rintro ⟨e,h1,h2,d⟩;exact⟨by omega,h2,e,d⟩
open Classical in
noncomputable def metB (l:Ln) (m t:Int):Bool:=decide (∃u,t<u∧u≤m∧l.due u=true)
open Classical in
theorem met_start (l:Ln) (m:Int):metB l m m=false:=by
 unfold metB;exact decide_eq_false (fun ⟨u,h1,h2,_⟩=>by omega)
open Classical in
theorem met_yes {l:Ln} {m t:Int} (h:l.due t=true) (d:t≤m):metB l m (t-1)=true:=by
 unfold metB;exact decide_eq_true ⟨t,by omega,d,h⟩
open Classical in
theorem met_no {l:Ln} {m t:Int} (h:l.due t=false):metB l m (t-1)=metB l m t:=by
 unfold metB
 apply decide_eq_decide.2
 constructor
 ·rintro ⟨u,h1,h2,d⟩
  by_cases q:u=t
  ·subst q;rw[h] at d;cases d
  ·exact⟨u,by omega,h2,d⟩
 ·rintro ⟨u,h1,h2,d⟩;exact⟨u,by omega,h2,d⟩
def cntB (c:Int) (now later:Bool):Bool:=if c=108 then !later else if c=110 then now else true
open Classical in
theorem cnt_iff {l:Ln} {m t:Int} (h:l.due t=true):cntB l.catch' (t==m) (metB l m t)=true↔Cnt l m t:=by
 unfold cntB Cnt metB
 by_cases q:l.catch'=108
 ·rw[if_pos q]
  constructor
  ·intro e;have:¬∃u,t<u∧u≤m∧l.due u=true:=by simpa using e
   refine⟨h,fun d=>by omega,fun _ u h1 h2=>?_⟩
   cases hd:l.due u
   ·rfl
   ·exact absurd ⟨u,h1,h2,hd⟩ this
  ·rintro ⟨_,_,G⟩;have:¬∃u,t<u∧u≤m∧l.due u=true:=fun ⟨u,h1,h2,hd⟩=>by rw[G q u h1 h2] at hd;cases hd
   simpa using this
 ·rw[if_neg q]
  by_cases d:l.catch'=110
  ·rw[if_pos d]
   constructor
   ·intro e;exact⟨h,fun _=>by simpa using e,fun w=>absurd w q⟩
   ·rintro ⟨_,h2,_⟩;simpa using h2 d
  ·rw[if_neg d];exact⟨fun _=>⟨h,fun e=>absurd e d,fun e=>absurd e q⟩,fun _=>rfl⟩
theorem cnt_due {l:Ln} {m t:Int} (h:l.due t=false):¬Cnt l m t:=fun ⟨h1,_⟩=>by rw[h] at h1;cases h1
end Px
namespace Px
def Dist (l:List Sl):Prop:=l.Pairwise fun a b=>a.num≠b.num
theorem Ok.dist {s:St} (h:Ok s):Dist s.slots:=h.rise.imp fun h=>by omega
theorem Dist.at {l:List Sl} (h:Dist l) {i j:Nat} (hi:i<l.length) (d:j<l.length) (e:l[i].num=l[j].num):i=j:=by
 rcases Nat.lt_trichotomy i j with c|c|c
 ·exact absurd e (List.pairwise_iff_getElem.1 h i j hi d c)
 ·exact c
 ·exact absurd e.symm (List.pairwise_iff_getElem.1 h j i d hi c)
theorem findK_no (l:List Bx.Sl) (n:Int) (h:∀x∈l,¬x.num=n) (k:Nat):Bx.findK l n k= -1:=by
 induction k with
 | zero=>rfl
 | succ k d=>
   rw[Bx.findK,d]
   split
   ·rename_i e
    rcases Nat.lt_or_ge k l.length with c|c
    ·rw[List.getElem?_eq_getElem c] at e;simp at e;exact absurd e (h _ (List.getElem_mem c))
    ·rw[List.getElem?_eq_none c] at e;cases e
   ·rfl
theorem findK_at (l:List Bx.Sl) (n:Int) (i:Nat) (hi:i<l.length) (e:l[i].num=n) (h:∀j (w:j<l.length),l[j].num=n→j=i) (k:Nat) (G:i<k):Bx.findK l n k=i:=by
 induction k with
 | zero=>omega
 | succ k d=>
   rw[Bx.findK]
   split
   ·rename_i e'
    rcases Nat.lt_or_ge k l.length with c|c
    ·rw[List.getElem?_eq_getElem c] at e';simp at e';rw[h k c e']
    ·rw[List.getElem?_eq_none c] at e';cases e'
   ·rename_i e'
    by_cases q:i=k
    ·subst q;rw[List.getElem?_eq_getElem hi] at e';simp[e] at e'
    ·exact d (by omega)
theorem find_none {s:St} {n:Int} (h:find s.slots n=none):Bx.find (abs s) n= -1:=by
 refine findK_no _ _ ?_ _;intro x d;obtain⟨y,e,rfl⟩:=List.mem_map.1 d;have:=List.find?_eq_none.1 h y e
 simpa [absS] using this
theorem find_some {s:St} {n:Int} {x:Sl} (hd:Dist s.slots) (h:find s.slots n=some x):∃i,∃hi:i<s.slots.length,s.slots[i]=x∧x.num=n∧Bx.find (abs s) n=i:=by
 have J:=List.mem_of_find?_eq_some h;have w:x.num=n:=by simpa using List.find?_some h
 obtain⟨i,hi,rfl⟩:=List.mem_iff_getElem.1 J;refine⟨i,hi,rfl,w,?_⟩;have d:(abs s).slots.length=s.slots.length:=by simp[abs]
 refine findK_at _ _ i (by rw[d];exact hi) ?_ ?_ _ (by rw[d];exact hi)
 ·simp[abs,absS,w]
 ·intro j I e;have G:j<s.slots.length:=by rw[d] at I;exact I
  refine hd.at G hi ?_;rw[w];simpa [abs,absS] using e
theorem skipK_erase (l:List Bx.Sl) (i k:Nat) (w:k≤l.length):Bx.skipK l i k=(l.take k).eraseIdx i:=by
 induction k with
 | zero=>simp[Bx.skipK]
 | succ k e=>
   have d:k<l.length:=by omega
   rw[Bx.skipK,e (by omega),List.take_succ_eq_append_getElem d,List.getElem?_eq_getElem d]
   by_cases q:k=i
   ·subst q;rw[if_pos rfl,List.eraseIdx_of_length_le (by simp;omega),List.eraseIdx_append_of_length_le (by simp;omega)]
    simp[Nat.min_eq_left (by omega:k≤l.length)]
   ·rw[if_neg (by omega)]
    by_cases c:i<k
    ·rw[List.eraseIdx_append_of_lt_length (by simp;omega)];rfl
    ·rw[List.eraseIdx_of_length_le (by simp;omega),List.eraseIdx_append_of_length_le (by simp;omega)]
     rw[List.eraseIdx_of_length_le (by simp;omega)];rfl
theorem without_erase (l:List Bx.Sl) (i:Nat):Bx.withoutL l i=l.eraseIdx i:=by
 rw[Bx.withoutL,skipK_erase l i _ (Nat.le_refl _),List.take_length]
theorem skip_erase {l:List Sl} (hd:Dist l) {i:Nat} (hi:i<l.length):skip l l[i].num=l.eraseIdx i:=by
 induction l generalizing i with
 | nil=>simp at hi
 | cons a r I=>
   have d:=List.pairwise_cons.1 hd
   cases i with
   | zero=>
     simp only [List.getElem_cons_zero,List.eraseIdx_cons_zero]
     unfold skip;rw[List.filter_cons_of_neg (by simp),List.filter_eq_self]
     intro x G;have:=d.1 x G;simp;exact fun e=>this e.symm
   | succ i=>
     simp only [List.getElem_cons_succ,List.eraseIdx_cons_succ]
     have w:i<r.length:=by simpa using hi
     have:=d.1 r[i] (List.getElem_mem w);unfold skip;rw[List.filter_cons_of_pos (by simpa using this)]
     have:=I d.2 w;unfold skip at this;rw[this]
theorem repl_set {l:List Sl} (hd:Dist l) {i:Nat} (hi:i<l.length) (x:Sl) (d:x.num=l[i].num):repl l x=l.set i x:=by
 apply List.ext_getElem
 ·simp[repl]
 ·intro j h1 h2;have w:j<l.length:=by simpa [repl] using h1
  by_cases q:i=j
  ·subst q;simp[repl,d]
  ·rw[List.getElem_set_ne q];have:¬l[j].num=l[i].num:=fun e=>q (hd.at hi w e.symm)
   simp[repl,d,this]
theorem map_erase {α β:Type} (f:α→β) (l:List α) (i:Nat):(l.eraseIdx i).map f=(l.map f).eraseIdx i:=by
 induction l generalizing i with
 | nil=>simp
 | cons a r d=>cases i with
   | zero=>simp
   | succ i=>simp[d]
theorem abs_skip {s:St} (hd:Dist s.slots) {i:Nat} (hi:i<s.slots.length):(skip s.slots s.slots[i].num).map absS=Bx.withoutL (abs s).slots i:=by
 rw[skip_erase hd hi,without_erase];exact map_erase _ _ _
theorem abs_repl {s:St} (hd:Dist s.slots) {i:Nat} (hi:i<s.slots.length) (x:Sl) (d:x.num=s.slots[i].num):(repl s.slots x).map absS=Bx.putL (abs s).slots i (absS x):=by
 rw[repl_set hd hi x d,kI];simp only [abs];rw[List.map_set]
theorem slAt_abs {s:St} {i:Nat} (hi:i<s.slots.length):Bx.slAt (abs s) i=absS s.slots[i]:=by simp[Bx.slAt,abs,hi]
theorem opt_abs (s:St) (l:Int) (i:Nat):Bx.opt (abs s) l i=opt s l i:=rfl
theorem cancel_abs {s:St} (hd:Dist s.slots) (n:Int) (w:∀x∈s.slots,1≤x.num):
 ((cancelP s n).2=8∧Bx.find (abs s) n<0)∨((cancelP s n).2=0∧Bx.aboutP (abs s) 75 n=(abs (cancelP s n).1,true)):=by
 unfold cancelP
 cases h:find s.slots n with
 | none=>left;rw[find_none h];exact⟨rfl,by omega⟩
 | some x=>
   right
   obtain⟨i,hi,rfl,d,e⟩:=find_some hd h;refine⟨rfl,?_⟩;unfold Bx.aboutP;rw[e,if_neg (by omega),if_pos rfl]
   have h1:=w _ (List.getElem_mem hi);simp only [Bx.with',ended];rw[if_pos (by omega),←abs_skip hd hi,d]
   rfl
theorem done_abs {s:St} (hd:Dist s.slots) (n:Int) (G:∀x∈s.slots,1≤x.num):
 ((doneP s n).2=8∧Bx.find (abs s) n<0)∨((doneP s n).2=9∧∃i:Nat,Bx.find (abs s) n=i∧(Bx.slAt (abs s) i).runs=false)∨((doneP s n).2=0∧Bx.aboutP (abs s) 68 n=(abs (doneP s n).1,true)):=by
 unfold doneP
 cases h:find s.slots n with
 | none=>left;rw[find_none h];exact⟨rfl,by omega⟩
 | some x=>
   right
   obtain⟨i,hi,rfl,w,d⟩:=find_some hd h
   by_cases e:s.slots[i].step≤0
   ·left;simp only [e,if_true];exact⟨trivial,i,d,by rw[slAt_abs hi];simp[absS];omega⟩
   ·right
    simp only [e,if_false]
    refine⟨trivial,?_⟩;unfold Bx.aboutP;rw[d,if_neg (by omega),if_neg (by omega),if_neg (by omega),if_pos rfl]
    have h1:=G _ (List.getElem_mem hi);simp only [Bx.with',ended,Int.toNat_natCast];rw[if_pos (by omega),←abs_skip hd hi,w,slAt_abs hi]
    have:(absS s.slots[i]).runs=true:=by simp[absS];omega
    rw[this];rfl
theorem delay_bd (k:Int):2≤Bx.delay k∧Bx.delay k≤10:=by
 unfold Bx.delay;split
 ·omega
 ·split
  ·omega
  ·split<;>omega
theorem fail_abs {s:St} (hd:Dist s.slots) (n:Int) (Q:∀x∈s.slots,1≤x.num) (U:∀x∈s.slots,x.att≤opt s x.line 2-48):
 ((failP s n).2=8∧Bx.find (abs s) n<0)∨((failP s n).2=9∧∃i:Nat,Bx.find (abs s) n=i∧(Bx.slAt (abs s) i).runs=false)∨((failP s n).2=0∧Bx.aboutP (abs s) 70 n=(abs (failP s n).1,true)):=by
 unfold failP
 cases h:find s.slots n with
 | none=>left;rw[find_none h];exact⟨rfl,by omega⟩
 | some x=>
   right
   obtain⟨i,hi,rfl,w,G⟩:=find_some hd h
   by_cases d:s.slots[i].step≤0
   ·left;simp only [d,if_true];exact⟨trivial,i,G,by rw[slAt_abs hi];simp[absS];omega⟩
   ·right
    have h1:=Q _ (List.getElem_mem hi);have h2:=U _ (List.getElem_mem hi);have V:(absS s.slots[i]).runs=true:=by simp[absS];omega
    simp only [d,if_false]
    have e:Bx.aboutP (abs s) 70 n=(Bx.failed (abs s) i,true):=by
     unfold Bx.aboutP;rw[G,if_neg (by omega),if_neg (by omega),if_neg (by omega),if_neg (by omega),if_pos rfl]
     simp only [Int.toNat_natCast]
     rw[slAt_abs hi,V]
    rw[e];unfold Bx.failed;rw[slAt_abs hi,opt_abs];have I:(absS s.slots[i]).att=s.slots[i].att:=rfl;have O:(absS s.slots[i]).line=s.slots[i].line:=rfl;have J:(absS s.slots[i]).num=s.slots[i].num:=rfl;rw[I,O,J]
    by_cases q:opt s s.slots[i].line 2-48≤s.slots[i].att
    ·rw[if_pos q,if_pos (by omega)]
     refine⟨rfl,?_⟩;simp only [Bx.with',ended];rw[if_pos (by omega),←abs_skip hd hi,w]
     rfl
    ·rw[if_neg q,if_neg (by omega)]
     refine⟨rfl,?_⟩;have:=abs_repl hd hi (again s s.slots[i]) rfl;simp only [Bx.with'];rw[if_neg (by omega)]
     show _=(({tab:=s.tab,clock:=s.clock,next:=s.next,slots:=(repl s.slots (again s s.slots[i])).map absS,ends:=s.ends}:Bx.St),true)
     rw[this];rfl
theorem runs_abs (s:St):Bx.running (abs s)=runs s:=by
 have:∀k,k≤s.slots.length→Bx.runK (abs s) k=((s.slots.take k).filter fun x=>decide (0<x.step)).length:=by
  intro k G
  induction k with
  | zero=>rfl
  | succ k w=>
    have d:k<s.slots.length:=by omega
    rw[Bx.runK,w (by omega),slAt_abs d,List.take_succ_eq_append_getElem d,List.filter_append,List.length_append]
    congr 1
    by_cases q:0<s.slots[k].step<;>simp[absS,q]
 unfold Bx.running runs;have e:(abs s).slots.length=s.slots.length:=by simp[abs]
 rw[e,this _ (Nat.le_refl _),List.take_length]
theorem lock_abs {s:St} {i:Nat} (hi:i<s.slots.length) (G:s.slots[i].step≤0):Bx.locked (abs s) i=lockP s s.slots[i].line:=by
 have:∀k,k≤s.slots.length→Bx.lockK (abs s) i k=((s.slots.take k).any fun x=>decide (x.line=s.slots[i].line)&&decide (0<x.step)):=by
  intro k I
  induction k with
  | zero=>rfl
  | succ k w=>
    have d:k<s.slots.length:=by omega
    rw[Bx.lockK,w (by omega),slAt_abs d,slAt_abs hi,List.take_succ_eq_append_getElem d,List.any_append]
    congr 1
    by_cases q:k=i
    ·subst q;simp[absS];omega
    ·simp[absS,q];rfl
 unfold Bx.locked lockP;have e:(abs s).slots.length=s.slots.length:=by simp[abs]
 rw[e,this _ (Nat.le_refl _),List.take_length,slAt_abs hi];rfl
end Px
def lastN (k:Nat) (l:List UInt8):List UInt8:=l.drop (l.length-k)
theorem oe (k:Nat) (a b:List UInt8):lastN k (lastN k a++b)=lastN k (a++b):=by
 unfold lastN;have e:(List.drop (a.length-k) a++b)=(a++b).drop (a.length-k):=by rw[List.drop_append_of_le_length (by omega)]
 rw[e,List.drop_drop]
 congr 1
 simp;omega
theorem ir {k:Nat} {l:List UInt8} (h:l.length≤k):lastN k l=l:=by
 unfold lastN;rw[Nat.sub_eq_zero_of_le h];rfl
theorem ng {w:List UInt8} {a:UInt8} {r:List UInt8} (h:behL w (a::r)=none):w.isPrefixOf (a::r)=false∧behL w r=none:=by
 rw[behL] at h
 split at h
 ·cases h
 ·rename_i q;exact⟨Bool.eq_false_iff.2 q,h⟩
theorem pO (w d t:List UInt8) (J:0<w.length) (h:behL w d=none):behL w (lastN (w.length-1) d++t)=behL w (d++t):=by
 induction d with
 | nil=>simp[lastN]
 | cons a r I=>
   by_cases q:(a::r).length≤w.length-1
   ·rw[ir q]
   ·obtain⟨h1,h2⟩:=ng h
    have e:lastN (w.length-1) (a::r)=lastN (w.length-1) r:=by
     unfold lastN;have:(a::r).length-(w.length-1)=(r.length-(w.length-1))+1:=by simp at q ⊢;omega
     rw[this];rfl
    rw[e,I h2]
    have n1:w.isPrefixOf (a::r++t)=false:=by
     cases c:w.isPrefixOf (a::r++t)
     ·rfl
     ·exfalso
      rw[List.isPrefixOf_iff_prefix] at c
      have G:w <+: a::r:=by
       refine List.prefix_of_prefix_length_le c (List.prefix_append _ _) ?_;simp at q ⊢;omega
      rw[←List.isPrefixOf_iff_prefix,h1] at G;cases G
    rw[List.cons_append] at n1 ⊢;rw[ig n1]
namespace Px
def lastB (h:ByteArray) (k:Nat):ByteArray:=if k<h.size then h.extract (h.size-k) h.size else h
theorem lastB_list (h:ByteArray) (k:Nat):(lastB h k).data.toList=lastN k h.data.toList:=by
 have d:h.data.toList.length=h.size:=by simp
 unfold lastB;split
 ·rw[eg,lastN,d,List.take_of_length_le (by simp)]
 ·rw[ir (by omega)]
abbrev says (s:ByteArray):Bool:=sayB s
def goF (L:List ByteArray) (c:Int):Nat→Sl→Sl×ByteArray
 | 0,x=>(x,ByteArray.empty)
 | n+1,x=>if (L.length:Int)<x.step then (x,ByteArray.empty)
   else if says (L.getD (x.step-1).toNat ByteArray.empty)=true then
    ((goF L c n {x with step:=x.step+1}).1,wordAt L (x.step-1).toNat++(goF L c n {x with step:=x.step+1}).2)
   else if behB x.heard (wordAt L (x.step-1).toNat)=false then ({x with heard:=lastB x.heard ((wordAt L (x.step-1).toNat).size-1)},ByteArray.empty)
   else goF L c n {x with step:=x.step+1,heard:=behS x.heard (wordAt L (x.step-1).toNat),ans:=c}
theorem ba_nil_app (a:ByteArray):ByteArray.empty++a=a:=by simp
theorem ba_app_nil (a:ByteArray):a++ByteArray.empty=a:=by simp
theorem goF_says (L:List ByteArray) (c:Int):∀(m i n:Nat) (x:Sl),L.length-i=m→i≤L.length→x.step=(i:Int)+1→m≤n→
 ∃d,n-(saysL (L.drop i)).2≤d∧goF L c n x=((goF L c d {x with step:=((i+(saysL (L.drop i)).2:Nat):Int)+1}).1,(saysL (L.drop i)).1++(goF L c d {x with step:=((i+(saysL (L.drop i)).2:Nat):Int)+1}).2):=by
 intro m
 induction m with
 | zero=>
   intro i n x hm hi I _;have e:L.drop i=[]:=List.drop_eq_nil_of_le (by omega)
   refine⟨n,by simp[e,saysL],?_⟩
   have w:{x with step:=((i+(saysL (L.drop i)).2:Nat):Int)+1}=x:=by
    rw[e];cases x;simp[saysL] at I ⊢;omega
   rw[w,e];simp[saysL]
 | succ m Y=>
   intro i n x hm hi I Z;have G:i<L.length:=by omega
   rw[List.drop_eq_getElem_cons G,saysL]
   by_cases q:L[i].data.toList.head? =some 60
   ·rw[if_pos q];refine⟨n,by omega,?_⟩
    have w:{x with step:=((i+0:Nat):Int)+1}=x:=by
     cases x;simp at I ⊢;omega
    rw[w];simp
   ·rw[if_neg q];obtain⟨n,rfl⟩:∃k,n=k+1:=⟨n-1,by omega⟩
    obtain⟨d,h1,h2⟩:=Y (i+1) n {x with step:=x.step+1} (by omega) (by omega) (by rw[I];simp) (by omega)
    refine⟨d,by simp only;omega,?_⟩
    have O:(x.step-1).toNat=i:=by omega
    have V:L.getD i ByteArray.empty=L[i]:=by simp[G]
    have U:says L[i]=true:=by unfold says sayB;simp[q]
    rw[goF,if_neg (by omega),O,V,if_pos U,h2]
    have J:i+1+(saysL (L.drop (i+1))).2=i+((saysL (L.drop (i+1))).2+1):=by omega
    have Q:wordAt L i=L[i].extract 1 L[i].size:=by simp[wordAt,G]
    simp only [J,Q,ByteArray.append_assoc]
theorem saysL_stop (L:List ByteArray) (h:(saysL L).2<L.length):says L[(saysL L).2]=false:=by
 induction L with
 | nil=>simp at h
 | cons s r w=>
   by_cases q:s.data.toList.head? =some 60
   ·have e:saysL (s::r)=(ByteArray.empty,0):=by rw[saysL,if_pos q]
    simp only [e,List.getElem_cons_zero]
    unfold says sayB;simp[q]
   ·have e:(saysL (s::r)).2=(saysL r).2+1:=by rw[saysL,if_neg q]
    have d:(saysL r).2<r.length:=by rw[e] at h;simpa using h
    simp only [e,List.getElem_cons_succ]
    exact w d
theorem saysL_le (L:List ByteArray):(saysL L).2≤L.length:=by
 induction L with
 | nil=>simp[saysL]
 | cons s r d=>rw[saysL];split<;>simp<;>omega
theorem stop_at (L:List ByteArray) (i:Nat) (h:i+(saysL (L.drop i)).2<L.length):says L[i+(saysL (L.drop i)).2]=false:=by
 have:=saysL_stop (L.drop i) (by rw[List.length_drop];omega)
 rw[List.getElem_drop] at this;exact this
structure Rest (L:List ByteArray) (x:Sl) (t:Bx.Tk) (a:Nat):Prop where
 at':t.at'=a
 le:a≤L.length
 step:x.step=(a:Int)+1
 ans:x.ans=t.since
 hear:∀h:a<L.length,says L[a]=false∧behL (wordAt L a).data.toList t.heard.data.toList=none∧x.heard.data.toList=lastN ((wordAt L a).size-1) t.heard.data.toList
def Like (x y:Sl):Prop:=y.num=x.num∧y.line=x.line∧y.minute=x.minute∧y.att=x.att∧y.frm=x.frm
theorem Like.refl (x:Sl):Like x x:=⟨rfl,rfl,rfl,rfl,rfl⟩
theorem Like.trans {x y z:Sl} (h:Like x y) (d:Like y z):Like x z:=⟨d.1.trans h.1,d.2.1.trans h.2.1,d.2.2.1.trans h.2.2.1,d.2.2.2.1.trans h.2.2.2.1,d.2.2.2.2.trans h.2.2.2.2⟩
theorem hear_same (L:List ByteArray) (c:Int):∀(m a d w:Nat) (x:Sl) (t:Bx.Tk),L.length-a=m→m≤d→m+1≤w→t.at'=a→a≤L.length→x.step=(a:Int)+1→x.ans=t.since→
 (∀h:a<L.length,says L[a]=false∧behL (wordAt L a).data.toList x.heard.data.toList=behL (wordAt L a).data.toList t.heard.data.toList∧
  (behL (wordAt L a).data.toList t.heard.data.toList=none→lastN ((wordAt L a).size-1) x.heard.data.toList=lastN ((wordAt L a).size-1) t.heard.data.toList))→
 (goF L c w x).2=(hearF L c d t).2∧(∃a',Rest L (goF L c w x).1 (hearF L c d t).1 a')∧Like x (goF L c w x).1∧(hearF L c d t).1.num=t.num:=by
 intro m
 induction m using Nat.strongRecOn with
 | ind m ih=>
   intro a d w x t hm ap ao Q O I J hh;obtain⟨w,rfl⟩:∃k,w=k+1:=⟨w-1,by omega⟩
   by_cases V:a<L.length
   ·obtain⟨d,rfl⟩:∃k,d=k+1:=⟨d-1,by omega⟩
    obtain⟨h1,h2,h3⟩:=hh V;have Y:(x.step-1).toNat=a:=by omega
    have e2:L.getD a ByteArray.empty=L[a]:=by simp[V]
    have e3:t.at'.toNat=a:=by omega
    have G:goF L c (w+1) x=if behB x.heard (wordAt L a)=false then ({x with heard:=lastB x.heard ((wordAt L a).size-1)},ByteArray.empty) else goF L c w {x with step:=x.step+1,heard:=behS x.heard (wordAt L a),ans:=c}:=by
     rw[goF,if_neg (by omega),Y,e2,if_neg (by rw[h1];simp)]
    have H:hearF L c (d+1) t=if behB t.heard (wordAt L a)=false then (t,ByteArray.empty)
     else ((hearF L c d ⟨t.num,((a+1+(saysL (L.drop (a+1))).2:Nat):Int),c,behS t.heard (wordAt L a)⟩).1,(saysL (L.drop (a+1))).1++(hearF L c d ⟨t.num,((a+1+(saysL (L.drop (a+1))).2:Nat):Int),c,behS t.heard (wordAt L a)⟩).2):=by
     rw[hearF,if_neg (by omega),e3]
    rw[G,H];have eB:behB x.heard (wordAt L a)=behB t.heard (wordAt L a):=by unfold behB;rw[h2]
    have Z:behS x.heard (wordAt L a)=behS t.heard (wordAt L a):=by unfold behS;rw[h2]
    rw[eB,Z]
    by_cases q:behB t.heard (wordAt L a)=false
    ·rw[if_pos q,if_pos q]
     have U:behL (wordAt L a).data.toList t.heard.data.toList=none:=by
      unfold behB at q;simpa using q
     exact⟨rfl,⟨a,Q,O,I,J,fun _=>⟨h1,U,by rw[lastB_list];exact h3 U⟩⟩,⟨rfl,rfl,rfl,rfl,rfl⟩,rfl⟩
    ·rw[if_neg q,if_neg q];obtain⟨n',am,hg⟩:=goF_says L c (L.length-(a+1)) (a+1) w {x with step:=x.step+1,heard:=behS t.heard (wordAt L a),ans:=c} rfl (by omega) (by simp;omega) (by omega)
     rw[hg];have hk:=saysL_le (L.drop (a+1));rw[List.length_drop] at hk
     obtain⟨r1,r2,r3,r4⟩:=ih (L.length-(a+1+(saysL (L.drop (a+1))).2)) (by omega) (a+1+(saysL (L.drop (a+1))).2) d n'
      {x with step:=((a+1+(saysL (L.drop (a+1))).2:Nat):Int)+1,heard:=behS t.heard (wordAt L a),ans:=c}
      ⟨t.num,((a+1+(saysL (L.drop (a+1))).2:Nat):Int),c,behS t.heard (wordAt L a)⟩ rfl (by omega) (by omega) rfl (by omega) rfl rfl
      (fun h=>⟨stop_at L (a+1) h,rfl,fun _=>rfl⟩)
     refine⟨?_,r2,?_,r4⟩
     ·show _++_=_++_
      rw[r1]
     ·exact Like.trans ⟨rfl,rfl,rfl,rfl,rfl⟩ r3
   ·have ea:a=L.length:=by omega
    have e:hearF L c d t=(t,ByteArray.empty):=by
     cases d with
     | zero=>rfl
     | succ d=>rw[hearF,if_pos (by omega)]
    rw[goF,if_pos (by omega),e]
    exact⟨rfl,⟨a,Q,O,I,J,fun h=>by omega⟩,Like.refl _,rfl⟩
end Px
namespace Bx
def cat:List ByteArray→ByteArray
 | []=>ByteArray.empty
 | x::r=>x++cat r
theorem cat_app (a b:List ByteArray):cat (a++b)=cat a++cat b:=by
 induction a with
 | nil=>simp[cat]
 | cons x r d=>rw[List.cons_append,cat,cat,d,ByteArray.append_assoc]
theorem cat_snoc (a:List ByteArray) (x:ByteArray):cat (a++[x])=cat a++x:=by rw[cat_app];simp[cat]
def mk1 (b:Bool):Int:=if b=true then 1 else 0
def encSl (x:Sl):ByteArray:=be x.num 2++(be x.line 1++(be x.minute 5++(be x.att 1++(be x.frm 5++be (mk1 x.runs) 1))))
def encEn (x:En):ByteArray:=be x.num 2++x.how
def encSt (s:St):ByteArray:=be (s.clock+1) 5++(be s.next 2++(be s.tab.size 2++(s.tab++(be s.slots.length 1++(cat (s.slots.map encSl)++(be s.ends.length 1++cat (s.ends.map encEn)))))))
def wholeS (s:St):ByteArray:=b1 90++encSt s
structure SlFit (x:Sl):Prop where
 n:0≤x.num∧x.num<65536
 l:0≤x.line∧x.line<256
 m:0≤x.minute∧x.minute<1099511627776
 a:0≤x.att∧x.att<256
 f:0≤x.frm∧x.frm<1099511627776
structure EnFit (x:En):Prop where
 n:0≤x.num∧x.num<65536
 h:x.how.size=1
structure StFit (s:St):Prop where
 c: -1≤s.clock∧s.clock<1099511627775
 n:0≤s.next∧s.next<65536
 t:s.tab.size<65536
 sl:s.slots.length<256
 en:s.ends.length<256
 es:∀x∈s.slots,SlFit x
 ee:∀x∈s.ends,EnFit x
end Bx
theorem dA {α β:Type} (p:α×β):p=(p.1,p.2):=rfl
namespace Px
open Bx
def rdSlot (p:PS):Sl×PS:=
 let a:=numP 2 p
 let b:=numP 1 a.2
 let c:=numP 5 b.2
 let d:=numP 1 c.2
 let e:=numP 5 d.2
 let f:=numP 1 e.2
 (⟨a.1,b.1,c.1,d.1,e.1,if f.1=1 then 1 else 0,0,ByteArray.empty⟩,if f.1=1∨f.1=0 then f.2 else ⟨f.2.rest,true⟩)
def rdSlotsK:Nat→PS→List Sl×PS
 | 0,p=>([],p)
 | k+1,p=>if p.wrong=true then ([],p) else ((rdSlot p).1::(rdSlotsK k (rdSlot p).2).1,(rdSlotsK k (rdSlot p).2).2)
def rdEnd (p:PS):En×PS:=(⟨(numP 2 p).1,(txtP 1 (numP 2 p).2).1⟩,(txtP 1 (numP 2 p).2).2)
def rdEndsK:Nat→PS→List En×PS
 | 0,p=>([],p)
 | k+1,p=>if p.wrong=true then ([],p) else ((rdEnd p).1::(rdEndsK k (rdEnd p).2).1,(rdEndsK k (rdEnd p).2).2)
def rdSlots (p:PS):List Sl×PS:=rdSlotsK (numP 1 p).1.toNat (numP 1 p).2
def rdEnds (p:PS):List En×PS:=rdEndsK (numP 1 p).1.toNat (numP 1 p).2
def rdState (p:PS):St×PS:=
 let c:=numP 5 p
 let n:=numP 2 c.2
 let l:=numP 2 n.2
 let t:=txtP l.1 l.2
 let sl:=rdSlots t.2
 let en:=rdEnds sl.2
 (⟨t.1,c.1-1,n.1,sl.1,en.1⟩,en.2)
theorem rdSlot_eq {p G pb pc J I w:PS} {a b c d e f:Int} (U:numP 2 p=(a,G)) (hb:numP 1 G=(b,pb)) (Q:numP 5 pb=(c,pc)) (hd:numP 1 pc=(d,J)) (V:numP 5 J=(e,I)) (O:numP 1 I=(f,w)):
 rdSlot p=(⟨a,b,c,d,e,if f=1 then 1 else 0,0,ByteArray.empty⟩,if f=1∨f=0 then w else ⟨w.rest,true⟩):=by
 unfold rdSlot;simp only [U,hb,Q,hd,V,O]
theorem numP_r {k:Nat} {p q:PS} {a:Int} (h:numP k p=(a,q)) (d:q.wrong=false):p.wrong=false∧p.rest=be a k++q.rest∧0≤a∧a<256 ^ k:=by
 have:=numP_right (k:=k) (p:=p) (by rw[h];exact d)
 rw[h] at this;exact this
theorem txtP_r {k:Int} {p q:PS} {a:ByteArray} (h:txtP k p=(a,q)) (d:q.wrong=false):p.wrong=false∧p.rest=a++q.rest∧(a.size:Int)=k:=by
 have:=txtP_right (k:=k) (p:=p) (by rw[h];exact d)
 rw[h] at this;exact this
theorem rdSlot_right {p q:PS} {x:Sl} (h:rdSlot p=(x,q)) (w:q.wrong=false):p.wrong=false∧p.rest=encSl (absS x)++q.rest∧SlFit (absS x):=by
 obtain⟨a,G,O⟩:∃a G,numP 2 p=(a,G):=⟨_,_,dA _⟩;obtain⟨b,pb,hb⟩:∃a q,numP 1 G=(a,q):=⟨_,_,dA _⟩;obtain⟨c,pc,I⟩:∃a q,numP 5 pb=(a,q):=⟨_,_,dA _⟩;obtain⟨d,pd,hd⟩:∃a q,numP 1 pc=(a,q):=⟨_,_,dA _⟩;obtain⟨e,pe,Q⟩:∃a q,numP 5 pd=(a,q):=⟨_,_,dA _⟩;obtain⟨f,pf,J⟩:∃a q,numP 1 pe=(a,q):=⟨_,_,dA _⟩;rw[rdSlot_eq O hb I hd Q J] at h;obtain⟨rfl,rfl⟩:=Prod.mk.inj h
 have hm:f=1∨f=0:=by
  by_cases q:f=1∨f=0
  ·exact q
  ·rw[if_neg q] at w;cases w
 rw[if_pos hm] at w ⊢;obtain⟨w6,e6,a6,b6⟩:=numP_r J w;obtain⟨w5,e5,a5,Z⟩:=numP_r Q w6;obtain⟨w4,e4,a4,b4⟩:=numP_r hd w5;obtain⟨w3,e3,Y,b3⟩:=numP_r I w4;obtain⟨w2,e2,U,b2⟩:=numP_r hb w3;obtain⟨w1,V,a1,b1⟩:=numP_r O w2;refine⟨w1,?_,⟨⟨a1,by simpa [absS] using b1⟩,⟨U,by simpa [absS] using b2⟩,⟨Y,by simpa [absS] using b3⟩,⟨a4,by simpa [absS] using b4⟩,⟨a5,by simpa [absS] using Z⟩⟩⟩
 have hk:mk1 (absS ⟨a,b,c,d,e,if f=1 then 1 else 0,0,ByteArray.empty⟩).runs=f:=by
  unfold absS mk1;simp only
  rcases hm with q|q
  ·rw[q];rfl
  ·rw[q];rfl
 unfold encSl;rw[hk];simp only [ByteArray.append_assoc,absS];rw[←e6,←e5,←e4,←e3,←e2,←V]
theorem rdSlot_enc (x:Bx.Sl) (d:SlFit x) (r:ByteArray):rdSlot ⟨encSl x++r,false⟩=(⟨x.num,x.line,x.minute,x.att,x.frm,mk1 x.runs,0,ByteArray.empty⟩,⟨r,false⟩):=by
 have hm:mk1 x.runs=1∨mk1 x.runs=0:=by unfold mk1;split<;>simp
 have e:0≤mk1 x.runs∧mk1 x.runs<256:=by omega
 have w:encSl x++r=be x.num 2++(be x.line 1++(be x.minute 5++(be x.att 1++(be x.frm 5++(be (mk1 x.runs) 1++r))))):=by simp only [encSl,ByteArray.append_assoc]
 rw[w];refine (rdSlot_eq (numP_be x.num 2 _ false d.n.1 (by simpa using d.n.2)) (numP_be x.line 1 _ false d.l.1 (by simpa using d.l.2)) (numP_be x.minute 5 _ false d.m.1 (by simpa using d.m.2)) (numP_be x.att 1 _ false d.a.1 (by simpa using d.a.2)) (numP_be x.frm 5 _ false d.f.1 (by simpa using d.f.2)) (numP_be (mk1 x.runs) 1 r false e.1 (by simpa using e.2))).trans ?_
 rw[if_pos hm]
 rcases hm with q|q<;>rw[q]<;>rfl
theorem rdSlotsK_right:∀(k:Nat) {p q:PS} {l:List Sl},rdSlotsK k p=(l,q)→q.wrong=false→p.wrong=false∧p.rest=cat (l.map fun x=>encSl (absS x))++q.rest∧l.length=k∧∀x∈l,SlFit (absS x)
 | 0,p,q,l,h,hw=>by
   rw[rdSlotsK] at h;obtain⟨rfl,rfl⟩:=Prod.mk.inj h;exact⟨hw,by simp[cat],rfl,by simp⟩
 | k+1,p,q,l,h,hw=>by
   rw[rdSlotsK] at h
   split at h
   ·rename_i hp
    obtain⟨rfl,rfl⟩:=Prod.mk.inj h;rw[hp] at hw;cases hw
   ·obtain⟨y,d,e⟩:∃y d,rdSlot p=(y,d):=⟨_,_,dA _⟩;obtain⟨m,w,hm⟩:∃m w,rdSlotsK k d=(m,w):=⟨_,_,dA _⟩;rw[e] at h;simp only at h;rw[hm] at h;obtain⟨rfl,rfl⟩:=Prod.mk.inj h;obtain⟨h1,h2,I,G⟩:=rdSlotsK_right k hm hw;obtain⟨J,O,Q⟩:=rdSlot_right e h1;refine⟨J,?_,by simp[I],?_⟩
    ·rw[List.map_cons,cat,ByteArray.append_assoc,←h2];exact O
    ·intro x U
     rcases List.mem_cons.1 U with q|q
     ·rw[q];exact Q
     ·exact G x q
def rdOf (x:Bx.Sl):Sl:=⟨x.num,x.line,x.minute,x.att,x.frm,mk1 x.runs,0,ByteArray.empty⟩
theorem rdOf_abs (x:Bx.Sl):absS (rdOf x)=x:=by
 obtain⟨a,b,c,d,e,f⟩:=x
 cases f<;>rfl
theorem rdSlotsK_enc (l:List Bx.Sl) (d:∀x∈l,SlFit x) (r:ByteArray):rdSlotsK l.length ⟨cat (l.map encSl)++r,false⟩=(l.map rdOf,⟨r,false⟩):=by
 induction l with
 | nil=>simp[cat,rdSlotsK]
 | cons x l e=>
   rw[List.length_cons,rdSlotsK,if_neg (by simp),List.map_cons,cat,ByteArray.append_assoc,rdSlot_enc x (d x (by simp)),e (fun y w=>d y (by simp[w]))]
   rfl
theorem rdEnd_right {p q:PS} {x:En} (h:rdEnd p=(x,q)) (G:q.wrong=false):p.wrong=false∧p.rest=encEn x++q.rest∧EnFit x:=by
 obtain⟨a,O,w⟩:∃y d,numP 2 p=(y,d):=⟨_,_,dA _⟩;obtain⟨t,pt,e⟩:∃y d,txtP 1 O=(y,d):=⟨_,_,dA _⟩;unfold rdEnd at h;rw[w] at h;simp only at h;rw[e] at h;obtain⟨rfl,rfl⟩:=Prod.mk.inj h;obtain⟨I,Q,U⟩:=txtP_r e G;obtain⟨w1,J,a1,b1⟩:=numP_r w I;refine⟨w1,?_,⟨⟨a1,by simpa using b1⟩,by show t.size=1;omega⟩⟩
 unfold encEn;rw[ByteArray.append_assoc]
 show p.rest=be a 2++(t++pt.rest)
 rw[←Q,←J]
theorem rdEnd_enc (x:En) (d:EnFit x) (r:ByteArray):rdEnd ⟨encEn x++r,false⟩=(x,⟨r,false⟩):=by
 unfold rdEnd encEn;rw[ByteArray.append_assoc,numP_be _ 2 _ _ d.n.1 (by simpa using d.n.2),txtP_app _ _ _ _ (by rw[d.h];rfl)]
theorem rdEndsK_right:∀(k:Nat) {p q:PS} {l:List En},rdEndsK k p=(l,q)→q.wrong=false→p.wrong=false∧p.rest=cat (l.map encEn)++q.rest∧l.length=k∧∀x∈l,EnFit x
 | 0,p,q,l,h,hw=>by
   rw[rdEndsK] at h;obtain⟨rfl,rfl⟩:=Prod.mk.inj h;exact⟨hw,by simp[cat],rfl,by simp⟩
 | k+1,p,q,l,h,hw=>by
   rw[rdEndsK] at h
   split at h
   ·rename_i hp
    obtain⟨rfl,rfl⟩:=Prod.mk.inj h;rw[hp] at hw;cases hw
   ·obtain⟨y,d,e⟩:∃y d,rdEnd p=(y,d):=⟨_,_,dA _⟩;obtain⟨m,w,hm⟩:∃m w,rdEndsK k d=(m,w):=⟨_,_,dA _⟩;rw[e] at h;simp only at h;rw[hm] at h;obtain⟨rfl,rfl⟩:=Prod.mk.inj h;obtain⟨h1,h2,I,G⟩:=rdEndsK_right k hm hw;obtain⟨J,O,Q⟩:=rdEnd_right e h1;refine⟨J,?_,by simp[I],?_⟩
    ·rw[List.map_cons,cat,ByteArray.append_assoc,←h2];exact O
    ·intro x U
     rcases List.mem_cons.1 U with q|q
     ·rw[q];exact Q
     ·exact G x q
theorem rdEndsK_enc (l:List En) (d:∀x∈l,EnFit x) (r:ByteArray):rdEndsK l.length ⟨cat (l.map encEn)++r,false⟩=(l,⟨r,false⟩):=by
 induction l with
 | nil=>simp[cat,rdEndsK]
 | cons x l e=>
   rw[List.length_cons,rdEndsK,if_neg (by simp),List.map_cons,cat,ByteArray.append_assoc,rdEnd_enc x (d x (by simp)),e (fun y w=>d y (by simp[w]))]
theorem rdSlots_right {p q:PS} {l:List Sl} (h:rdSlots p=(l,q)) (e:q.wrong=false):p.wrong=false∧p.rest=be l.length 1++(cat (l.map fun x=>encSl (absS x))++q.rest)∧l.length<256∧∀x∈l,SlFit (absS x):=by
 obtain⟨h1,h2,I,d⟩:=rdSlotsK_right _ h e;obtain⟨w1,G,a1,b1⟩:=numP_r (p:=p) (a:=(numP 1 p).1) (q:=(numP 1 p).2) (dA _) h1;have w:(numP 1 p).1=(l.length:Int):=by omega
 refine⟨w1,by rw[←h2,←w];exact G,by simp at b1;omega,d⟩
theorem rdSlots_enc (l:List Bx.Sl) (e:l.length<256) (d:∀x∈l,SlFit x) (r:ByteArray):rdSlots ⟨be l.length 1++(cat (l.map encSl)++r),false⟩=(l.map rdOf,⟨r,false⟩):=by
 unfold rdSlots;rw[numP_be _ 1 _ _ (by omega) (by simp;omega),Int.toNat_natCast,rdSlotsK_enc l d]
theorem rdEnds_right {p q:PS} {l:List En} (h:rdEnds p=(l,q)) (e:q.wrong=false):p.wrong=false∧p.rest=be l.length 1++(cat (l.map encEn)++q.rest)∧l.length<256∧∀x∈l,EnFit x:=by
 obtain⟨h1,h2,I,d⟩:=rdEndsK_right _ h e;obtain⟨w1,G,a1,b1⟩:=numP_r (p:=p) (a:=(numP 1 p).1) (q:=(numP 1 p).2) (dA _) h1;have w:(numP 1 p).1=(l.length:Int):=by omega
 refine⟨w1,by rw[←h2,←w];exact G,by simp at b1;omega,d⟩
theorem rdEnds_enc (l:List En) (e:l.length<256) (d:∀x∈l,EnFit x) (r:ByteArray):rdEnds ⟨be l.length 1++(cat (l.map encEn)++r),false⟩=(l,⟨r,false⟩):=by
 unfold rdEnds;rw[numP_be _ 1 _ _ (by omega) (by simp;omega),Int.toNat_natCast,rdEndsK_enc l d]
theorem rdState_eq {p pc w d pt ps e:PS} {c n l:Int} {t:ByteArray} {sl:List Sl} {en:List En} (J:numP 5 p=(c,pc)) (Q:numP 2 pc=(n,w)) (G:numP 2 w=(l,d)) (I:txtP l d=(t,pt)) (O:rdSlots pt=(sl,ps)) (U:rdEnds ps=(en,e)):
 rdState p=(⟨t,c-1,n,sl,en⟩,e):=by
 unfold rdState;simp only [J,Q,G,I,O,U]
theorem rdState_right {p q:PS} {s:St} (h:rdState p=(s,q)) (hw:q.wrong=false):p.wrong=false∧p.rest=encSt (abs s)++q.rest∧StFit (abs s):=by
 obtain⟨c,pc,G⟩:∃a q,numP 5 p=(a,q):=⟨_,_,dA _⟩;obtain⟨n,Y,w⟩:∃a q,numP 2 pc=(a,q):=⟨_,_,dA _⟩;obtain⟨l,pl,d⟩:∃a q,numP 2 Y=(a,q):=⟨_,_,dA _⟩;obtain⟨t,pt,e⟩:∃a q,txtP l pl=(a,q):=⟨_,_,dA _⟩;obtain⟨sl,ps,I⟩:∃a q,rdSlots pt=(a,q):=⟨_,_,dA _⟩;obtain⟨en,pe,J⟩:∃a q,rdEnds ps=(a,q):=⟨_,_,dA _⟩;rw[rdState_eq G w d e I J] at h;obtain⟨rfl,rfl⟩:=Prod.mk.inj h;obtain⟨w6,e6,l6,f6⟩:=rdEnds_right J hw;obtain⟨w5,e5,l5,f5⟩:=rdSlots_right I w6;obtain⟨Z,e4,s4⟩:=txtP_r e w5;obtain⟨V,e3,a3,b3⟩:=numP_r d Z;obtain⟨w2,e2,Q,O⟩:=numP_r w V;obtain⟨w1,U,a1,b1⟩:=numP_r G w2;simp at b1 O b3;refine⟨w1,?_,⟨⟨by show -1≤c-1;omega,by show c-1<_;omega⟩,⟨Q,O⟩,by show t.size<65536;omega,by simpa [abs] using l5,l6,?_,f6⟩⟩
 ·unfold encSt abs;simp only [ByteArray.append_assoc,List.length_map,List.map_map];rw[show c-1+1=c by omega,s4,←e6]
  rw[show (encSl ∘ absS)=fun x=>encSl (absS x) from rfl,←e5,←e4,←e3,←e2,←U]
 ·intro x hx;obtain⟨y,hy,rfl⟩:=List.mem_map.1 hx;exact f5 y hy
def rdSt (s:Bx.St):St:=⟨s.tab,s.clock,s.next,s.slots.map rdOf,s.ends⟩
theorem rdSt_abs (s:Bx.St):abs (rdSt s)=s:=by
 obtain⟨a,b,c,d,e⟩:=s;unfold abs rdSt;simp only [List.map_map];have:(absS ∘ rdOf)=id:=funext rdOf_abs;rw[this,List.map_id]
theorem rdState_enc (s:Bx.St) (d:StFit s) (r:ByteArray):rdState ⟨encSt s++r,false⟩=(rdSt s,⟨r,false⟩):=by
 have e:encSt s++r=be (s.clock+1) 5++(be s.next 2++(be s.tab.size 2++(s.tab++(be s.slots.length 1++(cat (s.slots.map encSl)++(be s.ends.length 1++(cat (s.ends.map encEn)++r))))))):=by simp only [encSt,ByteArray.append_assoc]
 rw[e];have G:=d.c;have w:=d.t;refine (rdState_eq (numP_be (s.clock+1) 5 _ false (by omega) (by simp;omega)) (numP_be s.next 2 _ false d.n.1 (by simpa using d.n.2)) (numP_be (s.tab.size:Int) 2 _ false (by omega) (by simp;omega)) (txtP_app s.tab _ false _ rfl) (rdSlots_enc s.slots d.sl d.es _) (rdEnds_enc s.ends d.en d.ee r)).trans ?_
 rw[show s.clock+1-1=s.clock by omega];rfl
end Px
namespace Bx
theorem sum_bd (s:ByteArray):0≤Crc.sumR s∧Crc.sumR s<4294967296:=by
 have:=Crc.crc_lt s.data.toList;unfold Crc.sumR;omega
theorem app_inj {a b c d:ByteArray} (h:a++b=c++d) (w:a.size=c.size):a=c∧b=d:=by
 have e:a.data.toList++b.data.toList=c.data.toList++d.data.toList:=by
  have:=congrArg (fun x:ByteArray=>x.data.toList) h
  simpa [ByteArray.data_append] using this
 obtain⟨h1,h2⟩:=List.append_inj e (by rw[ba_len,ba_len,w])
 exact⟨ba_ext h1,ba_ext h2⟩
def Nx (r b more:ByteArray):Prop:=r=frame b++more∧b.size<65536
theorem be_inj {n m:Int} {k:Nat} (h:be n k=be m k) (d:0≤n) (n1:n<256 ^ k) (m0:0≤m) (m1:m<256 ^ k):n=m:=by
 rw[←nB_be n k d n1,←nB_be m k m0 m1,h]
theorem Nx.uniq {r b more G d:ByteArray} (h:Nx r b more) (Q:Nx r G d):b=G∧more=d:=by
 obtain⟨e,hb⟩:=h;obtain⟨w,Y⟩:=Q;rw[e] at w;unfold frame at w;simp only [ByteArray.append_assoc] at w;obtain⟨J,V⟩:=app_inj w (by rw[be_size,be_size])
 have Z:=be_inj J (by omega) (by simp;omega) (by omega) (by simp;omega)
 obtain⟨U,I⟩:=app_inj V (by omega)
 obtain⟨_,O⟩:=app_inj I (by rw[be_size,be_size])
 exact⟨U,O⟩
theorem Nx.lt {r b more:ByteArray} (h:Nx r b more):more.size<r.size:=by rw[h.1,ByteArray.size_append,frame_size];omega
def ChFit (c:Ch):Prop:=(c.kind=84∧c.n=0)∨(c.kind=67∧c.tab=ByteArray.empty∧0≤c.n∧c.n<1099511627776)∨((c.kind=83∨c.kind=68∨c.kind=70∨c.kind=75)∧c.tab=ByteArray.empty∧0≤c.n∧c.n<65536)
def IsCh (b:ByteArray) (c:Ch):Prop:=ChFit c∧body c=b
theorem ChFit.kind {c:Ch} (h:ChFit c):0≤c.kind∧c.kind<256∧c.kind≠90:=by rcases h with h|h|h<;>omega
theorem b1_be (n:Int):b1 n=be n 1:=by simp[be]
theorem IsCh.uniq {b:ByteArray} {c Z:Ch} (h:IsCh b c) (h':IsCh b Z):c=Z:=by
 obtain⟨f,e⟩:=h;obtain⟨Y,e'⟩:=h';rw[←e'] at e;unfold body at e;obtain⟨e1,J⟩:=app_inj e (by rw[b1_size,b1_size])
 rw[b1_be,b1_be] at e1;have k1:=f.kind;have k2:=Y.kind;have hk:=be_inj e1 k1.1 (by simpa using k1.2.1) k2.1 (by simpa using k2.2.1)
 obtain⟨k,t,n⟩:=c;obtain⟨k',t',n'⟩:=Z;simp only at hk J;subst hk
 rcases f with ⟨q,I⟩|⟨q,I,U,O⟩|⟨q,I,U,O⟩
 ·simp only at q I
  subst q I
  rcases Y with ⟨p,d⟩|⟨p,d,G,w⟩|⟨p,d,G,w⟩
  ·simp only at d;subst d
   rw[if_pos rfl,if_pos rfl] at J;rw[J]
  ·cases p
  ·simp at p
 ·simp only at q I U O
  subst q I
  rcases Y with ⟨p,d⟩|⟨p,d,G,w⟩|⟨p,d,G,w⟩
  ·cases p
  ·simp only at d G w;subst d
   rw[if_neg (show ¬(67:Int)=84 by decide),if_pos rfl,if_neg (show ¬(67:Int)=84 by decide),if_pos rfl] at J
   rw[be_inj J U (by simpa using O) G (by simpa using w)]
  ·simp at p
 ·simp only at q I U O
  subst I;have Q:¬k=84:=by omega
  have V:¬k=67:=by omega
  rcases Y with ⟨p,d⟩|⟨p,d,G,w⟩|⟨p,d,G,w⟩
  ·exact absurd p Q
  ·exact absurd p V
  ·simp only at d G w;subst d
   rw[if_neg Q,if_neg Q,if_neg V,if_neg V] at J;rw[be_inj J U (by simpa using O) G (by simpa using w)]
structure MaySl (s:St) (x:Sl):Prop where
 n:1≤x.num∧x.num<s.next
 l:1≤x.line∧x.line≤tn s.tab
 m0:0≤x.minute
 m:x.minute≤s.clock
 a:1≤x.att∧x.att≤opt s x.line 2-48
 f1:x.att=1→x.frm=x.minute
 f2:x.att≠1→x.minute<x.frm∧x.frm≤s.clock+10
 r:x.runs=true→x.frm≤s.clock
structure MayEn (s:St) (x:En):Prop where
 n:1≤x.num∧x.num<s.next
 h:x.how=hD∨x.how=hA∨x.how=hK∨x.how=hS
 o:∀y∈s.slots,y.num≠x.num
structure MayS (s:St):Prop where
 tab:ChkR s.tab 0 0
 c1: -1≤s.clock
 c2:s.clock≤4223371679
 n1:1≤s.next
 n2:s.next≤10000
 sl:s.slots.length≤8
 en:s.ends.length≤6
 rise:s.slots.Pairwise fun a b=>a.num<b.num
 lock:s.slots.Pairwise fun a b=>a.line=b.line→opt s a.line 0=120→a.runs=true→b.runs=true→False
 dif:s.ends.Pairwise fun a b=>a.num≠b.num
 es:∀x∈s.slots,MaySl s x
 ee:∀x∈s.ends,MayEn s x
theorem MayS.ok {s:St} (h:MayS s):StOk s:=⟨h.tab,h.c1,h.c2,h.n1,h.n2,h.sl,h.en,fun x d=>⟨(h.es x d).n.1,(h.es x d).n.2,(h.es x d).l.1,(h.es x d).l.2,(h.es x d).a.1,(h.es x d).a.2⟩⟩
theorem first_may:MayS first:=⟨empty_tab,by decide,by decide,by decide,by decide,by decide,by decide,by simp[first],by simp[first],by simp[first],by simp[first],by simp[first]⟩
theorem how_size {h:ByteArray} (e:h=hD∨h=hA∨h=hK∨h=hS):h.size=1:=by rcases e with rfl|rfl|rfl|rfl<;>rfl
theorem MayS.fit {s:St} (h:MayS s):StFit s:=by
 have I:=h.tab.lines.1;have Z:=gv h.tab;have w:=h.c1;have Q:=h.c2;have O:=h.n1;have U:=h.n2;have V:=h.sl;have Y:=h.en;refine⟨⟨w,by omega⟩,⟨by omega,by omega⟩,by omega,by omega,by omega,fun x d=>?_,fun x d=>?_⟩
 ·have q:=h.es x d;have q1:=q.n;have q2:=q.l;have q3:=q.m;have q4:=q.a;have G:=q.m0;have q6:=h.ok.att5 d
  have J:0≤x.frm∧x.frm<1099511627776:=by
   by_cases e:x.att=1
   ·have:=q.f1 e;omega
   ·have:=q.f2 e;omega
  exact⟨⟨by omega,by omega⟩,⟨by omega,by omega⟩,⟨G,by omega⟩,⟨by omega,by omega⟩,J⟩
 ·have q:=h.ee x d;exact⟨by have:=q.n;omega,how_size q.h⟩
def IsZ (b:ByteArray) (s:St):Prop:=MayS s∧wholeS s=b
theorem IsZ.uniq {b:ByteArray} {s t:St} (h:IsZ b s) (G:IsZ b t):s=t:=by
 obtain⟨f,e⟩:=h;obtain⟨w,d⟩:=G;rw[←d] at e;unfold wholeS at e;obtain⟨_,I⟩:=app_inj e rfl;have h1:=Px.rdState_enc s f.fit ByteArray.empty;have h2:=Px.rdState_enc t w.fit ByteArray.empty;rw[I,h2] at h1;have:=congrArg (fun p=>Px.abs p.1) h1
 simp only [Px.rdSt_abs] at this
 exact this.symm
theorem IsZ.no_ch {b:ByteArray} {s:St} {c:Ch} (h:IsZ b s) (G:IsCh b c):False:=by
 obtain⟨_,e⟩:=h;obtain⟨f,w⟩:=G;rw[←w] at e;unfold wholeS body at e;obtain⟨d,_⟩:=app_inj e rfl;rw[b1_be,b1_be] at d;have k:=f.kind;exact k.2.2 (be_inj d (by decide) (by decide) k.1 (by simpa using k.2.1)).symm
def Stp (first:Bool) (s:St) (b:ByteArray) (t:St):Prop:=(first=true∧IsZ b t)∨(∃c,IsCh b c∧(doP s c).2=true∧t=(doP s c).1)
theorem Stp.uniq {fl:Bool} {s t e:St} {b:ByteArray} (h:Stp fl s b t) (d:Stp fl s b e):t=e:=by
 rcases h with ⟨_,h⟩|⟨c,h,_,rfl⟩
 ·rcases d with ⟨_,d⟩|⟨c,d,_⟩
  ·exact h.uniq d
  ·exact (h.no_ch d).elim
 ·rcases d with ⟨_,d⟩|⟨w,d,_,rfl⟩
  ·exact (d.no_ch h).elim
  ·rw[h.uniq d]
inductive Says:Bool→St→ByteArray→St→ByteArray→Prop
 | stop (fl:Bool) (s:St) (r:ByteArray) (h:¬∃b more t,Nx r b more∧Stp fl s b t):Says fl s r s r
 | go {fl:Bool} {s t u:St} {r b more q:ByteArray} (h1:Nx r b more) (h2:Stp fl s b t) (h3:Says false t more u q):Says fl s r u q
theorem Says.uniq {fl:Bool} {s u e:St} {r q I:ByteArray} (h:Says fl s r u q) (G:Says fl s r e I):u=e∧q=I:=by
 induction h with
 | stop fl s r d=>
   cases G with
   | stop=>exact⟨rfl,rfl⟩
   | go h1 h2 U=>exact (d ⟨_,_,_,h1,h2⟩).elim
 | go h1 h2 _ Q=>
   cases G with
   | stop _ _ _ d=>exact (d ⟨_,_,_,h1,h2⟩).elim
   | go J O w=>
     obtain⟨rfl,rfl⟩:=h1.uniq J;obtain rfl:=h2.uniq O;exact Q w
theorem cat_size {α:Type} (f:α→ByteArray) (n:Nat) (l:List α) (h:∀x∈l,(f x).size=n):(cat (l.map f)).size=n*l.length:=by
 induction l with
 | nil=>simp[cat]
 | cons x l d=>
   rw[List.map_cons,cat,ByteArray.size_append,h x (by simp),d (fun y e=>h y (by simp[e])),List.length_cons,Nat.mul_succ];omega
theorem encSl_size (x:Sl):(encSl x).size=15:=by
 unfold encSl;simp only [ByteArray.size_append,be_size]
theorem wholeS_size {s:St} (h:MayS s):(wholeS s).size≤450:=by
 have e:=h.tab.lines.1;have h1:=cat_size encSl 15 s.slots (fun x _=>encSl_size x)
 have h2:=cat_size encEn 3 s.ends (fun x d=>by unfold encEn;rw[ByteArray.size_append,be_size,how_size (h.ee x d).h])
 have w:=h.sl;have G:=h.en;unfold wholeS encSt;simp only [ByteArray.size_append,be_size,b1_size,h1,h2];omega
end Bx
namespace Bx
theorem MayS.dist {s:St} (h:MayS s) {i j:Nat} (hi:i<s.slots.length) (d:j<s.slots.length) (e:s.slots[i].num=s.slots[j].num):i=j:=by
 rcases Nat.lt_trichotomy i j with q|q|q
 ·have:=List.pairwise_iff_getElem.1 h.rise i j hi d q;omega
 ·exact q
 ·have:=List.pairwise_iff_getElem.1 h.rise j i d hi q;omega
theorem findK_num (l:List Sl) (n:Int) (k:Nat) (w:k≤l.length) (h:¬findK l n k<0):∃hi:(findK l n k).toNat<l.length,(l[(findK l n k).toNat]).num=n:=by
 induction k with
 | zero=>exact absurd (show findK l n 0<0 by simp[findK]) h
 | succ k e=>
   unfold findK at h ⊢
   split
   ·rename_i hc
    refine⟨by simp;omega,?_⟩
    have d:k<l.length:=by omega
    rw[List.getElem?_eq_getElem d] at hc
    simpa using hc
   ·rename_i hc
    rw[if_neg hc] at h;exact e (by omega) h
theorem find_num {s:St} {n:Int} (h:¬find s n<0):∃hi:(find s n).toNat<s.slots.length,(s.slots[(find s n).toNat]).num=n:=findK_num _ _ _ (Nat.le_refl _) h
theorem find_nat {s:St} {n:Int} (h:¬find s n<0):find s n=((find s n).toNat:Int):=by omega
theorem slAt_eq {s:St} {i:Nat} (h:i<s.slots.length):slAt s i=s.slots[i]:=by simp[slAt,h]
theorem putK_set (l:List Sl) (i:Nat) (x:Sl) (k:Nat) (I:k≤l.length):putK l i x k=(l.set i x).take k:=by
 induction k with
 | zero=>simp[putK]
 | succ k G=>
   have d:k<l.length:=by omega
   have w:k<(l.set i x).length:=by simpa using d
   rw[putK,G (by omega),List.take_succ_eq_append_getElem w,List.getElem_set]
   by_cases e:i=k
   ·subst e;simp
   ·rw[if_neg (by omega),if_neg e,List.getElem?_eq_getElem d];rfl
theorem put_set (l:List Sl) (i:Nat) (x:Sl):putL l i x=l.set i x:=by
 unfold putL;rw[putK_set l i x _ (Nat.le_refl _),List.take_of_length_le (by simp)]
theorem push_mem {l:List En} {e x:En} (h:x∈push l e):x∈l∨x=e:=by
 unfold push at h
 rcases List.mem_append.1 h with h|h
 ·exact Or.inl (List.mem_of_mem_drop h)
 ·exact Or.inr (by simpa using h)
theorem push_dif {l:List En} {e:En} (h:l.Pairwise fun a b=>a.num≠b.num) (w:∀x∈l,x.num≠e.num):(push l e).Pairwise fun a b=>a.num≠b.num:=by
 unfold push;rw[List.pairwise_append];refine⟨h.sublist (List.drop_sublist _ _),by simp,fun a d b hb=>?_⟩
 simp at hb;subst hb
 exact w a (List.mem_of_mem_drop d)
theorem MaySl.sub {s t:St} {x:Sl} (h:MaySl s x) (h1:t.next=s.next) (h2:t.tab=s.tab) (d:t.clock=s.clock):MaySl t x:=by
 obtain⟨a1,G,I,Q,e,O,w,J⟩:=h;refine⟨by rw[h1];exact a1,by rw[h2];exact G,I,by rw[d];exact Q,?_,O,by rw[d];exact w,by rw[d];exact J⟩
 unfold opt at e ⊢;rw[h2];exact e
theorem MayS.gone {s:St} (h:MayS s) {i:Nat} (hi:i<s.slots.length) {how:ByteArray} (V:how=hD∨how=hA∨how=hK∨how=hS):MayS (with' s (withoutL s.slots i) s.slots[i].num how):=by
 have w:=h.es _ (List.getElem_mem hi);have I:0<s.slots[i].num:=by have:=w.n;omega
 have Z:(with' s (withoutL s.slots i) s.slots[i].num how)={s with slots:=s.slots.eraseIdx i,ends:=push s.ends ⟨s.slots[i].num,how⟩}:=by
  unfold with';rw[if_pos I,Px.without_erase]
 rw[Z];have d:(s.slots.eraseIdx i).Sublist s.slots:=List.eraseIdx_sublist _ _
 have J:∀y∈s.slots.eraseIdx i,y.num≠s.slots[i].num:=by
  intro y G e;obtain⟨j,Y,O,U⟩:=List.mem_eraseIdx_iff_getElem.1 G;exact O (h.dist Y hi (by rw[U];exact e))
 refine⟨h.tab,h.c1,h.c2,h.n1,h.n2,Nat.le_trans (d.length_le) h.sl,push_len _,h.rise.sublist d,h.lock.sublist d,?_,fun x w=>(h.es x (d.subset w)).sub rfl rfl rfl,?_⟩
 ·refine push_dif h.dif fun x w e=>?_
  exact (h.ee x w).o _ (List.getElem_mem hi) e.symm
 ·intro x Q
  rcases push_mem Q with q|q
  ·have:=h.ee x q;exact⟨this.n,this.h,fun y G=>this.o y (d.subset G)⟩
  ·subst q;exact⟨w.n,V,fun y G=>J y G⟩
theorem MayS.put {s:St} (h:MayS s) {i:Nat} (hi:i<s.slots.length) {y:Sl} (Z:y.num=s.slots[i].num) (_hl:y.line=s.slots[i].line) (hy:MaySl s y)
 (hr:y.runs=true→∀k (Q:k<s.slots.length),k≠i→s.slots[k].line=y.line→opt s y.line 0=120→s.slots[k].runs=true→False):MayS (with' s (putL s.slots i y) 0 ByteArray.empty):=by
 have he:with' s (putL s.slots i y) 0 ByteArray.empty={s with slots:=s.slots.set i y}:=by
  unfold with';rw[if_neg (by decide),put_set]
 rw[he]
 have U:∀k (Q:k<(s.slots.set i y).length),(s.slots.set i y)[k].num=(s.slots[k]'(by simpa using Q)).num:=by
  intro k Q;rw[List.getElem_set]
  by_cases e:i=k
  ·subst e;rw[if_pos rfl];exact Z
  ·rw[if_neg e]
 refine⟨h.tab,h.c1,h.c2,h.n1,h.n2,by simpa using h.sl,h.en,?_,?_,h.dif,?_,?_⟩
 ·rw[List.pairwise_iff_getElem];intro a b ha hb d;rw[U,U];exact List.pairwise_iff_getElem.1 h.rise a b _ _ d
 ·rw[List.pairwise_iff_getElem];intro a b ha hb d;have w:a<s.slots.length:=by simpa using ha
  have G:b<s.slots.length:=by simpa using hb
  rw[List.getElem_set,List.getElem_set]
  by_cases Y:i=a
  ·subst Y;rw[if_pos rfl,if_neg (by omega)]
   intro h1 h2 J I;exact hr J b G (by omega) h1.symm h2 I
  ·rw[if_neg Y]
   by_cases V:i=b
   ·subst V;rw[if_pos rfl];intro h1 h2 J I;exact hr I a w (by omega) h1 (by rw[←h1];exact h2) J
   ·rw[if_neg V];exact List.pairwise_iff_getElem.1 h.lock a b w G d
 ·intro x O
  rcases List.mem_or_eq_of_mem_set O with q|q
  ·exact (h.es x q).sub rfl rfl rfl
  ·rw[q];exact hy.sub rfl rfl rfl
 ·intro x O;have q:=h.ee x O;refine⟨q.n,q.h,fun z hz=>?_⟩
  rcases List.mem_or_eq_of_mem_set hz with p|p
  ·exact q.o z p
  ·rw[p,Z];exact q.o _ (List.getElem_mem hi)
theorem lockK_no {s:St} {i k:Nat} (h:lockK s i k=false):∀j,j<k→j≠i→(slAt s j).line=(slAt s i).line→(slAt s j).runs=true→False:=by
 induction k with
 | zero=>intro j I;omega
 | succ k J=>
   intro j I d w G;rw[lockK] at h;simp only [Bool.or_eq_false_iff] at h
   by_cases e:j=k
   ·subst e;have:=h.2;simp[d,w,G] at this
   ·exact J h.1 j (by omega) d w G
theorem MayS.failed {s:St} (h:MayS s) {i:Nat} (hi:i<s.slots.length):MayS (failed s i):=by
 have d:=h.es _ (List.getElem_mem hi);unfold Bx.failed;rw[slAt_eq hi]
 split
 ·exact h.gone hi (Or.inr (Or.inl rfl))
 ·rename_i hne
  have hd:=Px.delay_bd s.slots[i].att;have w:=d.a;have hm:=d.m;refine h.put hi rfl rfl ⟨d.n,d.l,d.m0,d.m,?_,?_,?_,?_⟩ ?_
  ·show 1≤s.slots[i].att+1∧s.slots[i].att+1≤opt s s.slots[i].line 2-48
   omega
  ·intro e;have:s.slots[i].att+1=1:=e;omega
  ·intro _
   show s.slots[i].minute<s.clock+delay s.slots[i].att∧s.clock+delay s.slots[i].att≤s.clock+10
   omega
  ·intro e;cases e
  ·intro e;cases e
theorem MayS.about {s:St} (h:MayS s) (kind n:Int):MayS (aboutP s kind n).1:=by
 unfold aboutP
 split
 ·exact h
 ·rename_i hn
  obtain⟨hi,G⟩:=find_num hn;have V:=find_nat hn;generalize (find s n).toNat=i at *;rw[V];have d:=h.es _ (List.getElem_mem hi)
  split
  ·have:=h.gone hi (how:=hK) (Or.inr (Or.inr (Or.inl rfl)));rw[G] at this;exact this
  ·split
   ·split
    ·exact h
    ·rename_i hc
     rw[slAt_eq hi] at hc ⊢;have aa:¬s.slots[i].runs=true:=fun e=>hc (Or.inl e)
     have ab:¬s.clock<s.slots[i].frm:=fun e=>hc (Or.inr (Or.inl e))
     have Q:¬locked s i=true:=fun e=>hc (Or.inr (Or.inr e))
     refine h.put hi rfl rfl ⟨d.n,d.l,d.m0,d.m,d.a,d.f1,d.f2,fun _=>by show s.slots[i].frm≤s.clock;omega⟩ ?_
     intro _ k I J U Y Z;have w:locked s i=false:=by simpa using Q
     unfold locked at w;rw[slAt_eq hi] at w;have O:(opt s s.slots[i].line 0==120)=true:=by simpa using Y
     rw[O,Bool.true_and] at w;exact lockK_no w k I J (by rw[slAt_eq I,slAt_eq hi];exact U) (by rw[slAt_eq I];exact Z)
   ·split
    ·have:=h.gone hi (how:=hD) (Or.inl rfl);rw[G] at this;exact this
    ·split
     ·exact h.failed hi
     ·exact h
theorem MayS.later {s:St} (h:MayS s) {m:Int} (h1:s.clock≤m) (h2:m≤4223371679):MayS {s with clock:=m}:=by
 refine⟨h.tab,by have:=h.c1;show -1≤m;omega,h2,h.n1,h.n2,h.sl,h.en,h.rise,h.lock,h.dif,fun x d=>?_,fun x d=>⟨(h.ee x d).n,(h.ee x d).h,(h.ee x d).o⟩⟩
 have q:=h.es x d;have w:=q.m;refine⟨q.n,q.l,q.m0,by show x.minute≤m;omega,q.a,q.f1,fun e=>?_,fun e=>?_⟩
 ·have:=q.f2 e;exact⟨this.1,by show x.frm≤m+10;omega⟩
 ·have:=q.r e;show x.frm≤m;omega
theorem MayS.arr {s:St} (h:MayS s) (p:Nat×Int) (V:p.1<tn s.tab) (h0:0≤p.2) (h1:p.2≤s.clock) (U:s.next+1≤10000):MayS (arr s p):=by
 have J:=h.n1
 have I:∀x∈s.slots,MaySl {s with next:=s.next+1} x:=fun x d=>by
  have q:=h.es x d;have G:=q.n;exact⟨⟨G.1,by show x.num<s.next+1;omega⟩,q.l,q.m0,q.m,q.a,q.f1,q.f2,q.r⟩
 unfold Bx.arr
 split
 ·have o:=(iY (h.tab.lines.2.2 p.1 V)).2.2.2.1;refine⟨h.tab,h.c1,h.c2,by show 1≤s.next+1;omega,U,by simp;omega,h.en,?_,?_,h.dif,?_,?_⟩
  ·rw[List.pairwise_append];refine⟨h.rise,by simp,fun a Q b hb=>?_⟩
   simp at hb;subst hb
   exact (h.es a Q).n.2
  ·rw[List.pairwise_append];refine⟨h.lock,by simp,fun a Q b hb=>?_⟩
   simp at hb;subst hb
   intro _ _ _ q;cases q
  ·intro x d
   rcases List.mem_append.1 d with d|d
   ·exact (I x d).sub rfl rfl rfl
   ·simp at d;subst d
    refine⟨⟨J,by show s.next<s.next+1;omega⟩,⟨by simp[slotOf];omega,by simp[slotOf];omega⟩,h0,h1,⟨by simp[slotOf],?_⟩,fun _=>rfl,fun e=>(e rfl).elim,fun e=>by cases e⟩
    show (1:Int)≤ob (tl s.tab (((p.1:Int)+1)-1).toNat) 2-48
    rw[show (((p.1:Int)+1)-1).toNat=p.1 by omega];omega
  ·intro x d;have q:=h.ee x d;have G:=q.n;refine⟨⟨G.1,by show x.num<s.next+1;omega⟩,q.h,fun y w=>?_⟩
   rcases List.mem_append.1 w with w|w
   ·exact q.o y w
   ·simp at w;subst w;show s.next≠x.num;omega
 ·refine⟨h.tab,h.c1,h.c2,by show 1≤s.next+1;omega,U,h.sl,push_len _,h.rise,h.lock,?_,fun x d=>(I x d).sub rfl rfl rfl,?_⟩
  ·exact push_dif h.dif fun x d e=>by have:=(h.ee x d).n;have Y:x.num=s.next:=e;omega
  ·intro x d
   rcases push_mem d with q|q
   ·have O:=h.ee x q;have G:=O.n;exact⟨⟨G.1,by show x.num<s.next+1;omega⟩,O.h,O.o⟩
   ·subst q;exact⟨⟨J,by show s.next<s.next+1;omega⟩,Or.inr (Or.inr (Or.inr rfl)),fun y w=>by have:=(h.es y w).n;show y.num≠s.next;omega⟩
theorem arr_next (s:St) (p:Nat×Int):(arr s p).next=s.next+1∧(arr s p).tab=s.tab∧(arr s p).clock=s.clock:=by
 unfold arr;split<;>exact⟨rfl,rfl,rfl⟩
theorem arr_clock (s:St) (p:Nat×Int) (m:Int):arr {s with clock:=m} p={arr s p with clock:=m}:=by
 unfold arr
 by_cases h:s.slots.length<8
 ·rw[if_pos h,if_pos h]
 ·rw[if_neg h,if_neg h]
theorem arrs_clock (l:List (Nat×Int)) (s:St) (m:Int):l.foldl arr {s with clock:=m}={l.foldl arr s with clock:=m}:=by
 induction l generalizing s with
 | nil=>rfl
 | cons p l d=>rw[List.foldl_cons,List.foldl_cons,arr_clock,d]
theorem MayS.arrs (l:List (Nat×Int)) {s:St} (h:MayS s) (d:∀p∈l,p.1<tn s.tab∧0≤p.2∧p.2≤s.clock) (Q:s.next+(l.length:Int)≤10000):MayS (l.foldl Bx.arr s):=by
 induction l generalizing s with
 | nil=>exact h
 | cons p l V=>
   simp only [List.length_cons] at Q
   obtain⟨O,J,e⟩:=d p (by simp)
   obtain⟨w,I,G⟩:=arr_next s p;rw[List.foldl_cons];exact V (h.arr p O J e (by omega)) (fun x U=>by rw[I,G];exact d x (by simp[U])) (by rw[w];omega)
theorem MayS.clocked {s:St} (h:MayS s) (m:Int):MayS (clockedP s m).1:=by
 unfold clockedP
 split
 ·rename_i ha
  split
  ·rename_i hn
   have hA:0≤m∧m≤4223371679∧s.clock<m∧(s.clock= -1∨m-s.clock≤1500):=of_decide_eq_true ha
   show MayS {(comesS s m).foldl Bx.arr s with clock:=m}
   rw[←arrs_clock];refine MayS.arrs _ (h.later (by omega) hA.2.1) (fun p e=>?_) hn
   have w:=comes_line e;obtain⟨_,G,d,_⟩:=((comes_ok (lns s.tab) (newA s m) m).mem p.1 p.2).1 e;have h0:0≤newA s m:=by have:=h.c1;unfold newA;split<;>omega
   exact⟨w,by omega,d⟩
  ·exact h
 ·exact h
theorem MayS.do {s:St} (h:MayS s) (c:Ch):MayS (doP s c).1:=by
 unfold doP
 split
 ·split
  ·rename_i hc
   have h0:s.slots=[]:=List.eq_nil_of_length_eq_zero hc.2;refine⟨hc.1,h.c1,h.c2,h.n1,h.n2,h.sl,h.en,h.rise,?_,h.dif,?_,fun x d=>⟨(h.ee x d).n,(h.ee x d).h,(h.ee x d).o⟩⟩
   ·show s.slots.Pairwise _;rw[h0];exact List.Pairwise.nil
   ·show ∀x∈s.slots,_;rw[h0];simp
  ·exact h
 ·split
  ·exact h.clocked _
  ·exact h.about _ _
theorem MayS.told {s:St} (h:MayS s) (l:List Ch):MayS (told s l):=by
 induction l generalizing s with
 | nil=>exact h
 | cons a r d=>
   refine d ?_;unfold tell;split
   ·exact h.do a
   ·exact h
end Bx
end Go.Proofs.YtdajolpoiffimabGreatDoor
