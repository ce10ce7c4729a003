import Derived.Test.YtdajolpoiffimabGreatDoorA3

namespace Go.Proofs.YtdajolpoiffimabGreatDoor
namespace Px
open Bx (En push hA hD hK hS)
theorem repl_repl (l:List Sl) (a b:Sl) (h:a.num=b.num):repl (repl l a) b=repl l b:=by
 unfold repl;rw[List.map_map]
 apply List.map_congr_left
 intro y _;simp only [Function.comp]
 by_cases q:(y.num==a.num)=true
 ·have d:(y.num==b.num)=true:=by rw[←h];exact q
  rw[if_pos q,if_pos d,if_pos (by simpa using h)]
 ·rw[if_neg q]
theorem skip_repl (l:List Sl) (x:Sl) (n:Int) (h:x.num=n):skip (repl l x) n=skip l n:=by
 unfold skip repl
 induction l with
 | nil=>rfl
 | cons y r d=>
   rw[List.map_cons]
   by_cases q:y.num=x.num
   ·rw[if_pos (by simpa using q),List.filter_cons_of_neg (by simp[h]),List.filter_cons_of_neg (by simp[q,h]),d]
   ·rw[if_neg (by simpa using q),List.filter_cons_of_pos (by simpa [←h] using q),List.filter_cons_of_pos (by simpa [←h] using q),d]
theorem find_repl {l:List Sl}{x y:Sl} (d:y∈l) (h:y.num=x.num):find (repl l x) x.num=some x:=by
 unfold find repl
 induction l with
 | nil=>cases d
 | cons z r e=>
   rw[List.map_cons]
   by_cases q:z.num=x.num
   ·rw[if_pos (by simpa using q),List.find?_cons_of_pos (by simp)]
   ·rw[if_neg (by simpa using q),List.find?_cons_of_neg (by simpa using q)]
    rcases List.mem_cons.1 d with rfl|d
    ·exact absurd h q
    ·exact e d
theorem repl_keep {l:List Sl}{x y:Sl} (d:y∈l) (h:¬y.num=x.num):y∈repl l x:=
 List.mem_map.2 ⟨y,d,by rw[if_neg (by simpa using h)]⟩
theorem repl_new {l:List Sl}{x y:Sl} (d:y∈l) (h:y.num=x.num):x∈repl l x:=
 List.mem_map.2 ⟨y,d,by rw[if_pos (by simpa using h)]⟩
theorem repl_mem' {l:List Sl}{x y:Sl} (h:y∈repl l x):y=x∨(y∈l∧¬y.num=x.num):=by
 obtain⟨z,d,rfl⟩:=List.mem_map.1 h
 by_cases q:(z.num==x.num)=true
 ·rw[if_pos q];exact Or.inl rfl
 ·rw[if_neg q];exact Or.inr ⟨d,by simpa using q⟩
theorem repl_abs (s:St) {x y:Sl} (hd:Dist s.slots) (w:y∈s.slots) (h:absS x=absS y):abs {s with slots:=repl s.slots x}=abs s:=by
 unfold abs repl;simp only [List.map_map]
 congr 1
 apply List.map_congr_left
 intro z e;simp only [Function.comp];have d:x.num=y.num:=congrArg Bx.Sl.num h
 by_cases q:(z.num==x.num)=true
 ·rw[if_pos q,h];have:z=y:=hd.mem e w (by rw[←d];simpa using q)
  rw[this]
 ·rw[if_neg q]
theorem filter_set {l:List Sl}{p:Sl→Bool}{i:Nat}{x:Sl} (hi:i<l.length) (h1:p l[i]=false) (h2:p x=true):((l.set i x).filter p).length=(l.filter p).length+1:=by
 induction l generalizing i with
 | nil=>simp at hi
 | cons a r e=>
   cases i with
   | zero=>
     simp only [List.getElem_cons_zero] at h1
     rw[List.set_cons_zero,List.filter_cons_of_pos h2,List.filter_cons_of_neg (by simp[h1])];simp
   | succ i=>
     have d:i<r.length:=by simpa using hi
     have:=e d (by simpa using h1)
     rw[List.set_cons_succ]
     by_cases q:p a=true
     ·rw[List.filter_cons_of_pos q,List.filter_cons_of_pos q];simp[this]
     ·rw[List.filter_cons_of_neg q,List.filter_cons_of_neg q,this]
theorem goF_ans (L:List ByteArray) (c:Int) (n:Nat) (x:Sl):(goF L c n x).1.ans=x.ans∨(goF L c n x).1.ans=c:=by
 induction n generalizing x with
 | zero=>exact Or.inl rfl
 | succ n d=>
   rw[goF]
   split
   ·exact Or.inl rfl
   ·split
    ·exact d {x with step:=x.step+1}
    ·split
     ·exact Or.inl rfl
     ·rcases d {x with step:=x.step+1,heard:=behS x.heard (wordAt L (x.step-1).toNat),ans:=c} with q|q
      ·exact Or.inr q
      ·exact Or.inr q
def heardS (y:Sl) (x:ByteArray):Sl:={y with heard:=y.heard++x}
def talkS (s:St) (y:Sl) (x:ByteArray):Sl×ByteArray:=goF (stepsL s y) s.clock ((stepsL s y).length+1) (heardS y x)
def talkT (s:St) (y:Sl) (x:ByteArray):St:={s with slots:=repl s.slots (talkS s y x).1}
def commitB (b:Bo) (s:St) (fr said:ByteArray):Bo×ByteArray×Int:=
 if b.room<(b.log.size:Int)+fr.size then (b,ByteArray.empty,13) else ({b with st:=s,log:=b.log++fr},said,0)
def talkB (b:Bo) (s:St) (n:Int) (x fr:ByteArray):Bo×ByteArray×Int:=
 match find s.slots n with
 | none=>(b,ByteArray.empty,8)
 | some y=>if y.step≤0 then (b,ByteArray.empty,9)
   else if ((stepsL s y).length:Int)<(talkS s y x).1.step then
    (if ¬(doneP (talkT s y x) n).2=0 then (b,ByteArray.empty,(doneP (talkT s y x) n).2) else commitB b (doneP (talkT s y x) n).1 (fr++Bx.frame (Bx.body (chD n))) (talkS s y x).2)
   else commitB b (talkT s y x) fr (talkS s y x).2
def feedB (b:Bo) (n:Int) (x:ByteArray):Bo×ByteArray×Int:=if 40<x.size then (b,ByteArray.empty,1) else talkB b b.st n x ByteArray.empty
def startB (b:Bo) (n:Int):Bo×ByteArray×Int:=
 if ¬(startP b.st n).2=0 then (b,ByteArray.empty,(startP b.st n).2)
 else if b.limit<((runs (startP b.st n).1:Nat):Int) then (b,ByteArray.empty,12)
 else talkB b (startP b.st n).1 n ByteArray.empty (Bx.frame (Bx.body (chS n)))
theorem done_talk {s:St}{y X:Sl}{n:Int} (w:y∈s.slots) (e:y.num=n) (d:X.num=n) (G:0<X.step):doneP {s with slots:=repl s.slots X} n=(ended s n hD,0):=by
 unfold doneP;have:find (repl s.slots X) n=some X:=by rw[←d];exact find_repl w (by rw[e,d])
 simp only [this]
 rw[if_neg (by omega)]
 unfold ended;simp only [skip_repl s.slots X n d]
theorem steps_size {s:St} (h:Ok s) {y:Sl} (e:y∈s.slots):1≤(stepsL s y).length∧(stepsL s y).length≤5∧∀z∈stepsL s y,2≤z.size∧z.size≤9:=by
 have h1:=h.each e;have d:=h.st.tab.lines.2.2 (y.line-1).toNat (by show _<tn s.tab;omega)
 exact⟨(eW d).1,(eW d).2,iq d⟩
theorem word_size {L:List ByteArray}{a:Nat} (h:a<L.length) (hL:∀z∈L,2≤z.size∧z.size≤9):1≤(wordAt L a).size∧(wordAt L a).size≤8:=by
 have:=hL _ (List.getElem_mem h);rw[←gi h];simp[ByteArray.size_extract];omega
theorem app_list (a b:ByteArray):(a++b).data.toList=a.data.toList++b.data.toList:=by simp[ByteArray.data_append]
theorem size_list (a:ByteArray):a.data.toList.length=a.size:=by simp
end Px
namespace Px
open Bx (En push hA hD hK hS)
theorem Tks.set {s:St}{l:List Bx.Tk} (h:Tks s l) (_hd:Dist s.slots) {y X:Sl}{T:Bx.Tk}{k:Nat} (V:k<l.length) (hy:y∈s.slots) (O:Goes s y l[k]) (hL:Like y X) (hT:T.num=l[k].num) (hs:0<X.step) {a:Nat} (ha:a<(stepsL s y).length) (hR:Rest (stepsL s y) X T a):
 Tks {s with slots:=repl s.slots X} (l.set k T):=by
 have w:X.num=y.num:=hL.1;have eL:∀z,stepsL {s with slots:=repl s.slots X} z=stepsL s z:=fun _=>rfl
 have eX:stepsL s X=stepsL s y:=by unfold stepsL;rw[hL.2.1]
 refine⟨?_,?_,?_⟩
 ·rw[List.pairwise_iff_getElem];intro i j hi J ac;have U:i<l.length:=by simpa using hi
  have d:j<l.length:=by simpa using J
  have Y:=List.pairwise_iff_getElem.1 h.dist i j U d ac
  have num:∀(m:Nat) (hm:m<l.length),((l.set k T)[m]'(by simpa using hm)).num=l[m].num:=by
   intro m hm
   by_cases q:k=m
   ·subst q;simp[hT]
   ·rw[List.getElem_set_ne q]
  rw[num i U,num j d];exact Y
 ·intro t Z;obtain⟨j,J,rfl⟩:=List.mem_iff_getElem.1 Z;have d:j<l.length:=by simpa using J
  by_cases q:k=j
  ·subst q;refine⟨X,repl_new hy w.symm,?_⟩;rw[List.getElem_set_self];exact⟨by rw[hT,O.1,w],hs,a,by rw[eL,eX];exact ha,by rw[eL,eX];exact hR⟩
  ·rw[List.getElem_set_ne q];obtain⟨x,G,Q⟩:=h.of _ (List.getElem_mem d)
   have I:¬x.num=X.num:=by
    rw[w,←Q.1,←O.1];intro e
    rcases Nat.lt_or_gt_of_ne q with c|c
    ·exact List.pairwise_iff_getElem.1 h.dist k j V d c e.symm
    ·exact List.pairwise_iff_getElem.1 h.dist j k d V c e
   exact⟨x,repl_keep G I,Q⟩
 ·intro x G ae
  rcases repl_mem' G with rfl|⟨G,I⟩
  ·exact⟨T,List.mem_iff_getElem.2 ⟨k,by simpa using V,by simp⟩,by rw[hT,O.1,w]⟩
  ·obtain⟨t,Z,hn⟩:=h.all x G ae;obtain⟨j,J,rfl⟩:=List.mem_iff_getElem.1 Z
   have q:¬k=j:=by
    intro q;subst q;exact I (by rw[←hn,O.1,w])
   exact⟨l[j],List.mem_iff_getElem.2 ⟨j,by simpa using J,by rw[List.getElem_set_ne q]⟩,hn⟩
theorem rest_heard {L:List ByteArray}{x:Sl}{t:Bx.Tk}{a:Nat} (h:Rest L x t a) (d:a<L.length) (hL:∀z∈L,2≤z.size∧z.size≤9):x.heard.size≤7:=by
 obtain⟨_,_,e⟩:=h.hear d;have:=word_size d hL;rw[←size_list,e,lastN,List.length_drop];omega
theorem feed_rel {b:Bo}{d:Bx.Bo} (h:Rel b d) (n:Int) (x:ByteArray):(feedB b n x).2=(feedP d n x).2∧Rel (feedB b n x).1 (feedP d n x).1:=by
 unfold feedB feedP
 by_cases I:40<x.size
 ·rw[if_pos I,if_pos I];exact⟨rfl,h⟩
 rw[if_neg I,if_neg I];unfold talkB
 cases hF:find b.st.slots n with
 | none=>
   have:=find_none hF;rw[←h.now] at this;rw[if_pos (by omega)];exact⟨rfl,h⟩
 | some y=>
   obtain⟨i,hi,af,Z,ae⟩:=find_some h.ok.dist hF;have O:y∈b.st.slots:=by rw[←af];exact List.getElem_mem hi
   rw[←h.now] at ae;rw[if_neg (by omega)]
   obtain⟨t1,t2⟩:=h.tks.talk h.ok.dist O;rw[Z] at t1 t2;simp only
   by_cases hs:y.step≤0
   ·rw[if_pos hs,if_pos (by rw[t2 hs];omega)];exact⟨rfl,h⟩
   rw[if_neg hs];obtain⟨k,hk,ad,hg⟩:=t1 (by omega)
   obtain⟨a,ha,hR⟩:=hg.2.2;rw[ad,if_neg (show ¬(k:Int)<0 by omega)]
   have eL:startL d n=stepsL b.st y:=by
    unfold startL stepsS stepsL;rw[ae,h.now];simp only [Int.toNat_natCast];rw[slAt_abs hi,af];rfl
   have eH:feedH d n x=hearF (stepsL b.st y) b.st.clock (stepsL b.st y).length (more d.talks[k] x):=by
    unfold feedH;rw[eL,ad];have:tkAt d ((k:Int)).toNat=d.talks[k]:=by simp[tkAt,hk]
    rw[this,h.now];rfl
   obtain⟨_,s5,sz⟩:=steps_size h.ok O;obtain⟨q1,q2,q3⟩:=hR.hear ha;have hw:=word_size ha sz
   obtain⟨r1,⟨a',w⟩,Y,r4⟩:=hear_same (stepsL b.st y) b.st.clock _ a (stepsL b.st y).length ((stepsL b.st y).length+1) (heardS y x) (more d.talks[k] x) rfl (by omega) (by omega) hR.at' hR.le hR.step hR.ans
    (fun _=>⟨q1,by
     show behL _ (y.heard++x).data.toList=behL _ (d.talks[k].heard++x).data.toList
     rw[app_list,app_list,q3,←size_list]
     exact rb _ _ _ (by rw[size_list];omega) q2,fun _=>by
     show lastN _ (y.heard++x).data.toList=lastN _ (d.talks[k].heard++x).data.toList
     rw[app_list,app_list,q3,pu]⟩)
   have eT:talkS b.st y x=goF (stepsL b.st y) b.st.clock ((stepsL b.st y).length+1) (heardS y x):=rfl;rw[←eT] at r1 w Y;rw[←eH] at r1 w r4;have au:(talkS b.st y x).1.num=n:=by rw[←Z];exact Y.1
   have U:0<(talkS b.st y x).1.step:=by rw[w.step];omega
   rw[eL]
   by_cases ho:((stepsL b.st y).length:Int)<(talkS b.st y x).1.step
   ·have Q:((stepsL b.st y).length:Int)≤(feedH d n x).1.at':=by rw[w.at'];rw[w.step] at ho;omega
    rw[if_pos ho,if_pos Q];have ak:doneP (talkT b.st y x) n=(ended b.st n hD,0):=done_talk O Z au U;rw[ak];simp only [not_true,if_false];unfold commitB;have al:ByteArray.empty++Bx.frame (Bx.body (chD n))=Bx.frames [chD n]:=by rw[frames_one,ba_nil_app]
    rw[al,h.room,h.txt]
    by_cases G:b.room<(b.log.size:Int)+(Bx.frames [chD n]).size
    ·rw[if_pos G,if_pos G];exact⟨rfl,h⟩
    ·rw[if_neg G,if_neg G]
     have ah:Bx.aboutP (abs b.st) 68 n=(abs (ended b.st n hD),true):=by
      have e:doneP b.st n=(ended b.st n hD,0):=by unfold doneP;rw[hF];simp only;rw[if_neg hs]
      rcases done_abs h.ok.dist n h.ok.num1 with ⟨q,_⟩|⟨q,_⟩|⟨_,q⟩
      ·rw[e] at q;cases q
      ·rw[e] at q;cases q
      ·rw[e] at q;exact q
     have hT:Bx.told d.now [chD n]=abs (ended b.st n hD):=by
      rw[told_one,h.now];exact tell_about (by omega) (by omega) ah
     have J:Ok (ended b.st n hD):=by
      refine h.ok.skip _ _ ?_;have:=Bx.about_ok h.ok.st 68 n;rw[ah] at this;exact this
     refine⟨by rw[r1],h.lim,h.room,hT,by simp[addB,h.txt],?_,J,h.l1,h.l4,h.r0,h.r1,?_⟩
     ·show Tks (ended b.st n hD) (hushL (Bx.told d.now [chD n]) d.talks)
      rw[hT];exact h.tks.hush h.ok.dist J.dist rfl (fun z hz _=>(List.mem_filter.1 hz).1)
     ·simp[ByteArray.size_append] at G ⊢;omega
   ·have Q:¬((stepsL b.st y).length:Int)≤(feedH d n x).1.at':=by rw[w.at'];rw[w.step] at ho;omega
    rw[if_neg ho,if_neg Q];have ag:a'<(stepsL b.st y).length:=by have:=w.step;omega
    unfold commitB;have G:¬b.room<(b.log.size:Int)+ByteArray.empty.size:=by have:=h.log;show ¬_<_+((0:Nat):Int);omega
    rw[if_neg G]
    have aa:abs (talkT b.st y x)=abs b.st:=by
     refine repl_abs b.st h.ok.dist O ?_;obtain⟨l1,l2,l3,l4,l5⟩:=Y;unfold absS;have e1:(talkS b.st y x).1.num=y.num:=l1;have e2:(talkS b.st y x).1.line=y.line:=l2;have e3:(talkS b.st y x).1.minute=y.minute:=l3;have e4:(talkS b.st y x).1.att=y.att:=l4;have e5:(talkS b.st y x).1.frm=y.frm:=l5;rw[e1,e2,e3,e4,e5,decide_eq_true U,decide_eq_true (by omega:0<y.step)]
    have aQ:=h.ok.ex y O;have V:(talkS b.st y x).1.ans=y.ans∨(talkS b.st y x).1.ans=b.st.clock:=goF_ans _ _ _ _;have aP: -1≤b.st.clock:=h.ok.st.c1;have aO:b.st.clock≤4223371679:=h.ok.st.c2
    have J:Ok (talkT b.st y x):=by
     refine h.ok.repl _ (by show Bx.StOk (abs (talkT b.st y x));rw[aa];exact h.ok.st) ⟨?_,?_,by omega,by have:=w.step;have el:(talkS b.st y x).1.line=y.line:=Y.2.1;rw[el];show _≤((stepsL b.st y).length:Int);omega,?_,fun q=>by omega⟩
     ·rcases V with q|q<;>omega
     ·rcases V with q|q<;>omega
     ·have:=rest_heard w ag sz;omega
    have ax:Like y (talkS b.st y x).1:=Like.trans (⟨rfl,rfl,rfl,rfl,rfl⟩:Like y (heardS y x)) Y;refine⟨by rw[r1],h.lim,h.room,by show d.now=abs (talkT b.st y x);rw[aa];exact h.now,by simp[h.txt],?_,J,h.l1,h.l4,h.r0,h.r1,by simpa using h.log⟩
    show Tks (talkT b.st y x) (d.talks.set ((k:Int)).toNat (feedH d n x).1)
    rw[Int.toNat_natCast];exact h.tks.set h.ok.dist hk O hg ax r4 U ag w
end Px
namespace Px
open Bx (En push hA hD hK hS)
theorem behL_nil {w:List UInt8} (h:0<w.length):behL w []=none:=gE (by simpa using h)
theorem go_start (L:List ByteArray) (c:Int) (x:Sl) (Q:x.step=1) (w:x.heard=ByteArray.empty) (sz:∀z∈L,2≤z.size∧z.size≤9):
 (goF L c (L.length+1) x)=({x with step:=(((saysL L).2:Nat):Int)+1},(saysL L).1):=by
 obtain⟨I,h1,h2⟩:=goF_says L c L.length 0 (L.length+1) x rfl (by omega) (by rw[Q];rfl) (by omega)
 rw[List.drop_zero,Nat.zero_add] at h2;rw[List.drop_zero] at h1;have V:=saysL_le L;obtain⟨d,rfl⟩:∃k,I=k+1:=⟨I-1,by omega⟩
 rw[h2]
 have G:goF L c (d+1) {x with step:=(((saysL L).2:Nat):Int)+1}=({x with step:=(((saysL L).2:Nat):Int)+1},ByteArray.empty):=by
  by_cases q:(saysL L).2<L.length
  ·rw[goF];have O:((((saysL L).2:Nat):Int)+1-1).toNat=(saysL L).2:=by omega
   have U:L.getD (saysL L).2 ByteArray.empty=L[(saysL L).2]:=by simp[q]
   have J:=saysL_stop L q;simp only [O,U,J];rw[if_neg (by omega),if_neg (by simp)]
   have hb:behB x.heard (wordAt L (saysL L).2)=false:=by
    unfold behB;rw[w];have:=word_size q sz;have e:ByteArray.empty.data.toList=[]:=rfl;rw[e,behL_nil (by rw[size_list];omega)];rfl
   rw[if_pos hb]
   have:lastB x.heard ((wordAt L (saysL L).2).size-1)=x.heard:=by
    rw[w];unfold lastB;rw[if_neg (by show ¬_<0;omega)]
   rw[this]
  ·rw[goF,if_pos (by show (L.length:Int)<_;simp only;omega)]
 rw[G,ba_app_nil]
theorem runs_repl {s:St} (hd:Dist s.slots) {i:Nat} (hi:i<s.slots.length) (w:s.slots[i].step≤0) {X:Sl} (d:X.num=s.slots[i].num) (e:0<X.step):runs {s with slots:=repl s.slots X}=runs s+1:=by
 unfold runs;simp only;rw[repl_set hd hi X d];exact filter_set hi (by simp;omega) (by simpa using e)
set_option maxHeartbeats 0 in
theorem start_rel {b:Bo}{d:Bx.Bo} (h:Rel b d) (n:Int):(startB b n).2=(Go.Proofs.YtdajolpoiffimabGreatDoor.startP d n).2∧Rel (startB b n).1 (Go.Proofs.YtdajolpoiffimabGreatDoor.startP d n).1:=by
 unfold startB Go.Proofs.YtdajolpoiffimabGreatDoor.startP;have w:=h.now
 rcases start_abs h.ok.dist n with ⟨e8,hf⟩|⟨i,hi,hF,hn,hc⟩
 ·have er:refusedP d (Bx.find d.now n)=8:=by unfold refusedP;rw[w,if_pos hf]
  rw[if_pos (by omega),er,if_pos (by omega),e8];exact⟨rfl,h⟩
 have ac:Bx.find d.now n=i:=by rw[w];exact hF
 have Y:Bx.slAt d.now ((i:Int)).toNat=absS b.st.slots[i]:=by rw[w,Int.toNat_natCast,slAt_abs hi]
 have af:d.now.clock=b.st.clock:=by rw[w];rfl
 have ar:(absS b.st.slots[i]).frm=b.st.slots[i].frm:=rfl
 rcases hc with ⟨e,q⟩|⟨e,q1,q2⟩|⟨e,q1,q2,q3⟩|⟨e,q1,q2,q3,V,q5⟩
 ·have er:refusedP d (Bx.find d.now n)=9:=by
   unfold refusedP;rw[ac,if_neg (by omega),Y,if_pos (by simpa [absS] using q)]
  rw[if_pos (by omega),er,if_pos (by omega),e];exact⟨rfl,h⟩
 ·have er:refusedP d (Bx.find d.now n)=10:=by
   unfold refusedP;rw[ac,if_neg (by omega),Y,if_neg (by simp[absS];omega),af,ar,if_pos q2]
  rw[if_pos (by omega),er,if_pos (by omega),e];exact⟨rfl,h⟩
 ·have er:refusedP d (Bx.find d.now n)=11:=by
   unfold refusedP;rw[ac,if_neg (by omega),Y,if_neg (by simp[absS];omega),af,ar,if_neg q2,Int.toNat_natCast,w,lock_abs hi q1,if_pos q3]
  rw[if_pos (by omega),er,if_pos (by omega),e];exact⟨rfl,h⟩
 have ah:refusedP d (Bx.find d.now n)=if b.limit≤(runs b.st:Int) then 12 else 0:=by
  unfold refusedP;rw[ac,if_neg (by omega),Y,if_neg (by simp[absS];omega),af,ar,if_neg q2,Int.toNat_natCast,w,lock_abs hi q1,if_neg (by simp[q3]),runs_abs,h.lim]
 have aC:runs (startP b.st n).1=runs b.st+1:=by rw[V];exact runs_repl h.ok.dist hi q1 rfl (by show (0:Int)<1;omega)
 rw[if_neg (by omega),aC]
 by_cases ay:b.limit≤(runs b.st:Int)
 ·rw[if_pos ay] at ah;rw[if_pos (by omega),ah,if_pos (by omega)];exact⟨rfl,h⟩
 rw[if_neg ay] at ah;rw[if_neg (by omega),if_neg (by rw[ah];simp)]
 have Z:b.st.slots[i]∈b.st.slots:=List.getElem_mem hi;generalize aX:b.st.slots[i]=y at *;have aO:=h.ok.ex y Z;have aA:y.heard=ByteArray.empty:=aO.2.2.2.2.2 (by omega)
 obtain⟨s1,s5,sz⟩:=steps_size h.ok Z
 have eL:startL d n=stepsL b.st y:=by
  unfold startL stepsS stepsL;rw[ac,Y,h.now];rfl
 have aM:find (startP b.st n).1.slots n=some (beg b.st y):=by
  rw[V];have aF:(beg b.st y).num=n:=hn;rw[←aF];exact find_repl Z rfl
 have aw:stepsL (startP b.st n).1 (beg b.st y)=stepsL b.st y:=by rw[V];rfl
 have aJ:(startP b.st n).1.clock=b.st.clock:=by rw[V]
 have hT:talkS (startP b.st n).1 (beg b.st y) ByteArray.empty=({beg b.st y with step:=(((saysL (stepsL b.st y)).2:Nat):Int)+1},(saysL (stepsL b.st y)).1):=by
  unfold talkS;rw[aw,aJ]
  have:heardS (beg b.st y) ByteArray.empty=beg b.st y:=by
   unfold heardS;rw[ba_app_nil]
  rw[this];exact go_start _ _ _ rfl aA sz
 unfold talkB;rw[aM];simp only;rw[if_neg (show ¬(beg b.st y).step≤0 by show ¬(1:Int)≤0;omega),aw,hT,eL]
 have hk:=saysL_le (stepsL b.st y)
 have az:talkT (startP b.st n).1 (beg b.st y) ByteArray.empty={b.st with slots:=repl b.st.slots {beg b.st y with step:=(((saysL (stepsL b.st y)).2:Nat):Int)+1}}:=by
  unfold talkT;rw[hT,V];have rr:=repl_repl b.st.slots (beg b.st y) {beg b.st y with step:=(((saysL (stepsL b.st y)).2:Nat):Int)+1} rfl;simp only;rw[rr]
 have hS:Bx.tell d.now (chS n)=abs (startP b.st n).1:=by rw[w];exact tell_about (by omega) (by omega) q5
 have J:Ok (startP b.st n).1:=by
  have ax:Bx.StOk (abs (startP b.st n).1):=by
   have:=Bx.about_ok h.ok.st 83 n;rw[q5] at this;exact this
  rw[V] at ax ⊢;exact h.ok.repl _ ax ⟨h.ok.st.c1,h.ok.st.c2,by show (0:Int)≤1;omega,by show (1:Int)≤((stepsL b.st y).length:Int);omega,by show y.heard.size≤8;omega,fun q=>by simp[beg] at q⟩
 have au:∀t∈d.talks,∃x∈b.st.slots,¬x.num=n∧Goes b.st x t:=by
  intro t G;obtain⟨x,I,hg⟩:=h.tks.of t G;refine⟨x,I,?_,hg⟩;intro e';have:x=y:=h.ok.dist.mem I Z (by rw[e',hn])
  subst this;have:=hg.2.1;omega
 by_cases ho:(saysL (stepsL b.st y)).2=(stepsL b.st y).length
 ·rw[if_pos (show ((stepsL b.st y).length:Int)<((saysL (stepsL b.st y)).2:Int)+1 by omega)]
  have aI:doneP (talkT (startP b.st n).1 (beg b.st y) ByteArray.empty) n=(ended b.st n hD,0):=by
   rw[az];exact done_talk Z hn hn (by simp only;omega)
  rw[aI];simp only [not_true,if_false];have eC:startC (stepsL b.st y) n=[chS n]++[chD n]:=by unfold startC;rw[if_pos ho]
  have al:Bx.frame (Bx.body (chS n))++Bx.frame (Bx.body (chD n))=Bx.frames (startC (stepsL b.st y) n):=by rw[eC];simp[Bx.frames]
  unfold commitB;rw[al,h.room,h.txt]
  by_cases Q:b.room<(b.log.size:Int)+(Bx.frames (startC (stepsL b.st y) n)).size
  ·rw[if_pos Q,if_pos Q];exact⟨rfl,h⟩
  ·rw[if_neg Q,if_neg Q]
   have aB:Bx.aboutP (abs (startP b.st n).1) 68 n=(abs (ended b.st n hD),true):=by
    have e':doneP (startP b.st n).1 n=(ended b.st n hD,0):=by
     rw[V];exact done_talk Z hn hn (by show (0:Int)<1;omega)
    rcases done_abs J.dist n J.num1 with ⟨q,_⟩|⟨q,_⟩|⟨_,q⟩
    ·rw[e'] at q;cases q
    ·rw[e'] at q;cases q
    ·rw[e'] at q;exact q
   have ao:Bx.told d.now (startC (stepsL b.st y) n)=abs (ended b.st n hD):=by
    rw[eC]
    show Bx.tell (Bx.tell d.now (chS n)) (chD n)=_
    rw[hS];exact tell_about (by omega) (by omega) aB
   have am:Ok (ended b.st n hD):=by
    refine h.ok.skip _ _ ?_;have:=Bx.about_ok J.st 68 n;rw[aB] at this;exact this
   refine⟨rfl,h.lim,h.room,ao,by simp[addB,h.txt],?_,am,h.l1,h.l4,h.r0,h.r1,?_⟩
   ·show Tks (ended b.st n hD) (if (saysL (stepsL b.st y)).2<(stepsL b.st y).length then _ else d.talks)
    rw[if_neg (by omega)]
    refine⟨h.tks.dist,fun t G=>?_,fun x I aq=>h.tks.all x (List.mem_filter.1 I).1 aq⟩
    obtain⟨x,I,U,hg⟩:=au t G;exact⟨x,List.mem_filter.2 ⟨I,by simpa using U⟩,hg⟩
   ·simp[ByteArray.size_append] at Q ⊢;omega
 ·have ag:(saysL (stepsL b.st y)).2<(stepsL b.st y).length:=by omega
  rw[if_neg (show ¬((stepsL b.st y).length:Int)<((saysL (stepsL b.st y)).2:Int)+1 by omega),az]
  have eC:startC (stepsL b.st y) n=[chS n]:=by unfold startC;rw[if_neg ho]
  have al:Bx.frame (Bx.body (chS n))=Bx.frames (startC (stepsL b.st y) n):=by rw[eC,frames_one]
  unfold commitB;rw[al,h.room,h.txt]
  by_cases Q:b.room<(b.log.size:Int)+(Bx.frames (startC (stepsL b.st y) n)).size
  ·rw[if_pos Q,if_pos Q];exact⟨rfl,h⟩
  ·rw[if_neg Q,if_neg Q];generalize O:({beg b.st y with step:=(((saysL (stepsL b.st y)).2:Nat):Int)+1}:Sl)=X;have ai:X.num=n:=by rw[←O];exact hn
   have aG:X.step=(((saysL (stepsL b.st y)).2:Nat):Int)+1:=by rw[←O]
   have av:abs {b.st with slots:=repl b.st.slots X}=abs (startP b.st n).1:=by
    rw[V];have hm:beg b.st y∈(repl b.st.slots (beg b.st y)):=repl_new Z rfl
    have:=repl_abs {b.st with slots:=repl b.st.slots (beg b.st y)} (x:=X) (y:=beg b.st y) (by have:=J.dist;rw[V] at this;exact this) hm (by
     rw[←O];unfold absS beg;simp only
     rw[decide_eq_true (by omega),decide_eq_true (by omega)])
    simp only at this
    rw[repl_repl b.st.slots (beg b.st y) X (by rw[←O])] at this
    exact this
   have ao:Bx.told d.now (startC (stepsL b.st y) n)=abs {b.st with slots:=repl b.st.slots X}:=by
    rw[eC,told_one,hS,av]
   have am:Ok {b.st with slots:=repl b.st.slots X}:=by
    refine h.ok.repl _ (by rw[av];exact J.st) ⟨?_,?_,by omega,(by have el:X.line=y.line:=(by rw[←O];rfl);rw[el];show _≤((stepsL b.st y).length:Int);omega),?_,fun q=>by omega⟩
    ·rw[←O];exact h.ok.st.c1
    ·rw[←O];exact h.ok.st.c2
    ·rw[←O];show y.heard.size≤8;omega
   refine⟨rfl,h.lim,h.room,ao,by simp[addB,h.txt],?_,am,h.l1,h.l4,h.r0,h.r1,?_⟩
   ·show Tks {b.st with slots:=repl b.st.slots X} (if (saysL (stepsL b.st y)).2<(stepsL b.st y).length then d.talks++[⟨n,((saysL (stepsL b.st y)).2:Nat),d.now.clock,{data:= #[]}⟩] else d.talks)
    rw[if_pos ag,af];have eX:stepsL {b.st with slots:=repl b.st.slots X} X=stepsL b.st y:=by rw[←O];rfl
    have aE:Goes {b.st with slots:=repl b.st.slots X} X ⟨n,((saysL (stepsL b.st y)).2:Nat),b.st.clock,{data:= #[]}⟩:=by
     refine⟨ai.symm,by omega,(saysL (stepsL b.st y)).2,by rw[eX];exact ag,?_⟩
     rw[eX];have aY:=word_size ag sz;refine⟨rfl,by omega,aG,by rw[←O];rfl,fun _=>⟨saysL_stop _ ag,behL_nil (by rw[size_list];omega),?_⟩⟩
     rw[←O]
     show y.heard.data.toList=_
     rw[aA]
     show ([]:List UInt8)=lastN _ []
     simp[lastN]
    refine⟨?_,?_,?_⟩
    ·rw[List.pairwise_append];refine⟨h.tks.dist,by simp,fun t G u hu=>?_⟩
     obtain⟨x,I,U,hg⟩:=au t G;simp at hu;subst hu;rw[hg.1];exact U
    ·intro t G
     rcases List.mem_append.1 G with G|G
     ·obtain⟨x,I,U,hg⟩:=au t G;exact⟨x,repl_keep I (by rw[ai];exact U),hg⟩
     ·simp at G;subst G
      exact⟨X,repl_new Z (by rw[ai];exact hn),aE⟩
    ·intro x I aq
     rcases repl_mem' I with rfl|⟨I,U⟩
     ·exact⟨_,List.mem_append.2 (Or.inr (List.mem_singleton.2 rfl)),ai.symm⟩
     ·obtain⟨t,G,e'⟩:=h.tks.all x I aq;exact⟨t,List.mem_append.2 (Or.inl G),e'⟩
   ·simp[ByteArray.size_append] at Q ⊢;omega
end Px
namespace Px
theorem inj_len {α:Type}:∀(l m:List α),l.Pairwise (·≠·)→(∀x∈l,x∈m)→l.length≤m.length:=by
 intro l
 induction l with
 | nil=>intro m _ _;simp
 | cons a r J=>
   intro m I G;obtain⟨m1,m2,rfl⟩:=List.append_of_mem (G a (by simp))
   have d:=List.pairwise_cons.1 I
   have:=J (m1++m2) d.2 (fun x w=>by
    have h1:=G x (by simp[w])
    have h2:x≠a:=fun e=>d.1 x w e.symm
    simp only [List.mem_append,List.mem_cons] at h1 ⊢
    rcases h1 with h|h|h
    ·exact Or.inl h
    ·exact absurd h h2
    ·exact Or.inr h)
   simp only [List.length_append,List.length_cons] at this ⊢
   omega
theorem Rel.len {b:Bo}{d:Bx.Bo} (h:Rel b d):d.talks.length≤8:=by
 have h1:=inj_len (d.talks.map (·.num)) (b.st.slots.map (·.num)) (List.pairwise_map.2 h.tks.dist) (fun n e=>by
  obtain⟨t,I,rfl⟩:=List.mem_map.1 e;obtain⟨x,G,w⟩:=h.tks.of t I
  exact List.mem_map.2 ⟨x,G,w.1.symm⟩)
 have:=h.ok.len;simp only [List.length_map] at h1;omega
theorem Rel.boOk {b:Bo}{d:Bx.Bo} (h:Rel b d):BoOk d:=by
 refine⟨?_,?_,?_,?_,?_⟩
 ·rw[h.now];exact h.ok.st
 ·rw[h.txt];have:=h.log;have:=h.r1;omega
 ·have:=h.len;omega
 ·intro t G;obtain⟨x,e,_,_,a,_,w⟩:=h.tks.of t G;have:=h.ok.ex x e;rw[←w.ans];exact⟨this.1,this.2.1⟩
 ·intro t G;obtain⟨x,e,_,_,a,I,w⟩:=h.tks.of t G;have:=(steps_size h.ok e).2.1;rw[w.at'];omega
theorem Rel.ends {b:Bo}{d:Bx.Bo} (h:Rel b d):d.now.ends=b.st.ends:=by rw[h.now];rfl
theorem Rel.slen {b:Bo}{d:Bx.Bo} (h:Rel b d):d.now.slots.length=b.st.slots.length:=by rw[h.now];simp[abs]
theorem Rel.at_le {b:Bo}{d:Bx.Bo} (h:Rel b d) (n:Int) (w:¬talkOf d.talks n<0):(tkAt d (talkOf d.talks n).toNat).at'≤(startL d n).length:=by
 have I:∃k:Nat,∃G:k<d.talks.length,talkOf d.talks n=k∧d.talks[k].num=n:=by
  unfold talkOf at w ⊢
  cases q:d.talks.findIdx? (fun t=>t.num==n) with
  | none=>rw[q] at w;simp at w
  | some i=>
    obtain⟨hi,he,_⟩:=List.findIdx?_eq_some_iff_getElem.1 q;exact⟨i,hi,rfl,by simpa using he⟩
 obtain⟨k,G,e,Z⟩:=I;rw[e,Int.toNat_natCast,←eA d k G];obtain⟨x,Y,hg,_,a,ha,Q⟩:=h.tks.of _ (List.getElem_mem G);have J:x.num=n:=by rw[←hg,Z]
 have V:find b.st.slots n=some x:=by rw[←J];exact find_mem h.ok.dist Y
 obtain⟨i,hi,rfl,U,O⟩:=find_some h.ok.dist V
 have eL:startL d n=stepsL b.st b.st.slots[i]:=by
  unfold startL stepsS stepsL;rw[h.now,O,Int.toNat_natCast,slAt_abs hi];rfl
 rw[eL,Q.at'];have:=Q.le;omega
theorem Rel.step {b:Bo}{d:Bx.Bo} (h:Rel b d) {x:Sl} (w:x∈b.st.slots):(if 0≤talkOf d.talks x.num then (tkAt d (talkOf d.talks x.num).toNat).at'+1 else 0)=x.step:=by
 obtain⟨h1,h2⟩:=h.tks.talk h.ok.dist w
 by_cases q:0<x.step
 ·obtain⟨k,I,e,J⟩:=h1 q;obtain⟨_,_,a,_,G⟩:=J;rw[e,if_pos (by omega),Int.toNat_natCast,←eA d k I,G.at',G.step]
 ·rw[h2 (by omega),if_neg (by omega)]
  have:=(h.ok.ex x w).2.2.1;omega
theorem Rel.sl {b:Bo}{d:Bx.Bo} (h:Rel b d) {k:Nat} (e:k<b.st.slots.length):Bx.slAt d.now k=absS b.st.slots[k]:=by rw[h.now,slAt_abs e]
def HMax (d:Bx.Bo) (N:Nat):Prop:=(∀t∈d.talks,t.heard.size≤N)∧Bx.MayS d.now
theorem HMax.mono {d:Bx.Bo}{N M:Nat} (h:HMax d N) (e:N≤M):HMax d M:=⟨fun t w=>Nat.le_trans (h.1 t w) e,h.2⟩
theorem hush_mem {s:Bx.St}{l:List Bx.Tk}{t:Bx.Tk} (h:t∈hushL s l):t∈l:=(List.mem_filter.1 h).1
theorem HMax.load {d e:Bx.Bo}{N:Nat}{tab:ByteArray}{a r:Int} (h:HMax d N) (w:LoadR d tab e a r):HMax e N:=by
 have:e.talks=d.talks:=by
  rcases w with ⟨_,_,rfl⟩|⟨_,_,rfl,_⟩|⟨_,_,_,rfl,_⟩|⟨_,_,_,rfl,_⟩<;>rfl
 refine⟨fun t G=>by rw[this] at G;exact h.1 t G,?_⟩
 rcases w with ⟨_,_,rfl⟩|⟨_,_,rfl,_⟩|⟨_,_,_,rfl,_⟩|⟨_,_,_,rfl,_⟩
 all_goals first |exact h.2|exact h.2.told _
theorem HMax.tick {d:Bx.Bo}{N:Nat} (h:HMax d N) (m:Int):HMax (tickP d m).1 N:=by
 unfold tickP
 repeat' split
 all_goals first |exact h|exact⟨fun t e=>h.1 t (hush_mem e),h.2.told _⟩|exact⟨fun t e=>h.1 t (hush_mem e),(h.2.told _).told _⟩
theorem HMax.cancel {d:Bx.Bo}{N:Nat} (h:HMax d N) (n:Int):HMax (Go.Proofs.YtdajolpoiffimabGreatDoor.cancelP d n).1 N:=by
 unfold Go.Proofs.YtdajolpoiffimabGreatDoor.cancelP
 repeat' split
 all_goals first |exact h|exact⟨fun t e=>h.1 t (hush_mem e),h.2.told _⟩|exact⟨fun t e=>h.1 t (hush_mem e),(h.2.told _).told _⟩
theorem HMax.start {d:Bx.Bo}{N:Nat} (h:HMax d N) (n:Int):HMax (Go.Proofs.YtdajolpoiffimabGreatDoor.startP d n).1 N:=by
 unfold Go.Proofs.YtdajolpoiffimabGreatDoor.startP
 repeat' split
 all_goals first
  | exact h
  | exact⟨fun t e=>h.1 t e,h.2.told _⟩
  | (refine⟨fun t e=>?_,h.2.told _⟩
     rcases List.mem_append.1 e with q|q
     ·exact h.1 t q
     ·have:t=_:=List.mem_singleton.1 q
      subst this;show (0:Nat)≤N;omega)
theorem hearF_heard (L:List ByteArray) (c:Int) (n:Nat):∀t:Bx.Tk,(hearF L c n t).1.heard.size≤t.heard.size:=by
 induction n with
 | zero=>intro t;exact Nat.le_refl _
 | succ n d=>
   intro t;rw[hearF]
   split
   ·exact Nat.le_refl _
   ·split
    ·exact Nat.le_refl _
    ·exact Nat.le_trans (d _) (gV _ _)
theorem HMax.feed {d:Bx.Bo}{N:Nat} (h:HMax d N) (n:Int) (x:ByteArray):HMax (feedP d n x).1 (N+40):=by
 have e:HMax d (N+40):=h.mono (by omega)
 unfold feedP
 by_cases w:40<x.size
 ·rw[if_pos w];exact e
 rw[if_neg w]
 repeat' split
 all_goals first
  | exact e
  | exact⟨fun t G=>e.1 t (hush_mem G),e.2.told _⟩
  | (refine⟨fun t G=>?_,e.2⟩
     rcases List.mem_or_eq_of_mem_set G with q|q
     ·exact e.1 t q
     ·subst q;have h1:=hearF_heard (startL d n) d.now.clock (startL d n).length (more (tkAt d (talkOf d.talks n).toNat) x)
      have h2:(tkAt d (talkOf d.talks n).toNat).heard.size≤N:=by
       unfold tkAt
       by_cases q:(talkOf d.talks n).toNat<d.talks.length
       ·rw[List.getD_eq_getElem?_getD,List.getElem?_eq_getElem q];exact h.1 _ (List.getElem_mem q)
       ·rw[List.getD_eq_getElem?_getD,List.getElem?_eq_none (by omega)];exact Nat.zero_le _
      have I:(more (tkAt d (talkOf d.talks n).toNat) x).heard.size=(tkAt d (talkOf d.talks n).toNat).heard.size+x.size:=by unfold more;exact ByteArray.size_append ..
      show (feedH d n x).1.heard.size≤N+40
      unfold feedH
      omega)
end Px
namespace Px
end Px
namespace Px
theorem Rel.new {l r:Int} (h:mayB l r=true):Rel ⟨l,r,first,ByteArray.empty⟩ ⟨l,r,Bx.first,ByteArray.empty,[]⟩:=by
 obtain⟨h1,h2,w,e⟩:=of_decide_eq_true h;refine⟨rfl,rfl,rfl,rfl,⟨List.Pairwise.nil,fun t G=>by simp at G,fun x d=>by simp[first] at d⟩,⟨Bx.first_ok,List.Pairwise.nil,fun x d=>by simp[first] at d⟩,h1,h2,w,e,?_⟩
 show ((0:Nat):Int)≤r;omega
end Px
end Go.Proofs.YtdajolpoiffimabGreatDoor
