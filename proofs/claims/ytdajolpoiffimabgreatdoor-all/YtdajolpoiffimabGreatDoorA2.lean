import Derived.Laws.Strings
import Derived.WalkKit
import Derived.Test.YtdajolpoiffimabGreatDoorRows
import Derived.WalkSpells
import Derived.WalkLawsBesides
import Derived.Deep.QuietTactic
import Derived.BigQuiet
import Derived.Deep.AppendLies
import Derived.Laws.BytesArg
import Derived.Test.YtdajolpoiffimabGreatDoorA1

namespace Go.Proofs.YtdajolpoiffimabGreatDoor
def pt (s:ByteArray) (i:Nat):ByteArray:=(Txt.pcs 32 s).getD i ByteArray.empty
theorem eM {s:ByteArray} {i:Nat} (h:i<(Txt.pcs 32 s).length):(Txt.pcs 32 s)[i]=pt s i:=by simp[pt,h]
def lo (i:Int):Int:=if i=2∨i=3 then 1 else 0
def hi (i:Int):Int:=if i=0 then 59 else if i=1 then 23 else if i=2 then 31 else if i=3 then 12 else 6
theorem ge (i:Int):0≤lo i∧lo i≤1∧6≤hi i∧hi i≤59:=by
 unfold lo hi;repeat' split
 all_goals omega
theorem jx {s:ByteArray} {k:Nat} (I:s.size≤k) (h2:2≤s.size) (w:s.size≤9) (h0:0<s.size) (e:((s[0].toNat:Int)=62∨(s[0].toNat:Int)=60)) (G:∀j (d:j<s.size),1≤j→j<k→Txt.wb (s[j].toNat)=true):Txt.stepB s=true:=
 Txt.stepB_yes ⟨h2,w,h0,e,fun j d h1=>G j d h1 (by omega)⟩
theorem jU {s:ByteArray} {k:Nat} (d:k<s.size) (h1:1≤k) (h:Txt.wb (s[k].toNat)=false):Txt.stepB s=false:=
 Txt.stepB_no (fun ⟨_,_,_,_,hb⟩=>by rw[hb k d h1] at h;cases h)
structure LineP (s:ByteArray):Prop where
 n7:7≤(Txt.pcs 32 s).length
 n11:(Txt.pcs 32 s).length≤11
 fld:∀(i:Nat) (h:i<(Txt.pcs 32 s).length),i<5→Txt.fldB (lo i) (hi i) (Txt.pcs 32 s)[i]=true
 opt:∀(h:5<(Txt.pcs 32 s).length),Txt.optB (Txt.pcs 32 s)[5]=true
 stp:∀(i:Nat) (h:i<(Txt.pcs 32 s).length),6≤i→Txt.stepB (Txt.pcs 32 s)[i]=true
open Classical in
noncomputable def lineB (s:ByteArray):Bool:=decide (LineP s)
open Classical in
theorem jy {s:ByteArray} (h:LineP s):lineB s=true:=by unfold lineB;exact decide_eq_true h
open Classical in
theorem eh {s:ByteArray} (h:¬LineP s):lineB s=false:=by unfold lineB;exact decide_eq_false h
open Classical in
theorem pQ {s:ByteArray} (h:lineB s=true):LineP s:=by unfold lineB at h;exact of_decide_eq_true h
def tl (tab:ByteArray) (i:Nat):ByteArray:=(Txt.pcs 10 tab).getD i ByteArray.empty
def tn (tab:ByteArray):Nat:=(Txt.pcs 10 tab).length-1
theorem ga {s:ByteArray} {i:Nat} (h:i<(Txt.pcs 10 s).length):(Txt.pcs 10 s)[i]=tl s i:=by simp[tl,h]
theorem eP (s:ByteArray):tn s<(Txt.pcs 10 s).length:=by have:=Txt.pcs_ne 10 s;unfold tn;omega
theorem jc (s:ByteArray):(Txt.pcs 10 s).length=tn s+1:=by have:=Txt.pcs_ne 10 s;unfold tn;omega
theorem fD {s:ByteArray} {n:Nat} (d:s.size≤n) (i:Nat) (h:i<(Txt.pcs 10 s).length):(tl s i).size≤n:=by rw[←ga h];exact Txt.pcs_sz d i h
def ChkR (tab:ByteArray) (a r:Int):Prop:=
 (300<tab.size∧a=0∧r=1)∨
 (tab.size≤300∧4<tn tab+(if (tl tab (tn tab)).size=0 then 0 else 1)∧a=0∧r=2)∨
 (tab.size≤300∧tn tab+(if (tl tab (tn tab)).size=0 then 0 else 1)≤4∧∃i:Nat,i<tn tab∧lineB (tl tab i)=false∧(∀j:Nat,j<i→lineB (tl tab j)=true)∧a=i+1∧r=3)∨
 (tab.size≤300∧tn tab+(if (tl tab (tn tab)).size=0 then 0 else 1)≤4∧(∀j:Nat,j<tn tab→lineB (tl tab j)=true)∧¬(tl tab (tn tab)).size=0∧a=tn tab+1∧r=3)∨
 (tab.size≤300∧tn tab+(if (tl tab (tn tab)).size=0 then 0 else 1)≤4∧(∀j:Nat,j<tn tab→lineB (tl tab j)=true)∧(tl tab (tn tab)).size=0∧a=0∧r=0)
theorem ChkR.long {tab:ByteArray} (h:300<tab.size):ChkR tab 0 1:=Or.inl ⟨h,rfl,rfl⟩
theorem ChkR.many {tab:ByteArray} (h:tab.size≤300) (d:4<tn tab+(if (tl tab (tn tab)).size=0 then 0 else 1)):ChkR tab 0 2:=Or.inr (Or.inl ⟨h,d,rfl,rfl⟩)
theorem ChkR.line {tab:ByteArray} (h:tab.size≤300) (d:tn tab+(if (tl tab (tn tab)).size=0 then 0 else 1)≤4) (i:Nat) (hi:i<tn tab) (w:lineB (tl tab i)=false) (e:∀j:Nat,j<i→lineB (tl tab j)=true):ChkR tab (i+1) 3:=Or.inr (Or.inr (Or.inl ⟨h,d,i,hi,w,e,rfl,rfl⟩))
theorem ChkR.last {tab:ByteArray} (h:tab.size≤300) (d:tn tab+(if (tl tab (tn tab)).size=0 then 0 else 1)≤4) (w:∀j:Nat,j<tn tab→lineB (tl tab j)=true) (e:¬(tl tab (tn tab)).size=0):ChkR tab (tn tab+1) 3:=Or.inr (Or.inr (Or.inr (Or.inl ⟨h,d,w,e,rfl,rfl⟩)))
theorem ChkR.ok {tab:ByteArray} (h:tab.size≤300) (d:tn tab+(if (tl tab (tn tab)).size=0 then 0 else 1)≤4) (w:∀j:Nat,j<tn tab→lineB (tl tab j)=true) (e:(tl tab (tn tab)).size=0):ChkR tab 0 0:=Or.inr (Or.inr (Or.inr (Or.inr ⟨h,d,w,e,rfl,rfl⟩)))
theorem ChkR.uniq {tab:ByteArray} {a e a' e':Int} (h:ChkR tab a e) (Q:ChkR tab a' e'):a=a'∧e=e':=by
 rcases h with ⟨x,rfl,rfl⟩|⟨x,Y,rfl,rfl⟩|⟨x,Y,i,hi,J,ha,rfl,rfl⟩|⟨x,Y,V,Z,rfl,rfl⟩|⟨x,Y,V,Z,rfl,rfl⟩
 ·rcases Q with ⟨y,rfl,rfl⟩|⟨y,_⟩|⟨y,_⟩|⟨y,_⟩|⟨y,_⟩
  ·exact⟨rfl,rfl⟩
  all_goals omega
 ·rcases Q with ⟨y,_⟩|⟨y,y2,rfl,rfl⟩|⟨y,y2,_⟩|⟨y,y2,_⟩|⟨y,y2,_⟩
  ·omega
  ·exact⟨rfl,rfl⟩
  all_goals omega
 ·rcases Q with ⟨y,_⟩|⟨y,y2,_⟩|⟨y,y2,w,I,d,O,rfl,rfl⟩|⟨y,y2,G,_⟩|⟨y,y2,G,_⟩
  ·omega
  ·omega
  ·have:i=w:=by
    rcases Nat.lt_trichotomy i w with c|c|c
    ·rw[O i c] at J;cases J
    ·exact c
    ·rw[ha w c] at d;cases d
   subst this;exact⟨rfl,rfl⟩
  ·rw[G i hi] at J;cases J
  ·rw[G i hi] at J;cases J
 ·rcases Q with ⟨y,_⟩|⟨y,y2,_⟩|⟨y,y2,w,I,d,O,rfl,rfl⟩|⟨y,y2,G,U,rfl,rfl⟩|⟨y,y2,G,U,_⟩
  ·omega
  ·omega
  ·rw[V w I] at d;cases d
  ·exact⟨rfl,rfl⟩
  ·exact absurd U Z
 ·rcases Q with ⟨y,_⟩|⟨y,y2,_⟩|⟨y,y2,w,I,d,O,rfl,rfl⟩|⟨y,y2,G,U,_⟩|⟨y,y2,G,U,rfl,rfl⟩
  ·omega
  ·omega
  ·rw[V w I] at d;cases d
  ·exact absurd Z U
  ·exact⟨rfl,rfl⟩
theorem ChkR.zero {tab:ByteArray} {a r:Int} (h:ChkR tab a r) (d:r=0):a=0:=by
 rcases h with ⟨_,h1,_⟩|⟨_,_,h1,_⟩|⟨_,_,_,_,_,_,_,h2⟩|⟨_,_,_,_,_,h2⟩|⟨_,_,_,_,h1,_⟩
 ·exact h1
 ·exact h1
 ·omega
 ·omega
 ·exact h1
theorem ChkR.lines {tab:ByteArray} (h:ChkR tab 0 0):tab.size≤300∧(tl tab (tn tab)).size=0∧∀j:Nat,j<tn tab→LineP (tl tab j):=by
 rcases h with ⟨_,_,h2⟩|⟨_,_,_,h2⟩|⟨_,_,_,_,_,_,_,h2⟩|⟨_,_,_,_,_,h2⟩|⟨x,_,d,w,_,_⟩
 ·omega
 ·omega
 ·omega
 ·omega
 ·exact⟨x,w,fun j e=>pQ (d j e)⟩
theorem ChkR.bd {tab:ByteArray} {a r:Int} (h:ChkR tab a r):0≤r∧r≤3:=by
 rcases h with ⟨_,_,h2⟩|⟨_,_,_,h2⟩|⟨_,_,_,_,_,_,_,h2⟩|⟨_,_,_,_,_,h2⟩|⟨_,_,_,_,_,h2⟩<;>omega
theorem iT {s:ByteArray}:s.toList.isEmpty=decide (s.size=0):=by
 have:s.toList.length=s.size:=by simp[ByteArray.toList_eq]
 cases h:s.toList with
 | nil=>rw[h] at this;simp at this;rw[←this];rfl
 | cons a r=>
   rw[h] at this;simp at this;have d:¬s.size=0:=by omega
   rw[decide_eq_false d];rfl
def tm (s:ByteArray):Nat:=tn s+(if (tl s (tn s)).size=0 then 0 else 1)
def tb (s:ByteArray):Bool:= !decide ((tl s (tn s)).size=0)
def dayB (s:ByteArray) (d k:Int):Bool:=if (Txt.opn (pt s 2)||Txt.opn (pt s 4))=true then (Txt.hldB (lo 2) (hi 2) d (pt s 2)&&Txt.hldB (lo 4) (hi 4) k (pt s 4)) else (Txt.hldB (lo 2) (hi 2) d (pt s 2)||Txt.hldB (lo 4) (hi 4) k (pt s 4))
def dueB (s:ByteArray) (m d h i k:Int):Bool:=Txt.hldB (lo 0) (hi 0) i (pt s 0)&&(Txt.hldB (lo 1) (hi 1) h (pt s 1)&&(Txt.hldB (lo 3) (hi 3) m (pt s 3)&&dayB s d k))
theorem LineP.fl {s:ByteArray} (h:LineP s) (t:Nat) (e:t<5):Txt.fldB (lo t) (hi t) (pt s t)=true:=by
 have d:t<(Txt.pcs 32 s).length:=by have:=h.n7;omega
 rw[←eM d];exact h.fld t d e
theorem LineP.sz {s:ByteArray} {n:Nat} (h:LineP s) (e:s.size≤n) (t:Nat) (w:t<5):(pt s t).size≤n:=by
 have d:t<(Txt.pcs 32 s).length:=by have:=h.n7;omega
 rw[←eM d];exact Txt.pcs_sz e t d
theorem lQ {l g:Int} {f:ByteArray} (l1:0≤l) (h:Txt.fldB l g f=true):0<f.size:=by
 rcases Nat.eq_zero_or_pos f.size with z|z
 ·exfalso
  have d:∀c,Txt.NoSep c f 0 f.size:=fun c j I _ _=>by omega
  have e:Txt.pcs 44 f=[f]:=by
   rw[Txt.pcs_eq,Txt.fst_no (d 44),if_neg (by omega)]
  have k:=Txt.fldB_at h 0 (Txt.pcs_ne _ _);have G:Txt.spK l g f=true:=by simpa [e] using k
  have b:=(Txt.spK_bd G).2.2.1;have c1:Txt.cut1 47 f=f:=(Txt.cut_no (d 47)).1;have c2:Txt.cut1 45 f=f:=(Txt.cut_no (d 45)).1
  have st:Txt.star f=false:=by
   have w:f.toList=[]:=by
    have:f.toList.length=0:=by simp[ByteArray.toList_eq,z]
    exact List.eq_nil_of_length_eq_zero this
   simp[Txt.star,w]
  have v:Txt.val f= -1:=Txt.val_no (Or.inl (by omega))
  rw[Txt.spA,c1,st,c2,v] at b;simp at b;omega
 ·exact z
def ob (s:ByteArray) (i:Nat):Int:=(((pt s 5).data.toList[i]?).map (fun b=>(b.toNat:Int))).getD 0
theorem ie {s:ByteArray} {i:Nat} (h:i<(pt s 5).size):((pt s 5)[i].toNat:Int)=ob s i:=by
 have d:i<(pt s 5).data.toList.length:=by simpa using h
 unfold ob;rw[List.getElem?_eq_getElem d];rfl
open Classical in
theorem iY {s:ByteArray} (h:LineP s):(pt s 5).size=3∧(ob s 0=120∨ob s 0=111)∧(ob s 1=97∨ob s 1=108∨ob s 1=110)∧49≤ob s 2∧ob s 2≤53:=by
 have G:=h.n7;have e:5<(Txt.pcs 32 s).length:=by omega
 have d:=h.opt e;rw[eM e] at d;unfold Txt.optB at d;obtain⟨w,a,b,c⟩:=of_decide_eq_true d;rw[ie (by omega)] at a
 rw[ie (by omega)] at b
 rw[ie (by omega)] at c
 exact⟨w,a,b,c⟩
def DtIs (t y m d h i k:Int):Prop:=t≤4223371679→(Cal.IsD (t / 1440) y m d∧h=t % 1440 / 60∧i=t % 60∧k=(t / 1440+4) % 7)
open Classical in
noncomputable def dueT (s:ByteArray) (t:Int):Bool:=decide (∃y m d,Cal.IsD (t / 1440) y m d∧dueB s m d (t % 1440 / 60) (t % 60) ((t / 1440+4) % 7)=true)
open Classical in
theorem lS {s:ByteArray} {t y m d:Int} (H:Cal.IsD (t / 1440) y m d):dueB s m d (t % 1440 / 60) (t % 60) ((t / 1440+4) % 7)=dueT s t:=by
 unfold dueT
 cases h:dueB s m d (t % 1440 / 60) (t % 60) ((t / 1440+4) % 7)
 ·symm;apply decide_eq_false
  rintro ⟨I,G,J,w,e⟩;obtain⟨rfl,rfl,rfl⟩:=H.uniq w;rw[h] at e;cases e
 ·symm;exact decide_eq_true ⟨y,m,d,H,h⟩
theorem sn {s:ByteArray} {t y m d h i k:Int} (w:t≤4223371679) (H:DtIs t y m d h i k):dueB s m d h i k=dueT s t:=by
 obtain⟨e,rfl,rfl,rfl⟩:=H w;exact lS e
noncomputable def lnOf (s:ByteArray):Bx.Ln:=⟨ob s 1,dueT s⟩
theorem sD {due:Int→Bool} {a:Int} {k:Nat} (h:due (a+k)=true):Bx.dl due a (k+1)=Bx.dl due a k++[a+(k:Int)]:=by rw[Bx.dl,if_pos h]
theorem tw {due:Int→Bool} {a:Int} {k:Nat} (h:due (a+k)=false):Bx.dl due a (k+1)=Bx.dl due a k:=by rw[Bx.dl,h];simp
theorem DtIs.bd {t y m d h i k:Int} (H:DtIs t y m d h i k) (_t0:0≤t) (w:t≤4223371679):0≤m∧m≤60∧0≤d∧d≤60∧0≤h∧h≤60∧0≤i∧i≤60∧0≤k∧k≤60:=by
 obtain⟨e,rfl,rfl,rfl⟩:=H w;have:=e.m1;have:=e.m2;have:=e.d1;have:=e.d2;have:=Cal.dim_lo y m;omega
def minB (m:Int):Bool:=decide (0≤m∧m≤4223371679)
theorem gw {m:Int} (a:0≤m) (b:m≤4223371679):minB m=true:=decide_eq_true ⟨a,b⟩
theorem ii {m:Int} (h:m<0∨4223371679<m):minB m=false:=decide_eq_false (by omega)
def sayB (s:ByteArray):Bool:= !(s.data.toList.head? ==some 60)
theorem so {s:ByteArray} (h:0<s.size) (d:(s[0].toNat:Int)=62∨(s[0].toNat:Int)=60):((s[0].toNat:Int)==62)=sayB s:=by
 have G:s.data.toList.head? =some s[0]:=by
  rw[List.head?_eq_getElem?];have w:0<s.data.toList.length:=by simpa using h
  rw[List.getElem?_eq_getElem w];rfl
 unfold sayB;rw[G]
 rcases d with e|e
 ·have:s[0]=62:=UInt8.toNat_inj.1 (by show _=62;omega)
  rw[this];rfl
 ·have:s[0]=60:=UInt8.toNat_inj.1 (by show _=60;omega)
  rw[this];rfl
def stepsOf (l:ByteArray):List ByteArray:=(Txt.pcs 32 l).drop 6
theorem eS {l:ByteArray} (h:LineP l):1≤(stepsOf l).length∧(stepsOf l).length≤5:=by
 have:=h.n7;have:=h.n11;unfold stepsOf;rw[List.length_drop];omega
namespace Bx
structure Sl where
 num:Int
 line:Int
 minute:Int
 att:Int
 frm:Int
 runs:Bool
structure En where
 num:Int
 how:ByteArray
structure St where
 tab:ByteArray
 clock:Int
 next:Int
 slots:List Sl
 ends:List En
def first:St:=⟨ByteArray.empty,-1,1,[],[]⟩
def findK (l:List Sl) (n:Int):Nat→Int
 | 0=> -1
 | k+1=>if (l[k]?.map (·.num))=some n then (k:Int) else findK l n k
def find (s:St) (n:Int):Int:=findK s.slots n s.slots.length
theorem findK_lt (l:List Sl) (n:Int) (k:Nat): -1≤findK l n k∧findK l n k<k:=by
 induction k with
 | zero=>exact⟨by simp[findK],by simp[findK]⟩
 | succ k d=>unfold findK;split<;>omega
def push (l:List En) (e:En):List En:=l.drop (l.length-5)++[e]
def with' (s:St) (l:List Sl) (n:Int) (how:ByteArray):St:={s with slots:=l,ends:=if 0<n then push s.ends ⟨n,how⟩ else s.ends}
def skipK (l:List Sl) (at':Int):Nat→List Sl
 | 0=>[]
 | k+1=>if (k:Int)=at' then skipK l at' k else skipK l at' k++l[k]?.toList
def withoutL (l:List Sl) (at':Int):List Sl:=skipK l at' l.length
theorem skipK_len (l:List Sl) (at':Int) (k:Nat):(skipK l at' k).length≤k:=by
 induction k with
 | zero=>exact Nat.le_refl _
 | succ k d=>
   unfold skipK;split
   ·omega
   ·rw[List.length_append];cases l[k]? <;>simp<;>omega
def putK (l:List Sl) (at':Int) (x:Sl):Nat→List Sl
 | 0=>[]
 | k+1=>putK l at' x k++(if (k:Int)=at' then [x] else l[k]?.toList)
theorem putK_len (l:List Sl) (at':Int) (x:Sl) (k:Nat):(putK l at' x k).length≤k:=by
 induction k with
 | zero=>exact Nat.le_refl _
 | succ k d=>
   unfold putK;rw[List.length_append]
   split
   ·simp;omega
   ·cases l[k]? <;>simp<;>omega
def putL (l:List Sl) (at':Int) (x:Sl):List Sl:=putK l at' x l.length
def ahead (s:St) (m:Int):Bool:=decide (0≤m∧m≤4223371679∧s.clock<m∧(s.clock= -1∨m-s.clock≤1500))
end Bx
def slC (x:Bx.Sl):List Value:=[.int .i64 x.num,.int .i64 x.line,.int .i64 x.minute,.int .i64 x.att,.int .i64 x.frm,.bool x.runs]
theorem eo (x:Bx.Sl):(slC x).length=6:=rfl
def enC (x:Bx.En):List Value:=[.int .i64 x.num,.string x.how]
theorem ej (x:Bx.En):(enC x).length=2:=rfl
namespace Bx
def linesOf (tab:ByteArray):List ByteArray:=(Txt.pcs 10 tab).take (tn tab)
theorem linesOf_len (tab:ByteArray):(linesOf tab).length=tn tab:=by
 unfold linesOf;rw[List.length_take];have:=eP tab;omega
theorem linesOf_at (tab:ByteArray) (i:Nat) (h:i<(linesOf tab).length):(linesOf tab)[i]=tl tab i:=by
 have d:i<tn tab:=by rwa [linesOf_len] at h
 have:=eP tab;rw[←ga (by omega)]
 exact List.getElem_take
noncomputable def lns (tab:ByteArray):List Ln:=(linesOf tab).map lnOf
def newA (s:St) (m:Int):Int:=if s.clock= -1 then m else s.clock+1
noncomputable def comesS (s:St) (m:Int):List (Nat×Int):=comes (lns s.tab) (newA s m) m
def hA:ByteArray:=b1 97
def hD:ByteArray:=b1 100
def hK:ByteArray:=b1 107
def hS:ByteArray:=b1 115
def slotOf (p:Nat×Int) (n:Int):Sl:=⟨n,(p.1:Int)+1,p.2,1,p.2,false⟩
def arr (s:St) (p:Nat×Int):St:=
 if s.slots.length<8 then {s with slots:=s.slots++[slotOf p s.next],next:=s.next+1} else {s with ends:=push s.ends ⟨s.next,hS⟩,next:=s.next+1}
noncomputable def clockedP (s:St) (m:Int):St×Bool:=
 if ahead s m=true then (if s.next+((comesS s m).length:Int)≤10000 then ({(comesS s m).foldl arr s with clock:=m},true) else (s,false)) else (s,false)
def delay (k:Int):Int:=if k=1 then 2 else if k=2 then 4 else if k=3 then 8 else 10
def sl0:Sl:=⟨0,0,0,0,0,false⟩
def slAt (s:St) (i:Nat):Sl:=s.slots.getD i sl0
def opt (s:St) (line:Int) (i:Nat):Int:=ob (tl s.tab (line-1).toNat) i
def failed (s:St) (i:Nat):St:=
 if (slAt s i).att=opt s (slAt s i).line 2-48 then with' s (withoutL s.slots i) (slAt s i).num hA
 else with' s (putL s.slots i {slAt s i with frm:=s.clock+delay (slAt s i).att,att:=(slAt s i).att+1,runs:=false}) 0 ByteArray.empty
def lockK (s:St) (i:Nat):Nat→Bool
 | 0=>false
 | k+1=>lockK s i k||(decide (¬k=i)&&(decide ((slAt s k).line=(slAt s i).line)&&(slAt s k).runs))
def locked (s:St) (i:Nat):Bool:=(opt s (slAt s i).line 0==120)&&lockK s i s.slots.length
def runK (s:St):Nat→Nat
 | 0=>0
 | k+1=>runK s k+(if (slAt s k).runs=true then 1 else 0)
def running (s:St):Nat:=runK s s.slots.length
def aboutP (s:St) (kind n:Int):St×Bool:=
 if find s n<0 then (s,false)
 else if kind=75 then (with' s (withoutL s.slots (find s n)) n hK,true)
 else if kind=83 then (if (slAt s (find s n).toNat).runs=true∨s.clock<(slAt s (find s n).toNat).frm∨locked s (find s n).toNat=true then (s,false) else (with' s (putL s.slots (find s n) {slAt s (find s n).toNat with runs:=true}) 0 ByteArray.empty,true))
 else if kind=68 then (with' s (withoutL s.slots (find s n)) n hD,(slAt s (find s n).toNat).runs)
 else if kind=70 then (failed s (find s n).toNat,(slAt s (find s n).toNat).runs)
 else (s,false)
open Classical in
noncomputable def doP (s:St) (c:Ch):St×Bool:=
 if c.kind=84 then (if ChkR c.tab 0 0∧s.slots.length=0 then ({s with tab:=c.tab},true) else (s,false))
 else if c.kind=67 then clockedP s c.n
 else aboutP s c.kind c.n
noncomputable def tell (s:St) (c:Ch):St:=if (doP s c).2=true then (doP s c).1 else s
noncomputable def told (s:St) (l:List Ch):St:=l.foldl tell s
structure StOk (s:St):Prop where
 tab:ChkR s.tab 0 0
 c1: -1≤s.clock
 c2:s.clock≤4223371679
 n1:1≤s.next
 n2:s.next≤10000
 sl:s.slots.length≤8
 en:s.ends.length≤6
 each:∀x∈s.slots,1≤x.num∧x.num<s.next∧1≤x.line∧x.line≤tn s.tab∧1≤x.att∧x.att≤opt s x.line 2-48
theorem StOk.att5 {s:St} (h:StOk s) {x:Sl} (d:x∈s.slots):x.att≤5:=by
 obtain⟨_,_,h1,h2,_,e⟩:=h.each x d;have:=(iY (h.tab.lines.2.2 (x.line-1).toNat (by omega))).2.2.2.2
 unfold opt at e;omega
theorem empty_tab:ChkR ByteArray.empty 0 0:=by
 have e:Txt.pcs 10 ByteArray.empty=[ByteArray.empty]:=by
  rw[Txt.pcs_eq,Txt.fst_no (fun j w _ _=>by simp at *),if_neg (by simp)]
 have t:tn ByteArray.empty=0:=by unfold tn;rw[e];rfl
 have d:tl ByteArray.empty 0=ByteArray.empty:=by unfold tl;rw[e];rfl
 exact ChkR.ok (by decide) (by rw[t,d];decide) (by rw[t];intro j w;omega) (by rw[t,d];rfl)
theorem first_ok:StOk first:=⟨empty_tab,by decide,by decide,by decide,by decide,by decide,by decide,by simp[first]⟩
end Bx
namespace Px
open Bx (En push hA hD hK hS)
structure Sl where
 num:Int
 line:Int
 minute:Int
 att:Int
 frm:Int
 step:Int
 ans:Int
 heard:ByteArray
structure St where
 tab:ByteArray
 clock:Int
 next:Int
 slots:List Sl
 ends:List En
def sl0:Sl:=⟨0,0,0,0,0,0,0,ByteArray.empty⟩
def st0:St:=⟨ByteArray.empty,0,0,[],[]⟩
def first:St:=⟨ByteArray.empty,-1,1,[],[]⟩
def find (l:List Sl) (n:Int):Option Sl:=l.find? fun x=>x.num==n
def skip (l:List Sl) (n:Int):List Sl:=l.filter fun x=>x.num !=n
def repl (l:List Sl) (x:Sl):List Sl:=l.map fun y=>if y.num==x.num then x else y
theorem skip_no {l:List Sl} {n:Int} {k:Nat} (h:k<l.length) (e:(l[k].num !=n)=false):skip (l.take (k+1)) n=skip (l.take k) n:=by
 rw[List.take_succ_eq_append_getElem h];unfold skip;rw[List.filter_append,List.filter_cons_of_neg (by rw[e];simp),List.filter_nil,List.append_nil]
theorem skip_yes {l:List Sl} {n:Int} {k:Nat} (h:k<l.length) (e:(l[k].num !=n)=true):skip (l.take (k+1)) n=skip (l.take k) n++[l[k]]:=by
 rw[List.take_succ_eq_append_getElem h];unfold skip;rw[List.filter_append,List.filter_cons_of_pos (p:=fun x:Sl=>x.num !=n) (a:=l[k]) e,List.filter_nil]
theorem repl_no {l:List Sl} {x:Sl} {k:Nat} (h:k<l.length) (e:(l[k].num==x.num)=false):repl (l.take (k+1)) x=repl (l.take k) x++[l[k]]:=by
 rw[List.take_succ_eq_append_getElem h];unfold repl;rw[List.map_append,List.map_cons,List.map_nil,e];rfl
theorem repl_yes {l:List Sl} {x:Sl} {k:Nat} (h:k<l.length) (e:(l[k].num==x.num)=true):repl (l.take (k+1)) x=repl (l.take k) x++[x]:=by
 rw[List.take_succ_eq_append_getElem h];unfold repl;rw[List.map_append,List.map_cons,List.map_nil,e];rfl
def ended (s:St) (n:Int) (how:ByteArray):St:={s with slots:=skip s.slots n,ends:=push s.ends ⟨n,how⟩}
def opt (s:St) (line:Int) (i:Nat):Int:=ob (tl s.tab (line-1).toNat) i
def late (s:St):List Int:=(s.slots.filter fun x=>decide (0<x.step)&&decide (x.ans≤s.clock-3)).map (·.num)
def again (s:St) (x:Sl):Sl:=⟨x.num,x.line,x.minute,x.att+1,s.clock+Bx.delay x.att,0,0,ByteArray.empty⟩
theorem delay_bd' (k:Int):2≤Bx.delay k∧Bx.delay k≤10:=by
 unfold Bx.delay;split
 ·omega
 ·split
  ·omega
  ·split<;>omega
def failP (s:St) (n:Int):St×Int:=
 match find s.slots n with
 | none=>(st0,8)
 | some x=>if x.step≤0 then (st0,9) else if opt s x.line 2-48≤x.att then (ended s n hA,0) else ({s with slots:=repl s.slots (again s x)},0)
def doneP (s:St) (n:Int):St×Int:=
 match find s.slots n with
 | none=>(st0,8)
 | some x=>if x.step≤0 then (st0,9) else (ended s n hD,0)
def cancelP (s:St) (n:Int):St×Int:=
 match find s.slots n with
 | none=>(st0,8)
 | some x=>(ended s x.num hK,0)
def tabP (s:St) (tab:ByteArray):St×Int:=if 0<s.slots.length then (st0,5) else ({s with tab:=tab},0)
def lockP (s:St) (n:Int):Bool:=(opt s n 0==120)&&s.slots.any fun x=>decide (x.line=n)&&decide (0<x.step)
def runs (s:St):Nat:=(s.slots.filter fun x=>decide (0<x.step)).length
def beg (s:St) (x:Sl):Sl:={x with step:=1,ans:=s.clock}
def startP (s:St) (n:Int):St×Int:=
 match find s.slots n with
 | none=>(st0,8)
 | some x=>if 0<x.step then (st0,9) else if s.clock<x.frm then (st0,10) else if lockP s x.line=true then (st0,11)
   else ({s with slots:=repl s.slots (beg s x)},0)
def slotOf (p:Nat×Int) (n:Int):Sl:=⟨n,(p.1:Int)+1,p.2,1,p.2,0,0,ByteArray.empty⟩
def arr (s:St) (p:Nat×Int):St:=
 if 8≤s.slots.length then {s with ends:=push s.ends ⟨s.next,hS⟩,next:=s.next+1} else {s with slots:=s.slots++[slotOf p s.next],next:=s.next+1}
def newA (s:St) (m:Int):Int:=if s.clock= -1 then m else s.clock+1
def aheadP (s:St) (m:Int):Bool:=decide (s.clock<m∧(s.clock= -1∨m-s.clock≤1500))
noncomputable def comesP (s:St) (m:Int):List (Nat×Int):=Bx.comes (Bx.lns s.tab) (newA s m) m
noncomputable def clockP (s:St) (m:Int):St×Int:=
 if m<0∨4223371679<m then (st0,4) else if aheadP s m=false then (st0,6)
 else if 10000<s.next+((comesP s m).length:Int) then (st0,7) else ({(comesP s m).foldl arr s with clock:=m},0)
theorem clock_err' (s:St) (m:Int):((m<0∨4223371679<m)→clockP s m=(st0,4))∧(¬(m<0∨4223371679<m)→aheadP s m=false→clockP s m=(st0,6))∧
 (¬(m<0∨4223371679<m)→aheadP s m=true→clockP s m=if 10000<s.next+((comesP s m).length:Int) then (st0,7) else ({(comesP s m).foldl arr s with clock:=m},0)):=by
 refine⟨fun h=>?_,fun h d=>?_,fun h d=>?_⟩
 ·unfold clockP;rw[if_pos h]
 ·unfold clockP;rw[if_neg h,if_pos d]
 ·unfold clockP;rw[if_neg h,if_neg (by rw[d];simp)]
def absS (x:Sl):Bx.Sl:=⟨x.num,x.line,x.minute,x.att,x.frm,decide (0<x.step)⟩
def abs (s:St):Bx.St:=⟨s.tab,s.clock,s.next,s.slots.map absS,s.ends⟩
structure Ok (s:St):Prop where
 st:Bx.StOk (abs s)
 rise:s.slots.Pairwise fun a b=>a.num<b.num
 ex:∀x∈s.slots,-1≤x.ans∧x.ans≤4223371679∧0≤x.step∧x.step≤((stepsOf (tl s.tab (x.line-1).toNat)).length:Int)∧x.heard.size≤8∧(x.step=0→x.heard=ByteArray.empty)
theorem Ok.each {s:St} (h:Ok s) {x:Sl} (d:x∈s.slots):1≤x.num∧x.num<s.next∧1≤x.line∧x.line≤tn s.tab∧1≤x.att∧x.att≤opt s x.line 2-48:=
 h.st.each (absS x) (List.mem_map.2 ⟨x,d,rfl⟩)
theorem Ok.len {s:St} (h:Ok s):s.slots.length≤8:=by have:=h.st.sl;simpa [abs] using this
end Px
def psC (x:Px.Sl):List Value:=[.int .i64 x.num,.int .i64 x.line,.int .i64 x.minute,.int .i64 x.att,.int .i64 x.frm,.int .i64 x.step,.int .i64 x.ans,.string x.heard]
theorem fg (x:Px.Sl):(psC x).length=8:=rfl
theorem fp (x:Px.Sl):∀u∈psC x,u.oneCell'=true:=by
 intro u d;simp[psC] at d;rcases d with rfl|rfl|rfl|rfl|rfl|rfl|rfl|rfl<;>rfl
end Go.Proofs.YtdajolpoiffimabGreatDoor

namespace Go.Proofs.YtdajolpoiffimabGreatDoor
open Go.RowKit
theorem Hq {p:Prop} (h:p):Hid p:=h
theorem dM {k:IntKind} {a b:Int} (h:a=b):Ending.returned (.int k a)=.returned (.int k b):=by rw[h]
theorem dy {a b:Bool} (h:a=b):Ending.returned (.bool a)=.returned (.bool b):=by rw[h]
theorem dR {k:IntKind} {a b:Int} (h:a=b):Ending.returned (.int k a)=.returned (.int k b):=by rw[h]
theorem fV {a b:ByteArray} {c:Bool} {d e:ByteArray} {w:Bool} (h:d=a∧e=b∧w=c):Ending.returned (.tuple #[.string a,.string b,.bool c])=.returned (.tuple #[.string d,.string e,.bool w]):=by
 obtain⟨rfl,rfl,rfl⟩:=h;rfl
theorem fX {a b:Int} {c d:Bool} (h:a=b∧c=d):Ending.returned (.tuple #[.int .i64 a,.bool c])=.returned (.tuple #[.int .i64 b,.bool d]):=by
 obtain⟨rfl,rfl⟩:=h;rfl
abbrev dateV (y m d h i k:Int):Value:=.agg #[.int .i64 y,.int .i64 m,.int .i64 d,.int .i64 h,.int .i64 i,.int .i64 k]
theorem dT {W w1:World} (hb:Below W.heap.size W w1):(∀b o,b<W.heap.size→w1.cell? ⟨b,o,none⟩=W.cell? ⟨b,o,none⟩)∧(∀b o,b<W.heap.size→w1.frozen? ⟨b,o,none⟩=W.frozen? ⟨b,o,none⟩):=
 ⟨fun b o h=>hb.cell (p:=⟨b,o,none⟩) h,fun b o h=>hb.frozen (p:=⟨b,o,none⟩) h⟩
def DateAt (w:World) (b:Nat) (y m d h i k:Int):Prop:=
 w.cell? ⟨b,0,none⟩=some (.int .i64 y)∧w.cell? ⟨b,1,none⟩=some (.int .i64 m)∧w.cell? ⟨b,2,none⟩=some (.int .i64 d)∧
 w.cell? ⟨b,3,none⟩=some (.int .i64 h)∧w.cell? ⟨b,4,none⟩=some (.int .i64 i)∧w.cell? ⟨b,5,none⟩=some (.int .i64 k)
theorem DateAt.later {w e:World} {b:Nat} {y m d h i k:Int} (a:DateAt w b y m d h i k) (hb:Below w.heap.size w e):DateAt e b y m d h i k:=
 ⟨cell_later hb a.1,cell_later hb a.2.1,cell_later hb a.2.2.1,cell_later hb a.2.2.2.1,cell_later hb a.2.2.2.2.1,cell_later hb a.2.2.2.2.2⟩
theorem DateAt.new (w:World) (y m d h i k:Int) (t:TypeId):DateAt (w.alloc (.cells #[.int .i64 y,.int .i64 m,.int .i64 d,.int .i64 h,.int .i64 i,.int .i64 k] t)) w.heap.size y m d h i k:=by
 simp[DateAt,go_sem]
theorem cw (w:World) (o:Obj):Below w.heap.size w (w.alloc o):=(Below.refl _ _).alloc (Nat.le_refl _) _
theorem lL:(Tryz.prog.info? 9).map (fun i=>(i.zero,i.size,i.bytes))=some (some (.string ByteArray.empty),1,16):=by kernel_rfl
theorem oz {a:Option Addr} {n m d:Nat} (h:n=m):Ending.returned (.slice a n d)=.returned (.slice a m d):=by rw[h]
def StrsAt (w:World) (b:Nat) (L:List ByteArray):Prop:=∀k (h:k<L.length),w.cell? ⟨b,k,none⟩=some (.string L[k])
theorem StrsAt.later {w d:World} {b:Nat} {L:List ByteArray} (a:StrsAt w b L) (hb:Below w.heap.size w d):StrsAt d b L:=fun k h=>cell_later hb (a k h)
theorem ip {w:World} {d g n G:Nat} {e:TypeId} {L:List ByteArray} (h:w.ownsRow d e 1 (.slice (some ⟨g,0,none⟩) n G) n (L.map Value.string)) (J:n=L.length):StrsAt w g L:=by
 intro k I;have:=h.cellAt k (by omega)
 rw[this];simp[I]
theorem fC {w:World} {d:Nat} {e:TypeId} {size:Nat} {v:Value} {n:Nat} {G:List Value} (h:w.ownsRow d e size v n G) (k:Nat):(w.drewN k).ownsRow d e size v n G:=h
def strSize:Value→Nat| .string y=>y.size|_=>0
def boolSize:Value→Nat| .bool true=>1|_=>0
theorem dU {w Q:World} {d:Nat} {e:TypeId} {size:Nat} {v:Value} {n:Nat} {J:List Value} (h:w.ownsRow d e size v n J) (hb:Below w.heap.size w Q):Q.ownsRow d e size v n J:=by
 refine⟨h.1,?_⟩
 rcases h.2 with h2|⟨g,I,cur,V,hbase,G,U⟩
 ·exact Or.inl h2
 ·refine Or.inr ⟨g,I,cur,V,hbase,?_,U⟩
  have O:g<w.heap.size:=by
   rcases Nat.lt_or_ge g w.heap.size with h|h
   ·exact h
   ·rw[Array.getElem?_eq_none h] at G;cases G
  rw[hb.block g O];exact G
theorem ek {a b:ByteArray} (h:a=b):Ending.returned (.string a)=.returned (.string b):=by rw[h]
def isU8:Option Value→Bool|some (.int .u8 _)=>true|_=>false
def cellInt:Option Value→Int|some (.int _ n)=>n|_=>0
theorem j7 (n:Int):isU8 (some (.int .u8 n))=true:=rfl
theorem iA (k:IntKind) (n:Int):cellInt (some (.int k n))=n:=rfl
theorem re (W:World) (g:Nat) (h:isU8 (W.cell? ⟨g,0,none⟩)=true):(convert 95 9 (.slice (some ⟨g,0,none⟩) 1 1)).run Tryz.prog W=.ok (.string (strOfNums [cellInt (W.cell? ⟨g,0,none⟩)])) W:=by
 refine run_convert_bytes_arg W _ 5 Tryz.underlying95 Tryz.underlying5 g 0 1 1 [cellInt (W.cell? ⟨g,0,none⟩)] rfl (fun i hi=>?_) _ Tryz.underlying9
 obtain rfl:i=0:=by omega
 show W.cell? ⟨g,0,none⟩=some (.int .u8 (cellInt (W.cell? ⟨g,0,none⟩)))
 generalize W.cell? ⟨g,0,none⟩=q at h ⊢;unfold isU8 at h
 split at h
 ·rfl
 ·cases h
theorem gN (n:Int):(strOfNums [n]).size=1:=rfl
theorem b1_be (n:Int) (k:Nat):Bx.be (n / 256) k++strOfNums [n % 256]=Bx.be n (k+1):=rfl
theorem lZ (s:ByteArray):0≤Crc.sumR s∧Crc.sumR s≤4294967295:=by
 have:=Crc.crc_lt s.data.toList;unfold Crc.sumR;omega
theorem sY (n:Int) (i:Nat):Bx.be n (i+1)=Bx.b1 (n / 256 ^ i)++Bx.be n i:=by
 induction i generalizing n with
 | zero=>simp[Bx.be]
 | succ i d=>
   rw[Bx.be,d (n / 256),ByteArray.append_assoc]
   have e:n / 256 / 256 ^ i=n / 256 ^ (i+1):=by
    rw[Int.ediv_ediv_of_nonneg (by omega),Int.pow_succ,Int.mul_comm]
   rw[e];rfl
theorem ss (n:Int) (i:Nat):strOfNums [n / 256 ^ i % 256]++Bx.be n i=Bx.be n (i+1):=by rw[sY];rfl
theorem rp (n:Int) (i:Nat):n / 256 ^ i / 256=n / 256 ^ (i+1):=by rw[Int.ediv_ediv_of_nonneg (Int.pow_nonneg (by omega)),Int.pow_succ]
def RowAt (w:World) (v:Value) (n:Nat) (cells:List Value):Prop:=
 (v=.slice none 0 0∧n=0∧cells=[])∨∃b off cap,v=.slice (some ⟨b,off,none⟩) n cap∧n≤cap∧∀j (h:j<cells.length),w.cell? ⟨b,off+j,none⟩=some cells[j]
theorem RowAt.later {w J:World} {v:Value} {n:Nat} {d:List Value} (a:RowAt w v n d) (hb:Below w.heap.size w J):RowAt J v n d:=by
 rcases a with a|⟨b,I,G,e,h,c⟩
 ·exact Or.inl a
 ·exact Or.inr ⟨b,I,G,e,h,fun j O=>cell_later hb (c j O)⟩
theorem RowAt.nil (w:World):RowAt w (.slice none 0 0) 0 []:=Or.inl ⟨rfl,rfl,rfl⟩
theorem RowAt.form {w:World} {v:Value} {n:Nat} {G:List Value} (a:RowAt w v n G):∃I d,v=.slice I n d∧n≤d:=by
 rcases a with ⟨e,h,_⟩|⟨b,J,d,e,h,_⟩
 ·subst h;exact⟨none,0,e,Nat.le_refl _⟩
 ·exact⟨_,d,e,h⟩
theorem RowAt.some' {w:World} {v:Value} {n:Nat} {d:List Value} (a:RowAt w v n d) (h:0<n):∃b G e,v=.slice (some ⟨b,G,none⟩) n e∧n≤e∧∀j (h:j<d.length),w.cell? ⟨b,G+j,none⟩=some d[j]:=by
 rcases a with ⟨_,I,_⟩|a
 ·omega
 ·exact a
theorem RowAt.of_own {w:World} {G:Nat} {e:TypeId} {size:Nat} {v:Value} {n:Nat} {d:List Value} (a:w.ownsRow G e size v n d):RowAt w v n d:=by
 have U:=a.1
 rcases a.2 with ⟨rfl,rfl⟩|⟨g,I,cur,rfl,Q,V,O,_⟩
 ·exact Or.inl ⟨rfl,rfl,List.eq_nil_of_length_eq_zero (by omega)⟩
 ·refine Or.inr ⟨g,0,I,rfl,O,fun j J=>?_⟩
  have:=a.cellAt j (by omega)
  rw[Nat.zero_add,this];simp[J]
theorem pP {α:Type} (f:α→List Value) (k:Nat) (e:∀x,(f x).length=k) (L:List α):(L.flatMap f).length=L.length*k:=by
 induction L with
 | nil=>simp
 | cons a r d=>rw[List.flatMap_cons,List.length_append,e,d,List.length_cons,Nat.succ_mul];omega
theorem sh {α:Type} (f:α→List Value) (k:Nat) (d:∀x,(f x).length=k) (L:List α) (i:Nat) (hi:i<L.length) (j:Nat) (w:j<k):(L.flatMap f)[i*k+j]? =(f L[i])[j]? :=by
 induction L generalizing i with
 | nil=>simp at hi
 | cons a r e=>
   rw[List.flatMap_cons]
   cases i with
   | zero=>rw[Nat.zero_mul,Nat.zero_add,List.getElem?_append_left (by rw[d];exact w)];rfl
   | succ i=>
     rw[List.getElem?_append_right (by rw[d,Nat.succ_mul];omega),d,show (i+1)*k+j-k=i*k+j by rw[Nat.succ_mul];omega]
     exact e i (by simpa using hi)
theorem RowAt.cell {α:Type} {f:α→List Value} {k:Nat} (G:∀x,(f x).length=k) {w:World} {L:List α} {b d:Nat} (c:∀j (h:j<(L.flatMap f).length),w.cell? ⟨b,d+j,none⟩=some (L.flatMap f)[j]) (i:Nat) (hi:i<L.length) (j:Nat) (I:j<k):w.cell? ⟨b,d+(i*k+j),none⟩=(f L[i])[j]? :=by
 have e:i*k+j<(L.flatMap f).length:=by
  rw[pP f k G]
  calc i*k+j<i*k+k:=by omega
   _=(i+1)*k:=by rw[Nat.succ_mul]
   _≤L.length*k:=Nat.mul_le_mul_right k hi
 rw[c _ e,←sh f k G L i hi j I,List.getElem?_eq_getElem e]
def TRow (w:World) (e:TypeId) (v:Value) (n:Nat) (cells:List Value):Prop:=
 RowAt w v n cells∧∀b off n' cap,v=.slice (some ⟨b,off,none⟩) n' cap→∃cur fr,w.heap[b]? =some (.cells cur e fr)
theorem eK {w:World} {b:Nat} {o:Obj} (h:w.heap[b]? =some o):b<w.heap.size:=by
 rcases Nat.lt_or_ge b w.heap.size with c|c
 ·exact c
 ·rw[Array.getElem?_eq_none c] at h;cases h
theorem TRow.later {w O:World} {e:TypeId} {v:Value} {n:Nat} {d:List Value} (h:TRow w e v n d) (hb:Below w.heap.size w O):TRow O e v n d:=by
 refine⟨h.1.later hb,fun b I Q G U=>?_⟩
 obtain⟨cur,fr,J⟩:=h.2 b I Q G U;exact⟨cur,fr,(hb.block b (eK J)).trans J⟩
theorem TRow.of_own {w:World} {G:Nat} {e:TypeId} {size:Nat} {v:Value} {n:Nat} {d:List Value} (a:w.ownsRow G e size v n d):TRow w e v n d:=by
 refine⟨RowAt.of_own a,fun b Q U I J=>?_⟩
 rcases a.2 with ⟨rfl,_⟩|⟨g,I,cur,rfl,_,O,_⟩
 ·cases J
 ·cases J;exact⟨_,_,O⟩
theorem TRow.grown {w w':World} {e Z:TypeId} {v V:Value} {n n' Y size:Nat} {J Q:List Value} (h:TRow w e v n J) (ho:w.ownsRow Y Z size V n' Q) (hg:w.grownBy w' V.ownBlock) (aa:e≠Z):TRow w' e v n J:=by
 have far:∀b G m d,v=.slice (some ⟨b,G,none⟩) m d→some b≠V.ownBlock:=by
  intro b G m d I hb;obtain⟨cur,fr,O⟩:=h.2 b G m d I
  rcases ho.2 with ⟨rfl,_⟩|⟨g,ae,af,rfl,_,U,_⟩
  ·cases hb
  ·have:b=g:=by simpa [Value.ownBlock] using hb
   subst this;rw[O] at U;cases U;exact aa rfl
 refine⟨?_,fun b G m d I=>?_⟩
 ·rcases h.1 with a|⟨b,G,d,I,ab,O⟩
  ·exact Or.inl a
  ·exact Or.inr ⟨b,G,d,I,ab,fun j hj=>hg.cell (O j hj) (far b G n d I)⟩
 ·obtain⟨cur,fr,O⟩:=h.2 b G m d I;exact⟨cur,fr,(hg.block b (eK O) (far b G m d I)).trans O⟩
theorem TRow.setCell {w:World} {e Y:TypeId} {v:Value} {n g o:Nat} {J:List Value} {cur:Array Value} {fr:Nat×Nat} (h:TRow w e v n J) (hg:w.heap[g]? =some (.cells cur Y fr)) (Z:e≠Y) (u:Value):TRow (w.setCell ⟨g,o,none⟩ u) e v n J:=by
 have far:∀b G m d,v=.slice (some ⟨b,G,none⟩) m d→b≠g:=by
  intro b G m d I hb;obtain⟨O,U,Q⟩:=h.2 b G m d I;subst hb;rw[Q] at hg;cases hg;exact Z rfl
 refine⟨?_,fun b G m d I=>?_⟩
 ·rcases h.1 with a|⟨b,G,d,I,V,Q⟩
  ·exact Or.inl a
  ·refine Or.inr ⟨b,G,d,I,V,fun j hj=>?_⟩
   rw[World.cell?_setCell_other _ _ _ _ (by have:=far b G n d I;simp)];exact Q j hj
 ·obtain⟨O,U,Q⟩:=h.2 b G m d I;exact⟨O,U,(Below.heap_setCell _ _ _ _ (far b G m d I)).trans Q⟩
theorem TRow.nil (w:World) (e:TypeId):TRow w e (.slice none 0 0) 0 []:=⟨RowAt.nil w,fun _ _ _ _ h=>by cases h⟩
theorem TRow.form {w:World} {e:TypeId} {v:Value} {n:Nat} {d:List Value} (a:TRow w e v n d):∃I G,v=.slice I n G∧n≤G:=a.1.form
def Typed (w:World) (g:Nat) (e:TypeId):Prop:=∃cur fr,w.heap[g]? =some (.cells cur e fr)
theorem Typed.lt {w:World} {g:Nat} {e:TypeId} (h:Typed w g e):g<w.heap.size:=by obtain⟨_,_,h⟩:=h;exact eK h
theorem Typed.new (w:World) (d:Array Value) (e:TypeId):Typed (w.alloc (.cells d e)) w.heap.size e:=⟨d,(0,0),by show (w.heap.push (.cells d e))[w.heap.size]? =_;simp⟩
theorem Typed.below {w d:World} {g n:Nat} {e:TypeId} (h:Typed w g e) (G:g<n) (hb:Below n w d):Typed d g e:=by
 obtain⟨cur,fr,h⟩:=h;exact⟨cur,fr,(hb.block g G).trans h⟩
theorem Typed.later {w d:World} {g:Nat} {e:TypeId} (h:Typed w g e) (hb:Below w.heap.size w d):Typed d g e:=h.below h.lt hb
theorem Typed.setCell {w:World} {g:Nat} {e:TypeId} (h:Typed w g e) (p o:Nat) (u:Value):Typed (w.setCell ⟨p,o,none⟩ u) g e:=by
 obtain⟨cur,fr,h⟩:=h
 by_cases d:g=p
 ·subst d;refine⟨cur.setIfInBounds o u,fr,?_⟩;simp[World.setCell,Array.getElem?_modify,h]
 ·exact⟨cur,fr,(Below.heap_setCell _ _ _ _ d).trans h⟩
theorem TRow.set {w:World} {e I:TypeId} {v:Value} {n g:Nat} {d:List Value} (h:TRow w e v n d) (G:Typed w g I) (J:e≠I) (o:Nat) (u:Value):TRow (w.setCell ⟨g,o,none⟩ u) e v n d:=by
 obtain⟨cur,fr,G⟩:=G;exact h.setCell G J u
theorem dx {w d:World} (hb:Below w.heap.size w d) (r:Option Nat):w.grownBy d r:=⟨hb.os,hb.tape,hb.output,hb.size,fun k e _=>hb.block k e⟩
theorem dz {w w1 e:World} {r:Option Nat} (h1:w.grownBy w1 r) (h2:w1.grownBy e r):w.grownBy e r:=
 ⟨h2.os.trans h1.os,h2.tape.trans h1.tape,h2.output.trans h1.output,Nat.le_trans h1.size h2.size,fun k d G=>(h2.block k (Nat.lt_of_lt_of_le d h1.size) G).trans (h1.block k d G)⟩
theorem eD (w:World) (r:Option Nat):w.grownBy w r:=⟨rfl,rfl,rfl,Nat.le_refl _,fun _ _ _=>rfl⟩
theorem dI {w w1:World} {B:Nat} (h:w.grownBy w1 (some B)) (j:Nat) (u:Value):w.grownBy (w1.setCell ⟨B,j,none⟩ u) (some B):=
 dz h ⟨rfl,rfl,rfl,by simp[World.setCell],fun k _ d=>Below.heap_setCell _ _ _ _ (fun e=>d (by simpa using congrArg some e))⟩
end Go.Proofs.YtdajolpoiffimabGreatDoor

namespace Go.Proofs.YtdajolpoiffimabGreatDoor
namespace Bx
theorem skip_mem {l:List Sl} {a:Int} {k:Nat} {x:Sl} (h:x∈skipK l a k):x∈l:=by
 induction k with
 | zero=>simp[skipK] at h
 | succ k e=>
   rw[skipK] at h
   split at h
   ·exact e h
   ·rcases List.mem_append.1 h with h|h
    ·exact e h
    ·cases d:l[k]? with
     | none=>rw[d] at h;simp at h
     | some y=>rw[d] at h;simp at h;subst h;exact List.mem_of_getElem? d
theorem without_mem {l:List Sl} {a:Int} {x:Sl} (h:x∈withoutL l a):x∈l:=skip_mem h
theorem putK_mem {l:List Sl} {a:Int} {y x:Sl} {k:Nat} (h:x∈putK l a y k):x∈l∨x=y:=by
 induction k with
 | zero=>simp[putK] at h
 | succ k e=>
   rw[putK] at h
   rcases List.mem_append.1 h with h|h
   ·exact e h
   ·split at h
    ·simp at h;exact Or.inr h
    ·cases d:l[k]? with
     | none=>rw[d] at h;simp at h
     | some z=>rw[d] at h;simp at h;subst h;exact Or.inl (List.mem_of_getElem? d)
theorem put_mem {l:List Sl} {a:Int} {y x:Sl} (h:x∈putL l a y):x∈l∨x=y:=putK_mem h
theorem push_len {l:List En} (e:En):(push l e).length≤6:=by simp[push];omega
theorem withK_ok {s:St} (h:StOk s) {L:List Sl} {n:Int} {how:ByteArray} (d:L.length≤8) (e:∀x∈L,1≤x.num∧x.num<s.next∧1≤x.line∧x.line≤tn s.tab∧1≤x.att∧x.att≤opt s x.line 2-48):StOk (with' s L n how):=by
 refine⟨h.tab,h.c1,h.c2,h.n1,h.n2,d,?_,e⟩
 show (if 0<n then push s.ends ⟨n,how⟩ else s.ends).length≤6
 split
 ·exact push_len _
 ·exact h.en
theorem without_ok {s:St} (h:StOk s) (a n:Int) (how:ByteArray):StOk (with' s (withoutL s.slots a) n how):=
 withK_ok h (Nat.le_trans (skipK_len s.slots a s.slots.length) h.sl) fun x d=>h.each x (without_mem d)
theorem slAt_mem {s:St} {i:Nat} (h:i<s.slots.length):slAt s i∈s.slots:=by
 have:slAt s i=s.slots[i]:=by simp[slAt,h]
 rw[this];exact List.getElem_mem _
theorem put_ok {s:St} (h:StOk s) (a:Int) (y:Sl) (n:Int) (how:ByteArray) (e:1≤y.num∧y.num<s.next∧1≤y.line∧y.line≤tn s.tab∧1≤y.att∧y.att≤opt s y.line 2-48):StOk (with' s (putL s.slots a y) n how):=
 withK_ok h (Nat.le_trans (putK_len s.slots a y s.slots.length) h.sl) fun x d=>by
  rcases put_mem d with d|d
  ·exact h.each x d
  ·subst d;exact e
theorem failed_ok {s:St} (h:StOk s) {i:Nat} (hi:i<s.slots.length):StOk (failed s i):=by
 have d:=h.each _ (slAt_mem hi);unfold failed
 split
 ·exact without_ok h _ _ _
 ·exact put_ok h _ _ _ _ ⟨d.1,d.2.1,d.2.2.1,d.2.2.2.1,by simp;omega,by simp;omega⟩
theorem find_lt (s:St) (n:Int) (h:¬find s n<0):(find s n).toNat<s.slots.length:=by
 have:=findK_lt s.slots n s.slots.length;have h2:find s n=findK s.slots n s.slots.length:=rfl;omega
theorem about_ok {s:St} (h:StOk s) (kind n:Int):StOk (aboutP s kind n).1:=by
 unfold aboutP
 split
 ·exact h
 ·rename_i hn
  have hi:=find_lt s n hn;have d:=h.each _ (slAt_mem hi)
  split
  ·exact without_ok h _ _ _
  ·split
   ·split
    ·exact h
    ·exact put_ok h _ _ _ _ ⟨d.1,d.2.1,d.2.2.1,d.2.2.2.1,d.2.2.2.2.1,d.2.2.2.2.2⟩
   ·split
    ·exact without_ok h _ _ _
    ·split
     ·exact failed_ok h hi
     ·exact h
theorem arr_ok {s:St} (h:StOk s) (p:Nat×Int) (w:p.1<tn s.tab) (e:s.next+1≤10000):StOk (arr s p)∧(arr s p).tab=s.tab∧(arr s p).next=s.next+1:=by
 unfold arr
 split
 ·rename_i h8
  refine⟨⟨h.tab,h.c1,h.c2,by have:=h.n1;show 1≤s.next+1;omega,e,by simp;omega,h.en,fun x d=>?_⟩,rfl,rfl⟩
  rcases List.mem_append.1 d with d|d
  ·have:=h.each x d;exact⟨this.1,by show x.num<s.next+1;omega,this.2.2.1,this.2.2.2.1,this.2.2.2.2.1,this.2.2.2.2.2⟩
  ·simp at d;subst d
   have o:=(iY (h.tab.lines.2.2 p.1 w)).2.2.2.1;refine⟨h.n1,by show s.next<s.next+1;omega,by simp[slotOf];omega,by simp[slotOf];omega,by simp[slotOf],?_⟩
   show (1:Int)≤ob (tl s.tab (((p.1:Int)+1)-1).toNat) 2-48
   rw[show (((p.1:Int)+1)-1).toNat=p.1 by omega];omega
 ·refine⟨⟨h.tab,h.c1,h.c2,by have:=h.n1;show 1≤s.next+1;omega,e,h.sl,push_len _,fun x d=>?_⟩,rfl,rfl⟩
  have:=h.each x d;exact⟨this.1,by show x.num<s.next+1;omega,this.2.2.1,this.2.2.2.1,this.2.2.2.2.1,this.2.2.2.2.2⟩
theorem arrs_ok' (l:List (Nat×Int)) (s:St) (h:StOk s) (d:∀p∈l,p.1<tn s.tab) (G:s.next+(l.length:Int)≤10000):StOk (l.foldl arr s):=by
 induction l generalizing s with
 | nil=>exact h
 | cons a r I=>
   simp only [List.length_cons] at G
   obtain⟨h1,h2,e⟩:=arr_ok h a (d a (by simp)) (by omega)
   exact I (arr s a) h1 (fun p w=>by rw[h2];exact d p (by simp[w])) (by rw[e];omega)
theorem comes_line {s:St} {m:Int} {p:Nat×Int} (d:p∈comesS s m):p.1<tn s.tab:=by
 obtain⟨h,_⟩:=((comes_ok (lns s.tab) (newA s m) m).mem p.1 p.2).1 d
 simpa [lns,linesOf_len] using h
theorem clocked_ok {s:St} (h:StOk s) (m:Int):StOk (clockedP s m).1:=by
 unfold clockedP
 split
 ·rename_i ha
  split
  ·rename_i hn
   have hA:0≤m∧m≤4223371679∧s.clock<m∧(s.clock= -1∨m-s.clock≤1500):=of_decide_eq_true ha;have k:=arrs_ok' (comesS s m) s h (fun p d=>comes_line d) hn
   exact⟨k.tab,by show -1≤m;omega,hA.2.1,k.n1,k.n2,k.sl,k.en,k.each⟩
  ·exact h
 ·exact h
theorem do_ok {s:St} (h:StOk s) (c:Ch):StOk (doP s c).1:=by
 unfold doP
 split
 ·split
  ·rename_i hc
   have h0:s.slots=[]:=List.eq_nil_of_length_eq_zero hc.2;exact⟨hc.1,h.c1,h.c2,h.n1,h.n2,h.sl,h.en,by show ∀x∈s.slots,_;rw[h0];simp⟩
  ·exact h
 ·split
  ·exact clocked_ok h _
  ·exact about_ok h _ _
theorem tell_ok {s:St} (h:StOk s) (c:Ch):StOk (tell s c):=by
 unfold tell;split
 ·exact do_ok h c
 ·exact h
theorem told_ok {s:St} (h:StOk s) (l:List Ch):StOk (told s l):=by
 induction l generalizing s with
 | nil=>exact h
 | cons a r d=>exact d (tell_ok h a)
end Bx
namespace Bx
structure Tk where
 num:Int
 at':Int
 since:Int
 heard:ByteArray
structure Bo where
 limit:Int
 room:Int
 now:St
 text:ByteArray
 talks:List Tk
end Bx
def mayB (l r:Int):Bool:=decide (1≤l∧l≤4∧600≤r∧r≤4000)
theorem slAt_eq (s:Bx.St) (k:Nat) (h:k<s.slots.length):s.slots[k]=Bx.slAt s k:=by simp[Bx.slAt,h]
def talkOf (l:List Bx.Tk) (n:Int):Int:=match l.findIdx? (fun t=>t.num==n) with|some i=>(i:Int)|none=> -1
theorem iE {l:List Bx.Tk} {n:Int} {k:Nat} (h:k<l.length) (w:l[k].num=n) (e:∀j (h:j<l.length),j<k→¬l[j].num=n):talkOf l n=k:=by
 have:l.findIdx? (fun t=>t.num==n)=some k:=by
  rw[List.findIdx?_eq_some_iff_getElem];exact⟨h,by simpa using w,fun j d=>by simpa using e j (by omega) d⟩
 unfold talkOf;rw[this]
theorem iC {l:List Bx.Tk} {n:Int} (e:∀j (h:j<l.length),¬l[j].num=n):talkOf l n= -1:=by
 have:l.findIdx? (fun t=>t.num==n)=none:=by
  rw[List.findIdx?_eq_none_iff];intro x w;obtain⟨j,d,rfl⟩:=List.getElem_of_mem w
  simpa using e j d
 unfold talkOf;rw[this]
theorem gT (l:List Bx.Tk) (n:Int): -1≤talkOf l n∧talkOf l n<l.length:=by
 unfold talkOf
 cases h:l.findIdx? (fun t=>t.num==n) with
 | none=>simp;omega
 | some i=>
   rw[List.findIdx?_eq_some_iff_getElem] at h;obtain⟨hi,_⟩:=h;simp;omega
structure BoOk (b:Bx.Bo):Prop where
 st:Bx.StOk b.now
 txt:b.text.size≤100000
 tks:b.talks.length≤100
 since:∀t∈b.talks,-1≤t.since∧t.since≤4223371679
 ats:∀t∈b.talks,0≤t.at'∧t.at'≤100
noncomputable def addB (b:Bx.Bo) (L:List Bx.Ch):Bx.Bo:={b with text:=b.text++Bx.frames L,now:=Bx.told b.now L}
def fits (b:Bx.Bo) (L:List Bx.Ch):Prop:=¬b.room<(b.text.size:Int)+(Bx.frames L).size
def chT (tab:ByteArray):Bx.Ch:=⟨84,tab,0⟩
def LoadR (b:Bx.Bo) (tab:ByteArray) (b':Bx.Bo) (a r:Int):Prop:=
 (¬r=0∧ChkR tab a r∧b'=b)∨(ChkR tab 0 0∧0<b.now.slots.length∧b'=b∧a=0∧r=5)∨
 (ChkR tab 0 0∧b.now.slots.length=0∧¬fits b [chT tab]∧b'=b∧a=0∧r=13)∨(ChkR tab 0 0∧b.now.slots.length=0∧fits b [chT tab]∧b'=addB b [chT tab]∧a=0∧r=0)
def chCl (m:Int):Bx.Ch:=⟨67,{data:= #[]},m⟩
def chF (n:Int):Bx.Ch:=⟨70,{data:= #[]},n⟩
def tk0:Bx.Tk:=⟨0,0,0,ByteArray.empty⟩
def tkAt (b:Bx.Bo) (i:Nat):Bx.Tk:=b.talks.getD i tk0
theorem ez (b:Bx.Bo) (k:Nat) (h:k<b.talks.length):b.talks[k]=tkAt b k:=by simp[tkAt,h]
def late (b:Bx.Bo) (m n:Int):Bool:=decide (0≤talkOf b.talks n)&&decide ((tkAt b (talkOf b.talks n).toNat).since+3≤m)
def tickK (b:Bx.Bo) (m:Int):Nat→List Bx.Ch
 | 0=>[chCl m]
 | k+1=>if late b m (Bx.slAt b.now k).num=true then tickK b m k++[chF (Bx.slAt b.now k).num] else tickK b m k
def tickL (b:Bx.Bo) (m:Int):List Bx.Ch:=tickK b m b.now.slots.length
theorem nu (b:Bx.Bo) (m:Int) (k:Nat):1≤(tickK b m k).length∧(tickK b m k).length≤k+1:=by
 induction k with
 | zero=>simp[tickK]
 | succ k d=>rw[tickK];split<;>(try simp)<;>omega
def goesOn (s:Bx.St) (t:Bx.Tk):Bool:=decide (0≤Bx.find s t.num)&&(Bx.slAt s (Bx.find s t.num).toNat).runs
def hushL (s:Bx.St) (l:List Bx.Tk):List Bx.Tk:=l.filter (goesOn s)
theorem oD (s:Bx.St) (l:List Bx.Tk) (k:Nat) (h:k<l.length):hushL s (l.take (k+1))=if goesOn s l[k]=true then hushL s (l.take k)++[l[k]] else hushL s (l.take k):=by
 unfold hushL;rw[List.take_succ_eq_append_getElem h,List.filter_append]
 split
 ·rename_i e;simp[e]
 ·rename_i e;simp[e]
theorem qO (s:Bx.St) (l:List Bx.Tk):(hushL s l).length≤l.length:=List.length_filter_le _ _
noncomputable def tickP (b:Bx.Bo) (m:Int):Bx.Bo×Int×Int:=
 if ¬minB m=true then (b,0,4)
 else if ¬Bx.ahead b.now m=true then (b,0,6)
 else if 10000<b.now.next+((Bx.comesS b.now m).length:Int) then (b,0,7)
 else if b.room<(b.text.size:Int)+(Bx.frames (tickL b m)).size then (b,0,13)
 else ({addB b (tickL b m) with talks:=hushL (Bx.told b.now (tickL b m)) b.talks},((Bx.comesS b.now m).length:Int),0)
def saysL:List ByteArray→ByteArray×Nat
 | []=>(ByteArray.empty,0)
 | s::r=>if s.data.toList.head? =some 60 then (ByteArray.empty,0) else (s.extract 1 s.size++(saysL r).1,(saysL r).2+1)
theorem fF (L:List ByteArray) (h:∀s∈L,s.size≤9):(saysL L).1.size≤L.length*9∧(saysL L).2≤L.length:=by
 induction L with
 | nil=>simp[saysL]
 | cons s r e=>
   have h1:=h s (by simp)
   have h2:=e fun x d=>h x (by simp[d])
   rw[saysL]
   split
   ·simp
   ·simp[ByteArray.size_append];omega
theorem jp {s:ByteArray} (h:0<s.size):s.data.toList.head? =some s[0]:=by
 have d:0<s.data.toList.length:=by simpa using h
 rw[List.head?_eq_getElem?,List.getElem?_eq_getElem d];rfl
def stepsS (s:Bx.St) (j:Nat):List ByteArray:=stepsOf (tl s.tab j)
def refusedP (b:Bx.Bo) (F:Int):Int:=
 if F<0 then 8 else if (Bx.slAt b.now F.toNat).runs=true then 9 else if b.now.clock<(Bx.slAt b.now F.toNat).frm then 10
 else if Bx.locked b.now F.toNat=true then 11 else if b.limit≤(Bx.running b.now:Int) then 12 else 0
def chK (n:Int):Bx.Ch:=⟨75,{data:= #[]},n⟩
noncomputable def cancelP (b:Bx.Bo) (n:Int):Bx.Bo×Int:=
 if Bx.find b.now n<0 then (b,8)
 else if b.room<(b.text.size:Int)+(Bx.frames [chK n]).size then (b,13)
 else ({addB b [chK n] with talks:=hushL (Bx.told b.now [chK n]) b.talks},0)
theorem find_num {s:Bx.St} {n:Int} (h:¬Bx.find s n<0):(Bx.slAt s (Bx.find s n).toNat).num=n:=by
 have w:∀k,k≤s.slots.length→¬Bx.findK s.slots n k<0→(Bx.slAt s (Bx.findK s.slots n k).toNat).num=n:=by
  intro k I d
  induction k with
  | zero=>simp[Bx.findK] at d
  | succ k G=>
    rw[Bx.findK] at d ⊢
    split
    ·rename_i he
     have e:k<s.slots.length:=by omega
     rw[List.getElem?_eq_getElem e] at he;rw[Int.toNat_natCast,←slAt_eq s k e];simpa using he
    ·rename_i he
     rw[if_neg he] at d;exact G (by omega) d
 exact w s.slots.length (Nat.le_refl _) h
def chS (n:Int):Bx.Ch:=⟨83,{data:= #[]},n⟩
def chD (n:Int):Bx.Ch:=⟨68,{data:= #[]},n⟩
def startC (L:List ByteArray) (n:Int):List Bx.Ch:=if (saysL L).2=L.length then [chS n]++[chD n] else [chS n]
def startL (b:Bx.Bo) (n:Int):List ByteArray:=stepsS b.now ((Bx.slAt b.now (Bx.find b.now n).toNat).line-1).toNat
noncomputable def startP (b:Bx.Bo) (n:Int):Bx.Bo×ByteArray×Int:=
 if ¬refusedP b (Bx.find b.now n)=0 then (b,ByteArray.empty,refusedP b (Bx.find b.now n))
 else if b.room<(b.text.size:Int)+(Bx.frames (startC (startL b n) n)).size then (b,ByteArray.empty,13)
 else ({addB b (startC (startL b n) n) with talks:=if (saysL (startL b n)).2<(startL b n).length then b.talks++[⟨n,((saysL (startL b n)).2:Nat),b.now.clock,{data:= #[]}⟩] else b.talks},(saysL (startL b n)).1,0)
open Classical in
theorem ku {s:ByteArray} (h:Txt.stepB s=true):Txt.StepP s:=by unfold Txt.stepB at h;exact of_decide_eq_true h
theorem ik {l:ByteArray} (h:LineP l):∀s∈stepsOf l,2≤s.size∧s.size≤9:=by
 intro s d;unfold stepsOf at d;obtain⟨k,e,rfl⟩:=List.getElem_of_mem d;simp at e;have:=h.stp (6+k) (by omega) (by omega)
 rw[List.getElem_drop];exact⟨(ku this).1,(ku this).2.1⟩
def behL (w:List UInt8):List UInt8→Option (List UInt8)
 | []=>if w=[] then some [] else none
 | a::r=>if w.isPrefixOf (a::r)=true then some ((a::r).drop w.length) else behL w r
theorem kO {w t:List UInt8} (h:w.isPrefixOf t=true):behL w t=some (t.drop w.length):=by
 cases t with
 | nil=>cases w<;>simp[List.isPrefixOf] at h;simp[behL]
 | cons a r=>rw[behL,if_pos h]
theorem ig {w:List UInt8} {a:UInt8} {r:List UInt8} (h:w.isPrefixOf (a::r)=false):behL w (a::r)=behL w r:=by rw[behL,h];rfl
theorem gD {w t:List UInt8} (h:t.length<w.length):behL w t=none:=by
 induction t with
 | nil=>cases w<;>simp[behL] at *
 | cons a r e=>
   have d:w.isPrefixOf (a::r)=false:=by
    cases G:w.isPrefixOf (a::r)
    ·rfl
    ·have:=List.IsPrefix.length_le (List.isPrefixOf_iff_prefix.1 G);omega
   rw[ig d];exact e (by simp at h;omega)
theorem eg (y:ByteArray) (a b:Nat):(y.extract a b).data.toList=(y.data.toList.drop a).take (b-a):=by
 rw[ByteArray.data_extract,Array.toList_extract]
def behS (t w:ByteArray):ByteArray:=match behL w.data.toList t.data.toList with|some l=>⟨l.toArray⟩|none=>ByteArray.empty
def behB (t w:ByteArray):Bool:=(behL w.data.toList t.data.toList).isSome
def wordAt (L:List ByteArray) (a:Nat):ByteArray:=(L.getD a ByteArray.empty).extract 1 (L.getD a ByteArray.empty).size
def hearF (L:List ByteArray) (c:Int):Nat→Bx.Tk→Bx.Tk×ByteArray
 | 0,t=>(t,ByteArray.empty)
 | n+1,t=>if (L.length:Int)≤t.at' then (t,ByteArray.empty) else if behB t.heard (wordAt L t.at'.toNat)=false then (t,ByteArray.empty)
   else ((hearF L c n ⟨t.num,((t.at'.toNat+1+(saysL (L.drop (t.at'.toNat+1))).2:Nat):Int),c,behS t.heard (wordAt L t.at'.toNat)⟩).1,
    (saysL (L.drop (t.at'.toNat+1))).1++(hearF L c n ⟨t.num,((t.at'.toNat+1+(saysL (L.drop (t.at'.toNat+1))).2:Nat):Int),c,behS t.heard (wordAt L t.at'.toNat)⟩).2)
theorem qR {w t r:List UInt8} (h:behL w t=some r):r.length≤t.length:=by
 induction t with
 | nil=>simp[behL] at h;obtain⟨_,rfl⟩:=h;simp
 | cons a q d=>
   rw[behL] at h
   split at h
   ·cases h;simp
   ·have:=d h;simp;omega
theorem hV (t u:ByteArray):(behS t u).size≤t.size:=by
 unfold behS
 cases h:behL u.data.toList t.data.toList with
 | none=>simp
 | some l=>
   have:=qR h
   show l.toArray.size≤t.size
   simpa using this
theorem mT (L:List ByteArray) (c:Int) (hL:∀s∈L,s.size≤9) (w:L.length≤100) (n:Nat) (t:Bx.Tk):(hearF L c n t).2.size≤n*900:=by
 induction n generalizing t with
 | zero=>simp[hearF]
 | succ n d=>
   rw[hearF]
   split
   ·simp
   ·split
    ·simp
    ·have h1:=(fF (L.drop (t.at'.toNat+1)) (fun s h=>hL s (List.mem_of_mem_drop h))).1
     have h2:=d ⟨t.num,((t.at'.toNat+1+(saysL (L.drop (t.at'.toNat+1))).2:Nat):Int),c,behS t.heard (wordAt L t.at'.toNat)⟩;have e:(L.drop (t.at'.toNat+1)).length≤100:=by simp;omega
     simp only [ByteArray.size_append]
     omega
theorem gl {L:List ByteArray} {a:Nat} (h:a<L.length):L[a].extract 1 L[a].size=wordAt L a:=by simp[wordAt,h]
def more (t:Bx.Tk) (x:ByteArray):Bx.Tk:={t with heard:=t.heard++x}
def feedH (b:Bx.Bo) (n:Int) (x:ByteArray):Bx.Tk×ByteArray:=hearF (startL b n) b.now.clock (startL b n).length (more (tkAt b (talkOf b.talks n).toNat) x)
noncomputable def feedP (b:Bx.Bo) (n:Int) (x:ByteArray):Bx.Bo×ByteArray×Int:=
 if 40<x.size then (b,ByteArray.empty,1)
 else if Bx.find b.now n<0 then (b,ByteArray.empty,8)
 else if talkOf b.talks n<0 then (b,ByteArray.empty,9)
 else if ((startL b n).length:Int)≤(feedH b n x).1.at' then
  (if b.room<(b.text.size:Int)+(Bx.frames [chD n]).size then (b,ByteArray.empty,13) else ({addB b [chD n] with talks:=hushL (Bx.told b.now [chD n]) b.talks},(feedH b n x).2,0))
 else ({b with talks:=b.talks.set (talkOf b.talks n).toNat (feedH b n x).1},(feedH b n x).2,0)
theorem oQ (l:List Bx.Sl) (k:Nat) (d:k≤l.length):Bx.skipK l (-1) k=l.take k:=by
 induction k with
 | zero=>simp[Bx.skipK]
 | succ k e=>
   rw[Bx.skipK,if_neg (by omega),e (by omega),List.take_succ_eq_append_getElem d,List.getElem?_eq_getElem d];rfl
theorem kN (l:List Bx.Sl):Bx.withoutL l (-1)=l:=by rw[Bx.withoutL,oQ l _ (Nat.le_refl _),List.take_length]
theorem putK_set (l:List Bx.Sl) (k:Nat) (y:Bx.Sl) (m:Nat) (hm:m≤l.length):Bx.putK l k y m=(l.set k y).take m:=by
 induction m with
 | zero=>simp[Bx.putK]
 | succ m e=>
   have d:m<(l.set k y).length:=by rw[List.length_set];omega
   rw[Bx.putK,e (by omega),List.take_succ_eq_append_getElem d]
   congr 1
   by_cases h:m=k
   ·subst h;simp
   ·rw[if_neg (by omega),List.getElem_set_ne (by omega),List.getElem?_eq_getElem (by omega)];rfl
theorem kI (l:List Bx.Sl) (k:Nat) (y:Bx.Sl):Bx.putL l k y=l.set k y:=by
 rw[Bx.putL,putK_set l k y _ (Nat.le_refl _)];rw[List.take_of_length_le (by simp)]
def clr (x:Bx.Sl):Bx.Sl:={x with runs:=false}
def intK (l:List Bx.Sl) (k:Nat):List Bx.Sl:=(l.take k).map clr++l.drop k
theorem kK (l:List Bx.Sl) (k:Nat) (h:k≤l.length):(intK l k).length=l.length:=by simp[intK];omega
theorem sf (l:List Bx.Sl) (k:Nat) (h:k<l.length):(intK l k)[k]'(by rw[kK l k (by omega)];exact h)=l[k]:=by
 simp only [intK]
 rw[List.getElem_append_right (by simp;omega)]
 simp[Nat.min_eq_left (Nat.le_of_lt h)]
theorem oc (l:List Bx.Sl) (k:Nat) (h:k<l.length):(intK l k).set k (clr l[k])=intK l (k+1):=by
 have d:((l.take k).map clr).length=k:=by simp;omega
 rw[intK,List.drop_eq_getElem_cons h,List.set_append_right _ _ (by omega),d,Nat.sub_self,List.set_cons_zero,intK,List.take_succ_eq_append_getElem h,List.map_append,List.append_assoc];rfl
def intS (s:Bx.St):Bx.St:={s with slots:=s.slots.map clr}
theorem gv {tab:ByteArray} (d:ChkR tab 0 0):tn tab≤4:=by
 rcases d with ⟨_,_,h2⟩|⟨_,_,_,h2⟩|⟨_,_,_,_,_,_,_,h2⟩|⟨_,_,_,_,_,h2⟩|⟨_,x,_,_,_,_⟩<;>omega
theorem pF {s:Bx.St} {p:Nat×Int} (h:s.slots.length<8):Bx.arr s p={Bx.with' s (s.slots++[Bx.slotOf p s.next]) 0 ByteArray.empty with next:=s.next+1}:=by
 rw[Bx.arr,if_pos h];rfl
theorem sw {s:Bx.St} {p:Nat×Int} (h:¬s.slots.length<8) (d:0<s.next):Bx.arr s p={Bx.with' s s.slots s.next Bx.hS with next:=s.next+1}:=by
 rw[Bx.arr,if_neg h,Bx.with',if_pos d]
theorem sk {s:Bx.St} (p:Nat×Int) (h:s.slots.length≤8) (d:s.ends.length≤6):(Bx.arr s p).slots.length≤8∧(Bx.arr s p).ends.length≤6:=by
 unfold Bx.arr;split
 ·simp;omega
 ·simp[Bx.push];omega
theorem arr_next (s:Bx.St) (p:Nat×Int):(Bx.arr s p).next=s.next+1:=by unfold Bx.arr;split<;>rfl
theorem rQ (l:List (Nat×Int)) (s:Bx.St) (h:s.slots.length≤8) (d:s.ends.length≤6):(l.foldl Bx.arr s).slots.length≤8∧(l.foldl Bx.arr s).ends.length≤6∧(l.foldl Bx.arr s).next=s.next+l.length:=by
 induction l generalizing s with
 | nil=>exact⟨h,d,by simp⟩
 | cons a r I=>
   have h1:=sk a h d;obtain⟨w,e,G⟩:=I (Bx.arr s a) h1.1 h1.2;refine⟨w,e,?_⟩;rw[List.foldl_cons,G,arr_next,List.length_cons];push_cast;omega
theorem nT (l:List (Nat×Int)) (s:Bx.St) (k:Nat) (h:k<l.length):(l.take (k+1)).foldl Bx.arr s=Bx.arr ((l.take k).foldl Bx.arr s) l[k]:=by
 rw[List.take_succ_eq_append_getElem h,List.foldl_append];rfl
theorem jf (s:Bx.St) (n:Int): -1≤Bx.find s n∧Bx.find s n<s.slots.length:=Bx.findK_lt s.slots n s.slots.length
theorem rd:Bx.hA={data:= #[97]}:=by decide
theorem rb:Bx.hK={data:= #[107]}:=by decide
theorem rc:Bx.hD={data:= #[100]}:=by decide
end Go.Proofs.YtdajolpoiffimabGreatDoor
