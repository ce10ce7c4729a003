import Derived.Test.YtdajolpoiffimabGreatDoorRows
import Derived.WalkKit
import Derived.WalkSpells
import Derived.WalkLawsBesides
import Derived.Laws.BitsAllLaws
import Derived.Laws.Strings

namespace Go.Proofs.YtdajolpoiffimabGreatDoor.Crc
def poly:Nat:=3988292384
def bitStep (b k c:Nat):Nat:=if (c ^^^ (b / 2 ^ k)) % 2=1 then (c / 2) ^^^ poly else c / 2
def bitsK (b c:Nat):Nat→Nat
 | 0=>c
 | j+1=>bitStep b j (bitsK b c j)
def byteStep (c b:Nat):Nat:=bitsK b c 8
def crc (l:List UInt8):Nat:=l.foldl (fun c b=>byteStep c b.toNat) 4294967295
theorem xor_lt {a b:Nat} (d:a<4294967296) (hb:b<4294967296):a ^^^ b<4294967296:=Nat.xor_lt_two_pow (n:=32) d hb
theorem mv {b k c:Nat} (h:c<4294967296):bitStep b k c<4294967296:=by
 unfold bitStep;split
 ·exact xor_lt (by omega) (by decide)
 ·omega
theorem bitsK_lt {b c:Nat} (h:c<4294967296) (j:Nat):bitsK b c j<4294967296:=by
 induction j with
 | zero=>exact h
 | succ j d=>exact mv d
theorem crc_lt (l:List UInt8):crc l<4294967296:=by
 have all:∀(l:List UInt8) (c:Nat),c<4294967296→l.foldl (fun c b=>byteStep c b.toNat) c<4294967296:=by
  intro l
  induction l with
  | nil=>intro c h;exact h
  | cons a r d=>intro c h;exact d _ (bitsK_lt h 8)
 exact all l _ (by decide)
theorem qL (l:List UInt8) (b:UInt8):crc (l++[b])=byteStep (crc l) b.toNat:=by simp[crc,List.foldl_append]
def plainStep (c:Nat):Nat:=if c % 2=1 then (c / 2) ^^^ poly else c / 2
def plainK (c:Nat):Nat→Nat
 | 0=>c
 | j+1=>plainStep (plainK c j)
theorem rd (a b:Nat):(a ^^^ b) / 2=a / 2 ^^^ b / 2:=by
 have:=Nat.shiftRight_xor_distrib (a:=a) (b:=b) (i:=1)
 simpa [Nat.shiftRight_eq_div_pow] using this
theorem mW (b c j:Nat):plainK (c ^^^ b) j=bitsK b c j ^^^ (b / 2 ^ j):=by
 induction j with
 | zero=>simp[plainK,bitsK]
 | succ j d=>
   have hd:b / 2 ^ (j+1)=b / 2 ^ j / 2:=by rw[Nat.pow_succ,Nat.div_div_eq_div_mul]
   rw[plainK,bitsK,d,plainStep,bitStep,hd,rd]
   split
   ·rw[Nat.xor_assoc,Nat.xor_assoc,Nat.xor_comm (b / 2 ^ j / 2)]
   ·rfl
theorem byte_plain {c b:Nat} (hb:b<256):byteStep c b=plainK (c ^^^ b) 8:=by
 have h:b / 2 ^ 8=0:=Nat.div_eq_of_lt hb;rw[mW,h,Nat.xor_zero];rfl
theorem flip {c:Nat} (h:c<4294967296):c ^^^ 4294967295=4294967295-c:=by
 have e:(4294967295:Nat)=2 ^ 32-1:=by decide
 apply Nat.eq_of_testBit_eq
 intro i;rw[Nat.testBit_xor,e,Nat.testBit_two_pow_sub_one];have:=Nat.testBit_two_pow_sub_succ (n:=32) (x:=c) h i;have w:2 ^ 32-(c+1)=2 ^ 32-1-c:=by omega
 rw[w] at this;rw[this]
 by_cases hi:i<32
 ·simp[hi]
 ·have h2:2 ^ 32≤2 ^ i:=Nat.pow_le_pow_right (by decide) (by omega)
  have d:c.testBit i=false:=Nat.testBit_lt_two_pow (by omega)
  simp[hi,d]
def sumR (s:ByteArray):Int:=4294967295-(crc s.data.toList:Int)
theorem take_snoc (s:ByteArray) (k:Nat) (h:k<s.size):s.data.toList.take (k+1)=s.data.toList.take k++[s[k]]:=by
 rw[List.take_succ_eq_append_getElem (by simpa using h)];rfl
theorem crc_step (s:ByteArray) (k:Nat) (h:k<s.size):crc (s.data.toList.take (k+1))=byteStep (crc (s.data.toList.take k)) s[k].toNat:=by rw[take_snoc s k h,qL]
theorem crc_whole (s:ByteArray):crc (s.data.toList.take s.size)=crc s.data.toList:=by rw[List.take_of_length_le (by simp)]
end Go.Proofs.YtdajolpoiffimabGreatDoor.Crc

namespace Go.Proofs.YtdajolpoiffimabGreatDoor
namespace Bx
def b1 (n:Int):ByteArray:=⟨#[UInt8.ofNat (n % 256).toNat]⟩
def be (n:Int):Nat→ByteArray
 | 0=>ByteArray.empty
 | k+1=>be (n / 256) k++b1 n
theorem b1_size (n:Int):(b1 n).size=1:=rfl
theorem be_size (n:Int) (k:Nat):(be n k).size=k:=by
 induction k generalizing n with
 | zero=>rfl
 | succ k d=>rw[be,ByteArray.size_append,d,b1_size]
def frame (b:ByteArray):ByteArray:=be b.size 2++b++be (Crc.sumR b) 4
theorem frame_size (b:ByteArray):(frame b).size=b.size+6:=by
 rw[frame,ByteArray.size_append,ByteArray.size_append,be_size,be_size];omega
structure Ch where
 kind:Int
 tab:ByteArray
 n:Int
def body (c:Ch):ByteArray:=b1 c.kind++(if c.kind=84 then c.tab else if c.kind=67 then be c.n 5 else be c.n 2)
theorem body_size (c:Ch):(body c).size≤c.tab.size+6:=by
 unfold body;rw[ByteArray.size_append,b1_size]
 split
 ·omega
 ·split<;>rw[be_size]<;>omega
def frames (l:List Ch):ByteArray:=l.foldl (fun s c=>s++frame (body c)) ByteArray.empty
theorem frames_snoc (l:List Ch) (c:Ch):frames (l++[c])=frames l++frame (body c):=by simp[frames]
end Bx
namespace Bx
def nb (l:List UInt8):Int:=l.foldl (fun n b=>n*256+(b.toNat:Int)) 0
abbrev nB (s:ByteArray):Int:=nb s.data.toList
theorem nb_snoc (l:List UInt8) (b:UInt8):nb (l++[b])=nb l*256+(b.toNat:Int):=by simp[nb]
theorem snoc_ind {P:List UInt8→Prop} (h0:P []) (h1:∀l b,P l→P (l++[b])) (l:List UInt8):P l:=by
 have:∀n (l:List UInt8),l.length=n→P l:=by
  intro n
  induction n with
  | zero=>intro l h;rw[List.eq_nil_of_length_eq_zero h];exact h0
  | succ n w=>
    intro l h;have d:l≠[]:=by intro e;rw[e] at h;simp at h
    rw[←List.dropLast_concat_getLast d];exact h1 _ _ (w _ (by simp[h]))
 exact this _ l rfl
theorem nb_nonneg (l:List UInt8):0≤nb l:=by
 induction l using snoc_ind with
 | h0=>simp[nb]
 | h1 l b d=>rw[nb_snoc];omega
theorem nb_lt (l:List UInt8):nb l<256 ^ l.length:=by
 induction l using snoc_ind with
 | h0=>simp[nb]
 | h1 l b d=>
   have hb:(b.toNat:Int)<256:=by have:=b.toNat_lt;omega
   rw[nb_snoc,List.length_append,List.length_singleton,Int.pow_succ];omega
theorem b1_list (n:Int):(b1 n).data.toList=[UInt8.ofNat (n % 256).toNat]:=rfl
theorem be_list_succ (n:Int) (k:Nat):(be n (k+1)).data.toList=(be (n / 256) k).data.toList++[UInt8.ofNat (n % 256).toNat]:=by
 rw[be,ByteArray.data_append,Array.toList_append,b1_list]
theorem byte_of (n:Int):((UInt8.ofNat (n % 256).toNat).toNat:Int)=n % 256:=by
 have h1:0≤n % 256:=by omega
 have h2:n % 256<256:=by omega
 rw[UInt8.toNat_ofNat'];omega
theorem nB_be (n:Int) (k:Nat) (h0:0≤n) (h1:n<256 ^ k):nB (be n k)=n:=by
 induction k generalizing n with
 | zero=>simp at h1;have:n=0:=by omega
         subst this;rfl
 | succ k d=>
   unfold nB;rw[be_list_succ,nb_snoc,byte_of];have:=d (n / 256) (by omega) (by rw[Int.pow_succ] at h1;omega)
   unfold nB at this;rw[this];omega
theorem be_nb (l:List UInt8):(be (nb l) l.length).data.toList=l:=by
 induction l using snoc_ind with
 | h0=>rfl
 | h1 l b d=>
   have hb:(b.toNat:Int)<256:=by have:=b.toNat_lt;omega
   rw[List.length_append,List.length_singleton,be_list_succ,nb_snoc];have e:(nb l*256+(b.toNat:Int)) / 256=nb l:=by omega
   have w:(nb l*256+(b.toNat:Int)) % 256=(b.toNat:Int):=by omega
   rw[e,w,d];simp
theorem ba_ext {a b:ByteArray} (h:a.data.toList=b.data.toList):a=b:=by
 cases a;cases b;simp at h;rw[h]
theorem ba_len (s:ByteArray):s.data.toList.length=s.size:=by simp
theorem be_nB (s:ByteArray):be (nB s) s.size=s:=ba_ext (by rw[←ba_len];exact be_nb _)
theorem be_nB' {s:ByteArray}{k:Nat} (h:s.size=k):be (nB s) k=s:=by subst h;exact be_nB s
structure PS where
 rest:ByteArray
 wrong:Bool
def txtP (k:Int) (p:PS):ByteArray×PS:=
 if k<0∨(p.rest.size:Int)<k then (ByteArray.empty,⟨p.rest,true⟩) else (p.rest.extract 0 k.toNat,⟨p.rest.extract k.toNat p.rest.size,p.wrong⟩)
def numP (k:Nat) (p:PS):Int×PS:=(nB (txtP k p).1,(txtP k p).2)
theorem ext_split (s:ByteArray) (k:Nat):s.extract 0 k++s.extract k s.size=s:=by
 refine ba_ext ?_;rw[ByteArray.data_append,Array.toList_append,ByteArray.data_extract,ByteArray.data_extract];have d:=ba_len s;have:List.take (s.size-k) (List.drop k s.data.toList)=List.drop k s.data.toList:=List.take_of_length_le (by rw[List.length_drop];omega)
 simp[this]
theorem txtP_right {k:Int}{p:PS} (h:(txtP k p).2.wrong=false):p.wrong=false∧p.rest=(txtP k p).1++(txtP k p).2.rest∧((txtP k p).1.size:Int)=k:=by
 unfold txtP at h ⊢
 split at h
 ·cases h
 ·rename_i hc
  rw[if_neg hc];refine⟨h,(ext_split _ _).symm,?_⟩;simp;omega
theorem txtP_app (t r:ByteArray) (b:Bool) (k:Int) (h:(t.size:Int)=k):txtP k ⟨t++r,b⟩=(t,⟨r,b⟩):=by
 have w:(t++r).size=t.size+r.size:=ByteArray.size_append;have e:¬(k<0∨((t++r).size:Int)<k):=by omega
 have I:k.toNat=t.size:=by omega
 unfold txtP;simp only;rw[if_neg e,I];have d:=ba_len t;have G:=ba_len r;have h1:(t++r).extract 0 t.size=t:=ba_ext (by rw[ByteArray.data_extract,ByteArray.data_append];simp[List.take_of_length_le (Nat.le_of_eq d)])
 have h2:(t++r).extract t.size (t++r).size=r:=ba_ext (by rw[ByteArray.data_extract,ByteArray.data_append,w];simp[List.drop_of_length_le (Nat.le_of_eq d),List.take_of_length_le (Nat.le_of_eq G)])
 rw[h1,h2]
theorem numP_right {k:Nat}{p:PS} (h:(numP k p).2.wrong=false):p.wrong=false∧p.rest=be (numP k p).1 k++(numP k p).2.rest∧0≤(numP k p).1∧(numP k p).1<256 ^ k:=by
 obtain⟨h1,h2,e⟩:=txtP_right (k:=(k:Int)) (p:=p) h;have d:(txtP k p).1.size=k:=by omega
 refine⟨h1,?_,nb_nonneg _,?_⟩
 ·show p.rest=be (nB (txtP k p).1) k++(txtP k p).2.rest
  rw[be_nB' d];exact h2
 ·have:=nb_lt (txtP k p).1.data.toList;rw[ba_len,d] at this;exact this
theorem numP_be (n:Int) (k:Nat) (r:ByteArray) (b:Bool) (h0:0≤n) (h1:n<256 ^ k):numP k ⟨be n k++r,b⟩=(n,⟨r,b⟩):=by
 unfold numP;rw[txtP_app _ _ _ _ (by rw[be_size])]
 exact Prod.ext (nB_be n k h0 h1) rfl
theorem numP_bd (k:Nat) (p:PS):0≤(numP k p).1:=nb_nonneg _
theorem numP_lt (k:Nat) (p:PS):(numP k p).1<256 ^ k:=by
 show nB (txtP k p).1<_
 unfold txtP;split
 ·exact Int.pow_pos (by decide)
 ·have:=nb_lt (p.rest.extract 0 (k:Int).toNat).data.toList;rw[ba_len] at this;have d:(p.rest.extract 0 (k:Int).toNat).size=k:=by simp;omega
  rw[d] at this;exact this
end Bx
end Go.Proofs.YtdajolpoiffimabGreatDoor

namespace Go.Proofs.YtdajolpoiffimabGreatDoor.Cal
def lp (y:Int):Int:=if y % 400=0∨(y % 4=0∧¬y % 100=0) then 1 else 0
def dby (y:Int):Int:=365*(y-1970)+((y-1) / 4-(y-1) / 100+(y-1) / 400-477)
def dim (y m:Int):Int:=if m=2 then 28+lp y else if m=4∨m=6∨m=9∨m=11 then 30 else 31
def cum (y m:Int):Int:=
 if m≤1 then 0 else if m=2 then 31 else
 (if m=3 then 59 else if m=4 then 90 else if m=5 then 120 else if m=6 then 151 else if m=7 then 181 else
  if m=8 then 212 else if m=9 then 243 else if m=10 then 273 else if m=11 then 304 else if m=12 then 334 else 365)+lp y
theorem lp_01 (y:Int):0≤lp y∧lp y≤1:=by unfold lp;split<;>omega
theorem lp_yes {y:Int} (h:y % 400=0∨(y % 4=0∧¬y % 100=0)):lp y=1:=if_pos h
theorem lp_no {y:Int} (h:¬(y % 400=0∨(y % 4=0∧¬y % 100=0))):lp y=0:=if_neg h
theorem dby_succ (y:Int):dby (y+1)=dby y+365+lp y:=by unfold dby lp;split<;>omega
theorem pq:dby 1970=0:=by decide
theorem dby_10000:dby 10000=2932897:=by decide
theorem gG {a b:Int} (h:a≤b):dby a≤dby b:=by unfold dby;omega
theorem dby_bd {a:Int} (h0:1970≤a) (h:a≤10000):0≤dby a∧dby a≤2932897:=by
 have h1:=gG h0;have h2:=gG h;rw[pq] at h1;rw[dby_10000] at h2;exact⟨h1,h2⟩
theorem dby_guess (d:Int) (h:0≤d):dby (1970+d / 366)≤d:=by unfold dby;omega
theorem dby_cycle (d:Int):dby (1970+400*(d / 146097))=d-d % 146097:=by unfold dby;omega
theorem dim_lo (y m:Int):28≤dim y m∧dim y m≤31:=by
 have:=lp_01 y;unfold dim;split
 ·omega
 ·split<;>omega
theorem cum_succ (y m:Int) (h1:1≤m) (h2:m≤12):cum y (m+1)=cum y m+dim y m:=by
 have:=lp_01 y;have:m=1∨m=2∨m=3∨m=4∨m=5∨m=6∨m=7∨m=8∨m=9∨m=10∨m=11∨m=12:=by omega
 rcases this with rfl|rfl|rfl|rfl|rfl|rfl|rfl|rfl|rfl|rfl|rfl|rfl<;>simp[cum,dim]<;>omega
theorem cum_1 (y:Int):cum y 1=0:=by simp[cum]
theorem cum_13 (y:Int):cum y 13=365+lp y:=by simp[cum]
theorem cum_bd (y m:Int):0≤cum y m∧cum y m≤366:=by
 have:=lp_01 y;unfold cum;repeat' split
 all_goals omega
theorem qj (y a b:Int) (h1:1≤a) (h:a≤b) (h2:b≤13):cum y a≤cum y b:=by
 obtain⟨n,rfl⟩:∃n:Nat,b=a+n:=⟨(b-a).toNat,by omega⟩
 induction n with
 | zero=>simp
 | succ n w=>
   have i:=w (by omega) (by omega)
   have s:=cum_succ y (a+n) (by omega) (by omega)
   have d:=dim_lo y (a+n);have e:a+((n+1:Nat):Int)=a+n+1:=by omega
   rw[e];omega
theorem kH (y a b:Int) (h1:1≤a) (h:a<b) (h2:b≤13):cum y a+dim y a≤cum y b:=by
 have:=cum_succ y a h1 (by omega)
 have:=qj y (a+1) b (by omega) (by omega) h2
 omega
structure IsD (n y m d:Int):Prop where
 y1:1970≤y
 y2:y≤9999
 m1:1≤m
 m2:m≤12
 d1:1≤d
 d2:d≤dim y m
 num:dby y+cum y m+d-1=n
theorem IsD.year {n y m d:Int} (h:IsD n y m d):dby y≤n∧n<dby (y+1):=by
 have a:=h.num;have b:=h.d1;have c:=h.d2;have e:=dby_succ y;have f:=cum_bd y m;have g:=kH y m 13 h.m1 (by have:=h.m2;omega) (by omega)
 rw[cum_13] at g;omega
theorem IsD.uniq {n y m d e w I:Int} (h:IsD n y m d) (G:IsD n e w I):y=e∧m=w∧d=I:=by
 have a:=h.year;have b:=G.year
 have J:y=e:=by
  rcases Int.lt_trichotomy y e with c|c|c
  ·have:=gG (a:=y+1) (b:=e) (by omega);omega
  ·exact c
  ·have:=gG (a:=e+1) (b:=y) (by omega);omega
 subst J;have n1:=h.num;have n2:=G.num;have d1:=h.d1;have d2:=h.d2;have U:=G.d1;have Q:=G.d2
 have O:m=w:=by
  rcases Int.lt_trichotomy m w with c|c|c
  ·have:=kH y m w h.m1 c (by have:=G.m2;omega);omega
  ·exact c
  ·have:=kH y w m G.m1 c (by have:=h.m2;omega);omega
 subst O;exact⟨rfl,rfl,by omega⟩
def num (y m d h i:Int):Int:=(dby y+cum y m+d-1)*1440+h*60+i
def len (m:Int):Int:=if m=2 then 28 else if m=4∨m=6∨m=9∨m=11 then 30 else 31
theorem dim_29 {y:Int} (h:lp y=1):dim y 2=29:=by simp[dim,h]
theorem dim_len {y m:Int} (h:¬m=2∨lp y=0):dim y m=len m:=by
 unfold dim len;rcases h with h|h
 ·simp[h]
 ·simp[h]
end Go.Proofs.YtdajolpoiffimabGreatDoor.Cal

namespace Go.Proofs.YtdajolpoiffimabGreatDoor
namespace Bx
structure Ln where
 catch':Int
 due:Int→Bool
def Cnt (l:Ln) (m t:Int):Prop:=l.due t=true∧(l.catch'=110→t=m)∧(l.catch'=108→∀u,t<u→u≤m→l.due u=false)
def Lt (p q:Nat×Int):Prop:=p.2<q.2∨(p.2=q.2∧p.1<q.1)
theorem Lt.irrefl (p:Nat×Int):¬Lt p p:=by unfold Lt;omega
theorem Lt.asymm {p q:Nat×Int} (h:Lt p q):¬Lt q p:=by unfold Lt at *;omega
theorem Lt.total (p q:Nat×Int):Lt p q∨p=q∨Lt q p:=by
 unfold Lt
 rcases Int.lt_trichotomy p.2 q.2 with h|h|h
 ·exact Or.inl (Or.inl h)
 ·rcases Nat.lt_trichotomy p.1 q.1 with d|d|d
  ·exact Or.inl (Or.inr ⟨h,d⟩)
  ·exact Or.inr (Or.inl (Prod.ext d h))
  ·exact Or.inr (Or.inr (Or.inr ⟨h.symm,d⟩))
 ·exact Or.inr (Or.inr (Or.inl h))
theorem sorted_eq:∀(a b:List (Nat×Int)),a.Pairwise Lt→b.Pairwise Lt→(∀p,p∈a↔p∈b)→a=b
 | [],[],_,_,_=>rfl
 | [],q::b,_,_,h=>by have:=(h q).2 (by simp);simp at this
 | p::a,[],_,_,h=>by have:=(h p).1 (by simp);simp at this
 | p::a,q::b,ha,hb,h=>by
   rw[List.pairwise_cons] at ha hb
   have e:p=q:=by
    rcases Lt.total p q with c|c|c
    ·rcases List.mem_cons.1 ((h p).1 (by simp)) with e|e
     ·exact e
     ·exact absurd (hb.1 p e) c.asymm
    ·exact c
    ·rcases List.mem_cons.1 ((h q).2 (by simp)) with e|e
     ·exact e.symm
     ·exact absurd (ha.1 q e) c.asymm
   subst e
   have t:a=b:=sorted_eq a b ha.2 hb.2 fun r=>by
    constructor
    ·intro d
     rcases List.mem_cons.1 ((h r).1 (by simp[d])) with e|e
     ·subst e;exact absurd (ha.1 r d) (Lt.irrefl r)
     ·exact e
    ·intro d
     rcases List.mem_cons.1 ((h r).2 (by simp[d])) with e|e
     ·subst e;exact absurd (hb.1 r d) (Lt.irrefl r)
     ·exact e
   rw[t]
structure ComesR (ls:List Ln) (a m:Int) (out:List (Nat×Int)):Prop where
 ord:out.Pairwise Lt
 mem:∀i t,(i,t)∈out↔∃h:i<ls.length,a≤t∧t≤m∧Cnt ls[i] m t
theorem ComesR.uniq {ls:List Ln}{a m:Int}{o p:List (Nat×Int)} (h:ComesR ls a m o) (d:ComesR ls a m p):o=p:=
 sorted_eq o p h.ord d.ord fun ⟨i,t⟩=>(h.mem i t).trans (d.mem i t).symm
open Classical in
noncomputable def row (ls:List Ln) (m t:Int):Nat→List (Nat×Int)
 | 0=>[]
 | k+1=>row ls m t k++(if h:k<ls.length then (if Cnt ls[k] m t then [(k,t)] else []) else [])
noncomputable def rows (ls:List Ln) (a m:Int):Nat→List (Nat×Int)
 | 0=>[]
 | k+1=>rows ls a m k++row ls m (a+k) ls.length
noncomputable def comes (ls:List Ln) (a m:Int):List (Nat×Int):=rows ls a m (m+1-a).toNat
theorem row_mem (ls:List Ln) (m t:Int) (k i:Nat) (u:Int):(i,u)∈row ls m t k↔u=t∧i<k∧∃h:i<ls.length,Cnt ls[i] m t:=by
 induction k with
 | zero=>simp[row]
 | succ k w=>
   rw[row,List.mem_append,w]
   constructor
   ·rintro (⟨e,h,h2⟩|h)
    ·exact⟨e,by omega,h2⟩
    ·split at h
     ·rename_i hk
      split at h
      ·rename_i c
       simp at h
       obtain⟨rfl,rfl⟩:=h;exact⟨rfl,by omega,hk,c⟩
      ·simp at h
     ·simp at h
   ·rintro ⟨e,h,h2,d⟩
    by_cases hi:i<k
    ·exact Or.inl ⟨e,hi,h2,d⟩
    ·obtain rfl:i=k:=by omega
     subst e
     right
     rw[dif_pos h2,if_pos d];simp
theorem row_ord (ls:List Ln) (m t:Int) (k:Nat):(row ls m t k).Pairwise Lt:=by
 induction k with
 | zero=>simp[row]
 | succ k w=>
   rw[row,List.pairwise_append];refine⟨w,?_,?_⟩
   ·split
    ·split<;>simp
    ·simp
   ·rintro ⟨i,u⟩ e q d;have h1:=(row_mem ls m t k i u).1 e
    split at d
    ·split at d
     ·simp at d;subst d;unfold Lt;simp;omega
     ·simp at d
    ·simp at d
theorem rows_mem (ls:List Ln) (a m:Int) (k i:Nat) (u:Int):(i,u)∈rows ls a m k↔a≤u∧u<a+k∧∃h:i<ls.length,Cnt ls[i] m u:=by
 induction k with
 | zero=>simp[rows];omega
 | succ k w=>
   rw[rows,List.mem_append,w,row_mem]
   constructor
   ·rintro (⟨h,h2,d⟩|⟨rfl,h,h2,d⟩)
    ·exact⟨h,by omega,d⟩
    ·exact⟨by omega,by omega,h2,d⟩
   ·rintro ⟨h,h2,d,e⟩
    by_cases hi:u<a+k
    ·exact Or.inl ⟨h,hi,d,e⟩
    ·obtain rfl:u=a+k:=by omega
     exact Or.inr ⟨rfl,d,d,e⟩
theorem rows_ord (ls:List Ln) (a m:Int) (k:Nat):(rows ls a m k).Pairwise Lt:=by
 induction k with
 | zero=>simp[rows]
 | succ k e=>
   rw[rows,List.pairwise_append];refine⟨e,row_ord _ _ _ _,?_⟩;rintro ⟨i,u⟩ d ⟨j,v⟩ w;have h1:=(rows_mem ls a m k i u).1 d;have h2:=(row_mem ls m (a+k) _ j v).1 w;unfold Lt;simp;omega
theorem comes_ok (ls:List Ln) (a m:Int):ComesR ls a m (comes ls a m):=by
 refine⟨rows_ord _ _ _ _,fun i t=>?_⟩
 rw[comes,rows_mem]
 constructor
 ·rintro ⟨h,h2,e,d⟩;exact⟨e,h,by omega,d⟩
 ·rintro ⟨h,h2,e,d⟩;exact⟨h2,by omega,h,d⟩
theorem row_len (ls:List Ln) (m t:Int) (k:Nat):(row ls m t k).length≤k:=by
 induction k with
 | zero=>simp[row]
 | succ k d=>
   rw[row,List.length_append]
   split
   ·split<;>simp<;>omega
   ·simp;omega
theorem rows_len (ls:List Ln) (a m:Int) (k:Nat):(rows ls a m k).length≤k*ls.length:=by
 induction k with
 | zero=>simp[rows]
 | succ k d=>
   rw[rows,List.length_append,Nat.succ_mul];have:=row_len ls m (a+k) ls.length;omega
theorem comes_len (ls:List Ln) (a m:Int):(comes ls a m).length≤(m+1-a).toNat*ls.length:=rows_len _ _ _ _
end Bx
namespace Bx
def hd (E:List (List Int)) (i:Nat):Int:=(E.getD i []).headD 0
def many (E:List (List Int)) (i:Nat):Nat:=(E.getD i []).length
def bestK (E:List (List Int)):Nat→Int
 | 0=> -1
 | k+1=>if 0<many E k∧(bestK E k<0∨hd E k<hd E (bestK E k).toNat) then (k:Int) else bestK E k
structure Best (E:List (List Int)) (k:Nat) (b:Int):Prop where
 lo: -1≤b
 hi:b<k
 non:b= -1→∀i,i<k→many E i=0
 has:0≤b→0<many E b.toNat∧∀i,i<k→0<many E i→hd E b.toNat<hd E i∨(hd E b.toNat=hd E i∧b.toNat≤i)
theorem best_ok (E:List (List Int)) (k:Nat):Best E k (bestK E k):=by
 induction k with
 | zero=>exact⟨by simp[bestK],by simp[bestK],fun _ i hi=>by omega,fun h=>by simp[bestK] at h⟩
 | succ k d=>
   unfold bestK;generalize bestK E k=b at *
   split
   ·rename_i c
    refine⟨by omega,by omega,fun h=>by omega,fun _=>⟨by simpa using c.1,fun i hi hm=>?_⟩⟩
    simp only [Int.toNat_natCast]
    by_cases e:i=k
    ·subst e;exact Or.inr ⟨rfl,Nat.le_refl _⟩
    ·rcases c.2 with c2|c2
     ·have:=d.non (by have:=d.lo;omega) i (by omega);omega
     ·by_cases hb:0≤b
      ·rcases (d.has hb).2 i (by omega) hm with h|h
       ·exact Or.inl (by omega)
       ·exact Or.inl (by omega)
      ·have:=d.non (by have:=d.lo;omega) i (by omega);omega
   ·rename_i c
    refine⟨d.lo,by have:=d.hi;omega,fun h i hi=>?_,fun h=>⟨(d.has h).1,fun i hi hm=>?_⟩⟩
    ·by_cases e:i=k
     ·subst e
      rcases Nat.eq_zero_or_pos (many E i) with z|z
      ·exact z
      ·exact absurd ⟨z,Or.inl (by omega)⟩ c
     ·exact d.non h i (by omega)
    ·by_cases e:i=k
     ·subst e;have:=(d.has h).1;have G:=d.hi
      by_cases w:hd E i<hd E b.toNat
      ·exact absurd ⟨hm,Or.inr w⟩ c
      ·omega
     ·exact (d.has h).2 i (by omega) hm
def total (E:List (List Int)):Nat:=(E.map List.length).sum
theorem total_zero {E:List (List Int)} (h:∀i,i<E.length→many E i=0):total E=0:=by
 induction E with
 | nil=>rfl
 | cons a r e=>
   have h0:=h 0 (by simp)
   have d:=e fun i hi=>by have:=h (i+1) (by simp;omega);simpa [many] using this
   simp[total,many] at h0 d ⊢
   exact⟨h0,by simpa using d⟩
theorem total_set {E:List (List Int)}{b:Nat}{t:Int}{r:List Int} (hb:b<E.length) (h:E[b]=t::r):total (E.set b r)+1=total E:=by
 induction E generalizing b with
 | nil=>simp at hb
 | cons a q d=>
   cases b with
   | zero=>simp at h;subst h;simp[total];omega
   | succ b=>have:=d (b:=b) (by simpa using hb) (by simpa using h);simp[total] at this ⊢;omega
theorem mem_of_zero {E:List (List Int)} (h:total E=0) (i:Nat):E.getD i []=[]:=by
 induction E generalizing i with
 | nil=>simp
 | cons a q d=>
   simp[total] at h
   cases i with
   | zero=>simpa using h.1
   | succ i=>simpa using d (by simpa [total] using h.2) i
structure Mg (E0 E:List (List Int)) (out:List (Nat×Int)):Prop where
 len:E.length=E0.length
 ord:out.Pairwise Lt
 bef:∀p∈out,∀i t,t∈E.getD i []→Lt p (i,t)
 all:∀i t,((i,t)∈out∨t∈E.getD i [])↔t∈E0.getD i []
 asc:∀i,(E.getD i []).Pairwise (· < ·)
 tot:out.length+total E=total E0
theorem Mg.start {E:List (List Int)} (h:∀i,(E.getD i []).Pairwise (· < ·)):Mg E E []:=
 ⟨rfl,List.Pairwise.nil,by simp,by simp,h,by simp⟩
theorem getD_set {E:List (List Int)}{b i:Nat}{r:List Int} (hb:b<E.length):(E.set b r).getD i []=if i=b then r else E.getD i []:=by
 simp only [List.getD_eq_getElem?_getD,List.getElem?_set]
 by_cases h:b=i
 ·subst h;simp[hb]
 ·simp[h,Ne.symm h]
theorem Mg.next {O E:List (List Int)}{out:List (Nat×Int)} (M:Mg O E out) {b:Nat}{t:Int}{r:List Int} (hb:b<E.length) (Q:E[b]=t::r) (hB:Best E E.length b):Mg O (E.set b r) (out++[(b,t)]):=by
 have G:E.getD b []=t::r:=by rw[List.getD_eq_getElem?_getD,List.getElem?_eq_getElem hb,Q];rfl
 have J:∀i u,u∈(E.set b r).getD i []→Lt (b,t) (i,u):=by
  intro i u d;rw[getD_set hb] at d;have I:=M.asc i
  by_cases h:i=b
  ·subst h;rw[if_pos rfl] at d;rw[G,List.pairwise_cons] at I;exact Or.inl (I.1 u d)
  ·rw[if_neg h] at d
   have hi:i<E.length:=by
    rcases Nat.lt_or_ge i E.length with c|c
    ·exact c
    ·rw[List.getD_eq_getElem?_getD,List.getElem?_eq_none c] at d;simp at d
   have h2:=(hB.has (by omega)).2 i hi (by unfold many;exact List.length_pos_of_mem d)
   have U:hd E (Int.toNat (b:Int))=t:=by unfold hd;rw[Int.toNat_natCast,G];rfl
   rw[U] at h2;simp only [Int.toNat_natCast] at h2
   cases w:E.getD i [] with
   | nil=>rw[w] at d;simp at d
   | cons v s=>
     have V:hd E i=v:=by unfold hd;rw[w];rfl
     rw[V] at h2;rw[w,List.pairwise_cons] at I;rw[w] at d;unfold Lt
     rcases List.mem_cons.1 d with rfl|d
     ·rcases h2 with h2|⟨h2,Y⟩
      ·exact Or.inl h2
      ·exact Or.inr ⟨h2,by simp;omega⟩
     ·have:=I.1 u d;exact Or.inl (by simp;omega)
 refine⟨by simp[M.len],?_,?_,?_,?_,?_⟩
 ·rw[List.pairwise_append];refine⟨M.ord,by simp,fun p e q w=>?_⟩
  simp at w;subst w
  exact M.bef p e b t (by rw[G];simp)
 ·intro p e i u d
  rcases List.mem_append.1 e with e|e
  ·refine M.bef p e i u ?_;rw[getD_set hb] at d
   split at d
   ·rename_i h;subst h;rw[G];exact List.mem_cons_of_mem _ d
   ·exact d
  ·simp at e;subst e;exact J i u d
 ·intro i u;rw[←M.all i u,getD_set hb,List.mem_append]
  by_cases h:i=b
  ·subst h;rw[if_pos rfl,G];simp;constructor
   ·rintro ((h|h)|h)
    ·exact Or.inl h
    ·exact Or.inr (Or.inl h)
    ·exact Or.inr (Or.inr h)
   ·rintro (h|h|h)
    ·exact Or.inl (Or.inl h)
    ·exact Or.inl (Or.inr h)
    ·exact Or.inr h
  ·rw[if_neg h];simp[h]
 ·intro i;rw[getD_set hb]
  split
  ·have:=M.asc b;rw[G,List.pairwise_cons] at this;exact this.2
  ·exact M.asc i
 ·have:=M.tot;have:=total_set hb Q;simp;omega
theorem Mg.done {d E:List (List Int)}{out:List (Nat×Int)} (M:Mg d E out) (h:out.length=total d):∀i t,(i,t)∈out↔t∈d.getD i []:=by
 intro i t;have z:total E=0:=by have:=M.tot;omega
 rw[←M.all i t,mem_of_zero z i];simp
theorem Mg.more {G E:List (List Int)}{out:List (Nat×Int)} (M:Mg G E out) (h:out.length<total G):∃b:Nat,∃t r,∃hb:b<E.length,bestK E E.length=b∧E[b]=t::r∧hd E b=t:=by
 have B:=best_ok E E.length;have lo:=B.lo;have hi:=B.hi;generalize bestK E E.length=b at *
 have h0:0≤b:=by
  rcases Int.lt_or_le b 0 with c|c
  ·have:=total_zero (B.non (by omega));have:=M.tot;omega
  ·exact c
 obtain⟨n,rfl⟩:=Int.eq_ofNat_of_zero_le h0;have e:n<E.length:=by omega
 have d:=(B.has h0).1;simp only [Int.toNat_natCast] at d;unfold many at d;rw[List.getD_eq_getElem?_getD,List.getElem?_eq_getElem e] at d
 cases w:E[n] with
 | nil=>rw[Option.getD_some,w] at d;simp at d
 | cons t r=>exact⟨n,t,r,e,rfl,w,by unfold hd;rw[List.getD_eq_getElem?_getD,List.getElem?_eq_getElem e,Option.getD_some,w];rfl⟩
end Bx
namespace Bx
def dl (due:Int→Bool) (a:Int):Nat→List Int
 | 0=>[]
 | k+1=>dl due a k++(if due (a+k)=true then [a+(k:Int)] else [])
theorem dl_mem (due:Int→Bool) (a:Int) (k:Nat) (t:Int):t∈dl due a k↔a≤t∧t<a+k∧due t=true:=by
 induction k with
 | zero=>simp[dl];omega
 | succ k e=>
   rw[dl,List.mem_append,e]
   constructor
   ·rintro (⟨h,h2,d⟩|h)
    ·exact⟨h,by omega,d⟩
    ·split at h
     ·rename_i c;simp at h;subst h;exact⟨by omega,by omega,c⟩
     ·simp at h
   ·rintro ⟨h,h2,d⟩
    by_cases c:t<a+k
    ·exact Or.inl ⟨h,c,d⟩
    ·obtain rfl:t=a+k:=by omega
     right;rw[if_pos d];simp
theorem dl_asc (due:Int→Bool) (a:Int) (k:Nat):(dl due a k).Pairwise (· < ·):=by
 induction k with
 | zero=>simp[dl]
 | succ k e=>
   rw[dl,List.pairwise_append];refine⟨e,by split<;>simp,fun t w u d=>?_⟩
   have:=(dl_mem due a k t).1 w
   split at d
   ·simp at d;omega
   ·simp at d
theorem dl_len (due:Int→Bool) (a:Int) (k:Nat):(dl due a k).length≤k:=by
 induction k with
 | zero=>simp[dl]
 | succ k d=>rw[dl,List.length_append];split<;>simp<;>omega
def frm (l:Ln) (a m:Int):Int:=if l.catch'=110 then m else a
def dsL (l:Ln) (a m:Int):List Int:=dl l.due (frm l a m) (m+1-frm l a m).toNat
def cntL (l:Ln) (a m:Int):List Int:=if l.catch'=108∧1<(dsL l a m).length then (dsL l a m).drop ((dsL l a m).length-1) else dsL l a m
theorem last_max {d:List Int} (h:d.Pairwise (· < ·)) (G:0<d.length):∃t,d.drop (d.length-1)=[t]∧t∈d∧∀u∈d,u≤t:=by
 have e:d.length-1<d.length:=by omega
 refine⟨d[d.length-1],?_,List.getElem_mem _,fun u w=>?_⟩
 ·rw[List.drop_eq_getElem_cons e,List.drop_eq_nil_of_le (by omega)]
 ·obtain⟨i,hi,rfl⟩:=List.getElem_of_mem w
  by_cases c:i=d.length-1
  ·subst c;exact Int.le_refl _
  ·exact Int.le_of_lt (List.pairwise_iff_getElem.1 h i (d.length-1) hi e (by omega))
theorem cntL_ok (l:Ln) (a m:Int) (ha:a≤m):(cntL l a m).Pairwise (· < ·)∧∀t,t∈cntL l a m↔a≤t∧t≤m∧Cnt l m t:=by
 have hf:a≤frm l a m∧frm l a m≤m:=by unfold frm;split<;>omega
 have hd:∀t,t∈dsL l a m↔frm l a m≤t∧t≤m∧l.due t=true:=by
  intro t;rw[dsL,dl_mem];constructor
  ·rintro ⟨h,h2,d⟩;exact⟨h,by omega,d⟩
  ·rintro ⟨h,h2,d⟩;exact⟨h,by omega,d⟩
 have I:(dsL l a m).Pairwise (· < ·):=dl_asc _ _ _;unfold cntL
 by_cases c:l.catch'=108
 ·have J:frm l a m=a:=by unfold frm;rw[if_neg (by omega)]
  rw[J] at hd
  by_cases c2:1<(dsL l a m).length
  ·rw[if_pos ⟨c,c2⟩];obtain⟨t,e,h1,h2⟩:=last_max I (by omega)
   rw[e];refine⟨by simp,fun u=>?_⟩
   have q:=(hd t).1 h1
   constructor
   ·intro Y;simp at Y;subst Y;refine⟨q.1,q.2.1,q.2.2,fun h=>by omega,fun _ v hv G=>?_⟩
    cases w:l.due v
    ·rfl
    ·have:=h2 v ((hd v).2 ⟨by omega,G,w⟩);omega
   ·rintro ⟨V,Q,O,_,U⟩;have:=h2 u ((hd u).2 ⟨V,Q,O⟩)
    rcases Int.lt_or_le u t with c3|c3
    ·have:=U c t c3 q.2.1;rw[q.2.2] at this;cases this
    ·simp;omega
  ·rw[if_neg (by omega)]
   refine⟨I,fun t=>?_⟩
   rw[hd]
   constructor
   ·rintro ⟨h1,h2,d⟩;refine⟨h1,h2,d,fun h=>by omega,fun _ v hv G=>?_⟩
    cases w:l.due v
    ·rfl
    ·have m1:=(hd t).2 ⟨h1,h2,d⟩;have m2:=(hd v).2 ⟨by omega,G,w⟩
     exfalso
     match hq:dsL l a m,c2,m1,m2 with
     | [],_,m1,_=>simp at m1
     | [x],_,m1,m2=>simp at m1 m2;omega
     | x::y::r,c2,_,_=>simp at c2
   ·rintro ⟨h1,h2,d,_⟩;exact⟨h1,h2,d⟩
 ·rw[if_neg (by omega)]
  refine⟨I,fun t=>?_⟩
  rw[hd]
  constructor
  ·rintro ⟨h1,h2,d⟩;refine⟨by omega,h2,d,fun h=>?_,fun h=>absurd h c⟩
   have:frm l a m=m:=by unfold frm;rw[if_pos h]
   omega
  ·rintro ⟨h1,h2,d,Z,_⟩;refine⟨?_,h2,d⟩;unfold frm;split
   ·rename_i h;have:=Z h;omega
   ·exact h1
theorem Mg.comes {ls:List Ln}{a m:Int}{E:List (List Int)}{out:List (Nat×Int)} (d:a≤m) (M:Mg (ls.map fun l=>cntL l a m) E out) (h:out.length=total (ls.map fun l=>cntL l a m)):out=comes ls a m:=by
 refine ComesR.uniq (ls:=ls) (a:=a) (m:=m) ⟨M.ord,fun i t=>?_⟩ (comes_ok ls a m)
 rw[M.done h i t,List.getD_eq_getElem?_getD,List.getElem?_map]
 constructor
 ·intro hm
  rcases Nat.lt_or_ge i ls.length with c|c
  ·rw[List.getElem?_eq_getElem c] at hm;exact⟨c,((cntL_ok ls[i] a m d).2 t).1 hm⟩
  ·rw[List.getElem?_eq_none c] at hm;simp at hm
 ·rintro ⟨c,e⟩;rw[List.getElem?_eq_getElem c];exact ((cntL_ok ls[i] a m d).2 t).2 e
theorem each_asc {ls:List Ln}{a m:Int} (d:a≤m) (i:Nat):((ls.map fun l=>cntL l a m).getD i []).Pairwise (· < ·):=by
 rw[List.getD_eq_getElem?_getD,List.getElem?_map]
 rcases Nat.lt_or_ge i ls.length with c|c
 ·rw[List.getElem?_eq_getElem c];exact (cntL_ok ls[i] a m d).1
 ·rw[List.getElem?_eq_none c];simp
end Bx
end Go.Proofs.YtdajolpoiffimabGreatDoor

namespace Go.Proofs.YtdajolpoiffimabGreatDoor
open Go.RowKit
theorem ig {k:IntKind}{a b:Int} (h:a=b):Ending.returned (.int k a)=.returned (.int k b):=by rw[h]
theorem gh (a b:Nat) (d:a<4294967296) (hb:b<4294967296):bits .xor .i64 (a:Int) (b:Int)=((a ^^^ b:Nat):Int):=by
 have e:a ^^^ b<2 ^ 32:=Nat.xor_lt_two_pow (by omega) (by omega)
 show IntKind.i64.wrap ((BitVec.ofInt 64 (a:Int) ^^^ BitVec.ofInt 64 (b:Int)).toNat:Int)=_
 rw[BitVec.toNat_xor,ofInt_u64 a (by omega),ofInt_u64 b (by omega),IntKind.wrap_i64]
 omega
theorem pD (c:Nat) (d:c<4294967296):bits .xor .i64 ((c:Int) / 2) 3988292384=((c / 2 ^^^ Crc.poly:Nat):Int):=by
 have:=gh (c / 2) Crc.poly (by omega) (by decide)
 have e:((Crc.poly:Nat):Int)=3988292384:=rfl;rw[e] at this;simpa using this
theorem px (c:Nat) (d:c<4294967296):bits .xor .i64 (c:Int) 4294967295=4294967295-(c:Int):=by
 have:=gh c 4294967295 d (by decide)
 rw[Crc.flip d] at this;have e:((4294967295:Nat):Int)=4294967295:=rfl;rw[e] at this;rw[this];omega
theorem kZ {c:Nat} (h:c<4294967296):Crc.plainStep c<4294967296:=by
 unfold Crc.plainStep;split
 ·exact Crc.xor_lt (by omega) (by decide)
 ·omega
theorem oB {c:Nat} (h:c<4294967296) (j:Nat):Crc.plainK c j<4294967296:=by
 induction j with
 | zero=>exact h
 | succ j d=>exact kZ d
set_option maxHeartbeats 0 in
theorem oj (c:Nat) (w:World) (G:c<4294967296):
 Calls Tryz.prog 137 #[.int .i64 c] w fun e I=>e=.returned (.int .i64 (Crc.plainStep c:Nat))∧I=w:=by
 have P:=pD c G
 by_cases q:c % 2=1
 ·have t:((c:Int) % 2==1)=true:=by simp;omega
  have d:Hid (bits .xor .i64 ((c:Int) / 2) 3988292384=(Crc.plainStep c:Nat)):=by unfold Hid;rw[P,Crc.plainStep,if_pos q]
  clear P q
  go_enter Tryz.func137,Tryz.ntmps137
  go_wp2_with fail;go_ret;exact⟨ig d.out,rfl⟩
 ·have t:((c:Int) % 2==1)=false:=by simp;omega
  have d:Hid ((c:Int) / 2=(Crc.plainStep c:Nat)):=by unfold Hid;rw[Crc.plainStep,if_neg q];simp
  clear P q
  go_enter Tryz.func137,Tryz.ntmps137
  go_wp2_with fail;go_ret;exact⟨ig d.out,rfl⟩
set_option maxHeartbeats 0 in
theorem kp (s:ByteArray) (w:World) (Z:s.size≤maxLen):
 Calls Tryz.prog 105 #[.string s] w fun e w'=>e=.returned (.int .i64 (Crc.sumR s))∧w'=w:=by
 unfold maxLen at Z
 go_enter Tryz.func105,Tryz.ntmps105
 go_wp2_with fail
 go_loop [3,4] (fun c i=>∃(k:Nat),k≤s.size∧i=.int .i64 k∧c=.int .i64 (Crc.crc (s.data.toList.take k):Int)) (fun _ i=>s.size-(intOf i).toNat)
 case atStart=>exact⟨0,Nat.zero_le _,rfl,rfl⟩
 case round=>
  obtain⟨k,hk,rfl,rfl⟩:=hrel;obtain⟨x,I⟩:∃x:Nat,x=Crc.crc (s.data.toList.take k):=⟨_,rfl⟩;have d:x<4294967296:=by rw[I];exact Crc.crc_lt _
  have V:Hid (x=Crc.crc (s.data.toList.take k)):=I;rw[←I];clear I
  by_cases O:k<s.size
  ·have hb:=s[k].toNat_lt;have X:Hid (bits .xor .i64 (x:Int) (s[k].toNat:Int)=((x ^^^ s[k].toNat:Nat):Int)):=gh x s[k].toNat d (by omega)
   have HB:Hid (Crc.crc (s.data.toList.take (k+1))=Crc.plainK (x ^^^ s[k].toNat) 8):=by unfold Hid;rw[Crc.crc_step s k O,←V.out,Crc.byte_plain (by omega)]
   have J:x ^^^ s[k].toNat<4294967296:=Crc.xor_lt d (by omega)
   generalize (x ^^^ s[k].toNat)=z at *;have XB:=X.out;go_wp2_with fail
   go_loop [3,5] (fun c i=>∃(j:Nat),j≤8∧i=.int .i64 j∧c=.int .i64 (Crc.plainK z j:Nat)) (fun _ i=>8-(intOf i).toNat)
   case atStart=>exact⟨0,Nat.zero_le _,rfl,by first |rfl|rw[XB];rfl⟩
   case round=>
    obtain⟨j,hj,rfl,rfl⟩:=hrel;obtain⟨c,G⟩:∃c:Nat,c=Crc.plainK z j:=⟨_,rfl⟩;have Q:c<4294967296:=by rw[G];exact oB J j
    have U:Hid (c=Crc.plainK z j):=G;rw[←G];clear G
    by_cases ab:j<8
    ·have Y:Hid (Crc.plainK z (j+1)=Crc.plainStep c):=by unfold Hid;rw[U.out];rfl
     go_wp2_with fail;refine (oj c _ Q).mono ?_;rintro e w1 ⟨rfl,rfl⟩;go_wp2_with fail
     go_round
     case rel=>exact⟨j+1,by omega,by go_num,by rw[Y.out]⟩
     case measure=>simp[intOf];omega
    ·obtain rfl:j=8:=by omega
     go_wp2_with fail
     go_round
     case rel=>exact⟨k+1,by omega,by go_num,by rw[HB.out,←U.out]⟩
     case measure=>simp[intOf];omega
  ·obtain rfl:k=s.size:=by omega
   have HE:Hid (bits .xor .i64 (x:Int) 4294967295=Crc.sumR s):=by unfold Hid;rw[px x d,Crc.sumR,V.out,Crc.crc_whole]
   go_wp2_with fail;go_ret;exact⟨ig HE.out,rfl⟩
end Go.Proofs.YtdajolpoiffimabGreatDoor

namespace Go.Proofs.YtdajolpoiffimabGreatDoor.Txt
def fst (c:Int) (s:ByteArray):Nat:=s.data.toList.findIdx fun b=>(b.toNat:Int)==c
def NoSep (c:Int) (s:ByteArray) (a b:Nat):Prop:=∀j (hj:j<s.size),a≤j→j<b→((s[j].toNat:Int)==c)=false
theorem NoSep.nil (c:Int) (s:ByteArray) (a:Nat):NoSep c s a a:=fun _ _ h1 h2=>by omega
theorem NoSep.snoc {c:Int}{s:ByteArray}{a b:Nat} (h:NoSep c s a b) (hb:b<s.size) (e:((s[b].toNat:Int)==c)=false):NoSep c s a (b+1):=by
 intro j d h1 h2
 by_cases q:j=b
 ·subst q;exact e
 ·exact h j d h1 (by omega)
theorem nY {c:Int}{s:ByteArray}{k:Nat} (G:k<s.size) (e:((s[k].toNat:Int)==c)=true) (h:NoSep c s 0 k):fst c s=k:=by
 unfold fst;have w:k<s.data.toList.length:=by simpa using G
 rw[List.findIdx_eq w];refine⟨e,fun j d=>?_⟩
 exact h j (by omega) (by omega) d
theorem fst_no {c:Int}{s:ByteArray} (h:NoSep c s 0 s.size):fst c s=s.size:=by
 unfold fst;have:s.size=s.data.toList.length:=by simp
 rw[this,List.findIdx_eq_length];intro b hb;obtain⟨j,e,rfl⟩:=List.mem_iff_getElem.1 hb;have d:j<s.size:=by simpa using e
 exact h j d (by omega) d
def cut1 (c:Int) (s:ByteArray):ByteArray:=if fst c s<s.size then s.extract 0 (fst c s) else s
def cut2 (c:Int) (s:ByteArray):ByteArray:=if fst c s<s.size then s.extract (fst c s+1) s.size else ByteArray.empty
def cut3 (c:Int) (s:ByteArray):Bool:=decide (fst c s<s.size)
theorem cut_yes {c:Int}{s:ByteArray}{k:Nat} (d:k<s.size) (e:((s[k].toNat:Int)==c)=true) (h:NoSep c s 0 k):cut1 c s=s.extract 0 k∧cut2 c s=s.extract (k+1) s.size∧cut3 c s=true:=by
 have f:=nY d e h;simp[cut1,cut2,cut3,f,d]
theorem cut_no {c:Int}{s:ByteArray} (h:NoSep c s 0 s.size):cut1 c s=s∧cut2 c s=ByteArray.empty∧cut3 c s=false:=by
 have f:=fst_no h;simp[cut1,cut2,cut3,f]
theorem cut1_size (c:Int) (s:ByteArray):(cut1 c s).size≤s.size:=by
 unfold cut1;split
 ·simp[ByteArray.size_extract];omega
 ·exact Nat.le_refl _
theorem cut2_size (c:Int) (s:ByteArray):(cut2 c s).size≤s.size:=by
 unfold cut2;split
 ·simp[ByteArray.size_extract]
 ·simp
theorem cut2_lt {c:Int}{s:ByteArray} (h:cut3 c s=true):(cut2 c s).size<s.size:=by
 have d:fst c s<s.size:=by simpa [cut3] using h
 rw[cut2,if_pos d];simp[ByteArray.size_extract];omega
def pcsF (c:Int):Nat→ByteArray→List ByteArray
 | 0,s=>[s]
 | n+1,s=>if fst c s<s.size then s.extract 0 (fst c s)::pcsF c n (s.extract (fst c s+1) s.size) else [s]
theorem i8 {c:Int}{s:ByteArray} (h:fst c s<s.size):(s.extract (fst c s+1) s.size).size<s.size:=by simp[ByteArray.size_extract];omega
theorem lD (c:Int):∀(n m:Nat) (s:ByteArray),s.size≤n→s.size≤m→pcsF c n s=pcsF c m s:=by
 intro n
 induction n with
 | zero=>
   intro m s h _
   cases m with
   | zero=>rfl
   | succ m=>rw[pcsF,pcsF,if_neg (by omega)]
 | succ n d=>
   intro m s h e
   cases m with
   | zero=>rw[pcsF,pcsF,if_neg (by omega)]
   | succ m=>
     rw[pcsF,pcsF]
     by_cases q:fst c s<s.size
     ·have:=i8 q;rw[if_pos q,if_pos q,d m _ (by omega) (by omega)]
     ·rw[if_neg q,if_neg q]
def pcs (c:Int) (s:ByteArray):List ByteArray:=pcsF c s.size s
theorem pcs_eq (c:Int) (s:ByteArray):pcs c s=if fst c s<s.size then s.extract 0 (fst c s)::pcs c (s.extract (fst c s+1) s.size) else [s]:=by
 by_cases q:fst c s<s.size
 ·have e:=i8 q;obtain⟨n,d⟩:∃n,s.size=n+1:=⟨s.size-1,by omega⟩
  rw[if_pos q,pcs,d,pcsF,if_pos q,pcs,d,lD c n (s.extract (fst c s+1) (n+1)).size _ (by rw[←d];omega) (Nat.le_refl _)]
 ·rw[if_neg q,pcs]
  cases h:s.size with
  | zero=>rfl
  | succ n=>rw[pcsF,if_neg q]
theorem l7 (_c:Int) (P:ByteArray→Prop) (h:∀s,(∀t,t.size<s.size→P t)→P s) (s:ByteArray):P s:=by
 have all:∀n (s:ByteArray),s.size<n→P s:=by
  intro n
  induction n with
  | zero=>intro s e;omega
  | succ n d=>intro s e;exact h s (fun t w=>d t (by omega))
 exact all (s.size+1) s (by omega)
theorem pcs_cut (c:Int) (s:ByteArray):pcs c s=if cut3 c s then cut1 c s::pcs c (cut2 c s) else [cut1 c s]:=by
 rw[pcs_eq];by_cases h:fst c s<s.size<;>simp[cut1,cut2,cut3,h]
theorem pcs_ne (c:Int) (s:ByteArray):0<(pcs c s).length:=by rw[pcs_eq];split<;>simp
theorem pcs_len (c:Int) (s:ByteArray):(pcs c s).length≤s.size+1:=by
 refine l7 c (fun s=>(pcs c s).length≤s.size+1) (fun s d=>?_) s
 show (pcs c s).length≤s.size+1
 rw[pcs_eq];split
 ·rename_i h
  have:=d _ (i8 h);simp[ByteArray.size_extract] at this ⊢;omega
 ·simp
theorem re (c:Int) (s:ByteArray):∀x∈pcs c s,x.size≤s.size:=by
 refine l7 c (fun s=>∀x∈pcs c s,x.size≤s.size) (fun s e=>?_) s
 show ∀x∈pcs c s,x.size≤s.size
 rw[pcs_eq];split
 ·rename_i h
  intro x d
  rcases List.mem_cons.1 d with rfl|d
  ·simp[ByteArray.size_extract];omega
  ·have:=e _ (i8 h) x d;simp[ByteArray.size_extract] at this;omega
 ·intro x d;simp at d;subst d;exact Nat.le_refl _
theorem eV (s:ByteArray) (a b j:Nat) (h:j<(s.extract a b).size) (d:a+j<s.size):(s.extract a b)[j]=s[a+j]:=by
 simp[ByteArray.getElem_extract]
theorem jF {c:Int}{s:ByteArray}{a b:Nat} (h:NoSep c s a b):NoSep c (s.extract a s.size) 0 (b-a):=by
 intro j d _ h2;have e:(s.extract a s.size).size=s.size-a:=by simp[ByteArray.size_extract]
 rw[eV _ _ _ _ d (by omega)]
 exact h (a+j) (by omega) (by omega) (by omega)
theorem pcs_step {c:Int}{s:ByteArray}{a i:Nat} (h:NoSep c s a i) (hi:i<s.size) (Q:a≤i) (e:((s[i].toNat:Int)==c)=true):
 pcs c (s.extract a s.size)=s.extract a i::pcs c (s.extract (i+1) s.size):=by
 have I:(s.extract a s.size).size=s.size-a:=by simp[ByteArray.size_extract]
 have d:i-a<(s.extract a s.size).size:=by omega
 have f:fst c (s.extract a s.size)=i-a:=by
  refine nY d ?_ (jF h);rw[eV _ _ _ _ d (by omega)]
  have:a+(i-a)=i:=by omega
  simpa [this] using e
 rw[pcs_eq,f,if_pos (by omega),I,ByteArray.extract_extract,ByteArray.extract_extract]
 have G:a+0=a:=by omega
 have O:min (a+(i-a)) s.size=i:=by omega
 have w:a+(i-a+1)=i+1:=by omega
 have J:min (a+(s.size-a)) s.size=s.size:=by omega
 rw[G,O,w,J]
theorem pcs_last {c:Int}{s:ByteArray}{a:Nat} (h:NoSep c s a s.size):pcs c (s.extract a s.size)=[s.extract a s.size]:=by
 have d:(s.extract a s.size).size=s.size-a:=by simp[ByteArray.size_extract]
 have f:fst c (s.extract a s.size)=(s.extract a s.size).size:=by
  refine fst_no ?_;rw[d];exact jF h
 rw[pcs_eq,f,if_neg (by omega)]
theorem whole (s:ByteArray):s.extract 0 s.size=s:=by simp
end Go.Proofs.YtdajolpoiffimabGreatDoor.Txt

namespace Go.Proofs.YtdajolpoiffimabGreatDoor.Txt
def dg (b:Int):Bool:=decide (48≤b∧b≤57)
theorem dg_yes {b:Int} (h1:48≤b) (h2:b≤57):dg b=true:=decide_eq_true ⟨h1,h2⟩
theorem dg_no {b:Int} (h:b<48∨57<b):dg b=false:=decide_eq_false (by omega)
theorem dg_of {b:Int} (h:dg b=true):48≤b∧b≤57:=of_decide_eq_true h
def digs (s:ByteArray):Bool:=s.data.toList.all fun b=>dg b.toNat
theorem digs_yes {s:ByteArray} (h:∀j (d:j<s.size),dg (s[j].toNat)=true):digs s=true:=by
 unfold digs;rw[List.all_eq_true];intro b hb;obtain⟨j,d,rfl⟩:=List.mem_iff_getElem.1 hb;exact h j (by simpa using d)
theorem digs_at {s:ByteArray} (h:digs s=true) (j:Nat) (d:j<s.size):dg (s[j].toNat)=true:=by
 unfold digs at h;rw[List.all_eq_true] at h;exact h _ (List.getElem_mem (l:=s.data.toList) (by simpa using d))
theorem digs_no {s:ByteArray}{j:Nat} (d:j<s.size) (h:dg (s[j].toNat)=false):digs s=false:=by
 cases e:digs s
 ·rfl
 ·rw[digs_at e j d] at h;cases h
def pv (s:ByteArray) (k:Nat):Int:=(s.data.toList.take k).foldl (fun n b=>n*10+((b.toNat:Int)-48)) 0
theorem pv_0 (s:ByteArray):pv s 0=0:=by simp[pv]
theorem pv_succ (s:ByteArray) (k:Nat) (h:k<s.size):pv s (k+1)=pv s k*10+((s[k].toNat:Int)-48):=by
 unfold pv;rw[List.take_succ_eq_append_getElem (by simpa using h),List.foldl_append];rfl
theorem u8_bd (b:UInt8):0≤(b.toNat:Int)∧(b.toNat:Int)≤255:=by have:=b.toNat_lt;omega
theorem pv_bd (s:ByteArray) (k:Nat) (h:k≤s.size) (h2:k≤2): -1000≤pv s k∧pv s k≤10000:=by
 match k,h,h2 with
 | 0,_,_=>rw[pv_0];omega
 | 1,h,_=>rw[pv_succ s 0 (by omega),pv_0];have:=u8_bd s[0];omega
 | 2,h,_=>rw[pv_succ s 1 (by omega),pv_succ s 0 (by omega),pv_0];have:=u8_bd s[0];have:=u8_bd s[1];omega
def val (s:ByteArray):Int:=if (s.size=1∨s.size=2)∧digs s=true then pv s s.size else -1
theorem val_yes {s:ByteArray} (h1:1≤s.size) (h2:s.size≤2) (hd:digs s=true):val s=pv s s.size:=if_pos ⟨by omega,hd⟩
theorem val_no {s:ByteArray} (h:s.size<1∨2<s.size∨digs s=false):val s= -1:=by
 refine if_neg ?_;rintro ⟨a,b⟩
 rcases h with h|h|h
 ·omega
 ·omega
 ·rw[b] at h;cases h
theorem val_bd (s:ByteArray): -1≤val s∧val s≤99:=by
 by_cases h:(s.size=1∨s.size=2)∧digs s=true
 ·rw[val,if_pos h];obtain⟨h1,hd⟩:=h
  rcases h1 with h1|h1
  ·rw[h1,pv_succ s 0 (by omega),pv_0]
   have:=dg_of (digs_at hd 0 (by omega));omega
  ·rw[h1,pv_succ s 1 (by omega),pv_succ s 0 (by omega),pv_0]
   have:=dg_of (digs_at hd 0 (by omega));have:=dg_of (digs_at hd 1 (by omega));omega
 ·rw[val,if_neg h];omega
theorem val_nn {s:ByteArray} (h1:1≤s.size) (h2:s.size≤2) (hd:digs s=true):0≤val s:=by
 rw[val_yes h1 h2 hd]
 by_cases e:s.size=1
 ·rw[e,pv_succ s 0 (by omega),pv_0]
  have:=dg_of (digs_at hd 0 (by omega));omega
 ·have e:s.size=2:=by omega
  rw[e,pv_succ s 1 (by omega),pv_succ s 0 (by omega),pv_0]
  have:=dg_of (digs_at hd 0 (by omega));have:=dg_of (digs_at hd 1 (by omega));omega
def numV (s:ByteArray):Int:=if 0≤val s then val s else 0
def numB (s:ByteArray):Bool:=decide (0≤val s)
theorem num_no {s:ByteArray} (h:val s= -1):numV s=0∧numB s=false:=by simp[numV,numB,h]
theorem num_yes {s:ByteArray} (h:0≤val s):numV s=val s∧numB s=true:=by simp[numV,numB,h]
def star (s:ByteArray):Bool:=s.toList==[42]
def spA (lo:Int) (p:ByteArray):Int:=if star (cut1 47 p) then lo else val (cut1 45 (cut1 47 p))
def spB (hi:Int) (p:ByteArray):Int:=if star (cut1 47 p) then hi else if cut3 45 (cut1 47 p) then val (cut2 45 (cut1 47 p)) else val (cut1 45 (cut1 47 p))
def spS (p:ByteArray):Int:=if cut3 47 p then val (cut2 47 p) else 1
def spK (lo hi:Int) (p:ByteArray):Bool:=decide ((star (cut1 47 p)=true∨cut3 47 p=false∨cut3 45 (cut1 47 p)=true)∧1≤spS p∧lo≤spA lo p∧spA lo p≤spB hi p∧spB hi p≤hi)
end Go.Proofs.YtdajolpoiffimabGreatDoor.Txt

namespace Go.Proofs.YtdajolpoiffimabGreatDoor.Txt
def fldB (l g:Int) (f:ByteArray):Bool:=(pcs 44 f).all (spK l g)
theorem fldB_yes {l g:Int}{f:ByteArray} (h:∀k (e:k<(pcs 44 f).length),spK l g (pcs 44 f)[k]=true):fldB l g f=true:=by
 unfold fldB;rw[List.all_eq_true];intro b hb;obtain⟨j,d,rfl⟩:=List.mem_iff_getElem.1 hb;exact h j d
theorem fldB_at {l g:Int}{f:ByteArray} (h:fldB l g f=true) (k:Nat) (d:k<(pcs 44 f).length):spK l g (pcs 44 f)[k]=true:=by
 unfold fldB at h;rw[List.all_eq_true] at h;exact h _ (List.getElem_mem d)
theorem fldB_no {l g:Int}{f:ByteArray}{k:Nat} (d:k<(pcs 44 f).length) (h:spK l g (pcs 44 f)[k]=false):fldB l g f=false:=by
 cases e:fldB l g f
 ·rfl
 ·rw[fldB_at e k d] at h;cases h
def inB (a b t v:Int):Bool:=decide (a≤v∧v≤b∧1≤t∧(v-a) % t=0)
theorem inB_yes {a b t v:Int} (h1:a≤v) (h2:v≤b) (e:1≤t) (d:(v-a) % t=0):inB a b t v=true:=decide_eq_true ⟨h1,h2,e,d⟩
theorem inB_no {a b t v:Int} (h:v<a∨b<v∨t<1∨¬(v-a) % t=0):inB a b t v=false:=decide_eq_false (by omega)
def hldB (l g v:Int) (f:ByteArray):Bool:=(pcs 44 f).any fun p=>inB (spA l p) (spB g p) (spS p) v
theorem hldB_yes {l g v:Int}{f:ByteArray}{k:Nat} (d:k<(pcs 44 f).length) (h:inB (spA l (pcs 44 f)[k]) (spB g (pcs 44 f)[k]) (spS (pcs 44 f)[k]) v=true):hldB l g v f=true:=by
 unfold hldB;rw[List.any_eq_true];exact⟨_,List.getElem_mem d,h⟩
theorem hldB_no {l g v:Int}{f:ByteArray} (h:∀k (e:k<(pcs 44 f).length),inB (spA l (pcs 44 f)[k]) (spB g (pcs 44 f)[k]) (spS (pcs 44 f)[k]) v=false):hldB l g v f=false:=by
 unfold hldB;rw[List.any_eq_false];intro b hb;obtain⟨j,d,rfl⟩:=List.mem_iff_getElem.1 hb;simp[h j d]
def opn (s:ByteArray):Bool:=(s.data.toList.head?).any fun b=>(b.toNat:Int)==42
theorem opn_nil {s:ByteArray} (h:s.size=0):opn s=false:=by
 have:s.data.toList=[]:=by have:s.data.toList.length=0:=by simpa using h
                           exact List.eq_nil_of_length_eq_zero this
 simp[opn,this]
theorem opn_at {s:ByteArray} (h:0<s.size):opn s=((s[0].toNat:Int)==42):=by
 have e:s.data.toList.head? =some s[0]:=by
  rw[List.head?_eq_getElem?];have:0<s.data.toList.length:=by simpa using h
  rw[List.getElem?_eq_getElem this];rfl
 simp[opn,e]
theorem pcs_sz {c:Int}{s:ByteArray}{n:Nat} (e:s.size≤n) (k:Nat) (d:k<(pcs c s).length):(pcs c s)[k].size≤n:=Nat.le_trans (re c s _ (List.getElem_mem d)) e
theorem spK_bd {l g:Int}{p:ByteArray} (h:spK l g p=true):1≤spS p∧spS p≤99∧l≤spA l p∧spA l p≤spB g p∧spB g p≤g:=by
 have:=of_decide_eq_true h;have b:=val_bd (cut2 47 p);refine⟨this.2.1,?_,this.2.2⟩;unfold spS;split<;>omega
end Go.Proofs.YtdajolpoiffimabGreatDoor.Txt

namespace Go.Proofs.YtdajolpoiffimabGreatDoor.Txt
def wb (b:Int):Bool:=decide ((48≤b∧b≤57)∨(97≤b∧b≤122)∨(65≤b∧b≤90))
theorem wb_yes {b:Int} (h:(48≤b∧b≤57)∨(97≤b∧b≤122)∨(65≤b∧b≤90)):wb b=true:=decide_eq_true h
theorem wb_no {b:Int} (h:¬((48≤b∧b≤57)∨(97≤b∧b≤122)∨(65≤b∧b≤90))):wb b=false:=decide_eq_false h
theorem wb_dg {b:Int} (h1:¬(97≤b∧b≤122)) (h2:¬(65≤b∧b≤90)):dg b=wb b:=by
 unfold dg wb;congr 1;apply propext;omega
def StepP (s:ByteArray):Prop:=2≤s.size∧s.size≤9∧∃h:0<s.size,((s[0].toNat:Int)=62∨(s[0].toNat:Int)=60)∧∀j (hj:j<s.size),1≤j→wb (s[j].toNat)=true
open Classical in
noncomputable def stepB (s:ByteArray):Bool:=decide (StepP s)
open Classical in
theorem stepB_yes {s:ByteArray} (h:StepP s):stepB s=true:=by unfold stepB;exact decide_eq_true h
open Classical in
theorem stepB_no {s:ByteArray} (h:¬StepP s):stepB s=false:=by unfold stepB;exact decide_eq_false h
def OptP (s:ByteArray):Prop:=∃h:s.size=3,((s[0].toNat:Int)=120∨(s[0].toNat:Int)=111)∧((s[1].toNat:Int)=97∨(s[1].toNat:Int)=108∨(s[1].toNat:Int)=110)∧49≤(s[2].toNat:Int)∧(s[2].toNat:Int)≤53
open Classical in
noncomputable def optB (s:ByteArray):Bool:=decide (OptP s)
open Classical in
theorem optB_yes {s:ByteArray} (h:OptP s):optB s=true:=by unfold optB;exact decide_eq_true h
open Classical in
theorem optB_no {s:ByteArray} (h:¬OptP s):optB s=false:=by unfold optB;exact decide_eq_false h
def AmgP (s t:ByteArray):Prop:=∃h:s.size=1,∃j,∃hj:j<t.size,s[0]=t[j]
open Classical in
noncomputable def amgB (s t:ByteArray):Bool:=decide (AmgP s t)
open Classical in
theorem amgB_yes {s t:ByteArray} (h:AmgP s t):amgB s t=true:=by unfold amgB;exact decide_eq_true h
open Classical in
theorem amgB_no {s t:ByteArray} (h:¬AmgP s t):amgB s t=false:=by unfold amgB;exact decide_eq_false h
theorem u8_eq {a b:UInt8}:((a.toNat:Int)==(b.toNat:Int))=decide (a=b):=by
 by_cases h:a=b
 ·subst h;simp
 ·have:¬(a.toNat:Int)=(b.toNat:Int):=by
   intro e;exact h (UInt8.toNat_inj.1 (by omega))
  rw[decide_eq_false h];simpa using this
open Classical in
theorem opt_amg {s:ByteArray} (h:s.size=3):(amgB (s.extract 0 1) ⟨#[120,111]⟩&&amgB (s.extract 1 2) ⟨#[97,108,110]⟩&&amgB (s.extract 2 s.size) ⟨#[49,50,51,52,53]⟩)=optB s:=by
 have V:(s.extract 0 1).size=1:=by simp[ByteArray.size_extract];omega
 have U:(s.extract 1 2).size=1:=by simp[ByteArray.size_extract];omega
 have w:(s.extract 2 s.size).size=1:=by simp[ByteArray.size_extract];omega
 have O:(s.extract 0 1)[0]=s[0]:=by rw[eV _ _ _ _ (by omega) (by omega)]
 have I:(s.extract 1 2)[0]=s[1]:=by rw[eV _ _ _ _ (by omega) (by omega)]
 have d:(s.extract 2 s.size)[0]=s[2]:=by rw[eV _ _ _ _ (by omega) (by omega)]
 have a0:AmgP (s.extract 0 1) ⟨#[120,111]⟩↔((s[0].toNat:Int)=120∨(s[0].toNat:Int)=111):=by
  constructor
  ·rintro ⟨_,j,G,e⟩;rw[O] at e;rw[e]
   match j,G with
   | 0,_=>left;rfl
   | 1,_=>right;rfl
  ·rintro (e|e)
   ·exact⟨V,0,by decide,by rw[O];exact UInt8.toNat_inj.1 (by show _=120;omega)⟩
   ·exact⟨V,1,by decide,by rw[O];exact UInt8.toNat_inj.1 (by show _=111;omega)⟩
 have a1:AmgP (s.extract 1 2) ⟨#[97,108,110]⟩↔((s[1].toNat:Int)=97∨(s[1].toNat:Int)=108∨(s[1].toNat:Int)=110):=by
  constructor
  ·rintro ⟨_,j,G,e⟩;rw[I] at e;rw[e]
   match j,G with
   | 0,_=>left;rfl
   | 1,_=>right;left;rfl
   | 2,_=>right;right;rfl
  ·rintro (e|e|e)
   ·exact⟨U,0,by decide,by rw[I];exact UInt8.toNat_inj.1 (by show _=97;omega)⟩
   ·exact⟨U,1,by decide,by rw[I];exact UInt8.toNat_inj.1 (by show _=108;omega)⟩
   ·exact⟨U,2,by decide,by rw[I];exact UInt8.toNat_inj.1 (by show _=110;omega)⟩
 have Z:AmgP (s.extract 2 s.size) ⟨#[49,50,51,52,53]⟩↔(49≤(s[2].toNat:Int)∧(s[2].toNat:Int)≤53):=by
  constructor
  ·rintro ⟨_,j,G,e⟩;rw[d] at e;rw[e]
   match j,G with
   | 0,_=>exact⟨(by decide:(49:Int)≤49),(by decide:(49:Int)≤53)⟩
   | 1,_=>exact⟨(by decide:(49:Int)≤50),(by decide:(50:Int)≤53)⟩
   | 2,_=>exact⟨(by decide:(49:Int)≤51),(by decide:(51:Int)≤53)⟩
   | 3,_=>exact⟨(by decide:(49:Int)≤52),(by decide:(52:Int)≤53)⟩
   | 4,_=>exact⟨(by decide:(49:Int)≤53),(by decide:(53:Int)≤53)⟩
  ·rintro ⟨e1,e2⟩;have:s[2].toNat=49∨s[2].toNat=50∨s[2].toNat=51∨s[2].toNat=52∨s[2].toNat=53:=by omega
   rcases this with e|e|e|e|e
   ·exact⟨w,0,by decide,by rw[d];exact UInt8.toNat_inj.1 e⟩
   ·exact⟨w,1,by decide,by rw[d];exact UInt8.toNat_inj.1 e⟩
   ·exact⟨w,2,by decide,by rw[d];exact UInt8.toNat_inj.1 e⟩
   ·exact⟨w,3,by decide,by rw[d];exact UInt8.toNat_inj.1 e⟩
   ·exact⟨w,4,by decide,by rw[d];exact UInt8.toNat_inj.1 e⟩
 have o:OptP s↔(AmgP (s.extract 0 1) ⟨#[120,111]⟩∧AmgP (s.extract 1 2) ⟨#[97,108,110]⟩∧AmgP (s.extract 2 s.size) ⟨#[49,50,51,52,53]⟩):=by
  rw[a0,a1,Z]
  constructor
  ·rintro ⟨_,h1,h2,J,Q⟩;exact⟨h1,h2,J,Q⟩
  ·rintro ⟨h1,h2,J,Q⟩;exact⟨h,h1,h2,J,Q⟩
 unfold amgB optB
 by_cases p0:AmgP (s.extract 0 1) ⟨#[120,111]⟩<;>by_cases Y:AmgP (s.extract 1 2) ⟨#[97,108,110]⟩<;>by_cases p2:AmgP (s.extract 2 s.size) ⟨#[49,50,51,52,53]⟩<;>simp[o,p0,Y,p2]
end Go.Proofs.YtdajolpoiffimabGreatDoor.Txt

namespace Go.Proofs.YtdajolpoiffimabGreatDoor
def pt (s:ByteArray) (i:Nat):ByteArray:=(Txt.pcs 32 s).getD i ByteArray.empty
theorem eN {s:ByteArray}{i:Nat} (h:i<(Txt.pcs 32 s).length):(Txt.pcs 32 s)[i]=pt s i:=by simp[pt,h]
def lo (i:Int):Int:=if i=2∨i=3 then 1 else 0
def hi (i:Int):Int:=if i=0 then 59 else if i=1 then 23 else if i=2 then 31 else if i=3 then 12 else 6
theorem gg (i:Int):0≤lo i∧lo i≤1∧6≤hi i∧hi i≤59:=by
 unfold lo hi;repeat' split
 all_goals omega
theorem jE {s:ByteArray}{k:Nat} (I:s.size≤k) (h2:2≤s.size) (e:s.size≤9) (h0:0<s.size) (G:((s[0].toNat:Int)=62∨(s[0].toNat:Int)=60)) (w:∀j (d:j<s.size),1≤j→j<k→Txt.wb (s[j].toNat)=true):Txt.stepB s=true:=
 Txt.stepB_yes ⟨h2,e,h0,G,fun j d h1=>w j d h1 (by omega)⟩
theorem j7 {s:ByteArray}{k:Nat} (d:k<s.size) (h1:1≤k) (h:Txt.wb (s[k].toNat)=false):Txt.stepB s=false:=
 Txt.stepB_no (fun ⟨_,_,_,_,hb⟩=>by rw[hb k d h1] at h;cases h)
structure LineP (s:ByteArray):Prop where
 n7:7≤(Txt.pcs 32 s).length
 n11:(Txt.pcs 32 s).length≤11
 fld:∀(i:Nat) (h:i<(Txt.pcs 32 s).length),i<5→Txt.fldB (lo i) (hi i) (Txt.pcs 32 s)[i]=true
 opt:∀(h:5<(Txt.pcs 32 s).length),Txt.optB (Txt.pcs 32 s)[5]=true
 stp:∀(i:Nat) (h:i<(Txt.pcs 32 s).length),6≤i→Txt.stepB (Txt.pcs 32 s)[i]=true
open Classical in
noncomputable def lineB (s:ByteArray):Bool:=decide (LineP s)
open Classical in
theorem jG {s:ByteArray} (h:LineP s):lineB s=true:=by unfold lineB;exact decide_eq_true h
open Classical in
theorem eh {s:ByteArray} (h:¬LineP s):lineB s=false:=by unfold lineB;exact decide_eq_false h
open Classical in
theorem qy {s:ByteArray} (h:lineB s=true):LineP s:=by unfold lineB at h;exact of_decide_eq_true h
def tl (tab:ByteArray) (i:Nat):ByteArray:=(Txt.pcs 10 tab).getD i ByteArray.empty
def tn (tab:ByteArray):Nat:=(Txt.pcs 10 tab).length-1
theorem gb {s:ByteArray}{i:Nat} (h:i<(Txt.pcs 10 s).length):(Txt.pcs 10 s)[i]=tl s i:=by simp[tl,h]
theorem eQ (s:ByteArray):tn s<(Txt.pcs 10 s).length:=by have:=Txt.pcs_ne 10 s;unfold tn;omega
theorem iT (s:ByteArray):(Txt.pcs 10 s).length=tn s+1:=by have:=Txt.pcs_ne 10 s;unfold tn;omega
theorem fG {s:ByteArray}{n:Nat} (d:s.size≤n) (i:Nat) (h:i<(Txt.pcs 10 s).length):(tl s i).size≤n:=by rw[←gb h];exact Txt.pcs_sz d i h
def ChkR (tab:ByteArray) (a r:Int):Prop:=
 (300<tab.size∧a=0∧r=1)∨
 (tab.size≤300∧4<tn tab+(if (tl tab (tn tab)).size=0 then 0 else 1)∧a=0∧r=2)∨
 (tab.size≤300∧tn tab+(if (tl tab (tn tab)).size=0 then 0 else 1)≤4∧∃i:Nat,i<tn tab∧lineB (tl tab i)=false∧(∀j:Nat,j<i→lineB (tl tab j)=true)∧a=i+1∧r=3)∨
 (tab.size≤300∧tn tab+(if (tl tab (tn tab)).size=0 then 0 else 1)≤4∧(∀j:Nat,j<tn tab→lineB (tl tab j)=true)∧¬(tl tab (tn tab)).size=0∧a=tn tab+1∧r=3)∨
 (tab.size≤300∧tn tab+(if (tl tab (tn tab)).size=0 then 0 else 1)≤4∧(∀j:Nat,j<tn tab→lineB (tl tab j)=true)∧(tl tab (tn tab)).size=0∧a=0∧r=0)
theorem ChkR.long {tab:ByteArray} (h:300<tab.size):ChkR tab 0 1:=Or.inl ⟨h,rfl,rfl⟩
theorem ChkR.many {tab:ByteArray} (h:tab.size≤300) (d:4<tn tab+(if (tl tab (tn tab)).size=0 then 0 else 1)):ChkR tab 0 2:=Or.inr (Or.inl ⟨h,d,rfl,rfl⟩)
theorem ChkR.line {tab:ByteArray} (h:tab.size≤300) (d:tn tab+(if (tl tab (tn tab)).size=0 then 0 else 1)≤4) (i:Nat) (hi:i<tn tab) (e:lineB (tl tab i)=false) (w:∀j:Nat,j<i→lineB (tl tab j)=true):ChkR tab (i+1) 3:=Or.inr (Or.inr (Or.inl ⟨h,d,i,hi,e,w,rfl,rfl⟩))
theorem ChkR.last {tab:ByteArray} (h:tab.size≤300) (d:tn tab+(if (tl tab (tn tab)).size=0 then 0 else 1)≤4) (e:∀j:Nat,j<tn tab→lineB (tl tab j)=true) (w:¬(tl tab (tn tab)).size=0):ChkR tab (tn tab+1) 3:=Or.inr (Or.inr (Or.inr (Or.inl ⟨h,d,e,w,rfl,rfl⟩)))
theorem ChkR.ok {tab:ByteArray} (h:tab.size≤300) (d:tn tab+(if (tl tab (tn tab)).size=0 then 0 else 1)≤4) (e:∀j:Nat,j<tn tab→lineB (tl tab j)=true) (w:(tl tab (tn tab)).size=0):ChkR tab 0 0:=Or.inr (Or.inr (Or.inr (Or.inr ⟨h,d,e,w,rfl,rfl⟩)))
theorem ChkR.uniq {tab:ByteArray}{a e a' e':Int} (h:ChkR tab a e) (Q:ChkR tab a' e'):a=a'∧e=e':=by
 rcases h with ⟨x,rfl,rfl⟩|⟨x,Z,rfl,rfl⟩|⟨x,Z,i,hi,J,ha,rfl,rfl⟩|⟨x,Z,Y,V,rfl,rfl⟩|⟨x,Z,Y,V,rfl,rfl⟩
 ·rcases Q with ⟨y,rfl,rfl⟩|⟨y,_⟩|⟨y,_⟩|⟨y,_⟩|⟨y,_⟩
  ·exact⟨rfl,rfl⟩
  all_goals omega
 ·rcases Q with ⟨y,_⟩|⟨y,y2,rfl,rfl⟩|⟨y,y2,_⟩|⟨y,y2,_⟩|⟨y,y2,_⟩
  ·omega
  ·exact⟨rfl,rfl⟩
  all_goals omega
 ·rcases Q with ⟨y,_⟩|⟨y,y2,_⟩|⟨y,y2,G,I,d,U,rfl,rfl⟩|⟨y,y2,w,_⟩|⟨y,y2,w,_⟩
  ·omega
  ·omega
  ·have:i=G:=by
    rcases Nat.lt_trichotomy i G with c|c|c
    ·rw[U i c] at J;cases J
    ·exact c
    ·rw[ha G c] at d;cases d
   subst this;exact⟨rfl,rfl⟩
  ·rw[w i hi] at J;cases J
  ·rw[w i hi] at J;cases J
 ·rcases Q with ⟨y,_⟩|⟨y,y2,_⟩|⟨y,y2,G,I,d,U,rfl,rfl⟩|⟨y,y2,w,O,rfl,rfl⟩|⟨y,y2,w,O,_⟩
  ·omega
  ·omega
  ·rw[Y G I] at d;cases d
  ·exact⟨rfl,rfl⟩
  ·exact absurd O V
 ·rcases Q with ⟨y,_⟩|⟨y,y2,_⟩|⟨y,y2,G,I,d,U,rfl,rfl⟩|⟨y,y2,w,O,_⟩|⟨y,y2,w,O,rfl,rfl⟩
  ·omega
  ·omega
  ·rw[Y G I] at d;cases d
  ·exact absurd V O
  ·exact⟨rfl,rfl⟩
theorem ChkR.zero {tab:ByteArray}{a r:Int} (h:ChkR tab a r) (d:r=0):a=0:=by
 rcases h with ⟨_,h1,_⟩|⟨_,_,h1,_⟩|⟨_,_,_,_,_,_,_,h2⟩|⟨_,_,_,_,_,h2⟩|⟨_,_,_,_,h1,_⟩
 ·exact h1
 ·exact h1
 ·omega
 ·omega
 ·exact h1
theorem ChkR.lines {tab:ByteArray} (h:ChkR tab 0 0):tab.size≤300∧(tl tab (tn tab)).size=0∧∀j:Nat,j<tn tab→LineP (tl tab j):=by
 rcases h with ⟨_,_,h2⟩|⟨_,_,_,h2⟩|⟨_,_,_,_,_,_,_,h2⟩|⟨_,_,_,_,_,h2⟩|⟨x,_,e,w,_,_⟩
 ·omega
 ·omega
 ·omega
 ·omega
 ·exact⟨x,w,fun j d=>qy (e j d)⟩
theorem ChkR.bd {tab:ByteArray}{a r:Int} (h:ChkR tab a r):0≤r∧r≤3:=by
 rcases h with ⟨_,_,h2⟩|⟨_,_,_,h2⟩|⟨_,_,_,_,_,_,_,h2⟩|⟨_,_,_,_,_,h2⟩|⟨_,_,_,_,_,h2⟩<;>omega
theorem iX {s:ByteArray}:s.toList.isEmpty=decide (s.size=0):=by
 have:s.toList.length=s.size:=by simp[ByteArray.toList_eq]
 cases h:s.toList with
 | nil=>rw[h] at this;simp at this;rw[←this];rfl
 | cons a r=>
   rw[h] at this;simp at this;have d:¬s.size=0:=by omega
   rw[decide_eq_false d];rfl
def tm (s:ByteArray):Nat:=tn s+(if (tl s (tn s)).size=0 then 0 else 1)
def tb (s:ByteArray):Bool:= !decide ((tl s (tn s)).size=0)
def dayB (s:ByteArray) (d k:Int):Bool:=if (Txt.opn (pt s 2)||Txt.opn (pt s 4))=true then (Txt.hldB (lo 2) (hi 2) d (pt s 2)&&Txt.hldB (lo 4) (hi 4) k (pt s 4)) else (Txt.hldB (lo 2) (hi 2) d (pt s 2)||Txt.hldB (lo 4) (hi 4) k (pt s 4))
def dueB (s:ByteArray) (m d h i k:Int):Bool:=Txt.hldB (lo 0) (hi 0) i (pt s 0)&&(Txt.hldB (lo 1) (hi 1) h (pt s 1)&&(Txt.hldB (lo 3) (hi 3) m (pt s 3)&&dayB s d k))
theorem LineP.fl {s:ByteArray} (h:LineP s) (t:Nat) (e:t<5):Txt.fldB (lo t) (hi t) (pt s t)=true:=by
 have d:t<(Txt.pcs 32 s).length:=by have:=h.n7;omega
 rw[←eN d];exact h.fld t d e
theorem LineP.sz {s:ByteArray}{n:Nat} (h:LineP s) (e:s.size≤n) (t:Nat) (w:t<5):(pt s t).size≤n:=by
 have d:t<(Txt.pcs 32 s).length:=by have:=h.n7;omega
 rw[←eN d];exact Txt.pcs_sz e t d
theorem lZ {l g:Int}{f:ByteArray} (l1:0≤l) (h:Txt.fldB l g f=true):0<f.size:=by
 rcases Nat.eq_zero_or_pos f.size with z|z
 ·exfalso
  have d:∀c,Txt.NoSep c f 0 f.size:=fun c j I _ _=>by omega
  have e:Txt.pcs 44 f=[f]:=by
   rw[Txt.pcs_eq,Txt.fst_no (d 44),if_neg (by omega)]
  have k:=Txt.fldB_at h 0 (Txt.pcs_ne _ _);have G:Txt.spK l g f=true:=by simpa [e] using k
  have b:=(Txt.spK_bd G).2.2.1;have c1:Txt.cut1 47 f=f:=(Txt.cut_no (d 47)).1;have c2:Txt.cut1 45 f=f:=(Txt.cut_no (d 45)).1
  have st:Txt.star f=false:=by
   have w:f.toList=[]:=by
    have:f.toList.length=0:=by simp[ByteArray.toList_eq,z]
    exact List.eq_nil_of_length_eq_zero this
   simp[Txt.star,w]
  have v:Txt.val f= -1:=Txt.val_no (Or.inl (by omega))
  rw[Txt.spA,c1,st,c2,v] at b;simp at b;omega
 ·exact z
def ob (s:ByteArray) (i:Nat):Int:=(((pt s 5).data.toList[i]?).map (fun b=>(b.toNat:Int))).getD 0
theorem ip {s:ByteArray}{i:Nat} (h:i<(pt s 5).size):((pt s 5)[i].toNat:Int)=ob s i:=by
 have d:i<(pt s 5).data.toList.length:=by simpa using h
 unfold ob;rw[List.getElem?_eq_getElem d];rfl
open Classical in
theorem jf {s:ByteArray} (h:LineP s):(pt s 5).size=3∧(ob s 0=120∨ob s 0=111)∧(ob s 1=97∨ob s 1=108∨ob s 1=110)∧49≤ob s 2∧ob s 2≤53:=by
 have G:=h.n7;have e:5<(Txt.pcs 32 s).length:=by omega
 have d:=h.opt e;rw[eN e] at d;unfold Txt.optB at d;obtain⟨w,a,b,c⟩:=of_decide_eq_true d;rw[ip (by omega)] at a
 rw[ip (by omega)] at b
 rw[ip (by omega)] at c
 exact⟨w,a,b,c⟩
def DtIs (t y m d h i k:Int):Prop:=t≤4223371679→(Cal.IsD (t / 1440) y m d∧h=t % 1440 / 60∧i=t % 60∧k=(t / 1440+4) % 7)
open Classical in
noncomputable def dueT (s:ByteArray) (t:Int):Bool:=decide (∃y m d,Cal.IsD (t / 1440) y m d∧dueB s m d (t % 1440 / 60) (t % 60) ((t / 1440+4) % 7)=true)
open Classical in
theorem lT {s:ByteArray}{t y m d:Int} (H:Cal.IsD (t / 1440) y m d):dueB s m d (t % 1440 / 60) (t % 60) ((t / 1440+4) % 7)=dueT s t:=by
 unfold dueT
 cases h:dueB s m d (t % 1440 / 60) (t % 60) ((t / 1440+4) % 7)
 ·symm;apply decide_eq_false
  rintro ⟨I,J,G,w,e⟩;obtain⟨rfl,rfl,rfl⟩:=H.uniq w;rw[h] at e;cases e
 ·symm;exact decide_eq_true ⟨y,m,d,H,h⟩
theorem rU {s:ByteArray}{t y m d h i k:Int} (e:t≤4223371679) (H:DtIs t y m d h i k):dueB s m d h i k=dueT s t:=by
 obtain⟨w,rfl,rfl,rfl⟩:=H e;exact lT w
noncomputable def lnOf (s:ByteArray):Bx.Ln:=⟨ob s 1,dueT s⟩
theorem sJ {due:Int→Bool}{a:Int}{k:Nat} (h:due (a+k)=true):Bx.dl due a (k+1)=Bx.dl due a k++[a+(k:Int)]:=by rw[Bx.dl,if_pos h]
theorem tI {due:Int→Bool}{a:Int}{k:Nat} (h:due (a+k)=false):Bx.dl due a (k+1)=Bx.dl due a k:=by rw[Bx.dl,h];simp
theorem DtIs.bd {t y m d h i k:Int} (H:DtIs t y m d h i k) (_t0:0≤t) (w:t≤4223371679):0≤m∧m≤60∧0≤d∧d≤60∧0≤h∧h≤60∧0≤i∧i≤60∧0≤k∧k≤60:=by
 obtain⟨e,rfl,rfl,rfl⟩:=H w;have:=e.m1;have:=e.m2;have:=e.d1;have:=e.d2;have:=Cal.dim_lo y m;omega
def minB (m:Int):Bool:=decide (0≤m∧m≤4223371679)
theorem gy {m:Int} (a:0≤m) (b:m≤4223371679):minB m=true:=decide_eq_true ⟨a,b⟩
theorem il {m:Int} (h:m<0∨4223371679<m):minB m=false:=decide_eq_false (by omega)
def sayB (s:ByteArray):Bool:= !(s.data.toList.head? ==some 60)
theorem rM {s:ByteArray} (h:0<s.size) (G:(s[0].toNat:Int)=62∨(s[0].toNat:Int)=60):((s[0].toNat:Int)==62)=sayB s:=by
 have w:s.data.toList.head? =some s[0]:=by
  rw[List.head?_eq_getElem?];have d:0<s.data.toList.length:=by simpa using h
  rw[List.getElem?_eq_getElem d];rfl
 unfold sayB;rw[w]
 rcases G with e|e
 ·have:s[0]=62:=UInt8.toNat_inj.1 (by show _=62;omega)
  rw[this];rfl
 ·have:s[0]=60:=UInt8.toNat_inj.1 (by show _=60;omega)
  rw[this];rfl
def stepsOf (l:ByteArray):List ByteArray:=(Txt.pcs 32 l).drop 6
theorem eW {l:ByteArray} (h:LineP l):1≤(stepsOf l).length∧(stepsOf l).length≤5:=by
 have:=h.n7;have:=h.n11;unfold stepsOf;rw[List.length_drop];omega
namespace Bx
structure Sl where
 num:Int
 line:Int
 minute:Int
 att:Int
 frm:Int
 runs:Bool
structure En where
 num:Int
 how:ByteArray
structure St where
 tab:ByteArray
 clock:Int
 next:Int
 slots:List Sl
 ends:List En
def first:St:=⟨ByteArray.empty,-1,1,[],[]⟩
def findK (l:List Sl) (n:Int):Nat→Int
 | 0=> -1
 | k+1=>if (l[k]?.map (·.num))=some n then (k:Int) else findK l n k
def find (s:St) (n:Int):Int:=findK s.slots n s.slots.length
theorem findK_lt (l:List Sl) (n:Int) (k:Nat): -1≤findK l n k∧findK l n k<k:=by
 induction k with
 | zero=>exact⟨by simp[findK],by simp[findK]⟩
 | succ k d=>unfold findK;split<;>omega
def push (l:List En) (e:En):List En:=l.drop (l.length-5)++[e]
def with' (s:St) (l:List Sl) (n:Int) (how:ByteArray):St:={s with slots:=l,ends:=if 0<n then push s.ends ⟨n,how⟩ else s.ends}
def skipK (l:List Sl) (at':Int):Nat→List Sl
 | 0=>[]
 | k+1=>if (k:Int)=at' then skipK l at' k else skipK l at' k++l[k]?.toList
def withoutL (l:List Sl) (at':Int):List Sl:=skipK l at' l.length
theorem skipK_len (l:List Sl) (at':Int) (k:Nat):(skipK l at' k).length≤k:=by
 induction k with
 | zero=>exact Nat.le_refl _
 | succ k d=>
   unfold skipK;split
   ·omega
   ·rw[List.length_append];cases l[k]? <;>simp<;>omega
def putK (l:List Sl) (at':Int) (x:Sl):Nat→List Sl
 | 0=>[]
 | k+1=>putK l at' x k++(if (k:Int)=at' then [x] else l[k]?.toList)
theorem putK_len (l:List Sl) (at':Int) (x:Sl) (k:Nat):(putK l at' x k).length≤k:=by
 induction k with
 | zero=>exact Nat.le_refl _
 | succ k d=>
   unfold putK;rw[List.length_append]
   split
   ·simp;omega
   ·cases l[k]? <;>simp<;>omega
def putL (l:List Sl) (at':Int) (x:Sl):List Sl:=putK l at' x l.length
def ahead (s:St) (m:Int):Bool:=decide (0≤m∧m≤4223371679∧s.clock<m∧(s.clock= -1∨m-s.clock≤1500))
end Bx
def slC (x:Bx.Sl):List Value:=[.int .i64 x.num,.int .i64 x.line,.int .i64 x.minute,.int .i64 x.att,.int .i64 x.frm,.bool x.runs]
theorem ep (x:Bx.Sl):(slC x).length=6:=rfl
def enC (x:Bx.En):List Value:=[.int .i64 x.num,.string x.how]
theorem ek (x:Bx.En):(enC x).length=2:=rfl
end Go.Proofs.YtdajolpoiffimabGreatDoor
