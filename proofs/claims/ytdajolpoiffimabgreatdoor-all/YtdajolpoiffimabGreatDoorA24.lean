import Derived.Deep.CutRange
import Derived.Deep.RegionLaw
import Derived.Test.YtdajolpoiffimabGreatDoorA17
import Derived.Test.YtdajolpoiffimabGreatDoorA23

namespace Go.Proofs.YtdajolpoiffimabGreatDoor
open Go.RowKit
def numAt (b:ByteArray) (a k:Nat):Int:=numW (partK b a k).data.toList
theorem dZ (b:ByteArray) (a k:Nat) (d:k≤7):0≤numAt b a k∧numAt b a k<256 ^ k:=by
 obtain⟨_,h1,h2⟩:=ii (fo b a k) d;exact⟨h1,h2⟩
def one1:ByteArray:={data:= #[1]}
def gsSl (b:ByteArray) (a:Nat):Bx.Sl:=⟨numAt b a 2,numAt b (a+2) 1,numAt b (a+3) 5,numAt b (a+8) 1,numAt b (a+9) 5,(partK b (a+14) 1).toList==one1.toList⟩
def gsEn (b:ByteArray) (a:Nat):Bx.En:=⟨numAt b a 2,partK b (a+2) 1⟩
def gsSls (b:ByteArray) (a k:Nat):List Bx.Sl:=(List.range k).map fun j=>gsSl b (a+15*j)
def gsEns (b:ByteArray) (a k:Nat):List Bx.En:=(List.range k).map fun j=>gsEn b (a+3*j)
theorem gZ (b:ByteArray) (a k:Nat):(gsSls b a k).length=k:=by simp[gsSls]
theorem gS (b:ByteArray) (a k:Nat):(gsEns b a k).length=k:=by simp[gsEns]
theorem m5 (b:ByteArray) (a k:Nat):gsSls b a (k+1)=gsSls b a k++[gsSl b (a+15*k)]:=by simp[gsSls,List.range_succ]
theorem mt (b:ByteArray) (a k:Nat):gsEns b a (k+1)=gsEns b a k++[gsEn b (a+3*k)]:=by simp[gsEns,List.range_succ]
def gsN (b:ByteArray):Nat:=if 300<numAt b 8 2 then 0 else (numAt b 8 2).toNat
def gsK (b:ByteArray):Nat:=(numAt b (10+gsN b) 1).toNat
def gsE (b:ByteArray):Nat:=(numAt b (11+gsN b+15*gsK b) 1).toNat
def gs (b:ByteArray):Bx.St:=⟨partK b 10 (gsN b),numAt b 1 5-1,numAt b 6 2,gsSls b (11+gsN b) (gsK b),gsEns b (12+gsN b+15*gsK b) (gsE b)⟩
theorem o9 (b:ByteArray):gsN b≤300:=by
 unfold gsN
 split
 ·omega
 ·omega
theorem nE (b:ByteArray):gsK b≤255:=by
 have:=dZ b (10+gsN b) 1 (by decide)
 unfold gsK;omega
theorem o5 (b:ByteArray):gsE b≤255:=by
 have:=dZ b (11+gsN b+15*gsK b) 1 (by decide)
 unfold gsE;omega
structure GsOk (s:Bx.St):Prop where
 t:s.tab.size≤300
 c: -1≤s.clock∧s.clock<1099511627776
 n:0≤s.next∧s.next<65536
 sl:s.slots.length≤255
 en:s.ends.length≤255
 es:∀x∈s.slots,Bx.SlFit x
 ee:∀x∈s.ends,(0≤x.num∧x.num<65536)∧x.how.size=1
theorem qm (b:ByteArray) (a:Nat):Bx.SlFit (gsSl b a):=by
 refine⟨?_,?_,?_,?_,?_⟩
 ·have:=dZ b a 2 (by decide);simpa [gsSl] using this
 ·have:=dZ b (a+2) 1 (by decide);simpa [gsSl] using this
 ·have:=dZ b (a+3) 5 (by decide);simpa [gsSl] using this
 ·have:=dZ b (a+8) 1 (by decide);simpa [gsSl] using this
 ·have:=dZ b (a+9) 5 (by decide);simpa [gsSl] using this
theorem tw (b:ByteArray):GsOk (gs b):=by
 have h1:=dZ b 1 5 (by decide)
 have h2:=dZ b 6 2 (by decide)
 refine⟨?_,?_,?_,?_,?_,?_,?_⟩
 ·show (partK b 10 (gsN b)).size≤300
  rw[fo];exact o9 b
 ·show -1≤numAt b 1 5-1∧numAt b 1 5-1<_
  omega
 ·show 0≤numAt b 6 2∧numAt b 6 2<_
  omega
 ·show (gsSls b _ _).length≤_
  rw[gZ];exact nE b
 ·show (gsEns b _ _).length≤_
  rw[gS];exact o5 b
 ·intro x d;obtain⟨j,_,rfl⟩:=List.mem_map.1 (show x∈gsSls b _ _ from d)
  exact qm b _
 ·intro x d;obtain⟨j,_,rfl⟩:=List.mem_map.1 (show x∈gsEns b _ _ from d)
  refine⟨?_,fo b _ 1⟩;have:=dZ b (12+gsN b+15*gsK b+3*j) 2 (by decide)
  simpa [gsEn] using this
def At (b:ByteArray) (a:Nat) (y:ByteArray):Prop:=∃x z,b=x++(y++z)∧a=x.size
theorem At.left {b y d:ByteArray}{a:Nat} (h:At b a (y++d)):At b a y:=by
 obtain⟨x,z,e,w⟩:=h;exact⟨x,d++z,by rw[e];simp only [ByteArray.append_assoc],w⟩
theorem At.right {b y d:ByteArray}{a k:Nat} (h:At b a (y++d)) (G:k=a+y.size):At b k d:=by
 obtain⟨x,z,e,w⟩:=h;exact⟨x++y,z,by rw[e];simp only [ByteArray.append_assoc],by rw[ByteArray.size_append];omega⟩
theorem pk (s:ByteArray) (a k:Nat) (h:a+k≤s.size):partK s a k=s.extract a (a+k):=by
 induction k with
 | zero=>
   refine Bx.ba_ext ?_;rw[ByteArray.data_extract];simp[partK]
 | succ k d=>
   rw[partK,d (by omega),if_pos (by omega)]
   refine Bx.ba_ext ?_;rw[ByteArray.data_append,Array.toList_append,ByteArray.data_extract,ByteArray.data_extract,ByteArray.data_extract];simp only [Array.toList_extract,List.extract_eq_take_drop];rw[show a+(k+1)-a=k+1 by omega,show a+k-a=k by omega,show a+k+1-(a+k)=1 by omega,List.take_add,List.drop_drop]
theorem At.part {b y:ByteArray}{a k:Nat} (h:At b a y) (w:k=y.size):partK b a k=y:=by
 obtain⟨x,z,e,G⟩:=h;subst w G;rw[pk b _ _ (by rw[e,ByteArray.size_append,ByteArray.size_append];omega),e]
 have I:x.data.toList.length=x.size:=by simp
 have d:y.data.toList.length=y.size:=by simp
 refine Bx.ba_ext ?_;rw[ByteArray.data_extract,ByteArray.data_append,ByteArray.data_append];simp only [Array.toList_extract,List.extract_eq_take_drop,Array.toList_append];rw[←I,List.drop_left,Nat.add_sub_cancel_left,←d,List.take_left]
theorem At.num {b:ByteArray}{a k:Nat}{n:Int} (h:At b a (Bx.be n k)) (h0:0≤n) (h1:n<256 ^ k) (d:k≤7):numAt b a k=n:=by
 unfold numAt;rw[h.part (by rw[Bx.be_size])]
 exact lP n k h0 h1 d
theorem At.cat {α:Type}{f:α→ByteArray}{n:Nat}:∀{l:List α}{b:ByteArray}{a:Nat},At b a (Bx.cat (l.map f))→(∀x∈l,(f x).size=n)→∀k (d:k<l.length),At b (a+n*k) (f l[k])
 | [],_,_,_,_,k,d=>by simp at d
 | x::l,b,a,h,hs,k,d=>by
   rw[List.map_cons,Bx.cat] at h
   cases k with
   | zero=>simpa using h.left
   | succ k=>
     have h2:=At.cat (h.right rfl) (fun y e=>hs y (by simp[e])) k (by simpa using d)
     rw[hs x (by simp)] at h2
     rw[show a+n*(k+1)=a+n+n*k by rw[Nat.mul_succ];omega]
     exact h2
theorem At.slot {b:ByteArray}{a:Nat}{x:Bx.Sl} (h:At b a (Bx.encSl x)) (d:Bx.SlFit x):gsSl b a=x:=by
 unfold Bx.encSl at h;have h1:=h.right (k:=a+2) (by rw[Bx.be_size])
 have h2:=h1.right (k:=a+3) (by rw[Bx.be_size])
 have e:=h2.right (k:=a+8) (by rw[Bx.be_size])
 have w:=e.right (k:=a+9) (by rw[Bx.be_size])
 have I:=w.right (k:=a+14) (by rw[Bx.be_size])
 have G:((partK b (a+14) 1).toList==one1.toList)=x.runs:=by
  rw[I.part (by rw[Bx.be_size])]
  simp only [ByteArray.toList_eq]
  cases x.runs<;>decide
 unfold gsSl;rw[h.left.num d.n.1 (by simpa using d.n.2) (by decide),h1.left.num d.l.1 (by simpa using d.l.2) (by decide),h2.left.num d.m.1 (by simpa using d.m.2) (by decide),e.left.num d.a.1 (by simpa using d.a.2) (by decide),w.left.num d.f.1 (by simpa using d.f.2) (by decide),G]
theorem At.end {b:ByteArray}{a:Nat}{x:Bx.En} (h:At b a (Bx.encEn x)) (d:Bx.EnFit x):gsEn b a=x:=by
 unfold Bx.encEn at h;have h1:=h.right (k:=a+2) (by rw[Bx.be_size])
 unfold gsEn;rw[h.left.num d.n.1 (by simpa using d.n.2) (by decide),h1.part (by rw[d.h])]
theorem qr {s:Bx.St} (d:Bx.StFit s) (h3:s.tab.size≤300):gs (Bx.wholeS s)=s:=by
 obtain⟨b,hb⟩:∃b,b=Bx.wholeS s:=⟨_,rfl⟩;have h0:At b 0 (Bx.wholeS s):=⟨ByteArray.empty,ByteArray.empty,by simp[hb],rfl⟩
 rw[←hb];clear hb;unfold Bx.wholeS Bx.encSt at h0;have hc:=d.c;have I:=d.n;have ht:=d.t;have hs:=d.sl;have he:=d.en;have V:=h0.right (k:=1) (by rw[Bx.b1_size])
 have Q:=V.right (k:=6) (by rw[Bx.be_size])
 have Y:=Q.right (k:=8) (by rw[Bx.be_size])
 have J:=Y.right (k:=10) (by rw[Bx.be_size])
 have G:=J.right (k:=10+s.tab.size) rfl;have O:=G.right (k:=11+s.tab.size) (by rw[Bx.be_size];omega)
 have w:=O.right (k:=11+s.tab.size+15*s.slots.length) (by rw[Bx.cat_size Bx.encSl 15 _ (fun x _=>Bx.encSl_size x)])
 have p8:=w.right (k:=12+s.tab.size+15*s.slots.length) (by rw[Bx.be_size];omega)
 have n1:=V.left.num (by omega) (by simp;omega) (by decide)
 have n2:=Q.left.num I.1 (by simpa using I.2) (by decide)
 have n3:=Y.left.num (by omega) (by simp;omega) (by decide)
 have Z:=G.left.num (by omega) (by simp;omega) (by decide)
 have n7:=w.left.num (by omega) (by simp;omega) (by decide)
 have e:gsN b=s.tab.size:=by unfold gsN;rw[n3,if_neg (by omega)];omega
 have U:gsK b=s.slots.length:=by unfold gsK;rw[e,Z];omega
 have eE:gsE b=s.ends.length:=by unfold gsE;rw[e,U,n7];omega
 have es:gsSls b (11+s.tab.size) s.slots.length=s.slots:=by
  refine List.ext_getElem (gZ _ _ _) fun j h1 h2=>?_
  simp only [gsSls,List.getElem_map,List.getElem_range]
  exact (O.left.cat (fun x _=>Bx.encSl_size x) j h2).slot (d.es _ (List.getElem_mem h2))
 have ee:gsEns b (12+s.tab.size+15*s.slots.length) s.ends.length=s.ends:=by
  refine List.ext_getElem (gS _ _ _) fun j h1 h2=>?_
  simp only [gsEns,List.getElem_map,List.getElem_range]
  refine (p8.cat (n:=3) (fun x hx=>?_) j h2).end (d.ee _ (List.getElem_mem h2))
  unfold Bx.encEn;rw[ByteArray.size_append,Bx.be_size,(d.ee x hx).h]
 unfold gs;rw[eE,U,e,n1,n2,es,ee,J.left.part rfl];rw[show s.clock+1-1=s.clock by omega]
theorem tL {b:ByteArray}{t:Bx.St} (h:Bx.IsZ b t):gs b=t:=by
 obtain⟨hm,e⟩:=h;rw[←e];exact qr hm.fit hm.tab.lines.1
theorem tD {b:ByteArray} (h:¬(Bx.MayS (gs b)∧Bx.wholeS (gs b)=b)):¬∃t,Bx.IsZ b t:=by
 rintro ⟨t,d⟩;have e:=tL d;exact h (by rw[e];exact d)
theorem hV (b:ByteArray) (p o n:Nat) (I:b.size≤100000) (d:p+o≤100000) (w:n≤100000) (W:World):
 Calls Tryz.prog 212 #[.string b,.int .i64 ((p:Int)+(o:Int)),.int .i64 (n:Int)] W fun e G=>e=.returned (.string (partK b (p+o) n))∧G=W:=by
 have:=fa b (p+o) n W I d w;rw[show ((p+o:Nat):Int)=(p:Int)+(o:Int) by omega] at this
 exact this
theorem fQ (b:ByteArray) (a k:Nat) (d:k≤100000) (W:World):
 Calls Tryz.prog 195 #[.string (partK b a k)] W fun e w=>e=.returned (.int .i64 (numAt b a k))∧w=W:=eG (partK b a k) W (by rw[fo];exact d)
theorem mD (b:ByteArray) (p:Nat) (w:b.size≤100000) (Q:p≤90000):∃(y1 y2 I J O G:ByteArray) (x:Bx.Sl),x=gsSl b p∧(∀W:World,Calls Tryz.prog 212 #[.string b,.int .i64 (p:Int),.int .i64 2] W fun e d=>e=.returned (.string y1)∧d=W)∧(∀W:World,Calls Tryz.prog 195 #[.string y1] W fun e d=>e=.returned (.int .i64 x.num)∧d=W)∧(∀W:World,Calls Tryz.prog 212 #[.string b,.int .i64 ((p:Int)+2),.int .i64 1] W fun e d=>e=.returned (.string y2)∧d=W)∧(∀W:World,Calls Tryz.prog 195 #[.string y2] W fun e d=>e=.returned (.int .i64 x.line)∧d=W)∧(∀W:World,Calls Tryz.prog 212 #[.string b,.int .i64 ((p:Int)+3),.int .i64 5] W fun e d=>e=.returned (.string I)∧d=W)∧(∀W:World,Calls Tryz.prog 195 #[.string I] W fun e d=>e=.returned (.int .i64 x.minute)∧d=W)∧(∀W:World,Calls Tryz.prog 212 #[.string b,.int .i64 ((p:Int)+8),.int .i64 1] W fun e d=>e=.returned (.string J)∧d=W)∧(∀W:World,Calls Tryz.prog 195 #[.string J] W fun e d=>e=.returned (.int .i64 x.att)∧d=W)∧(∀W:World,Calls Tryz.prog 212 #[.string b,.int .i64 ((p:Int)+9),.int .i64 5] W fun e d=>e=.returned (.string O)∧d=W)∧(∀W:World,Calls Tryz.prog 195 #[.string O] W fun e d=>e=.returned (.int .i64 x.frm)∧d=W)∧(∀W:World,Calls Tryz.prog 212 #[.string b,.int .i64 ((p:Int)+14),.int .i64 1] W fun e d=>e=.returned (.string G)∧d=W)∧(G.toList==one1.toList)=x.runs:=
 ⟨partK b p 2,partK b (p+2) 1,partK b (p+3) 5,partK b (p+8) 1,partK b (p+9) 5,partK b (p+14) 1,gsSl b p,rfl,fun W=>(by have:=hV b p 0 2 w (by omega) (by decide) W;simpa using this),fun W=>fQ b _ _ (by decide) W,fun W=>hV b p 2 1 w (by omega) (by decide) W,fun W=>fQ b _ _ (by decide) W,fun W=>hV b p 3 5 w (by omega) (by decide) W,fun W=>fQ b _ _ (by decide) W,fun W=>hV b p 8 1 w (by omega) (by decide) W,fun W=>fQ b _ _ (by decide) W,fun W=>hV b p 9 5 w (by omega) (by decide) W,fun W=>fQ b _ _ (by decide) W,fun W=>hV b p 14 1 w (by omega) (by decide) W,rfl⟩
theorem op (b:ByteArray) (p:Nat) (w:b.size≤100000) (G:p≤90000):∃(y1:ByteArray) (x:Bx.En),x=gsEn b p∧(∀W:World,Calls Tryz.prog 212 #[.string b,.int .i64 (p:Int),.int .i64 2] W fun e d=>e=.returned (.string y1)∧d=W)∧(∀W:World,Calls Tryz.prog 195 #[.string y1] W fun e d=>e=.returned (.int .i64 x.num)∧d=W)∧(∀W:World,Calls Tryz.prog 212 #[.string b,.int .i64 ((p:Int)+2),.int .i64 1] W fun e d=>e=.returned (.string x.how)∧d=W):=
 ⟨partK b p 2,gsEn b p,rfl,fun W=>(by have:=hV b p 0 2 w (by omega) (by decide) W;simpa using this),fun W=>fQ b _ _ (by decide) W,fun W=>hV b p 2 1 w (by omega) (by decide) W⟩
theorem ir {w w1 d:World}{q:Nat} (h:w.grownBy w1 (some q)) (hb:Below w.heap.size w1 d) (I:w1.heap.size≤d.heap.size):w.grownBy d (some q):=
 ⟨hb.os.trans h.os,hb.tape.trans h.tape,hb.output.trans h.output,Nat.le_trans h.size I,fun k e G=>(hb.block k e).trans (h.block k e G)⟩
theorem iu {w W W2:World}{q:Nat} (h:Below w.heap.size w W) (d:W.grownBy W2 (some q)) (I:w.heap.size≤q):Below w.heap.size w W2:=
 ⟨d.os.trans h.os,d.tape.trans h.tape,d.output.trans h.output,Nat.le_trans h.size d.size,fun k G=>(d.block k (Nat.lt_of_lt_of_le G h.size) (fun e=>by cases e;omega)).trans (h.block k G)⟩
def GsR (b:ByteArray) (w w':World) (e:Ending):Prop:=(∃sl en,e=.returned (stV (gs b) sl en)∧StAt w' (gs b) sl en)∧Below w.heap.size w w'
abbrev stZl:List Value:=[.string {data:= #[]},.int .i64 0,.int .i64 0,.slice none 0 0,.slice none 0 0]
theorem lx (b:ByteArray) (hs:b.size≤70000):∃(N K E I w G:Nat) (T y1 y2 U V Q:ByteArray) (c c0 n m:Int),(∀W:World,Calls Tryz.prog 212 #[.string b,.int .i64 1,.int .i64 5] W fun e d=>e=.returned (.string y1)∧d=W)∧(∀W:World,Calls Tryz.prog 195 #[.string y1] W fun e d=>e=.returned (.int .i64 c0)∧d=W)∧IntKind.i64.wrap (c0-1)=c∧(∀W:World,Calls Tryz.prog 212 #[.string b,.int .i64 6,.int .i64 2] W fun e d=>e=.returned (.string y2)∧d=W)∧(∀W:World,Calls Tryz.prog 195 #[.string y2] W fun e d=>e=.returned (.int .i64 n)∧d=W)∧(∀W:World,Calls Tryz.prog 212 #[.string b,.int .i64 8,.int .i64 2] W fun e d=>e=.returned (.string U)∧d=W)∧(∀W:World,Calls Tryz.prog 195 #[.string U] W fun e d=>e=.returned (.int .i64 m)∧d=W)∧(300<m→N=0)∧(¬300<m→m=(N:Int))∧(∀W:World,Calls Tryz.prog 212 #[.string b,.int .i64 10,.int .i64 (N:Int)] W fun e d=>e=.returned (.string T)∧d=W)∧IntKind.i64.wrap (10+(N:Int))=(I:Int)∧(∀W:World,Calls Tryz.prog 212 #[.string b,.int .i64 (I:Int),.int .i64 1] W fun e d=>e=.returned (.string V)∧d=W)∧(∀W:World,Calls Tryz.prog 195 #[.string V] W fun e d=>e=.returned (.int .i64 (K:Int))∧d=W)∧IntKind.i64.wrap ((I:Int)+1)=(w:Int)∧K≤255∧w≤400∧(∀W:World,Calls Tryz.prog 212 #[.string b,.int .i64 ((w+15*K:Nat):Int),.int .i64 1] W fun e d=>e=.returned (.string Q)∧d=W)∧(∀W:World,Calls Tryz.prog 195 #[.string Q] W fun e d=>e=.returned (.int .i64 (E:Int))∧d=W)∧E≤255∧IntKind.i64.wrap (((w+15*K:Nat):Int)+1)=(G:Int)∧G≤5000∧G=w+15*K+1∧gs b=⟨T,c,n,gsSls b w K,gsEns b G E⟩:=by
 have Y:=o9 b;have O:=nE b;have J:=o5 b;have e5:numAt b (10+gsN b) 1=((gsK b:Nat):Int):=by have:=(dZ b (10+gsN b) 1 (by decide)).1;unfold gsK;omega
 have Z:numAt b (11+gsN b+15*gsK b) 1=((gsE b:Nat):Int):=by have:=(dZ b (11+gsN b+15*gsK b) 1 (by decide)).1;unfold gsE;omega
 have h5:=dZ b 1 5 (by decide)
 have h8:=dZ b 8 2 (by decide)
 refine⟨gsN b,gsK b,gsE b,10+gsN b,11+gsN b,12+gsN b+15*gsK b,partK b 10 (gsN b),partK b 1 5,partK b 6 2,partK b 8 2,partK b (10+gsN b) 1,partK b (11+gsN b+15*gsK b) 1,numAt b 1 5-1,numAt b 1 5,numAt b 6 2,numAt b 8 2,
  fun W=>fa b 1 5 W (by omega) (by decide) (by decide),fun W=>fQ b _ _ (by decide) W,by rw[IntKind.wrap_i64];omega,fun W=>fa b 6 2 W (by omega) (by decide) (by decide),fun W=>fQ b _ _ (by decide) W,fun W=>fa b 8 2 W (by omega) (by decide) (by decide),fun W=>fQ b _ _ (by decide) W,
  fun h=>by unfold gsN;rw[if_pos h],fun h=>by unfold gsN;rw[if_neg h];omega,fun W=>fa b 10 (gsN b) W (by omega) (by decide) (by omega),by rw[IntKind.wrap_i64];omega,fun W=>fa b (10+gsN b) 1 W (by omega) (by omega) (by decide),fun W=>by rw[←e5];exact fQ b _ _ (by decide) W,
  by rw[IntKind.wrap_i64];omega,O,by omega,fun W=>fa b (11+gsN b+15*gsK b) 1 W (by omega) (by omega) (by decide),fun W=>by rw[←Z];exact fQ b _ _ (by decide) W,J,by rw[IntKind.wrap_i64];omega,by omega,by omega,rfl⟩
set_option maxRecDepth 10000 in
set_option maxHeartbeats 0 in
theorem od (b:ByteArray) (w:World) (hs:b.size≤70000):Calls Tryz.prog 196 #[.string b] w fun e w'=>GsR b w w' e:=by
 obtain⟨i0,hi,ck,bT,bQ⟩:=info_parts fP;obtain⟨j0,hj,cr,b3,ce⟩:=info_parts lU;obtain⟨N,K,E,db,V,Y,T,y1,y2,y3,y5,y6,c,c0,n,m,bj,aG,qc,bC,bn,bB,bp,aI,aP,ba,dc,bk,br,dk,hK,dm,bw,bt,hE,dn,dd,bf,HG⟩:=lx b hs;have P1:=Hq bj;clear bj;have N1:=Hq aG;clear aG;have P2:=Hq bC;clear bC;have N2:=Hq bn;clear bn;have P3:=Hq bB;clear bB;have N3:=Hq bp;clear bp;have b7:=Hq aI;clear aI;have aG:=Hq aP;clear aP;have P4:=Hq ba;clear ba;have P5:=Hq bk;clear bk;have N5:=Hq br;clear br;have P6:=Hq bw;clear bw;have N6:=Hq bt;clear bt;have bI:=Hq bf;clear bf;have cp:=Hq HG;clear HG;have bg:=dx w (stO stZ nilV nilV);have hz:=Cl.new w stZl 130
 go_enter Tryz.func196,Tryz.ntmps196
 go_upto_region 1 with fail;have aJ:Cl (w.alloc (stO stZ nilV nilV)) w.heap.size 130 stZl:=hz;clear hz;generalize w.alloc (stO stZ nilV nilV)=W0 at *;have bb:=Hq aJ;have aR:=Hq bg;have aU:=aJ.ty.lt;clear aJ bg;have bx:=Cl.new W0 [.string {data:= #[]},.int .i64 c,.int .i64 n,.slice none 0 0,.slice none 0 0] 130;have aK:=dx W0 (.cells #[.string {data:= #[]},.int .i64 c,.int .i64 n,.slice none 0 0,.slice none 0 0] 130);go_wp2_with fail;refine (P1.out _).mono ?_;rintro e w1 ⟨rfl,d⟩;have G:=d.symm;subst G;clear d;go_wp2_with fail;refine (N1.out _).mono ?_;rintro e w1 ⟨rfl,d⟩;have G:=d.symm;subst G;clear d;go_wp2_with fail;refine (P2.out _).mono ?_;rintro e w1 ⟨rfl,d⟩;have G:=d.symm;subst G;clear d;go_wp2_with fail;refine (N2.out _).mono ?_;rintro e w1 ⟨rfl,d⟩;have G:=d.symm;subst G;clear d;go_upto_region 2 with fail;have bo:Cl (W0.alloc (.cells #[.string {data:= #[]},.int .i64 c,.int .i64 n,.slice none 0 0,.slice none 0 0] 130)) W0.heap.size 130 [.string {data:= #[]},.int .i64 c,.int .i64 n,.slice none 0 0,.slice none 0 0]:=bx;clear bx;generalize W0.alloc (.cells #[.string {data:= #[]},.int .i64 c,.int .i64 n,.slice none 0 0,.slice none 0 0] 130)=W1 at *;have aq:w.heap.size<W0.heap.size:=aU;have bs:=Hq (bb.out.later aK);have bc:=Hq (aR.out.trans (aK.mono aR.out.size));generalize W0.heap.size=q at *;have aW:=Hq bo;clear bo aK bb aR aU;go_wp2_with fail;refine (P3.out _).mono ?_;rintro e w1 ⟨rfl,d⟩;have G:=d.symm;subst G;clear d;go_wp2_with fail;refine (N3.out _).mono ?_;rintro e w1 ⟨rfl,d⟩;have G:=d.symm;subst G;clear d;go_upto_region 3 with fail;have hS:=aW.out;have e0:=hS.c 0 _ rfl;have f0:=hS.f 0 (by simp)
 have az:=hS.ty.lt;clear hS
 go_upto_if 23 with fail
 go_cut [4] from 22 to 23 (fun n4 wx=>n4=.int .i64 (N:Int)∧wx=W1)
 case first=>
  by_cases h3:300<m
  ·have bU:Hid (N=0):=b7.out h3;go_wp2_with fail;go_meet;exact⟨by rw[bU.out];rfl,rfl⟩
  ·have cc:Hid (m=(N:Int)):=aG.out (by omega)
   go_wp2_with fail;go_meet;exact⟨by rw[cc.out],rfl⟩
 case rest=>
  obtain⟨rfl,bz⟩:=hcut;have bG:=bz.symm;subst bG;clear bz;go_wp2_with fail;refine (P4.out _).mono ?_;rintro e w1 ⟨rfl,d⟩;have G:=d.symm;subst G;clear d;go_upto_region 7 with fail;have aQ:Hid (Cl (W1.setCell ⟨q,0,none⟩ (.string T)) q 130 [.string T,.int .i64 c,.int .i64 n,.slice none 0 0,.slice none 0 0]):=aW.out.set 0 (by simp) _
  have bm:Hid (Cl (W1.setCell ⟨q,0,none⟩ (.string T)) w.heap.size 130 stZl):=bs.out.far (Nat.ne_of_lt aq) _ _;have a8:Hid (Below w.heap.size w (W1.setCell ⟨q,0,none⟩ (.string T))):=bc.out.setCell (Nat.le_of_lt aq) _;clear e0 f0 az aW bs bc;generalize W1.setCell ⟨q,0,none⟩ (.string T)=W at *;go_wp2_with fail;refine (P5.out _).mono ?_;rintro e w1 ⟨rfl,d⟩;have G:=d.symm;subst G;clear d;go_wp2_with fail;refine (N5.out _).mono ?_;rintro e w1 ⟨rfl,d⟩;have G:=d.symm;subst G;clear d;go_wp2_with fail
  go_loopw [5,7] (fun a i wr=>∃(k:Nat) (v:Value),k≤K∧a=.int .i64 ((V+15*k:Nat):Int)∧i=.int .i64 k∧Cl wr q 130 [.string T,.int .i64 c,.int .i64 n,v,.slice none 0 0]∧wr.ownsRow W.heap.size 218 6 v (gsSls b V k).length ((gsSls b V k).flatMap slC)∧W.grownBy wr (some q)) (fun _ i _=>K-(intOf i).toNat)
  case atStart=>exact⟨0,_,Nat.zero_le _,rfl,rfl,aQ.out,World.ownsRow_nil _ _ _ _,dy (Below.refl _ _) _⟩
  case round=>
   obtain⟨k,v,hk,rfl,rfl,aj,ab,al⟩:=hrel;have aa:=Hq al;have Z:=Hq aj;have aT:=aj.ty.lt;have au:=al.size;have az:=aQ.out.ty.lt;obtain⟨ad,af,G,_⟩:=(RowAt.of_own ab).form;subst G;have ac:=Hq ab;clear aj al ab
   by_cases cb:k<K
   ·have hn:(gsSls b V k).length≤10000:=by rw[gZ];omega
    obtain⟨p,hp⟩:∃p:Nat,p=V+15*k:=⟨_,rfl⟩;have aN:p≤90000:=by omega
    have aO:Hid (((V+15*(k+1):Nat):Int)=(p:Int)+15):=by unfold Hid;rw[hp];omega
    have ay:Hid (∀x,x=gsSl b p→gsSls b V (k+1)=gsSls b V k++[x]):=fun x e=>by rw[m5,e,hp]
    rw[←hp];clear hp;have bO:(k:Int)<(K:Int):=by omega
    obtain⟨z1,z2,z3,z4,z5,z6,x,hx,A1,B1,A2,B2,A3,B3,A4,B4,A5,B5,A6,e6⟩:=mD b p (by omega) aN
    have HF:Hid (gsSls b V (k+1)=gsSls b V k++[x]):=ay.out x hx;clear hx ay;have C1:=Hq A1;have D1:=Hq B1;have C2:=Hq A2;have D2:=Hq B2;have C3:=Hq A3;have D3:=Hq B3;have C4:=Hq A4;have D4:=Hq B4;have C5:=Hq A5;have D5:=Hq B5;have C6:=Hq A6;clear A1 B1 A2 B2 A3 B3 A4 B4 A5 B5 A6;have w2:IntKind.i64.wrap ((p:Int)+2)=(p:Int)+2:=by rw[IntKind.wrap_i64];omega
    have O:IntKind.i64.wrap ((p:Int)+3)=(p:Int)+3:=by rw[IntKind.wrap_i64];omega
    have w8:IntKind.i64.wrap ((p:Int)+8)=(p:Int)+8:=by rw[IntKind.wrap_i64];omega
    have w9:IntKind.i64.wrap ((p:Int)+9)=(p:Int)+9:=by rw[IntKind.wrap_i64];omega
    have dj:IntKind.i64.wrap ((p:Int)+14)=(p:Int)+14:=by rw[IntKind.wrap_i64];omega
    have df:IntKind.i64.wrap ((p:Int)+15)=(p:Int)+15:=by rw[IntKind.wrap_i64];omega
    generalize gsSls b V k=L at *;go_wp2_with fail;refine (C1.out _).mono ?_;rintro e w1 ⟨rfl,d⟩;have G:=d.symm;subst G;clear d;go_wp2_with fail;refine (D1.out _).mono ?_;rintro e w1 ⟨rfl,d⟩;have G:=d.symm;subst G;clear d;go_wp2_with fail;refine (C2.out _).mono ?_;rintro e w1 ⟨rfl,d⟩;have G:=d.symm;subst G;clear d;go_wp2_with fail;refine (D2.out _).mono ?_;rintro e w1 ⟨rfl,d⟩;have G:=d.symm;subst G;clear d;go_wp2_with fail;refine (C3.out _).mono ?_;rintro e w1 ⟨rfl,d⟩;have G:=d.symm;subst G;clear d;go_wp2_with fail;refine (D3.out _).mono ?_;rintro e w1 ⟨rfl,d⟩;have G:=d.symm;subst G;clear d;go_wp2_with fail;refine (C4.out _).mono ?_;rintro e w1 ⟨rfl,d⟩;have G:=d.symm;subst G;clear d;go_wp2_with fail;refine (D4.out _).mono ?_;rintro e w1 ⟨rfl,d⟩;have G:=d.symm;subst G;clear d;go_wp2_with fail;refine (C5.out _).mono ?_;rintro e w1 ⟨rfl,d⟩;have G:=d.symm;subst G;clear d;go_wp2_with fail;refine (D5.out _).mono ?_;rintro e w1 ⟨rfl,d⟩;have G:=d.symm;subst G;clear d;have cg:(z6.toList==[1])=x.runs:=by rw[←e6];simp[one1,ByteArray.toList_eq]
    clear e6;have aE:=dx wr (.cells #[.int .i64 x.num,.int .i64 x.line,.int .i64 x.minute,.int .i64 x.att,.int .i64 x.frm,.bool x.runs] 218);have hX:=Cl.new wr [.int .i64 x.num,.int .i64 x.line,.int .i64 x.minute,.int .i64 x.att,.int .i64 x.frm,.bool x.runs] 218;go_upto_region 13 with fail;go_wp2_with fail;refine (C6.out _).mono ?_;rintro e w1 ⟨rfl,d⟩;have G:=d.symm;subst G;clear d;go_upto_region 14 with fail;have ai:Cl (wr.alloc (.cells #[.int .i64 x.num,.int .i64 x.line,.int .i64 x.minute,.int .i64 x.att,.int .i64 x.frm,.bool x.runs] 218)) wr.heap.size 218 [.int .i64 x.num,.int .i64 x.line,.int .i64 x.minute,.int .i64 x.att,.int .i64 x.frm,.bool x.runs]:=hX;clear hX cg;generalize wr.alloc (.cells #[.int .i64 x.num,.int .i64 x.line,.int .i64 x.minute,.int .i64 x.att,.int .i64 x.frm,.bool x.runs] 218)=W2 at *;have cz:wr.heap.size≤wr.heap.size:=Nat.le_refl _;have aC:=Z.out.later aE;have av:=dV ac.out aE;have s5:W2.cell? ⟨q,3,none⟩=some (.slice ad L.length af):=aC.c 3 _ rfl;have di:=aC.ty.lt;have de:=ai.ty.lt;have x0:=ai.c 0 _ rfl;have x1:=ai.c 1 _ rfl;have x2:=ai.c 2 _ rfl;have x3:=ai.c 3 _ rfl;have x4:=ai.c 4 _ rfl;have x5:=ai.c 5 _ rfl;have cD:=aE.size;have bL:=Hq Z.out;clear ai Z ac C1 D1 C2 D2 C3 D3 C4 D4 C5 D5 C6;go_wp2_with (at_builtin;refine wpList_append_lies _ rfl (.tmp 73) (.tmp 75) 128 rfl W.heap.size 218 i0 (.agg #[.int .i64 0,.int .i64 0,.int .i64 0,.int .i64 0,.int .i64 0,.bool false]) 6 48 Tryz.underlying128 hi ck bT bQ rfl (by decide) _ _ _ rfl (av.alloc _) ⟨W2.heap.size,0,none⟩ 1 1 (slC x) rfl rfl (fg _ _ _) (fc _) (by decide) ?c3 ?c4 ?c5 _ rfl ?_)
    case c3=>unfold maxLen;omega
    case c4=>omega
    case c5=>simp;omega
    intro g I O ae ag _ bE;have B1:Below W.heap.size wr O:=((aE.mono au).alloc (by omega) _).grown ag (by simp;omega) (fun k' e=>(av.lt k' e).1)
    have Q:O.ownsRow W.heap.size 218 6 (.slice (some ⟨g,0,none⟩) (L.length+1) I) (L++[x]).length ((L++[x]).flatMap slC):=by simpa using ae
    have J:=bL.out.below az B1;have s5:O.cell? ⟨q,3,none⟩=some (.slice ad L.length af):=J.c 3 _ rfl;have f5:=J.f 3 (by simp)
    have b9:=J.ty.lt;have aL:Hid (W.grownBy (O.setCell ⟨q,3,none⟩ (.slice (some ⟨g,0,none⟩) (L.length+1) I)) (some q)):=dJ (ir aa.out B1 (by have:=B1.size;omega)) _ _
    have aV:Hid (Cl (O.setCell ⟨q,3,none⟩ (.slice (some ⟨g,0,none⟩) (L.length+1) I)) q 130 [.string T,.int .i64 c,.int .i64 n,(.slice (some ⟨g,0,none⟩) (L.length+1) I),.slice none 0 0]):=J.set 3 (by simp) _
    have ap:Hid ((O.setCell ⟨q,3,none⟩ (.slice (some ⟨g,0,none⟩) (L.length+1) I)).ownsRow _ _ _ _ _ _):=ownsRow_setCell_below Q (a:=⟨q,3,none⟩) az (.slice (some ⟨g,0,none⟩) (L.length+1) I);clear ae ag av Q aC J x0 x1 x2 x3 x4 x5 B1;go_wp2_with fail;go_roundw
    case rel=>exact⟨k+1,_,by omega,by rw[aO.out],by go_num,aV.out,by rw[HF.out];exact ap.out,aL.out⟩
    case measure=>simp[intOf];omega
   ·obtain rfl:k=K:=by omega
    have a9:=TRow.of_own ac.out;have a2:=Hq a9;clear a9 ac;have bq:Hid (Cl wr w.heap.size 130 stZl):=bm.out.grow aa.out (Nat.ne_of_lt aq);have bu:Hid (Below w.heap.size w wr):=iu a8.out aa.out (Nat.le_of_lt aq);generalize gsSls b V k=SL at *;have aS:=Hq Z.out;have aF:=Hq Z.out.ty;have aw:=aT;clear Z aa aQ bm a8 az au aT;rename World=>WB
    rename Option Addr=>aB
    obtain⟨am,bW⟩:∃c,c=af:=⟨_,rfl⟩;subst bW;go_wp2_with fail;refine (P6.out _).mono ?_;rintro e w1 ⟨rfl,d⟩;have G:=d.symm;subst G;clear d;go_wp2_with fail;refine (N6.out _).mono ?_;rintro e w1 ⟨rfl,d⟩;have G:=d.symm;subst G;clear d;go_wp2_with fail
    go_loopw [5,10] (fun a i wr=>∃(k:Nat) (v:Value),k≤E∧a=.int .i64 ((Y+3*k:Nat):Int)∧i=.int .i64 k∧Cl wr q 130 [.string T,.int .i64 c,.int .i64 n,(.slice aB SL.length am),v]∧wr.ownsRow WB.heap.size 85 2 v (gsEns b Y k).length ((gsEns b Y k).flatMap enC)∧WB.grownBy wr (some q)) (fun _ i _=>E-(intOf i).toNat)
    case atStart=>exact⟨0,_,Nat.zero_le _,congrArg (Value.int .i64) (by have:=bI.out;omega),rfl,aS.out,World.ownsRow_nil _ _ _ _,dy (Below.refl _ _) _⟩
    case round=>
     obtain⟨j,v,hk,rfl,rfl,aj,ab,al⟩:=hrel;have aa:=Hq al;have Z:=Hq aj;have aT:=aj.ty.lt;have au:=al.size;obtain⟨ad,af,G,_⟩:=(RowAt.of_own ab).form;subst G;have ac:=Hq ab;clear aj al ab
     by_cases cb:j<E
     ·have hn:(gsEns b Y j).length≤10000:=by rw[gS];omega
      obtain⟨p,hp⟩:∃p:Nat,p=Y+3*j:=⟨_,rfl⟩;have aN:p≤90000:=by omega
      have aO:Hid (((Y+3*(j+1):Nat):Int)=(p:Int)+3):=by unfold Hid;rw[hp];omega
      have ay:Hid (∀x,x=gsEn b p→gsEns b Y (j+1)=gsEns b Y j++[x]):=fun x e=>by rw[mt,e,hp]
      rw[←hp];clear hp;have bO:(j:Int)<(E:Int):=by omega
      obtain⟨z1,x,hx,A1,B1,A2⟩:=op b p (by omega) aN
      have HF:Hid (gsEns b Y (j+1)=gsEns b Y j++[x]):=ay.out x hx;clear hx ay;have C1:=Hq A1;have D1:=Hq B1;have C2:=Hq A2;clear A1 B1 A2;have w2:IntKind.i64.wrap ((p:Int)+2)=(p:Int)+2:=by rw[IntKind.wrap_i64];omega
      have O:IntKind.i64.wrap ((p:Int)+3)=(p:Int)+3:=by rw[IntKind.wrap_i64];omega
      generalize gsEns b Y j=L at *;have s5:wr.cell? ⟨q,4,none⟩=some (.slice ad L.length af):=Z.out.c 4 _ rfl;have ci:L.length+1≤maxLen:=by unfold maxLen;omega
      have cf:(L.length+1)*24≤140737488355328:=by omega
      go_upto_region 21 with fail
      go_cut [] from 91 to 104 (fun wx=>∃(g I:Nat) (O:World),wx=O.setCell ⟨q,4,none⟩ (.slice (some ⟨g,0,none⟩) (L.length+1) I)∧Below WB.heap.size wr O∧O.ownsRow WB.heap.size 85 2 (.slice (some ⟨g,0,none⟩) (L.length+1) I) (L++[x]).length ((L++[x]).flatMap enC))
      case first=>
       go_region_law ((first
        | (refine step_append_lies _ rfl (.tmp 92) (.tmp 102) 38 rfl WB.heap.size 85 j0 (.agg #[.int .i64 0,.string ByteArray.empty]) 2 24 Tryz.underlying38 hj cr b3 ce rfl (by decide) (.slice ad L.length af) _ _ rfl (World.ownsRow.drew (ac.out.alloc _)) ⟨wr.heap.size,0,none⟩ 1 1 (enC x) rfl rfl (fun j u hj=>jj wr x _ j u hj) (jq _) (by decide) ci cf (by show WB.heap.size≤(wr.alloc _).heap.size;simp;omega) _ rfl ?_;intro g I O ae ag _ bE;have ak:Below WB.heap.size wr O:=(((Below.refl WB.heap.size wr).alloc au _).drew).grown ag (by show WB.heap.size≤(wr.alloc _).heap.size;simp;omega) (fun k' e=>(ac.out.lt k' e).1);have J:=Z.out.below aw ak;have s6:O.cell? ⟨q,4,none⟩=some (.slice ad L.length af):=J.c 4 _ rfl;have f6:=J.f 4 (by simp);have b9:=J.ty.lt)
        | (go_simp;go_at_call 195;with_reducible refine (D1.out _).mono ?_;rintro e v2 ⟨rfl,rfl⟩)
        | (go_simp;go_at_call 212;with_reducible refine (C1.out _).mono ?_;rintro e v1 ⟨rfl,rfl⟩)
        | (go_simp;go_at_call 212;with_reducible refine (C2.out _).mono ?_;rintro e v1 ⟨rfl,rfl⟩)))
       all_goals
        have Q:O.ownsRow WB.heap.size 85 2 (.slice (some ⟨g,0,none⟩) (L.length+1) I) (L++[x]).length ((L++[x]).flatMap enC):=by simpa using ae
        have ap:Hid (Below WB.heap.size wr O∧O.ownsRow WB.heap.size 85 2 (.slice (some ⟨g,0,none⟩) (L.length+1) I) (L++[x]).length ((L++[x]).flatMap enC)):=⟨ak,Q⟩;clear ae ag Q;go_wp2_with fail;go_meet;exact⟨g,I,O,rfl,ap.out.1,ap.out.2⟩
      case rest=>
       obtain⟨g,I,O,a7,ak,Q⟩:=hcut;have bJ:=a7.symm;subst bJ;clear a7;have J:=Z.out.below aw ak;have aL:Hid (WB.grownBy (O.setCell ⟨q,4,none⟩ (.slice (some ⟨g,0,none⟩) (L.length+1) I)) (some q)):=dJ (ir aa.out ak (by have:=ak.size;omega)) _ _
       have aV:Hid (Cl (O.setCell ⟨q,4,none⟩ (.slice (some ⟨g,0,none⟩) (L.length+1) I)) q 130 [.string T,.int .i64 c,.int .i64 n,(.slice aB SL.length am),(.slice (some ⟨g,0,none⟩) (L.length+1) I)]):=J.set 4 (by simp) _
       have ap:Hid ((O.setCell ⟨q,4,none⟩ (.slice (some ⟨g,0,none⟩) (L.length+1) I)).ownsRow _ _ _ _ _ _):=ownsRow_setCell_below Q (a:=⟨q,4,none⟩) aw (.slice (some ⟨g,0,none⟩) (L.length+1) I);clear Q J ak s5;go_wp2_with fail;go_roundw
       case rel=>exact⟨j+1,_,by omega,by rw[aO.out],by go_num,aV.out,by rw[HF.out];exact ap.out,aL.out⟩
       case measure=>simp[intOf];omega
     ·obtain rfl:j=E:=by omega
      have bh:=TRow.of_own ac.out;have bv:=Hq bh;have bA:Hid (TRow wr 218 (.slice aB SL.length am) SL.length (SL.flatMap slC)):=a2.out.grow' aa.out aF.out (by decide)
      clear bh ac;generalize gsEns b Y j=EN at *;have U:=bq.out.grow aa.out (Nat.ne_of_lt aq);have bP:=Hq U.ty;have b2:Hid (Below w.heap.size w wr):=iu bu.out aa.out (Nat.le_of_lt aq);have hC:=Z.out;have HA:Hid (StAt wr ⟨T,c,n,SL,EN⟩ (.slice aB SL.length am) (.slice ad EN.length af)):=⟨bA.out,bv.out⟩;have s0:=hC.c 0 _ rfl;have r0:=U.c 0 _ rfl;have f0:=U.f 0 (by simp)
      have s1:=hC.c 1 _ rfl;have r1:=U.c 1 _ rfl;have f1:=U.f 1 (by simp)
      have s2:=hC.c 2 _ rfl;have r2:=U.c 2 _ rfl;have f2:=U.f 2 (by simp)
      have s3:=hC.c 3 _ rfl;have r3:=U.c 3 _ rfl;have f3:=U.f 3 (by simp)
      have s4:=hC.c 4 _ rfl;have r4:=U.c 4 _ rfl;have f4:=U.f 4 (by simp)
      have dh:=U.ty.lt;clear hC U Z aa bq bu a2 aS aF bA bv;go_wp2_with fail;refine bodyPost_ret (v:=stV ⟨T,c,n,SL,EN⟩ (.slice aB SL.length am) (.slice ad EN.length af)) (by simp[results,Tryz.results196,go_sem,r0,r1,r2,r3,r4]) rfl ?_
      unfold GsR;rw[cp.out];exact⟨⟨_,_,rfl,HA.out.store bP.out _ _ _ _ _⟩,dE b2.out (Nat.le_refl _) _ _ _ _ _⟩
set_option maxRecDepth 10000 in
set_option maxHeartbeats 0 in
theorem qU (s:Bx.St) (sl en:Value) (w:World) (hG:GsOk s) (hS:StAt w s sl en):
 Calls Tryz.prog 197 #[stV s sl en] w fun e w'=>e=.returned (.bool (mayD s))∧Below w.heap.size w w':=by
 obtain⟨ad,ai,rfl,bq⟩:=hS.sl.form;obtain⟨ah,aa,rfl,bp⟩:=hS.en.form;have ar:=dx w (stO s (.slice ad s.slots.length ai) (.slice ah s.ends.length aa));have hI:=StIn.new w s (.slice ad s.slots.length ai) (.slice ah s.ends.length aa);have aR:=Hq (hS.later ar);have HG:=Hq hG;have g1:=hG.t;have g2:=hG.sl;have g3:=hG.en;clear hS hG
 go_enter Tryz.func197,Tryz.ntmps197
 go_upto_region 1 with fail;have aN:StIn (w.alloc (stO s (.slice ad s.slots.length ai) (.slice ah s.ends.length aa))) w.heap.size s (.slice ad s.slots.length ai) (.slice ah s.ends.length aa):=hI;clear hI;generalize w.alloc (stO s (.slice ad s.slots.length ai) (.slice ah s.ends.length aa))=W at *;have HB:=Hq ar;have HI:=Hq aN;obtain⟨c0,c1,c2,c3,c4⟩:=aN;clear ar;go_wp2_with fail;refine (gF s.tab _ (by unfold maxLen;omega)).mono ?_
 rintro e w1 ⟨⟨a,r,rfl,aP,a5⟩,ak⟩;have V:=Hq (HB.out.trans (ak.mono HB.out.size));have aD:=Hq (HI.out.later ak);have aG:=Hq (aR.out.later ak);obtain⟨d0,d1,d2,d3,d4⟩:=aD.out;have aA:=Hq aP;clear c0 c1 c2 c3 c4 aP ak HB HI aR
 by_cases k1:r=0
 rotate_left
 ·have J:Hid (mayD s=false):=eP fun h=>k1 (h.tab.uniq aA.out).2.symm
  have bx:(r !=0)=true:=by simpa using k1
  clear k1;go_wp2_with fail;go_ret;exact⟨dQ J.out.symm,V.out⟩
 subst k1;have HT:Hid (ChkR s.tab 0 0):=by have:=aA.out;rwa [this.zero rfl] at this
 clear aA a5
 by_cases k2:4223371679<s.clock
 ·have J:Hid (mayD s=false):=eP fun h=>by have:=h.c2;omega
  go_wp2_with fail;go_ret;exact⟨dQ J.out.symm,V.out⟩
 by_cases k3:s.next<1
 ·have J:Hid (mayD s=false):=eP fun h=>by have:=h.n1;omega
  go_wp2_with fail;go_ret;exact⟨dQ J.out.symm,V.out⟩
 by_cases k4:10000<s.next
 ·have J:Hid (mayD s=false):=eP fun h=>by have:=h.n2;omega
  go_wp2_with fail;go_ret;exact⟨dQ J.out.symm,V.out⟩
 by_cases k5:(8:Int)<(s.slots.length:Int)
 ·have J:Hid (mayD s=false):=eP fun h=>by have:=h.sl;omega
  go_wp2_with fail;go_ret;exact⟨dQ J.out.symm,V.out⟩
 by_cases k6:(6:Int)<(s.ends.length:Int)
 ·have J:Hid (mayD s=false):=eP fun h=>by have:=h.en;omega
  go_wp2_with fail;go_ret;exact⟨dQ J.out.symm,V.out⟩
 go_wp2_with fail;refine (eU s _ _ _ HT.out aG.out).mono ?_;rintro e w2 ⟨⟨bl,aX,rfl,hL⟩,am⟩;have Q:=Hq (V.out.trans (am.mono V.out.size));have ax:=Hq (aD.out.later am);have ay:=Hq (aG.out.later am);have bf:=Hq hL;clear d0 d1 d2 d3 d4 hL am V aD aG;have aZ:Hid ((∀j (d:j<s.slots.length),slMB s j s.slots[j] (Bx.slAt s (j-1))=true)→(∀j (d:j<s.slots.length),s.slots[j].runs=true→Bx.locked s j=false∧s.slots[j].frm≤s.clock)→(∀j (d:j<s.ends.length),enMB s j s.ends[j]=true)→mayD s=true):=fun A B C=>ra (rO HT.out HG.out.c.1 (by omega) (by omega) (by omega) (by omega) (by omega) (fun x hx=>(HG.out.es x hx).m.1) A B fun j d=>qX.1 (C j d))
 go_wp2_with fail
 go_loopw [6] (fun i wr=>∃k:Nat,k≤s.slots.length∧i=.int .i64 k∧(∀j (d:j<s.slots.length),j<k→slMB s j s.slots[j] (Bx.slAt s (j-1))=true)∧Below w2.heap.size w2 wr) (fun i _=>s.slots.length-(intOf i).toNat)
 case atStart=>exact⟨0,Nat.zero_le _,rfl,fun j _ h=>by omega,Below.refl _ _⟩
 case round=>
  obtain⟨k,hk,rfl,hA,G⟩:=hrel;have HA:=Hq hA;have aq:=Hq G;obtain⟨d0,d1,d2,d3,d4⟩:=ax.out.later G;have ba:=Hq (ay.out.later G);have a9:=Hq (bf.out.later G);clear hA G
  by_cases O:k<s.slots.length
  ·have y2:(k:Int)<(s.slots.length:Int):=by omega
   have aO:=HG.out.c.1;go_wp2_with fail;refine (ll s k O _ _ bl aX _ HT.out g2 aO (by omega) a9.out ba.out).mono ?_
   rintro e w3 ⟨rfl,U⟩;have Y:=Hq (aq.out.trans (U.mono aq.out.size));clear d0 d1 d2 d3 d4 U aO
   have HN:Hid (∀b,slMB s k s.slots[k] (Bx.slAt s (k-1))=b→(b=true→∀j (d:j<s.slots.length),j<k+1→slMB s j s.slots[j] (Bx.slAt s (j-1))=true)∧(b=false→mayD s=false)):=by
    intro b hb;refine⟨fun e j d aQ=>?_,fun e=>eP fun h=>?_⟩
    ·by_cases q:j=k
     ·subst q;rw[hb,e]
     ·exact HA.out j d (by omega)
    ·have:=tg h k O;rw[hb,e] at this;cases this
   obtain⟨b,hb⟩:∃b,slMB s k s.slots[k] (Bx.slAt s (k-1))=b:=⟨_,rfl⟩;have I:=HN.out b hb;rw[hb];clear hb HN
   cases b
   ·have J:Hid (mayD s=false):=I.2 rfl;clear I;go_wp2_with fail;go_ret;exact⟨dQ J.out.symm,Q.out.trans (Y.out.mono Q.out.size)⟩
   ·have av:Hid (∀j (d:j<s.slots.length),j<k+1→slMB s j s.slots[j] (Bx.slAt s (j-1))=true):=I.1 rfl;clear I;go_wp2_with fail;go_roundw
    case rel=>exact⟨k+1,by omega,by go_num,av.out,Y.out⟩
    case measure=>simp[intOf];omega
  ·obtain rfl:k=s.slots.length:=by omega
   have aT:Hid (∀j (d:j<s.slots.length),slMB s j s.slots[j] (Bx.slAt s (j-1))=true):=fun j d=>HA.out j d d
   clear HA;go_wp2_with fail;clear d0 d1 d2 d3 d4
   go_loopw [8] (fun i wq=>∃k:Nat,k≤s.slots.length∧i=.int .i64 k∧(∀j (d:j<s.slots.length),j<k→s.slots[j].runs=true→Bx.locked s j=false∧s.slots[j].frm≤s.clock)∧Below w2.heap.size w2 wq) (fun i _=>s.slots.length-(intOf i).toNat)
   case atStart=>exact⟨0,Nat.zero_le _,rfl,fun j _ h=>by omega,aq.out⟩
   case round=>
    obtain⟨k,hk,rfl,hA,G⟩:=hrel;rename World=>wq
    have HA:=Hq hA;have aj:=Hq G;have aS:=Hq (ax.out.later G);obtain⟨d0,d1,d2,d3,d4⟩:=aS.out;have aL:=Hq (ay.out.later G);clear hA G
    by_cases O:k<s.slots.length
    ·have y1:(0:Int)≤(k:Int):=by omega
     have y2:(k:Int)<(s.slots.length:Int):=by omega
     obtain⟨eb,bk,bs,hv,_,hc⟩:=aL.out.sl.1.some' (by omega)
     cases hv
     obtain⟨_,_,_,_,s4,s5⟩:=dT hc k O;have aC:Hid (∀w':World,Below wq.heap.size wq w'→w'.cell? ⟨eb,bk+k*6+4,none⟩=some (.int .i64 s.slots[k].frm)):=fun w' hb=>cell_later hb s4
     have al:Hid ((s.slots[k].runs=true→Bx.locked s k=false∧s.slots[k].frm≤s.clock)→∀j (d:j<s.slots.length),j<k+1→s.slots[j].runs=true→Bx.locked s j=false∧s.slots[j].frm≤s.clock):=by
      intro h j d aQ
      by_cases q:j=k
      ·subst q;exact h
      ·exact HA.out j d (by omega)
     have aH:Hid (s.slots[k].runs=true→¬(Bx.locked s k=false∧s.slots[k].frm≤s.clock)→mayD s=false):=fun h1 h2=>eP fun h=>h2 (sk h k O h1)
     have az:Hid (∃j:Nat,(Bx.slAt s k).line=(j:Int)+1∧j<tn s.tab):=by
      obtain⟨_,_,_,q1,q2,_⟩:=iP.1 (aT.out k O);rw[Bx.slAt_eq O];exact⟨(s.slots[k].line-1).toNat,by omega,by omega⟩
     clear hc s4;generalize s.slots[k]=x at *
     cases hr:x.runs
     ·rw[hr] at s5;have HN:Hid (∀j (d:j<s.slots.length),j<k+1→s.slots[j].runs=true→Bx.locked s j=false∧s.slots[j].frm≤s.clock):=al.out (by rw[hr];intro h;cases h)
      clear al aH hr aC az;go_wp2_with fail;go_roundw
      case rel=>exact⟨k+1,by omega,by go_num,HN.out,aj.out⟩
      case measure=>simp[intOf];omega
     ·rw[hr] at s5;have I:Hid (Bx.locked s k=false∧x.frm≤s.clock→∀j (d:j<s.slots.length),j<k+1→s.slots[j].runs=true→Bx.locked s j=false∧s.slots[j].frm≤s.clock):=fun h=>al.out fun _=>h
      have Z:Hid (¬(Bx.locked s k=false∧x.frm≤s.clock)→mayD s=false):=fun h=>aH.out hr h
      obtain⟨jn,aM,aU⟩:=az.out;have HJ:=Hq aM;clear al aH hr az aM;go_wp2_with fail;refine (gC s k jn _ _ _ HT.out (by omega) O HJ.out aU aL.out).mono ?_
      rintro e w3 ⟨rfl,U⟩;have Y:=Hq (aj.out.trans (U.mono aj.out.size));have f4:=aC.out _ U;obtain⟨e0,e1,e2,e3,e4⟩:=aS.out.later U;clear d0 d1 d2 d3 d4 s5 U aC HJ aU;obtain⟨lk,au⟩:∃lk,Bx.locked s k=lk:=⟨_,rfl⟩;rw[au];rw[au] at I Z;clear au
      cases lk
      ·by_cases k7:s.clock<x.frm
       ·have a3:decide (s.clock<x.frm)=true:=decide_eq_true k7;have J:Hid (mayD s=false):=Z.out fun h=>by omega
        clear I Z;go_wp2_with fail
        go_quiet (fail)
        go_wp2_with fail;go_ret;exact⟨dQ J.out.symm,Q.out.trans ((below_drewN Y.out _).mono Q.out.size)⟩
       ·have a3:decide (s.clock<x.frm)=false:=decide_eq_false k7;have HN:Hid (∀j (d:j<s.slots.length),j<k+1→s.slots[j].runs=true→Bx.locked s j=false∧s.slots[j].frm≤s.clock):=I.out ⟨rfl,by omega⟩
        clear I Z;go_wp2_with fail
        go_quiet (fail)
        go_wp2_with fail;go_roundw
        case rel=>exact⟨k+1,by omega,by go_num,HN.out,below_drewN Y.out _⟩
        case measure=>simp[intOf];omega
      ·have J:Hid (mayD s=false):=Z.out fun h=>by cases h.1
       clear I Z;go_wp2_with fail
       go_quiet (fail)
       go_wp2_with fail;go_ret;exact⟨dQ J.out.symm,Q.out.trans ((below_drewN Y.out _).mono Q.out.size)⟩
    ·obtain rfl:k=s.slots.length:=by omega
     have bg:Hid (∀j (d:j<s.slots.length),s.slots[j].runs=true→Bx.locked s j=false∧s.slots[j].frm≤s.clock):=fun j d=>HA.out j d d
     clear HA;go_wp2_with fail;clear d0 d1 d2 d3 d4
     go_loopw [10] (fun i wp=>∃k:Nat,k≤s.ends.length∧i=.int .i64 k∧(∀j (d:j<s.ends.length),j<k→enMB s j s.ends[j]=true)∧Below w2.heap.size w2 wp) (fun i _=>s.ends.length-(intOf i).toNat)
     case atStart=>exact⟨0,Nat.zero_le _,rfl,fun j _ h=>by omega,aj.out⟩
     case round=>
      obtain⟨k,hk,rfl,hA,G⟩:=hrel;rename World=>wp
      have HA:=Hq hA;have aE:=Hq G;obtain⟨d0,d1,d2,d3,d4⟩:=ax.out.later G;have bc:=Hq (ay.out.later G);clear hA G
      by_cases O:k<s.ends.length
      ·have y2:(k:Int)<(s.ends.length:Int):=by omega
       have HH:Hid (s.ends[k].how.size=1):=(HG.out.ee _ (List.getElem_mem O)).2;go_wp2_with fail;refine (m6 s k O _ _ _ g2 g3 HH.out bc.out).mono ?_;rintro e w3 ⟨rfl,U⟩;have Y:=Hq (aE.out.trans (U.mono aE.out.size));clear d0 d1 d2 d3 d4 U HH
       have HN:Hid (∀b,enMB s k s.ends[k]=b→(b=true→∀j (d:j<s.ends.length),j<k+1→enMB s j s.ends[j]=true)∧(b=false→mayD s=false)):=by
        intro b hb;refine⟨fun e j d aQ=>?_,fun e=>eP fun h=>?_⟩
        ·by_cases q:j=k
         ·subst q;rw[hb,e]
         ·exact HA.out j d (by omega)
        ·have:=kq (sO h k O);rw[hb,e] at this;cases this
       obtain⟨b,hb⟩:∃b,enMB s k s.ends[k]=b:=⟨_,rfl⟩;have I:=HN.out b hb;rw[hb];clear hb HN
       cases b
       ·have J:Hid (mayD s=false):=I.2 rfl;clear I;go_wp2_with fail;go_ret;exact⟨dQ J.out.symm,Q.out.trans (Y.out.mono Q.out.size)⟩
       ·have av:Hid (∀j (d:j<s.ends.length),j<k+1→enMB s j s.ends[j]=true):=I.1 rfl;clear I;go_wp2_with fail;go_roundw
        case rel=>exact⟨k+1,by omega,by go_num,av.out,Y.out⟩
        case measure=>simp[intOf];omega
      ·obtain rfl:k=s.ends.length:=by omega
       have J:Hid (mayD s=true):=aZ.out aT.out bg.out fun j d=>HA.out j d d
       go_wp2_with fail;go_ret;exact⟨dQ J.out.symm,Q.out.trans (aE.out.mono Q.out.size)⟩
def HeldP (b:ByteArray) (w w':World) (e:Ending):Prop:=∃t sl en ok,e=.returned (.tuple #[stV t sl en,.bool ok])∧StAt w' t sl en∧(ok=true→Bx.IsZ b t)∧(ok=false→¬∃t,Bx.IsZ b t)∧Below w.heap.size w w'
set_option maxRecDepth 10000 in
set_option maxHeartbeats 0 in
theorem qu (b:ByteArray) (w:World) (hs:b.size≤70000):Calls Tryz.prog 170 #[.string b] w fun e w'=>HeldP b w w' e:=by
 have aw:=dx w (stO stZ nilV nilV);have hz:=StW.new w stZ nilV nilV
 go_enter Tryz.func170,Tryz.ntmps170
 go_upto_region 1 with fail;have ag:StW (w.alloc (stO stZ nilV nilV)) w.heap.size stZ nilV nilV:=hz;clear hz;generalize w.alloc (stO stZ nilV nilV)=W0 at *;have aA:=Hq ag;have ah:=Hq aw;have aD:=ag.ty.lt;clear ag aw;go_wp2_with fail;refine (od b _ hs).mono ?_;rintro e w1 ⟨⟨sl,en,rfl,hA⟩,ae⟩;have az:Hid (GsOk (gs b)):=tw b;have ab:Hid (¬(Bx.MayS (gs b)∧Bx.wholeS (gs b)=b)→¬∃t,Bx.IsZ b t):=tD;generalize gs b=S at *;obtain⟨O,I,rfl,aU⟩:=hA.sl.form;obtain⟨J,G,rfl,aT⟩:=hA.en.form;have al:=ae.trans ((dx w1 (stO S (.slice O S.slots.length I) (.slice J S.ends.length G))).mono ae.size);have hI:=StIn.new w1 S (.slice O S.slots.length I) (.slice J S.ends.length G);have au:=hA.later (dx w1 (stO S (.slice O S.slots.length I) (.slice J S.ends.length G)));clear hA ae;go_upto_region 2 with fail;have aB:StIn (w1.alloc (stO S (.slice O S.slots.length I) (.slice J S.ends.length G))) w1.heap.size S (.slice O S.slots.length I) (.slice J S.ends.length G):=hI;clear hI;generalize w1.alloc (stO S (.slice O S.slots.length I) (.slice J S.ends.length G))=W at *;generalize w1.heap.size=q at *;have HA:=Hq au;have HZ:=Hq (aA.out.later al);have HB:=Hq (ah.out.trans (al.mono ah.out.size));have HI:=Hq aB;obtain⟨c0,c1,c2,c3,c4⟩:=aB;have aI:q<W.heap.size:=World.block_lt_of_cell? _ _ c0;clear au al aA ah aD;go_wp2_with fail;refine (qU S _ _ _ az.out HA.out).mono ?_;rintro e w3 ⟨rfl,Q⟩;have ac:=Hq (HA.out.later Q);have Y:=Hq (HZ.out.later Q);have Z:=Hq (HB.out.trans (Q.mono HB.out.size));have ai:=Hq (HI.out.later Q);clear c0 c1 c2 c3 c4 aI Q HA HZ HB HI;obtain⟨c0,c1,c2,c3,c4⟩:=ai.out;have HD:Hid (∀d,mayD S=d→(d=true↔Bx.MayS S)):=fun d e=>by rw[←e];exact qb
 obtain⟨d,hd⟩:∃d,mayD S=d:=⟨_,rfl⟩;have ax:=HD.out d hd;have aa:=Hq ax;rw[hd];clear HD ax hd
 cases d
 ·have HN:Hid (¬∃t,Bx.IsZ b t):=ab.out fun h=>by have:=aa.out.2 h.1;cases this
  have H4:Hid (StAt _ S (.slice O S.slots.length I) (.slice J S.ends.length G)):=ac.out.store Y.out.ty (.string S.tab) (.int .i64 S.clock) (.int .i64 S.next) (.slice O S.slots.length I) (.slice J S.ends.length G);obtain⟨⟨r0,r1,r2,r3,r4⟩,f,_⟩:=Y.out;have f0:=f 0 (by decide);have f1:=f 1 (by decide);have f2:=f 2 (by decide);have f3:=f 3 (by decide);have f4:=f 4 (by decide)
  clear f ab aa;go_wp2_with fail;refine bodyPost_ret (v:=.tuple #[stV S (.slice O S.slots.length I) (.slice J S.ends.length G),.bool false]) (by simp[results,Tryz.results170,go_sem,r0,r1,r2,r3,r4]) rfl ?_
  exact⟨_,_,_,_,rfl,H4.out,fun h=>(by cases h),fun _=>HN.out,dE Z.out (Nat.le_refl _) _ _ _ _ _⟩
 ·have HM:Hid (Bx.MayS S):=aa.out.1 rfl;have HF:=Hq HM.out.fit;have aR:=az.out.sl;have aL:=HM.out.en;clear aa;go_wp2_with fail;refine (gT S _ _ _ HF.out aR aL ac.out).mono ?_;rintro e w4 ⟨rfl,V⟩;have aN:=Hq (ac.out.later V);have ay:=Hq (Y.out.later V);have aC:=Hq (Z.out.trans (V.mono Z.out.size));have aS:=Hq (ai.out.later V);clear c0 c1 c2 c3 c4 V ac Y Z ai;obtain⟨c0,c1,c2,c3,c4⟩:=aS.out;have H4:Hid (StAt _ S (.slice O S.slots.length I) (.slice J S.ends.length G)):=aN.out.store ay.out.ty (.string S.tab) (.int .i64 S.clock) (.int .i64 S.next) (.slice O S.slots.length I) (.slice J S.ends.length G);obtain⟨⟨r0,r1,r2,r3,r4⟩,f,_⟩:=ay.out;have f0:=f 0 (by decide);have f1:=f 1 (by decide);have f2:=f 2 (by decide);have f3:=f 3 (by decide);have f4:=f 4 (by decide)
  have HW:Hid (∀y,Bx.wholeS S=y→(y.toList==b.toList)=true→Bx.IsZ b S):=fun y U h=>⟨HM.out,U.trans (jr.1 h)⟩
  have av:Hid (∀y,Bx.wholeS S=y→(y.toList==b.toList)=false→¬∃t,Bx.IsZ b t):=fun y U h=>ab.out fun h2=>by rw[←U,h2.2] at h;simp at h
  clear f ab HM HF;obtain⟨y,U⟩:∃y,Bx.wholeS S=y:=⟨_,rfl⟩;have ak:=HW.out y U;have af:=av.out y U;rw[U];clear U HW av
  cases ht:(y.toList==b.toList)
  ·have HN:Hid (¬∃t,Bx.IsZ b t):=af ht;clear ak af;go_wp2_with fail;refine bodyPost_ret (v:=.tuple #[stV S (.slice O S.slots.length I) (.slice J S.ends.length G),.bool false]) (by simp[results,Tryz.results170,go_sem,r0,r1,r2,r3,r4]) rfl ?_
   exact⟨_,_,_,_,rfl,H4.out,fun h=>(by cases h),fun _=>HN.out,dE aC.out (Nat.le_refl _) _ _ _ _ _⟩
  ·have HN:Hid (Bx.IsZ b S):=ak ht;clear ak af;go_wp2_with fail;refine bodyPost_ret (v:=.tuple #[stV S (.slice O S.slots.length I) (.slice J S.ends.length G),.bool true]) (by simp[results,Tryz.results170,go_sem,r0,r1,r2,r3,r4]) rfl ?_
   exact⟨_,_,_,_,rfl,H4.out,fun _=>HN.out,fun h=>(by cases h),dE aC.out (Nat.le_refl _) _ _ _ _ _⟩
end Go.Proofs.YtdajolpoiffimabGreatDoor
