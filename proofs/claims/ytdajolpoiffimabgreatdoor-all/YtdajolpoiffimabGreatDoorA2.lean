import Derived.Test.YtdajolpoiffimabGreatDoorRows
import Derived.WalkKit
import Derived.WalkSpells
import Derived.WalkLawsBesides
import Derived.Deep.QuietTactic
import Derived.BigQuiet
import Derived.Deep.AppendLies
import Derived.Laws.BytesArg
import Derived.Test.YtdajolpoiffimabGreatDoorA1

namespace Go.Proofs.YtdajolpoiffimabGreatDoor
namespace Bx
def linesOf (tab:ByteArray):List ByteArray:=(Txt.pcs 10 tab).take (tn tab)
theorem linesOf_len (tab:ByteArray):(linesOf tab).length=tn tab:=by
 unfold linesOf;rw[List.length_take];have:=eQ tab;omega
theorem linesOf_at (tab:ByteArray) (i:Nat) (h:i<(linesOf tab).length):(linesOf tab)[i]=tl tab i:=by
 have d:i<tn tab:=by rwa [linesOf_len] at h
 have:=eQ tab;rw[←gb (by omega)]
 exact List.getElem_take
noncomputable def lns (tab:ByteArray):List Ln:=(linesOf tab).map lnOf
def newA (s:St) (m:Int):Int:=if s.clock= -1 then m else s.clock+1
noncomputable def comesS (s:St) (m:Int):List (Nat×Int):=comes (lns s.tab) (newA s m) m
def hA:ByteArray:=b1 97
def hD:ByteArray:=b1 100
def hK:ByteArray:=b1 107
def hS:ByteArray:=b1 115
def slotOf (p:Nat×Int) (n:Int):Sl:=⟨n,(p.1:Int)+1,p.2,1,p.2,false⟩
def arr (s:St) (p:Nat×Int):St:=
 if s.slots.length<8 then {s with slots:=s.slots++[slotOf p s.next],next:=s.next+1} else {s with ends:=push s.ends ⟨s.next,hS⟩,next:=s.next+1}
noncomputable def clockedP (s:St) (m:Int):St×Bool:=
 if ahead s m=true then (if s.next+((comesS s m).length:Int)≤10000 then ({(comesS s m).foldl arr s with clock:=m},true) else (s,false)) else (s,false)
def delay (k:Int):Int:=if k=1 then 2 else if k=2 then 4 else if k=3 then 8 else 10
def sl0:Sl:=⟨0,0,0,0,0,false⟩
def slAt (s:St) (i:Nat):Sl:=s.slots.getD i sl0
def opt (s:St) (line:Int) (i:Nat):Int:=ob (tl s.tab (line-1).toNat) i
def failed (s:St) (i:Nat):St:=
 if (slAt s i).att=opt s (slAt s i).line 2-48 then with' s (withoutL s.slots i) (slAt s i).num hA
 else with' s (putL s.slots i {slAt s i with frm:=s.clock+delay (slAt s i).att,att:=(slAt s i).att+1,runs:=false}) 0 ByteArray.empty
def lockK (s:St) (i:Nat):Nat→Bool
 | 0=>false
 | k+1=>lockK s i k||(decide (¬k=i)&&(decide ((slAt s k).line=(slAt s i).line)&&(slAt s k).runs))
def locked (s:St) (i:Nat):Bool:=(opt s (slAt s i).line 0==120)&&lockK s i s.slots.length
def runK (s:St):Nat→Nat
 | 0=>0
 | k+1=>runK s k+(if (slAt s k).runs=true then 1 else 0)
def running (s:St):Nat:=runK s s.slots.length
def aboutP (s:St) (kind n:Int):St×Bool:=
 if find s n<0 then (s,false)
 else if kind=75 then (with' s (withoutL s.slots (find s n)) n hK,true)
 else if kind=83 then (if (slAt s (find s n).toNat).runs=true∨s.clock<(slAt s (find s n).toNat).frm∨locked s (find s n).toNat=true then (s,false) else (with' s (putL s.slots (find s n) {slAt s (find s n).toNat with runs:=true}) 0 ByteArray.empty,true))
 else if kind=68 then (with' s (withoutL s.slots (find s n)) n hD,(slAt s (find s n).toNat).runs)
 else if kind=70 then (failed s (find s n).toNat,(slAt s (find s n).toNat).runs)
 else (s,false)
open Classical in
noncomputable def doP (s:St) (c:Ch):St×Bool:=
 if c.kind=84 then (if ChkR c.tab 0 0∧s.slots.length=0 then ({s with tab:=c.tab},true) else (s,false))
 else if c.kind=67 then clockedP s c.n
 else aboutP s c.kind c.n
noncomputable def tell (s:St) (c:Ch):St:=if (doP s c).2=true then (doP s c).1 else s
noncomputable def told (s:St) (l:List Ch):St:=l.foldl tell s
structure StOk (s:St):Prop where
 tab:ChkR s.tab 0 0
 c1: -1≤s.clock
 c2:s.clock≤4223371679
 n1:1≤s.next
 n2:s.next≤10000
 sl:s.slots.length≤8
 en:s.ends.length≤6
 each:∀x∈s.slots,1≤x.num∧x.num<s.next∧1≤x.line∧x.line≤tn s.tab∧1≤x.att∧x.att≤opt s x.line 2-48
theorem StOk.att5 {s:St} (h:StOk s) {x:Sl} (e:x∈s.slots):x.att≤5:=by
 obtain⟨_,_,h1,h2,_,d⟩:=h.each x e;have:=(jf (h.tab.lines.2.2 (x.line-1).toNat (by omega))).2.2.2.2
 unfold opt at d;omega
theorem empty_tab:ChkR ByteArray.empty 0 0:=by
 have e:Txt.pcs 10 ByteArray.empty=[ByteArray.empty]:=by
  rw[Txt.pcs_eq,Txt.fst_no (fun j w _ _=>by simp at *),if_neg (by simp)]
 have t:tn ByteArray.empty=0:=by unfold tn;rw[e];rfl
 have d:tl ByteArray.empty 0=ByteArray.empty:=by unfold tl;rw[e];rfl
 exact ChkR.ok (by decide) (by rw[t,d];decide) (by rw[t];intro j w;omega) (by rw[t,d];rfl)
theorem first_ok:StOk first:=⟨empty_tab,by decide,by decide,by decide,by decide,by decide,by decide,by simp[first]⟩
end Bx
namespace Px
open Bx (En push hA hD hK hS)
structure Sl where
 num:Int
 line:Int
 minute:Int
 att:Int
 frm:Int
 step:Int
 ans:Int
 heard:ByteArray
structure St where
 tab:ByteArray
 clock:Int
 next:Int
 slots:List Sl
 ends:List En
def sl0:Sl:=⟨0,0,0,0,0,0,0,ByteArray.empty⟩
def st0:St:=⟨ByteArray.empty,0,0,[],[]⟩
def first:St:=⟨ByteArray.empty,-1,1,[],[]⟩
def find (l:List Sl) (n:Int):Option Sl:=l.find? fun x=>x.num==n
def skip (l:List Sl) (n:Int):List Sl:=l.filter fun x=>x.num !=n
def repl (l:List Sl) (x:Sl):List Sl:=l.map fun y=>if y.num==x.num then x else y
theorem skip_no {l:List Sl}{n:Int}{k:Nat} (h:k<l.length) (e:(l[k].num !=n)=false):skip (l.take (k+1)) n=skip (l.take k) n:=by
 rw[List.take_succ_eq_append_getElem h];unfold skip;rw[List.filter_append,List.filter_cons_of_neg (by rw[e];simp),List.filter_nil,List.append_nil]
theorem skip_yes {l:List Sl}{n:Int}{k:Nat} (h:k<l.length) (e:(l[k].num !=n)=true):skip (l.take (k+1)) n=skip (l.take k) n++[l[k]]:=by
 rw[List.take_succ_eq_append_getElem h];unfold skip;rw[List.filter_append,List.filter_cons_of_pos (p:=fun x:Sl=>x.num !=n) (a:=l[k]) e,List.filter_nil]
theorem repl_no {l:List Sl}{x:Sl}{k:Nat} (h:k<l.length) (e:(l[k].num==x.num)=false):repl (l.take (k+1)) x=repl (l.take k) x++[l[k]]:=by
 rw[List.take_succ_eq_append_getElem h];unfold repl;rw[List.map_append,List.map_cons,List.map_nil,e];rfl
theorem repl_yes {l:List Sl}{x:Sl}{k:Nat} (h:k<l.length) (e:(l[k].num==x.num)=true):repl (l.take (k+1)) x=repl (l.take k) x++[x]:=by
 rw[List.take_succ_eq_append_getElem h];unfold repl;rw[List.map_append,List.map_cons,List.map_nil,e];rfl
def ended (s:St) (n:Int) (how:ByteArray):St:={s with slots:=skip s.slots n,ends:=push s.ends ⟨n,how⟩}
def opt (s:St) (line:Int) (i:Nat):Int:=ob (tl s.tab (line-1).toNat) i
def late (s:St):List Int:=(s.slots.filter fun x=>decide (0<x.step)&&decide (x.ans≤s.clock-3)).map (·.num)
def again (s:St) (x:Sl):Sl:=⟨x.num,x.line,x.minute,x.att+1,s.clock+Bx.delay x.att,0,0,ByteArray.empty⟩
theorem delay_bd' (k:Int):2≤Bx.delay k∧Bx.delay k≤10:=by
 unfold Bx.delay;split
 ·omega
 ·split
  ·omega
  ·split<;>omega
def failP (s:St) (n:Int):St×Int:=
 match find s.slots n with
 | none=>(st0,8)
 | some x=>if x.step≤0 then (st0,9) else if opt s x.line 2-48≤x.att then (ended s n hA,0) else ({s with slots:=repl s.slots (again s x)},0)
def doneP (s:St) (n:Int):St×Int:=
 match find s.slots n with
 | none=>(st0,8)
 | some x=>if x.step≤0 then (st0,9) else (ended s n hD,0)
def cancelP (s:St) (n:Int):St×Int:=
 match find s.slots n with
 | none=>(st0,8)
 | some x=>(ended s x.num hK,0)
def tabP (s:St) (tab:ByteArray):St×Int:=if 0<s.slots.length then (st0,5) else ({s with tab:=tab},0)
def lockP (s:St) (n:Int):Bool:=(opt s n 0==120)&&s.slots.any fun x=>decide (x.line=n)&&decide (0<x.step)
def runs (s:St):Nat:=(s.slots.filter fun x=>decide (0<x.step)).length
def beg (s:St) (x:Sl):Sl:={x with step:=1,ans:=s.clock}
def startP (s:St) (n:Int):St×Int:=
 match find s.slots n with
 | none=>(st0,8)
 | some x=>if 0<x.step then (st0,9) else if s.clock<x.frm then (st0,10) else if lockP s x.line=true then (st0,11)
   else ({s with slots:=repl s.slots (beg s x)},0)
def slotOf (p:Nat×Int) (n:Int):Sl:=⟨n,(p.1:Int)+1,p.2,1,p.2,0,0,ByteArray.empty⟩
def arr (s:St) (p:Nat×Int):St:=
 if 8≤s.slots.length then {s with ends:=push s.ends ⟨s.next,hS⟩,next:=s.next+1} else {s with slots:=s.slots++[slotOf p s.next],next:=s.next+1}
def newA (s:St) (m:Int):Int:=if s.clock= -1 then m else s.clock+1
def aheadP (s:St) (m:Int):Bool:=decide (s.clock<m∧(s.clock= -1∨m-s.clock≤1500))
noncomputable def comesP (s:St) (m:Int):List (Nat×Int):=Bx.comes (Bx.lns s.tab) (newA s m) m
noncomputable def clockP (s:St) (m:Int):St×Int:=
 if m<0∨4223371679<m then (st0,4) else if aheadP s m=false then (st0,6)
 else if 10000<s.next+((comesP s m).length:Int) then (st0,7) else ({(comesP s m).foldl arr s with clock:=m},0)
theorem clock_err' (s:St) (m:Int):((m<0∨4223371679<m)→clockP s m=(st0,4))∧(¬(m<0∨4223371679<m)→aheadP s m=false→clockP s m=(st0,6))∧
 (¬(m<0∨4223371679<m)→aheadP s m=true→clockP s m=if 10000<s.next+((comesP s m).length:Int) then (st0,7) else ({(comesP s m).foldl arr s with clock:=m},0)):=by
 refine⟨fun h=>?_,fun h d=>?_,fun h d=>?_⟩
 ·unfold clockP;rw[if_pos h]
 ·unfold clockP;rw[if_neg h,if_pos d]
 ·unfold clockP;rw[if_neg h,if_neg (by rw[d];simp)]
def absS (x:Sl):Bx.Sl:=⟨x.num,x.line,x.minute,x.att,x.frm,decide (0<x.step)⟩
def abs (s:St):Bx.St:=⟨s.tab,s.clock,s.next,s.slots.map absS,s.ends⟩
structure Ok (s:St):Prop where
 st:Bx.StOk (abs s)
 rise:s.slots.Pairwise fun a b=>a.num<b.num
 ex:∀x∈s.slots,-1≤x.ans∧x.ans≤4223371679∧0≤x.step∧x.step≤((stepsOf (tl s.tab (x.line-1).toNat)).length:Int)∧x.heard.size≤8∧(x.step=0→x.heard=ByteArray.empty)
theorem Ok.each {s:St} (h:Ok s) {x:Sl} (d:x∈s.slots):1≤x.num∧x.num<s.next∧1≤x.line∧x.line≤tn s.tab∧1≤x.att∧x.att≤opt s x.line 2-48:=
 h.st.each (absS x) (List.mem_map.2 ⟨x,d,rfl⟩)
theorem Ok.len {s:St} (h:Ok s):s.slots.length≤8:=by have:=h.st.sl;simpa [abs] using this
end Px
def psC (x:Px.Sl):List Value:=[.int .i64 x.num,.int .i64 x.line,.int .i64 x.minute,.int .i64 x.att,.int .i64 x.frm,.int .i64 x.step,.int .i64 x.ans,.string x.heard]
theorem fi (x:Px.Sl):(psC x).length=8:=rfl
theorem fu (x:Px.Sl):∀u∈psC x,u.oneCell'=true:=by
 intro u d;simp[psC] at d;rcases d with rfl|rfl|rfl|rfl|rfl|rfl|rfl|rfl<;>rfl
end Go.Proofs.YtdajolpoiffimabGreatDoor

namespace Go.Proofs.YtdajolpoiffimabGreatDoor
open Go.RowKit
theorem Hq {p:Prop} (h:p):Hid p:=h
theorem dN {k:IntKind}{a b:Int} (h:a=b):Ending.returned (.int k a)=.returned (.int k b):=by rw[h]
theorem dz {a b:Bool} (h:a=b):Ending.returned (.bool a)=.returned (.bool b):=by rw[h]
theorem dS {k:IntKind}{a b:Int} (h:a=b):Ending.returned (.int k a)=.returned (.int k b):=by rw[h]
theorem fZ {a b:ByteArray}{c:Bool}{w d:ByteArray}{e:Bool} (h:w=a∧d=b∧e=c):Ending.returned (.tuple #[.string a,.string b,.bool c])=.returned (.tuple #[.string w,.string d,.bool e]):=by
 obtain⟨rfl,rfl,rfl⟩:=h;rfl
theorem gc {a b:Int}{c d:Bool} (h:a=b∧c=d):Ending.returned (.tuple #[.int .i64 a,.bool c])=.returned (.tuple #[.int .i64 b,.bool d]):=by
 obtain⟨rfl,rfl⟩:=h;rfl
abbrev dateV (y m d h i k:Int):Value:=.agg #[.int .i64 y,.int .i64 m,.int .i64 d,.int .i64 h,.int .i64 i,.int .i64 k]
theorem dU {W w1:World} (hb:Below W.heap.size W w1):(∀b o,b<W.heap.size→w1.cell? ⟨b,o,none⟩=W.cell? ⟨b,o,none⟩)∧(∀b o,b<W.heap.size→w1.frozen? ⟨b,o,none⟩=W.frozen? ⟨b,o,none⟩):=
 ⟨fun b o h=>hb.cell (p:=⟨b,o,none⟩) h,fun b o h=>hb.frozen (p:=⟨b,o,none⟩) h⟩
def DateAt (w:World) (b:Nat) (y m d h i k:Int):Prop:=
 w.cell? ⟨b,0,none⟩=some (.int .i64 y)∧w.cell? ⟨b,1,none⟩=some (.int .i64 m)∧w.cell? ⟨b,2,none⟩=some (.int .i64 d)∧
 w.cell? ⟨b,3,none⟩=some (.int .i64 h)∧w.cell? ⟨b,4,none⟩=some (.int .i64 i)∧w.cell? ⟨b,5,none⟩=some (.int .i64 k)
theorem DateAt.later {w e:World}{b:Nat}{y m d h i k:Int} (a:DateAt w b y m d h i k) (hb:Below w.heap.size w e):DateAt e b y m d h i k:=
 ⟨cell_later hb a.1,cell_later hb a.2.1,cell_later hb a.2.2.1,cell_later hb a.2.2.2.1,cell_later hb a.2.2.2.2.1,cell_later hb a.2.2.2.2.2⟩
theorem DateAt.new (w:World) (y m d h i k:Int) (t:TypeId):DateAt (w.alloc (.cells #[.int .i64 y,.int .i64 m,.int .i64 d,.int .i64 h,.int .i64 i,.int .i64 k] t)) w.heap.size y m d h i k:=by
 simp[DateAt,go_sem]
theorem dx (w:World) (o:Obj):Below w.heap.size w (w.alloc o):=(Below.refl _ _).alloc (Nat.le_refl _) _
theorem md:(Tryz.prog.info? 9).map (fun i=>(i.zero,i.size,i.bytes))=some (some (.string ByteArray.empty),1,16):=by kernel_rfl
theorem oJ {a:Option Addr}{n m d:Nat} (h:n=m):Ending.returned (.slice a n d)=.returned (.slice a m d):=by rw[h]
def StrsAt (w:World) (b:Nat) (L:List ByteArray):Prop:=∀k (h:k<L.length),w.cell? ⟨b,k,none⟩=some (.string L[k])
theorem StrsAt.later {w d:World}{b:Nat}{L:List ByteArray} (a:StrsAt w b L) (hb:Below w.heap.size w d):StrsAt d b L:=fun k h=>cell_later hb (a k h)
theorem iA {w:World}{d g n G:Nat}{e:TypeId}{L:List ByteArray} (h:w.ownsRow d e 1 (.slice (some ⟨g,0,none⟩) n G) n (L.map Value.string)) (J:n=L.length):StrsAt w g L:=by
 intro k I;have:=h.cellAt k (by omega)
 rw[this];simp[I]
theorem fD {w:World}{d:Nat}{e:TypeId}{size:Nat}{v:Value}{n:Nat}{G:List Value} (h:w.ownsRow d e size v n G) (k:Nat):(w.drewN k).ownsRow d e size v n G:=h
def strSize:Value→Nat| .string y=>y.size|_=>0
def boolSize:Value→Nat| .bool true=>1|_=>0
theorem dV {w Q:World}{d:Nat}{e:TypeId}{size:Nat}{v:Value}{n:Nat}{J:List Value} (h:w.ownsRow d e size v n J) (hb:Below w.heap.size w Q):Q.ownsRow d e size v n J:=by
 refine⟨h.1,?_⟩
 rcases h.2 with h2|⟨g,I,cur,V,hbase,G,U⟩
 ·exact Or.inl h2
 ·refine Or.inr ⟨g,I,cur,V,hbase,?_,U⟩
  have O:g<w.heap.size:=by
   rcases Nat.lt_or_ge g w.heap.size with h|h
   ·exact h
   ·rw[Array.getElem?_eq_none h] at G;cases G
  rw[hb.block g O];exact G
theorem em {a b:ByteArray} (h:a=b):Ending.returned (.string a)=.returned (.string b):=by rw[h]
def isU8:Option Value→Bool|some (.int .u8 _)=>true|_=>false
def cellInt:Option Value→Int|some (.int _ n)=>n|_=>0
theorem kO (n:Int):isU8 (some (.int .u8 n))=true:=rfl
theorem iw (k:IntKind) (n:Int):cellInt (some (.int k n))=n:=rfl
theorem ri (W:World) (g:Nat) (h:isU8 (W.cell? ⟨g,0,none⟩)=true):(convert 95 9 (.slice (some ⟨g,0,none⟩) 1 1)).run Tryz.prog W=.ok (.string (strOfNums [cellInt (W.cell? ⟨g,0,none⟩)])) W:=by
 refine run_convert_bytes_arg W _ 5 Tryz.underlying95 Tryz.underlying5 g 0 1 1 [cellInt (W.cell? ⟨g,0,none⟩)] rfl (fun i hi=>?_) _ Tryz.underlying9
 obtain rfl:i=0:=by omega
 show W.cell? ⟨g,0,none⟩=some (.int .u8 (cellInt (W.cell? ⟨g,0,none⟩)))
 generalize W.cell? ⟨g,0,none⟩=q at h ⊢;unfold isU8 at h
 split at h
 ·rfl
 ·cases h
theorem gO (n:Int):(strOfNums [n]).size=1:=rfl
theorem b1_be (n:Int) (k:Nat):Bx.be (n / 256) k++strOfNums [n % 256]=Bx.be n (k+1):=rfl
theorem lN (s:ByteArray):0≤Crc.sumR s∧Crc.sumR s≤4294967295:=by
 have:=Crc.crc_lt s.data.toList;unfold Crc.sumR;omega
theorem tt (n:Int) (i:Nat):Bx.be n (i+1)=Bx.b1 (n / 256 ^ i)++Bx.be n i:=by
 induction i generalizing n with
 | zero=>simp[Bx.be]
 | succ i d=>
   rw[Bx.be,d (n / 256),ByteArray.append_assoc]
   have e:n / 256 / 256 ^ i=n / 256 ^ (i+1):=by
    rw[Int.ediv_ediv_of_nonneg (by omega),Int.pow_succ,Int.mul_comm]
   rw[e];rfl
theorem rA (n:Int) (i:Nat):strOfNums [n / 256 ^ i % 256]++Bx.be n i=Bx.be n (i+1):=by rw[tt];rfl
theorem sG (n:Int) (i:Nat):n / 256 ^ i / 256=n / 256 ^ (i+1):=by rw[Int.ediv_ediv_of_nonneg (Int.pow_nonneg (by omega)),Int.pow_succ]
def RowAt (w:World) (v:Value) (n:Nat) (cells:List Value):Prop:=
 (v=.slice none 0 0∧n=0∧cells=[])∨∃b off cap,v=.slice (some ⟨b,off,none⟩) n cap∧n≤cap∧∀j (h:j<cells.length),w.cell? ⟨b,off+j,none⟩=some cells[j]
theorem RowAt.later {w J:World}{v:Value}{n:Nat}{d:List Value} (a:RowAt w v n d) (hb:Below w.heap.size w J):RowAt J v n d:=by
 rcases a with a|⟨b,I,G,e,h,c⟩
 ·exact Or.inl a
 ·exact Or.inr ⟨b,I,G,e,h,fun j O=>cell_later hb (c j O)⟩
theorem RowAt.nil (w:World):RowAt w (.slice none 0 0) 0 []:=Or.inl ⟨rfl,rfl,rfl⟩
theorem RowAt.form {w:World}{v:Value}{n:Nat}{G:List Value} (a:RowAt w v n G):∃I d,v=.slice I n d∧n≤d:=by
 rcases a with ⟨e,h,_⟩|⟨b,J,d,e,h,_⟩
 ·subst h;exact⟨none,0,e,Nat.le_refl _⟩
 ·exact⟨_,d,e,h⟩
theorem RowAt.some' {w:World}{v:Value}{n:Nat}{d:List Value} (a:RowAt w v n d) (h:0<n):∃b G e,v=.slice (some ⟨b,G,none⟩) n e∧n≤e∧∀j (h:j<d.length),w.cell? ⟨b,G+j,none⟩=some d[j]:=by
 rcases a with ⟨_,I,_⟩|a
 ·omega
 ·exact a
theorem RowAt.of_own {w:World}{G:Nat}{e:TypeId}{size:Nat}{v:Value}{n:Nat}{d:List Value} (a:w.ownsRow G e size v n d):RowAt w v n d:=by
 have V:=a.1
 rcases a.2 with ⟨rfl,rfl⟩|⟨g,I,cur,rfl,Q,U,J,_⟩
 ·exact Or.inl ⟨rfl,rfl,List.eq_nil_of_length_eq_zero (by omega)⟩
 ·refine Or.inr ⟨g,0,I,rfl,J,fun j O=>?_⟩
  have:=a.cellAt j (by omega)
  rw[Nat.zero_add,this];simp[O]
theorem qR {α:Type} (f:α→List Value) (k:Nat) (d:∀x,(f x).length=k) (L:List α):(L.flatMap f).length=L.length*k:=by
 induction L with
 | nil=>simp
 | cons a r e=>rw[List.flatMap_cons,List.length_append,d,e,List.length_cons,Nat.succ_mul];omega
theorem sE {α:Type} (f:α→List Value) (k:Nat) (d:∀x,(f x).length=k) (L:List α) (i:Nat) (hi:i<L.length) (j:Nat) (e:j<k):(L.flatMap f)[i*k+j]? =(f L[i])[j]? :=by
 induction L generalizing i with
 | nil=>simp at hi
 | cons a r w=>
   rw[List.flatMap_cons]
   cases i with
   | zero=>rw[Nat.zero_mul,Nat.zero_add,List.getElem?_append_left (by rw[d];exact e)];rfl
   | succ i=>
     rw[List.getElem?_append_right (by rw[d,Nat.succ_mul];omega),d,show (i+1)*k+j-k=i*k+j by rw[Nat.succ_mul];omega]
     exact w i (by simpa using hi)
theorem RowAt.cell {α:Type}{f:α→List Value}{k:Nat} (G:∀x,(f x).length=k) {w:World}{L:List α}{b d:Nat} (c:∀j (h:j<(L.flatMap f).length),w.cell? ⟨b,d+j,none⟩=some (L.flatMap f)[j]) (i:Nat) (hi:i<L.length) (j:Nat) (I:j<k):w.cell? ⟨b,d+(i*k+j),none⟩=(f L[i])[j]? :=by
 have e:i*k+j<(L.flatMap f).length:=by
  rw[qR f k G]
  calc i*k+j<i*k+k:=by omega
   _=(i+1)*k:=by rw[Nat.succ_mul]
   _≤L.length*k:=Nat.mul_le_mul_right k hi
 rw[c _ e,←sE f k G L i hi j I,List.getElem?_eq_getElem e]
def TRow (w:World) (e:TypeId) (v:Value) (n:Nat) (cells:List Value):Prop:=
 RowAt w v n cells∧∀b off n' cap,v=.slice (some ⟨b,off,none⟩) n' cap→∃cur fr,w.heap[b]? =some (.cells cur e fr)
theorem eM {w:World}{b:Nat}{o:Obj} (h:w.heap[b]? =some o):b<w.heap.size:=by
 rcases Nat.lt_or_ge b w.heap.size with c|c
 ·exact c
 ·rw[Array.getElem?_eq_none c] at h;cases h
theorem TRow.later {w O:World}{e:TypeId}{v:Value}{n:Nat}{d:List Value} (h:TRow w e v n d) (hb:Below w.heap.size w O):TRow O e v n d:=by
 refine⟨h.1.later hb,fun b J U G Q=>?_⟩
 obtain⟨cur,fr,I⟩:=h.2 b J U G Q;exact⟨cur,fr,(hb.block b (eM I)).trans I⟩
theorem TRow.of_own {w:World}{G:Nat}{e:TypeId}{size:Nat}{v:Value}{n:Nat}{d:List Value} (a:w.ownsRow G e size v n d):TRow w e v n d:=by
 refine⟨RowAt.of_own a,fun b Q U I J=>?_⟩
 rcases a.2 with ⟨rfl,_⟩|⟨g,I,cur,rfl,_,O,_⟩
 ·cases J
 ·cases J;exact⟨_,_,O⟩
theorem TRow.grown {w w':World}{e e':TypeId}{v Y:Value}{n n' V size:Nat}{J Q:List Value} (h:TRow w e v n J) (ho:w.ownsRow V e' size Y n' Q) (hg:w.grownBy w' Y.ownBlock) (ad:e≠e'):TRow w' e v n J:=by
 have far:∀b G m d,v=.slice (some ⟨b,G,none⟩) m d→some b≠Y.ownBlock:=by
  intro b G m d I hb;obtain⟨cur,fr,O⟩:=h.2 b G m d I
  rcases ho.2 with ⟨rfl,_⟩|⟨g,ag,ae,rfl,_,U,_⟩
  ·cases hb
  ·have:b=g:=by simpa [Value.ownBlock] using hb
   subst this;rw[O] at U;cases U;exact ad rfl
 refine⟨?_,fun b G m d I=>?_⟩
 ·rcases h.1 with a|⟨b,G,d,I,Z,O⟩
  ·exact Or.inl a
  ·exact Or.inr ⟨b,G,d,I,Z,fun j hj=>hg.cell (O j hj) (far b G n d I)⟩
 ·obtain⟨cur,fr,O⟩:=h.2 b G m d I;exact⟨cur,fr,(hg.block b (eM O) (far b G m d I)).trans O⟩
theorem TRow.setCell {w:World}{e Y:TypeId}{v:Value}{n g o:Nat}{J:List Value}{cur:Array Value}{fr:Nat×Nat} (h:TRow w e v n J) (Z:w.heap[g]? =some (.cells cur Y fr)) (aa:e≠Y) (u:Value):TRow (w.setCell ⟨g,o,none⟩ u) e v n J:=by
 have far:∀b G m d,v=.slice (some ⟨b,G,none⟩) m d→b≠g:=by
  intro b G m d I hb;obtain⟨Q,U,O⟩:=h.2 b G m d I;subst hb;rw[O] at Z;cases Z;exact aa rfl
 refine⟨?_,fun b G m d I=>?_⟩
 ·rcases h.1 with a|⟨b,G,d,I,V,O⟩
  ·exact Or.inl a
  ·refine Or.inr ⟨b,G,d,I,V,fun j hj=>?_⟩
   rw[World.cell?_setCell_other _ _ _ _ (by have:=far b G n d I;simp)];exact O j hj
 ·obtain⟨Q,U,O⟩:=h.2 b G m d I;exact⟨Q,U,(Below.heap_setCell _ _ _ _ (far b G m d I)).trans O⟩
theorem TRow.nil (w:World) (e:TypeId):TRow w e (.slice none 0 0) 0 []:=⟨RowAt.nil w,fun _ _ _ _ h=>by cases h⟩
theorem TRow.form {w:World}{e:TypeId}{v:Value}{n:Nat}{d:List Value} (a:TRow w e v n d):∃I G,v=.slice I n G∧n≤G:=a.1.form
def Typed (w:World) (g:Nat) (e:TypeId):Prop:=∃cur fr,w.heap[g]? =some (.cells cur e fr)
theorem Typed.lt {w:World}{g:Nat}{e:TypeId} (h:Typed w g e):g<w.heap.size:=by obtain⟨_,_,h⟩:=h;exact eM h
theorem Typed.new (w:World) (d:Array Value) (e:TypeId):Typed (w.alloc (.cells d e)) w.heap.size e:=⟨d,(0,0),by show (w.heap.push (.cells d e))[w.heap.size]? =_;simp⟩
theorem Typed.below {w d:World}{g n:Nat}{e:TypeId} (h:Typed w g e) (G:g<n) (hb:Below n w d):Typed d g e:=by
 obtain⟨cur,fr,h⟩:=h;exact⟨cur,fr,(hb.block g G).trans h⟩
theorem Typed.later {w d:World}{g:Nat}{e:TypeId} (h:Typed w g e) (hb:Below w.heap.size w d):Typed d g e:=h.below h.lt hb
theorem Typed.setCell {w:World}{g:Nat}{e:TypeId} (h:Typed w g e) (p o:Nat) (u:Value):Typed (w.setCell ⟨p,o,none⟩ u) g e:=by
 obtain⟨cur,fr,h⟩:=h
 by_cases d:g=p
 ·subst d;refine⟨cur.setIfInBounds o u,fr,?_⟩;simp[World.setCell,Array.getElem?_modify,h]
 ·exact⟨cur,fr,(Below.heap_setCell _ _ _ _ d).trans h⟩
theorem TRow.set {w:World}{e I:TypeId}{v:Value}{n g:Nat}{d:List Value} (h:TRow w e v n d) (G:Typed w g I) (J:e≠I) (o:Nat) (u:Value):TRow (w.setCell ⟨g,o,none⟩ u) e v n d:=by
 obtain⟨cur,fr,G⟩:=G;exact h.setCell G J u
theorem dy {w d:World} (hb:Below w.heap.size w d) (r:Option Nat):w.grownBy d r:=⟨hb.os,hb.tape,hb.output,hb.size,fun k e _=>hb.block k e⟩
theorem dA {w w1 e:World}{r:Option Nat} (h1:w.grownBy w1 r) (h2:w1.grownBy e r):w.grownBy e r:=
 ⟨h2.os.trans h1.os,h2.tape.trans h1.tape,h2.output.trans h1.output,Nat.le_trans h1.size h2.size,fun k G d=>(h2.block k (Nat.lt_of_lt_of_le G h1.size) d).trans (h1.block k G d)⟩
theorem eF (w:World) (r:Option Nat):w.grownBy w r:=⟨rfl,rfl,rfl,Nat.le_refl _,fun _ _ _=>rfl⟩
theorem dJ {w w1:World}{B:Nat} (h:w.grownBy w1 (some B)) (j:Nat) (u:Value):w.grownBy (w1.setCell ⟨B,j,none⟩ u) (some B):=
 dA h ⟨rfl,rfl,rfl,by simp[World.setCell],fun k _ d=>Below.heap_setCell _ _ _ _ (fun e=>d (by simpa using congrArg some e))⟩
end Go.Proofs.YtdajolpoiffimabGreatDoor

namespace Go.Proofs.YtdajolpoiffimabGreatDoor
namespace Bx
theorem skip_mem {l:List Sl}{a:Int}{k:Nat}{x:Sl} (h:x∈skipK l a k):x∈l:=by
 induction k with
 | zero=>simp[skipK] at h
 | succ k e=>
   rw[skipK] at h
   split at h
   ·exact e h
   ·rcases List.mem_append.1 h with h|h
    ·exact e h
    ·cases d:l[k]? with
     | none=>rw[d] at h;simp at h
     | some y=>rw[d] at h;simp at h;subst h;exact List.mem_of_getElem? d
theorem without_mem {l:List Sl}{a:Int}{x:Sl} (h:x∈withoutL l a):x∈l:=skip_mem h
theorem putK_mem {l:List Sl}{a:Int}{y x:Sl}{k:Nat} (h:x∈putK l a y k):x∈l∨x=y:=by
 induction k with
 | zero=>simp[putK] at h
 | succ k e=>
   rw[putK] at h
   rcases List.mem_append.1 h with h|h
   ·exact e h
   ·split at h
    ·simp at h;exact Or.inr h
    ·cases d:l[k]? with
     | none=>rw[d] at h;simp at h
     | some z=>rw[d] at h;simp at h;subst h;exact Or.inl (List.mem_of_getElem? d)
theorem put_mem {l:List Sl}{a:Int}{y x:Sl} (h:x∈putL l a y):x∈l∨x=y:=putK_mem h
theorem push_len {l:List En} (e:En):(push l e).length≤6:=by simp[push];omega
theorem withK_ok {s:St} (h:StOk s) {L:List Sl}{n:Int}{how:ByteArray} (d:L.length≤8) (e:∀x∈L,1≤x.num∧x.num<s.next∧1≤x.line∧x.line≤tn s.tab∧1≤x.att∧x.att≤opt s x.line 2-48):StOk (with' s L n how):=by
 refine⟨h.tab,h.c1,h.c2,h.n1,h.n2,d,?_,e⟩
 show (if 0<n then push s.ends ⟨n,how⟩ else s.ends).length≤6
 split
 ·exact push_len _
 ·exact h.en
theorem without_ok {s:St} (h:StOk s) (a n:Int) (how:ByteArray):StOk (with' s (withoutL s.slots a) n how):=
 withK_ok h (Nat.le_trans (skipK_len s.slots a s.slots.length) h.sl) fun x d=>h.each x (without_mem d)
theorem slAt_mem {s:St}{i:Nat} (h:i<s.slots.length):slAt s i∈s.slots:=by
 have:slAt s i=s.slots[i]:=by simp[slAt,h]
 rw[this];exact List.getElem_mem _
theorem put_ok {s:St} (h:StOk s) (a:Int) (y:Sl) (n:Int) (how:ByteArray) (e:1≤y.num∧y.num<s.next∧1≤y.line∧y.line≤tn s.tab∧1≤y.att∧y.att≤opt s y.line 2-48):StOk (with' s (putL s.slots a y) n how):=
 withK_ok h (Nat.le_trans (putK_len s.slots a y s.slots.length) h.sl) fun x d=>by
  rcases put_mem d with d|d
  ·exact h.each x d
  ·subst d;exact e
theorem failed_ok {s:St} (h:StOk s) {i:Nat} (hi:i<s.slots.length):StOk (failed s i):=by
 have d:=h.each _ (slAt_mem hi);unfold failed
 split
 ·exact without_ok h _ _ _
 ·exact put_ok h _ _ _ _ ⟨d.1,d.2.1,d.2.2.1,d.2.2.2.1,by simp;omega,by simp;omega⟩
theorem find_lt (s:St) (n:Int) (h:¬find s n<0):(find s n).toNat<s.slots.length:=by
 have:=findK_lt s.slots n s.slots.length;have h2:find s n=findK s.slots n s.slots.length:=rfl;omega
theorem about_ok {s:St} (h:StOk s) (kind n:Int):StOk (aboutP s kind n).1:=by
 unfold aboutP
 split
 ·exact h
 ·rename_i hn
  have hi:=find_lt s n hn;have d:=h.each _ (slAt_mem hi)
  split
  ·exact without_ok h _ _ _
  ·split
   ·split
    ·exact h
    ·exact put_ok h _ _ _ _ ⟨d.1,d.2.1,d.2.2.1,d.2.2.2.1,d.2.2.2.2.1,d.2.2.2.2.2⟩
   ·split
    ·exact without_ok h _ _ _
    ·split
     ·exact failed_ok h hi
     ·exact h
theorem arr_ok {s:St} (h:StOk s) (p:Nat×Int) (w:p.1<tn s.tab) (e:s.next+1≤10000):StOk (arr s p)∧(arr s p).tab=s.tab∧(arr s p).next=s.next+1:=by
 unfold arr
 split
 ·rename_i h8
  refine⟨⟨h.tab,h.c1,h.c2,by have:=h.n1;show 1≤s.next+1;omega,e,by simp;omega,h.en,fun x d=>?_⟩,rfl,rfl⟩
  rcases List.mem_append.1 d with d|d
  ·have:=h.each x d;exact⟨this.1,by show x.num<s.next+1;omega,this.2.2.1,this.2.2.2.1,this.2.2.2.2.1,this.2.2.2.2.2⟩
  ·simp at d;subst d
   have o:=(jf (h.tab.lines.2.2 p.1 w)).2.2.2.1;refine⟨h.n1,by show s.next<s.next+1;omega,by simp[slotOf];omega,by simp[slotOf];omega,by simp[slotOf],?_⟩
   show (1:Int)≤ob (tl s.tab (((p.1:Int)+1)-1).toNat) 2-48
   rw[show (((p.1:Int)+1)-1).toNat=p.1 by omega];omega
 ·refine⟨⟨h.tab,h.c1,h.c2,by have:=h.n1;show 1≤s.next+1;omega,e,h.sl,push_len _,fun x d=>?_⟩,rfl,rfl⟩
  have:=h.each x d;exact⟨this.1,by show x.num<s.next+1;omega,this.2.2.1,this.2.2.2.1,this.2.2.2.2.1,this.2.2.2.2.2⟩
theorem arrs_ok' (l:List (Nat×Int)) (s:St) (h:StOk s) (d:∀p∈l,p.1<tn s.tab) (w:s.next+(l.length:Int)≤10000):StOk (l.foldl arr s):=by
 induction l generalizing s with
 | nil=>exact h
 | cons a r I=>
   simp only [List.length_cons] at w
   obtain⟨h1,h2,e⟩:=arr_ok h a (d a (by simp)) (by omega)
   exact I (arr s a) h1 (fun p G=>by rw[h2];exact d p (by simp[G])) (by rw[e];omega)
theorem comes_line {s:St}{m:Int}{p:Nat×Int} (d:p∈comesS s m):p.1<tn s.tab:=by
 obtain⟨h,_⟩:=((comes_ok (lns s.tab) (newA s m) m).mem p.1 p.2).1 d
 simpa [lns,linesOf_len] using h
theorem clocked_ok {s:St} (h:StOk s) (m:Int):StOk (clockedP s m).1:=by
 unfold clockedP
 split
 ·rename_i ha
  split
  ·rename_i hn
   have hA:0≤m∧m≤4223371679∧s.clock<m∧(s.clock= -1∨m-s.clock≤1500):=of_decide_eq_true ha;have k:=arrs_ok' (comesS s m) s h (fun p d=>comes_line d) hn
   exact⟨k.tab,by show -1≤m;omega,hA.2.1,k.n1,k.n2,k.sl,k.en,k.each⟩
  ·exact h
 ·exact h
theorem do_ok {s:St} (h:StOk s) (c:Ch):StOk (doP s c).1:=by
 unfold doP
 split
 ·split
  ·rename_i hc
   have h0:s.slots=[]:=List.eq_nil_of_length_eq_zero hc.2;exact⟨hc.1,h.c1,h.c2,h.n1,h.n2,h.sl,h.en,by show ∀x∈s.slots,_;rw[h0];simp⟩
  ·exact h
 ·split
  ·exact clocked_ok h _
  ·exact about_ok h _ _
theorem tell_ok {s:St} (h:StOk s) (c:Ch):StOk (tell s c):=by
 unfold tell;split
 ·exact do_ok h c
 ·exact h
theorem told_ok {s:St} (h:StOk s) (l:List Ch):StOk (told s l):=by
 induction l generalizing s with
 | nil=>exact h
 | cons a r d=>exact d (tell_ok h a)
end Bx
namespace Bx
structure Tk where
 num:Int
 at':Int
 since:Int
 heard:ByteArray
structure Bo where
 limit:Int
 room:Int
 now:St
 text:ByteArray
 talks:List Tk
end Bx
def mayB (l r:Int):Bool:=decide (1≤l∧l≤4∧600≤r∧r≤4000)
theorem slAt_eq (s:Bx.St) (k:Nat) (h:k<s.slots.length):s.slots[k]=Bx.slAt s k:=by simp[Bx.slAt,h]
def talkOf (l:List Bx.Tk) (n:Int):Int:=match l.findIdx? (fun t=>t.num==n) with|some i=>(i:Int)|none=> -1
theorem iB {l:List Bx.Tk}{n:Int}{k:Nat} (h:k<l.length) (w:l[k].num=n) (e:∀j (h:j<l.length),j<k→¬l[j].num=n):talkOf l n=k:=by
 have:l.findIdx? (fun t=>t.num==n)=some k:=by
  rw[List.findIdx?_eq_some_iff_getElem];exact⟨h,by simpa using w,fun j d=>by simpa using e j (by omega) d⟩
 unfold talkOf;rw[this]
theorem iF {l:List Bx.Tk}{n:Int} (e:∀j (h:j<l.length),¬l[j].num=n):talkOf l n= -1:=by
 have:l.findIdx? (fun t=>t.num==n)=none:=by
  rw[List.findIdx?_eq_none_iff];intro x w;obtain⟨j,d,rfl⟩:=List.getElem_of_mem w
  simpa using e j d
 unfold talkOf;rw[this]
theorem gU (l:List Bx.Tk) (n:Int): -1≤talkOf l n∧talkOf l n<l.length:=by
 unfold talkOf
 cases h:l.findIdx? (fun t=>t.num==n) with
 | none=>simp;omega
 | some i=>
   rw[List.findIdx?_eq_some_iff_getElem] at h;obtain⟨hi,_⟩:=h;simp;omega
structure BoOk (b:Bx.Bo):Prop where
 st:Bx.StOk b.now
 txt:b.text.size≤100000
 tks:b.talks.length≤100
 since:∀t∈b.talks,-1≤t.since∧t.since≤4223371679
 ats:∀t∈b.talks,0≤t.at'∧t.at'≤100
noncomputable def addB (b:Bx.Bo) (L:List Bx.Ch):Bx.Bo:={b with text:=b.text++Bx.frames L,now:=Bx.told b.now L}
def fits (b:Bx.Bo) (L:List Bx.Ch):Prop:=¬b.room<(b.text.size:Int)+(Bx.frames L).size
def chT (tab:ByteArray):Bx.Ch:=⟨84,tab,0⟩
def LoadR (b:Bx.Bo) (tab:ByteArray) (b':Bx.Bo) (a r:Int):Prop:=
 (¬r=0∧ChkR tab a r∧b'=b)∨(ChkR tab 0 0∧0<b.now.slots.length∧b'=b∧a=0∧r=5)∨
 (ChkR tab 0 0∧b.now.slots.length=0∧¬fits b [chT tab]∧b'=b∧a=0∧r=13)∨(ChkR tab 0 0∧b.now.slots.length=0∧fits b [chT tab]∧b'=addB b [chT tab]∧a=0∧r=0)
def chCl (m:Int):Bx.Ch:=⟨67,{data:= #[]},m⟩
def chF (n:Int):Bx.Ch:=⟨70,{data:= #[]},n⟩
def tk0:Bx.Tk:=⟨0,0,0,ByteArray.empty⟩
def tkAt (b:Bx.Bo) (i:Nat):Bx.Tk:=b.talks.getD i tk0
theorem eA (b:Bx.Bo) (k:Nat) (h:k<b.talks.length):b.talks[k]=tkAt b k:=by simp[tkAt,h]
def late (b:Bx.Bo) (m n:Int):Bool:=decide (0≤talkOf b.talks n)&&decide ((tkAt b (talkOf b.talks n).toNat).since+3≤m)
def tickK (b:Bx.Bo) (m:Int):Nat→List Bx.Ch
 | 0=>[chCl m]
 | k+1=>if late b m (Bx.slAt b.now k).num=true then tickK b m k++[chF (Bx.slAt b.now k).num] else tickK b m k
def tickL (b:Bx.Bo) (m:Int):List Bx.Ch:=tickK b m b.now.slots.length
theorem oo (b:Bx.Bo) (m:Int) (k:Nat):1≤(tickK b m k).length∧(tickK b m k).length≤k+1:=by
 induction k with
 | zero=>simp[tickK]
 | succ k d=>rw[tickK];split<;>(try simp)<;>omega
def goesOn (s:Bx.St) (t:Bx.Tk):Bool:=decide (0≤Bx.find s t.num)&&(Bx.slAt s (Bx.find s t.num).toNat).runs
def hushL (s:Bx.St) (l:List Bx.Tk):List Bx.Tk:=l.filter (goesOn s)
theorem nh (s:Bx.St) (l:List Bx.Tk) (k:Nat) (h:k<l.length):hushL s (l.take (k+1))=if goesOn s l[k]=true then hushL s (l.take k)++[l[k]] else hushL s (l.take k):=by
 unfold hushL;rw[List.take_succ_eq_append_getElem h,List.filter_append]
 split
 ·rename_i e;simp[e]
 ·rename_i e;simp[e]
theorem qd (s:Bx.St) (l:List Bx.Tk):(hushL s l).length≤l.length:=List.length_filter_le _ _
noncomputable def tickP (b:Bx.Bo) (m:Int):Bx.Bo×Int×Int:=
 if ¬minB m=true then (b,0,4)
 else if ¬Bx.ahead b.now m=true then (b,0,6)
 else if 10000<b.now.next+((Bx.comesS b.now m).length:Int) then (b,0,7)
 else if b.room<(b.text.size:Int)+(Bx.frames (tickL b m)).size then (b,0,13)
 else ({addB b (tickL b m) with talks:=hushL (Bx.told b.now (tickL b m)) b.talks},((Bx.comesS b.now m).length:Int),0)
def saysL:List ByteArray→ByteArray×Nat
 | []=>(ByteArray.empty,0)
 | s::r=>if s.data.toList.head? =some 60 then (ByteArray.empty,0) else (s.extract 1 s.size++(saysL r).1,(saysL r).2+1)
theorem fI (L:List ByteArray) (h:∀s∈L,s.size≤9):(saysL L).1.size≤L.length*9∧(saysL L).2≤L.length:=by
 induction L with
 | nil=>simp[saysL]
 | cons s r d=>
   have h1:=h s (by simp)
   have h2:=d fun x e=>h x (by simp[e])
   rw[saysL]
   split
   ·simp
   ·simp[ByteArray.size_append];omega
theorem jw {s:ByteArray} (h:0<s.size):s.data.toList.head? =some s[0]:=by
 have d:0<s.data.toList.length:=by simpa using h
 rw[List.head?_eq_getElem?,List.getElem?_eq_getElem d];rfl
def stepsS (s:Bx.St) (j:Nat):List ByteArray:=stepsOf (tl s.tab j)
def refusedP (b:Bx.Bo) (F:Int):Int:=
 if F<0 then 8 else if (Bx.slAt b.now F.toNat).runs=true then 9 else if b.now.clock<(Bx.slAt b.now F.toNat).frm then 10
 else if Bx.locked b.now F.toNat=true then 11 else if b.limit≤(Bx.running b.now:Int) then 12 else 0
def chK (n:Int):Bx.Ch:=⟨75,{data:= #[]},n⟩
noncomputable def cancelP (b:Bx.Bo) (n:Int):Bx.Bo×Int:=
 if Bx.find b.now n<0 then (b,8)
 else if b.room<(b.text.size:Int)+(Bx.frames [chK n]).size then (b,13)
 else ({addB b [chK n] with talks:=hushL (Bx.told b.now [chK n]) b.talks},0)
theorem find_num {s:Bx.St}{n:Int} (h:¬Bx.find s n<0):(Bx.slAt s (Bx.find s n).toNat).num=n:=by
 have w:∀k,k≤s.slots.length→¬Bx.findK s.slots n k<0→(Bx.slAt s (Bx.findK s.slots n k).toNat).num=n:=by
  intro k I d
  induction k with
  | zero=>simp[Bx.findK] at d
  | succ k G=>
    rw[Bx.findK] at d ⊢
    split
    ·rename_i he
     have e:k<s.slots.length:=by omega
     rw[List.getElem?_eq_getElem e] at he;rw[Int.toNat_natCast,←slAt_eq s k e];simpa using he
    ·rename_i he
     rw[if_neg he] at d;exact G (by omega) d
 exact w s.slots.length (Nat.le_refl _) h
def chS (n:Int):Bx.Ch:=⟨83,{data:= #[]},n⟩
def chD (n:Int):Bx.Ch:=⟨68,{data:= #[]},n⟩
def startC (L:List ByteArray) (n:Int):List Bx.Ch:=if (saysL L).2=L.length then [chS n]++[chD n] else [chS n]
def startL (b:Bx.Bo) (n:Int):List ByteArray:=stepsS b.now ((Bx.slAt b.now (Bx.find b.now n).toNat).line-1).toNat
noncomputable def startP (b:Bx.Bo) (n:Int):Bx.Bo×ByteArray×Int:=
 if ¬refusedP b (Bx.find b.now n)=0 then (b,ByteArray.empty,refusedP b (Bx.find b.now n))
 else if b.room<(b.text.size:Int)+(Bx.frames (startC (startL b n) n)).size then (b,ByteArray.empty,13)
 else ({addB b (startC (startL b n) n) with talks:=if (saysL (startL b n)).2<(startL b n).length then b.talks++[⟨n,((saysL (startL b n)).2:Nat),b.now.clock,{data:= #[]}⟩] else b.talks},(saysL (startL b n)).1,0)
open Classical in
theorem ku {s:ByteArray} (h:Txt.stepB s=true):Txt.StepP s:=by unfold Txt.stepB at h;exact of_decide_eq_true h
theorem iq {l:ByteArray} (h:LineP l):∀s∈stepsOf l,2≤s.size∧s.size≤9:=by
 intro s d;unfold stepsOf at d;obtain⟨k,e,rfl⟩:=List.getElem_of_mem d;simp at e;have:=h.stp (6+k) (by omega) (by omega)
 rw[List.getElem_drop];exact⟨(ku this).1,(ku this).2.1⟩
def behL (w:List UInt8):List UInt8→Option (List UInt8)
 | []=>if w=[] then some [] else none
 | a::r=>if w.isPrefixOf (a::r)=true then some ((a::r).drop w.length) else behL w r
theorem ke {w t:List UInt8} (h:w.isPrefixOf t=true):behL w t=some (t.drop w.length):=by
 cases t with
 | nil=>cases w<;>simp[List.isPrefixOf] at h;simp[behL]
 | cons a r=>rw[behL,if_pos h]
theorem ij {w:List UInt8}{a:UInt8}{r:List UInt8} (h:w.isPrefixOf (a::r)=false):behL w (a::r)=behL w r:=by rw[behL,h];rfl
theorem gE {w t:List UInt8} (h:t.length<w.length):behL w t=none:=by
 induction t with
 | nil=>cases w<;>simp[behL] at *
 | cons a r e=>
   have d:w.isPrefixOf (a::r)=false:=by
    cases G:w.isPrefixOf (a::r)
    ·rfl
    ·have:=List.IsPrefix.length_le (List.isPrefixOf_iff_prefix.1 G);omega
   rw[ij d];exact e (by simp at h;omega)
theorem ei (y:ByteArray) (a b:Nat):(y.extract a b).data.toList=(y.data.toList.drop a).take (b-a):=by
 rw[ByteArray.data_extract,Array.toList_extract]
def behS (t w:ByteArray):ByteArray:=match behL w.data.toList t.data.toList with|some l=>⟨l.toArray⟩|none=>ByteArray.empty
def behB (t w:ByteArray):Bool:=(behL w.data.toList t.data.toList).isSome
def wordAt (L:List ByteArray) (a:Nat):ByteArray:=(L.getD a ByteArray.empty).extract 1 (L.getD a ByteArray.empty).size
def hearF (L:List ByteArray) (c:Int):Nat→Bx.Tk→Bx.Tk×ByteArray
 | 0,t=>(t,ByteArray.empty)
 | n+1,t=>if (L.length:Int)≤t.at' then (t,ByteArray.empty) else if behB t.heard (wordAt L t.at'.toNat)=false then (t,ByteArray.empty)
   else ((hearF L c n ⟨t.num,((t.at'.toNat+1+(saysL (L.drop (t.at'.toNat+1))).2:Nat):Int),c,behS t.heard (wordAt L t.at'.toNat)⟩).1,
    (saysL (L.drop (t.at'.toNat+1))).1++(hearF L c n ⟨t.num,((t.at'.toNat+1+(saysL (L.drop (t.at'.toNat+1))).2:Nat):Int),c,behS t.heard (wordAt L t.at'.toNat)⟩).2)
theorem qo {w t r:List UInt8} (h:behL w t=some r):r.length≤t.length:=by
 induction t with
 | nil=>simp[behL] at h;obtain⟨_,rfl⟩:=h;simp
 | cons a q d=>
   rw[behL] at h
   split at h
   ·cases h;simp
   ·have:=d h;simp;omega
theorem gV (t u:ByteArray):(behS t u).size≤t.size:=by
 unfold behS
 cases h:behL u.data.toList t.data.toList with
 | none=>simp
 | some l=>
   have:=qo h
   show l.toArray.size≤t.size
   simpa using this
theorem mq (L:List ByteArray) (c:Int) (hL:∀s∈L,s.size≤9) (e:L.length≤100) (n:Nat) (t:Bx.Tk):(hearF L c n t).2.size≤n*900:=by
 induction n generalizing t with
 | zero=>simp[hearF]
 | succ n d=>
   rw[hearF]
   split
   ·simp
   ·split
    ·simp
    ·have h1:=(fI (L.drop (t.at'.toNat+1)) (fun s h=>hL s (List.mem_of_mem_drop h))).1
     have h2:=d ⟨t.num,((t.at'.toNat+1+(saysL (L.drop (t.at'.toNat+1))).2:Nat):Int),c,behS t.heard (wordAt L t.at'.toNat)⟩;have w:(L.drop (t.at'.toNat+1)).length≤100:=by simp;omega
     simp only [ByteArray.size_append]
     omega
theorem gi {L:List ByteArray}{a:Nat} (h:a<L.length):L[a].extract 1 L[a].size=wordAt L a:=by simp[wordAt,h]
def more (t:Bx.Tk) (x:ByteArray):Bx.Tk:={t with heard:=t.heard++x}
def feedH (b:Bx.Bo) (n:Int) (x:ByteArray):Bx.Tk×ByteArray:=hearF (startL b n) b.now.clock (startL b n).length (more (tkAt b (talkOf b.talks n).toNat) x)
noncomputable def feedP (b:Bx.Bo) (n:Int) (x:ByteArray):Bx.Bo×ByteArray×Int:=
 if 40<x.size then (b,ByteArray.empty,1)
 else if Bx.find b.now n<0 then (b,ByteArray.empty,8)
 else if talkOf b.talks n<0 then (b,ByteArray.empty,9)
 else if ((startL b n).length:Int)≤(feedH b n x).1.at' then
  (if b.room<(b.text.size:Int)+(Bx.frames [chD n]).size then (b,ByteArray.empty,13) else ({addB b [chD n] with talks:=hushL (Bx.told b.now [chD n]) b.talks},(feedH b n x).2,0))
 else ({b with talks:=b.talks.set (talkOf b.talks n).toNat (feedH b n x).1},(feedH b n x).2,0)
theorem oS (l:List Bx.Sl) (k:Nat) (d:k≤l.length):Bx.skipK l (-1) k=l.take k:=by
 induction k with
 | zero=>simp[Bx.skipK]
 | succ k e=>
   rw[Bx.skipK,if_neg (by omega),e (by omega),List.take_succ_eq_append_getElem d,List.getElem?_eq_getElem d];rfl
theorem kj (l:List Bx.Sl):Bx.withoutL l (-1)=l:=by rw[Bx.withoutL,oS l _ (Nat.le_refl _),List.take_length]
theorem putK_set (l:List Bx.Sl) (k:Nat) (y:Bx.Sl) (m:Nat) (hm:m≤l.length):Bx.putK l k y m=(l.set k y).take m:=by
 induction m with
 | zero=>simp[Bx.putK]
 | succ m d=>
   have e:m<(l.set k y).length:=by rw[List.length_set];omega
   rw[Bx.putK,d (by omega),List.take_succ_eq_append_getElem e]
   congr 1
   by_cases h:m=k
   ·subst h;simp
   ·rw[if_neg (by omega),List.getElem_set_ne (by omega),List.getElem?_eq_getElem (by omega)];rfl
theorem ky (l:List Bx.Sl) (k:Nat) (y:Bx.Sl):Bx.putL l k y=l.set k y:=by
 rw[Bx.putL,putK_set l k y _ (Nat.le_refl _)];rw[List.take_of_length_le (by simp)]
def clr (x:Bx.Sl):Bx.Sl:={x with runs:=false}
def intK (l:List Bx.Sl) (k:Nat):List Bx.Sl:=(l.take k).map clr++l.drop k
theorem jZ (l:List Bx.Sl) (k:Nat) (h:k≤l.length):(intK l k).length=l.length:=by simp[intK];omega
theorem rK (l:List Bx.Sl) (k:Nat) (h:k<l.length):(intK l k)[k]'(by rw[jZ l k (by omega)];exact h)=l[k]:=by
 simp only [intK]
 rw[List.getElem_append_right (by simp;omega)]
 simp[Nat.min_eq_left (Nat.le_of_lt h)]
theorem oH (l:List Bx.Sl) (k:Nat) (h:k<l.length):(intK l k).set k (clr l[k])=intK l (k+1):=by
 have d:((l.take k).map clr).length=k:=by simp;omega
 rw[intK,List.drop_eq_getElem_cons h,List.set_append_right _ _ (by omega),d,Nat.sub_self,List.set_cons_zero,intK,List.take_succ_eq_append_getElem h,List.map_append,List.append_assoc];rfl
def intS (s:Bx.St):Bx.St:={s with slots:=s.slots.map clr}
theorem gJ {tab:ByteArray} (d:ChkR tab 0 0):tn tab≤4:=by
 rcases d with ⟨_,_,h2⟩|⟨_,_,_,h2⟩|⟨_,_,_,_,_,_,_,h2⟩|⟨_,_,_,_,_,h2⟩|⟨_,x,_,_,_,_⟩<;>omega
theorem pE {s:Bx.St}{p:Nat×Int} (h:s.slots.length<8):Bx.arr s p={Bx.with' s (s.slots++[Bx.slotOf p s.next]) 0 ByteArray.empty with next:=s.next+1}:=by
 rw[Bx.arr,if_pos h];rfl
theorem rP {s:Bx.St}{p:Nat×Int} (h:¬s.slots.length<8) (d:0<s.next):Bx.arr s p={Bx.with' s s.slots s.next Bx.hS with next:=s.next+1}:=by
 rw[Bx.arr,if_neg h,Bx.with',if_pos d]
theorem rI {s:Bx.St} (p:Nat×Int) (h:s.slots.length≤8) (d:s.ends.length≤6):(Bx.arr s p).slots.length≤8∧(Bx.arr s p).ends.length≤6:=by
 unfold Bx.arr;split
 ·simp;omega
 ·simp[Bx.push];omega
theorem arr_next (s:Bx.St) (p:Nat×Int):(Bx.arr s p).next=s.next+1:=by unfold Bx.arr;split<;>rfl
theorem ro (l:List (Nat×Int)) (s:Bx.St) (h:s.slots.length≤8) (d:s.ends.length≤6):(l.foldl Bx.arr s).slots.length≤8∧(l.foldl Bx.arr s).ends.length≤6∧(l.foldl Bx.arr s).next=s.next+l.length:=by
 induction l generalizing s with
 | nil=>exact⟨h,d,by simp⟩
 | cons a r I=>
   have h1:=rI a h d;obtain⟨e,w,G⟩:=I (Bx.arr s a) h1.1 h1.2;refine⟨e,w,?_⟩;rw[List.foldl_cons,G,arr_next,List.length_cons];push_cast;omega
theorem nW (l:List (Nat×Int)) (s:Bx.St) (k:Nat) (h:k<l.length):(l.take (k+1)).foldl Bx.arr s=Bx.arr ((l.take k).foldl Bx.arr s) l[k]:=by
 rw[List.take_succ_eq_append_getElem h,List.foldl_append];rfl
theorem jl (s:Bx.St) (n:Int): -1≤Bx.find s n∧Bx.find s n<s.slots.length:=Bx.findK_lt s.slots n s.slots.length
theorem rg:Bx.hA={data:= #[97]}:=by decide
theorem rh:Bx.hK={data:= #[107]}:=by decide
theorem rf:Bx.hD={data:= #[100]}:=by decide
namespace Px
open Bx (Ln Cnt Lt)
structure From (ls:List Ln) (m t:Int) (i:Nat) (out:List (Nat×Int)):Prop where
 ord:out.Pairwise Lt
 mem:∀j u,(j,u)∈out↔(t<u∨(u=t∧i≤j))∧u≤m∧∃h:j<ls.length,Cnt ls[j] m u
theorem From.start (ls:List Ln) (m:Int):From ls m m ls.length []:=
 ⟨List.Pairwise.nil,fun j u=>⟨(fun h=>by cases h),(fun ⟨h1,h2,h3,_⟩=>by omega)⟩⟩
theorem From.yes {ls:List Ln}{m t:Int}{i:Nat}{out:List (Nat×Int)} (h:From ls m t (i+1) out) (hi:i<ls.length) (I:t≤m) (G:Cnt ls[i] m t):From ls m t i ((i,t)::out):=by
 refine⟨List.pairwise_cons.2 ⟨fun p w=>?_,h.ord⟩,fun j u=>?_⟩
 ·obtain⟨j,u⟩:=p;obtain⟨h1,_,_⟩:=(h.mem j u).1 w
  show t<u∨(t=u∧i<j)
  omega
 ·rw[List.mem_cons,h.mem]
  constructor
  ·rintro (e|⟨h1,h2,d⟩)
   ·cases e;exact⟨Or.inr ⟨rfl,Nat.le_refl _⟩,I,hi,G⟩
   ·exact⟨by omega,h2,d⟩
  ·rintro ⟨h1,h2,d⟩
   by_cases q:j=i∧u=t
   ·left;rw[q.1,q.2]
   ·right;exact⟨by omega,h2,d⟩
theorem From.no {ls:List Ln}{m t:Int}{i:Nat}{out:List (Nat×Int)} (h:From ls m t (i+1) out) (hi:i<ls.length) (w:¬Cnt ls[i] m t):From ls m t i out:=by
 refine⟨h.ord,fun j u=>?_⟩
 rw[h.mem]
 constructor
 ·rintro ⟨h1,h2,d⟩;exact⟨by omega,h2,d⟩
 ·rintro ⟨h1,h2,d,e⟩;refine⟨?_,h2,d,e⟩
  by_cases q:j=i∧u=t
  ·obtain⟨rfl,rfl⟩:=q;exact absurd e w
  ·omega
theorem From.down {ls:List Ln}{m t:Int}{out:List (Nat×Int)} (h:From ls m t 0 out):From ls m (t-1) ls.length out:=by
 refine⟨h.ord,fun j u=>?_⟩
 rw[h.mem]
 constructor
 ·rintro ⟨h1,h2,d⟩;exact⟨by omega,h2,d⟩
 ·rintro ⟨h1,h2,d,e⟩;exact⟨by omega,h2,d,e⟩
theorem From.done {ls:List Ln}{a m:Int}{out:List (Nat×Int)} (h:From ls m (a-1) ls.length out):out=Bx.comes ls a m:=by
 refine Bx.ComesR.uniq (a:=a) (m:=m) (ls:=ls) ⟨h.ord,fun j u=>?_⟩ (Bx.comes_ok ls a m)
 rw[h.mem]
 constructor
 ·rintro ⟨h1,h2,e,d⟩;exact⟨e,by omega,h2,d⟩
 ·rintro ⟨e,h1,h2,d⟩;exact⟨by omega,h2,e,d⟩
open Classical in
noncomputable def metB (l:Ln) (m t:Int):Bool:=decide (∃u,t<u∧u≤m∧l.due u=true)
open Classical in
theorem met_start (l:Ln) (m:Int):metB l m m=false:=by
 unfold metB;exact decide_eq_false (fun ⟨u,h1,h2,_⟩=>by omega)
open Classical in
theorem met_yes {l:Ln}{m t:Int} (h:l.due t=true) (d:t≤m):metB l m (t-1)=true:=by
 unfold metB;exact decide_eq_true ⟨t,by omega,d,h⟩
open Classical in
theorem met_no {l:Ln}{m t:Int} (h:l.due t=false):metB l m (t-1)=metB l m t:=by
 unfold metB
 apply decide_eq_decide.2
 constructor
 ·rintro ⟨u,h1,h2,d⟩
  by_cases q:u=t
  ·subst q;rw[h] at d;cases d
  ·exact⟨u,by omega,h2,d⟩
 ·rintro ⟨u,h1,h2,d⟩;exact⟨u,by omega,h2,d⟩
def cntB (c:Int) (now later:Bool):Bool:=if c=108 then !later else if c=110 then now else true
open Classical in
theorem cnt_iff {l:Ln}{m t:Int} (h:l.due t=true):cntB l.catch' (t==m) (metB l m t)=true↔Cnt l m t:=by
 unfold cntB Cnt metB
 by_cases q:l.catch'=108
 ·rw[if_pos q]
  constructor
  ·intro e;have:¬∃u,t<u∧u≤m∧l.due u=true:=by simpa using e
   refine⟨h,fun d=>by omega,fun _ u h1 h2=>?_⟩
   cases hd:l.due u
   ·rfl
   ·exact absurd ⟨u,h1,h2,hd⟩ this
  ·rintro ⟨_,_,w⟩;have:¬∃u,t<u∧u≤m∧l.due u=true:=fun ⟨u,h1,h2,hd⟩=>by rw[w q u h1 h2] at hd;cases hd
   simpa using this
 ·rw[if_neg q]
  by_cases d:l.catch'=110
  ·rw[if_pos d]
   constructor
   ·intro e;exact⟨h,fun _=>by simpa using e,fun G=>absurd G q⟩
   ·rintro ⟨_,h2,_⟩;simpa using h2 d
  ·rw[if_neg d];exact⟨fun _=>⟨h,fun e=>absurd e d,fun e=>absurd e q⟩,fun _=>rfl⟩
theorem cnt_due {l:Ln}{m t:Int} (h:l.due t=false):¬Cnt l m t:=fun ⟨h1,_⟩=>by rw[h] at h1;cases h1
end Px
namespace Px
def Dist (l:List Sl):Prop:=l.Pairwise fun a b=>a.num≠b.num
theorem Ok.dist {s:St} (h:Ok s):Dist s.slots:=h.rise.imp fun h=>by omega
theorem Dist.at {l:List Sl} (h:Dist l) {i j:Nat} (hi:i<l.length) (d:j<l.length) (e:l[i].num=l[j].num):i=j:=by
 rcases Nat.lt_trichotomy i j with c|c|c
 ·exact absurd e (List.pairwise_iff_getElem.1 h i j hi d c)
 ·exact c
 ·exact absurd e.symm (List.pairwise_iff_getElem.1 h j i d hi c)
theorem findK_no (l:List Bx.Sl) (n:Int) (h:∀x∈l,¬x.num=n) (k:Nat):Bx.findK l n k= -1:=by
 induction k with
 | zero=>rfl
 | succ k d=>
   rw[Bx.findK,d]
   split
   ·rename_i e
    rcases Nat.lt_or_ge k l.length with c|c
    ·rw[List.getElem?_eq_getElem c] at e;simp at e;exact absurd e (h _ (List.getElem_mem c))
    ·rw[List.getElem?_eq_none c] at e;cases e
   ·rfl
theorem findK_at (l:List Bx.Sl) (n:Int) (i:Nat) (hi:i<l.length) (e:l[i].num=n) (h:∀j (w:j<l.length),l[j].num=n→j=i) (k:Nat) (G:i<k):Bx.findK l n k=i:=by
 induction k with
 | zero=>omega
 | succ k d=>
   rw[Bx.findK]
   split
   ·rename_i e'
    rcases Nat.lt_or_ge k l.length with c|c
    ·rw[List.getElem?_eq_getElem c] at e';simp at e';rw[h k c e']
    ·rw[List.getElem?_eq_none c] at e';cases e'
   ·rename_i e'
    by_cases q:i=k
    ·subst q;rw[List.getElem?_eq_getElem hi] at e';simp[e] at e'
    ·exact d (by omega)
theorem find_none {s:St}{n:Int} (h:find s.slots n=none):Bx.find (abs s) n= -1:=by
 refine findK_no _ _ ?_ _;intro x e;obtain⟨y,d,rfl⟩:=List.mem_map.1 e;have:=List.find?_eq_none.1 h y d
 simpa [absS] using this
theorem find_some {s:St}{n:Int}{x:Sl} (hd:Dist s.slots) (h:find s.slots n=some x):∃i,∃hi:i<s.slots.length,s.slots[i]=x∧x.num=n∧Bx.find (abs s) n=i:=by
 have J:=List.mem_of_find?_eq_some h;have d:x.num=n:=by simpa using List.find?_some h
 obtain⟨i,hi,rfl⟩:=List.mem_iff_getElem.1 J;refine⟨i,hi,rfl,d,?_⟩;have w:(abs s).slots.length=s.slots.length:=by simp[abs]
 refine findK_at _ _ i (by rw[w];exact hi) ?_ ?_ _ (by rw[w];exact hi)
 ·simp[abs,absS,d]
 ·intro j I e;have G:j<s.slots.length:=by rw[w] at I;exact I
  refine hd.at G hi ?_;rw[d];simpa [abs,absS] using e
theorem skipK_erase (l:List Bx.Sl) (i k:Nat) (w:k≤l.length):Bx.skipK l i k=(l.take k).eraseIdx i:=by
 induction k with
 | zero=>simp[Bx.skipK]
 | succ k e=>
   have d:k<l.length:=by omega
   rw[Bx.skipK,e (by omega),List.take_succ_eq_append_getElem d,List.getElem?_eq_getElem d]
   by_cases q:k=i
   ·subst q;rw[if_pos rfl,List.eraseIdx_of_length_le (by simp;omega),List.eraseIdx_append_of_length_le (by simp;omega)]
    simp[Nat.min_eq_left (by omega:k≤l.length)]
   ·rw[if_neg (by omega)]
    by_cases c:i<k
    ·rw[List.eraseIdx_append_of_lt_length (by simp;omega)];rfl
    ·rw[List.eraseIdx_of_length_le (by simp;omega),List.eraseIdx_append_of_length_le (by simp;omega)]
     rw[List.eraseIdx_of_length_le (by simp;omega)];rfl
theorem without_erase (l:List Bx.Sl) (i:Nat):Bx.withoutL l i=l.eraseIdx i:=by
 rw[Bx.withoutL,skipK_erase l i _ (Nat.le_refl _),List.take_length]
theorem skip_erase {l:List Sl} (hd:Dist l) {i:Nat} (hi:i<l.length):skip l l[i].num=l.eraseIdx i:=by
 induction l generalizing i with
 | nil=>simp at hi
 | cons a r G=>
   have d:=List.pairwise_cons.1 hd
   cases i with
   | zero=>
     simp only [List.getElem_cons_zero,List.eraseIdx_cons_zero]
     unfold skip;rw[List.filter_cons_of_neg (by simp),List.filter_eq_self]
     intro x I;have:=d.1 x I;simp;exact fun e=>this e.symm
   | succ i=>
     simp only [List.getElem_cons_succ,List.eraseIdx_cons_succ]
     have w:i<r.length:=by simpa using hi
     have:=d.1 r[i] (List.getElem_mem w);unfold skip;rw[List.filter_cons_of_pos (by simpa using this)]
     have:=G d.2 w;unfold skip at this;rw[this]
theorem repl_set {l:List Sl} (hd:Dist l) {i:Nat} (hi:i<l.length) (x:Sl) (d:x.num=l[i].num):repl l x=l.set i x:=by
 apply List.ext_getElem
 ·simp[repl]
 ·intro j h1 h2;have w:j<l.length:=by simpa [repl] using h1
  by_cases q:i=j
  ·subst q;simp[repl,d]
  ·rw[List.getElem_set_ne q];have:¬l[j].num=l[i].num:=fun e=>q (hd.at hi w e.symm)
   simp[repl,d,this]
theorem map_erase {α β:Type} (f:α→β) (l:List α) (i:Nat):(l.eraseIdx i).map f=(l.map f).eraseIdx i:=by
 induction l generalizing i with
 | nil=>simp
 | cons a r d=>cases i with
   | zero=>simp
   | succ i=>simp[d]
theorem abs_skip {s:St} (hd:Dist s.slots) {i:Nat} (hi:i<s.slots.length):(skip s.slots s.slots[i].num).map absS=Bx.withoutL (abs s).slots i:=by
 rw[skip_erase hd hi,without_erase];exact map_erase _ _ _
theorem abs_repl {s:St} (hd:Dist s.slots) {i:Nat} (hi:i<s.slots.length) (x:Sl) (d:x.num=s.slots[i].num):(repl s.slots x).map absS=Bx.putL (abs s).slots i (absS x):=by
 rw[repl_set hd hi x d,ky];simp only [abs];rw[List.map_set]
theorem slAt_abs {s:St}{i:Nat} (hi:i<s.slots.length):Bx.slAt (abs s) i=absS s.slots[i]:=by simp[Bx.slAt,abs,hi]
theorem opt_abs (s:St) (l:Int) (i:Nat):Bx.opt (abs s) l i=opt s l i:=rfl
theorem cancel_abs {s:St} (hd:Dist s.slots) (n:Int) (e:∀x∈s.slots,1≤x.num):
 ((cancelP s n).2=8∧Bx.find (abs s) n<0)∨((cancelP s n).2=0∧Bx.aboutP (abs s) 75 n=(abs (cancelP s n).1,true)):=by
 unfold cancelP
 cases h:find s.slots n with
 | none=>left;rw[find_none h];exact⟨rfl,by omega⟩
 | some x=>
   right
   obtain⟨i,hi,rfl,d,w⟩:=find_some hd h;refine⟨rfl,?_⟩;unfold Bx.aboutP;rw[w,if_neg (by omega),if_pos rfl]
   have h1:=e _ (List.getElem_mem hi);simp only [Bx.with',ended];rw[if_pos (by omega),←abs_skip hd hi,d]
   rfl
theorem done_abs {s:St} (hd:Dist s.slots) (n:Int) (G:∀x∈s.slots,1≤x.num):
 ((doneP s n).2=8∧Bx.find (abs s) n<0)∨((doneP s n).2=9∧∃i:Nat,Bx.find (abs s) n=i∧(Bx.slAt (abs s) i).runs=false)∨((doneP s n).2=0∧Bx.aboutP (abs s) 68 n=(abs (doneP s n).1,true)):=by
 unfold doneP
 cases h:find s.slots n with
 | none=>left;rw[find_none h];exact⟨rfl,by omega⟩
 | some x=>
   right
   obtain⟨i,hi,rfl,w,d⟩:=find_some hd h
   by_cases e:s.slots[i].step≤0
   ·left;simp only [e,if_true];exact⟨trivial,i,d,by rw[slAt_abs hi];simp[absS];omega⟩
   ·right
    simp only [e,if_false]
    refine⟨trivial,?_⟩;unfold Bx.aboutP;rw[d,if_neg (by omega),if_neg (by omega),if_neg (by omega),if_pos rfl]
    have h1:=G _ (List.getElem_mem hi);simp only [Bx.with',ended,Int.toNat_natCast];rw[if_pos (by omega),←abs_skip hd hi,w,slAt_abs hi]
    have:(absS s.slots[i]).runs=true:=by simp[absS];omega
    rw[this];rfl
theorem delay_bd (k:Int):2≤Bx.delay k∧Bx.delay k≤10:=by
 unfold Bx.delay;split
 ·omega
 ·split
  ·omega
  ·split<;>omega
theorem fail_abs {s:St} (hd:Dist s.slots) (n:Int) (O:∀x∈s.slots,1≤x.num) (Q:∀x∈s.slots,x.att≤opt s x.line 2-48):
 ((failP s n).2=8∧Bx.find (abs s) n<0)∨((failP s n).2=9∧∃i:Nat,Bx.find (abs s) n=i∧(Bx.slAt (abs s) i).runs=false)∨((failP s n).2=0∧Bx.aboutP (abs s) 70 n=(abs (failP s n).1,true)):=by
 unfold failP
 cases h:find s.slots n with
 | none=>left;rw[find_none h];exact⟨rfl,by omega⟩
 | some x=>
   right
   obtain⟨i,hi,rfl,G,d⟩:=find_some hd h
   by_cases w:s.slots[i].step≤0
   ·left;simp only [w,if_true];exact⟨trivial,i,d,by rw[slAt_abs hi];simp[absS];omega⟩
   ·right
    have h1:=O _ (List.getElem_mem hi);have h2:=Q _ (List.getElem_mem hi);have U:(absS s.slots[i]).runs=true:=by simp[absS];omega
    simp only [w,if_false]
    have e:Bx.aboutP (abs s) 70 n=(Bx.failed (abs s) i,true):=by
     unfold Bx.aboutP;rw[d,if_neg (by omega),if_neg (by omega),if_neg (by omega),if_neg (by omega),if_pos rfl]
     simp only [Int.toNat_natCast]
     rw[slAt_abs hi,U]
    rw[e];unfold Bx.failed;rw[slAt_abs hi,opt_abs];have J:(absS s.slots[i]).att=s.slots[i].att:=rfl;have V:(absS s.slots[i]).line=s.slots[i].line:=rfl;have I:(absS s.slots[i]).num=s.slots[i].num:=rfl;rw[J,V,I]
    by_cases q:opt s s.slots[i].line 2-48≤s.slots[i].att
    ·rw[if_pos q,if_pos (by omega)]
     refine⟨rfl,?_⟩;simp only [Bx.with',ended];rw[if_pos (by omega),←abs_skip hd hi,G]
     rfl
    ·rw[if_neg q,if_neg (by omega)]
     refine⟨rfl,?_⟩;have:=abs_repl hd hi (again s s.slots[i]) rfl;simp only [Bx.with'];rw[if_neg (by omega)]
     show _=(({tab:=s.tab,clock:=s.clock,next:=s.next,slots:=(repl s.slots (again s s.slots[i])).map absS,ends:=s.ends}:Bx.St),true)
     rw[this];rfl
theorem runs_abs (s:St):Bx.running (abs s)=runs s:=by
 have:∀k,k≤s.slots.length→Bx.runK (abs s) k=((s.slots.take k).filter fun x=>decide (0<x.step)).length:=by
  intro k G
  induction k with
  | zero=>rfl
  | succ k e=>
    have d:k<s.slots.length:=by omega
    rw[Bx.runK,e (by omega),slAt_abs d,List.take_succ_eq_append_getElem d,List.filter_append,List.length_append]
    congr 1
    by_cases q:0<s.slots[k].step<;>simp[absS,q]
 unfold Bx.running runs;have w:(abs s).slots.length=s.slots.length:=by simp[abs]
 rw[w,this _ (Nat.le_refl _),List.take_length]
theorem lock_abs {s:St}{i:Nat} (hi:i<s.slots.length) (G:s.slots[i].step≤0):Bx.locked (abs s) i=lockP s s.slots[i].line:=by
 have:∀k,k≤s.slots.length→Bx.lockK (abs s) i k=((s.slots.take k).any fun x=>decide (x.line=s.slots[i].line)&&decide (0<x.step)):=by
  intro k I
  induction k with
  | zero=>rfl
  | succ k e=>
    have d:k<s.slots.length:=by omega
    rw[Bx.lockK,e (by omega),slAt_abs d,slAt_abs hi,List.take_succ_eq_append_getElem d,List.any_append]
    congr 1
    by_cases q:k=i
    ·subst q;simp[absS];omega
    ·simp[absS,q];rfl
 unfold Bx.locked lockP;have w:(abs s).slots.length=s.slots.length:=by simp[abs]
 rw[w,this _ (Nat.le_refl _),List.take_length,slAt_abs hi];rfl
end Px
def lastN (k:Nat) (l:List UInt8):List UInt8:=l.drop (l.length-k)
theorem pu (k:Nat) (a b:List UInt8):lastN k (lastN k a++b)=lastN k (a++b):=by
 unfold lastN;have e:(List.drop (a.length-k) a++b)=(a++b).drop (a.length-k):=by rw[List.drop_append_of_le_length (by omega)]
 rw[e,List.drop_drop]
 congr 1
 simp;omega
theorem iE {k:Nat}{l:List UInt8} (h:l.length≤k):lastN k l=l:=by
 unfold lastN;rw[Nat.sub_eq_zero_of_le h];rfl
theorem nu {w:List UInt8}{a:UInt8}{r:List UInt8} (h:behL w (a::r)=none):w.isPrefixOf (a::r)=false∧behL w r=none:=by
 rw[behL] at h
 split at h
 ·cases h
 ·rename_i q;exact⟨Bool.eq_false_iff.2 q,h⟩
theorem rb (w d t:List UInt8) (J:0<w.length) (h:behL w d=none):behL w (lastN (w.length-1) d++t)=behL w (d++t):=by
 induction d with
 | nil=>simp[lastN]
 | cons a r I=>
   by_cases q:(a::r).length≤w.length-1
   ·rw[iE q]
   ·obtain⟨h1,h2⟩:=nu h
    have e:lastN (w.length-1) (a::r)=lastN (w.length-1) r:=by
     unfold lastN;have:(a::r).length-(w.length-1)=(r.length-(w.length-1))+1:=by simp at q ⊢;omega
     rw[this];rfl
    rw[e,I h2]
    have n1:w.isPrefixOf (a::r++t)=false:=by
     cases c:w.isPrefixOf (a::r++t)
     ·rfl
     ·exfalso
      rw[List.isPrefixOf_iff_prefix] at c
      have G:w <+: a::r:=by
       refine List.prefix_of_prefix_length_le c (List.prefix_append _ _) ?_;simp at q ⊢;omega
      rw[←List.isPrefixOf_iff_prefix,h1] at G;cases G
    rw[List.cons_append] at n1 ⊢;rw[ij n1]
namespace Px
def lastB (h:ByteArray) (k:Nat):ByteArray:=if k<h.size then h.extract (h.size-k) h.size else h
theorem lastB_list (h:ByteArray) (k:Nat):(lastB h k).data.toList=lastN k h.data.toList:=by
 have d:h.data.toList.length=h.size:=by simp
 unfold lastB;split
 ·rw[ei,lastN,d,List.take_of_length_le (by simp)]
 ·rw[iE (by omega)]
abbrev says (s:ByteArray):Bool:=sayB s
def goF (L:List ByteArray) (c:Int):Nat→Sl→Sl×ByteArray
 | 0,x=>(x,ByteArray.empty)
 | n+1,x=>if (L.length:Int)<x.step then (x,ByteArray.empty)
   else if says (L.getD (x.step-1).toNat ByteArray.empty)=true then
    ((goF L c n {x with step:=x.step+1}).1,wordAt L (x.step-1).toNat++(goF L c n {x with step:=x.step+1}).2)
   else if behB x.heard (wordAt L (x.step-1).toNat)=false then ({x with heard:=lastB x.heard ((wordAt L (x.step-1).toNat).size-1)},ByteArray.empty)
   else goF L c n {x with step:=x.step+1,heard:=behS x.heard (wordAt L (x.step-1).toNat),ans:=c}
theorem ba_nil_app (a:ByteArray):ByteArray.empty++a=a:=by simp
theorem ba_app_nil (a:ByteArray):a++ByteArray.empty=a:=by simp
theorem goF_says (L:List ByteArray) (c:Int):∀(m i n:Nat) (x:Sl),L.length-i=m→i≤L.length→x.step=(i:Int)+1→m≤n→
 ∃w,n-(saysL (L.drop i)).2≤w∧goF L c n x=((goF L c w {x with step:=((i+(saysL (L.drop i)).2:Nat):Int)+1}).1,(saysL (L.drop i)).1++(goF L c w {x with step:=((i+(saysL (L.drop i)).2:Nat):Int)+1}).2):=by
 intro m
 induction m with
 | zero=>
   intro i n x hm hi I _;have e:L.drop i=[]:=List.drop_eq_nil_of_le (by omega)
   refine⟨n,by simp[e,saysL],?_⟩
   have G:{x with step:=((i+(saysL (L.drop i)).2:Nat):Int)+1}=x:=by
    rw[e];cases x;simp[saysL] at I ⊢;omega
   rw[G,e];simp[saysL]
 | succ m V=>
   intro i n x hm hi I Z;have d:i<L.length:=by omega
   rw[List.drop_eq_getElem_cons d,saysL]
   by_cases q:L[i].data.toList.head? =some 60
   ·rw[if_pos q];refine⟨n,by omega,?_⟩
    have G:{x with step:=((i+0:Nat):Int)+1}=x:=by
     cases x;simp at I ⊢;omega
    rw[G];simp
   ·rw[if_neg q];obtain⟨n,rfl⟩:∃k,n=k+1:=⟨n-1,by omega⟩
    obtain⟨w,h1,h2⟩:=V (i+1) n {x with step:=x.step+1} (by omega) (by omega) (by rw[I];simp) (by omega)
    refine⟨w,by simp only;omega,?_⟩
    have O:(x.step-1).toNat=i:=by omega
    have Y:L.getD i ByteArray.empty=L[i]:=by simp[d]
    have J:says L[i]=true:=by unfold says sayB;simp[q]
    rw[goF,if_neg (by omega),O,Y,if_pos J,h2]
    have U:i+1+(saysL (L.drop (i+1))).2=i+((saysL (L.drop (i+1))).2+1):=by omega
    have Q:wordAt L i=L[i].extract 1 L[i].size:=by simp[wordAt,d]
    simp only [U,Q,ByteArray.append_assoc]
theorem saysL_stop (L:List ByteArray) (h:(saysL L).2<L.length):says L[(saysL L).2]=false:=by
 induction L with
 | nil=>simp at h
 | cons s r d=>
   by_cases q:s.data.toList.head? =some 60
   ·have e:saysL (s::r)=(ByteArray.empty,0):=by rw[saysL,if_pos q]
    simp only [e,List.getElem_cons_zero]
    unfold says sayB;simp[q]
   ·have e:(saysL (s::r)).2=(saysL r).2+1:=by rw[saysL,if_neg q]
    have w:(saysL r).2<r.length:=by rw[e] at h;simpa using h
    simp only [e,List.getElem_cons_succ]
    exact d w
theorem saysL_le (L:List ByteArray):(saysL L).2≤L.length:=by
 induction L with
 | nil=>simp[saysL]
 | cons s r d=>rw[saysL];split<;>simp<;>omega
theorem stop_at (L:List ByteArray) (i:Nat) (h:i+(saysL (L.drop i)).2<L.length):says L[i+(saysL (L.drop i)).2]=false:=by
 have:=saysL_stop (L.drop i) (by rw[List.length_drop];omega)
 rw[List.getElem_drop] at this;exact this
structure Rest (L:List ByteArray) (x:Sl) (t:Bx.Tk) (a:Nat):Prop where
 at':t.at'=a
 le:a≤L.length
 step:x.step=(a:Int)+1
 ans:x.ans=t.since
 hear:∀h:a<L.length,says L[a]=false∧behL (wordAt L a).data.toList t.heard.data.toList=none∧x.heard.data.toList=lastN ((wordAt L a).size-1) t.heard.data.toList
def Like (x y:Sl):Prop:=y.num=x.num∧y.line=x.line∧y.minute=x.minute∧y.att=x.att∧y.frm=x.frm
theorem Like.refl (x:Sl):Like x x:=⟨rfl,rfl,rfl,rfl,rfl⟩
theorem Like.trans {x y z:Sl} (h:Like x y) (d:Like y z):Like x z:=⟨d.1.trans h.1,d.2.1.trans h.2.1,d.2.2.1.trans h.2.2.1,d.2.2.2.1.trans h.2.2.2.1,d.2.2.2.2.trans h.2.2.2.2⟩
theorem hear_same (L:List ByteArray) (c:Int):∀(m a d w:Nat) (x:Sl) (t:Bx.Tk),L.length-a=m→m≤d→m+1≤w→t.at'=a→a≤L.length→x.step=(a:Int)+1→x.ans=t.since→
 (∀h:a<L.length,says L[a]=false∧behL (wordAt L a).data.toList x.heard.data.toList=behL (wordAt L a).data.toList t.heard.data.toList∧
  (behL (wordAt L a).data.toList t.heard.data.toList=none→lastN ((wordAt L a).size-1) x.heard.data.toList=lastN ((wordAt L a).size-1) t.heard.data.toList))→
 (goF L c w x).2=(hearF L c d t).2∧(∃a',Rest L (goF L c w x).1 (hearF L c d t).1 a')∧Like x (goF L c w x).1∧(hearF L c d t).1.num=t.num:=by
 intro m
 induction m using Nat.strongRecOn with
 | ind m ih=>
   intro a d w x t hm am ao J I Q O hh;obtain⟨w,rfl⟩:∃k,w=k+1:=⟨w-1,by omega⟩
   by_cases U:a<L.length
   ·obtain⟨d,rfl⟩:∃k,d=k+1:=⟨d-1,by omega⟩
    obtain⟨h1,h2,h3⟩:=hh U;have e1:(x.step-1).toNat=a:=by omega
    have e2:L.getD a ByteArray.empty=L[a]:=by simp[U]
    have e3:t.at'.toNat=a:=by omega
    have G:goF L c (w+1) x=if behB x.heard (wordAt L a)=false then ({x with heard:=lastB x.heard ((wordAt L a).size-1)},ByteArray.empty) else goF L c w {x with step:=x.step+1,heard:=behS x.heard (wordAt L a),ans:=c}:=by
     rw[goF,if_neg (by omega),e1,e2,if_neg (by rw[h1];simp)]
    have H:hearF L c (d+1) t=if behB t.heard (wordAt L a)=false then (t,ByteArray.empty)
     else ((hearF L c d ⟨t.num,((a+1+(saysL (L.drop (a+1))).2:Nat):Int),c,behS t.heard (wordAt L a)⟩).1,(saysL (L.drop (a+1))).1++(hearF L c d ⟨t.num,((a+1+(saysL (L.drop (a+1))).2:Nat):Int),c,behS t.heard (wordAt L a)⟩).2):=by
     rw[hearF,if_neg (by omega),e3]
    rw[G,H];have eB:behB x.heard (wordAt L a)=behB t.heard (wordAt L a):=by unfold behB;rw[h2]
    have eS:behS x.heard (wordAt L a)=behS t.heard (wordAt L a):=by unfold behS;rw[h2]
    rw[eB,eS]
    by_cases q:behB t.heard (wordAt L a)=false
    ·rw[if_pos q,if_pos q]
     have V:behL (wordAt L a).data.toList t.heard.data.toList=none:=by
      unfold behB at q;simpa using q
     exact⟨rfl,⟨a,J,I,Q,O,fun _=>⟨h1,V,by rw[lastB_list];exact h3 V⟩⟩,⟨rfl,rfl,rfl,rfl,rfl⟩,rfl⟩
    ·rw[if_neg q,if_neg q];obtain⟨n',ap,hg⟩:=goF_says L c (L.length-(a+1)) (a+1) w {x with step:=x.step+1,heard:=behS t.heard (wordAt L a),ans:=c} rfl (by omega) (by simp;omega) (by omega)
     rw[hg];have Z:=saysL_le (L.drop (a+1));rw[List.length_drop] at Z
     obtain⟨r1,r2,r3,Y⟩:=ih (L.length-(a+1+(saysL (L.drop (a+1))).2)) (by omega) (a+1+(saysL (L.drop (a+1))).2) d n'
      {x with step:=((a+1+(saysL (L.drop (a+1))).2:Nat):Int)+1,heard:=behS t.heard (wordAt L a),ans:=c}
      ⟨t.num,((a+1+(saysL (L.drop (a+1))).2:Nat):Int),c,behS t.heard (wordAt L a)⟩ rfl (by omega) (by omega) rfl (by omega) rfl rfl
      (fun h=>⟨stop_at L (a+1) h,rfl,fun _=>rfl⟩)
     refine⟨?_,r2,?_,Y⟩
     ·show _++_=_++_
      rw[r1]
     ·exact Like.trans ⟨rfl,rfl,rfl,rfl,rfl⟩ r3
   ·have ea:a=L.length:=by omega
    have e:hearF L c d t=(t,ByteArray.empty):=by
     cases d with
     | zero=>rfl
     | succ d=>rw[hearF,if_pos (by omega)]
    rw[goF,if_pos (by omega),e]
    exact⟨rfl,⟨a,J,I,Q,O,fun h=>by omega⟩,Like.refl _,rfl⟩
end Px
end Go.Proofs.YtdajolpoiffimabGreatDoor
