import Derived.Test.YtdajolpoiffimabGreatDoorA3
import Derived.Test.YtdajolpoiffimabGreatDoorA13

namespace Go.Proofs.YtdajolpoiffimabGreatDoor
open Go.RowKit
set_option maxHeartbeats 0 in
theorem ez (x:Px.Sl) (w:World):Calls Tryz.prog 90 #[psV x] w fun e d=>e=.returned (.bool (decide (0<x.step)))∧Below w.heap.size w d:=by
 go_enter Tryz.func90,Tryz.ntmps90
 go_wp2_with fail;go_ret;exact⟨rfl,dx _ _⟩
def waitS (x:Px.Sl):Px.Sl:={x with step:=0,ans:=0,heard:=ByteArray.empty}
set_option maxHeartbeats 0 in
theorem lm (x:Px.Sl) (w:World):Calls Tryz.prog 94 #[psV x] w fun e d=>e=.returned (psV (waitS x))∧Below w.heap.size w d:=by
 go_enter Tryz.func94,Tryz.ntmps94
 go_wp2_with fail;refine bodyPost_ret (v:=psV (waitS x)) (by simp[results,Tryz.results94,go_sem];exact⟨rfl,rfl,rfl,rfl,rfl,rfl,rfl,rfl⟩) rfl ⟨rfl,?_⟩
 exact (dx w _).alloc (by simp) _
set_option maxHeartbeats 0 in
theorem nx (k:Int) (w:World) (k1:1≤k) (G:k≤5):Calls Tryz.prog 95 #[.int .i64 k] w fun e d=>e=.returned (.int .i64 (Bx.delay k))∧d=w:=by
 go_enter Tryz.func95,Tryz.ntmps95
 go_wp2_with fail
 go_loop [3,4] (fun a b=>(a=.int .i64 1∧b=.int .i64 0)∨(a=.int .i64 2∧b=.int .i64 1)∨(a=.int .i64 4∧b=.int .i64 2∧2≤k)∨(a=.int .i64 8∧b=.int .i64 3∧3≤k)∨(a=.int .i64 16∧b=.int .i64 4∧4≤k)) (fun _ b=>5-(intOf b).toNat)
 case atStart=>exact Or.inl ⟨rfl,rfl⟩
 case round=>
  rcases hrel with ⟨rfl,rfl⟩|⟨rfl,rfl⟩|⟨rfl,rfl,h⟩|⟨rfl,rfl,h⟩|⟨rfl,rfl,h⟩
  ·have c:(0:Int)<k:=by omega
   go_wp2_with fail
   go_round
   case rel=>exact Or.inr (Or.inl ⟨rfl,rfl⟩)
   case measure=>simp[intOf]
  ·by_cases c:(1:Int)<k
   ·go_wp2_with fail
    go_round
    case rel=>exact Or.inr (Or.inr (Or.inl ⟨rfl,rfl,by omega⟩))
    case measure=>simp[intOf]
   ·have e:Hid (Bx.delay k=2):=by have:k=1:=by omega
                                  subst this;rfl
    go_wp2_with fail;go_ret;exact⟨dS e.out.symm,rfl⟩
  ·by_cases c:(2:Int)<k
   ·go_wp2_with fail
    go_round
    case rel=>exact Or.inr (Or.inr (Or.inr (Or.inl ⟨rfl,rfl,by omega⟩)))
    case measure=>simp[intOf]
   ·have e:Hid (Bx.delay k=4):=by have:k=2:=by omega
                                  subst this;rfl
    go_wp2_with fail;go_ret;exact⟨dS e.out.symm,rfl⟩
  ·by_cases c:(3:Int)<k
   ·go_wp2_with fail
    go_round
    case rel=>exact Or.inr (Or.inr (Or.inr (Or.inr ⟨rfl,rfl,by omega⟩)))
    case measure=>simp[intOf]
   ·have e:Hid (Bx.delay k=8):=by have:k=3:=by omega
                                  subst this;rfl
    go_wp2_with fail;go_ret;exact⟨dS e.out.symm,rfl⟩
  ·have e:Hid (Bx.delay k=10):=by
    unfold Hid Bx.delay;rw[if_neg (by omega),if_neg (by omega),if_neg (by omega)]
   by_cases c:(4:Int)<k
   ·go_wp2_with fail;go_ret;exact⟨dS e.out.symm,rfl⟩
   ·go_wp2_with fail;go_ret;exact⟨dS e.out.symm,rfl⟩
def runsK (l:List Px.Sl) (k:Nat):Nat:=((l.take k).filter fun x=>decide (0<x.step)).length
theorem oO {l:List Px.Sl}{k:Nat} (h:k<l.length) (e:decide (0<l[k].step)=true):runsK l (k+1)=runsK l k+1:=by
 unfold runsK;rw[List.take_succ_eq_append_getElem h,List.filter_append,List.filter_cons_of_pos (p:=fun x:Px.Sl=>decide (0<x.step)) (a:=l[k]) e];simp
theorem rc {l:List Px.Sl}{k:Nat} (h:k<l.length) (e:decide (0<l[k].step)=false):runsK l (k+1)=runsK l k:=by
 unfold runsK;rw[List.take_succ_eq_append_getElem h,List.filter_append,List.filter_cons_of_neg (by rw[e];simp)];simp
theorem pL (l:List Px.Sl) (k:Nat):runsK l k≤k:=by
 have:=List.length_filter_le (fun x:Px.Sl=>decide (0<x.step)) (l.take k)
 unfold runsK;simp at this ⊢;omega
set_option maxHeartbeats 0 in
theorem ld (s:Px.St) (sl en:Value) (w:World) (hl:s.slots.length≤10000) (hS:PAt w s sl en):
 Calls Tryz.prog 55 #[pstV s sl en] w fun e w'=>e=.returned (.int .i64 (Px.runs s:Nat))∧Below w.heap.size w w':=by
 obtain⟨ad,Q,rfl,av⟩:=hS.sl.form;obtain⟨Y,I,rfl,ar⟩:=hS.en.form;have HR:=Hq hS.sl.1;clear hS;have O:=dx w (pstO s (.slice ad s.slots.length Q) (.slice Y s.ends.length I));have hI:=PIn.new w s (.slice ad s.slots.length Q) (.slice Y s.ends.length I)
 go_enter Tryz.func55,Tryz.ntmps55
 go_upto_region 1 with fail;generalize w.alloc (pstO s (.slice ad s.slots.length Q) (.slice Y s.ends.length I))=W at *;have HB:=Hq O;have aq:=Hq (HR.out.later O);have HI:=Hq hI;clear hI O HR;go_wp2_with fail
 go_loopw [3,4] (fun c i wr=>∃k:Nat,k≤s.slots.length∧i=.int .i64 k∧c=.int .i64 (runsK s.slots k:Nat)∧Below W.heap.size W wr) (fun _ i _=>s.slots.length-(intOf i).toNat)
 case atStart=>exact⟨0,Nat.zero_le _,rfl,rfl,Below.refl _ _⟩
 case round=>
  obtain⟨k,hk,rfl,rfl,d⟩:=hrel;have i3:=(HI.out.later d).c3;have Z:=d.size
  by_cases U:k<s.slots.length
  ·obtain⟨b,aB,ay,hv,_,hc⟩:=(aq.out.later d).some' (by omega)
   cases hv
   obtain⟨d0,d1,d2,d3,d4,d5,d6,d7⟩:=ej hc k U;clear hc;have b1:(0:Int)≤(k:Int):=by omega
   have b2:(k:Int)<(s.slots.length:Int):=by omega
   have aA:=pL s.slots k
   cases J:decide (0<s.slots[k].step)
   ·have V:Hid (runsK s.slots (k+1)=runsK s.slots k):=rc U J;have HE:=Hq J;clear J;generalize s.slots[k]=x at *;generalize runsK s.slots k=r at *;go_wp2_with fail;refine (ez x wr).mono ?_;rintro e w2 ⟨rfl,G⟩;rw[HE.out];have B2:=d.trans (G.mono Z);clear d0 d1 d2 d3 d4 d5 d6 d7 i3 G d;go_wp2_with fail;go_roundw
    case rel=>exact⟨k+1,by omega,by go_num,by rw[V.out],B2⟩
    case measure=>simp[intOf];omega
   ·have V:Hid (runsK s.slots (k+1)=runsK s.slots k+1):=oO U J;have HE:=Hq J;clear J;generalize s.slots[k]=x at *;generalize runsK s.slots k=r at *;go_wp2_with fail;refine (ez x wr).mono ?_;rintro e w2 ⟨rfl,G⟩;rw[HE.out];have B2:=d.trans (G.mono Z);clear d0 d1 d2 d3 d4 d5 d6 d7 i3 G d;go_wp2_with fail;go_roundw
    case rel=>exact⟨k+1,by omega,by go_num,by rw[V.out];go_num,B2⟩
    case measure=>simp[intOf];omega
  ·obtain rfl:k=s.slots.length:=by omega
   have V:Hid (runsK s.slots s.slots.length=Px.runs s):=by unfold Hid runsK Px.runs;rw[List.take_length]
   go_wp2_with fail;go_ret;exact⟨dS (by rw[V.out]),HB.out.trans (d.mono HB.out.size)⟩
theorem pS:(Tryz.prog.info? 3).map (fun i=>(i.zero,i.size,i.bytes))=some (some (.int .i64 0),1,8):=by kernel_rfl
def lateK (s:Px.St) (k:Nat):List Int:=((s.slots.take k).filter fun x=>decide (0<x.step)&&decide (x.ans≤s.clock-3)).map (·.num)
theorem nP {s:Px.St}{k:Nat} (h:k<s.slots.length) (e:(decide (0<s.slots[k].step)&&decide (s.slots[k].ans≤s.clock-3))=true):lateK s (k+1)=lateK s k++[s.slots[k].num]:=by
 unfold lateK;rw[List.take_succ_eq_append_getElem h,List.filter_append,List.filter_cons_of_pos (p:=fun x:Px.Sl=>decide (0<x.step)&&decide (x.ans≤s.clock-3)) (a:=s.slots[k]) e];simp
theorem pz {s:Px.St}{k:Nat} (h:k<s.slots.length) (e:(decide (0<s.slots[k].step)&&decide (s.slots[k].ans≤s.clock-3))=false):lateK s (k+1)=lateK s k:=by
 unfold lateK;rw[List.take_succ_eq_append_getElem h,List.filter_append,List.filter_cons_of_neg (by rw[e];simp)];simp
theorem qF (s:Px.St) (k:Nat):(lateK s k).length≤k:=by
 have:=List.length_filter_le (fun x:Px.Sl=>decide (0<x.step)&&decide (x.ans≤s.clock-3)) (s.slots.take k)
 unfold lateK;simp at this ⊢;omega
theorem sg (w:World) (n:Int) (t:TypeId):∀j u,([Value.int .i64 n]:List Value)[j]? =some u→(w.alloc (.cells #[.int .i64 n] t)).cell? ((⟨w.heap.size,0,none⟩:Addr).add j)=some u:=by
 intro j u d
 match j,d with
 | 0,d=>simp at d;subst d;simp[Addr.add,go_sem]
set_option maxRecDepth 10000 in
set_option maxHeartbeats 0 in
theorem jo (s:Px.St) (sl en:Value) (w:World) (hl:s.slots.length≤10000) (c1: -1≤s.clock) (c2:s.clock≤4223371679) (hS:PAt w s sl en):
 Calls Tryz.prog 49 #[pstV s sl en] w fun e w'=>(∃v,e=.returned v∧w'.ownsRow w.heap.size 3 1 v (Px.late s).length ((Px.late s).map (Value.int .i64)))∧Below w.heap.size w w':=by
 obtain⟨i0,hi,aM,aH,aB⟩:=info_parts pS;obtain⟨ad,J,rfl,aX⟩:=hS.sl.form;obtain⟨Q,G,rfl,aQ⟩:=hS.en.form;have HR:=Hq hS.sl.1;clear hS;have ah:=dx w (pstO s (.slice ad s.slots.length J) (.slice Q s.ends.length G));have hI:=PIn.new w s (.slice ad s.slots.length J) (.slice Q s.ends.length G);have az:w.heap.size≤(w.alloc (pstO s (.slice ad s.slots.length J) (.slice Q s.ends.length G))).heap.size:=by simp
 have ao:=et (w.alloc (pstO s (.slice ad s.slots.length J) (.slice Q s.ends.length G))) 3 1;have am:=dx (w.alloc (pstO s (.slice ad s.slots.length J) (.slice Q s.ends.length G))) (.cells #[] 3)
 go_enter Tryz.func49,Tryz.ntmps49
 go_upto_region 1 with fail;generalize w.alloc (pstO s (.slice ad s.slots.length J) (.slice Q s.ends.length G))=W at *;have HB:=Hq ah;have aL:=Hq am;have aK:=Hq ao;have aN:=Hq (HR.out.later ah);have HI:=Hq hI;clear hI ah am ao HR;go_wp2_with fail
 go_loopw [3,4] (fun v i wr=>∃k:Nat,k≤s.slots.length∧i=.int .i64 k∧wr.ownsRow W.heap.size 3 1 v (lateK s k).length ((lateK s k).map (Value.int .i64))∧Below W.heap.size W wr) (fun _ i _=>s.slots.length-(intOf i).toNat)
 case atStart=>exact⟨0,Nat.zero_le _,rfl,aK.out,aL.out⟩
 case round=>
  obtain⟨k,hk,rfl,U,O⟩:=hrel;have i3:=(HI.out.later O).c3;have aJ:=O.size
  by_cases aj:k<s.slots.length
  ·obtain⟨b,bj,ba,hv,_,hc⟩:=(aN.out.later O).some' (by omega)
   cases hv
   obtain⟨d0,d1,d2,d3,d4,d5,d6,d7⟩:=ej hc k aj;clear hc;have b1:(0:Int)≤(k:Int):=by omega
   have b2:(k:Int)<(s.slots.length:Int):=by omega
   have bh:=qF s k
   have HX:Hid (∀v,(decide (0<s.slots[k].step)&&decide (s.slots[k].ans≤s.clock-3))=v→lateK s (k+1)=if v=true then lateK s k++[s.slots[k].num] else lateK s k):=by
    intro v hv
    cases v
    ·rw[if_neg (by simp)];exact pz aj hv
    ·rw[if_pos rfl];exact nP aj hv
   generalize s.slots[k]=x at *;have ax:=PsIn.new wr x;have ar:=dx wr (psO x);have Z:=U.alloc (psO x);go_upto_region 6 with fail;clear d0 d1 d2 d3 d4 d5 d6 d7 i3;generalize wr.alloc (psO x)=W2 at *;generalize wr.heap.size=q at *;have ai:Below W.heap.size W W2:=O.trans (ar.mono aJ);obtain⟨x0,x1,x2,x3,x4,x5,x6,x7⟩:=ax;have aA:=ai.size;have aq:=Hq x0;have ap:=Hq x6;go_wp2_with fail;refine (ez x W2).mono ?_;rintro e w3 ⟨rfl,V⟩;have I:Below W.heap.size W w3:=ai.trans (V.mono aA);have y0:=cell_later V aq.out;have y6:=cell_later V ap.out;have j1:=(HI.out.later I).c1;have d:=dV Z V;have aD:=I.size;clear x0 x1 x2 x3 x4 x5 x6 x7 aq ap Z U O ar V ai
   cases he:decide (0<x.step)
   ·have Y:Hid (lateK s (k+1)=lateK s k):=by have:=HX.out false (by rw[he];rfl);rw[if_neg (by simp)] at this;exact this
    clear he HX;go_wp2_with fail;go_roundw
    case rel=>exact⟨k+1,by omega,by go_num,by rw[Y.out];exact d,I⟩
    case measure=>simp[intOf];omega
   ·by_cases hc:x.ans≤s.clock-3
    ·have Y:Hid (lateK s (k+1)=lateK s k++[x.num]):=by have:=HX.out true (by rw[he,decide_eq_true hc];rfl);rw[if_pos rfl] at this;exact this
     clear he HX;generalize lateK s k=L at *;go_wp2_with (at_builtin;refine wpList_append_lies _ rfl (.tmp 29) (.tmp 32) 58 rfl W.heap.size 3 i0 (.int .i64 0) 1 8 Tryz.underlying58 hi aM aH aB rfl (by decide) _ _ _ rfl (d.alloc _) ⟨w3.heap.size,0,none⟩ 1 1 [.int .i64 x.num] rfl rfl (sg _ _ _) (by intro u hu;simp at hu;subst hu;rfl) (by decide) ?c3 ?c4 ?c5 _ rfl ?_)
     case c3=>unfold maxLen;omega
     case c4=>omega
     case c5=>simp;omega
     ·intro g au w4 aa ab _ aW;have B1:Below W.heap.size W w4:=(I.alloc aD _).grown ab (by simp;omega) (fun k' e=>(d.lt k' e).1)
      have al:w4.ownsRow W.heap.size 3 1 (.slice (some ⟨g,0,none⟩) (L.length+1) au) (L++[x.num]).length ((L++[x.num]).map (Value.int .i64)):=by simpa using aa
      clear aa ab d I y0 y6 j1;go_wp2_with fail;go_roundw
      case rel=>exact⟨k+1,by omega,by go_num,by rw[Y.out];exact al,B1⟩
      case measure=>simp[intOf];omega
    ·have Y:Hid (lateK s (k+1)=lateK s k):=by have:=HX.out false (by rw[he,decide_eq_false hc];rfl);rw[if_neg (by simp)] at this;exact this
     clear he HX;go_wp2_with fail;go_roundw
     case rel=>exact⟨k+1,by omega,by go_num,by rw[Y.out];exact d,I⟩
     case measure=>simp[intOf];omega
  ·obtain rfl:k=s.slots.length:=by omega
   have Y:Hid (lateK s s.slots.length=Px.late s):=by unfold Hid lateK Px.late;rw[List.take_length]
   rw[Y.out] at U;go_wp2_with fail;go_ret;exact⟨⟨_,rfl,fe U az⟩,HB.out.trans (O.mono HB.out.size)⟩
abbrev lnO (l:ByteArray) (bb cc:Nat→Nat) (ads:Option Addr) (caps:Nat):Obj:=.cells #[.bool (Txt.opn (pt l 0)),.slice (some ⟨bb 0,0,none⟩) (Txt.pcs 44 (pt l 0)).length (cc 0),.bool (Txt.opn (pt l 1)),.slice (some ⟨bb 1,0,none⟩) (Txt.pcs 44 (pt l 1)).length (cc 1),.bool (Txt.opn (pt l 2)),.slice (some ⟨bb 2,0,none⟩) (Txt.pcs 44 (pt l 2)).length (cc 2),.bool (Txt.opn (pt l 3)),.slice (some ⟨bb 3,0,none⟩) (Txt.pcs 44 (pt l 3)).length (cc 3),.bool (Txt.opn (pt l 4)),.slice (some ⟨bb 4,0,none⟩) (Txt.pcs 44 (pt l 4)).length (cc 4),.bool (obt (pt l 5) 0==120),.int .u8 (obt (pt l 5) 1),.int .i64 (obt (pt l 5) 2-48),.slice ads (stps l).length caps] 154
def onP (n:Int) (x:Px.Sl):Bool:=decide (x.line=n)&&decide (0<x.step)
def onK (l:List Px.Sl) (n:Int) (k:Nat):Nat:=((l.take k).filter (onP n)).length
theorem sD {l:List Px.Sl}{n:Int}{k:Nat} (h:k<l.length) (e:onP n l[k]=true):onK l n (k+1)=onK l n k+1:=by
 unfold onK;rw[List.take_succ_eq_append_getElem h,List.filter_append,List.filter_cons_of_pos e];simp
theorem ts {l:List Px.Sl}{n:Int}{k:Nat} (h:k<l.length) (e:onP n l[k]=false):onK l n (k+1)=onK l n k:=by
 unfold onK;rw[List.take_succ_eq_append_getElem h,List.filter_append,List.filter_cons_of_neg (by rw[e];simp)];simp
theorem sM (l:List Px.Sl) (n:Int) (k:Nat):onK l n k≤k:=by
 have:=List.length_filter_le (onP n) (l.take k);unfold onK;simp at this ⊢;omega
def runsOf (s:Px.St) (n:Int):Nat:=(s.slots.filter (onP n)).length
theorem mI (s:Px.St) (n:Int):(s.slots.any fun x=>decide (x.line=n)&&decide (0<x.step))=decide (0<runsOf s n):=by
 show s.slots.any (onP n)=_
 unfold runsOf;rw[Bool.eq_iff_iff,decide_eq_true_iff,List.any_eq_true,List.length_pos_iff_exists_mem]
 constructor
 ·rintro ⟨x,h1,h2⟩;exact⟨x,List.mem_filter.2 ⟨h1,h2⟩⟩
 ·rintro ⟨x,h⟩;exact⟨x,(List.mem_filter.1 h).1,(List.mem_filter.1 h).2⟩
set_option maxRecDepth 10000 in
set_option maxHeartbeats 0 in
theorem gL (s:Px.St) (n:Int) (sl en:Value) (w:World) (hl:s.slots.length≤10000) (hS:PAt w s sl en):
 Calls Tryz.prog 129 #[pstV s sl en,.int .i64 n] w fun e w'=>e=.returned (.int .i64 (runsOf s n:Nat))∧Below w.heap.size w w':=by
 obtain⟨ad,V,rfl,aF⟩:=hS.sl.form;obtain⟨Z,I,rfl,aB⟩:=hS.en.form;have HR:=Hq hS.sl.1;clear hS;have U:=dx w (pstO s (.slice ad s.slots.length V) (.slice Z s.ends.length I));have hI:=PIn.new w s (.slice ad s.slots.length V) (.slice Z s.ends.length I)
 go_enter Tryz.func129,Tryz.ntmps129
 go_upto_region 1 with fail;generalize w.alloc (pstO s (.slice ad s.slots.length V) (.slice Z s.ends.length I))=W at *;have HB:=Hq U;have aA:=Hq (HR.out.later U);have HI:=Hq hI;clear hI U HR;go_wp2_with fail
 go_loopw [5,6] (fun c i wr=>∃k:Nat,k≤s.slots.length∧i=.int .i64 k∧c=.int .i64 (onK s.slots n k:Nat)∧Below W.heap.size W wr) (fun _ i _=>s.slots.length-(intOf i).toNat)
 case atStart=>exact⟨0,Nat.zero_le _,rfl,rfl,Below.refl _ _⟩
 case round=>
  obtain⟨k,hk,rfl,rfl,d⟩:=hrel;have i3:=(HI.out.later d).c3;have ax:=d.size
  by_cases Y:k<s.slots.length
  ·obtain⟨b,aT,aN,hv,_,hc⟩:=(aA.out.later d).some' (by omega)
   cases hv
   obtain⟨d0,d1,d2,d3,d4,d5,d6,d7⟩:=ej hc k Y;clear hc;have b1:(0:Int)≤(k:Int):=by omega
   have b2:(k:Int)<(s.slots.length:Int):=by omega
   have aS:=sM s.slots n k;have Q:Hid (onP n s.slots[k]=true→onK s.slots n (k+1)=onK s.slots n k+1):=fun h=>sD Y h
   have G:Hid (onP n s.slots[k]=false→onK s.slots n (k+1)=onK s.slots n k):=fun h=>ts Y h
   generalize ag:s.slots[k]=x at d0 d1 d2 d3 d4 d5 d6 d7;rw[ag] at Q G;clear ag;generalize onK s.slots n k=r at *;have al:=PsIn.new wr x;have ah:=dx wr (psO x);go_upto_region 6 with fail;clear d0 d1 d2 d3 d4 d5 d6 d7 i3;generalize wr.alloc (psO x)=W3 at *;generalize wr.heap.size=q at *;have O:Below W.heap.size W W3:=d.trans (ah.mono ax);have ap:=O.size;obtain⟨x0,x1,x2,x3,x4,x5,x6,x7⟩:=al;clear d ah
   cases he:(x.line==n)
   ·have ae:¬x.line=n:=by simpa using he
    have J:Hid (onK s.slots n (k+1)=r):=G.out (by unfold onP;rw[decide_eq_false ae];rfl)
    clear ae Q G;go_wp2_with fail;go_roundw
    case rel=>exact⟨k+1,by omega,by go_num,by rw[J.out],O⟩
    case measure=>simp[intOf];omega
   ·have af:x.line=n:=by simpa using he
    have HQ:=Hq af;clear af;go_wp2_with fail;refine (ez x W3).mono ?_;rintro e w4 ⟨rfl,ab⟩;have ac:Below W.heap.size W w4:=O.trans (ab.mono ap);clear x0 x1 x2 x3 x4 x5 x6 x7 ab O
    cases hr:decide (0<x.step)
    ·have J:Hid (onK s.slots n (k+1)=r):=G.out (by unfold onP;rw[hr];simp)
     clear Q G hr;go_wp2_with fail;go_roundw
     case rel=>exact⟨k+1,by omega,by go_num,by rw[J.out],ac⟩
     case measure=>simp[intOf];omega
    ·have J:Hid (onK s.slots n (k+1)=r+1):=Q.out (by unfold onP;rw[hr,decide_eq_true HQ.out];rfl)
     clear Q G hr;go_wp2_with fail;go_roundw
     case rel=>exact⟨k+1,by omega,by go_num,by rw[J.out];go_num,ac⟩
     case measure=>simp[intOf];omega
  ·obtain rfl:k=s.slots.length:=by omega
   have J:Hid (onK s.slots n s.slots.length=runsOf s n):=by unfold Hid onK runsOf;rw[List.take_length]
   go_wp2_with fail;go_ret;exact⟨dS (by rw[J.out]),HB.out.trans (d.mono HB.out.size)⟩
theorem jM (s:Px.St) (n:Int):runsOf s n≤s.slots.length:=List.length_filter_le _ _
set_option maxRecDepth 10000 in
set_option maxHeartbeats 0 in
theorem lG (s:Px.St) (n:Int) (j:Nat) (sl en:Value) (w:World) (hn:n=(j:Int)+1) (hj:j<tn s.tab) (hl:s.slots.length≤10000) (hC:ChkR s.tab 0 0) (hT:TabLH w) (hS:PAt w s sl en):
 Calls Tryz.prog 98 #[pstV s sl en,.int .i64 n] w fun e w'=>e=.returned (.bool (Px.lockP s n))∧Below w.heap.size w w':=by
 obtain⟨ad,Z,rfl,aH⟩:=hS.sl.form;obtain⟨ab,I,rfl,aE⟩:=hS.en.form;have HS:=Hq hS;have HC:=Hq hC;have HN:=Hq hn;have aL:1≤n:=by omega
 have aD:Hid ((obt (pt (tl s.tab j) 5) 0==120)=(Px.opt s n 0==120)):=by
  unfold Hid Px.opt;rw[hn,show ((j:Int)+1-1).toNat=j by omega];rfl
 have d:=dx w (pstO s (.slice ad s.slots.length Z) (.slice ab s.ends.length I));have hI:=PIn.new w s (.slice ad s.slots.length Z) (.slice ab s.ends.length I);clear hS hC hn
 go_enter Tryz.func98,Tryz.ntmps98
 go_upto_region 1 with fail;generalize w.alloc (pstO s (.slice ad s.slots.length Z) (.slice ab s.ends.length I))=W at *;have HT:=Hq (hT.later d);have aa:=Hq (HS.out.later d);have HI:=Hq hI;obtain⟨i0,i1,i2,i3,i4⟩:=hI;have HB:=Hq d;have ax:=d.size;clear d hT HS;go_wp2_with fail;refine (gd s n j _ _ _ HN.out hj HC.out HT.out aa.out).mono ?_;rintro e w1 ⟨⟨v,rfl,bb,cc,V,G,rfl,_,_⟩,U⟩;clear i0 i1 i2 i3 i4;have J:(w1.alloc (lnO (tl s.tab j) bb cc V G)).cell? ⟨w1.heap.size,10,none⟩=some (.bool (obt (pt (tl s.tab j) 5) 0==120)):=by simp[go_sem]
 have O:Below W.heap.size W (w1.alloc (lnO (tl s.tab j) bb cc V G)):=U.alloc U.size _;rw[aD.out] at J;go_upto_region 2 with fail;generalize w1.alloc (lnO (tl s.tab j) bb cc V G)=W2 at *;generalize w1.heap.size=q1 at *;have am:=Hq (aa.out.later O);have ar:=Hq (HI.out.later O);have Y:=Hq (HB.out.trans (O.mono ax));clear U O aa HT HB HI
 cases Q:(Px.opt s n 0==120)
 ·have HF:Hid (Px.lockP s n=false):=by unfold Hid Px.lockP;rw[Q];rfl
  rw[Q] at J;clear Q;go_wp2_with fail;go_ret;exact⟨dz HF.out.symm,Y.out⟩
 ·have HO:Hid (Px.lockP s n=decide (0<runsOf s n)):=by unfold Hid Px.lockP;rw[Q,Bool.true_and];exact mI s n
  rw[Q] at J;clear Q;obtain⟨i0,i1,i2,i3,i4⟩:=ar.out;go_wp2_with fail;refine (gL s n _ _ _ hl am.out).mono ?_;rintro e w3 ⟨rfl,ae⟩;have aM:=jM s n;generalize runsOf s n=r at *;have HF:=Hq (Y.out.trans (ae.mono Y.out.size));clear ae J i0 i1 i2 i3 i4
  by_cases hr:0<r
  ·have z:(0:Int)<(r:Int):=by omega
   go_wp2_with fail;go_ret;exact⟨dz (by rw[HO.out,decide_eq_true hr]),HF.out⟩
  ·have z:¬(0:Int)<(r:Int):=by omega
   go_wp2_with fail;go_ret;exact⟨dz (by rw[HO.out,decide_eq_false hr]),HF.out⟩
abbrev pzO:Obj:=.cells #[.string {data:= #[]},.int .i64 0,.int .i64 0,.slice none 0 0,.slice none 0 0] 77
structure PRes (w W:World) (s:Px.St) (sl en:Value):Prop where
 st:PIn W w.heap.size s sl en
 z:ZCell W (w.heap.size+1) 5
 ty:Typed W (w.heap.size+1) 77
 bel:Below w.heap.size w W
 lt:w.heap.size+1<W.heap.size
theorem PRes.new (w:World) (s:Px.St) (sl en:Value):PRes w ((w.alloc (pstO s sl en)).alloc pzO) s sl en:=by
 have e:=ZCell.new (w.alloc (pstO s sl en)) #[.string {data:= #[]},.int .i64 0,.int .i64 0,.slice none 0 0,.slice none 0 0] 77;have d:=Typed.new (w.alloc (pstO s sl en)) #[.string {data:= #[]},.int .i64 0,.int .i64 0,.slice none 0 0,.slice none 0 0] 77;exact⟨(PIn.new w s sl en).later (dx _ _),by simpa using e,by simpa using d,(dx w _).alloc (by simp) _,by simp⟩
theorem PRes.later {w W W':World}{s:Px.St}{sl en:Value} (h:PRes w W s sl en) (hb:Below W.heap.size W W'):PRes w W' s sl en:=
 ⟨h.st.later hb,h.z.later h.lt hb,h.ty.later hb,h.bel.trans (hb.mono h.bel.size),Nat.lt_of_lt_of_le h.lt hb.size⟩
theorem dF {n q:Nat}{w e:World} (h:Below n w e) (d:n≤q) (O G I J Q:Value):Below n w (((((e.setCell ⟨q,0,none⟩ O).setCell ⟨q,1,none⟩ G).setCell ⟨q,2,none⟩ I).setCell ⟨q,3,none⟩ J).setCell ⟨q,4,none⟩ Q):=
 ((((h.setCell d _).setCell d _).setCell d _).setCell d _).setCell d _
theorem PAt.store {W:World}{q:Nat}{s:Px.St}{sl en:Value} (h:PAt W s sl en) (ty:Typed W q 77) (I d e G J:Value):
 PAt (((((W.setCell ⟨q,0,none⟩ I).setCell ⟨q,1,none⟩ d).setCell ⟨q,2,none⟩ e).setCell ⟨q,3,none⟩ G).setCell ⟨q,4,none⟩ J) s sl en:=by
 have st:∀(w:World) (j:Nat) (u:Value),(Typed w q 77∧PAt w s sl en)→(Typed (w.setCell ⟨q,j,none⟩ u) q 77∧PAt (w.setCell ⟨q,j,none⟩ u) s sl en):=fun w j u h=>⟨h.1.setCell _ _ _,h.2.set h.1 (by decide) (by decide) _ _⟩
 exact (st _ _ _ (st _ _ _ (st _ _ _ (st _ _ _ (st _ _ _ ⟨ty,h⟩))))).2
theorem PAt.nil (w:World):PAt w Px.st0 (.slice none 0 0) (.slice none 0 0):=⟨TRow.nil _ _,TRow.nil _ _⟩
def ChgR (p:Px.St×Int) (w':World) (e:Ending):Prop:=∃sl en,e=.returned (.tuple #[pstV p.1 sl en,.int .i64 p.2])∧PAt w' p.1 sl en
theorem ChgR.err {d:World}{p:Px.St×Int}{k:Int} (h:p=(Px.st0,k)):ChgR p d (.returned (.tuple #[.agg #[.string {data:= #[]},.int .i64 0,.int .i64 0,.slice none 0 0,.slice none 0 0],.int .i64 k])):=by
 subst h;exact⟨_,_,rfl,PAt.nil _⟩
structure PW (W:World) (q:Nat) (s:Px.St) (sl en:Value):Prop where
 st:PIn W q s sl en
 f:∀j:Nat,j<5→W.frozen? ⟨q,j,none⟩=false
 ty:Typed W q 77
theorem PW.new (w:World) (s:Px.St) (sl en:Value):PW (w.alloc (pstO s sl en)) w.heap.size s sl en:=
 ⟨PIn.new w s sl en,fun j _=>by simp[go_sem],Typed.new _ _ _⟩
theorem PW.below {W W':World}{q n:Nat}{s:Px.St}{sl en:Value} (h:PW W q s sl en) (d:q<n) (hb:Below n W W'):PW W' q s sl en:=
 ⟨h.st.below d hb,fun j e=>(hb.frozen (p:=⟨q,j,none⟩) d).trans (h.f j e),h.ty.below d hb⟩
theorem PW.later {W W':World}{q:Nat}{s:Px.St}{sl en:Value} (h:PW W q s sl en) (hb:Below W.heap.size W W'):PW W' q s sl en:=h.below h.ty.lt hb
theorem PW.slots {W:World}{q:Nat}{s:Px.St}{sl en:Value} (h:PW W q s sl en) (l:List Px.Sl) (v:Value):PW (W.setCell ⟨q,3,none⟩ v) q {s with slots:=l} v en:=by
 obtain⟨⟨c0,c1,c2,c3,c4⟩,f,ty⟩:=h;refine⟨⟨?_,?_,?_,?_,?_⟩,fun j d=>?_,ty.setCell _ _ _⟩
 case refine_6=>simp[go_sem,f j d]
 all_goals simp[go_sem,c0,c1,c2,c3,c4]
theorem PW.ends {W:World}{q:Nat}{s:Px.St}{sl en:Value} (h:PW W q s sl en) (l:List Bx.En) (v:Value):PW (W.setCell ⟨q,4,none⟩ v) q {s with ends:=l} sl v:=by
 obtain⟨⟨c0,c1,c2,c3,c4⟩,f,ty⟩:=h;refine⟨⟨?_,?_,?_,?_,?_⟩,fun j d=>?_,ty.setCell _ _ _⟩
 case refine_6=>simp[go_sem,f j d]
 all_goals simp[go_sem,c0,c1,c2,c3,c4]
theorem PW.next {W:World}{q:Nat}{s:Px.St}{sl en:Value} (h:PW W q s sl en) (k:Int):PW (W.setCell ⟨q,2,none⟩ (.int .i64 k)) q {s with next:=k} sl en:=by
 obtain⟨⟨c0,c1,c2,c3,c4⟩,f,ty⟩:=h;refine⟨⟨?_,?_,?_,?_,?_⟩,fun j d=>?_,ty.setCell _ _ _⟩
 case refine_6=>simp[go_sem,f j d]
 all_goals simp[go_sem,c0,c1,c2,c3,c4]
theorem PW.clock {W:World}{q:Nat}{s:Px.St}{sl en:Value} (h:PW W q s sl en) (k:Int):PW (W.setCell ⟨q,1,none⟩ (.int .i64 k)) q {s with clock:=k} sl en:=by
 obtain⟨⟨c0,c1,c2,c3,c4⟩,f,ty⟩:=h;refine⟨⟨?_,?_,?_,?_,?_⟩,fun j d=>?_,ty.setCell _ _ _⟩
 case refine_6=>simp[go_sem,f j d]
 all_goals simp[go_sem,c0,c1,c2,c3,c4]
theorem PW.tab {W:World}{q:Nat}{s:Px.St}{sl en:Value} (h:PW W q s sl en) (k:ByteArray):PW (W.setCell ⟨q,0,none⟩ (.string k)) q {s with tab:=k} sl en:=by
 obtain⟨⟨c0,c1,c2,c3,c4⟩,f,ty⟩:=h;refine⟨⟨?_,?_,?_,?_,?_⟩,fun j d=>?_,ty.setCell _ _ _⟩
 case refine_6=>simp[go_sem,f j d]
 all_goals simp[go_sem,c0,c1,c2,c3,c4]
theorem PRes.set {w W:World}{s:Px.St}{sl en:Value} (h:PRes w W s sl en) {q:Nat} (J:w.heap.size+1<q) (j:Nat) (u:Value):PRes w (W.setCell ⟨q,j,none⟩ u) s sl en:=by
 have d:∀(a i:Nat),a≤w.heap.size+1→(W.setCell ⟨q,j,none⟩ u).cell? ⟨a,i,none⟩=W.cell? ⟨a,i,none⟩:=fun a i I=>World.cell?_setCell_other _ _ _ _ (by first |(simp;done)|(simp;omega))
 obtain⟨c0,c1,c2,c3,c4⟩:=h.st;refine⟨⟨?_,?_,?_,?_,?_⟩,fun i hi=>⟨?_,?_⟩,h.ty.setCell _ _ _,h.bel.setCell (by first |(simp;done)|(simp;omega)) _,by have:=h.lt;simpa [World.setCell] using this⟩
 ·rw[d _ _ (by omega)];exact c0
 ·rw[d _ _ (by omega)];exact c1
 ·rw[d _ _ (by omega)];exact c2
 ·rw[d _ _ (by omega)];exact c3
 ·rw[d _ _ (by omega)];exact c4
 ·obtain⟨G,e⟩:=(h.z i hi).1;exact⟨G,by rw[d _ _ (by omega)];exact e⟩
 ·rw[World.frozen?_setCell];exact (h.z i hi).2
structure PEnd (w W:World) (q:Nat) (t:Px.St) (sl en:Value):Prop where
 pw:PW W q t sl en
 at':PAt W t sl en
 z:ZCell W (w.heap.size+1) 5
 ty:Typed W (w.heap.size+1) 77
 bel:Below w.heap.size w W
theorem PEnd.fin {w W:World}{q:Nat}{t:Px.St}{sl en:Value} (h:PEnd w W q t sl en) (I d e G J:Value):
 PAt (((((W.setCell ⟨w.heap.size+1,0,none⟩ I).setCell ⟨w.heap.size+1,1,none⟩ d).setCell ⟨w.heap.size+1,2,none⟩ e).setCell ⟨w.heap.size+1,3,none⟩ G).setCell ⟨w.heap.size+1,4,none⟩ J) t sl en∧
 Below w.heap.size w (((((W.setCell ⟨w.heap.size+1,0,none⟩ I).setCell ⟨w.heap.size+1,1,none⟩ d).setCell ⟨w.heap.size+1,2,none⟩ e).setCell ⟨w.heap.size+1,3,none⟩ G).setCell ⟨w.heap.size+1,4,none⟩ J):=
 ⟨h.at'.store h.ty _ _ _ _ _,dF h.bel (by omega) _ _ _ _ _⟩
set_option maxRecDepth 10000 in
set_option maxHeartbeats 0 in
theorem hJ (s:Px.St) (n:Int) (how:ByteArray) (sl en:Value) (w:World) (hl:s.slots.length≤10000) (he:s.ends.length≤10000) (hS:PAt w s sl en):
 Calls Tryz.prog 93 #[pstV s sl en,.int .i64 n,.string how] w fun e w'=>(∃ay aF,e=.returned (pstV (Px.ended s n how) ay aF)∧PAt w' (Px.ended s n how) ay aF)∧Below w.heap.size w w':=by
 obtain⟨ad,Q,rfl,aU⟩:=hS.sl.form;obtain⟨Z,G,rfl,aO⟩:=hS.en.form;have HS:=Hq hS;have hP:=PRes.new w s (.slice ad s.slots.length Q) (.slice Z s.ends.length G);clear hS
 go_enter Tryz.func93,Tryz.ntmps93
 go_upto_region 1 with fail;generalize (w.alloc (pstO s (.slice ad s.slots.length Q) (.slice Z s.ends.length G))).alloc pzO=W at *;have aE:PAt W s (.slice ad s.slots.length Q) (.slice Z s.ends.length G):=HS.out.later hP.bel;obtain⟨i0,i1,i2,i3,i4⟩:=hP.st;have ao:=hP.later (dx W (pstO s (.slice ad s.slots.length Q) (.slice Z s.ends.length G)));have aA:=aE.later (dx W (pstO s (.slice ad s.slots.length Q) (.slice Z s.ends.length G)));have hA:=PW.new W s (.slice ad s.slots.length Q) (.slice Z s.ends.length G);have aD:=hP.lt;go_upto_region 2 with fail;clear i0 i1 i2 i3 i4 hP aE;generalize W.alloc (pstO s (.slice ad s.slots.length Q) (.slice Z s.ends.length G))=W2 at *;generalize W.heap.size=q at *;have aI:=Hq ao;have ae:=Hq aA;have aC:=Hq hA;obtain⟨i0,i1,i2,i3,i4⟩:=ao.st;clear ao aA hA;go_wp2_with fail;refine (ko s.slots n _ _ hl ae.out.sl.1).mono ?_;rintro e w3 ⟨⟨v3,rfl,aa⟩,af⟩;clear i0 i1 i2 i3 i4;obtain⟨U,I,aL,_⟩:=(RowAt.of_own aa).form;subst aL;have Y:=aC.out.later af;have a3:=Y.st.c3;have f3:=Y.f 3 (by decide)
 have a2:=Y.ty.lt;have am:=(aI.out.later af).set aD 3 (.slice U (Px.skip s.slots n).length I);have aG:=Y.slots (Px.skip s.slots n) (.slice U (Px.skip s.slots n).length I);have ax:=(ae.out.later af).set Y.ty (by decide) (by decide) 3 (.slice U (Px.skip s.slots n).length I)
 have aB:=(TRow.of_own aa).set Y.ty (by decide) 3 (.slice U (Px.skip s.slots n).length I)
 clear Y aa af aI ae aC;go_upto_region 3 with fail;clear a3 f3;generalize w3.setCell ⟨q,3,none⟩ (.slice U (Px.skip s.slots n).length I)=W4 at *;obtain⟨i0,i1,i2,i3,i4⟩:=am.st;have ai:=Hq am;have ak:=Hq aG;have al:=Hq aB;have aq:=Hq ax;clear am aG aB ax;go_wp2_with fail;refine (gW s.ends ⟨n,how⟩ _ _ he aq.out.en.1).mono ?_;rintro e w5 ⟨⟨v5,rfl,ab⟩,ag⟩;clear i0 i1 i2 i3 i4;obtain⟨V,d,aN,_⟩:=(RowAt.of_own ab).form;subst aN;have O:=ak.out.later ag;have a4:=O.st.c4;have f4:=O.f 4 (by decide)
 have a5:=O.ty.lt;have J:=(ai.out.later ag).set aD 4 (.slice V (Bx.push s.ends ⟨n,how⟩).length d);have aw:PW _ q (Px.ended s n how) _ _:=O.ends (Bx.push s.ends ⟨n,how⟩) (.slice V (Bx.push s.ends ⟨n,how⟩).length d);have aH:=(al.out.later ag).set O.ty (by decide) 4 (.slice V (Bx.push s.ends ⟨n,how⟩).length d)
 have az:=(TRow.of_own ab).set O.ty (by decide) 4 (.slice V (Bx.push s.ends ⟨n,how⟩).length d)
 clear O ab ag ai ak al aq;go_upto_region 4 with fail;clear a4 f4;generalize w5.setCell ⟨q,4,none⟩ (.slice V (Bx.push s.ends ⟨n,how⟩).length d)=W6 at *;have HX:Hid (PEnd w W6 q (Px.ended s n how) (.slice U (Px.skip s.slots n).length I) (.slice V (Bx.push s.ends ⟨n,how⟩).length d)):=⟨aw,⟨aH,az⟩,J.z,J.ty,J.bel⟩;obtain⟨⟨⟨u0,r0⟩,f0⟩,⟨⟨u1,r1⟩,f1⟩,⟨⟨u2,r2⟩,f2⟩,⟨⟨u3,r3⟩,f3⟩,⟨⟨u4,r4⟩,f4⟩⟩:=And.intro (J.z 0 (by decide)) (And.intro (J.z 1 (by decide)) (And.intro (J.z 2 (by decide)) (And.intro (J.z 3 (by decide)) (J.z 4 (by decide)))))
 obtain⟨c0,c1,c2,c3,c4⟩:=aw.st;clear J aw aH az;go_wp2_with fail;refine bodyPost_ret (v:=pstV (Px.ended s n how) (.slice U (Px.skip s.slots n).length I) (.slice V (Bx.push s.ends ⟨n,how⟩).length d)) (by simp[results,Tryz.results93,go_sem,r0,r1,r2,r3,r4]) rfl ?_
 exact⟨⟨_,_,rfl,(HX.out.fin _ _ _ _ _).1⟩,(HX.out.fin _ _ _ _ _).2⟩
theorem PRes.five {w W:World}{s:Px.St}{sl en:Value} (h:PRes w W s sl en):
 ((∃u,W.cell? ⟨w.heap.size+1,0,none⟩=some u)∧W.frozen? ⟨w.heap.size+1,0,none⟩=false)∧((∃u,W.cell? ⟨w.heap.size+1,1,none⟩=some u)∧W.frozen? ⟨w.heap.size+1,1,none⟩=false)∧
 ((∃u,W.cell? ⟨w.heap.size+1,2,none⟩=some u)∧W.frozen? ⟨w.heap.size+1,2,none⟩=false)∧((∃u,W.cell? ⟨w.heap.size+1,3,none⟩=some u)∧W.frozen? ⟨w.heap.size+1,3,none⟩=false)∧
 ((∃u,W.cell? ⟨w.heap.size+1,4,none⟩=some u)∧W.frozen? ⟨w.heap.size+1,4,none⟩=false):=⟨h.z 0 (by decide),h.z 1 (by decide),h.z 2 (by decide),h.z 3 (by decide),h.z 4 (by decide)⟩
theorem ChgR.ok {d:World}{p:Px.St×Int}{t:Px.St}{sl en:Value} (h:p=(t,0)) (e:PAt d t sl en):ChgR p d (.returned (.tuple #[pstV t sl en,.int .i64 0])):=by
 subst h;exact⟨_,_,rfl,e⟩
set_option maxRecDepth 10000 in
set_option maxHeartbeats 0 in
theorem gR (s:Px.St) (n:Int) (sl en:Value) (w:World) (hl:s.slots.length≤10000) (he:s.ends.length≤10000) (hS:PAt w s sl en):
 Calls Tryz.prog 100 #[pstV s sl en,.int .i64 n] w fun e w'=>ChgR (Px.doneP s n) w' e∧Below w.heap.size w w':=by
 obtain⟨ad,ar,rfl,a5⟩:=hS.sl.form;obtain⟨aw,ah,rfl,aV⟩:=hS.en.form;have HS:=Hq hS;have hP:=PRes.new w s (.slice ad s.slots.length ar) (.slice aw s.ends.length ah);clear hS
 go_enter Tryz.func100,Tryz.ntmps100
 go_upto_region 1 with fail;generalize (w.alloc (pstO s (.slice ad s.slots.length ar) (.slice aw s.ends.length ah))).alloc pzO=W at *;have aj:=Hq (HS.out.later hP.bel);have HP:=Hq hP;obtain⟨i0,i1,i2,i3,i4⟩:=hP.st;clear hP;go_wp2_with fail;refine (fB s n _ _ _ hl aj.out).mono ?_;rintro e w1 ⟨hF,Q⟩;clear i0 i1 i2 i3 i4;have J:=HP.out.later Q;have af:=aj.out.later Q;clear HP aj Q
 rcases hF with ⟨x,hf,rfl⟩|⟨hf,rfl⟩
 rotate_left
 ·have HM:Hid (Px.doneP s n=(Px.st0,8)):=by unfold Hid Px.doneP;rw[hf]
  clear hf;generalize Px.sl0=x at *;have O:=J.later (dx w1 (psO x));clear J af;go_upto_region 2 with fail;generalize w1.alloc (psO x)=W2 at *;obtain⟨⟨⟨u0,r0⟩,f0⟩,⟨⟨u1,r1⟩,f1⟩,⟨⟨u2,r2⟩,f2⟩,⟨⟨u3,r3⟩,f3⟩,⟨⟨u4,Y⟩,f4⟩⟩:=O.five;have ac:Hid (Below w.heap.size w W2):=O.bel;clear O;go_wp2_with fail;refine bodyPost_ret (v:=.tuple #[.agg #[.string {data:= #[]},.int .i64 0,.int .i64 0,.slice none 0 0,.slice none 0 0],.int .i64 8]) (by simp[results,Tryz.results100,go_sem,r0,r1,r2,r3,Y]) rfl ⟨ChgR.err HM.out,dF ac.out (by omega) _ _ _ _ _⟩
 have ao:=Hq hf;have av:=J.later (dx w1 (psO x));have ap:=af.later (dx w1 (psO x));have au:=PsIn.new w1 x;have bj:w1.heap.size<(w1.alloc (psO x)).heap.size:=by simp
 have bh:w.heap.size+1<w1.heap.size:=J.lt;clear J af hf;go_upto_region 2 with fail;generalize w1.alloc (psO x)=W2 at *;generalize w1.heap.size=xq at *;have V:=Hq av;have ai:=Hq ap;have bf:=Hq au;obtain⟨x0,x1,x2,x3,x4,x5,x6,x7⟩:=au;clear av ap;go_wp2_with fail;refine (ez x W2).mono ?_;rintro e w3 ⟨rfl,U⟩;clear x0 x1 x2 x3 x4 x5 x6 x7;have d:=V.out.later U;have ag:=Hq (ai.out.later U);clear V ai U
 cases hr:decide (0<x.step)
 ·have HM:Hid (Px.doneP s n=(Px.st0,9)):=by unfold Hid Px.doneP;rw[ao.out];simp only;rw[if_pos (by have:=of_decide_eq_false hr;omega)]
  clear hr;obtain⟨⟨⟨u0,r0⟩,f0⟩,⟨⟨u1,r1⟩,f1⟩,⟨⟨u2,r2⟩,f2⟩,⟨⟨u3,r3⟩,f3⟩,⟨⟨u4,Y⟩,f4⟩⟩:=d.five;have ac:Hid (Below w.heap.size w w3):=d.bel;clear d;go_wp2_with fail;refine bodyPost_ret (v:=.tuple #[.agg #[.string {data:= #[]},.int .i64 0,.int .i64 0,.slice none 0 0,.slice none 0 0],.int .i64 9]) (by simp[results,Tryz.results100,go_sem,r0,r1,r2,r3,Y]) rfl ⟨ChgR.err HM.out,dF ac.out (by omega) _ _ _ _ _⟩
 ·have HM:Hid (Px.doneP s n=(Px.ended s n ⟨#[100]⟩,0)):=by unfold Hid Px.doneP;rw[ao.out];simp only;rw[if_neg (by have:=of_decide_eq_true hr;omega),rf]
  clear hr;obtain⟨i0,i1,i2,i3,i4⟩:=d.st;have Z:=Hq d;clear d;go_wp2_with fail;refine (hJ s n ⟨#[100]⟩ _ _ _ hl he ag.out).mono ?_;rintro e w4 ⟨⟨bg,bc,rfl,G⟩,aq⟩;clear i0 i1 i2 i3 i4;have I:=Z.out.later aq;obtain⟨aM,aD,aG,_⟩:=G.sl.form;obtain⟨aN,az,aQ,_⟩:=G.en.form;subst aG aQ;have H4:=Hq G;have aH:Hid (Typed w4 (w.heap.size+1) 77):=I.ty;have aR:Hid (Below w.heap.size w w4):=I.bel;obtain⟨⟨⟨u0,r0⟩,f0⟩,⟨⟨u1,r1⟩,f1⟩,⟨⟨u2,r2⟩,f2⟩,⟨⟨u3,r3⟩,f3⟩,⟨⟨u4,Y⟩,f4⟩⟩:=I.five;clear G aq I Z ag;go_wp2_with fail;refine bodyPost_ret (v:=.tuple #[pstV (Px.ended s n ⟨#[100]⟩) (.slice aM (Px.ended s n ⟨#[100]⟩).slots.length aD) (.slice aN (Px.ended s n ⟨#[100]⟩).ends.length az),.int .i64 0]) (by simp[results,Tryz.results100,go_sem,r0,r1,r2,r3,Y]) rfl ⟨ChgR.ok HM.out (H4.out.store aH.out _ _ _ _ _),dF aR.out (by omega) _ _ _ _ _⟩
def tabC (s:Px.St) (tab:ByteArray) (r:Int):Px.St×Int:=if r=0 then Px.tabP s tab else (Px.st0,r)
set_option maxRecDepth 10000 in
set_option maxHeartbeats 0 in
theorem iD (s:Px.St) (tab:ByteArray) (sl en:Value) (w:World) (hs:tab.size≤maxLen) (hT:TabLH w) (_hl:s.slots.length≤10000) (hS:PAt w s sl en):
 Calls Tryz.prog 44 #[pstV s sl en,.string tab] w fun e w'=>(∃a r:Int,ChkR tab a r∧ChgR (tabC s tab r) w' e)∧Below w.heap.size w w':=by
 obtain⟨V,G,rfl,aN⟩:=hS.sl.form;obtain⟨I,d,rfl,aI⟩:=hS.en.form;have HS:=Hq hS;have au:=Hq hs;have hP:=PRes.new w s (.slice V s.slots.length G) (.slice I s.ends.length d);clear hS hs
 go_enter Tryz.func44,Tryz.ntmps44
 go_upto_region 1 with fail;generalize (w.alloc (pstO s (.slice V s.slots.length G) (.slice I s.ends.length d))).alloc pzO=W at *;have O:=Hq (HS.out.later hP.bel);have HT:=Hq (hT.later hP.bel);have U:=Hq hP;clear hP hT;go_wp2_with fail;refine (gA _ _ au.out HT.out).mono ?_;rintro e w1 ⟨⟨a,r,ab,n',c,rfl,hK,_⟩,Z⟩;have HK:=Hq hK;have aG:=hK.bd;have g2:(w1.alloc (.cells #[.slice ab n' c,.int .i64 a,.int .i64 r] 134)).cell? ⟨w1.heap.size,2,none⟩=some (.int .i64 r):=by simp[go_sem]
 have Q:=(U.out.later Z).later (dx w1 (.cells #[.slice ab n' c,.int .i64 a,.int .i64 r] 134));have J:=(O.out.later Z).later (dx w1 (.cells #[.slice ab n' c,.int .i64 a,.int .i64 r] 134));have aU:w.heap.size+1<w1.heap.size:=(U.out.later Z).lt;clear hK U O HT Z;go_upto_region 2 with fail;generalize w1.alloc (.cells #[.slice ab n' c,.int .i64 a,.int .i64 r] 134)=W2 at *;generalize w1.heap.size=rq at *;have aT:rq<W2.heap.size:=World.block_lt_of_cell? _ _ g2
 by_cases hr:r=0
 rotate_left
 ·have aV:(r !=0)=true:=by simpa using hr
  have HM:Hid (tabC s tab r=(Px.st0,r)):=if_neg hr;obtain⟨⟨⟨u0,r0⟩,f0⟩,⟨⟨u1,r1⟩,f1⟩,⟨⟨u2,r2⟩,f2⟩,⟨⟨u3,r3⟩,f3⟩,⟨⟨u4,r4⟩,f4⟩⟩:=Q.five;have aa:Hid (Below w.heap.size w W2):=Q.bel;clear Q J hr;go_wp2_with fail
  go_region
  go_wp2_with fail;refine bodyPost_ret (v:=.tuple #[.agg #[.string {data:= #[]},.int .i64 0,.int .i64 0,.slice none 0 0,.slice none 0 0],.int .i64 r]) (by simp[results,Tryz.results44,go_sem,r0,r1,r2,r3,r4]) rfl ⟨⟨a,r,HK.out,ChgR.err HM.out⟩,?_⟩
  first |exact (dF aa.out (by omega) _ _ _ _ _).drew|exact dF aa.out.drew (by omega) _ _ _ _ _
 subst hr;have U:=Hq Q;have O:=Hq J;obtain⟨i0,i1,i2,i3,i4⟩:=Q.st;clear Q J aG
 by_cases h0:0<s.slots.length
 ·have HM:Hid (tabC s tab 0=(Px.st0,5)):=by unfold Hid tabC;rw[if_pos rfl];exact if_pos h0
  have ac:=U.out;clear U O;obtain⟨⟨⟨u0,r0⟩,f0⟩,⟨⟨u1,r1⟩,f1⟩,⟨⟨u2,r2⟩,f2⟩,⟨⟨u3,r3⟩,f3⟩,⟨⟨u4,r4⟩,f4⟩⟩:=ac.five;have aa:Hid (Below w.heap.size w W2):=ac.bel;clear ac;go_wp2_with fail;refine bodyPost_ret (v:=.tuple #[.agg #[.string {data:= #[]},.int .i64 0,.int .i64 0,.slice none 0 0,.slice none 0 0],.int .i64 5]) (by simp[results,Tryz.results44,go_sem,r0,r1,r2,r3,r4]) rfl ⟨⟨a,0,HK.out,ChgR.err HM.out⟩,dF aa.out (by omega) _ _ _ _ _⟩
 ·have HM:Hid (tabC s tab 0=({s with tab:=tab},0)):=by unfold Hid tabC;rw[if_pos rfl];exact if_neg h0
  have ao:=U.out.later (dx W2 (pstO s (.slice V s.slots.length G) (.slice I s.ends.length d)));have J:=O.out.later (dx W2 (pstO s (.slice V s.slots.length G) (.slice I s.ends.length d)));have hA:=PW.new W2 s (.slice V s.slots.length G) (.slice I s.ends.length d);have az:=U.out.lt;go_upto_region 7 with fail;clear i0 i1 i2 i3 i4 U O g2;generalize W2.alloc (pstO s (.slice V s.slots.length G) (.slice I s.ends.length d))=W3 at *;generalize W2.heap.size=q at *;have a0:=hA.st.c0;have aA:=hA.f 0 (by decide)
  have aS:=hA.ty.lt;have Y:=ao.set az 0 (.string tab);have aj:=hA.tab tab;have af:=J.set hA.ty (by decide) (by decide) 0 (.string tab)
  clear ao J hA;go_upto_region 8 with fail;clear a0 aA;generalize W3.setCell ⟨q,0,none⟩ (.string tab)=W4 at *;have HX:Hid (PEnd w W4 q {s with tab:=tab} (.slice V s.slots.length G) (.slice I s.ends.length d)):=⟨aj,⟨af.sl,af.en⟩,Y.z,Y.ty,Y.bel⟩;obtain⟨⟨⟨u0,r0⟩,f0⟩,⟨⟨u1,r1⟩,f1⟩,⟨⟨u2,r2⟩,f2⟩,⟨⟨u3,r3⟩,f3⟩,⟨⟨u4,r4⟩,f4⟩⟩:=Y.five;obtain⟨c0,c1,c2,c3,c4⟩:=aj.st;clear Y aj af;go_wp2_with fail;refine bodyPost_ret (v:=.tuple #[pstV {s with tab:=tab} (.slice V s.slots.length G) (.slice I s.ends.length d),.int .i64 0]) (by simp[results,Tryz.results44,go_sem,r0,r1,r2,r3,r4]) rfl ⟨⟨a,0,HK.out,ChgR.ok HM.out (HX.out.fin _ _ _ _ _).1⟩,(HX.out.fin _ _ _ _ _).2⟩
abbrev pbO (b:Px.Bo) (sl en:Value):Obj:=.cells #[.int .i64 b.limit,.int .i64 b.room,.string b.st.tab,.int .i64 b.st.clock,.int .i64 b.st.next,sl,en,.string b.log] 79
structure PB (w:World) (B:Nat) (b:Px.Bo) (sl en:Value):Prop where
 c0:w.cell? ⟨B,0,none⟩=some (.int .i64 b.limit)
 c1:w.cell? ⟨B,1,none⟩=some (.int .i64 b.room)
 c2:w.cell? ⟨B,2,none⟩=some (.string b.st.tab)
 c3:w.cell? ⟨B,3,none⟩=some (.int .i64 b.st.clock)
 c4:w.cell? ⟨B,4,none⟩=some (.int .i64 b.st.next)
 c5:w.cell? ⟨B,5,none⟩=some sl
 c6:w.cell? ⟨B,6,none⟩=some en
 c7:w.cell? ⟨B,7,none⟩=some (.string b.log)
 f:∀j:Nat,j<8→w.frozen? ⟨B,j,none⟩=false
 ty:Typed w B 79
 rows:PAt w b.st sl en
theorem PB.later {w d:World}{B:Nat}{b:Px.Bo}{sl en:Value} (h:PB w B b sl en) (hb:Below w.heap.size w d):PB d B b sl en:=
 ⟨cell_later hb h.c0,cell_later hb h.c1,cell_later hb h.c2,cell_later hb h.c3,cell_later hb h.c4,cell_later hb h.c5,cell_later hb h.c6,cell_later hb h.c7,
  fun j e=>(hb.frozen (p:=⟨B,j,none⟩) h.ty.lt).trans (h.f j e),h.ty.later hb,h.rows.later hb⟩
theorem PB.new (w:World) (l r:Int):PB (w.alloc (pbO ⟨l,r,Px.first,ByteArray.empty⟩ (.slice none 0 0) (.slice none 0 0))) w.heap.size ⟨l,r,Px.first,ByteArray.empty⟩ (.slice none 0 0) (.slice none 0 0):=by
 refine⟨?_,?_,?_,?_,?_,?_,?_,?_,fun j _=>?_,Typed.new _ _ _,⟨TRow.nil _ _,TRow.nil _ _⟩⟩
 all_goals simp[go_sem]
theorem PB.put {w:World}{B:Nat}{b:Px.Bo}{sl en:Value} (h:PB w B b sl en) (t:Px.St) (e d:Value) (log:ByteArray) (I:PAt w t e d):
 PB ((((((w.setCell ⟨B,2,none⟩ (.string t.tab)).setCell ⟨B,3,none⟩ (.int .i64 t.clock)).setCell ⟨B,4,none⟩ (.int .i64 t.next)).setCell ⟨B,5,none⟩ e).setCell ⟨B,6,none⟩ d).setCell ⟨B,7,none⟩ (.string log)) B {b with st:=t,log:=log} e d:=by
 obtain⟨c0,c1,c2,c3,c4,c5,c6,c7,f,ty,_⟩:=h;have st:∀(w:World) (j:Nat) (x:Value),(Typed w B 79∧PAt w t e d)→(Typed (w.setCell ⟨B,j,none⟩ x) B 79∧PAt (w.setCell ⟨B,j,none⟩ x) t e d):=fun w j x h=>⟨h.1.setCell _ _ _,h.2.set h.1 (by decide) (by decide) _ _⟩
 have G:=st _ 7 (.string log) (st _ 6 d (st _ 5 e (st _ 4 (.int .i64 t.next) (st _ 3 (.int .i64 t.clock) (st _ 2 (.string t.tab) ⟨ty,I⟩)))));refine⟨?_,?_,?_,?_,?_,?_,?_,?_,fun j J=>?_,G.1,G.2⟩
 case refine_9=>simp[go_sem,f j J]
 all_goals simp[go_sem,c0,c1,c2,c3,c4,c5,c6,c7]
set_option maxHeartbeats 0 in
theorem iW (w:World):Calls Tryz.prog 42 #[] w fun e d=>e=.returned (pstV Px.first (.slice none 0 0) (.slice none 0 0))∧Below w.heap.size w d:=by
 go_enter Tryz.func42,Tryz.ntmps42
 go_wp2_with fail;refine bodyPost_ret (v:=pstV Px.first (.slice none 0 0) (.slice none 0 0)) (by simp[results,Tryz.results42,go_sem,Px.first];rfl) rfl ⟨rfl,dx _ _⟩
set_option maxHeartbeats 0 in
theorem sx (l r:Int) (w:World) (h:mayB l r=false):Calls Tryz.prog 20 #[.int .i64 l,.int .i64 r] w fun e d=>e=.returned (.tuple #[.pointer none,.int .i64 4])∧d=w:=by
 have J:¬(1≤l∧l≤4∧600≤r∧r≤4000):=of_decide_eq_false h
 by_cases h1:l<1
 ·go_enter Tryz.func20,Tryz.ntmps20
  go_wp2_with fail;go_ret2;exact⟨rfl,rfl⟩
 by_cases h2:4<l
 ·go_enter Tryz.func20,Tryz.ntmps20
  go_wp2_with fail;go_ret2;exact⟨rfl,rfl⟩
 by_cases I:r<600
 ·go_enter Tryz.func20,Tryz.ntmps20
  go_wp2_with fail;go_ret2;exact⟨rfl,rfl⟩
 have G:4000<r:=by omega
 go_enter Tryz.func20,Tryz.ntmps20
 go_wp2_with fail;go_ret2;exact⟨rfl,rfl⟩
set_option maxHeartbeats 0 in
theorem kg (l r:Int) (w:World) (h:mayB l r=true):Calls Tryz.prog 20 #[.int .i64 l,.int .i64 r] w fun e J=>(∃B,e=.returned (.tuple #[.pointer (some ⟨B,0,none⟩),.int .i64 0])∧w.heap.size≤B∧PB J B ⟨l,r,Px.first,ByteArray.empty⟩ (.slice none 0 0) (.slice none 0 0))∧Below w.heap.size w J:=by
 obtain⟨h1,h2,O,Q⟩:1≤l∧l≤4∧600≤r∧r≤4000:=of_decide_eq_true h;clear h
 go_enter Tryz.func20,Tryz.ntmps20
 go_wp2_with fail;refine (iW w).mono ?_;rintro e w1 ⟨rfl,d⟩;have hB:Hid (PB (w1.alloc (pbO ⟨l,r,Px.first,ByteArray.empty⟩ (.slice none 0 0) (.slice none 0 0))) w1.heap.size ⟨l,r,Px.first,ByteArray.empty⟩ (.slice none 0 0) (.slice none 0 0)):=PB.new w1 l r
 have G:Hid (∀o,Below w.heap.size w (w1.alloc o)):=fun o=>d.alloc d.size o
 have I:w.heap.size≤w1.heap.size:=d.size;clear d;go_wp2_with fail;go_ret2;exact⟨⟨w1.heap.size,rfl,I,hB.out⟩,G.out _⟩
inductive CommitR (b:Px.Bo) (B:Nat) (t:Px.St) (fr:ByteArray) (slt ent:Value) (w:World):Ending→World→Prop
 | no (w':World) (h:b.room<(b.log.size:Int)+fr.size) (hb:Below w.heap.size w w'):CommitR b B t fr slt ent w (.returned (.int .i64 13)) w'
 | yes (w':World) (h:¬b.room<(b.log.size:Int)+fr.size) (hB:PB w' B {b with st:=t,log:=b.log++fr} slt ent) (hg:w.grownBy w' (some B)):CommitR b B t fr slt ent w (.returned (.int .i64 0)) w'
set_option maxRecDepth 10000 in
set_option maxHeartbeats 0 in
theorem fm (b:Px.Bo) (B:Nat) (t:Px.St) (fr:ByteArray) (sl en aa Z:Value) (w:World) (hl:b.log.size≤100000) (hf:fr.size≤100000) (hB:PB w B b sl en) (ht:PAt w t aa Z):
 Calls Tryz.prog 46 #[.pointer (some ⟨B,0,none⟩),pstV t aa Z,.string fr] w fun e w'=>CommitR b B t fr aa Z w e w':=by
 obtain⟨V,J,rfl,aI⟩:=ht.sl.form;obtain⟨Q,I,rfl,aF⟩:=ht.en.form;have U:=dx w (pstO t (.slice V t.slots.length J) (.slice Q t.ends.length I));have hI:=PIn.new w t (.slice V t.slots.length J) (.slice Q t.ends.length I);have d:=hB.later U;have ae:=ht.later U;clear hB ht
 go_enter Tryz.func46,Tryz.ntmps46
 go_upto_region 1 with fail;generalize w.alloc (pstO t (.slice V t.slots.length J) (.slice Q t.ends.length I))=W at *;have aB:=Hq d;have ap:=Hq ae;have Y:=Hq U;have aL:=d.ty.lt;have e0:=d.c0;have e1:=d.c1;have e2:=d.c2;have e3:=d.c3;have e4:=d.c4;have e5:=d.c5;have e6:=d.c6;have e7:=d.c7;obtain⟨i0,i1,i2,i3,i4⟩:=hI;have g2:=d.f 2 (by decide);have g3:=d.f 3 (by decide);have g4:=d.f 4 (by decide);have g5:=d.f 5 (by decide);have g6:=d.f 6 (by decide);have g7:=d.f 7 (by decide)
 have z0:¬9223372036854775807<b.log.size+fr.size:=by omega
 clear d ae U
 by_cases hr:b.room<(b.log.size:Int)+(fr.size:Int)
 ·have hd:decide (b.room<(b.log.size:Int)+(fr.size:Int))=true:=decide_eq_true hr;go_wp2_with fail
  go_quiet (fail)
  go_wp2_with fail;go_ret;exact CommitR.no _ hr (below_drewN Y.out _)
 ·have hd:decide (b.room<(b.log.size:Int)+(fr.size:Int))=false:=decide_eq_false hr;go_wp2_with fail
  go_quiet (fail)
  have O:Below W.heap.size W (W.drewN nq):=below_drewN (Below.refl _ _) nq;have G:=aB.out.later O;have ac:=ap.out.later O;have ar:Hid (w.grownBy (W.drewN nq) (some B)):=dy (Y.out.trans (O.mono Y.out.size)) _;obtain⟨j0,j1,j2,j3,j4⟩:PIn (W.drewN nq) w.heap.size t (.slice V t.slots.length J) (.slice Q t.ends.length I):=(⟨i0,i1,i2,i3,i4⟩:PIn W w.heap.size t _ _).later O;have aH:=G.ty.lt;clear i0 i1 i2 i3 i4 e0 e1 e2 e3 e4 e5 e6 e7 g2 g3 g4 g5 g6 g7;generalize W.drewN nq=W2 at *;have e0:=G.c0;have e1:=G.c1;have e2:=G.c2;have e3:=G.c3;have e4:=G.c4;have e5:=G.c5;have e6:=G.c6;have e7:=G.c7;have g2:=G.f 2 (by decide);have g3:=G.f 3 (by decide);have g4:=G.f 4 (by decide);have g5:=G.f 5 (by decide);have g6:=G.f 6 (by decide);have g7:=G.f 7 (by decide)
  have HF:Hid (PB _ B {b with st:=t,log:=b.log++fr} (.slice V t.slots.length J) (.slice Q t.ends.length I)):=G.put t _ _ (b.log++fr) ac;clear G ac O;go_wp2_with fail;go_ret;exact CommitR.yes _ (by omega) HF.out (dJ (dJ (dJ (dJ (dJ (dJ ar.out _ _) _ _) _ _) _ _) _ _) _ _)
abbrev pviewV (s:Px.St):Value:=.agg #[.int .i64 s.clock,.int .i64 s.next,.int .i64 s.slots.length,.int .i64 s.ends.length,.string s.tab]
set_option maxHeartbeats 0 in
theorem nI (s:Px.St) (sl en:Value) (w:World) (hS:PAt w s sl en):
 Calls Tryz.prog 52 #[pstV s sl en] w fun e J=>e=.returned (pviewV s)∧Below w.heap.size w J:=by
 obtain⟨U,O,rfl,I⟩:=hS.sl.form;obtain⟨Q,G,rfl,d⟩:=hS.en.form;clear hS
 go_enter Tryz.func52,Tryz.ntmps52
 go_wp2_with fail;refine bodyPost_ret (v:=pviewV s) (by simp[results,Tryz.results52,go_sem]) rfl ⟨rfl,(dx w _).alloc (by simp) _⟩
set_option maxHeartbeats 0 in
theorem oK (b:Px.Bo) (B:Nat) (sl en:Value) (w:World) (hB:PB w B b sl en):
 Calls Tryz.prog 23 #[.pointer (some ⟨B,0,none⟩)] w fun e w'=>e=.returned (pviewV b.st)∧Below w.heap.size w w':=by
 obtain⟨ad,al,rfl,aa⟩:=hB.rows.sl.form;obtain⟨ao,ae,rfl,U⟩:=hB.rows.en.form;have I:=dx w (.cells #[.int .i64 0,.int .i64 0,.int .i64 0,.int .i64 0,.string {data:= #[]}] 36);have d:=hB.later I;have Q:=ZCell.new w #[.int .i64 0,.int .i64 0,.int .i64 0,.int .i64 0,.string {data:= #[]}] 36;have O:w.heap.size<(w.alloc (.cells #[.int .i64 0,.int .i64 0,.int .i64 0,.int .i64 0,.string {data:= #[]}] 36)).heap.size:=by simp
 clear hB
 go_enter Tryz.func23,Tryz.ntmps23
 go_upto_region 1 with fail;generalize w.alloc (.cells #[.int .i64 0,.int .i64 0,.int .i64 0,.int .i64 0,.string {data:= #[]}] 36)=W at *;have am:=d.ty.lt;have e2:=d.c2;have Z:=d.c3;have e4:=d.c4;have e5:=d.c5;have Y:=d.c6;have HR:=Hq d.rows;clear d;go_wp2_with fail;refine (nI b.st _ _ _ HR.out).mono ?_;rintro e w1 ⟨rfl,J⟩;have G:ZCell w1 w.heap.size 5:=ZCell.later Q O J;have HB:=Hq (I.trans (J.mono I.size));obtain⟨⟨u0,r0⟩,f0⟩:=G 0 (by decide)
 obtain⟨⟨u1,r1⟩,f1⟩:=G 1 (by decide)
 obtain⟨⟨u2,r2⟩,f2⟩:=G 2 (by decide)
 obtain⟨⟨u3,r3⟩,f3⟩:=G 3 (by decide)
 obtain⟨⟨u4,V⟩,f4⟩:=G 4 (by decide)
 clear G Q J I e2 Z e4 e5 Y;go_wp2_with fail;refine bodyPost_ret (v:=pviewV b.st) (by simp[results,Tryz.results23,go_sem,r0,r1,r2,r3,V]) rfl ⟨rfl,dF HB.out (Nat.le_refl _) _ _ _ _ _⟩
abbrev paslV (x:Px.Sl):Value:=.agg #[.int .i64 x.num,.int .i64 x.line,.int .i64 x.minute,.int .i64 x.att,.int .i64 x.frm,.int .i64 x.step]
abbrev paslZ:Value:=.agg #[.int .i64 0,.int .i64 0,.int .i64 0,.int .i64 0,.int .i64 0,.int .i64 0]
theorem fj {n q:Nat}{w e:World} (h:Below n w e) (d:n≤q) (O G I J Q U:Value):Below n w ((((((e.setCell ⟨q,0,none⟩ O).setCell ⟨q,1,none⟩ G).setCell ⟨q,2,none⟩ I).setCell ⟨q,3,none⟩ J).setCell ⟨q,4,none⟩ Q).setCell ⟨q,5,none⟩ U):=
 (((((h.setCell d _).setCell d _).setCell d _).setCell d _).setCell d _).setCell d _
inductive SlotR (l:List Px.Sl) (i:Int):Ending→Prop
 | no (h:i<0∨(l.length:Int)≤i):SlotR l i (.returned (.tuple #[paslZ,.int .i64 4]))
 | yes (k:Nat) (hk:k<l.length) (h:i=(k:Int)):SlotR l i (.returned (.tuple #[paslV l[k],.int .i64 0]))
inductive EndR (l:List Bx.En) (i:Int):Ending→Prop
 | no (h:i<0∨(l.length:Int)≤i):EndR l i (.returned (.tuple #[.agg #[.int .i64 0,.string {data:= #[]}],.int .i64 4]))
 | yes (k:Nat) (hk:k<l.length) (h:i=(k:Int)):EndR l i (.returned (.tuple #[.agg #[.int .i64 l[k].num,.string l[k].how],.int .i64 0]))
theorem EndR.yes' {l:List Bx.En}{i:Int}{k:Nat}{x:Bx.En} (d:k<l.length) (h:i=(k:Int)) (e:l[k]=x):EndR l i (.returned (.tuple #[.agg #[.int .i64 x.num,.string x.how],.int .i64 0])):=by subst e;exact EndR.yes k d h
theorem SlotR.yes' {l:List Px.Sl}{i:Int}{k:Nat}{x:Px.Sl} (d:k<l.length) (h:i=(k:Int)) (e:l[k]=x):SlotR l i (.returned (.tuple #[paslV x,.int .i64 0])):=by subst e;exact SlotR.yes k d h
set_option maxRecDepth 10000 in
set_option maxHeartbeats 0 in
theorem nA (s:Px.St) (i:Int) (sl en:Value) (w:World) (hl:s.slots.length≤10000) (hS:PAt w s sl en):
 Calls Tryz.prog 61 #[pstV s sl en,.int .i64 i] w fun e w'=>SlotR s.slots i e∧Below w.heap.size w w':=by
 obtain⟨Q,J,rfl,aL⟩:=hS.sl.form;obtain⟨O,G,rfl,aH⟩:=hS.en.form;have HR:=Hq hS.sl.1;have Y:=(dx w (pstO s (.slice Q s.slots.length J) (.slice O s.ends.length G))).alloc (by simp) (.cells #[.int .i64 0,.int .i64 0,.int .i64 0,.int .i64 0,.int .i64 0,.int .i64 0] 81)
 have hI:=(PIn.new w s (.slice Q s.slots.length J) (.slice O s.ends.length G)).later (dx _ (.cells #[.int .i64 0,.int .i64 0,.int .i64 0,.int .i64 0,.int .i64 0,.int .i64 0] 81));have hZ:=ZCell.new (w.alloc (pstO s (.slice Q s.slots.length J) (.slice O s.ends.length G))) #[.int .i64 0,.int .i64 0,.int .i64 0,.int .i64 0,.int .i64 0,.int .i64 0] 81;have d:ZCell ((w.alloc (pstO s (.slice Q s.slots.length J) (.slice O s.ends.length G))).alloc (.cells #[.int .i64 0,.int .i64 0,.int .i64 0,.int .i64 0,.int .i64 0,.int .i64 0] 81)) (w.heap.size+1) 6:=by simpa using hZ
 have hq:w.heap.size+1<((w.alloc (pstO s (.slice Q s.slots.length J) (.slice O s.ends.length G))).alloc (.cells #[.int .i64 0,.int .i64 0,.int .i64 0,.int .i64 0,.int .i64 0,.int .i64 0] 81)).heap.size:=by simp
 clear hS hZ
 go_enter Tryz.func61,Tryz.ntmps61
 go_upto_region 1 with fail;generalize (w.alloc (pstO s (.slice Q s.slots.length J) (.slice O s.ends.length G))).alloc (.cells #[.int .i64 0,.int .i64 0,.int .i64 0,.int .i64 0,.int .i64 0,.int .i64 0] 81)=W at *;have HB:=Hq Y;have aE:=Hq (HR.out.later Y);have i3:=hI.c3;clear hI Y HR
 by_cases h0:i<0
 ·obtain⟨⟨u0,r0⟩,f0⟩:=d 0 (by decide)
  obtain⟨⟨u1,r1⟩,f1⟩:=d 1 (by decide)
  obtain⟨⟨u2,r2⟩,f2⟩:=d 2 (by decide)
  obtain⟨⟨u3,r3⟩,f3⟩:=d 3 (by decide)
  obtain⟨⟨u4,V⟩,f4⟩:=d 4 (by decide)
  obtain⟨⟨u5,Z⟩,f5⟩:=d 5 (by decide)
  clear d;go_wp2_with fail;refine bodyPost_ret (v:=.tuple #[paslZ,.int .i64 4]) (by simp[results,Tryz.results61,go_sem,r0,r1,r2,r3,V,Z]) rfl ⟨SlotR.no (Or.inl h0),fj HB.out (by omega) _ _ _ _ _ _⟩
 by_cases h1:(s.slots.length:Int)≤i
 ·obtain⟨⟨u0,r0⟩,f0⟩:=d 0 (by decide)
  obtain⟨⟨u1,r1⟩,f1⟩:=d 1 (by decide)
  obtain⟨⟨u2,r2⟩,f2⟩:=d 2 (by decide)
  obtain⟨⟨u3,r3⟩,f3⟩:=d 3 (by decide)
  obtain⟨⟨u4,V⟩,f4⟩:=d 4 (by decide)
  obtain⟨⟨u5,Z⟩,f5⟩:=d 5 (by decide)
  clear d;go_wp2_with fail;refine bodyPost_ret (v:=.tuple #[paslZ,.int .i64 4]) (by simp[results,Tryz.results61,go_sem,r0,r1,r2,r3,V,Z]) rfl ⟨SlotR.no (Or.inr h1),fj HB.out (by omega) _ _ _ _ _ _⟩
 obtain⟨k,rfl⟩:∃k:Nat,i=(k:Int):=⟨i.toNat,by omega⟩
 have ag:k<s.slots.length:=by omega
 obtain⟨b,aX,aT,hv,_,hc⟩:=aE.out.some' (by omega)
 cases hv
 obtain⟨d0,d1,d2,d3,d4,d5,d6,d7⟩:=ej hc k ag;have ae:Hid (∃x,s.slots[k]=x):=⟨_,rfl⟩;obtain⟨x,hx⟩:=ae.out;have HX:=Hq hx;rw[hx] at d0 d1 d2 d3 d4 d5 d6 d7;have b1:(0:Int)≤(k:Int):=by omega
 have b2:(k:Int)<(s.slots.length:Int):=by omega
 have ao:=PsIn.new W x;have ah:=dx W (psO x);have U:=d.later hq ah;have af:Hid (Below w.heap.size w (W.alloc (psO x))):=HB.out.alloc HB.out.size _;clear hc hx ae;go_upto_region 4 with fail;clear d0 d1 d2 d3 d4 d5 d6 d7 i3;generalize W.alloc (psO x)=W2 at *;generalize W.heap.size=xq at *;obtain⟨x0,x1,x2,x3,x4,x5,x6,x7⟩:=ao;have y0:(W2.alloc (.cells #[.int .i64 x.num,.int .i64 x.line,.int .i64 x.minute,.int .i64 x.att,.int .i64 x.frm,.int .i64 x.step] 81)).cell? ⟨W2.heap.size,0,none⟩=some (.int .i64 x.num):=by simp[go_sem]
 have y1:(W2.alloc (.cells #[.int .i64 x.num,.int .i64 x.line,.int .i64 x.minute,.int .i64 x.att,.int .i64 x.frm,.int .i64 x.step] 81)).cell? ⟨W2.heap.size,1,none⟩=some (.int .i64 x.line):=by simp[go_sem]
 have y2:(W2.alloc (.cells #[.int .i64 x.num,.int .i64 x.line,.int .i64 x.minute,.int .i64 x.att,.int .i64 x.frm,.int .i64 x.step] 81)).cell? ⟨W2.heap.size,2,none⟩=some (.int .i64 x.minute):=by simp[go_sem]
 have y3:(W2.alloc (.cells #[.int .i64 x.num,.int .i64 x.line,.int .i64 x.minute,.int .i64 x.att,.int .i64 x.frm,.int .i64 x.step] 81)).cell? ⟨W2.heap.size,3,none⟩=some (.int .i64 x.att):=by simp[go_sem]
 have y4:(W2.alloc (.cells #[.int .i64 x.num,.int .i64 x.line,.int .i64 x.minute,.int .i64 x.att,.int .i64 x.frm,.int .i64 x.step] 81)).cell? ⟨W2.heap.size,4,none⟩=some (.int .i64 x.frm):=by simp[go_sem]
 have y5:(W2.alloc (.cells #[.int .i64 x.num,.int .i64 x.line,.int .i64 x.minute,.int .i64 x.att,.int .i64 x.frm,.int .i64 x.step] 81)).cell? ⟨W2.heap.size,5,none⟩=some (.int .i64 x.step):=by simp[go_sem]
 have I:=U.later (World.block_lt_of_cell? _ _ (U 0 (by decide)).1.choose_spec) (dx W2 (.cells #[.int .i64 x.num,.int .i64 x.line,.int .i64 x.minute,.int .i64 x.att,.int .i64 x.frm,.int .i64 x.step] 81))
 have au:Hid (Below w.heap.size w (W2.alloc (.cells #[.int .i64 x.num,.int .i64 x.line,.int .i64 x.minute,.int .i64 x.att,.int .i64 x.frm,.int .i64 x.step] 81))):=af.out.alloc af.out.size _;clear d U ah;go_upto_region 5 with fail;clear x0 x1 x2 x3 x4 x5 x6 x7;generalize W2.alloc (.cells #[.int .i64 x.num,.int .i64 x.line,.int .i64 x.minute,.int .i64 x.att,.int .i64 x.frm,.int .i64 x.step] 81)=W3 at *;generalize W2.heap.size=yq at *;obtain⟨⟨u0,r0⟩,f0⟩:=I 0 (by decide)
 obtain⟨⟨u1,r1⟩,f1⟩:=I 1 (by decide)
 obtain⟨⟨u2,r2⟩,f2⟩:=I 2 (by decide)
 obtain⟨⟨u3,r3⟩,f3⟩:=I 3 (by decide)
 obtain⟨⟨u4,V⟩,f4⟩:=I 4 (by decide)
 obtain⟨⟨u5,Z⟩,f5⟩:=I 5 (by decide)
 clear I;go_wp2_with fail;refine bodyPost_ret (v:=.tuple #[paslV x,.int .i64 0]) (by simp[results,Tryz.results61,go_sem,r0,r1,r2,r3,V,Z]) rfl ⟨SlotR.yes' ag rfl HX.out,fj au.out (by omega) _ _ _ _ _ _⟩
set_option maxRecDepth 10000 in
set_option maxHeartbeats 0 in
theorem qN (s:Px.St) (i:Int) (sl en:Value) (w:World) (hl:s.ends.length≤10000) (hS:PAt w s sl en):
 Calls Tryz.prog 62 #[pstV s sl en,.int .i64 i] w fun e w'=>EndR s.ends i e∧Below w.heap.size w w':=by
 obtain⟨Q,G,rfl,ai⟩:=hS.sl.form;obtain⟨I,d,rfl,ah⟩:=hS.en.form;have HR:=Hq hS.en.1;have J:=(dx w (pstO s (.slice Q s.slots.length G) (.slice I s.ends.length d))).alloc (by simp) (.cells #[.int .i64 0,.string {data:= #[]}] 85)
 have hI:=(PIn.new w s (.slice Q s.slots.length G) (.slice I s.ends.length d)).later (dx _ (.cells #[.int .i64 0,.string {data:= #[]}] 85));have hZ:=ZCell.new (w.alloc (pstO s (.slice Q s.slots.length G) (.slice I s.ends.length d))) #[.int .i64 0,.string {data:= #[]}] 85;have O:ZCell ((w.alloc (pstO s (.slice Q s.slots.length G) (.slice I s.ends.length d))).alloc (.cells #[.int .i64 0,.string {data:= #[]}] 85)) (w.heap.size+1) 2:=by simpa using hZ
 clear hS hZ
 go_enter Tryz.func62,Tryz.ntmps62
 go_upto_region 1 with fail;generalize (w.alloc (pstO s (.slice Q s.slots.length G) (.slice I s.ends.length d))).alloc (.cells #[.int .i64 0,.string {data:= #[]}] 85)=W at *;have HB:=Hq J;have af:=Hq (HR.out.later J);have i4:=hI.c4;obtain⟨⟨u0,r0⟩,f0⟩:=O 0 (by decide)
 obtain⟨⟨u1,r1⟩,f1⟩:=O 1 (by decide)
 clear hI J HR O
 by_cases h0:i<0
 ·go_wp2_with fail;refine bodyPost_ret (v:=.tuple #[.agg #[.int .i64 0,.string {data:= #[]}],.int .i64 4]) (by simp[results,Tryz.results62,go_sem,r0,r1]) rfl ⟨EndR.no (Or.inl h0),(HB.out.setCell (by simp) _).setCell (by simp) _⟩
 by_cases h1:(s.ends.length:Int)≤i
 ·go_wp2_with fail;refine bodyPost_ret (v:=.tuple #[.agg #[.int .i64 0,.string {data:= #[]}],.int .i64 4]) (by simp[results,Tryz.results62,go_sem,r0,r1]) rfl ⟨EndR.no (Or.inr h1),(HB.out.setCell (by simp) _).setCell (by simp) _⟩
 obtain⟨k,rfl⟩:∃k:Nat,i=(k:Int):=⟨i.toNat,by omega⟩
 have U:k<s.ends.length:=by omega
 obtain⟨b,Y,am,hv,_,Z⟩:=af.out.some' (by omega)
 cases hv
 have d0:W.cell? ⟨b,Y+k*2,none⟩=some (.int .i64 s.ends[k].num):=RowAt.cell ek Z k U 0 (by decide)
 have d1:W.cell? ⟨b,Y+k*2+1,none⟩=some (.string s.ends[k].how):=RowAt.cell ek Z k U 1 (by decide)
 have V:Hid (∃x,s.ends[k]=x):=⟨_,rfl⟩;obtain⟨x,hx⟩:=V.out;have HX:=Hq hx;rw[hx] at d0 d1;have b1:(0:Int)≤(k:Int):=by omega
 have b2:(k:Int)<(s.ends.length:Int):=by omega
 clear Z hx V;go_wp2_with fail;refine bodyPost_ret (v:=.tuple #[.agg #[.int .i64 x.num,.string x.how],.int .i64 0]) (by simp[results,Tryz.results62,go_sem,r0,r1]) rfl ⟨EndR.yes' U rfl HX.out,(HB.out.setCell (by simp) _).setCell (by simp) _⟩
set_option maxHeartbeats 0 in
theorem oE (b:Px.Bo) (B:Nat) (i:Int) (sl en:Value) (w:World) (hl:b.st.slots.length≤10000) (hB:PB w B b sl en):
 Calls Tryz.prog 32 #[.pointer (some ⟨B,0,none⟩),.int .i64 i] w fun e w'=>SlotR b.st.slots i e∧Below w.heap.size w w':=by
 obtain⟨ad,ar,rfl,aj⟩:=hB.rows.sl.form;obtain⟨av,al,rfl,ae⟩:=hB.rows.en.form;have I:=dx w (.cells #[.int .i64 0,.int .i64 0,.int .i64 0,.int .i64 0,.int .i64 0,.int .i64 0] 81);have d:=hB.later I;have hZ:=ZCell.new w #[.int .i64 0,.int .i64 0,.int .i64 0,.int .i64 0,.int .i64 0,.int .i64 0] 81;have aa:w.heap.size<(w.alloc (.cells #[.int .i64 0,.int .i64 0,.int .i64 0,.int .i64 0,.int .i64 0,.int .i64 0] 81)).heap.size:=by simp
 clear hB
 go_enter Tryz.func32,Tryz.ntmps32
 go_upto_region 1 with fail;generalize w.alloc (.cells #[.int .i64 0,.int .i64 0,.int .i64 0,.int .i64 0,.int .i64 0,.int .i64 0] 81)=W at *;have au:=d.ty.lt;have e2:=d.c2;have e3:=d.c3;have e4:=d.c4;have e5:=d.c5;have e6:=d.c6;have HR:=Hq d.rows;clear d;go_wp2_with fail;refine (nA b.st i _ _ _ hl HR.out).mono ?_;rintro e w1 ⟨hA,J⟩;have G:ZCell w1 w.heap.size 6:=ZCell.later hZ aa J;have Z:=Hq (I.trans (J.mono I.size));obtain⟨⟨u0,r0⟩,f0⟩:=G 0 (by decide)
 obtain⟨⟨u1,r1⟩,f1⟩:=G 1 (by decide)
 obtain⟨⟨u2,r2⟩,f2⟩:=G 2 (by decide)
 obtain⟨⟨u3,V⟩,f3⟩:=G 3 (by decide)
 obtain⟨⟨u4,Q⟩,f4⟩:=G 4 (by decide)
 obtain⟨⟨u5,U⟩,f5⟩:=G 5 (by decide)
 clear G hZ J I e2 e3 e4 e5 e6
 cases hA with
 | no h=>
   go_wp2_with fail;refine bodyPost_ret (v:=.tuple #[paslZ,.int .i64 4]) (by simp[results,Tryz.results32,go_sem,r0,r1,r2,V,Q,U]) rfl ⟨SlotR.no h,fj Z.out (Nat.le_refl _) _ _ _ _ _ _⟩
 | yes k hk h=>
   have Y:Hid (∃x,b.st.slots[k]=x):=⟨_,rfl⟩;obtain⟨x,O⟩:=Y.out;have HE:=Hq O;rw[O];clear O Y;go_wp2_with fail;refine bodyPost_ret (v:=.tuple #[paslV x,.int .i64 0]) (by simp[results,Tryz.results32,go_sem,r0,r1,r2,V,Q,U]) rfl ⟨SlotR.yes' hk h HE.out,fj Z.out (Nat.le_refl _) _ _ _ _ _ _⟩
set_option maxHeartbeats 0 in
theorem p7 (b:Px.Bo) (B:Nat) (i:Int) (sl en:Value) (w:World) (hl:b.st.ends.length≤10000) (hB:PB w B b sl en):
 Calls Tryz.prog 33 #[.pointer (some ⟨B,0,none⟩),.int .i64 i] w fun e w'=>EndR b.st.ends i e∧Below w.heap.size w w':=by
 obtain⟨ad,am,rfl,af⟩:=hB.rows.sl.form;obtain⟨ap,ah,rfl,Z⟩:=hB.rows.en.form;have G:=dx w (.cells #[.int .i64 0,.string {data:= #[]}] 85);have d:=hB.later G;have Y:=ZCell.new w #[.int .i64 0,.string {data:= #[]}] 85;have V:w.heap.size<(w.alloc (.cells #[.int .i64 0,.string {data:= #[]}] 85)).heap.size:=by simp
 clear hB
 go_enter Tryz.func33,Tryz.ntmps33
 go_upto_region 1 with fail;generalize w.alloc (.cells #[.int .i64 0,.string {data:= #[]}] 85)=W at *;have ao:=d.ty.lt;have e2:=d.c2;have e3:=d.c3;have e4:=d.c4;have e5:=d.c5;have e6:=d.c6;have HR:=Hq d.rows;clear d;go_wp2_with fail;refine (qN b.st i _ _ _ hl HR.out).mono ?_;rintro e w1 ⟨hA,I⟩;have J:ZCell w1 w.heap.size 2:=ZCell.later Y V I;have U:=Hq (G.trans (I.mono G.size));obtain⟨⟨u0,r0⟩,f0⟩:=J 0 (by decide)
 obtain⟨⟨u1,r1⟩,f1⟩:=J 1 (by decide)
 clear J Y I G e2 e3 e4 e5 e6
 cases hA with
 | no h=>
   go_wp2_with fail;refine bodyPost_ret (v:=.tuple #[.agg #[.int .i64 0,.string {data:= #[]}],.int .i64 4]) (by simp[results,Tryz.results33,go_sem,r0,r1]) rfl ⟨EndR.no h,(U.out.setCell (Nat.le_refl _) _).setCell (Nat.le_refl _) _⟩
 | yes k hk h=>
   have Q:Hid (∃x,b.st.ends[k]=x):=⟨_,rfl⟩;obtain⟨x,O⟩:=Q.out;have HE:=Hq O;rw[O];clear O Q;go_wp2_with fail;refine bodyPost_ret (v:=.tuple #[.agg #[.int .i64 x.num,.string x.how],.int .i64 0]) (by simp[results,Tryz.results33,go_sem,r0,r1]) rfl ⟨EndR.yes' hk h HE.out,(U.out.setCell (Nat.le_refl _) _).setCell (Nat.le_refl _) _⟩
set_option maxHeartbeats 0 in
theorem pR (b:Px.Bo) (B:Nat) (sl en:Value) (w:World) (hB:PB w B b sl en):
 Calls Tryz.prog 8 #[.pointer (some ⟨B,0,none⟩)] w fun e d=>e=.returned (.string b.log)∧d=w:=by
 have G:=hB.ty.lt;have I:=hB.c7;clear hB
 go_enter Tryz.func8,Tryz.ntmps8
 go_wp2_with fail;go_ret;exact⟨rfl,rfl⟩
structure Cl (W:World) (q:Nat) (t:TypeId) (cs:List Value):Prop where
 c:∀j v,cs[j]? =some v→W.cell? ⟨q,j,none⟩=some v
 f:∀j,j<cs.length→W.frozen? ⟨q,j,none⟩=false
 ty:Typed W q t
theorem Cl.new (w:World) (d:List Value) (t:TypeId):Cl (w.alloc (.cells d.toArray t)) w.heap.size t d:=by
 have hb:(w.alloc (.cells d.toArray t)).heap[w.heap.size]? =some (.cells d.toArray t (0,0)):=by show (w.heap.push (.cells d.toArray t))[w.heap.size]? =_;simp
 refine⟨fun j v e=>?_,fun j _=>?_,Typed.new _ _ _⟩
 ·rw[cell_of_row _ _ j d.toArray t (0,0) hb];simpa using e
 ·unfold World.frozen?;rw[hb];simp
theorem Cl.below {W W':World}{q n:Nat}{t:TypeId}{w:List Value} (h:Cl W q t w) (e:q<n) (hb:Below n W W'):Cl W' q t w:=
 ⟨fun j v d=>(hb.cell (p:=⟨q,j,none⟩) e).trans (h.c j v d),fun j d=>(hb.frozen (p:=⟨q,j,none⟩) e).trans (h.f j d),h.ty.below e hb⟩
theorem Cl.later {W W':World}{q:Nat}{t:TypeId}{d:List Value} (h:Cl W q t d) (hb:Below W.heap.size W W'):Cl W' q t d:=h.below h.ty.lt hb
theorem Cl.grow {W W':World}{q g:Nat}{t:TypeId}{w:List Value} (h:Cl W q t w) (hb:W.grownBy W' (some g)) (G:q≠g):Cl W' q t w:=by
 have e:=hb.block q h.ty.lt (fun e=>G (by cases e;rfl))
 refine⟨fun j v d=>?_,fun j d=>?_,?_⟩
 ·rw[World.cell?_of_block (a:=⟨q,j,none⟩) e];exact h.c j v d
 ·rw[World.frozen?_of_block (a:=⟨q,j,none⟩) e];exact h.f j d
 ·obtain⟨cur,fr,I⟩:=h.ty;exact⟨cur,fr,e.trans I⟩
theorem Cl.set {W:World}{q:Nat}{t:TypeId}{w:List Value} (h:Cl W q t w) (j:Nat) (G:j<w.length) (v:Value):Cl (W.setCell ⟨q,j,none⟩ v) q t (w.set j v):=by
 refine⟨fun k u d=>?_,fun k d=>?_,h.ty.setCell _ _ _⟩
 ·by_cases e:j=k
  ·subst e;rw[List.getElem?_set_self G] at d
   cases d
   exact World.cell?_setCell_same _ _ _ (h.c j _ (List.getElem?_eq_getElem G))
  ·rw[List.getElem?_set_ne e] at d;rw[World.cell?_setCell_other _ _ _ _ (fun x=>e (by cases x;rfl))]
   exact h.c k u d
 ·rw[World.frozen?_setCell];exact h.f k (by simpa using d)
theorem Cl.far {W:World}{q g:Nat}{t:TypeId}{e:List Value} (h:Cl W q t e) (w:q≠g) (j:Nat) (v:Value):Cl (W.setCell ⟨g,j,none⟩ v) q t e:=
 ⟨fun k u d=>(World.cell?_setCell_other _ _ _ _ (fun x=>w (by cases x;rfl))).trans (h.c k u d),fun k d=>by rw[World.frozen?_setCell];exact h.f k d,h.ty.setCell _ _ _⟩
end Go.Proofs.YtdajolpoiffimabGreatDoor
