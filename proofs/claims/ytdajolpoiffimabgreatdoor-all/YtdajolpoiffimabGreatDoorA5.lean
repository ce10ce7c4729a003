import Derived.Test.YtdajolpoiffimabGreatDoorA4

namespace Go.Proofs.YtdajolpoiffimabGreatDoor
namespace Px
theorem inj_len {α:Type}:∀(l m:List α),l.Pairwise (·≠·)→(∀x∈l,x∈m)→l.length≤m.length:=by
 intro l
 induction l with
 | nil=>intro m _ _;simp
 | cons a r J=>
   intro m I w;obtain⟨m1,m2,rfl⟩:=List.append_of_mem (w a (by simp))
   have d:=List.pairwise_cons.1 I
   have:=J (m1++m2) d.2 (fun x G=>by
    have h1:=w x (by simp[G])
    have h2:x≠a:=fun e=>d.1 x G e.symm
    simp only [List.mem_append,List.mem_cons] at h1 ⊢
    rcases h1 with h|h|h
    ·exact Or.inl h
    ·exact absurd h h2
    ·exact Or.inr h)
   simp only [List.length_append,List.length_cons] at this ⊢
   omega
theorem Rel.len {b:Bo} {d:Bx.Bo} (h:Rel b d):d.talks.length≤8:=by
 have h1:=inj_len (d.talks.map (·.num)) (b.st.slots.map (·.num)) (List.pairwise_map.2 h.tks.dist) (fun n I=>by
  obtain⟨t,G,rfl⟩:=List.mem_map.1 I;obtain⟨x,w,e⟩:=h.tks.of t G
  exact List.mem_map.2 ⟨x,w,e.1.symm⟩)
 have:=h.ok.len;simp only [List.length_map] at h1;omega
theorem Rel.boOk {b:Bo} {d:Bx.Bo} (h:Rel b d):BoOk d:=by
 refine⟨?_,?_,?_,?_,?_⟩
 ·rw[h.now];exact h.ok.st
 ·rw[h.txt];have:=h.log;have:=h.r1;omega
 ·have:=h.len;omega
 ·intro t w;obtain⟨x,e,_,_,a,_,G⟩:=h.tks.of t w;have:=h.ok.ex x e;rw[←G.ans];exact⟨this.1,this.2.1⟩
 ·intro t w;obtain⟨x,e,_,_,a,I,G⟩:=h.tks.of t w;have:=(steps_size h.ok e).2.1;rw[G.at'];omega
theorem Rel.ends {b:Bo} {d:Bx.Bo} (h:Rel b d):d.now.ends=b.st.ends:=by rw[h.now];rfl
theorem Rel.slen {b:Bo} {d:Bx.Bo} (h:Rel b d):d.now.slots.length=b.st.slots.length:=by rw[h.now];simp[abs]
theorem Rel.at_le {b:Bo} {d:Bx.Bo} (h:Rel b d) (n:Int) (G:¬talkOf d.talks n<0):(tkAt d (talkOf d.talks n).toNat).at'≤(startL d n).length:=by
 have I:∃k:Nat,∃w:k<d.talks.length,talkOf d.talks n=k∧d.talks[k].num=n:=by
  unfold talkOf at G ⊢
  cases q:d.talks.findIdx? (fun t=>t.num==n) with
  | none=>rw[q] at G;simp at G
  | some i=>
    obtain⟨hi,he,_⟩:=List.findIdx?_eq_some_iff_getElem.1 q;exact⟨i,hi,rfl,by simpa using he⟩
 obtain⟨k,w,e,Z⟩:=I;rw[e,Int.toNat_natCast,←ez d k w];obtain⟨x,hx,U,_,a,ha,Q⟩:=h.tks.of _ (List.getElem_mem w);have O:x.num=n:=by rw[←U,Z]
 have hF:find b.st.slots n=some x:=by rw[←O];exact find_mem h.ok.dist hx
 obtain⟨i,hi,rfl,Y,J⟩:=find_some h.ok.dist hF
 have V:startL d n=stepsL b.st b.st.slots[i]:=by
  unfold startL stepsS stepsL;rw[h.now,J,Int.toNat_natCast,slAt_abs hi];rfl
 rw[V,Q.at'];have:=Q.le;omega
theorem Rel.step {b:Bo} {d:Bx.Bo} (h:Rel b d) {x:Sl} (w:x∈b.st.slots):(if 0≤talkOf d.talks x.num then (tkAt d (talkOf d.talks x.num).toNat).at'+1 else 0)=x.step:=by
 obtain⟨h1,h2⟩:=h.tks.talk h.ok.dist w
 by_cases q:0<x.step
 ·obtain⟨k,J,e,I⟩:=h1 q;obtain⟨_,_,a,_,G⟩:=I;rw[e,if_pos (by omega),Int.toNat_natCast,←ez d k J,G.at',G.step]
 ·rw[h2 (by omega),if_neg (by omega)]
  have:=(h.ok.ex x w).2.2.1;omega
theorem Rel.sl {b:Bo} {d:Bx.Bo} (h:Rel b d) {k:Nat} (e:k<b.st.slots.length):Bx.slAt d.now k=absS b.st.slots[k]:=by rw[h.now,slAt_abs e]
def HMax (d:Bx.Bo) (N:Nat):Prop:=(∀t∈d.talks,t.heard.size≤N)∧Bx.MayS d.now
theorem HMax.mono {d:Bx.Bo} {N M:Nat} (h:HMax d N) (w:N≤M):HMax d M:=⟨fun t e=>Nat.le_trans (h.1 t e) w,h.2⟩
theorem hush_mem {s:Bx.St} {l:List Bx.Tk} {t:Bx.Tk} (h:t∈hushL s l):t∈l:=(List.mem_filter.1 h).1
theorem HMax.load {d e:Bx.Bo} {N:Nat} {tab:ByteArray} {a r:Int} (h:HMax d N) (G:LoadR d tab e a r):HMax e N:=by
 have:e.talks=d.talks:=by
  rcases G with ⟨_,_,rfl⟩|⟨_,_,rfl,_⟩|⟨_,_,_,rfl,_⟩|⟨_,_,_,rfl,_⟩<;>rfl
 refine⟨fun t w=>by rw[this] at w;exact h.1 t w,?_⟩
 rcases G with ⟨_,_,rfl⟩|⟨_,_,rfl,_⟩|⟨_,_,_,rfl,_⟩|⟨_,_,_,rfl,_⟩
 all_goals first |exact h.2|exact h.2.told _
theorem HMax.tick {d:Bx.Bo} {N:Nat} (h:HMax d N) (m:Int):HMax (tickP d m).1 N:=by
 unfold tickP
 repeat' split
 all_goals first |exact h|exact⟨fun t e=>h.1 t (hush_mem e),h.2.told _⟩|exact⟨fun t e=>h.1 t (hush_mem e),(h.2.told _).told _⟩
theorem HMax.cancel {d:Bx.Bo} {N:Nat} (h:HMax d N) (n:Int):HMax (Go.Proofs.YtdajolpoiffimabGreatDoor.cancelP d n).1 N:=by
 unfold Go.Proofs.YtdajolpoiffimabGreatDoor.cancelP
 repeat' split
 all_goals first |exact h|exact⟨fun t e=>h.1 t (hush_mem e),h.2.told _⟩|exact⟨fun t e=>h.1 t (hush_mem e),(h.2.told _).told _⟩
theorem HMax.start {d:Bx.Bo} {N:Nat} (h:HMax d N) (n:Int):HMax (Go.Proofs.YtdajolpoiffimabGreatDoor.startP d n).1 N:=by
 unfold Go.Proofs.YtdajolpoiffimabGreatDoor.startP
 repeat' split
 all_goals first
  | exact h
  | exact⟨fun t e=>h.1 t e,h.2.told _⟩
  | (refine⟨fun t e=>?_,h.2.told _⟩
     rcases List.mem_append.1 e with q|q
     ·exact h.1 t q
     ·have:t=_:=List.mem_singleton.1 q
      subst this;show (0:Nat)≤N;omega)
theorem hearF_heard (L:List ByteArray) (c:Int) (n:Nat):∀t:Bx.Tk,(hearF L c n t).1.heard.size≤t.heard.size:=by
 induction n with
 | zero=>intro t;exact Nat.le_refl _
 | succ n d=>
   intro t;rw[hearF]
   split
   ·exact Nat.le_refl _
   ·split
    ·exact Nat.le_refl _
    ·exact Nat.le_trans (d _) (hV _ _)
theorem HMax.feed {d:Bx.Bo} {N:Nat} (h:HMax d N) (n:Int) (x:ByteArray):HMax (feedP d n x).1 (N+40):=by
 have e:HMax d (N+40):=h.mono (by omega)
 unfold feedP
 by_cases w:40<x.size
 ·rw[if_pos w];exact e
 rw[if_neg w]
 repeat' split
 all_goals first
  | exact e
  | exact⟨fun t G=>e.1 t (hush_mem G),e.2.told _⟩
  | (refine⟨fun t G=>?_,e.2⟩
     rcases List.mem_or_eq_of_mem_set G with q|q
     ·exact e.1 t q
     ·subst q;have h1:=hearF_heard (startL d n) d.now.clock (startL d n).length (more (tkAt d (talkOf d.talks n).toNat) x)
      have h2:(tkAt d (talkOf d.talks n).toNat).heard.size≤N:=by
       unfold tkAt
       by_cases q:(talkOf d.talks n).toNat<d.talks.length
       ·rw[List.getD_eq_getElem?_getD,List.getElem?_eq_getElem q];exact h.1 _ (List.getElem_mem q)
       ·rw[List.getD_eq_getElem?_getD,List.getElem?_eq_none (by omega)];exact Nat.zero_le _
      have I:(more (tkAt d (talkOf d.talks n).toNat) x).heard.size=(tkAt d (talkOf d.talks n).toNat).heard.size+x.size:=by unfold more;exact ByteArray.size_append ..
      show (feedH d n x).1.heard.size≤N+40
      unfold feedH
      omega)
end Px
namespace Px
end Px
namespace Px
theorem Rel.new {l r:Int} (h:mayB l r=true):Rel ⟨l,r,first,ByteArray.empty⟩ ⟨l,r,Bx.first,ByteArray.empty,[]⟩:=by
 obtain⟨h1,h2,w,e⟩:=of_decide_eq_true h;refine⟨rfl,rfl,rfl,rfl,⟨List.Pairwise.nil,fun t G=>by simp at G,fun x d=>by simp[first] at d⟩,⟨Bx.first_ok,List.Pairwise.nil,fun x d=>by simp[first] at d⟩,h1,h2,w,e,?_⟩
 show ((0:Nat):Int)≤r;omega
end Px
end Go.Proofs.YtdajolpoiffimabGreatDoor

namespace Go.Proofs.YtdajolpoiffimabGreatDoor
open Go.RowKit
set_option maxHeartbeats 400000 in
theorem fQ (y:Int) (w:World) (h1:0≤y) (h2:y≤20000):
 Calls Tryz.prog 228 #[.int .i64 y] w fun e d=>e=.returned (.int .i64 (365+Cal.lp y))∧d=w:=by
 by_cases a:y % 400=0
 ·have e:Hid (Cal.lp y=1):=Cal.lp_yes (Or.inl a)
  go_enter Tryz.func228,Tryz.ntmps228
  go_wp2
  go_ret
  exact⟨dM (by rw[e.out];rfl),rfl⟩
 ·by_cases b:y % 4=0
  ·by_cases c:y % 100=0
   ·have e:Hid (Cal.lp y=0):=Cal.lp_no (by omega)
    go_enter Tryz.func228,Tryz.ntmps228
    go_wp2
    go_ret
    exact⟨dM (by rw[e.out];rfl),rfl⟩
   ·have e:Hid (Cal.lp y=1):=Cal.lp_yes (Or.inr ⟨b,c⟩);have G:(y % 100 !=0)=true:=by simpa using c
    go_enter Tryz.func228,Tryz.ntmps228
    go_wp2
    go_ret
    exact⟨dM (by rw[e.out];rfl),rfl⟩
  ·have e:Hid (Cal.lp y=0):=Cal.lp_no (by omega)
   go_enter Tryz.func228,Tryz.ntmps228
   go_wp2
   go_ret
   exact⟨dM (by rw[e.out];rfl),rfl⟩
set_option maxHeartbeats 400000 in
theorem eJ (y m:Int) (w:World) (h1:0≤y) (h2:y≤20000):
 Calls Tryz.prog 227 #[.int .i64 y,.int .i64 m] w fun e G=>e=.returned (.int .i64 (Cal.dim y m))∧G=w:=by
 have d:=Cal.lp_01 y
 by_cases a:m=2
 ·subst a;have e:Hid (Cal.dim y 2=28+Cal.lp y):=if_pos rfl
  go_enter Tryz.func227,Tryz.ntmps227
  go_wp2_with (go_at_call 228;refine (fQ _ _ (by omega) (by omega)).mono ?_;rintro e G ⟨rfl,rfl⟩)
  go_ret
  exact⟨dM (by rw[e.out];omega),rfl⟩
 ·by_cases b:m=4∨m=6∨m=9∨m=11
  ·have e:Hid (Cal.dim y m=30):=by unfold Hid Cal.dim;rw[if_neg a,if_pos b]
   clear a d
   rcases b with rfl|rfl|rfl|rfl
   all_goals
    go_enter Tryz.func227,Tryz.ntmps227
    go_wp2_with fail;go_ret;exact⟨dM e.out.symm,rfl⟩
  ·have e:Hid (Cal.dim y m=31):=by unfold Hid Cal.dim;rw[if_neg a,if_neg b]
   have b1:¬m=4:=by omega
   have O:¬m=6:=by omega
   have J:¬m=9:=by omega
   have I:¬m=11:=by omega
   clear b d
   go_enter Tryz.func227,Tryz.ntmps227
   go_wp2_with fail;go_ret;exact⟨dM e.out.symm,rfl⟩
set_option maxHeartbeats 400000 in
theorem fM (m:Int) (w:World):
 Calls Tryz.prog 144 #[.int .i64 m] w fun e d=>e=.returned (.bool (minB m))∧d=w:=by
 by_cases a:0≤m
 ·by_cases b:m≤4223371679
  ·have e:Hid (minB m=true):=gw a b
   go_enter Tryz.func144,Tryz.ntmps144
   go_wp2_with fail;go_ret;exact⟨by rw[e.out];rfl,rfl⟩
  ·have e:Hid (minB m=false):=ii (by omega)
   go_enter Tryz.func144,Tryz.ntmps144
   go_wp2_with fail;go_ret;exact⟨by rw[e.out];rfl,rfl⟩
 ·have e:Hid (minB m=false):=ii (by omega)
  go_enter Tryz.func144,Tryz.ntmps144
  go_wp2_with fail;go_ret;exact⟨by rw[e.out];rfl,rfl⟩
set_option maxHeartbeats 1000000 in
theorem rP (n:Int) (w:World) (h1:0≤n) (h2:n≤2932896):
 Calls Tryz.prog 225 #[.int .i64 n] w fun e G=>(∃y mo d:Int,Cal.IsD n y mo d∧e=.returned (dateV y mo d 0 0 ((4+n) % 7)))∧Below w.heap.size w G:=by
 have V:=Cal.dby_cycle n
 go_enter Tryz.func225,Tryz.ntmps225
 go_wp2_with fail
 go_loopw [4] (fun r wr=>∃y:Int,1970≤y∧y≤9999∧Cal.dby y≤n∧r=.int .i64 (n-Cal.dby y)∧wr=(w.alloc (.cells #[.int .i64 0,.int .i64 0,.int .i64 0,.int .i64 0,.int .i64 0,.int .i64 0] 194)).alloc (.cells #[.int .i64 y,.int .i64 1,.int .i64 1,.int .i64 0,.int .i64 0,.int .i64 ((4+n) % 7)] 194)) (fun r _=>(intOf r).toNat)
 case atStart=>exact⟨_,by omega,by omega,by rw[V];omega,by rw[V];go_num,rfl⟩
 case round=>
  obtain⟨y,I,O,ad,rfl,rfl⟩:=hrel;clear V;have Y:Hid (Cal.dby (y+1)=Cal.dby y+365+Cal.lp y):=Cal.dby_succ y;have hl:=Cal.lp_01 y;have hb:=Cal.dby_bd I (Int.le_trans O (by omega))
  by_cases hc:365+Cal.lp y≤n-Cal.dby y
  ·have ac:y≤9998:=by
    by_cases e:y=9999
    ·subst e;have:=Y.out;have:Cal.dby (9999+1)=2932897:=Cal.dby_10000;omega
    ·omega
   go_wp2_with (go_at_call 228;refine (fQ _ _ (by omega) (by omega)).mono ?_;rintro e G ⟨rfl,rfl⟩)
   go_roundw
   case rel=>exact⟨y+1,by omega,by omega,by rw[Y.out];omega,by rw[Y.out];go_num,rfl⟩
   case measure=>simp[intOf];omega
  ·go_wp2_with (go_at_call 228;refine (fQ _ _ (by omega) (by omega)).mono ?_;rintro e G ⟨rfl,rfl⟩)
   go_loopw [4] (fun r wr=>∃mo:Int,1≤mo∧mo≤12∧Cal.cum y mo≤n-Cal.dby y∧r=.int .i64 (n-Cal.dby y-Cal.cum y mo)∧wr=(w.alloc (.cells #[.int .i64 0,.int .i64 0,.int .i64 0,.int .i64 0,.int .i64 0,.int .i64 0] 194)).alloc (.cells #[.int .i64 y,.int .i64 mo,.int .i64 1,.int .i64 0,.int .i64 0,.int .i64 ((4+n) % 7)] 194)) (fun r _=>(intOf r).toNat)
   case atStart=>exact⟨1,by omega,by omega,by rw[Cal.cum_1];omega,by rw[Cal.cum_1];go_num,rfl⟩
   case round=>
    obtain⟨mo,Q,J,aa,rfl,rfl⟩:=hrel;have U:Hid (Cal.cum y (mo+1)=Cal.cum y mo+Cal.dim y mo):=Cal.cum_succ y mo Q J;have Z:Hid (Cal.cum y 13=365+Cal.lp y):=Cal.cum_13 y;have cb:=Cal.cum_bd y mo;have db:=Cal.dim_lo y mo
    by_cases hd:Cal.dim y mo≤n-Cal.dby y-Cal.cum y mo
    ·have ab:mo≤11:=by
      by_cases e:mo=12
      ·subst e;have:=U.out;have:=Z.out;have:Cal.cum y (12+1)=Cal.cum y 13:=rfl;omega
      ·omega
     go_wp2_with (go_at_call 227;refine (eJ _ _ _ (by omega) (by omega)).mono ?_;rintro e G ⟨rfl,rfl⟩)
     go_roundw
     case rel=>exact⟨mo+1,by omega,by omega,by rw[U.out];omega,by rw[U.out];go_num,rfl⟩
     case measure=>simp[intOf];omega
    ·go_wp2_with (go_at_call 227;refine (eJ _ _ _ (by omega) (by omega)).mono ?_;rintro e G ⟨rfl,rfl⟩)
     refine bodyPost_ret (v:=dateV y mo (1+(n-Cal.dby y-Cal.cum y mo)) 0 0 ((4+n) % 7)) (by simp[results,Tryz.results225,go_sem]) rfl
      ⟨⟨y,mo,_,⟨I,O,Q,J,by omega,by omega,by omega⟩,rfl⟩,((Below.refl _ _).alloc (Nat.le_refl _) _).alloc (by simp) _⟩
set_option maxHeartbeats 1000000 in
theorem oX (m:Int) (w:World) (h0:0≤m) (h1:m≤4223371679):
 Calls Tryz.prog 221 #[.int .i64 m] w fun e G=>(∃y mo d:Int,Cal.IsD (m / 1440) y mo d∧e=.returned (.tuple #[dateV y mo d (m % 1440 / 60) (m % 60) ((m / 1440+4) % 7),.int .i64 0]))∧Below w.heap.size w G:=by
 have e:=gw h0 h1
 go_enter Tryz.func221,Tryz.ntmps221
 go_wp2_with (first |(go_at_call 144;refine (fM _ _).mono ?_;rintro e G ⟨rfl,rfl⟩)|(go_at_call 225;refine (rP _ _ (by omega) (by omega)).mono ?_;rintro e w1 ⟨⟨y,mo,d,O,rfl⟩,hb⟩;obtain⟨Q,U⟩:=dT hb;have J:w.heap.size<w1.heap.size:=(by have:=hb.size;simp at this;omega)))
 have I:(4+m / 1440) % 7=(m / 1440+4) % 7:=by omega
 refine bodyPost_ret (v:=.tuple #[dateV y mo d (m % 1440 / 60) (m % 60) ((4+m / 1440) % 7),.int .i64 0]) (by simp[results,Tryz.results221,go_sem,Q,J]) rfl ⟨⟨y,mo,d,O,by rw[I]⟩,?_⟩
 exact (((((((((Below.refl _ _).alloc (Nat.le_refl _) _).trans (hb.mono (by simp))).setCell (by simp) _).setCell (by simp) _).setCell (by simp) _).setCell (by simp) _).setCell (by simp) _).setCell (by simp) _).alloc (by simp;omega) _
set_option maxHeartbeats 2000000 in
theorem ix (s:ByteArray) (w:World) (hs:s.size≤300):
 Calls Tryz.prog 177 #[.string s] w fun e w'=>e=.returned (.bool (Txt.stepB s))∧w'=w:=by
 by_cases h2:s.size<2
 ·have e:Hid (Txt.stepB s=false):=Txt.stepB_no (fun h=>by have:=h.1;omega)
  go_enter Tryz.func177,Tryz.ntmps177
  go_wp2_with fail;go_ret;exact⟨dy e.out.symm,rfl⟩
 by_cases h9:9<s.size
 ·have e:Hid (Txt.stepB s=false):=Txt.stepB_no (fun h=>by have:=h.2.1;omega)
  go_enter Tryz.func177,Tryz.ntmps177
  go_wp2_with fail;go_ret;exact⟨dy e.out.symm,rfl⟩
 have h0:0<s.size:=by omega
 by_cases G:(s[0].toNat:Int)=62∨(s[0].toNat:Int)=60
 rotate_left
 ·have e:Hid (Txt.stepB s=false):=Txt.stepB_no (fun ⟨_,_,_,h,_⟩=>G h)
  have f1:((s[0].toNat:Int) !=62)=true:=by simp;omega
  have f2:((s[0].toNat:Int) !=60)=true:=by simp;omega
  clear G
  go_enter Tryz.func177,Tryz.ntmps177
  go_wp2_with fail;go_ret;exact⟨dy e.out.symm,rfl⟩
 have HF:=Hq G
 have Z:Hid (((s[0].toNat:Int) !=62)=false∨(((s[0].toNat:Int) !=62)=true∧((s[0].toNat:Int) !=60)=false)):=by
  unfold Hid;rcases G with h|h
  ·left;simp[h]
  ·right;constructor<;>simp[h]
 clear G
 rcases Z.out with f1|⟨f1,f2⟩
 all_goals
  clear Z
  go_enter Tryz.func177,Tryz.ntmps177
  go_wp2_with fail
  go_loop [3] (fun i=>∃k:Nat,1≤k∧k≤s.size∧i=.int .i64 k∧∀j (O:j<s.size),1≤j→j<k→Txt.wb (s[j].toNat)=true) (fun i=>s.size-(intOf i).toNat)
  case atStart=>exact⟨1,Nat.le_refl _,by omega,rfl,fun j _ h h'=>by omega⟩
  case round=>
   obtain⟨k,Y,hk,rfl,d⟩:=hrel;have U:=Hq d;clear d
   by_cases Q:k<s.size
   ·have J:Hid (Txt.wb (s[k].toNat)=true→∀j (O:j<s.size),1≤j→j<k+1→Txt.wb (s[j].toNat)=true):=by
     intro hd j O h1 h
     by_cases q:j=k
     ·subst q;exact hd
     ·exact U.out j O h1 (by omega)
    have I:Hid (Txt.wb (s[k].toNat)=false→Txt.stepB s=false):=jU Q Y
    by_cases a1:48≤(s[k].toNat:Int)
    ·by_cases a2:(s[k].toNat:Int)≤57
     ·have W:Hid (Txt.wb (s[k].toNat)=true):=Txt.wb_yes (by omega)
      go_wp2_with fail
      go_round
      case rel=>exact⟨k+1,by omega,by omega,by go_num,J.out W.out⟩
      case measure=>simp[intOf];omega
     ·by_cases a3:97≤(s[k].toNat:Int)
      ·by_cases a4:(s[k].toNat:Int)≤122
       ·have W:Hid (Txt.wb (s[k].toNat)=true):=Txt.wb_yes (by omega)
        go_wp2_with fail
        go_round
        case rel=>exact⟨k+1,by omega,by omega,by go_num,J.out W.out⟩
        case measure=>simp[intOf];omega
       ·have e:Hid (Txt.stepB s=false):=I.out (Txt.wb_no (by omega))
        have V:65≤(s[k].toNat:Int):=by omega
        have a6:¬(s[k].toNat:Int)≤90:=by omega
        go_wp2_with fail;go_ret;exact⟨dy e.out.symm,rfl⟩
      ·by_cases V:65≤(s[k].toNat:Int)
       ·by_cases a6:(s[k].toNat:Int)≤90
        ·have W:Hid (Txt.wb (s[k].toNat)=true):=Txt.wb_yes (by omega)
         go_wp2_with fail
         go_round
         case rel=>exact⟨k+1,by omega,by omega,by go_num,J.out W.out⟩
         case measure=>simp[intOf];omega
        ·have e:Hid (Txt.stepB s=false):=I.out (Txt.wb_no (by omega))
         go_wp2_with fail;go_ret;exact⟨dy e.out.symm,rfl⟩
       ·have e:Hid (Txt.stepB s=false):=I.out (Txt.wb_no (by omega))
        go_wp2_with fail;go_ret;exact⟨dy e.out.symm,rfl⟩
    ·have e:Hid (Txt.stepB s=false):=I.out (Txt.wb_no (by omega))
     have a3:¬97≤(s[k].toNat:Int):=by omega
     have V:¬65≤(s[k].toNat:Int):=by omega
     go_wp2_with fail;go_ret;exact⟨dy e.out.symm,rfl⟩
   ·have e:Hid (Txt.stepB s=true):=jx (by omega) (by omega) (by omega) h0 HF.out U.out
    go_wp2_with fail;go_ret;exact⟨dy e.out.symm,rfl⟩
set_option maxHeartbeats 1000000 in
theorem fT (s t:ByteArray) (w:World) (hs:s.size≤300) (ht:t.size≤10):
 Calls Tryz.prog 176 #[.string s,.string t] w fun e V=>e=.returned (.bool (Txt.amgB s t))∧∃n,V=w.drewN n:=by
 by_cases z:s.size=1
 rotate_left
 ·have e:Hid (Txt.amgB s t=false):=Txt.amgB_no (fun h=>z h.1)
  have U:((s.size:Int)==1)=false:=by simp;omega
  clear z
  go_enter Tryz.func176,Tryz.ntmps176
  go_wp2_with fail
  go_loop [5] (fun i=>i=.int .i64 0) (fun _=>0)
  case atStart=>rfl
  case round=>
   subst hrel
   by_cases h0:0<t.size
   ·go_wp2_with fail;go_ret;exact⟨dy e.out.symm,0,rfl⟩
   ·go_wp2_with fail;go_ret;exact⟨dy e.out.symm,0,rfl⟩
 have U:((s.size:Int)==1)=true:=by simp;omega
 have Z:=Hq z;have i0:0<s.size:=by omega
 clear z
 go_enter Tryz.func176,Tryz.ntmps176
 go_wp2_with fail
 go_loopw [5] (fun i wr=>∃k:Nat,k≤t.size∧i=.int .i64 k∧(∀j (I:j<t.size),j<k→¬s[0]=t[j])∧∃n,wr=w.drewN n) (fun i _=>t.size-(intOf i).toNat)
 case atStart=>exact⟨0,Nat.zero_le _,rfl,fun j _ h=>by omega,0,rfl⟩
 case round=>
  obtain⟨k,Y,rfl,G,n0,rfl⟩:=hrel;have O:=Hq G;clear G
  by_cases J:k<t.size
  ·have b1:(0:Int)≤(k:Int):=by omega
   have b2:(k:Int)<(t.size:Int):=by omega
   have b3:(0:Int)<(s.size:Int):=by omega
   by_cases d:s[0]=t[k]
   ·have e:Hid (Txt.amgB s t=true):=Txt.amgB_yes ⟨Z.out,k,J,d⟩;have q:((s[0].toNat:Int)==(t[k].toNat:Int))=true:=by rw[Txt.u8_eq];exact decide_eq_true d
    clear d;go_wp2_with fail
    go_quiet (fail)
    go_wp2_with fail;go_ret;exact⟨dy e.out.symm,_,World.drewN_drewN _ _ _⟩
   ·have Q:=Hq d;have q:((s[0].toNat:Int)==(t[k].toNat:Int))=false:=by rw[Txt.u8_eq];exact decide_eq_false d
    clear d;go_wp2_with fail
    go_quiet (fail)
    go_wp2_with fail;go_roundw
    case rel=>
     refine⟨k+1,by omega,by go_num,fun j I h=>?_,_,rfl⟩
     by_cases q:j=k
     ·subst q;exact Q.out
     ·exact O.out j I (by omega)
    case measure=>simp[intOf];omega
  ·have e:Hid (Txt.amgB s t=false):=Txt.amgB_no (fun ⟨_,j,I,h⟩=>O.out j I (by omega) h)
   go_wp2_with fail;go_ret;exact⟨dy e.out.symm,_,rfl⟩
open Txt (NoSep)
set_option maxHeartbeats 400000 in
theorem em (s:ByteArray) (c:Int) (w:World) (V:s.size≤300):
 Calls Tryz.prog 200 #[.string s,.int .u8 c] w fun e Q=>e=.returned (.tuple #[.string (Txt.cut1 c s),.string (Txt.cut2 c s),.bool (Txt.cut3 c s)])∧∃n,Q=w.drewN n:=by
 go_enter Tryz.func200,Tryz.ntmps200
 go_wp2_with fail
 go_loop [7] (fun i=>∃k:Nat,k≤s.size∧i=.int .i64 k∧NoSep c s 0 k) (fun i=>s.size-(intOf i).toNat)
 case atStart=>exact⟨0,Nat.zero_le _,rfl,NoSep.nil _ _ _⟩
 case round=>
  obtain⟨k,U,rfl,d⟩:=hrel;have I:=Hq d;clear d
  by_cases G:k<s.size
  ·cases J:((s[k].toNat:Int)==c)
   ·have O:Hid (NoSep c s 0 (k+1)):=I.out.snoc G J;go_wp2_with fail
    go_round
    case rel=>exact⟨k+1,by omega,by go_num,O.out⟩
    case measure=>simp[intOf];omega
   ·have e:Hid (Txt.cut1 c s=s.extract 0 k∧Txt.cut2 c s=s.extract (k+1) s.size∧Txt.cut3 c s=true):=Txt.cut_yes G J I.out;have b1:(0:Int)≤(k:Int):=by omega
    have Z:(k:Int)≤(s.size:Int):=by omega
    have Y:(k:Int)+1≤(s.size:Int):=by omega
    go_wp2_with fail
    go_quiet (fail)
    go_wp2_with fail
    go_ret3
    exact⟨fV e.out,_,rfl⟩
  ·have e:Hid (Txt.cut1 c s=s∧Txt.cut2 c s=ByteArray.empty∧Txt.cut3 c s=false):=Txt.cut_no ((show k=s.size by omega)▸I.out)
   go_wp2_with fail
   go_ret3
   exact⟨fV e.out,0,rfl⟩
set_option maxHeartbeats 400000 in
theorem et (s:ByteArray) (w:World) (Y:s.size≤300):
 Calls Tryz.prog 218 #[.string s] w fun e U=>e=.returned (.int .i64 (Txt.val s))∧U=w:=by
 by_cases h1:s.size<1
 ·have e:Hid (Txt.val s= -1):=Txt.val_no (by omega)
  go_enter Tryz.func218,Tryz.ntmps218
  go_wp2_with fail;go_ret;exact⟨dR e.out.symm,rfl⟩
 by_cases h2:2<s.size
 ·have e:Hid (Txt.val s= -1):=Txt.val_no (by omega)
  go_enter Tryz.func218,Tryz.ntmps218
  go_wp2_with fail;go_ret;exact⟨dR e.out.symm,rfl⟩
 go_enter Tryz.func218,Tryz.ntmps218
 go_wp2_with fail
 go_loop [3,4] (fun n i=>∃k:Nat,k≤s.size∧i=.int .i64 k∧n=.int .i64 (Txt.pv s k)∧∀j (d:j<s.size),j<k→Txt.dg (s[j].toNat)=true) (fun _ i=>s.size-(intOf i).toNat)
 case atStart=>exact⟨0,Nat.zero_le _,rfl,by rw[Txt.pv_0],fun j _ h=>by omega⟩
 case round=>
  obtain⟨k,O,rfl,rfl,G⟩:=hrel;have J:=Hq G;clear G;have pb:=Txt.pv_bd s k O (by omega)
  by_cases I:k<s.size
  ·have Z:=Txt.u8_bd s[k]
   by_cases b1:(s[k].toNat:Int)<48
   ·have e:Hid (Txt.val s= -1):=Txt.val_no (Or.inr (Or.inr (Txt.digs_no I (Txt.dg_no (Or.inl b1)))));go_wp2_with fail;go_ret;exact⟨dR e.out.symm,rfl⟩
   by_cases V:57<(s[k].toNat:Int)
   ·have e:Hid (Txt.val s= -1):=Txt.val_no (Or.inr (Or.inr (Txt.digs_no I (Txt.dg_no (Or.inr V)))));go_wp2_with fail;go_ret;exact⟨dR e.out.symm,rfl⟩
   have Q:Hid (Txt.dg (s[k].toNat)=true):=Txt.dg_yes (by omega) (by omega)
   have PS:Hid (Txt.pv s (k+1)=Txt.pv s k*10+((s[k].toNat:Int)-48)):=Txt.pv_succ s k I;go_wp2_with fail
   go_round
   case rel=>
    refine⟨k+1,by omega,by go_num,by rw[PS.out];go_num,fun j d h=>?_⟩
    by_cases q:j=k
    ·subst q;exact Q.out
    ·exact J.out j d (by omega)
   case measure=>simp[intOf];omega
  ·obtain rfl:k=s.size:=by omega
   have e:Hid (Txt.val s=Txt.pv s s.size):=Txt.val_yes (by omega) (by omega) (Txt.digs_yes (fun j d=>J.out j d d))
   go_wp2_with fail;go_ret;exact⟨dR e.out.symm,rfl⟩
set_option maxHeartbeats 400000 in
theorem dH (i:Int) (w:World):
 Calls Tryz.prog 219 #[.int .i64 i] w fun e d=>e=.returned (.int .i64 (lo i))∧d=w:=by
 by_cases a:i=2
 ·subst a
  go_enter Tryz.func219,Tryz.ntmps219
  go_wp2_with fail;go_ret;exact⟨rfl,rfl⟩
 by_cases b:i=3
 ·subst b
  go_enter Tryz.func219,Tryz.ntmps219
  go_wp2_with fail;go_ret;exact⟨rfl,rfl⟩
 have e:Hid (lo i=0):=if_neg (by omega)
 have G:(i==2)=false:=by simpa using a
 have I:(i==3)=false:=by simpa using b
 go_enter Tryz.func219,Tryz.ntmps219
 go_wp2_with fail;go_ret;exact⟨dR e.out.symm,rfl⟩
set_option maxHeartbeats 400000 in
theorem dF (i:Int) (w:World):
 Calls Tryz.prog 220 #[.int .i64 i] w fun e G=>e=.returned (.int .i64 (hi i))∧G=w:=by
 by_cases h:i=0∨i=1∨i=2∨i=3
 ·rcases h with rfl|rfl|rfl|rfl
  all_goals
   go_enter Tryz.func220,Tryz.ntmps220
   go_wp2_with fail;go_ret;exact⟨rfl,rfl⟩
 have h0:¬i=0:=by omega
 have h1:¬i=1:=by omega
 have h2:¬i=2:=by omega
 have d:¬i=3:=by omega
 have e:Hid (hi i=6):=by unfold Hid hi;rw[if_neg h0,if_neg h1,if_neg h2,if_neg d]
 clear h
 go_enter Tryz.func220,Tryz.ntmps220
 go_wp2_with fail;go_ret;exact⟨dR e.out.symm,rfl⟩
def SpanR (i:Int) (p:ByteArray) (e:Ending):Prop:=∃a b t:Int,e=.returned (.tuple #[.int .i64 a,.int .i64 b,.int .i64 t,.bool (Txt.spK (lo i) (hi i) p)])∧
 (-1≤a∧a≤99∧ -1≤b∧b≤99∧ -1≤t∧t≤99)∧(Txt.spK (lo i) (hi i) p=true→a=Txt.spA (lo i) p∧b=Txt.spB (hi i) p∧t=Txt.spS p)
theorem dZ {i:Int} {p:ByteArray} {a b t:Int} {r:Bool} (hA:Txt.spA (lo i) p=a) (hB:Txt.spB (hi i) p=b) (hS:Txt.spS p=t) (hK:Txt.star (Txt.cut1 47 p)=true∨Txt.cut3 47 p=false∨Txt.cut3 45 (Txt.cut1 47 p)=true)
 (d:r=decide (1≤t∧lo i≤a∧a≤b∧b≤hi i)) (bd: -1≤a∧a≤99∧ -1≤b∧b≤99∧ -1≤t∧t≤99):SpanR i p (.returned (.tuple #[.int .i64 a,.int .i64 b,.int .i64 t,.bool r])):=by
 have e:Txt.spK (lo i) (hi i) p=r:=by
  rw[d,Txt.spK,hA,hB,hS]
  by_cases q:1≤t∧lo i≤a∧a≤b∧b≤hi i
  ·rw[decide_eq_true q];exact decide_eq_true ⟨hK,q⟩
  ·rw[decide_eq_false q];exact decide_eq_false (fun h=>q h.2)
 exact⟨a,b,t,by rw[e],bd,fun _=>⟨hA.symm,hB.symm,hS.symm⟩⟩
theorem su {i:Int} {p:ByteArray} (h1:Txt.star (Txt.cut1 47 p)=false) (h2:Txt.cut3 47 p=true) (d:Txt.cut3 45 (Txt.cut1 47 p)=false):SpanR i p (.returned (.tuple #[.int .i64 0,.int .i64 0,.int .i64 0,.bool false])):=by
 have e:Txt.spK (lo i) (hi i) p=false:=decide_eq_false (by simp[h1,h2,d])
 exact⟨0,0,0,by rw[e],by omega,fun h=>by rw[e] at h;cases h⟩
set_option maxHeartbeats 1000000 in
theorem sP (p:ByteArray) (i:Int) (w:World) (G:p.size≤300) (h1:Txt.star (Txt.cut1 47 p)=true) (h2:Txt.cut3 47 p=false):
 Calls Tryz.prog 201 #[.string p,.int .i64 i] w fun e d=>SpanR i p e∧∃n,d=w.drewN n:=by
 have hA:Hid (Txt.spA (lo i) p=lo i):=by unfold Hid;simp[Txt.spA,h1]
 have hB:Hid (Txt.spB (hi i) p=hi i):=by unfold Hid;simp[Txt.spB,h1]
 have hS:Hid (Txt.spS p=1):=by unfold Hid;simp[Txt.spS,h2]
 have hK:Hid (Txt.star (Txt.cut1 47 p)=true∨Txt.cut3 47 p=false∨Txt.cut3 45 (Txt.cut1 47 p)=true):=by unfold Hid;simp[h1]
 have bA:=ge i;have V:=ge i;have Z:=Txt.val_bd (Txt.cut2 47 p);have J:((Txt.cut1 47 p).toList==[42])=true:=h1;have I:Hid ((Txt.cut1 47 p).size≤300):=Nat.le_trans (Txt.cut1_size _ _) G;have s2:Hid ((Txt.cut2 47 p).size≤300):=Nat.le_trans (Txt.cut2_size _ _) G;have U:Hid ((Txt.cut1 45 (Txt.cut1 47 p)).size≤300):=Nat.le_trans (Txt.cut1_size _ _) I.out;have Q:Hid ((Txt.cut2 45 (Txt.cut1 47 p)).size≤300):=Nat.le_trans (Txt.cut2_size _ _) I.out;clear h1
 go_enter Tryz.func201,Tryz.ntmps201
 go_wp2_with fail;refine (em _ _ _ G).mono ?_;rintro e d ⟨rfl,n1,rfl⟩;go_wp2_with fail;refine (dH _ _).mono ?_;rintro e d ⟨rfl,rfl⟩;go_wp2_with fail;refine (dF _ _).mono ?_;rintro e d ⟨rfl,rfl⟩;have O:lo i≤hi i:=by omega
 have Y:lo i≤lo i:=Int.le_refl _
 ·go_wp2_with (first |(go_at_call 219;refine (dH _ _).mono ?_;rintro e d ⟨rfl,rfl⟩)|(go_at_call 220;refine (dF _ _).mono ?_;rintro e d ⟨rfl,rfl⟩))
  exact bodyPost_ret (v:=.tuple #[.int .i64 (lo i),.int .i64 (hi i),.int .i64 (1),.bool true]) (by simp[results,Tryz.results201,go_sem]<;>omega) rfl ⟨dZ hA.out hB.out hS.out hK.out (decide_eq_true ⟨by omega,by omega,by omega,by omega⟩).symm (by omega),⟨n1,rfl⟩⟩
set_option maxHeartbeats 1000000 in
theorem sE (p:ByteArray) (i:Int) (w:World) (G:p.size≤300) (h1:Txt.star (Txt.cut1 47 p)=true) (h2:Txt.cut3 47 p=true):
 Calls Tryz.prog 201 #[.string p,.int .i64 i] w fun e d=>SpanR i p e∧∃n,d=w.drewN n:=by
 have hA:Hid (Txt.spA (lo i) p=lo i):=by unfold Hid;simp[Txt.spA,h1]
 have hB:Hid (Txt.spB (hi i) p=hi i):=by unfold Hid;simp[Txt.spB,h1]
 have hS:Hid (Txt.spS p=Txt.val (Txt.cut2 47 p)):=by unfold Hid;simp[Txt.spS,h2]
 have hK:Hid (Txt.star (Txt.cut1 47 p)=true∨Txt.cut3 47 p=false∨Txt.cut3 45 (Txt.cut1 47 p)=true):=by unfold Hid;simp[h1]
 have bA:=ge i;have Z:=ge i;have bS:=Txt.val_bd (Txt.cut2 47 p);have O:((Txt.cut1 47 p).toList==[42])=true:=h1;have I:Hid ((Txt.cut1 47 p).size≤300):=Nat.le_trans (Txt.cut1_size _ _) G;have J:Hid ((Txt.cut2 47 p).size≤300):=Nat.le_trans (Txt.cut2_size _ _) G;have Y:Hid ((Txt.cut1 45 (Txt.cut1 47 p)).size≤300):=Nat.le_trans (Txt.cut1_size _ _) I.out;have V:Hid ((Txt.cut2 45 (Txt.cut1 47 p)).size≤300):=Nat.le_trans (Txt.cut2_size _ _) I.out;clear h1
 go_enter Tryz.func201,Tryz.ntmps201
 go_wp2_with fail;refine (em _ _ _ G).mono ?_;rintro e d ⟨rfl,n1,rfl⟩;go_wp2_with fail;refine (et _ _ J.out).mono ?_;rintro e d ⟨rfl,rfl⟩;go_wp2_with fail;refine (dH _ _).mono ?_;rintro e d ⟨rfl,rfl⟩;go_wp2_with fail;refine (dF _ _).mono ?_;rintro e d ⟨rfl,rfl⟩;have Q:lo i≤hi i:=by omega
 have t2:lo i≤lo i:=Int.le_refl _
 by_cases U:1≤Txt.val (Txt.cut2 47 p)
 rotate_left
 ·go_wp2_with (first |(go_at_call 219;refine (dH _ _).mono ?_;rintro e d ⟨rfl,rfl⟩)|(go_at_call 220;refine (dF _ _).mono ?_;rintro e d ⟨rfl,rfl⟩))
  exact bodyPost_ret (v:=.tuple #[.int .i64 (lo i),.int .i64 (hi i),.int .i64 (Txt.val (Txt.cut2 47 p)),.bool false]) (by simp[results,Tryz.results201,go_sem]<;>omega) rfl ⟨dZ hA.out hB.out hS.out hK.out (decide_eq_false (by omega)).symm (by omega),⟨n1,rfl⟩⟩
 ·go_wp2_with (first |(go_at_call 219;refine (dH _ _).mono ?_;rintro e d ⟨rfl,rfl⟩)|(go_at_call 220;refine (dF _ _).mono ?_;rintro e d ⟨rfl,rfl⟩))
  exact bodyPost_ret (v:=.tuple #[.int .i64 (lo i),.int .i64 (hi i),.int .i64 (Txt.val (Txt.cut2 47 p)),.bool true]) (by simp[results,Tryz.results201,go_sem]<;>omega) rfl ⟨dZ hA.out hB.out hS.out hK.out (decide_eq_true ⟨by omega,by omega,by omega,by omega⟩).symm (by omega),⟨n1,rfl⟩⟩
set_option maxHeartbeats 1000000 in
theorem sF (p:ByteArray) (i:Int) (w:World) (I:p.size≤300) (h1:Txt.star (Txt.cut1 47 p)=false) (h2:Txt.cut3 47 p=false) (J:Txt.cut3 45 (Txt.cut1 47 p)=false):
 Calls Tryz.prog 201 #[.string p,.int .i64 i] w fun e d=>SpanR i p e∧∃n,d=w.drewN n:=by
 have hA:Hid (Txt.spA (lo i) p=Txt.val (Txt.cut1 45 (Txt.cut1 47 p))):=by unfold Hid;simp[Txt.spA,h1]
 have hB:Hid (Txt.spB (hi i) p=Txt.val (Txt.cut1 45 (Txt.cut1 47 p))):=by unfold Hid;simp[Txt.spB,h1,J]
 have hS:Hid (Txt.spS p=1):=by unfold Hid;simp[Txt.spS,h2]
 have hK:Hid (Txt.star (Txt.cut1 47 p)=true∨Txt.cut3 47 p=false∨Txt.cut3 45 (Txt.cut1 47 p)=true):=by unfold Hid;simp[h2]
 have bA:=Txt.val_bd (Txt.cut1 45 (Txt.cut1 47 p));have Y:=Txt.val_bd (Txt.cut1 45 (Txt.cut1 47 p));have bS:=Txt.val_bd (Txt.cut2 47 p);have Q:((Txt.cut1 47 p).toList==[42])=false:=h1;have G:Hid ((Txt.cut1 47 p).size≤300):=Nat.le_trans (Txt.cut1_size _ _) I;have s2:Hid ((Txt.cut2 47 p).size≤300):=Nat.le_trans (Txt.cut2_size _ _) I;have O:Hid ((Txt.cut1 45 (Txt.cut1 47 p)).size≤300):=Nat.le_trans (Txt.cut1_size _ _) G.out;have V:Hid ((Txt.cut2 45 (Txt.cut1 47 p)).size≤300):=Nat.le_trans (Txt.cut2_size _ _) G.out;clear h1
 go_enter Tryz.func201,Tryz.ntmps201
 go_wp2_with fail;refine (em _ _ _ I).mono ?_;rintro e d ⟨rfl,n1,rfl⟩;go_wp2_with fail;refine (dH _ _).mono ?_;rintro e d ⟨rfl,rfl⟩;go_wp2_with fail;refine (dF _ _).mono ?_;rintro e d ⟨rfl,rfl⟩;go_wp2_with fail;refine (em _ _ _ G.out).mono ?_;rintro e d ⟨rfl,n2,rfl⟩;go_wp2_with fail;refine (et _ _ O.out).mono ?_;rintro e d ⟨rfl,rfl⟩
 by_cases U:lo i≤Txt.val (Txt.cut1 45 (Txt.cut1 47 p))
 rotate_left
 ·go_wp2_with (first |(go_at_call 219;refine (dH _ _).mono ?_;rintro e d ⟨rfl,rfl⟩)|(go_at_call 220;refine (dF _ _).mono ?_;rintro e d ⟨rfl,rfl⟩))
  exact bodyPost_ret (v:=.tuple #[.int .i64 (Txt.val (Txt.cut1 45 (Txt.cut1 47 p))),.int .i64 (Txt.val (Txt.cut1 45 (Txt.cut1 47 p))),.int .i64 (1),.bool false]) (by simp[results,Tryz.results201,go_sem]<;>omega) rfl ⟨dZ hA.out hB.out hS.out hK.out (decide_eq_false (by omega)).symm (by omega),⟨_,rfl⟩⟩
 by_cases Z:Txt.val (Txt.cut1 45 (Txt.cut1 47 p))≤hi i
 rotate_left
 ·go_wp2_with (first |(go_at_call 219;refine (dH _ _).mono ?_;rintro e d ⟨rfl,rfl⟩)|(go_at_call 220;refine (dF _ _).mono ?_;rintro e d ⟨rfl,rfl⟩))
  exact bodyPost_ret (v:=.tuple #[.int .i64 (Txt.val (Txt.cut1 45 (Txt.cut1 47 p))),.int .i64 (Txt.val (Txt.cut1 45 (Txt.cut1 47 p))),.int .i64 (1),.bool false]) (by simp[results,Tryz.results201,go_sem]<;>omega) rfl ⟨dZ hA.out hB.out hS.out hK.out (decide_eq_false (by omega)).symm (by omega),⟨_,rfl⟩⟩
 ·go_wp2_with (first |(go_at_call 219;refine (dH _ _).mono ?_;rintro e d ⟨rfl,rfl⟩)|(go_at_call 220;refine (dF _ _).mono ?_;rintro e d ⟨rfl,rfl⟩))
  exact bodyPost_ret (v:=.tuple #[.int .i64 (Txt.val (Txt.cut1 45 (Txt.cut1 47 p))),.int .i64 (Txt.val (Txt.cut1 45 (Txt.cut1 47 p))),.int .i64 (1),.bool true]) (by simp[results,Tryz.results201,go_sem]<;>omega) rfl ⟨dZ hA.out hB.out hS.out hK.out (decide_eq_true ⟨by omega,by omega,by omega,by omega⟩).symm (by omega),⟨_,rfl⟩⟩
set_option maxHeartbeats 1000000 in
theorem sL (p:ByteArray) (i:Int) (w:World) (I:p.size≤300) (h1:Txt.star (Txt.cut1 47 p)=false) (h2:Txt.cut3 47 p=false) (J:Txt.cut3 45 (Txt.cut1 47 p)=true):
 Calls Tryz.prog 201 #[.string p,.int .i64 i] w fun e d=>SpanR i p e∧∃n,d=w.drewN n:=by
 have hA:Hid (Txt.spA (lo i) p=Txt.val (Txt.cut1 45 (Txt.cut1 47 p))):=by unfold Hid;simp[Txt.spA,h1]
 have hB:Hid (Txt.spB (hi i) p=Txt.val (Txt.cut2 45 (Txt.cut1 47 p))):=by unfold Hid;simp[Txt.spB,h1,J]
 have hS:Hid (Txt.spS p=1):=by unfold Hid;simp[Txt.spS,h2]
 have hK:Hid (Txt.star (Txt.cut1 47 p)=true∨Txt.cut3 47 p=false∨Txt.cut3 45 (Txt.cut1 47 p)=true):=by unfold Hid;simp[h2]
 have bA:=Txt.val_bd (Txt.cut1 45 (Txt.cut1 47 p));have Z:=Txt.val_bd (Txt.cut2 45 (Txt.cut1 47 p));have bS:=Txt.val_bd (Txt.cut2 47 p);have U:((Txt.cut1 47 p).toList==[42])=false:=h1;have G:Hid ((Txt.cut1 47 p).size≤300):=Nat.le_trans (Txt.cut1_size _ _) I;have s2:Hid ((Txt.cut2 47 p).size≤300):=Nat.le_trans (Txt.cut2_size _ _) I;have Q:Hid ((Txt.cut1 45 (Txt.cut1 47 p)).size≤300):=Nat.le_trans (Txt.cut1_size _ _) G.out;have O:Hid ((Txt.cut2 45 (Txt.cut1 47 p)).size≤300):=Nat.le_trans (Txt.cut2_size _ _) G.out;clear h1
 go_enter Tryz.func201,Tryz.ntmps201
 go_wp2_with fail;refine (em _ _ _ I).mono ?_;rintro e d ⟨rfl,n1,rfl⟩;go_wp2_with fail;refine (dH _ _).mono ?_;rintro e d ⟨rfl,rfl⟩;go_wp2_with fail;refine (dF _ _).mono ?_;rintro e d ⟨rfl,rfl⟩;go_wp2_with fail;refine (em _ _ _ G.out).mono ?_;rintro e d ⟨rfl,n2,rfl⟩;go_wp2_with fail;refine (et _ _ Q.out).mono ?_;rintro e d ⟨rfl,rfl⟩;go_wp2_with fail;refine (et _ _ O.out).mono ?_;rintro e d ⟨rfl,rfl⟩
 by_cases V:lo i≤Txt.val (Txt.cut1 45 (Txt.cut1 47 p))
 rotate_left
 ·go_wp2_with (first |(go_at_call 219;refine (dH _ _).mono ?_;rintro e d ⟨rfl,rfl⟩)|(go_at_call 220;refine (dF _ _).mono ?_;rintro e d ⟨rfl,rfl⟩))
  exact bodyPost_ret (v:=.tuple #[.int .i64 (Txt.val (Txt.cut1 45 (Txt.cut1 47 p))),.int .i64 (Txt.val (Txt.cut2 45 (Txt.cut1 47 p))),.int .i64 (1),.bool false]) (by simp[results,Tryz.results201,go_sem]<;>omega) rfl ⟨dZ hA.out hB.out hS.out hK.out (decide_eq_false (by omega)).symm (by omega),⟨_,rfl⟩⟩
 by_cases q1:Txt.val (Txt.cut1 45 (Txt.cut1 47 p))≤Txt.val (Txt.cut2 45 (Txt.cut1 47 p))
 rotate_left
 ·go_wp2_with (first |(go_at_call 219;refine (dH _ _).mono ?_;rintro e d ⟨rfl,rfl⟩)|(go_at_call 220;refine (dF _ _).mono ?_;rintro e d ⟨rfl,rfl⟩))
  exact bodyPost_ret (v:=.tuple #[.int .i64 (Txt.val (Txt.cut1 45 (Txt.cut1 47 p))),.int .i64 (Txt.val (Txt.cut2 45 (Txt.cut1 47 p))),.int .i64 (1),.bool false]) (by simp[results,Tryz.results201,go_sem]<;>omega) rfl ⟨dZ hA.out hB.out hS.out hK.out (decide_eq_false (by omega)).symm (by omega),⟨_,rfl⟩⟩
 by_cases Y:Txt.val (Txt.cut2 45 (Txt.cut1 47 p))≤hi i
 rotate_left
 ·go_wp2_with (first |(go_at_call 219;refine (dH _ _).mono ?_;rintro e d ⟨rfl,rfl⟩)|(go_at_call 220;refine (dF _ _).mono ?_;rintro e d ⟨rfl,rfl⟩))
  exact bodyPost_ret (v:=.tuple #[.int .i64 (Txt.val (Txt.cut1 45 (Txt.cut1 47 p))),.int .i64 (Txt.val (Txt.cut2 45 (Txt.cut1 47 p))),.int .i64 (1),.bool false]) (by simp[results,Tryz.results201,go_sem]<;>omega) rfl ⟨dZ hA.out hB.out hS.out hK.out (decide_eq_false (by omega)).symm (by omega),⟨_,rfl⟩⟩
 ·go_wp2_with (first |(go_at_call 219;refine (dH _ _).mono ?_;rintro e d ⟨rfl,rfl⟩)|(go_at_call 220;refine (dF _ _).mono ?_;rintro e d ⟨rfl,rfl⟩))
  exact bodyPost_ret (v:=.tuple #[.int .i64 (Txt.val (Txt.cut1 45 (Txt.cut1 47 p))),.int .i64 (Txt.val (Txt.cut2 45 (Txt.cut1 47 p))),.int .i64 (1),.bool true]) (by simp[results,Tryz.results201,go_sem]<;>omega) rfl ⟨dZ hA.out hB.out hS.out hK.out (decide_eq_true ⟨by omega,by omega,by omega,by omega⟩).symm (by omega),⟨_,rfl⟩⟩
set_option maxHeartbeats 1000000 in
theorem sK (p:ByteArray) (i:Int) (w:World) (I:p.size≤300) (h1:Txt.star (Txt.cut1 47 p)=false) (h2:Txt.cut3 47 p=true) (J:Txt.cut3 45 (Txt.cut1 47 p)=false):
 Calls Tryz.prog 201 #[.string p,.int .i64 i] w fun e d=>SpanR i p e∧∃n,d=w.drewN n:=by
 have Q:Hid (SpanR i p (.returned (.tuple #[.int .i64 0,.int .i64 0,.int .i64 0,.bool false]))):=su h1 h2 J;have V:((Txt.cut1 47 p).toList==[42])=false:=h1;have G:Hid ((Txt.cut1 47 p).size≤300):=Nat.le_trans (Txt.cut1_size _ _) I;have U:Hid ((Txt.cut2 47 p).size≤300):=Nat.le_trans (Txt.cut2_size _ _) I;have O:Hid ((Txt.cut1 45 (Txt.cut1 47 p)).size≤300):=Nat.le_trans (Txt.cut1_size _ _) G.out;have Y:Hid ((Txt.cut2 45 (Txt.cut1 47 p)).size≤300):=Nat.le_trans (Txt.cut2_size _ _) G.out;clear h1
 go_enter Tryz.func201,Tryz.ntmps201
 go_wp2_with fail;refine (em _ _ _ I).mono ?_;rintro e d ⟨rfl,n1,rfl⟩;go_wp2_with fail;refine (et _ _ U.out).mono ?_;rintro e d ⟨rfl,rfl⟩;go_wp2_with fail;refine (dH _ _).mono ?_;rintro e d ⟨rfl,rfl⟩;go_wp2_with fail;refine (dF _ _).mono ?_;rintro e d ⟨rfl,rfl⟩;go_wp2_with fail;refine (em _ _ _ G.out).mono ?_;rintro e d ⟨rfl,n2,rfl⟩;go_wp2_with fail;refine (et _ _ O.out).mono ?_;rintro e d ⟨rfl,rfl⟩;go_wp2_with fail;exact bodyPost_ret (v:=.tuple #[.int .i64 0,.int .i64 0,.int .i64 0,.bool false]) (by simp[results,Tryz.results201,go_sem]) rfl ⟨Q.out,⟨_,rfl⟩⟩
set_option maxHeartbeats 1000000 in
theorem sS (p:ByteArray) (i:Int) (w:World) (I:p.size≤300) (h1:Txt.star (Txt.cut1 47 p)=false) (h2:Txt.cut3 47 p=true) (J:Txt.cut3 45 (Txt.cut1 47 p)=true):
 Calls Tryz.prog 201 #[.string p,.int .i64 i] w fun e d=>SpanR i p e∧∃n,d=w.drewN n:=by
 have hA:Hid (Txt.spA (lo i) p=Txt.val (Txt.cut1 45 (Txt.cut1 47 p))):=by unfold Hid;simp[Txt.spA,h1]
 have hB:Hid (Txt.spB (hi i) p=Txt.val (Txt.cut2 45 (Txt.cut1 47 p))):=by unfold Hid;simp[Txt.spB,h1,J]
 have hS:Hid (Txt.spS p=Txt.val (Txt.cut2 47 p)):=by unfold Hid;simp[Txt.spS,h2]
 have hK:Hid (Txt.star (Txt.cut1 47 p)=true∨Txt.cut3 47 p=false∨Txt.cut3 45 (Txt.cut1 47 p)=true):=by unfold Hid;simp[J]
 have bA:=Txt.val_bd (Txt.cut1 45 (Txt.cut1 47 p));have bB:=Txt.val_bd (Txt.cut2 45 (Txt.cut1 47 p));have bS:=Txt.val_bd (Txt.cut2 47 p);have V:((Txt.cut1 47 p).toList==[42])=false:=h1;have G:Hid ((Txt.cut1 47 p).size≤300):=Nat.le_trans (Txt.cut1_size _ _) I;have U:Hid ((Txt.cut2 47 p).size≤300):=Nat.le_trans (Txt.cut2_size _ _) I;have Q:Hid ((Txt.cut1 45 (Txt.cut1 47 p)).size≤300):=Nat.le_trans (Txt.cut1_size _ _) G.out;have O:Hid ((Txt.cut2 45 (Txt.cut1 47 p)).size≤300):=Nat.le_trans (Txt.cut2_size _ _) G.out;clear h1
 go_enter Tryz.func201,Tryz.ntmps201
 go_wp2_with fail;refine (em _ _ _ I).mono ?_;rintro e d ⟨rfl,n1,rfl⟩;go_wp2_with fail;refine (et _ _ U.out).mono ?_;rintro e d ⟨rfl,rfl⟩;go_wp2_with fail;refine (dH _ _).mono ?_;rintro e d ⟨rfl,rfl⟩;go_wp2_with fail;refine (dF _ _).mono ?_;rintro e d ⟨rfl,rfl⟩;go_wp2_with fail;refine (em _ _ _ G.out).mono ?_;rintro e d ⟨rfl,n2,rfl⟩;go_wp2_with fail;refine (et _ _ Q.out).mono ?_;rintro e d ⟨rfl,rfl⟩;go_wp2_with fail;refine (et _ _ O.out).mono ?_;rintro e d ⟨rfl,rfl⟩
 by_cases Z:1≤Txt.val (Txt.cut2 47 p)
 rotate_left
 ·go_wp2_with (first |(go_at_call 219;refine (dH _ _).mono ?_;rintro e d ⟨rfl,rfl⟩)|(go_at_call 220;refine (dF _ _).mono ?_;rintro e d ⟨rfl,rfl⟩))
  exact bodyPost_ret (v:=.tuple #[.int .i64 (Txt.val (Txt.cut1 45 (Txt.cut1 47 p))),.int .i64 (Txt.val (Txt.cut2 45 (Txt.cut1 47 p))),.int .i64 (Txt.val (Txt.cut2 47 p)),.bool false]) (by simp[results,Tryz.results201,go_sem]<;>omega) rfl ⟨dZ hA.out hB.out hS.out hK.out (decide_eq_false (by omega)).symm (by omega),⟨_,rfl⟩⟩
 by_cases q1:lo i≤Txt.val (Txt.cut1 45 (Txt.cut1 47 p))
 rotate_left
 ·go_wp2_with (first |(go_at_call 219;refine (dH _ _).mono ?_;rintro e d ⟨rfl,rfl⟩)|(go_at_call 220;refine (dF _ _).mono ?_;rintro e d ⟨rfl,rfl⟩))
  exact bodyPost_ret (v:=.tuple #[.int .i64 (Txt.val (Txt.cut1 45 (Txt.cut1 47 p))),.int .i64 (Txt.val (Txt.cut2 45 (Txt.cut1 47 p))),.int .i64 (Txt.val (Txt.cut2 47 p)),.bool false]) (by simp[results,Tryz.results201,go_sem]<;>omega) rfl ⟨dZ hA.out hB.out hS.out hK.out (decide_eq_false (by omega)).symm (by omega),⟨_,rfl⟩⟩
 by_cases q2:Txt.val (Txt.cut1 45 (Txt.cut1 47 p))≤Txt.val (Txt.cut2 45 (Txt.cut1 47 p))
 rotate_left
 ·go_wp2_with (first |(go_at_call 219;refine (dH _ _).mono ?_;rintro e d ⟨rfl,rfl⟩)|(go_at_call 220;refine (dF _ _).mono ?_;rintro e d ⟨rfl,rfl⟩))
  exact bodyPost_ret (v:=.tuple #[.int .i64 (Txt.val (Txt.cut1 45 (Txt.cut1 47 p))),.int .i64 (Txt.val (Txt.cut2 45 (Txt.cut1 47 p))),.int .i64 (Txt.val (Txt.cut2 47 p)),.bool false]) (by simp[results,Tryz.results201,go_sem]<;>omega) rfl ⟨dZ hA.out hB.out hS.out hK.out (decide_eq_false (by omega)).symm (by omega),⟨_,rfl⟩⟩
 by_cases Y:Txt.val (Txt.cut2 45 (Txt.cut1 47 p))≤hi i
 rotate_left
 ·go_wp2_with (first |(go_at_call 219;refine (dH _ _).mono ?_;rintro e d ⟨rfl,rfl⟩)|(go_at_call 220;refine (dF _ _).mono ?_;rintro e d ⟨rfl,rfl⟩))
  exact bodyPost_ret (v:=.tuple #[.int .i64 (Txt.val (Txt.cut1 45 (Txt.cut1 47 p))),.int .i64 (Txt.val (Txt.cut2 45 (Txt.cut1 47 p))),.int .i64 (Txt.val (Txt.cut2 47 p)),.bool false]) (by simp[results,Tryz.results201,go_sem]<;>omega) rfl ⟨dZ hA.out hB.out hS.out hK.out (decide_eq_false (by omega)).symm (by omega),⟨_,rfl⟩⟩
 ·go_wp2_with (first |(go_at_call 219;refine (dH _ _).mono ?_;rintro e d ⟨rfl,rfl⟩)|(go_at_call 220;refine (dF _ _).mono ?_;rintro e d ⟨rfl,rfl⟩))
  exact bodyPost_ret (v:=.tuple #[.int .i64 (Txt.val (Txt.cut1 45 (Txt.cut1 47 p))),.int .i64 (Txt.val (Txt.cut2 45 (Txt.cut1 47 p))),.int .i64 (Txt.val (Txt.cut2 47 p)),.bool true]) (by simp[results,Tryz.results201,go_sem]<;>omega) rfl ⟨dZ hA.out hB.out hS.out hK.out (decide_eq_true ⟨by omega,by omega,by omega,by omega⟩).symm (by omega),⟨_,rfl⟩⟩
theorem j5 (p:ByteArray) (i:Int) (w:World) (d:p.size≤300):
 Calls Tryz.prog 201 #[.string p,.int .i64 i] w fun e I=>SpanR i p e∧∃n,I=w.drewN n:=by
 cases h1:Txt.star (Txt.cut1 47 p)<;>cases h2:Txt.cut3 47 p
 ·cases G:Txt.cut3 45 (Txt.cut1 47 p)
  ·exact sF p i w d h1 h2 G
  ·exact sL p i w d h1 h2 G
 ·cases G:Txt.cut3 45 (Txt.cut1 47 p)
  ·exact sK p i w d h1 h2 G
  ·exact sS p i w d h1 h2 G
 ·exact sP p i w d h1 h2
 ·exact sE p i w d h1 h2
theorem mj (c:Int) (y:ByteArray) (L:List ByteArray) (n:Nat) (h:L.length+y.size≤n+(if true=true then 0 else 1)):
 (L++[Txt.cut1 c y]).length+(Txt.cut2 c y).size≤n+(if Txt.cut3 c y=true then 0 else 1)∧(Txt.cut2 c y).size+boolSize (.bool (Txt.cut3 c y))<y.size+1:=by
 cases q:Txt.cut3 c y
 ·have d:¬Txt.fst c y<y.size:=by simpa [Txt.cut3] using q
  have e:Txt.cut2 c y=ByteArray.empty:=by simp[Txt.cut2,d]
  simp[e,boolSize] at h ⊢;omega
 ·have:=Txt.cut2_lt q;simp[boolSize] at h ⊢;omega
theorem nQ (c:Int) (s y:ByteArray) (L:List ByteArray) (h:Txt.pcs c s=L++(if true=true then Txt.pcs c y else [])):
 Txt.pcs c s=(L++[Txt.cut1 c y])++(if Txt.cut3 c y=true then Txt.pcs c (Txt.cut2 c y) else []):=by
 rw[h,if_pos rfl,Txt.pcs_cut]
 cases Txt.cut3 c y<;>simp
set_option maxHeartbeats 1000000 in
theorem eN (s:ByteArray) (c:Int) (w:World) (hs:s.size≤300):
 Calls Tryz.prog 174 #[.string s,.int .u8 c] w fun e w'=>(∃b I,e=.returned (.slice (some ⟨b,0,none⟩) (Txt.pcs c s).length I)∧w.heap.size≤b∧(Txt.pcs c s).length≤I∧StrsAt w' b (Txt.pcs c s))∧Below w.heap.size w w':=by
 obtain⟨i0,hi,ai,ag,aj⟩:=info_parts lL
 go_enter Tryz.func174,Tryz.ntmps174
 go_wp2_with fail
 go_loopw [0,5,6] (fun x v m wr=>∃(y:ByteArray) (L:List ByteArray) (more:Bool),y.size≤300∧x=.string y∧m=.bool more∧L.length+y.size≤s.size+(if more=true then 0 else 1)∧Txt.pcs c s=L++(if more=true then Txt.pcs c y else [])∧wr.ownsRow w.heap.size 9 1 v L.length (L.map Value.string)∧Below w.heap.size w wr) (fun x _ m _=>strSize x+boolSize m)
 case atStart=>exact⟨s,[],true,hs,rfl,rfl,by simp,by simp,World.ownsRow_nil _ _ _ _,Below.refl _ _⟩
 case round=>
  obtain⟨y,L,more,hy,rfl,rfl,hL,V,G,O⟩:=hrel;have ad:=O.size
  cases more
  ·have U:Hid (Txt.pcs c s=L):=by unfold Hid;rw[V];simp
   clear V;have ah:0<L.length:=by have:=Txt.pcs_ne c s;rw[U.out] at this;exact this
   obtain⟨g,I,Y,af,_⟩:=G.form ah;have HV:Hid (u5=Value.slice (some ⟨g,0,none⟩) (Txt.pcs c s).length I):=by unfold Hid;rw[U.out];exact Y
   have d:=G;rw[Y] at d;have hA:Hid (StrsAt wr g (Txt.pcs c s)):=by unfold Hid;rw[U.out];exact ip d rfl
   have Z:Hid ((Txt.pcs c s).length≤I):=by
    unfold Hid;rw[U.out]
    rcases d.2 with ⟨h,_⟩|⟨g',ao,cur,h,_,_,h2,_⟩
    ·cases h
    ·cases h;exact h2
   clear d G hL Y;go_wp2_with fail;go_ret;exact⟨⟨g,I,congrArg Ending.returned HV.out,af,Z.out,hA.out⟩,O⟩
  ·have HS:Hid ((L++[Txt.cut1 c y]).length+(Txt.cut2 c y).size≤s.size+(if Txt.cut3 c y=true then 0 else 1)∧(Txt.cut2 c y).size+boolSize (.bool (Txt.cut3 c y))<y.size+1):=mj c y L _ hL
   have U:Hid (Txt.pcs c s=(L++[Txt.cut1 c y])++(if Txt.cut3 c y=true then Txt.pcs c (Txt.cut2 c y) else [])):=nQ c s y L V
   have HY:Hid ((Txt.cut2 c y).size≤300):=Nat.le_trans (Txt.cut2_size _ _) hy;have av:L.length≤300:=by simp at hL;omega
   clear V hL;go_wp2_with fail;refine (em _ _ _ hy).mono ?_;rintro e w' ⟨rfl,n1,rfl⟩;go_wp2_with (at_builtin;refine wpList_append_lies _ rfl (.tmp 18) (.tmp 20) 60 rfl w.heap.size 9 i0 (.string ByteArray.empty) 1 16 Tryz.underlying60 hi ai ag aj rfl (by decide) _ _ _ rfl (fC (G.alloc _) _) ⟨wr.heap.size,0,none⟩ 1 1 [.string (Txt.cut1 c y)] rfl rfl ?c1 ?c2 (by decide) ?c3 ?c4 ?c5 _ rfl ?_)
   case c1=>exact cell_one_new _ _ _
   case c2=>intro u hu;simp at hu;subst hu;rfl
   case c3=>unfold maxLen;omega
   case c4=>omega
   case c5=>simp;omega
   ·intro g I w1 J Q _ ap;have B1:Below w.heap.size w w1:=(below_drewN (O.alloc ad _) _).grown Q (by simp;omega) (fun k' e=>(G.lt k' e).1)
    have d:w1.ownsRow w.heap.size 9 1 (.slice (some ⟨g,0,none⟩) (L.length+1) I) (L++[Txt.cut1 c y]).length ((L++[Txt.cut1 c y]).map Value.string):=by simpa using J
    clear J Q G O;go_wp2_with fail;go_roundw
    case rel=>exact⟨Txt.cut2 c y,L++[Txt.cut1 c y],Txt.cut3 c y,HY.out,rfl,rfl,HS.out.1,U.out,d,B1⟩
    case measure=>exact HS.out.2
set_option maxHeartbeats 1000000 in
theorem lH (f:ByteArray) (i:Int) (w:World) (O:f.size≤300):
 Calls Tryz.prog 175 #[.string f,.int .i64 i] w fun e U=>e=.returned (.bool (Txt.fldB (lo i) (hi i) f))∧Below w.heap.size w U:=by
 go_enter Tryz.func175,Tryz.ntmps175
 go_wp2_with fail;refine (eN _ _ _ O).mono ?_;rintro e w1 ⟨⟨b,ad,rfl,_,Z,hS⟩,hb⟩;have aa:=Txt.pcs_len 44 f;have HC:=Hq hS;clear hS;go_wp2_with fail
 go_loopw [6] (fun x wr=>∃k:Nat,k≤(Txt.pcs 44 f).length∧x=.int .i64 k∧(∀j (I:j<(Txt.pcs 44 f).length),j<k→Txt.spK (lo i) (hi i) (Txt.pcs 44 f)[j]=true)∧∃n,wr=w1.drewN n) (fun x _=>(Txt.pcs 44 f).length-(intOf x).toNat)
 case atStart=>exact⟨0,Nat.zero_le _,rfl,fun j _ h=>by omega,0,rfl⟩
 case round=>
  obtain⟨k,hk,rfl,d,n0,rfl⟩:=hrel;have V:=Hq d;clear d
  by_cases G:k<(Txt.pcs 44 f).length
  ·have Y:w1.cell? ⟨b,k,none⟩=some (.string (Txt.pcs 44 f)[k]):=HC.out k G;have Q:Hid ((Txt.pcs 44 f)[k].size≤300):=Txt.pcs_sz O k G;go_wp2_with fail;refine (j5 _ _ _ Q.out).mono ?_;rintro e U ⟨⟨a1,b1,t1,rfl,_,_⟩,n1,rfl⟩
   cases J:Txt.spK (lo i) (hi i) (Txt.pcs 44 f)[k]
   ·have e:Hid (Txt.fldB (lo i) (hi i) f=false):=Txt.fldB_no G J;go_wp2_with fail;go_ret;exact⟨dy e.out.symm,below_drewN hb _⟩
   ·have HQ:=Hq J;go_wp2_with fail;go_roundw
    case rel=>
     refine⟨k+1,by omega,by go_num,fun j I h=>?_,_,rfl⟩
     by_cases q:j=k
     ·subst q;exact HQ.out
     ·exact V.out j I (by omega)
    case measure=>simp[intOf];omega
  ·have e:Hid (Txt.fldB (lo i) (hi i) f=true):=Txt.fldB_yes (fun j I=>V.out j I (by omega))
   go_wp2_with fail;go_ret;exact⟨dy e.out.symm,below_drewN hb _⟩
set_option maxHeartbeats 1000000 in
theorem oh (f:ByteArray) (i v:Int) (w:World) (hs:f.size≤300) (v1:0≤v) (v2:v≤60) (hf:Txt.fldB (lo i) (hi i) f=true):
 Calls Tryz.prog 226 #[.string f,.int .i64 i,.int .i64 v] w fun e w'=>e=.returned (.bool (Txt.hldB (lo i) (hi i) v f))∧Below w.heap.size w w':=by
 have HF:=Hq hf;clear hf
 go_enter Tryz.func226,Tryz.ntmps226
 go_wp2_with fail;refine (eN _ _ _ hs).mono ?_;rintro e w1 ⟨⟨b,aq,rfl,_,aj,hS⟩,hb⟩;have ah:=Txt.pcs_len 44 f;have ap:=ge i;have HC:=Hq hS;clear hS;go_wp2_with fail
 go_loopw [8] (fun x wr=>∃k:Nat,k≤(Txt.pcs 44 f).length∧x=.int .i64 k∧(∀j (I:j<(Txt.pcs 44 f).length),j<k→Txt.inB (Txt.spA (lo i) (Txt.pcs 44 f)[j]) (Txt.spB (hi i) (Txt.pcs 44 f)[j]) (Txt.spS (Txt.pcs 44 f)[j]) v=false)∧∃n,wr=w1.drewN n) (fun x _=>(Txt.pcs 44 f).length-(intOf x).toNat)
 case atStart=>exact⟨0,Nat.zero_le _,rfl,fun j _ h=>by omega,0,rfl⟩
 case round=>
  obtain⟨k,hk,rfl,G,n0,rfl⟩:=hrel;have V:=Hq G;clear G
  by_cases d:k<(Txt.pcs 44 f).length
  ·have ad:w1.cell? ⟨b,k,none⟩=some (.string (Txt.pcs 44 f)[k]):=HC.out k d;have Z:Hid ((Txt.pcs 44 f)[k].size≤300):=Txt.pcs_sz hs k d;have hK:=Txt.fldB_at HF.out k d;have ao:=Txt.spK_bd hK;have HK:=Hq hK;clear hK;go_wp2_with fail;refine (j5 _ _ _ Z.out).mono ?_;rintro e w' ⟨⟨a1,b1,t1,rfl,_,Y⟩,n1,rfl⟩;obtain⟨rfl,rfl,rfl⟩:=Y HK.out
   have Q:Hid (Txt.inB (Txt.spA (lo i) (Txt.pcs 44 f)[k]) (Txt.spB (hi i) (Txt.pcs 44 f)[k]) (Txt.spS (Txt.pcs 44 f)[k]) v=false→∀j (I:j<(Txt.pcs 44 f).length),j<k+1→Txt.inB (Txt.spA (lo i) (Txt.pcs 44 f)[j]) (Txt.spB (hi i) (Txt.pcs 44 f)[j]) (Txt.spS (Txt.pcs 44 f)[j]) v=false):=by
    intro h j I hl
    by_cases q:j=k
    ·subst q;exact h
    ·exact V.out j I (by omega)
   have HY:Hid (Txt.inB (Txt.spA (lo i) (Txt.pcs 44 f)[k]) (Txt.spB (hi i) (Txt.pcs 44 f)[k]) (Txt.spS (Txt.pcs 44 f)[k]) v=true→Txt.hldB (lo i) (hi i) v f=true):=Txt.hldB_yes d;generalize Txt.spA (lo i) (Txt.pcs 44 f)[k]=A at *;generalize Txt.spB (hi i) (Txt.pcs 44 f)[k]=B at *;generalize Txt.spS (Txt.pcs 44 f)[k]=S at *
   by_cases q1:A≤v
   rotate_left
   ·go_wp2_with fail;go_roundw
    case rel=>exact⟨k+1,by omega,by go_num,Q.out (Txt.inB_no (by omega)),_,rfl⟩
    case measure=>simp[intOf];omega
   by_cases q2:v≤B
   rotate_left
   ·go_wp2_with fail;go_roundw
    case rel=>exact⟨k+1,by omega,by go_num,Q.out (Txt.inB_no (by omega)),_,rfl⟩
    case measure=>simp[intOf];omega
   cases O:((v-A) % S==0)
   ·have J:¬(v-A) % S=0:=by simpa using O
    have Q4:=Hq J;clear J;have U:((v-A).tmod S==0)=false:=by rw[Int.tmod_eq_emod_of_nonneg (by omega)];exact O
    go_wp2_with fail;go_roundw
    case rel=>exact⟨k+1,by omega,by go_num,Q.out (Txt.inB_no (Or.inr (Or.inr (Or.inr Q4.out)))),_,rfl⟩
    case measure=>simp[intOf];omega
   ·have J:(v-A) % S=0:=by simpa using O
    have e:Hid (Txt.hldB (lo i) (hi i) v f=true):=HY.out (Txt.inB_yes q1 q2 (by omega) J)
    have U:((v-A).tmod S==0)=true:=by rw[Int.tmod_eq_emod_of_nonneg (by omega)];exact O
    clear J;go_wp2_with fail;go_ret;exact⟨dy e.out.symm,below_drewN hb _⟩
  ·have e:Hid (Txt.hldB (lo i) (hi i) v f=false):=Txt.hldB_no (fun j I=>V.out j I (by omega))
   go_wp2_with fail;go_ret;exact⟨dy e.out.symm,below_drewN hb _⟩
set_option maxHeartbeats 2000000 in
theorem mZ (s:ByteArray) (w:World) (hs:s.size≤300):
 Calls Tryz.prog 141 #[.string s] w fun e Q=>e=.returned (.bool (lineB s))∧Below w.heap.size w Q:=by
 go_enter Tryz.func141,Tryz.ntmps141
 go_wp2_with fail;refine (eN _ _ _ hs).mono ?_;rintro e w1 ⟨⟨b,aH,rfl,_,aF,hS⟩,hb⟩;have aC:=Txt.pcs_len 32 s
 by_cases n7:(Txt.pcs 32 s).length<7
 ·have e:Hid (lineB s=false):=eh (fun h=>by have:=h.n7;omega)
  go_wp2_with fail;go_ret;exact⟨dy e.out.symm,hb⟩
 by_cases n11:11<(Txt.pcs 32 s).length
 ·have e:Hid (lineB s=false):=eh (fun h=>by have:=h.n11;omega)
  go_wp2_with fail;go_ret;exact⟨dy e.out.symm,hb⟩
 have V:5<(Txt.pcs 32 s).length:=by omega
 have c5:w1.cell? ⟨b,5,none⟩=some (.string (Txt.pcs 32 s)[5]):=hS 5 V;have z5:(Txt.pcs 32 s)[5].size≤300:=Txt.pcs_sz hs 5 V;have HS:=Hq hS;clear hS
 by_cases n3:(Txt.pcs 32 s)[5].size=3
 rotate_left
 ·have e:Hid (lineB s=false):=eh (fun h=>by
   have:=h.opt V
   rw[Txt.optB_no (fun q=>n3 q.1)] at this;cases this)
  have ap:(((Txt.pcs 32 s)[5].size:Int) !=3)=true:=by simp;omega
  clear n3;go_wp2_with fail;go_ret;exact⟨dy e.out.symm,hb⟩
 have ap:(((Txt.pcs 32 s)[5].size:Int) !=3)=false:=by simp;omega
 have N3:=Hq n3;clear n3;go_wp2_with fail;clear c5
 go_loopw [4] (fun x wr=>∃k:Nat,k≤5∧x=.int .i64 k∧(∀(j:Nat) (Z:j<(Txt.pcs 32 s).length),j<k→Txt.fldB (lo j) (hi j) (Txt.pcs 32 s)[j]=true)∧Below w1.heap.size w1 wr) (fun x _=>5-(intOf x).toNat)
 case atStart=>exact⟨0,by omega,rfl,fun j _ h=>by omega,Below.refl _ _⟩
 case round=>
  obtain⟨k,hk,rfl,d,G⟩:=hrel;have HA:=Hq d;clear d;have U:=Hq (hb.trans (G.mono hb.size))
  by_cases al:k<5
  ·have J:k<(Txt.pcs 32 s).length:=by omega
   have O:wr.cell? ⟨b,k,none⟩=some (.string (Txt.pcs 32 s)[k]):=cell_later G (HS.out k J);have zk:Hid ((Txt.pcs 32 s)[k].size≤300):=Txt.pcs_sz hs k J;go_wp2_with fail;refine (lH _ _ _ zk.out).mono ?_;rintro e w2 ⟨rfl,ag⟩;clear O;have aa:Below w1.heap.size w1 w2:=G.trans (ag.mono G.size);have aq:=Hq (hb.trans (aa.mono hb.size));clear G ag
   cases I:Txt.fldB (lo k) (hi k) (Txt.pcs 32 s)[k]
   ·have e:Hid (lineB s=false):=eh (fun h=>by rw[h.fld k J al] at I;cases I)
    go_wp2_with fail;go_ret;exact⟨dy e.out.symm,aq.out⟩
   ·have HQ:=Hq I;go_wp2_with fail;go_roundw
    case rel=>
     refine⟨k+1,by omega,by go_num,fun j Z h=>?_,aa⟩
     by_cases q:j=k
     ·subst q;exact HQ.out
     ·exact HA.out j Z (by omega)
    case measure=>simp[intOf];omega
  ·obtain rfl:k=5:=by omega
   have c5:wr.cell? ⟨b,5,none⟩=some (.string (Txt.pcs 32 s)[5]):=cell_later G (HS.out 5 V);have i3:(Txt.pcs 32 s)[5].size=3:=N3.out;have x0:((Txt.pcs 32 s)[5].extract 0 1).size≤300:=by simp[ByteArray.size_extract];omega
   have x1:((Txt.pcs 32 s)[5].extract 1 2).size≤300:=by simp[ByteArray.size_extract];omega
   have x2:((Txt.pcs 32 s)[5].extract 2 (Txt.pcs 32 s)[5].size).size≤300:=by simp[ByteArray.size_extract];omega
   have X0:=Hq x0;have X1:=Hq x1;have X2:=Hq x2;clear x0 x1 x2 i3;have y1:1≤(Txt.pcs 32 s)[5].size:=by have:=N3.out;omega
   have y2:2≤(Txt.pcs 32 s)[5].size:=by have:=N3.out;omega
   go_wp2_with fail;refine (fT _ _ _ X0.out (by decide)).mono ?_
   rintro e Q ⟨rfl,m1,rfl⟩;go_wp2_with fail;refine (fT _ _ _ X1.out (by decide)).mono ?_
   rintro e Q ⟨rfl,m2,rfl⟩;go_wp2_with fail;refine (fT _ _ _ X2.out (by decide)).mono ?_
   rintro e Q ⟨rfl,m3,rfl⟩;have OA:Hid ((Txt.amgB ((Txt.pcs 32 s)[5].extract 0 1) ⟨#[120,111]⟩&&Txt.amgB ((Txt.pcs 32 s)[5].extract 1 2) ⟨#[97,108,110]⟩&&Txt.amgB ((Txt.pcs 32 s)[5].extract 2 (Txt.pcs 32 s)[5].size) ⟨#[49,50,51,52,53]⟩)=Txt.optB (Txt.pcs 32 s)[5]):=Txt.opt_amg N3.out;generalize Txt.amgB ((Txt.pcs 32 s)[5].extract 0 1) ⟨#[120,111]⟩=A0 at *;generalize Txt.amgB ((Txt.pcs 32 s)[5].extract 1 2) ⟨#[97,108,110]⟩=A1 at *;generalize Txt.amgB ((Txt.pcs 32 s)[5].extract 2 (Txt.pcs 32 s)[5].size) ⟨#[49,50,51,52,53]⟩=A2 at *;go_wp2_with fail
   go_loop [9] (fun x=>∃k:Nat,6≤k∧k≤(Txt.pcs 32 s).length∧x=.int .i64 k∧(∀(j:Nat) (Z:j<(Txt.pcs 32 s).length),6≤j→j<k→Txt.stepB (Txt.pcs 32 s)[j]=true)) (fun x=>(Txt.pcs 32 s).length-(intOf x).toNat)
   case atStart=>exact⟨6,by omega,by omega,rfl,fun j _ h h'=>by omega⟩
   case round=>
    obtain⟨k,ay,J,rfl,d⟩:=hrel;have HT:=Hq d;clear d
    by_cases Y:k<(Txt.pcs 32 s).length
    ·have O:wr.cell? ⟨b,k,none⟩=some (.string (Txt.pcs 32 s)[k]):=cell_later G (HS.out k Y);have zk:Hid ((Txt.pcs 32 s)[k].size≤300):=Txt.pcs_sz hs k Y
     cases I:Txt.stepB (Txt.pcs 32 s)[k]
     ·have e:Hid (lineB s=false):=eh (fun h=>by rw[h.stp k Y ay] at I;cases I)
      go_wp2_with (go_at_call 177;refine (ix _ _ zk.out).mono ?_;rintro e Q ⟨rfl,rfl⟩);go_ret;exact⟨dy e.out.symm,below_drewN U.out _⟩
     ·have HQ:=Hq I;go_wp2_with (go_at_call 177;refine (ix _ _ zk.out).mono ?_;rintro e Q ⟨rfl,rfl⟩)
      go_round
      case rel=>
       refine⟨k+1,by omega,by omega,by go_num,fun j Z h1 h=>?_⟩
       by_cases q:j=k
       ·subst q;exact HQ.out
       ·exact HT.out j Z h1 (by omega)
      case measure=>simp[intOf];omega
    ·have e:Hid (Txt.optB (Txt.pcs 32 s)[5]=lineB s):=by
      unfold Hid
      cases q:Txt.optB (Txt.pcs 32 s)[5]
      ·exact (eh (fun h=>by rw[h.opt V] at q;cases q)).symm
      ·exact (jy ⟨by omega,by omega,fun i h h'=>HA.out i h h',fun _=>q,fun i h h'=>HT.out i h h' (by omega)⟩).symm
     have E:Hid (∀r:Bool,r=(A0&&A1&&A2)→r=lineB s):=fun r hr=>by rw[hr,OA.out,e.out]
     clear e OA
     cases A0
     ·go_wp2_with fail;go_ret;exact⟨dy (E.out _ rfl),below_drewN U.out _⟩
     cases A1
     ·go_wp2_with fail;go_ret;exact⟨dy (E.out _ rfl),below_drewN U.out _⟩
     cases A2
     ·go_wp2_with fail;go_ret;exact⟨dy (E.out _ rfl),below_drewN U.out _⟩
     ·go_wp2_with fail;go_ret;exact⟨dy (E.out _ rfl),below_drewN U.out _⟩
end Go.Proofs.YtdajolpoiffimabGreatDoor
