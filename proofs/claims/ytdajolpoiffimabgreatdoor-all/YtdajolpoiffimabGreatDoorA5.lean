import Derived.Deep.RegionHeld3
import Derived.Deep.DrawnRows
import Derived.Test.YtdajolpoiffimabGreatDoorA2

namespace Go.Proofs.YtdajolpoiffimabGreatDoor
open Go.RowKit
set_option maxHeartbeats 0 in
theorem fN (y:Int) (w:World) (h1:0≤y) (h2:y≤20000):
 Calls Tryz.prog 228 #[.int .i64 y] w fun e d=>e=.returned (.int .i64 (365+Cal.lp y))∧d=w:=by
 by_cases a:y % 400=0
 ·have e:Hid (Cal.lp y=1):=Cal.lp_yes (Or.inl a)
  go_enter Tryz.func228,Tryz.ntmps228
  go_wp2
  go_ret
  exact⟨dN (by rw[e.out];rfl),rfl⟩
 ·by_cases b:y % 4=0
  ·by_cases c:y % 100=0
   ·have e:Hid (Cal.lp y=0):=Cal.lp_no (by omega)
    go_enter Tryz.func228,Tryz.ntmps228
    go_wp2
    go_ret
    exact⟨dN (by rw[e.out];rfl),rfl⟩
   ·have e:Hid (Cal.lp y=1):=Cal.lp_yes (Or.inr ⟨b,c⟩);have G:(y % 100 !=0)=true:=by simpa using c
    go_enter Tryz.func228,Tryz.ntmps228
    go_wp2
    go_ret
    exact⟨dN (by rw[e.out];rfl),rfl⟩
  ·have e:Hid (Cal.lp y=0):=Cal.lp_no (by omega)
   go_enter Tryz.func228,Tryz.ntmps228
   go_wp2
   go_ret
   exact⟨dN (by rw[e.out];rfl),rfl⟩
set_option maxHeartbeats 0 in
theorem eJ (y m:Int) (w:World) (h1:0≤y) (h2:y≤20000):
 Calls Tryz.prog 227 #[.int .i64 y,.int .i64 m] w fun e G=>e=.returned (.int .i64 (Cal.dim y m))∧G=w:=by
 have d:=Cal.lp_01 y
 by_cases a:m=2
 ·subst a;have e:Hid (Cal.dim y 2=28+Cal.lp y):=if_pos rfl
  go_enter Tryz.func227,Tryz.ntmps227
  go_wp2_with (go_at_call 228;refine (fN _ _ (by omega) (by omega)).mono ?_;rintro e G ⟨rfl,rfl⟩)
  go_ret
  exact⟨dN (by rw[e.out];omega),rfl⟩
 ·by_cases b:m=4∨m=6∨m=9∨m=11
  ·have e:Hid (Cal.dim y m=30):=by unfold Hid Cal.dim;rw[if_neg a,if_pos b]
   clear a d
   rcases b with rfl|rfl|rfl|rfl
   all_goals
    go_enter Tryz.func227,Tryz.ntmps227
    go_wp2_with fail;go_ret;exact⟨dN e.out.symm,rfl⟩
  ·have e:Hid (Cal.dim y m=31):=by unfold Hid Cal.dim;rw[if_neg a,if_neg b]
   have b1:¬m=4:=by omega
   have J:¬m=6:=by omega
   have I:¬m=9:=by omega
   have O:¬m=11:=by omega
   clear b d
   go_enter Tryz.func227,Tryz.ntmps227
   go_wp2_with fail;go_ret;exact⟨dN e.out.symm,rfl⟩
set_option maxHeartbeats 0 in
theorem fO (m:Int) (w:World):
 Calls Tryz.prog 144 #[.int .i64 m] w fun e d=>e=.returned (.bool (minB m))∧d=w:=by
 by_cases a:0≤m
 ·by_cases b:m≤4223371679
  ·have e:Hid (minB m=true):=gy a b
   go_enter Tryz.func144,Tryz.ntmps144
   go_wp2_with fail;go_ret;exact⟨by rw[e.out];rfl,rfl⟩
  ·have e:Hid (minB m=false):=il (by omega)
   go_enter Tryz.func144,Tryz.ntmps144
   go_wp2_with fail;go_ret;exact⟨by rw[e.out];rfl,rfl⟩
 ·have e:Hid (minB m=false):=il (by omega)
  go_enter Tryz.func144,Tryz.ntmps144
  go_wp2_with fail;go_ret;exact⟨by rw[e.out];rfl,rfl⟩
set_option maxHeartbeats 0 in
theorem rW (n:Int) (w:World) (h1:0≤n) (h2:n≤2932896):
 Calls Tryz.prog 225 #[.int .i64 n] w fun e G=>(∃y mo d:Int,Cal.IsD n y mo d∧e=.returned (dateV y mo d 0 0 ((4+n) % 7)))∧Below w.heap.size w G:=by
 have U:=Cal.dby_cycle n
 go_enter Tryz.func225,Tryz.ntmps225
 go_wp2_with fail
 go_loopw [4] (fun r wr=>∃y:Int,1970≤y∧y≤9999∧Cal.dby y≤n∧r=.int .i64 (n-Cal.dby y)∧wr=(w.alloc (.cells #[.int .i64 0,.int .i64 0,.int .i64 0,.int .i64 0,.int .i64 0,.int .i64 0] 194)).alloc (.cells #[.int .i64 y,.int .i64 1,.int .i64 1,.int .i64 0,.int .i64 0,.int .i64 ((4+n) % 7)] 194)) (fun r _=>(intOf r).toNat)
 case atStart=>exact⟨_,by omega,by omega,by rw[U];omega,by rw[U];go_num,rfl⟩
 case round=>
  obtain⟨y,I,O,ab,rfl,rfl⟩:=hrel;clear U;have Y:Hid (Cal.dby (y+1)=Cal.dby y+365+Cal.lp y):=Cal.dby_succ y;have hl:=Cal.lp_01 y;have hb:=Cal.dby_bd I (Int.le_trans O (by omega))
  by_cases hc:365+Cal.lp y≤n-Cal.dby y
  ·have ac:y≤9998:=by
    by_cases e:y=9999
    ·subst e;have:=Y.out;have:Cal.dby (9999+1)=2932897:=Cal.dby_10000;omega
    ·omega
   go_wp2_with (go_at_call 228;refine (fN _ _ (by omega) (by omega)).mono ?_;rintro e G ⟨rfl,rfl⟩)
   go_roundw
   case rel=>exact⟨y+1,by omega,by omega,by rw[Y.out];omega,by rw[Y.out];go_num,rfl⟩
   case measure=>simp[intOf];omega
  ·go_wp2_with (go_at_call 228;refine (fN _ _ (by omega) (by omega)).mono ?_;rintro e G ⟨rfl,rfl⟩)
   go_loopw [4] (fun r wr=>∃mo:Int,1≤mo∧mo≤12∧Cal.cum y mo≤n-Cal.dby y∧r=.int .i64 (n-Cal.dby y-Cal.cum y mo)∧wr=(w.alloc (.cells #[.int .i64 0,.int .i64 0,.int .i64 0,.int .i64 0,.int .i64 0,.int .i64 0] 194)).alloc (.cells #[.int .i64 y,.int .i64 mo,.int .i64 1,.int .i64 0,.int .i64 0,.int .i64 ((4+n) % 7)] 194)) (fun r _=>(intOf r).toNat)
   case atStart=>exact⟨1,by omega,by omega,by rw[Cal.cum_1];omega,by rw[Cal.cum_1];go_num,rfl⟩
   case round=>
    obtain⟨mo,J,Q,aa,rfl,rfl⟩:=hrel;have V:Hid (Cal.cum y (mo+1)=Cal.cum y mo+Cal.dim y mo):=Cal.cum_succ y mo J Q;have Z:Hid (Cal.cum y 13=365+Cal.lp y):=Cal.cum_13 y;have cb:=Cal.cum_bd y mo;have db:=Cal.dim_lo y mo
    by_cases hd:Cal.dim y mo≤n-Cal.dby y-Cal.cum y mo
    ·have ad:mo≤11:=by
      by_cases e:mo=12
      ·subst e;have:=V.out;have:=Z.out;have:Cal.cum y (12+1)=Cal.cum y 13:=rfl;omega
      ·omega
     go_wp2_with (go_at_call 227;refine (eJ _ _ _ (by omega) (by omega)).mono ?_;rintro e G ⟨rfl,rfl⟩)
     go_roundw
     case rel=>exact⟨mo+1,by omega,by omega,by rw[V.out];omega,by rw[V.out];go_num,rfl⟩
     case measure=>simp[intOf];omega
    ·go_wp2_with (go_at_call 227;refine (eJ _ _ _ (by omega) (by omega)).mono ?_;rintro e G ⟨rfl,rfl⟩)
     refine bodyPost_ret (v:=dateV y mo (1+(n-Cal.dby y-Cal.cum y mo)) 0 0 ((4+n) % 7)) (by simp[results,Tryz.results225,go_sem]) rfl
      ⟨⟨y,mo,_,⟨I,O,J,Q,by omega,by omega,by omega⟩,rfl⟩,((Below.refl _ _).alloc (Nat.le_refl _) _).alloc (by simp) _⟩
set_option maxHeartbeats 0 in
theorem nz (m:Int) (w:World) (h0:0≤m) (h1:m≤4223371679):
 Calls Tryz.prog 221 #[.int .i64 m] w fun e G=>(∃y mo d:Int,Cal.IsD (m / 1440) y mo d∧e=.returned (.tuple #[dateV y mo d (m % 1440 / 60) (m % 60) ((m / 1440+4) % 7),.int .i64 0]))∧Below w.heap.size w G:=by
 have e:=gy h0 h1
 go_enter Tryz.func221,Tryz.ntmps221
 go_wp2_with (first |(go_at_call 144;refine (fO _ _).mono ?_;rintro e G ⟨rfl,rfl⟩)|(go_at_call 225;refine (rW _ _ (by omega) (by omega)).mono ?_;rintro e w1 ⟨⟨y,mo,d,Q,rfl⟩,hb⟩;obtain⟨I,U⟩:=dU hb;have J:w.heap.size<w1.heap.size:=(by have:=hb.size;simp at this;omega)))
 have O:(4+m / 1440) % 7=(m / 1440+4) % 7:=by omega
 refine bodyPost_ret (v:=.tuple #[dateV y mo d (m % 1440 / 60) (m % 60) ((4+m / 1440) % 7),.int .i64 0]) (by simp[results,Tryz.results221,go_sem,I,J]) rfl ⟨⟨y,mo,d,Q,by rw[O]⟩,?_⟩
 exact (((((((((Below.refl _ _).alloc (Nat.le_refl _) _).trans (hb.mono (by simp))).setCell (by simp) _).setCell (by simp) _).setCell (by simp) _).setCell (by simp) _).setCell (by simp) _).setCell (by simp) _).alloc (by simp;omega) _
set_option maxHeartbeats 0 in
theorem iG (s:ByteArray) (w:World) (hs:s.size≤300):
 Calls Tryz.prog 177 #[.string s] w fun e w'=>e=.returned (.bool (Txt.stepB s))∧w'=w:=by
 by_cases h2:s.size<2
 ·have e:Hid (Txt.stepB s=false):=Txt.stepB_no (fun h=>by have:=h.1;omega)
  go_enter Tryz.func177,Tryz.ntmps177
  go_wp2_with fail;go_ret;exact⟨dz e.out.symm,rfl⟩
 by_cases h9:9<s.size
 ·have e:Hid (Txt.stepB s=false):=Txt.stepB_no (fun h=>by have:=h.2.1;omega)
  go_enter Tryz.func177,Tryz.ntmps177
  go_wp2_with fail;go_ret;exact⟨dz e.out.symm,rfl⟩
 have h0:0<s.size:=by omega
 by_cases d:(s[0].toNat:Int)=62∨(s[0].toNat:Int)=60
 rotate_left
 ·have e:Hid (Txt.stepB s=false):=Txt.stepB_no (fun ⟨_,_,_,h,_⟩=>d h)
  have f1:((s[0].toNat:Int) !=62)=true:=by simp;omega
  have f2:((s[0].toNat:Int) !=60)=true:=by simp;omega
  clear d
  go_enter Tryz.func177,Tryz.ntmps177
  go_wp2_with fail;go_ret;exact⟨dz e.out.symm,rfl⟩
 have HF:=Hq d
 have Q:Hid (((s[0].toNat:Int) !=62)=false∨(((s[0].toNat:Int) !=62)=true∧((s[0].toNat:Int) !=60)=false)):=by
  unfold Hid;rcases d with h|h
  ·left;simp[h]
  ·right;constructor<;>simp[h]
 clear d
 rcases Q.out with f1|⟨f1,f2⟩
 all_goals
  clear Q
  go_enter Tryz.func177,Tryz.ntmps177
  go_wp2_with fail
  go_loop [3] (fun i=>∃k:Nat,1≤k∧k≤s.size∧i=.int .i64 k∧∀j (O:j<s.size),1≤j→j<k→Txt.wb (s[j].toNat)=true) (fun i=>s.size-(intOf i).toNat)
  case atStart=>exact⟨1,Nat.le_refl _,by omega,rfl,fun j _ h h'=>by omega⟩
  case round=>
   obtain⟨k,U,hk,rfl,G⟩:=hrel;have Z:=Hq G;clear G
   by_cases V:k<s.size
   ·have J:Hid (Txt.wb (s[k].toNat)=true→∀j (O:j<s.size),1≤j→j<k+1→Txt.wb (s[j].toNat)=true):=by
     intro hd j O h1 h
     by_cases q:j=k
     ·subst q;exact hd
     ·exact Z.out j O h1 (by omega)
    have I:Hid (Txt.wb (s[k].toNat)=false→Txt.stepB s=false):=j7 V U
    by_cases a1:48≤(s[k].toNat:Int)
    ·by_cases a2:(s[k].toNat:Int)≤57
     ·have W:Hid (Txt.wb (s[k].toNat)=true):=Txt.wb_yes (by omega)
      go_wp2_with fail
      go_round
      case rel=>exact⟨k+1,by omega,by omega,by go_num,J.out W.out⟩
      case measure=>simp[intOf];omega
     ·by_cases a3:97≤(s[k].toNat:Int)
      ·by_cases a4:(s[k].toNat:Int)≤122
       ·have W:Hid (Txt.wb (s[k].toNat)=true):=Txt.wb_yes (by omega)
        go_wp2_with fail
        go_round
        case rel=>exact⟨k+1,by omega,by omega,by go_num,J.out W.out⟩
        case measure=>simp[intOf];omega
       ·have e:Hid (Txt.stepB s=false):=I.out (Txt.wb_no (by omega))
        have Y:65≤(s[k].toNat:Int):=by omega
        have a6:¬(s[k].toNat:Int)≤90:=by omega
        go_wp2_with fail;go_ret;exact⟨dz e.out.symm,rfl⟩
      ·by_cases Y:65≤(s[k].toNat:Int)
       ·by_cases a6:(s[k].toNat:Int)≤90
        ·have W:Hid (Txt.wb (s[k].toNat)=true):=Txt.wb_yes (by omega)
         go_wp2_with fail
         go_round
         case rel=>exact⟨k+1,by omega,by omega,by go_num,J.out W.out⟩
         case measure=>simp[intOf];omega
        ·have e:Hid (Txt.stepB s=false):=I.out (Txt.wb_no (by omega))
         go_wp2_with fail;go_ret;exact⟨dz e.out.symm,rfl⟩
       ·have e:Hid (Txt.stepB s=false):=I.out (Txt.wb_no (by omega))
        go_wp2_with fail;go_ret;exact⟨dz e.out.symm,rfl⟩
    ·have e:Hid (Txt.stepB s=false):=I.out (Txt.wb_no (by omega))
     have a3:¬97≤(s[k].toNat:Int):=by omega
     have Y:¬65≤(s[k].toNat:Int):=by omega
     go_wp2_with fail;go_ret;exact⟨dz e.out.symm,rfl⟩
   ·have e:Hid (Txt.stepB s=true):=jE (by omega) (by omega) (by omega) h0 HF.out Z.out
    go_wp2_with fail;go_ret;exact⟨dz e.out.symm,rfl⟩
set_option maxHeartbeats 0 in
theorem fX (s t:ByteArray) (w:World) (hs:s.size≤300) (ht:t.size≤10):
 Calls Tryz.prog 176 #[.string s,.string t] w fun e V=>e=.returned (.bool (Txt.amgB s t))∧∃n,V=w.drewN n:=by
 by_cases z:s.size=1
 rotate_left
 ·have e:Hid (Txt.amgB s t=false):=Txt.amgB_no (fun h=>z h.1)
  have U:((s.size:Int)==1)=false:=by simp;omega
  clear z
  go_enter Tryz.func176,Tryz.ntmps176
  go_wp2_with fail
  go_loop [5] (fun i=>i=.int .i64 0) (fun _=>0)
  case atStart=>rfl
  case round=>
   subst hrel
   by_cases h0:0<t.size
   ·go_wp2_with fail;go_ret;exact⟨dz e.out.symm,0,rfl⟩
   ·go_wp2_with fail;go_ret;exact⟨dz e.out.symm,0,rfl⟩
 have U:((s.size:Int)==1)=true:=by simp;omega
 have Z:=Hq z;have i0:0<s.size:=by omega
 clear z
 go_enter Tryz.func176,Tryz.ntmps176
 go_wp2_with fail
 go_loopw [5] (fun i wr=>∃k:Nat,k≤t.size∧i=.int .i64 k∧(∀j (I:j<t.size),j<k→¬s[0]=t[j])∧∃n,wr=w.drewN n) (fun i _=>t.size-(intOf i).toNat)
 case atStart=>exact⟨0,Nat.zero_le _,rfl,fun j _ h=>by omega,0,rfl⟩
 case round=>
  obtain⟨k,hk,rfl,G,n0,rfl⟩:=hrel;have O:=Hq G;clear G
  by_cases J:k<t.size
  ·have b1:(0:Int)≤(k:Int):=by omega
   have b2:(k:Int)<(t.size:Int):=by omega
   have Y:(0:Int)<(s.size:Int):=by omega
   by_cases d:s[0]=t[k]
   ·have e:Hid (Txt.amgB s t=true):=Txt.amgB_yes ⟨Z.out,k,J,d⟩;have q:((s[0].toNat:Int)==(t[k].toNat:Int))=true:=by rw[Txt.u8_eq];exact decide_eq_true d
    clear d;go_wp2_with fail
    go_quiet (fail)
    go_wp2_with fail;go_ret;exact⟨dz e.out.symm,_,World.drewN_drewN _ _ _⟩
   ·have Q:=Hq d;have q:((s[0].toNat:Int)==(t[k].toNat:Int))=false:=by rw[Txt.u8_eq];exact decide_eq_false d
    clear d;go_wp2_with fail
    go_quiet (fail)
    go_wp2_with fail;go_roundw
    case rel=>
     refine⟨k+1,by omega,by go_num,fun j I h=>?_,_,rfl⟩
     by_cases q:j=k
     ·subst q;exact Q.out
     ·exact O.out j I (by omega)
    case measure=>simp[intOf];omega
  ·have e:Hid (Txt.amgB s t=false):=Txt.amgB_no (fun ⟨_,j,I,h⟩=>O.out j I (by omega) h)
   go_wp2_with fail;go_ret;exact⟨dz e.out.symm,_,rfl⟩
open Txt (NoSep)
set_option maxHeartbeats 0 in
theorem eo (s:ByteArray) (c:Int) (w:World) (V:s.size≤300):
 Calls Tryz.prog 200 #[.string s,.int .u8 c] w fun e Q=>e=.returned (.tuple #[.string (Txt.cut1 c s),.string (Txt.cut2 c s),.bool (Txt.cut3 c s)])∧∃n,Q=w.drewN n:=by
 go_enter Tryz.func200,Tryz.ntmps200
 go_wp2_with fail
 go_loop [7] (fun i=>∃k:Nat,k≤s.size∧i=.int .i64 k∧NoSep c s 0 k) (fun i=>s.size-(intOf i).toNat)
 case atStart=>exact⟨0,Nat.zero_le _,rfl,NoSep.nil _ _ _⟩
 case round=>
  obtain⟨k,Z,rfl,d⟩:=hrel;have I:=Hq d;clear d
  by_cases G:k<s.size
  ·cases J:((s[k].toNat:Int)==c)
   ·have O:Hid (NoSep c s 0 (k+1)):=I.out.snoc G J;go_wp2_with fail
    go_round
    case rel=>exact⟨k+1,by omega,by go_num,O.out⟩
    case measure=>simp[intOf];omega
   ·have e:Hid (Txt.cut1 c s=s.extract 0 k∧Txt.cut2 c s=s.extract (k+1) s.size∧Txt.cut3 c s=true):=Txt.cut_yes G J I.out;have b1:(0:Int)≤(k:Int):=by omega
    have Y:(k:Int)≤(s.size:Int):=by omega
    have U:(k:Int)+1≤(s.size:Int):=by omega
    go_wp2_with fail
    go_quiet (fail)
    go_wp2_with fail
    go_ret3
    exact⟨fZ e.out,_,rfl⟩
  ·have e:Hid (Txt.cut1 c s=s∧Txt.cut2 c s=ByteArray.empty∧Txt.cut3 c s=false):=Txt.cut_no ((show k=s.size by omega)▸I.out)
   go_wp2_with fail
   go_ret3
   exact⟨fZ e.out,0,rfl⟩
set_option maxHeartbeats 0 in
theorem eq (s:ByteArray) (w:World) (Y:s.size≤300):
 Calls Tryz.prog 218 #[.string s] w fun e V=>e=.returned (.int .i64 (Txt.val s))∧V=w:=by
 by_cases h1:s.size<1
 ·have e:Hid (Txt.val s= -1):=Txt.val_no (by omega)
  go_enter Tryz.func218,Tryz.ntmps218
  go_wp2_with fail;go_ret;exact⟨dS e.out.symm,rfl⟩
 by_cases h2:2<s.size
 ·have e:Hid (Txt.val s= -1):=Txt.val_no (by omega)
  go_enter Tryz.func218,Tryz.ntmps218
  go_wp2_with fail;go_ret;exact⟨dS e.out.symm,rfl⟩
 go_enter Tryz.func218,Tryz.ntmps218
 go_wp2_with fail
 go_loop [3,4] (fun n i=>∃k:Nat,k≤s.size∧i=.int .i64 k∧n=.int .i64 (Txt.pv s k)∧∀j (I:j<s.size),j<k→Txt.dg (s[j].toNat)=true) (fun _ i=>s.size-(intOf i).toNat)
 case atStart=>exact⟨0,Nat.zero_le _,rfl,by rw[Txt.pv_0],fun j _ h=>by omega⟩
 case round=>
  obtain⟨k,U,rfl,rfl,G⟩:=hrel;have J:=Hq G;clear G;have pb:=Txt.pv_bd s k U (by omega)
  by_cases d:k<s.size
  ·have Z:=Txt.u8_bd s[k]
   by_cases b1:(s[k].toNat:Int)<48
   ·have e:Hid (Txt.val s= -1):=Txt.val_no (Or.inr (Or.inr (Txt.digs_no d (Txt.dg_no (Or.inl b1)))));go_wp2_with fail;go_ret;exact⟨dS e.out.symm,rfl⟩
   by_cases Q:57<(s[k].toNat:Int)
   ·have e:Hid (Txt.val s= -1):=Txt.val_no (Or.inr (Or.inr (Txt.digs_no d (Txt.dg_no (Or.inr Q)))));go_wp2_with fail;go_ret;exact⟨dS e.out.symm,rfl⟩
   have O:Hid (Txt.dg (s[k].toNat)=true):=Txt.dg_yes (by omega) (by omega)
   have PS:Hid (Txt.pv s (k+1)=Txt.pv s k*10+((s[k].toNat:Int)-48)):=Txt.pv_succ s k d;go_wp2_with fail
   go_round
   case rel=>
    refine⟨k+1,by omega,by go_num,by rw[PS.out];go_num,fun j I h=>?_⟩
    by_cases q:j=k
    ·subst q;exact O.out
    ·exact J.out j I (by omega)
   case measure=>simp[intOf];omega
  ·obtain rfl:k=s.size:=by omega
   have e:Hid (Txt.val s=Txt.pv s s.size):=Txt.val_yes (by omega) (by omega) (Txt.digs_yes (fun j I=>J.out j I I))
   go_wp2_with fail;go_ret;exact⟨dS e.out.symm,rfl⟩
set_option maxHeartbeats 0 in
theorem dI (i:Int) (w:World):
 Calls Tryz.prog 219 #[.int .i64 i] w fun e d=>e=.returned (.int .i64 (lo i))∧d=w:=by
 by_cases a:i=2
 ·subst a
  go_enter Tryz.func219,Tryz.ntmps219
  go_wp2_with fail;go_ret;exact⟨rfl,rfl⟩
 by_cases b:i=3
 ·subst b
  go_enter Tryz.func219,Tryz.ntmps219
  go_wp2_with fail;go_ret;exact⟨rfl,rfl⟩
 have e:Hid (lo i=0):=if_neg (by omega)
 have I:(i==2)=false:=by simpa using a
 have G:(i==3)=false:=by simpa using b
 go_enter Tryz.func219,Tryz.ntmps219
 go_wp2_with fail;go_ret;exact⟨dS e.out.symm,rfl⟩
set_option maxHeartbeats 0 in
theorem dG (i:Int) (w:World):
 Calls Tryz.prog 220 #[.int .i64 i] w fun e G=>e=.returned (.int .i64 (hi i))∧G=w:=by
 by_cases h:i=0∨i=1∨i=2∨i=3
 ·rcases h with rfl|rfl|rfl|rfl
  all_goals
   go_enter Tryz.func220,Tryz.ntmps220
   go_wp2_with fail;go_ret;exact⟨rfl,rfl⟩
 have h0:¬i=0:=by omega
 have h1:¬i=1:=by omega
 have h2:¬i=2:=by omega
 have d:¬i=3:=by omega
 have e:Hid (hi i=6):=by unfold Hid hi;rw[if_neg h0,if_neg h1,if_neg h2,if_neg d]
 clear h
 go_enter Tryz.func220,Tryz.ntmps220
 go_wp2_with fail;go_ret;exact⟨dS e.out.symm,rfl⟩
def SpanR (i:Int) (p:ByteArray) (e:Ending):Prop:=∃a b t:Int,e=.returned (.tuple #[.int .i64 a,.int .i64 b,.int .i64 t,.bool (Txt.spK (lo i) (hi i) p)])∧
 (-1≤a∧a≤99∧ -1≤b∧b≤99∧ -1≤t∧t≤99)∧(Txt.spK (lo i) (hi i) p=true→a=Txt.spA (lo i) p∧b=Txt.spB (hi i) p∧t=Txt.spS p)
theorem ef {i:Int}{p:ByteArray}{a b t:Int}{r:Bool} (hA:Txt.spA (lo i) p=a) (hB:Txt.spB (hi i) p=b) (hS:Txt.spS p=t) (hK:Txt.star (Txt.cut1 47 p)=true∨Txt.cut3 47 p=false∨Txt.cut3 45 (Txt.cut1 47 p)=true)
 (d:r=decide (1≤t∧lo i≤a∧a≤b∧b≤hi i)) (bd: -1≤a∧a≤99∧ -1≤b∧b≤99∧ -1≤t∧t≤99):SpanR i p (.returned (.tuple #[.int .i64 a,.int .i64 b,.int .i64 t,.bool r])):=by
 have e:Txt.spK (lo i) (hi i) p=r:=by
  rw[d,Txt.spK,hA,hB,hS]
  by_cases q:1≤t∧lo i≤a∧a≤b∧b≤hi i
  ·rw[decide_eq_true q];exact decide_eq_true ⟨hK,q⟩
  ·rw[decide_eq_false q];exact decide_eq_false (fun h=>q h.2)
 exact⟨a,b,t,by rw[e],bd,fun _=>⟨hA.symm,hB.symm,hS.symm⟩⟩
theorem ss {i:Int}{p:ByteArray} (h1:Txt.star (Txt.cut1 47 p)=false) (h2:Txt.cut3 47 p=true) (d:Txt.cut3 45 (Txt.cut1 47 p)=false):SpanR i p (.returned (.tuple #[.int .i64 0,.int .i64 0,.int .i64 0,.bool false])):=by
 have e:Txt.spK (lo i) (hi i) p=false:=decide_eq_false (by simp[h1,h2,d])
 exact⟨0,0,0,by rw[e],by omega,fun h=>by rw[e] at h;cases h⟩
set_option maxHeartbeats 0 in
theorem sW (p:ByteArray) (i:Int) (w:World) (G:p.size≤300) (h1:Txt.star (Txt.cut1 47 p)=true) (h2:Txt.cut3 47 p=false):
 Calls Tryz.prog 201 #[.string p,.int .i64 i] w fun e d=>SpanR i p e∧∃n,d=w.drewN n:=by
 have hA:Hid (Txt.spA (lo i) p=lo i):=by unfold Hid;simp[Txt.spA,h1]
 have hB:Hid (Txt.spB (hi i) p=hi i):=by unfold Hid;simp[Txt.spB,h1]
 have hS:Hid (Txt.spS p=1):=by unfold Hid;simp[Txt.spS,h2]
 have hK:Hid (Txt.star (Txt.cut1 47 p)=true∨Txt.cut3 47 p=false∨Txt.cut3 45 (Txt.cut1 47 p)=true):=by unfold Hid;simp[h1]
 have U:=gg i;have bB:=gg i;have O:=Txt.val_bd (Txt.cut2 47 p);have J:((Txt.cut1 47 p).toList==[42])=true:=h1;have I:Hid ((Txt.cut1 47 p).size≤300):=Nat.le_trans (Txt.cut1_size _ _) G;have s2:Hid ((Txt.cut2 47 p).size≤300):=Nat.le_trans (Txt.cut2_size _ _) G;have Z:Hid ((Txt.cut1 45 (Txt.cut1 47 p)).size≤300):=Nat.le_trans (Txt.cut1_size _ _) I.out;have Q:Hid ((Txt.cut2 45 (Txt.cut1 47 p)).size≤300):=Nat.le_trans (Txt.cut2_size _ _) I.out;clear h1
 go_enter Tryz.func201,Tryz.ntmps201
 go_wp2_with fail;refine (eo _ _ _ G).mono ?_;rintro e d ⟨rfl,n1,rfl⟩;go_wp2_with fail;refine (dI _ _).mono ?_;rintro e d ⟨rfl,rfl⟩;go_wp2_with fail;refine (dG _ _).mono ?_;rintro e d ⟨rfl,rfl⟩;have Y:lo i≤hi i:=by omega
 have V:lo i≤lo i:=Int.le_refl _
 ·go_wp2_with (first |(go_at_call 219;refine (dI _ _).mono ?_;rintro e d ⟨rfl,rfl⟩)|(go_at_call 220;refine (dG _ _).mono ?_;rintro e d ⟨rfl,rfl⟩))
  exact bodyPost_ret (v:=.tuple #[.int .i64 (lo i),.int .i64 (hi i),.int .i64 (1),.bool true]) (by simp[results,Tryz.results201,go_sem]<;>omega) rfl ⟨ef hA.out hB.out hS.out hK.out (decide_eq_true ⟨by omega,by omega,by omega,by omega⟩).symm (by omega),⟨n1,rfl⟩⟩
set_option maxHeartbeats 0 in
theorem sK (p:ByteArray) (i:Int) (w:World) (G:p.size≤300) (h1:Txt.star (Txt.cut1 47 p)=true) (h2:Txt.cut3 47 p=true):
 Calls Tryz.prog 201 #[.string p,.int .i64 i] w fun e d=>SpanR i p e∧∃n,d=w.drewN n:=by
 have hA:Hid (Txt.spA (lo i) p=lo i):=by unfold Hid;simp[Txt.spA,h1]
 have hB:Hid (Txt.spB (hi i) p=hi i):=by unfold Hid;simp[Txt.spB,h1]
 have hS:Hid (Txt.spS p=Txt.val (Txt.cut2 47 p)):=by unfold Hid;simp[Txt.spS,h2]
 have hK:Hid (Txt.star (Txt.cut1 47 p)=true∨Txt.cut3 47 p=false∨Txt.cut3 45 (Txt.cut1 47 p)=true):=by unfold Hid;simp[h1]
 have Y:=gg i;have bB:=gg i;have Q:=Txt.val_bd (Txt.cut2 47 p);have O:((Txt.cut1 47 p).toList==[42])=true:=h1;have I:Hid ((Txt.cut1 47 p).size≤300):=Nat.le_trans (Txt.cut1_size _ _) G;have J:Hid ((Txt.cut2 47 p).size≤300):=Nat.le_trans (Txt.cut2_size _ _) G;have s3:Hid ((Txt.cut1 45 (Txt.cut1 47 p)).size≤300):=Nat.le_trans (Txt.cut1_size _ _) I.out;have V:Hid ((Txt.cut2 45 (Txt.cut1 47 p)).size≤300):=Nat.le_trans (Txt.cut2_size _ _) I.out;clear h1
 go_enter Tryz.func201,Tryz.ntmps201
 go_wp2_with fail;refine (eo _ _ _ G).mono ?_;rintro e d ⟨rfl,n1,rfl⟩;go_wp2_with fail;refine (eq _ _ J.out).mono ?_;rintro e d ⟨rfl,rfl⟩;go_wp2_with fail;refine (dI _ _).mono ?_;rintro e d ⟨rfl,rfl⟩;go_wp2_with fail;refine (dG _ _).mono ?_;rintro e d ⟨rfl,rfl⟩;have t1:lo i≤hi i:=by omega
 have Z:lo i≤lo i:=Int.le_refl _
 by_cases U:1≤Txt.val (Txt.cut2 47 p)
 rotate_left
 ·go_wp2_with (first |(go_at_call 219;refine (dI _ _).mono ?_;rintro e d ⟨rfl,rfl⟩)|(go_at_call 220;refine (dG _ _).mono ?_;rintro e d ⟨rfl,rfl⟩))
  exact bodyPost_ret (v:=.tuple #[.int .i64 (lo i),.int .i64 (hi i),.int .i64 (Txt.val (Txt.cut2 47 p)),.bool false]) (by simp[results,Tryz.results201,go_sem]<;>omega) rfl ⟨ef hA.out hB.out hS.out hK.out (decide_eq_false (by omega)).symm (by omega),⟨n1,rfl⟩⟩
 ·go_wp2_with (first |(go_at_call 219;refine (dI _ _).mono ?_;rintro e d ⟨rfl,rfl⟩)|(go_at_call 220;refine (dG _ _).mono ?_;rintro e d ⟨rfl,rfl⟩))
  exact bodyPost_ret (v:=.tuple #[.int .i64 (lo i),.int .i64 (hi i),.int .i64 (Txt.val (Txt.cut2 47 p)),.bool true]) (by simp[results,Tryz.results201,go_sem]<;>omega) rfl ⟨ef hA.out hB.out hS.out hK.out (decide_eq_true ⟨by omega,by omega,by omega,by omega⟩).symm (by omega),⟨n1,rfl⟩⟩
set_option maxHeartbeats 0 in
theorem ti (p:ByteArray) (i:Int) (w:World) (I:p.size≤300) (h1:Txt.star (Txt.cut1 47 p)=false) (h2:Txt.cut3 47 p=false) (J:Txt.cut3 45 (Txt.cut1 47 p)=false):
 Calls Tryz.prog 201 #[.string p,.int .i64 i] w fun e d=>SpanR i p e∧∃n,d=w.drewN n:=by
 have hA:Hid (Txt.spA (lo i) p=Txt.val (Txt.cut1 45 (Txt.cut1 47 p))):=by unfold Hid;simp[Txt.spA,h1]
 have hB:Hid (Txt.spB (hi i) p=Txt.val (Txt.cut1 45 (Txt.cut1 47 p))):=by unfold Hid;simp[Txt.spB,h1,J]
 have hS:Hid (Txt.spS p=1):=by unfold Hid;simp[Txt.spS,h2]
 have hK:Hid (Txt.star (Txt.cut1 47 p)=true∨Txt.cut3 47 p=false∨Txt.cut3 45 (Txt.cut1 47 p)=true):=by unfold Hid;simp[h2]
 have bA:=Txt.val_bd (Txt.cut1 45 (Txt.cut1 47 p));have bB:=Txt.val_bd (Txt.cut1 45 (Txt.cut1 47 p));have V:=Txt.val_bd (Txt.cut2 47 p);have Q:((Txt.cut1 47 p).toList==[42])=false:=h1;have G:Hid ((Txt.cut1 47 p).size≤300):=Nat.le_trans (Txt.cut1_size _ _) I;have s2:Hid ((Txt.cut2 47 p).size≤300):=Nat.le_trans (Txt.cut2_size _ _) I;have O:Hid ((Txt.cut1 45 (Txt.cut1 47 p)).size≤300):=Nat.le_trans (Txt.cut1_size _ _) G.out;have Z:Hid ((Txt.cut2 45 (Txt.cut1 47 p)).size≤300):=Nat.le_trans (Txt.cut2_size _ _) G.out;clear h1
 go_enter Tryz.func201,Tryz.ntmps201
 go_wp2_with fail;refine (eo _ _ _ I).mono ?_;rintro e d ⟨rfl,n1,rfl⟩;go_wp2_with fail;refine (dI _ _).mono ?_;rintro e d ⟨rfl,rfl⟩;go_wp2_with fail;refine (dG _ _).mono ?_;rintro e d ⟨rfl,rfl⟩;go_wp2_with fail;refine (eo _ _ _ G.out).mono ?_;rintro e d ⟨rfl,n2,rfl⟩;go_wp2_with fail;refine (eq _ _ O.out).mono ?_;rintro e d ⟨rfl,rfl⟩
 by_cases Y:lo i≤Txt.val (Txt.cut1 45 (Txt.cut1 47 p))
 rotate_left
 ·go_wp2_with (first |(go_at_call 219;refine (dI _ _).mono ?_;rintro e d ⟨rfl,rfl⟩)|(go_at_call 220;refine (dG _ _).mono ?_;rintro e d ⟨rfl,rfl⟩))
  exact bodyPost_ret (v:=.tuple #[.int .i64 (Txt.val (Txt.cut1 45 (Txt.cut1 47 p))),.int .i64 (Txt.val (Txt.cut1 45 (Txt.cut1 47 p))),.int .i64 (1),.bool false]) (by simp[results,Tryz.results201,go_sem]<;>omega) rfl ⟨ef hA.out hB.out hS.out hK.out (decide_eq_false (by omega)).symm (by omega),⟨_,rfl⟩⟩
 by_cases U:Txt.val (Txt.cut1 45 (Txt.cut1 47 p))≤hi i
 rotate_left
 ·go_wp2_with (first |(go_at_call 219;refine (dI _ _).mono ?_;rintro e d ⟨rfl,rfl⟩)|(go_at_call 220;refine (dG _ _).mono ?_;rintro e d ⟨rfl,rfl⟩))
  exact bodyPost_ret (v:=.tuple #[.int .i64 (Txt.val (Txt.cut1 45 (Txt.cut1 47 p))),.int .i64 (Txt.val (Txt.cut1 45 (Txt.cut1 47 p))),.int .i64 (1),.bool false]) (by simp[results,Tryz.results201,go_sem]<;>omega) rfl ⟨ef hA.out hB.out hS.out hK.out (decide_eq_false (by omega)).symm (by omega),⟨_,rfl⟩⟩
 ·go_wp2_with (first |(go_at_call 219;refine (dI _ _).mono ?_;rintro e d ⟨rfl,rfl⟩)|(go_at_call 220;refine (dG _ _).mono ?_;rintro e d ⟨rfl,rfl⟩))
  exact bodyPost_ret (v:=.tuple #[.int .i64 (Txt.val (Txt.cut1 45 (Txt.cut1 47 p))),.int .i64 (Txt.val (Txt.cut1 45 (Txt.cut1 47 p))),.int .i64 (1),.bool true]) (by simp[results,Tryz.results201,go_sem]<;>omega) rfl ⟨ef hA.out hB.out hS.out hK.out (decide_eq_true ⟨by omega,by omega,by omega,by omega⟩).symm (by omega),⟨_,rfl⟩⟩
set_option maxHeartbeats 0 in
theorem sN (p:ByteArray) (i:Int) (w:World) (I:p.size≤300) (h1:Txt.star (Txt.cut1 47 p)=false) (h2:Txt.cut3 47 p=false) (J:Txt.cut3 45 (Txt.cut1 47 p)=true):
 Calls Tryz.prog 201 #[.string p,.int .i64 i] w fun e d=>SpanR i p e∧∃n,d=w.drewN n:=by
 have hA:Hid (Txt.spA (lo i) p=Txt.val (Txt.cut1 45 (Txt.cut1 47 p))):=by unfold Hid;simp[Txt.spA,h1]
 have hB:Hid (Txt.spB (hi i) p=Txt.val (Txt.cut2 45 (Txt.cut1 47 p))):=by unfold Hid;simp[Txt.spB,h1,J]
 have hS:Hid (Txt.spS p=1):=by unfold Hid;simp[Txt.spS,h2]
 have hK:Hid (Txt.star (Txt.cut1 47 p)=true∨Txt.cut3 47 p=false∨Txt.cut3 45 (Txt.cut1 47 p)=true):=by unfold Hid;simp[h2]
 have bA:=Txt.val_bd (Txt.cut1 45 (Txt.cut1 47 p));have bB:=Txt.val_bd (Txt.cut2 45 (Txt.cut1 47 p));have Y:=Txt.val_bd (Txt.cut2 47 p);have U:((Txt.cut1 47 p).toList==[42])=false:=h1;have G:Hid ((Txt.cut1 47 p).size≤300):=Nat.le_trans (Txt.cut1_size _ _) I;have s2:Hid ((Txt.cut2 47 p).size≤300):=Nat.le_trans (Txt.cut2_size _ _) I;have Q:Hid ((Txt.cut1 45 (Txt.cut1 47 p)).size≤300):=Nat.le_trans (Txt.cut1_size _ _) G.out;have O:Hid ((Txt.cut2 45 (Txt.cut1 47 p)).size≤300):=Nat.le_trans (Txt.cut2_size _ _) G.out;clear h1
 go_enter Tryz.func201,Tryz.ntmps201
 go_wp2_with fail;refine (eo _ _ _ I).mono ?_;rintro e d ⟨rfl,n1,rfl⟩;go_wp2_with fail;refine (dI _ _).mono ?_;rintro e d ⟨rfl,rfl⟩;go_wp2_with fail;refine (dG _ _).mono ?_;rintro e d ⟨rfl,rfl⟩;go_wp2_with fail;refine (eo _ _ _ G.out).mono ?_;rintro e d ⟨rfl,n2,rfl⟩;go_wp2_with fail;refine (eq _ _ Q.out).mono ?_;rintro e d ⟨rfl,rfl⟩;go_wp2_with fail;refine (eq _ _ O.out).mono ?_;rintro e d ⟨rfl,rfl⟩
 by_cases Z:lo i≤Txt.val (Txt.cut1 45 (Txt.cut1 47 p))
 rotate_left
 ·go_wp2_with (first |(go_at_call 219;refine (dI _ _).mono ?_;rintro e d ⟨rfl,rfl⟩)|(go_at_call 220;refine (dG _ _).mono ?_;rintro e d ⟨rfl,rfl⟩))
  exact bodyPost_ret (v:=.tuple #[.int .i64 (Txt.val (Txt.cut1 45 (Txt.cut1 47 p))),.int .i64 (Txt.val (Txt.cut2 45 (Txt.cut1 47 p))),.int .i64 (1),.bool false]) (by simp[results,Tryz.results201,go_sem]<;>omega) rfl ⟨ef hA.out hB.out hS.out hK.out (decide_eq_false (by omega)).symm (by omega),⟨_,rfl⟩⟩
 by_cases V:Txt.val (Txt.cut1 45 (Txt.cut1 47 p))≤Txt.val (Txt.cut2 45 (Txt.cut1 47 p))
 rotate_left
 ·go_wp2_with (first |(go_at_call 219;refine (dI _ _).mono ?_;rintro e d ⟨rfl,rfl⟩)|(go_at_call 220;refine (dG _ _).mono ?_;rintro e d ⟨rfl,rfl⟩))
  exact bodyPost_ret (v:=.tuple #[.int .i64 (Txt.val (Txt.cut1 45 (Txt.cut1 47 p))),.int .i64 (Txt.val (Txt.cut2 45 (Txt.cut1 47 p))),.int .i64 (1),.bool false]) (by simp[results,Tryz.results201,go_sem]<;>omega) rfl ⟨ef hA.out hB.out hS.out hK.out (decide_eq_false (by omega)).symm (by omega),⟨_,rfl⟩⟩
 by_cases q2:Txt.val (Txt.cut2 45 (Txt.cut1 47 p))≤hi i
 rotate_left
 ·go_wp2_with (first |(go_at_call 219;refine (dI _ _).mono ?_;rintro e d ⟨rfl,rfl⟩)|(go_at_call 220;refine (dG _ _).mono ?_;rintro e d ⟨rfl,rfl⟩))
  exact bodyPost_ret (v:=.tuple #[.int .i64 (Txt.val (Txt.cut1 45 (Txt.cut1 47 p))),.int .i64 (Txt.val (Txt.cut2 45 (Txt.cut1 47 p))),.int .i64 (1),.bool false]) (by simp[results,Tryz.results201,go_sem]<;>omega) rfl ⟨ef hA.out hB.out hS.out hK.out (decide_eq_false (by omega)).symm (by omega),⟨_,rfl⟩⟩
 ·go_wp2_with (first |(go_at_call 219;refine (dI _ _).mono ?_;rintro e d ⟨rfl,rfl⟩)|(go_at_call 220;refine (dG _ _).mono ?_;rintro e d ⟨rfl,rfl⟩))
  exact bodyPost_ret (v:=.tuple #[.int .i64 (Txt.val (Txt.cut1 45 (Txt.cut1 47 p))),.int .i64 (Txt.val (Txt.cut2 45 (Txt.cut1 47 p))),.int .i64 (1),.bool true]) (by simp[results,Tryz.results201,go_sem]<;>omega) rfl ⟨ef hA.out hB.out hS.out hK.out (decide_eq_true ⟨by omega,by omega,by omega,by omega⟩).symm (by omega),⟨_,rfl⟩⟩
set_option maxHeartbeats 0 in
theorem th (p:ByteArray) (i:Int) (w:World) (I:p.size≤300) (h1:Txt.star (Txt.cut1 47 p)=false) (h2:Txt.cut3 47 p=true) (J:Txt.cut3 45 (Txt.cut1 47 p)=false):
 Calls Tryz.prog 201 #[.string p,.int .i64 i] w fun e d=>SpanR i p e∧∃n,d=w.drewN n:=by
 have O:Hid (SpanR i p (.returned (.tuple #[.int .i64 0,.int .i64 0,.int .i64 0,.bool false]))):=ss h1 h2 J;have V:((Txt.cut1 47 p).toList==[42])=false:=h1;have G:Hid ((Txt.cut1 47 p).size≤300):=Nat.le_trans (Txt.cut1_size _ _) I;have U:Hid ((Txt.cut2 47 p).size≤300):=Nat.le_trans (Txt.cut2_size _ _) I;have Q:Hid ((Txt.cut1 45 (Txt.cut1 47 p)).size≤300):=Nat.le_trans (Txt.cut1_size _ _) G.out;have Y:Hid ((Txt.cut2 45 (Txt.cut1 47 p)).size≤300):=Nat.le_trans (Txt.cut2_size _ _) G.out;clear h1
 go_enter Tryz.func201,Tryz.ntmps201
 go_wp2_with fail;refine (eo _ _ _ I).mono ?_;rintro e d ⟨rfl,n1,rfl⟩;go_wp2_with fail;refine (eq _ _ U.out).mono ?_;rintro e d ⟨rfl,rfl⟩;go_wp2_with fail;refine (dI _ _).mono ?_;rintro e d ⟨rfl,rfl⟩;go_wp2_with fail;refine (dG _ _).mono ?_;rintro e d ⟨rfl,rfl⟩;go_wp2_with fail;refine (eo _ _ _ G.out).mono ?_;rintro e d ⟨rfl,n2,rfl⟩;go_wp2_with fail;refine (eq _ _ Q.out).mono ?_;rintro e d ⟨rfl,rfl⟩;go_wp2_with fail;exact bodyPost_ret (v:=.tuple #[.int .i64 0,.int .i64 0,.int .i64 0,.bool false]) (by simp[results,Tryz.results201,go_sem]) rfl ⟨O.out,⟨_,rfl⟩⟩
set_option maxHeartbeats 0 in
theorem sQ (p:ByteArray) (i:Int) (w:World) (I:p.size≤300) (h1:Txt.star (Txt.cut1 47 p)=false) (h2:Txt.cut3 47 p=true) (J:Txt.cut3 45 (Txt.cut1 47 p)=true):
 Calls Tryz.prog 201 #[.string p,.int .i64 i] w fun e d=>SpanR i p e∧∃n,d=w.drewN n:=by
 have hA:Hid (Txt.spA (lo i) p=Txt.val (Txt.cut1 45 (Txt.cut1 47 p))):=by unfold Hid;simp[Txt.spA,h1]
 have hB:Hid (Txt.spB (hi i) p=Txt.val (Txt.cut2 45 (Txt.cut1 47 p))):=by unfold Hid;simp[Txt.spB,h1,J]
 have hS:Hid (Txt.spS p=Txt.val (Txt.cut2 47 p)):=by unfold Hid;simp[Txt.spS,h2]
 have hK:Hid (Txt.star (Txt.cut1 47 p)=true∨Txt.cut3 47 p=false∨Txt.cut3 45 (Txt.cut1 47 p)=true):=by unfold Hid;simp[J]
 have bA:=Txt.val_bd (Txt.cut1 45 (Txt.cut1 47 p));have bB:=Txt.val_bd (Txt.cut2 45 (Txt.cut1 47 p));have Z:=Txt.val_bd (Txt.cut2 47 p);have V:((Txt.cut1 47 p).toList==[42])=false:=h1;have G:Hid ((Txt.cut1 47 p).size≤300):=Nat.le_trans (Txt.cut1_size _ _) I;have U:Hid ((Txt.cut2 47 p).size≤300):=Nat.le_trans (Txt.cut2_size _ _) I;have Q:Hid ((Txt.cut1 45 (Txt.cut1 47 p)).size≤300):=Nat.le_trans (Txt.cut1_size _ _) G.out;have O:Hid ((Txt.cut2 45 (Txt.cut1 47 p)).size≤300):=Nat.le_trans (Txt.cut2_size _ _) G.out;clear h1
 go_enter Tryz.func201,Tryz.ntmps201
 go_wp2_with fail;refine (eo _ _ _ I).mono ?_;rintro e d ⟨rfl,n1,rfl⟩;go_wp2_with fail;refine (eq _ _ U.out).mono ?_;rintro e d ⟨rfl,rfl⟩;go_wp2_with fail;refine (dI _ _).mono ?_;rintro e d ⟨rfl,rfl⟩;go_wp2_with fail;refine (dG _ _).mono ?_;rintro e d ⟨rfl,rfl⟩;go_wp2_with fail;refine (eo _ _ _ G.out).mono ?_;rintro e d ⟨rfl,n2,rfl⟩;go_wp2_with fail;refine (eq _ _ Q.out).mono ?_;rintro e d ⟨rfl,rfl⟩;go_wp2_with fail;refine (eq _ _ O.out).mono ?_;rintro e d ⟨rfl,rfl⟩
 by_cases q0:1≤Txt.val (Txt.cut2 47 p)
 rotate_left
 ·go_wp2_with (first |(go_at_call 219;refine (dI _ _).mono ?_;rintro e d ⟨rfl,rfl⟩)|(go_at_call 220;refine (dG _ _).mono ?_;rintro e d ⟨rfl,rfl⟩))
  exact bodyPost_ret (v:=.tuple #[.int .i64 (Txt.val (Txt.cut1 45 (Txt.cut1 47 p))),.int .i64 (Txt.val (Txt.cut2 45 (Txt.cut1 47 p))),.int .i64 (Txt.val (Txt.cut2 47 p)),.bool false]) (by simp[results,Tryz.results201,go_sem]<;>omega) rfl ⟨ef hA.out hB.out hS.out hK.out (decide_eq_false (by omega)).symm (by omega),⟨_,rfl⟩⟩
 by_cases Y:lo i≤Txt.val (Txt.cut1 45 (Txt.cut1 47 p))
 rotate_left
 ·go_wp2_with (first |(go_at_call 219;refine (dI _ _).mono ?_;rintro e d ⟨rfl,rfl⟩)|(go_at_call 220;refine (dG _ _).mono ?_;rintro e d ⟨rfl,rfl⟩))
  exact bodyPost_ret (v:=.tuple #[.int .i64 (Txt.val (Txt.cut1 45 (Txt.cut1 47 p))),.int .i64 (Txt.val (Txt.cut2 45 (Txt.cut1 47 p))),.int .i64 (Txt.val (Txt.cut2 47 p)),.bool false]) (by simp[results,Tryz.results201,go_sem]<;>omega) rfl ⟨ef hA.out hB.out hS.out hK.out (decide_eq_false (by omega)).symm (by omega),⟨_,rfl⟩⟩
 by_cases q2:Txt.val (Txt.cut1 45 (Txt.cut1 47 p))≤Txt.val (Txt.cut2 45 (Txt.cut1 47 p))
 rotate_left
 ·go_wp2_with (first |(go_at_call 219;refine (dI _ _).mono ?_;rintro e d ⟨rfl,rfl⟩)|(go_at_call 220;refine (dG _ _).mono ?_;rintro e d ⟨rfl,rfl⟩))
  exact bodyPost_ret (v:=.tuple #[.int .i64 (Txt.val (Txt.cut1 45 (Txt.cut1 47 p))),.int .i64 (Txt.val (Txt.cut2 45 (Txt.cut1 47 p))),.int .i64 (Txt.val (Txt.cut2 47 p)),.bool false]) (by simp[results,Tryz.results201,go_sem]<;>omega) rfl ⟨ef hA.out hB.out hS.out hK.out (decide_eq_false (by omega)).symm (by omega),⟨_,rfl⟩⟩
 by_cases q3:Txt.val (Txt.cut2 45 (Txt.cut1 47 p))≤hi i
 rotate_left
 ·go_wp2_with (first |(go_at_call 219;refine (dI _ _).mono ?_;rintro e d ⟨rfl,rfl⟩)|(go_at_call 220;refine (dG _ _).mono ?_;rintro e d ⟨rfl,rfl⟩))
  exact bodyPost_ret (v:=.tuple #[.int .i64 (Txt.val (Txt.cut1 45 (Txt.cut1 47 p))),.int .i64 (Txt.val (Txt.cut2 45 (Txt.cut1 47 p))),.int .i64 (Txt.val (Txt.cut2 47 p)),.bool false]) (by simp[results,Tryz.results201,go_sem]<;>omega) rfl ⟨ef hA.out hB.out hS.out hK.out (decide_eq_false (by omega)).symm (by omega),⟨_,rfl⟩⟩
 ·go_wp2_with (first |(go_at_call 219;refine (dI _ _).mono ?_;rintro e d ⟨rfl,rfl⟩)|(go_at_call 220;refine (dG _ _).mono ?_;rintro e d ⟨rfl,rfl⟩))
  exact bodyPost_ret (v:=.tuple #[.int .i64 (Txt.val (Txt.cut1 45 (Txt.cut1 47 p))),.int .i64 (Txt.val (Txt.cut2 45 (Txt.cut1 47 p))),.int .i64 (Txt.val (Txt.cut2 47 p)),.bool true]) (by simp[results,Tryz.results201,go_sem]<;>omega) rfl ⟨ef hA.out hB.out hS.out hK.out (decide_eq_true ⟨by omega,by omega,by omega,by omega⟩).symm (by omega),⟨_,rfl⟩⟩
theorem kW (p:ByteArray) (i:Int) (w:World) (d:p.size≤300):
 Calls Tryz.prog 201 #[.string p,.int .i64 i] w fun e I=>SpanR i p e∧∃n,I=w.drewN n:=by
 cases h1:Txt.star (Txt.cut1 47 p)<;>cases h2:Txt.cut3 47 p
 ·cases G:Txt.cut3 45 (Txt.cut1 47 p)
  ·exact ti p i w d h1 h2 G
  ·exact sN p i w d h1 h2 G
 ·cases G:Txt.cut3 45 (Txt.cut1 47 p)
  ·exact th p i w d h1 h2 G
  ·exact sQ p i w d h1 h2 G
 ·exact sW p i w d h1 h2
 ·exact sK p i w d h1 h2
theorem ng (c:Int) (y:ByteArray) (L:List ByteArray) (n:Nat) (h:L.length+y.size≤n+(if true=true then 0 else 1)):
 (L++[Txt.cut1 c y]).length+(Txt.cut2 c y).size≤n+(if Txt.cut3 c y=true then 0 else 1)∧(Txt.cut2 c y).size+boolSize (.bool (Txt.cut3 c y))<y.size+1:=by
 cases q:Txt.cut3 c y
 ·have d:¬Txt.fst c y<y.size:=by simpa [Txt.cut3] using q
  have e:Txt.cut2 c y=ByteArray.empty:=by simp[Txt.cut2,d]
  simp[e,boolSize] at h ⊢;omega
 ·have:=Txt.cut2_lt q;simp[boolSize] at h ⊢;omega
theorem oC (c:Int) (s y:ByteArray) (L:List ByteArray) (h:Txt.pcs c s=L++(if true=true then Txt.pcs c y else [])):
 Txt.pcs c s=(L++[Txt.cut1 c y])++(if Txt.cut3 c y=true then Txt.pcs c (Txt.cut2 c y) else []):=by
 rw[h,if_pos rfl,Txt.pcs_cut]
 cases Txt.cut3 c y<;>simp
set_option maxHeartbeats 0 in
theorem eO (s:ByteArray) (c:Int) (w:World) (hs:s.size≤300):
 Calls Tryz.prog 174 #[.string s,.int .u8 c] w fun e w'=>(∃b I,e=.returned (.slice (some ⟨b,0,none⟩) (Txt.pcs c s).length I)∧w.heap.size≤b∧(Txt.pcs c s).length≤I∧StrsAt w' b (Txt.pcs c s))∧Below w.heap.size w w':=by
 obtain⟨i0,hi,aj,af,ad⟩:=info_parts md
 go_enter Tryz.func174,Tryz.ntmps174
 go_wp2_with fail
 go_loopw [0,5,6] (fun x v m wr=>∃(y:ByteArray) (L:List ByteArray) (more:Bool),y.size≤300∧x=.string y∧m=.bool more∧L.length+y.size≤s.size+(if more=true then 0 else 1)∧Txt.pcs c s=L++(if more=true then Txt.pcs c y else [])∧wr.ownsRow w.heap.size 9 1 v L.length (L.map Value.string)∧Below w.heap.size w wr) (fun x _ m _=>strSize x+boolSize m)
 case atStart=>exact⟨s,[],true,hs,rfl,rfl,by simp,by simp,World.ownsRow_nil _ _ _ _,Below.refl _ _⟩
 case round=>
  obtain⟨y,L,more,hy,rfl,rfl,hL,V,G,J⟩:=hrel;have ag:=J.size
  cases more
  ·have U:Hid (Txt.pcs c s=L):=by unfold Hid;rw[V];simp
   clear V;have ah:0<L.length:=by have:=Txt.pcs_ne c s;rw[U.out] at this;exact this
   obtain⟨g,I,Z,ai,_⟩:=G.form ah;have HV:Hid (u5=Value.slice (some ⟨g,0,none⟩) (Txt.pcs c s).length I):=by unfold Hid;rw[U.out];exact Z
   have d:=G;rw[Z] at d;have hA:Hid (StrsAt wr g (Txt.pcs c s)):=by unfold Hid;rw[U.out];exact iA d rfl
   have Y:Hid ((Txt.pcs c s).length≤I):=by
    unfold Hid;rw[U.out]
    rcases d.2 with ⟨h,_⟩|⟨g',au,cur,h,_,_,h2,_⟩
    ·cases h
    ·cases h;exact h2
   clear d G hL Z;go_wp2_with fail;go_ret;exact⟨⟨g,I,congrArg Ending.returned HV.out,ai,Y.out,hA.out⟩,J⟩
  ·have HS:Hid ((L++[Txt.cut1 c y]).length+(Txt.cut2 c y).size≤s.size+(if Txt.cut3 c y=true then 0 else 1)∧(Txt.cut2 c y).size+boolSize (.bool (Txt.cut3 c y))<y.size+1):=ng c y L _ hL
   have U:Hid (Txt.pcs c s=(L++[Txt.cut1 c y])++(if Txt.cut3 c y=true then Txt.pcs c (Txt.cut2 c y) else [])):=oC c s y L V
   have HY:Hid ((Txt.cut2 c y).size≤300):=Nat.le_trans (Txt.cut2_size _ _) hy;have av:L.length≤300:=by simp at hL;omega
   clear V hL;go_wp2_with fail;refine (eo _ _ _ hy).mono ?_;rintro e w' ⟨rfl,n1,rfl⟩;go_wp2_with (at_builtin;refine wpList_append_lies _ rfl (.tmp 18) (.tmp 20) 60 rfl w.heap.size 9 i0 (.string ByteArray.empty) 1 16 Tryz.underlying60 hi aj af ad rfl (by decide) _ _ _ rfl (fD (G.alloc _) _) ⟨wr.heap.size,0,none⟩ 1 1 [.string (Txt.cut1 c y)] rfl rfl ?c1 ?c2 (by decide) ?c3 ?c4 ?c5 _ rfl ?_)
   case c1=>exact cell_one_new _ _ _
   case c2=>intro u hu;simp at hu;subst hu;rfl
   case c3=>unfold maxLen;omega
   case c4=>omega
   case c5=>simp;omega
   ·intro g I w1 Q O _ ao;have B1:Below w.heap.size w w1:=(below_drewN (J.alloc ag _) _).grown O (by simp;omega) (fun k' e=>(G.lt k' e).1)
    have d:w1.ownsRow w.heap.size 9 1 (.slice (some ⟨g,0,none⟩) (L.length+1) I) (L++[Txt.cut1 c y]).length ((L++[Txt.cut1 c y]).map Value.string):=by simpa using Q
    clear Q O G J;go_wp2_with fail;go_roundw
    case rel=>exact⟨Txt.cut2 c y,L++[Txt.cut1 c y],Txt.cut3 c y,HY.out,rfl,rfl,HS.out.1,U.out,d,B1⟩
    case measure=>exact HS.out.2
set_option maxHeartbeats 0 in
theorem li (f:ByteArray) (i:Int) (w:World) (J:f.size≤300):
 Calls Tryz.prog 175 #[.string f,.int .i64 i] w fun e U=>e=.returned (.bool (Txt.fldB (lo i) (hi i) f))∧Below w.heap.size w U:=by
 go_enter Tryz.func175,Tryz.ntmps175
 go_wp2_with fail;refine (eO _ _ _ J).mono ?_;rintro e w1 ⟨⟨b,ad,rfl,_,aa,hS⟩,hb⟩;have Z:=Txt.pcs_len 44 f;have HC:=Hq hS;clear hS;go_wp2_with fail
 go_loopw [6] (fun x wr=>∃k:Nat,k≤(Txt.pcs 44 f).length∧x=.int .i64 k∧(∀j (I:j<(Txt.pcs 44 f).length),j<k→Txt.spK (lo i) (hi i) (Txt.pcs 44 f)[j]=true)∧∃n,wr=w1.drewN n) (fun x _=>(Txt.pcs 44 f).length-(intOf x).toNat)
 case atStart=>exact⟨0,Nat.zero_le _,rfl,fun j _ h=>by omega,0,rfl⟩
 case round=>
  obtain⟨k,hk,rfl,G,n0,rfl⟩:=hrel;have O:=Hq G;clear G
  by_cases d:k<(Txt.pcs 44 f).length
  ·have Y:w1.cell? ⟨b,k,none⟩=some (.string (Txt.pcs 44 f)[k]):=HC.out k d;have V:Hid ((Txt.pcs 44 f)[k].size≤300):=Txt.pcs_sz J k d;go_wp2_with fail;refine (kW _ _ _ V.out).mono ?_;rintro e U ⟨⟨a1,b1,t1,rfl,_,_⟩,n1,rfl⟩
   cases Q:Txt.spK (lo i) (hi i) (Txt.pcs 44 f)[k]
   ·have e:Hid (Txt.fldB (lo i) (hi i) f=false):=Txt.fldB_no d Q;go_wp2_with fail;go_ret;exact⟨dz e.out.symm,below_drewN hb _⟩
   ·have HQ:=Hq Q;go_wp2_with fail;go_roundw
    case rel=>
     refine⟨k+1,by omega,by go_num,fun j I h=>?_,_,rfl⟩
     by_cases q:j=k
     ·subst q;exact HQ.out
     ·exact O.out j I (by omega)
    case measure=>simp[intOf];omega
  ·have e:Hid (Txt.fldB (lo i) (hi i) f=true):=Txt.fldB_yes (fun j I=>O.out j I (by omega))
   go_wp2_with fail;go_ret;exact⟨dz e.out.symm,below_drewN hb _⟩
set_option maxHeartbeats 0 in
theorem pi (f:ByteArray) (i v:Int) (w:World) (Y:f.size≤300) (v1:0≤v) (v2:v≤60) (U:Txt.fldB (lo i) (hi i) f=true):
 Calls Tryz.prog 226 #[.string f,.int .i64 i,.int .i64 v] w fun e w'=>e=.returned (.bool (Txt.hldB (lo i) (hi i) v f))∧Below w.heap.size w w':=by
 have HF:=Hq U;clear U
 go_enter Tryz.func226,Tryz.ntmps226
 go_wp2_with fail;refine (eO _ _ _ Y).mono ?_;rintro e w1 ⟨⟨b,ao,rfl,_,aj,hS⟩,hb⟩;have ak:=Txt.pcs_len 44 f;have ap:=gg i;have HC:=Hq hS;clear hS;go_wp2_with fail
 go_loopw [8] (fun x wr=>∃k:Nat,k≤(Txt.pcs 44 f).length∧x=.int .i64 k∧(∀j (J:j<(Txt.pcs 44 f).length),j<k→Txt.inB (Txt.spA (lo i) (Txt.pcs 44 f)[j]) (Txt.spB (hi i) (Txt.pcs 44 f)[j]) (Txt.spS (Txt.pcs 44 f)[j]) v=false)∧∃n,wr=w1.drewN n) (fun x _=>(Txt.pcs 44 f).length-(intOf x).toNat)
 case atStart=>exact⟨0,Nat.zero_le _,rfl,fun j _ h=>by omega,0,rfl⟩
 case round=>
  obtain⟨k,hk,rfl,I,n0,rfl⟩:=hrel;have HA:=Hq I;clear I
  by_cases d:k<(Txt.pcs 44 f).length
  ·have ad:w1.cell? ⟨b,k,none⟩=some (.string (Txt.pcs 44 f)[k]):=HC.out k d;have Z:Hid ((Txt.pcs 44 f)[k].size≤300):=Txt.pcs_sz Y k d;have hK:=Txt.fldB_at HF.out k d;have aq:=Txt.spK_bd hK;have HK:=Hq hK;clear hK;go_wp2_with fail;refine (kW _ _ _ Z.out).mono ?_;rintro e w' ⟨⟨a1,b1,t1,rfl,_,V⟩,n1,rfl⟩;obtain⟨rfl,rfl,rfl⟩:=V HK.out
   have Q:Hid (Txt.inB (Txt.spA (lo i) (Txt.pcs 44 f)[k]) (Txt.spB (hi i) (Txt.pcs 44 f)[k]) (Txt.spS (Txt.pcs 44 f)[k]) v=false→∀j (J:j<(Txt.pcs 44 f).length),j<k+1→Txt.inB (Txt.spA (lo i) (Txt.pcs 44 f)[j]) (Txt.spB (hi i) (Txt.pcs 44 f)[j]) (Txt.spS (Txt.pcs 44 f)[j]) v=false):=by
    intro h j J hl
    by_cases q:j=k
    ·subst q;exact h
    ·exact HA.out j J (by omega)
   have HY:Hid (Txt.inB (Txt.spA (lo i) (Txt.pcs 44 f)[k]) (Txt.spB (hi i) (Txt.pcs 44 f)[k]) (Txt.spS (Txt.pcs 44 f)[k]) v=true→Txt.hldB (lo i) (hi i) v f=true):=Txt.hldB_yes d;generalize Txt.spA (lo i) (Txt.pcs 44 f)[k]=A at *;generalize Txt.spB (hi i) (Txt.pcs 44 f)[k]=B at *;generalize Txt.spS (Txt.pcs 44 f)[k]=S at *
   by_cases q1:A≤v
   rotate_left
   ·go_wp2_with fail;go_roundw
    case rel=>exact⟨k+1,by omega,by go_num,Q.out (Txt.inB_no (by omega)),_,rfl⟩
    case measure=>simp[intOf];omega
   by_cases q2:v≤B
   rotate_left
   ·go_wp2_with fail;go_roundw
    case rel=>exact⟨k+1,by omega,by go_num,Q.out (Txt.inB_no (by omega)),_,rfl⟩
    case measure=>simp[intOf];omega
   cases O:((v-A) % S==0)
   ·have G:¬(v-A) % S=0:=by simpa using O
    have Q4:=Hq G;clear G;have ab:((v-A).tmod S==0)=false:=by rw[Int.tmod_eq_emod_of_nonneg (by omega)];exact O
    go_wp2_with fail;go_roundw
    case rel=>exact⟨k+1,by omega,by go_num,Q.out (Txt.inB_no (Or.inr (Or.inr (Or.inr Q4.out)))),_,rfl⟩
    case measure=>simp[intOf];omega
   ·have G:(v-A) % S=0:=by simpa using O
    have e:Hid (Txt.hldB (lo i) (hi i) v f=true):=HY.out (Txt.inB_yes q1 q2 (by omega) G)
    have ab:((v-A).tmod S==0)=true:=by rw[Int.tmod_eq_emod_of_nonneg (by omega)];exact O
    clear G;go_wp2_with fail;go_ret;exact⟨dz e.out.symm,below_drewN hb _⟩
  ·have e:Hid (Txt.hldB (lo i) (hi i) v f=false):=Txt.hldB_no (fun j J=>HA.out j J (by omega))
   go_wp2_with fail;go_ret;exact⟨dz e.out.symm,below_drewN hb _⟩
set_option maxHeartbeats 0 in
theorem ml (s:ByteArray) (w:World) (hs:s.size≤300):
 Calls Tryz.prog 141 #[.string s] w fun e Q=>e=.returned (.bool (lineB s))∧Below w.heap.size w Q:=by
 go_enter Tryz.func141,Tryz.ntmps141
 go_wp2_with fail;refine (eO _ _ _ hs).mono ?_;rintro e w1 ⟨⟨b,aH,rfl,_,aA,hS⟩,hb⟩;have aC:=Txt.pcs_len 32 s
 by_cases n7:(Txt.pcs 32 s).length<7
 ·have e:Hid (lineB s=false):=eh (fun h=>by have:=h.n7;omega)
  go_wp2_with fail;go_ret;exact⟨dz e.out.symm,hb⟩
 by_cases n11:11<(Txt.pcs 32 s).length
 ·have e:Hid (lineB s=false):=eh (fun h=>by have:=h.n11;omega)
  go_wp2_with fail;go_ret;exact⟨dz e.out.symm,hb⟩
 have h5:5<(Txt.pcs 32 s).length:=by omega
 have c5:w1.cell? ⟨b,5,none⟩=some (.string (Txt.pcs 32 s)[5]):=hS 5 h5;have z5:(Txt.pcs 32 s)[5].size≤300:=Txt.pcs_sz hs 5 h5;have HS:=Hq hS;clear hS
 by_cases n3:(Txt.pcs 32 s)[5].size=3
 rotate_left
 ·have e:Hid (lineB s=false):=eh (fun h=>by
   have:=h.opt h5
   rw[Txt.optB_no (fun q=>n3 q.1)] at this;cases this)
  have aj:(((Txt.pcs 32 s)[5].size:Int) !=3)=true:=by simp;omega
  clear n3;go_wp2_with fail;go_ret;exact⟨dz e.out.symm,hb⟩
 have aj:(((Txt.pcs 32 s)[5].size:Int) !=3)=false:=by simp;omega
 have N3:=Hq n3;clear n3;go_wp2_with fail;clear c5
 go_loopw [4] (fun x wr=>∃k:Nat,k≤5∧x=.int .i64 k∧(∀(j:Nat) (Z:j<(Txt.pcs 32 s).length),j<k→Txt.fldB (lo j) (hi j) (Txt.pcs 32 s)[j]=true)∧Below w1.heap.size w1 wr) (fun x _=>5-(intOf x).toNat)
 case atStart=>exact⟨0,by omega,rfl,fun j _ h=>by omega,Below.refl _ _⟩
 case round=>
  obtain⟨k,hk,rfl,G,d⟩:=hrel;have HA:=Hq G;clear G;have U:=Hq (hb.trans (d.mono hb.size))
  by_cases aq:k<5
  ·have O:k<(Txt.pcs 32 s).length:=by omega
   have J:wr.cell? ⟨b,k,none⟩=some (.string (Txt.pcs 32 s)[k]):=cell_later d (HS.out k O);have zk:Hid ((Txt.pcs 32 s)[k].size≤300):=Txt.pcs_sz hs k O;go_wp2_with fail;refine (li _ _ _ zk.out).mono ?_;rintro e w2 ⟨rfl,ag⟩;clear J;have Y:Below w1.heap.size w1 w2:=d.trans (ag.mono d.size);have al:=Hq (hb.trans (Y.mono hb.size));clear d ag
   cases I:Txt.fldB (lo k) (hi k) (Txt.pcs 32 s)[k]
   ·have e:Hid (lineB s=false):=eh (fun h=>by rw[h.fld k O aq] at I;cases I)
    go_wp2_with fail;go_ret;exact⟨dz e.out.symm,al.out⟩
   ·have HQ:=Hq I;go_wp2_with fail;go_roundw
    case rel=>
     refine⟨k+1,by omega,by go_num,fun j Z h=>?_,Y⟩
     by_cases q:j=k
     ·subst q;exact HQ.out
     ·exact HA.out j Z (by omega)
    case measure=>simp[intOf];omega
  ·obtain rfl:k=5:=by omega
   have c5:wr.cell? ⟨b,5,none⟩=some (.string (Txt.pcs 32 s)[5]):=cell_later d (HS.out 5 h5);have i3:(Txt.pcs 32 s)[5].size=3:=N3.out;have x0:((Txt.pcs 32 s)[5].extract 0 1).size≤300:=by simp[ByteArray.size_extract];omega
   have x1:((Txt.pcs 32 s)[5].extract 1 2).size≤300:=by simp[ByteArray.size_extract];omega
   have x2:((Txt.pcs 32 s)[5].extract 2 (Txt.pcs 32 s)[5].size).size≤300:=by simp[ByteArray.size_extract];omega
   have X0:=Hq x0;have X1:=Hq x1;have X2:=Hq x2;clear x0 x1 x2 i3;have y1:1≤(Txt.pcs 32 s)[5].size:=by have:=N3.out;omega
   have y2:2≤(Txt.pcs 32 s)[5].size:=by have:=N3.out;omega
   go_wp2_with fail;refine (fX _ _ _ X0.out (by decide)).mono ?_
   rintro e Q ⟨rfl,m1,rfl⟩;go_wp2_with fail;refine (fX _ _ _ X1.out (by decide)).mono ?_
   rintro e Q ⟨rfl,m2,rfl⟩;go_wp2_with fail;refine (fX _ _ _ X2.out (by decide)).mono ?_
   rintro e Q ⟨rfl,m3,rfl⟩;have OA:Hid ((Txt.amgB ((Txt.pcs 32 s)[5].extract 0 1) ⟨#[120,111]⟩&&Txt.amgB ((Txt.pcs 32 s)[5].extract 1 2) ⟨#[97,108,110]⟩&&Txt.amgB ((Txt.pcs 32 s)[5].extract 2 (Txt.pcs 32 s)[5].size) ⟨#[49,50,51,52,53]⟩)=Txt.optB (Txt.pcs 32 s)[5]):=Txt.opt_amg N3.out;generalize Txt.amgB ((Txt.pcs 32 s)[5].extract 0 1) ⟨#[120,111]⟩=A0 at *;generalize Txt.amgB ((Txt.pcs 32 s)[5].extract 1 2) ⟨#[97,108,110]⟩=A1 at *;generalize Txt.amgB ((Txt.pcs 32 s)[5].extract 2 (Txt.pcs 32 s)[5].size) ⟨#[49,50,51,52,53]⟩=A2 at *;go_wp2_with fail
   go_loop [9] (fun x=>∃k:Nat,6≤k∧k≤(Txt.pcs 32 s).length∧x=.int .i64 k∧(∀(j:Nat) (Z:j<(Txt.pcs 32 s).length),6≤j→j<k→Txt.stepB (Txt.pcs 32 s)[j]=true)) (fun x=>(Txt.pcs 32 s).length-(intOf x).toNat)
   case atStart=>exact⟨6,by omega,by omega,rfl,fun j _ h h'=>by omega⟩
   case round=>
    obtain⟨k,aw,O,rfl,G⟩:=hrel;have HT:=Hq G;clear G
    by_cases V:k<(Txt.pcs 32 s).length
    ·have J:wr.cell? ⟨b,k,none⟩=some (.string (Txt.pcs 32 s)[k]):=cell_later d (HS.out k V);have zk:Hid ((Txt.pcs 32 s)[k].size≤300):=Txt.pcs_sz hs k V
     cases I:Txt.stepB (Txt.pcs 32 s)[k]
     ·have e:Hid (lineB s=false):=eh (fun h=>by rw[h.stp k V aw] at I;cases I)
      go_wp2_with (go_at_call 177;refine (iG _ _ zk.out).mono ?_;rintro e Q ⟨rfl,rfl⟩);go_ret;exact⟨dz e.out.symm,below_drewN U.out _⟩
     ·have HQ:=Hq I;go_wp2_with (go_at_call 177;refine (iG _ _ zk.out).mono ?_;rintro e Q ⟨rfl,rfl⟩)
      go_round
      case rel=>
       refine⟨k+1,by omega,by omega,by go_num,fun j Z h1 h=>?_⟩
       by_cases q:j=k
       ·subst q;exact HQ.out
       ·exact HT.out j Z h1 (by omega)
      case measure=>simp[intOf];omega
    ·have e:Hid (Txt.optB (Txt.pcs 32 s)[5]=lineB s):=by
      unfold Hid
      cases q:Txt.optB (Txt.pcs 32 s)[5]
      ·exact (eh (fun h=>by rw[h.opt h5] at q;cases q)).symm
      ·exact (jG ⟨by omega,by omega,fun i h h'=>HA.out i h h',fun _=>q,fun i h h'=>HT.out i h h' (by omega)⟩).symm
     have E:Hid (∀r:Bool,r=(A0&&A1&&A2)→r=lineB s):=fun r hr=>by rw[hr,OA.out,e.out]
     clear e OA
     cases A0
     ·go_wp2_with fail;go_ret;exact⟨dz (E.out _ rfl),below_drewN U.out _⟩
     cases A1
     ·go_wp2_with fail;go_ret;exact⟨dz (E.out _ rfl),below_drewN U.out _⟩
     cases A2
     ·go_wp2_with fail;go_ret;exact⟨dz (E.out _ rfl),below_drewN U.out _⟩
     ·go_wp2_with fail;go_ret;exact⟨dz (E.out _ rfl),below_drewN U.out _⟩
set_option maxHeartbeats 0 in
theorem jA (s:ByteArray) (w:World) (V:s.size≤300):
 Calls Tryz.prog 140 #[.string s] w fun e Q=>(∃b d,e=.returned (.tuple #[.slice (some ⟨b,0,none⟩) (tm s) d,.bool (tb s)])∧StrsAt Q b (Txt.pcs 10 s))∧Below w.heap.size w Q:=by
 go_enter Tryz.func140,Tryz.ntmps140
 go_wp2_with fail;refine (eO _ _ _ V).mono ?_;rintro e w1 ⟨⟨b,d,rfl,Y,I,hS⟩,hb⟩;have G:=Txt.pcs_len 10 s;have O:=iT s;have J:Hid (StrsAt w1 b (Txt.pcs 10 s)):=hS;rw[O] at I G ⊢;have c:w1.cell? ⟨b,tn s,none⟩=some (.string (tl s (tn s))):=by rw[←gb (eQ s)];exact hS _ (eQ s)
 clear O hS;have b1:(0:Int)≤(tn s:Int):=by omega
 have b2:(tn s:Int)<((tn s+1:Nat):Int):=by omega
 have b3:(tn s:Int)≤(d:Int):=by omega
 have U:=iX (s:=tl s (tn s))
 by_cases z:(tl s (tn s)).size=0
 ·have Z:Hid ((tl s (tn s)).size=0):=z;rw[decide_eq_true z] at U;clear z;go_wp2_with fail;go_ret2;refine⟨⟨b,d,?_,J.out⟩,hb⟩;rw[tm,tb,if_pos Z.out,decide_eq_true Z.out];rfl
 ·have Z:Hid (¬(tl s (tn s)).size=0):=z;rw[decide_eq_false z] at U;clear z;go_wp2_with fail;go_ret2;refine⟨⟨b,d,?_,J.out⟩,hb⟩;rw[tm,tb,if_neg Z.out,decide_eq_false Z.out];rfl
set_option maxHeartbeats 0 in
theorem gF (s:ByteArray) (w:World) (hs:s.size≤maxLen):
 Calls Tryz.prog 109 #[.string s] w fun e w'=>(∃a r:Int,e=.returned (.tuple #[.int .i64 a,.int .i64 r])∧ChkR s a r∧0≤r)∧Below w.heap.size w w':=by
 unfold maxLen at hs
 by_cases ad:300<s.size
 ·have K:Hid (ChkR s 0 1):=ChkR.long ad
  go_enter Tryz.func109,Tryz.ntmps109
  go_wp2_with fail;go_ret2;exact⟨⟨0,1,rfl,K.out,by omega⟩,Below.refl _ _⟩
 have d:s.size≤300:=by omega
 go_enter Tryz.func109,Tryz.ntmps109
 go_wp2_with fail;refine (jA _ _ d).mono ?_;rintro e w1 ⟨⟨b,aw,rfl,hS⟩,hb⟩;have ae:=Txt.pcs_len 10 s;have hn:=iT s;have HS:Hid (StrsAt w1 b (Txt.pcs 10 s)):=hS;clear hS;obtain⟨m,hm⟩:∃m:Nat,m=tm s:=⟨_,rfl⟩;have G:Hid (m=tn s+(if (tl s (tn s)).size=0 then 0 else 1)):=hm
 have ay:m≤tn s+1:=by rw[hm,tm];split<;>omega
 rw[←hm];clear hm;obtain⟨o,ho⟩:∃o:Bool,o=tb s:=⟨_,rfl⟩;have HO:Hid (o= !decide ((tl s (tn s)).size=0)):=ho;rw[←ho];clear ho;have HN:Hid ((Txt.pcs 10 s).length=tn s+1):=hn;have aA:m≤302:=by omega
 clear hn ae hs
 by_cases h4:4<m
 ·have K:Hid (ChkR s 0 2):=ChkR.many d (by rw[←G.out];exact h4)
  go_wp2_with fail;go_ret2;exact⟨⟨0,2,rfl,K.out,by omega⟩,hb⟩
 have Q:Hid (tn s+(if (tl s (tn s)).size=0 then 0 else 1)≤4):=by unfold Hid;rw[←G.out];omega
 go_wp2_with fail
 go_loopw [6] (fun x wr=>∃k:Nat,k≤m∧x=.int .i64 k∧(∀j:Nat,j<k→lineB (tl s j)=true)∧(k≤tn s)∧Below w1.heap.size w1 wr) (fun x _=>m-(intOf x).toNat)
 case atStart=>exact⟨0,Nat.zero_le _,rfl,fun j h=>by omega,Nat.zero_le _,Below.refl _ _⟩
 case round=>
  obtain⟨k,hk,rfl,Y,az,I⟩:=hrel;have V:Hid (∀j:Nat,j<k→lineB (tl s j)=true):=Y;clear Y
  by_cases ax:k<m
  ·have U:k<(Txt.pcs 10 s).length:=by have:=HN.out;omega
   have Z:wr.cell? ⟨b,k,none⟩=some (.string (tl s k)):=by rw[←gb U];exact cell_later I (HS.out k U)
   have zk:Hid ((tl s k).size≤300):=fG d k U;have b1:(0:Int)≤(k:Int):=by omega
   have b2:(k:Int)<(m:Int):=by omega
   go_wp2_with fail;refine (ml _ _ zk.out).mono ?_;rintro e w2 ⟨rfl,ac⟩;clear Z;have J:Below w1.heap.size w1 w2:=I.trans (ac.mono I.size);have BB:Hid (Below w.heap.size w w2):=hb.trans (J.mono hb.size);clear I ac
   cases hq:lineB (tl s k)
   ·have K:Hid (ChkR s (k+1) 3):=by
     unfold Hid
     by_cases q:k<tn s
     ·exact ChkR.line d Q.out k q hq V.out
     ·have e:k=tn s:=by omega
      have z:¬(tl s (tn s)).size=0:=by intro z;have:=G.out;rw[if_pos z] at this;omega
      rw[e];exact ChkR.last d Q.out (fun j hj=>V.out j (by omega)) z
    go_wp2_with fail;go_ret2;exact⟨⟨_,3,rfl,K.out,by omega⟩,BB.out⟩
   ·have HQ:Hid (lineB (tl s k)=true):=hq
    have ab:Hid (∀j:Nat,j<k+1→lineB (tl s j)=true):=by
     intro j h
     by_cases q:j=k
     ·subst q;exact HQ.out
     ·exact V.out j (by omega)
    by_cases O:k=tn s
    ·have z:¬(tl s (tn s)).size=0:=by intro z;have:=G.out;rw[if_pos z] at this;omega
     have K:Hid (ChkR s (k+1) 3):=by
      unfold Hid;rw[O];exact ChkR.last d Q.out (fun j hj=>V.out j (by omega)) z
     have o1:o=true:=by have:=HO.out;rw[decide_eq_false z] at this;exact this
     have q2:((k:Int)==(m:Int)-1)=true:=by have:=G.out;rw[if_neg z] at this;simp;omega
     clear O z;go_wp2_with fail;go_ret2;exact⟨⟨_,3,rfl,K.out,by omega⟩,BB.out⟩
    ·cases o
     ·go_wp2_with fail;go_roundw
      case rel=>exact⟨k+1,by omega,by go_num,ab.out,by omega,J⟩
      case measure=>simp[intOf];omega
     ·have z:¬(tl s (tn s)).size=0:=by
       intro z;have:=HO.out;rw[decide_eq_true z] at this;cases this
      have q2:((k:Int)==(m:Int)-1)=false:=by have:=G.out;rw[if_neg z] at this;simp;omega
      clear z;go_wp2_with fail;go_roundw
      case rel=>exact⟨k+1,by omega,by go_num,ab.out,by omega,J⟩
      case measure=>simp[intOf];omega
  ·have z:(tl s (tn s)).size=0:=by
    by_cases z:(tl s (tn s)).size=0
    ·exact z
    ·have:=G.out;rw[if_neg z] at this;omega
   have K:Hid (ChkR s 0 0):=ChkR.ok d Q.out (fun j hj=>V.out j (by have:=G.out;rw[if_pos z] at this;omega)) z
   have BB:Hid (Below w.heap.size w wr):=hb.trans (I.mono hb.size);clear z;go_wp2_with fail;go_ret2;exact⟨⟨0,0,rfl,K.out,by omega⟩,BB.out⟩
attribute [local go_sem ↓] Go.wp_at_zero Go.wp_at_succ
theorem fR (f:ByteArray) (i v:Int) (w:World) (x:Bool) (d:x=Txt.hldB (lo i) (hi i) v f) (I:f.size≤300) (Q:0≤v) (G:v≤60) (J:Txt.fldB (lo i) (hi i) f=true):
 Calls Tryz.prog 226 #[.string f,.int .i64 i,.int .i64 v] w fun e O=>e=.returned (.bool x)∧Below w.heap.size w O:=d▸pi f i v w I Q G J
set_option maxHeartbeats 0 in
theorem oa (s:ByteArray) (y m d h i k:Int) (w:World) (hs:s.size≤300) (hP:LineP s) (m1:0≤m) (m2:m≤60) (d1:0≤d) (d2:d≤60) (h1:0≤h) (h2:h≤60) (i1:0≤i) (i2:i≤60) (k1:0≤k) (k2:k≤60):
 Calls Tryz.prog 222 #[.string s,dateV y m d h i k] w fun e I=>e=.returned (.bool (dueB s m d h i k))∧Below w.heap.size w I:=by
 have J:=Hq hP;have h7:=hP.n7;have bh:=hP.n11;clear hP
 go_enter Tryz.func222,Tryz.ntmps222
 go_wp2_with fail;refine (eO _ _ _ hs).mono ?_;rintro e w1 ⟨⟨b,bg,rfl,_,a9,hS⟩,hb⟩;have D1:DateAt w1 w.heap.size y m d h i k:=(DateAt.new w y m d h i k _).later hb
 have aj:∀(t:Nat),t<5→w1.cell? ⟨b,t,none⟩=some (.string (pt s t)):=by
  intro t Q;have hl:t<(Txt.pcs 32 s).length:=by omega
  rw[←eN hl];exact hS t hl
 have C1:=Hq aj;have ar:=Hq D1;have B1:Hid (Below w.heap.size w w1):=(dx w _).trans (hb.mono (by simp))
 have aE:w.heap.size<w1.heap.size:=by have:=hb.size;simp at this;omega
 clear hb hS D1 aj;obtain⟨x,hx⟩:∃x:Bool,x=Txt.hldB (lo 0) (hi 0) i (pt s 0):=⟨_,rfl⟩;obtain⟨y',hy⟩:∃x:Bool,x=Txt.hldB (lo 1) (hi 1) h (pt s 1):=⟨_,rfl⟩;obtain⟨z,hz⟩:∃z:Bool,z=Txt.hldB (lo 3) (hi 3) m (pt s 3):=⟨_,rfl⟩;obtain⟨u,hu⟩:∃x:Bool,x=Txt.hldB (lo 2) (hi 2) d (pt s 2):=⟨_,rfl⟩;obtain⟨v,hv⟩:∃z:Bool,z=Txt.hldB (lo 4) (hi 4) k (pt s 4):=⟨_,rfl⟩;have HX:=Hq hx;have HY:=Hq hy;have HZ:=Hq hz;have HU:=Hq hu;have HV:=Hq hv;have O:Hid (dueB s m d h i k=(x&&(y'&&(z&&(if (Txt.opn (pt s 2)||Txt.opn (pt s 4))=true then (u&&v) else (u||v)))))):=by unfold Hid;rw[dueB,dayB,hx,hy,hz,hu,hv]
 clear hx hy hz hu hv;have n0:(0:Int)<((Txt.pcs 32 s).length:Int):=by omega
 have n1:(1:Int)<((Txt.pcs 32 s).length:Int):=by omega
 have n2:(2:Int)<((Txt.pcs 32 s).length:Int):=by omega
 have n3:(3:Int)<((Txt.pcs 32 s).length:Int):=by omega
 have n4:(4:Int)<((Txt.pcs 32 s).length:Int):=by omega
 have bj:0<(Txt.pcs 32 s).length:=by omega
 have c1:=C1.out 0 (by decide)
 obtain⟨q0,Y,V,q3,U,Z⟩:=ar.out;go_wp2_with fail
 go_region_held3 (fun I=>I.cell? ⟨b,0,none⟩=some (.string (pt s 0))∧I.cell? ⟨w.heap.size,4,none⟩=some (.int .i64 i)) (first |go_keep|(refine⟨?_,?_⟩<;>exact cell_later G (by simp[*]))) ((go_at_call 226;refine (fR _ 0 i _ x HX.out (J.out.sz hs 0 (by decide)) i1 i2 (J.out.fl 0 (by decide))).mono ?_;rintro e w2 ⟨rfl,G⟩))
 rename Below _ _ _=>G
 have ae:Below w1.heap.size w1 w2:=(Below.refl _ _).drew.trans G;have ax:=Hq (ar.out.later ae);have C2:Hid (∀(t:Nat),t<5→w2.cell? ⟨b,t,none⟩=some (.string (pt s t))):=fun t Q=>cell_later ae (C1.out t Q)
 have B2:Hid (Below w.heap.size w w2):=B1.out.trans (ae.mono (Nat.le_of_lt aE));have aB:w.heap.size<w2.heap.size:=Nat.lt_of_lt_of_le aE ae.size;clear G ae C1 ar c1 q0 Y V q3 U Z HX;have c2:=C2.out 1 (by decide)
 obtain⟨q0,Y,V,q3,U,Z⟩:=ax.out;go_wp2_with fail
 go_region_held3 (fun I=>I.cell? ⟨b,1,none⟩=some (.string (pt s 1))∧I.cell? ⟨w.heap.size,3,none⟩=some (.int .i64 h)) (first |go_keep|(refine⟨?_,?_⟩<;>exact cell_later G (by simp[*]))) ((go_at_call 226;refine (fR _ 1 h _ y' HY.out (J.out.sz hs 1 (by decide)) h1 h2 (J.out.fl 1 (by decide))).mono ?_;rintro e w3 ⟨rfl,G⟩))
 rename Below _ _ _=>G
 have af:Below w2.heap.size w2 w3:=(Below.refl _ _).drew.trans G;have aw:=Hq (ax.out.later af);have C3:Hid (∀(t:Nat),t<5→w3.cell? ⟨b,t,none⟩=some (.string (pt s t))):=fun t Q=>cell_later af (C2.out t Q)
 have B3:Hid (Below w.heap.size w w3):=B2.out.trans (af.mono (Nat.le_of_lt aB));have aF:w.heap.size<w3.heap.size:=Nat.lt_of_lt_of_le aB af.size;clear G af C2 ax c2 q0 Y V q3 U Z HY;have c3:=C3.out 3 (by decide)
 obtain⟨q0,Y,V,q3,U,Z⟩:=aw.out;go_wp2_with fail
 go_region_held3 (fun I=>I.cell? ⟨b,3,none⟩=some (.string (pt s 3))∧I.cell? ⟨w.heap.size,1,none⟩=some (.int .i64 m)) (first |go_keep|(refine⟨?_,?_⟩<;>exact cell_later G (by simp[*]))) ((go_at_call 226;refine (fR _ 3 m _ z HZ.out (J.out.sz hs 3 (by decide)) m1 m2 (J.out.fl 3 (by decide))).mono ?_;rintro e w4 ⟨rfl,G⟩))
 rename Below _ _ _=>G
 have ac:Below w3.heap.size w3 w4:=(Below.refl _ _).drew.trans G;have av:=Hq (aw.out.later ac);have C4:Hid (∀(t:Nat),t<5→w4.cell? ⟨b,t,none⟩=some (.string (pt s t))):=fun t Q=>cell_later ac (C3.out t Q)
 have B4:Hid (Below w.heap.size w w4):=B3.out.trans (ac.mono (Nat.le_of_lt aF));have aD:w.heap.size<w4.heap.size:=Nat.lt_of_lt_of_le aF ac.size;clear G ac C3 aw c3 q0 Y V q3 U Z HZ
 cases x
 ·have D:Hid (false=dueB s m d h i k):=by unfold Hid;rw[O.out];rfl
  clear O;go_wp2_with fail;go_ret;exact⟨dz D.out,B4.out⟩
 cases y'
 ·have D:Hid (false=dueB s m d h i k):=by unfold Hid;rw[O.out];rfl
  clear O;go_wp2_with fail;go_ret;exact⟨dz D.out,B4.out⟩
 cases z
 ·have D:Hid (false=dueB s m d h i k):=by unfold Hid;rw[O.out];rfl
  clear O;go_wp2_with fail;go_ret;exact⟨dz D.out,B4.out⟩
 have c4:=C4.out 2 (by decide)
 obtain⟨q0,Y,V,q3,U,Z⟩:=av.out;go_wp2_with fail
 go_region_held3 (fun I=>I.cell? ⟨b,2,none⟩=some (.string (pt s 2))∧I.cell? ⟨w.heap.size,2,none⟩=some (.int .i64 d)) (first |go_keep|(refine⟨?_,?_⟩<;>exact cell_later G (by simp[*]))) ((go_at_call 226;refine (fR _ 2 d _ u HU.out (J.out.sz hs 2 (by decide)) d1 d2 (J.out.fl 2 (by decide))).mono ?_;rintro e w5 ⟨rfl,G⟩))
 rename Below _ _ _=>G
 have ad:Below w4.heap.size w4 w5:=(Below.refl _ _).drew.trans G;have au:=Hq (av.out.later ad);have C5:Hid (∀(t:Nat),t<5→w5.cell? ⟨b,t,none⟩=some (.string (pt s t))):=fun t Q=>cell_later ad (C4.out t Q)
 have B5:Hid (Below w.heap.size w w5):=B4.out.trans (ad.mono (Nat.le_of_lt aD));have aC:w.heap.size<w5.heap.size:=Nat.lt_of_lt_of_le aD ad.size;clear G ad C4 av c4 q0 Y V q3 U Z HU;have c5:=C5.out 4 (by decide)
 obtain⟨q0,Y,V,q3,U,Z⟩:=au.out;go_wp2_with fail
 go_region_held3 (fun I=>I.cell? ⟨b,4,none⟩=some (.string (pt s 4))∧I.cell? ⟨w.heap.size,5,none⟩=some (.int .i64 k)) (first |go_keep|(refine⟨?_,?_⟩<;>exact cell_later G (by simp[*]))) ((go_at_call 226;refine (fR _ 4 k _ v HV.out (J.out.sz hs 4 (by decide)) k1 k2 (J.out.fl 4 (by decide))).mono ?_;rintro e w6 ⟨rfl,G⟩))
 rename Below _ _ _=>G
 have ag:Below w5.heap.size w5 w6:=(Below.refl _ _).drew.trans G;have bc:=Hq (au.out.later ag);have C6:Hid (∀(t:Nat),t<5→w6.cell? ⟨b,t,none⟩=some (.string (pt s t))):=fun t Q=>cell_later ag (C5.out t Q)
 have B6:Hid (Below w.heap.size w w6):=B5.out.trans (ag.mono (Nat.le_of_lt aC));have bf:w.heap.size<w6.heap.size:=Nat.lt_of_lt_of_le aC ag.size;clear G ag C5 au c5 q0 Y V q3 U Z HV;have p2:0<(pt s 2).size:=lZ (gg _).1 (J.out.fl 2 (by decide))
 have p4:0<(pt s 4).size:=lZ (gg _).1 (J.out.fl 4 (by decide))
 have e2:=C6.out 2 (by decide)
 have e4:=C6.out 4 (by decide)
 cases ah:Txt.opn (pt s 2)
 ·have g2:(((pt s 2)[0].toNat:Int)==42)=false:=by rw[←Txt.opn_at p2];exact ah
  cases ai:Txt.opn (pt s 4)
  ·have g4:(((pt s 4)[0].toNat:Int)==42)=false:=by rw[←Txt.opn_at p4];exact ai
   have D:Hid ((u||v)=dueB s m d h i k):=by unfold Hid;rw[O.out,ah,ai];rfl
   clear O
   cases u
   ·go_wp2_with fail;go_ret;exact⟨dz D.out,B6.out⟩
   ·go_wp2_with fail;go_ret;exact⟨dz D.out,B6.out⟩
  ·have g4:(((pt s 4)[0].toNat:Int)==42)=true:=by rw[←Txt.opn_at p4];exact ai
   have D:Hid ((u&&v)=dueB s m d h i k):=by unfold Hid;rw[O.out,ah,ai];rfl
   clear O
   cases u
   ·go_wp2_with fail;go_ret;exact⟨dz D.out,B6.out⟩
   ·go_wp2_with fail;go_ret;exact⟨dz D.out,B6.out⟩
 ·have g2:(((pt s 2)[0].toNat:Int)==42)=true:=by rw[←Txt.opn_at p2];exact ah
  have D:Hid ((u&&v)=dueB s m d h i k):=by unfold Hid;rw[O.out,ah];rfl
  clear O
  cases u
  ·go_wp2_with fail;go_ret;exact⟨dz D.out,B6.out⟩
  ·go_wp2_with fail;go_ret;exact⟨dz D.out,B6.out⟩
end Go.Proofs.YtdajolpoiffimabGreatDoor
