import Derived.Deep.QuietTactic
import Derived.BigQuiet
import Derived.Deep.Cut
import Derived.Test.YtdajolpoiffimabGreatDoorA2

namespace Go.Proofs.YtdajolpoiffimabGreatDoor
open Go.RowKit
def Tab (w:World):Prop:=∀m:Int,1≤m→m≤12→w.cell? ⟨2,m.toNat-1,none⟩=some (.int .i64 (Cal.len m))
set_option maxHeartbeats 0 in
theorem jc (y:Int) (w:World) (h1:0≤y) (h2:y≤10000):
 Calls Tryz.prog 209 #[.int .i64 y] w fun e d=>e=.returned (.bool (Cal.lp y==1))∧d=w:=by
 by_cases a:y % 400=0
 ·have e:Hid (Cal.lp y=1):=Cal.lp_yes (Or.inl a)
  go_enter Tryz.func209,Tryz.ntmps209
  go_wp2
  go_ret
  exact⟨by rw[e.out];rfl,rfl⟩
 ·by_cases b:y % 4=0
  ·by_cases c:y % 100=0
   ·have e:Hid (Cal.lp y=0):=Cal.lp_no (by omega)
    go_enter Tryz.func209,Tryz.ntmps209
    go_wp2
    go_ret
    exact⟨by rw[e.out];rfl,rfl⟩
   ·have e:Hid (Cal.lp y=1):=Cal.lp_yes (Or.inr ⟨b,c⟩);have G:(y % 100 !=0)=true:=by simpa using c
    go_enter Tryz.func209,Tryz.ntmps209
    go_wp2
    go_ret
    exact⟨by rw[e.out];rfl,rfl⟩
  ·have e:Hid (Cal.lp y=0):=Cal.lp_no (by omega)
   go_enter Tryz.func209,Tryz.ntmps209
   go_wp2
   go_ret
   exact⟨by rw[e.out];rfl,rfl⟩
set_option maxHeartbeats 0 in
theorem rv (y:Int) (w:World) (h1:1970≤y) (h2:y≤10000):
 Calls Tryz.prog 187 #[.int .i64 y] w fun e d=>e=.returned (.int .i64 ((y-1) / 4-(y-1) / 100+(y-1) / 400))∧d=w:=by
 go_enter Tryz.func187,Tryz.ntmps187
 go_wp2
 go_ret
 exact⟨rfl,rfl⟩
set_option maxHeartbeats 0 in
theorem jv (y:Int) (w:World) (h1:1970≤y) (h2:y≤10000):
 Calls Tryz.prog 160 #[.int .i64 y] w fun e d=>e=.returned (.int .i64 (Cal.dby y))∧d=w:=by
 have b1:0≤(y-1) / 4-(y-1) / 100+(y-1) / 400∧(y-1) / 4-(y-1) / 100+(y-1) / 400≤10000:=by omega
 go_enter Tryz.func160,Tryz.ntmps160
 go_wp2_with (go_at_call 187;refine (rv _ _ (by omega) (by omega)).mono ?_;rintro e d ⟨rfl,rfl⟩)
 go_ret
 exact⟨dN (by unfold Cal.dby;omega),rfl⟩
set_option maxHeartbeats 0 in
theorem sC (y m:Int) (w:World) (I:Tab w) (h1:0≤y) (h2:y≤10000) (m1:1≤m) (m2:m≤12):
 Calls Tryz.prog 188 #[.int .i64 y,.int .i64 m] w fun e d=>e=.returned (.int .i64 (Cal.dim y m))∧d=w:=by
 have G:=I m m1 m2;clear I
 by_cases a:m=2
 ·subst a
  by_cases b:Cal.lp y=1
  ·have e:Hid (Cal.dim y 2=29):=Cal.dim_29 b;have J:(Cal.lp y==1)=true:=by simpa using b
   clear b
   go_enter Tryz.func188,Tryz.ntmps188
   go_wp2_with (go_at_call 209;refine (jc _ _ (by omega) (by omega)).mono ?_;rintro e d ⟨rfl,rfl⟩)
   go_ret
   exact⟨dN e.out.symm,rfl⟩
  ·have e:Hid (Cal.dim y 2=28):=(Cal.dim_len (Or.inr (by have:=Cal.lp_01 y;omega))).trans rfl
   have O:w.cell? ⟨2,1,none⟩=some (.int .i64 28):=G;clear G;have J:(Cal.lp y==1)=false:=by simpa using b
   clear b
   go_enter Tryz.func188,Tryz.ntmps188
   go_wp2_with (go_at_call 209;refine (jc _ _ (by omega) (by omega)).mono ?_;rintro e d ⟨rfl,rfl⟩)
   go_ret
   exact⟨dN e.out.symm,rfl⟩
 ·have e:Hid (Cal.dim y m=Cal.len m):=Cal.dim_len (Or.inl a)
  go_enter Tryz.func188,Tryz.ntmps188
  go_wp2_with fail;go_ret;exact⟨dN e.out.symm,rfl⟩
set_option maxHeartbeats 0 in
theorem js (y m:Int) (w:World) (I:Tab w) (h1:0≤y) (h2:y≤10000) (m1:1≤m) (m2:m≤12):
 Calls Tryz.prog 162 #[.int .i64 y,.int .i64 m] w fun e O=>e=.returned (.int .i64 (Cal.cum y m))∧O=w:=by
 have U:=Hq I;clear I
 go_enter Tryz.func162,Tryz.ntmps162
 go_wp2
 go_loop [5,6] (fun d k=>∃b:Int,1≤b∧b≤m∧k=.int .i64 b∧d=.int .i64 (Cal.cum y b)) (fun _ k=>(m-intOf k).toNat)
 case atStart=>exact⟨1,by omega,by omega,rfl,by rw[Cal.cum_1]⟩
 case round=>
  obtain⟨b,G,Z,rfl,rfl⟩:=hrel;have cb:=Cal.cum_bd y b;have db:=Cal.dim_lo y b;have J:=Cal.cum_succ y b G (by omega)
  have Q:=Hq J;clear J
  by_cases V:b<m
  ·have Y:b≤12:=by omega
   go_wp2_with (go_at_call 188;refine (sC _ _ _ U.out (by omega) (by omega) (by omega) (by omega)).mono ?_;rintro e O ⟨rfl,rfl⟩)
   go_round
   case rel=>exact⟨b+1,by omega,by omega,by go_num,by rw[Q.out]⟩
   case measure=>simp[intOf];omega
  ·go_wp2_with fail;go_ret;obtain rfl:b=m:=by omega
   exact⟨rfl,rfl⟩
set_option maxHeartbeats 0 in
theorem lA (y r:Int) (w:World) (V:Tab w) (h1:0≤y) (h2:y≤10000) (r1:0≤r) (r2:r<365+Cal.lp y):
 Calls Tryz.prog 161 #[.int .i64 y,.int .i64 r] w fun e Q=>(∃m:Int,1≤m∧m≤12∧Cal.cum y m≤r∧r<Cal.cum y m+Cal.dim y m∧e=.returned (.int .i64 m))∧Q=w:=by
 have HT:=Hq V;clear V;have hl:=Cal.lp_01 y
 go_enter Tryz.func161,Tryz.ntmps161
 go_wp2
 go_loop [5] (fun k=>∃m:Int,1≤m∧m≤12∧Cal.cum y m≤r∧k=.int .i64 m) (fun k=>(12-intOf k).toNat)
 case atStart=>exact⟨1,by omega,by omega,by rw[Cal.cum_1];exact r1,rfl⟩
 case round=>
  obtain⟨m,d,G,hr,rfl⟩:=hrel;have O:Hid (Cal.cum y (m+1)=Cal.cum y m+Cal.dim y m):=Cal.cum_succ y m d G;have ab:Hid (Cal.cum y 13=365+Cal.lp y):=Cal.cum_13 y
  by_cases U:m<12∧Cal.cum y (m+1)≤r
  ·obtain⟨I,hd⟩:=U;go_wp2_with (go_at_call 162;refine (js _ _ _ HT.out (by omega) (by omega) (by omega) (by omega)).mono ?_;rintro e Q ⟨rfl,rfl⟩)
   go_round
   case rel=>exact⟨m+1,by omega,by omega,hd,rfl⟩
   case measure=>simp[intOf];omega
  ·have hz:r<Cal.cum y m+Cal.dim y m:=by
    by_cases e:m=12
    ·subst e;have:=O.out;have:=ab.out;have:Cal.cum y (12+1)=Cal.cum y 13:=rfl;omega
    ·have:=O.out;omega
   have J:m<12→r<Cal.cum y (m+1):=by intro;have:=O.out;omega
   have Z:=Hq hz;have Y:=Hq hr;clear U hz hr
   by_cases I:m<12
   ·have ae:=J I;clear J;go_wp2_with (go_at_call 162;refine (js _ _ _ HT.out (by omega) (by omega) (by omega) (by omega)).mono ?_;rintro e Q ⟨rfl,rfl⟩)
    go_ret
    exact⟨⟨m,d,G,Y.out,Z.out,rfl⟩,rfl⟩
   ·clear J;go_wp2_with fail;go_ret;exact⟨⟨m,d,G,Y.out,Z.out,rfl⟩,rfl⟩
set_option maxHeartbeats 0 in
theorem mM (n:Int) (w:World) (h1:0≤n) (h2:n≤2932896):
 Calls Tryz.prog 159 #[.int .i64 n] w fun e Q=>(∃y:Int,1970≤y∧y≤9999∧Cal.dby y≤n∧n<Cal.dby y+365+Cal.lp y∧e=.returned (.int .i64 y))∧Q=w:=by
 have V:=Cal.dby_guess n h1
 go_enter Tryz.func159,Tryz.ntmps159
 go_wp2
 go_loop [3] (fun k=>∃y:Int,1970≤y∧y≤9999∧Cal.dby y≤n∧k=.int .i64 y) (fun k=>(9999-intOf k).toNat)
 case atStart=>exact⟨_,by omega,by omega,V,rfl⟩
 case round=>
  obtain⟨y,d,I,J,rfl⟩:=hrel;clear V;have DS:Hid (Cal.dby (y+1)=Cal.dby y+365+Cal.lp y):=Cal.dby_succ y
  by_cases U:y<9999∧Cal.dby (y+1)≤n
  ·obtain⟨G,hd⟩:=U;go_wp2_with (go_at_call 160;refine (jv _ _ (by omega) (by omega)).mono ?_;rintro e Q ⟨rfl,rfl⟩)
   go_round
   case rel=>exact⟨y+1,by omega,by omega,hd,rfl⟩
   case measure=>simp[intOf];omega
  ·have hz:n<Cal.dby y+365+Cal.lp y:=by
    by_cases e:y=9999
    ·subst e;have:=DS.out;have:Cal.dby (9999+1)=2932897:=Cal.dby_10000;omega
    ·have:=DS.out;omega
   have Z:=Hq hz;have O:y<9999→n<Cal.dby (y+1):=by intro;omega
   have Y:=Hq J;clear U hz J
   by_cases G:y<9999
   ·have ac:=O G;clear O;go_wp2_with (go_at_call 160;refine (jv _ _ (by omega) (by omega)).mono ?_;rintro e Q ⟨rfl,rfl⟩)
    go_ret
    exact⟨⟨y,d,I,Y.out,Z.out,rfl⟩,rfl⟩
   ·clear O;go_wp2_with fail;go_ret;exact⟨⟨y,d,I,Y.out,Z.out,rfl⟩,rfl⟩
theorem Tab.later {w d:World} (h:Tab w) (hb:Below w.heap.size w d):Tab d:=fun m a b=>cell_later hb (h m a b)
theorem Tab.alloc {w:World} (h:Tab w) (o:Obj):Tab (w.alloc o):=h.later ((Below.refl _ _).alloc (Nat.le_refl _) _)
set_option maxHeartbeats 0 in
theorem nU (m:Int) (w:World) (O:Tab w) (h0:0≤m) (h1:m≤4223371679):
 Calls Tryz.prog 123 #[.int .i64 m] w fun e G=>(∃y mo d:Int,Cal.IsD (m / 1440) y mo d∧e=.returned (.tuple #[dateV y mo d (m % 1440 / 60) (m % 60) ((m / 1440+4) % 7),.int .i64 0]))∧Below w.heap.size w G:=by
 have U:Hid (∀o,Tab (w.alloc o)):=fun o=>O.alloc o
 clear O
 go_enter Tryz.func123,Tryz.ntmps123
 go_wp2_with (first |(go_at_call 159;refine (mM _ _ (by omega) (by omega)).mono ?_;rintro e G ⟨⟨y,I,J,Z,aa,rfl⟩,rfl⟩;have hl:=Cal.lp_01 y;have hb:=Cal.dby_bd I (Int.le_trans J (by omega)))|(go_at_call 160;refine (jv _ _ (by omega) (by omega)).mono ?_;rintro e G ⟨rfl,rfl⟩)|(go_at_call 161;refine (lA _ _ _ (U.out _) (by omega) (by omega) (by omega) (by omega)).mono ?_;rintro e G ⟨⟨mo,Q,V,Y,ab,rfl⟩,rfl⟩;have cb:=Cal.cum_bd y mo;have db:=Cal.dim_lo y mo)|(go_at_call 162;refine (js _ _ _ (U.out _) (by omega) (by omega) (by omega) (by omega)).mono ?_;rintro e G ⟨rfl,rfl⟩))
 refine bodyPost_ret (v:=.tuple #[dateV y mo (m / 1440-Cal.dby y-Cal.cum y mo+1) (m % 1440 / 60) (m % 60) ((m / 1440+4) % 7),.int .i64 0]) (by simp[results,Tryz.results123,go_sem]) rfl
  ⟨⟨y,mo,_,⟨I,J,Q,V,by omega,by omega,by omega⟩,rfl⟩,((Below.refl _ _).alloc (Nat.le_refl _) _).alloc (by simp) _⟩
attribute [local go_sem] ri kO iw gO Bx.be_size
set_option maxHeartbeats 0 in
theorem mp (n:Int) (k:Nat) (w:World) (h1:0≤n) (h2:n≤9223372036854775807) (hk:k≤10):
 Calls Tryz.prog 65 #[.int .i64 n,.int .i64 k] w fun e O=>e=.returned (.string (Bx.be n k))∧Below w.heap.size w O:=by
 go_enter Tryz.func65,Tryz.ntmps65
 go_wp2_with fail
 go_loopw [0,5,6] (fun a t i wr=>∃j:Nat,j≤k∧i=.int .i64 j∧a=.int .i64 (n / 256 ^ j)∧t=.string (Bx.be n j)∧Below w.heap.size w wr) (fun _ _ i _=>k-(intOf i).toNat)
 case atStart=>exact⟨0,Nat.zero_le _,rfl,by simp,rfl,Below.refl _ _⟩
 case round=>
  obtain⟨j,Z,rfl,rfl,rfl,d⟩:=hrel;have G:0≤n / 256 ^ j:=Int.ediv_nonneg h1 (Int.pow_nonneg (by omega))
  have U:n / 256 ^ j≤9223372036854775807:=Int.le_trans (Int.ediv_le_self _ h1) h2;have J:Hid (strOfNums [n / 256 ^ j % 256]++Bx.be n j=Bx.be n (j+1)):=rA n j;have I:Hid (n / 256 ^ j / 256=n / 256 ^ (j+1)):=sG n j;generalize n / 256 ^ j=m at *
  by_cases Q:j<k
  ·have Y:IntKind.i64.wrap (m.tdiv 256)=m / 256:=by rw[Int.tdiv_eq_ediv_of_nonneg G,IntKind.wrap_i64];omega
   have V:IntKind.u8.wrap (m.tmod 256)=m % 256:=by rw[Int.tmod_eq_emod_of_nonneg G,IntKind.wrap_u8];omega
   have q3:¬9223372036854775807<1+j:=by omega
   go_wp2_with fail;go_roundw
   case rel=>exact⟨j+1,by omega,by go_num,by rw[←I.out],by rw[←J.out],d.alloc d.size _⟩
   case measure=>simp[intOf];omega
  ·obtain rfl:j=k:=by omega
   go_wp2_with fail;go_ret;exact⟨rfl,d⟩
theorem dO (a b n:Int) (k:Nat) (w:World) (d:a=n) (hb:b=k) (h1:0≤n) (h2:n≤9223372036854775807) (G:k≤10):
 Calls Tryz.prog 65 #[.int .i64 a,.int .i64 b] w fun e I=>e=.returned (.string (Bx.be n k))∧Below w.heap.size w I:=by
 subst d;subst hb;exact mp a k w h1 h2 G
set_option maxHeartbeats 0 in
theorem fF (s:ByteArray) (w:World) (Q:s.size≤100000):
 Calls Tryz.prog 68 #[.string s] w fun e I=>e=.returned (.string (Bx.frame s))∧Below w.heap.size w I:=by
 have B:=lN s;have J:¬9223372036854775807<2+s.size:=by omega
 have U:¬9223372036854775807<2+s.size+4:=by omega
 have G:Hid (Bx.be (s.size:Int) 2++s++Bx.be (Crc.sumR s) 4=Bx.frame s):=rfl
 go_enter Tryz.func68,Tryz.ntmps68
 go_wp2_with fail;refine (dO _ _ (s.size:Int) 2 _ rfl rfl (by omega) (by omega) (by decide)).mono ?_
 rintro e w1 ⟨rfl,b1⟩;go_wp2_with fail;refine (kp s _ (by unfold maxLen;omega)).mono ?_
 rintro e O ⟨rfl,rfl⟩;go_wp2_with fail;refine (dO _ _ (Crc.sumR s) 4 _ rfl rfl (by omega) (by omega) (by decide)).mono ?_
 rintro e V ⟨rfl,d⟩;go_wp2_with fail;go_ret;exact⟨em G.out,b1.trans (d.mono b1.size)⟩
set_option maxHeartbeats 0 in
theorem p6 (tab:ByteArray) (w:World) (O:tab.size≤300):
 Calls Tryz.prog 45 #[.string tab] w fun e I=>e=.returned (.string (Bx.frame (Bx.body (chT tab))))∧Below w.heap.size w I:=by
 have J:¬9223372036854775807<1+tab.size:=by omega
 have d:Hid ((⟨#[84]⟩:ByteArray)++tab=Bx.body (chT tab)):=rfl;have G:((⟨#[84]⟩:ByteArray)++tab).size≤100000:=by simp[ByteArray.size_append];show 1+_≤_;omega
 go_enter Tryz.func45,Tryz.ntmps45
 go_wp2_with fail;refine (fF _ _ G).mono ?_;rintro e w1 ⟨rfl,b1⟩;rw[d.out];go_wp2_with fail;go_ret;exact⟨rfl,b1⟩
set_option maxHeartbeats 0 in
theorem mx (m:Int) (w:World) (h1:0≤m) (h2:m≤4223371679):
 Calls Tryz.prog 48 #[.int .i64 m] w fun e J=>e=.returned (.string (Bx.frame (Bx.body (chCl m))))∧Below w.heap.size w J:=by
 have d:Hid ((⟨#[67]⟩:ByteArray)++Bx.be m 5=Bx.body (chCl m)):=rfl;have G:((⟨#[67]⟩:ByteArray)++Bx.be m 5).size≤100000:=by rw[ByteArray.size_append,Bx.be_size];decide
 go_enter Tryz.func48,Tryz.ntmps48
 go_wp2_with fail;refine (dO _ _ m 5 _ rfl rfl (by omega) (by omega) (by decide)).mono ?_
 rintro e w1 ⟨rfl,b1⟩;go_wp2_with fail;refine (fF _ _ G).mono ?_;rintro e O ⟨rfl,I⟩;rw[d.out];go_wp2_with fail;go_ret;exact⟨rfl,b1.trans (I.mono b1.size)⟩
set_option maxHeartbeats 0 in
theorem fJ (c:UInt8) (k n:Int) (w:World) (I:(⟨#[c]⟩:ByteArray)=Bx.b1 k) (d:¬k=84) (G:¬k=67) (h1:0≤n) (h2:n≤100000):
 Calls Tryz.prog 97 #[.string ⟨#[c]⟩,.int .i64 n] w fun e U=>e=.returned (.string (Bx.frame (Bx.body ⟨k,⟨#[]⟩,n⟩)))∧Below w.heap.size w U:=by
 have J:Hid ((⟨#[c]⟩:ByteArray)++Bx.be n 2=Bx.body ⟨k,⟨#[]⟩,n⟩):=by
  unfold Hid Bx.body;rw[if_neg d,if_neg G,I]
 have O:((⟨#[c]⟩:ByteArray)++Bx.be n 2).size≤100000:=by rw[ByteArray.size_append,Bx.be_size];show 1+2≤_;decide
 clear I
 go_enter Tryz.func97,Tryz.ntmps97
 go_wp2_with fail;refine (dO _ _ n 2 _ rfl rfl (by omega) (by omega) (by decide)).mono ?_
 rintro e w1 ⟨rfl,b1⟩;have V:(⟨#[c]⟩:ByteArray).size=1:=rfl;go_wp2_with fail;refine (fF _ _ O).mono ?_;rintro e Y ⟨rfl,Q⟩;rw[J.out];go_wp2_with fail;go_ret;exact⟨rfl,b1.trans (Q.mono b1.size)⟩
set_option maxHeartbeats 0 in
theorem mY (n:Int) (w:World) (h1:0≤n) (h2:n≤100000):
 Calls Tryz.prog 57 #[.int .i64 n] w fun e d=>e=.returned (.string (Bx.frame (Bx.body (chS n))))∧Below w.heap.size w d:=by
 go_enter Tryz.func57,Tryz.ntmps57
 go_wp2_with fail;refine (fJ 83 83 n _ (by decide) (by omega) (by omega) h1 h2).mono ?_
 rintro e w1 ⟨rfl,b1⟩;go_wp2_with fail;go_ret;exact⟨rfl,b1⟩
set_option maxHeartbeats 0 in
theorem pg (n:Int) (w:World) (h1:0≤n) (h2:n≤100000):
 Calls Tryz.prog 101 #[.int .i64 n] w fun e d=>e=.returned (.string (Bx.frame (Bx.body (chD n))))∧Below w.heap.size w d:=by
 go_enter Tryz.func101,Tryz.ntmps101
 go_wp2_with fail;refine (fJ 68 68 n _ (by decide) (by omega) (by omega) h1 h2).mono ?_
 rintro e w1 ⟨rfl,b1⟩;go_wp2_with fail;go_ret;exact⟨rfl,b1⟩
set_option maxHeartbeats 0 in
theorem oX (n:Int) (w:World) (h1:0≤n) (h2:n≤100000):
 Calls Tryz.prog 51 #[.int .i64 n] w fun e d=>e=.returned (.string (Bx.frame (Bx.body (chF n))))∧Below w.heap.size w d:=by
 go_enter Tryz.func51,Tryz.ntmps51
 go_wp2_with fail;refine (fJ 70 70 n _ (by decide) (by omega) (by omega) h1 h2).mono ?_
 rintro e w1 ⟨rfl,b1⟩;go_wp2_with fail;go_ret;exact⟨rfl,b1⟩
end Go.Proofs.YtdajolpoiffimabGreatDoor

namespace Go.Proofs.YtdajolpoiffimabGreatDoor
open Go.RowKit
theorem gv:(Tryz.prog.info? 143).map (fun i=>(i.zero,i.size,i.bytes))=some (some (.agg #[.int .i64 0,.int .i64 0,.int .i64 0,.int .i64 0,.int .i64 0,.int .i64 0,.int .i64 0,.string ByteArray.empty]),8,72):=by kernel_rfl
theorem mb:(Tryz.prog.info? 85).map (fun i=>(i.zero,i.size,i.bytes))=some (some (.agg #[.int .i64 0,.string ByteArray.empty]),2,24):=by kernel_rfl
abbrev psV (x:Px.Sl):Value:=.agg #[.int .i64 x.num,.int .i64 x.line,.int .i64 x.minute,.int .i64 x.att,.int .i64 x.frm,.int .i64 x.step,.int .i64 x.ans,.string x.heard]
abbrev psO (x:Px.Sl):Obj:=.cells #[.int .i64 x.num,.int .i64 x.line,.int .i64 x.minute,.int .i64 x.att,.int .i64 x.frm,.int .i64 x.step,.int .i64 x.ans,.string x.heard] 143
structure PsIn (W:World) (q:Nat) (x:Px.Sl):Prop where
 c0:W.cell? ⟨q,0,none⟩=some (.int .i64 x.num)
 c1:W.cell? ⟨q,1,none⟩=some (.int .i64 x.line)
 c2:W.cell? ⟨q,2,none⟩=some (.int .i64 x.minute)
 c3:W.cell? ⟨q,3,none⟩=some (.int .i64 x.att)
 c4:W.cell? ⟨q,4,none⟩=some (.int .i64 x.frm)
 c5:W.cell? ⟨q,5,none⟩=some (.int .i64 x.step)
 c6:W.cell? ⟨q,6,none⟩=some (.int .i64 x.ans)
 c7:W.cell? ⟨q,7,none⟩=some (.string x.heard)
theorem PsIn.new (w:World) (x:Px.Sl):PsIn (w.alloc (psO x)) w.heap.size x:=⟨by simp[go_sem],by simp[go_sem],by simp[go_sem],by simp[go_sem],by simp[go_sem],by simp[go_sem],by simp[go_sem],by simp[go_sem]⟩
theorem PsIn.later {W W':World}{q:Nat}{x:Px.Sl} (h:PsIn W q x) (hb:Below W.heap.size W W'):PsIn W' q x:=⟨cell_later hb h.c0,cell_later hb h.c1,cell_later hb h.c2,cell_later hb h.c3,cell_later hb h.c4,cell_later hb h.c5,cell_later hb h.c6,cell_later hb h.c7⟩
theorem PsIn.below {W W':World}{q n:Nat}{x:Px.Sl} (h:PsIn W q x) (d:q<n) (hb:Below n W W'):PsIn W' q x:=by
 have c:∀j u,W.cell? ⟨q,j,none⟩=some u→W'.cell? ⟨q,j,none⟩=some u:=fun j u h=>(hb.cell (p:=⟨q,j,none⟩) d).trans h
 exact⟨c _ _ h.c0,c _ _ h.c1,c _ _ h.c2,c _ _ h.c3,c _ _ h.c4,c _ _ h.c5,c _ _ h.c6,c _ _ h.c7⟩
theorem ej {w:World}{L:List Px.Sl}{b d:Nat} (c:∀j (h:j<(L.flatMap psC).length),w.cell? ⟨b,d+j,none⟩=some (L.flatMap psC)[j]) (i:Nat) (hi:i<L.length):
 w.cell? ⟨b,d+i*8,none⟩=some (.int .i64 L[i].num)∧w.cell? ⟨b,d+i*8+1,none⟩=some (.int .i64 L[i].line)∧w.cell? ⟨b,d+i*8+2,none⟩=some (.int .i64 L[i].minute)∧w.cell? ⟨b,d+i*8+3,none⟩=some (.int .i64 L[i].att)∧w.cell? ⟨b,d+i*8+4,none⟩=some (.int .i64 L[i].frm)∧w.cell? ⟨b,d+i*8+5,none⟩=some (.int .i64 L[i].step)∧w.cell? ⟨b,d+i*8+6,none⟩=some (.int .i64 L[i].ans)∧w.cell? ⟨b,d+i*8+7,none⟩=some (.string L[i].heard):=
 ⟨RowAt.cell fi c i hi 0 (by decide),RowAt.cell fi c i hi 1 (by decide),RowAt.cell fi c i hi 2 (by decide),RowAt.cell fi c i hi 3 (by decide),RowAt.cell fi c i hi 4 (by decide),RowAt.cell fi c i hi 5 (by decide),RowAt.cell fi c i hi 6 (by decide),RowAt.cell fi c i hi 7 (by decide)⟩
theorem fw (w:World) (x:Px.Sl) (t:TypeId):∀j u,(psC x)[j]? =some u→(w.alloc (.cells #[.int .i64 x.num,.int .i64 x.line,.int .i64 x.minute,.int .i64 x.att,.int .i64 x.frm,.int .i64 x.step,.int .i64 x.ans,.string x.heard] t)).cell? ((⟨w.heap.size,0,none⟩:Addr).add j)=some u:=by
 intro j u d
 match j,d with
 | 0,d=>simp[psC] at d;subst d;simp[Addr.add,go_sem]
 | 1,d=>simp[psC] at d;subst d;simp[Addr.add,go_sem]
 | 2,d=>simp[psC] at d;subst d;simp[Addr.add,go_sem]
 | 3,d=>simp[psC] at d;subst d;simp[Addr.add,go_sem]
 | 4,d=>simp[psC] at d;subst d;simp[Addr.add,go_sem]
 | 5,d=>simp[psC] at d;subst d;simp[Addr.add,go_sem]
 | 6,d=>simp[psC] at d;subst d;simp[Addr.add,go_sem]
 | 7,d=>simp[psC] at d;subst d;simp[Addr.add,go_sem]
theorem fe {w:World}{G d:Nat}{e:TypeId}{size:Nat}{v:Value}{n:Nat}{J:List Value} (h:w.ownsRow G e size v n J) (hb:d≤G):w.ownsRow d e size v n J:=by
 refine⟨h.1,?_⟩
 rcases h.2 with h2|⟨g,I,cur,Q,hbase,O⟩
 ·exact Or.inl h2
 ·exact Or.inr ⟨g,I,cur,Q,Nat.le_trans hb hbase,O⟩
theorem et (w:World) (e:TypeId) (size:Nat):(w.alloc (.cells #[] e)).ownsRow w.heap.size e size (.slice (some ⟨w.heap.size,0,none⟩) 0 0) 0 []:=
 ⟨by simp,Or.inr ⟨w.heap.size,0,#[],rfl,Nat.le_refl _,(MapKept.heap_alloc w _).1,Nat.le_refl _,Nat.zero_le _,by simp,by simp⟩⟩
set_option maxHeartbeats 0 in
theorem ko (l:List Px.Sl) (n:Int) (sl:Value) (w:World) (hl:l.length≤10000) (hS:RowAt w sl l.length (l.flatMap psC)):
 Calls Tryz.prog 128 #[sl,.int .i64 n] w fun e w'=>(∃v,e=.returned v∧w'.ownsRow w.heap.size 143 8 v (Px.skip l n).length ((Px.skip l n).flatMap psC))∧Below w.heap.size w w':=by
 obtain⟨i0,hi,aq,ak,af⟩:=info_parts gv;obtain⟨ad,ag,rfl,ax⟩:=hS.form;have HR:=Hq hS;clear hS
 go_enter Tryz.func128,Tryz.ntmps128
 go_wp2_with fail;have HO:=et w 143 8;have V:=dx w (.cells #[] 143);obtain⟨W,O⟩:∃W,W=w:=⟨w,rfl⟩;have HW:=Hq O;have HB:Hid (Below W.heap.size W (w.alloc (.cells #[] 143))):=by rw[O];exact V
 have ap:Hid ((w.alloc (.cells #[] 143)).ownsRow W.heap.size 143 8 (.slice (some ⟨w.heap.size,0,none⟩) 0 0) 0 []):=by rw[O];exact HO
 have au:Hid (RowAt W (.slice ad l.length ag) l.length (l.flatMap psC)):=by rw[O];exact HR.out
 clear O HO V HR
 go_loopw [5,6] (fun v i wr=>∃k:Nat,k≤l.length∧i=.int .i64 k∧wr.ownsRow W.heap.size 143 8 v (Px.skip (l.take k) n).length ((Px.skip (l.take k) n).flatMap psC)∧Below W.heap.size W wr) (fun _ i _=>l.length-(intOf i).toNat)
 case atStart=>exact⟨0,Nat.zero_le _,rfl,ap.out,HB.out⟩
 case round=>
  obtain⟨k,hk,rfl,d,G⟩:=hrel;have al:=G.size
  by_cases Q:k<l.length
  ·obtain⟨b,aG,aD,hv,_,hc⟩:=(au.out.later G).some' (by omega)
   cases hv
   obtain⟨d0,d1,d2,d3,d4,d5,d6,d7⟩:=ej hc k Q;clear hc;have b1:(0:Int)≤(k:Int):=by omega
   have b2:(k:Int)<(l.length:Int):=by omega
   have hn:(Px.skip (l.take k) n).length≤k:=by
    have:=List.length_filter_le (fun x:Px.Sl=>x.num !=n) (l.take k)
    unfold Px.skip;simp at this ⊢;omega
   cases he:(l[k].num !=n)
   ·have Z:Hid (Px.skip (l.take (k+1)) n=Px.skip (l.take k) n):=Px.skip_no Q he;generalize l[k]=x at *;clear d1 d2 d3 d4 d5 d6 d7;go_wp2_with fail;go_roundw
    case rel=>exact⟨k+1,by omega,by go_num,by rw[Z.out];exact d,G⟩
    case measure=>simp[intOf];omega
   ·have Z:Hid (Px.skip (l.take (k+1)) n=Px.skip (l.take k) n++[l[k]]):=Px.skip_yes Q he;generalize l[k]=x at *;generalize Px.skip (l.take k) n=L at *;go_wp2_with (at_builtin;refine wpList_append_lies _ rfl (.tmp 21) (.tmp 26) 75 rfl W.heap.size 143 i0 (.agg #[.int .i64 0,.int .i64 0,.int .i64 0,.int .i64 0,.int .i64 0,.int .i64 0,.int .i64 0,.string ByteArray.empty]) 8 72 Tryz.underlying75 hi aq ak af rfl (by decide) _ _ _ rfl (d.alloc _) ⟨wr.heap.size,0,none⟩ 1 1 (psC x) rfl rfl (fw _ _ _) (fu x) (by decide) ?c3 ?c4 ?c5 _ rfl ?_)
    case c3=>unfold maxLen;omega
    case c4=>omega
    case c5=>simp;omega
    ·intro g Y w1 J I _ az;have B1:Below W.heap.size W w1:=(G.alloc al _).grown I (by simp;omega) (fun k' e=>(d.lt k' e).1)
     have U:w1.ownsRow W.heap.size 143 8 (.slice (some ⟨g,0,none⟩) (L.length+1) Y) (L++[x]).length ((L++[x]).flatMap psC):=by simpa using J
     clear J I d G d0 d1 d2 d3 d4 d5 d6 d7;go_wp2_with fail;go_roundw
     case rel=>exact⟨k+1,by omega,by go_num,by rw[Z.out];exact U,B1⟩
     case measure=>simp[intOf];omega
  ·obtain rfl:k=l.length:=by omega
   rw[List.take_length] at d;go_wp2_with fail;go_ret;have:=HW.out;subst this;exact⟨⟨_,rfl,d⟩,G⟩
set_option maxHeartbeats 0 in
theorem fE (l:List Px.Sl) (x:Px.Sl) (sl:Value) (w:World) (hl:l.length≤10000) (hS:RowAt w sl l.length (l.flatMap psC)):
 Calls Tryz.prog 96 #[sl,psV x] w fun e w'=>(∃v,e=.returned v∧w'.ownsRow w.heap.size 143 8 v (Px.repl l x).length ((Px.repl l x).flatMap psC))∧Below w.heap.size w w':=by
 obtain⟨i0,hi,al,ai,ag⟩:=info_parts gv;obtain⟨ad,aI,rfl,aE⟩:=hS.form;have HR:=Hq hS;clear hS;have Q:=dx w (psO x);have aj:=PsIn.new w x;have av:w.heap.size<(w.alloc (psO x)).heap.size:=by simp
 have ax:w.heap.size≤(w.alloc (psO x)).heap.size:=by simp
 have ah:=et (w.alloc (psO x)) 143 8;have af:=dx (w.alloc (psO x)) (.cells #[] 143)
 go_enter Tryz.func96,Tryz.ntmps96
 go_upto_region 1 with fail;generalize w.alloc (psO x)=W at *;have HB:=Hq Q;have aC:=Hq af;have aB:=Hq ah;have aD:=Hq (HR.out.later Q);have HX:=Hq aj;clear aj Q af ah HR;go_wp2_with fail
 go_loopw [5,6] (fun v i wr=>∃k:Nat,k≤l.length∧i=.int .i64 k∧wr.ownsRow W.heap.size 143 8 v (Px.repl (l.take k) x).length ((Px.repl (l.take k) x).flatMap psC)∧Below W.heap.size W wr) (fun _ i _=>l.length-(intOf i).toNat)
 case atStart=>exact⟨0,Nat.zero_le _,rfl,aB.out,aC.out⟩
 case round=>
  obtain⟨k,hk,rfl,d,J⟩:=hrel;have ak:=J.size
  by_cases V:k<l.length
  ·obtain⟨b,aJ,aH,hv,_,hc⟩:=(aD.out.later J).some' (by omega)
   cases hv
   have b1:(0:Int)≤(k:Int):=by omega
   have b2:(k:Int)<(l.length:Int):=by omega
   have hn:(Px.repl (l.take k) x).length≤k:=by simp[Px.repl];omega
   obtain⟨c0,c1,c2,c3,c4,c5,c6,c7⟩:=ej hc k V;obtain⟨d0,d1,d2,Y,d4,d5,Z,d7⟩:=HX.out.below av J;clear hc
   cases he:(l[k].num==x.num)
   ·have HF:Hid (Px.repl (l.take (k+1)) x=Px.repl (l.take k) x++[l[k]]):=Px.repl_no V he;generalize l[k]=y at *;generalize Px.repl (l.take k) x=L at *;go_wp2_with fail
    go_quiet (fail)
    clear d0 d1 d2 Y d4 d5 Z d7;have d0:=c0;have d1:=c1;have d2:=c2;have Y:=c3;have d4:=c4;have d5:=c5;have Z:=c6;have d7:=c7;clear c0 c1 c2 c3 c4 c5 c6 c7;go_wp2_with (at_builtin;refine wpList_append_lies _ rfl (.tmp 26) (.tmp 31) 75 rfl W.heap.size 143 i0 (.agg #[.int .i64 0,.int .i64 0,.int .i64 0,.int .i64 0,.int .i64 0,.int .i64 0,.int .i64 0,.string ByteArray.empty]) 8 72 Tryz.underlying75 hi al ai ag rfl (by decide) _ _ _ rfl (d.alloc _) ⟨wr.heap.size,0,none⟩ 1 1 (psC y) rfl rfl (fw _ _ _) (fu y) (by decide) ?c3 ?c4 ?c5 _ rfl ?_)
    case c3=>unfold maxLen;omega
    case c4=>omega
    case c5=>simp;omega
    ·intro g U w1 I G _ am;have B1:Below W.heap.size W w1:=((below_drewN J _).alloc ak _).grown G (by simp;omega) (fun k' e=>(d.lt k' e).1)
     have O:w1.ownsRow W.heap.size 143 8 (.slice (some ⟨g,0,none⟩) (L.length+1) U) (L++[y]).length ((L++[y]).flatMap psC):=by simpa using I
     clear I G d J d0 d1 d2 Y d4 d5 Z d7;go_wp2_with fail;go_roundw
     case rel=>exact⟨k+1,by omega,by go_num,by rw[HF.out];exact O,B1⟩
     case measure=>simp[intOf];omega
   ·have HF:Hid (Px.repl (l.take (k+1)) x=Px.repl (l.take k) x++[x]):=Px.repl_yes V he;generalize l[k]=y at *;generalize Px.repl (l.take k) x=L at *;go_wp2_with fail
    go_quiet (fail)
    clear c0 c1 c2 c3 c4 c5 c6 c7;go_wp2_with (at_builtin;refine wpList_append_lies _ rfl (.tmp 22) (.tmp 24) 75 rfl W.heap.size 143 i0 (.agg #[.int .i64 0,.int .i64 0,.int .i64 0,.int .i64 0,.int .i64 0,.int .i64 0,.int .i64 0,.string ByteArray.empty]) 8 72 Tryz.underlying75 hi al ai ag rfl (by decide) _ _ _ rfl (d.alloc _) ⟨wr.heap.size,0,none⟩ 1 1 (psC x) rfl rfl (fw _ _ _) (fu x) (by decide) ?c3 ?c4 ?c5 _ rfl ?_)
    case c3=>unfold maxLen;omega
    case c4=>omega
    case c5=>simp;omega
    ·intro g U w1 I G _ am;have B1:Below W.heap.size W w1:=((below_drewN J _).alloc ak _).grown G (by simp;omega) (fun k' e=>(d.lt k' e).1)
     have O:w1.ownsRow W.heap.size 143 8 (.slice (some ⟨g,0,none⟩) (L.length+1) U) (L++[x]).length ((L++[x]).flatMap psC):=by simpa using I
     clear I G d J d0 d1 d2 Y d4 d5 Z d7;go_wp2_with fail;go_roundw
     case rel=>exact⟨k+1,by omega,by go_num,by rw[HF.out];exact O,B1⟩
     case measure=>simp[intOf];omega
  ·obtain rfl:k=l.length:=by omega
   rw[List.take_length] at d;go_wp2_with fail;go_ret;exact⟨⟨_,rfl,fe d ax⟩,HB.out.trans (J.mono HB.out.size)⟩
end Go.Proofs.YtdajolpoiffimabGreatDoor

namespace Go.Proofs.YtdajolpoiffimabGreatDoor
open Go.RowKit
set_option maxHeartbeats 0 in
theorem jT (l:List Px.Sl) (x:Px.Sl) (sl:Value) (w:World) (hl:l.length≤10000) (hS:RowAt w sl l.length (l.flatMap psC)):
 Calls Tryz.prog 127 #[sl,psV x] w fun e w'=>(∃v,e=.returned v∧w'.ownsRow w.heap.size 143 8 v (l++[x]).length ((l++[x]).flatMap psC))∧Below w.heap.size w w':=by
 obtain⟨i0,hi,af,ab,Y⟩:=info_parts gv;obtain⟨ad,aH,rfl,aC⟩:=hS.form;have HR:=Hq hS;clear hS;have Q:=dx w (psO x);have ae:=PsIn.new w x;have au:w.heap.size<(w.alloc (psO x)).heap.size:=by simp
 have av:w.heap.size≤(w.alloc (psO x)).heap.size:=by simp
 have Z:=et (w.alloc (psO x)) 143 8;have V:=dx (w.alloc (psO x)) (.cells #[] 143)
 go_enter Tryz.func127,Tryz.ntmps127
 go_upto_region 1 with fail;generalize w.alloc (psO x)=W at *;have HB:=Hq Q;have aA:=Hq V;have az:=Hq Z;have aB:=Hq (HR.out.later Q);have HX:=Hq ae;clear ae Q V Z HR;go_wp2_with fail
 go_loopw [5,6] (fun v i wr=>∃k:Nat,k≤l.length∧i=.int .i64 k∧wr.ownsRow W.heap.size 143 8 v (l.take k).length ((l.take k).flatMap psC)∧Below W.heap.size W wr) (fun _ i _=>l.length-(intOf i).toNat)
 case atStart=>exact⟨0,Nat.zero_le _,rfl,az.out,aA.out⟩
 case round=>
  obtain⟨k,hk,rfl,d,J⟩:=hrel;have ac:=J.size
  by_cases aa:k<l.length
  ·obtain⟨b,aI,aF,hv,_,hc⟩:=(aB.out.later J).some' (by omega)
   cases hv
   have b1:(0:Int)≤(k:Int):=by omega
   have b2:(k:Int)<(l.length:Int):=by omega
   have hn:(l.take k).length≤k:=by simp;omega
   have HF:Hid (l.take (k+1)=l.take k++[l[k]]):=List.take_succ_eq_append_getElem aa;obtain⟨d0,d1,d2,d3,d4,d5,d6,d7⟩:=ej hc k aa;clear hc;have hq:True:=trivial
   ·generalize l[k]=y at *;generalize l.take k=L at *;go_wp2_with (at_builtin;refine wpList_append_lies _ rfl (.tmp 14) (.tmp 19) 75 rfl W.heap.size 143 i0 (.agg #[.int .i64 0,.int .i64 0,.int .i64 0,.int .i64 0,.int .i64 0,.int .i64 0,.int .i64 0,.string ByteArray.empty]) 8 72 Tryz.underlying75 hi af ab Y rfl (by decide) _ _ _ rfl (d.alloc _) ⟨wr.heap.size,0,none⟩ 1 1 (psC y) rfl rfl (fw _ _ _) (fu y) (by decide) ?c3 ?c4 ?c5 _ rfl ?_)
    case c3=>unfold maxLen;omega
    case c4=>omega
    case c5=>simp;omega
    ·intro g U w1 I G _ ai;have B1:Below W.heap.size W w1:=(J.alloc ac _).grown G (by simp;omega) (fun k' e=>(d.lt k' e).1)
     have O:w1.ownsRow W.heap.size 143 8 (.slice (some ⟨g,0,none⟩) (L.length+1) U) (L++[y]).length ((L++[y]).flatMap psC):=by simpa using I
     clear I G d J d0 d1 d2 d3 d4 d5 d6 d7;go_wp2_with fail;go_roundw
     case rel=>exact⟨k+1,by omega,by go_num,by rw[HF.out];exact O,B1⟩
     case measure=>simp[intOf];omega
  ·obtain rfl:k=l.length:=by omega
   obtain⟨d0,d1,d2,d3,d4,d5,d6,d7⟩:=HX.out.below au J;rw[List.take_length] at d;go_wp2_with (at_builtin;refine wpList_append_lies _ rfl (.tmp 21) (.tmp 23) 75 rfl W.heap.size 143 i0 (.agg #[.int .i64 0,.int .i64 0,.int .i64 0,.int .i64 0,.int .i64 0,.int .i64 0,.int .i64 0,.string ByteArray.empty]) 8 72 Tryz.underlying75 hi af ab Y rfl (by decide) _ _ _ rfl (d.alloc _) ⟨wr.heap.size,0,none⟩ 1 1 (psC x) rfl rfl (fw _ _ _) (fu x) (by decide) ?c3 ?c4 ?c5 _ rfl ?_)
   case c3=>unfold maxLen;omega
   case c4=>omega
   case c5=>simp;omega
   ·intro g U w1 I G _ ai;have B1:Below W.heap.size W w1:=(J.alloc ac _).grown G (by simp;omega) (fun k' e=>(d.lt k' e).1)
    have O:Hid (w1.ownsRow W.heap.size 143 8 (.slice (some ⟨g,0,none⟩) (l.length+1) U) (l++[x]).length ((l++[x]).flatMap psC)):=by unfold Hid;simpa using I
    clear I G d J d0 d1 d2 d3 d4 d5 d6 d7;go_wp2_with fail;go_ret;exact⟨⟨_,rfl,fe O.out av⟩,HB.out.trans (B1.mono HB.out.size)⟩
theorem qK {α:Type}{l:List α}{m k:Nat} (h:k<l.length) (hm:m≤k):(l.take (k+1)).drop m=(l.take k).drop m++[l[k]]:=by
 rw[List.take_succ_eq_append_getElem h,List.drop_append_of_le_length (by simp;omega)]
theorem rH {α:Type}{l:List α}{m k:Nat} (hm:k<m):(l.take (k+1)).drop m=(l.take k).drop m:=by
 rw[List.drop_eq_nil_of_le (by simp;omega),List.drop_eq_nil_of_le (by simp;omega)]
theorem iQ (w:World) (x:Bx.En) (t:TypeId):∀j u,(enC x)[j]? =some u→(w.alloc (.cells #[.int .i64 x.num,.string x.how] t)).cell? ((⟨w.heap.size,0,none⟩:Addr).add j)=some u:=by
 intro j u d
 match j,d with
 | 0,d=>simp[enC] at d;subst d;simp[Addr.add,go_sem]
 | 1,d=>simp[enC] at d;subst d;simp[Addr.add,go_sem]
theorem iR (x:Bx.En):∀u∈enC x,u.oneCell'=true:=by
 intro u d;simp[enC] at d;rcases d with rfl|rfl<;>rfl
set_option maxHeartbeats 0 in
theorem gW (l:List Bx.En) (x:Bx.En) (sl:Value) (w:World) (hl:l.length≤10000) (hS:RowAt w sl l.length (l.flatMap enC)):
 Calls Tryz.prog 126 #[sl,.agg #[.int .i64 x.num,.string x.how]] w fun e w'=>(∃v,e=.returned v∧w'.ownsRow w.heap.size 85 2 v (Bx.push l x).length ((Bx.push l x).flatMap enC))∧Below w.heap.size w w':=by
 obtain⟨i0,hi,ah,ac,aa⟩:=info_parts mb;obtain⟨ad,aH,rfl,aC⟩:=hS.form;have HR:=Hq hS;clear hS;have Q:=dx w (.cells #[.int .i64 x.num,.string x.how] 85);have af:(w.alloc (.cells #[.int .i64 x.num,.string x.how] 85)).cell? ⟨w.heap.size,0,none⟩=some (.int .i64 x.num):=by simp[go_sem]
 have ai:(w.alloc (.cells #[.int .i64 x.num,.string x.how] 85)).cell? ⟨w.heap.size,1,none⟩=some (.string x.how):=by simp[go_sem]
 have Z:w.heap.size<(w.alloc (.cells #[.int .i64 x.num,.string x.how] 85)).heap.size:=by simp
 have ar:w.heap.size≤(w.alloc (.cells #[.int .i64 x.num,.string x.how] 85)).heap.size:=by simp
 have ab:=et (w.alloc (.cells #[.int .i64 x.num,.string x.how] 85)) 85 2;have Y:=dx (w.alloc (.cells #[.int .i64 x.num,.string x.how] 85)) (.cells #[] 85)
 go_enter Tryz.func126,Tryz.ntmps126
 go_upto_region 1 with fail;generalize w.alloc (.cells #[.int .i64 x.num,.string x.how] 85)=W at *;have HB:=Hq Q;have az:=Hq Y;have ay:=Hq ab;have aA:=Hq (HR.out.later Q);have aB:=Hq af;have au:=Hq ai;clear af ai Q Y ab HR;go_wp2_with fail
 go_loopw [5,6] (fun v i wr=>∃k:Nat,k≤l.length∧i=.int .i64 k∧wr.ownsRow W.heap.size 85 2 v ((l.take k).drop (l.length-5)).length (((l.take k).drop (l.length-5)).flatMap enC)∧Below W.heap.size W wr) (fun _ i _=>l.length-(intOf i).toNat)
 case atStart=>exact⟨0,Nat.zero_le _,rfl,by simpa using ay.out,az.out⟩
 case round=>
  obtain⟨k,hk,rfl,d,J⟩:=hrel;have ae:=J.size
  by_cases V:k<l.length
  ·have b1:(0:Int)≤(k:Int):=by omega
   have b2:(k:Int)<(l.length:Int):=by omega
   have hn:((l.take k).drop (l.length-5)).length≤k:=by simp;omega
   by_cases he:(l.length:Int)-6<(k:Int)
   ·have HF:Hid ((l.take (k+1)).drop (l.length-5)=(l.take k).drop (l.length-5)++[l[k]]):=qK V (by omega)
    obtain⟨b,ag,aG,hv,_,hc⟩:=(aA.out.later J).some' (by omega)
    cases hv
    have d0:wr.cell? ⟨b,ag+k*2,none⟩=some (.int .i64 l[k].num):=RowAt.cell ek hc k V 0 (by decide)
    have d1:wr.cell? ⟨b,ag+k*2+1,none⟩=some (.string l[k].how):=RowAt.cell ek hc k V 1 (by decide)
    clear hc;generalize l[k]=y at *;generalize (l.take k).drop (l.length-5)=L at *;go_wp2_with (at_builtin;refine wpList_append_lies _ rfl (.tmp 19) (.tmp 24) 38 rfl W.heap.size 85 i0 (.agg #[.int .i64 0,.string ByteArray.empty]) 2 24 Tryz.underlying38 hi ah ac aa rfl (by decide) _ _ _ rfl (d.alloc _) ⟨wr.heap.size,0,none⟩ 1 1 (enC y) rfl rfl (iQ _ _ _) (iR y) (by decide) ?c3 ?c4 ?c5 _ rfl ?_)
    case c3=>unfold maxLen;omega
    case c4=>omega
    case c5=>simp;omega
    ·intro g U w1 I G _ al;have B1:Below W.heap.size W w1:=(J.alloc ae _).grown G (by simp;omega) (fun k' e=>(d.lt k' e).1)
     have O:w1.ownsRow W.heap.size 85 2 (.slice (some ⟨g,0,none⟩) (L.length+1) U) (L++[y]).length ((L++[y]).flatMap enC):=by simpa using I
     clear I G d J d0 d1;go_wp2_with fail;go_roundw
     case rel=>exact⟨k+1,by omega,by go_num,by rw[HF.out];exact O,B1⟩
     case measure=>simp[intOf];omega
   ·have HF:Hid ((l.take (k+1)).drop (l.length-5)=(l.take k).drop (l.length-5)):=rH (by omega)
    go_wp2_with fail;go_roundw
    case rel=>exact⟨k+1,by omega,by go_num,by rw[HF.out];exact d,J⟩
    case measure=>simp[intOf];omega
  ·obtain rfl:k=l.length:=by omega
   have d0:wr.cell? ⟨w.heap.size,0,none⟩=some (.int .i64 x.num):=(J.cell (p:=⟨w.heap.size,0,none⟩) Z).trans aB.out;have d1:wr.cell? ⟨w.heap.size,1,none⟩=some (.string x.how):=(J.cell (p:=⟨w.heap.size,1,none⟩) Z).trans au.out;rw[List.take_length] at d;have HL:Hid (Bx.push l x=l.drop (l.length-5)++[x]):=rfl;have hn:(l.drop (l.length-5)).length≤10000:=by simp;omega
   generalize l.drop (l.length-5)=L at *;go_wp2_with (at_builtin;refine wpList_append_lies _ rfl (.tmp 26) (.tmp 28) 38 rfl W.heap.size 85 i0 (.agg #[.int .i64 0,.string ByteArray.empty]) 2 24 Tryz.underlying38 hi ah ac aa rfl (by decide) _ _ _ rfl (d.alloc _) ⟨wr.heap.size,0,none⟩ 1 1 (enC x) rfl rfl (iQ _ _ _) (iR x) (by decide) ?c3 ?c4 ?c5 _ rfl ?_)
   case c3=>unfold maxLen;omega
   case c4=>omega
   case c5=>simp;omega
   ·intro g U w1 I G _ al;have B1:Below W.heap.size W w1:=(J.alloc ae _).grown G (by simp;omega) (fun k' e=>(d.lt k' e).1)
    have O:Hid (w1.ownsRow W.heap.size 85 2 (.slice (some ⟨g,0,none⟩) (L.length+1) U) (Bx.push l x).length ((Bx.push l x).flatMap enC)):=by unfold Hid;rw[HL.out];simpa using I
    clear I G d J d0 d1;go_wp2_with fail;go_ret;exact⟨⟨_,rfl,fe O.out ar⟩,HB.out.trans (B1.mono HB.out.size)⟩
end Go.Proofs.YtdajolpoiffimabGreatDoor

namespace Go.Proofs.YtdajolpoiffimabGreatDoor
open Go.RowKit
set_option maxHeartbeats 0 in
theorem jU (A B S v:Int) (w:World) (Z:0≤v) (V:v≤60) (a1:0≤A) (Y:A≤99) (U:1≤S) (s2:S≤99):
 Calls Tryz.prog 189 #[.agg #[.int .i64 A,.int .i64 B,.int .i64 S],.int .i64 v] w fun e Q=>e=.returned (.bool (Txt.inB A B S v))∧Below w.heap.size w Q:=by
 by_cases I:A≤v
 rotate_left
 ·have e:Hid (Txt.inB A B S v=false):=Txt.inB_no (by omega)
  go_enter Tryz.func189,Tryz.ntmps189
  go_wp2_with fail;go_ret;exact⟨dz e.out.symm,dx w _⟩
 by_cases J:v≤B
 rotate_left
 ·have e:Hid (Txt.inB A B S v=false):=Txt.inB_no (by omega)
  go_enter Tryz.func189,Tryz.ntmps189
  go_wp2_with fail;go_ret;exact⟨dz e.out.symm,dx w _⟩
 have e:Hid (((v-A) % S==0)=Txt.inB A B S v):=by
  unfold Hid
  cases G:((v-A) % S==0)
  ·have d:¬(v-A) % S=0:=by simpa using G
   exact (Txt.inB_no (Or.inr (Or.inr (Or.inr d)))).symm
  ·have d:(v-A) % S=0:=by simpa using G
   exact (Txt.inB_yes I J (by omega) d).symm
 have O:Hid (((v-A).tmod S==0)=Txt.inB A B S v):=by unfold Hid;rw[Int.tmod_eq_emod_of_nonneg (by omega)];exact e.out
 go_enter Tryz.func189,Tryz.ntmps189
 go_wp2_with fail;go_ret;exact⟨by first |exact dz e.out|exact dz O.out,dx w _⟩
end Go.Proofs.YtdajolpoiffimabGreatDoor

namespace Go.Proofs.YtdajolpoiffimabGreatDoor
open Go.RowKit
open Txt (NoSep)
set_option maxHeartbeats 0 in
theorem eR (b:Int) (w:World):
 Calls Tryz.prog 208 #[.int .u8 b] w fun e d=>e=.returned (.bool (Txt.dg b))∧d=w:=by
 by_cases h1:48≤b
 ·by_cases h2:b≤57
  ·have e:Hid (Txt.dg b=true):=Txt.dg_yes h1 h2
   go_enter Tryz.func208,Tryz.ntmps208
   go_wp2_with fail;go_ret;exact⟨dz e.out.symm,rfl⟩
  ·have e:Hid (Txt.dg b=false):=Txt.dg_no (by omega)
   go_enter Tryz.func208,Tryz.ntmps208
   go_wp2_with fail;go_ret;exact⟨dz e.out.symm,rfl⟩
 ·have e:Hid (Txt.dg b=false):=Txt.dg_no (by omega)
  go_enter Tryz.func208,Tryz.ntmps208
  go_wp2_with fail;go_ret;exact⟨dz e.out.symm,rfl⟩
set_option maxHeartbeats 0 in
theorem fk (s:ByteArray) (w:World) (U:s.size≤300):
 Calls Tryz.prog 206 #[.string s] w fun e I=>e=.returned (.bool (Txt.digs s))∧I=w:=by
 go_enter Tryz.func206,Tryz.ntmps206
 go_wp2_with fail
 go_loop [3] (fun i=>∃k:Nat,k≤s.size∧i=.int .i64 k∧∀j (G:j<s.size),j<k→Txt.dg (s[j].toNat)=true) (fun i=>s.size-(intOf i).toNat)
 case atStart=>exact⟨0,Nat.zero_le _,rfl,fun j _ h=>by omega⟩
 case round=>
  obtain⟨k,V,rfl,d⟩:=hrel;have O:=Hq d;clear d
  by_cases J:k<s.size
  ·cases hd:Txt.dg (s[k].toNat)
   ·have e:Hid (Txt.digs s=false):=Txt.digs_no J hd;go_wp2_with (go_at_call 208;refine (eR _ _).mono ?_;rintro e I ⟨rfl,rfl⟩);go_ret;exact⟨dz e.out.symm,rfl⟩
   ·have Q:=Hq hd;go_wp2_with (go_at_call 208;refine (eR _ _).mono ?_;rintro e I ⟨rfl,rfl⟩)
    go_round
    case rel=>
     refine⟨k+1,by omega,by go_num,fun j G h=>?_⟩
     by_cases q:j=k
     ·subst q;exact Q.out
     ·exact O.out j G (by omega)
    case measure=>simp[intOf];omega
  ·have e:Hid (Txt.digs s=true):=Txt.digs_yes (fun j G=>O.out j G (by omega))
   go_wp2_with fail;go_ret;exact⟨dz e.out.symm,rfl⟩
end Go.Proofs.YtdajolpoiffimabGreatDoor

namespace Go.Proofs.YtdajolpoiffimabGreatDoor
open Go.RowKit
open Txt (NoSep)
set_option maxHeartbeats 0 in
theorem gn (s:ByteArray) (c:Int) (w:World) (V:s.size≤300):
 Calls Tryz.prog 204 #[.string s,.int .u8 c] w fun e Q=>e=.returned (.tuple #[.string (Txt.cut1 c s),.string (Txt.cut2 c s),.bool (Txt.cut3 c s)])∧∃n,Q=w.drewN n:=by
 go_enter Tryz.func204,Tryz.ntmps204
 go_wp2_with fail
 go_loop [7] (fun i=>∃k:Nat,k≤s.size∧i=.int .i64 k∧NoSep c s 0 k) (fun i=>s.size-(intOf i).toNat)
 case atStart=>exact⟨0,Nat.zero_le _,rfl,NoSep.nil _ _ _⟩
 case round=>
  obtain⟨k,Z,rfl,d⟩:=hrel;have I:=Hq d;clear d
  by_cases G:k<s.size
  ·cases J:((s[k].toNat:Int)==c)
   ·have O:Hid (NoSep c s 0 (k+1)):=I.out.snoc G J;go_wp2_with fail
    go_round
    case rel=>exact⟨k+1,by omega,by go_num,O.out⟩
    case measure=>simp[intOf];omega
   ·have e:Hid (Txt.cut1 c s=s.extract 0 k∧Txt.cut2 c s=s.extract (k+1) s.size∧Txt.cut3 c s=true):=Txt.cut_yes G J I.out;have b1:(0:Int)≤(k:Int):=by omega
    have Y:(k:Int)≤(s.size:Int):=by omega
    have U:(k:Int)+1≤(s.size:Int):=by omega
    go_wp2_with fail
    go_quiet (fail)
    go_wp2_with fail
    go_ret3
    exact⟨fZ e.out,_,rfl⟩
  ·have e:Hid (Txt.cut1 c s=s∧Txt.cut2 c s=ByteArray.empty∧Txt.cut3 c s=false):=Txt.cut_no ((show k=s.size by omega)▸I.out)
   go_wp2_with fail
   go_ret3
   exact⟨fZ e.out,0,rfl⟩
set_option maxHeartbeats 0 in
theorem eD (s:ByteArray) (w:World) (J:s.size≤300):
 Calls Tryz.prog 207 #[.string s] w fun e I=>e=.returned (.tuple #[.int .i64 (Txt.numV s),.bool (Txt.numB s)])∧I=w:=by
 by_cases h1:s.size<1
 ·have e:Hid (0=Txt.numV s∧false=Txt.numB s):=by have:=Txt.num_no (Txt.val_no (s:=s) (by omega));exact⟨this.1.symm,this.2.symm⟩
  go_enter Tryz.func207,Tryz.ntmps207
  go_wp2_with fail;go_ret2;exact⟨gc e.out,rfl⟩
 by_cases h2:2<s.size
 ·have e:Hid (0=Txt.numV s∧false=Txt.numB s):=by have:=Txt.num_no (Txt.val_no (s:=s) (by omega));exact⟨this.1.symm,this.2.symm⟩
  go_enter Tryz.func207,Tryz.ntmps207
  go_wp2_with fail;go_ret2;exact⟨gc e.out,rfl⟩
 cases hd:Txt.digs s
 ·have e:Hid (0=Txt.numV s∧false=Txt.numB s):=by have:=Txt.num_no (Txt.val_no (s:=s) (Or.inr (Or.inr hd)));exact⟨this.1.symm,this.2.symm⟩
  go_enter Tryz.func207,Tryz.ntmps207
  go_wp2_with (go_at_call 206;refine (fk _ _ J).mono ?_;rintro e I ⟨rfl,rfl⟩);go_ret2;exact⟨gc e.out,rfl⟩
 ·have e:Hid (Txt.pv s s.size=Txt.numV s∧true=Txt.numB s):=by
   have v:=Txt.val_yes (s:=s) (by omega) (by omega) hd
   have:=Txt.num_yes (Txt.val_nn (s:=s) (by omega) (by omega) hd)
   exact⟨by rw[this.1,v],this.2.symm⟩
  have O:=Hq hd
  go_enter Tryz.func207,Tryz.ntmps207
  go_wp2_with (go_at_call 206;refine (fk _ _ J).mono ?_;rintro e I ⟨rfl,rfl⟩);clear hd
  go_loop [4,5] (fun n i=>∃k:Nat,k≤s.size∧i=.int .i64 k∧n=.int .i64 (Txt.pv s k)) (fun _ i=>s.size-(intOf i).toNat)
  case atStart=>exact⟨0,Nat.zero_le _,rfl,by rw[Txt.pv_0]⟩
  case round=>
   obtain⟨k,Q,rfl,rfl⟩:=hrel;have pb:=Txt.pv_bd s k Q (by omega)
   by_cases G:k<s.size
   ·have d:=Txt.dg_of (Txt.digs_at O.out k G);have PS:Hid (Txt.pv s (k+1)=Txt.pv s k*10+((s[k].toNat:Int)-48)):=Txt.pv_succ s k G;obtain⟨d1,d2⟩:=d;go_wp2_with fail
    go_round
    case rel=>exact⟨k+1,by omega,by go_num,by rw[PS.out]⟩
    case measure=>simp[intOf];omega
   ·obtain rfl:k=s.size:=by omega
    go_wp2_with fail;go_ret2;exact⟨gc e.out,rfl⟩
end Go.Proofs.YtdajolpoiffimabGreatDoor

namespace Go.Proofs.YtdajolpoiffimabGreatDoor
open Go.RowKit
set_option maxHeartbeats 0 in
theorem gp (b:Int) (w:World):
 Calls Tryz.prog 186 #[.int .u8 b] w fun e d=>e=.returned (.bool (Txt.wb b))∧d=w:=by
 by_cases h1:97≤b
 ·by_cases h2:b≤122
  ·have e:Hid (Txt.wb b=true):=Txt.wb_yes (by omega)
   go_enter Tryz.func186,Tryz.ntmps186
   go_wp2_with fail;go_ret;exact⟨dz e.out.symm,rfl⟩
  ·have I:¬b≤90:=by omega
   have G:65≤b:=by omega
   have e:Hid (Txt.dg b=Txt.wb b):=Txt.wb_dg (by omega) (by omega)
   go_enter Tryz.func186,Tryz.ntmps186
   go_wp2_with (go_at_call 208;refine (eR _ _).mono ?_;rintro e d ⟨rfl,rfl⟩);go_ret;exact⟨dz e.out,rfl⟩
 ·by_cases I:65≤b
  ·by_cases G:b≤90
   ·have e:Hid (Txt.wb b=true):=Txt.wb_yes (by omega)
    go_enter Tryz.func186,Tryz.ntmps186
    go_wp2_with fail;go_ret;exact⟨dz e.out.symm,rfl⟩
   ·have e:Hid (Txt.dg b=Txt.wb b):=Txt.wb_dg (by omega) (by omega)
    go_enter Tryz.func186,Tryz.ntmps186
    go_wp2_with (go_at_call 208;refine (eR _ _).mono ?_;rintro e d ⟨rfl,rfl⟩);go_ret;exact⟨dz e.out,rfl⟩
  ·have e:Hid (Txt.dg b=Txt.wb b):=Txt.wb_dg (by omega) (by omega)
   go_enter Tryz.func186,Tryz.ntmps186
   go_wp2_with (go_at_call 208;refine (eR _ _).mono ?_;rintro e d ⟨rfl,rfl⟩);go_ret;exact⟨dz e.out,rfl⟩
abbrev stepV (b:Bool) (x:ByteArray):Value:=.agg #[.bool b,.string x]
def StepR (s:ByteArray) (e:Ending):Prop:=
 (Txt.stepB s=true∧e=.returned (.tuple #[stepV (sayB s) (s.extract 1 s.size),.bool true]))∨(Txt.stepB s=false∧e=.returned (.tuple #[stepV false ByteArray.empty,.bool false]))
theorem StepR.no {s:ByteArray} (h:Txt.stepB s=false):StepR s (.returned (.tuple #[stepV false ByteArray.empty,.bool false])):=Or.inr ⟨h,rfl⟩
theorem StepR.yes {s:ByteArray}{b:Bool} (h:Txt.stepB s=true) (hb:b=sayB s):StepR s (.returned (.tuple #[stepV b (s.extract 1 s.size),.bool true])):=by subst hb;exact Or.inl ⟨h,rfl⟩
set_option maxHeartbeats 0 in
theorem kw (s:ByteArray) (w:World) (hs:s.size≤300):
 Calls Tryz.prog 158 #[.string s] w fun e I=>StepR s e∧Below w.heap.size w I:=by
 by_cases h2:s.size<2
 ·have e:Hid (Txt.stepB s=false):=Txt.stepB_no (fun h=>by have:=h.1;omega)
  go_enter Tryz.func158,Tryz.ntmps158
  go_wp2_with fail;exact bodyPost_ret (v:=.tuple #[stepV false ByteArray.empty,.bool false]) (by simp[results,Tryz.results158,go_sem];rfl) rfl ⟨StepR.no e.out,by repeat (first |exact dx _ _|refine Below.setCell ?_ (by simp) _)⟩
 by_cases h9:9<s.size
 ·have e:Hid (Txt.stepB s=false):=Txt.stepB_no (fun h=>by have:=h.2.1;omega)
  go_enter Tryz.func158,Tryz.ntmps158
  go_wp2_with fail;exact bodyPost_ret (v:=.tuple #[stepV false ByteArray.empty,.bool false]) (by simp[results,Tryz.results158,go_sem];rfl) rfl ⟨StepR.no e.out,by repeat (first |exact dx _ _|refine Below.setCell ?_ (by simp) _)⟩
 have h0:0<s.size:=by omega
 by_cases d:(s[0].toNat:Int)=62∨(s[0].toNat:Int)=60
 rotate_left
 ·have e:Hid (Txt.stepB s=false):=Txt.stepB_no (fun ⟨_,_,_,h,_⟩=>d h)
  have f1:((s[0].toNat:Int) !=62)=true:=by simp;omega
  have f2:((s[0].toNat:Int) !=60)=true:=by simp;omega
  clear d
  go_enter Tryz.func158,Tryz.ntmps158
  go_wp2_with fail;exact bodyPost_ret (v:=.tuple #[stepV false ByteArray.empty,.bool false]) (by simp[results,Tryz.results158,go_sem];rfl) rfl ⟨StepR.no e.out,by repeat (first |exact dx _ _|refine Below.setCell ?_ (by simp) _)⟩
 have Z:=Hq d;have Y:Hid (((s[0].toNat:Int)==62)=sayB s):=rM h0 d
 have O:Hid (((s[0].toNat:Int) !=62)=false∨(((s[0].toNat:Int) !=62)=true∧((s[0].toNat:Int) !=60)=false)):=by
  unfold Hid;rcases d with h|h
  ·left;simp[h]
  ·right;constructor<;>simp[h]
 clear d
 rcases O.out with f1|⟨f1,f2⟩
 all_goals
  clear O
  go_enter Tryz.func158,Tryz.ntmps158
  go_wp2_with fail
  go_loop [4] (fun i=>∃k:Nat,1≤k∧k≤s.size∧i=.int .i64 k∧∀j (V:j<s.size),1≤j→j<k→Txt.wb (s[j].toNat)=true) (fun i=>s.size-(intOf i).toNat)
  case atStart=>exact⟨1,Nat.le_refl _,by omega,rfl,fun j _ h h'=>by omega⟩
  case round=>
   obtain⟨k,U,hk,rfl,G⟩:=hrel;have Q:=Hq G;clear G
   by_cases J:k<s.size
   ·cases hd:Txt.wb (s[k].toNat)
    ·have e:Hid (Txt.stepB s=false):=j7 J U hd;go_wp2_with (go_at_call 186;refine (gp _ _).mono ?_;rintro e I ⟨rfl,rfl⟩);exact bodyPost_ret (v:=.tuple #[stepV false ByteArray.empty,.bool false]) (by simp[results,Tryz.results158,go_sem];rfl) rfl ⟨StepR.no e.out,by repeat (first |exact dx _ _|refine Below.setCell ?_ (by simp) _)⟩
    ·have HD:=Hq hd;go_wp2_with (go_at_call 186;refine (gp _ _).mono ?_;rintro e I ⟨rfl,rfl⟩)
     go_round
     case rel=>
      refine⟨k+1,by omega,by omega,by go_num,fun j V h1 h=>?_⟩
      by_cases q:j=k
      ·subst q;exact HD.out
      ·exact Q.out j V h1 (by omega)
     case measure=>simp[intOf];omega
   ·have e:Hid (Txt.stepB s=true):=jE (by omega) (by omega) (by omega) h0 Z.out Q.out
    go_wp2_with fail
    go_region
    go_wp2_with fail;exact bodyPost_ret (v:=.tuple #[stepV ((s[0].toNat:Int)==62) (s.extract 1 s.size),.bool true]) (by simp[results,Tryz.results158,go_sem]) rfl ⟨StepR.yes e.out Y.out,(dx _ _).drew⟩
end Go.Proofs.YtdajolpoiffimabGreatDoor

namespace Go.Proofs.YtdajolpoiffimabGreatDoor
open Go.RowKit
theorem mX {x:Int} (h:x=120∨x=111):(x !=120)=false∨((x !=120)=true∧(x !=111)=false):=by
 rcases h with rfl|rfl
 ·left;rfl
 ·right;exact⟨rfl,rfl⟩
theorem lH {x:Int} (h:x=97∨x=108∨x=110):(x !=97)=false∨((x !=97)=true∧(x !=108)=false)∨((x !=97)=true∧(x !=108)=true∧(x !=110)=false):=by
 rcases h with rfl|rfl|rfl
 ·left;rfl
 ·right;left;exact⟨rfl,rfl⟩
 ·right;right;exact⟨rfl,rfl,rfl⟩
abbrev optV (x:Bool) (c k:Int):Value:=.agg #[.bool x,.int .u8 c,.int .i64 k]
def obt (s:ByteArray) (i:Nat):Int:=((s.data.toList[i]?).map (fun b=>(b.toNat:Int))).getD 0
theorem ka {s:ByteArray}{i:Nat} (h:i<s.size):(s[i].toNat:Int)=obt s i:=by
 have d:i<s.data.toList.length:=by simpa using h
 unfold obt;rw[List.getElem?_eq_getElem d];rfl
def OptR (s:ByteArray) (e:Ending):Prop:=
 (Txt.optB s=true∧e=.returned (.tuple #[optV (obt s 0==120) (obt s 1) (obt s 2-48),.bool true]))∨(Txt.optB s=false∧e=.returned (.tuple #[optV false 0 0,.bool false]))
theorem OptR.no {s:ByteArray} (h:Txt.optB s=false):OptR s (.returned (.tuple #[optV false 0 0,.bool false])):=Or.inr ⟨h,rfl⟩
theorem OptR.yes {s:ByteArray}{b:Bool}{c k:Int} (h:Txt.optB s=true) (h0:b=(obt s 0==120)) (h1:c=obt s 1) (h2:k=obt s 2-48):OptR s (.returned (.tuple #[optV b c k,.bool true])):=by subst h0 h1 h2;exact Or.inl ⟨h,rfl⟩
set_option maxHeartbeats 0 in
theorem iZ (s:ByteArray) (w:World) (_hs:s.size≤300):
 Calls Tryz.prog 157 #[.string s] w fun e w'=>OptR s e∧Below w.heap.size w w':=by
 by_cases z:s.size=3
 rotate_left
 ·have e:Hid (Txt.optB s=false):=Txt.optB_no (fun h=>z h.1)
  have z':((s.size:Int) !=3)=true:=by simp;omega
  clear z
  go_enter Tryz.func157,Tryz.ntmps157
  go_wp2_with fail;exact bodyPost_ret (v:=.tuple #[optV false 0 0,.bool false]) (by simp[results,Tryz.results157,go_sem]) rfl ⟨OptR.no e.out,dx _ _⟩
 have z':((s.size:Int) !=3)=false:=by simp;omega
 have i0:0<s.size:=by omega
 have i1:1<s.size:=by omega
 have i2:2<s.size:=by omega
 have Z:=Hq z;clear z
 by_cases J:(s[0].toNat:Int)=120∨(s[0].toNat:Int)=111
 rotate_left
 ·have e:Hid (Txt.optB s=false):=Txt.optB_no (fun ⟨_,h,_⟩=>J h)
  have f1:((s[0].toNat:Int) !=120)=true:=by simp;omega
  have f2:((s[0].toNat:Int) !=111)=true:=by simp;omega
  clear J
  go_enter Tryz.func157,Tryz.ntmps157
  go_wp2_with fail;exact bodyPost_ret (v:=.tuple #[optV false 0 0,.bool false]) (by simp[results,Tryz.results157,go_sem]) rfl ⟨OptR.no e.out,dx _ _⟩
 have Y:=Hq J;have Q:=mX J;clear J
 by_cases O:(s[1].toNat:Int)=97∨(s[1].toNat:Int)=108∨(s[1].toNat:Int)=110
 rotate_left
 ·have e:Hid (Txt.optB s=false):=Txt.optB_no (fun ⟨_,_,h,_⟩=>O h)
  have d:((s[1].toNat:Int) !=97)=true:=by simp;omega
  have I:((s[1].toNat:Int) !=108)=true:=by simp;omega
  have U:((s[1].toNat:Int) !=110)=true:=by simp;omega
  clear O
  rcases Q with f1|⟨f1,f2⟩
  all_goals
   go_enter Tryz.func157,Tryz.ntmps157
   go_wp2_with fail;exact bodyPost_ret (v:=.tuple #[optV false 0 0,.bool false]) (by simp[results,Tryz.results157,go_sem]) rfl ⟨OptR.no e.out,dx _ _⟩
 have V:=Hq O;have W2:=lH O;clear O
 have W3:Hid ((s[2].toNat:Int)<49∧Txt.optB s=false∨(49≤(s[2].toNat:Int)∧(s[2].toNat:Int)≤53∧Txt.optB s=true)∨(49≤(s[2].toNat:Int)∧53<(s[2].toNat:Int)∧Txt.optB s=false)):=by
  unfold Hid
  by_cases a:(s[2].toNat:Int)<49
  ·exact Or.inl ⟨a,Txt.optB_no (fun ⟨_,_,_,h,_⟩=>by omega)⟩
  ·by_cases b:(s[2].toNat:Int)≤53
   ·exact Or.inr (Or.inl ⟨by omega,b,Txt.optB_yes ⟨Z.out,Y.out,V.out,by omega,b⟩⟩)
   ·exact Or.inr (Or.inr ⟨by omega,by omega,Txt.optB_no (fun ⟨_,_,_,_,h⟩=>by omega)⟩)
 clear Y V Z;have E0:Hid (((s[0].toNat:Int)==120)=(obt s 0==120)):=by unfold Hid;rw[ka i0]
 have E1:Hid ((s[1].toNat:Int)=obt s 1):=ka i1;have E2:Hid ((s[2].toNat:Int)-48=obt s 2-48):=by unfold Hid;rw[ka i2]
 rcases W3.out with ⟨a,G⟩|⟨a,b,G⟩|⟨a,b,G⟩
 ·have e:=(show Hid _ from G)
  clear G W3
  rcases Q with f1|⟨f1,f2⟩
  all_goals
   rcases W2 with d|⟨d,I⟩|⟨d,I,U⟩
   all_goals
    go_enter Tryz.func157,Tryz.ntmps157
    go_wp2_with fail;exact bodyPost_ret (v:=.tuple #[optV false 0 0,.bool false]) (by simp[results,Tryz.results157,go_sem]) rfl ⟨OptR.no e.out,dx _ _⟩
 ·have e:=(show Hid _ from G)
  clear G W3
  rcases Q with f1|⟨f1,f2⟩
  all_goals
   rcases W2 with d|⟨d,I⟩|⟨d,I,U⟩
   all_goals
    go_enter Tryz.func157,Tryz.ntmps157
    go_wp2_with fail
    go_region
    go_wp2_with fail;exact bodyPost_ret (v:=.tuple #[optV ((s[0].toNat:Int)==120) (s[1].toNat:Int) ((s[2].toNat:Int)-48),.bool true]) (by simp[results,Tryz.results157,go_sem]) rfl ⟨OptR.yes e.out E0.out E1.out E2.out,(dx _ _).drew⟩
 ·have e:=(show Hid _ from G)
  clear G W3
  rcases Q with f1|⟨f1,f2⟩
  all_goals
   rcases W2 with d|⟨d,I⟩|⟨d,I,U⟩
   all_goals
    go_enter Tryz.func157,Tryz.ntmps157
    go_wp2_with fail;exact bodyPost_ret (v:=.tuple #[optV false 0 0,.bool false]) (by simp[results,Tryz.results157,go_sem]) rfl ⟨OptR.no e.out,dx _ _⟩
end Go.Proofs.YtdajolpoiffimabGreatDoor

namespace Go.Proofs.YtdajolpoiffimabGreatDoor
open Go.RowKit
abbrev partV (a b t:Int):Value:=.agg #[.int .i64 a,.int .i64 b,.int .i64 t]
def rvA (l:Int) (s:ByteArray):Int:=if Txt.star s then l else Txt.val (Txt.cut1 45 s)
def rvB (g:Int) (s:ByteArray):Int:=if Txt.star s then g else if Txt.cut3 45 s then Txt.val (Txt.cut2 45 s) else Txt.val (Txt.cut1 45 s)
def rvK (l g:Int) (s:ByteArray):Bool:=decide (l≤rvA l s∧rvA l s≤rvB g s∧rvB g s≤g)
def PartR (k:Bool) (a b t:Int) (e:Ending):Prop:=(k=true∧e=.returned (.tuple #[partV a b t,.bool true]))∨(k=false∧e=.returned (.tuple #[partV 0 0 0,.bool false]))
theorem fC {k:Bool}{a b t e d w:Int} (h:k=true) (G:a=e) (hb:b=d) (I:t=w):PartR k a b t (.returned (.tuple #[partV e d w,.bool true])):=by
 subst G hb I;exact Or.inl ⟨h,rfl⟩
theorem ec {k:Bool}{a b t:Int} (h:k=false):PartR k a b t (.returned (.tuple #[partV 0 0 0,.bool false])):=Or.inr ⟨h,rfl⟩
theorem jd {s:ByteArray} (h:0≤Txt.val s):Txt.numV s=Txt.val s∧Txt.numB s=true:=Txt.num_yes h
theorem ik {s:ByteArray} (h:Txt.val s<0):Txt.numV s=0∧Txt.numB s=false:=Txt.num_no (by have:=Txt.val_bd s;omega)
set_option maxHeartbeats 0 in
theorem rY (s:ByteArray) (l g:Int) (w:World) (_hs:s.size≤300) (l1:0≤l) (J:l≤1) (I:6≤g) (O:g≤59) (h1:Txt.star s=true):
 Calls Tryz.prog 205 #[.string s,.int .i64 l,.int .i64 g] w fun e d=>PartR (rvK l g s) (rvA l s) (rvB g s) 1 e∧Below w.heap.size w d:=by
 have G:(s.toList==[42])=true:=h1
 have e:Hid (rvK l g s=true∧rvA l s=l∧rvB g s=g):=by
  have a:rvA l s=l:=by simp[rvA,h1]
  have b:rvB g s=g:=by simp[rvB,h1]
  exact⟨decide_eq_true (by rw[a,b];omega),a,b⟩
 clear h1
 go_enter Tryz.func205,Tryz.ntmps205
 go_wp2_with fail;exact bodyPost_ret (v:=.tuple #[partV l g 1,.bool true]) (by simp[results,Tryz.results205,go_sem]) rfl ⟨fC e.out.1 e.out.2.1 e.out.2.2 rfl,by repeat (first |exact Below.refl _ _|refine below_drewN ?_ _|refine Below.setCell ?_ (by simp) _|refine Below.alloc ?_ (by simp) _)⟩
set_option maxHeartbeats 0 in
theorem tP (s:ByteArray) (l g:Int) (w:World) (G:s.size≤300) (l1:0≤l) (Z:l≤1) (_g1:6≤g) (_g2:g≤59) (h1:Txt.star s=false) (O:Txt.cut3 45 s=false):
 Calls Tryz.prog 205 #[.string s,.int .i64 l,.int .i64 g] w fun e d=>PartR (rvK l g s) (rvA l s) (rvB g s) 1 e∧Below w.heap.size w d:=by
 have U:(s.toList==[42])=false:=h1;have a:Hid (rvA l s=Txt.val (Txt.cut1 45 s)):=by unfold Hid;simp[rvA,h1]
 have b:Hid (rvB g s=Txt.val (Txt.cut1 45 s)):=by unfold Hid;simp[rvB,h1,O]
 have K:Hid (∀r:Bool,r=decide (l≤Txt.val (Txt.cut1 45 s)∧Txt.val (Txt.cut1 45 s)≤Txt.val (Txt.cut1 45 s)∧Txt.val (Txt.cut1 45 s)≤g)→rvK l g s=r):=fun r h=>by rw[h,rvK,a.out,b.out]
 have I:Hid ((Txt.cut1 45 s).size≤300):=Nat.le_trans (Txt.cut1_size _ _) G;have s2:Hid ((Txt.cut2 45 s).size≤300):=Nat.le_trans (Txt.cut2_size _ _) G;have V:=Txt.val_bd (Txt.cut1 45 s);have bB:=Txt.val_bd (Txt.cut1 45 s);clear h1
 go_enter Tryz.func205,Tryz.ntmps205
 go_wp2_with fail;refine (gn _ _ _ G).mono ?_;rintro e d ⟨rfl,n1,rfl⟩;go_wp2_with fail;refine (eD _ _ I.out).mono ?_;rintro e d ⟨rfl,rfl⟩
 by_cases J:Txt.val (Txt.cut1 45 s)<0
 ·obtain⟨r1,Q⟩:=ik J;go_wp2_with fail;exact bodyPost_ret (v:=.tuple #[partV 0 0 0,.bool false]) (by simp[results,Tryz.results205,go_sem]) rfl ⟨ec (K.out false (decide_eq_false (by omega)).symm),by repeat (first |exact Below.refl _ _|refine below_drewN ?_ _|refine Below.setCell ?_ (by simp) _|refine Below.alloc ?_ (by simp) _)⟩
 obtain⟨r1,Q⟩:=jd (show 0≤Txt.val (Txt.cut1 45 s) by omega)
 by_cases Y:Txt.val (Txt.cut1 45 s)<l
 ·go_wp2_with fail;exact bodyPost_ret (v:=.tuple #[partV 0 0 0,.bool false]) (by simp[results,Tryz.results205,go_sem]) rfl ⟨ec (K.out false (decide_eq_false (by omega)).symm),by repeat (first |exact Below.refl _ _|refine below_drewN ?_ _|refine Below.setCell ?_ (by simp) _|refine Below.alloc ?_ (by simp) _)⟩
 go_wp2_with fail;refine (eD _ _ I.out).mono ?_;rintro e d ⟨rfl,rfl⟩
 by_cases q5:g<Txt.val (Txt.cut1 45 s)
 ·go_wp2_with fail;exact bodyPost_ret (v:=.tuple #[partV 0 0 0,.bool false]) (by simp[results,Tryz.results205,go_sem]) rfl ⟨ec (K.out false (decide_eq_false (by omega)).symm),by repeat (first |exact Below.refl _ _|refine below_drewN ?_ _|refine Below.setCell ?_ (by simp) _|refine Below.alloc ?_ (by simp) _)⟩
 go_wp2_with fail;exact bodyPost_ret (v:=.tuple #[partV (Txt.val (Txt.cut1 45 s)) (Txt.val (Txt.cut1 45 s)) 1,.bool true]) (by simp[results,Tryz.results205,go_sem]) rfl ⟨fC (K.out true (decide_eq_true ⟨by omega,by omega,by omega⟩).symm) a.out b.out rfl,by repeat (first |exact Below.refl _ _|refine below_drewN ?_ _|refine Below.setCell ?_ (by simp) _|refine Below.alloc ?_ (by simp) _)⟩
set_option maxHeartbeats 0 in
theorem tN (s:ByteArray) (l g:Int) (w:World) (G:s.size≤300) (l1:0≤l) (l2:l≤1) (_g1:6≤g) (_g2:g≤59) (h1:Txt.star s=false) (J:Txt.cut3 45 s=true):
 Calls Tryz.prog 205 #[.string s,.int .i64 l,.int .i64 g] w fun e d=>PartR (rvK l g s) (rvA l s) (rvB g s) 1 e∧Below w.heap.size w d:=by
 have aa:(s.toList==[42])=false:=h1;have a:Hid (rvA l s=Txt.val (Txt.cut1 45 s)):=by unfold Hid;simp[rvA,h1]
 have b:Hid (rvB g s=Txt.val (Txt.cut2 45 s)):=by unfold Hid;simp[rvB,h1,J]
 have K:Hid (∀r:Bool,r=decide (l≤Txt.val (Txt.cut1 45 s)∧Txt.val (Txt.cut1 45 s)≤Txt.val (Txt.cut2 45 s)∧Txt.val (Txt.cut2 45 s)≤g)→rvK l g s=r):=fun r h=>by rw[h,rvK,a.out,b.out]
 have O:Hid ((Txt.cut1 45 s).size≤300):=Nat.le_trans (Txt.cut1_size _ _) G;have Z:Hid ((Txt.cut2 45 s).size≤300):=Nat.le_trans (Txt.cut2_size _ _) G;have bA:=Txt.val_bd (Txt.cut1 45 s);have bB:=Txt.val_bd (Txt.cut2 45 s);clear h1
 go_enter Tryz.func205,Tryz.ntmps205
 go_wp2_with fail;refine (gn _ _ _ G).mono ?_;rintro e d ⟨rfl,n1,rfl⟩;go_wp2_with fail;refine (eD _ _ O.out).mono ?_;rintro e d ⟨rfl,rfl⟩
 by_cases I:Txt.val (Txt.cut1 45 s)<0
 ·obtain⟨r1,Q⟩:=ik I;go_wp2_with fail;exact bodyPost_ret (v:=.tuple #[partV 0 0 0,.bool false]) (by simp[results,Tryz.results205,go_sem]) rfl ⟨ec (K.out false (decide_eq_false (by omega)).symm),by repeat (first |exact Below.refl _ _|refine below_drewN ?_ _|refine Below.setCell ?_ (by simp) _|refine Below.alloc ?_ (by simp) _)⟩
 obtain⟨r1,Q⟩:=jd (show 0≤Txt.val (Txt.cut1 45 s) by omega)
 by_cases q2:Txt.val (Txt.cut1 45 s)<l
 ·go_wp2_with fail;exact bodyPost_ret (v:=.tuple #[partV 0 0 0,.bool false]) (by simp[results,Tryz.results205,go_sem]) rfl ⟨ec (K.out false (decide_eq_false (by omega)).symm),by repeat (first |exact Below.refl _ _|refine below_drewN ?_ _|refine Below.setCell ?_ (by simp) _|refine Below.alloc ?_ (by simp) _)⟩
 go_wp2_with fail;refine (eD _ _ Z.out).mono ?_;rintro e d ⟨rfl,rfl⟩
 by_cases Y:Txt.val (Txt.cut2 45 s)<0
 ·obtain⟨U,V⟩:=ik Y;go_wp2_with fail;exact bodyPost_ret (v:=.tuple #[partV 0 0 0,.bool false]) (by simp[results,Tryz.results205,go_sem]) rfl ⟨ec (K.out false (decide_eq_false (by omega)).symm),by repeat (first |exact Below.refl _ _|refine below_drewN ?_ _|refine Below.setCell ?_ (by simp) _|refine Below.alloc ?_ (by simp) _)⟩
 obtain⟨U,V⟩:=jd (show 0≤Txt.val (Txt.cut2 45 s) by omega)
 by_cases q4:Txt.val (Txt.cut2 45 s)<Txt.val (Txt.cut1 45 s)
 ·go_wp2_with fail;exact bodyPost_ret (v:=.tuple #[partV 0 0 0,.bool false]) (by simp[results,Tryz.results205,go_sem]) rfl ⟨ec (K.out false (decide_eq_false (by omega)).symm),by repeat (first |exact Below.refl _ _|refine below_drewN ?_ _|refine Below.setCell ?_ (by simp) _|refine Below.alloc ?_ (by simp) _)⟩
 by_cases q5:g<Txt.val (Txt.cut2 45 s)
 ·go_wp2_with fail;exact bodyPost_ret (v:=.tuple #[partV 0 0 0,.bool false]) (by simp[results,Tryz.results205,go_sem]) rfl ⟨ec (K.out false (decide_eq_false (by omega)).symm),by repeat (first |exact Below.refl _ _|refine below_drewN ?_ _|refine Below.setCell ?_ (by simp) _|refine Below.alloc ?_ (by simp) _)⟩
 go_wp2_with fail;exact bodyPost_ret (v:=.tuple #[partV (Txt.val (Txt.cut1 45 s)) (Txt.val (Txt.cut2 45 s)) 1,.bool true]) (by simp[results,Tryz.results205,go_sem]) rfl ⟨fC (K.out true (decide_eq_true ⟨by omega,by omega,by omega⟩).symm) a.out b.out rfl,by repeat (first |exact Below.refl _ _|refine below_drewN ?_ _|refine Below.setCell ?_ (by simp) _|refine Below.alloc ?_ (by simp) _)⟩
theorem gl (s:ByteArray) (l g:Int) (w:World) (G:s.size≤300) (l1:0≤l) (I:l≤1) (d:6≤g) (J:g≤59):
 Calls Tryz.prog 205 #[.string s,.int .i64 l,.int .i64 g] w fun e Q=>PartR (rvK l g s) (rvA l s) (rvB g s) 1 e∧Below w.heap.size w Q:=by
 cases h1:Txt.star s
 ·cases O:Txt.cut3 45 s
  ·exact tP s l g w G l1 I d J h1 O
  ·exact tN s l g w G l1 I d J h1 O
 ·exact rY s l g w G l1 I d J h1
end Go.Proofs.YtdajolpoiffimabGreatDoor
