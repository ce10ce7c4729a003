import Derived.Deep.RegionHeld3
import Derived.Deep.DrawnRows
import Derived.Test.YtdajolpoiffimabGreatDoorA5

namespace Go.Proofs.YtdajolpoiffimabGreatDoor
open Go.RowKit
set_option maxHeartbeats 1000000 in
theorem jD (s:ByteArray) (w:World) (V:s.size≤300):
 Calls Tryz.prog 140 #[.string s] w fun e J=>(∃b d,e=.returned (.tuple #[.slice (some ⟨b,0,none⟩) (tm s) d,.bool (tb s)])∧StrsAt J b (Txt.pcs 10 s))∧Below w.heap.size w J:=by
 go_enter Tryz.func140,Tryz.ntmps140
 go_wp2_with fail;refine (eN _ _ _ V).mono ?_;rintro e w1 ⟨⟨b,d,rfl,Y,G,hS⟩,hb⟩;have I:=Txt.pcs_len 10 s;have Q:=jc s;have U:Hid (StrsAt w1 b (Txt.pcs 10 s)):=hS;rw[Q] at G I ⊢;have c:w1.cell? ⟨b,tn s,none⟩=some (.string (tl s (tn s))):=by rw[←ga (eP s)];exact hS _ (eP s)
 clear Q hS;have b1:(0:Int)≤(tn s:Int):=by omega
 have b2:(tn s:Int)<((tn s+1:Nat):Int):=by omega
 have b3:(tn s:Int)≤(d:Int):=by omega
 have O:=iT (s:=tl s (tn s))
 by_cases z:(tl s (tn s)).size=0
 ·have Z:Hid ((tl s (tn s)).size=0):=z;rw[decide_eq_true z] at O;clear z;go_wp2_with fail;go_ret2;refine⟨⟨b,d,?_,U.out⟩,hb⟩;rw[tm,tb,if_pos Z.out,decide_eq_true Z.out];rfl
 ·have Z:Hid (¬(tl s (tn s)).size=0):=z;rw[decide_eq_false z] at O;clear z;go_wp2_with fail;go_ret2;refine⟨⟨b,d,?_,U.out⟩,hb⟩;rw[tm,tb,if_neg Z.out,decide_eq_false Z.out];rfl
set_option maxHeartbeats 2000000 in
theorem gH (s:ByteArray) (w:World) (hs:s.size≤maxLen):
 Calls Tryz.prog 109 #[.string s] w fun e w'=>(∃a r:Int,e=.returned (.tuple #[.int .i64 a,.int .i64 r])∧ChkR s a r∧0≤r)∧Below w.heap.size w w':=by
 unfold maxLen at hs
 by_cases ad:300<s.size
 ·have K:Hid (ChkR s 0 1):=ChkR.long ad
  go_enter Tryz.func109,Tryz.ntmps109
  go_wp2_with fail;go_ret2;exact⟨⟨0,1,rfl,K.out,by omega⟩,Below.refl _ _⟩
 have d:s.size≤300:=by omega
 go_enter Tryz.func109,Tryz.ntmps109
 go_wp2_with fail;refine (jD _ _ d).mono ?_;rintro e w1 ⟨⟨b,ax,rfl,hS⟩,hb⟩;have ae:=Txt.pcs_len 10 s;have hn:=jc s;have HS:Hid (StrsAt w1 b (Txt.pcs 10 s)):=hS;clear hS;obtain⟨m,hm⟩:∃m:Nat,m=tm s:=⟨_,rfl⟩;have G:Hid (m=tn s+(if (tl s (tn s)).size=0 then 0 else 1)):=hm
 have aA:m≤tn s+1:=by rw[hm,tm];split<;>omega
 rw[←hm];clear hm;obtain⟨o,ho⟩:∃o:Bool,o=tb s:=⟨_,rfl⟩;have HO:Hid (o= !decide ((tl s (tn s)).size=0)):=ho;rw[←ho];clear ho;have HN:Hid ((Txt.pcs 10 s).length=tn s+1):=hn;have ay:m≤302:=by omega
 clear hn ae hs
 by_cases h4:4<m
 ·have K:Hid (ChkR s 0 2):=ChkR.many d (by rw[←G.out];exact h4)
  go_wp2_with fail;go_ret2;exact⟨⟨0,2,rfl,K.out,by omega⟩,hb⟩
 have O:Hid (tn s+(if (tl s (tn s)).size=0 then 0 else 1)≤4):=by unfold Hid;rw[←G.out];omega
 go_wp2_with fail
 go_loopw [6] (fun x wr=>∃k:Nat,k≤m∧x=.int .i64 k∧(∀j:Nat,j<k→lineB (tl s j)=true)∧(k≤tn s)∧Below w1.heap.size w1 wr) (fun x _=>m-(intOf x).toNat)
 case atStart=>exact⟨0,Nat.zero_le _,rfl,fun j h=>by omega,Nat.zero_le _,Below.refl _ _⟩
 case round=>
  obtain⟨k,hk,rfl,Y,az,I⟩:=hrel;have V:Hid (∀j:Nat,j<k→lineB (tl s j)=true):=Y;clear Y
  by_cases aw:k<m
  ·have U:k<(Txt.pcs 10 s).length:=by have:=HN.out;omega
   have aa:wr.cell? ⟨b,k,none⟩=some (.string (tl s k)):=by rw[←ga U];exact cell_later I (HS.out k U)
   have zk:Hid ((tl s k).size≤300):=fD d k U;have b1:(0:Int)≤(k:Int):=by omega
   have b2:(k:Int)<(m:Int):=by omega
   go_wp2_with fail;refine (mZ _ _ zk.out).mono ?_;rintro e w2 ⟨rfl,ab⟩;clear aa;have J:Below w1.heap.size w1 w2:=I.trans (ab.mono I.size);have Z:Hid (Below w.heap.size w w2):=hb.trans (J.mono hb.size);clear I ab
   cases hq:lineB (tl s k)
   ·have K:Hid (ChkR s (k+1) 3):=by
     unfold Hid
     by_cases q:k<tn s
     ·exact ChkR.line d O.out k q hq V.out
     ·have e:k=tn s:=by omega
      have z:¬(tl s (tn s)).size=0:=by intro z;have:=G.out;rw[if_pos z] at this;omega
      rw[e];exact ChkR.last d O.out (fun j hj=>V.out j (by omega)) z
    go_wp2_with fail;go_ret2;exact⟨⟨_,3,rfl,K.out,by omega⟩,Z.out⟩
   ·have HQ:Hid (lineB (tl s k)=true):=hq
    have ac:Hid (∀j:Nat,j<k+1→lineB (tl s j)=true):=by
     intro j h
     by_cases q:j=k
     ·subst q;exact HQ.out
     ·exact V.out j (by omega)
    by_cases Q:k=tn s
    ·have z:¬(tl s (tn s)).size=0:=by intro z;have:=G.out;rw[if_pos z] at this;omega
     have K:Hid (ChkR s (k+1) 3):=by
      unfold Hid;rw[Q];exact ChkR.last d O.out (fun j hj=>V.out j (by omega)) z
     have o1:o=true:=by have:=HO.out;rw[decide_eq_false z] at this;exact this
     have q2:((k:Int)==(m:Int)-1)=true:=by have:=G.out;rw[if_neg z] at this;simp;omega
     clear Q z;go_wp2_with fail;go_ret2;exact⟨⟨_,3,rfl,K.out,by omega⟩,Z.out⟩
    ·cases o
     ·go_wp2_with fail;go_roundw
      case rel=>exact⟨k+1,by omega,by go_num,ac.out,by omega,J⟩
      case measure=>simp[intOf];omega
     ·have z:¬(tl s (tn s)).size=0:=by
       intro z;have:=HO.out;rw[decide_eq_true z] at this;cases this
      have q2:((k:Int)==(m:Int)-1)=false:=by have:=G.out;rw[if_neg z] at this;simp;omega
      clear z;go_wp2_with fail;go_roundw
      case rel=>exact⟨k+1,by omega,by go_num,ac.out,by omega,J⟩
      case measure=>simp[intOf];omega
  ·have z:(tl s (tn s)).size=0:=by
    by_cases z:(tl s (tn s)).size=0
    ·exact z
    ·have:=G.out;rw[if_neg z] at this;omega
   have K:Hid (ChkR s 0 0):=ChkR.ok d O.out (fun j hj=>V.out j (by have:=G.out;rw[if_pos z] at this;omega)) z
   have Z:Hid (Below w.heap.size w wr):=hb.trans (I.mono hb.size);clear z;go_wp2_with fail;go_ret2;exact⟨⟨0,0,rfl,K.out,by omega⟩,Z.out⟩
attribute [local go_sem ↓] Go.wp_at_zero Go.wp_at_succ
theorem fO (f:ByteArray) (i v:Int) (w:World) (x:Bool) (J:x=Txt.hldB (lo i) (hi i) v f) (I:f.size≤300) (O:0≤v) (d:v≤60) (G:Txt.fldB (lo i) (hi i) f=true):
 Calls Tryz.prog 226 #[.string f,.int .i64 i,.int .i64 v] w fun e Q=>e=.returned (.bool x)∧Below w.heap.size w Q:=J▸oh f i v w I O d G
set_option maxHeartbeats 3000000 in
theorem nt (s:ByteArray) (y m d h i k:Int) (w:World) (hs:s.size≤300) (hP:LineP s) (m1:0≤m) (m2:m≤60) (d1:0≤d) (d2:d≤60) (h1:0≤h) (h2:h≤60) (i1:0≤i) (i2:i≤60) (k1:0≤k) (k2:k≤60):
 Calls Tryz.prog 222 #[.string s,dateV y m d h i k] w fun e I=>e=.returned (.bool (dueB s m d h i k))∧Below w.heap.size w I:=by
 have O:=Hq hP;have h7:=hP.n7;have bj:=hP.n11;clear hP
 go_enter Tryz.func222,Tryz.ntmps222
 go_wp2_with fail;refine (eN _ _ _ hs).mono ?_;rintro e w1 ⟨⟨b,bf,rfl,_,a7,hS⟩,hb⟩;have D1:DateAt w1 w.heap.size y m d h i k:=(DateAt.new w y m d h i k _).later hb
 have aj:∀(t:Nat),t<5→w1.cell? ⟨b,t,none⟩=some (.string (pt s t)):=by
  intro t Q;have hl:t<(Txt.pcs 32 s).length:=by omega
  rw[←eM hl];exact hS t hl
 have C1:=Hq aj;have aw:=Hq D1;have B1:Hid (Below w.heap.size w w1):=(cw w _).trans (hb.mono (by simp))
 have aE:w.heap.size<w1.heap.size:=by have:=hb.size;simp at this;omega
 clear hb hS D1 aj;obtain⟨x,hx⟩:∃x:Bool,x=Txt.hldB (lo 0) (hi 0) i (pt s 0):=⟨_,rfl⟩;obtain⟨y',hy⟩:∃x:Bool,x=Txt.hldB (lo 1) (hi 1) h (pt s 1):=⟨_,rfl⟩;obtain⟨z,hz⟩:∃z:Bool,z=Txt.hldB (lo 3) (hi 3) m (pt s 3):=⟨_,rfl⟩;obtain⟨u,hu⟩:∃x:Bool,x=Txt.hldB (lo 2) (hi 2) d (pt s 2):=⟨_,rfl⟩;obtain⟨v,hv⟩:∃z:Bool,z=Txt.hldB (lo 4) (hi 4) k (pt s 4):=⟨_,rfl⟩;have HX:=Hq hx;have HY:=Hq hy;have HZ:=Hq hz;have HU:=Hq hu;have HV:=Hq hv;have J:Hid (dueB s m d h i k=(x&&(y'&&(z&&(if (Txt.opn (pt s 2)||Txt.opn (pt s 4))=true then (u&&v) else (u||v)))))):=by unfold Hid;rw[dueB,dayB,hx,hy,hz,hu,hv]
 clear hx hy hz hu hv;have n0:(0:Int)<((Txt.pcs 32 s).length:Int):=by omega
 have n1:(1:Int)<((Txt.pcs 32 s).length:Int):=by omega
 have n2:(2:Int)<((Txt.pcs 32 s).length:Int):=by omega
 have n3:(3:Int)<((Txt.pcs 32 s).length:Int):=by omega
 have n4:(4:Int)<((Txt.pcs 32 s).length:Int):=by omega
 have bc:0<(Txt.pcs 32 s).length:=by omega
 have c1:=C1.out 0 (by decide)
 obtain⟨V,Y,Z,q3,q4,U⟩:=aw.out;go_wp2_with fail
 go_region_held3 (fun I=>I.cell? ⟨b,0,none⟩=some (.string (pt s 0))∧I.cell? ⟨w.heap.size,4,none⟩=some (.int .i64 i)) (first |go_keep|(refine⟨?_,?_⟩<;>exact cell_later G (by simp[*]))) ((go_at_call 226;refine (fO _ 0 i _ x HX.out (O.out.sz hs 0 (by decide)) i1 i2 (O.out.fl 0 (by decide))).mono ?_;rintro e w2 ⟨rfl,G⟩))
 rename Below _ _ _=>G
 have af:Below w1.heap.size w1 w2:=(Below.refl _ _).drew.trans G;have ar:=Hq (aw.out.later af);have C2:Hid (∀(t:Nat),t<5→w2.cell? ⟨b,t,none⟩=some (.string (pt s t))):=fun t Q=>cell_later af (C1.out t Q)
 have B2:Hid (Below w.heap.size w w2):=B1.out.trans (af.mono (Nat.le_of_lt aE));have aB:w.heap.size<w2.heap.size:=Nat.lt_of_lt_of_le aE af.size;clear G af C1 aw c1 V Y Z q3 q4 U HX;have c2:=C2.out 1 (by decide)
 obtain⟨V,Y,Z,q3,q4,U⟩:=ar.out;go_wp2_with fail
 go_region_held3 (fun I=>I.cell? ⟨b,1,none⟩=some (.string (pt s 1))∧I.cell? ⟨w.heap.size,3,none⟩=some (.int .i64 h)) (first |go_keep|(refine⟨?_,?_⟩<;>exact cell_later G (by simp[*]))) ((go_at_call 226;refine (fO _ 1 h _ y' HY.out (O.out.sz hs 1 (by decide)) h1 h2 (O.out.fl 1 (by decide))).mono ?_;rintro e w3 ⟨rfl,G⟩))
 rename Below _ _ _=>G
 have ac:Below w2.heap.size w2 w3:=(Below.refl _ _).drew.trans G;have au:=Hq (ar.out.later ac);have C3:Hid (∀(t:Nat),t<5→w3.cell? ⟨b,t,none⟩=some (.string (pt s t))):=fun t Q=>cell_later ac (C2.out t Q)
 have B3:Hid (Below w.heap.size w w3):=B2.out.trans (ac.mono (Nat.le_of_lt aB));have aC:w.heap.size<w3.heap.size:=Nat.lt_of_lt_of_le aB ac.size;clear G ac C2 ar c2 V Y Z q3 q4 U HY;have c3:=C3.out 3 (by decide)
 obtain⟨V,Y,Z,q3,q4,U⟩:=au.out;go_wp2_with fail
 go_region_held3 (fun I=>I.cell? ⟨b,3,none⟩=some (.string (pt s 3))∧I.cell? ⟨w.heap.size,1,none⟩=some (.int .i64 m)) (first |go_keep|(refine⟨?_,?_⟩<;>exact cell_later G (by simp[*]))) ((go_at_call 226;refine (fO _ 3 m _ z HZ.out (O.out.sz hs 3 (by decide)) m1 m2 (O.out.fl 3 (by decide))).mono ?_;rintro e w4 ⟨rfl,G⟩))
 rename Below _ _ _=>G
 have ae:Below w3.heap.size w3 w4:=(Below.refl _ _).drew.trans G;have av:=Hq (au.out.later ae);have C4:Hid (∀(t:Nat),t<5→w4.cell? ⟨b,t,none⟩=some (.string (pt s t))):=fun t Q=>cell_later ae (C3.out t Q)
 have B4:Hid (Below w.heap.size w w4):=B3.out.trans (ae.mono (Nat.le_of_lt aC));have aD:w.heap.size<w4.heap.size:=Nat.lt_of_lt_of_le aC ae.size;clear G ae C3 au c3 V Y Z q3 q4 U HZ
 cases x
 ·have D:Hid (false=dueB s m d h i k):=by unfold Hid;rw[J.out];rfl
  clear J;go_wp2_with fail;go_ret;exact⟨dy D.out,B4.out⟩
 cases y'
 ·have D:Hid (false=dueB s m d h i k):=by unfold Hid;rw[J.out];rfl
  clear J;go_wp2_with fail;go_ret;exact⟨dy D.out,B4.out⟩
 cases z
 ·have D:Hid (false=dueB s m d h i k):=by unfold Hid;rw[J.out];rfl
  clear J;go_wp2_with fail;go_ret;exact⟨dy D.out,B4.out⟩
 have c4:=C4.out 2 (by decide)
 obtain⟨V,Y,Z,q3,q4,U⟩:=av.out;go_wp2_with fail
 go_region_held3 (fun I=>I.cell? ⟨b,2,none⟩=some (.string (pt s 2))∧I.cell? ⟨w.heap.size,2,none⟩=some (.int .i64 d)) (first |go_keep|(refine⟨?_,?_⟩<;>exact cell_later G (by simp[*]))) ((go_at_call 226;refine (fO _ 2 d _ u HU.out (O.out.sz hs 2 (by decide)) d1 d2 (O.out.fl 2 (by decide))).mono ?_;rintro e w5 ⟨rfl,G⟩))
 rename Below _ _ _=>G
 have ah:Below w4.heap.size w4 w5:=(Below.refl _ _).drew.trans G;have ax:=Hq (av.out.later ah);have C5:Hid (∀(t:Nat),t<5→w5.cell? ⟨b,t,none⟩=some (.string (pt s t))):=fun t Q=>cell_later ah (C4.out t Q)
 have B5:Hid (Below w.heap.size w w5):=B4.out.trans (ah.mono (Nat.le_of_lt aD));have aF:w.heap.size<w5.heap.size:=Nat.lt_of_lt_of_le aD ah.size;clear G ah C4 av c4 V Y Z q3 q4 U HU;have c5:=C5.out 4 (by decide)
 obtain⟨V,Y,Z,q3,q4,U⟩:=ax.out;go_wp2_with fail
 go_region_held3 (fun I=>I.cell? ⟨b,4,none⟩=some (.string (pt s 4))∧I.cell? ⟨w.heap.size,5,none⟩=some (.int .i64 k)) (first |go_keep|(refine⟨?_,?_⟩<;>exact cell_later G (by simp[*]))) ((go_at_call 226;refine (fO _ 4 k _ v HV.out (O.out.sz hs 4 (by decide)) k1 k2 (O.out.fl 4 (by decide))).mono ?_;rintro e w6 ⟨rfl,G⟩))
 rename Below _ _ _=>G
 have ag:Below w5.heap.size w5 w6:=(Below.refl _ _).drew.trans G;have bh:=Hq (ax.out.later ag);have C6:Hid (∀(t:Nat),t<5→w6.cell? ⟨b,t,none⟩=some (.string (pt s t))):=fun t Q=>cell_later ag (C5.out t Q)
 have B6:Hid (Below w.heap.size w w6):=B5.out.trans (ag.mono (Nat.le_of_lt aF));have bg:w.heap.size<w6.heap.size:=Nat.lt_of_lt_of_le aF ag.size;clear G ag C5 ax c5 V Y Z q3 q4 U HV;have p2:0<(pt s 2).size:=lQ (ge _).1 (O.out.fl 2 (by decide))
 have p4:0<(pt s 4).size:=lQ (ge _).1 (O.out.fl 4 (by decide))
 have e2:=C6.out 2 (by decide)
 have e4:=C6.out 4 (by decide)
 cases ad:Txt.opn (pt s 2)
 ·have g2:(((pt s 2)[0].toNat:Int)==42)=false:=by rw[←Txt.opn_at p2];exact ad
  cases ai:Txt.opn (pt s 4)
  ·have g4:(((pt s 4)[0].toNat:Int)==42)=false:=by rw[←Txt.opn_at p4];exact ai
   have D:Hid ((u||v)=dueB s m d h i k):=by unfold Hid;rw[J.out,ad,ai];rfl
   clear J
   cases u
   ·go_wp2_with fail;go_ret;exact⟨dy D.out,B6.out⟩
   ·go_wp2_with fail;go_ret;exact⟨dy D.out,B6.out⟩
  ·have g4:(((pt s 4)[0].toNat:Int)==42)=true:=by rw[←Txt.opn_at p4];exact ai
   have D:Hid ((u&&v)=dueB s m d h i k):=by unfold Hid;rw[J.out,ad,ai];rfl
   clear J
   cases u
   ·go_wp2_with fail;go_ret;exact⟨dy D.out,B6.out⟩
   ·go_wp2_with fail;go_ret;exact⟨dy D.out,B6.out⟩
 ·have g2:(((pt s 2)[0].toNat:Int)==42)=true:=by rw[←Txt.opn_at p2];exact ad
  have D:Hid ((u&&v)=dueB s m d h i k):=by unfold Hid;rw[J.out,ad];rfl
  clear J
  cases u
  ·go_wp2_with fail;go_ret;exact⟨dy D.out,B6.out⟩
  ·go_wp2_with fail;go_ret;exact⟨dy D.out,B6.out⟩
end Go.Proofs.YtdajolpoiffimabGreatDoor

namespace Go.Proofs.YtdajolpoiffimabGreatDoor
open Go.RowKit
set_option maxHeartbeats 400000 in
theorem sg (y m d h i k:Int) (w:World) (I:0≤i) (J:i<59):
 Calls Tryz.prog 223 #[dateV y m d h i k] w fun e G=>e=.returned (dateV y m d h (i+1) k)∧Below w.heap.size w G:=by
 have q:i+1<60:=by omega
 go_enter Tryz.func223,Tryz.ntmps223
 go_wp2_with fail;exact bodyPost_ret (v:=dateV y m d h (i+1) k) (by simp[results,Tryz.results223,go_sem]) rfl ⟨rfl,(cw _ _).alloc (by simp) _⟩
set_option maxHeartbeats 400000 in
theorem rF (y m d h i k:Int) (w:World) (h1:0≤h) (hd:h<23) (hi:i=59):
 Calls Tryz.prog 223 #[dateV y m d h i k] w fun e G=>e=.returned (dateV y m d (h+1) 0 k)∧Below w.heap.size w G:=by
 have q:h+1<24:=by omega
 subst hi
 go_enter Tryz.func223,Tryz.ntmps223
 go_wp2_with fail;exact bodyPost_ret (v:=dateV y m d (h+1) 0 k) (by simp[results,Tryz.results223,go_sem]) rfl ⟨rfl,(cw _ _).alloc (by simp) _⟩
structure AftIn (w W:World) (y m d k:Int):Prop where
 bel:Below w.heap.size w W
 D:DateAt W w.heap.size y m d 0 0 k
 E:DateAt W (w.heap.size+1) 0 0 0 0 0 0
 f:∀j:Nat,j<6→W.frozen? ⟨w.heap.size,j,none⟩=false∧W.frozen? ⟨w.heap.size+1,j,none⟩=false
theorem jt (w:World) (y m d k:Int) (t:TypeId) (n:Nat):AftIn w (((w.alloc (.cells #[.int .i64 y,.int .i64 m,.int .i64 d,.int .i64 0,.int .i64 0,.int .i64 k] t)).alloc (.cells #[.int .i64 0,.int .i64 0,.int .i64 0,.int .i64 0,.int .i64 0,.int .i64 0] t)).drewN n) y m d k:=
 ⟨below_drewN ((cw _ _).alloc (by simp) _) _,by simp[DateAt,go_sem],by simp[DateAt,go_sem],fun j _=>⟨by simp[go_sem],by simp[go_sem]⟩⟩
set_option maxHeartbeats 1000000 in
theorem ru (y m d h i k:Int) (w:World) (y1:0≤y) (y2:y≤20000) (d1:1≤d) (k1:0≤k) (k2:k≤6) (O:h=23) (hi:i=59) (he:d<Cal.dim y m) (hd:Cal.dim y m≤31):
 Calls Tryz.prog 223 #[dateV y m d h i k] w fun e V=>e=.returned (dateV y m (d+1) 0 0 ((k+1) % 7))∧Below w.heap.size w V:=by
 have q:d+1≤Cal.dim y m:=by omega
 subst hi;subst O
 go_enter Tryz.func223,Tryz.ntmps223
 go_wp2_with fail
 go_quiet ((go_at_call 227;exact Calls.quiet_of_same (eJ _ _ _ (by omega) (by omega))))
 have A:=jt w y m (d+1) ((k+1) % 7) 194 nq;generalize ((w.alloc (.cells #[.int .i64 y,.int .i64 m,.int .i64 (d+1),.int .i64 0,.int .i64 0,.int .i64 ((k+1) % 7)] 194)).alloc (.cells #[.int .i64 0,.int .i64 0,.int .i64 0,.int .i64 0,.int .i64 0,.int .i64 0] 194)).drewN nq=W at *;obtain⟨bel,⟨c0,c1,c2,c3,c4,c5⟩,⟨r0,r1,G,I,U,J⟩,f⟩:=A;have Q:=Hq bel;obtain⟨f0,g0⟩:=f 0 (by decide)
 obtain⟨f1,Y⟩:=f 1 (by decide)
 obtain⟨f2,g2⟩:=f 2 (by decide)
 obtain⟨f3,g3⟩:=f 3 (by decide)
 obtain⟨f4,Z⟩:=f 4 (by decide)
 obtain⟨f5,g5⟩:=f 5 (by decide)
 clear bel f;go_wp2_with fail;refine bodyPost_ret (v:=dateV y m (d+1) 0 0 ((k+1) % 7)) (by simp[results,Tryz.results223,go_sem,r0,r1,G,I,U,J]) rfl ⟨rfl,?_⟩
 repeat (refine Below.setCell ?_ (by simp) _)
 exact Q.out
set_option maxHeartbeats 1000000 in
theorem sr (y m d h i k:Int) (w:World) (y1:0≤y) (y2:y≤20000) (d1:1≤d) (k1:0≤k) (k2:k≤6) (O:h=23) (hi:i=59) (V:d=Cal.dim y m) (m1:1≤m) (hf:m<12) (hd:Cal.dim y m≤31):
 Calls Tryz.prog 223 #[dateV y m d h i k] w fun e Y=>e=.returned (dateV y (m+1) 1 0 0 ((k+1) % 7))∧Below w.heap.size w Y:=by
 have q:¬d+1≤Cal.dim y m:=by omega
 have d2:d≤31:=by omega
 clear V;have q2:¬12<m+1:=by omega
 subst hi;subst O
 go_enter Tryz.func223,Tryz.ntmps223
 go_wp2_with fail
 go_quiet ((go_at_call 227;exact Calls.quiet_of_same (eJ _ _ _ (by omega) (by omega))))
 have A:=jt w y m (d+1) ((k+1) % 7) 194 nq;generalize ((w.alloc (.cells #[.int .i64 y,.int .i64 m,.int .i64 (d+1),.int .i64 0,.int .i64 0,.int .i64 ((k+1) % 7)] 194)).alloc (.cells #[.int .i64 0,.int .i64 0,.int .i64 0,.int .i64 0,.int .i64 0,.int .i64 0] 194)).drewN nq=W at *;obtain⟨bel,⟨c0,c1,c2,c3,c4,c5⟩,⟨r0,r1,G,I,U,J⟩,f⟩:=A;have Q:=Hq bel;obtain⟨f0,g0⟩:=f 0 (by decide)
 obtain⟨f1,Z⟩:=f 1 (by decide)
 obtain⟨f2,g2⟩:=f 2 (by decide)
 obtain⟨f3,g3⟩:=f 3 (by decide)
 obtain⟨f4,g4⟩:=f 4 (by decide)
 obtain⟨f5,g5⟩:=f 5 (by decide)
 clear bel f;go_wp2_with fail;refine bodyPost_ret (v:=dateV y (m+1) 1 0 0 ((k+1) % 7)) (by simp[results,Tryz.results223,go_sem,r0,r1,G,I,U,J]) rfl ⟨rfl,?_⟩
 repeat (refine Below.setCell ?_ (by simp) _)
 exact Q.out
set_option maxHeartbeats 1000000 in
theorem rT (y m d h i k:Int) (w:World) (y1:0≤y) (y2:y≤20000) (d1:1≤d) (k1:0≤k) (k2:k≤6) (U:h=23) (hi:i=59) (V:d=Cal.dim y m) (m1:12≤m) (hf:m≤12) (hd:Cal.dim y m≤31):
 Calls Tryz.prog 223 #[dateV y m d h i k] w fun e Y=>e=.returned (dateV (y+1) 1 1 0 0 ((k+1) % 7))∧Below w.heap.size w Y:=by
 have q:¬d+1≤Cal.dim y m:=by omega
 have d2:d≤31:=by omega
 clear V;have Z:12<m+1:=by omega
 subst hi;subst U
 go_enter Tryz.func223,Tryz.ntmps223
 go_wp2_with fail
 go_quiet ((go_at_call 227;exact Calls.quiet_of_same (eJ _ _ _ (by omega) (by omega))))
 have A:=jt w y m (d+1) ((k+1) % 7) 194 nq;generalize ((w.alloc (.cells #[.int .i64 y,.int .i64 m,.int .i64 (d+1),.int .i64 0,.int .i64 0,.int .i64 ((k+1) % 7)] 194)).alloc (.cells #[.int .i64 0,.int .i64 0,.int .i64 0,.int .i64 0,.int .i64 0,.int .i64 0] 194)).drewN nq=W at *;obtain⟨bel,⟨c0,c1,c2,c3,c4,c5⟩,⟨r0,r1,Q,J,O,G⟩,f⟩:=A;have I:=Hq bel;obtain⟨f0,g0⟩:=f 0 (by decide)
 obtain⟨f1,g1⟩:=f 1 (by decide)
 obtain⟨f2,g2⟩:=f 2 (by decide)
 obtain⟨f3,g3⟩:=f 3 (by decide)
 obtain⟨f4,g4⟩:=f 4 (by decide)
 obtain⟨f5,g5⟩:=f 5 (by decide)
 clear bel f
 have q1:(((W.setCell ⟨w.heap.size,2,none⟩ (.int .i64 1)).setCell ⟨w.heap.size,1,none⟩ (.int .i64 (m+1))).setCell ⟨w.heap.size,1,none⟩ (.int .i64 1)).cell? ⟨w.heap.size,1,none⟩=some (.int .i64 1):=
  World.cell?_setCell_same' _ _ _ (by rw[World.cell?_setCell_same' _ _ _ (by rw[World.cell?_setCell_other _ _ _ _ (by simp),c1];rfl)];rfl)
 go_wp2_with fail;refine bodyPost_ret (v:=dateV (y+1) 1 1 0 0 ((k+1) % 7)) (by simp[results,Tryz.results223,go_sem,r0,r1,Q,J,O,G]) rfl ⟨rfl,?_⟩
 repeat (refine Below.setCell ?_ (by simp) _)
 exact I.out
end Go.Proofs.YtdajolpoiffimabGreatDoor

namespace Go.Proofs.YtdajolpoiffimabGreatDoor
open Go.RowKit
abbrev stV (s:Bx.St) (sl en:Value):Value:=.agg #[.string s.tab,.int .i64 s.clock,.int .i64 s.next,sl,en]
structure StAt (w:World) (s:Bx.St) (sl en:Value):Prop where
 sl:TRow w 218 sl s.slots.length (s.slots.flatMap slC)
 en:TRow w 85 en s.ends.length (s.ends.flatMap enC)
theorem StAt.set {w:World} {s:Bx.St} {sl en:Value} (h:StAt w s sl en) {g:Nat} {e:TypeId} (d:Typed w g e) (h1:218≠e) (h2:85≠e) (o:Nat) (u:Value):StAt (w.setCell ⟨g,o,none⟩ u) s sl en:=⟨h.sl.set d h1 o u,h.en.set d h2 o u⟩
theorem StAt.later {w d:World} {s:Bx.St} {sl en:Value} (h:StAt w s sl en) (hb:Below w.heap.size w d):StAt d s sl en:=⟨h.sl.later hb,h.en.later hb⟩
abbrev stO (s:Bx.St) (sl en:Value):Obj:=.cells #[.string s.tab,.int .i64 s.clock,.int .i64 s.next,sl,en] 130
structure StIn (W:World) (q:Nat) (s:Bx.St) (sl en:Value):Prop where
 c0:W.cell? ⟨q,0,none⟩=some (.string s.tab)
 c1:W.cell? ⟨q,1,none⟩=some (.int .i64 s.clock)
 c2:W.cell? ⟨q,2,none⟩=some (.int .i64 s.next)
 c3:W.cell? ⟨q,3,none⟩=some sl
 c4:W.cell? ⟨q,4,none⟩=some en
theorem StIn.new (w:World) (s:Bx.St) (sl en:Value):StIn (w.alloc (stO s sl en)) w.heap.size s sl en:=⟨by simp[go_sem],by simp[go_sem],by simp[go_sem],by simp[go_sem],by simp[go_sem]⟩
theorem StIn.later {W W':World} {q:Nat} {s:Bx.St} {sl en:Value} (h:StIn W q s sl en) (hb:Below W.heap.size W W'):StIn W' q s sl en:=
 ⟨cell_later hb h.c0,cell_later hb h.c1,cell_later hb h.c2,cell_later hb h.c3,cell_later hb h.c4⟩
theorem o6 {l:List Bx.Sl} {n:Int} {k:Nat} (h:k<l.length) (e:(l[k].num==n)=true):Bx.findK l n (k+1)=k:=by
 have:l[k].num=n:=by simpa using e
 simp[Bx.findK,h,this]
theorem mn {l:List Bx.Sl} {n:Int} {k:Nat} (h:k<l.length) (e:(l[k].num==n)=false):Bx.findK l n (k+1)=Bx.findK l n k:=by
 have:¬l[k].num=n:=by simpa using e
 simp[Bx.findK,h,this]
set_option maxHeartbeats 1000000 in
theorem eW (s:Bx.St) (n:Int) (sl en:Value) (w:World) (hl:s.slots.length≤10000) (hS:StAt w s sl en):
 Calls Tryz.prog 114 #[stV s sl en,.int .i64 n] w fun e w'=>e=.returned (.int .i64 (Bx.find s n))∧Below w.heap.size w w':=by
 obtain⟨V,O,rfl,ai⟩:=hS.sl.form;obtain⟨I,d,rfl,ae⟩:=hS.en.form;have Q:=Hq hS.sl.1;clear hS
 go_enter Tryz.func114,Tryz.ntmps114
 go_wp2_with fail;have J:=cw w (stO s (.slice V s.slots.length O) (.slice I s.ends.length d));have hI:=StIn.new w s (.slice V s.slots.length O) (.slice I s.ends.length d);have U:=Q.out.later J;clear Q;generalize w.alloc (stO s (.slice V s.slots.length O) (.slice I s.ends.length d))=W at *;have Q:=Hq U;have HB:=Hq J;have c3:=hI.c3;clear hI U J
 go_loop [5,6] (fun a i=>∃k:Nat,k≤s.slots.length∧i=.int .i64 k∧a=.int .i64 (Bx.findK s.slots n k)) (fun _ i=>s.slots.length-(intOf i).toNat)
 case atStart=>exact⟨0,Nat.zero_le _,rfl,rfl⟩
 case round=>
  obtain⟨k,hk,rfl,rfl⟩:=hrel
  by_cases G:k<s.slots.length
  ·obtain⟨b,ab,ag,hv,_,Z⟩:=Q.out.some' (by omega)
   cases hv
   have c0:W.cell? ⟨b,ab+k*6,none⟩=some (.int .i64 s.slots[k].num):=RowAt.cell eo Z k G 0 (by decide)
   clear Z;have b1:(0:Int)≤(k:Int):=by omega
   have b2:(k:Int)<(s.slots.length:Int):=by omega
   cases he:(s.slots[k].num==n)
   ·have Y:Hid (Bx.findK s.slots n (k+1)=Bx.findK s.slots n k):=mn G he;generalize s.slots[k].num=x at *;go_wp2_with fail
    go_round
    case rel=>exact⟨k+1,by omega,by go_num,by rw[Y.out]⟩
    case measure=>simp[intOf];omega
   ·have Y:Hid (Bx.findK s.slots n (k+1)=k):=o6 G he;generalize s.slots[k].num=x at *;go_wp2_with fail
    go_round
    case rel=>exact⟨k+1,by omega,by go_num,by rw[Y.out]⟩
    case measure=>simp[intOf];omega
  ·obtain rfl:k=s.slots.length:=by omega
   go_wp2_with fail;go_ret;exact⟨rfl,HB.out⟩
end Go.Proofs.YtdajolpoiffimabGreatDoor

namespace Go.Proofs.YtdajolpoiffimabGreatDoor
open Go.RowKit
set_option maxHeartbeats 1000000 in
theorem ew (s:ByteArray) (w:World) (I:s.size≤300) (d:LineP s):
 Calls Tryz.prog 202 #[.string s] w fun e J=>e=.returned (.tuple #[.bool (ob s 0==120),.int .u8 (ob s 1),.int .i64 (ob s 2-48)])∧Below w.heap.size w J:=by
 obtain⟨V,_,_,o1,o2⟩:=iY d;have Z:=d.n7;have U:=d.n11;clear d
 go_enter Tryz.func202,Tryz.ntmps202
 go_wp2_with fail;refine (eN _ _ _ I).mono ?_;rintro e w1 ⟨⟨b,O,rfl,Q,G,hS⟩,hb⟩;have c:w1.cell? ⟨b,5,none⟩=some (.string (pt s 5)):=by rw[←eM (by omega)];exact hS 5 (by omega)
 clear hS;have e0:=ie (s:=s) (i:=0) (by omega)
 have Y:=ie (s:=s) (i:=1) (by omega)
 have e2:=ie (s:=s) (i:=2) (by omega)
 go_wp2_with fail
 go_quiet (fail)
 go_wp2_with fail
 go_ret3
 exact⟨rfl,below_drewN hb _⟩
set_option maxHeartbeats 1000000 in
theorem jG (s:Bx.St) (m:Int) (sl en:Value) (w:World) (ad: -1≤s.clock) (aa:s.clock≤4223371679) (hS:StAt w s sl en):
 Calls Tryz.prog 145 #[stV s sl en,.int .i64 m] w fun e w'=>e=.returned (.bool (Bx.ahead s m))∧Below w.heap.size w w':=by
 obtain⟨U,O,rfl,ah⟩:=hS.sl.form;obtain⟨V,J,rfl,af⟩:=hS.en.form;clear hS;obtain⟨a,Z⟩:∃a:Bool,a=Bx.ahead s m:=⟨_,rfl⟩;have G:Hid (a=decide (0≤m∧m≤4223371679∧s.clock<m∧(s.clock= -1∨m-s.clock≤1500))):=Z;rw[←Z];clear Z
 go_enter Tryz.func145,Tryz.ntmps145
 go_wp2_with fail;refine (fM _ _).mono ?_;rintro e w1 ⟨rfl,rfl⟩;have I:Hid (Below w.heap.size w _):=cw w (stO s (.slice U s.slots.length O) (.slice V s.ends.length J));have hI:=StIn.new w s (.slice U s.slots.length O) (.slice V s.ends.length J);generalize w.alloc (stO s (.slice U s.slots.length O) (.slice V s.ends.length J))=W at *;have c1:=hI.c1;clear hI;obtain⟨t,ht⟩:∃t:Int,t=s.clock:=⟨_,rfl⟩;rw[←ht] at G c1 ad aa;clear ht
 by_cases h1:0≤m∧m≤4223371679
 ·rw[gw h1.1 h1.2];obtain⟨h1,h2⟩:=h1
  by_cases Y:t<m
  ·have q3:decide (t<m)=true:=decide_eq_true Y
   by_cases Q:t= -1
   ·have d:Hid (a=true):=by rw[G.out];exact decide_eq_true ⟨h1,h2,Y,Or.inl Q⟩
    have q4:(t== -1)=true:=by simpa using Q
    clear Q G;go_wp2_with fail;go_ret;exact⟨dy d.out.symm,I.out⟩
   ·have q4:(t== -1)=false:=by simpa using Q
    have q5:IntKind.i64.wrap (m-t)=m-t:=by rw[IntKind.wrap_i64];omega
    by_cases h5:m-t≤1500
    ·have d:Hid (a=true):=by rw[G.out];exact decide_eq_true ⟨h1,h2,Y,Or.inr h5⟩
     clear Q G;go_wp2_with fail;go_ret;exact⟨dy d.out.symm,I.out⟩
    ·have d:Hid (decide (m-t≤1500)=a):=by rw[G.out,decide_eq_false h5];exact (decide_eq_false (by omega)).symm
     clear Q G;go_wp2_with fail;go_ret;exact⟨dy d.out,I.out⟩
  ·have q3:decide (t<m)=false:=decide_eq_false Y;have d:Hid (a=false):=by rw[G.out];exact decide_eq_false (by omega)
   clear G;go_wp2_with fail;go_ret;exact⟨dy d.out.symm,I.out⟩
 ·rw[ii (by omega)]
  have d:Hid (a=false):=by rw[G.out];exact decide_eq_false (by omega)
  clear G h1;go_wp2_with fail;go_ret;exact⟨dy d.out.symm,I.out⟩
end Go.Proofs.YtdajolpoiffimabGreatDoor

namespace Go.Proofs.YtdajolpoiffimabGreatDoor
open Go.RowKit
theorem fN:(Tryz.prog.info? 218).map (fun i=>(i.zero,i.size,i.bytes))=some (some (.agg #[.int .i64 0,.int .i64 0,.int .i64 0,.int .i64 0,.int .i64 0,.bool false]),6,48):=by kernel_rfl
theorem oC {l:List Bx.Sl} {a:Int} {k:Nat} (e:((k:Int)==a)=true):Bx.skipK l a (k+1)=Bx.skipK l a k:=by
 have:(k:Int)=a:=by simpa using e
 simp[Bx.skipK,this]
theorem m6 {l:List Bx.Sl} {a:Int} {k:Nat} (h:k<l.length) (e:((k:Int)==a)=false):Bx.skipK l a (k+1)=Bx.skipK l a k++[l[k]]:=by
 have:¬(k:Int)=a:=by simpa using e
 simp[Bx.skipK,this,h]
theorem fJ {w:World} {G d:Nat} {e:TypeId} {size:Nat} {v:Value} {n:Nat} {J:List Value} (h:w.ownsRow G e size v n J) (hb:d≤G):w.ownsRow d e size v n J:=by
 refine⟨h.1,?_⟩
 rcases h.2 with h2|⟨g,I,cur,Q,hbase,O⟩
 ·exact Or.inl h2
 ·exact Or.inr ⟨g,I,cur,Q,Nat.le_trans hb hbase,O⟩
theorem dS {w:World} {L:List Bx.Sl} {b d:Nat} (c:∀j (h:j<(L.flatMap slC).length),w.cell? ⟨b,d+j,none⟩=some (L.flatMap slC)[j]) (i:Nat) (hi:i<L.length):
 w.cell? ⟨b,d+i*6,none⟩=some (.int .i64 L[i].num)∧w.cell? ⟨b,d+i*6+1,none⟩=some (.int .i64 L[i].line)∧w.cell? ⟨b,d+i*6+2,none⟩=some (.int .i64 L[i].minute)∧
 w.cell? ⟨b,d+i*6+3,none⟩=some (.int .i64 L[i].att)∧w.cell? ⟨b,d+i*6+4,none⟩=some (.int .i64 L[i].frm)∧w.cell? ⟨b,d+i*6+5,none⟩=some (.bool L[i].runs):=
 ⟨RowAt.cell eo c i hi 0 (by decide),RowAt.cell eo c i hi 1 (by decide),RowAt.cell eo c i hi 2 (by decide),RowAt.cell eo c i hi 3 (by decide),RowAt.cell eo c i hi 4 (by decide),RowAt.cell eo c i hi 5 (by decide)⟩
theorem e9 (w:World) (x:Bx.Sl) (t:TypeId):∀j u,(slC x)[j]? =some u→(w.alloc (.cells #[.int .i64 x.num,.int .i64 x.line,.int .i64 x.minute,.int .i64 x.att,.int .i64 x.frm,.bool x.runs] t)).cell? ((⟨w.heap.size,0,none⟩:Addr).add j)=some u:=by
 intro j u d
 match j,d with
 | 0,d=>simp[slC] at d;subst d;simp[Addr.add,go_sem]
 | 1,d=>simp[slC] at d;subst d;simp[Addr.add,go_sem]
 | 2,d=>simp[slC] at d;subst d;simp[Addr.add,go_sem]
 | 3,d=>simp[slC] at d;subst d;simp[Addr.add,go_sem]
 | 4,d=>simp[slC] at d;subst d;simp[Addr.add,go_sem]
 | 5,d=>simp[slC] at d;subst d;simp[Addr.add,go_sem]
theorem fe (x:Bx.Sl):∀u∈slC x,u.oneCell'=true:=by
 intro u d;simp[slC] at d;rcases d with rfl|rfl|rfl|rfl|rfl|rfl<;>rfl
set_option maxHeartbeats 1000000 in
theorem fu (s:Bx.St) (a:Int) (sl en:Value) (w:World) (hl:s.slots.length≤10000) (hS:StAt w s sl en):
 Calls Tryz.prog 216 #[stV s sl en,.int .i64 a] w fun e w'=>(∃v,e=.returned v∧w'.ownsRow w.heap.size 218 6 v (Bx.withoutL s.slots a).length ((Bx.withoutL s.slots a).flatMap slC))∧Below w.heap.size w w':=by
 obtain⟨i0,hi,aq,am,ar⟩:=info_parts fN;obtain⟨Z,Q,rfl,aF⟩:=hS.sl.form;obtain⟨O,I,rfl,aw⟩:=hS.en.form;have HR:=Hq hS.sl.1;clear hS
 go_enter Tryz.func216,Tryz.ntmps216
 go_wp2_with fail;have Y:=cw w (stO s (.slice Z s.slots.length Q) (.slice O s.ends.length I));have hI:=StIn.new w s (.slice Z s.slots.length Q) (.slice O s.ends.length I);have hq:w.heap.size<(w.alloc (stO s (.slice Z s.slots.length Q) (.slice O s.ends.length I))).heap.size:=by simp
 generalize w.alloc (stO s (.slice Z s.slots.length Q) (.slice O s.ends.length I))=W at *;have HB:=Hq Y;have ah:=Hq (HR.out.later Y);have HI:=Hq hI;clear hI Y
 go_loopw [5,6] (fun v i wr=>∃k:Nat,k≤s.slots.length∧i=.int .i64 k∧wr.ownsRow W.heap.size 218 6 v (Bx.skipK s.slots a k).length ((Bx.skipK s.slots a k).flatMap slC)∧Below W.heap.size W wr) (fun _ i _=>s.slots.length-(intOf i).toNat)
 case atStart=>exact⟨0,Nat.zero_le _,rfl,World.ownsRow_nil _ _ _ _,Below.refl _ _⟩
 case round=>
  obtain⟨k,hk,rfl,d,G⟩:=hrel;have al:=G.size;have c3:=(HI.out.later G).c3
  by_cases ab:k<s.slots.length
  ·obtain⟨b,aG,aA,hv,_,hc⟩:=(ah.out.later G).some' (by omega)
   cases hv
   obtain⟨d0,d1,d2,d3,d4,d5⟩:=dS hc k ab;clear hc;have b1:(0:Int)≤(k:Int):=by omega
   have b2:(k:Int)<(s.slots.length:Int):=by omega
   cases V:((k:Int)==a)
   ·have HF:Hid (Bx.skipK s.slots a (k+1)=Bx.skipK s.slots a k++[s.slots[k]]):=m6 ab V;have hn:=Bx.skipK_len s.slots a k;have ag:((k:Int) !=a)=true:=by simp[bne,V]
    clear V;generalize s.slots[k]=x at *;generalize Bx.skipK s.slots a k=L at *;go_wp2_with (at_builtin;refine wpList_append_lies _ rfl (.tmp 17) (.tmp 23) 128 rfl W.heap.size 218 i0 (.agg #[.int .i64 0,.int .i64 0,.int .i64 0,.int .i64 0,.int .i64 0,.bool false]) 6 48 Tryz.underlying128 hi aq am ar rfl (by decide) _ _ _ rfl (d.alloc _) ⟨wr.heap.size,0,none⟩ 1 1 (slC x) rfl rfl (e9 _ _ _) (fe x) (by decide) ?c3 ?c4 ?c5 _ rfl ?_)
    case c3=>unfold maxLen;omega
    case c4=>omega
    case c5=>simp;omega
    ·intro g ac w1 J U _ aB;have B1:Below W.heap.size W w1:=(G.alloc al _).grown U (by simp;omega) (fun k' e=>(d.lt k' e).1)
     have aa:w1.ownsRow W.heap.size 218 6 (.slice (some ⟨g,0,none⟩) (L.length+1) ac) (L++[x]).length ((L++[x]).flatMap slC):=by simpa using J
     clear J U d G d0 d1 d2 d3 d4 d5 c3;go_wp2_with fail;go_roundw
     case rel=>exact⟨k+1,by omega,by go_num,by rw[HF.out];exact aa,B1⟩
     case measure=>simp[intOf];omega
   ·have HF:Hid (Bx.skipK s.slots a (k+1)=Bx.skipK s.slots a k):=oC V;clear d0 d1 d2 d3 d4 d5;have ag:((k:Int) !=a)=false:=by simp[bne,V]
    clear V;go_wp2_with fail;go_roundw
    case rel=>exact⟨k+1,by omega,by go_num,by rw[HF.out];exact d,G⟩
    case measure=>simp[intOf];omega
  ·obtain rfl:k=s.slots.length:=by omega
   go_wp2_with fail;go_ret;exact⟨⟨_,rfl,fJ d (by omega)⟩,HB.out.trans (G.mono HB.out.size)⟩
abbrev slV (x:Bx.Sl):Value:=.agg #[.int .i64 x.num,.int .i64 x.line,.int .i64 x.minute,.int .i64 x.att,.int .i64 x.frm,.bool x.runs]
abbrev slO (x:Bx.Sl):Obj:=.cells #[.int .i64 x.num,.int .i64 x.line,.int .i64 x.minute,.int .i64 x.att,.int .i64 x.frm,.bool x.runs] 218
theorem qX {l:List Bx.Sl} {a:Int} {x:Bx.Sl} {k:Nat} (e:((k:Int)==a)=true):Bx.putK l a x (k+1)=Bx.putK l a x k++[x]:=by
 have:(k:Int)=a:=by simpa using e
 simp[Bx.putK,this]
theorem nI {l:List Bx.Sl} {a:Int} {x:Bx.Sl} {k:Nat} (h:k<l.length) (e:((k:Int)==a)=false):Bx.putK l a x (k+1)=Bx.putK l a x k++[l[k]]:=by
 have:¬(k:Int)=a:=by simpa using e
 simp[Bx.putK,this,h]
structure SlIn (W:World) (q:Nat) (x:Bx.Sl):Prop where
 c0:W.cell? ⟨q,0,none⟩=some (.int .i64 x.num)
 c1:W.cell? ⟨q,1,none⟩=some (.int .i64 x.line)
 c2:W.cell? ⟨q,2,none⟩=some (.int .i64 x.minute)
 c3:W.cell? ⟨q,3,none⟩=some (.int .i64 x.att)
 c4:W.cell? ⟨q,4,none⟩=some (.int .i64 x.frm)
 c5:W.cell? ⟨q,5,none⟩=some (.bool x.runs)
theorem SlIn.new (w:World) (x:Bx.Sl):SlIn (w.alloc (slO x)) w.heap.size x:=⟨by simp[go_sem],by simp[go_sem],by simp[go_sem],by simp[go_sem],by simp[go_sem],by simp[go_sem]⟩
theorem SlIn.later {W W':World} {q:Nat} {x:Bx.Sl} (h:SlIn W q x) (hb:Below W.heap.size W W'):SlIn W' q x:=
 ⟨cell_later hb h.c0,cell_later hb h.c1,cell_later hb h.c2,cell_later hb h.c3,cell_later hb h.c4,cell_later hb h.c5⟩
set_option maxHeartbeats 2000000 in
theorem ju (s:Bx.St) (a:Int) (x:Bx.Sl) (sl en:Value) (w:World) (hl:s.slots.length≤10000) (hS:StAt w s sl en):
 Calls Tryz.prog 173 #[stV s sl en,.int .i64 a,slV x] w fun e w'=>(∃v,e=.returned v∧w'.ownsRow w.heap.size 218 6 v (Bx.putL s.slots a x).length ((Bx.putL s.slots a x).flatMap slC))∧Below w.heap.size w w':=by
 obtain⟨i0,hi,ag,ae,ah⟩:=info_parts fN;obtain⟨Z,U,rfl,aH⟩:=hS.sl.form;obtain⟨Q,O,rfl,aB⟩:=hS.en.form;have HR:=Hq hS.sl.1;clear hS
 go_enter Tryz.func173,Tryz.ntmps173
 go_wp2_with fail;have aa:=(cw w (stO s (.slice Z s.slots.length U) (.slice Q s.ends.length O))).alloc (by simp) (slO x)
 have hI:=(StIn.new w s (.slice Z s.slots.length U) (.slice Q s.ends.length O)).later (cw _ (slO x));have hX:=SlIn.new (w.alloc (stO s (.slice Z s.slots.length U) (.slice Q s.ends.length O))) x;have af:SlIn ((w.alloc (stO s (.slice Z s.slots.length U) (.slice Q s.ends.length O))).alloc (slO x)) (w.heap.size+1) x:=by simpa using hX
 have hq:w.heap.size+1<((w.alloc (stO s (.slice Z s.slots.length U) (.slice Q s.ends.length O))).alloc (slO x)).heap.size:=by simp
 clear hX;generalize (w.alloc (stO s (.slice Z s.slots.length U) (.slice Q s.ends.length O))).alloc (slO x)=W at *;have HB:=Hq aa;have au:=Hq (HR.out.later aa);have HI:=Hq hI;have HX:=Hq af;clear hI aa af
 go_loopw [7,8] (fun v i wr=>∃k:Nat,k≤s.slots.length∧i=.int .i64 k∧wr.ownsRow W.heap.size 218 6 v (Bx.putK s.slots a x k).length ((Bx.putK s.slots a x k).flatMap slC)∧Below W.heap.size W wr) (fun _ i _=>s.slots.length-(intOf i).toNat)
 case atStart=>exact⟨0,Nat.zero_le _,rfl,World.ownsRow_nil _ _ _ _,Below.refl _ _⟩
 case round=>
  obtain⟨k,hk,rfl,d,I⟩:=hrel;have ac:=I.size;have c3:=(HI.out.later I).c3
  by_cases ab:k<s.slots.length
  ·have b1:(0:Int)≤(k:Int):=by omega
   have b2:(k:Int)<(s.slots.length:Int):=by omega
   have hn:=Bx.putK_len s.slots a x k
   cases he:((k:Int)==a)
   ·have HF:Hid (Bx.putK s.slots a x (k+1)=Bx.putK s.slots a x k++[s.slots[k]]):=nI ab he;obtain⟨b,aI,aE,hv,_,hc⟩:=(au.out.later I).some' (by omega)
    cases hv
    obtain⟨d0,d1,d2,d3,d4,d5⟩:=dS hc k ab;clear hc;generalize s.slots[k]=y at *;generalize Bx.putK s.slots a x k=L at *;go_wp2_with (at_builtin;refine wpList_append_lies _ rfl (.tmp 23) (.tmp 29) 128 rfl W.heap.size 218 i0 (.agg #[.int .i64 0,.int .i64 0,.int .i64 0,.int .i64 0,.int .i64 0,.bool false]) 6 48 Tryz.underlying128 hi ag ae ah rfl (by decide) _ _ _ rfl (d.alloc _) ⟨wr.heap.size,0,none⟩ 1 1 (slC y) rfl rfl (e9 _ _ _) (fe y) (by decide) ?c3 ?c4 ?c5 _ rfl ?_)
    case c3=>unfold maxLen;omega
    case c4=>omega
    case c5=>simp;omega
    ·intro g Y w1 G J _ ak;have B1:Below W.heap.size W w1:=(I.alloc ac _).grown J (by simp;omega) (fun k' e=>(d.lt k' e).1)
     have V:w1.ownsRow W.heap.size 218 6 (.slice (some ⟨g,0,none⟩) (L.length+1) Y) (L++[y]).length ((L++[y]).flatMap slC):=by simpa using G
     clear G J d I d0 d1 d2 d3 d4 d5 c3;go_wp2_with fail;go_roundw
     case rel=>exact⟨k+1,by omega,by go_num,by rw[HF.out];exact V,B1⟩
     case measure=>simp[intOf];omega
   ·have HF:Hid (Bx.putK s.slots a x (k+1)=Bx.putK s.slots a x k++[x]):=qX he;obtain⟨d0,d1,d2,d3,d4,d5⟩:=HX.out.later I;generalize Bx.putK s.slots a x k=L at *;go_wp2_with (at_builtin;refine wpList_append_lies _ rfl (.tmp 19) (.tmp 21) 128 rfl W.heap.size 218 i0 (.agg #[.int .i64 0,.int .i64 0,.int .i64 0,.int .i64 0,.int .i64 0,.bool false]) 6 48 Tryz.underlying128 hi ag ae ah rfl (by decide) _ _ _ rfl (d.alloc _) ⟨wr.heap.size,0,none⟩ 1 1 (slC x) rfl rfl (e9 _ _ _) (fe x) (by decide) ?c3 ?c4 ?c5 _ rfl ?_)
    case c3=>unfold maxLen;omega
    case c4=>omega
    case c5=>simp;omega
    ·intro g Y w1 G J _ ak;have B1:Below W.heap.size W w1:=(I.alloc ac _).grown J (by simp;omega) (fun k' e=>(d.lt k' e).1)
     have V:w1.ownsRow W.heap.size 218 6 (.slice (some ⟨g,0,none⟩) (L.length+1) Y) (L++[x]).length ((L++[x]).flatMap slC):=by simpa using G
     clear G J d I d0 d1 d2 d3 d4 d5 c3;go_wp2_with fail;go_roundw
     case rel=>exact⟨k+1,by omega,by go_num,by rw[HF.out];exact V,B1⟩
     case measure=>simp[intOf];omega
  ·obtain rfl:k=s.slots.length:=by omega
   go_wp2_with fail;go_ret;exact⟨⟨_,rfl,fJ d (by omega)⟩,HB.out.trans (I.mono HB.out.size)⟩
end Go.Proofs.YtdajolpoiffimabGreatDoor

namespace Go.Proofs.YtdajolpoiffimabGreatDoor
open Go.RowKit
theorem lX:(Tryz.prog.info? 85).map (fun i=>(i.zero,i.size,i.bytes))=some (some (.agg #[.int .i64 0,.string ByteArray.empty]),2,24):=by kernel_rfl
set_option maxHeartbeats 1000000 in
theorem rD (s:Bx.St) (G:Value) (Q:Nat) (n:Int) (how:ByteArray) (sl en:Value) (w:World) (hn:n≤0) (O:Option Addr) (d:Nat) (U:G=.slice O Q d) (hS:StAt w s sl en):
 Calls Tryz.prog 215 #[stV s sl en,G,.int .i64 n,.string how] w fun e w'=>e=.returned (stV s G en)∧Below w.heap.size w w':=by
 subst U;obtain⟨ab,Y,rfl,Z⟩:=hS.sl.form;obtain⟨J,I,rfl,V⟩:=hS.en.form;clear hS
 go_enter Tryz.func215,Tryz.ntmps215
 go_wp2_with fail;refine bodyPost_ret (v:=stV s (.slice O Q d) (.slice J s.ends.length I)) (by simp[results,Tryz.results215,go_sem]) rfl ⟨rfl,?_⟩
 exact (cw _ _).alloc (by simp) _
structure WIn (W:World) (q:Nat) (s:Bx.St) (sl en:Value):Prop where
 st:StIn W q s sl en
 f4:W.frozen? ⟨q,4,none⟩=false
 rs:∀j:Nat,j<5→(∃u,W.cell? ⟨q+1,j,none⟩=some u)∧W.frozen? ⟨q+1,j,none⟩=false
theorem WIn.later {W W':World} {q:Nat} {s:Bx.St} {sl en:Value} (h:WIn W q s sl en) (e:q+1<W.heap.size) (hb:Below W.heap.size W W'):WIn W' q s sl en:=
 ⟨h.st.later hb,(hb.frozen (p:=⟨q,4,none⟩) (by simp;omega)).trans h.f4,fun j d=>⟨(h.rs j d).1.elim fun u w=>⟨u,cell_later hb w⟩,(hb.frozen (p:=⟨q+1,j,none⟩) e).trans (h.rs j d).2⟩⟩
theorem o5 (l:List Bx.En) (d k:Nat) (h:k<l.length):(l.take (k+1)).drop d=if d≤k then (l.take k).drop d++[l[k]] else (l.take k).drop d:=by
 rw[List.take_succ_eq_append_getElem h]
 split
 ·rw[List.drop_append_of_le_length (by simp;omega)]
 ·rw[List.drop_eq_nil_of_le (by simp;omega),List.drop_eq_nil_of_le (by simp;omega)]
theorem fS {w:World} {L:List Bx.En} {b d:Nat} (c:∀j (h:j<(L.flatMap enC).length),w.cell? ⟨b,d+j,none⟩=some (L.flatMap enC)[j]) (i:Nat) (hi:i<L.length):
 w.cell? ⟨b,d+i*2,none⟩=some (.int .i64 L[i].num)∧w.cell? ⟨b,d+i*2+1,none⟩=some (.string L[i].how):=
 ⟨RowAt.cell ej c i hi 0 (by decide),RowAt.cell ej c i hi 1 (by decide)⟩
theorem jl (w:World) (x:Bx.En) (t:TypeId):∀j u,(enC x)[j]? =some u→(w.alloc (.cells #[.int .i64 x.num,.string x.how] t)).cell? ((⟨w.heap.size,0,none⟩:Addr).add j)=some u:=by
 intro j u d
 match j,d with
 | 0,d=>simp[enC] at d;subst d;simp[Addr.add,go_sem]
 | 1,d=>simp[enC] at d;subst d;simp[Addr.add,go_sem]
theorem jk (x:Bx.En):∀u∈enC x,u.oneCell'=true:=by
 intro u d;simp[enC] at d;rcases d with rfl|rfl<;>rfl
set_option maxHeartbeats 2000000 in
theorem pT (s:Bx.St) (lv:Value) (Z:Nat) (n:Int) (how:ByteArray) (sl en:Value) (w:World) (hn:0<n) (Y:Option Addr) (J:Nat) (aH:lv=.slice Y Z J) (hE:s.ends.length≤10000) (hS:StAt w s sl en):
 Calls Tryz.prog 215 #[stV s sl en,lv,.int .i64 n,.string how] w fun e w'=>(∃ap,e=.returned (stV s lv ap)∧TRow w' 85 ap (Bx.push s.ends ⟨n,how⟩).length ((Bx.push s.ends ⟨n,how⟩).flatMap enC))∧Below w.heap.size w w':=by
 subst aH;obtain⟨i0,hi,am,aq,aj⟩:=info_parts lX;obtain⟨a2,V,rfl,aQ⟩:=hS.sl.form;obtain⟨Q,d,rfl,aL⟩:=hS.en.form;have HR:=Hq hS.en.1;clear hS
 go_enter Tryz.func215,Tryz.ntmps215
 go_wp2_with fail;have ae:=(cw w (stO s (.slice Y Z J) (.slice Q s.ends.length d))).alloc (by simp) (.cells #[.string {data:= #[]},.int .i64 0,.int .i64 0,.slice none 0 0,.slice none 0 0] 130)
 have af:Typed ((w.alloc (stO s (.slice Y Z J) (.slice Q s.ends.length d))).alloc (.cells #[.string {data:= #[]},.int .i64 0,.int .i64 0,.slice none 0 0,.slice none 0 0] 130)) w.heap.size 130∧Typed ((w.alloc (stO s (.slice Y Z J) (.slice Q s.ends.length d))).alloc (.cells #[.string {data:= #[]},.int .i64 0,.int .i64 0,.slice none 0 0,.slice none 0 0] 130)) (w.heap.size+1) 130:=⟨(Typed.new w _ _).later (cw _ _),by have:=Typed.new (w.alloc (stO s (.slice Y Z J) (.slice Q s.ends.length d))) #[.string {data:= #[]},.int .i64 0,.int .i64 0,.slice none 0 0,.slice none 0 0] 130;simpa using this⟩
 have hI:WIn ((w.alloc (stO s (.slice Y Z J) (.slice Q s.ends.length d))).alloc (.cells #[.string {data:= #[]},.int .i64 0,.int .i64 0,.slice none 0 0,.slice none 0 0] 130)) w.heap.size s (.slice Y Z J) (.slice Q s.ends.length d):=by
  refine⟨(StIn.new w s _ _).later (cw _ _),by simp[go_sem],fun j hj=>?_⟩
  have:j=0∨j=1∨j=2∨j=3∨j=4:=by omega
  rcases this with rfl|rfl|rfl|rfl|rfl<;>simp[go_sem]
 have hq:w.heap.size+1<((w.alloc (stO s (.slice Y Z J) (.slice Q s.ends.length d))).alloc (.cells #[.string {data:= #[]},.int .i64 0,.int .i64 0,.slice none 0 0,.slice none 0 0] 130)).heap.size:=by simp
 generalize (w.alloc (stO s (.slice Y Z J) (.slice Q s.ends.length d))).alloc (.cells #[.string {data:= #[]},.int .i64 0,.int .i64 0,.slice none 0 0,.slice none 0 0] 130)=W at *;have al:=Hq af;clear af;have HB:=Hq ae;have aF:=Hq (HR.out.later ae);have HI:=Hq hI;clear hI ae
 go_loopw [9,10] (fun v i wr=>∃k:Nat,k≤s.ends.length∧i=.int .i64 k∧wr.ownsRow W.heap.size 85 2 v ((s.ends.take k).drop (s.ends.length-5)).length (((s.ends.take k).drop (s.ends.length-5)).flatMap enC)∧Below W.heap.size W wr) (fun _ i _=>s.ends.length-(intOf i).toNat)
 case atStart=>exact⟨0,Nat.zero_le _,rfl,by simpa using World.ownsRow_nil _ _ _ _,Below.refl _ _⟩
 case round=>
  obtain⟨k,hk,rfl,G,U⟩:=hrel;have ak:=U.size;have hW:=HI.out.later hq U;have c4:=hW.st.c4;have ar:((s.ends.take k).drop (s.ends.length-5)).length≤10000:=by simp;omega
  by_cases ao:k<s.ends.length
  ·have b1:(0:Int)≤(k:Int):=by omega
   have b2:(k:Int)<(s.ends.length:Int):=by omega
   have HT:Hid _:=o5 s.ends (s.ends.length-5) k ao;clear hW
   by_cases he:s.ends.length-5≤k
   ·have HF:Hid ((s.ends.take (k+1)).drop (s.ends.length-5)=(s.ends.take k).drop (s.ends.length-5)++[s.ends[k]]):=by
     have:=HT.out;rw[if_pos he] at this;exact this
    have q1:(s.ends.length:Int)<(k:Int)+6:=by omega
    obtain⟨b,a4,az,hv,_,hc⟩:=(aF.out.later U).some' (by omega)
    cases hv
    obtain⟨d0,d1⟩:=fS hc k ao;clear hc HT he;generalize s.ends[k]=y at *;generalize (s.ends.take k).drop (s.ends.length-5)=L at *;go_wp2_with (at_builtin;refine wpList_append_lies _ rfl (.tmp 28) (.tmp 34) 38 rfl W.heap.size 85 i0 (.agg #[.int .i64 0,.string ByteArray.empty]) 2 24 Tryz.underlying38 hi am aq aj rfl (by decide) _ _ _ rfl (G.alloc _) ⟨wr.heap.size,0,none⟩ 1 1 (enC y) rfl rfl (jl _ _ _) (jk y) (by decide) ?c3 ?c4 ?c5 _ rfl ?_)
    case c3=>unfold maxLen;omega
    case c4=>omega
    case c5=>simp;omega
    ·intro g V w1 I O _ av;have B1:Below W.heap.size W w1:=(U.alloc ak _).grown O (by simp;omega) (fun k' e=>(G.lt k' e).1)
     have ag:w1.ownsRow W.heap.size 85 2 (.slice (some ⟨g,0,none⟩) (L.length+1) V) (L++[y]).length ((L++[y]).flatMap enC):=by simpa using I
     clear I O G U d0 d1 c4;go_wp2_with fail;go_roundw
     case rel=>exact⟨k+1,by omega,by go_num,by rw[HF.out];exact ag,B1⟩
     case measure=>simp[intOf];omega
   ·have HF:Hid ((s.ends.take (k+1)).drop (s.ends.length-5)=(s.ends.take k).drop (s.ends.length-5)):=by
     have:=HT.out;rw[if_neg he] at this;exact this
    have q1:¬(s.ends.length:Int)<(k:Int)+6:=by omega
    clear HT he;go_wp2_with fail;go_roundw
    case rel=>exact⟨k+1,by omega,by go_num,by rw[HF.out];exact G,U⟩
    case measure=>simp[intOf];omega
  ·obtain rfl:k=s.ends.length:=by omega
   rw[List.take_length] at G ar;have a3:(s.ends.drop (s.ends.length-5)).length≤10000:=ar;have c0:=hW.st.c0;have c1:=hW.st.c1;have c2:=hW.st.c2;have c3:=hW.st.c3;have HP:Hid (Bx.push s.ends ⟨n,how⟩=s.ends.drop (s.ends.length-5)++[⟨n,how⟩]):=rfl;generalize s.ends.drop (s.ends.length-5)=L at *;go_wp2_with (at_builtin;refine wpList_append_lies _ rfl (.tmp 36) (.tmp 40) 38 rfl W.heap.size 85 i0 (.agg #[.int .i64 0,.string ByteArray.empty]) 2 24 Tryz.underlying38 hi am aq aj rfl (by decide) _ _ _ rfl (G.alloc _) ⟨wr.heap.size,0,none⟩ 1 1 (enC ⟨n,how⟩) rfl rfl (jl _ _ _) (jk ⟨n,how⟩) (by decide) ?c3 ?c4 ?c5 _ rfl ?_)
   case c3=>unfold maxLen;omega
   case c4=>omega
   case c5=>simp;omega
   ·intro g V w1 I O _ av;have B1:Below W.heap.size W w1:=(U.alloc ak _).grown O (by simp;omega) (fun k' e=>(G.lt k' e).1)
    have aY:W.heap.size≤g:=by
     rcases I.2 with ⟨h,_⟩|⟨g',az,cur,h,h3,_⟩
     ·cases h
     ·cases h;exact h3
    have ax:Hid (TRow w1 85 (.slice (some ⟨g,0,none⟩) (L.length+1) V) (L.length+1) (L.flatMap enC++enC ⟨n,how⟩)):=TRow.of_own I;have aa:Typed w1 w.heap.size 130∧Typed w1 (w.heap.size+1) 130:=⟨al.out.1.below (by omega) B1,al.out.2.below (by omega) B1⟩
    have aC:=HI.out.later hq B1;have aD:=Hq (HB.out.trans (B1.mono HB.out.size));have aZ:w.heap.size+1<w1.heap.size:=by have:=B1.size;omega
    clear I O G U c0 c1 c2 c3 c4 B1 hW;obtain⟨⟨c0,c1,c2,c3,c4⟩,f4,rs⟩:=aC;obtain⟨⟨u0,r0⟩,g0⟩:=rs 0 (by decide)
    obtain⟨⟨u1,r1⟩,g1⟩:=rs 1 (by decide)
    obtain⟨⟨u2,r2⟩,g2⟩:=rs 2 (by decide)
    obtain⟨⟨u3,r3⟩,g3⟩:=rs 3 (by decide)
    obtain⟨⟨u4,r4⟩,g4⟩:=rs 4 (by decide)
    clear rs;go_wp2_with fail;refine bodyPost_ret (v:=stV s (.slice Y Z J) (.slice (some ⟨g,0,none⟩) (L.length+1) V)) (by simp[results,Tryz.results215,go_sem,r0,r1,r2,r3,r4]) rfl ⟨⟨_,rfl,?_⟩,?_⟩
    ·rw[HP.out];have e1:(L++[(⟨n,how⟩:Bx.En)]).length=L.length+1:=by simp
     have e2:(L++[(⟨n,how⟩:Bx.En)]).flatMap enC=L.flatMap enC++enC ⟨n,how⟩:=by simp
     rw[e1,e2];refine TRow.set ?_ (((((aa.2.setCell _ _ _).setCell _ _ _).setCell _ _ _).setCell _ _ _).setCell _ _ _) (by decide) _ _
     refine TRow.set ?_ ((((aa.2.setCell _ _ _).setCell _ _ _).setCell _ _ _).setCell _ _ _) (by decide) _ _
     refine TRow.set ?_ (((aa.2.setCell _ _ _).setCell _ _ _).setCell _ _ _) (by decide) _ _
     refine TRow.set ?_ ((aa.2.setCell _ _ _).setCell _ _ _) (by decide) _ _
     refine TRow.set ?_ (aa.2.setCell _ _ _) (by decide) _ _
     exact TRow.set ax.out aa.1 (by decide) _ _
    ·exact (((((aD.out.setCell (by simp) _).setCell (by simp) _).setCell (by simp) _).setCell (by simp) _).setCell (by simp) _).setCell (by simp) _
end Go.Proofs.YtdajolpoiffimabGreatDoor
