import Derived.Deep.RegionLaw
import Derived.Deep.CutRange
import Derived.Deep.RegionHeld3
import Derived.Test.YtdajolpoiffimabGreatDoorA7

namespace Go.Proofs.YtdajolpoiffimabGreatDoor
open Go.RowKit
theorem iX {tab:ByteArray} (d:ChkR tab 0 0):tn tab≤4:=by
 rcases d with ⟨_,_,h2⟩|⟨_,_,_,h2⟩|⟨_,_,_,_,_,_,_,h2⟩|⟨_,_,_,_,_,h2⟩|⟨_,x,_,_,_,_⟩<;>omega
set_option maxHeartbeats 1000000 in
theorem kR (s:Bx.St) (sl en:Value) (w:World) (hl:s.slots.length≤10000) (hS:StAt w s sl en):
 Calls Tryz.prog 182 #[stV s sl en] w fun e w'=>e=.returned (.int .i64 (Bx.running s:Nat))∧Below w.heap.size w w':=by
 obtain⟨Z,O,rfl,ak⟩:=hS.sl.form;obtain⟨G,d,rfl,af⟩:=hS.en.form;have I:=cw w (stO s (.slice Z s.slots.length O) (.slice G s.ends.length d));have hI:=StIn.new w s (.slice Z s.slots.length O) (.slice G s.ends.length d);have Y:=hS.sl.1.later I;clear hS
 go_enter Tryz.func182,Tryz.ntmps182
 go_wp2_with fail;generalize w.alloc (stO s (.slice Z s.slots.length O) (.slice G s.ends.length d))=W at *;have HR:=Hq Y;have HB:=Hq I;have c3:=hI.c3;clear hI Y I
 have aa:Hid (∀k,Bx.runK s k≤k):=by
  intro k
  induction k with
  | zero=>simp[Bx.runK]
  | succ k ih=>rw[Bx.runK];split<;>omega
 go_loop [3,4] (fun a i=>∃k:Nat,k≤s.slots.length∧i=.int .i64 k∧a=.int .i64 (Bx.runK s k:Nat)) (fun _ i=>s.slots.length-(intOf i).toNat)
 case atStart=>exact⟨0,Nat.zero_le _,rfl,rfl⟩
 case round=>
  obtain⟨k,hk,rfl,rfl⟩:=hrel;have hb:=aa.out k
  by_cases V:k<s.slots.length
  ·obtain⟨b,ae,ai,hv,_,hc⟩:=HR.out.some' (by omega)
   cases hv
   have c0:W.cell? ⟨b,ae+k*6+5,none⟩=some (.bool s.slots[k].runs):=RowAt.cell eo hc k V 5 (by decide)
   rw[slAt_eq s k V] at c0;have U:Hid (Bx.runK s (k+1)=Bx.runK s k+(if (Bx.slAt s k).runs=true then 1 else 0)):=rfl
   clear hc;have b1:(0:Int)≤(k:Int):=by omega
   have b2:(k:Int)<(s.slots.length:Int):=by omega
   cases Q:(Bx.slAt s k).runs
   ·rw[Q] at c0;have J:Hid (Bx.runK s (k+1)=Bx.runK s k):=by unfold Hid;rw[U.out,Q];rfl
    clear U;go_wp2_with fail
    go_round
    case rel=>exact⟨k+1,by omega,by go_num,by rw[J.out]⟩
    case measure=>simp[intOf];omega
   ·rw[Q] at c0;have J:Hid (Bx.runK s (k+1)=Bx.runK s k+1):=by unfold Hid;rw[U.out,Q];rfl
    clear U;go_wp2_with fail
    go_round
    case rel=>exact⟨k+1,by omega,by go_num,by rw[J.out];push_cast;rfl⟩
    case measure=>simp[intOf];omega
  ·obtain rfl:k=s.slots.length:=by omega
   go_wp2_with fail;go_ret;exact⟨rfl,HB.out⟩
set_option maxHeartbeats 400000 in
theorem ml (k:Int) (w:World):
 Calls Tryz.prog 224 #[.int .i64 k] w fun e Q=>e=.returned (.int .i64 (Bx.delay k))∧Q=w:=by
 have d:Hid (Bx.delay k=if k=1 then 2 else if k=2 then 4 else if k=3 then 8 else 10):=rfl
 cases I:(k==1)
 ·have n1:¬k=1:=by simpa using I
  rw[if_neg n1] at d
  cases O:(k==2)
  ·have n2:¬k=2:=by simpa using O
   rw[if_neg n2] at d
   cases J:(k==3)
   ·have G:¬k=3:=by simpa using J
    rw[if_neg G] at d;clear n1 n2 G
    go_enter Tryz.func224,Tryz.ntmps224
    go_wp2_with fail;go_ret;exact⟨dM d.out.symm,rfl⟩
   ·have G:k=3:=by simpa using J
    rw[if_pos G] at d;clear n1 n2 G
    go_enter Tryz.func224,Tryz.ntmps224
    go_wp2_with fail;go_ret;exact⟨dM d.out.symm,rfl⟩
  ·have n2:k=2:=by simpa using O
   rw[if_pos n2] at d;clear n1 n2
   go_enter Tryz.func224,Tryz.ntmps224
   go_wp2_with fail;go_ret;exact⟨dM d.out.symm,rfl⟩
 ·have n1:k=1:=by simpa using I
  rw[if_pos n1] at d;clear n1
  go_enter Tryz.func224,Tryz.ntmps224
  go_wp2_with fail;go_ret;exact⟨dM d.out.symm,rfl⟩
theorem iR (s:Bx.St) (i k:Nat):Bx.lockK s i (k+1)=(Bx.lockK s i k||(decide (¬k=i)&&(decide ((Bx.slAt s k).line=(Bx.slAt s i).line)&&(Bx.slAt s k).runs))):=rfl
theorem pS (s:Bx.St) (i k n:Nat) (h:Bx.lockK s i k=true) (w:k≤n):Bx.lockK s i n=true:=by
 induction n with
 | zero=>obtain rfl:k=0:=by omega
         exact h
 | succ n e=>
   by_cases d:k=n+1
   ·subst d;exact h
   ·rw[iR,e (by omega)];rfl
set_option maxHeartbeats 2000000 in
theorem gG (s:Bx.St) (i j:Nat) (sl en:Value) (w:World) (hT:ChkR s.tab 0 0) (hl:s.slots.length≤10000) (hi:i<s.slots.length) (ae:(Bx.slAt s i).line=(j:Int)+1) (hj:j<tn s.tab) (hS:StAt w s sl en):
 Calls Tryz.prog 181 #[stV s sl en,.int .i64 i] w fun e w'=>e=.returned (.bool (Bx.locked s i))∧Below w.heap.size w w':=by
 obtain⟨ad,ab,rfl,aS⟩:=hS.sl.form;obtain⟨aa,G,rfl,aK⟩:=hS.en.form;have ai:=cw w (stO s (.slice ad s.slots.length ab) (.slice aa s.ends.length G));have hI:=StIn.new w s (.slice ad s.slots.length ab) (.slice aa s.ends.length G);have aj:=hS.later ai;have aV:w.heap.size<(w.alloc (stO s (.slice ad s.slots.length ab) (.slice aa s.ends.length G))).heap.size:=by simp
 clear hS;obtain⟨aw,_,V⟩:=hT.lines;have aB:Hid (LineP (tl s.tab j)):=V _ hj;have aD:(tl s.tab j).size≤300:=fD aw _ (by have:=eP s.tab;omega)
 have HT:=Hq hT;have h4:=iX hT
 have av:Hid (Bx.locked s i=((ob (tl s.tab j) 0==120)&&Bx.lockK s i s.slots.length)):=by
  unfold Hid Bx.locked Bx.opt;rw[ae,show ((j:Int)+1-1).toNat=j by omega]
 clear V hT
 go_enter Tryz.func181,Tryz.ntmps181
 go_wp2_with fail;generalize w.alloc (stO s (.slice ad s.slots.length ab) (.slice aa s.ends.length G))=W at *;refine (eQ s _ _ _ HT.out aj).mono ?_;rintro e w1 ⟨⟨bl,aO,rfl,hL⟩,O⟩;have ak:=Hq (aj.sl.1.later O);have HI:=Hq (hI.later O);have c3:=HI.out.c3;have cl:w1.cell? ⟨bl,j,none⟩=some (.string (tl s.tab j)):=hL _ hj;have HB:Hid (Below w.heap.size w w1):=ai.trans (O.mono (by omega))
 have aU:w.heap.size<w1.heap.size:=by have:=O.size;omega
 obtain⟨b,ac,aL,hv,_,hc⟩:=ak.out.some' (by omega)
 cases hv
 have ci:w1.cell? ⟨b,ac+i*6+1,none⟩=some (.int .i64 ((j:Int)+1)):=by rw[←ae,←slAt_eq s i hi];exact RowAt.cell eo hc i hi 1 (by decide)
 have b1:(0:Int)≤(i:Int):=by omega
 have b2:(i:Int)<(s.slots.length:Int):=by omega
 have b3:(j:Int)<(tn s.tab:Int):=by omega
 have az:=Hq ae;clear hI aj ai O hL hc ae;go_wp2_with fail;refine (ew (tl s.tab j) _ aD aB.out).mono ?_;rintro e w2 ⟨rfl,U⟩;have aI:=Hq (ak.out.later U);have al:Hid (Below w.heap.size w w2):=HB.out.trans (U.mono (by omega))
 have d3:=(HI.out.later U).c3;have di:w2.cell? ⟨b,ac+i*6+1,none⟩=some (.int .i64 ((j:Int)+1)):=cell_later U ci;clear c3 cl ci ak HI HB U
 cases ho:(ob (tl s.tab j) 0==120)
 ·have J:Hid (Bx.locked s i=false):=by unfold Hid;rw[av.out,ho];rfl
  go_wp2_with fail
  go_loopw [9] (fun Z wr=>∃k n:Nat,k≤s.slots.length∧Z=.int .i64 k∧wr=w2.drewN n) (fun Z _=>s.slots.length-(intOf Z).toNat)
  case atStart=>exact⟨0,0,Nat.zero_le _,rfl,rfl⟩
  case round=>
   obtain⟨k,n,hk,rfl,rfl⟩:=hrel
   by_cases Q:k<s.slots.length
   ·have y2:(k:Int)<(s.slots.length:Int):=by omega
    go_wp2_with fail
    go_quiet (fail)
    go_wp2_with fail;go_roundw
    case rel=>exact⟨k+1,_,by omega,by go_num,rfl⟩
    case measure=>simp[intOf];omega
   ·obtain rfl:k=s.slots.length:=by omega
    go_wp2_with fail;go_ret;exact⟨dy J.out.symm,below_drewN al.out n⟩
 ·have J:Hid (Bx.locked s i=Bx.lockK s i s.slots.length):=by unfold Hid;rw[av.out,ho];rfl
  go_wp2_with fail
  go_loopw [9] (fun Z wr=>∃k n:Nat,k≤s.slots.length∧Z=.int .i64 k∧wr=w2.drewN n∧Bx.lockK s i k=false) (fun Z _=>s.slots.length-(intOf Z).toNat)
  case atStart=>exact⟨0,0,Nat.zero_le _,rfl,rfl,rfl⟩
  case round=>
   obtain⟨k,n,hk,rfl,rfl,au⟩:=hrel;have ar:=Hq au;clear au
   by_cases Q:k<s.slots.length
   ·have y2:(k:Int)<(s.slots.length:Int):=by omega
    have y1:(0:Int)≤(k:Int):=by omega
    have d:=iR s i k;obtain⟨b',aN,aJ,hv,_,hc⟩:=aI.out.some' (by omega)
    cases hv
    have k1:w2.cell? ⟨b,ac+k*6+1,none⟩=some (.int .i64 (Bx.slAt s k).line):=by rw[←slAt_eq s k Q];exact RowAt.cell eo hc k Q 1 (by decide)
    have k5:w2.cell? ⟨b,ac+k*6+5,none⟩=some (.bool (Bx.slAt s k).runs):=by rw[←slAt_eq s k Q];exact RowAt.cell eo hc k Q 5 (by decide)
    clear hc;rw[ar.out,Bool.false_or,az.out] at d
    by_cases Y:k=i
    ·have I:Hid (Bx.lockK s i (k+1)=false):=by unfold Hid;rw[d];simp[Y]
     have z1:((k:Int) !=(i:Int))=false:=by simp[Y]
     clear d k1 k5 Y;go_wp2_with fail
     go_quiet (fail)
     go_wp2_with fail;go_roundw
     case rel=>exact⟨k+1,_,by omega,by go_num,rfl,I.out⟩
     case measure=>simp[intOf];omega
    ·have z1:((k:Int) !=(i:Int))=true:=by simp;omega
     cases e2:((Bx.slAt s k).line==(j:Int)+1)
     ·have I:Hid (Bx.lockK s i (k+1)=false):=by
       have:¬(Bx.slAt s k).line=(j:Int)+1:=by simpa using e2
       unfold Hid;rw[d];simp[this]
      clear d k5 Y;go_wp2_with fail
      go_quiet (fail)
      go_wp2_with fail;go_roundw
      case rel=>exact⟨k+1,_,by omega,by go_num,rfl,I.out⟩
      case measure=>simp[intOf];omega
     ·have am:(Bx.slAt s k).line=(j:Int)+1:=by simpa using e2
      cases e3:(Bx.slAt s k).runs
      ·have I:Hid (Bx.lockK s i (k+1)=false):=by unfold Hid;rw[d];simp[e3]
       rw[e3] at k5;clear d Y am e3;go_wp2_with fail
       go_quiet (fail)
       go_wp2_with fail;go_roundw
       case rel=>exact⟨k+1,_,by omega,by go_num,rfl,I.out⟩
       case measure=>simp[intOf];omega
      ·have I:Hid (Bx.locked s i=true):=by
        unfold Hid;rw[J.out];refine pS s i (k+1) _ ?_ (by omega)
        rw[d];simp[Y,am,e3]
       rw[e3] at k5;clear d Y am e3;go_wp2_with fail
       go_quiet (fail)
       go_wp2_with fail;go_ret;exact⟨dy I.out.symm,below_drewN (below_drewN al.out n) _⟩
   ·obtain rfl:k=s.slots.length:=by omega
    have I:Hid (Bx.locked s i=false):=by unfold Hid;rw[J.out,ar.out]
    go_wp2_with fail;go_ret;exact⟨dy I.out.symm,below_drewN al.out n⟩
abbrev stZ:Bx.St:=⟨{data:= #[]},0,0,[],[]⟩
theorem iw (s:Bx.St) (sl en:Value) (w:World) (G:s.slots.length≤10000) (hS:StAt w s sl en):
 Calls Tryz.prog 216 #[stV s sl en,.int .i64 (-1)] w fun e d=>(∃v,e=.returned v∧d.ownsRow w.heap.size 218 6 v s.slots.length (s.slots.flatMap slC))∧Below w.heap.size w d:=by
 have:=fu s (-1) sl en w G hS;rw[kN] at this;exact this
theorem gE {n:Nat} {w:World} (h:n≤w.heap.size) (o:Obj):n≤(w.alloc o).heap.size:=by simp;omega
structure ClkAt (w wr:World) (q:Nat) (t:Bx.St) (slk enk v:Value) (n:Nat) (cells:List Value):Prop where
 st:StW wr q t slk enk
 rs:StW wr (q+1) stZ nilV nilV
 rows:StAt wr t slk enk
 row:TRow wr 218 v n cells
 bel:Below w.heap.size w wr
theorem ClkAt.later {w W W':World} {q:Nat} {t:Bx.St} {e G v:Value} {n:Nat} {d:List Value} (h:ClkAt w W q t e G v n d) (hb:Below W.heap.size W W'):ClkAt w W' q t e G v n d:=
 ⟨h.st.later hb,h.rs.later hb,h.rows.later hb,h.row.later hb,h.bel.trans (hb.mono h.bel.size)⟩
theorem ClkAt.store {w W:World} {q:Nat} {t:Bx.St} {I O v:Value} {n:Nat} {G:List Value} (h:ClkAt w W q t I O v n G) (U:w.heap.size≤q) (u:Bx.St) (d e:Value) (Q:StAt W u d e):
 ClkAt w (((((W.setCell ⟨q,0,none⟩ (.string u.tab)).setCell ⟨q,1,none⟩ (.int .i64 u.clock)).setCell ⟨q,2,none⟩ (.int .i64 u.next)).setCell ⟨q,3,none⟩ d).setCell ⟨q,4,none⟩ e) q u d e v n G:=by
 have ty:=h.st.ty;have Y:q<q+1:=by omega
 refine⟨h.st.store u d e,?_,Q.store ty _ _ _ _ _,?_,?_⟩
 ·obtain⟨⟨c0,c1,c2,c3,c4⟩,f,J⟩:=h.rs;refine⟨⟨?_,?_,?_,?_,?_⟩,fun j V=>?_,((((J.setCell _ _ _).setCell _ _ _).setCell _ _ _).setCell _ _ _).setCell _ _ _⟩
  case refine_6=>simp[go_sem,f j V]
  all_goals simp[go_sem,c0,c1,c2,c3,c4]
 ·refine TRow.set ?_ ((((ty.setCell _ _ _).setCell _ _ _).setCell _ _ _).setCell _ _ _) (by decide) _ _
  refine TRow.set ?_ (((ty.setCell _ _ _).setCell _ _ _).setCell _ _ _) (by decide) _ _
  refine TRow.set ?_ ((ty.setCell _ _ _).setCell _ _ _) (by decide) _ _
  refine TRow.set ?_ (ty.setCell _ _ _) (by decide) _ _
  exact TRow.set h.row ty (by decide) _ _
 ·repeat (refine Below.setCell ?_ (by simpa using U) _)
  exact h.bel
theorem ClkAt.next {w W:World} {q:Nat} {t:Bx.St} {e G v:Value} {n:Nat} {d:List Value} (h:ClkAt w W q t e G v n d) (V:w.heap.size≤q) (m:Int):
 ClkAt w (W.setCell ⟨q,2,none⟩ (.int .i64 m)) q {t with next:=m} e G v n d:=by
 have ty:=h.st.ty;obtain⟨⟨c0,c1,c2,c3,c4⟩,f,_⟩:=h.st;obtain⟨⟨r0,r1,Q,U,Y⟩,O,J⟩:=h.rs;refine⟨⟨⟨?_,?_,?_,?_,?_⟩,fun j I=>?_,ty.setCell _ _ _⟩,⟨⟨?_,?_,?_,?_,?_⟩,fun j I=>?_,J.setCell _ _ _⟩,⟨h.rows.sl.set ty (by decide) _ _,h.rows.en.set ty (by decide) _ _⟩,h.row.set ty (by decide) _ _,h.bel.setCell (by simpa using V) _⟩
 case refine_6=>simp[go_sem,f j I]
 case refine_12=>simp[go_sem,O j I]
 all_goals simp[go_sem,c0,c1,c2,c3,c4,r0,r1,Q,U,Y]
theorem ClkAt.clk {w W:World} {q:Nat} {t:Bx.St} {e G v:Value} {n:Nat} {d:List Value} (h:ClkAt w W q t e G v n d) (V:w.heap.size≤q) (m:Int):
 ClkAt w (W.setCell ⟨q,1,none⟩ (.int .i64 m)) q {t with clock:=m} e G v n d:=by
 have ty:=h.st.ty;obtain⟨⟨c0,c1,c2,c3,c4⟩,f,_⟩:=h.st;obtain⟨⟨r0,r1,Q,U,Y⟩,O,J⟩:=h.rs;refine⟨⟨⟨?_,?_,?_,?_,?_⟩,fun j I=>?_,ty.setCell _ _ _⟩,⟨⟨?_,?_,?_,?_,?_⟩,fun j I=>?_,J.setCell _ _ _⟩,⟨h.rows.sl.set ty (by decide) _ _,h.rows.en.set ty (by decide) _ _⟩,h.row.set ty (by decide) _ _,h.bel.setCell (by simpa using V) _⟩
 case refine_6=>simp[go_sem,f j I]
 case refine_12=>simp[go_sem,O j I]
 all_goals simp[go_sem,c0,c1,c2,c3,c4,r0,r1,Q,U,Y]
set_option maxRecDepth 10000 in
set_option maxHeartbeats 4000000 in
theorem lu (s:Bx.St) (sl en:Value) (m:Int) (w:World) (hO:Bx.StOk s) (hS:StAt w s sl en):
 Calls Tryz.prog 198 #[stV s sl en,.int .i64 m] w fun e w'=>(∃al ao,e=.returned (.tuple #[stV (Bx.clockedP s m).1 al ao,.bool (Bx.clockedP s m).2])∧StAt w' (Bx.clockedP s m).1 al ao)∧Below w.heap.size w w':=by
 obtain⟨i0,hi,bf,bq,ba⟩:=info_parts fN;obtain⟨ad,I,rfl,cv⟩:=hS.sl.form;obtain⟨G,d,rfl,cr⟩:=hS.en.form;have HO:=Hq hO;have cG:=hO.n1;have cC:=hO.n2;have bm:=hO.c1;have bp:=hO.c2;have b0:=cw w (stO s (.slice ad s.slots.length I) (.slice G s.ends.length d));have b1:=cw (w.alloc (stO s (.slice ad s.slots.length I) (.slice G s.ends.length d))) (stO stZ nilV nilV);have A1:StW ((w.alloc (stO s (.slice ad s.slots.length I) (.slice G s.ends.length d))).alloc (stO stZ nilV nilV)) w.heap.size s (.slice ad s.slots.length I) (.slice G s.ends.length d):=(StW.new w s _ _).later b1
 have A2:StW ((w.alloc (stO s (.slice ad s.slots.length I) (.slice G s.ends.length d))).alloc (stO stZ nilV nilV)) (w.heap.size+1) stZ nilV nilV:=by
  have:=StW.new (w.alloc (stO s (.slice ad s.slots.length I) (.slice G s.ends.length d))) stZ nilV nilV
  simpa using this
 have A3:StAt ((w.alloc (stO s (.slice ad s.slots.length I) (.slice G s.ends.length d))).alloc (stO stZ nilV nilV)) s (.slice ad s.slots.length I) (.slice G s.ends.length d):=(hS.later b0).later b1;have A4:Below w.heap.size w ((w.alloc (stO s (.slice ad s.slots.length I) (.slice G s.ends.length d))).alloc (stO stZ nilV nilV)):=b0.trans (b1.mono (by simp))
 clear hS b0 b1
 go_enter Tryz.func198,Tryz.ntmps198
 go_wp2_with fail;generalize (w.alloc (stO s (.slice ad s.slots.length I) (.slice G s.ends.length d))).alloc (stO stZ nilV nilV)=W at *;refine (jG s m _ _ _ bm bp A3).mono ?_;rintro e w1 ⟨rfl,ar⟩;have B1:Hid (StW w1 w.heap.size s (.slice ad s.slots.length I) (.slice G s.ends.length d)):=A1.later ar;have B2:Hid (StW w1 (w.heap.size+1) stZ nilV nilV):=A2.later ar;have B3:Hid (StAt w1 s (.slice ad s.slots.length I) (.slice G s.ends.length d)):=A3.later ar;have B4:Hid (Below w.heap.size w w1):=A4.trans (ar.mono A4.size);clear A1 A2 A3 A4 ar
 cases hA:Bx.ahead s m
 ·have HP:Hid (Bx.clockedP s m=(s,false)):=by unfold Hid;rw[Bx.clockedP,hA];rfl
  have R1:=B1.out;have R2:=B2.out;have R4:Hid (StAt _ s (.slice ad s.slots.length I) (.slice G s.ends.length d)):=B3.out.store R2.ty (.string s.tab) (.int .i64 s.clock) (.int .i64 s.next) (.slice ad s.slots.length I) (.slice G s.ends.length d);obtain⟨⟨c0,c1,c2,c3,c4⟩,_,_⟩:=R1;obtain⟨⟨r0,r1,r2,r3,r4⟩,f,_⟩:=R2;have f0:=f 0 (by decide);have f1:=f 1 (by decide);have f2:=f 2 (by decide);have f3:=f 3 (by decide);have f4:=f 4 (by decide)
  clear f;go_wp2_with fail;refine bodyPost_ret (v:=.tuple #[stV s (.slice ad s.slots.length I) (.slice G s.ends.length d),.bool false]) (by simp[results,Tryz.results198,go_sem,r0,r1,r2,r3,r4]) rfl ?_
  rw[HP.out];refine⟨⟨_,_,rfl,R4.out⟩,?_⟩
  repeat (refine Below.setCell ?_ (by simp) _)
  exact B4.out
 ·have R1:=B1.out;obtain⟨⟨c0,c1,c2,c3,c4⟩,_,_⟩:=R1;go_wp2_with fail;refine (jF s _ _ m w1 HO.out.tab bm bp hA B3.out).mono ?_;rintro e w2 ⟨⟨v,rfl,af⟩,au⟩;clear c0 c1 c2 c3 c4
  have cI:(Bx.comesS s m).length≤100000:=by
   have h1:=Bx.comes_len (Bx.lns s.tab) (Bx.newA s m) m;have h2:(Bx.lns s.tab).length≤4:=by rw[Bx.lns,List.length_map,Bx.linesOf_len];exact gv HO.out.tab
   have h3:0≤m∧m≤4223371679∧s.clock<m∧(s.clock= -1∨m-s.clock≤1500):=of_decide_eq_true hA;have h4:m-Bx.newA s m≤1500:=by unfold Bx.newA;split<;>omega
   have h5:(m+1-Bx.newA s m).toNat*(Bx.lns s.tab).length≤1501*4:=Nat.mul_le_mul (by omega) h2
   have h6:(Bx.comesS s m).length≤(m+1-Bx.newA s m).toNat*(Bx.lns s.tab).length:=h1;omega
  have HP:Hid (Bx.clockedP s m=if s.next+((Bx.comesS s m).length:Int)≤10000 then ({(Bx.comesS s m).foldl Bx.arr s with clock:=m},true) else (s,false)):=by unfold Hid;rw[Bx.clockedP,hA];rfl
  have D1:Hid (ClkAt w w2 w.heap.size s (.slice ad s.slots.length I) (.slice G s.ends.length d) v (Bx.comesS s m).length ((Bx.comesS s m).flatMap fun p=>slC (Bx.slotOf p 0))):=
   ⟨B1.out.later au,B2.out.later au,B3.out.later au,TRow.of_own af,B4.out.trans (au.mono B4.out.size)⟩
  obtain⟨b7,Q,rfl,cD⟩:=(RowAt.of_own af).form;clear B1 B2 B3 B4 au af hA;obtain⟨⟨⟨c0,c1,c2,c3,c4⟩,_,_⟩,R2,R3,_,R5⟩:=D1.out;generalize cd:Bx.comesS s m=L at *;clear cd
  by_cases hN:s.next+(L.length:Int)≤10000
  ·have aQ:Hid (Bx.clockedP s m=({L.foldl Bx.arr s with clock:=m},true)):=by unfold Hid;rw[HP.out,if_pos hN]
   have bc:Hid (∀k (h:k<L.length),(L.take (k+1)).foldl Bx.arr s=Bx.arr ((L.take k).foldl Bx.arr s) L[k]):=fun k h=>nT L s k h
   have bg:Hid (∀k,k≤L.length→((L.take k).foldl Bx.arr s).slots.length≤8∧((L.take k).foldl Bx.arr s).ends.length≤6∧((L.take k).foldl Bx.arr s).next=s.next+k):=by
    intro k hk;have:=rQ (L.take k) s HO.out.sl HO.out.en;rw[List.length_take,Nat.min_eq_left hk] at this;exact this
   have q1:¬10000<s.next+(L.length:Int):=by omega
   clear HP R2 R3 R5;go_wp2_with fail
   go_loopw [8] (fun iv wr=>∃k:Nat,k≤L.length∧iv=.int .i64 k∧∃aC aD,ClkAt w wr w.heap.size ((L.take k).foldl Bx.arr s) aC aD (.slice b7 L.length Q) L.length (L.flatMap fun p=>slC (Bx.slotOf p 0))) (fun iv _=>L.length-(intOf iv).toNat)
   case atStart=>exact⟨0,Nat.zero_le _,rfl,_,_,D1.out⟩
   case round=>
    obtain⟨k,hk,rfl,aC,aD,hC⟩:=hrel;obtain⟨o1,o2,o3⟩:=bg.out k hk;have HN:=Hq o3;clear o3
    by_cases bj:k<L.length
    ·have hF:=bc.out k bj;have HF:=Hq hF;obtain⟨b,J,cy,hv,_,bk⟩:=hC.row.1.some' (by omega)
     cases hv
     have ab:=fun j hj=>RowAt.cell (f:=fun p=>slC (Bx.slotOf p 0)) (k:=6) (fun _=>rfl) bk k bj j hj
     have x0:wr.cell? ⟨b,J+k*6,none⟩=some (.int .i64 0):=ab 0 (by decide)
     have x1:wr.cell? ⟨b,J+k*6+1,none⟩=some (.int .i64 ((L[k].1:Int)+1)):=ab 1 (by decide)
     have x2:wr.cell? ⟨b,J+k*6+2,none⟩=some (.int .i64 L[k].2):=ab 2 (by decide)
     have x3:wr.cell? ⟨b,J+k*6+3,none⟩=some (.int .i64 1):=ab 3 (by decide)
     have x4:wr.cell? ⟨b,J+k*6+4,none⟩=some (.int .i64 L[k].2):=ab 4 (by decide)
     have x5:wr.cell? ⟨b,J+k*6+5,none⟩=some (.bool false):=ab 5 (by decide)
     clear ab bk hF;generalize L[k]=p at *;generalize hT:(L.take k).foldl Bx.arr s=T at *;clear hT;have HC:=Hq hC;obtain⟨ae,U,rfl,cF⟩:=hC.rows.sl.form;obtain⟨ah,ac,rfl,cB⟩:=hC.rows.en.form;obtain⟨⟨d0,d1,d2,d3,d4⟩,O,_⟩:=hC.st;have g0:=O 0 (by decide);have g1:=O 1 (by decide);have g2:=O 2 (by decide);have g3:=O 3 (by decide);have g4:=O 4 (by decide)
     have cE:w.heap.size<wr.heap.size:=hC.st.ty.lt;have y1:(0:Int)≤(k:Int):=by omega
     have y2:(k:Int)<(L.length:Int):=by omega
     clear hC O
     by_cases h8:T.slots.length<8
     ·have z1:(T.slots.length:Int)<8:=by omega
      have HX:Hid (SlIn _ wr.heap.size (Bx.slotOf p T.next)):=SlIn.new wr (Bx.slotOf p T.next);have V:Hid (ClkAt w _ w.heap.size T (.slice ae T.slots.length U) (.slice ah T.ends.length ac) (.slice (some ⟨b,J,none⟩) L.length Q) L.length (L.flatMap fun p=>slC (Bx.slotOf p 0))):=HC.out.later (cw wr (slO (Bx.slotOf p T.next)))
      have ap:w.heap.size<(wr.alloc (slO (Bx.slotOf p T.next))).heap.size:=by simp;omega
      have ax:wr.heap.size<(wr.alloc (slO (Bx.slotOf p T.next))).heap.size:=by simp
      go_wp2_with fail
      change SlIn (wr.alloc (.cells #[.int .i64 T.next,.int .i64 ((p.1:Int)+1),.int .i64 p.2,.int .i64 1,.int .i64 p.2,.bool false] 218)) wr.heap.size (Bx.slotOf p T.next) at HX
      change ClkAt w (wr.alloc (.cells #[.int .i64 T.next,.int .i64 ((p.1:Int)+1),.int .i64 p.2,.int .i64 1,.int .i64 p.2,.bool false] 218)) w.heap.size T (.slice ae T.slots.length U) (.slice ah T.ends.length ac) (.slice (some ⟨b,J,none⟩) L.length Q) L.length (L.flatMap fun p=>slC (Bx.slotOf p 0)) at V
      change w.heap.size<(wr.alloc (.cells #[.int .i64 T.next,.int .i64 ((p.1:Int)+1),.int .i64 p.2,.int .i64 1,.int .i64 p.2,.bool false] 218)).heap.size at ap
      change wr.heap.size<(wr.alloc (.cells #[.int .i64 T.next,.int .i64 ((p.1:Int)+1),.int .i64 p.2,.int .i64 1,.int .i64 p.2,.bool false] 218)).heap.size at ax
      clear x0 x1 x2 x3 x4 x5 d0 d1 d2 d3 d4 g0 g1 g2 g3 g4 HC;generalize wr.alloc (.cells #[.int .i64 T.next,.int .i64 ((p.1:Int)+1),.int .i64 p.2,.int .i64 1,.int .i64 p.2,.bool false] 218)=Z at *;generalize wr.heap.size=xq at *;have bh:=HX;have bn:=V;replace HX:Hid (SlIn Z xq (Bx.slotOf p T.next)):=bh;replace V:Hid (ClkAt w Z w.heap.size T (.slice ae T.slots.length U) (.slice ah T.ends.length ac) (.slice (some ⟨b,J,none⟩) L.length Q) L.length (L.flatMap fun p=>slC (Bx.slotOf p 0))):=bn
      clear bh bn;obtain⟨x0,x1,x2,x3,x4,x5⟩:=HX.out;obtain⟨⟨d0,d1,d2,d3,d4⟩,O,_⟩:=V.out.st;have g0:=O 0 (by decide);have g1:=O 1 (by decide);have g2:=O 2 (by decide);have g3:=O 3 (by decide);have g4:=O 4 (by decide)
      have bo:T.slots.length+1≤maxLen:=by unfold maxLen;omega
      have bb:(T.slots.length+1)*48≤140737488355328:=by omega
      have aZ:Hid (Bx.arr T p={Bx.with' T (T.slots++[Bx.slotOf p T.next]) 0 ByteArray.empty with next:=T.next+1}):=pF h8;clear O HX;generalize Bx.slotOf p T.next=X at *
      go_cut [] from 43 to 49 (fun wx=>∃al ao,ClkAt w wx w.heap.size (Bx.with' T (T.slots++[X]) 0 ByteArray.empty) al ao (.slice (some ⟨b,J,none⟩) L.length Q) L.length (L.flatMap fun p=>slC (Bx.slotOf p 0)))
      case first=>
       go_region_law ((first
        | (refine step_append_lies _ rfl (.tmp 45) (.tmp 47) 128 rfl Z.heap.size 218 i0 (.agg #[.int .i64 0,.int .i64 0,.int .i64 0,.int .i64 0,.int .i64 0,.bool false]) 6 48 Tryz.underlying128 hi bf bq ba rfl (by decide) v _ _ rfl (af.alloc _) ⟨w2.heap.size,0,none⟩ 1 1 (slC X) rfl rfl (e9 _ _ _) (fe X) (by decide) bo bb (gE Y.size _) _ rfl ?_;intro g bs w3 aB ak _ bA;have am:Below Z.heap.size Z w3:=(Y.alloc Y.size _).grown ak (by simp;exact Nat.le_succ_of_le Y.size) (fun k' e=>(af.lt k' e).1);obtain⟨ck,b5⟩:=dT am)
        | (refine step_append_lies _ rfl (.tmp 45) (.tmp 47) 128 rfl Z.heap.size 218 i0 (.agg #[.int .i64 0,.int .i64 0,.int .i64 0,.int .i64 0,.int .i64 0,.bool false]) 6 48 Tryz.underlying128 hi bf bq ba rfl (by decide) v _ _ rfl aA ⟨Z.heap.size,0,none⟩ 1 1 (slC X) rfl rfl aY (fe X) (by decide) bo bb Y.size _ rfl ?_;intro g bs w3 aB ak _ bA;have am:Below Z.heap.size Z w3:=Y.grown ak Y.size (fun k' e=>(aA.lt k' e).1);obtain⟨ck,b5⟩:=dT am)
        | (go_simp;go_at_call 216;refine (iw T (.slice ae T.slots.length U) (.slice ah T.ends.length ac) Z.drew ?hl ?hs).mono ?_;(case hl=>omega);(case hs=>exact V.out.rows.later (Below.refl _ _).drew);rintro e w2 ⟨⟨v,rfl,af⟩,aq⟩;have Y:Below Z.heap.size Z w2:=(Below.refl _ _).drew.trans aq;obtain⟨cq,ca⟩:=dT Y;have cj:w.heap.size<w2.heap.size:=Nat.lt_of_lt_of_le ap Y.size;have bZ:xq<w2.heap.size:=Nat.lt_of_lt_of_le ax Y.size)
        | (go_simp;go_at_call 216;refine (iw T (.slice ae T.slots.length U) (.slice ah T.ends.length ac) (Z.alloc (slO X)).drew ?hl ?hs).mono ?_;(case hl=>omega);(case hs=>exact (V.out.rows.later (cw _ _)).later (Below.refl _ _).drew);rintro e w2 ⟨⟨v,rfl,af⟩,aq⟩;have Y:Below Z.heap.size Z w2:=(cw _ _).drew.trans (aq.mono (by simp));obtain⟨cq,ca⟩:=dT Y;have cj:w.heap.size<w2.heap.size:=Nat.lt_of_lt_of_le ap Y.size;have bZ:xq<w2.heap.size:=Nat.lt_of_lt_of_le ax Y.size;have aA:=fJ af (show Z.heap.size≤(Z.alloc (slO X)).drew.heap.size by simp);have aY:∀j u,(slC X)[j]? =some u→w2.cell? ((⟨Z.heap.size,0,none⟩:Addr).add j)=some u:=fun j u hj=>cell_later aq (e9 Z X _ j u hj))
        | (go_simp;go_at_call 215;refine (eV T (T.slots++[X]) _ 0 _ (.slice ae T.slots.length U) (.slice ah T.ends.length ac) w3 ?he ?hL ?hs).mono ?_;(case he=>omega);(case hL=>exact TRow.of_own (by simpa using aB));(case hs=>exact V.out.rows.later am);rintro e w4 ⟨⟨cf,rfl,aj⟩,bO⟩;have a9:Below Z.heap.size Z w4:=am.trans (bO.mono am.size);obtain⟨cA,cH⟩:=dT a9;obtain⟨bW,bv,rfl,bu⟩:=aj.en.form)))
       all_goals (go_wp2_with fail;go_meet;exact⟨_,_,(V.out.later a9).store (Nat.le_refl _) (Bx.with' T (T.slots++[X]) 0 {data:= #[]}) _ _ aj⟩)
      case rest=>
       obtain⟨bV,b9,hK⟩:=hcut;obtain⟨bR,bw,rfl,_⟩:=hK.rows.sl.form;obtain⟨cm,bM,rfl,_⟩:=hK.rows.en.form;have HK:Hid (ClkAt w _ w.heap.size {Bx.with' T (T.slots++[X]) 0 ByteArray.empty with next:=T.next+1} _ _ (.slice (some ⟨b,J,none⟩) L.length Q) L.length (L.flatMap fun p=>slC (Bx.slotOf p 0))):=hK.next (Nat.le_refl _) (T.next+1)
       have q2:IntKind.i64.wrap (T.next+1)=T.next+1:=by rw[IntKind.wrap_i64,HN.out];omega
       have e2:wc.cell? ⟨w.heap.size,2,none⟩=some (.int .i64 T.next):=hK.st.st.c2;have e3:=hK.st.f 2 (by decide)
       clear x0 x1 x2 x3 x4 x5 d0 d1 d2 d3 d4 g0 g1 g2 g3 g4 hK;go_wp2_with fail;go_roundw
       case rel=>exact⟨k+1,by omega,by go_num,_,_,by rw[HF.out,aZ.out];exact HK.out⟩
       case measure=>simp[intOf];omega
     ·have z1:¬(T.slots.length:Int)<8:=by omega
      have V:Hid (ClkAt w _ w.heap.size T (.slice ae T.slots.length U) (.slice ah T.ends.length ac) (.slice (some ⟨b,J,none⟩) L.length Q) L.length (L.flatMap fun p=>slC (Bx.slotOf p 0))):=HC.out.later (cw wr (slO (Bx.slotOf p T.next)))
      have HX:Hid (SlIn _ wr.heap.size (Bx.slotOf p T.next)):=SlIn.new wr (Bx.slotOf p T.next);have ap:w.heap.size<(wr.alloc (slO (Bx.slotOf p T.next))).heap.size:=by simp;omega
      have bT:0<T.next:=by rw[HN.out];omega
      have aZ:Hid (Bx.arr T p={Bx.with' T T.slots T.next Bx.hS with next:=T.next+1}):=sw h8 bT;have q2:IntKind.i64.wrap (T.next+1)=T.next+1:=by rw[IntKind.wrap_i64,HN.out];omega
      go_upto_region 14 with fail
      go_cut [] from 50 to 55 (fun wx=>∃al ao,ClkAt w wx w.heap.size (Bx.with' T T.slots T.next Bx.hS) al ao (.slice (some ⟨b,J,none⟩) L.length Q) L.length (L.flatMap fun p=>slC (Bx.slotOf p 0)))
      case first=>
       go_wp2_with fail
       change ClkAt w (wr.alloc (.cells #[.int .i64 T.next,.int .i64 ((p.1:Int)+1),.int .i64 p.2,.int .i64 1,.int .i64 p.2,.bool false] 218)) w.heap.size T (.slice ae T.slots.length U) (.slice ah T.ends.length ac) (.slice (some ⟨b,J,none⟩) L.length Q) L.length (L.flatMap fun p=>slC (Bx.slotOf p 0)) at V
       refine (eV T T.slots (.slice ae T.slots.length U) T.next _ (.slice ae T.slots.length U) (.slice ah T.ends.length ac) _ (by omega) V.rows.sl V.rows).mono ?_
       rintro e w4 ⟨⟨cf,rfl,aj⟩,bS⟩;obtain⟨bW,bv,rfl,bu⟩:=aj.en.form;have aV:=V.later bS;have b4:Hid (ClkAt w _ w.heap.size _ _ _ (.slice (some ⟨b,J,none⟩) L.length Q) L.length (L.flatMap fun p=>slC (Bx.slotOf p 0))):=aV.store (Nat.le_refl _) (Bx.with' T T.slots T.next Bx.hS) (.slice ae T.slots.length U) _ aj
       clear x0 x1 x2 x3 x4 x5 d0 d1 d2 d3 d4 g0 g1 g2 g3 g4 HC V;obtain⟨⟨d0,d1,d2,d3,d4⟩,O,_⟩:=aV.st;have g0:=O 0 (by decide);have g1:=O 1 (by decide);have g2:=O 2 (by decide);have g3:=O 3 (by decide);have g4:=O 4 (by decide)
       clear O aV;go_wp2_with fail;go_meet;exact⟨_,_,b4.out⟩
      case rest=>
       clear q2;obtain⟨bV,b9,hK⟩:=hcut;obtain⟨bR,bw,rfl,_⟩:=hK.rows.sl.form;obtain⟨cm,bM,rfl,_⟩:=hK.rows.en.form;have HK:Hid (ClkAt w _ w.heap.size {Bx.with' T T.slots T.next Bx.hS with next:=T.next+1} _ _ (.slice (some ⟨b,J,none⟩) L.length Q) L.length (L.flatMap fun p=>slC (Bx.slotOf p 0))):=hK.next (Nat.le_refl _) (T.next+1)
       have q2:IntKind.i64.wrap (T.next+1)=T.next+1:=by rw[IntKind.wrap_i64,HN.out];omega
       have e2:wc.cell? ⟨w.heap.size,2,none⟩=some (.int .i64 T.next):=hK.st.st.c2;have e3:=hK.st.f 2 (by decide)
       clear x0 x1 x2 x3 x4 x5 d0 d1 d2 d3 d4 g0 g1 g2 g3 g4 hK;go_wp2_with fail;go_roundw
       case rel=>exact⟨k+1,by omega,by go_num,_,_,by rw[HF.out,aZ.out];exact HK.out⟩
       case measure=>simp[intOf];omega
    ·obtain rfl:k=L.length:=by omega
     rw[List.take_length] at hC;have aK:=hC.clk (Nat.le_refl _) m;have bX:Hid (StAt _ {L.foldl Bx.arr s with clock:=m} aC aD):=aK.rows.store aK.rs.ty (.string (L.foldl Bx.arr s).tab) (.int .i64 m) (.int .i64 (L.foldl Bx.arr s).next) aC aD;have ce:=Hq hC.bel;obtain⟨ci,bD,rfl,_⟩:=hC.rows.sl.form;obtain⟨bU,bt,rfl,_⟩:=hC.rows.en.form;generalize L.foldl Bx.arr s=T at *;obtain⟨⟨d0,d1,d2,d3,d4⟩,O,_⟩:=hC.st;have g1:=O 1 (by decide)
     obtain⟨⟨r0,r1,r2,r3,r4⟩,f,_⟩:=hC.rs;have f0:=f 0 (by decide);have f1:=f 1 (by decide);have f2:=f 2 (by decide);have f3:=f 3 (by decide);have f4:=f 4 (by decide)
     clear f O hC aK bg bc HN;go_wp2_with fail;refine bodyPost_ret (v:=.tuple #[stV {T with clock:=m} (.slice ci T.slots.length bD) (.slice bU T.ends.length bt),.bool true]) (by simp[results,Tryz.results198,go_sem,r0,r1,r2,r3,r4]) rfl ?_
     rw[aQ.out];refine⟨⟨_,_,rfl,bX.out⟩,?_⟩
     repeat (refine Below.setCell ?_ (by simp) _)
     exact ce.out
  ·have aQ:Hid (Bx.clockedP s m=(s,false)):=by unfold Hid;rw[HP.out,if_neg hN]
   have q1:10000<s.next+(L.length:Int):=by omega
   have R4:Hid (StAt _ s (.slice ad s.slots.length I) (.slice G s.ends.length d)):=R3.store R2.ty (.string s.tab) (.int .i64 s.clock) (.int .i64 s.next) (.slice ad s.slots.length I) (.slice G s.ends.length d);have cp:=Hq R5;obtain⟨⟨r0,r1,r2,r3,r4⟩,f,_⟩:=R2;have f0:=f 0 (by decide);have f1:=f 1 (by decide);have f2:=f 2 (by decide);have f3:=f 3 (by decide);have f4:=f 4 (by decide)
   clear f R3 R5;go_wp2_with fail;refine bodyPost_ret (v:=.tuple #[stV s (.slice ad s.slots.length I) (.slice G s.ends.length d),.bool false]) (by simp[results,Tryz.results198,go_sem,r0,r1,r2,r3,r4]) rfl ?_
   rw[aQ.out];refine⟨⟨_,_,rfl,R4.out⟩,?_⟩
   repeat (refine Below.setCell ?_ (by simp) _)
   exact cp.out
theorem fa {w:World} {q b o:Nat} (h:b≠q) (J G e d I:Value):(((((w.setCell ⟨q,0,none⟩ J).setCell ⟨q,1,none⟩ G).setCell ⟨q,2,none⟩ e).setCell ⟨q,3,none⟩ d).setCell ⟨q,4,none⟩ I).cell? ⟨b,o,none⟩=w.cell? ⟨b,o,none⟩:=by
 rw[World.cell?_setCell_other _ _ _ _ (by simp),World.cell?_setCell_other _ _ _ _ (by simp),World.cell?_setCell_other _ _ _ _ (by simp),World.cell?_setCell_other _ _ _ _ (by simp),World.cell?_setCell_other _ _ _ _ (by simp)]
theorem dD {n q:Nat} {w e:World} (h:Below n w e) (d:n≤q) (Q J I G O:Value):Below n w (((((e.setCell ⟨q,0,none⟩ Q).setCell ⟨q,1,none⟩ J).setCell ⟨q,2,none⟩ I).setCell ⟨q,3,none⟩ G).setCell ⟨q,4,none⟩ O):=
 ((((h.setCell d _).setCell d _).setCell d _).setCell d _).setCell d _
theorem tj {w:World} {q:Nat} {c a:Option Value} (h1:w.cell? ⟨q,1,none⟩=c) (h2:w.cell? ⟨q+2,3,none⟩=a) (u:Value):(w.setCell ⟨q+1+1,4,none⟩ u).drew.cell? ⟨q,1,none⟩=c∧(w.setCell ⟨q+1+1,4,none⟩ u).drew.cell? ⟨q+2,3,none⟩=a:=by
 refine⟨?_,?_⟩
 ·show (w.setCell ⟨q+1+1,4,none⟩ u).cell? ⟨q,1,none⟩=c
  rw[World.cell?_setCell_other _ _ _ _ (by simp)];exact h1
 ·show (w.setCell ⟨q+1+1,4,none⟩ u).cell? ⟨q+2,3,none⟩=a
  rw[World.cell?_setCell_other _ _ _ _ (by simp)];exact h2
structure FIn (w W:World) (s:Bx.St) (sl en:Value) (x:Bx.Sl):Prop where
 st:StIn W w.heap.size s sl en
 rs:StW W (w.heap.size+1) stZ nilV nilV
 x:SlIn W (w.heap.size+2) x
 fx:∀j:Nat,j<6→W.frozen? ⟨w.heap.size+2,j,none⟩=false
 bel:Below w.heap.size w W
 lt:w.heap.size+2<W.heap.size
theorem FIn.later {w W W':World} {s:Bx.St} {sl en:Value} {x:Bx.Sl} (h:FIn w W s sl en x) (hb:Below W.heap.size W W'):FIn w W' s sl en x:=
 ⟨h.st.later hb,h.rs.later hb,h.x.later hb,fun j d=>(hb.frozen (p:=⟨w.heap.size+2,j,none⟩) h.lt).trans (h.fx j d),h.bel.trans (hb.mono h.bel.size),Nat.lt_of_lt_of_le h.lt hb.size⟩
theorem FIn.new (w:World) (s:Bx.St) (sl en:Value) (x:Bx.Sl):FIn w (((w.alloc (stO s sl en)).alloc (stO stZ nilV nilV)).alloc (slO x)) s sl en x:=by
 have b1:=cw (w.alloc (stO s sl en)) (stO stZ nilV nilV);have d:=cw ((w.alloc (stO s sl en)).alloc (stO stZ nilV nilV)) (slO x);refine⟨((StIn.new w s sl en).later b1).later d,?_,?_,fun j _=>?_,?_,by simp⟩
 ·have:=(StW.new (w.alloc (stO s sl en)) stZ nilV nilV).later d
  simpa using this
 ·have:=SlIn.new ((w.alloc (stO s sl en)).alloc (stO stZ nilV nilV)) x
  simpa using this
 ·simp[go_sem]
 ·exact ((cw w _).alloc (by simp) _).alloc (by simp;omega) _
theorem FIn.upd {w W:World} {s:Bx.St} {sl en:Value} {x:Bx.Sl} (h:FIn w W s sl en x) (f a:Int) (r:Bool):
 FIn w (((W.setCell ⟨w.heap.size+1+1,4,none⟩ (.int .i64 f)).setCell ⟨w.heap.size+1+1,3,none⟩ (.int .i64 a)).setCell ⟨w.heap.size+1+1,5,none⟩ (.bool r)).drew s sl en {x with frm:=f,att:=a,runs:=r}:=by
 obtain⟨⟨d0,d1,d2,I,d4⟩,⟨⟨r0,r1,O,U,r4⟩,J,ty⟩,⟨x0,V,Y,Q,x4,Z⟩,fx,d,G⟩:=h;refine⟨⟨?_,?_,?_,?_,?_⟩,⟨⟨?_,?_,?_,?_,?_⟩,fun j e=>?_,?_⟩,⟨?_,?_,?_,?_,?_,?_⟩,fun j e=>?_,?_,?_⟩
 case refine_11=>simp[go_sem,J j e]
 case refine_12=>exact (((ty.setCell _ _ _).setCell _ _ _).setCell _ _ _).later (Below.refl _ _).drew
 case refine_19=>simp[go_sem,fx j e]
 case refine_20=>exact (((d.setCell (by simp;omega) _).setCell (by simp;omega) _).setCell (by simp;omega) _).drew
 case refine_21=>simpa using G
 all_goals simp[go_sem,d0,d1,d2,I,d4,r0,r1,O,U,r4,x0,V,Y,Q,x4,Z]
set_option maxRecDepth 10000 in
set_option maxHeartbeats 3000000 in
theorem ms (s:Bx.St) (i j:Nat) (sl en:Value) (w:World) (hT:ChkR s.tab 0 0) (hl:s.slots.length≤10000) (hE:s.ends.length≤10000) (hi:i<s.slots.length) (aE:(Bx.slAt s i).line=(j:Int)+1) (hj:j<tn s.tab) (c1: -1≤s.clock) (c2:s.clock≤4223371679) (bu:0≤(Bx.slAt s i).att) (bw:(Bx.slAt s i).att≤1000) (hS:StAt w s sl en):
 Calls Tryz.prog 217 #[stV s sl en,.int .i64 i] w fun e w'=>(∃aJ aN,e=.returned (stV (Bx.failed s i) aJ aN)∧StAt w' (Bx.failed s i) aJ aN)∧Below w.heap.size w w':=by
 obtain⟨ad,Y,rfl,bm⟩:=hS.sl.form;obtain⟨U,I,rfl,bf⟩:=hS.en.form;have HS:=Hq hS;clear hS;obtain⟨aR,_,af⟩:=hT.lines;have ba:Hid (LineP (tl s.tab j)):=af _ hj;have a6:(tl s.tab j).size≤300:=fD aR _ (by have:=eP s.tab;omega)
 have HT:=Hq hT;have h4:=iX hT
 have au:Hid (Bx.failed s i=if (Bx.slAt s i).att=ob (tl s.tab j) 2-48 then Bx.with' s (Bx.withoutL s.slots i) (Bx.slAt s i).num Bx.hA else Bx.with' s (Bx.putL s.slots i {Bx.slAt s i with frm:=s.clock+Bx.delay (Bx.slAt s i).att,att:=(Bx.slAt s i).att+1,runs:=false}) 0 ByteArray.empty):=by
  unfold Hid Bx.failed Bx.opt;rw[aE,show ((j:Int)+1-1).toNat=j by omega]
 have a5:=Hq aE;clear af hT aE;have b1:(0:Int)≤(i:Int):=by omega
 have b2:(i:Int)<(s.slots.length:Int):=by omega
 have b3:(j:Int)<(tn s.tab:Int):=by omega
 obtain⟨b,Z,bq,hv,_,hc⟩:=HS.out.sl.1.some' (by omega)
 cases hv
 have bx:b<w.heap.size:=World.block_lt_of_cell? _ _ (dS hc i hi).1;obtain⟨x0,x1,x2,x3,x4,x5⟩:=dS hc i hi;rw[slAt_eq s i hi] at x0 x1 x2 x3 x4 x5;have aL:Hid (FIn w _ s (.slice (some ⟨b,Z,none⟩) s.slots.length Y) (.slice U s.ends.length I) (Bx.slAt s i)):=FIn.new w s _ _ (Bx.slAt s i);clear hc
 go_enter Tryz.func217,Tryz.ntmps217
 go_wp2_with fail;clear x0 x1 x2 x3 x4 x5;generalize ((w.alloc (stO s (.slice (some ⟨b,Z,none⟩) s.slots.length Y) (.slice U s.ends.length I))).alloc (stO stZ nilV nilV)).alloc (slO (Bx.slAt s i))=W at *;have HW:=aL.out;refine (eQ s _ _ _ HT.out (HS.out.later HW.bel)).mono ?_;rintro e w1 ⟨⟨bl,bh,rfl,hL⟩,aI⟩;have aC:Hid (FIn w w1 s (.slice (some ⟨b,Z,none⟩) s.slots.length Y) (.slice U s.ends.length I) (Bx.slAt s i)):=HW.later aI;have cl:w1.cell? ⟨bl,j,none⟩=some (.string (tl s.tab j)):=hL _ hj;clear aL HW aI hL;generalize Bx.slAt s i=x at *;have x1:w1.cell? ⟨w.heap.size+2,1,none⟩=some (.int .i64 ((j:Int)+1)):=by rw[←a5.out];exact aC.out.x.c1
 go_wp2_with fail;refine (ew (tl s.tab j) _ a6 ba.out).mono ?_;rintro e w2 ⟨rfl,aM⟩;have ah:=Hq (aC.out.later aM);have aD:=ah.out.lt;have aH:w.heap.size<w2.heap.size:=by omega
 have ar:w.heap.size+1<w2.heap.size:=by omega
 have bj:w.heap.size≠w.heap.size+1:=by omega
 have bg:w.heap.size+2≠w.heap.size+1:=by omega
 clear x1 cl aC aM
 cases he:(x.att==ob (tl s.tab j) 2-48)
 ·have n1:¬x.att=ob (tl s.tab j) 2-48:=by simpa using he
  rw[if_neg n1] at au;clear n1;obtain⟨⟨d0,d1,d2,d3,d4⟩,_,⟨x0,x1,x2,x3,x4,x5⟩,fx,d,_⟩:=ah.out;have g3:=fx 3 (by decide);have g4:=fx 4 (by decide);have g5:=fx 5 (by decide)
  clear fx d;have bv:0≤Bx.delay x.att∧Bx.delay x.att≤10:=by unfold Bx.delay;split<;>(try split)<;>(try split)<;>omega
  have q1:IntKind.i64.wrap (s.clock+Bx.delay x.att)=s.clock+Bx.delay x.att:=by rw[IntKind.wrap_i64];omega
  have q2:IntKind.i64.wrap (x.att+1)=x.att+1:=by rw[IntKind.wrap_i64];omega
  go_wp2_with fail
  go_region_held3 (fun w'=>w'.cell? ⟨w.heap.size,1,none⟩=some (.int .i64 s.clock)∧w'.cell? ⟨w.heap.size+2,3,none⟩=some (.int .i64 x.att)) ((first |(exact tj d1 x3 _)|go_keep))
   (first
    | (go_at_call 224;refine (ml x.att _).mono ?_;rintro e w3 ⟨rfl,rfl⟩))
  have aK:=ah.out.upd (s.clock+Bx.delay x.att) (x.att+1) false;go_wp2_with fail;clear d0 d1 d2 d3 d4 x0 x1 x2 x3 x4 x5 g3 g4 g5;generalize (((w2.setCell ⟨w.heap.size+1+1,4,none⟩ (.int .i64 (s.clock+Bx.delay x.att))).setCell ⟨w.heap.size+1+1,3,none⟩ (.int .i64 (x.att+1))).setCell ⟨w.heap.size+1+1,5,none⟩ (.bool false)).drew=W3 at *;generalize ({x with frm:=s.clock+Bx.delay x.att,att:=x.att+1,runs:=false}:Bx.Sl)=y at *;clear aD aH ar ah;have aD:=aK.lt;have aH:w.heap.size<W3.heap.size:=by omega
  have ar:w.heap.size+1<W3.heap.size:=by omega
  have bz:w.heap.size+1+1<W3.heap.size:=by omega
  obtain⟨⟨d0,d1,d2,d3,d4⟩,⟨⟨r0,r1,r2,r3,r4⟩,f,ty⟩,⟨x0,x1,x2,x3,x4,x5⟩,_,d,_⟩:=aK;have f0:=f 0 (by decide);have f1:=f 1 (by decide);have f2:=f 2 (by decide);have f3:=f 3 (by decide);have f4:=f 4 (by decide)
  have aj:=Hq d;have aB:=Hq ty;have ag:=Hq (HS.out.later d);clear f d ty;go_wp2_with fail
  go_region_held3 (fun w'=>∀b o,b<W3.heap.size→b≠w.heap.size+1→w'.cell? ⟨b,o,none⟩=W3.cell? ⟨b,o,none⟩)
   ((intro b' o' h1 h2;first |(rw[fa h2];exact G.cell (p:=⟨b',o',none⟩) h1)|(exact G.cell (p:=⟨b',o',none⟩) h1)|(exact O.cell (p:=⟨b',o',none⟩) h1)|rfl))
   (first
    | (go_at_call 173;refine (ju s i y (.slice (some ⟨b,Z,none⟩) s.slots.length Y) (.slice U s.ends.length I) _ hl ?hs).mono ?_;(case hs=>exact ag.out.later (Below.refl _ _).drew);rintro e w3 ⟨⟨v,rfl,ao⟩,aq⟩;have O:Below W3.heap.size W3 w3:=(Below.refl _ _).drew.trans aq)
    | (go_at_call 215;refine (eV s (Bx.putL s.slots i y) _ 0 _ (.slice (some ⟨b,Z,none⟩) s.slots.length Y) (.slice U s.ends.length I) w3 hE ?hL ?hs).mono ?_;(case hL=>exact TRow.of_own ao);(case hs=>exact ag.out.later O);rintro e w4 ⟨⟨a8,rfl,J⟩,ap⟩;have G:Below W3.heap.size W3 w4:=O.trans (ap.mono O.size);obtain⟨aA,bb⟩:=dT G;obtain⟨ai,V,rfl,aS⟩:=J.sl.form;obtain⟨ae,Q,rfl,aP⟩:=J.en.form))
  go_wp2_with fail;have H4:Hid (StAt _ (Bx.with' s (Bx.putL s.slots i y) 0 {data:= #[]}) _ _):=J.store (aB.out.later G) (.string s.tab) (.int .i64 s.clock) (.int .i64 s.next) (.slice ai (Bx.with' s (Bx.putL s.slots i y) 0 {data:= #[]}).slots.length V) (.slice ae (Bx.with' s (Bx.putL s.slots i y) 0 {data:= #[]}).ends.length Q);have B4:=Hq (aj.out.trans (G.mono aj.out.size));refine bodyPost_ret (v:=stV (Bx.with' s (Bx.putL s.slots i y) 0 {data:= #[]}) (.slice ai (Bx.with' s (Bx.putL s.slots i y) 0 {data:= #[]}).slots.length V) (.slice ae (Bx.with' s (Bx.putL s.slots i y) 0 {data:= #[]}).ends.length Q)) (by simp[results,Tryz.results217,go_sem,aA,ar,r0,r1,r2,r3,r4]) rfl ?_
  rw[au.out];exact⟨⟨_,_,rfl,H4.out⟩,dD B4.out (by omega) _ _ _ _ _⟩
 ·have n1:x.att=ob (tl s.tab j) 2-48:=by simpa using he
  rw[if_pos n1] at au;clear n1;obtain⟨⟨d0,d1,d2,d3,d4⟩,⟨⟨r0,r1,r2,r3,r4⟩,f,ty⟩,⟨x0,x1,x2,x3,x4,x5⟩,_,d,_⟩:=ah.out;have f0:=f 0 (by decide);have f1:=f 1 (by decide);have f2:=f 2 (by decide);have f3:=f 3 (by decide);have f4:=f 4 (by decide)
  have aj:=Hq d;have aB:=Hq ty;have ag:=Hq (HS.out.later d);clear f d;go_wp2_with fail
  go_region_held3 (fun w'=>∀b o,b<w2.heap.size→b≠w.heap.size+1→w'.cell? ⟨b,o,none⟩=w2.cell? ⟨b,o,none⟩)
   ((intro b' o' h1 h2;first |(rw[fa h2];exact G.cell (p:=⟨b',o',none⟩) h1)|(exact G.cell (p:=⟨b',o',none⟩) h1)|(exact O.cell (p:=⟨b',o',none⟩) h1)|rfl))
   (first
    | (go_at_call 216;refine (fu s i (.slice (some ⟨b,Z,none⟩) s.slots.length Y) (.slice U s.ends.length I) _ hl ?hs).mono ?_;(case hs=>exact ag.out.later (Below.refl _ _).drew);rintro e w3 ⟨⟨v,rfl,ao⟩,aq⟩;have O:Below w2.heap.size w2 w3:=(Below.refl _ _).drew.trans aq)
    | (go_at_call 215;refine (eV s (Bx.withoutL s.slots i) _ x.num _ (.slice (some ⟨b,Z,none⟩) s.slots.length Y) (.slice U s.ends.length I) w3 hE ?hL ?hs).mono ?_;(case hL=>exact TRow.of_own ao);(case hs=>exact ag.out.later O);rintro e w4 ⟨⟨a8,rfl,J⟩,ap⟩;have G:Below w2.heap.size w2 w4:=O.trans (ap.mono O.size);obtain⟨aA,bb⟩:=dT G;obtain⟨ai,V,rfl,aS⟩:=J.sl.form;obtain⟨ae,Q,rfl,aP⟩:=J.en.form))
  go_wp2_with fail;have H4:Hid (StAt _ (Bx.with' s (Bx.withoutL s.slots i) x.num {data:= #[97]}) _ _):=J.store (aB.out.later G) (.string s.tab) (.int .i64 s.clock) (.int .i64 s.next) (.slice ai (Bx.with' s (Bx.withoutL s.slots i) x.num {data:= #[97]}).slots.length V) (.slice ae (Bx.with' s (Bx.withoutL s.slots i) x.num {data:= #[97]}).ends.length Q);have B4:=Hq (aj.out.trans (G.mono aj.out.size));refine bodyPost_ret (v:=stV (Bx.with' s (Bx.withoutL s.slots i) x.num {data:= #[97]}) (.slice ai (Bx.with' s (Bx.withoutL s.slots i) x.num {data:= #[97]}).slots.length V) (.slice ae (Bx.with' s (Bx.withoutL s.slots i) x.num {data:= #[97]}).ends.length Q)) (by simp[results,Tryz.results217,go_sem,aA,ar,r0,r1,r2,r3,r4]) rfl ?_
  rw[au.out,rd];exact⟨⟨_,_,rfl,H4.out⟩,dD B4.out (by omega) _ _ _ _ _⟩
end Go.Proofs.YtdajolpoiffimabGreatDoor
