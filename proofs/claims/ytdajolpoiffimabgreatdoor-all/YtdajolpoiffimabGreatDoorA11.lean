import Derived.Deep.RegionLaw
import Derived.Test.YtdajolpoiffimabGreatDoorA10

namespace Go.Proofs.YtdajolpoiffimabGreatDoor
open Go.RowKit
abbrev aslV (x:Bx.Sl) (step:Int):Value:=.agg #[.int .i64 x.num,.int .i64 x.line,.int .i64 x.minute,.int .i64 x.att,.int .i64 x.frm,.int .i64 step]
abbrev aslZ:Value:=.agg #[.int .i64 0,.int .i64 0,.int .i64 0,.int .i64 0,.int .i64 0,.int .i64 0]
def stepOf (b:Bx.Bo) (n:Int):Int:=if 0≤talkOf b.talks n then (tkAt b (talkOf b.talks n).toNat).at'+1 else 0
set_option maxHeartbeats 1000000 in
theorem rK (b:Bx.Bo) (B:Nat) (i:Int) (sl en tk:Value) (w:World) (hE:b.now.ends.length≤6) (hi:i<0∨(b.now.ends.length:Int)≤i) (hB:BoxIn w B b sl en tk):
 Calls Tryz.prog 120 #[.pointer (some ⟨B,0,none⟩),.int .i64 i] w fun e w'=>e=.returned (.tuple #[.agg #[.int .i64 0,.string ByteArray.empty],.int .i64 4])∧Below w.heap.size w w':=by
 obtain⟨ad,V,rfl,aj⟩:=hB.rows.sl.form;obtain⟨Q,J,rfl,ah⟩:=hB.rows.en.form;have HB:=Hq hB;clear hB
 go_enter Tryz.func120,Tryz.ntmps120
 go_wp2_with fail;refine (dW b B _ _ tk _ (HB.out.later (cw _ _))).mono ?_;rintro e w1 ⟨rfl,d⟩;have I:=cw w (.cells #[.int .i64 0,.string {data:= #[]}] 85);have hZ:=(ZIn.new w #[.int .i64 0,.string {data:= #[]}] 85).later (by simp) d
 have ac:=d.size;have U:=(HB.out.later I).rows.later d;have hI:=StIn.new w1 b.now (.slice ad b.now.slots.length V) (.slice Q b.now.ends.length J);have G:=cw w1 (stO b.now (.slice ad b.now.slots.length V) (.slice Q b.now.ends.length J));have Y:=Hq (U.later G);simp at ac;go_wp2_with fail;refine (gA b.now _ _ _ hE Y.out).mono ?_;rintro e w2 ⟨rfl,O⟩;have Z:ZIn w2 w.heap.size 2:=((hZ.later (by omega) G).later (by simp;omega) O)
 obtain⟨⟨u0,r0⟩,f0⟩:=Z 0 (by decide)
 obtain⟨⟨u1,r1⟩,f1⟩:=Z 1 (by decide)
 have B3:Hid (Below w.heap.size w w2):=((I.trans (d.mono (by simp))).trans (G.mono (by omega))).trans (O.mono (by simp;omega))
 clear Z hZ hI U Y d G O I
 by_cases h0:i<0
 ·go_wp2_with fail;refine bodyPost_ret (v:=.tuple #[.agg #[.int .i64 0,.string ByteArray.empty],.int .i64 4]) (by simp[results,Tryz.results120,go_sem,r0,r1];rfl) rfl ⟨rfl,?_⟩
  repeat (refine Below.setCell ?_ (by simp) _)
  exact B3.out
 ·have h1:(b.now.ends.length:Int)≤i:=by omega
  clear hi;go_wp2_with fail;refine bodyPost_ret (v:=.tuple #[.agg #[.int .i64 0,.string ByteArray.empty],.int .i64 4]) (by simp[results,Tryz.results120,go_sem,r0,r1];rfl) rfl ⟨rfl,?_⟩
  repeat (refine Below.setCell ?_ (by simp) _)
  exact B3.out
set_option maxHeartbeats 1000000 in
theorem p8 (b:Bx.Bo) (B i:Nat) (sl en tk:Value) (w:World) (hE:b.now.ends.length≤6) (hi:i<b.now.ends.length) (hB:BoxIn w B b sl en tk):
 Calls Tryz.prog 120 #[.pointer (some ⟨B,0,none⟩),.int .i64 i] w fun e w'=>e=.returned (.tuple #[.agg #[.int .i64 b.now.ends[i].num,.string b.now.ends[i].how],.int .i64 0])∧Below w.heap.size w w':=by
 obtain⟨ad,Z,rfl,am⟩:=hB.rows.sl.form;obtain⟨U,O,rfl,ai⟩:=hB.rows.en.form;have HB:=Hq hB;clear hB
 go_enter Tryz.func120,Tryz.ntmps120
 go_wp2_with fail;refine (dW b B _ _ tk _ (HB.out.later (cw _ _))).mono ?_;rintro e w1 ⟨rfl,d⟩;have J:=cw w (.cells #[.int .i64 0,.string {data:= #[]}] 85);have hZ:=(ZIn.new w #[.int .i64 0,.string {data:= #[]}] 85).later (by simp) d
 have af:=d.size;have Y:=(HB.out.later J).rows.later d;have hI:=StIn.new w1 b.now (.slice ad b.now.slots.length Z) (.slice U b.now.ends.length O);have G:=cw w1 (stO b.now (.slice ad b.now.slots.length Z) (.slice U b.now.ends.length O));have Q:=Hq (Y.later G);simp at af;go_wp2_with fail;refine (gA b.now _ _ _ hE Q.out).mono ?_;rintro e w2 ⟨rfl,I⟩;have HZ:ZIn w2 w.heap.size 2:=((hZ.later (by omega) G).later (by simp;omega) I)
 obtain⟨⟨u0,r0⟩,f0⟩:=HZ 0 (by decide)
 obtain⟨⟨u1,r1⟩,f1⟩:=HZ 1 (by decide)
 have B3:Hid (Below w.heap.size w w2):=((J.trans (d.mono (by simp))).trans (G.mono (by omega))).trans (I.mono (by simp;omega))
 obtain⟨b5,ak,aj,ab,_,V⟩:=(Q.out.later I).en.1.some' (by omega)
 cases ab
 obtain⟨e0,e1⟩:=fS V i hi;have z1:(0:Int)≤(i:Int):=by omega
 have z2:(i:Int)<(b.now.ends.length:Int):=by omega
 have z3:¬(b.now.ends.length:Int)≤(i:Int):=by omega
 clear HZ hZ hI Y Q d G I J V;go_wp2_with fail;refine bodyPost_ret (v:=.tuple #[.agg #[.int .i64 b.now.ends[i].num,.string b.now.ends[i].how],.int .i64 0]) (by simp[results,Tryz.results120,go_sem,r0,r1]) rfl ⟨rfl,?_⟩
 repeat (refine Below.setCell ?_ (by simp) _)
 exact B3.out
set_option maxHeartbeats 1000000 in
theorem qW (b:Bx.Bo) (B:Nat) (i:Int) (sl en tk:Value) (w:World) (hi:i<0∨(b.now.slots.length:Int)≤i) (hB:BoxIn w B b sl en tk):
 Calls Tryz.prog 119 #[.pointer (some ⟨B,0,none⟩),.int .i64 i] w fun e w'=>e=.returned (.tuple #[aslZ,.int .i64 4])∧Below w.heap.size w w':=by
 obtain⟨U,I,rfl,aj⟩:=hB.rows.sl.form;obtain⟨G,d,rfl,ah⟩:=hB.rows.en.form;have HB:=Hq hB;clear hB
 go_enter Tryz.func119,Tryz.ntmps119
 go_wp2_with fail;refine (dW b B _ _ tk _ (HB.out.later (cw _ _))).mono ?_;rintro e w1 ⟨rfl,O⟩;have V:=cw w (.cells #[.int .i64 0,.int .i64 0,.int .i64 0,.int .i64 0,.int .i64 0,.int .i64 0] 81);have hZ:=(ZIn.new w #[.int .i64 0,.int .i64 0,.int .i64 0,.int .i64 0,.int .i64 0,.int .i64 0] 81).later (by simp) O
 have ae:=O.size;have hI:=StIn.new w1 b.now (.slice U b.now.slots.length I) (.slice G b.now.ends.length d);have Q:=cw w1 (stO b.now (.slice U b.now.slots.length I) (.slice G b.now.ends.length d));simp at ae;have J:ZIn (w1.alloc (stO b.now (.slice U b.now.slots.length I) (.slice G b.now.ends.length d))) w.heap.size 6:=hZ.later (by omega) Q
 have B3:Hid (Below w.heap.size w (w1.alloc (stO b.now (.slice U b.now.slots.length I) (.slice G b.now.ends.length d)))):=(V.trans (O.mono (by simp))).trans (Q.mono (by omega))
 go_upto_region 2 with fail;generalize w1.alloc (stO b.now (.slice U b.now.slots.length I) (.slice G b.now.ends.length d))=W at *;generalize w1.heap.size=sq at *;obtain⟨⟨u0,r0⟩,f0⟩:=J 0 (by decide)
 obtain⟨⟨u1,r1⟩,f1⟩:=J 1 (by decide)
 obtain⟨⟨u2,r2⟩,f2⟩:=J 2 (by decide)
 obtain⟨⟨u3,Z⟩,f3⟩:=J 3 (by decide)
 obtain⟨⟨u4,r4⟩,f4⟩:=J 4 (by decide)
 obtain⟨⟨u5,Y⟩,f5⟩:=J 5 (by decide)
 have d3:=hI.c3;clear J hZ hI O Q V
 by_cases h0:i<0
 ·go_wp2_with fail;refine bodyPost_ret (v:=.tuple #[aslZ,.int .i64 4]) (by simp[results,Tryz.results119,go_sem,r0,r1,r2,Z,r4,Y]) rfl ⟨rfl,?_⟩
  repeat (refine Below.setCell ?_ (by simp) _)
  exact B3.out
 ·have h1:(b.now.slots.length:Int)≤i:=by omega
  clear hi;go_wp2_with fail;refine bodyPost_ret (v:=.tuple #[aslZ,.int .i64 4]) (by simp[results,Tryz.results119,go_sem,r0,r1,r2,Z,r4,Y]) rfl ⟨rfl,?_⟩
  repeat (refine Below.setCell ?_ (by simp) _)
  exact B3.out
set_option maxRecDepth 10000 in
set_option maxHeartbeats 2000000 in
theorem nX (b:Bx.Bo) (B i:Nat) (sl en tk:Value) (w:World) (hO:BoOk b) (hi:i<b.now.slots.length) (hB:BoxIn w B b sl en tk):
 Calls Tryz.prog 119 #[.pointer (some ⟨B,0,none⟩),.int .i64 i] w fun e w'=>e=.returned (.tuple #[aslV (Bx.slAt b.now i) (stepOf b (Bx.slAt b.now i).num),.int .i64 0])∧Below w.heap.size w w':=by
 obtain⟨Q,I,rfl,aV⟩:=hB.rows.sl.form;obtain⟨G,d,rfl,aN⟩:=hB.rows.en.form;obtain⟨az,ap,rfl,aM⟩:=hB.tkr.form;have HB:=Hq hB;have HO:=Hq hO;have aO:=hO.tks;clear hB hO
 go_enter Tryz.func119,Tryz.ntmps119
 go_wp2_with fail;refine (dW b B _ _ _ _ (HB.out.later (cw _ _))).mono ?_;rintro e w1 ⟨rfl,O⟩;have aa:=cw w (.cells #[.int .i64 0,.int .i64 0,.int .i64 0,.int .i64 0,.int .i64 0,.int .i64 0] 81);have hZ:=(ZIn.new w #[.int .i64 0,.int .i64 0,.int .i64 0,.int .i64 0,.int .i64 0,.int .i64 0] 81).later (by simp) O
 have ah:=O.size;have hI:=StIn.new w1 b.now (.slice Q b.now.slots.length I) (.slice G b.now.ends.length d);have Z:=cw w1 (stO b.now (.slice Q b.now.slots.length I) (.slice G b.now.ends.length d));simp at ah;have U:Hid (ZIn (w1.alloc (stO b.now (.slice Q b.now.slots.length I) (.slice G b.now.ends.length d))) w.heap.size 6):=hZ.later (by omega) Z
 have B3:Hid (Below w.heap.size w (w1.alloc (stO b.now (.slice Q b.now.slots.length I) (.slice G b.now.ends.length d)))):=(aa.trans (O.mono (by simp))).trans (Z.mono (by omega))
 have J:Hid (BoxIn (w1.alloc (stO b.now (.slice Q b.now.slots.length I) (.slice G b.now.ends.length d))) B b (.slice Q b.now.slots.length I) (.slice G b.now.ends.length d) (.slice az b.talks.length ap)):=((HB.out.later aa).later O).later Z;have ae:w.heap.size<(w1.alloc (stO b.now (.slice Q b.now.slots.length I) (.slice G b.now.ends.length d))).heap.size:=by simp;omega
 go_upto_region 2 with fail;generalize w1.alloc (stO b.now (.slice Q b.now.slots.length I) (.slice G b.now.ends.length d))=W at *;generalize w1.heap.size=sq at *;have d3:=hI.c3;clear hZ hI O Z aa HB ah;obtain⟨b5,aR,aP,ay,_,ag⟩:=J.out.rows.sl.1.some' (by omega)
 cases ay
 obtain⟨y0,y1,y2,y3,y4,y5⟩:=dS ag i hi;rw[slAt_eq b.now i hi] at y0 y1 y2 y3 y4 y5;have z1:(0:Int)≤(i:Int):=by omega
 have z2:(i:Int)<(b.now.slots.length:Int):=by omega
 have z3:¬(b.now.slots.length:Int)≤(i:Int):=by omega
 have Y:Hid (stepOf b (Bx.slAt b.now i).num=if 0≤talkOf b.talks (Bx.slAt b.now i).num then (tkAt b (talkOf b.talks (Bx.slAt b.now i).num).toNat).at'+1 else 0):=rfl
 clear ag;have ac:=(cw W (slO (Bx.slAt b.now i))).alloc (by simp) (.cells #[.int .i64 (Bx.slAt b.now i).num,.int .i64 (Bx.slAt b.now i).line,.int .i64 (Bx.slAt b.now i).minute,.int .i64 (Bx.slAt b.now i).att,.int .i64 (Bx.slAt b.now i).frm,.int .i64 0] 81)
 have aw:=Hq (J.out.later ac);have aY:B<W.heap.size:=J.out.ty.lt;obtain⟨⟨u0,r0⟩,f0⟩:=U.out 0 (by decide)
 obtain⟨⟨u1,r1⟩,f1⟩:=U.out 1 (by decide)
 obtain⟨⟨u2,r2⟩,f2⟩:=U.out 2 (by decide)
 obtain⟨⟨u3,r3⟩,f3⟩:=U.out 3 (by decide)
 obtain⟨⟨u4,r4⟩,f4⟩:=U.out 4 (by decide)
 obtain⟨⟨u5,r5⟩,f5⟩:=U.out 5 (by decide)
 have c8:=J.out.c8;have aB:=Hq J.out.tkr.1;clear ac U J;go_wp2_with fail;refine (iI b B (Bx.slAt b.now i).num _ _ _ _ (by omega) aw.out).mono ?_
 rintro e w6 ⟨rfl,aF⟩;subst aF;have aE:=gT b.talks (Bx.slAt b.now i).num;generalize aJ:talkOf b.talks (Bx.slAt b.now i).num=F at *;clear aJ
 by_cases ai:F<0
 ·have ab:Hid (stepOf b (Bx.slAt b.now i).num=0):=by unfold Hid;rw[Y.out,if_neg (by omega)]
  have q1:¬(0:Int)≤F:=by omega
  clear Y y0 y1 y2 y3 y4 y5;go_wp2_with fail;refine bodyPost_ret (v:=.tuple #[aslV (Bx.slAt b.now i) 0,.int .i64 0]) (by simp[results,Tryz.results119,go_sem,r0,r1,r2,r3,r4,r5,ae]) rfl ?_
  rw[ab.out];refine⟨rfl,Below.alloc (Below.alloc ?_ (by simp;omega) _) (by simp;omega) _⟩
  repeat (refine Below.setCell ?_ (by simp) _)
  exact B3.out
 ·obtain⟨j,aK⟩:∃j:Nat,F=j:=Int.eq_ofNat_of_zero_le (by omega)
  subst aK;have V:j<b.talks.length:=by omega
  have ab:Hid (stepOf b (Bx.slAt b.now i).num=(tkAt b j).at'+1):=by unfold Hid;rw[Y.out,if_pos (by omega)];simp
  have q1:(0:Int)≤(j:Int):=by omega
  have q2:(j:Int)<(b.talks.length:Int):=by omega
  obtain⟨b6,ar,aT,au,_,af⟩:=aB.out.some' (by omega)
  cases au
  have t1:W.cell? ⟨b6,ar+j*4+1,none⟩=some (.int .i64 (tkAt b j).at'):=by rw[←ez b j V];exact RowAt.cell ec af j V 1 (by decide)
  have aQ:b6<W.heap.size:=World.block_lt_of_cell? _ _ t1;have aI:=HO.out.ats _ (List.getElem_mem V);rw[ez b j V] at aI;have q3:IntKind.i64.wrap ((tkAt b j).at'+1)=(tkAt b j).at'+1:=by rw[IntKind.wrap_i64];omega
  clear Y y0 y1 y2 y3 y4 y5 af aE ai;go_wp2_with fail;refine bodyPost_ret (v:=.tuple #[aslV (Bx.slAt b.now i) ((tkAt b j).at'+1),.int .i64 0]) (by simp[results,Tryz.results119,go_sem,r0,r1,r2,r3,r4,r5,ae]) rfl ?_
  rw[ab.out];refine⟨rfl,Below.alloc (Below.alloc ?_ (by simp;omega) _) (by simp;omega) _⟩
  repeat (refine Below.setCell ?_ (by simp) _)
  exact B3.out
set_option maxHeartbeats 1000000 in
theorem lr (l:ByteArray) (w:World) (Q:l.size≤300) (G:LineP l):
 Calls Tryz.prog 183 #[.string l] w fun e I=>(∃v,e=.returned v∧RowAt I v (stepsOf l).length ((stepsOf l).map Value.string))∧Below w.heap.size w I:=by
 have h7:=G.n7;have Y:=G.n11;clear G
 go_enter Tryz.func183,Tryz.ntmps183
 go_wp2_with fail;refine (eN _ _ _ Q).mono ?_;rintro e w1 ⟨⟨b,d,rfl,V,J,hS⟩,hb⟩;have U:=Hq hS;have q1:(6:Int)≤((Txt.pcs 32 l).length:Int):=by omega
 have q2:6≤(Txt.pcs 32 l).length:=by omega
 have Z:¬d=6:=by omega
 have q4:6<d:=by omega
 clear hS;go_wp2_with fail;go_ret;refine⟨⟨_,rfl,Or.inr ⟨b,6,d-6,?_,?_,fun j O=>?_⟩⟩,hb⟩
 ·simp[stepsOf]
 ·simp[stepsOf];omega
 ·simp[stepsOf] at O
  have h2:6+j<(Txt.pcs 32 l).length:=by omega
  have:=U.out (6+j) h2;rw[this];simp[stepsOf]
theorem sV {a b:ByteArray} {x y:Int} (h1:a=b) (h2:x=y):Ending.returned (.tuple #[.string a,.int .i64 x])=.returned (.tuple #[.string b,.int .i64 y]):=by rw[h1,h2]
set_option maxHeartbeats 1000000 in
theorem kC (L:List ByteArray) (v:Value) (n:Nat):∀(k:Nat) (w:World),k+n=L.length→L.length≤100→(∀s∈L,2≤s.size∧s.size≤9)→RowAt w v L.length (L.map Value.string)→
 Calls Tryz.prog 150 #[v,.int .i64 k] w fun e V=>e=.returned (.tuple #[.string (saysL (L.drop k)).1,.int .i64 ((k+(saysL (L.drop k)).2:Nat):Int)])∧V=w:=by
 induction n with
 | zero=>
   intro k w hk hL d hR;obtain⟨ad,ab,rfl,U⟩:=hR.form;have hd:L.drop k=[]:=List.drop_eq_nil_of_le (by omega)
   rw[hd];have q1:(L.length:Int)≤(k:Int):=by omega
   clear hR d
   go_enter Tryz.func150,Tryz.ntmps150
   go_wp2_with fail;go_ret2;exact⟨by simp[saysL];rfl,rfl⟩
 | succ n Z=>
   intro k w hk hL d hR;have J:k<L.length:=by omega
   have IH:Hid (∀(a:Int),a=((k+1:Nat):Int)→Calls Tryz.prog 150 #[v,.int .i64 a] w fun e V=>e=.returned (.tuple #[.string (saysL (L.drop (k+1))).1,.int .i64 ((k+1+(saysL (L.drop (k+1))).2:Nat):Int)])∧V=w):=by
    intro a ha;subst ha;exact Z (k+1) w (by omega) hL d hR
   have hd:L.drop k=L[k]::L.drop (k+1):=List.drop_eq_getElem_cons J;have ak:=d L[k] (List.getElem_mem _);have Y:=fF (L.drop (k+1)) (fun s h=>(d s (List.mem_of_mem_drop h)).2)
   have G:Hid (saysL (L.drop k)=if L[k].data.toList.head? =some 60 then (ByteArray.empty,0) else (L[k].extract 1 L[k].size++(saysL (L.drop (k+1))).1,(saysL (L.drop (k+1))).2+1)):=by rw[hd];rfl
   obtain⟨b,ac,ab,hv,U,hc⟩:=hR.some' (by omega)
   subst hv;have x0:w.cell? ⟨b,ac+k,none⟩=some (.string L[k]):=by have:=hc k (by simpa using J);rw[this];simp
   clear hc hR Z hd d;generalize L[k]=s at *;generalize saysL (L.drop (k+1))=R at *;have y1:(0:Int)≤(k:Int):=by omega
   have y2:(k:Int)<(L.length:Int):=by omega
   have y3:¬(L.length:Int)≤(k:Int):=by omega
   have hp:0<s.size:=by omega
   rw[jp hp] at G;simp at Y
   cases he:((s[0].toNat:Int)==60)
   ·have Q:¬s[0]=60:=by
     intro h;have:((s[0].toNat:Int)==60)=true:=by rw[h];rfl
     rw[he] at this;cases this
    have I:Hid (saysL (L.drop k)=(s.extract 1 s.size++R.1,R.2+1)):=by unfold Hid;rw[G.out,if_neg (by simpa using Q)]
    have q5:¬9223372036854775807<s.size-1+R.1.size:=by omega
    have q6:¬9223372036854775807<(s.extract 1 s.size).size+R.1.size:=by simp;omega
    clear G Q
    go_enter Tryz.func150,Tryz.ntmps150
    go_wp2_with fail;refine (IH.out _ (by push_cast;rfl)).mono ?_
    rintro e w1 ⟨rfl,rfl⟩;go_wp2_with fail;go_ret2;rw[I.out];exact⟨sV rfl (by push_cast;omega),rfl⟩
   ·have O:s[0]=60:=by
     have h1:(s[0].toNat:Int)=60:=by simpa using he
     exact UInt8.toNat_inj.1 (by have:s[0].toNat=60:=by omega
                                 simpa using this)
    have I:Hid (saysL (L.drop k)=(ByteArray.empty,0)):=by unfold Hid;rw[G.out,if_pos (by simpa using O)]
    clear G O
    go_enter Tryz.func150,Tryz.ntmps150
    go_wp2_with fail;go_ret2;rw[I.out];exact⟨rfl,rfl⟩
set_option maxHeartbeats 1000000 in
theorem i9 (s:Bx.St) (i j:Nat) (p sl en:Value) (w:World) (Y:ChkR s.tab 0 0) (hi:i<s.slots.length) (hl:s.slots.length≤10000) (Z:(Bx.slAt s i).line=(j:Int)+1) (hj:j<tn s.tab) (hS:StAt w s sl en):
 Calls Tryz.prog 149 #[p,stV s sl en,.int .i64 i] w fun e w'=>(∃v,e=.returned v∧RowAt w' v (stepsS s j).length ((stepsS s j).map Value.string))∧Below w.heap.size w w':=by
 obtain⟨V,O,rfl,ax⟩:=hS.sl.form;obtain⟨J,d,rfl,ao⟩:=hS.en.form;have Q:=cw w (stO s (.slice V s.slots.length O) (.slice J s.ends.length d));have hI:=StIn.new w s (.slice V s.slots.length O) (.slice J s.ends.length d);have U:=hS.later Q;have aA:w.heap.size<(w.alloc (stO s (.slice V s.slots.length O) (.slice J s.ends.length d))).heap.size:=by simp
 clear hS;obtain⟨aa,_,G⟩:=Y.lines;have ae:Hid (LineP (tl s.tab j)):=G _ hj;have ag:(tl s.tab j).size≤300:=fD aa _ (by have:=eP s.tab;omega)
 have HT:=Hq Y;have h4:=iX Y;have ab:=Hq Z;clear G Y Z
 go_enter Tryz.func149,Tryz.ntmps149
 go_wp2_with fail;generalize w.alloc (stO s (.slice V s.slots.length O) (.slice J s.ends.length d))=W at *;refine (eQ s _ _ _ HT.out U).mono ?_;rintro e w1 ⟨⟨bl,ar,rfl,hL⟩,I⟩;have ai:=Hq (U.sl.1.later I);have c3:=(hI.later I).c3;have cl:w1.cell? ⟨bl,j,none⟩=some (.string (tl s.tab j)):=hL _ hj;have HB:Hid (Below w.heap.size w w1):=Q.trans (I.mono (by omega))
 obtain⟨b,al,aq,hv,_,hc⟩:=ai.out.some' (by omega)
 cases hv
 have ci:w1.cell? ⟨b,al+i*6+1,none⟩=some (.int .i64 ((j:Int)+1)):=by rw[←ab.out,←slAt_eq s i hi];exact RowAt.cell eo hc i hi 1 (by decide)
 have b1:(0:Int)≤(i:Int):=by omega
 have b2:(i:Int)<(s.slots.length:Int):=by omega
 have b3:(j:Int)<(tn s.tab:Int):=by omega
 clear hI U Q I hL hc;go_wp2_with fail;refine (lr (tl s.tab j) _ ag ae.out).mono ?_;rintro e w2 ⟨⟨v,rfl,hR⟩,ac⟩;obtain⟨az,ay,rfl,_⟩:=hR.form;clear c3 cl ci;go_wp2_with fail;go_ret;exact⟨⟨_,rfl,hR⟩,HB.out.trans (ac.mono HB.out.size)⟩
theorem gU {k n:Int} (h1:0≤k) (h2:k≤255) (d:0≤n) (e:n≤100000):ChOk ⟨k,{data:= #[]},n⟩:=⟨h1,h2,d,by show n≤_;omega,by show 0≤300;decide⟩
set_option maxRecDepth 10000 in
set_option maxHeartbeats 2000000 in
theorem lG (b:Bx.Bo) (B:Nat) (n:Int) (sl en tk:Value) (w:World) (hO:BoOk b) (hB:BoxIn w B b sl en tk):
 Calls Tryz.prog 77 #[.pointer (some ⟨B,0,none⟩),.int .i64 n] w fun e w'=>(∃aD ay aq,e=.returned (.int .i64 (cancelP b n).2)∧BoxIn w' B (cancelP b n).1 aD ay aq∧NewTk w tk aq)∧w.grownBy w' (some B):=by
 obtain⟨Y,I,rfl,aL⟩:=hB.rows.sl.form;obtain⟨G,d,rfl,aF⟩:=hB.rows.en.form;have HB:=Hq hB;have V:=Hq hO;have aP:=hO.st.sl;have aG:=hO.tks
 have HP:Hid (cancelP b n=if Bx.find b.now n<0 then (b,8)
  else if b.room<(b.text.size:Int)+(Bx.frames [chK n]).size then (b,13)
  else ({addB b [chK n] with talks:=hushL (Bx.told b.now [chK n]) b.talks},0)):=rfl
 clear hB hO
 go_enter Tryz.func77,Tryz.ntmps77
 go_wp2_with fail;refine (dW b B _ _ _ _ HB.out).mono ?_;rintro e Q ⟨rfl,U⟩;have af:=cw Q (stO b.now (.slice Y b.now.slots.length I) (.slice G b.now.ends.length d));have ac:Hid (BoxIn (Q.alloc (stO b.now (.slice Y b.now.slots.length I) (.slice G b.now.ends.length d))) B b (.slice Y b.now.slots.length I) (.slice G b.now.ends.length d) tk):=(HB.out.later U).later af;have Z:=Hq (U.trans (af.mono U.size));have HI:Hid (StIn (Q.alloc (stO b.now (.slice Y b.now.slots.length I) (.slice G b.now.ends.length d))) Q.heap.size b.now (.slice Y b.now.slots.length I) (.slice G b.now.ends.length d)):=StIn.new Q b.now _ _;go_upto_region 2 with fail;generalize Q.alloc (stO b.now (.slice Y b.now.slots.length I) (.slice G b.now.ends.length d))=W at *;generalize Q.heap.size=sq at *;clear U af HB;obtain⟨d0,d1,d2,d3,d4⟩:=HI.out;go_wp2_with fail;refine (eW b.now n _ _ _ (by omega) ac.out.rows).mono ?_
 rintro e w4 ⟨rfl,aa⟩;have ak:=Hq (ac.out.later aa);have ag:=Hq (Z.out.trans (aa.mono Z.out.size));clear d0 d1 d2 d3 d4 ac HI Z aa
 by_cases J:Bx.find b.now n<0
 ·have O:Hid (cancelP b n=(b,8)):=by unfold Hid;rw[HP.out,if_pos J]
  go_wp2_with fail;go_ret;rw[O.out];exact⟨⟨_,_,_,rfl,ak.out,Or.inl rfl⟩,dx ag.out _⟩
 rw[if_neg J] at HP
 have aM:1≤n∧n<10000:=by
  have h1:=find_num J;have h2:=V.out.st.each _ (Bx.slAt_mem (Bx.find_lt b.now n J));have h3:=V.out.st.n2;rw[h1] at h2;omega
 have am:=cw w4 (chO (chK n));have ap:=kQ w4 (chK n);have ab:=ak.out.later am;have ae:Hid (w.grownBy (w4.alloc (chO (chK n))) (some B)):=dx (ag.out.trans (am.mono ag.out.size)) _;have ao:∀c∈[chK n],ChOk c:=by intro c hc;simp at hc;subst hc;exact gU (by decide) (by decide) (by omega) (by omega)
 generalize Bx.find b.now n=F at *
 by_cases hF:b.room<(b.text.size:Int)+(Bx.frames [chK n]).size
 ·have O:Hid (cancelP b n=(b,13)):=by unfold Hid;rw[HP.out,if_pos hF]
  go_wp2_with fail;refine (gk b B _ _ _ _ [chK n] _ (by simp) ao V.out.txt hF ap ab).mono ?_
  rintro e w8 ⟨rfl,al⟩;go_wp2_with fail;go_ret;rw[O.out];exact⟨⟨_,_,_,rfl,ab.later al,Or.inl rfl⟩,dz ae.out (dx al _)⟩
 ·have O:Hid (cancelP b n=({addB b [chK n] with talks:=hushL (Bx.told b.now [chK n]) b.talks},0)):=by unfold Hid;rw[HP.out,if_neg hF]
  go_wp2_with fail;refine (fI b B _ _ _ _ [chK n] _ V.out.st (by simp) ao V.out.txt (by omega) ap ab).mono ?_
  rintro e w8 ⟨rfl,⟨aO,aQ,aw⟩,aj⟩;have aI:(Bx.told b.now [chK n]).slots.length≤8:=(Bx.told_ok V.out.st _).sl;go_wp2_with fail;refine (iH (addB b [chK n]) B _ _ _ _ (by show (Bx.told b.now [chK n]).slots.length≤10000;omega) (by show b.talks.length≤1000;omega) aw).mono ?_
  rintro e w9 ⟨rfl,⟨aR,aC,ax⟩,aA⟩;go_wp2_with fail;go_ret;rw[O.out];exact⟨⟨_,_,_,rfl,aC,ax.grow (dz ae.out aj).size⟩,dz (dz ae.out aj) aA⟩
set_option maxRecDepth 10000 in
set_option maxHeartbeats 2000000 in
theorem kX (b:Bx.Bo) (B:Nat) (F:Int) (sl en tk:Value) (w:World) (hO:BoOk b) (aF: -1≤F) (aE:F<b.now.slots.length) (hB:BoxIn w B b sl en tk):
 Calls Tryz.prog 148 #[.pointer (some ⟨B,0,none⟩),stV b.now sl en,.int .i64 F] w fun e w'=>e=.returned (.int .i64 (refusedP b F))∧Below w.heap.size w w':=by
 obtain⟨ad,Y,rfl,aO⟩:=hB.rows.sl.form;obtain⟨U,I,rfl,aI⟩:=hB.rows.en.form;have HB:=Hq hB;have HO:=Hq hO;have aQ:=hO.st.sl
 have G:Hid (refusedP b F=if F<0 then 8 else if (Bx.slAt b.now F.toNat).runs=true then 9 else if b.now.clock<(Bx.slAt b.now F.toNat).frm then 10
  else if Bx.locked b.now F.toNat=true then 11 else if b.limit≤(Bx.running b.now:Int) then 12 else 0):=rfl
 have ae:=cw w (stO b.now (.slice ad b.now.slots.length Y) (.slice U b.now.ends.length I));have HI:Hid (StIn (w.alloc (stO b.now (.slice ad b.now.slots.length Y) (.slice U b.now.ends.length I))) w.heap.size b.now (.slice ad b.now.slots.length Y) (.slice U b.now.ends.length I)):=StIn.new w b.now _ _;have aa:=Hq (HB.out.later ae);have J:=Hq ae;clear hB hO ae HB
 go_enter Tryz.func148,Tryz.ntmps148
 go_upto_region 1 with fail;generalize w.alloc (stO b.now (.slice ad b.now.slots.length Y) (.slice U b.now.ends.length I))=W at *
 by_cases O:F<0
 ·have d:Hid (refusedP b F=8):=by unfold Hid;rw[G.out,if_pos O]
  go_wp2_with fail;go_ret;exact⟨dM d.out.symm,J.out⟩
 rw[if_neg O] at G;obtain⟨i,aH⟩:∃i:Nat,F=i:=Int.eq_ofNat_of_zero_le (by omega)
 subst aH;simp only [Int.toNat_natCast] at G;have hi:i<b.now.slots.length:=by omega
 have av:=HO.out.st.each _ (Bx.slAt_mem hi);obtain⟨j,ak⟩:∃j:Nat,(Bx.slAt b.now i).line=(j:Int)+1:=⟨((Bx.slAt b.now i).line-1).toNat,by omega⟩
 have ax:=Hq ak;have hj:j<tn b.now.tab:=by omega
 clear av ak;have z1:(0:Int)≤(i:Int):=by omega
 have z2:(i:Int)<(b.now.slots.length:Int):=by omega
 have z3:¬(i:Int)<0:=by omega
 obtain⟨b5,aL,aK,aw,_,am⟩:=aa.out.rows.sl.1.some' (by omega)
 cases aw
 obtain⟨y0,y1,y2,y3,y4,y5⟩:=dS am i hi;rw[slAt_eq b.now i hi] at y0 y1 y2 y3 y4 y5;obtain⟨d0,d1,d2,d3,d4⟩:=HI.out;clear am O aF aE y0 y1 y2 y3;have aR:Hid (Bx.slAt b.now i=Bx.slAt b.now i):=rfl
 cases Z:(Bx.slAt b.now i).runs
 ·rw[Z] at y5;rw[if_neg (by rw[Z];simp)] at G
  clear Z
  by_cases hf:b.now.clock<(Bx.slAt b.now i).frm
  ·have d:Hid (refusedP b i=10):=by unfold Hid;rw[G.out,if_pos hf]
   generalize (Bx.slAt b.now i).frm=fr at *;go_wp2_with fail
   go_quiet (fail)
   go_wp2_with fail;go_ret;exact⟨dM d.out.symm,below_drewN J.out _⟩
  ·rw[if_neg hf] at G;go_wp2_with fail
   go_quiet (fail)
   go_wp2_with fail;refine (gG b.now i j _ _ _ HO.out.st.tab (by omega) hi ax.out hj (aa.out.rows.later (below_drewN (Below.refl _ _) nq))).mono ?_
   rintro e w3 ⟨rfl,ao⟩;have Q:Below W.heap.size W w3:=(below_drewN (Below.refl _ _) nq).trans ao;have af:=Hq (aa.out.later Q);have al:=Hq (HI.out.later Q);have ab:=Hq (J.out.trans (Q.mono J.out.size));clear d0 d1 d2 d3 d4 y4 y5 Q ao;obtain⟨d0,d1,d2,d3,d4⟩:=al.out;go_wp2_with fail;refine (kR b.now _ _ _ (by omega) af.out.rows).mono ?_
   rintro e w4 ⟨rfl,ac⟩;have ah:=Hq (ab.out.trans (ac.mono ab.out.size));have c0:=(af.out.later ac).c0;clear d0 d1 d2 d3 d4 af al ab ac
   by_cases V:Bx.locked b.now i=true
   ·have d:Hid (refusedP b i=11):=by unfold Hid;rw[G.out,if_pos V]
    go_wp2_with fail;go_ret;exact⟨dM d.out.symm,ah.out⟩
   ·have aM:Bx.locked b.now i=false:=by simpa using V
    rw[if_neg V] at G;clear V
    by_cases ag:b.limit≤(Bx.running b.now:Int)
    ·have d:Hid (refusedP b i=12):=by unfold Hid;rw[G.out,if_pos ag]
     go_wp2_with fail;go_ret;exact⟨dM d.out.symm,ah.out⟩
    ·have d:Hid (refusedP b i=0):=by unfold Hid;rw[G.out,if_neg ag]
     go_wp2_with fail;go_ret;exact⟨dM d.out.symm,ah.out⟩
 ·rw[Z] at y5;have d:Hid (refusedP b i=9):=by unfold Hid;rw[G.out,if_pos Z]
  clear Z;go_wp2_with fail;go_ret;exact⟨dM d.out.symm,J.out⟩
structure TwoBy (w w':World) (B:Nat) (r:Option Nat):Prop where
 os:w'.os=w.os
 tape:w'.tape=w.tape
 output:w'.output=w.output
 size:w.heap.size≤w'.heap.size
 block:∀k,k<w.heap.size→k≠B→some k≠r→w'.heap[k]? =w.heap[k]?
theorem TwoBy.of_grow {w d:World} {B:Nat} (h:w.grownBy d (some B)) (r:Option Nat):TwoBy w d B r:=
 ⟨h.os,h.tape,h.output,h.size,fun k e G _=>h.block k e (by simpa using G)⟩
theorem TwoBy.of_grow2 {w d:World} {r:Option Nat} (h:w.grownBy d r) (B:Nat):TwoBy w d B r:=
 ⟨h.os,h.tape,h.output,h.size,fun k e _ G=>h.block k e G⟩
theorem TwoBy.trans {w w1 G:World} {B:Nat} {r:Option Nat} (h1:TwoBy w w1 B r) (h2:TwoBy w1 G B r):TwoBy w G B r:=
 ⟨h2.os.trans h1.os,h2.tape.trans h1.tape,h2.output.trans h1.output,Nat.le_trans h1.size h2.size,fun k e I d=>(h2.block k (Nat.lt_of_lt_of_le e h1.size) I d).trans (h1.block k e I d)⟩
theorem BoxIn.grew {w G:World} {B:Nat} {b:Bx.Bo} {sl en tk J:Value} {l:List Bx.Tk} (h:BoxIn w B b sl en tk) (O:w.grownBy G tk.ownBlock) (ho:G.ownsRow (B+1) 220 4 J l.length (l.flatMap tkC)):
 BoxIn (G.setCell ⟨B,8,none⟩ J) B {b with talks:=l} sl en J:=by
 have Y:=h.ty.lt
 have Q:some B≠tk.ownBlock:=by
  intro e;have:=(h.tk.lt B e.symm).1;omega
 have hB:G.heap[B]? =w.heap[B]? :=O.block B Y Q;obtain⟨c0,c1,c2,c3,c4,c5,c6,c7,c8,f,ty,rows,U⟩:=h;have d:∀j u,w.cell? ⟨B,j,none⟩=some u→G.cell? ⟨B,j,none⟩=some u:=fun j u hu=>O.cell hu Q
 have ff:∀j,j<9→G.frozen? ⟨B,j,none⟩=false:=fun j V=>(World.frozen?_of_block (a:=⟨B,j,none⟩) hB).trans (f j V)
 have I:Typed G B 173:=by obtain⟨cur,fr,ht⟩:=ty;exact⟨cur,fr,hB.trans ht⟩
 have d0:=d _ _ c0;have d1:=d _ _ c1;have d2:=d _ _ c2;have Z:=d _ _ c3;have d4:=d _ _ c4;have d5:=d _ _ c5;have d6:=d _ _ c6;have d7:=d _ _ c7;have d8:=d _ _ c8;refine⟨?_,?_,?_,?_,?_,?_,?_,?_,?_,fun j V=>?_,I.setCell _ _ _,⟨(rows.sl.grown U O (by decide)).set I (by decide) _ _,(rows.en.grown U O (by decide)).set I (by decide) _ _⟩,ownsRow_setCell_below ho (by simp) _⟩
 case refine_10=>simp[go_sem,ff j V]
 all_goals simp[go_sem,d0,d1,d2,Z,d4,d5,d6,d7,d8]
theorem rU (L:List ByteArray) (v:Value) (a:Int) (w:World) (I:a=0) (hL:L.length≤100) (G:∀s∈L,2≤s.size∧s.size≤9) (hR:RowAt w v L.length (L.map Value.string)):
 Calls Tryz.prog 150 #[v,.int .i64 a] w fun e d=>e=.returned (.tuple #[.string (saysL L).1,.int .i64 ((saysL L).2:Nat)])∧d=w:=by
 subst I;have:=kC L v L.length 0 w (by omega) hL G hR
 simpa using this
set_option maxRecDepth 10000 in
set_option maxHeartbeats 3000000 in
theorem mL (b:Bx.Bo) (B:Nat) (n:Int) (sl en tk:Value) (w:World) (hO:BoOk b) (hB:BoxIn w B b sl en tk):
 Calls Tryz.prog 112 #[.pointer (some ⟨B,0,none⟩),.int .i64 n] w fun e w'=>(∃bG bX bw,e=.returned (.tuple #[.string (startP b n).2.1,.int .i64 (startP b n).2.2])∧BoxIn w' B (startP b n).1 bG bX bw∧NewTk w tk bw)∧TwoBy w w' B tk.ownBlock:=by
 obtain⟨i0,bK,bN,bY,bH⟩:=info_parts oR;obtain⟨j0,bE,bO,bJ,bZ⟩:=info_parts kd;obtain⟨ad,Z,rfl,ca⟩:=hB.rows.sl.form;obtain⟨Y,O,rfl,b0⟩:=hB.rows.en.form;obtain⟨U,I,rfl,b3⟩:=hB.tkr.form;have HB:=Hq hB;have HO:=Hq hO;have cm:=hO.st.sl;have b2:=hO.tks
 have HP:Hid (startP b n=if ¬refusedP b (Bx.find b.now n)=0 then (b,ByteArray.empty,refusedP b (Bx.find b.now n))
  else if b.room<(b.text.size:Int)+(Bx.frames (startC (startL b n) n)).size then (b,ByteArray.empty,13)
  else ({addB b (startC (startL b n) n) with talks:=if (saysL (startL b n)).2<(startL b n).length then b.talks++[⟨n,((saysL (startL b n)).2:Nat),b.now.clock,{data:= #[]}⟩] else b.talks},(saysL (startL b n)).1,0)):=rfl
 clear hB hO
 go_enter Tryz.func112,Tryz.ntmps112
 go_wp2_with fail;refine (dW b B _ _ _ _ HB.out).mono ?_;rintro e w2 ⟨rfl,aF⟩;have a2:=cw w2 (stO b.now (.slice ad b.now.slots.length Z) (.slice Y b.now.ends.length O));have aY:Hid (BoxIn (w2.alloc (stO b.now (.slice ad b.now.slots.length Z) (.slice Y b.now.ends.length O))) B b (.slice ad b.now.slots.length Z) (.slice Y b.now.ends.length O) (.slice U b.talks.length I)):=(HB.out.later aF).later a2;have aR:=Hq (aF.trans (a2.mono aF.size));have HI:Hid (StIn (w2.alloc (stO b.now (.slice ad b.now.slots.length Z) (.slice Y b.now.ends.length O))) w2.heap.size b.now (.slice ad b.now.slots.length Z) (.slice Y b.now.ends.length O)):=StIn.new w2 b.now _ _;have bs:Hid (Typed (w2.alloc (stO b.now (.slice ad b.now.slots.length Z) (.slice Y b.now.ends.length O))) w2.heap.size 130):=Typed.new _ _ _;go_upto_region 2 with fail;generalize w2.alloc (stO b.now (.slice ad b.now.slots.length Z) (.slice Y b.now.ends.length O))=W at *;generalize w2.heap.size=sq at *;clear aF a2 HB;obtain⟨d0,d1,d2,d3,d4⟩:=HI.out;go_wp2_with fail;refine (eW b.now n _ _ _ (by omega) aY.out.rows).mono ?_
 rintro e w4 ⟨rfl,aj⟩;have a4:=Hq (aY.out.later aj);have aN:=Hq (HI.out.later aj);have aP:=Hq (aR.out.trans (aj.mono aR.out.size));have bu:=Hq (bs.out.later aj);clear d0 d1 d2 d3 d4 aY HI aR aj bs;have a5:=jf b.now n;obtain⟨d0,d1,d2,d3,d4⟩:=aN.out;go_wp2_with fail;refine (kX b B (Bx.find b.now n) _ _ _ _ HO.out a5.1 a5.2 a4.out).mono ?_;rintro e w5 ⟨rfl,ak⟩;have aD:=Hq (a4.out.later ak);have a3:=Hq (aN.out.later ak);have aI:=Hq (aP.out.trans (ak.mono aP.out.size));have bq:=Hq (bu.out.later ak);clear d0 d1 d2 d3 d4 a4 aN aP ak bu
 by_cases d:refusedP b (Bx.find b.now n)=0
 ·have aM:¬Bx.find b.now n<0:=by
   intro h;unfold refusedP at d;rw[if_pos h] at d;cases d
  rw[if_neg (by simpa using d)] at HP
  have hi:=Bx.find_lt b.now n aM;have aO:=find_num aM;have bk:=HO.out.st.each _ (Bx.slAt_mem hi);have ck:=HO.out.st.n2;obtain⟨j,aS⟩:∃j:Nat,(Bx.slAt b.now (Bx.find b.now n).toNat).line=(j:Int)+1:=⟨((Bx.slAt b.now (Bx.find b.now n).toNat).line-1).toNat,by omega⟩
  have aU:=Hq aS;have hj:j<tn b.now.tab:=by omega
  have HL:Hid (startL b n=stepsS b.now j):=by unfold Hid startL;rw[aS,show ((j:Int)+1-1).toNat=j by omega]
  have cp:1≤n∧n<10000:=by rw[aO] at bk;omega
  clear bk aS aO;obtain⟨i,bv⟩:∃i:Nat,Bx.find b.now n=i:=Int.eq_ofNat_of_zero_le (by omega)
  rw[bv] at hi aU d ⊢;simp only [Int.toNat_natCast] at hi aU;have cd:refusedP b i=0:=d;clear a5 aM bv d;obtain⟨d0,d1,d2,d3,d4⟩:=a3.out;go_wp2_with fail;refine (i9 b.now i j _ _ _ _ HO.out.st.tab hi (by omega) aU.out hj aD.out.rows).mono ?_
  rintro e w6 ⟨⟨v6,rfl,aV⟩,ax⟩;obtain⟨co,ci,rfl,_⟩:=aV.form;have av:=Hq (aD.out.later ax);have aW:=Hq (a3.out.later ax);have af:=Hq (aI.out.trans (ax.mono aI.out.size));have bC:=Hq (bq.out.later ax);have a7:=HO.out.st.tab.lines.2.2 j hj;have aE:=ik a7;have bD:=eS a7
  change ∀s∈stepsS b.now j,2≤s.size∧s.size≤9 at aE
  change 1≤(stepsS b.now j).length∧(stepsS b.now j).length≤5 at bD
  rw[HL.out] at HP;have cl:=(fF (stepsS b.now j) (fun s h=>(aE s h).2)).2
  clear d0 d1 d2 d3 d4 aD a3 aI ax bq a7;go_wp2_with fail;refine (rU (stepsS b.now j) _ _ _ rfl (by omega) aE aV).mono ?_
  rintro e w7 ⟨rfl,bS⟩;subst bS;clear aE aV HL;generalize stepsS b.now j=L at *;generalize bj:saysL L=R at *;have HC:Hid (startC L n=if R.2=L.length then [chS n]++[chD n] else [chS n]):=by unfold Hid startC;rw[bj]
  clear bj;have ae:=cw w7 (.cells #[.int .u8 83,.string {data:= #[]},.int .i64 n] 178);have al:=Hq (av.out.later ae);have am:=Hq (af.out.trans (ae.mono af.out.size));have aX:=Hq (aW.out.later ae);have aH:Hid ((w7.alloc (.cells #[.int .u8 83,.string {data:= #[]},.int .i64 n] 178)).ownsRow w7.heap.size 178 3 (.slice (some ⟨w7.heap.size,0,none⟩) 1 1) [chS n].length ([chS n].flatMap chC)):=nY w7 (chS n);have bF:w7.heap.size≤(w7.alloc (.cells #[.int .u8 83,.string {data:= #[]},.int .i64 n] 178)).heap.size:=by simp
  go_upto_region 9 with fail;generalize w7.alloc (.cells #[.int .u8 83,.string {data:= #[]},.int .i64 n] 178)=W8 at *
  have bU:Hid (¬sq=B):=by
   intro e;obtain⟨_,_,t1⟩:=bC.out;obtain⟨_,_,t2⟩:=av.out.ty;rw[e,t2] at t1;cases t1
  generalize bo:w7.heap.size=q8 at *;have bM:=Hq bo;clear bo
  by_cases ap:R.2=L.length
  ·rw[if_pos ap] at HC;rw[HC.out] at HP;have z1:(((R.2:Nat):Int)==(L.length:Int))=true:=by simp[ap]
   have z2:¬((R.2:Nat):Int)<(L.length:Int):=by omega
   have aL:¬R.2<L.length:=by omega
   rw[if_neg aL] at HP
   have aq:∀c∈[chS n]++[chD n],ChOk c:=by
    intro c hc;simp at hc
    rcases hc with rfl|rfl
    ·exact gU (by decide) (by decide) (by omega) (by omega)
    ·exact gU (by decide) (by decide) (by omega) (by omega)
   clear ap aL HC;have aA:=aH.out;go_wp2_with (at_builtin;refine wpList_append_lies _ rfl (.tmp 42) (.tmp 45) 179 rfl q8 178 i0 (.agg #[.int .u8 0,.string ByteArray.empty,.int .i64 0]) 3 32 Tryz.underlying179 bK bN bY bH rfl (by decide) _ _ _ rfl (aA.alloc _) ⟨W8.heap.size,0,none⟩ 1 1 (chC (chD n)) rfl rfl (kU _ (chD n) _) (lO (chD n)) (by decide) ?c3 ?c4 ?c5 _ rfl ?_)
   case c3=>unfold maxLen;simp
   case c5=>first |omega|exact gE bF _
   ·intro g ah J aB aJ _ b9;have bh:Below q8 W8 J:=((Below.refl q8 W8).alloc (by omega) _).grown aJ (by simp;omega) (fun k' e=>(aA.lt k' e).1)
    have aT:Below w7.heap.size w7 J:=by rw[bM.out];exact ae.trans bh
    have ar:=Hq (av.out.later aT);have a8:=Hq (af.out.trans (aT.mono af.out.size));have ag:TRow J 178 (.slice (some ⟨g,0,none⟩) ([chS n].length+1) ah) ([chS n]++[chD n]).length (([chS n]++[chD n]).flatMap chC):=TRow.of_own (by simpa using aB)
    clear aB aJ aA bh aT al am aX aH ae av af aW
    by_cases hF:b.room<(b.text.size:Int)+(Bx.frames ([chS n]++[chD n])).size
    ·have Q:Hid (startP b n=(b,ByteArray.empty,13)):=by unfold Hid;rw[HP.out,if_pos hF]
     go_wp2_with fail;refine (gk b B _ _ _ _ ([chS n]++[chD n]) _ (by simp) aq HO.out.txt hF ag ar.out).mono ?_
     rintro e w8 ⟨rfl,ao⟩;go_wp2_with fail;go_ret2;rw[Q.out];exact⟨⟨_,_,_,rfl,ar.out.later ao,Or.inl rfl⟩,TwoBy.of_grow (dx (a8.out.trans (ao.mono a8.out.size)) _) _⟩
    ·have Q:Hid (startP b n=(addB b ([chS n]++[chD n]),R.1,0)):=by unfold Hid;rw[HP.out,if_neg hF];rfl
     go_wp2_with fail;refine (fI b B _ _ _ _ ([chS n]++[chD n]) _ HO.out.st (by simp) aq HO.out.txt (by omega) ag ar.out).mono ?_
     rintro e aG ⟨rfl,⟨bt,bn,V⟩,aw⟩;go_wp2_with fail;go_ret2;rw[Q.out];exact⟨⟨_,_,_,rfl,V,Or.inl rfl⟩,TwoBy.of_grow (dz (dx a8.out _) aw) _⟩
  ·rw[if_neg ap] at HC;rw[HC.out] at HP;have z1:(((R.2:Nat):Int)==(L.length:Int))=false:=by simp;omega
   have z2:((R.2:Nat):Int)<(L.length:Int):=by omega
   have a9:R.2<L.length:=by omega
   rw[if_pos a9] at HP
   have aq:∀c∈[chS n],ChOk c:=by
    intro c hc;simp at hc;subst hc;exact gU (by decide) (by decide) (by omega) (by omega)
   have ag:TRow W8 178 (.slice (some ⟨q8,0,none⟩) 1 1) [chS n].length ([chS n].flatMap chC):=TRow.of_own aH.out;clear ap a9 HC
   by_cases hF:b.room<(b.text.size:Int)+(Bx.frames [chS n]).size
   ·have Q:Hid (startP b n=(b,ByteArray.empty,13)):=by unfold Hid;rw[HP.out,if_pos hF]
    go_wp2_with fail;refine (gk b B _ _ _ _ [chS n] _ (by simp) aq HO.out.txt hF ag al.out).mono ?_
    rintro e w8 ⟨rfl,ao⟩;go_wp2_with fail;go_ret2;rw[Q.out];exact⟨⟨_,_,_,rfl,al.out.later ao,Or.inl rfl⟩,TwoBy.of_grow (dx (am.out.trans (ao.mono am.out.size)) _) _⟩
   ·have Q:Hid (startP b n=({addB b [chS n] with talks:=b.talks++[⟨n,((R.2:Nat):Int),b.now.clock,{data:= #[]}⟩]},R.1,0)):=by unfold Hid;rw[HP.out,if_neg hF]
    go_wp2_with fail;refine (fI b B _ _ _ _ [chS n] _ HO.out.st (by simp) aq HO.out.txt (by omega) ag al.out).mono ?_
    rintro e J ⟨rfl,⟨bt,bn,V⟩,aw⟩;have d1:J.cell? ⟨sq,1,none⟩=some (.int .i64 b.now.clock):=aw.cell aX.out.c1 (by have:=bU.out;simpa using this)
    have ar:=Hq V;have bm:Hid (TwoBy w J B (Value.slice U b.talks.length I).ownBlock):=TwoBy.of_grow (dz (dx am.out _) aw) _;have c8:=V.c8;have f8:=V.f 8 (by decide)
    have bp:B<J.heap.size:=V.ty.lt;have cn:sq<J.heap.size:=World.block_lt_of_cell? _ _ d1;have aC:=V.tk;have bW:b.talks.length+1≤maxLen:=by unfold maxLen;omega
    have bR:(b.talks.length+1)*40≤140737488355328:=by omega
    have bx:some B≠(Value.slice U b.talks.length I).ownBlock:=by
     intro e;have:=(aC.lt B e.symm).1;omega
    clear V aw al am aX aH ae av af aW ag;go_wp2_with fail
    go_region_law ((refine step_append_lies _ rfl (.tmp 60) (.tmp 66) 171 rfl (B+1) 220 j0 (.agg #[.int .i64 0,.int .i64 0,.int .i64 0,.string ByteArray.empty]) 4 40 Tryz.underlying171 bE bO bJ bZ rfl (by decide) (.slice U b.talks.length I) _ _ rfl (World.ownsRow.drew (aC.alloc _)) ⟨J.heap.size,0,none⟩ 1 1 (tkC ⟨n,((R.2:Nat):Int),b.now.clock,{data:= #[]}⟩) rfl rfl (fun j u hj=>l0 J ⟨n,((R.2:Nat):Int),b.now.clock,{data:= #[]}⟩ _ j u hj) (lT _) (by decide) bW bR (by show B+1≤(J.alloc _).heap.size;simp;omega) _ rfl ?_;intro g ah aG au G br b4;have bL:Hid ((Value.slice U b.talks.length I).ownBlock=some g∨J.heap.size≤g):=br.imp id (fun e=>by rw[e];exact gE (Nat.le_refl _) _);clear br;have e8:aG.cell? ⟨B,8,none⟩=some (.slice U b.talks.length I):=G.cell (a:=⟨B,8,none⟩) (cell_later (cw J _).drew c8) bx;have g8:aG.frozen? ⟨B,8,none⟩=false:=(G.frozen_far ⟨B,8,none⟩ (Nat.lt_of_lt_of_le bp (gE (Nat.le_refl _) _)) bx).trans (((cw J _).drew.frozen (p:=⟨B,8,none⟩) bp).trans f8)))
    all_goals
     have HN:Hid (BoxIn _ B {addB b [chS n] with talks:=b.talks++[⟨n,((R.2:Nat):Int),b.now.clock,{data:= #[]}⟩]} bt bn (.slice (some ⟨g,0,none⟩) (b.talks.length+1) ah)):=BoxIn.grew (ar.out.later (cw J _).drew) G (by simpa using au)
     have bT:Hid (TwoBy w aG B (Value.slice U b.talks.length I).ownBlock):=(bm.out.trans (TwoBy.of_grow (dx (cw J _).drew _) _)).trans (TwoBy.of_grow2 G B);have bP:Hid (NewTk w (.slice U b.talks.length I) (.slice (some ⟨g,0,none⟩) (b.talks.length+1) ah)):=bL.out.elim (fun e=>Or.inl e.symm) (fun e=>Or.inr fun g' e'=>by cases e';exact Nat.le_trans bm.out.size e)
     clear au G;go_wp2_with fail;go_ret2;rw[Q.out];exact⟨⟨rfl,_,_,_,HN.out,bP.out⟩,bT.out.trans (TwoBy.of_grow (dI (eD _ _) _ _) _)⟩
 ·have Q:Hid (startP b n=(b,ByteArray.empty,refusedP b (Bx.find b.now n))):=by unfold Hid;rw[HP.out,if_pos d]
  have z0:(refusedP b (Bx.find b.now n) !=0)=true:=by simpa using d
  clear d;go_wp2_with fail;go_ret2;rw[Q.out];exact⟨⟨_,_,_,rfl,aD.out,Or.inl rfl⟩,TwoBy.of_grow (dx aI.out _) _⟩
set_option maxHeartbeats 1000000 in
theorem mE (t u:ByteArray) (w:World) (ht:t.size≤1000000000000000000) (hu:u.size≤1000) (ad:0<u.size):
 Calls Tryz.prog 184 #[.string t,.string u] w fun e w'=>e=.returned (.tuple #[.string (behS t u),.bool (behB t u)])∧w'=w:=by
 go_enter Tryz.func184,Tryz.ntmps184
 go_wp2_with fail
 go_loop [0] (fun v=>∃y:ByteArray,v=.string y∧y.size≤1000000000000000000∧behL u.data.toList y.data.toList=behL u.data.toList t.data.toList) (fun v=>strSize v)
 case atStart=>exact⟨t,rfl,ht,rfl⟩
 case round=>
  obtain⟨y,rfl,hy,U⟩:=hrel;have J:=Hq U;clear U
  by_cases ae:u.size≤y.size
  ·have z1:(u.size:Int)≤(y.size:Int):=by omega
   have G:u.data.toList.length=u.size:=by simp
   have d:y.data.toList.length=y.size:=by simp
   cases Y:((y.extract 0 u.size).toList==u.toList)
   ·have I:u.data.toList.isPrefixOf y.data.toList=false:=by
     cases Z:u.data.toList.isPrefixOf y.data.toList
     ·rfl
     ·have h1:=List.prefix_iff_eq_take.1 (List.isPrefixOf_iff_prefix.1 Z)
      have h2:(y.extract 0 u.size).toList=u.toList:=by
       rw[ByteArray.toList_eq,ByteArray.toList_eq,eg,List.drop_zero,Nat.sub_zero,←G,←h1]
      rw[h2] at Y;simp at Y
    have Q:Hid (behL u.data.toList (y.extract 1 y.size).data.toList=behL u.data.toList t.data.toList):=by
     unfold Hid;rw[←J.out,eg]
     cases V:y.data.toList with
     | nil=>rw[V] at d;simp at d;omega
     | cons a r=>
       rw[V] at I d;rw[ig I]
       congr 1
       simp at d
       rw[List.drop_one,List.tail_cons,List.take_of_length_le (by omega)]
    clear I G d;go_wp2_with fail
    go_round
    case rel=>exact⟨_,rfl,by simp;omega,Q.out⟩
    case measure=>simp[strSize];omega
   ·have I:u.data.toList.isPrefixOf y.data.toList=true:=by
     have h2:(y.extract 0 u.size).toList=u.toList:=by simpa using Y
     rw[ByteArray.toList_eq,ByteArray.toList_eq,eg,List.drop_zero,Nat.sub_zero] at h2;rw[List.isPrefixOf_iff_prefix,List.prefix_iff_eq_take,G];exact h2.symm
    have Q:Hid (behL u.data.toList t.data.toList=some (y.data.toList.drop u.size)):=by
     unfold Hid;rw[←J.out,kO I,G]
    have O:Hid (behS t u=y.extract u.size y.size∧behB t u=true):=by
     unfold Hid behS behB;rw[Q.out];refine⟨?_,rfl⟩
     apply ByteArray.ext
     apply Array.toList_inj.1
     rw[eg]
     show (y.data.toList.drop u.size)=_
     rw[List.take_of_length_le (by rw[List.length_drop,d];omega)]
    clear I G d Q;go_wp2_with fail;go_ret2;rw[O.out.1,O.out.2];exact⟨rfl,rfl⟩
  ·have z1:¬(u.size:Int)≤(y.size:Int):=by omega
   have O:Hid (behS t u=ByteArray.empty∧behB t u=false):=by
    unfold Hid behS behB;rw[←J.out,gD (by simp;omega)]
    exact⟨rfl,rfl⟩
   go_wp2_with fail;go_ret2;rw[O.out.1,O.out.2];exact⟨rfl,rfl⟩
abbrev tkV (t:Bx.Tk):Value:=.agg #[.int .i64 t.num,.int .i64 t.at',.int .i64 t.since,.string t.heard]
structure RkIn (W:World) (q:Nat) (t:Bx.Tk):Prop where
 c0:W.cell? ⟨q,0,none⟩=some (.int .i64 t.num)
 c1:W.cell? ⟨q,1,none⟩=some (.int .i64 t.at')
 c2:W.cell? ⟨q,2,none⟩=some (.int .i64 t.since)
 c3:W.cell? ⟨q,3,none⟩=some (.string t.heard)
set_option maxRecDepth 10000 in
set_option maxHeartbeats 2000000 in
theorem pg (L:List ByteArray) (v:Value) (c:Int) (ao:L.length≤100) (hL:∀s∈L,2≤s.size∧s.size≤9) (n:Nat):n≤1000→∀(t:Bx.Tk) (a:Nat) (w:World),t.at'=(a:Int)→a≤L.length→L.length-a≤n→t.heard.size≤1000000000000000000→RowAt w v L.length (L.map Value.string)→
 Calls Tryz.prog 151 #[tkV t,v,.int .i64 c] w fun e U=>e=.returned (.tuple #[tkV (hearF L c n t).1,.string (hearF L c n t).2])∧Below w.heap.size w U:=by
 induction n with
 | zero=>
   intro aM t a w ae ha hn hh hR;obtain⟨ad,J,rfl,ah⟩:=hR.form;obtain⟨tn,ag,G,d⟩:=t
   dsimp only at *
   have q1:(L.length:Int)≤ag:=by omega
   clear hR hL ae
   go_enter Tryz.func151,Tryz.ntmps151
   go_wp2_with fail;exact bodyPost_ret (v:=.tuple #[tkV ⟨tn,ag,G,d⟩,.string ByteArray.empty]) (by simp[results,Tryz.results151,go_sem];rfl) rfl ⟨rfl,(cw _ _).alloc (by simp) _⟩
 | succ n ih=>
   intro aM t a w ae ha hn hh hR;obtain⟨tn,ag,G,d⟩:=t
   dsimp only at *
   subst ae
   have Q:Hid (hearF L c (n+1) ⟨tn,(a:Int),G,d⟩=if (L.length:Int)≤(a:Int) then (⟨tn,(a:Int),G,d⟩,ByteArray.empty) else if behB d (wordAt L a)=false then (⟨tn,(a:Int),G,d⟩,ByteArray.empty)
    else ((hearF L c n ⟨tn,((a+1+(saysL (L.drop (a+1))).2:Nat):Int),c,behS d (wordAt L a)⟩).1,(saysL (L.drop (a+1))).1++(hearF L c n ⟨tn,((a+1+(saysL (L.drop (a+1))).2:Nat):Int),c,behS d (wordAt L a)⟩).2)):=rfl
   by_cases I:a<L.length
   ·rw[if_neg (by omega)] at Q
    have a4:=hL L[a] (List.getElem_mem _)
    have HB:Hid (∀W:World,Calls Tryz.prog 184 #[.string d,.string (L[a].extract 1 L[a].size)] W fun e U=>e=.returned (.tuple #[.string (behS d (wordAt L a)),.bool (behB d (wordAt L a))])∧U=W):=by
     intro W;rw[gl I];exact mE d (wordAt L a) W hh (by rw[←gl I];simp;omega) (by rw[←gl I];simp;omega)
    obtain⟨b,aa,J,hv,ah,hc⟩:=hR.some' (by omega)
    subst hv;have x0:w.cell? ⟨b,aa+a,none⟩=some (.string L[a]):=by have:=hc a (by simpa using I);rw[this];simp
    have a6:b<w.heap.size:=World.block_lt_of_cell? _ _ x0;have HR:=Hq hR;have a3:=hV d (wordAt L a);have y1:(0:Int)≤(a:Int):=by omega
    have y2:(a:Int)<(L.length:Int):=by omega
    have y3:¬(L.length:Int)≤(a:Int):=by omega
    have hp:1≤L[a].size:=by omega
    clear hc hR
    go_enter Tryz.func151,Tryz.ntmps151
    go_wp2_with fail
    go_quiet ((go_at_call 184;exact Calls.quiet_of_same (HB.out _)))
    have af:Below w.heap.size w (((w.alloc (.cells #[.int .i64 tn,.int .i64 (a:Int),.int .i64 G,.string d] 220)).alloc (.cells #[.int .i64 0,.int .i64 0,.int .i64 0,.string {data:= #[]}] 220)).drewN nq):=below_drewN ((cw _ _).alloc (by simp) _) _
    have HZ:Hid (ZIn (((w.alloc (.cells #[.int .i64 tn,.int .i64 (a:Int),.int .i64 G,.string d] 220)).alloc (.cells #[.int .i64 0,.int .i64 0,.int .i64 0,.string {data:= #[]}] 220)).drewN nq) (w.heap.size+1) 4):=by
     have h:=ZIn.new (w.alloc (.cells #[.int .i64 tn,.int .i64 (a:Int),.int .i64 G,.string d] 220)) #[.int .i64 0,.int .i64 0,.int .i64 0,.string {data:= #[]}] 220;have h2:=h.later (by simp) (below_drewN (Below.refl _ _) nq)
     unfold Hid;simpa using h2
    have HT:Hid (RkIn (((w.alloc (.cells #[.int .i64 tn,.int .i64 (a:Int),.int .i64 G,.string d] 220)).alloc (.cells #[.int .i64 0,.int .i64 0,.int .i64 0,.string {data:= #[]}] 220)).drewN nq) w.heap.size ⟨tn,(a:Int),G,d⟩):=⟨by simp[go_sem],by simp[go_sem],by simp[go_sem],by simp[go_sem]⟩
    have aA:w.heap.size+1<(((w.alloc (.cells #[.int .i64 tn,.int .i64 (a:Int),.int .i64 G,.string d] 220)).alloc (.cells #[.int .i64 0,.int .i64 0,.int .i64 0,.string {data:= #[]}] 220)).drewN nq).heap.size:=by simp
    generalize ((w.alloc (.cells #[.int .i64 tn,.int .i64 (a:Int),.int .i64 G,.string d] 220)).alloc (.cells #[.int .i64 0,.int .i64 0,.int .i64 0,.string {data:= #[]}] 220)).drewN nq=W at *;have ai:=Hq af;have aq:=Hq (HR.out.later af);obtain⟨t0,t1,t2,t3⟩:=HT.out;obtain⟨⟨u0,r0⟩,f0⟩:=HZ.out 0 (by decide)
    obtain⟨⟨u1,r1⟩,f1⟩:=HZ.out 1 (by decide)
    obtain⟨⟨u2,r2⟩,f2⟩:=HZ.out 2 (by decide)
    obtain⟨⟨u3,r3⟩,f3⟩:=HZ.out 3 (by decide)
    clear x0 HB af;generalize behS d (wordAt L a)=rest at *
    cases al:behB d (wordAt L a)
    ·rw[if_pos al] at Q;go_wp2_with fail;refine bodyPost_ret (v:=.tuple #[tkV ⟨tn,(a:Int),G,d⟩,.string ByteArray.empty]) (by simp[results,Tryz.results151,go_sem,r0,r1,r2,r3];rfl) rfl ?_
     rw[Q.out];refine⟨rfl,?_⟩
     repeat (refine Below.setCell ?_ (by simp) _)
     exact ai.out
    ·rw[if_neg (by rw[al];simp)] at Q
     have aE:Hid (∀(x:Int),x=((a+1:Nat):Int)→Calls Tryz.prog 150 #[.slice (some ⟨b,aa,none⟩) L.length J,.int .i64 x] W fun e U=>e=.returned (.tuple #[.string (saysL (L.drop (a+1))).1,.int .i64 ((a+1+(saysL (L.drop (a+1))).2:Nat):Int)])∧U=W):=by
      intro x hx;subst hx;exact kC L _ (L.length-(a+1)) (a+1) W (by omega) ao hL aq.out
     have aF:=fF (L.drop (a+1)) (fun s h=>(hL s (List.mem_of_mem_drop h)).2)
     have a5:=mT L c (fun s h=>(hL s h).2) ao n ⟨tn,((a+1+(saysL (L.drop (a+1))).2:Nat):Int),c,rest⟩
     simp at aF
     have aB:Hid (∀(x:Int) (W':World),x=((a+1+(saysL (L.drop (a+1))).2:Nat):Int)→RowAt W' (.slice (some ⟨b,aa,none⟩) L.length J) L.length (L.map Value.string)→Calls Tryz.prog 151 #[.agg #[.int .i64 tn,.int .i64 x,.int .i64 c,.string rest],.slice (some ⟨b,aa,none⟩) L.length J,.int .i64 c] W' fun e U=>e=.returned (.tuple #[tkV (hearF L c n ⟨tn,((a+1+(saysL (L.drop (a+1))).2:Nat):Int),c,rest⟩).1,.string (hearF L c n ⟨tn,((a+1+(saysL (L.drop (a+1))).2:Nat):Int),c,rest⟩).2])∧Below W'.heap.size W' U):=by
      intro x W' hx aN;subst hx;exact ih (by omega) ⟨tn,((a+1+(saysL (L.drop (a+1))).2:Nat):Int),c,rest⟩ (a+1+(saysL (L.drop (a+1))).2) W' rfl (by omega) (by omega) (by show rest.size≤1000000000000000000;omega) aN
     clear ih hL;generalize hearF L c n ⟨tn,((a+1+(saysL (L.drop (a+1))).2:Nat):Int),c,rest⟩=V at *;generalize saysL (L.drop (a+1))=S at *;go_wp2_with fail;refine (aE.out _ (by push_cast;rfl)).mono ?_
     rintro e w3 ⟨rfl,aC⟩;subst aC;have Y:=cw w3 (.cells #[.int .i64 tn,.int .i64 ((a+1+S.2:Nat):Int),.int .i64 c,.string rest] 220);have am:=Hq (aq.out.later Y);have ap:Hid (ZIn _ (w.heap.size+1) 4):=HZ.out.later aA Y;have ac:=Hq (ai.out.trans (Y.mono ai.out.size));clear t0 t1 t2 t3 r0 r1 r2 r3 f0 f1 f2 f3 Y;obtain⟨t0,t1,t2,t3⟩:=HT.out;go_wp2_with fail;refine (aB.out _ _ (by first |rfl|(push_cast;rfl)) am.out).mono ?_
     rintro e w5 ⟨rfl,Z⟩;have O:=ap.out.later (by simp;omega) Z
     have az:=Hq (ac.out.trans (Z.mono ac.out.size));have aK:w.heap.size+1<w5.heap.size:=by have:=Z.size;simp at this;omega
     obtain⟨⟨u0,r0⟩,f0⟩:=O 0 (by decide)
     obtain⟨⟨u1,r1⟩,f1⟩:=O 1 (by decide)
     obtain⟨⟨u2,r2⟩,f2⟩:=O 2 (by decide)
     obtain⟨⟨u3,r3⟩,f3⟩:=O 3 (by decide)
     have q9:¬9223372036854775807<S.1.size+V.2.size:=by omega
     clear t0 t1 t2 t3 Z O ap am ac;go_wp2_with fail;refine bodyPost_ret (v:=.tuple #[tkV V.1,.string (S.1++V.2)]) (by simp[results,Tryz.results151,go_sem,r0,r1,r2,r3,aK]) rfl ?_
     rw[Q.out];refine⟨rfl,Below.alloc ?_ (by simp;omega) _⟩
     repeat (refine Below.setCell ?_ (by simp) _)
     exact az.out
   ·have aH:a=L.length:=by omega
    rw[if_pos (by omega)] at Q
    obtain⟨ad,J,rfl,ah⟩:=hR.form;have q1:(L.length:Int)≤(a:Int):=by omega
    clear hR hL ih aH I
    go_enter Tryz.func151,Tryz.ntmps151
    go_wp2_with fail;refine bodyPost_ret (v:=.tuple #[tkV ⟨tn,(a:Int),G,d⟩,.string ByteArray.empty]) (by simp[results,Tryz.results151,go_sem];rfl) rfl ?_
    rw[Q.out];exact⟨rfl,(cw _ _).alloc (by simp) _⟩
end Go.Proofs.YtdajolpoiffimabGreatDoor
