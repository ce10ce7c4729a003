import Derived.Deep.RegionLaw
import Derived.Test.YtdajolpoiffimabGreatDoorA9

namespace Go.Proofs.YtdajolpoiffimabGreatDoor
open Go.RowKit
set_option maxHeartbeats 0 in
theorem lK (l:ByteArray) (w:World) (O:l.size≤300) (G:LineP l):
 Calls Tryz.prog 183 #[.string l] w fun e I=>(∃v,e=.returned v∧RowAt I v (stepsOf l).length ((stepsOf l).map Value.string))∧Below w.heap.size w I:=by
 have h7:=G.n7;have Y:=G.n11;clear G
 go_enter Tryz.func183,Tryz.ntmps183
 go_wp2_with fail;refine (eO _ _ _ O).mono ?_;rintro e w1 ⟨⟨b,d,rfl,V,Q,hS⟩,hb⟩;have J:=Hq hS;have Z:(6:Int)≤((Txt.pcs 32 l).length:Int):=by omega
 have q2:6≤(Txt.pcs 32 l).length:=by omega
 have q3:¬d=6:=by omega
 have q4:6<d:=by omega
 clear hS;go_wp2_with fail;go_ret;refine⟨⟨_,rfl,Or.inr ⟨b,6,d-6,?_,?_,fun j U=>?_⟩⟩,hb⟩
 ·simp[stepsOf]
 ·simp[stepsOf];omega
 ·simp[stepsOf] at U
  have h2:6+j<(Txt.pcs 32 l).length:=by omega
  have:=J.out (6+j) h2;rw[this];simp[stepsOf]
theorem sX {a b:ByteArray}{x y:Int} (h1:a=b) (h2:x=y):Ending.returned (.tuple #[.string a,.int .i64 x])=.returned (.tuple #[.string b,.int .i64 y]):=by rw[h1,h2]
set_option maxHeartbeats 0 in
theorem kP (L:List ByteArray) (v:Value) (n:Nat):∀(k:Nat) (w:World),k+n=L.length→L.length≤100→(∀s∈L,2≤s.size∧s.size≤9)→RowAt w v L.length (L.map Value.string)→
 Calls Tryz.prog 150 #[v,.int .i64 k] w fun e V=>e=.returned (.tuple #[.string (saysL (L.drop k)).1,.int .i64 ((k+(saysL (L.drop k)).2:Nat):Int)])∧V=w:=by
 induction n with
 | zero=>
   intro k w hk hL d hR;obtain⟨ad,ab,rfl,U⟩:=hR.form;have hd:L.drop k=[]:=List.drop_eq_nil_of_le (by omega)
   rw[hd];have q1:(L.length:Int)≤(k:Int):=by omega
   clear hR d
   go_enter Tryz.func150,Tryz.ntmps150
   go_wp2_with fail;go_ret2;exact⟨by simp[saysL];rfl,rfl⟩
 | succ n Z=>
   intro k w hk hL d hR;have O:k<L.length:=by omega
   have IH:Hid (∀(a:Int),a=((k+1:Nat):Int)→Calls Tryz.prog 150 #[v,.int .i64 a] w fun e V=>e=.returned (.tuple #[.string (saysL (L.drop (k+1))).1,.int .i64 ((k+1+(saysL (L.drop (k+1))).2:Nat):Int)])∧V=w):=by
    intro a ha;subst ha;exact Z (k+1) w (by omega) hL d hR
   have hd:L.drop k=L[k]::L.drop (k+1):=List.drop_eq_getElem_cons O;have ak:=d L[k] (List.getElem_mem _);have ac:=fI (L.drop (k+1)) (fun s h=>(d s (List.mem_of_mem_drop h)).2)
   have G:Hid (saysL (L.drop k)=if L[k].data.toList.head? =some 60 then (ByteArray.empty,0) else (L[k].extract 1 L[k].size++(saysL (L.drop (k+1))).1,(saysL (L.drop (k+1))).2+1)):=by rw[hd];rfl
   obtain⟨b,ae,ab,hv,U,Y⟩:=hR.some' (by omega)
   subst hv;have x0:w.cell? ⟨b,ae+k,none⟩=some (.string L[k]):=by have:=Y k (by simpa using O);rw[this];simp
   clear Y hR Z hd d;generalize L[k]=s at *;generalize saysL (L.drop (k+1))=R at *;have y1:(0:Int)≤(k:Int):=by omega
   have y2:(k:Int)<(L.length:Int):=by omega
   have y3:¬(L.length:Int)≤(k:Int):=by omega
   have hp:0<s.size:=by omega
   rw[jw hp] at G;simp at ac
   cases he:((s[0].toNat:Int)==60)
   ·have Q:¬s[0]=60:=by
     intro h;have:((s[0].toNat:Int)==60)=true:=by rw[h];rfl
     rw[he] at this;cases this
    have I:Hid (saysL (L.drop k)=(s.extract 1 s.size++R.1,R.2+1)):=by unfold Hid;rw[G.out,if_neg (by simpa using Q)]
    have q5:¬9223372036854775807<s.size-1+R.1.size:=by omega
    have q6:¬9223372036854775807<(s.extract 1 s.size).size+R.1.size:=by simp;omega
    clear G Q
    go_enter Tryz.func150,Tryz.ntmps150
    go_wp2_with fail;refine (IH.out _ (by push_cast;rfl)).mono ?_
    rintro e w1 ⟨rfl,rfl⟩;go_wp2_with fail;go_ret2;rw[I.out];exact⟨sX rfl (by push_cast;omega),rfl⟩
   ·have J:s[0]=60:=by
     have h1:(s[0].toNat:Int)=60:=by simpa using he
     exact UInt8.toNat_inj.1 (by have:s[0].toNat=60:=by omega
                                 simpa using this)
    have I:Hid (saysL (L.drop k)=(ByteArray.empty,0)):=by unfold Hid;rw[G.out,if_pos (by simpa using J)]
    clear G J
    go_enter Tryz.func150,Tryz.ntmps150
    go_wp2_with fail;go_ret2;rw[I.out];exact⟨rfl,rfl⟩
set_option maxHeartbeats 0 in
theorem je (s:Bx.St) (i j:Nat) (p sl en:Value) (w:World) (Y:ChkR s.tab 0 0) (hi:i<s.slots.length) (hl:s.slots.length≤10000) (Z:(Bx.slAt s i).line=(j:Int)+1) (hj:j<tn s.tab) (hS:StAt w s sl en):
 Calls Tryz.prog 149 #[p,stV s sl en,.int .i64 i] w fun e w'=>(∃v,e=.returned v∧RowAt w' v (stepsS s j).length ((stepsS s j).map Value.string))∧Below w.heap.size w w':=by
 obtain⟨V,J,rfl,ap⟩:=hS.sl.form;obtain⟨O,d,rfl,ao⟩:=hS.en.form;have Q:=dx w (stO s (.slice V s.slots.length J) (.slice O s.ends.length d));have hI:=StIn.new w s (.slice V s.slots.length J) (.slice O s.ends.length d);have U:=hS.later Q;have az:w.heap.size<(w.alloc (stO s (.slice V s.slots.length J) (.slice O s.ends.length d))).heap.size:=by simp
 clear hS;obtain⟨aa,_,G⟩:=Y.lines;have al:Hid (LineP (tl s.tab j)):=G _ hj;have ak:(tl s.tab j).size≤300:=fG aa _ (by have:=eQ s.tab;omega)
 have HT:=Hq Y;have h4:=iS Y;have ac:=Hq Z;clear G Y Z
 go_enter Tryz.func149,Tryz.ntmps149
 go_wp2_with fail;generalize w.alloc (stO s (.slice V s.slots.length J) (.slice O s.ends.length d))=W at *;refine (eU s _ _ _ HT.out U).mono ?_;rintro e w1 ⟨⟨bl,aw,rfl,hL⟩,I⟩;have ah:=Hq (U.sl.1.later I);have c3:=(hI.later I).c3;have cl:w1.cell? ⟨bl,j,none⟩=some (.string (tl s.tab j)):=hL _ hj;have HB:Hid (Below w.heap.size w w1):=Q.trans (I.mono (by omega))
 obtain⟨b,aj,ax,hv,_,hc⟩:=ah.out.some' (by omega)
 cases hv
 have ci:w1.cell? ⟨b,aj+i*6+1,none⟩=some (.int .i64 ((j:Int)+1)):=by rw[←ac.out,←slAt_eq s i hi];exact RowAt.cell ep hc i hi 1 (by decide)
 have b1:(0:Int)≤(i:Int):=by omega
 have b2:(i:Int)<(s.slots.length:Int):=by omega
 have b3:(j:Int)<(tn s.tab:Int):=by omega
 clear hI U Q I hL hc;go_wp2_with fail;refine (lK (tl s.tab j) _ ak al.out).mono ?_;rintro e w2 ⟨⟨v,rfl,hR⟩,ai⟩;obtain⟨aA,aq,rfl,_⟩:=hR.form;clear c3 cl ci;go_wp2_with fail;go_ret;exact⟨⟨_,rfl,hR⟩,HB.out.trans (ai.mono HB.out.size)⟩
theorem ia {k n:Int} (h1:0≤k) (h2:k≤255) (d:0≤n) (e:n≤100000):ChOk ⟨k,{data:= #[]},n⟩:=⟨h1,h2,d,by show n≤_;omega,by show 0≤300;decide⟩
set_option maxRecDepth 10000 in
set_option maxHeartbeats 0 in
theorem lE (b:Bx.Bo) (B:Nat) (n:Int) (sl en tk:Value) (w:World) (hO:BoOk b) (hB:BoxIn w B b sl en tk):
 Calls Tryz.prog 77 #[.pointer (some ⟨B,0,none⟩),.int .i64 n] w fun e w'=>(∃ax aC am,e=.returned (.int .i64 (cancelP b n).2)∧BoxIn w' B (cancelP b n).1 ax aC am∧NewTk w tk am)∧w.grownBy w' (some B):=by
 obtain⟨Y,G,rfl,aI⟩:=hB.rows.sl.form;obtain⟨I,d,rfl,aF⟩:=hB.rows.en.form;have HB:=Hq hB;have V:=Hq hO;have aO:=hO.st.sl;have aG:=hO.tks
 have HP:Hid (cancelP b n=if Bx.find b.now n<0 then (b,8)
  else if b.room<(b.text.size:Int)+(Bx.frames [chK n]).size then (b,13)
  else ({addB b [chK n] with talks:=hushL (Bx.told b.now [chK n]) b.talks},0)):=rfl
 clear hB hO
 go_enter Tryz.func77,Tryz.ntmps77
 go_wp2_with fail;refine (dX b B _ _ _ _ HB.out).mono ?_;rintro e Q ⟨rfl,U⟩;have Z:=dx Q (stO b.now (.slice Y b.now.slots.length G) (.slice I b.now.ends.length d));have af:Hid (BoxIn (Q.alloc (stO b.now (.slice Y b.now.slots.length G) (.slice I b.now.ends.length d))) B b (.slice Y b.now.slots.length G) (.slice I b.now.ends.length d) tk):=(HB.out.later U).later Z;have ab:=Hq (U.trans (Z.mono U.size));have HI:Hid (StIn (Q.alloc (stO b.now (.slice Y b.now.slots.length G) (.slice I b.now.ends.length d))) Q.heap.size b.now (.slice Y b.now.slots.length G) (.slice I b.now.ends.length d)):=StIn.new Q b.now _ _;go_upto_region 2 with fail;generalize Q.alloc (stO b.now (.slice Y b.now.slots.length G) (.slice I b.now.ends.length d))=W at *;generalize Q.heap.size=sq at *;clear U Z HB;obtain⟨d0,d1,d2,d3,d4⟩:=HI.out;go_wp2_with fail;refine (eY b.now n _ _ _ (by omega) af.out.rows).mono ?_
 rintro e w4 ⟨rfl,ae⟩;have ap:=Hq (af.out.later ae);have ag:=Hq (ab.out.trans (ae.mono ab.out.size));clear d0 d1 d2 d3 d4 af HI ab ae
 by_cases J:Bx.find b.now n<0
 ·have O:Hid (cancelP b n=(b,8)):=by unfold Hid;rw[HP.out,if_pos J]
  go_wp2_with fail;go_ret;rw[O.out];exact⟨⟨_,_,_,rfl,ap.out,Or.inl rfl⟩,dy ag.out _⟩
 rw[if_neg J] at HP
 have aN:1≤n∧n<10000:=by
  have h1:=find_num J;have h2:=V.out.st.each _ (Bx.slAt_mem (Bx.find_lt b.now n J));have h3:=V.out.st.n2;rw[h1] at h2;omega
 have al:=dx w4 (chO (chK n));have ao:=kh w4 (chK n);have aa:=ap.out.later al;have ac:Hid (w.grownBy (w4.alloc (chO (chK n))) (some B)):=dy (ag.out.trans (al.mono ag.out.size)) _;have ak:∀c∈[chK n],ChOk c:=by intro c hc;simp at hc;subst hc;exact ia (by decide) (by decide) (by omega) (by omega)
 generalize Bx.find b.now n=F at *
 by_cases hF:b.room<(b.text.size:Int)+(Bx.frames [chK n]).size
 ·have O:Hid (cancelP b n=(b,13)):=by unfold Hid;rw[HP.out,if_pos hF]
  go_wp2_with fail;refine (gm b B _ _ _ _ [chK n] _ (by simp) ak V.out.txt hF ao aa).mono ?_
  rintro e w8 ⟨rfl,aj⟩;go_wp2_with fail;go_ret;rw[O.out];exact⟨⟨_,_,_,rfl,aa.later aj,Or.inl rfl⟩,dA ac.out (dy aj _)⟩
 ·have O:Hid (cancelP b n=({addB b [chK n] with talks:=hushL (Bx.told b.now [chK n]) b.talks},0)):=by unfold Hid;rw[HP.out,if_neg hF]
  go_wp2_with fail;refine (fK b B _ _ _ _ [chK n] _ V.out.st (by simp) ak V.out.txt (by omega) ao aa).mono ?_
  rintro e w8 ⟨rfl,⟨aP,aQ,aA⟩,aq⟩;have aJ:(Bx.told b.now [chK n]).slots.length≤8:=(Bx.told_ok V.out.st _).sl;go_wp2_with fail;refine (iK (addB b [chK n]) B _ _ _ _ (by show (Bx.told b.now [chK n]).slots.length≤10000;omega) (by show b.talks.length≤1000;omega) aA).mono ?_
  rintro e w9 ⟨rfl,⟨aR,az,aE⟩,ay⟩;go_wp2_with fail;go_ret;rw[O.out];exact⟨⟨_,_,_,rfl,az,aE.grow (dA ac.out aq).size⟩,dA (dA ac.out aq) ay⟩
set_option maxRecDepth 10000 in
set_option maxHeartbeats 0 in
theorem lz (b:Bx.Bo) (B:Nat) (F:Int) (sl en tk:Value) (w:World) (hO:BoOk b) (aF: -1≤F) (aA:F<b.now.slots.length) (hB:BoxIn w B b sl en tk):
 Calls Tryz.prog 148 #[.pointer (some ⟨B,0,none⟩),stV b.now sl en,.int .i64 F] w fun e w'=>e=.returned (.int .i64 (refusedP b F))∧Below w.heap.size w w':=by
 obtain⟨ad,U,rfl,aK⟩:=hB.rows.sl.form;obtain⟨Y,I,rfl,aI⟩:=hB.rows.en.form;have HB:=Hq hB;have HO:=Hq hO;have aQ:=hO.st.sl
 have G:Hid (refusedP b F=if F<0 then 8 else if (Bx.slAt b.now F.toNat).runs=true then 9 else if b.now.clock<(Bx.slAt b.now F.toNat).frm then 10
  else if Bx.locked b.now F.toNat=true then 11 else if b.limit≤(Bx.running b.now:Int) then 12 else 0):=rfl
 have aa:=dx w (stO b.now (.slice ad b.now.slots.length U) (.slice Y b.now.ends.length I));have HI:Hid (StIn (w.alloc (stO b.now (.slice ad b.now.slots.length U) (.slice Y b.now.ends.length I))) w.heap.size b.now (.slice ad b.now.slots.length U) (.slice Y b.now.ends.length I)):=StIn.new w b.now _ _;have ah:=Hq (HB.out.later aa);have J:=Hq aa;clear hB hO aa HB
 go_enter Tryz.func148,Tryz.ntmps148
 go_upto_region 1 with fail;generalize w.alloc (stO b.now (.slice ad b.now.slots.length U) (.slice Y b.now.ends.length I))=W at *
 by_cases O:F<0
 ·have d:Hid (refusedP b F=8):=by unfold Hid;rw[G.out,if_pos O]
  go_wp2_with fail;go_ret;exact⟨dN d.out.symm,J.out⟩
 rw[if_neg O] at G;obtain⟨i,aH⟩:∃i:Nat,F=i:=Int.eq_ofNat_of_zero_le (by omega)
 subst aH;simp only [Int.toNat_natCast] at G;have hi:i<b.now.slots.length:=by omega
 have ax:=HO.out.st.each _ (Bx.slAt_mem hi);obtain⟨j,ao⟩:∃j:Nat,(Bx.slAt b.now i).line=(j:Int)+1:=⟨((Bx.slAt b.now i).line-1).toNat,by omega⟩
 have av:=Hq ao;have hj:j<tn b.now.tab:=by omega
 clear ax ao;have z1:(0:Int)≤(i:Int):=by omega
 have z2:(i:Int)<(b.now.slots.length:Int):=by omega
 have z3:¬(i:Int)<0:=by omega
 obtain⟨b5,aM,aL,aG,_,al⟩:=ah.out.rows.sl.1.some' (by omega)
 cases aG
 obtain⟨y0,y1,y2,y3,y4,y5⟩:=dT al i hi;rw[slAt_eq b.now i hi] at y0 y1 y2 y3 y4 y5;obtain⟨d0,d1,d2,d3,d4⟩:=HI.out;clear al O aF aA y0 y1 y2 y3;have aR:Hid (Bx.slAt b.now i=Bx.slAt b.now i):=rfl
 cases Z:(Bx.slAt b.now i).runs
 ·rw[Z] at y5;rw[if_neg (by rw[Z];simp)] at G
  clear Z
  by_cases hf:b.now.clock<(Bx.slAt b.now i).frm
  ·have d:Hid (refusedP b i=10):=by unfold Hid;rw[G.out,if_pos hf]
   generalize (Bx.slAt b.now i).frm=fr at *;go_wp2_with fail
   go_quiet (fail)
   go_wp2_with fail;go_ret;exact⟨dN d.out.symm,below_drewN J.out _⟩
  ·rw[if_neg hf] at G;go_wp2_with fail
   go_quiet (fail)
   go_wp2_with fail;refine (gC b.now i j _ _ _ HO.out.st.tab (by omega) hi av.out hj (ah.out.rows.later (below_drewN (Below.refl _ _) nq))).mono ?_
   rintro e w3 ⟨rfl,ak⟩;have V:Below W.heap.size W w3:=(below_drewN (Below.refl _ _) nq).trans ak;have ae:=Hq (ah.out.later V);have am:=Hq (HI.out.later V);have ab:=Hq (J.out.trans (V.mono J.out.size));clear d0 d1 d2 d3 d4 y4 y5 V ak;obtain⟨d0,d1,d2,d3,d4⟩:=am.out;go_wp2_with fail;refine (kC b.now _ _ _ (by omega) ae.out.rows).mono ?_
   rintro e w4 ⟨rfl,af⟩;have ag:=Hq (ab.out.trans (af.mono ab.out.size));have c0:=(ae.out.later af).c0;clear d0 d1 d2 d3 d4 ae am ab af
   by_cases Q:Bx.locked b.now i=true
   ·have d:Hid (refusedP b i=11):=by unfold Hid;rw[G.out,if_pos Q]
    go_wp2_with fail;go_ret;exact⟨dN d.out.symm,ag.out⟩
   ·have aO:Bx.locked b.now i=false:=by simpa using Q
    rw[if_neg Q] at G;clear Q
    by_cases ac:b.limit≤(Bx.running b.now:Int)
    ·have d:Hid (refusedP b i=12):=by unfold Hid;rw[G.out,if_pos ac]
     go_wp2_with fail;go_ret;exact⟨dN d.out.symm,ag.out⟩
    ·have d:Hid (refusedP b i=0):=by unfold Hid;rw[G.out,if_neg ac]
     go_wp2_with fail;go_ret;exact⟨dN d.out.symm,ag.out⟩
 ·rw[Z] at y5;have d:Hid (refusedP b i=9):=by unfold Hid;rw[G.out,if_pos Z]
  clear Z;go_wp2_with fail;go_ret;exact⟨dN d.out.symm,J.out⟩
structure TwoBy (w w':World) (B:Nat) (r:Option Nat):Prop where
 os:w'.os=w.os
 tape:w'.tape=w.tape
 output:w'.output=w.output
 size:w.heap.size≤w'.heap.size
 block:∀k,k<w.heap.size→k≠B→some k≠r→w'.heap[k]? =w.heap[k]?
theorem TwoBy.of_grow {w d:World}{B:Nat} (h:w.grownBy d (some B)) (r:Option Nat):TwoBy w d B r:=
 ⟨h.os,h.tape,h.output,h.size,fun k G e _=>h.block k G (by simpa using e)⟩
theorem TwoBy.of_grow2 {w d:World}{r:Option Nat} (h:w.grownBy d r) (B:Nat):TwoBy w d B r:=
 ⟨h.os,h.tape,h.output,h.size,fun k G _ e=>h.block k G e⟩
theorem TwoBy.trans {w w1 e:World}{B:Nat}{r:Option Nat} (h1:TwoBy w w1 B r) (h2:TwoBy w1 e B r):TwoBy w e B r:=
 ⟨h2.os.trans h1.os,h2.tape.trans h1.tape,h2.output.trans h1.output,Nat.le_trans h1.size h2.size,fun k G d I=>(h2.block k (Nat.lt_of_lt_of_le G h1.size) d I).trans (h1.block k G d I)⟩
theorem BoxIn.grew {w G:World}{B:Nat}{b:Bx.Bo}{sl en tk J:Value}{l:List Bx.Tk} (h:BoxIn w B b sl en tk) (O:w.grownBy G tk.ownBlock) (ho:G.ownsRow (B+1) 220 4 J l.length (l.flatMap tkC)):
 BoxIn (G.setCell ⟨B,8,none⟩ J) B {b with talks:=l} sl en J:=by
 have Y:=h.ty.lt
 have U:some B≠tk.ownBlock:=by
  intro e;have:=(h.tk.lt B e.symm).1;omega
 have hB:G.heap[B]? =w.heap[B]? :=O.block B Y U;obtain⟨c0,c1,c2,c3,c4,c5,c6,c7,c8,f,ty,rows,Q⟩:=h;have d:∀j u,w.cell? ⟨B,j,none⟩=some u→G.cell? ⟨B,j,none⟩=some u:=fun j u Z=>O.cell Z U
 have ff:∀j,j<9→G.frozen? ⟨B,j,none⟩=false:=fun j V=>(World.frozen?_of_block (a:=⟨B,j,none⟩) hB).trans (f j V)
 have I:Typed G B 173:=by obtain⟨cur,fr,ht⟩:=ty;exact⟨cur,fr,hB.trans ht⟩
 have d0:=d _ _ c0;have d1:=d _ _ c1;have d2:=d _ _ c2;have d3:=d _ _ c3;have d4:=d _ _ c4;have d5:=d _ _ c5;have d6:=d _ _ c6;have d7:=d _ _ c7;have d8:=d _ _ c8;refine⟨?_,?_,?_,?_,?_,?_,?_,?_,?_,fun j V=>?_,I.setCell _ _ _,⟨(rows.sl.grown Q O (by decide)).set I (by decide) _ _,(rows.en.grown Q O (by decide)).set I (by decide) _ _⟩,ownsRow_setCell_below ho (by simp) _⟩
 case refine_10=>simp[go_sem,ff j V]
 all_goals simp[go_sem,d0,d1,d2,d3,d4,d5,d6,d7,d8]
theorem rD (L:List ByteArray) (v:Value) (a:Int) (w:World) (d:a=0) (hL:L.length≤100) (I:∀s∈L,2≤s.size∧s.size≤9) (hR:RowAt w v L.length (L.map Value.string)):
 Calls Tryz.prog 150 #[v,.int .i64 a] w fun e G=>e=.returned (.tuple #[.string (saysL L).1,.int .i64 ((saysL L).2:Nat)])∧G=w:=by
 subst d;have:=kP L v L.length 0 w (by omega) hL I hR
 simpa using this
set_option maxRecDepth 10000 in
set_option maxHeartbeats 0 in
theorem mK (b:Bx.Bo) (B:Nat) (n:Int) (sl en tk:Value) (w:World) (hO:BoOk b) (hB:BoxIn w B b sl en tk):
 Calls Tryz.prog 112 #[.pointer (some ⟨B,0,none⟩),.int .i64 n] w fun e w'=>(∃bJ bF bw,e=.returned (.tuple #[.string (startP b n).2.1,.int .i64 (startP b n).2.2])∧BoxIn w' B (startP b n).1 bJ bF bw∧NewTk w tk bw)∧TwoBy w w' B tk.ownBlock:=by
 obtain⟨i0,bL,bX,bE,bC⟩:=info_parts nM;obtain⟨j0,bU,bZ,bI,bP⟩:=info_parts kE;obtain⟨ad,ac,rfl,b9⟩:=hB.rows.sl.form;obtain⟨aa,O,rfl,b0⟩:=hB.rows.en.form;obtain⟨U,I,rfl,b4⟩:=hB.tkr.form;have HB:=Hq hB;have HO:=Hq hO;have ck:=hO.st.sl;have b3:=hO.tks
 have Y:Hid (startP b n=if ¬refusedP b (Bx.find b.now n)=0 then (b,ByteArray.empty,refusedP b (Bx.find b.now n))
  else if b.room<(b.text.size:Int)+(Bx.frames (startC (startL b n) n)).size then (b,ByteArray.empty,13)
  else ({addB b (startC (startL b n) n) with talks:=if (saysL (startL b n)).2<(startL b n).length then b.talks++[⟨n,((saysL (startL b n)).2:Nat),b.now.clock,{data:= #[]}⟩] else b.talks},(saysL (startL b n)).1,0)):=rfl
 clear hB hO
 go_enter Tryz.func112,Tryz.ntmps112
 go_wp2_with fail;refine (dX b B _ _ _ _ HB.out).mono ?_;rintro e w2 ⟨rfl,aF⟩;have aR:=dx w2 (stO b.now (.slice ad b.now.slots.length ac) (.slice aa b.now.ends.length O));have aY:Hid (BoxIn (w2.alloc (stO b.now (.slice ad b.now.slots.length ac) (.slice aa b.now.ends.length O))) B b (.slice ad b.now.slots.length ac) (.slice aa b.now.ends.length O) (.slice U b.talks.length I)):=(HB.out.later aF).later aR;have aS:=Hq (aF.trans (aR.mono aF.size));have HI:Hid (StIn (w2.alloc (stO b.now (.slice ad b.now.slots.length ac) (.slice aa b.now.ends.length O))) w2.heap.size b.now (.slice ad b.now.slots.length ac) (.slice aa b.now.ends.length O)):=StIn.new w2 b.now _ _;have bj:Hid (Typed (w2.alloc (stO b.now (.slice ad b.now.slots.length ac) (.slice aa b.now.ends.length O))) w2.heap.size 130):=Typed.new _ _ _;go_upto_region 2 with fail;generalize w2.alloc (stO b.now (.slice ad b.now.slots.length ac) (.slice aa b.now.ends.length O))=W at *;generalize w2.heap.size=sq at *;clear aF aR HB;obtain⟨d0,d1,d2,d3,d4⟩:=HI.out;go_wp2_with fail;refine (eY b.now n _ _ _ (by omega) aY.out.rows).mono ?_
 rintro e w4 ⟨rfl,ax⟩;have a8:=Hq (aY.out.later ax);have aQ:=Hq (HI.out.later ax);have aV:=Hq (aS.out.trans (ax.mono aS.out.size));have bh:=Hq (bj.out.later ax);clear d0 d1 d2 d3 d4 aY HI aS ax bj;have aN:=jl b.now n;obtain⟨d0,d1,d2,d3,d4⟩:=aQ.out;go_wp2_with fail;refine (lz b B (Bx.find b.now n) _ _ _ _ HO.out aN.1 aN.2 a8.out).mono ?_;rintro e w5 ⟨rfl,aw⟩;have aD:=Hq (a8.out.later aw);have a7:=Hq (aQ.out.later aw);have aC:=Hq (aV.out.trans (aw.mono aV.out.size));have bq:=Hq (bh.out.later aw);clear d0 d1 d2 d3 d4 a8 aQ aV aw bh
 by_cases d:refusedP b (Bx.find b.now n)=0
 ·have a6:¬Bx.find b.now n<0:=by
   intro h;unfold refusedP at d;rw[if_pos h] at d;cases d
  rw[if_neg (by simpa using d)] at Y
  have hi:=Bx.find_lt b.now n a6;have a5:=find_num a6;have bv:=HO.out.st.each _ (Bx.slAt_mem hi);have cp:=HO.out.st.n2;obtain⟨j,aW⟩:∃j:Nat,(Bx.slAt b.now (Bx.find b.now n).toNat).line=(j:Int)+1:=⟨((Bx.slAt b.now (Bx.find b.now n).toNat).line-1).toNat,by omega⟩
  have aM:=Hq aW;have hj:j<tn b.now.tab:=by omega
  have HL:Hid (startL b n=stepsS b.now j):=by unfold Hid startL;rw[aW,show ((j:Int)+1-1).toNat=j by omega]
  have cl:1≤n∧n<10000:=by rw[a5] at bv;omega
  clear bv aW a5;obtain⟨i,bs⟩:∃i:Nat,Bx.find b.now n=i:=Int.eq_ofNat_of_zero_le (by omega)
  rw[bs] at hi aM d ⊢;simp only [Int.toNat_natCast] at hi aM;have b7:refusedP b i=0:=d;clear aN a6 bs d;obtain⟨d0,d1,d2,d3,d4⟩:=a7.out;go_wp2_with fail;refine (je b.now i j _ _ _ _ HO.out.st.tab hi (by omega) aM.out hj aD.out.rows).mono ?_
  rintro e w6 ⟨⟨v6,rfl,aO⟩,au⟩;obtain⟨cn,ce,rfl,_⟩:=aO.form;have al:=Hq (aD.out.later au);have aU:=Hq (a7.out.later au);have ag:=Hq (aC.out.trans (au.mono aC.out.size));have bD:=Hq (bq.out.later au);have ba:=HO.out.st.tab.lines.2.2 j hj;have aJ:=iq ba;have bK:=eW ba
  change ∀s∈stepsS b.now j,2≤s.size∧s.size≤9 at aJ
  change 1≤(stepsS b.now j).length∧(stepsS b.now j).length≤5 at bK
  rw[HL.out] at Y;have co:=(fI (stepsS b.now j) (fun s h=>(aJ s h).2)).2
  clear d0 d1 d2 d3 d4 aD a7 aC au bq ba;go_wp2_with fail;refine (rD (stepsS b.now j) _ _ _ rfl (by omega) aJ aO).mono ?_
  rintro e Z ⟨rfl,bY⟩;subst bY;clear aJ aO HL;generalize stepsS b.now j=L at *;generalize bn:saysL L=R at *;have HC:Hid (startC L n=if R.2=L.length then [chS n]++[chD n] else [chS n]):=by unfold Hid startC;rw[bn]
  clear bn;have ae:=dx Z (.cells #[.int .u8 83,.string {data:= #[]},.int .i64 n] 178);have aj:=Hq (al.out.later ae);have ao:=Hq (ag.out.trans (ae.mono ag.out.size));have a2:=Hq (aU.out.later ae);have aG:Hid ((Z.alloc (.cells #[.int .u8 83,.string {data:= #[]},.int .i64 n] 178)).ownsRow Z.heap.size 178 3 (.slice (some ⟨Z.heap.size,0,none⟩) 1 1) [chS n].length ([chS n].flatMap chC)):=ni Z (chS n);have bM:Z.heap.size≤(Z.alloc (.cells #[.int .u8 83,.string {data:= #[]},.int .i64 n] 178)).heap.size:=by simp
  go_upto_region 9 with fail;generalize Z.alloc (.cells #[.int .u8 83,.string {data:= #[]},.int .i64 n] 178)=W8 at *
  have bR:Hid (¬sq=B):=by
   intro e;obtain⟨_,_,t1⟩:=bD.out;obtain⟨_,_,t2⟩:=al.out.ty;rw[e,t2] at t1;cases t1
  generalize bp:Z.heap.size=q8 at *;have bT:=Hq bp;clear bp
  by_cases ak:R.2=L.length
  ·rw[if_pos ak] at HC;rw[HC.out] at Y;have z1:(((R.2:Nat):Int)==(L.length:Int))=true:=by simp[ak]
   have z2:¬((R.2:Nat):Int)<(L.length:Int):=by omega
   have aZ:¬R.2<L.length:=by omega
   rw[if_neg aZ] at Y
   have am:∀c∈[chS n]++[chD n],ChOk c:=by
    intro c hc;simp at hc
    rcases hc with rfl|rfl
    ·exact ia (by decide) (by decide) (by omega) (by omega)
    ·exact ia (by decide) (by decide) (by omega) (by omega)
   clear ak aZ HC;have ay:=aG.out;go_wp2_with (at_builtin;refine wpList_append_lies _ rfl (.tmp 42) (.tmp 45) 179 rfl q8 178 i0 (.agg #[.int .u8 0,.string ByteArray.empty,.int .i64 0]) 3 32 Tryz.underlying179 bL bX bE bC rfl (by decide) _ _ _ rfl (ay.alloc _) ⟨W8.heap.size,0,none⟩ 1 1 (chC (chD n)) rfl rfl (kF _ (chD n) _) (mh (chD n)) (by decide) ?c3 ?c4 ?c5 _ rfl ?_)
   case c3=>unfold maxLen;simp
   case c5=>first |omega|exact gB bM _
   ·intro g ai J aH aI _ b5;have bt:Below q8 W8 J:=((Below.refl q8 W8).alloc (by omega) _).grown aI (by simp;omega) (fun k' e=>(ay.lt k' e).1)
    have a4:Below Z.heap.size Z J:=by rw[bT.out];exact ae.trans bt
    have ar:=Hq (al.out.later a4);have aP:=Hq (ag.out.trans (a4.mono ag.out.size));have af:TRow J 178 (.slice (some ⟨g,0,none⟩) ([chS n].length+1) ai) ([chS n]++[chD n]).length (([chS n]++[chD n]).flatMap chC):=TRow.of_own (by simpa using aH)
    clear aH aI ay bt a4 aj ao a2 aG ae al ag aU
    by_cases hF:b.room<(b.text.size:Int)+(Bx.frames ([chS n]++[chD n])).size
    ·have Q:Hid (startP b n=(b,ByteArray.empty,13)):=by unfold Hid;rw[Y.out,if_pos hF]
     go_wp2_with fail;refine (gm b B _ _ _ _ ([chS n]++[chD n]) _ (by simp) am HO.out.txt hF af ar.out).mono ?_
     rintro e w8 ⟨rfl,av⟩;go_wp2_with fail;go_ret2;rw[Q.out];exact⟨⟨_,_,_,rfl,ar.out.later av,Or.inl rfl⟩,TwoBy.of_grow (dy (aP.out.trans (av.mono aP.out.size)) _) _⟩
    ·have Q:Hid (startP b n=(addB b ([chS n]++[chD n]),R.1,0)):=by unfold Hid;rw[Y.out,if_neg hF];rfl
     go_wp2_with fail;refine (fK b B _ _ _ _ ([chS n]++[chD n]) _ HO.out.st (by simp) am HO.out.txt (by omega) af ar.out).mono ?_
     rintro e aB ⟨rfl,⟨bu,bx,V⟩,ap⟩;go_wp2_with fail;go_ret2;rw[Q.out];exact⟨⟨_,_,_,rfl,V,Or.inl rfl⟩,TwoBy.of_grow (dA (dy aP.out _) ap) _⟩
  ·rw[if_neg ak] at HC;rw[HC.out] at Y;have z1:(((R.2:Nat):Int)==(L.length:Int))=false:=by simp;omega
   have z2:((R.2:Nat):Int)<(L.length:Int):=by omega
   have aX:R.2<L.length:=by omega
   rw[if_pos aX] at Y
   have am:∀c∈[chS n],ChOk c:=by
    intro c hc;simp at hc;subst hc;exact ia (by decide) (by decide) (by omega) (by omega)
   have af:TRow W8 178 (.slice (some ⟨q8,0,none⟩) 1 1) [chS n].length ([chS n].flatMap chC):=TRow.of_own aG.out;clear ak aX HC
   by_cases hF:b.room<(b.text.size:Int)+(Bx.frames [chS n]).size
   ·have Q:Hid (startP b n=(b,ByteArray.empty,13)):=by unfold Hid;rw[Y.out,if_pos hF]
    go_wp2_with fail;refine (gm b B _ _ _ _ [chS n] _ (by simp) am HO.out.txt hF af aj.out).mono ?_
    rintro e w8 ⟨rfl,av⟩;go_wp2_with fail;go_ret2;rw[Q.out];exact⟨⟨_,_,_,rfl,aj.out.later av,Or.inl rfl⟩,TwoBy.of_grow (dy (ao.out.trans (av.mono ao.out.size)) _) _⟩
   ·have Q:Hid (startP b n=({addB b [chS n] with talks:=b.talks++[⟨n,((R.2:Nat):Int),b.now.clock,{data:= #[]}⟩]},R.1,0)):=by unfold Hid;rw[Y.out,if_neg hF]
    go_wp2_with fail;refine (fK b B _ _ _ _ [chS n] _ HO.out.st (by simp) am HO.out.txt (by omega) af aj.out).mono ?_
    rintro e J ⟨rfl,⟨bu,bx,V⟩,ap⟩;have d1:J.cell? ⟨sq,1,none⟩=some (.int .i64 b.now.clock):=ap.cell a2.out.c1 (by have:=bR.out;simpa using this)
    have ar:=Hq V;have bo:Hid (TwoBy w J B (Value.slice U b.talks.length I).ownBlock):=TwoBy.of_grow (dA (dy ao.out _) ap) _;have c8:=V.c8;have f8:=V.f 8 (by decide)
    have bm:B<J.heap.size:=V.ty.lt;have cm:sq<J.heap.size:=World.block_lt_of_cell? _ _ d1;have aE:=V.tk;have bV:b.talks.length+1≤maxLen:=by unfold maxLen;omega
    have bN:(b.talks.length+1)*40≤140737488355328:=by omega
    have br:some B≠(Value.slice U b.talks.length I).ownBlock:=by
     intro e;have:=(aE.lt B e.symm).1;omega
    clear V ap aj ao a2 aG ae al ag aU af;go_wp2_with fail
    go_region_law ((refine step_append_lies _ rfl (.tmp 60) (.tmp 66) 171 rfl (B+1) 220 j0 (.agg #[.int .i64 0,.int .i64 0,.int .i64 0,.string ByteArray.empty]) 4 40 Tryz.underlying171 bU bZ bI bP rfl (by decide) (.slice U b.talks.length I) _ _ rfl (World.ownsRow.drew (aE.alloc _)) ⟨J.heap.size,0,none⟩ 1 1 (tkC ⟨n,((R.2:Nat):Int),b.now.clock,{data:= #[]}⟩) rfl rfl (fun j u hj=>ma J ⟨n,((R.2:Nat):Int),b.now.clock,{data:= #[]}⟩ _ j u hj) (lV _) (by decide) bV bN (by show B+1≤(J.alloc _).heap.size;simp;omega) _ rfl ?_;intro g ai aB aq G bk b2;have bO:Hid ((Value.slice U b.talks.length I).ownBlock=some g∨J.heap.size≤g):=bk.imp id (fun e=>by rw[e];exact gB (Nat.le_refl _) _);clear bk;have e8:aB.cell? ⟨B,8,none⟩=some (.slice U b.talks.length I):=G.cell (a:=⟨B,8,none⟩) (cell_later (dx J _).drew c8) br;have g8:aB.frozen? ⟨B,8,none⟩=false:=(G.frozen_far ⟨B,8,none⟩ (Nat.lt_of_lt_of_le bm (gB (Nat.le_refl _) _)) br).trans (((dx J _).drew.frozen (p:=⟨B,8,none⟩) bm).trans f8)))
    all_goals
     have HN:Hid (BoxIn _ B {addB b [chS n] with talks:=b.talks++[⟨n,((R.2:Nat):Int),b.now.clock,{data:= #[]}⟩]} bu bx (.slice (some ⟨g,0,none⟩) (b.talks.length+1) ai)):=BoxIn.grew (ar.out.later (dx J _).drew) G (by simpa using aq)
     have bQ:Hid (TwoBy w aB B (Value.slice U b.talks.length I).ownBlock):=(bo.out.trans (TwoBy.of_grow (dy (dx J _).drew _) _)).trans (TwoBy.of_grow2 G B);have bH:Hid (NewTk w (.slice U b.talks.length I) (.slice (some ⟨g,0,none⟩) (b.talks.length+1) ai)):=bO.out.elim (fun e=>Or.inl e.symm) (fun e=>Or.inr fun g' e'=>by cases e';exact Nat.le_trans bo.out.size e)
     clear aq G;go_wp2_with fail;go_ret2;rw[Q.out];exact⟨⟨rfl,_,_,_,HN.out,bH.out⟩,bQ.out.trans (TwoBy.of_grow (dJ (eF _ _) _ _) _)⟩
 ·have Q:Hid (startP b n=(b,ByteArray.empty,refusedP b (Bx.find b.now n))):=by unfold Hid;rw[Y.out,if_pos d]
  have z0:(refusedP b (Bx.find b.now n) !=0)=true:=by simpa using d
  clear d;go_wp2_with fail;go_ret2;rw[Q.out];exact⟨⟨_,_,_,rfl,aD.out,Or.inl rfl⟩,TwoBy.of_grow (dy aC.out _) _⟩
set_option maxHeartbeats 0 in
theorem mz (t u:ByteArray) (w:World) (ht:t.size≤1000000000000000000) (hu:u.size≤1000) (ae:0<u.size):
 Calls Tryz.prog 184 #[.string t,.string u] w fun e w'=>e=.returned (.tuple #[.string (behS t u),.bool (behB t u)])∧w'=w:=by
 go_enter Tryz.func184,Tryz.ntmps184
 go_wp2_with fail
 go_loop [0] (fun v=>∃y:ByteArray,v=.string y∧y.size≤1000000000000000000∧behL u.data.toList y.data.toList=behL u.data.toList t.data.toList) (fun v=>strSize v)
 case atStart=>exact⟨t,rfl,ht,rfl⟩
 case round=>
  obtain⟨y,rfl,hy,U⟩:=hrel;have O:=Hq U;clear U
  by_cases ad:u.size≤y.size
  ·have Z:(u.size:Int)≤(y.size:Int):=by omega
   have G:u.data.toList.length=u.size:=by simp
   have d:y.data.toList.length=y.size:=by simp
   cases Y:((y.extract 0 u.size).toList==u.toList)
   ·have I:u.data.toList.isPrefixOf y.data.toList=false:=by
     cases hh:u.data.toList.isPrefixOf y.data.toList
     ·rfl
     ·have h1:=List.prefix_iff_eq_take.1 (List.isPrefixOf_iff_prefix.1 hh)
      have h2:(y.extract 0 u.size).toList=u.toList:=by
       rw[ByteArray.toList_eq,ByteArray.toList_eq,ei,List.drop_zero,Nat.sub_zero,←G,←h1]
      rw[h2] at Y;simp at Y
    have Q:Hid (behL u.data.toList (y.extract 1 y.size).data.toList=behL u.data.toList t.data.toList):=by
     unfold Hid;rw[←O.out,ei]
     cases V:y.data.toList with
     | nil=>rw[V] at d;simp at d;omega
     | cons a r=>
       rw[V] at I d;rw[ij I]
       congr 1
       simp at d
       rw[List.drop_one,List.tail_cons,List.take_of_length_le (by omega)]
    clear I G d;go_wp2_with fail
    go_round
    case rel=>exact⟨_,rfl,by simp;omega,Q.out⟩
    case measure=>simp[strSize];omega
   ·have I:u.data.toList.isPrefixOf y.data.toList=true:=by
     have h2:(y.extract 0 u.size).toList=u.toList:=by simpa using Y
     rw[ByteArray.toList_eq,ByteArray.toList_eq,ei,List.drop_zero,Nat.sub_zero] at h2;rw[List.isPrefixOf_iff_prefix,List.prefix_iff_eq_take,G];exact h2.symm
    have Q:Hid (behL u.data.toList t.data.toList=some (y.data.toList.drop u.size)):=by
     unfold Hid;rw[←O.out,ke I,G]
    have J:Hid (behS t u=y.extract u.size y.size∧behB t u=true):=by
     unfold Hid behS behB;rw[Q.out];refine⟨?_,rfl⟩
     apply ByteArray.ext
     apply Array.toList_inj.1
     rw[ei]
     show (y.data.toList.drop u.size)=_
     rw[List.take_of_length_le (by rw[List.length_drop,d];omega)]
    clear I G d Q;go_wp2_with fail;go_ret2;rw[J.out.1,J.out.2];exact⟨rfl,rfl⟩
  ·have Z:¬(u.size:Int)≤(y.size:Int):=by omega
   have J:Hid (behS t u=ByteArray.empty∧behB t u=false):=by
    unfold Hid behS behB;rw[←O.out,gE (by simp;omega)]
    exact⟨rfl,rfl⟩
   go_wp2_with fail;go_ret2;rw[J.out.1,J.out.2];exact⟨rfl,rfl⟩
abbrev tkV (t:Bx.Tk):Value:=.agg #[.int .i64 t.num,.int .i64 t.at',.int .i64 t.since,.string t.heard]
structure RkIn (W:World) (q:Nat) (t:Bx.Tk):Prop where
 c0:W.cell? ⟨q,0,none⟩=some (.int .i64 t.num)
 c1:W.cell? ⟨q,1,none⟩=some (.int .i64 t.at')
 c2:W.cell? ⟨q,2,none⟩=some (.int .i64 t.since)
 c3:W.cell? ⟨q,3,none⟩=some (.string t.heard)
set_option maxRecDepth 10000 in
set_option maxHeartbeats 0 in
theorem oL (L:List ByteArray) (v:Value) (c:Int) (aq:L.length≤100) (hL:∀s∈L,2≤s.size∧s.size≤9) (n:Nat):n≤1000→∀(t:Bx.Tk) (a:Nat) (w:World),t.at'=(a:Int)→a≤L.length→L.length-a≤n→t.heard.size≤1000000000000000000→RowAt w v L.length (L.map Value.string)→
 Calls Tryz.prog 151 #[tkV t,v,.int .i64 c] w fun e Q=>e=.returned (.tuple #[tkV (hearF L c n t).1,.string (hearF L c n t).2])∧Below w.heap.size w Q:=by
 induction n with
 | zero=>
   intro aD t a w ac ha hn hh hR;obtain⟨ad,I,rfl,ae⟩:=hR.form;obtain⟨tn,ab,G,d⟩:=t
   dsimp only at *
   have q1:(L.length:Int)≤ab:=by omega
   clear hR hL ac
   go_enter Tryz.func151,Tryz.ntmps151
   go_wp2_with fail;exact bodyPost_ret (v:=.tuple #[tkV ⟨tn,ab,G,d⟩,.string ByteArray.empty]) (by simp[results,Tryz.results151,go_sem];rfl) rfl ⟨rfl,(dx _ _).alloc (by simp) _⟩
 | succ n ih=>
   intro aD t a w ac ha hn hh hR;obtain⟨tn,ab,G,d⟩:=t
   dsimp only at *
   subst ac
   have U:Hid (hearF L c (n+1) ⟨tn,(a:Int),G,d⟩=if (L.length:Int)≤(a:Int) then (⟨tn,(a:Int),G,d⟩,ByteArray.empty) else if behB d (wordAt L a)=false then (⟨tn,(a:Int),G,d⟩,ByteArray.empty)
    else ((hearF L c n ⟨tn,((a+1+(saysL (L.drop (a+1))).2:Nat):Int),c,behS d (wordAt L a)⟩).1,(saysL (L.drop (a+1))).1++(hearF L c n ⟨tn,((a+1+(saysL (L.drop (a+1))).2:Nat):Int),c,behS d (wordAt L a)⟩).2)):=rfl
   by_cases O:a<L.length
   ·rw[if_neg (by omega)] at U
    have a6:=hL L[a] (List.getElem_mem _)
    have HB:Hid (∀W:World,Calls Tryz.prog 184 #[.string d,.string (L[a].extract 1 L[a].size)] W fun e Q=>e=.returned (.tuple #[.string (behS d (wordAt L a)),.bool (behB d (wordAt L a))])∧Q=W):=by
     intro W;rw[gi O];exact mz d (wordAt L a) W hh (by rw[←gi O];simp;omega) (by rw[←gi O];simp;omega)
    obtain⟨b,aa,I,hv,ae,hc⟩:=hR.some' (by omega)
    subst hv;have x0:w.cell? ⟨b,aa+a,none⟩=some (.string L[a]):=by have:=hc a (by simpa using O);rw[this];simp
    have a4:b<w.heap.size:=World.block_lt_of_cell? _ _ x0;have HR:=Hq hR;have a5:=gV d (wordAt L a);have y1:(0:Int)≤(a:Int):=by omega
    have y2:(a:Int)<(L.length:Int):=by omega
    have y3:¬(L.length:Int)≤(a:Int):=by omega
    have hp:1≤L[a].size:=by omega
    clear hc hR
    go_enter Tryz.func151,Tryz.ntmps151
    go_wp2_with fail
    go_quiet ((go_at_call 184;exact Calls.quiet_of_same (HB.out _)))
    have ag:Below w.heap.size w (((w.alloc (.cells #[.int .i64 tn,.int .i64 (a:Int),.int .i64 G,.string d] 220)).alloc (.cells #[.int .i64 0,.int .i64 0,.int .i64 0,.string {data:= #[]}] 220)).drewN nq):=below_drewN ((dx _ _).alloc (by simp) _) _
    have HZ:Hid (ZIn (((w.alloc (.cells #[.int .i64 tn,.int .i64 (a:Int),.int .i64 G,.string d] 220)).alloc (.cells #[.int .i64 0,.int .i64 0,.int .i64 0,.string {data:= #[]}] 220)).drewN nq) (w.heap.size+1) 4):=by
     have h:=ZIn.new (w.alloc (.cells #[.int .i64 tn,.int .i64 (a:Int),.int .i64 G,.string d] 220)) #[.int .i64 0,.int .i64 0,.int .i64 0,.string {data:= #[]}] 220;have h2:=h.later (by simp) (below_drewN (Below.refl _ _) nq)
     unfold Hid;simpa using h2
    have HT:Hid (RkIn (((w.alloc (.cells #[.int .i64 tn,.int .i64 (a:Int),.int .i64 G,.string d] 220)).alloc (.cells #[.int .i64 0,.int .i64 0,.int .i64 0,.string {data:= #[]}] 220)).drewN nq) w.heap.size ⟨tn,(a:Int),G,d⟩):=⟨by simp[go_sem],by simp[go_sem],by simp[go_sem],by simp[go_sem]⟩
    have aO:w.heap.size+1<(((w.alloc (.cells #[.int .i64 tn,.int .i64 (a:Int),.int .i64 G,.string d] 220)).alloc (.cells #[.int .i64 0,.int .i64 0,.int .i64 0,.string {data:= #[]}] 220)).drewN nq).heap.size:=by simp
    generalize ((w.alloc (.cells #[.int .i64 tn,.int .i64 (a:Int),.int .i64 G,.string d] 220)).alloc (.cells #[.int .i64 0,.int .i64 0,.int .i64 0,.string {data:= #[]}] 220)).drewN nq=W at *;have af:=Hq ag;have am:=Hq (HR.out.later ag);obtain⟨t0,t1,t2,t3⟩:=HT.out;obtain⟨⟨u0,r0⟩,f0⟩:=HZ.out 0 (by decide)
    obtain⟨⟨u1,r1⟩,f1⟩:=HZ.out 1 (by decide)
    obtain⟨⟨u2,r2⟩,f2⟩:=HZ.out 2 (by decide)
    obtain⟨⟨u3,r3⟩,f3⟩:=HZ.out 3 (by decide)
    clear x0 HB ag;generalize behS d (wordAt L a)=rest at *
    cases al:behB d (wordAt L a)
    ·rw[if_pos al] at U;go_wp2_with fail;refine bodyPost_ret (v:=.tuple #[tkV ⟨tn,(a:Int),G,d⟩,.string ByteArray.empty]) (by simp[results,Tryz.results151,go_sem,r0,r1,r2,r3];rfl) rfl ?_
     rw[U.out];refine⟨rfl,?_⟩
     repeat (refine Below.setCell ?_ (by simp) _)
     exact af.out
    ·rw[if_neg (by rw[al];simp)] at U
     have aH:Hid (∀(x:Int),x=((a+1:Nat):Int)→Calls Tryz.prog 150 #[.slice (some ⟨b,aa,none⟩) L.length I,.int .i64 x] W fun e Q=>e=.returned (.tuple #[.string (saysL (L.drop (a+1))).1,.int .i64 ((a+1+(saysL (L.drop (a+1))).2:Nat):Int)])∧Q=W):=by
      intro x hx;subst hx;exact kP L _ (L.length-(a+1)) (a+1) W (by omega) aq hL am.out
     have aK:=fI (L.drop (a+1)) (fun s h=>(hL s (List.mem_of_mem_drop h)).2)
     have a3:=mq L c (fun s h=>(hL s h).2) aq n ⟨tn,((a+1+(saysL (L.drop (a+1))).2:Nat):Int),c,rest⟩
     simp at aK
     have aA:Hid (∀(x:Int) (W':World),x=((a+1+(saysL (L.drop (a+1))).2:Nat):Int)→RowAt W' (.slice (some ⟨b,aa,none⟩) L.length I) L.length (L.map Value.string)→Calls Tryz.prog 151 #[.agg #[.int .i64 tn,.int .i64 x,.int .i64 c,.string rest],.slice (some ⟨b,aa,none⟩) L.length I,.int .i64 c] W' fun e Q=>e=.returned (.tuple #[tkV (hearF L c n ⟨tn,((a+1+(saysL (L.drop (a+1))).2:Nat):Int),c,rest⟩).1,.string (hearF L c n ⟨tn,((a+1+(saysL (L.drop (a+1))).2:Nat):Int),c,rest⟩).2])∧Below W'.heap.size W' Q):=by
      intro x W' hx aM;subst hx;exact ih (by omega) ⟨tn,((a+1+(saysL (L.drop (a+1))).2:Nat):Int),c,rest⟩ (a+1+(saysL (L.drop (a+1))).2) W' rfl (by omega) (by omega) (by show rest.size≤1000000000000000000;omega) aM
     clear ih hL;generalize hearF L c n ⟨tn,((a+1+(saysL (L.drop (a+1))).2:Nat):Int),c,rest⟩=V at *;generalize saysL (L.drop (a+1))=S at *;go_wp2_with fail;refine (aH.out _ (by push_cast;rfl)).mono ?_
     rintro e w3 ⟨rfl,aF⟩;subst aF;have Z:=dx w3 (.cells #[.int .i64 tn,.int .i64 ((a+1+S.2:Nat):Int),.int .i64 c,.string rest] 220);have ao:=Hq (am.out.later Z);have ap:Hid (ZIn _ (w.heap.size+1) 4):=HZ.out.later aO Z;have ah:=Hq (af.out.trans (Z.mono af.out.size));clear t0 t1 t2 t3 r0 r1 r2 r3 f0 f1 f2 f3 Z;obtain⟨t0,t1,t2,t3⟩:=HT.out;go_wp2_with fail;refine (aA.out _ _ (by first |rfl|(push_cast;rfl)) ao.out).mono ?_
     rintro e w5 ⟨rfl,Y⟩;have J:=ap.out.later (by simp;omega) Y
     have aL:=Hq (ah.out.trans (Y.mono ah.out.size));have aB:w.heap.size+1<w5.heap.size:=by have:=Y.size;simp at this;omega
     obtain⟨⟨u0,r0⟩,f0⟩:=J 0 (by decide)
     obtain⟨⟨u1,r1⟩,f1⟩:=J 1 (by decide)
     obtain⟨⟨u2,r2⟩,f2⟩:=J 2 (by decide)
     obtain⟨⟨u3,r3⟩,f3⟩:=J 3 (by decide)
     have q9:¬9223372036854775807<S.1.size+V.2.size:=by omega
     clear t0 t1 t2 t3 Y J ap ao ah;go_wp2_with fail;refine bodyPost_ret (v:=.tuple #[tkV V.1,.string (S.1++V.2)]) (by simp[results,Tryz.results151,go_sem,r0,r1,r2,r3,aB]) rfl ?_
     rw[U.out];refine⟨rfl,Below.alloc ?_ (by simp;omega) _⟩
     repeat (refine Below.setCell ?_ (by simp) _)
     exact aL.out
   ·have aI:a=L.length:=by omega
    rw[if_pos (by omega)] at U
    obtain⟨ad,I,rfl,ae⟩:=hR.form;have q1:(L.length:Int)≤(a:Int):=by omega
    clear hR hL ih aI O
    go_enter Tryz.func151,Tryz.ntmps151
    go_wp2_with fail;refine bodyPost_ret (v:=.tuple #[tkV ⟨tn,(a:Int),G,d⟩,.string ByteArray.empty]) (by simp[results,Tryz.results151,go_sem];rfl) rfl ?_
    rw[U.out];exact⟨rfl,(dx _ _).alloc (by simp) _⟩
theorem gI {w:World}{G g d n i size:Nat}{e:TypeId}{I:List Value} (h:w.ownsRow G e size (.slice (some ⟨g,0,none⟩) n d) n I) (u:Value):(w.setCell ⟨g,i,none⟩ u).ownsRow G e size (.slice (some ⟨g,0,none⟩) n d) n (I.set i u):=by
 have O:=h.1
 rcases h.2 with ⟨h2,_⟩|⟨g',Z,cur,V,hb,Y,J,hm,Q,U⟩
 ·cases h2
 ·cases V
  refine⟨by simpa using O,Or.inr ⟨g,d,cur.setIfInBounds i u,rfl,hb,heap_setCell_same _ _ _ _ _ _ Y,J,hm,by simpa using Q,?_⟩⟩
  rw[←U,Array.toList_setIfInBounds,List.take_set]
theorem qD (l:List Bx.Tk) (k:Nat) (t:Bx.Tk) (h:k<l.length):(l.set k t).flatMap tkC=((((l.flatMap tkC).set (k*4) (.int .i64 t.num)).set (k*4+1) (.int .i64 t.at')).set (k*4+2) (.int .i64 t.since)).set (k*4+3) (.string t.heard):=by
 induction l generalizing k with
 | nil=>simp at h
 | cons x r d=>
   cases k with
   | zero=>simp[tkC]
   | succ k=>
     have:=d k (by simpa using h)
     rw[List.set_cons_succ,List.flatMap_cons,this,List.flatMap_cons];rw[show (k+1)*4=k*4+1+1+1+1 by omega,show k*4+1+1+1+1+1=(k*4+1)+1+1+1+1 by omega,show k*4+1+1+1+1+2=(k*4+2)+1+1+1+1 by omega,show k*4+1+1+1+1+3=(k*4+3)+1+1+1+1 by omega]
     simp[tkC,List.set_cons_succ]
theorem BoxIn.tset {W:World}{B g d k:Nat}{b:Bx.Bo}{sl en:Value} (h:BoxIn W B b sl en (.slice (some ⟨g,0,none⟩) b.talks.length d)) (V:k<b.talks.length) (t:Bx.Tk):
 BoxIn ((((W.setCell ⟨g,k*4,none⟩ (.int .i64 t.num)).setCell ⟨g,k*4+1,none⟩ (.int .i64 t.at')).setCell ⟨g,k*4+2,none⟩ (.int .i64 t.since)).setCell ⟨g,k*4+3,none⟩ (.string t.heard)) B {b with talks:=b.talks.set k t} sl en (.slice (some ⟨g,0,none⟩) b.talks.length d):=by
 have Z:B≠g:=by
  have:=(h.tk.lt g rfl).1;omega
 have e:Typed W g 220:=by
  rcases h.tk.2 with ⟨h2,_⟩|⟨g',Y,cur,Q,_,J,_⟩
  ·cases h2
  ·cases Q;exact⟨_,_,J⟩
 have G:=e.setCell g (k*4) (.int .i64 t.num);have w:=G.setCell g (k*4+1) (.int .i64 t.at');have U:=w.setCell g (k*4+2) (.int .i64 t.since);obtain⟨c0,c1,c2,c3,c4,c5,c6,c7,c8,f,ty,rows,I⟩:=h;refine⟨?_,?_,?_,?_,?_,?_,?_,?_,?_,fun j O=>?_,(((ty.setCell _ _ _).setCell _ _ _).setCell _ _ _).setCell _ _ _,(((rows.set e (by decide) (by decide) _ _).set G (by decide) (by decide) _ _).set w (by decide) (by decide) _ _).set U (by decide) (by decide) _ _,?_⟩
 case refine_10=>simp[go_sem,f j O]
 case refine_11=>
  show World.ownsRow _ (B+1) 220 4 _ (b.talks.set k t).length ((b.talks.set k t).flatMap tkC)
  rw[List.length_set,qD b.talks k t V];exact gI (gI (gI (gI I _) _) _) _
 all_goals simp[go_sem,c0,c1,c2,c3,c4,c5,c6,c7,c8]
theorem fH {W:World}{d g n w size:Nat}{e:TypeId}{G:List Value} (h:W.ownsRow d e size (.slice (some ⟨g,0,none⟩) n w) n G) (j:Nat):W.frozen? ⟨g,j,none⟩=false:=by
 rcases h.2 with ⟨h2,_⟩|⟨Q,O,cur,I,_,J,_⟩
 ·cases h2
 ·cases I;unfold World.frozen?;rw[J];simp
set_option maxRecDepth 10000 in
set_option maxHeartbeats 0 in
theorem om (b:Bx.Bo) (B:Nat) (n:Int) (x:ByteArray) (sl en tk:Value) (w:World) (hO:BoOk b) (hx:x.size≤maxLen) (hH:∀t∈b.talks,t.heard.size≤100000000000000000) (hA:¬talkOf b.talks n<0→(tkAt b (talkOf b.talks n).toNat).at'≤(startL b n).length) (hB:BoxIn w B b sl en tk):
 Calls Tryz.prog 113 #[.pointer (some ⟨B,0,none⟩),.int .i64 n,.string x] w fun e w'=>(∃bq bk a3,e=.returned (.tuple #[.string (feedP b n x).2.1,.int .i64 (feedP b n x).2.2])∧BoxIn w' B (feedP b n x).1 bq bk a3∧NewTk w tk a3)∧TwoBy w w' B tk.ownBlock:=by
 unfold maxLen at hx;obtain⟨ad,ab,rfl,bS⟩:=hB.rows.sl.form;obtain⟨Y,O,rfl,bO⟩:=hB.rows.en.form;obtain⟨bj,aL,rfl,bQ⟩:=hB.tkr.form;have HB:=Hq hB;have HO:=Hq hO;have HH:=Hq hH;have b0:=hO.st.sl;have bP:=hO.tks
 have Q:Hid (feedP b n x=if 40<x.size then (b,ByteArray.empty,1)
  else if Bx.find b.now n<0 then (b,ByteArray.empty,8)
  else if talkOf b.talks n<0 then (b,ByteArray.empty,9)
  else if ((startL b n).length:Int)≤(feedH b n x).1.at' then
   (if b.room<(b.text.size:Int)+(Bx.frames [chD n]).size then (b,ByteArray.empty,13) else ({addB b [chD n] with talks:=hushL (Bx.told b.now [chD n]) b.talks},(feedH b n x).2,0))
  else ({b with talks:=b.talks.set (talkOf b.talks n).toNat (feedH b n x).1},(feedH b n x).2,0)):=rfl
 have HA:=Hq hA;clear hB hO hH hA
 by_cases a5:40<x.size
 ·have I:Hid (feedP b n x=(b,ByteArray.empty,1)):=by unfold Hid;rw[Q.out,if_pos a5]
  have z0:(40:Int)<(x.size:Int):=by omega
  go_enter Tryz.func113,Tryz.ntmps113
  go_wp2_with fail;go_ret2;rw[I.out];exact⟨⟨rfl,_,_,_,HB.out,Or.inl rfl⟩,TwoBy.of_grow (eF _ _) _⟩
 rw[if_neg a5] at Q;have z0:¬(40:Int)<(x.size:Int):=by omega
 go_enter Tryz.func113,Tryz.ntmps113
 go_wp2_with fail;refine (dX b B _ _ _ _ HB.out).mono ?_;rintro e w2 ⟨rfl,al⟩;have ax:=dx w2 (stO b.now (.slice ad b.now.slots.length ab) (.slice Y b.now.ends.length O));have aE:Hid (BoxIn (w2.alloc (stO b.now (.slice ad b.now.slots.length ab) (.slice Y b.now.ends.length O))) B b (.slice ad b.now.slots.length ab) (.slice Y b.now.ends.length O) (.slice bj b.talks.length aL)):=(HB.out.later al).later ax;have az:=Hq (al.trans (ax.mono al.size));have HI:Hid (StIn (w2.alloc (stO b.now (.slice ad b.now.slots.length ab) (.slice Y b.now.ends.length O))) w2.heap.size b.now (.slice ad b.now.slots.length ab) (.slice Y b.now.ends.length O)):=StIn.new w2 b.now _ _;go_upto_region 4 with fail;generalize w2.alloc (stO b.now (.slice ad b.now.slots.length ab) (.slice Y b.now.ends.length O))=W at *;generalize w2.heap.size=sq at *;clear al ax HB;obtain⟨d0,d1,d2,d3,d4⟩:=HI.out;go_wp2_with fail;refine (eY b.now n _ _ _ (by omega) aE.out.rows).mono ?_
 rintro e w4 ⟨rfl,ao⟩;have ac:=Hq (aE.out.later ao);have aw:=Hq (HI.out.later ao);have ag:=Hq (az.out.trans (ao.mono az.out.size));clear d0 d1 d2 d3 d4 aE HI az ao
 by_cases aa:Bx.find b.now n<0
 ·have I:Hid (feedP b n x=(b,ByteArray.empty,8)):=by unfold Hid;rw[Q.out,if_pos aa]
  go_wp2_with fail;go_ret2;rw[I.out];exact⟨⟨_,_,_,rfl,ac.out,Or.inl rfl⟩,TwoBy.of_grow (dy ag.out _) _⟩
 rw[if_neg aa] at Q;have hi:=Bx.find_lt b.now n aa;have aH:=find_num aa;have aZ:=HO.out.st.each _ (Bx.slAt_mem hi);have cb:=HO.out.st.n2;obtain⟨j,aC⟩:∃j:Nat,(Bx.slAt b.now (Bx.find b.now n).toNat).line=(j:Int)+1:=⟨((Bx.slAt b.now (Bx.find b.now n).toNat).line-1).toNat,by omega⟩
 have ap:=Hq aC;have hj:j<tn b.now.tab:=by omega
 have HL:Hid (startL b n=stepsS b.now j):=by unfold Hid startL;rw[aC,show ((j:Int)+1-1).toNat=j by omega]
 have b3:1≤n∧n<10000:=by rw[aH] at aZ;omega
 clear aZ aC aH;obtain⟨i,aX⟩:∃i:Nat,Bx.find b.now n=i:=Int.eq_ofNat_of_zero_le (by omega)
 rw[aX] at hi ap ⊢;simp only [Int.toNat_natCast] at hi ap;clear aa aX;have y0:¬(i:Int)<0:=by omega
 go_wp2_with fail;refine (iO b B n _ _ _ _ (by omega) ac.out).mono ?_
 rintro e w5 ⟨rfl,bg⟩;subst bg;have bu:=gU b.talks n
 by_cases aB:talkOf b.talks n<0
 ·have I:Hid (feedP b n x=(b,ByteArray.empty,9)):=by unfold Hid;rw[Q.out,if_pos aB]
  go_wp2_with fail;go_ret2;rw[I.out];exact⟨⟨_,_,_,rfl,ac.out,Or.inl rfl⟩,TwoBy.of_grow (dy ag.out _) _⟩
 rw[if_neg aB] at Q;have ar:=HA.out (by omega)
 obtain⟨k,aI⟩:∃k:Nat,talkOf b.talks n=k:=Int.eq_ofNat_of_zero_le (by omega)
 have aS:Hid (feedH b n x=hearF (stepsS b.now j) b.now.clock (stepsS b.now j).length (more (tkAt b k) x)):=by unfold Hid feedH;rw[HL.out,aI];rfl
 rw[aI] at Q ar bu ⊢;simp only [Int.toNat_natCast] at Q ar;rw[HL.out] at Q ar;have G:k<b.talks.length:=by omega
 have y1:¬(k:Int)<0:=by omega
 clear aB aI HA HL;obtain⟨d0,d1,d2,d3,d4⟩:=aw.out;go_wp2_with fail;refine (je b.now i j _ _ _ _ HO.out.st.tab hi (by omega) ap.out hj ac.out.rows).mono ?_
 rintro e d ⟨⟨v6,rfl,aq⟩,am⟩;obtain⟨aY,aF,rfl,_⟩:=aq.form;have ak:=Hq (ac.out.later am);have bw:=Hq (aw.out.later am);have a6:=Hq (ag.out.trans (am.mono ag.out.size));have bx:=Hq aq;clear d0 d1 d2 d3 d4 ac aw ag am aq;have aM:=HO.out.st.tab.lines.2.2 j hj;have aN:=iq aM;have bs:=eW aM
 change ∀s∈stepsS b.now j,2≤s.size∧s.size≤9 at aN
 change 1≤(stepsS b.now j).length∧(stepsS b.now j).length≤5 at bs
 have bp:=HO.out.ats _ (List.getElem_mem G);have bG:=HH.out _ (List.getElem_mem G);rw[eA b k G] at bp bG;obtain⟨V,ae,bX,au,_,J⟩:=ak.out.tkr.1.some' (by omega)
 cases au
 have x0:d.cell? ⟨V,ae+k*4,none⟩=some (.int .i64 (tkAt b k).num):=by rw[←eA b k G];exact RowAt.cell ed J k G 0 (by decide)
 have x1:d.cell? ⟨V,ae+k*4+1,none⟩=some (.int .i64 (tkAt b k).at'):=by rw[←eA b k G];exact RowAt.cell ed J k G 1 (by decide)
 have x2:d.cell? ⟨V,ae+k*4+2,none⟩=some (.int .i64 (tkAt b k).since):=by rw[←eA b k G];exact RowAt.cell ed J k G 2 (by decide)
 have x3:d.cell? ⟨V,ae+k*4+3,none⟩=some (.string (tkAt b k).heard):=by rw[←eA b k G];exact RowAt.cell ed J k G 3 (by decide)
 have c8:=ak.out.c8;have b2:B<d.heap.size:=ak.out.ty.lt;have d1:=bw.out.c1;have b6:sq<d.heap.size:=World.block_lt_of_cell? _ _ d1;have z1:(0:Int)≤(k:Int):=by omega
 have z2:(k:Int)<(b.talks.length:Int):=by omega
 have q8:¬9223372036854775807<(tkAt b k).heard.size+x.size:=by omega
 have bv:Hid (∀W':World,RowAt W' (.slice aY (stepsS b.now j).length aF) (stepsS b.now j).length ((stepsS b.now j).map Value.string)→Calls Tryz.prog 151 #[.agg #[.int .i64 (tkAt b k).num,.int .i64 (tkAt b k).at',.int .i64 (tkAt b k).since,.string ((tkAt b k).heard++x)],.slice aY (stepsS b.now j).length aF,.int .i64 b.now.clock] W' fun e w'=>e=.returned (.tuple #[tkV (feedH b n x).1,.string (feedH b n x).2])∧Below W'.heap.size W' w'):=by
  intro W' bN;rw[aS.out];exact oL (stepsS b.now j) _ b.now.clock (by omega) aN (stepsS b.now j).length (by omega) (more (tkAt b k) x) (tkAt b k).at'.toNat W' (by show (tkAt b k).at'=_;omega) (by omega) (by omega) (by show ((tkAt b k).heard++x).size≤_;rw[ByteArray.size_append];omega) bN
 clear J aN aS aM;generalize feedH b n x=R at *;generalize tkAt b k=t at *;generalize stepsS b.now j=L at *;have aD:=dx d (.cells #[.int .i64 t.num,.int .i64 t.at',.int .i64 t.since,.string (t.heard++x)] 220);have bE:=Hq (bx.out.later aD);have ah:=ZIn.new d #[.int .i64 t.num,.int .i64 t.at',.int .i64 t.since,.string (t.heard++x)] 220;go_wp2_with fail;refine (bv.out _ bE.out).mono ?_;rintro e w8 ⟨rfl,Z⟩;have a4:Below d.heap.size d w8:=aD.trans (Z.mono (by simp))
 have ca:d.heap.size<w8.heap.size:=by have:=Z.size;simp at this;omega
 obtain⟨⟨u0,r0⟩,f0⟩:=(ah.later (by simp) Z) 0 (by simp)
 obtain⟨⟨u1,r1⟩,f1⟩:=(ah.later (by simp) Z) 1 (by simp)
 obtain⟨⟨u2,r2⟩,f2⟩:=(ah.later (by simp) Z) 2 (by simp)
 obtain⟨⟨u3,r3⟩,f3⟩:=(ah.later (by simp) Z) 3 (by simp)
 have aW:Below d.heap.size d ((((w8.setCell ⟨d.heap.size,0,none⟩ (.int .i64 R.1.num)).setCell ⟨d.heap.size,1,none⟩ (.int .i64 R.1.at')).setCell ⟨d.heap.size,2,none⟩ (.int .i64 R.1.since)).setCell ⟨d.heap.size,3,none⟩ (.string R.1.heard)):=(((a4.setCell (Nat.le_refl _) _).setCell (Nat.le_refl _) _).setCell (Nat.le_refl _) _).setCell (Nat.le_refl _) _
 have bn:RkIn ((((w8.setCell ⟨d.heap.size,0,none⟩ (.int .i64 R.1.num)).setCell ⟨d.heap.size,1,none⟩ (.int .i64 R.1.at')).setCell ⟨d.heap.size,2,none⟩ (.int .i64 R.1.since)).setCell ⟨d.heap.size,3,none⟩ (.string R.1.heard)) d.heap.size R.1:=by
  refine⟨?_,?_,?_,?_⟩<;>simp[go_sem,r0,r1,r2,r3]
 go_upto_region 14 with fail;clear x0 x1 x2 x3 c8 d1 r0 r1 r2 r3 f0 f1 f2 f3 ah aD Z a4;generalize (((w8.setCell ⟨d.heap.size,0,none⟩ (.int .i64 R.1.num)).setCell ⟨d.heap.size,1,none⟩ (.int .i64 R.1.at')).setCell ⟨d.heap.size,2,none⟩ (.int .i64 R.1.since)).setCell ⟨d.heap.size,3,none⟩ (.string R.1.heard)=W9 at *;have U:=Hq (ak.out.later aW);have av:=Hq (a6.out.trans (aW.mono a6.out.size));obtain⟨t0,t1,t2,t3⟩:=bn;generalize d.heap.size=tq at *
 by_cases aK:(L.length:Int)≤R.1.at'
 ·rw[if_pos aK] at Q;have aV:∀c∈[chD n],ChOk c:=by intro c hc;simp at hc;subst hc;exact ia (by decide) (by decide) (by omega) (by omega)
  have aU:=dx W9 (chO (chD n));have aR:=kh W9 (chD n);have ay:=U.out.later aU;have aJ:Hid (w.grownBy (W9.alloc (chO (chD n))) (some B)):=dy (av.out.trans (aU.mono av.out.size)) _
  by_cases hF:b.room<(b.text.size:Int)+(Bx.frames [chD n]).size
  ·have I:Hid (feedP b n x=(b,ByteArray.empty,13)):=by unfold Hid;rw[Q.out,if_pos hF]
   go_wp2_with fail;refine (gm b B _ _ _ _ [chD n] _ (by simp) aV HO.out.txt hF aR ay).mono ?_
   rintro e bh ⟨rfl,aA⟩;go_wp2_with fail;go_ret2;rw[I.out];exact⟨⟨_,_,_,rfl,ay.later aA,Or.inl rfl⟩,TwoBy.of_grow (dA aJ.out (dy aA _)) _⟩
  ·have I:Hid (feedP b n x=({addB b [chD n] with talks:=hushL (Bx.told b.now [chD n]) b.talks},R.2,0)):=by unfold Hid;rw[Q.out,if_neg hF]
   go_wp2_with fail;refine (fK b B _ _ _ _ [chD n] _ HO.out.st (by simp) aV HO.out.txt (by omega) aR ay).mono ?_
   rintro e bh ⟨rfl,⟨b4,b7,bA⟩,aT⟩;have bR:(Bx.told b.now [chD n]).slots.length≤8:=(Bx.told_ok HO.out.st _).sl;go_wp2_with fail;refine (iK (addB b [chD n]) B _ _ _ _ (by show (Bx.told b.now [chD n]).slots.length≤10000;omega) (by show b.talks.length≤1000;omega) bA).mono ?_
   rintro e b5 ⟨rfl,⟨b8,bI,bo⟩,bz⟩;go_wp2_with fail;go_ret2;rw[I.out];exact⟨⟨_,_,_,rfl,bI,bo.grow (dA aJ.out aT).size⟩,TwoBy.of_grow (dA (dA aJ.out aT) bz) _⟩
 ·rw[if_neg aK] at Q;obtain⟨g,bT,bm,b9,cc⟩:=U.out.tk.form (by omega)
  cases bm
  have HN:Hid (BoxIn _ B {b with talks:=b.talks.set k R.1} (.slice ad b.now.slots.length ab) (.slice Y b.now.ends.length O) (.slice (some ⟨V,0,none⟩) b.talks.length aL)):=(U.out.tset G R.1).later (Below.refl _ _).drew;obtain⟨_,_,_,au,_,J⟩:=U.out.tkr.1.some' (by omega)
  cases au
  have x0:W9.cell? ⟨V,k*4,none⟩=some (.int .i64 b.talks[k].num):=by have:=RowAt.cell ed J k G 0 (by decide);simpa [tkC] using this
  have x1:W9.cell? ⟨V,k*4+1,none⟩=some (.int .i64 b.talks[k].at'):=by have:=RowAt.cell ed J k G 1 (by decide);simpa [tkC] using this
  have x2:W9.cell? ⟨V,k*4+2,none⟩=some (.int .i64 b.talks[k].since):=by have:=RowAt.cell ed J k G 2 (by decide);simpa [tkC] using this
  have x3:W9.cell? ⟨V,k*4+3,none⟩=some (.string b.talks[k].heard):=by have:=RowAt.cell ed J k G 3 (by decide);simpa [tkC] using this
  have g0:=fH U.out.tk (k*4);have g1:=fH U.out.tk (k*4+1);have g2:=fH U.out.tk (k*4+2);have g3:=fH U.out.tk (k*4+3);have c8:=U.out.c8;clear J;have I:=Hq Q.out;have a2:Hid (TwoBy w _ B (some V)):=(TwoBy.of_grow (dy av.out _) _).trans ((TwoBy.of_grow2 (dJ (dJ (dJ (dJ (eF W9 (some V)) (k*4) (.int .i64 R.1.num)) (k*4+1) (.int .i64 R.1.at')) (k*4+2) (.int .i64 R.1.since)) (k*4+3) (.string R.1.heard)) B).trans (TwoBy.of_grow (dy (Below.refl _ _).drew _) _));go_wp2_with fail
  go_region
  go_wp2_with fail;go_ret2;rw[I.out]
  first |exact⟨⟨_,_,_,rfl,HN.out,Or.inl rfl⟩,a2.out⟩|exact⟨⟨rfl,_,_,_,HN.out,Or.inl rfl⟩,a2.out⟩
end Go.Proofs.YtdajolpoiffimabGreatDoor
