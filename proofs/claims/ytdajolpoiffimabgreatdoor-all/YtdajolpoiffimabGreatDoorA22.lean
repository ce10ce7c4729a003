import Derived.Deep.RegionHeld3
import Derived.Deep.DrawnRows
import Derived.Deep.Slices
import Derived.ChangeArms
import Derived.Test.YtdajolpoiffimabGreatDoorA21

namespace Go.Proofs.YtdajolpoiffimabGreatDoor
open Go.RowKit
attribute [local go_sem] Bx.be_size
theorem oD (s:Px.St):({data:= #[90]}:ByteArray)++Bx.be (s.clock+1) 5++Bx.be s.next 2++Bx.be s.tab.size 2++s.tab++(Bx.be s.slots.length 1++Bx.cat (s.slots.map encA))++(Bx.be s.ends.length 1++Bx.cat (s.ends.map Bx.encEn))=Bx.wholeS (Px.abs s):=by
 have e:(Px.abs s).slots.map Bx.encSl=s.slots.map encA:=by unfold Px.abs;simp only [List.map_map];rfl
 have d:(Px.abs s).slots.length=s.slots.length:=by simp[Px.abs]
 unfold Bx.wholeS Bx.encSt;rw[e,d];simp only [ByteArray.append_assoc];rfl
set_option maxRecDepth 10000 in
set_option maxHeartbeats 0 in
theorem iU (s:Px.St) (sl en:Value) (w:World) (hf:Bx.StFit (Px.abs s)) (ht:s.tab.size≤1000) (hS:PAt w s sl en):
 Calls Tryz.prog 37 #[pstV s sl en] w fun e w'=>e=.returned (.string (Bx.frame (Bx.wholeS (Px.abs s))))∧Below w.heap.size w w':=by
 obtain⟨O,I,rfl,aR⟩:=hS.sl.form;obtain⟨J,G,rfl,aQ⟩:=hS.en.form;obtain⟨c1,c2⟩:=hf.c;obtain⟨n1,n2⟩:=hf.n;have aH:s.slots.length≤255:=by have:=hf.sl;simp[Px.abs] at this;omega
 have aD:s.ends.length≤255:=by have:=hf.en;simp[Px.abs] at this;omega
 have aZ: -1≤s.clock:=c1;have aY:s.clock<1099511627775:=c2;have a2:0≤s.next:=n1;have aX:s.next<65536:=n2;have aL:Hid (∀x∈s.slots,Bx.SlFit (Px.absS x)):=fun x hx=>hf.es _ (List.mem_map.2 ⟨x,hx,rfl⟩)
 have ar:Hid (∀x∈s.ends,Bx.EnFit x):=hf.ee;have HS:Hid (PAt w s (.slice O s.slots.length I) (.slice J s.ends.length G)):=hS;have HE:Hid (({data:= #[90]}:ByteArray)++Bx.be (s.clock+1) 5++Bx.be s.next 2++Bx.be s.tab.size 2++s.tab++(Bx.be s.slots.length 1++Bx.cat (s.slots.map encA))++(Bx.be s.ends.length 1++Bx.cat (s.ends.map Bx.encEn))=Bx.wholeS (Px.abs s)):=oD s
 have aO:(Bx.be s.slots.length 1++Bx.cat (s.slots.map encA)).size≤4000:=by
  have h1:=Bx.cat_size encA 15 s.slots (fun x _=>Bx.encSl_size _)
  rw[ByteArray.size_append,Bx.be_size,h1];omega
 have aJ:(Bx.be s.ends.length 1++Bx.cat (s.ends.map Bx.encEn)).size≤1000:=by
  have h1:=Bx.cat_size Bx.encEn 3 s.ends (fun x hx=>by unfold Bx.encEn;rw[ByteArray.size_append,Bx.be_size,(ar.out x hx).h])
  rw[ByteArray.size_append,Bx.be_size,h1];omega
 have hZ:Hid ((Bx.wholeS (Px.abs s)).size≤100000):=by
  unfold Hid;rw[←HE.out];simp only [ByteArray.size_append,Bx.be_size] at aO aJ ⊢;have:({data:= #[90]}:ByteArray).size=1:=rfl;omega
 have ac:=dx w (pstO s (.slice O s.slots.length I) (.slice J s.ends.length G));have hI:=PIn.new w s (.slice O s.slots.length I) (.slice J s.ends.length G);clear hf hS c1 c2 n1 n2
 go_enter Tryz.func37,Tryz.ntmps37
 go_upto_region 1 with fail;generalize w.alloc (pstO s (.slice O s.slots.length I) (.slice J s.ends.length G))=W at *;have HI:Hid (PIn W w.heap.size s (.slice O s.slots.length I) (.slice J s.ends.length G)):=hI;have HB:Hid (Below w.heap.size w W):=ac;have HA:Hid (PAt W s (.slice O s.slots.length I) (.slice J s.ends.length G)):=HS.out.later ac;obtain⟨Q,U,Y,V,Z⟩:=hI;clear ac HS Q Y V Z;go_wp2_with fail;refine (dO _ _ (s.clock+1) 5 _ rfl rfl (by omega) (by omega) (by decide)).mono ?_
 rintro e w1 ⟨rfl,d⟩;have ap:=HI.out.later d;have ak:Hid (Below w.heap.size w w1):=HB.out.trans (d.mono HB.out.size);have av:Hid (PAt w1 s (.slice O s.slots.length I) (.slice J s.ends.length G)):=HA.out.later d;have ae:Hid (PIn w1 w.heap.size s (.slice O s.slots.length I) (.slice J s.ends.length G)):=ap;clear HI HB HA d U;obtain⟨Q,U,Y,V,Z⟩:=ap;clear Q U V Z;go_wp2_with fail;refine (dO _ _ s.next 2 _ rfl rfl (by omega) (by omega) (by decide)).mono ?_
 rintro e w2 ⟨rfl,d⟩;have ao:=ae.out.later d;have af:Hid (Below w.heap.size w w2):=ak.out.trans (d.mono ak.out.size);have aq:Hid (PAt w2 s (.slice O s.slots.length I) (.slice J s.ends.length G)):=av.out.later d;have ai:Hid (PIn w2 w.heap.size s (.slice O s.slots.length I) (.slice J s.ends.length G)):=ao;clear ae ak av d Y;obtain⟨Q,U,Y,V,Z⟩:=ao;clear U Y V Z;go_wp2_with fail;refine (dO _ _ (s.tab.size:Int) 2 _ rfl rfl (by omega) (by omega) (by decide)).mono ?_
 rintro e w3 ⟨rfl,d⟩;have au:=ai.out.later d;have ag:Hid (Below w.heap.size w w3):=af.out.trans (d.mono af.out.size);have am:Hid (PAt w3 s (.slice O s.slots.length I) (.slice J s.ends.length G)):=aq.out.later d;have ah:Hid (PIn w3 w.heap.size s (.slice O s.slots.length I) (.slice J s.ends.length G)):=au;clear ai af aq d Q;obtain⟨Q,U,Y,V,Z⟩:=au;clear Q U Y Z;go_wp2_with fail;refine (jp s.slots _ _ aH aL.out am.out.sl.1).mono ?_;rintro e w4 ⟨rfl,d⟩;have ax:=ah.out.later d;have aj:Hid (Below w.heap.size w w4):=ag.out.trans (d.mono ag.out.size);have aw:Hid (PAt w4 s (.slice O s.slots.length I) (.slice J s.ends.length G)):=am.out.later d;have ab:Hid (PIn w4 w.heap.size s (.slice O s.slots.length I) (.slice J s.ends.length G)):=ax;clear ah ag am d V;obtain⟨Q,U,Y,V,Z⟩:=ax;clear Q U Y V;go_wp2_with fail;refine (jS s.ends _ _ aD ar.out aw.out.en.1).mono ?_;rintro e w5 ⟨rfl,d⟩;have aN:=ab.out.later d;have al:Hid (Below w.heap.size w w5):=aj.out.trans (d.mono aj.out.size);clear ab aj aw d Z;obtain⟨Q,U,Y,V,Z⟩:=aN;clear U Y V Z;generalize Bx.be s.slots.length 1++Bx.cat (s.slots.map encA)=X1 at *;generalize Bx.be s.ends.length 1++Bx.cat (s.ends.map Bx.encEn)=X2 at *;have q1:¬9223372036854775807<10+s.tab.size:=by omega
 have q2:¬9223372036854775807<10+s.tab.size+X1.size:=by omega
 have q3:¬9223372036854775807<10+s.tab.size+X1.size+X2.size:=by omega
 go_wp2_with fail;rw[HE.out];refine (fF _ _ hZ.out).mono ?_;rintro e w6 ⟨rfl,d⟩;have aF:Hid (Below w.heap.size w w6):=al.out.trans (d.mono al.out.size);clear al d Q;go_wp2_with fail;go_ret;exact⟨rfl,aF.out⟩
set_option maxRecDepth 10000 in
set_option maxHeartbeats 0 in
theorem kz (x:Px.Sl) (w:World):Calls Tryz.prog 94 #[psV x] w fun e I=>e=.returned (psV (Px.wait x))∧Below w.heap.size w I:=by
 have G:Hid (∀o d,Below w.heap.size w ((w.alloc o).alloc d)):=fun o d=>(dx w o).alloc (by simp) d
 go_enter Tryz.func94,Tryz.ntmps94
 go_wp2_with fail;refine bodyPost_ret (v:=psV (Px.wait x)) (by simp[results,Tryz.results94,go_sem,Px.wait];rfl) rfl ⟨rfl,?_⟩
 first |exact G.out _ _|(repeat (refine Below.setCell ?_ (by simp) _);exact G.out _ _)
set_option maxRecDepth 10000 in
set_option maxHeartbeats 0 in
theorem py (s:Px.St) (sl en:Value) (w:World) (hl:s.slots.length≤10000) (hS:PAt w s sl en):
 Calls Tryz.prog 64 #[pstV s sl en] w fun e w'=>(∃ay aB,e=.returned (pstV (Px.intP s) ay aB)∧PAt w' (Px.intP s) ay aB)∧Below w.heap.size w w':=by
 obtain⟨i0,hi,aY,aQ,aM⟩:=info_parts gv;obtain⟨U,I,rfl,bt⟩:=hS.sl.form;obtain⟨G,d,rfl,a9⟩:=hS.en.form;have al:=(dx w (pstO s (.slice U s.slots.length I) (.slice G s.ends.length d))).alloc (by simp) (.cells #[.string {data:= #[]},.int .i64 0,.int .i64 0,.slice none 0 0,.slice none 0 0] 77)
 have hI:=(PIn.new w s (.slice U s.slots.length I) (.slice G s.ends.length d)).later (dx _ (.cells #[.string {data:= #[]},.int .i64 0,.int .i64 0,.slice none 0 0,.slice none 0 0] 77));have hz:=Cl.new (w.alloc (pstO s (.slice U s.slots.length I) (.slice G s.ends.length d))) [.string {data:= #[]},.int .i64 0,.int .i64 0,.slice none 0 0,.slice none 0 0] 77;have aD:(w.alloc (pstO s (.slice U s.slots.length I) (.slice G s.ends.length d))).heap.size=w.heap.size+1:=by simp
 rw[aD] at hz;clear aD
 go_enter Tryz.func64,Tryz.ntmps64
 go_upto_region 1 with fail;have aj:Cl ((w.alloc (pstO s (.slice U s.slots.length I) (.slice G s.ends.length d))).alloc (.cells #[.string {data:= #[]},.int .i64 0,.int .i64 0,.slice none 0 0,.slice none 0 0] 77)) (w.heap.size+1) 77 [.string {data:= #[]},.int .i64 0,.int .i64 0,.slice none 0 0,.slice none 0 0]:=hz;clear hz;generalize (w.alloc (pstO s (.slice U s.slots.length I) (.slice G s.ends.length d))).alloc (.cells #[.string {data:= #[]},.int .i64 0,.int .i64 0,.slice none 0 0,.slice none 0 0] 77)=W at *;have HZ:Hid (Cl W (w.heap.size+1) 77 [.string {data:= #[]},.int .i64 0,.int .i64 0,.slice none 0 0,.slice none 0 0]):=aj;have HI:Hid (PIn W w.heap.size s (.slice U s.slots.length I) (.slice G s.ends.length d)):=hI;have HB:Hid (Below w.heap.size w W):=al;have HA:Hid (PAt W s (.slice U s.slots.length I) (.slice G s.ends.length d)):=hS.later al;have HO:Hid ((W.alloc (.cells #[] 143)).ownsRow W.heap.size 143 8 (.slice (some ⟨W.heap.size,0,none⟩) 0 0) 0 []):=et W 143 8;have a4:Hid (Below W.heap.size W (W.alloc (.cells #[] 143))):=dx W _;have bE:w.heap.size+1<W.heap.size:=aj.ty.lt;clear aj hI al hS;go_wp2_with fail
 go_loopw [3,4] (fun v i wr=>∃k:Nat,k≤s.slots.length∧i=.int .i64 k∧wr.ownsRow W.heap.size 143 8 v ((s.slots.take k).map Px.wait).length (((s.slots.take k).map Px.wait).flatMap psC)∧Below W.heap.size W wr) (fun _ i _=>s.slots.length-(intOf i).toNat)
 case atStart=>exact⟨0,Nat.zero_le _,rfl,HO.out,a4.out⟩
 case round=>
  obtain⟨k,hk,rfl,Y,O⟩:=hrel;have aI:=O.size;have aU:=HI.out.later O;obtain⟨j0,j1,j2,j3,j4⟩:=aU
  by_cases au:k<s.slots.length
  ·obtain⟨b,bL,bv,hv,_,hc⟩:=(HA.out.sl.1.later O).some' (by omega)
   cases hv
   obtain⟨d0,d1,d2,d3,d4,d5,d6,d7⟩:=ej hc k au;clear hc;have b1:(0:Int)≤(k:Int):=by omega
   have b2:(k:Int)<(s.slots.length:Int):=by omega
   have hn:((s.slots.take k).map Px.wait).length≤10000:=by simp;omega
   have HF:Hid ((s.slots.take (k+1)).map Px.wait=(s.slots.take k).map Px.wait++[Px.wait s.slots[k]]):=by
    unfold Hid;rw[List.take_succ_eq_append_getElem au,List.map_append];rfl
   generalize s.slots[k]=x at *;generalize (s.slots.take k).map Px.wait=L at *;have aw:Hid (wr.ownsRow W.heap.size 143 8 _ L.length (L.flatMap psC)):=Y;have aa:Hid (Below W.heap.size W wr):=O;clear Y O j0 j1 j2 j4;go_wp2_with fail;refine (kz x _).mono ?_;rintro e w1 ⟨rfl,ak⟩;clear d0 d1 d2 d3 d4 d5 d6 d7 j3;generalize Px.wait x=y at *;have ag:=dV aw.out ak;have af:Below W.heap.size W w1:=aa.out.trans (ak.mono aI);have aJ:=af.size;clear aw aa ak;have av:=dx w1 (psO y);have Z:=dV ag av;have ae:Below W.heap.size W (w1.alloc (psO y)):=af.alloc aJ _;have hX:=PsIn.new w1 y;clear ag af av;go_upto_region 6 with fail;generalize w1.alloc (psO y)=W2 at *;generalize w1.heap.size=xq at *;obtain⟨e0,e1,e2,e3,e4,e5,e6,e7⟩:=hX;have aH:=ae.size;go_wp2_with (at_builtin;refine wpList_append_lies _ rfl (.tmp 21) (.tmp 23) 75 rfl W.heap.size 143 i0 (.agg #[.int .i64 0,.int .i64 0,.int .i64 0,.int .i64 0,.int .i64 0,.int .i64 0,.int .i64 0,.string ByteArray.empty]) 8 72 Tryz.underlying75 hi aY aQ aM rfl (by decide) _ _ _ rfl (Z.alloc _) ⟨W2.heap.size,0,none⟩ 1 1 (psC y) rfl rfl (fw _ _ _) (fu y) (by decide) ?c3 ?c4 ?c5 _ rfl ?_)
   case c3=>unfold maxLen;omega
   case c4=>omega
   case c5=>simp;omega
   ·intro g aE w3 ah ai _ bf;have B1:Below W.heap.size W w3:=(ae.alloc aH _).grown ai (by simp;omega) (fun k' e=>(Z.lt k' e).1)
    have ao:w3.ownsRow W.heap.size 143 8 (.slice (some ⟨g,0,none⟩) (L.length+1) aE) (L++[y]).length ((L++[y]).flatMap psC):=by simpa using ah
    clear ah ai Z ae e0 e1 e2 e3 e4 e5 e6 e7;go_wp2_with fail;go_roundw
    case rel=>exact⟨k+1,by omega,by go_num,by rw[HF.out];exact ao,B1⟩
    case measure=>simp[intOf];omega
  ·obtain rfl:k=s.slots.length:=by omega
   rw[List.take_length] at Y;have hT:=TRow.of_own Y;obtain⟨V,J,aR,_⟩:=hT.form;subst aR;have ap:Hid (TRow wr 143 (.slice V (s.slots.map Px.wait).length J) (Px.intP s).slots.length ((Px.intP s).slots.flatMap psC)):=hT;have ab:=HZ.out.later O;have ar:Hid (TRow wr 85 (.slice G s.ends.length d) s.ends.length (s.ends.flatMap enC)):=HA.out.en.later O;have aa:Hid (Below w.heap.size w wr):=HB.out.trans (O.mono HB.out.size);have hP:PRes w wr s (.slice U s.slots.length I) (.slice G s.ends.length d):=⟨HI.out.later O,fun i hi=>⟨⟨_,ab.c i _ (List.getElem?_eq_getElem (by simpa using hi))⟩,ab.f i (by simpa using hi)⟩,ab.ty,aa.out,ab.ty.lt⟩
   have ax:=hP.later (dx wr (pstO s (.slice U s.slots.length I) (.slice G s.ends.length d)));have aC:=ap.out.later (dx wr (pstO s (.slice U s.slots.length I) (.slice G s.ends.length d)));have az:=ar.out.later (dx wr (pstO s (.slice U s.slots.length I) (.slice G s.ends.length d)));have hA:=PW.new wr s (.slice U s.slots.length I) (.slice G s.ends.length d);have a6:=hP.lt;clear hT Y ap ar aa ab O hP;generalize (s.slots.map Px.wait).length=nl at *;go_upto_region 8 with fail;clear j0 j1 j2 j3 j4;generalize wr.alloc (pstO s (.slice U s.slots.length I) (.slice G s.ends.length d))=W2 at *;generalize wr.heap.size=q at *;have a3:=hA.st.c3;have f3:=hA.f 3 (by decide)
   have bK:=hA.ty.lt;have Q:=ax.set a6 3 (.slice V nl J);have am:PW _ q (Px.intP s) _ _:=hA.slots (s.slots.map Px.wait) (.slice V nl J);have aA:=aC.set hA.ty (by decide) 3 (.slice V nl J)
   have aq:=az.set hA.ty (by decide) 3 (.slice V nl J)
   clear hA ax aC az;go_upto_region 9 with fail;clear a3 f3;generalize W2.setCell ⟨q,3,none⟩ (.slice V nl J)=W4 at *;have HX:Hid (PEnd w W4 q (Px.intP s) (.slice V nl J) (.slice G s.ends.length d)):=⟨am,⟨aA,aq⟩,Q.z,Q.ty,Q.bel⟩;obtain⟨⟨⟨u0,r0⟩,f0⟩,⟨⟨u1,r1⟩,f1⟩,⟨⟨u2,r2⟩,f2⟩,⟨⟨u3,r3⟩,f3⟩,⟨⟨u4,r4⟩,f4⟩⟩:=And.intro (Q.z 0 (by decide)) (And.intro (Q.z 1 (by decide)) (And.intro (Q.z 2 (by decide)) (And.intro (Q.z 3 (by decide)) (Q.z 4 (by decide)))))
   obtain⟨c0,c1,c2,c3,c4⟩:=am.st;clear Q am aA aq;go_wp2_with fail;refine bodyPost_ret (v:=pstV (Px.intP s) (.slice V nl J) (.slice G s.ends.length d)) (by simp[results,Tryz.results64,go_sem,r0,r1,r2,r3,r4]) rfl ?_
   exact⟨⟨_,_,rfl,(HX.out.fin _ _ _ _ _).1⟩,(HX.out.fin _ _ _ _ _).2⟩
end Go.Proofs.YtdajolpoiffimabGreatDoor

namespace Go.Proofs.YtdajolpoiffimabGreatDoor
namespace Px
def ChM (s:St) (h:Bx.Ch) (p:St×Int):Prop:=(p.2=0→Bx.doP (abs s) h=(abs p.1,true)∧Ok p.1)∧(¬p.2=0→(Bx.doP (abs s) h).2=false)
open Classical in
theorem chm_tab {s:St} (Q:Ok s) {tab:ByteArray}{n:Int}{a r:Int} (d:ChkR tab a r):ChM s ⟨84,tab,n⟩ (if r=0 then tabP s tab else (st0,r)):=by
 have e:Bx.doP (abs s) ⟨84,tab,n⟩=if ChkR tab 0 0∧(abs s).slots.length=0 then ({abs s with tab:=tab},true) else (abs s,false):=by unfold Bx.doP;rw[if_pos rfl]
 have G:(abs s).slots.length=s.slots.length:=by simp[abs]
 by_cases w:r=0
 ·subst w;have V:=d.zero rfl;subst V;rw[if_pos rfl];unfold tabP
  by_cases O:0<s.slots.length
  ·rw[if_pos O];refine⟨fun q=>absurd q (by decide),fun _=>?_⟩
   rw[e,if_neg (by rw[G];omega)]
  ·rw[if_neg O];have I:s.slots=[]:=List.eq_nil_of_length_eq_zero (by omega)
   refine⟨fun _=>⟨?_,?_⟩,fun q=>absurd rfl q⟩
   ·rw[e,if_pos ⟨d,by rw[G];omega⟩];rfl
   ·have U:Bx.StOk (abs {s with tab:=tab}):=by
     have:=Bx.do_ok Q.st ⟨84,tab,n⟩;rw[e,if_pos ⟨d,by rw[G];omega⟩] at this
     exact this
    exact⟨U,Q.rise,fun x J=>by rw[I] at J;simp at J⟩
 ·rw[if_neg w];refine⟨fun q=>absurd q w,fun _=>?_⟩
  rw[e,if_neg];rintro ⟨q,_⟩;exact w (d.uniq q).2
theorem chm_clock {s:St} (I:Ok s) (t:ByteArray) (m:Int):ChM s ⟨67,t,m⟩ (clockP s m):=by
 have e:Bx.doP (abs s) ⟨67,t,m⟩=Bx.clockedP (abs s) m:=by unfold Bx.doP;rw[if_neg (show ¬(67:Int)=84 by decide),if_pos rfl]
 refine⟨fun h0=>⟨by rw[e];exact clock_abs s m h0,clock_ok I h0⟩,fun h0=>?_⟩
 rw[e];have w:=clock_err s m;unfold Bx.clockedP
 by_cases d:Bx.ahead (abs s) m=true
 ·rw[if_pos d];have hA:0≤m∧m≤4223371679∧s.clock<m∧(s.clock= -1∨m-s.clock≤1500):=of_decide_eq_true d;have hb:aheadP s m=true:=decide_eq_true hA.2.2;rw[if_neg (by omega),hb,if_neg (by simp)] at w
  by_cases G:10000<s.next+((comesP s m).length:Int)
  ·rw[if_neg]
   show ¬s.next+((comesP s m).length:Int)≤10000
   omega
  ·rw[if_neg G] at w;exact absurd w h0
 ·rw[if_neg d]
theorem chm_start {s:St} (d:Ok s) (t:ByteArray) (n:Int):ChM s ⟨83,t,n⟩ (startP s n):=by
 have e:Bx.doP (abs s) ⟨83,t,n⟩=Bx.aboutP (abs s) 83 n:=do_about _ _ _ _ (by decide) (by decide)
 refine⟨fun h0=>?_,fun h0=>?_⟩
 ·refine⟨?_,startP_ok d n h0⟩;rw[e]
  rcases start_abs d.dist n with ⟨q,_⟩|⟨i,hi,_,I,q⟩
  ·omega
  ·rcases q with ⟨q,_⟩|⟨q,_⟩|⟨q,_⟩|⟨_,_,_,_,_,q⟩
   ·omega
   ·omega
   ·omega
   ·exact q
 ·rw[e];unfold Bx.aboutP
  rcases start_abs d.dist n with ⟨_,J⟩|⟨i,hi,G,I,q⟩
  ·rw[if_pos J]
  ·rw[G,if_neg (by omega),if_neg (by decide),if_pos rfl]
   simp only [Int.toNat_natCast]
   rw[if_pos];rw[slAt_abs hi]
   rcases q with ⟨_,q⟩|⟨_,_,q⟩|⟨_,w,_,q⟩|⟨q,_⟩
   ·left;simp[absS,q]
   ·right;left;exact q
   ·right;right;rw[lock_abs hi w];exact q
   ·exact absurd q h0
theorem ended_ok {s:St} (d:Ok s) {k n:Int}{how:ByteArray} (h:Bx.aboutP (abs s) k n=(abs (ended s n how),true)):Ok (ended s n how):=by
 refine d.skip n how ?_;have:=Bx.about_ok d.st k n;rw[h] at this;exact this
theorem chm_done {s:St} (d:Ok s) (t:ByteArray) (n:Int):ChM s ⟨68,t,n⟩ (doneP s n):=by
 have e:Bx.doP (abs s) ⟨68,t,n⟩=Bx.aboutP (abs s) 68 n:=do_about _ _ _ _ (by decide) (by decide)
 have hd:(doneP s n).2=0→(doneP s n).1=ended s n Bx.hD:=by
  intro h0;unfold doneP at h0 ⊢
  cases q:find s.slots n with
  | none=>rw[q] at h0;cases h0
  | some x=>
    rw[q] at h0;simp only at h0 ⊢
    split at h0
    ·cases h0
    ·rename_i h;rw[if_neg h]
 rcases done_abs d.dist n d.num1 with ⟨q,I⟩|⟨q,i,G,J⟩|⟨q,w⟩
 ·refine⟨fun h0=>by omega,fun _=>?_⟩
  rw[e];unfold Bx.aboutP;rw[if_pos I]
 ·refine⟨fun h0=>by omega,fun _=>?_⟩
  rw[e];unfold Bx.aboutP;rw[G,if_neg (by omega),if_neg (by decide),if_neg (by decide),if_pos rfl]
  simp only [Int.toNat_natCast];exact J
 ·refine⟨fun h0=>⟨by rw[e];exact w,?_⟩,fun h0=>absurd q h0⟩
  rw[hd h0] at w ⊢;exact ended_ok d w
theorem chm_fail {s:St} (d:Ok s) (t:ByteArray) (n:Int):ChM s ⟨70,t,n⟩ (failP s n):=by
 have e:Bx.doP (abs s) ⟨70,t,n⟩=Bx.aboutP (abs s) 70 n:=do_about _ _ _ _ (by decide) (by decide)
 rcases fail_abs d.dist n d.num1 d.att with ⟨q,I⟩|⟨q,i,w,J⟩|⟨q,G⟩
 ·refine⟨fun h0=>by omega,fun _=>?_⟩
  rw[e];unfold Bx.aboutP;rw[if_pos I]
 ·refine⟨fun h0=>by omega,fun _=>?_⟩
  rw[e];unfold Bx.aboutP;rw[w,if_neg (by omega),if_neg (by decide),if_neg (by decide),if_neg (by decide),if_pos rfl]
  simp only [Int.toNat_natCast];exact J
 ·exact⟨fun h0=>⟨by rw[e];exact G,fail_ok d n h0⟩,fun h0=>absurd q h0⟩
theorem chm_cancel {s:St} (d:Ok s) (t:ByteArray) (n:Int):ChM s ⟨75,t,n⟩ (cancelP s n):=by
 have e:Bx.doP (abs s) ⟨75,t,n⟩=Bx.aboutP (abs s) 75 n:=do_about _ _ _ _ (by decide) (by decide)
 rcases cancel_abs d.dist n d.num1 with ⟨q,G⟩|⟨q,w⟩
 ·refine⟨fun h0=>by omega,fun _=>?_⟩
  rw[e];unfold Bx.aboutP;rw[if_pos G]
 ·refine⟨fun h0=>⟨by rw[e];exact w,?_⟩,fun h0=>absurd q h0⟩
  rw[cancel_st h0] at w ⊢;exact ended_ok d w
theorem fresh_ok {s:St} (w:∀x∈s.slots,Fresh x) (hm:Bx.MayS (abs s)):Ok s:=by
 refine⟨hm.ok,?_,fun x e=>?_⟩
 ·have:=hm.rise;unfold abs at this;rw[List.pairwise_map] at this;exact this
 ·obtain⟨h1,h2,d,Q⟩:=w x e
  have G:LineP (tl s.tab (x.line-1).toNat):=by
   have q:=(hm.es (absS x) (List.mem_map.2 ⟨x,e,rfl⟩)).l;have I:1≤x.line∧x.line≤tn s.tab:=q;exact hm.tab.lines.2.2 _ (by show (x.line-1).toNat<tn s.tab;omega)
  have J:=G.n7;have O:1≤(stepsOf (tl s.tab (x.line-1).toNat)).length:=by unfold stepsOf;rw[List.length_drop];omega
  refine⟨by omega,by omega,by omega,by omega,by rw[d];decide,fun _=>d⟩
end Px
end Go.Proofs.YtdajolpoiffimabGreatDoor

namespace Go.Proofs.YtdajolpoiffimabGreatDoor
open Go.RowKit
set_option maxHeartbeats 0 in
theorem ey (e:Int) (w:World):Calls Tryz.prog 70 #[.int .i64 e] w fun r d=>r=.returned (.int .i64 e)∧d=w:=by
 go_enter Tryz.func70,Tryz.ntmps70
 go_wp2_with fail;go_ret;exact⟨rfl,rfl⟩
set_option maxHeartbeats 0 in
theorem jC (w:World) (I P B D:Nat) (tk:Value) (b:Px.Bo) (d:Bx.Bo) (i:Int) (hd:Duo w I P B D tk b d):
 Calls Tryz.prog 82 #[.pointer (some ⟨P,0,none⟩),.int .i64 i] w fun e w'=>e=.returned (.bool true)∧Below w.heap.size w w':=by
 have c0:=hd.p.c0;have hP:=hd.p.ty.lt;have O:=Hq hd;have Y:Hid (∃x r,slotA b.st.slots i=(x,r)):=⟨_,_,rfl⟩;obtain⟨x,r,V⟩:=Y.out;have U:=Hq V;clear hd V Y
 go_enter Tryz.func82,Tryz.ntmps82
 go_wp2_with (first
  | (go_at_call 32;refine (nT b B i _ O.out.rel.ok O.out.x).mono ?_;rw[U.out];rintro e w1 ⟨rfl,G⟩;have Q:Hid (∀o,Duo (w1.alloc o) I P B D tk b d):=(fun o=>(O.out.later G).later (dx w1 o));have c1:Hid (∀o,(w1.alloc o).cell? ⟨P,1,none⟩=some (.pointer (some ⟨D,0,none⟩))):=(fun o=>(Q.out o).p.c1);have af:=c1.out (.cells #[.int .i64 x.num,.int .i64 x.line,.int .i64 x.minute,.int .i64 x.att,.int .i64 x.frm,.int .i64 x.step] 81);have ae:P<w1.heap.size:=Nat.lt_of_lt_of_le hP G.size)
  | (go_at_call 119;refine (nK b d D tk i _ O.out.rel (Q.out _).y).mono ?_;rw[U.out];rintro e w2 ⟨rfl,J⟩;obtain⟨ag,ad⟩:=dU J;have Z:w1.heap.size<w2.heap.size:=(by have:=J.size;simp at this;omega))
  | (go_at_call 70;refine (ey _ _).mono ?_;rintro e w3 ⟨rfl,rfl⟩))
 go_ret
 exact⟨rfl,((G.alloc G.size _).trans (J.mono (by simp;exact Nat.le_succ_of_le G.size))).alloc (Nat.le_trans G.size (Nat.le_of_lt Z)) _⟩
set_option maxHeartbeats 0 in
theorem kx (w:World) (I P B D:Nat) (tk:Value) (b:Px.Bo) (d:Bx.Bo) (i:Int) (hd:Duo w I P B D tk b d):
 Calls Tryz.prog 83 #[.pointer (some ⟨P,0,none⟩),.int .i64 i] w fun e w'=>e=.returned (.bool true)∧Below w.heap.size w w':=by
 have c0:=hd.p.c0;have hP:=hd.p.ty.lt;have O:=Hq hd;have Y:Hid (∃x r,endA b.st.ends i=(x,r)):=⟨_,_,rfl⟩;obtain⟨x,r,V⟩:=Y.out;have U:=Hq V;clear hd V Y
 go_enter Tryz.func83,Tryz.ntmps83
 go_wp2_with (first
  | (go_at_call 33;refine (pT b B i _ O.out.rel.ok O.out.x).mono ?_;rw[U.out];rintro e w1 ⟨rfl,G⟩;have Q:Hid (∀o,Duo (w1.alloc o) I P B D tk b d):=(fun o=>(O.out.later G).later (dx w1 o));have c1:Hid (∀o,(w1.alloc o).cell? ⟨P,1,none⟩=some (.pointer (some ⟨D,0,none⟩))):=(fun o=>(Q.out o).p.c1);have af:=c1.out (.cells #[.int .i64 x.num,.string x.how] 85);have ae:P<w1.heap.size:=Nat.lt_of_lt_of_le hP G.size)
  | (go_at_call 120;refine (qJ b d D tk i _ O.out.rel (Q.out _).y).mono ?_;rw[U.out];rintro e w2 ⟨rfl,J⟩;obtain⟨ag,ad⟩:=dU J;have Z:w1.heap.size<w2.heap.size:=(by have:=J.size;simp at this;omega))
  | (go_at_call 70;refine (ey _ _).mono ?_;rintro e w3 ⟨rfl,rfl⟩))
 go_ret
 exact⟨rfl,((G.alloc G.size _).trans (J.mono (by simp;exact Nat.le_succ_of_le G.size))).alloc (Nat.le_trans G.size (Nat.le_of_lt Z)) _⟩
set_option maxHeartbeats 0 in
theorem jD (w:World) (I P B D:Nat) (tk:Value) (b:Px.Bo) (d:Bx.Bo) (hd:Duo w I P B D tk b d):
 Calls Tryz.prog 80 #[.pointer (some ⟨P,0,none⟩)] w fun e Z=>e=.returned (.bool true)∧Below w.heap.size w Z:=by
 have c0:=hd.p.c0;have Y:=hd.p.ty.lt;have Q:=Hq hd;clear hd
 go_enter Tryz.func80,Tryz.ntmps80
 go_wp2_with (first
  | (go_at_call 23;refine (oz b B _ Q.out.x).mono ?_;rintro e w1 ⟨rfl,G⟩;have O:Hid (∀o,Duo (w1.alloc o) I P B D tk b d):=(fun o=>(Q.out.later G).later (dx w1 o));have c1:=(O.out (.cells #[.int .i64 b.st.clock,.int .i64 b.st.next,.int .i64 b.st.slots.length,.int .i64 b.st.ends.length,.string b.st.tab] 36)).p.c1;have ab:P<w1.heap.size:=Nat.lt_of_lt_of_le Y G.size)
  | (go_at_call 118;refine (nL b d D tk _ Q.out.rel (O.out _).y).mono ?_;rintro e V ⟨rfl,J⟩;obtain⟨ac,aa⟩:=dU J;have U:w1.heap.size<V.heap.size:=(by have:=J.size;simp at this;omega)))
 go_ret
 exact⟨rfl,((G.alloc G.size _).trans (J.mono (by simp;exact Nat.le_succ_of_le G.size))).alloc (Nat.le_trans G.size (Nat.le_of_lt U)) _⟩
set_option maxHeartbeats 0 in
theorem kB (w:World) (G P B D:Nat) (tk:Value) (b:Px.Bo) (d:Bx.Bo) (hd:Duo w G P B D tk b d):
 Calls Tryz.prog 81 #[.pointer (some ⟨P,0,none⟩)] w fun e J=>e=.returned (.bool true)∧J=w:=by
 have c0:=hd.p.c0;have c1:=hd.p.c1;have Q:=hd.p.ty.lt;have I:=Hq hd;clear hd
 go_enter Tryz.func81,Tryz.ntmps81
 go_wp2_with (first
  | (go_at_call 8;refine (kY b B _ I.out.x).mono ?_;rintro e w1 ⟨rfl,rfl⟩)
  | (go_at_call 71;refine (j9 b d D tk _ I.out.rel I.out.y).mono ?_;rintro e O ⟨rfl,rfl⟩))
 go_ret
 exact⟨rfl,rfl⟩
set_option maxHeartbeats 0 in
theorem iJ (w:World) (G P B D:Nat) (tk:Value) (b:Px.Bo) (d:Bx.Bo) (hd:Duo w G P B D tk b d):
 Calls Tryz.prog 41 #[.pointer (some ⟨P,0,none⟩)] w fun e w'=>e=.returned (.bool true)∧Below w.heap.size w w':=by
 have HD:=Hq hd;clear hd
 go_enter Tryz.func41,Tryz.ntmps41
 go_wp2_with fail;refine (jD _ G P B D tk b d HD.out).mono ?_;rintro e w1 ⟨rfl,J⟩;have aa:=Hq (HD.out.later J);have U:=Hq J;clear J;go_wp2_with fail;refine (kB _ G P B D tk b d aa.out).mono ?_;rintro e Q ⟨rfl,rfl⟩;go_wp2_with fail
 go_loopw [5] (fun i wr=>∃k:Nat,k≤10∧i=.int .i64 ((k:Int)-1)∧Below Q.heap.size Q wr) (fun i _=>(9-intOf i).toNat)
 case atStart=>exact⟨0,by omega,rfl,Below.refl _ _⟩
 case round=>
  obtain⟨k,hk,rfl,I⟩:=hrel;have Z:=Hq (aa.out.later I)
  by_cases h8:(k:Int)-1≤8
  ·go_wp2_with fail;refine (jC _ G P B D tk b d _ Z.out).mono ?_;rintro e w2 ⟨rfl,O⟩;have ac:=Hq (Z.out.later O);have Y:=Hq (I.trans (O.mono I.size));clear O I;go_wp2_with fail;refine (kx _ G P B D tk b d _ ac.out).mono ?_;rintro e w3 ⟨rfl,V⟩;have ad:=Hq (Y.out.trans (V.mono Y.out.size));clear V;go_wp2_with fail;go_roundw
   case rel=>exact⟨k+1,by omega,by go_num,ad.out⟩
   case measure=>simp[intOf];omega
  ·go_wp2_with fail;go_ret;exact⟨rfl,U.out.trans (I.mono U.out.size)⟩
end Go.Proofs.YtdajolpoiffimabGreatDoor

namespace Go.Proofs.YtdajolpoiffimabGreatDoor
open Go.RowKit
set_option maxHeartbeats 0 in
theorem iH (w:World) (G P B D:Nat) (tk:Value) (b:Px.Bo) (d:Bx.Bo) (m:Int) (hT:TabLH w) (hM:Tab w) (hd:Duo w G P B D tk b d):
 Calls Tryz.prog 74 #[.pointer (some ⟨P,0,none⟩),.int .i64 m] w fun e w'=>e=.returned (.bool true)∧Did w w' G P B D tk (Px.tickB b m).1 (tickP d m).1:=by
 have c0:=hd.p.c0;have hP:=hd.p.ty.lt;have I:=Hq hd;have HT:=Hq hT;have HM:=Hq hM;clear hd hT hM
 go_enter Tryz.func74,Tryz.ntmps74
 go_wp2_with fail;refine (oT b B m _ I.out.rel.ok I.out.logsz HT.out HM.out I.out.x).mono ?_;rintro e w1 ⟨rfl,hx,Z⟩;obtain⟨J,Q,_⟩:=I.out.prg Z;have HX:=Hq hx;have HG:=Hq Z;have HY:=Hq Q;have c1:=J.c1;have ao:=J.ty.lt;have HR:Hid (∃x r,(Px.tickB b m).2=(x,r)):=⟨_,_,rfl⟩;obtain⟨x,r,O⟩:=HR.out;have ac:=Hq O;rw[O];clear hx Z J Q c0 HR O;go_wp2_with fail;refine (nj b d D tk m _ I.out.rel HY.out).mono ?_;rw[ac.out];rintro e w2 ⟨rfl,⟨ap,U,Y⟩,V⟩;have HF:Hid (Did w w2 G P B D tk (Px.tickB b m).1 (tickP d m).1):=Did.of I.out HG.out HX.out U Y V (Px.tick_rel I.out.rel m).2 (qP b m);clear c1 U Y V;go_wp2_with ((go_at_call 70;refine (ey _ _).mono ?_;rintro e w3 ⟨rfl,rfl⟩));go_ret;exact⟨rfl,HF.out⟩
theorem TwoBy.cell {w G:World}{D g o:Nat}{r:Option Nat}{v:Value} (h:TwoBy w G D r) (d:w.cell? ⟨g,o,none⟩=some v) (h1:¬g=D) (h2:¬r=some g):G.cell? ⟨g,o,none⟩=some v:=by
 have I:g<w.heap.size:=World.block_lt_of_cell? _ _ d;rw[World.cell?_of_block (a:=⟨g,o,none⟩) (h.block g I h1 (fun e=>h2 e.symm))];exact d
theorem Duo.apart {w:World}{I P B D g:Nat}{tk:Value}{b:Px.Bo}{d:Bx.Bo}{e:TypeId} (h:Duo w I P B D tk b d) (J:Typed w g e) (h1:e≠79) (h2:e≠173) (G:e≠220):¬g=B∧¬g=D∧¬tk.ownBlock=some g:=
 ⟨fun q=>h.ft e h1 h2 G g (Or.inl q) J,fun q=>h.ft e h1 h2 G g (Or.inr (Or.inl q)) J,fun q=>h.ft e h1 h2 G g (Or.inr (Or.inr q)) J⟩
abbrev opV (k n:Int) (s:ByteArray):Value:=.agg #[.int .i64 k,.int .i64 n,.string s]
abbrev opO (k n:Int) (s:ByteArray):Obj:=.cells #[.int .i64 k,.int .i64 n,.string s] 99
structure OpIn (w:World) (q:Nat) (k n:Int) (s:ByteArray):Prop where
 c0:w.cell? ⟨q,0,none⟩=some (.int .i64 k)
 c1:w.cell? ⟨q,1,none⟩=some (.int .i64 n)
 c2:w.cell? ⟨q,2,none⟩=some (.string s)
 ty:Typed w q 99
theorem OpIn.new (w:World) (k n:Int) (s:ByteArray):OpIn (w.alloc (opO k n s)) w.heap.size k n s:=⟨by simp[go_sem],by simp[go_sem],by simp[go_sem],Typed.new _ _ _⟩
set_option maxHeartbeats 0 in
theorem jO (w:World) (I P B D:Nat) (tk:Value) (b:Px.Bo) (d:Bx.Bo) (k n:Int) (s:ByteArray) (hk:k=4) (hT:TabLH w) (hd:Duo w I P B D tk b d):
 Calls Tryz.prog 76 #[.pointer (some ⟨P,0,none⟩),opV k n s] w fun e Q=>e=.returned (.bool true)∧Did w Q I P B D tk (Px.startB b n).1 (startP d n).1:=by
 subst hk;have U:=dx w (opO 4 n s);have G:=hd.later U;have ak:=hT.later U;have ho:=OpIn.new w 4 n s;clear hd hT
 go_enter Tryz.func76,Tryz.ntmps76
 go_upto_region 1 with fail;generalize w.alloc (opO 4 n s)=W at *;generalize ap:w.heap.size=J at *;have aB:=Hq ap;clear ap;have au:=Hq U;have HD:=Hq G;have Z:Hid (Duo W.drew I P B D tk b d):=G.later (Below.refl _ _).drew;have aw:Hid (TabLH W.drew):=ak.later (Below.refl _ _).drew;have hP:=G.p.ty.lt;have c0:=G.p.c0;have c1:=G.p.c1;obtain⟨ao,ag,ai⟩:=G.apart G.p.ty (by decide) (by decide) (by decide)
 obtain⟨aq,aj,al⟩:=G.apart ho.ty (by decide) (by decide) (by decide)
 have hO:=ho.ty.lt;obtain⟨o0,o1,o2,_⟩:=ho;have V:Hid (¬P=D∧¬tk.ownBlock=some P∧¬J=D∧¬tk.ownBlock=some J):=⟨ag,ai,aj,al⟩;have av:Hid (some P≠some B):=fun e=>ao (by simpa using e)
 have aa:Hid (some J≠some B):=fun e=>aq (by simpa using e)
 clear U G ak ao ag ai aq aj al;go_wp2_with fail
 go_region_held3 (fun Q=>Q.cell? ⟨P,0,none⟩=some (.pointer (some ⟨B,0,none⟩))∧Q.cell? ⟨J,1,none⟩=some (.int .i64 n))
  (first |exact⟨O.cell c0 av.out,O.cell o1 aa.out⟩|exact⟨c0,o1⟩)
  ((go_at_call 25;refine (my b B n _ HD.out.rel.ok HD.out.logsz aw.out Z.out.x).mono ?_;rintro e w1 ⟨rfl,hx,O⟩))
 obtain⟨ab,af,_⟩:=Z.out.prg O;have HX:=Hq hx;have HG:=Hq O;have HY:Hid (∃sl en,BoxIn w1.drew D d sl en tk):=(by obtain⟨sl,en,h⟩:=af;exact⟨sl,en,h.later (Below.refl _ _).drew⟩)
 clear c0 c1;have c1:=ab.c1;have aK:=ab.ty.lt;have p1:w1.cell? ⟨J,1,none⟩=some (.int .i64 n):=O.cell o1 aa.out;have p2:w1.cell? ⟨J,2,none⟩=some (.string s):=O.cell o2 aa.out;have aJ:J<w1.heap.size:=World.block_lt_of_cell? _ _ p1;have HR:Hid (∃x r,(Px.startB b n).2=(x,r)):=⟨_,_,rfl⟩;obtain⟨x,r,ac⟩:=HR.out;have ay:=Hq ac;rw[ac];clear hx O ab af HR ac o0 o1 o2;go_wp2_with fail
 go_region_held3 (fun Q=>Q.cell? ⟨P,1,none⟩=some (.pointer (some ⟨D,0,none⟩))∧Q.cell? ⟨J,1,none⟩=some (.int .i64 n))
  (first |exact⟨Y.cell c1 V.out.1 V.out.2.1,Y.cell p1 V.out.2.2.1 V.out.2.2.2⟩|exact⟨c1,p1⟩)
  ((go_at_call 112;refine (nd b d D tk n _ HD.out.rel HY.out).mono ?_;rw[ay.out];rintro e w2 ⟨rfl,⟨aL,ah,am⟩,Y⟩))
 have HF:Hid (Did w w2 I P B D tk (Px.startB b n).1 (startP d n).1):=by
  refine Did.ahead (w1:=W.drew) ?_ (by rw[aB.out];exact au.out.drew)
  exact Did.of Z.out (dA HG.out (dy (Below.refl _ _).drew _)) (by obtain⟨sl,en,h⟩:=HX.out;exact⟨sl,en,h.later (Below.refl _ _).drew⟩) ah am Y (Px.start_rel HD.out.rel n).2 (oG b n)
 clear c1 ah am Y p1 p2;go_wp2_with ((go_at_call 70;refine (ey _ _).mono ?_;rintro e w3 ⟨rfl,rfl⟩));go_ret;exact⟨rfl,HF.out⟩
set_option maxHeartbeats 0 in
theorem kQ (w:World) (O P B D:Nat) (tk:Value) (b:Px.Bo) (d:Bx.Bo) (k n:Int) (s:ByteArray) (N:Nat) (hN:N≤100000000000000000) (av:Hid (Px.HMax d N)) (hs:s.size≤maxLen) (hk:¬k=4) (hT:TabLH w) (hd:Duo w O P B D tk b d):
 Calls Tryz.prog 76 #[.pointer (some ⟨P,0,none⟩),opV k n s] w fun e Q=>e=.returned (.bool true)∧Did w Q O P B D tk (Px.feedB b n s).1 (feedP d n s).1:=by
 have Y:=dx w (opO k n s);have G:=hd.later Y;have ak:=hT.later Y;have ho:=OpIn.new w k n s;clear hd hT
 go_enter Tryz.func76,Tryz.ntmps76
 go_upto_region 1 with fail;generalize w.alloc (opO k n s)=W at *;generalize ap:w.heap.size=I at *;have aD:=Hq ap;clear ap;have aw:=Hq Y;have HD:=Hq G;have aa:Hid (Duo W.drew O P B D tk b d):=G.later (Below.refl _ _).drew;have ay:Hid (TabLH W.drew):=ak.later (Below.refl _ _).drew;have hP:=G.p.ty.lt;have c0:=G.p.c0;have c1:=G.p.c1;obtain⟨ao,ag,ai⟩:=G.apart G.p.ty (by decide) (by decide) (by decide)
 obtain⟨aq,aj,al⟩:=G.apart ho.ty (by decide) (by decide) (by decide)
 have hO:=ho.ty.lt;obtain⟨o0,o1,o2,_⟩:=ho;have J:Hid (¬P=D∧¬tk.ownBlock=some P∧¬I=D∧¬tk.ownBlock=some I):=⟨ag,ai,aj,al⟩;have ax:Hid (some P≠some B):=fun e=>ao (by simpa using e)
 have Z:Hid (some I≠some B):=fun e=>aq (by simpa using e)
 clear Y G ak ao ag ai aq aj al;go_wp2_with fail
 go_region_held3 (fun Q=>Q.cell? ⟨P,0,none⟩=some (.pointer (some ⟨B,0,none⟩))∧Q.cell? ⟨I,1,none⟩=some (.int .i64 n)∧Q.cell? ⟨I,2,none⟩=some (.string s))
  (first |exact⟨U.cell c0 ax.out,U.cell o1 Z.out,U.cell o2 Z.out⟩|exact⟨c0,o1,o2⟩)
  ((go_at_call 28;refine (po b B n s _ HD.out.rel.ok HD.out.logsz ay.out aa.out.x).mono ?_;rintro e w1 ⟨rfl,hx,U⟩))
 obtain⟨ab,af,_⟩:=aa.out.prg U;have HX:=Hq hx;have HG:=Hq U;have HY:Hid (∃sl en,BoxIn w1.drew D d sl en tk):=(by obtain⟨sl,en,h⟩:=af;exact⟨sl,en,h.later (Below.refl _ _).drew⟩)
 clear c0 c1;have c1:=ab.c1;have aM:=ab.ty.lt;have p1:w1.cell? ⟨I,1,none⟩=some (.int .i64 n):=U.cell o1 Z.out;have p2:w1.cell? ⟨I,2,none⟩=some (.string s):=U.cell o2 Z.out;have aL:I<w1.heap.size:=World.block_lt_of_cell? _ _ p1;have HR:Hid (∃x r,(Px.feedB b n s).2=(x,r)):=⟨_,_,rfl⟩;obtain⟨x,r,ac⟩:=HR.out;have az:=Hq ac;rw[ac];clear hx U ab af HR ac o0 o1 o2;go_wp2_with fail
 go_region_held3 (fun Q=>Q.cell? ⟨P,1,none⟩=some (.pointer (some ⟨D,0,none⟩))∧Q.cell? ⟨I,1,none⟩=some (.int .i64 n)∧Q.cell? ⟨I,2,none⟩=some (.string s))
  (first |exact⟨V.cell c1 J.out.1 J.out.2.1,V.cell p1 J.out.2.2.1 J.out.2.2.2,V.cell p2 J.out.2.2.1 J.out.2.2.2⟩|exact⟨c1,p1,p2⟩)
  ((go_at_call 113;refine (nt b d D tk n s _ N hN av.out hs HD.out.rel HY.out).mono ?_;rw[az.out];rintro e w2 ⟨rfl,⟨aN,ah,am⟩,V⟩))
 have HF:Hid (Did w w2 O P B D tk (Px.feedB b n s).1 (feedP d n s).1):=by
  refine Did.ahead (w1:=W.drew) ?_ (by rw[aD.out];exact aw.out.drew)
  exact Did.of aa.out (dA HG.out (dy (Below.refl _ _).drew _)) (by obtain⟨sl,en,h⟩:=HX.out;exact⟨sl,en,h.later (Below.refl _ _).drew⟩) ah am V (Px.feed_rel HD.out.rel n s).2 (pZ b n s)
 clear c1 ah am V p1 p2;go_wp2_with ((go_at_call 70;refine (ey _ _).mono ?_;rintro e w3 ⟨rfl,rfl⟩));go_ret;exact⟨rfl,HF.out⟩
end Go.Proofs.YtdajolpoiffimabGreatDoor

namespace Go.Proofs.YtdajolpoiffimabGreatDoor
open Go.RowKit
theorem sZ (w:World) (G P B D:Nat) (tk:Value) (b:Px.Bo) (d:Bx.Bo) (hd:Duo w G P B D tk b d):Calls Tryz.prog 81 #[.pointer (some ⟨P,0,none⟩)] w fun e I=>e=.returned (.bool true)∧Below w.heap.size w I:=
 (kB w G P B D tk b d hd).mono fun e I h=>⟨h.1,by rw[h.2];exact Below.refl _ _⟩
set_option maxHeartbeats 0 in
theorem rN (w:World) (G P B D:Nat) (tk:Value) (b:Px.Bo) (d:Bx.Bo) (k n:Int) (s:ByteArray) (hk:k=8) (hd:Duo w G P B D tk b d):
 Calls Tryz.prog 79 #[.pointer (some ⟨P,0,none⟩),opV k n s] w fun e w'=>e=.returned (.bool true)∧Below w.heap.size w w':=by
 subst hk;have I:=dx w (opO 8 n s);have O:=hd.later I;have ho:=OpIn.new w 8 n s;clear hd
 go_enter Tryz.func79,Tryz.ntmps79
 go_upto_region 1 with fail;generalize w.alloc (opO 8 n s)=W at *;generalize U:w.heap.size=oq at *;have V:=Hq U;clear U;have Q:=Hq I;have HD:=Hq O;obtain⟨o0,o1,o2,Y⟩:=ho;have hO:=Y.lt;clear I O;go_wp2_with fail;refine (jD _ G P B D tk b d HD.out).mono ?_;rintro e w1 ⟨rfl,J⟩
 have Z:Hid (Below w.heap.size w w1):=by
  have h1:=Q.out.trans (J.mono (by have:=Q.out.size;rw[V.out] at this;exact this))
  rw[V.out];exact h1
 clear J o0 o1 o2;go_wp2_with fail;go_ret;exact⟨rfl,Z.out⟩
set_option maxHeartbeats 0 in
theorem sh (w:World) (G P B D:Nat) (tk:Value) (b:Px.Bo) (d:Bx.Bo) (k n:Int) (s:ByteArray) (hk:k=9) (hd:Duo w G P B D tk b d):
 Calls Tryz.prog 79 #[.pointer (some ⟨P,0,none⟩),opV k n s] w fun e w'=>e=.returned (.bool true)∧Below w.heap.size w w':=by
 subst hk;have I:=dx w (opO 9 n s);have O:=hd.later I;have ho:=OpIn.new w 9 n s;clear hd
 go_enter Tryz.func79,Tryz.ntmps79
 go_upto_region 1 with fail;generalize w.alloc (opO 9 n s)=W at *;generalize U:w.heap.size=oq at *;have V:=Hq U;clear U;have Q:=Hq I;have HD:=Hq O;obtain⟨o0,o1,o2,Y⟩:=ho;have hO:=Y.lt;clear I O;go_wp2_with fail;refine (jC _ G P B D tk b d _ HD.out).mono ?_;rintro e w1 ⟨rfl,J⟩
 have Z:Hid (Below w.heap.size w w1):=by
  have h1:=Q.out.trans (J.mono (by have:=Q.out.size;rw[V.out] at this;exact this))
  rw[V.out];exact h1
 clear J o0 o1 o2;go_wp2_with fail;go_ret;exact⟨rfl,Z.out⟩
set_option maxHeartbeats 0 in
theorem qT (w:World) (G P B D:Nat) (tk:Value) (b:Px.Bo) (d:Bx.Bo) (k n:Int) (s:ByteArray) (hk:k=10) (hd:Duo w G P B D tk b d):
 Calls Tryz.prog 79 #[.pointer (some ⟨P,0,none⟩),opV k n s] w fun e w'=>e=.returned (.bool true)∧Below w.heap.size w w':=by
 subst hk;have I:=dx w (opO 10 n s);have O:=hd.later I;have ho:=OpIn.new w 10 n s;clear hd
 go_enter Tryz.func79,Tryz.ntmps79
 go_upto_region 1 with fail;generalize w.alloc (opO 10 n s)=W at *;generalize U:w.heap.size=oq at *;have V:=Hq U;clear U;have Q:=Hq I;have HD:=Hq O;obtain⟨o0,o1,o2,Y⟩:=ho;have hO:=Y.lt;clear I O;go_wp2_with fail;refine (kx _ G P B D tk b d _ HD.out).mono ?_;rintro e w1 ⟨rfl,J⟩
 have Z:Hid (Below w.heap.size w w1):=by
  have h1:=Q.out.trans (J.mono (by have:=Q.out.size;rw[V.out] at this;exact this))
  rw[V.out];exact h1
 clear J o0 o1 o2;go_wp2_with fail;go_ret;exact⟨rfl,Z.out⟩
set_option maxHeartbeats 0 in
theorem qz (w:World) (G P B D:Nat) (tk:Value) (b:Px.Bo) (d:Bx.Bo) (k n:Int) (s:ByteArray) (hk:k=11) (hd:Duo w G P B D tk b d):
 Calls Tryz.prog 79 #[.pointer (some ⟨P,0,none⟩),opV k n s] w fun e w'=>e=.returned (.bool true)∧Below w.heap.size w w':=by
 subst hk;have I:=dx w (opO 11 n s);have O:=hd.later I;have ho:=OpIn.new w 11 n s;clear hd
 go_enter Tryz.func79,Tryz.ntmps79
 go_upto_region 1 with fail;generalize w.alloc (opO 11 n s)=W at *;generalize U:w.heap.size=oq at *;have V:=Hq U;clear U;have Q:=Hq I;have HD:=Hq O;obtain⟨o0,o1,o2,Y⟩:=ho;have hO:=Y.lt;clear I O;go_wp2_with fail;refine (sZ _ G P B D tk b d HD.out).mono ?_;rintro e w1 ⟨rfl,J⟩
 have Z:Hid (Below w.heap.size w w1):=by
  have h1:=Q.out.trans (J.mono (by have:=Q.out.size;rw[V.out] at this;exact this))
  rw[V.out];exact h1
 clear J o0 o1 o2;go_wp2_with fail;go_ret;exact⟨rfl,Z.out⟩
set_option maxHeartbeats 0 in
theorem pU (w:World) (G P B D:Nat) (tk:Value) (b:Px.Bo) (d:Bx.Bo) (k n:Int) (s:ByteArray) (h8:¬k=8) (h9:¬k=9) (ad:¬k=10) (ae:¬k=11) (hd:Duo w G P B D tk b d):
 Calls Tryz.prog 79 #[.pointer (some ⟨P,0,none⟩),opV k n s] w fun e w'=>e=.returned (.bool true)∧Below w.heap.size w w':=by
 have I:=dx w (opO k n s);have O:=hd.later I;have ho:=OpIn.new w k n s;clear hd
 go_enter Tryz.func79,Tryz.ntmps79
 go_upto_region 1 with fail;generalize w.alloc (opO k n s)=W at *;generalize U:w.heap.size=oq at *;have V:=Hq U;clear U;have Q:=Hq I;have HD:=Hq O;obtain⟨o0,o1,o2,Y⟩:=ho;have hO:=Y.lt;clear I O;go_wp2_with fail;refine (iJ _ G P B D tk b d HD.out).mono ?_;rintro e w1 ⟨rfl,J⟩
 have Z:Hid (Below w.heap.size w w1):=by
  have h1:=Q.out.trans (J.mono (by have:=Q.out.size;rw[V.out] at this;exact this))
  rw[V.out];exact h1
 clear J o0 o1 o2;go_wp2_with fail;go_ret;exact⟨rfl,Z.out⟩
theorem mL (w:World) (G P B D:Nat) (tk:Value) (b:Px.Bo) (d:Bx.Bo) (k n:Int) (s:ByteArray) (hd:Duo w G P B D tk b d):
 Calls Tryz.prog 79 #[.pointer (some ⟨P,0,none⟩),opV k n s] w fun e U=>e=.returned (.bool true)∧Below w.heap.size w U:=by
 by_cases O:k=8
 ·exact rN w G P B D tk b d k n s O hd
 by_cases Q:k=9
 ·exact sh w G P B D tk b d k n s Q hd
 by_cases I:k=10
 ·exact qT w G P B D tk b d k n s I hd
 by_cases J:k=11
 ·exact qz w G P B D tk b d k n s J hd
 exact pU w G P B D tk b d k n s O Q I J hd
set_option maxHeartbeats 0 in
theorem sR (w:World) (G P B D:Nat) (tk:Value) (b:Px.Bo) (d:Bx.Bo) (k n:Int) (s:ByteArray) (N:Nat) (_hN:N≤100000000000000000) (hm:Px.HMax d N) (hs:s.size≤maxLen) (hT:TabLH w) (hM:Tab w) (hk:k=2) (hd:Duo w G P B D tk b d):
 Calls Tryz.prog 40 #[.pointer (some ⟨P,0,none⟩),opV k n s] w fun e w'=>e=.returned (.bool true)∧∃Z J,Did w w' G P B D tk Z J∧Px.HMax J N:=by
 subst hk;have aa:=Hq hm;have HS:=Hq hs;have I:=dx w (opO 2 n s);have O:=hd.later I;have HT:Hid (∀o,TabLH (w.alloc o)):=fun o=>hT.later (dx w o)
 have HM:Hid (∀o,Tab (w.alloc o)):=fun o=>hM.later (dx w o)
 have U:=HT.out (opO 2 n s);have V:=HM.out (opO 2 n s);clear HT HM hT hM hm hs;have ho:=OpIn.new w 2 n s;clear hd
 go_enter Tryz.func40,Tryz.ntmps40
 go_upto_region 1 with fail;generalize w.alloc (opO 2 n s)=W at *;generalize Y:w.heap.size=oq at *;have ai:=Hq Y;clear Y;have ad:=Hq I;have HD:=Hq O;obtain⟨o0,o1,o2,ak⟩:=ho;have hO:=ak.lt;clear I O;have aj:=Hq U;have ab:=Hq V;clear U V;go_wp2_with fail;refine (iH _ G P B D tk b d _ aj.out ab.out HD.out).mono ?_;rintro e w1 ⟨rfl,Q⟩;have HF:Hid (∃Z J,Did w w1 G P B D tk Z J∧Px.HMax J N):=⟨_,_,Q.ahead (by rw[ai.out];exact ad.out),aa.out.tick _⟩
 clear Q o0 o1 o2;go_wp2_with fail;go_ret;exact⟨rfl,HF.out⟩
set_option maxHeartbeats 0 in
theorem tc (w:World) (G P B D:Nat) (tk:Value) (b:Px.Bo) (d:Bx.Bo) (k n:Int) (s:ByteArray) (N:Nat) (_hN:N≤100000000000000000) (hm:Px.HMax d N) (hs:s.size≤maxLen) (hT:TabLH w) (hM:Tab w) (hk:k=4) (hd:Duo w G P B D tk b d):
 Calls Tryz.prog 40 #[.pointer (some ⟨P,0,none⟩),opV k n s] w fun e w'=>e=.returned (.bool true)∧∃Z J,Did w w' G P B D tk Z J∧Px.HMax J N:=by
 subst hk;have aa:=Hq hm;have HS:=Hq hs;have I:=dx w (opO 4 n s);have O:=hd.later I;have HT:Hid (∀o,TabLH (w.alloc o)):=fun o=>hT.later (dx w o)
 have HM:Hid (∀o,Tab (w.alloc o)):=fun o=>hM.later (dx w o)
 have U:=HT.out (opO 4 n s);have V:=HM.out (opO 4 n s);clear HT HM hT hM hm hs;have ho:=OpIn.new w 4 n s;clear hd
 go_enter Tryz.func40,Tryz.ntmps40
 go_upto_region 1 with fail;generalize w.alloc (opO 4 n s)=W at *;generalize Y:w.heap.size=oq at *;have ah:=Hq Y;clear Y;have ac:=Hq I;have HD:=Hq O;obtain⟨o0,o1,o2,aj⟩:=ho;have hO:=aj.lt;clear I O;have ai:=Hq U;have aq:=Hq V;clear U V;go_wp2_with fail;refine (jO _ G P B D tk b d 4 n s rfl ai.out HD.out).mono ?_;rintro e w1 ⟨rfl,Q⟩;have HF:Hid (∃Z J,Did w w1 G P B D tk Z J∧Px.HMax J N):=⟨_,_,Q.ahead (by rw[ah.out];exact ac.out),aa.out.start _⟩
 clear Q o0 o1 o2;go_wp2_with fail;go_ret;exact⟨rfl,HF.out⟩
set_option maxHeartbeats 0 in
theorem tu (w:World) (G P B D:Nat) (tk:Value) (b:Px.Bo) (d:Bx.Bo) (k n:Int) (s:ByteArray) (N:Nat) (hN:N≤100000000000000000) (hm:Px.HMax d N) (hs:s.size≤maxLen) (hT:TabLH w) (hM:Tab w) (hk:k=5) (hd:Duo w G P B D tk b d):
 Calls Tryz.prog 40 #[.pointer (some ⟨P,0,none⟩),opV k n s] w fun e w'=>e=.returned (.bool true)∧∃b' J,Did w w' G P B D tk b' J∧Px.HMax J (N+40):=by
 subst hk;have Q:=Hq hm;have HS:=Hq hs;have I:=dx w (opO 5 n s);have O:=hd.later I;have HT:Hid (∀o,TabLH (w.alloc o)):=fun o=>hT.later (dx w o)
 have HM:Hid (∀o,Tab (w.alloc o)):=fun o=>hM.later (dx w o)
 have V:=HT.out (opO 5 n s);have Y:=HM.out (opO 5 n s);clear HT HM hT hM hm hs;have ho:=OpIn.new w 5 n s;clear hd
 go_enter Tryz.func40,Tryz.ntmps40
 go_upto_region 1 with fail;generalize w.alloc (opO 5 n s)=W at *;generalize Z:w.heap.size=oq at *;have ah:=Hq Z;clear Z;have ac:=Hq I;have HD:=Hq O;obtain⟨o0,o1,o2,aj⟩:=ho;have hO:=aj.lt;clear I O;have ai:=Hq V;have au:=Hq Y;clear V Y;go_wp2_with fail;refine (kQ _ G P B D tk b d 5 n s N hN Q HS.out (by decide) ai.out HD.out).mono ?_
 rintro e w1 ⟨rfl,U⟩;have HF:Hid (∃b' J,Did w w1 G P B D tk b' J∧Px.HMax J (N+40)):=⟨_,_,U.ahead (by rw[ah.out];exact ac.out),Q.out.feed _ _⟩
 clear U o0 o1 o2;go_wp2_with fail;go_ret;exact⟨rfl,HF.out⟩
set_option maxHeartbeats 0 in
theorem tj (w:World) (G P B D:Nat) (tk:Value) (b:Px.Bo) (d:Bx.Bo) (k n:Int) (s:ByteArray) (N:Nat) (_hN:N≤100000000000000000) (hm:Px.HMax d N) (hs:s.size≤maxLen) (hT:TabLH w) (hM:Tab w) (h1:8≤k) (h2:k≤12) (hd:Duo w G P B D tk b d):
 Calls Tryz.prog 40 #[.pointer (some ⟨P,0,none⟩),opV k n s] w fun e w'=>e=.returned (.bool true)∧∃O I,Did w w' G P B D tk O I∧Px.HMax I N:=by
 have ab:=Hq hm;have HS:=Hq hs;have J:=dx w (opO k n s);have U:=hd.later J;have HT:Hid (∀o,TabLH (w.alloc o)):=fun o=>hT.later (dx w o)
 have HM:Hid (∀o,Tab (w.alloc o)):=fun o=>hM.later (dx w o)
 have V:=HT.out (opO k n s);have Y:=HM.out (opO k n s);clear HT HM hT hM hm hs;have ho:=OpIn.new w k n s;clear hd
 go_enter Tryz.func40,Tryz.ntmps40
 go_upto_region 1 with fail;generalize w.alloc (opO k n s)=W at *;generalize Z:w.heap.size=oq at *;have ao:=Hq Z;clear Z;have af:=Hq J;have HD:=Hq U;obtain⟨o0,o1,o2,ap⟩:=ho;have hO:=ap.lt;clear J U;have av:=Hq V;have au:=Hq Y;clear V Y;have al:¬k=1∧¬k=2∧¬k=3∧¬k=4∧¬k=5∧¬k=6∧¬k=7:=by omega
 obtain⟨n1,n2,n3,n4,n5,n6,n7⟩:=al;have ad:k=8∨k=9∨k=10∨k=11∨k=12:=by omega
 have ac:Hid (Calls Tryz.prog 79 #[.pointer (some ⟨P,0,none⟩),opV k n s] W fun e w'=>e=.returned (.bool true)∧Below W.heap.size W w'):=mL W G P B D tk b d k n s HD.out
 have HF:Hid (∀w1,Below W.heap.size W w1→∃O I,Did w w1 G P B D tk O I∧Px.HMax I N):=fun w1 hb=>⟨b,d,((Did.same HD.out).later hb).ahead (by rw[ao.out];exact af.out),ab.out⟩
 rcases ad with rfl|rfl|rfl|rfl|rfl
 all_goals
  go_wp2_with fail;refine ac.out.mono ?_;rintro e w1 ⟨rfl,Q⟩;have ah:Hid (∃O I,Did w w1 G P B D tk O I∧Px.HMax I N):=HF.out w1 Q;clear Q o0 o1 o2;go_wp2_with fail;go_ret;exact⟨rfl,ah.out⟩
set_option maxHeartbeats 0 in
theorem sH (w:World) (G P B D:Nat) (tk:Value) (b:Px.Bo) (d:Bx.Bo) (k n:Int) (s:ByteArray) (N:Nat) (_hN:N≤100000000000000000) (hm:Px.HMax d N) (hs:s.size≤maxLen) (hT:TabLH w) (hM:Tab w) (h1:k<1∨12<k) (hd:Duo w G P B D tk b d):
 Calls Tryz.prog 40 #[.pointer (some ⟨P,0,none⟩),opV k n s] w fun e w'=>e=.returned (.bool true)∧∃Y J,Did w w' G P B D tk Y J∧Px.HMax J N:=by
 have Z:=Hq hm;have HS:=Hq hs;have I:=dx w (opO k n s);have O:=hd.later I;have HT:Hid (∀o,TabLH (w.alloc o)):=fun o=>hT.later (dx w o)
 have HM:Hid (∀o,Tab (w.alloc o)):=fun o=>hM.later (dx w o)
 have Q:=HT.out (opO k n s);have U:=HM.out (opO k n s);clear HT HM hT hM hm hs;have ho:=OpIn.new w k n s;clear hd
 go_enter Tryz.func40,Tryz.ntmps40
 go_upto_region 1 with fail;generalize w.alloc (opO k n s)=W at *;generalize V:w.heap.size=oq at *;have ai:=Hq V;clear V;have ab:=Hq I;have HD:=Hq O;obtain⟨o0,o1,o2,aj⟩:=ho;have hO:=aj.lt;clear I O;have ar:=Hq Q;have ao:=Hq U;clear Q U;have ag:¬k=1∧¬k=2∧¬k=3∧¬k=4∧¬k=5∧¬k=6∧¬k=7∧¬k=8∧¬k=9∧¬k=10∧¬k=11∧¬k=12:=by omega
 obtain⟨n1,n2,n3,n4,n5,n6,n7,n8,n9,aq,n11,ap⟩:=ag;have ac:Hid (∃Y J,Did w W G P B D tk Y J∧Px.HMax J N):=⟨b,d,(Did.same HD.out).ahead (by rw[ai.out];exact ab.out),Z.out⟩
 clear h1;go_wp2_with fail;go_ret;exact⟨rfl,ac.out⟩
end Go.Proofs.YtdajolpoiffimabGreatDoor

namespace Go.Proofs.YtdajolpoiffimabGreatDoor
open Go.RowKit
set_option maxHeartbeats 0 in
theorem sV (w:World) (I P B D:Nat) (tk:Value) (b:Px.Bo) (d:Bx.Bo) (k n:Int) (s:ByteArray) (N:Nat) (_hN:N≤100000000000000000) (hm:Px.HMax d N) (hs:s.size≤maxLen) (hT:TabLH w) (_hM:Tab w) (hk:k=1) (hd:Duo w I P B D tk b d):
 Calls Tryz.prog 40 #[.pointer (some ⟨P,0,none⟩),opV k n s] w fun e Q=>e=.returned (.bool true)∧∃Z O,Did w Q I P B D tk Z O∧Px.HMax O N:=by
 subst hk;have aw:=Hq hm;have HS:=Hq hs;have U:=dx w (opO 1 n s);have G:=hd.later U;have aj:=hT.later U;have ho:=OpIn.new w 1 n s;clear hd hT hm hs
 go_enter Tryz.func40,Tryz.ntmps40
 go_upto_region 1 with fail;generalize w.alloc (opO 1 n s)=W at *;generalize aq:w.heap.size=J at *;have aG:=Hq aq;clear aq;have az:=Hq U;have HD:=Hq G;have ab:Hid (Duo W.drew I P B D tk b d):=G.later (Below.refl _ _).drew;have aB:Hid (TabLH W.drew):=aj.later (Below.refl _ _).drew;have hP:=G.p.ty.lt;have c0:=G.p.c0;have c1:=G.p.c1;obtain⟨ap,af,ah⟩:=G.apart G.p.ty (by decide) (by decide) (by decide)
 obtain⟨ar,ai,al⟩:=G.apart ho.ty (by decide) (by decide) (by decide)
 have hO:=ho.ty.lt;obtain⟨o0,o1,o2,_⟩:=ho;have V:Hid (¬P=D∧¬tk.ownBlock=some P∧¬J=D∧¬tk.ownBlock=some J):=⟨af,ah,ai,al⟩;have aA:Hid (some P≠some B):=fun e=>ap (by simpa using e)
 have am:Hid (some J≠some B):=fun e=>ar (by simpa using e)
 clear U G aj ap af ah ar ai al;go_wp2_with fail
 go_region_held3 (fun Q=>Q.cell? ⟨P,0,none⟩=some (.pointer (some ⟨B,0,none⟩))∧Q.cell? ⟨J,2,none⟩=some (.string s))
  (first |exact⟨hg.cell c0 aA.out,hg.cell o2 am.out⟩|exact⟨c0,o2⟩)
  ((go_at_call 21;refine (np b B s _ HD.out.rel.ok HD.out.logsz HS.out aB.out ab.out.x).mono ?_;rintro e w1 ⟨Z,a,r,rfl,hl,hx,hg⟩))
 obtain⟨ac,ae,_⟩:=ab.out.prg hg;have HX:=Hq hx;have HL:=Hq hl;have HG:=Hq hg;have HY:Hid (∃sl en,BoxIn w1.drew D d sl en tk):=(by obtain⟨sl,en,h⟩:=ae;exact⟨sl,en,h.later (Below.refl _ _).drew⟩)
 clear c0 c1;have c1:=ac.c1;have aO:=ac.ty.lt;have p2:w1.cell? ⟨J,2,none⟩=some (.string s):=hg.cell o2 am.out;have aN:J<w1.heap.size:=World.block_lt_of_cell? _ _ p2;clear hx hg ac ae hl o0 o1 o2;go_wp2_with fail
 go_region_held3 (fun Q=>Q.cell? ⟨P,1,none⟩=some (.pointer (some ⟨D,0,none⟩))∧Q.cell? ⟨J,2,none⟩=some (.string s))
  (first |exact⟨Y.cell c1 V.out.1 V.out.2.1,Y.cell p2 V.out.2.2.1 V.out.2.2.2⟩|exact⟨c1,p2⟩)
  ((go_at_call 73;refine (nZ b Z d D tk s a r _ HS.out HL.out HD.out.rel HY.out).mono ?_;rintro e w2 ⟨rfl,⟨O,aP,ak,hR,ag,ao⟩,Y⟩))
 have HF:Hid (∃Z O,Did w w2 I P B D tk Z O∧Px.HMax O N):=by
  refine⟨Z,O,Did.ahead (w1:=W.drew) ?_ (by rw[aG.out];exact az.out.drew),aw.out.load ak⟩
  exact Did.of ab.out (dA HG.out (dy (Below.refl _ _).drew _)) (by obtain⟨sl,en,h⟩:=HX.out;exact⟨sl,en,h.later (Below.refl _ _).drew⟩) ag ao Y hR (qg HL.out)
 clear c1 ag ao Y p2 ak hR;go_wp2_with ((go_at_call 70;refine (ey _ _).mono ?_;rintro e w3 ⟨rfl,rfl⟩));go_ret;exact⟨rfl,HF.out⟩
set_option maxHeartbeats 0 in
theorem ta (w:World) (I P B D:Nat) (tk:Value) (b:Px.Bo) (d:Bx.Bo) (k n:Int) (s:ByteArray) (N:Nat) (_hN:N≤100000000000000000) (hm:Px.HMax d N) (hs:s.size≤maxLen) (hT:TabLH w) (_hM:Tab w) (hk:k=6) (hd:Duo w I P B D tk b d):
 Calls Tryz.prog 40 #[.pointer (some ⟨P,0,none⟩),opV k n s] w fun e O=>e=.returned (.bool true)∧∃b' Z,Did w O I P B D tk b' Z∧Px.HMax Z N:=by
 subst hk;have aw:=Hq hm;have HS:=Hq hs;have Q:=dx w (opO 6 n s);have G:=hd.later Q;have ak:=hT.later Q;have ho:=OpIn.new w 6 n s;clear hd hT hm hs
 go_enter Tryz.func40,Tryz.ntmps40
 go_upto_region 1 with fail;generalize w.alloc (opO 6 n s)=W at *;generalize aq:w.heap.size=J at *;have aE:=Hq aq;clear aq;have ax:=Hq Q;have HD:=Hq G;have aa:Hid (Duo W.drew I P B D tk b d):=G.later (Below.refl _ _).drew;have aN:Hid (TabLH W.drew):=ak.later (Below.refl _ _).drew;have hP:=G.p.ty.lt;have c0:=G.p.c0;have c1:=G.p.c1;obtain⟨ap,ag,ai⟩:=G.apart G.p.ty (by decide) (by decide) (by decide)
 obtain⟨ar,aj,al⟩:=G.apart ho.ty (by decide) (by decide) (by decide)
 have hO:=ho.ty.lt;obtain⟨o0,o1,o2,_⟩:=ho;have U:Hid (¬P=D∧¬tk.ownBlock=some P∧¬J=D∧¬tk.ownBlock=some J):=⟨ag,ai,aj,al⟩;have ay:Hid (some P≠some B):=fun e=>ap (by simpa using e)
 have am:Hid (some J≠some B):=fun e=>ar (by simpa using e)
 clear Q G ak ap ag ai ar aj al;go_wp2_with fail
 go_region_held3 (fun O=>O.cell? ⟨P,0,none⟩=some (.pointer (some ⟨B,0,none⟩))∧O.cell? ⟨J,1,none⟩=some (.int .i64 n))
  (first |exact⟨Y.cell c0 ay.out,Y.cell o1 am.out⟩|exact⟨c0,o1⟩)
  ((go_at_call 30;refine (k9 b B n _ HD.out.rel.ok HD.out.logsz aa.out.x).mono ?_;rintro e w1 ⟨rfl,hx,Y⟩))
 obtain⟨ab,af,_⟩:=aa.out.prg Y;have HX:=Hq hx;have HG:=Hq Y;have HY:Hid (∃sl en,BoxIn w1.drew D d sl en tk):=(by obtain⟨sl,en,h⟩:=af;exact⟨sl,en,h.later (Below.refl _ _).drew⟩)
 clear c0 c1;have c1:=ab.c1;have aM:=ab.ty.lt;have p1:w1.cell? ⟨J,1,none⟩=some (.int .i64 n):=Y.cell o1 am.out;have aL:J<w1.heap.size:=World.block_lt_of_cell? _ _ p1;have HR:Hid (∃r,(Px.cancelB b n).2=r):=⟨_,rfl⟩;obtain⟨r,ac⟩:=HR.out;have az:=Hq ac;rw[ac];clear hx Y ab af HR ac o0 o1 o2;go_wp2_with fail
 go_region_held3 (fun O=>O.cell? ⟨P,1,none⟩=some (.pointer (some ⟨D,0,none⟩))∧O.cell? ⟨J,1,none⟩=some (.int .i64 n))
  (first |exact⟨V.cell c1 U.out.1 U.out.2.1,V.cell p1 U.out.2.2.1 U.out.2.2.2⟩|exact⟨c1,p1⟩)
  ((go_at_call 77;refine (lJ b d D tk n _ HD.out.rel HY.out).mono ?_;rw[az.out];rintro e w2 ⟨rfl,⟨aO,ah,ao⟩,V⟩))
 have HF:Hid (∃b' Z,Did w w2 I P B D tk b' Z∧Px.HMax Z N):=by
  refine⟨(Px.cancelB b n).1,(cancelP d n).1,Did.ahead (w1:=W.drew) ?_ (by rw[aE.out];exact ax.out.drew),aw.out.cancel n⟩
  exact Did.of aa.out (dA HG.out (dy (Below.refl _ _).drew _)) (by obtain⟨sl,en,h⟩:=HX.out;exact⟨sl,en,h.later (Below.refl _ _).drew⟩) ah ao V (Px.cancel_rel HD.out.rel n).2 (mV b n)
 clear c1 ah ao V p1;go_wp2_with ((go_at_call 70;refine (ey _ _).mono ?_;rintro e w3 ⟨rfl,rfl⟩));go_ret;exact⟨rfl,HF.out⟩
set_option maxHeartbeats 0 in
theorem sU (w:World) (J P B D:Nat) (tk:Value) (b:Px.Bo) (d:Bx.Bo) (k n:Int) (s:ByteArray) (N:Nat) (_hN:N≤100000000000000000) (hm:Px.HMax d N) (_hs:s.size≤maxLen) (hT:TabLH w) (hM:Tab w) (hk:k=3) (hd:Duo w J P B D tk b d):
 Calls Tryz.prog 40 #[.pointer (some ⟨P,0,none⟩),opV k n s] w fun e w'=>e=.returned (.bool true)∧∃b' d',Did w w' J P B D tk b' d'∧Px.HMax d' N:=by
 subst hk;have al:=Hq hm;have O:=dx w (opO 3 n s);have Q:=hd.later O;have af:=hT.later O;have ag:=hM.later O;have ho:=OpIn.new w 3 n s;clear hd hT hM hm
 go_enter Tryz.func40,Tryz.ntmps40
 go_upto_region 1 with fail;generalize w.alloc (opO 3 n s)=W at *;generalize ah:w.heap.size=oq at *;have ai:=Hq ah;clear ah;have ae:=Hq O;have HD:=Hq Q;obtain⟨aG,aH,hy⟩:=Q.y;obtain⟨Z,U,rfl,_⟩:=hy.rows.sl.form;obtain⟨V,G,rfl,_⟩:=hy.rows.en.form;have HY:=Hq hy;have hP:=Q.p.ty.lt;have c1:=Q.p.c1;have hO:=ho.ty.lt;have ax:=Hq ho;obtain⟨o0,o1,o2,_⟩:=ho;have av:=Hq af;have ao:=Hq ag;clear O Q af ag hy;go_wp2_with fail;refine (dX d D (.slice Z d.now.slots.length U) (.slice V d.now.ends.length G) tk _ HY.out).mono ?_;rintro e w1 ⟨rfl,Y⟩;have I:Below W.heap.size W (w1.alloc (stO d.now (.slice Z d.now.slots.length U) (.slice V d.now.ends.length G))):=Y.alloc Y.size _;have g1:(w1.alloc (stO d.now (.slice Z d.now.slots.length U) (.slice V d.now.ends.length G))).cell? ⟨w1.heap.size,1,none⟩=some (.int .i64 d.now.clock):=by simp[go_sem]
 have aw:=Hq (HD.out.later I);have am:=Hq (av.out.later I);have ap:=Hq (ao.out.later I);have p1:=cell_later I ax.out.c1
 have aq:Hid (Below w.heap.size w (w1.alloc (stO d.now (.slice Z d.now.slots.length U) (.slice V d.now.ends.length G)))):=by
  have h1:=ae.out.trans (I.mono (by have:=ae.out.size;rw[ai.out] at this;exact this))
  rw[ai.out];exact h1
 clear Y I o0 o1 o2 c1;go_upto_region 10 with fail;generalize w1.alloc (stO d.now (.slice Z d.now.slots.length U) (.slice V d.now.ends.length G))=W2 at *;generalize w1.heap.size=q1 at *;go_wp2_with fail;refine (iH _ J P B D tk b d _ am.out ap.out aw.out).mono ?_;rintro e w3 ⟨rfl,ac⟩;have HF:Hid (∃b' d',Did w w3 J P B D tk b' d'∧Px.HMax d' N):=⟨_,_,ac.ahead aq.out,al.out.tick _⟩;clear ac g1 p1;go_wp2_with fail;go_ret;exact⟨rfl,HF.out⟩
theorem nr (w:World) (G P B D:Nat) (tk:Value) (b:Px.Bo) (d:Bx.Bo) (k n:Int) (s:ByteArray) (N:Nat) (O:N≤100000000000000000) (hm:Px.HMax d N) (Q:s.size≤maxLen) (J:TabLH w) (I:Tab w) (h7:¬k=7) (hd:Duo w G P B D tk b d):
 Calls Tryz.prog 40 #[.pointer (some ⟨P,0,none⟩),opV k n s] w fun e w'=>e=.returned (.bool true)∧∃Y U,Did w w' G P B D tk Y U∧Px.HMax U (if k=5 then N+40 else N):=by
 by_cases h1:k=1
 ·rw[if_neg (by omega)];exact sV w G P B D tk b d k n s N O hm Q J I h1 hd
 by_cases h2:k=2
 ·rw[if_neg (by omega)];exact sR w G P B D tk b d k n s N O hm Q J I h2 hd
 by_cases Z:k=3
 ·rw[if_neg (by omega)];exact sU w G P B D tk b d k n s N O hm Q J I Z hd
 by_cases h4:k=4
 ·rw[if_neg (by omega)];exact tc w G P B D tk b d k n s N O hm Q J I h4 hd
 by_cases V:k=5
 ·rw[if_pos V];exact tu w G P B D tk b d k n s N O hm Q J I V hd
 by_cases h6:k=6
 ·rw[if_neg (by omega)];exact ta w G P B D tk b d k n s N O hm Q J I h6 hd
 by_cases h8:k<1∨12<k
 ·rw[if_neg (by omega)];exact sH w G P B D tk b d k n s N O hm Q J I h8 hd
 ·rw[if_neg (by omega)];exact tj w G P B D tk b d k n s N O hm Q J I (by omega) (by omega) hd
end Go.Proofs.YtdajolpoiffimabGreatDoor

namespace Go.Proofs.YtdajolpoiffimabGreatDoor
open Go.RowKit
set_option maxHeartbeats 0 in
theorem nC (l r:Int) (w:World) (h:mayB l r=false):Calls Tryz.prog 38 #[.int .i64 l,.int .i64 r] w fun e d=>e=.returned (.tuple #[.pointer none,.bool true])∧d=w:=by
 go_enter Tryz.func38,Tryz.ntmps38
 go_wp2_with fail;refine (sx l r _ h).mono ?_;rintro e w1 ⟨rfl,rfl⟩;go_wp2_with fail;refine (rt l r _ h).mono ?_;rintro e w1 ⟨rfl,rfl⟩;go_wp2_with ((go_at_call 70;refine (ey _ _).mono ?_;rintro e G ⟨rfl,rfl⟩));go_ret2;exact⟨rfl,rfl⟩
abbrev pairO (B D:Nat) (l r:Int):Obj:=.cells #[.pointer (some ⟨B,0,none⟩),.pointer (some ⟨D,0,none⟩),.int .i64 l,.int .i64 r] 124
set_option maxHeartbeats 0 in
theorem i6 (l r:Int) (w:World) (h:mayB l r=true):Calls Tryz.prog 38 #[.int .i64 l,.int .i64 r] w fun e w'=>
 (∃P B D,e=.returned (.tuple #[.pointer (some ⟨P,0,none⟩),.bool true])∧Duo w' w.heap.size P B D nilV ⟨l,r,Px.first,ByteArray.empty⟩ ⟨l,r,Bx.first,ByteArray.empty,[]⟩)∧Below w.heap.size w w':=by
 have HR:Hid (Px.Rel ⟨l,r,Px.first,ByteArray.empty⟩ ⟨l,r,Bx.first,ByteArray.empty,[]⟩):=Px.Rel.new h
 go_enter Tryz.func38,Tryz.ntmps38
 go_wp2_with fail;refine (kg l r _ h).mono ?_;rintro e w1 ⟨⟨B,rfl,hB,U⟩,I⟩;have HX:=Hq U;have J:=Hq I;have V:=Hq hB;clear U I hB;go_wp2_with fail;refine (qh l r _ h).mono ?_;rintro e G ⟨⟨D,rfl,hD,Y⟩,d⟩;have Q:=J.out.size;have ab:=d.size;have O:PairIn (G.alloc (pairO B D l r)) G.heap.size B D l r:=⟨by simp[go_sem],by simp[go_sem],by simp[go_sem],by simp[go_sem],Typed.new _ _ _⟩
 have HF:Hid (Duo (G.alloc (pairO B D l r)) w.heap.size G.heap.size B D nilV ⟨l,r,Px.first,ByteArray.empty⟩ ⟨l,r,Bx.first,ByteArray.empty,[]⟩):=
  ⟨O,⟨_,_,(HX.out.later d).later (dx _ _)⟩,⟨_,_,Y.later (dx _ _)⟩,HR.out,⟨by omega,V.out,by omega⟩⟩
 have Z:Hid (Below w.heap.size w (G.alloc (pairO B D l r))):=(J.out.trans (d.mono Q)).alloc (by omega) _
 clear Y d O hD;go_wp2_with ((go_at_call 70;refine (ey _ _).mono ?_;rintro e w3 ⟨rfl,rfl⟩));go_ret2;exact⟨⟨_,_,_,rfl,HF.out⟩,Z.out⟩
def PlayI (w0 wr:World) (N P Q:Nat):Prop:=Below w0.heap.size w0 wr∧∃B D tk b d B2 D2 tk2 b2 d2,Duo wr w0.heap.size P B D tk b d∧Px.HMax d N∧Duo wr w0.heap.size Q B2 D2 tk2 b2 d2∧Px.HMax d2 N∧∀g,Ft B D tk g→¬Ft B2 D2 tk2 g
theorem PlayI.later {G wr e:World}{N P Q:Nat} (h:PlayI G wr N P Q) (hb:Below wr.heap.size wr e):PlayI G e N P Q:=by
 obtain⟨h1,B,D,tk,b,d,O,J,w,Y,d2,h2,I,U,Z,V⟩:=h;exact⟨h1.trans (hb.mono h1.size),B,D,tk,b,d,O,J,w,Y,d2,h2.later hb,I,U.later hb,Z,V⟩
theorem PlayI.mono {w wr:World}{N M P Q:Nat} (h:PlayI w wr N P Q) (hm:N≤M):PlayI w wr M P Q:=by
 obtain⟨h1,B,D,tk,b,d,J,I,e,V,d2,h2,G,O,Y,U⟩:=h;exact⟨h1,B,D,tk,b,d,J,I,e,V,d2,h2,G.mono hm,O,Y.mono hm,U⟩
theorem PlayI.swap {w wr:World}{N P Q:Nat} (h:PlayI w wr N P Q):PlayI w wr N Q P:=by
 obtain⟨h1,B,D,tk,b,d,J,I,e,V,d2,h2,G,O,Y,U⟩:=h;exact⟨h1,J,I,e,V,d2,B,D,tk,b,d,O,Y,h2,G,fun g q Z=>U g Z q⟩
theorem Ft.lt {w:World}{e P B D g:Nat}{tk:Value}{b:Px.Bo}{d:Bx.Bo} (h:Duo w e P B D tk b d) (G:Ft B D tk g):g<w.heap.size:=by
 rcases G with rfl|rfl|q
 ·exact h.tyB.lt
 ·exact h.tyD.lt
 ·exact (h.tyK q).1.lt
theorem PlayI.did {G wr O:World}{N M P Q B D V U:Nat}{tk I:Value}{b b2 Z:Px.Bo}{d d2 Y:Bx.Bo} (h1:Below G.heap.size G wr) (h2:Duo wr G.heap.size P B D tk b d) (h4:Duo wr G.heap.size Q V U I b2 d2) (h5:Px.HMax d2 N) (J:∀g,Ft B D tk g→¬Ft V U I g)
 (hd:Did wr O G.heap.size P B D tk Z Y) (hm:Px.HMax Y M) (hN:N≤M):PlayI G O M P Q:=by
 obtain⟨ab,g1,g2,g3⟩:=hd;have w:∀e,e≠79→e≠173→e≠220→∀g,Ft B D tk g→¬Typed wr g e:=fun e a b c=>h2.ft e a b c
 refine⟨h1.trans (g3.below h2.ftLo h1.size),B,D,ab,Z,Y,V,U,I,b2,d2,g1,hm,h4.kept g3 J (w _ (by decide) (by decide) (by decide)) (w _ (by decide) (by decide) (by decide)) (w _ (by decide) (by decide) (by decide)) (w _ (by decide) (by decide) (by decide)),h5.mono hN,?_⟩
 rintro g (rfl|rfl|q) q2
 ·exact J _ (Or.inl rfl) q2
 ·exact J _ (Or.inr (Or.inl rfl)) q2
 ·rcases g2 with e|e
  ·exact J g (Or.inr (Or.inr (by rw[←e];exact q))) q2
  ·have:=e g q;have:=Ft.lt h4 q2;omega
def ScriptAt (w:World) (v:Value) (L:List (Int×Int×ByteArray)):Prop:=∃ad cap,v=.slice ad L.length cap∧L.length≤cap∧∀i (h:i<L.length),∃b off,ad=some ⟨b,off,none⟩∧
 w.cell? ⟨b,off+i*3,none⟩=some (.int .i64 L[i].1)∧w.cell? ⟨b,off+i*3+1,none⟩=some (.int .i64 L[i].2.1)∧w.cell? ⟨b,off+i*3+2,none⟩=some (.string L[i].2.2)
theorem ScriptAt.later {w I:World}{v:Value}{L:List (Int×Int×ByteArray)} (h:ScriptAt w v L) (hb:Below w.heap.size w I):ScriptAt I v L:=by
 obtain⟨O,d,h1,h2,J⟩:=h;refine⟨O,d,h1,h2,fun i hi=>?_⟩
 obtain⟨b,G,e,c0,c1,c2⟩:=J i hi;exact⟨b,G,e,cell_later hb c0,cell_later hb c1,cell_later hb c2⟩
def inK (K:List Int) (k:Int) (j:Nat):Bool:=(K.take j).any fun x=>x==k
theorem pC {K:List Int}{k:Int}{j:Nat} (h:j<K.length):inK K k (j+1)=(inK K k j||(K[j]==k)):=by
 unfold inK;rw[List.take_succ_eq_append_getElem h,List.any_append];simp
theorem sw {K:List Int}{k:Int} (h:inK K k K.length=true):k∈K:=by
 unfold inK at h;rw[List.take_length,List.any_eq_true] at h;obtain⟨x,h1,h2⟩:=h;have:x=k:=by simpa using h2
 rw[←this];exact h1
def hm (K:List Int) (i:Nat):Nat:=if 5∈K then 40*i else 0
theorem ry {K:List Int}{k:Int} (d:k∈K) (i:Nat):(if k=5 then hm K i+40 else hm K i)≤hm K (i+1):=by
 unfold hm
 by_cases h:k=5
 ·subst h;rw[if_pos rfl,if_pos d,if_pos d];omega
 ·rw[if_neg h];split<;>omega
theorem io {K:List Int} (i:Nat):hm K i≤hm K (i+1):=by unfold hm;split<;>omega
end Go.Proofs.YtdajolpoiffimabGreatDoor

namespace Go.Proofs.YtdajolpoiffimabGreatDoor
open Go.RowKit Go.ChangeShapes Go.WideShapes Go.Deep
theorem rC (w:World) (K:List Int) (t:TypeId):RowAt (w.alloc (.cells (K.map (Value.int .i64)).toArray t)) (.slice (some ⟨w.heap.size,0,none⟩) K.length K.length) K.length (K.map (Value.int .i64)):=by
 refine Or.inr ⟨w.heap.size,0,K.length,rfl,Nat.le_refl _,fun j e=>?_⟩
 have hb:(w.alloc (.cells (K.map (Value.int .i64)).toArray t)).heap[w.heap.size]? =some (.cells (K.map (Value.int .i64)).toArray t (0,0)):=by show (w.heap.push (.cells (K.map (Value.int .i64)).toArray t))[w.heap.size]? =_;simp
 rw[cell_of_row _ _ _ (K.map (Value.int .i64)).toArray t (0,0) hb];have d:j<K.length:=by simpa using e
 simp[d]
set_option maxRecDepth 100000 in
theorem tR:∃f0 f1 f2:Field,Tryz.prog.underlying 99=some (.struct #[f0,f1,f2])∧f0.offset=0∧f1.offset=1∧f2.offset=2∧f0.type=3∧f1.type=3∧f2.type=9:=⟨_,_,_,Tryz.underlying99,rfl,rfl,rfl,rfl,rfl,rfl⟩
theorem rX:Tryz.prog.cellsOf 99=3:=by kernel_rfl
theorem pX:Tryz.prog.cellsOf 3=1:=by kernel_rfl
theorem qn:Tryz.prog.cellsOf 9=1:=by kernel_rfl
set_option maxRecDepth 100000 in
theorem open_script {H:Type}{Z:TypeId×Value→H}{W:World}{r:Reach}{b0:Nat}{v:Value}{d:DataW H}{ps:List MemPlace} (ac:Value.okWide Tryz.prog W r b0 56 v) (hd:DataW.Trod Z Tryz.prog W 0 (fun _=>true) true 56 v d ps):
 ∃L,ScriptAt W v L∧(∀x∈L,x.2.2.size≤maxLen)∧L.length≤maxLen∧((d=.nil∧L=[])∨∃w U,d=.slice w U∧w.length=L.length):=by
 obtain⟨a0,V,c0,rfl⟩:=okWide_slice Tryz.underlying56 ac;obtain⟨aa,hf⟩:=hd;have ai:DataW.trod Z Tryz.prog W 0 (fun _=>true) true aa 56 [.slice a0 V c0]=some (d,ps):=by simpa [Value.cells] using hf
 obtain⟨f0,f1,f2,he,o0,o1,o2,t0,t1,t2⟩:=tR
 rcases open_slice Tryz.underlying56 ai with ⟨h1,h2⟩|⟨a,len,aL,m,n,D,Pl,h1,hb,hl,hm,ah,h2,hx⟩
 ·simp at h1
  obtain⟨rfl,rfl,rfl⟩:=h1;simp only [Prod.mk.injEq] at h2;exact⟨[],⟨none,0,rfl,Nat.le_refl _,fun i h=>absurd h (by simp)⟩,by simp,by simp,Or.inl ⟨h2.1,rfl⟩⟩
 ·simp at h1
  obtain⟨rfl,rfl,rfl⟩:=h1;simp only [Prod.mk.injEq] at h2;have aM:m=c0:=by rw[ah];simp
  have each:∀i,i<V→∃q:Int×Int×ByteArray,W.cell? (a.add (i*3))=some (.int .i64 q.1)∧W.cell? (a.add (i*3+1))=some (.int .i64 q.2.1)∧W.cell? (a.add (i*3+2))=some (.string q.2.2)∧q.2.2.size≤maxLen:=by
   intro i hi;obtain⟨ak,g1,g2⟩:=hx i (by omega)
   rw[rX] at g1;obtain⟨_,ad,e⟩:=World.cells?_some g1;obtain⟨xs,k,hk,aK,_,al,I⟩:=DataW.trod_struct he g2
   match xs,al,ak,ad with
   | [y0,y1,y2],_,[v0,v1,v2],_=>
     have k0:=I 0 f0 rfl;have k1:=I 1 f1 rfl;have k2:=I 2 f2 rfl;simp[o0,o1,o2,t0,t1,t2,pX,qn] at k0 k1 k2;have J:=e 0 (by omega)
     have O:=e 1 (by omega)
     have Q:=e 2 (by omega)
     rw[add_add] at J O Q;obtain⟨G,q0,_,_⟩:=DataW.trod_int Tryz.underlying3 k0;obtain⟨z1,q1,_,_⟩:=DataW.trod_int Tryz.underlying3 k1;obtain⟨z2,q2,_,q3⟩:=DataW.trod_string Tryz.underlying9 k2;simp at q0 q1 q2;subst q0 q1 q2;exact⟨(G,z1,z2),by simpa using J,by simpa using O,by simpa using Q,q3⟩
  obtain⟨q,hq⟩:=choose_lt each;refine⟨(List.range V).map q,⟨some a,c0,by simp,by simpa using hl,fun i hi=>?_⟩,?_,by simp;omega,Or.inr ⟨_,_,h2.1,by simp⟩⟩
  ·have ap:i<V:=by simpa using hi
   obtain⟨J,O,Q,_⟩:=hq i ap;have G:=(hq 0 (by omega)).1
   obtain⟨ab,ao,Y⟩:=a
   have am:Y=none:=by
    cases Y with
    | none=>rfl
    | some z=>
      exfalso
      simp only [World.cell?,Addr.add] at G
      split at G
      ·simp at G
      ·cases G
   subst am;refine⟨ab,ao,rfl,?_⟩;simp only [List.getElem_map,List.getElem_range];rw[add_plain] at J O Q;exact⟨J,O,Q⟩
  ·intro x ar;obtain⟨i,hi,rfl⟩:=List.mem_map.1 ar;exact (hq i (List.mem_range.1 hi)).2.2.2
end Go.Proofs.YtdajolpoiffimabGreatDoor
