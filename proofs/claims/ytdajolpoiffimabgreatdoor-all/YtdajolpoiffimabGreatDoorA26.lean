import Derived.Deep.RegionHeld3
import Derived.Deep.DrawnRows
import Derived.Test.YtdajolpoiffimabGreatDoorA25

namespace Go.Proofs.YtdajolpoiffimabGreatDoor
open Go.RowKit
attribute [local go_sem] Bx.be_size
theorem oi (s:Px.St):({data:= #[90]}:ByteArray)++Bx.be (s.clock+1) 5++Bx.be s.next 2++Bx.be s.tab.size 2++s.tab++(Bx.be s.slots.length 1++Bx.cat (s.slots.map encA))++(Bx.be s.ends.length 1++Bx.cat (s.ends.map Bx.encEn))=Bx.wholeS (Px.abs s):=by
 have e:(Px.abs s).slots.map Bx.encSl=s.slots.map encA:=by unfold Px.abs;simp only [List.map_map];rfl
 have d:(Px.abs s).slots.length=s.slots.length:=by simp[Px.abs]
 unfold Bx.wholeS Bx.encSt;rw[e,d];simp only [ByteArray.append_assoc];rfl
set_option maxRecDepth 10000 in
set_option maxHeartbeats 2000000 in
theorem iU (s:Px.St) (sl en:Value) (w:World) (hf:Bx.StFit (Px.abs s)) (ht:s.tab.size≤1000) (hS:PAt w s sl en):
 Calls Tryz.prog 37 #[pstV s sl en] w fun e w'=>e=.returned (.string (Bx.frame (Bx.wholeS (Px.abs s))))∧Below w.heap.size w w':=by
 obtain⟨O,J,rfl,aV⟩:=hS.sl.form;obtain⟨I,G,rfl,aQ⟩:=hS.en.form;obtain⟨c1,c2⟩:=hf.c;obtain⟨n1,n2⟩:=hf.n;have aE:s.slots.length≤255:=by have:=hf.sl;simp[Px.abs] at this;omega
 have aG:s.ends.length≤255:=by have:=hf.en;simp[Px.abs] at this;omega
 have aX: -1≤s.clock:=c1;have aY:s.clock<1099511627775:=c2;have aZ:0≤s.next:=n1;have a2:s.next<65536:=n2;have aK:Hid (∀x∈s.slots,Bx.SlFit (Px.absS x)):=fun x hx=>hf.es _ (List.mem_map.2 ⟨x,hx,rfl⟩)
 have ar:Hid (∀x∈s.ends,Bx.EnFit x):=hf.ee;have HS:Hid (PAt w s (.slice O s.slots.length J) (.slice I s.ends.length G)):=hS;have HE:Hid (({data:= #[90]}:ByteArray)++Bx.be (s.clock+1) 5++Bx.be s.next 2++Bx.be s.tab.size 2++s.tab++(Bx.be s.slots.length 1++Bx.cat (s.slots.map encA))++(Bx.be s.ends.length 1++Bx.cat (s.ends.map Bx.encEn))=Bx.wholeS (Px.abs s)):=oi s
 have aM:(Bx.be s.slots.length 1++Bx.cat (s.slots.map encA)).size≤4000:=by
  have h1:=Bx.cat_size encA 15 s.slots (fun x _=>Bx.encSl_size _)
  rw[ByteArray.size_append,Bx.be_size,h1];omega
 have aO:(Bx.be s.ends.length 1++Bx.cat (s.ends.map Bx.encEn)).size≤1000:=by
  have h1:=Bx.cat_size Bx.encEn 3 s.ends (fun x hx=>by unfold Bx.encEn;rw[ByteArray.size_append,Bx.be_size,(ar.out x hx).h])
  rw[ByteArray.size_append,Bx.be_size,h1];omega
 have hZ:Hid ((Bx.wholeS (Px.abs s)).size≤100000):=by
  unfold Hid;rw[←HE.out];simp only [ByteArray.size_append,Bx.be_size] at aM aO ⊢;have:({data:= #[90]}:ByteArray).size=1:=rfl;omega
 have ah:=cw w (pstO s (.slice O s.slots.length J) (.slice I s.ends.length G));have hI:=PIn.new w s (.slice O s.slots.length J) (.slice I s.ends.length G);clear hf hS c1 c2 n1 n2
 go_enter Tryz.func37,Tryz.ntmps37
 go_upto_region 1 with fail;generalize w.alloc (pstO s (.slice O s.slots.length J) (.slice I s.ends.length G))=W at *;have HI:Hid (PIn W w.heap.size s (.slice O s.slots.length J) (.slice I s.ends.length G)):=hI;have HB:Hid (Below w.heap.size w W):=ah;have HA:Hid (PAt W s (.slice O s.slots.length J) (.slice I s.ends.length G)):=HS.out.later ah;obtain⟨Q,Z,V,Y,U⟩:=hI;clear ah HS Q V Y U;go_wp2_with fail;refine (dN _ _ (s.clock+1) 5 _ rfl rfl (by omega) (by omega) (by decide)).mono ?_
 rintro e w1 ⟨rfl,d⟩;have ap:=HI.out.later d;have ac:Hid (Below w.heap.size w w1):=HB.out.trans (d.mono HB.out.size);have av:Hid (PAt w1 s (.slice O s.slots.length J) (.slice I s.ends.length G)):=HA.out.later d;have ak:Hid (PIn w1 w.heap.size s (.slice O s.slots.length J) (.slice I s.ends.length G)):=ap;clear HI HB HA d Z;obtain⟨Q,Z,V,Y,U⟩:=ap;clear Q Z Y U;go_wp2_with fail;refine (dN _ _ s.next 2 _ rfl rfl (by omega) (by omega) (by decide)).mono ?_
 rintro e w2 ⟨rfl,d⟩;have aw:=ak.out.later d;have am:Hid (Below w.heap.size w w2):=ac.out.trans (d.mono ac.out.size);have ao:Hid (PAt w2 s (.slice O s.slots.length J) (.slice I s.ends.length G)):=av.out.later d;have ai:Hid (PIn w2 w.heap.size s (.slice O s.slots.length J) (.slice I s.ends.length G)):=aw;clear ak ac av d V;obtain⟨Q,Z,V,Y,U⟩:=aw;clear Z V Y U;go_wp2_with fail;refine (dN _ _ (s.tab.size:Int) 2 _ rfl rfl (by omega) (by omega) (by decide)).mono ?_
 rintro e w3 ⟨rfl,d⟩;have aq:=ai.out.later d;have aj:Hid (Below w.heap.size w w3):=am.out.trans (d.mono am.out.size);have ae:Hid (PAt w3 s (.slice O s.slots.length J) (.slice I s.ends.length G)):=ao.out.later d;have ag:Hid (PIn w3 w.heap.size s (.slice O s.slots.length J) (.slice I s.ends.length G)):=aq;clear ai am ao d Q;obtain⟨Q,Z,V,Y,U⟩:=aq;clear Q Z V U;go_wp2_with fail;refine (jq s.slots _ _ aE aK.out ae.out.sl.1).mono ?_;rintro e w4 ⟨rfl,d⟩;have au:=ag.out.later d;have af:Hid (Below w.heap.size w w4):=aj.out.trans (d.mono aj.out.size);have ax:Hid (PAt w4 s (.slice O s.slots.length J) (.slice I s.ends.length G)):=ae.out.later d;have al:Hid (PIn w4 w.heap.size s (.slice O s.slots.length J) (.slice I s.ends.length G)):=au;clear ag aj ae d Y;obtain⟨Q,Z,V,Y,U⟩:=au;clear Q Z V Y;go_wp2_with fail;refine (jK s.ends _ _ aG ar.out ax.out.en.1).mono ?_;rintro e w5 ⟨rfl,d⟩;have aD:=al.out.later d;have ab:Hid (Below w.heap.size w w5):=af.out.trans (d.mono af.out.size);clear al af ax d U;obtain⟨Q,Z,V,Y,U⟩:=aD;clear Z V Y U;generalize Bx.be s.slots.length 1++Bx.cat (s.slots.map encA)=X1 at *;generalize Bx.be s.ends.length 1++Bx.cat (s.ends.map Bx.encEn)=X2 at *;have q1:¬9223372036854775807<10+s.tab.size:=by omega
 have q2:¬9223372036854775807<10+s.tab.size+X1.size:=by omega
 have q3:¬9223372036854775807<10+s.tab.size+X1.size+X2.size:=by omega
 go_wp2_with fail;rw[HE.out];refine (fG _ _ hZ.out).mono ?_;rintro e w6 ⟨rfl,d⟩;have aL:Hid (Below w.heap.size w w6):=ab.out.trans (d.mono ab.out.size);clear ab d Q;go_wp2_with fail;go_ret;exact⟨rfl,aL.out⟩
set_option maxRecDepth 10000 in
set_option maxHeartbeats 2000000 in
theorem kH (x:Px.Sl) (w:World):Calls Tryz.prog 94 #[psV x] w fun e I=>e=.returned (psV (Px.wait x))∧Below w.heap.size w I:=by
 have G:Hid (∀o d,Below w.heap.size w ((w.alloc o).alloc d)):=fun o d=>(cw w o).alloc (by simp) d
 go_enter Tryz.func94,Tryz.ntmps94
 go_wp2_with fail;refine bodyPost_ret (v:=psV (Px.wait x)) (by simp[results,Tryz.results94,go_sem,Px.wait];rfl) rfl ⟨rfl,?_⟩
 first |exact G.out _ _|(repeat (refine Below.setCell ?_ (by simp) _);exact G.out _ _)
set_option maxRecDepth 10000 in
set_option maxHeartbeats 4000000 in
theorem qE (s:Px.St) (sl en:Value) (w:World) (hl:s.slots.length≤10000) (hS:PAt w s sl en):
 Calls Tryz.prog 64 #[pstV s sl en] w fun e w'=>(∃ap aA,e=.returned (pstV (Px.intP s) ap aA)∧PAt w' (Px.intP s) ap aA)∧Below w.heap.size w w':=by
 obtain⟨i0,hi,aV,a7,aR⟩:=info_parts gi;obtain⟨Q,I,rfl,br⟩:=hS.sl.form;obtain⟨G,d,rfl,a9⟩:=hS.en.form;have ak:=(cw w (pstO s (.slice Q s.slots.length I) (.slice G s.ends.length d))).alloc (by simp) (.cells #[.string {data:= #[]},.int .i64 0,.int .i64 0,.slice none 0 0,.slice none 0 0] 77)
 have hI:=(PIn.new w s (.slice Q s.slots.length I) (.slice G s.ends.length d)).later (cw _ (.cells #[.string {data:= #[]},.int .i64 0,.int .i64 0,.slice none 0 0,.slice none 0 0] 77));have hz:=Cl.new (w.alloc (pstO s (.slice Q s.slots.length I) (.slice G s.ends.length d))) [.string {data:= #[]},.int .i64 0,.int .i64 0,.slice none 0 0,.slice none 0 0] 77;have av:(w.alloc (pstO s (.slice Q s.slots.length I) (.slice G s.ends.length d))).heap.size=w.heap.size+1:=by simp
 rw[av] at hz;clear av
 go_enter Tryz.func64,Tryz.ntmps64
 go_upto_region 1 with fail;have am:Cl ((w.alloc (pstO s (.slice Q s.slots.length I) (.slice G s.ends.length d))).alloc (.cells #[.string {data:= #[]},.int .i64 0,.int .i64 0,.slice none 0 0,.slice none 0 0] 77)) (w.heap.size+1) 77 [.string {data:= #[]},.int .i64 0,.int .i64 0,.slice none 0 0,.slice none 0 0]:=hz;clear hz;generalize (w.alloc (pstO s (.slice Q s.slots.length I) (.slice G s.ends.length d))).alloc (.cells #[.string {data:= #[]},.int .i64 0,.int .i64 0,.slice none 0 0,.slice none 0 0] 77)=W at *;have HZ:Hid (Cl W (w.heap.size+1) 77 [.string {data:= #[]},.int .i64 0,.int .i64 0,.slice none 0 0,.slice none 0 0]):=am;have HI:Hid (PIn W w.heap.size s (.slice Q s.slots.length I) (.slice G s.ends.length d)):=hI;have HB:Hid (Below w.heap.size w W):=ak;have HA:Hid (PAt W s (.slice Q s.slots.length I) (.slice G s.ends.length d)):=hS.later ak;have HO:Hid ((W.alloc (.cells #[] 143)).ownsRow W.heap.size 143 8 (.slice (some ⟨W.heap.size,0,none⟩) 0 0) 0 []):=eq W 143 8;have a4:Hid (Below W.heap.size W (W.alloc (.cells #[] 143))):=cw W _;have bF:w.heap.size+1<W.heap.size:=am.ty.lt;clear am hI ak hS;go_wp2_with fail
 go_loopw [3,4] (fun v i wr=>∃k:Nat,k≤s.slots.length∧i=.int .i64 k∧wr.ownsRow W.heap.size 143 8 v ((s.slots.take k).map Px.wait).length (((s.slots.take k).map Px.wait).flatMap psC)∧Below W.heap.size W wr) (fun _ i _=>s.slots.length-(intOf i).toNat)
 case atStart=>exact⟨0,Nat.zero_le _,rfl,HO.out,a4.out⟩
 case round=>
  obtain⟨k,hk,rfl,Y,O⟩:=hrel;have aH:=O.size;have aZ:=HI.out.later O;obtain⟨j0,j1,j2,j3,j4⟩:=aZ
  by_cases aw:k<s.slots.length
  ·obtain⟨b,bL,bx,hv,_,hc⟩:=(HA.out.sl.1.later O).some' (by omega)
   cases hv
   obtain⟨d0,d1,d2,d3,d4,d5,d6,d7⟩:=ei hc k aw;clear hc;have b1:(0:Int)≤(k:Int):=by omega
   have b2:(k:Int)<(s.slots.length:Int):=by omega
   have hn:((s.slots.take k).map Px.wait).length≤10000:=by simp;omega
   have HF:Hid ((s.slots.take (k+1)).map Px.wait=(s.slots.take k).map Px.wait++[Px.wait s.slots[k]]):=by
    unfold Hid;rw[List.take_succ_eq_append_getElem aw,List.map_append];rfl
   generalize s.slots[k]=x at *;generalize (s.slots.take k).map Px.wait=L at *;have ay:Hid (wr.ownsRow W.heap.size 143 8 _ L.length (L.flatMap psC)):=Y;have ab:Hid (Below W.heap.size W wr):=O;clear Y O j0 j1 j2 j4;go_wp2_with fail;refine (kH x _).mono ?_;rintro e w1 ⟨rfl,aj⟩;clear d0 d1 d2 d3 d4 d5 d6 d7 j3;generalize Px.wait x=y at *;have ah:=dU ay.out aj;have ae:Below W.heap.size W w1:=ab.out.trans (aj.mono aH);have aF:=ae.size;clear ay ab aj;have ax:=cw w1 (psO y);have Z:=dU ah ax;have ac:Below W.heap.size W (w1.alloc (psO y)):=ae.alloc aF _;have hX:=PsIn.new w1 y;clear ah ae ax;go_upto_region 6 with fail;generalize w1.alloc (psO y)=W2 at *;generalize w1.heap.size=xq at *;obtain⟨e0,e1,e2,e3,e4,e5,e6,e7⟩:=hX;have aJ:=ac.size;go_wp2_with (at_builtin;refine wpList_append_lies _ rfl (.tmp 21) (.tmp 23) 75 rfl W.heap.size 143 i0 (.agg #[.int .i64 0,.int .i64 0,.int .i64 0,.int .i64 0,.int .i64 0,.int .i64 0,.int .i64 0,.string ByteArray.empty]) 8 72 Tryz.underlying75 hi aV a7 aR rfl (by decide) _ _ _ rfl (Z.alloc _) ⟨W2.heap.size,0,none⟩ 1 1 (psC y) rfl rfl (fo _ _ _) (fp y) (by decide) ?c3 ?c4 ?c5 _ rfl ?_)
   case c3=>unfold maxLen;omega
   case c4=>omega
   case c5=>simp;omega
   ·intro g aE w3 ag ai _ bp;have B1:Below W.heap.size W w3:=(ac.alloc aJ _).grown ai (by simp;omega) (fun k' e=>(Z.lt k' e).1)
    have ao:w3.ownsRow W.heap.size 143 8 (.slice (some ⟨g,0,none⟩) (L.length+1) aE) (L++[y]).length ((L++[y]).flatMap psC):=by simpa using ag
    clear ag ai Z ac e0 e1 e2 e3 e4 e5 e6 e7;go_wp2_with fail;go_roundw
    case rel=>exact⟨k+1,by omega,by go_num,by rw[HF.out];exact ao,B1⟩
    case measure=>simp[intOf];omega
  ·obtain rfl:k=s.slots.length:=by omega
   rw[List.take_length] at Y;have hT:=TRow.of_own Y;obtain⟨V,J,aT,_⟩:=hT.form;subst aT;have au:Hid (TRow wr 143 (.slice V (s.slots.map Px.wait).length J) (Px.intP s).slots.length ((Px.intP s).slots.flatMap psC)):=hT;have aa:=HZ.out.later O;have az:Hid (TRow wr 85 (.slice G s.ends.length d) s.ends.length (s.ends.flatMap enC)):=HA.out.en.later O;have ab:Hid (Below w.heap.size w wr):=HB.out.trans (O.mono HB.out.size);have hP:PRes w wr s (.slice Q s.slots.length I) (.slice G s.ends.length d):=⟨HI.out.later O,fun i hi=>⟨⟨_,aa.c i _ (List.getElem?_eq_getElem (by simpa using hi))⟩,aa.f i (by simpa using hi)⟩,aa.ty,ab.out,aa.ty.lt⟩
   have aD:=hP.later (cw wr (pstO s (.slice Q s.slots.length I) (.slice G s.ends.length d)));have aC:=au.out.later (cw wr (pstO s (.slice Q s.slots.length I) (.slice G s.ends.length d)));have aB:=az.out.later (cw wr (pstO s (.slice Q s.slots.length I) (.slice G s.ends.length d)));have hA:=PW.new wr s (.slice Q s.slots.length I) (.slice G s.ends.length d);have a8:=hP.lt;clear hT Y au az ab aa O hP;generalize (s.slots.map Px.wait).length=nl at *;go_upto_region 8 with fail;clear j0 j1 j2 j3 j4;generalize wr.alloc (pstO s (.slice Q s.slots.length I) (.slice G s.ends.length d))=W2 at *;generalize wr.heap.size=q at *;have a3:=hA.st.c3;have f3:=hA.f 3 (by decide)
   have bK:=hA.ty.lt;have U:=aD.set a8 3 (.slice V nl J);have al:PW _ q (Px.intP s) _ _:=hA.slots (s.slots.map Px.wait) (.slice V nl J);have ar:=aC.set hA.ty (by decide) 3 (.slice V nl J)
   have aq:=aB.set hA.ty (by decide) 3 (.slice V nl J)
   clear hA aD aC aB;go_upto_region 9 with fail;clear a3 f3;generalize W2.setCell ⟨q,3,none⟩ (.slice V nl J)=W4 at *;have HX:Hid (PEnd w W4 q (Px.intP s) (.slice V nl J) (.slice G s.ends.length d)):=⟨al,⟨ar,aq⟩,U.z,U.ty,U.bel⟩;obtain⟨⟨⟨u0,r0⟩,f0⟩,⟨⟨u1,r1⟩,f1⟩,⟨⟨u2,r2⟩,f2⟩,⟨⟨u3,r3⟩,f3⟩,⟨⟨u4,r4⟩,f4⟩⟩:=And.intro (U.z 0 (by decide)) (And.intro (U.z 1 (by decide)) (And.intro (U.z 2 (by decide)) (And.intro (U.z 3 (by decide)) (U.z 4 (by decide)))))
   obtain⟨c0,c1,c2,c3,c4⟩:=al.st;clear U al ar aq;go_wp2_with fail;refine bodyPost_ret (v:=pstV (Px.intP s) (.slice V nl J) (.slice G s.ends.length d)) (by simp[results,Tryz.results64,go_sem,r0,r1,r2,r3,r4]) rfl ?_
   exact⟨⟨_,_,rfl,(HX.out.fin _ _ _ _ _).1⟩,(HX.out.fin _ _ _ _ _).2⟩
end Go.Proofs.YtdajolpoiffimabGreatDoor

namespace Go.Proofs.YtdajolpoiffimabGreatDoor
namespace Px
def ChM (s:St) (h:Bx.Ch) (p:St×Int):Prop:=(p.2=0→Bx.doP (abs s) h=(abs p.1,true)∧Ok p.1)∧(¬p.2=0→(Bx.doP (abs s) h).2=false)
open Classical in
theorem chm_tab {s:St} (I:Ok s) {tab:ByteArray} {n:Int} {a r:Int} (d:ChkR tab a r):ChM s ⟨84,tab,n⟩ (if r=0 then tabP s tab else (st0,r)):=by
 have e:Bx.doP (abs s) ⟨84,tab,n⟩=if ChkR tab 0 0∧(abs s).slots.length=0 then ({abs s with tab:=tab},true) else (abs s,false):=by unfold Bx.doP;rw[if_pos rfl]
 have G:(abs s).slots.length=s.slots.length:=by simp[abs]
 by_cases w:r=0
 ·subst w;have V:=d.zero rfl;subst V;rw[if_pos rfl];unfold tabP
  by_cases Q:0<s.slots.length
  ·rw[if_pos Q];refine⟨fun q=>absurd q (by decide),fun _=>?_⟩
   rw[e,if_neg (by rw[G];omega)]
  ·rw[if_neg Q];have O:s.slots=[]:=List.eq_nil_of_length_eq_zero (by omega)
   refine⟨fun _=>⟨?_,?_⟩,fun q=>absurd rfl q⟩
   ·rw[e,if_pos ⟨d,by rw[G];omega⟩];rfl
   ·have J:Bx.StOk (abs {s with tab:=tab}):=by
     have:=Bx.do_ok I.st ⟨84,tab,n⟩;rw[e,if_pos ⟨d,by rw[G];omega⟩] at this
     exact this
    exact⟨J,I.rise,fun x U=>by rw[O] at U;simp at U⟩
 ·rw[if_neg w];refine⟨fun q=>absurd q w,fun _=>?_⟩
  rw[e,if_neg];rintro ⟨q,_⟩;exact w (d.uniq q).2
theorem chm_clock {s:St} (G:Ok s) (t:ByteArray) (m:Int):ChM s ⟨67,t,m⟩ (clockP s m):=by
 have e:Bx.doP (abs s) ⟨67,t,m⟩=Bx.clockedP (abs s) m:=by unfold Bx.doP;rw[if_neg (show ¬(67:Int)=84 by decide),if_pos rfl]
 refine⟨fun h0=>⟨by rw[e];exact clock_abs s m h0,clock_ok G h0⟩,fun h0=>?_⟩
 rw[e];have d:=clock_err s m;unfold Bx.clockedP
 by_cases w:Bx.ahead (abs s) m=true
 ·rw[if_pos w];have hA:0≤m∧m≤4223371679∧s.clock<m∧(s.clock= -1∨m-s.clock≤1500):=of_decide_eq_true w;have hb:aheadP s m=true:=decide_eq_true hA.2.2;rw[if_neg (by omega),hb,if_neg (by simp)] at d
  by_cases I:10000<s.next+((comesP s m).length:Int)
  ·rw[if_neg]
   show ¬s.next+((comesP s m).length:Int)≤10000
   omega
  ·rw[if_neg I] at d;exact absurd d h0
 ·rw[if_neg w]
theorem chm_start {s:St} (d:Ok s) (t:ByteArray) (n:Int):ChM s ⟨83,t,n⟩ (startP s n):=by
 have e:Bx.doP (abs s) ⟨83,t,n⟩=Bx.aboutP (abs s) 83 n:=do_about _ _ _ _ (by decide) (by decide)
 refine⟨fun h0=>?_,fun h0=>?_⟩
 ·refine⟨?_,startP_ok d n h0⟩;rw[e]
  rcases start_abs d.dist n with ⟨q,_⟩|⟨i,hi,_,I,q⟩
  ·omega
  ·rcases q with ⟨q,_⟩|⟨q,_⟩|⟨q,_⟩|⟨_,_,_,_,_,q⟩
   ·omega
   ·omega
   ·omega
   ·exact q
 ·rw[e];unfold Bx.aboutP
  rcases start_abs d.dist n with ⟨_,w⟩|⟨i,hi,J,I,q⟩
  ·rw[if_pos w]
  ·rw[J,if_neg (by omega),if_neg (by decide),if_pos rfl]
   simp only [Int.toNat_natCast]
   rw[if_pos];rw[slAt_abs hi]
   rcases q with ⟨_,q⟩|⟨_,_,q⟩|⟨_,G,_,q⟩|⟨q,_⟩
   ·left;simp[absS,q]
   ·right;left;exact q
   ·right;right;rw[lock_abs hi G];exact q
   ·exact absurd q h0
theorem ended_ok {s:St} (d:Ok s) {k n:Int} {how:ByteArray} (h:Bx.aboutP (abs s) k n=(abs (ended s n how),true)):Ok (ended s n how):=by
 refine d.skip n how ?_;have:=Bx.about_ok d.st k n;rw[h] at this;exact this
theorem chm_done {s:St} (d:Ok s) (t:ByteArray) (n:Int):ChM s ⟨68,t,n⟩ (doneP s n):=by
 have e:Bx.doP (abs s) ⟨68,t,n⟩=Bx.aboutP (abs s) 68 n:=do_about _ _ _ _ (by decide) (by decide)
 have hd:(doneP s n).2=0→(doneP s n).1=ended s n Bx.hD:=by
  intro h0;unfold doneP at h0 ⊢
  cases q:find s.slots n with
  | none=>rw[q] at h0;cases h0
  | some x=>
    rw[q] at h0;simp only at h0 ⊢
    split at h0
    ·cases h0
    ·rename_i h;rw[if_neg h]
 rcases done_abs d.dist n d.num1 with ⟨q,G⟩|⟨q,i,I,J⟩|⟨q,w⟩
 ·refine⟨fun h0=>by omega,fun _=>?_⟩
  rw[e];unfold Bx.aboutP;rw[if_pos G]
 ·refine⟨fun h0=>by omega,fun _=>?_⟩
  rw[e];unfold Bx.aboutP;rw[I,if_neg (by omega),if_neg (by decide),if_neg (by decide),if_pos rfl]
  simp only [Int.toNat_natCast];exact J
 ·refine⟨fun h0=>⟨by rw[e];exact w,?_⟩,fun h0=>absurd q h0⟩
  rw[hd h0] at w ⊢;exact ended_ok d w
theorem chm_fail {s:St} (d:Ok s) (t:ByteArray) (n:Int):ChM s ⟨70,t,n⟩ (failP s n):=by
 have e:Bx.doP (abs s) ⟨70,t,n⟩=Bx.aboutP (abs s) 70 n:=do_about _ _ _ _ (by decide) (by decide)
 rcases fail_abs d.dist n d.num1 d.att with ⟨q,w⟩|⟨q,i,I,J⟩|⟨q,G⟩
 ·refine⟨fun h0=>by omega,fun _=>?_⟩
  rw[e];unfold Bx.aboutP;rw[if_pos w]
 ·refine⟨fun h0=>by omega,fun _=>?_⟩
  rw[e];unfold Bx.aboutP;rw[I,if_neg (by omega),if_neg (by decide),if_neg (by decide),if_neg (by decide),if_pos rfl]
  simp only [Int.toNat_natCast];exact J
 ·exact⟨fun h0=>⟨by rw[e];exact G,fail_ok d n h0⟩,fun h0=>absurd q h0⟩
theorem chm_cancel {s:St} (d:Ok s) (t:ByteArray) (n:Int):ChM s ⟨75,t,n⟩ (cancelP s n):=by
 have e:Bx.doP (abs s) ⟨75,t,n⟩=Bx.aboutP (abs s) 75 n:=do_about _ _ _ _ (by decide) (by decide)
 rcases cancel_abs d.dist n d.num1 with ⟨q,G⟩|⟨q,w⟩
 ·refine⟨fun h0=>by omega,fun _=>?_⟩
  rw[e];unfold Bx.aboutP;rw[if_pos G]
 ·refine⟨fun h0=>⟨by rw[e];exact w,?_⟩,fun h0=>absurd q h0⟩
  rw[cancel_st h0] at w ⊢;exact ended_ok d w
theorem fresh_ok {s:St} (G:∀x∈s.slots,Fresh x) (hm:Bx.MayS (abs s)):Ok s:=by
 refine⟨hm.ok,?_,fun x e=>?_⟩
 ·have:=hm.rise;unfold abs at this;rw[List.pairwise_map] at this;exact this
 ·obtain⟨h1,h2,d,I⟩:=G x e
  have w:LineP (tl s.tab (x.line-1).toNat):=by
   have q:=(hm.es (absS x) (List.mem_map.2 ⟨x,e,rfl⟩)).l;have O:1≤x.line∧x.line≤tn s.tab:=q;exact hm.tab.lines.2.2 _ (by show (x.line-1).toNat<tn s.tab;omega)
  have J:=w.n7;have Q:1≤(stepsOf (tl s.tab (x.line-1).toNat)).length:=by unfold stepsOf;rw[List.length_drop];omega
  refine⟨by omega,by omega,by omega,by omega,by rw[d];decide,fun _=>d⟩
end Px
end Go.Proofs.YtdajolpoiffimabGreatDoor

namespace Go.Proofs.YtdajolpoiffimabGreatDoor
open Go.RowKit
set_option maxHeartbeats 400000 in
theorem ey (e:Int) (w:World):Calls Tryz.prog 70 #[.int .i64 e] w fun r d=>r=.returned (.int .i64 e)∧d=w:=by
 go_enter Tryz.func70,Tryz.ntmps70
 go_wp2_with fail;go_ret;exact⟨rfl,rfl⟩
set_option maxHeartbeats 1000000 in
theorem jI (w:World) (J P B D:Nat) (tk:Value) (b:Px.Bo) (d:Bx.Bo) (i:Int) (hd:Duo w J P B D tk b d):
 Calls Tryz.prog 82 #[.pointer (some ⟨P,0,none⟩),.int .i64 i] w fun e w'=>e=.returned (.bool true)∧Below w.heap.size w w':=by
 have c0:=hd.p.c0;have hP:=hd.p.ty.lt;have O:=Hq hd;have V:Hid (∃x r,slotA b.st.slots i=(x,r)):=⟨_,_,rfl⟩;obtain⟨x,r,Y⟩:=V.out;have Z:=Hq Y;clear hd Y V
 go_enter Tryz.func82,Tryz.ntmps82
 go_wp2_with (first
  | (go_at_call 32;refine (ox b B i _ O.out.rel.ok O.out.x).mono ?_;rw[Z.out];rintro e w1 ⟨rfl,G⟩;have Q:Hid (∀o,Duo (w1.alloc o) J P B D tk b d):=(fun o=>(O.out.later G).later (cw w1 o));have c1:Hid (∀o,(w1.alloc o).cell? ⟨P,1,none⟩=some (.pointer (some ⟨D,0,none⟩))):=(fun o=>(Q.out o).p.c1);have ad:=c1.out (.cells #[.int .i64 x.num,.int .i64 x.line,.int .i64 x.minute,.int .i64 x.att,.int .i64 x.frm,.int .i64 x.step] 81);have ae:P<w1.heap.size:=Nat.lt_of_lt_of_le hP G.size)
  | (go_at_call 119;refine (ol b d D tk i _ O.out.rel (Q.out _).y).mono ?_;rw[Z.out];rintro e w2 ⟨rfl,I⟩;obtain⟨ag,af⟩:=dT I;have U:w1.heap.size<w2.heap.size:=(by have:=I.size;simp at this;omega))
  | (go_at_call 70;refine (ey _ _).mono ?_;rintro e w3 ⟨rfl,rfl⟩))
 go_ret
 exact⟨rfl,((G.alloc G.size _).trans (I.mono (by simp;exact Nat.le_succ_of_le G.size))).alloc (Nat.le_trans G.size (Nat.le_of_lt U)) _⟩
set_option maxHeartbeats 1000000 in
theorem jY (w:World) (J P B D:Nat) (tk:Value) (b:Px.Bo) (d:Bx.Bo) (i:Int) (hd:Duo w J P B D tk b d):
 Calls Tryz.prog 83 #[.pointer (some ⟨P,0,none⟩),.int .i64 i] w fun e w'=>e=.returned (.bool true)∧Below w.heap.size w w':=by
 have c0:=hd.p.c0;have hP:=hd.p.ty.lt;have O:=Hq hd;have V:Hid (∃x r,endA b.st.ends i=(x,r)):=⟨_,_,rfl⟩;obtain⟨x,r,Y⟩:=V.out;have Z:=Hq Y;clear hd Y V
 go_enter Tryz.func83,Tryz.ntmps83
 go_wp2_with (first
  | (go_at_call 33;refine (pZ b B i _ O.out.rel.ok O.out.x).mono ?_;rw[Z.out];rintro e w1 ⟨rfl,G⟩;have Q:Hid (∀o,Duo (w1.alloc o) J P B D tk b d):=(fun o=>(O.out.later G).later (cw w1 o));have c1:Hid (∀o,(w1.alloc o).cell? ⟨P,1,none⟩=some (.pointer (some ⟨D,0,none⟩))):=(fun o=>(Q.out o).p.c1);have ad:=c1.out (.cells #[.int .i64 x.num,.string x.how] 85);have ae:P<w1.heap.size:=Nat.lt_of_lt_of_le hP G.size)
  | (go_at_call 120;refine (qp b d D tk i _ O.out.rel (Q.out _).y).mono ?_;rw[Z.out];rintro e w2 ⟨rfl,I⟩;obtain⟨ag,af⟩:=dT I;have U:w1.heap.size<w2.heap.size:=(by have:=I.size;simp at this;omega))
  | (go_at_call 70;refine (ey _ _).mono ?_;rintro e w3 ⟨rfl,rfl⟩))
 go_ret
 exact⟨rfl,((G.alloc G.size _).trans (I.mono (by simp;exact Nat.le_succ_of_le G.size))).alloc (Nat.le_trans G.size (Nat.le_of_lt U)) _⟩
set_option maxHeartbeats 1000000 in
theorem jH (w:World) (J P B D:Nat) (tk:Value) (b:Px.Bo) (d:Bx.Bo) (hd:Duo w J P B D tk b d):
 Calls Tryz.prog 80 #[.pointer (some ⟨P,0,none⟩)] w fun e Z=>e=.returned (.bool true)∧Below w.heap.size w Z:=by
 have c0:=hd.p.c0;have Y:=hd.p.ty.lt;have Q:=Hq hd;clear hd
 go_enter Tryz.func80,Tryz.ntmps80
 go_wp2_with (first
  | (go_at_call 23;refine (nO b B _ Q.out.x).mono ?_;rintro e w1 ⟨rfl,G⟩;have O:Hid (∀o,Duo (w1.alloc o) J P B D tk b d):=(fun o=>(Q.out.later G).later (cw w1 o));have c1:=(O.out (.cells #[.int .i64 b.st.clock,.int .i64 b.st.next,.int .i64 b.st.slots.length,.int .i64 b.st.ends.length,.string b.st.tab] 36)).p.c1;have aa:P<w1.heap.size:=Nat.lt_of_lt_of_le Y G.size)
  | (go_at_call 118;refine (o9 b d D tk _ Q.out.rel (O.out _).y).mono ?_;rintro e V ⟨rfl,I⟩;obtain⟨ac,ab⟩:=dT I;have U:w1.heap.size<V.heap.size:=(by have:=I.size;simp at this;omega)))
 go_ret
 exact⟨rfl,((G.alloc G.size _).trans (I.mono (by simp;exact Nat.le_succ_of_le G.size))).alloc (Nat.le_trans G.size (Nat.le_of_lt U)) _⟩
set_option maxHeartbeats 1000000 in
theorem jZ (w:World) (I P B D:Nat) (tk:Value) (b:Px.Bo) (d:Bx.Bo) (hd:Duo w I P B D tk b d):
 Calls Tryz.prog 81 #[.pointer (some ⟨P,0,none⟩)] w fun e J=>e=.returned (.bool true)∧J=w:=by
 have c0:=hd.p.c0;have c1:=hd.p.c1;have Q:=hd.p.ty.lt;have G:=Hq hd;clear hd
 go_enter Tryz.func81,Tryz.ntmps81
 go_wp2_with (first
  | (go_at_call 8;refine (kg b B _ G.out.x).mono ?_;rintro e w1 ⟨rfl,rfl⟩)
  | (go_at_call 71;refine (j9 b d D tk _ G.out.rel G.out.y).mono ?_;rintro e O ⟨rfl,rfl⟩))
 go_ret
 exact⟨rfl,rfl⟩
set_option maxHeartbeats 1000000 in
theorem iJ (w:World) (G P B D:Nat) (tk:Value) (b:Px.Bo) (d:Bx.Bo) (hd:Duo w G P B D tk b d):
 Calls Tryz.prog 41 #[.pointer (some ⟨P,0,none⟩)] w fun e w'=>e=.returned (.bool true)∧Below w.heap.size w w':=by
 have HD:=Hq hd;clear hd
 go_enter Tryz.func41,Tryz.ntmps41
 go_wp2_with fail;refine (jH _ G P B D tk b d HD.out).mono ?_;rintro e w1 ⟨rfl,O⟩;have aa:=Hq (HD.out.later O);have V:=Hq O;clear O;go_wp2_with fail;refine (jZ _ G P B D tk b d aa.out).mono ?_;rintro e Y ⟨rfl,rfl⟩;go_wp2_with fail
 go_loopw [5] (fun i wr=>∃k:Nat,k≤10∧i=.int .i64 ((k:Int)-1)∧Below Y.heap.size Y wr) (fun i _=>(9-intOf i).toNat)
 case atStart=>exact⟨0,by omega,rfl,Below.refl _ _⟩
 case round=>
  obtain⟨k,hk,rfl,I⟩:=hrel;have Q:=Hq (aa.out.later I)
  by_cases h8:(k:Int)-1≤8
  ·go_wp2_with fail;refine (jI _ G P B D tk b d _ Q.out).mono ?_;rintro e w2 ⟨rfl,J⟩;have ad:=Hq (Q.out.later J);have U:=Hq (I.trans (J.mono I.size));clear J I;go_wp2_with fail;refine (jY _ G P B D tk b d _ ad.out).mono ?_;rintro e w3 ⟨rfl,Z⟩;have ab:=Hq (U.out.trans (Z.mono U.out.size));clear Z;go_wp2_with fail;go_roundw
   case rel=>exact⟨k+1,by omega,by go_num,ab.out⟩
   case measure=>simp[intOf];omega
  ·go_wp2_with fail;go_ret;exact⟨rfl,V.out.trans (I.mono V.out.size)⟩
end Go.Proofs.YtdajolpoiffimabGreatDoor

namespace Go.Proofs.YtdajolpoiffimabGreatDoor
open Go.RowKit
set_option maxHeartbeats 1000000 in
theorem iB (w:World) (I P B D:Nat) (tk:Value) (b:Px.Bo) (d:Bx.Bo) (m:Int) (hT:TabLH w) (hM:Tab w) (hd:Duo w I P B D tk b d):
 Calls Tryz.prog 74 #[.pointer (some ⟨P,0,none⟩),.int .i64 m] w fun e w'=>e=.returned (.bool true)∧Did w w' I P B D tk (Px.tickB b m).1 (tickP d m).1:=by
 have c0:=hd.p.c0;have hP:=hd.p.ty.lt;have G:=Hq hd;have HT:=Hq hT;have HM:=Hq hM;clear hd hT hM
 go_enter Tryz.func74,Tryz.ntmps74
 go_wp2_with fail;refine (oV b B m _ G.out.rel.ok G.out.logsz HT.out HM.out G.out.x).mono ?_;rintro e w1 ⟨rfl,hx,Z⟩;obtain⟨O,Q,_⟩:=G.out.prg Z;have HX:=Hq hx;have HG:=Hq Z;have HY:=Hq Q;have c1:=O.c1;have ao:=O.ty.lt;have HR:Hid (∃x r,(Px.tickB b m).2=(x,r)):=⟨_,_,rfl⟩;obtain⟨x,r,J⟩:=HR.out;have ab:=Hq J;rw[J];clear hx Z O Q c0 HR J;go_wp2_with fail;refine (pm b d D tk m _ G.out.rel HY.out).mono ?_;rw[ab.out];rintro e w2 ⟨rfl,⟨ap,Y,V⟩,U⟩;have HF:Hid (Did w w2 I P B D tk (Px.tickB b m).1 (tickP d m).1):=Did.of G.out HG.out HX.out Y V U (Px.tick_rel G.out.rel m).2 (pz b m);clear c1 Y V U;go_wp2_with ((go_at_call 70;refine (ey _ _).mono ?_;rintro e w3 ⟨rfl,rfl⟩));go_ret;exact⟨rfl,HF.out⟩
theorem TwoBy.cell {w d:World} {D g o:Nat} {r:Option Nat} {v:Value} (h:TwoBy w d D r) (G:w.cell? ⟨g,o,none⟩=some v) (h1:¬g=D) (h2:¬r=some g):d.cell? ⟨g,o,none⟩=some v:=by
 have I:g<w.heap.size:=World.block_lt_of_cell? _ _ G;rw[World.cell?_of_block (a:=⟨g,o,none⟩) (h.block g I h1 (fun e=>h2 e.symm))];exact G
theorem Duo.apart {w:World} {G P B D g:Nat} {tk:Value} {b:Px.Bo} {d:Bx.Bo} {e:TypeId} (h:Duo w G P B D tk b d) (J:Typed w g e) (h1:e≠79) (h2:e≠173) (I:e≠220):¬g=B∧¬g=D∧¬tk.ownBlock=some g:=
 ⟨fun q=>h.ft e h1 h2 I g (Or.inl q) J,fun q=>h.ft e h1 h2 I g (Or.inr (Or.inl q)) J,fun q=>h.ft e h1 h2 I g (Or.inr (Or.inr q)) J⟩
abbrev opV (k n:Int) (s:ByteArray):Value:=.agg #[.int .i64 k,.int .i64 n,.string s]
abbrev opO (k n:Int) (s:ByteArray):Obj:=.cells #[.int .i64 k,.int .i64 n,.string s] 99
structure OpIn (w:World) (q:Nat) (k n:Int) (s:ByteArray):Prop where
 c0:w.cell? ⟨q,0,none⟩=some (.int .i64 k)
 c1:w.cell? ⟨q,1,none⟩=some (.int .i64 n)
 c2:w.cell? ⟨q,2,none⟩=some (.string s)
 ty:Typed w q 99
theorem OpIn.new (w:World) (k n:Int) (s:ByteArray):OpIn (w.alloc (opO k n s)) w.heap.size k n s:=⟨by simp[go_sem],by simp[go_sem],by simp[go_sem],Typed.new _ _ _⟩
set_option maxHeartbeats 2000000 in
theorem jP (w:World) (I P B D:Nat) (tk:Value) (b:Px.Bo) (d:Bx.Bo) (k n:Int) (s:ByteArray) (hk:k=4) (hT:TabLH w) (hd:Duo w I P B D tk b d):
 Calls Tryz.prog 76 #[.pointer (some ⟨P,0,none⟩),opV k n s] w fun e Q=>e=.returned (.bool true)∧Did w Q I P B D tk (Px.startB b n).1 (startP d n).1:=by
 subst hk;have U:=cw w (opO 4 n s);have G:=hd.later U;have al:=hT.later U;have ho:=OpIn.new w 4 n s;clear hd hT
 go_enter Tryz.func76,Tryz.ntmps76
 go_upto_region 1 with fail;generalize w.alloc (opO 4 n s)=W at *;generalize af:w.heap.size=J at *;have az:=Hq af;clear af;have av:=Hq U;have HD:=Hq G;have Z:Hid (Duo W.drew I P B D tk b d):=G.later (Below.refl _ _).drew;have ax:Hid (TabLH W.drew):=al.later (Below.refl _ _).drew;have hP:=G.p.ty.lt;have c0:=G.p.c0;have c1:=G.p.c1;obtain⟨ai,ao,am⟩:=G.apart G.p.ty (by decide) (by decide) (by decide)
 obtain⟨ah,aj,ap⟩:=G.apart ho.ty (by decide) (by decide) (by decide)
 have hO:=ho.ty.lt;obtain⟨o0,o1,o2,_⟩:=ho;have V:Hid (¬P=D∧¬tk.ownBlock=some P∧¬J=D∧¬tk.ownBlock=some J):=⟨ao,am,aj,ap⟩;have aw:Hid (some P≠some B):=fun e=>ai (by simpa using e)
 have ac:Hid (some J≠some B):=fun e=>ah (by simpa using e)
 clear U G al ai ao am ah aj ap;go_wp2_with fail
 go_region_held3 (fun Q=>Q.cell? ⟨P,0,none⟩=some (.pointer (some ⟨B,0,none⟩))∧Q.cell? ⟨J,1,none⟩=some (.int .i64 n))
  (first |exact⟨O.cell c0 aw.out,O.cell o1 ac.out⟩|exact⟨c0,o1⟩)
  ((go_at_call 25;refine (m5 b B n _ HD.out.rel.ok HD.out.logsz ax.out Z.out.x).mono ?_;rintro e w1 ⟨rfl,hx,O⟩))
 obtain⟨ab,ag,_⟩:=Z.out.prg O;have HX:=Hq hx;have HG:=Hq O;have HY:Hid (∃sl en,BoxIn w1.drew D d sl en tk):=(by obtain⟨sl,en,h⟩:=ag;exact⟨sl,en,h.later (Below.refl _ _).drew⟩)
 clear c0 c1;have c1:=ab.c1;have aJ:=ab.ty.lt;have p1:w1.cell? ⟨J,1,none⟩=some (.int .i64 n):=O.cell o1 ac.out;have p2:w1.cell? ⟨J,2,none⟩=some (.string s):=O.cell o2 ac.out;have aK:J<w1.heap.size:=World.block_lt_of_cell? _ _ p1;have HR:Hid (∃x r,(Px.startB b n).2=(x,r)):=⟨_,_,rfl⟩;obtain⟨x,r,aa⟩:=HR.out;have ay:=Hq aa;rw[aa];clear hx O ab ag HR aa o0 o1 o2;go_wp2_with fail
 go_region_held3 (fun Q=>Q.cell? ⟨P,1,none⟩=some (.pointer (some ⟨D,0,none⟩))∧Q.cell? ⟨J,1,none⟩=some (.int .i64 n))
  (first |exact⟨Y.cell c1 V.out.1 V.out.2.1,Y.cell p1 V.out.2.2.1 V.out.2.2.2⟩|exact⟨c1,p1⟩)
  ((go_at_call 112;refine (mJ b d D tk n _ HD.out.rel HY.out).mono ?_;rw[ay.out];rintro e w2 ⟨rfl,⟨aL,aq,ak⟩,Y⟩))
 have HF:Hid (Did w w2 I P B D tk (Px.startB b n).1 (startP d n).1):=by
  refine Did.ahead (w1:=W.drew) ?_ (by rw[az.out];exact av.out.drew)
  exact Did.of Z.out (dz HG.out (dx (Below.refl _ _).drew _)) (by obtain⟨sl,en,h⟩:=HX.out;exact⟨sl,en,h.later (Below.refl _ _).drew⟩) aq ak Y (Px.start_rel HD.out.rel n).2 (nA b n)
 clear c1 aq ak Y p1 p2;go_wp2_with ((go_at_call 70;refine (ey _ _).mono ?_;rintro e w3 ⟨rfl,rfl⟩));go_ret;exact⟨rfl,HF.out⟩
set_option maxHeartbeats 2000000 in
theorem kz (w:World) (O P B D:Nat) (tk:Value) (b:Px.Bo) (d:Bx.Bo) (k n:Int) (s:ByteArray) (N:Nat) (hN:N≤100000000000000000) (ax:Hid (Px.HMax d N)) (hs:s.size≤maxLen) (hk:¬k=4) (hT:TabLH w) (hd:Duo w O P B D tk b d):
 Calls Tryz.prog 76 #[.pointer (some ⟨P,0,none⟩),opV k n s] w fun e Q=>e=.returned (.bool true)∧Did w Q O P B D tk (Px.feedB b n s).1 (feedP d n s).1:=by
 have Y:=cw w (opO k n s);have G:=hd.later Y;have al:=hT.later Y;have ho:=OpIn.new w k n s;clear hd hT
 go_enter Tryz.func76,Tryz.ntmps76
 go_upto_region 1 with fail;generalize w.alloc (opO k n s)=W at *;generalize af:w.heap.size=I at *;have aB:=Hq af;clear af;have aw:=Hq Y;have HD:=Hq G;have aa:Hid (Duo W.drew O P B D tk b d):=G.later (Below.refl _ _).drew;have az:Hid (TabLH W.drew):=al.later (Below.refl _ _).drew;have hP:=G.p.ty.lt;have c0:=G.p.c0;have c1:=G.p.c1;obtain⟨ai,ao,am⟩:=G.apart G.p.ty (by decide) (by decide) (by decide)
 obtain⟨ah,aj,ap⟩:=G.apart ho.ty (by decide) (by decide) (by decide)
 have hO:=ho.ty.lt;obtain⟨o0,o1,o2,_⟩:=ho;have J:Hid (¬P=D∧¬tk.ownBlock=some P∧¬I=D∧¬tk.ownBlock=some I):=⟨ao,am,aj,ap⟩;have ay:Hid (some P≠some B):=fun e=>ai (by simpa using e)
 have Z:Hid (some I≠some B):=fun e=>ah (by simpa using e)
 clear Y G al ai ao am ah aj ap;go_wp2_with fail
 go_region_held3 (fun Q=>Q.cell? ⟨P,0,none⟩=some (.pointer (some ⟨B,0,none⟩))∧Q.cell? ⟨I,1,none⟩=some (.int .i64 n)∧Q.cell? ⟨I,2,none⟩=some (.string s))
  (first |exact⟨V.cell c0 ay.out,V.cell o1 Z.out,V.cell o2 Z.out⟩|exact⟨c0,o1,o2⟩)
  ((go_at_call 28;refine (nd b B n s _ HD.out.rel.ok HD.out.logsz az.out aa.out.x).mono ?_;rintro e w1 ⟨rfl,hx,V⟩))
 obtain⟨ac,ag,_⟩:=aa.out.prg V;have HX:=Hq hx;have HG:=Hq V;have HY:Hid (∃sl en,BoxIn w1.drew D d sl en tk):=(by obtain⟨sl,en,h⟩:=ag;exact⟨sl,en,h.later (Below.refl _ _).drew⟩)
 clear c0 c1;have c1:=ac.c1;have aL:=ac.ty.lt;have p1:w1.cell? ⟨I,1,none⟩=some (.int .i64 n):=V.cell o1 Z.out;have p2:w1.cell? ⟨I,2,none⟩=some (.string s):=V.cell o2 Z.out;have aM:I<w1.heap.size:=World.block_lt_of_cell? _ _ p1;have HR:Hid (∃x r,(Px.feedB b n s).2=(x,r)):=⟨_,_,rfl⟩;obtain⟨x,r,ab⟩:=HR.out;have aA:=Hq ab;rw[ab];clear hx V ac ag HR ab o0 o1 o2;go_wp2_with fail
 go_region_held3 (fun Q=>Q.cell? ⟨P,1,none⟩=some (.pointer (some ⟨D,0,none⟩))∧Q.cell? ⟨I,1,none⟩=some (.int .i64 n)∧Q.cell? ⟨I,2,none⟩=some (.string s))
  (first |exact⟨U.cell c1 J.out.1 J.out.2.1,U.cell p1 J.out.2.2.1 J.out.2.2.2,U.cell p2 J.out.2.2.1 J.out.2.2.2⟩|exact⟨c1,p1,p2⟩)
  ((go_at_call 113;refine (oS b d D tk n s _ N hN ax.out hs HD.out.rel HY.out).mono ?_;rw[aA.out];rintro e w2 ⟨rfl,⟨aN,aq,ak⟩,U⟩))
 have HF:Hid (Did w w2 O P B D tk (Px.feedB b n s).1 (feedP d n s).1):=by
  refine Did.ahead (w1:=W.drew) ?_ (by rw[aB.out];exact aw.out.drew)
  exact Did.of aa.out (dz HG.out (dx (Below.refl _ _).drew _)) (by obtain⟨sl,en,h⟩:=HX.out;exact⟨sl,en,h.later (Below.refl _ _).drew⟩) aq ak U (Px.feed_rel HD.out.rel n s).2 (p5 b n s)
 clear c1 aq ak U p1 p2;go_wp2_with ((go_at_call 70;refine (ey _ _).mono ?_;rintro e w3 ⟨rfl,rfl⟩));go_ret;exact⟨rfl,HF.out⟩
end Go.Proofs.YtdajolpoiffimabGreatDoor

namespace Go.Proofs.YtdajolpoiffimabGreatDoor
open Go.RowKit
theorem sX (w:World) (G P B D:Nat) (tk:Value) (b:Px.Bo) (d:Bx.Bo) (hd:Duo w G P B D tk b d):Calls Tryz.prog 81 #[.pointer (some ⟨P,0,none⟩)] w fun e I=>e=.returned (.bool true)∧Below w.heap.size w I:=
 (jZ w G P B D tk b d hd).mono fun e I h=>⟨h.1,by rw[h.2];exact Below.refl _ _⟩
set_option maxHeartbeats 1000000 in
theorem rS (w:World) (I P B D:Nat) (tk:Value) (b:Px.Bo) (d:Bx.Bo) (k n:Int) (s:ByteArray) (hk:k=8) (hd:Duo w I P B D tk b d):
 Calls Tryz.prog 79 #[.pointer (some ⟨P,0,none⟩),opV k n s] w fun e w'=>e=.returned (.bool true)∧Below w.heap.size w w':=by
 subst hk;have G:=cw w (opO 8 n s);have U:=hd.later G;have ho:=OpIn.new w 8 n s;clear hd
 go_enter Tryz.func79,Tryz.ntmps79
 go_upto_region 1 with fail;generalize w.alloc (opO 8 n s)=W at *;generalize J:w.heap.size=oq at *;have V:=Hq J;clear J;have Q:=Hq G;have Z:=Hq U;obtain⟨o0,o1,o2,Y⟩:=ho;have hO:=Y.lt;clear G U;go_wp2_with fail;refine (jH _ I P B D tk b d Z.out).mono ?_;rintro e w1 ⟨rfl,O⟩
 have HF:Hid (Below w.heap.size w w1):=by
  have h1:=Q.out.trans (O.mono (by have:=Q.out.size;rw[V.out] at this;exact this))
  rw[V.out];exact h1
 clear O o0 o1 o2;go_wp2_with fail;go_ret;exact⟨rfl,HF.out⟩
set_option maxHeartbeats 1000000 in
theorem rk (w:World) (I P B D:Nat) (tk:Value) (b:Px.Bo) (d:Bx.Bo) (k n:Int) (s:ByteArray) (hk:k=9) (hd:Duo w I P B D tk b d):
 Calls Tryz.prog 79 #[.pointer (some ⟨P,0,none⟩),opV k n s] w fun e w'=>e=.returned (.bool true)∧Below w.heap.size w w':=by
 subst hk;have G:=cw w (opO 9 n s);have U:=hd.later G;have ho:=OpIn.new w 9 n s;clear hd
 go_enter Tryz.func79,Tryz.ntmps79
 go_upto_region 1 with fail;generalize w.alloc (opO 9 n s)=W at *;generalize J:w.heap.size=oq at *;have V:=Hq J;clear J;have Q:=Hq G;have Z:=Hq U;obtain⟨o0,o1,o2,Y⟩:=ho;have hO:=Y.lt;clear G U;go_wp2_with fail;refine (jI _ I P B D tk b d _ Z.out).mono ?_;rintro e w1 ⟨rfl,O⟩
 have HF:Hid (Below w.heap.size w w1):=by
  have h1:=Q.out.trans (O.mono (by have:=Q.out.size;rw[V.out] at this;exact this))
  rw[V.out];exact h1
 clear O o0 o1 o2;go_wp2_with fail;go_ret;exact⟨rfl,HF.out⟩
set_option maxHeartbeats 1000000 in
theorem pI (w:World) (I P B D:Nat) (tk:Value) (b:Px.Bo) (d:Bx.Bo) (k n:Int) (s:ByteArray) (hk:k=10) (hd:Duo w I P B D tk b d):
 Calls Tryz.prog 79 #[.pointer (some ⟨P,0,none⟩),opV k n s] w fun e w'=>e=.returned (.bool true)∧Below w.heap.size w w':=by
 subst hk;have G:=cw w (opO 10 n s);have U:=hd.later G;have ho:=OpIn.new w 10 n s;clear hd
 go_enter Tryz.func79,Tryz.ntmps79
 go_upto_region 1 with fail;generalize w.alloc (opO 10 n s)=W at *;generalize J:w.heap.size=oq at *;have V:=Hq J;clear J;have Q:=Hq G;have Z:=Hq U;obtain⟨o0,o1,o2,Y⟩:=ho;have hO:=Y.lt;clear G U;go_wp2_with fail;refine (jY _ I P B D tk b d _ Z.out).mono ?_;rintro e w1 ⟨rfl,O⟩
 have HF:Hid (Below w.heap.size w w1):=by
  have h1:=Q.out.trans (O.mono (by have:=Q.out.size;rw[V.out] at this;exact this))
  rw[V.out];exact h1
 clear O o0 o1 o2;go_wp2_with fail;go_ret;exact⟨rfl,HF.out⟩
set_option maxHeartbeats 1000000 in
theorem pG (w:World) (I P B D:Nat) (tk:Value) (b:Px.Bo) (d:Bx.Bo) (k n:Int) (s:ByteArray) (hk:k=11) (hd:Duo w I P B D tk b d):
 Calls Tryz.prog 79 #[.pointer (some ⟨P,0,none⟩),opV k n s] w fun e w'=>e=.returned (.bool true)∧Below w.heap.size w w':=by
 subst hk;have G:=cw w (opO 11 n s);have U:=hd.later G;have ho:=OpIn.new w 11 n s;clear hd
 go_enter Tryz.func79,Tryz.ntmps79
 go_upto_region 1 with fail;generalize w.alloc (opO 11 n s)=W at *;generalize J:w.heap.size=oq at *;have V:=Hq J;clear J;have Q:=Hq G;have Z:=Hq U;obtain⟨o0,o1,o2,Y⟩:=ho;have hO:=Y.lt;clear G U;go_wp2_with fail;refine (sX _ I P B D tk b d Z.out).mono ?_;rintro e w1 ⟨rfl,O⟩
 have HF:Hid (Below w.heap.size w w1):=by
  have h1:=Q.out.trans (O.mono (by have:=Q.out.size;rw[V.out] at this;exact this))
  rw[V.out];exact h1
 clear O o0 o1 o2;go_wp2_with fail;go_ret;exact⟨rfl,HF.out⟩
set_option maxHeartbeats 1000000 in
theorem pB (w:World) (I P B D:Nat) (tk:Value) (b:Px.Bo) (d:Bx.Bo) (k n:Int) (s:ByteArray) (h8:¬k=8) (h9:¬k=9) (ae:¬k=10) (ad:¬k=11) (hd:Duo w I P B D tk b d):
 Calls Tryz.prog 79 #[.pointer (some ⟨P,0,none⟩),opV k n s] w fun e w'=>e=.returned (.bool true)∧Below w.heap.size w w':=by
 have G:=cw w (opO k n s);have U:=hd.later G;have ho:=OpIn.new w k n s;clear hd
 go_enter Tryz.func79,Tryz.ntmps79
 go_upto_region 1 with fail;generalize w.alloc (opO k n s)=W at *;generalize J:w.heap.size=oq at *;have V:=Hq J;clear J;have Q:=Hq G;have Z:=Hq U;obtain⟨o0,o1,o2,Y⟩:=ho;have hO:=Y.lt;clear G U;go_wp2_with fail;refine (iJ _ I P B D tk b d Z.out).mono ?_;rintro e w1 ⟨rfl,O⟩
 have HF:Hid (Below w.heap.size w w1):=by
  have h1:=Q.out.trans (O.mono (by have:=Q.out.size;rw[V.out] at this;exact this))
  rw[V.out];exact h1
 clear O o0 o1 o2;go_wp2_with fail;go_ret;exact⟨rfl,HF.out⟩
theorem mG (w:World) (G P B D:Nat) (tk:Value) (b:Px.Bo) (d:Bx.Bo) (k n:Int) (s:ByteArray) (hd:Duo w G P B D tk b d):
 Calls Tryz.prog 79 #[.pointer (some ⟨P,0,none⟩),opV k n s] w fun e U=>e=.returned (.bool true)∧Below w.heap.size w U:=by
 by_cases Q:k=8
 ·exact rS w G P B D tk b d k n s Q hd
 by_cases O:k=9
 ·exact rk w G P B D tk b d k n s O hd
 by_cases J:k=10
 ·exact pI w G P B D tk b d k n s J hd
 by_cases I:k=11
 ·exact pG w G P B D tk b d k n s I hd
 exact pB w G P B D tk b d k n s Q O J I hd
set_option maxHeartbeats 1000000 in
theorem ti (w:World) (G P B D:Nat) (tk:Value) (b:Px.Bo) (d:Bx.Bo) (k n:Int) (s:ByteArray) (N:Nat) (_hN:N≤100000000000000000) (hm:Px.HMax d N) (hs:s.size≤maxLen) (hT:TabLH w) (hM:Tab w) (hk:k=2) (hd:Duo w G P B D tk b d):
 Calls Tryz.prog 40 #[.pointer (some ⟨P,0,none⟩),opV k n s] w fun e w'=>e=.returned (.bool true)∧∃Z J,Did w w' G P B D tk Z J∧Px.HMax J N:=by
 subst hk;have ab:=Hq hm;have HS:=Hq hs;have I:=cw w (opO 2 n s);have Y:=hd.later I;have HT:Hid (∀o,TabLH (w.alloc o)):=fun o=>hT.later (cw w o)
 have HM:Hid (∀o,Tab (w.alloc o)):=fun o=>hM.later (cw w o)
 have Q:=HT.out (opO 2 n s);have U:=HM.out (opO 2 n s);clear HT HM hT hM hm hs;have ho:=OpIn.new w 2 n s;clear hd
 go_enter Tryz.func40,Tryz.ntmps40
 go_upto_region 1 with fail;generalize w.alloc (opO 2 n s)=W at *;generalize O:w.heap.size=oq at *;have ad:=Hq O;clear O;have aa:=Hq I;have HD:=Hq Y;obtain⟨o0,o1,o2,ac⟩:=ho;have hO:=ac.lt;clear I Y;have ak:=Hq Q;have ae:=Hq U;clear Q U;go_wp2_with fail;refine (iB _ G P B D tk b d _ ak.out ae.out HD.out).mono ?_;rintro e w1 ⟨rfl,V⟩;have HF:Hid (∃Z J,Did w w1 G P B D tk Z J∧Px.HMax J N):=⟨_,_,V.ahead (by rw[ad.out];exact aa.out),ab.out.tick _⟩
 clear V o0 o1 o2;go_wp2_with fail;go_ret;exact⟨rfl,HF.out⟩
set_option maxHeartbeats 1000000 in
theorem th (w:World) (G P B D:Nat) (tk:Value) (b:Px.Bo) (d:Bx.Bo) (k n:Int) (s:ByteArray) (N:Nat) (_hN:N≤100000000000000000) (hm:Px.HMax d N) (hs:s.size≤maxLen) (hT:TabLH w) (hM:Tab w) (hk:k=4) (hd:Duo w G P B D tk b d):
 Calls Tryz.prog 40 #[.pointer (some ⟨P,0,none⟩),opV k n s] w fun e w'=>e=.returned (.bool true)∧∃Z J,Did w w' G P B D tk Z J∧Px.HMax J N:=by
 subst hk;have ab:=Hq hm;have HS:=Hq hs;have I:=cw w (opO 4 n s);have Y:=hd.later I;have HT:Hid (∀o,TabLH (w.alloc o)):=fun o=>hT.later (cw w o)
 have HM:Hid (∀o,Tab (w.alloc o)):=fun o=>hM.later (cw w o)
 have Q:=HT.out (opO 4 n s);have U:=HM.out (opO 4 n s);clear HT HM hT hM hm hs;have ho:=OpIn.new w 4 n s;clear hd
 go_enter Tryz.func40,Tryz.ntmps40
 go_upto_region 1 with fail;generalize w.alloc (opO 4 n s)=W at *;generalize O:w.heap.size=oq at *;have ad:=Hq O;clear O;have aa:=Hq I;have HD:=Hq Y;obtain⟨o0,o1,o2,ac⟩:=ho;have hO:=ac.lt;clear I Y;have aj:=Hq Q;have aq:=Hq U;clear Q U;go_wp2_with fail;refine (jP _ G P B D tk b d 4 n s rfl aj.out HD.out).mono ?_;rintro e w1 ⟨rfl,V⟩;have HF:Hid (∃Z J,Did w w1 G P B D tk Z J∧Px.HMax J N):=⟨_,_,V.ahead (by rw[ad.out];exact aa.out),ab.out.start _⟩
 clear V o0 o1 o2;go_wp2_with fail;go_ret;exact⟨rfl,HF.out⟩
set_option maxHeartbeats 1000000 in
theorem te (w:World) (G P B D:Nat) (tk:Value) (b:Px.Bo) (d:Bx.Bo) (k n:Int) (s:ByteArray) (N:Nat) (hN:N≤100000000000000000) (hm:Px.HMax d N) (hs:s.size≤maxLen) (hT:TabLH w) (hM:Tab w) (hk:k=5) (hd:Duo w G P B D tk b d):
 Calls Tryz.prog 40 #[.pointer (some ⟨P,0,none⟩),opV k n s] w fun e w'=>e=.returned (.bool true)∧∃b' J,Did w w' G P B D tk b' J∧Px.HMax J (N+40):=by
 subst hk;have Q:=Hq hm;have HS:=Hq hs;have I:=cw w (opO 5 n s);have Z:=hd.later I;have HT:Hid (∀o,TabLH (w.alloc o)):=fun o=>hT.later (cw w o)
 have HM:Hid (∀o,Tab (w.alloc o)):=fun o=>hM.later (cw w o)
 have U:=HT.out (opO 5 n s);have V:=HM.out (opO 5 n s);clear HT HM hT hM hm hs;have ho:=OpIn.new w 5 n s;clear hd
 go_enter Tryz.func40,Tryz.ntmps40
 go_upto_region 1 with fail;generalize w.alloc (opO 5 n s)=W at *;generalize O:w.heap.size=oq at *;have ad:=Hq O;clear O;have ab:=Hq I;have HD:=Hq Z;obtain⟨o0,o1,o2,ac⟩:=ho;have hO:=ac.lt;clear I Z;have aj:=Hq U;have au:=Hq V;clear U V;go_wp2_with fail;refine (kz _ G P B D tk b d 5 n s N hN Q HS.out (by decide) aj.out HD.out).mono ?_
 rintro e w1 ⟨rfl,Y⟩;have HF:Hid (∃b' J,Did w w1 G P B D tk b' J∧Px.HMax J (N+40)):=⟨_,_,Y.ahead (by rw[ad.out];exact ab.out),Q.out.feed _ _⟩
 clear Y o0 o1 o2;go_wp2_with fail;go_ret;exact⟨rfl,HF.out⟩
set_option maxHeartbeats 1000000 in
theorem sJ (w:World) (G P B D:Nat) (tk:Value) (b:Px.Bo) (d:Bx.Bo) (k n:Int) (s:ByteArray) (N:Nat) (_hN:N≤100000000000000000) (hm:Px.HMax d N) (hs:s.size≤maxLen) (hT:TabLH w) (hM:Tab w) (h1:8≤k) (h2:k≤12) (hd:Duo w G P B D tk b d):
 Calls Tryz.prog 40 #[.pointer (some ⟨P,0,none⟩),opV k n s] w fun e w'=>e=.returned (.bool true)∧∃O I,Did w w' G P B D tk O I∧Px.HMax I N:=by
 have ac:=Hq hm;have HS:=Hq hs;have J:=cw w (opO k n s);have Z:=hd.later J;have HT:Hid (∀o,TabLH (w.alloc o)):=fun o=>hT.later (cw w o)
 have HM:Hid (∀o,Tab (w.alloc o)):=fun o=>hM.later (cw w o)
 have V:=HT.out (opO k n s);have Y:=HM.out (opO k n s);clear HT HM hT hM hm hs;have ho:=OpIn.new w k n s;clear hd
 go_enter Tryz.func40,Tryz.ntmps40
 go_upto_region 1 with fail;generalize w.alloc (opO k n s)=W at *;generalize Q:w.heap.size=oq at *;have ag:=Hq Q;clear Q;have ab:=Hq J;have HD:=Hq Z;obtain⟨o0,o1,o2,ad⟩:=ho;have hO:=ad.lt;clear J Z;have av:=Hq V;have au:=Hq Y;clear V Y;have aj:¬k=1∧¬k=2∧¬k=3∧¬k=4∧¬k=5∧¬k=6∧¬k=7:=by omega
 obtain⟨n1,n2,n3,n4,n5,n6,n7⟩:=aj;have af:k=8∨k=9∨k=10∨k=11∨k=12:=by omega
 have am:Hid (Calls Tryz.prog 79 #[.pointer (some ⟨P,0,none⟩),opV k n s] W fun e w'=>e=.returned (.bool true)∧Below W.heap.size W w'):=mG W G P B D tk b d k n s HD.out
 have HF:Hid (∀w1,Below W.heap.size W w1→∃O I,Did w w1 G P B D tk O I∧Px.HMax I N):=fun w1 hb=>⟨b,d,((Did.same HD.out).later hb).ahead (by rw[ag.out];exact ab.out),ac.out⟩
 rcases af with rfl|rfl|rfl|rfl|rfl
 all_goals
  go_wp2_with fail;refine am.out.mono ?_;rintro e w1 ⟨rfl,U⟩;have ap:Hid (∃O I,Did w w1 G P B D tk O I∧Px.HMax I N):=HF.out w1 U;clear U o0 o1 o2;go_wp2_with fail;go_ret;exact⟨rfl,ap.out⟩
set_option maxHeartbeats 1000000 in
theorem sW (w:World) (G P B D:Nat) (tk:Value) (b:Px.Bo) (d:Bx.Bo) (k n:Int) (s:ByteArray) (N:Nat) (_hN:N≤100000000000000000) (hm:Px.HMax d N) (hs:s.size≤maxLen) (hT:TabLH w) (hM:Tab w) (h1:k<1∨12<k) (hd:Duo w G P B D tk b d):
 Calls Tryz.prog 40 #[.pointer (some ⟨P,0,none⟩),opV k n s] w fun e w'=>e=.returned (.bool true)∧∃Y J,Did w w' G P B D tk Y J∧Px.HMax J N:=by
 have aa:=Hq hm;have HS:=Hq hs;have I:=cw w (opO k n s);have V:=hd.later I;have HT:Hid (∀o,TabLH (w.alloc o)):=fun o=>hT.later (cw w o)
 have HM:Hid (∀o,Tab (w.alloc o)):=fun o=>hM.later (cw w o)
 have Q:=HT.out (opO k n s);have U:=HM.out (opO k n s);clear HT HM hT hM hm hs;have ho:=OpIn.new w k n s;clear hd
 go_enter Tryz.func40,Tryz.ntmps40
 go_upto_region 1 with fail;generalize w.alloc (opO k n s)=W at *;generalize O:w.heap.size=oq at *;have ac:=Hq O;clear O;have Z:=Hq I;have HD:=Hq V;obtain⟨o0,o1,o2,ab⟩:=ho;have hO:=ab.lt;clear I V;have ar:=Hq Q;have aq:=Hq U;clear Q U;have af:¬k=1∧¬k=2∧¬k=3∧¬k=4∧¬k=5∧¬k=6∧¬k=7∧¬k=8∧¬k=9∧¬k=10∧¬k=11∧¬k=12:=by omega
 obtain⟨n1,n2,n3,n4,n5,n6,n7,n8,n9,ao,n11,ap⟩:=af;have aj:Hid (∃Y J,Did w W G P B D tk Y J∧Px.HMax J N):=⟨b,d,(Did.same HD.out).ahead (by rw[ac.out];exact Z.out),aa.out⟩
 clear h1;go_wp2_with fail;go_ret;exact⟨rfl,aj.out⟩
end Go.Proofs.YtdajolpoiffimabGreatDoor

namespace Go.Proofs.YtdajolpoiffimabGreatDoor
open Go.RowKit
set_option maxHeartbeats 2000000 in
theorem ta (w:World) (I P B D:Nat) (tk:Value) (b:Px.Bo) (d:Bx.Bo) (k n:Int) (s:ByteArray) (N:Nat) (_hN:N≤100000000000000000) (hm:Px.HMax d N) (hs:s.size≤maxLen) (hT:TabLH w) (_hM:Tab w) (hk:k=1) (hd:Duo w I P B D tk b d):
 Calls Tryz.prog 40 #[.pointer (some ⟨P,0,none⟩),opV k n s] w fun e Q=>e=.returned (.bool true)∧∃Z J,Did w Q I P B D tk Z J∧Px.HMax J N:=by
 subst hk;have ay:=Hq hm;have HS:=Hq hs;have U:=cw w (opO 1 n s);have G:=hd.later U;have ak:=hT.later U;have ho:=OpIn.new w 1 n s;clear hd hT hm hs
 go_enter Tryz.func40,Tryz.ntmps40
 go_upto_region 1 with fail;generalize w.alloc (opO 1 n s)=W at *;generalize ae:w.heap.size=O at *;have aD:=Hq ae;clear ae;have ax:=Hq U;have HD:=Hq G;have ab:Hid (Duo W.drew I P B D tk b d):=G.later (Below.refl _ _).drew;have aC:Hid (TabLH W.drew):=ak.later (Below.refl _ _).drew;have hP:=G.p.ty.lt;have c0:=G.p.c0;have c1:=G.p.c1;obtain⟨ah,am,al⟩:=G.apart G.p.ty (by decide) (by decide) (by decide)
 obtain⟨ag,ai,ao⟩:=G.apart ho.ty (by decide) (by decide) (by decide)
 have hO:=ho.ty.lt;obtain⟨o0,o1,o2,_⟩:=ho;have Y:Hid (¬P=D∧¬tk.ownBlock=some P∧¬O=D∧¬tk.ownBlock=some O):=⟨am,al,ai,ao⟩;have az:Hid (some P≠some B):=fun e=>ah (by simpa using e)
 have ap:Hid (some O≠some B):=fun e=>ag (by simpa using e)
 clear U G ak ah am al ag ai ao;go_wp2_with fail
 go_region_held3 (fun Q=>Q.cell? ⟨P,0,none⟩=some (.pointer (some ⟨B,0,none⟩))∧Q.cell? ⟨O,2,none⟩=some (.string s))
  (first |exact⟨hg.cell c0 az.out,hg.cell o2 ap.out⟩|exact⟨c0,o2⟩)
  ((go_at_call 21;refine (nC b B s _ HD.out.rel.ok HD.out.logsz HS.out aC.out ab.out.x).mono ?_;rintro e w1 ⟨Z,a,r,rfl,hl,hx,hg⟩))
 obtain⟨ac,af,_⟩:=ab.out.prg hg;have HX:=Hq hx;have HL:=Hq hl;have HG:=Hq hg;have HY:Hid (∃sl en,BoxIn w1.drew D d sl en tk):=(by obtain⟨sl,en,h⟩:=af;exact⟨sl,en,h.later (Below.refl _ _).drew⟩)
 clear c0 c1;have c1:=ac.c1;have aN:=ac.ty.lt;have p2:w1.cell? ⟨O,2,none⟩=some (.string s):=hg.cell o2 ap.out;have aO:O<w1.heap.size:=World.block_lt_of_cell? _ _ p2;clear hx hg ac af hl o0 o1 o2;go_wp2_with fail
 go_region_held3 (fun Q=>Q.cell? ⟨P,1,none⟩=some (.pointer (some ⟨D,0,none⟩))∧Q.cell? ⟨O,2,none⟩=some (.string s))
  (first |exact⟨V.cell c1 Y.out.1 Y.out.2.1,V.cell p2 Y.out.2.2.1 Y.out.2.2.2⟩|exact⟨c1,p2⟩)
  ((go_at_call 73;refine (oE b Z d D tk s a r _ HS.out HL.out HD.out.rel HY.out).mono ?_;rintro e w2 ⟨rfl,⟨J,aP,aq,hR,ar,aj⟩,V⟩))
 have HF:Hid (∃Z J,Did w w2 I P B D tk Z J∧Px.HMax J N):=by
  refine⟨Z,J,Did.ahead (w1:=W.drew) ?_ (by rw[aD.out];exact ax.out.drew),ay.out.load aq⟩
  exact Did.of ab.out (dz HG.out (dx (Below.refl _ _).drew _)) (by obtain⟨sl,en,h⟩:=HX.out;exact⟨sl,en,h.later (Below.refl _ _).drew⟩) ar aj V hR (qk HL.out)
 clear c1 ar aj V p2 aq hR;go_wp2_with ((go_at_call 70;refine (ey _ _).mono ?_;rintro e w3 ⟨rfl,rfl⟩));go_ret;exact⟨rfl,HF.out⟩
set_option maxHeartbeats 2000000 in
theorem sZ (w:World) (I P B D:Nat) (tk:Value) (b:Px.Bo) (d:Bx.Bo) (k n:Int) (s:ByteArray) (N:Nat) (_hN:N≤100000000000000000) (hm:Px.HMax d N) (hs:s.size≤maxLen) (hT:TabLH w) (_hM:Tab w) (hk:k=6) (hd:Duo w I P B D tk b d):
 Calls Tryz.prog 40 #[.pointer (some ⟨P,0,none⟩),opV k n s] w fun e O=>e=.returned (.bool true)∧∃b' d',Did w O I P B D tk b' d'∧Px.HMax d' N:=by
 subst hk;have ay:=Hq hm;have HS:=Hq hs;have Q:=cw w (opO 6 n s);have G:=hd.later Q;have al:=hT.later Q;have ho:=OpIn.new w 6 n s;clear hd hT hm hs
 go_enter Tryz.func40,Tryz.ntmps40
 go_upto_region 1 with fail;generalize w.alloc (opO 6 n s)=W at *;generalize af:w.heap.size=J at *;have aB:=Hq af;clear af;have ax:=Hq Q;have HD:=Hq G;have Z:Hid (Duo W.drew I P B D tk b d):=G.later (Below.refl _ _).drew;have aL:Hid (TabLH W.drew):=al.later (Below.refl _ _).drew;have hP:=G.p.ty.lt;have c0:=G.p.c0;have c1:=G.p.c1;obtain⟨ai,ao,am⟩:=G.apart G.p.ty (by decide) (by decide) (by decide)
 obtain⟨ah,aj,ap⟩:=G.apart ho.ty (by decide) (by decide) (by decide)
 have hO:=ho.ty.lt;obtain⟨o0,o1,o2,_⟩:=ho;have V:Hid (¬P=D∧¬tk.ownBlock=some P∧¬J=D∧¬tk.ownBlock=some J):=⟨ao,am,aj,ap⟩;have az:Hid (some P≠some B):=fun e=>ai (by simpa using e)
 have aq:Hid (some J≠some B):=fun e=>ah (by simpa using e)
 clear Q G al ai ao am ah aj ap;go_wp2_with fail
 go_region_held3 (fun O=>O.cell? ⟨P,0,none⟩=some (.pointer (some ⟨B,0,none⟩))∧O.cell? ⟨J,1,none⟩=some (.int .i64 n))
  (first |exact⟨Y.cell c0 az.out,Y.cell o1 aq.out⟩|exact⟨c0,o1⟩)
  ((go_at_call 30;refine (lD b B n _ HD.out.rel.ok HD.out.logsz Z.out.x).mono ?_;rintro e w1 ⟨rfl,hx,Y⟩))
 obtain⟨ac,ag,_⟩:=Z.out.prg Y;have HX:=Hq hx;have HG:=Hq Y;have HY:Hid (∃sl en,BoxIn w1.drew D d sl en tk):=(by obtain⟨sl,en,h⟩:=ag;exact⟨sl,en,h.later (Below.refl _ _).drew⟩)
 clear c0 c1;have c1:=ac.c1;have aM:=ac.ty.lt;have p1:w1.cell? ⟨J,1,none⟩=some (.int .i64 n):=Y.cell o1 aq.out;have aN:J<w1.heap.size:=World.block_lt_of_cell? _ _ p1;have HR:Hid (∃r,(Px.cancelB b n).2=r):=⟨_,rfl⟩;obtain⟨r,ab⟩:=HR.out;have aA:=Hq ab;rw[ab];clear hx Y ac ag HR ab o0 o1 o2;go_wp2_with fail
 go_region_held3 (fun O=>O.cell? ⟨P,1,none⟩=some (.pointer (some ⟨D,0,none⟩))∧O.cell? ⟨J,1,none⟩=some (.int .i64 n))
  (first |exact⟨U.cell c1 V.out.1 V.out.2.1,U.cell p1 V.out.2.2.1 V.out.2.2.2⟩|exact⟨c1,p1⟩)
  ((go_at_call 77;refine (lB b d D tk n _ HD.out.rel HY.out).mono ?_;rw[aA.out];rintro e w2 ⟨rfl,⟨aO,ar,ak⟩,U⟩))
 have HF:Hid (∃b' d',Did w w2 I P B D tk b' d'∧Px.HMax d' N):=by
  refine⟨(Px.cancelB b n).1,(cancelP d n).1,Did.ahead (w1:=W.drew) ?_ (by rw[aB.out];exact ax.out.drew),ay.out.cancel n⟩
  exact Did.of Z.out (dz HG.out (dx (Below.refl _ _).drew _)) (by obtain⟨sl,en,h⟩:=HX.out;exact⟨sl,en,h.later (Below.refl _ _).drew⟩) ar ak U (Px.cancel_rel HD.out.rel n).2 (mN b n)
 clear c1 ar ak U p1;go_wp2_with ((go_at_call 70;refine (ey _ _).mono ?_;rintro e w3 ⟨rfl,rfl⟩));go_ret;exact⟨rfl,HF.out⟩
set_option maxHeartbeats 2000000 in
theorem sM (w:World) (J P B D:Nat) (tk:Value) (b:Px.Bo) (d:Bx.Bo) (k n:Int) (s:ByteArray) (N:Nat) (_hN:N≤100000000000000000) (hm:Px.HMax d N) (_hs:s.size≤maxLen) (hT:TabLH w) (hM:Tab w) (hk:k=3) (hd:Duo w J P B D tk b d):
 Calls Tryz.prog 40 #[.pointer (some ⟨P,0,none⟩),opV k n s] w fun e w'=>e=.returned (.bool true)∧∃b' Z,Did w w' J P B D tk b' Z∧Px.HMax Z N:=by
 subst hk;have al:=Hq hm;have Q:=cw w (opO 3 n s);have U:=hd.later Q;have ai:=hT.later Q;have ae:=hM.later Q;have ho:=OpIn.new w 3 n s;clear hd hT hM hm
 go_enter Tryz.func40,Tryz.ntmps40
 go_upto_region 1 with fail;generalize w.alloc (opO 3 n s)=W at *;generalize ac:w.heap.size=oq at *;have ah:=Hq ac;clear ac;have af:=Hq Q;have HD:=Hq U;obtain⟨aH,aG,hy⟩:=U.y;obtain⟨ad,V,rfl,_⟩:=hy.rows.sl.form;obtain⟨O,G,rfl,_⟩:=hy.rows.en.form;have HY:=Hq hy;have hP:=U.p.ty.lt;have c1:=U.p.c1;have hO:=ho.ty.lt;have ao:=Hq ho;obtain⟨o0,o1,o2,_⟩:=ho;have ax:=Hq ai;have am:=Hq ae;clear Q U ai ae hy;go_wp2_with fail;refine (dW d D (.slice ad d.now.slots.length V) (.slice O d.now.ends.length G) tk _ HY.out).mono ?_;rintro e w1 ⟨rfl,Y⟩;have I:Below W.heap.size W (w1.alloc (stO d.now (.slice ad d.now.slots.length V) (.slice O d.now.ends.length G))):=Y.alloc Y.size _;have g1:(w1.alloc (stO d.now (.slice ad d.now.slots.length V) (.slice O d.now.ends.length G))).cell? ⟨w1.heap.size,1,none⟩=some (.int .i64 d.now.clock):=by simp[go_sem]
 have aw:=Hq (HD.out.later I);have au:=Hq (ax.out.later I);have ap:=Hq (am.out.later I);have p1:=cell_later I ao.out.c1
 have ar:Hid (Below w.heap.size w (w1.alloc (stO d.now (.slice ad d.now.slots.length V) (.slice O d.now.ends.length G)))):=by
  have h1:=af.out.trans (I.mono (by have:=af.out.size;rw[ah.out] at this;exact this))
  rw[ah.out];exact h1
 clear Y I o0 o1 o2 c1;go_upto_region 10 with fail;generalize w1.alloc (stO d.now (.slice ad d.now.slots.length V) (.slice O d.now.ends.length G))=W2 at *;generalize w1.heap.size=q1 at *;go_wp2_with fail;refine (iB _ J P B D tk b d _ au.out ap.out aw.out).mono ?_;rintro e w3 ⟨rfl,ag⟩;have HF:Hid (∃b' Z,Did w w3 J P B D tk b' Z∧Px.HMax Z N):=⟨_,_,ag.ahead ar.out,al.out.tick _⟩;clear ag g1 p1;go_wp2_with fail;go_ret;exact⟨rfl,HF.out⟩
theorem oT (w:World) (G P B D:Nat) (tk:Value) (b:Px.Bo) (d:Bx.Bo) (k n:Int) (s:ByteArray) (N:Nat) (J:N≤100000000000000000) (hm:Px.HMax d N) (O:s.size≤maxLen) (I:TabLH w) (Q:Tab w) (h7:¬k=7) (hd:Duo w G P B D tk b d):
 Calls Tryz.prog 40 #[.pointer (some ⟨P,0,none⟩),opV k n s] w fun e w'=>e=.returned (.bool true)∧∃b' U,Did w w' G P B D tk b' U∧Px.HMax U (if k=5 then N+40 else N):=by
 by_cases h1:k=1
 ·rw[if_neg (by omega)];exact ta w G P B D tk b d k n s N J hm O I Q h1 hd
 by_cases h2:k=2
 ·rw[if_neg (by omega)];exact ti w G P B D tk b d k n s N J hm O I Q h2 hd
 by_cases Z:k=3
 ·rw[if_neg (by omega)];exact sM w G P B D tk b d k n s N J hm O I Q Z hd
 by_cases Y:k=4
 ·rw[if_neg (by omega)];exact th w G P B D tk b d k n s N J hm O I Q Y hd
 by_cases V:k=5
 ·rw[if_pos V];exact te w G P B D tk b d k n s N J hm O I Q V hd
 by_cases h6:k=6
 ·rw[if_neg (by omega)];exact sZ w G P B D tk b d k n s N J hm O I Q h6 hd
 by_cases h8:k<1∨12<k
 ·rw[if_neg (by omega)];exact sW w G P B D tk b d k n s N J hm O I Q h8 hd
 ·rw[if_neg (by omega)];exact sJ w G P B D tk b d k n s N J hm O I Q (by omega) (by omega) hd
end Go.Proofs.YtdajolpoiffimabGreatDoor
