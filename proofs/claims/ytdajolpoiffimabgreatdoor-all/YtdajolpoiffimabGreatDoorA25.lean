import Derived.Test.YtdajolpoiffimabGreatDoorA21
import Derived.Test.YtdajolpoiffimabGreatDoorA24

namespace Go.Proofs.YtdajolpoiffimabGreatDoor
namespace Kp
end Kp
namespace Bx
end Bx
namespace Kp
end Kp
namespace Bx
theorem says_may {fl:Bool}{s u:St}{r q:ByteArray} (h:Says fl s r u q) (d:MayS s):MayS u:=by
 induction h with
 | stop=>exact d
 | go h1 h2 _ e=>
   refine e ?_
   rcases h2 with ⟨_,h⟩|⟨c,_,_,rfl⟩
   ·exact h.1
   ·exact d.do c
end Bx
namespace Px
end Px
end Go.Proofs.YtdajolpoiffimabGreatDoor

namespace Go.Proofs.YtdajolpoiffimabGreatDoor
open Go.RowKit
theorem l6 {b r:ByteArray}{k:Int} (e:b=Bx.b1 k++r) (h0:0<b.size):(b[0].toNat:Int)=k % 256:=by
 subst e;rw[ByteArray.getElem_append_left (by rw[Bx.b1_size];decide)]
 exact Bx.byte_of k
theorem tf {b:ByteArray}{t:Bx.St} (h:Bx.IsZ b t):∃h0:0<b.size,(b[0].toNat:Int)=90:=by
 obtain⟨_,e⟩:=h;have h0:0<b.size:=by rw[←e];unfold Bx.wholeS;rw[ByteArray.size_append,Bx.b1_size];omega
 exact⟨h0,l6 (k:=90) (r:=Bx.encSt t) e.symm h0⟩
theorem sF {b:ByteArray}{c:Bx.Ch} (h:Bx.IsCh b c) (h0:0<b.size):¬(b[0].toNat:Int)=90:=by
 obtain⟨f,e⟩:=h;have d:=f.kind;have:=l6 (k:=c.kind) e.symm h0;omega
theorem tG {b:ByteArray}{S t:Bx.St} (h:Bx.IsZ b t):Bx.Stp true S b t:=Or.inl ⟨rfl,h⟩
theorem ql {b:ByteArray}{S:Bx.St}{fl:Bool} (h0:0<b.size) (d:(b[0].toNat:Int)=90) (e:¬∃t,Bx.IsZ b t):¬∃t,Bx.Stp fl S b t:=by
 rintro ⟨t,⟨_,h⟩|⟨c,h,_⟩⟩
 ·exact e ⟨t,h⟩
 ·exact sF h h0 d
theorem kS {b:ByteArray}{S:Bx.St}{fl:Bool} (w:¬(fl=true∧∃h0:0<b.size,(b[0].toNat:Int)=90)) (d:∀c,Bx.IsCh b c→(Bx.doP S c).2=false):¬∃t,Bx.Stp fl S b t:=by
 rintro ⟨t,⟨e,h⟩|⟨c,h,h2,_⟩⟩
 ·exact w ⟨e,tf h⟩
 ·rw[d c h] at h2;cases h2
theorem tE {b:ByteArray}{S:Bx.St}{fl:Bool}{c:Bx.Ch} (h:Bx.IsCh b c) (h2:(Bx.doP S c).2=true):Bx.Stp fl S b (Bx.doP S c).1:=Or.inr ⟨c,h,h2,rfl⟩
theorem tJ {fl:Bool}{S:Bx.St}{r:ByteArray} (h:¬∃b more,Bx.Nx r b more):Bx.Says fl S r S r:=Bx.Says.stop _ _ _ (by rintro ⟨b,more,_,h1,_⟩;exact h ⟨b,more,h1⟩)
theorem mR {fl:Bool}{S:Bx.St}{r b more:ByteArray} (h1:Bx.Nx r b more) (h:¬∃t,Bx.Stp fl S b t):Bx.Says fl S r S r:=by
 refine Bx.Says.stop _ _ _ ?_;rintro ⟨w,d,t,h2,e⟩;obtain⟨rfl,_⟩:=h1.uniq h2;exact h ⟨t,e⟩
theorem rQ {fl:Bool}{S t:Bx.St}{b:ByteArray} (h:Bx.Stp fl S b t) (hm:Bx.MayS S):Bx.MayS t:=by
 rcases h with ⟨_,h⟩|⟨c,_,_,rfl⟩
 ·exact h.1
 ·exact hm.do c
structure SayQ (log:ByteArray) (fl:Bool) (S:Bx.St) (r:ByteArray):Prop where
 may:Bx.MayS S
 say:∀u x,Bx.Says fl S r u x→Bx.Says true Bx.first log u x
 f1:fl=true→r=log
 f2:fl=false→r.size<log.size
theorem SayQ.begin (log:ByteArray):SayQ log true Bx.first log:=⟨Bx.first_may,fun _ _ h=>h,fun _=>rfl,fun h=>(by cases h)⟩
theorem SayQ.le {log:ByteArray}{fl:Bool}{S:Bx.St}{r:ByteArray} (h:SayQ log fl S r):r.size≤log.size:=by
 cases fl with
 | true=>rw[h.f1 rfl];exact Nat.le_refl _
 | false=>exact Nat.le_of_lt (h.f2 rfl)
theorem SayQ.first {log:ByteArray}{fl:Bool}{S:Bx.St}{r:ByteArray} (h:SayQ log fl S r):(r.toList==log.toList)=fl:=by
 cases fl with
 | true=>rw[h.f1 rfl];simp
 | false=>
   have h1:=h.f2 rfl
   cases e:(r.toList==log.toList) with
   | false=>rfl
   | true=>
     have h2:r.toList=log.toList:=by simpa using e
     have d:r=log:=Bx.ba_ext (by simpa [ByteArray.toList_eq] using h2)
     rw[d] at h1;omega
theorem SayQ.next {log:ByteArray}{fl:Bool}{S t:Bx.St}{r b more:ByteArray} (h:SayQ log fl S r) (d:Bx.Nx r b more) (hS:Bx.Stp fl S b t):SayQ log false t more:=
 ⟨rQ hS h.may,fun u x w=>h.say u x (Bx.Says.go d hS w),fun e=>(by cases e),fun _=>(by have:=d.lt;have:=h.le;omega)⟩
theorem StW.far {W:World}{q g:Nat}{s:Bx.St}{sl en:Value} (h:StW W q s sl en) (d:q≠g) (j:Nat) (v:Value):StW (W.setCell ⟨g,j,none⟩ v) q s sl en:=by
 obtain⟨⟨c0,c1,c2,c3,c4⟩,f,ty⟩:=h;have e:∀k u,W.cell? ⟨q,k,none⟩=some u→(W.setCell ⟨g,j,none⟩ v).cell? ⟨q,k,none⟩=some u:=fun k u w=>(World.cell?_setCell_other _ _ _ _ (fun x=>d (by cases x;rfl))).trans w
 exact⟨⟨e _ _ c0,e _ _ c1,e _ _ c2,e _ _ c3,e _ _ c4⟩,fun k G=>by rw[World.frozen?_setCell];exact f k G,ty.setCell _ _ _⟩
theorem StW.far5 {W:World}{q g:Nat}{s:Bx.St}{sl en:Value} (h:StW W q s sl en) (d:q≠g) (I e w G J:Value):
 StW (((((W.setCell ⟨g,0,none⟩ I).setCell ⟨g,1,none⟩ e).setCell ⟨g,2,none⟩ w).setCell ⟨g,3,none⟩ G).setCell ⟨g,4,none⟩ J) q s sl en:=
 ((((h.far d _ _).far d _ _).far d _ _).far d _ _).far d _ _
structure SayI (w wr:World) (q:Nat) (S:Bx.St) (sl en:Value):Prop where
 st:StW wr q S sl en
 rs:StW wr w.heap.size stZ nilV nilV
 rows:StAt wr S sl en
 bel:Below w.heap.size w wr
theorem SayI.later {w wr d:World}{q:Nat}{S:Bx.St}{sl en:Value} (h:SayI w wr q S sl en) (hb:Below wr.heap.size wr d):SayI w d q S sl en:=
 ⟨h.st.later hb,h.rs.later hb,h.rows.later hb,h.bel.trans (hb.mono h.bel.size)⟩
theorem SayI.put {w wr:World}{q x:Nat}{S:Bx.St}{sl en:Value} (h:SayI w wr q S sl en) (hR:w.heap.size<x) (J:q≠x) (ty:Typed wr x 130) (I d e G O:Value):
 SayI w (((((wr.setCell ⟨x,0,none⟩ I).setCell ⟨x,1,none⟩ d).setCell ⟨x,2,none⟩ e).setCell ⟨x,3,none⟩ G).setCell ⟨x,4,none⟩ O) q S sl en:=
 ⟨h.st.far5 J _ _ _ _ _,h.rs.far5 (Nat.ne_of_lt hR) _ _ _ _ _,h.rows.store ty _ _ _ _ _,dE h.bel (Nat.le_of_lt hR) _ _ _ _ _⟩
theorem SayI.new {w wr:World}{q:Nat}{S t:Bx.St}{sl en d e:Value} (h:SayI w wr q S sl en) (hR:w.heap.size<q) (G:StAt wr t d e):
 SayI w (((((wr.setCell ⟨q,0,none⟩ (.string t.tab)).setCell ⟨q,1,none⟩ (.int .i64 t.clock)).setCell ⟨q,2,none⟩ (.int .i64 t.next)).setCell ⟨q,3,none⟩ d).setCell ⟨q,4,none⟩ e) q t d e:=
 ⟨h.st.store t d e,h.rs.far5 (Nat.ne_of_lt hR) _ _ _ _ _,G.store h.st.ty _ _ _ _ _,dE h.bel (Nat.le_of_lt hR) _ _ _ _ _⟩
theorem SayI.ch {w wr:World}{q y:Nat}{S:Bx.St}{sl en:Value} (h:SayI w wr q S sl en) (hR:w.heap.size<y) (d:q≠y) (ty:Typed wr y 178) (G e I:Value):
 SayI w (((wr.setCell ⟨y,0,none⟩ G).setCell ⟨y,1,none⟩ e).setCell ⟨y,2,none⟩ I) q S sl en:=
 ⟨((h.st.far d _ _).far d _ _).far d _ _,((h.rs.far (Nat.ne_of_lt hR) _ _).far (Nat.ne_of_lt hR) _ _).far (Nat.ne_of_lt hR) _ _,((h.rows.set ty (by decide) (by decide) _ _).set (ty.setCell _ _ _) (by decide) (by decide) _ _).set ((ty.setCell _ _ _).setCell _ _ _) (by decide) (by decide) _ _,((h.bel.setCell (Nat.le_of_lt hR) _).setCell (Nat.le_of_lt hR) _).setCell (Nat.le_of_lt hR) _⟩
theorem gM {b:ByteArray} (h:0<b.size):b.toList.isEmpty=false:=by
 cases d:b.toList.isEmpty
 ·rfl
 ·exfalso
  have w:b.toList.length=0:=by simpa [List.isEmpty_iff] using d
  have e:b.toList.length=b.size:=by simp[ByteArray.toList_eq]
  omega
theorem ly {b:ByteArray} (h:¬0<b.size):b={data:= #[]}:=by
 have:b=ByteArray.empty:=by simpa using h
 rw[this];rfl
theorem mE (W:World):StAt W Bx.first (.slice none 0 0) (.slice none 0 0):=⟨TRow.nil _ _,TRow.nil _ _⟩
def SaysP (log:ByteArray) (w w':World) (e:Ending):Prop:=∃S sl en r n,e=.returned (.tuple #[stV S sl en,.int .i64 n])∧StAt w' S sl en∧Bx.Says true Bx.first log S r∧n+(r.size:Int)=(log.size:Int)∧Below w.heap.size w w'
set_option maxRecDepth 10000 in
set_option maxHeartbeats 0 in
theorem nD (log:ByteArray) (w:World) (hs:log.size≤100000):Calls Tryz.prog 138 #[.string log] w fun e w'=>SaysP log w w' e:=by
 have bB:=dx w (stO stZ nilV nilV);have hz:=StW.new w stZ nilV nilV;have bu:Hid (SayQ log true Bx.first log):=SayQ.begin log
 have bH:Hid (∀W:World,Calls Tryz.prog 107 #[] W fun e w'=>e=.returned (stV Bx.first (.slice none 0 0) (.slice none 0 0))∧Below W.heap.size W w'):=fun W=>i7 W
 have bM:Hid (∀W:World,StAt W Bx.first (.slice none 0 0) (.slice none 0 0)):=fun W=>mE W
 generalize Bx.first=F at *
 go_enter Tryz.func138,Tryz.ntmps138
 go_upto_region 1 with fail;have aS:StW (w.alloc (stO stZ nilV nilV)) w.heap.size stZ nilV nilV:=hz;clear hz;generalize w.alloc (stO stZ nilV nilV)=W0 at *;have bv:=Hq aS;have a3:=Hq bB;have ba:=aS.ty.lt;clear aS bB;go_wp2_with fail;refine (bH.out _).mono ?_;rintro e w1 ⟨rfl,am⟩;have ag:=am.trans ((dx w1 (stO F (.slice none 0 0) (.slice none 0 0))).mono am.size);have hI:=StW.new w1 F (.slice none 0 0) (.slice none 0 0);have a6:=am.size;clear am;go_upto_region 2 with fail;have bw:StW (w1.alloc (stO F (.slice none 0 0) (.slice none 0 0))) w1.heap.size F (.slice none 0 0) (.slice none 0 0):=hI;clear hI;have bK:w.heap.size<w1.heap.size:=Nat.lt_of_lt_of_le ba a6;generalize w1.alloc (stO F (.slice none 0 0) (.slice none 0 0))=W at *;generalize w1.heap.size=q at *;have bz:Hid (SayI w W q F (.slice none 0 0) (.slice none 0 0)):=⟨bw,bv.out.later ag,bM.out _,a3.out.trans (ag.mono a3.out.size)⟩;clear bw ag bv a3 ba a6 bH bM;go_wp2_with fail
 go_loopw [5] (fun rest wr=>∃fl S r sl en,rest=.string r∧SayI w wr q S sl en∧SayQ log fl S r) (fun rest _=>strSize rest)
 case atStart=>exact⟨true,_,_,_,_,rfl,bz.out,bu.out⟩
 case round=>
  obtain⟨fl,S,r,sl,en,rfl,hI,hQ⟩:=hrel;obtain⟨Y,I,rfl,cm⟩:=hI.rows.sl.form;obtain⟨G,d,rfl,cj⟩:=hI.rows.en.form;have HI:=Hq hI;have HQ:=Hq hQ;have cu:=hQ.le;have ac:=hQ.first
  have q1:IntKind.i64.wrap ((log.size:Int)-(r.size:Int))=(log.size:Int)-(r.size:Int):=by rw[IntKind.wrap_i64];omega
  clear hI hQ bz bu;go_wp2_with fail;refine (pH r _ (by omega)).mono ?_
  rintro e w1 ⟨bb,more,ok,rfl,hN,aY,am⟩;have ai:=Hq (HI.out.later am);have aV:=Hq hN;clear HI hN am
  cases ok
  ·have HN:Hid (Bx.Says true Bx.first log S r):=HQ.out.say _ _ (tJ (aV.out.2 rfl))
   obtain⟨⟨⟨c0,c1,c2,c3,c4⟩,_,_⟩,⟨⟨r0,r1,r2,r3,r4⟩,f,_⟩,_,_⟩:=ai.out;have f0:=f 0 (by decide);have f1:=f 1 (by decide);have f2:=f 2 (by decide);have f3:=f 3 (by decide);have f4:=f 4 (by decide)
   have H4:Hid (StAt _ S (.slice Y S.slots.length I) (.slice G S.ends.length d)):=ai.out.rows.store ai.out.rs.ty (.string S.tab) (.int .i64 S.clock) (.int .i64 S.next) (.slice Y S.slots.length I) (.slice G S.ends.length d);clear f ac aY;go_wp2_with fail;refine bodyPost_ret (v:=.tuple #[stV S (.slice Y S.slots.length I) (.slice G S.ends.length d),.int .i64 ((log.size:Int)-(r.size:Int))]) (by simp[results,Tryz.results138,go_sem,r0,r1,r2,r3,r4]) rfl ?_
   exact⟨_,_,_,_,_,rfl,H4.out,HN.out,by omega,dE ai.out.bel (Nat.le_refl _) _ _ _ _ _⟩
  ·have ar:Hid (Bx.Nx r bb more):=aV.out.1 rfl;have cv:=ar.out.2;have ct:=aY rfl;clear aV aY;obtain⟨⟨c0,c1,c2,c3,c4⟩,_,_⟩:=ai.out.st;have av:=ai.out.st.ty.lt;have ag:=dx w1 (stO S (.slice Y S.slots.length I) (.slice G S.ends.length d));have hX:=StW.new w1 S (.slice Y S.slots.length I) (.slice G S.ends.length d);have bn:=ai.out.rs.ty.lt;go_upto_region 7 with fail;have bL:StW (w1.alloc (stO S (.slice Y S.slots.length I) (.slice G S.ends.length d))) w1.heap.size S (.slice Y S.slots.length I) (.slice G S.ends.length d):=hX;have au:=Hq (ai.out.later ag);have bA:q≠w1.heap.size:=Nat.ne_of_lt av;have bD:w.heap.size<w1.heap.size:=bn;clear hX c0 c1 c2 c3 c4 av bn ag ai;generalize w1.alloc (stO S (.slice Y S.slots.length I) (.slice G S.ends.length d))=W1 at *;generalize w1.heap.size=x at *;have HX:=Hq bL;clear bL
   by_cases hz:fl=true∧∃h0:0<bb.size,(bb[0].toNat:Int)=90
   ·obtain⟨a5,h0,a8⟩:=hz;have b8:=Hq a5;rw[a5] at ac;clear a5;have H0:=Hq h0;have b5:=Hq a8;have ax:=gM h0;have z2:(0:Int)<(bb.size:Int):=by omega
    have bP:=beq_iff_eq.2 a8;clear a8;go_wp2_with fail;refine (qu bb _ (by omega)).mono ?_
    rintro e w2 ⟨t,ca,ci,aX,rfl,ae,ao,ay,ag⟩;obtain⟨U,O,rfl,br⟩:=ae.sl.form;obtain⟨V,J,rfl,bo⟩:=ae.en.form;have aa:=Hq (HX.out.later ag);have aA:=Hq (au.out.later ag);have aB:=Hq ae;have Hy:=Hq ao;have Hn:=Hq ay;clear ae ao ay ag HX au ax bP;have aC:Hid (StW _ x t (.slice U t.slots.length O) (.slice V t.ends.length J)):=aa.out.store t (.slice U t.slots.length O) (.slice V t.ends.length J);have az:Hid (SayI w _ q S (.slice Y S.slots.length I) (.slice G S.ends.length d)):=aA.out.put bD bA aa.out.ty (.string t.tab) (.int .i64 t.clock) (.int .i64 t.next) (.slice U t.slots.length O) (.slice V t.ends.length J);have aD:Hid (StAt _ t (.slice U t.slots.length O) (.slice V t.ends.length J)):=aB.out.store aa.out.ty (.string t.tab) (.int .i64 t.clock) (.int .i64 t.next) (.slice U t.slots.length O) (.slice V t.ends.length J);obtain⟨⟨x0,x1,x2,x3,x4⟩,xf,_⟩:=aa.out;have aU:=xf 0 (by decide);have aP:=xf 1 (by decide);have a4:=xf 2 (by decide);have aT:=xf 3 (by decide);have a2:=xf 4 (by decide)
    have aE:=aa.out.ty.lt;clear xf;go_upto_region 13 with fail;clear x0 x1 x2 x3 x4 aU aP a4 aT a2 aE aa aA aB;generalize ((((w2.setCell ⟨x,0,none⟩ (.string t.tab)).setCell ⟨x,1,none⟩ (.int .i64 t.clock)).setCell ⟨x,2,none⟩ (.int .i64 t.next)).setCell ⟨x,3,none⟩ (.slice U t.slots.length O)).setCell ⟨x,4,none⟩ (.slice V t.ends.length J)=W5 at *;have Q:=Hq az;have ab:=Hq aC;have al:=Hq aD;clear az aC aD
    cases aX
    ·have HN:Hid (Bx.Says true Bx.first log S r):=HQ.out.say _ _ (mR ar.out (ql H0.out b5.out (Hn.out rfl)))
     obtain⟨⟨⟨c0,c1,c2,c3,c4⟩,_,_⟩,⟨⟨r0,r1,r2,r3,r4⟩,f,_⟩,_,_⟩:=Q.out;have f0:=f 0 (by decide);have f1:=f 1 (by decide);have f2:=f 2 (by decide);have f3:=f 3 (by decide);have f4:=f 4 (by decide)
     have H4:Hid (StAt _ S (.slice Y S.slots.length I) (.slice G S.ends.length d)):=Q.out.rows.store Q.out.rs.ty (.string S.tab) (.int .i64 S.clock) (.int .i64 S.next) (.slice Y S.slots.length I) (.slice G S.ends.length d);clear f ab al;go_wp2_with fail;refine bodyPost_ret (v:=.tuple #[stV S (.slice Y S.slots.length I) (.slice G S.ends.length d),.int .i64 ((log.size:Int)-(r.size:Int))]) (by simp[results,Tryz.results138,go_sem,r0,r1,r2,r3,r4]) rfl ?_
     exact⟨_,_,_,_,_,rfl,H4.out,HN.out,by omega,dE Q.out.bel (Nat.le_refl _) _ _ _ _ _⟩
    ·have aZ:Hid (SayQ log false t more):=HQ.out.next ar.out (by rw[b8.out];exact tG (Hy.out rfl))
     have Z:Hid (SayI w _ q t (.slice U t.slots.length O) (.slice V t.ends.length J)):=Q.out.new bK al.out;obtain⟨⟨c0,c1,c2,c3,c4⟩,qf,_⟩:=Q.out.st;obtain⟨⟨x0,x1,x2,x3,x4⟩,_,_⟩:=ab.out;have bU:=qf 0 (by decide);have b2:=qf 1 (by decide);have cc:=qf 2 (by decide);have b4:=qf 3 (by decide);have cb:=qf 4 (by decide)
     have av:=Q.out.st.ty.lt;have aE:=ab.out.ty.lt;clear qf Q ab al;go_wp2_with fail;go_roundw
     case rel=>exact⟨false,t,more,_,_,rfl,Z.out,aZ.out⟩
     case measure=>simp[strSize];omega
   ·have HZ:=Hq hz
    have h3:fl=false∨(fl=true∧¬0<bb.size)∨(fl=true∧∃h0:0<bb.size,((bb[0].toNat:Int)==90)=false):=by
     cases fl
     ·exact Or.inl rfl
     ·by_cases h0:0<bb.size
      ·exact Or.inr (Or.inr ⟨rfl,h0,by simpa using fun e=>hz ⟨rfl,h0,e⟩⟩)
      ·exact Or.inr (Or.inl ⟨rfl,h0⟩)
    clear hz
    rcases h3 with h3|⟨h3,h4⟩|⟨h3,h0,h5⟩
    case' inl=>
     rw[h3] at ac;clear h3
    case' inr.inl=>
     rw[h3] at ac;have ax:bb.toList.isEmpty=true:=by rw[ly h4];simp[ByteArray.toList_eq]
     clear h3 h4
    case' inr.inr=>
     rw[h3] at ac;have ax:=gM h0;have z2:(0:Int)<(bb.size:Int):=by omega
     clear h3
    all_goals
     have a7:=dx W1 (.cells #[.int .u8 0,.string {data:= #[]},.int .i64 0] 178);have hY:=Cl.new W1 [.int .u8 0,.string {data:= #[]},.int .i64 0] 178;have bF:=HX.out.ty.lt;have bE:=au.out.st.ty.lt;have bN:=au.out.rs.ty.lt;go_upto_region 10 with fail;have bI:Cl (W1.alloc (.cells #[.int .u8 0,.string {data:= #[]},.int .i64 0] 178)) W1.heap.size 178 [.int .u8 0,.string {data:= #[]},.int .i64 0]:=hY;have bx:=Hq (au.out.later a7);have bG:=Hq (HX.out.later a7);have b6:q≠W1.heap.size:=Nat.ne_of_lt bE;have bX:w.heap.size<W1.heap.size:=bN;have aW:x≠W1.heap.size:=Nat.ne_of_lt bF;clear hY a7 au HX bF bE bN;generalize W1.alloc (.cells #[.int .u8 0,.string {data:= #[]},.int .i64 0] 178)=W2 at *;generalize W1.heap.size=y at *;have HY:=Hq bI;clear bI
     try clear ax
     try clear h5
     go_wp2_with fail;refine (lF bb _ (by omega)).mono ?_
     rintro e w3 ⟨ch,aX,rfl,ao,ay,ck,aN⟩;have Hy:=Hq ao;have Hn:=Hq ay;have ah:=HY.out.later aN;have Q:Hid (SayI w _ q S (.slice Y S.slots.length I) (.slice G S.ends.length d)):=(bx.out.later aN).ch bX b6 ah.ty (.int .u8 ch.kind) (.string ch.tab) (.int .i64 ch.n);have ab:Hid (StW _ x S (.slice Y S.slots.length I) (.slice G S.ends.length d)):=(((bG.out.later aN).far aW 0 (.int .u8 ch.kind)).far aW 1 (.string ch.tab)).far aW 2 (.int .i64 ch.n);have bJ:Hid (Cl _ y 178 [.int .u8 ch.kind,.string ch.tab,.int .i64 ch.n]):=((ah.set 0 (by simp) (.int .u8 ch.kind)).set 1 (by simp) (.string ch.tab)).set 2 (by simp) (.int .i64 ch.n)
     have y0:=ah.c 0 _ rfl;have y1:=ah.c 1 _ rfl;have y2:=ah.c 2 _ rfl;have ce:=ah.f 0 (by simp);have cf:=ah.f 1 (by simp);have bT:=ah.f 2 (by simp)
     have bg:=ah.ty.lt;clear ao ay aN ah bx bG HY;go_upto_region 11 with fail;clear y0 y1 y2 ce cf bT bg;generalize ((w3.setCell ⟨y,0,none⟩ (.int .u8 ch.kind)).setCell ⟨y,1,none⟩ (.string ch.tab)).setCell ⟨y,2,none⟩ (.int .i64 ch.n)=W4 at *;have Z:=Hq Q;have bh:=Hq ab;have aq:=Hq bJ;clear Q ab bJ
     cases aX
     ·have HN:Hid (Bx.Says true Bx.first log S r):=HQ.out.say _ _ (mR ar.out (kS HZ.out fun c hc=>absurd ⟨c,hc⟩ (Hn.out rfl)))
      obtain⟨⟨⟨c0,c1,c2,c3,c4⟩,_,_⟩,⟨⟨r0,r1,r2,r3,r4⟩,f,_⟩,_,_⟩:=Z.out;have f0:=f 0 (by decide);have f1:=f 1 (by decide);have f2:=f 2 (by decide);have f3:=f 3 (by decide);have f4:=f 4 (by decide)
      have H4:Hid (StAt _ S (.slice Y S.slots.length I) (.slice G S.ends.length d)):=Z.out.rows.store Z.out.rs.ty (.string S.tab) (.int .i64 S.clock) (.int .i64 S.next) (.slice Y S.slots.length I) (.slice G S.ends.length d);clear f bh aq;go_wp2_with fail;refine bodyPost_ret (v:=.tuple #[stV S (.slice Y S.slots.length I) (.slice G S.ends.length d),.int .i64 ((log.size:Int)-(r.size:Int))]) (by simp[results,Tryz.results138,go_sem,r0,r1,r2,r3,r4]) rfl ?_
      exact⟨_,_,_,_,_,rfl,H4.out,HN.out,by omega,dE Z.out.bel (Nat.le_refl _) _ _ _ _ _⟩
     ·have bC:Hid (Bx.IsCh bb ch):=Hy.out rfl;have b0:Hid (∀c,Bx.IsCh bb c→c=ch):=fun c hc=>hc.uniq bC.out
      obtain⟨⟨c0,c1,c2,c3,c4⟩,_,_⟩:=Z.out.st;have k0:=aq.out.c 0 _ rfl;have k1:=aq.out.c 1 _ rfl;have k2:=aq.out.c 2 _ rfl;have av:=Z.out.st.ty.lt;have bg:=aq.out.ty.lt;clear Hy Hn;go_wp2_with fail;refine (kL S ch _ _ _ HQ.out.may.ok (by unfold maxLen;omega) Z.out.rows).mono ?_
      rintro e w5 ⟨⟨ca,ci,rfl,ae⟩,bc⟩
      have HD:Hid (∀t o,Bx.doP S ch=(t,o)→(o=true→Bx.Stp fl S bb t)∧(o=false→¬∃t,Bx.Stp fl S bb t)):=by
       intro t o ho;refine⟨fun e=>?_,fun e=>?_⟩
       ·have:=tE (fl:=fl) (S:=S) bC.out (by rw[ho];exact e)
        rw[ho] at this;exact this
       ·refine kS HZ.out fun c hc=>?_
        rw[b0.out c hc,ho];exact e
      obtain⟨t,bt,aQ⟩:∃t o,Bx.doP S ch=(t,o):=⟨_,_,rfl⟩;have hD:=HD.out t bt aQ;have bW:=Hq hD.1;have cg:=Hq hD.2;rw[aQ] at ae ⊢;clear hD HD aQ;simp only at ae ⊢;obtain⟨U,O,rfl,br⟩:=ae.sl.form;obtain⟨V,J,rfl,bo⟩:=ae.en.form;have aa:=Hq (bh.out.later bc);have aA:=Hq (Z.out.later bc);have aB:=Hq ae;clear ae bc c0 c1 c2 c3 c4 k0 k1 k2 av bg Z bh aq;have aC:Hid (StW _ x t (.slice U t.slots.length O) (.slice V t.ends.length J)):=aa.out.store t (.slice U t.slots.length O) (.slice V t.ends.length J);have az:Hid (SayI w _ q S (.slice Y S.slots.length I) (.slice G S.ends.length d)):=aA.out.put bD bA aa.out.ty (.string t.tab) (.int .i64 t.clock) (.int .i64 t.next) (.slice U t.slots.length O) (.slice V t.ends.length J);have aD:Hid (StAt _ t (.slice U t.slots.length O) (.slice V t.ends.length J)):=aB.out.store aa.out.ty (.string t.tab) (.int .i64 t.clock) (.int .i64 t.next) (.slice U t.slots.length O) (.slice V t.ends.length J);obtain⟨⟨x0,x1,x2,x3,x4⟩,xf,_⟩:=aa.out;have aU:=xf 0 (by decide);have aP:=xf 1 (by decide);have a4:=xf 2 (by decide);have aT:=xf 3 (by decide);have a2:=xf 4 (by decide)
      have aE:=aa.out.ty.lt;clear xf;go_upto_region 13 with fail;clear x0 x1 x2 x3 x4 aU aP a4 aT a2 aE aa aA aB;generalize ((((w5.setCell ⟨x,0,none⟩ (.string t.tab)).setCell ⟨x,1,none⟩ (.int .i64 t.clock)).setCell ⟨x,2,none⟩ (.int .i64 t.next)).setCell ⟨x,3,none⟩ (.slice U t.slots.length O)).setCell ⟨x,4,none⟩ (.slice V t.ends.length J)=W5 at *;have Q:=Hq az;have ab:=Hq aC;have al:=Hq aD;clear az aC aD
      cases bt
      ·have HN:Hid (Bx.Says true Bx.first log S r):=HQ.out.say _ _ (mR ar.out (cg.out rfl))
       obtain⟨⟨⟨c0,c1,c2,c3,c4⟩,_,_⟩,⟨⟨r0,r1,r2,r3,r4⟩,f,_⟩,_,_⟩:=Q.out;have f0:=f 0 (by decide);have f1:=f 1 (by decide);have f2:=f 2 (by decide);have f3:=f 3 (by decide);have f4:=f 4 (by decide)
       have H4:Hid (StAt _ S (.slice Y S.slots.length I) (.slice G S.ends.length d)):=Q.out.rows.store Q.out.rs.ty (.string S.tab) (.int .i64 S.clock) (.int .i64 S.next) (.slice Y S.slots.length I) (.slice G S.ends.length d);clear f ab al;go_wp2_with fail;refine bodyPost_ret (v:=.tuple #[stV S (.slice Y S.slots.length I) (.slice G S.ends.length d),.int .i64 ((log.size:Int)-(r.size:Int))]) (by simp[results,Tryz.results138,go_sem,r0,r1,r2,r3,r4]) rfl ?_
       exact⟨_,_,_,_,_,rfl,H4.out,HN.out,by omega,dE Q.out.bel (Nat.le_refl _) _ _ _ _ _⟩
      ·have aZ:Hid (SayQ log false t more):=HQ.out.next ar.out (bW.out rfl);have Z:Hid (SayI w _ q t (.slice U t.slots.length O) (.slice V t.ends.length J)):=Q.out.new bK al.out;obtain⟨⟨c0,c1,c2,c3,c4⟩,qf,_⟩:=Q.out.st;obtain⟨⟨x0,x1,x2,x3,x4⟩,_,_⟩:=ab.out;have bU:=qf 0 (by decide);have b2:=qf 1 (by decide);have cc:=qf 2 (by decide);have b4:=qf 3 (by decide);have cb:=qf 4 (by decide)
       have av:=Q.out.st.ty.lt;have aE:=ab.out.ty.lt;clear qf Q ab al;go_wp2_with fail;go_roundw
       case rel=>exact⟨false,t,more,_,_,rfl,Z.out,aZ.out⟩
       case measure=>simp[strSize];omega
end Go.Proofs.YtdajolpoiffimabGreatDoor
