import Derived.Test.YtdajolpoiffimabGreatDoorA28

namespace Go.Proofs.YtdajolpoiffimabGreatDoor
namespace Kp
end Kp
namespace Bx
end Bx
namespace Kp
end Kp
namespace Bx
theorem says_may {fl:Bool} {s u:St} {r q:ByteArray} (h:Says fl s r u q) (d:MayS s):MayS u:=by
 induction h with
 | stop=>exact d
 | go h1 h2 _ e=>
   refine e ?_
   rcases h2 with ⟨_,h⟩|⟨c,_,_,rfl⟩
   ·exact h.1
   ·exact d.do c
end Bx
namespace Px
end Px
end Go.Proofs.YtdajolpoiffimabGreatDoor

namespace Go.Proofs.YtdajolpoiffimabGreatDoor
open Go.RowKit
theorem me {b r:ByteArray} {k:Int} (e:b=Bx.b1 k++r) (h0:0<b.size):(b[0].toNat:Int)=k % 256:=by
 subst e;rw[ByteArray.getElem_append_left (by rw[Bx.b1_size];decide)]
 exact Bx.byte_of k
theorem sR {b:ByteArray} {t:Bx.St} (h:Bx.IsZ b t):∃h0:0<b.size,(b[0].toNat:Int)=90:=by
 obtain⟨_,e⟩:=h;have h0:0<b.size:=by rw[←e];unfold Bx.wholeS;rw[ByteArray.size_append,Bx.b1_size];omega
 exact⟨h0,me (k:=90) (r:=Bx.encSt t) e.symm h0⟩
theorem sj {b:ByteArray} {c:Bx.Ch} (h:Bx.IsCh b c) (h0:0<b.size):¬(b[0].toNat:Int)=90:=by
 obtain⟨f,e⟩:=h;have d:=f.kind;have:=me (k:=c.kind) e.symm h0;omega
theorem ts {b:ByteArray} {S t:Bx.St} (h:Bx.IsZ b t):Bx.Stp true S b t:=Or.inl ⟨rfl,h⟩
theorem pV {b:ByteArray} {S:Bx.St} {fl:Bool} (h0:0<b.size) (d:(b[0].toNat:Int)=90) (e:¬∃t,Bx.IsZ b t):¬∃t,Bx.Stp fl S b t:=by
 rintro ⟨t,⟨_,h⟩|⟨c,h,_⟩⟩
 ·exact e ⟨t,h⟩
 ·exact sj h h0 d
theorem ka {b:ByteArray} {S:Bx.St} {fl:Bool} (d:¬(fl=true∧∃h0:0<b.size,(b[0].toNat:Int)=90)) (w:∀c,Bx.IsCh b c→(Bx.doP S c).2=false):¬∃t,Bx.Stp fl S b t:=by
 rintro ⟨t,⟨e,h⟩|⟨c,h,h2,_⟩⟩
 ·exact d ⟨e,sR h⟩
 ·rw[w c h] at h2;cases h2
theorem tE {b:ByteArray} {S:Bx.St} {fl:Bool} {c:Bx.Ch} (h:Bx.IsCh b c) (h2:(Bx.doP S c).2=true):Bx.Stp fl S b (Bx.doP S c).1:=Or.inr ⟨c,h,h2,rfl⟩
theorem tt {fl:Bool} {S:Bx.St} {r:ByteArray} (h:¬∃b more,Bx.Nx r b more):Bx.Says fl S r S r:=Bx.Says.stop _ _ _ (by rintro ⟨b,more,_,h1,_⟩;exact h ⟨b,more,h1⟩)
theorem mW {fl:Bool} {S:Bx.St} {r b more:ByteArray} (h1:Bx.Nx r b more) (h:¬∃t,Bx.Stp fl S b t):Bx.Says fl S r S r:=by
 refine Bx.Says.stop _ _ _ ?_;rintro ⟨w,d,t,h2,e⟩;obtain⟨rfl,_⟩:=h1.uniq h2;exact h ⟨t,e⟩
theorem rl {fl:Bool} {S t:Bx.St} {b:ByteArray} (h:Bx.Stp fl S b t) (hm:Bx.MayS S):Bx.MayS t:=by
 rcases h with ⟨_,h⟩|⟨c,_,_,rfl⟩
 ·exact h.1
 ·exact hm.do c
structure SayQ (log:ByteArray) (fl:Bool) (S:Bx.St) (r:ByteArray):Prop where
 may:Bx.MayS S
 say:∀u x,Bx.Says fl S r u x→Bx.Says true Bx.first log u x
 f1:fl=true→r=log
 f2:fl=false→r.size<log.size
theorem SayQ.begin (log:ByteArray):SayQ log true Bx.first log:=⟨Bx.first_may,fun _ _ h=>h,fun _=>rfl,fun h=>(by cases h)⟩
theorem SayQ.le {log:ByteArray} {fl:Bool} {S:Bx.St} {r:ByteArray} (h:SayQ log fl S r):r.size≤log.size:=by
 cases fl with
 | true=>rw[h.f1 rfl];exact Nat.le_refl _
 | false=>exact Nat.le_of_lt (h.f2 rfl)
theorem SayQ.first {log:ByteArray} {fl:Bool} {S:Bx.St} {r:ByteArray} (h:SayQ log fl S r):(r.toList==log.toList)=fl:=by
 cases fl with
 | true=>rw[h.f1 rfl];simp
 | false=>
   have h1:=h.f2 rfl
   cases e:(r.toList==log.toList) with
   | false=>rfl
   | true=>
     have h2:r.toList=log.toList:=by simpa using e
     have d:r=log:=Bx.ba_ext (by simpa [ByteArray.toList_eq] using h2)
     rw[d] at h1;omega
theorem SayQ.next {log:ByteArray} {fl:Bool} {S t:Bx.St} {r b more:ByteArray} (h:SayQ log fl S r) (d:Bx.Nx r b more) (hS:Bx.Stp fl S b t):SayQ log false t more:=
 ⟨rl hS h.may,fun u x w=>h.say u x (Bx.Says.go d hS w),fun e=>(by cases e),fun _=>(by have:=d.lt;have:=h.le;omega)⟩
theorem StW.far {W:World} {q g:Nat} {s:Bx.St} {sl en:Value} (h:StW W q s sl en) (d:q≠g) (j:Nat) (v:Value):StW (W.setCell ⟨g,j,none⟩ v) q s sl en:=by
 obtain⟨⟨c0,c1,c2,c3,c4⟩,f,ty⟩:=h;have e:∀k u,W.cell? ⟨q,k,none⟩=some u→(W.setCell ⟨g,j,none⟩ v).cell? ⟨q,k,none⟩=some u:=fun k u G=>(World.cell?_setCell_other _ _ _ _ (fun x=>d (by cases x;rfl))).trans G
 exact⟨⟨e _ _ c0,e _ _ c1,e _ _ c2,e _ _ c3,e _ _ c4⟩,fun k w=>by rw[World.frozen?_setCell];exact f k w,ty.setCell _ _ _⟩
theorem StW.far5 {W:World} {q g:Nat} {s:Bx.St} {sl en:Value} (h:StW W q s sl en) (d:q≠g) (J G w e I:Value):
 StW (((((W.setCell ⟨g,0,none⟩ J).setCell ⟨g,1,none⟩ G).setCell ⟨g,2,none⟩ w).setCell ⟨g,3,none⟩ e).setCell ⟨g,4,none⟩ I) q s sl en:=
 ((((h.far d _ _).far d _ _).far d _ _).far d _ _).far d _ _
structure SayI (w wr:World) (q:Nat) (S:Bx.St) (sl en:Value):Prop where
 st:StW wr q S sl en
 rs:StW wr w.heap.size stZ nilV nilV
 rows:StAt wr S sl en
 bel:Below w.heap.size w wr
theorem SayI.later {w wr d:World} {q:Nat} {S:Bx.St} {sl en:Value} (h:SayI w wr q S sl en) (hb:Below wr.heap.size wr d):SayI w d q S sl en:=
 ⟨h.st.later hb,h.rs.later hb,h.rows.later hb,h.bel.trans (hb.mono h.bel.size)⟩
theorem SayI.put {w wr:World} {q x:Nat} {S:Bx.St} {sl en:Value} (h:SayI w wr q S sl en) (hR:w.heap.size<x) (e:q≠x) (ty:Typed wr x 130) (O I G d J:Value):
 SayI w (((((wr.setCell ⟨x,0,none⟩ O).setCell ⟨x,1,none⟩ I).setCell ⟨x,2,none⟩ G).setCell ⟨x,3,none⟩ d).setCell ⟨x,4,none⟩ J) q S sl en:=
 ⟨h.st.far5 e _ _ _ _ _,h.rs.far5 (Nat.ne_of_lt hR) _ _ _ _ _,h.rows.store ty _ _ _ _ _,dD h.bel (Nat.le_of_lt hR) _ _ _ _ _⟩
theorem SayI.new {w wr:World} {q:Nat} {S t:Bx.St} {sl en e d:Value} (h:SayI w wr q S sl en) (hR:w.heap.size<q) (G:StAt wr t e d):
 SayI w (((((wr.setCell ⟨q,0,none⟩ (.string t.tab)).setCell ⟨q,1,none⟩ (.int .i64 t.clock)).setCell ⟨q,2,none⟩ (.int .i64 t.next)).setCell ⟨q,3,none⟩ e).setCell ⟨q,4,none⟩ d) q t e d:=
 ⟨h.st.store t e d,h.rs.far5 (Nat.ne_of_lt hR) _ _ _ _ _,G.store h.st.ty _ _ _ _ _,dD h.bel (Nat.le_of_lt hR) _ _ _ _ _⟩
theorem SayI.ch {w wr:World} {q y:Nat} {S:Bx.St} {sl en:Value} (h:SayI w wr q S sl en) (hR:w.heap.size<y) (d:q≠y) (ty:Typed wr y 178) (I e G:Value):
 SayI w (((wr.setCell ⟨y,0,none⟩ I).setCell ⟨y,1,none⟩ e).setCell ⟨y,2,none⟩ G) q S sl en:=
 ⟨((h.st.far d _ _).far d _ _).far d _ _,((h.rs.far (Nat.ne_of_lt hR) _ _).far (Nat.ne_of_lt hR) _ _).far (Nat.ne_of_lt hR) _ _,((h.rows.set ty (by decide) (by decide) _ _).set (ty.setCell _ _ _) (by decide) (by decide) _ _).set ((ty.setCell _ _ _).setCell _ _ _) (by decide) (by decide) _ _,((h.bel.setCell (Nat.le_of_lt hR) _).setCell (Nat.le_of_lt hR) _).setCell (Nat.le_of_lt hR) _⟩
theorem gI {b:ByteArray} (h:0<b.size):b.toList.isEmpty=false:=by
 cases d:b.toList.isEmpty
 ·rfl
 ·exfalso
  have w:b.toList.length=0:=by simpa [List.isEmpty_iff] using d
  have e:b.toList.length=b.size:=by simp[ByteArray.toList_eq]
  omega
theorem ly {b:ByteArray} (h:¬0<b.size):b={data:= #[]}:=by
 have:b=ByteArray.empty:=by simpa using h
 rw[this];rfl
theorem m8 (W:World):StAt W Bx.first (.slice none 0 0) (.slice none 0 0):=⟨TRow.nil _ _,TRow.nil _ _⟩
def SaysP (log:ByteArray) (w w':World) (e:Ending):Prop:=∃S sl en r n,e=.returned (.tuple #[stV S sl en,.int .i64 n])∧StAt w' S sl en∧Bx.Says true Bx.first log S r∧n+(r.size:Int)=(log.size:Int)∧Below w.heap.size w w'
set_option maxRecDepth 10000 in
set_option maxHeartbeats 8000000 in
theorem oP (log:ByteArray) (w:World) (hs:log.size≤100000):Calls Tryz.prog 138 #[.string log] w fun e w'=>SaysP log w w' e:=by
 have bv:=cw w (stO stZ nilV nilV);have hz:=StW.new w stZ nilV nilV;have bK:Hid (SayQ log true Bx.first log):=SayQ.begin log
 have bA:Hid (∀W:World,Calls Tryz.prog 107 #[] W fun e w'=>e=.returned (stV Bx.first (.slice none 0 0) (.slice none 0 0))∧Below W.heap.size W w'):=fun W=>i7 W
 have bt:Hid (∀W:World,StAt W Bx.first (.slice none 0 0) (.slice none 0 0)):=fun W=>m8 W
 generalize Bx.first=F at *
 go_enter Tryz.func138,Tryz.ntmps138
 go_upto_region 1 with fail;have bk:StW (w.alloc (stO stZ nilV nilV)) w.heap.size stZ nilV nilV:=hz;clear hz;generalize w.alloc (stO stZ nilV nilV)=W0 at *;have bx:=Hq bk;have aQ:=Hq bv;have bm:=bk.ty.lt;clear bk bv;go_wp2_with fail;refine (bA.out _).mono ?_;rintro e w1 ⟨rfl,al⟩;have ah:=al.trans ((cw w1 (stO F (.slice none 0 0) (.slice none 0 0))).mono al.size);have hI:=StW.new w1 F (.slice none 0 0) (.slice none 0 0);have aV:=al.size;clear al;go_upto_region 2 with fail;have bz:StW (w1.alloc (stO F (.slice none 0 0) (.slice none 0 0))) w1.heap.size F (.slice none 0 0) (.slice none 0 0):=hI;clear hI;have bB:w.heap.size<w1.heap.size:=Nat.lt_of_lt_of_le bm aV;generalize w1.alloc (stO F (.slice none 0 0) (.slice none 0 0))=W at *;generalize w1.heap.size=q at *;have bI:Hid (SayI w W q F (.slice none 0 0) (.slice none 0 0)):=⟨bz,bx.out.later ah,bt.out _,aQ.out.trans (ah.mono aQ.out.size)⟩;clear bz ah bx aQ bm aV bA bt;go_wp2_with fail
 go_loopw [5] (fun rest wr=>∃fl S r sl en,rest=.string r∧SayI w wr q S sl en∧SayQ log fl S r) (fun rest _=>strSize rest)
 case atStart=>exact⟨true,_,_,_,_,rfl,bI.out,bK.out⟩
 case round=>
  obtain⟨fl,S,r,sl,en,rfl,hI,hQ⟩:=hrel;obtain⟨Y,I,rfl,cl⟩:=hI.rows.sl.form;obtain⟨G,d,rfl,cj⟩:=hI.rows.en.form;have HI:=Hq hI;have HQ:=Hq hQ;have ct:=hQ.le;have ac:=hQ.first
  have q1:IntKind.i64.wrap ((log.size:Int)-(r.size:Int))=(log.size:Int)-(r.size:Int):=by rw[IntKind.wrap_i64];omega
  clear hI hQ bI bK;go_wp2_with fail;refine (ra r _ (by omega)).mono ?_
  rintro e w1 ⟨bb,more,ok,rfl,hN,a6,al⟩;have ai:=Hq (HI.out.later al);have aO:=Hq hN;clear HI hN al
  cases ok
  ·have HN:Hid (Bx.Says true Bx.first log S r):=HQ.out.say _ _ (tt (aO.out.2 rfl))
   obtain⟨⟨⟨c0,c1,c2,c3,c4⟩,_,_⟩,⟨⟨r0,r1,r2,r3,r4⟩,f,_⟩,_,_⟩:=ai.out;have f0:=f 0 (by decide);have f1:=f 1 (by decide);have f2:=f 2 (by decide);have f3:=f 3 (by decide);have f4:=f 4 (by decide)
   have H4:Hid (StAt _ S (.slice Y S.slots.length I) (.slice G S.ends.length d)):=ai.out.rows.store ai.out.rs.ty (.string S.tab) (.int .i64 S.clock) (.int .i64 S.next) (.slice Y S.slots.length I) (.slice G S.ends.length d);clear f ac a6;go_wp2_with fail;refine bodyPost_ret (v:=.tuple #[stV S (.slice Y S.slots.length I) (.slice G S.ends.length d),.int .i64 ((log.size:Int)-(r.size:Int))]) (by simp[results,Tryz.results138,go_sem,r0,r1,r2,r3,r4]) rfl ?_
   exact⟨_,_,_,_,_,rfl,H4.out,HN.out,by omega,dD ai.out.bel (Nat.le_refl _) _ _ _ _ _⟩
  ·have aq:Hid (Bx.Nx r bb more):=aO.out.1 rfl;have cu:=aq.out.2;have cv:=a6 rfl;clear aO a6;obtain⟨⟨c0,c1,c2,c3,c4⟩,_,_⟩:=ai.out.st;have ar:=ai.out.st.ty.lt;have ah:=cw w1 (stO S (.slice Y S.slots.length I) (.slice G S.ends.length d));have hX:=StW.new w1 S (.slice Y S.slots.length I) (.slice G S.ends.length d);have a7:=ai.out.rs.ty.lt;go_upto_region 7 with fail;have bG:StW (w1.alloc (stO S (.slice Y S.slots.length I) (.slice G S.ends.length d))) w1.heap.size S (.slice Y S.slots.length I) (.slice G S.ends.length d):=hX;have av:=Hq (ai.out.later ah);have bu:q≠w1.heap.size:=Nat.ne_of_lt ar;have bN:w.heap.size<w1.heap.size:=a7;clear hX c0 c1 c2 c3 c4 ar a7 ah ai;generalize w1.alloc (stO S (.slice Y S.slots.length I) (.slice G S.ends.length d))=W1 at *;generalize w1.heap.size=x at *;have HX:=Hq bG;clear bG
   by_cases hz:fl=true∧∃h0:0<bb.size,(bb[0].toNat:Int)=90
   ·obtain⟨a2,h0,aU⟩:=hz;have bT:=Hq a2;rw[a2] at ac;clear a2;have H0:=Hq h0;have b0:=Hq aU;have aw:=gI h0;have z2:(0:Int)<(bb.size:Int):=by omega
    have bP:=beq_iff_eq.2 aU;clear aU;go_wp2_with fail;refine (qP bb _ (by omega)).mono ?_
    rintro e w2 ⟨t,bU,ca,aP,rfl,ae,am,ay,ah⟩;obtain⟨V,O,rfl,bp⟩:=ae.sl.form;obtain⟨U,J,rfl,bs⟩:=ae.en.form;have aa:=Hq (HX.out.later ah);have aD:=Hq (av.out.later ah);have aE:=Hq ae;have Hy:=Hq am;have Hn:=Hq ay;clear ae am ay ah HX av aw bP;have aA:Hid (StW _ x t (.slice V t.slots.length O) (.slice U t.ends.length J)):=aa.out.store t (.slice V t.slots.length O) (.slice U t.ends.length J);have az:Hid (SayI w _ q S (.slice Y S.slots.length I) (.slice G S.ends.length d)):=aD.out.put bN bu aa.out.ty (.string t.tab) (.int .i64 t.clock) (.int .i64 t.next) (.slice V t.slots.length O) (.slice U t.ends.length J);have aC:Hid (StAt _ t (.slice V t.slots.length O) (.slice U t.ends.length J)):=aE.out.store aa.out.ty (.string t.tab) (.int .i64 t.clock) (.int .i64 t.next) (.slice V t.slots.length O) (.slice U t.ends.length J);obtain⟨⟨x0,x1,x2,x3,x4⟩,xf,_⟩:=aa.out;have bn:=xf 0 (by decide);have aY:=xf 1 (by decide);have bc:=xf 2 (by decide);have aW:=xf 3 (by decide);have a8:=xf 4 (by decide)
    have aB:=aa.out.ty.lt;clear xf;go_upto_region 13 with fail;clear x0 x1 x2 x3 x4 bn aY bc aW a8 aB aa aD aE;generalize ((((w2.setCell ⟨x,0,none⟩ (.string t.tab)).setCell ⟨x,1,none⟩ (.int .i64 t.clock)).setCell ⟨x,2,none⟩ (.int .i64 t.next)).setCell ⟨x,3,none⟩ (.slice V t.slots.length O)).setCell ⟨x,4,none⟩ (.slice U t.ends.length J)=W5 at *;have Q:=Hq az;have ab:=Hq aA;have ao:=Hq aC;clear az aA aC
    cases aP
    ·have HN:Hid (Bx.Says true Bx.first log S r):=HQ.out.say _ _ (mW aq.out (pV H0.out b0.out (Hn.out rfl)))
     obtain⟨⟨⟨c0,c1,c2,c3,c4⟩,_,_⟩,⟨⟨r0,r1,r2,r3,r4⟩,f,_⟩,_,_⟩:=Q.out;have f0:=f 0 (by decide);have f1:=f 1 (by decide);have f2:=f 2 (by decide);have f3:=f 3 (by decide);have f4:=f 4 (by decide)
     have H4:Hid (StAt _ S (.slice Y S.slots.length I) (.slice G S.ends.length d)):=Q.out.rows.store Q.out.rs.ty (.string S.tab) (.int .i64 S.clock) (.int .i64 S.next) (.slice Y S.slots.length I) (.slice G S.ends.length d);clear f ab ao;go_wp2_with fail;refine bodyPost_ret (v:=.tuple #[stV S (.slice Y S.slots.length I) (.slice G S.ends.length d),.int .i64 ((log.size:Int)-(r.size:Int))]) (by simp[results,Tryz.results138,go_sem,r0,r1,r2,r3,r4]) rfl ?_
     exact⟨_,_,_,_,_,rfl,H4.out,HN.out,by omega,dD Q.out.bel (Nat.le_refl _) _ _ _ _ _⟩
    ·have bj:Hid (SayQ log false t more):=HQ.out.next aq.out (by rw[bT.out];exact ts (Hy.out rfl))
     have Z:Hid (SayI w _ q t (.slice V t.slots.length O) (.slice U t.ends.length J)):=Q.out.new bB ao.out;obtain⟨⟨c0,c1,c2,c3,c4⟩,qf,_⟩:=Q.out.st;obtain⟨⟨x0,x1,x2,x3,x4⟩,_,_⟩:=ab.out;have b3:=qf 0 (by decide);have b9:=qf 1 (by decide);have b8:=qf 2 (by decide);have cf:=qf 3 (by decide);have bW:=qf 4 (by decide)
     have ar:=Q.out.st.ty.lt;have aB:=ab.out.ty.lt;clear qf Q ab ao;go_wp2_with fail;go_roundw
     case rel=>exact⟨false,t,more,_,_,rfl,Z.out,bj.out⟩
     case measure=>simp[strSize];omega
   ·have HZ:=Hq hz
    have h3:fl=false∨(fl=true∧¬0<bb.size)∨(fl=true∧∃h0:0<bb.size,((bb[0].toNat:Int)==90)=false):=by
     cases fl
     ·exact Or.inl rfl
     ·by_cases h0:0<bb.size
      ·exact Or.inr (Or.inr ⟨rfl,h0,by simpa using fun e=>hz ⟨rfl,h0,e⟩⟩)
      ·exact Or.inr (Or.inl ⟨rfl,h0⟩)
    clear hz
    rcases h3 with h3|⟨h3,h4⟩|⟨h3,h0,h5⟩
    case' inl=>
     rw[h3] at ac;clear h3
    case' inr.inl=>
     rw[h3] at ac;have aw:bb.toList.isEmpty=true:=by rw[ly h4];simp[ByteArray.toList_eq]
     clear h3 h4
    case' inr.inr=>
     rw[h3] at ac;have aw:=gI h0;have z2:(0:Int)<(bb.size:Int):=by omega
     clear h3
    all_goals
     have aX:=cw W1 (.cells #[.int .u8 0,.string {data:= #[]},.int .i64 0] 178);have hY:=Cl.new W1 [.int .u8 0,.string {data:= #[]},.int .i64 0] 178;have bJ:=HX.out.ty.lt;have bE:=av.out.st.ty.lt;have bF:=av.out.rs.ty.lt;go_upto_region 10 with fail;have bC:Cl (W1.alloc (.cells #[.int .u8 0,.string {data:= #[]},.int .i64 0] 178)) W1.heap.size 178 [.int .u8 0,.string {data:= #[]},.int .i64 0]:=hY;have bD:=Hq (av.out.later aX);have bL:=Hq (HX.out.later aX);have cg:q≠W1.heap.size:=Nat.ne_of_lt bE;have bZ:w.heap.size<W1.heap.size:=bF;have bh:x≠W1.heap.size:=Nat.ne_of_lt bJ;clear hY aX av HX bJ bE bF;generalize W1.alloc (.cells #[.int .u8 0,.string {data:= #[]},.int .i64 0] 178)=W2 at *;generalize W1.heap.size=y at *;have HY:=Hq bC;clear bC
     try clear aw
     try clear h5
     go_wp2_with fail;refine (kW bb _ (by omega)).mono ?_
     rintro e w3 ⟨ch,aP,rfl,am,ay,cs,aN⟩;have Hy:=Hq am;have Hn:=Hq ay;have ag:=HY.out.later aN;have Q:Hid (SayI w _ q S (.slice Y S.slots.length I) (.slice G S.ends.length d)):=(bD.out.later aN).ch bZ cg ag.ty (.int .u8 ch.kind) (.string ch.tab) (.int .i64 ch.n);have ab:Hid (StW _ x S (.slice Y S.slots.length I) (.slice G S.ends.length d)):=(((bL.out.later aN).far bh 0 (.int .u8 ch.kind)).far bh 1 (.string ch.tab)).far bh 2 (.int .i64 ch.n);have bH:Hid (Cl _ y 178 [.int .u8 ch.kind,.string ch.tab,.int .i64 ch.n]):=((ag.set 0 (by simp) (.int .u8 ch.kind)).set 1 (by simp) (.string ch.tab)).set 2 (by simp) (.int .i64 ch.n)
     have y0:=ag.c 0 _ rfl;have y1:=ag.c 1 _ rfl;have y2:=ag.c 2 _ rfl;have bV:=ag.f 0 (by simp);have b5:=ag.f 1 (by simp);have b6:=ag.f 2 (by simp)
     have aZ:=ag.ty.lt;clear am ay aN ag bD bL HY;go_upto_region 11 with fail;clear y0 y1 y2 bV b5 b6 aZ;generalize ((w3.setCell ⟨y,0,none⟩ (.int .u8 ch.kind)).setCell ⟨y,1,none⟩ (.string ch.tab)).setCell ⟨y,2,none⟩ (.int .i64 ch.n)=W4 at *;have Z:=Hq Q;have ba:=Hq ab;have au:=Hq bH;clear Q ab bH
     cases aP
     ·have HN:Hid (Bx.Says true Bx.first log S r):=HQ.out.say _ _ (mW aq.out (ka HZ.out fun c hc=>absurd ⟨c,hc⟩ (Hn.out rfl)))
      obtain⟨⟨⟨c0,c1,c2,c3,c4⟩,_,_⟩,⟨⟨r0,r1,r2,r3,r4⟩,f,_⟩,_,_⟩:=Z.out;have f0:=f 0 (by decide);have f1:=f 1 (by decide);have f2:=f 2 (by decide);have f3:=f 3 (by decide);have f4:=f 4 (by decide)
      have H4:Hid (StAt _ S (.slice Y S.slots.length I) (.slice G S.ends.length d)):=Z.out.rows.store Z.out.rs.ty (.string S.tab) (.int .i64 S.clock) (.int .i64 S.next) (.slice Y S.slots.length I) (.slice G S.ends.length d);clear f ba au;go_wp2_with fail;refine bodyPost_ret (v:=.tuple #[stV S (.slice Y S.slots.length I) (.slice G S.ends.length d),.int .i64 ((log.size:Int)-(r.size:Int))]) (by simp[results,Tryz.results138,go_sem,r0,r1,r2,r3,r4]) rfl ?_
      exact⟨_,_,_,_,_,rfl,H4.out,HN.out,by omega,dD Z.out.bel (Nat.le_refl _) _ _ _ _ _⟩
     ·have bM:Hid (Bx.IsCh bb ch):=Hy.out rfl;have b7:Hid (∀c,Bx.IsCh bb c→c=ch):=fun c hc=>hc.uniq bM.out
      obtain⟨⟨c0,c1,c2,c3,c4⟩,_,_⟩:=Z.out.st;have k0:=au.out.c 0 _ rfl;have k1:=au.out.c 1 _ rfl;have k2:=au.out.c 2 _ rfl;have ar:=Z.out.st.ty.lt;have aZ:=au.out.ty.lt;clear Hy Hn;go_wp2_with fail;refine (kt S ch _ _ _ HQ.out.may.ok (by unfold maxLen;omega) Z.out.rows).mono ?_
      rintro e w5 ⟨⟨bU,ca,rfl,ae⟩,aR⟩
      have HD:Hid (∀t o,Bx.doP S ch=(t,o)→(o=true→Bx.Stp fl S bb t)∧(o=false→¬∃t,Bx.Stp fl S bb t)):=by
       intro t o ho;refine⟨fun e=>?_,fun e=>?_⟩
       ·have:=tE (fl:=fl) (S:=S) bM.out (by rw[ho];exact e)
        rw[ho] at this;exact this
       ·refine ka HZ.out fun c hc=>?_
        rw[b7.out c hc,ho];exact e
      obtain⟨t,bw,a3⟩:∃t o,Bx.doP S ch=(t,o):=⟨_,_,rfl⟩;have hD:=HD.out t bw a3;have bX:=Hq hD.1;have bY:=Hq hD.2;rw[a3] at ae ⊢;clear hD HD a3;simp only at ae ⊢;obtain⟨V,O,rfl,bp⟩:=ae.sl.form;obtain⟨U,J,rfl,bs⟩:=ae.en.form;have aa:=Hq (ba.out.later aR);have aD:=Hq (Z.out.later aR);have aE:=Hq ae;clear ae aR c0 c1 c2 c3 c4 k0 k1 k2 ar aZ Z ba au;have aA:Hid (StW _ x t (.slice V t.slots.length O) (.slice U t.ends.length J)):=aa.out.store t (.slice V t.slots.length O) (.slice U t.ends.length J);have az:Hid (SayI w _ q S (.slice Y S.slots.length I) (.slice G S.ends.length d)):=aD.out.put bN bu aa.out.ty (.string t.tab) (.int .i64 t.clock) (.int .i64 t.next) (.slice V t.slots.length O) (.slice U t.ends.length J);have aC:Hid (StAt _ t (.slice V t.slots.length O) (.slice U t.ends.length J)):=aE.out.store aa.out.ty (.string t.tab) (.int .i64 t.clock) (.int .i64 t.next) (.slice V t.slots.length O) (.slice U t.ends.length J);obtain⟨⟨x0,x1,x2,x3,x4⟩,xf,_⟩:=aa.out;have bn:=xf 0 (by decide);have aY:=xf 1 (by decide);have bc:=xf 2 (by decide);have aW:=xf 3 (by decide);have a8:=xf 4 (by decide)
      have aB:=aa.out.ty.lt;clear xf;go_upto_region 13 with fail;clear x0 x1 x2 x3 x4 bn aY bc aW a8 aB aa aD aE;generalize ((((w5.setCell ⟨x,0,none⟩ (.string t.tab)).setCell ⟨x,1,none⟩ (.int .i64 t.clock)).setCell ⟨x,2,none⟩ (.int .i64 t.next)).setCell ⟨x,3,none⟩ (.slice V t.slots.length O)).setCell ⟨x,4,none⟩ (.slice U t.ends.length J)=W5 at *;have Q:=Hq az;have ab:=Hq aA;have ao:=Hq aC;clear az aA aC
      cases bw
      ·have HN:Hid (Bx.Says true Bx.first log S r):=HQ.out.say _ _ (mW aq.out (bY.out rfl))
       obtain⟨⟨⟨c0,c1,c2,c3,c4⟩,_,_⟩,⟨⟨r0,r1,r2,r3,r4⟩,f,_⟩,_,_⟩:=Q.out;have f0:=f 0 (by decide);have f1:=f 1 (by decide);have f2:=f 2 (by decide);have f3:=f 3 (by decide);have f4:=f 4 (by decide)
       have H4:Hid (StAt _ S (.slice Y S.slots.length I) (.slice G S.ends.length d)):=Q.out.rows.store Q.out.rs.ty (.string S.tab) (.int .i64 S.clock) (.int .i64 S.next) (.slice Y S.slots.length I) (.slice G S.ends.length d);clear f ab ao;go_wp2_with fail;refine bodyPost_ret (v:=.tuple #[stV S (.slice Y S.slots.length I) (.slice G S.ends.length d),.int .i64 ((log.size:Int)-(r.size:Int))]) (by simp[results,Tryz.results138,go_sem,r0,r1,r2,r3,r4]) rfl ?_
       exact⟨_,_,_,_,_,rfl,H4.out,HN.out,by omega,dD Q.out.bel (Nat.le_refl _) _ _ _ _ _⟩
      ·have bj:Hid (SayQ log false t more):=HQ.out.next aq.out (bX.out rfl);have Z:Hid (SayI w _ q t (.slice V t.slots.length O) (.slice U t.ends.length J)):=Q.out.new bB ao.out;obtain⟨⟨c0,c1,c2,c3,c4⟩,qf,_⟩:=Q.out.st;obtain⟨⟨x0,x1,x2,x3,x4⟩,_,_⟩:=ab.out;have b3:=qf 0 (by decide);have b9:=qf 1 (by decide);have b8:=qf 2 (by decide);have cf:=qf 3 (by decide);have bW:=qf 4 (by decide)
       have ar:=Q.out.st.ty.lt;have aB:=ab.out.ty.lt;clear qf Q ab ao;go_wp2_with fail;go_roundw
       case rel=>exact⟨false,t,more,_,_,rfl,Z.out,bj.out⟩
       case measure=>simp[strSize];omega
end Go.Proofs.YtdajolpoiffimabGreatDoor
