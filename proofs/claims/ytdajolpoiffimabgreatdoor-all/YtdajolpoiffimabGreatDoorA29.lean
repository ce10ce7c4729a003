import Derived.Test.YtdajolpoiffimabGreatDoorA25
import Derived.Test.YtdajolpoiffimabGreatDoorA28

namespace Go.Proofs.YtdajolpoiffimabGreatDoor
open Go.RowKit
def RdR (log:ByteArray) (w':World) (e:Ending):Prop:=∃(s:Px.St) (sl en:Value) (q:ByteArray) (n:Int),e=.returned (.tuple #[pstV s sl en,.int .i64 n])∧Px.Ok s∧Bx.Says true Bx.first log (Px.abs s) q∧n+(q.size:Int)=(log.size:Int)∧PAt w' s sl en
structure RI (w wr:World) (q4:Nat) (log:ByteArray) (k:Nat) (s:Px.St) (sl en:Value):Prop where
 le:k≤log.size
 ok:Px.Ok s
 sy:∀S q,Bx.Says ((k:Int)==0) (Px.abs s) (log.extract k log.size) S q→Bx.Says true Bx.first log S q
 c:Cl wr q4 77 [.string s.tab,.int .i64 s.clock,.int .i64 s.next,sl,en]
 z:Cl wr w.heap.size 77 [.string {data:= #[]},.int .i64 0,.int .i64 0,.slice none 0 0,.slice none 0 0]
 a:PAt wr s sl en
 b:Below w.heap.size w wr
 q:w.heap.size<q4
theorem RI.later {w wr d:World}{e:Nat}{log:ByteArray}{k:Nat}{s:Px.St}{sl en:Value} (h:RI w wr e log k s sl en) (hb:Below wr.heap.size wr d):RI w d e log k s sl en:=
 ⟨h.le,h.ok,h.sy,h.c.later hb,h.z.later hb,h.a.later hb,h.b.trans (hb.mono h.b.size),h.q⟩
theorem RI.stop {w wr:World}{e:Nat}{log:ByteArray}{k:Nat}{s:Px.St}{sl en:Value} (h:RI w wr e log k s sl en) (d:¬∃b more t,Bx.Nx (log.extract k log.size) b more∧Bx.Stp ((k:Int)==0) (Px.abs s) b t):
 Bx.Says true Bx.first log (Px.abs s) (log.extract k log.size)∧(k:Int)+((log.extract k log.size).size:Int)=(log.size:Int):=
 ⟨h.sy _ _ (Bx.Says.stop _ _ _ d),by have:=h.le;simp;omega⟩
theorem qa {fl:Bool}{s:Bx.St}{r:ByteArray} (h:¬∃b more,Bx.Nx r b more∧((∃h,Bx.IsCh b h)∨∃s,Bx.StFit s∧Bx.wholeS s=b)):¬∃b more t,Bx.Nx r b more∧Bx.Stp fl s b t:=by
 rintro ⟨b,more,t,G,w⟩;refine h ⟨b,more,G,?_⟩
 rcases w with ⟨_,d⟩|⟨c,e,_⟩
 ·exact Or.inr ⟨t,d.1.fit,d.2⟩
 ·exact Or.inl ⟨c,e⟩
theorem lQ {fl:Bool}{s:Bx.St}{r b more:ByteArray} (G:Bx.Nx r b more) (h:¬∃t,Bx.Stp fl s b t):¬∃b more t,Bx.Nx r b more∧Bx.Stp fl s b t:=by
 rintro ⟨I,e,t,d,w⟩;obtain⟨rfl,_⟩:=G.uniq d;exact h ⟨t,w⟩
theorem RI.go {w wr:World}{Q:Nat}{log:ByteArray}{k:Nat}{s t:Px.St}{sl en:Value}{b more:ByteArray} (h:RI w wr Q log k s sl en) (d:Bx.Nx (log.extract k log.size) b more) (I:Bx.Stp ((k:Int)==0) (Px.abs s) b (Px.abs t)):
 k+b.size+6≤log.size∧∀S q,Bx.Says (((k+b.size+6:Nat):Int)==0) (Px.abs t) (log.extract (k+b.size+6) log.size) S q→Bx.Says true Bx.first log S q:=by
 have J:(log.extract k log.size).size=b.size+6+more.size:=by rw[d.1,ByteArray.size_append,Bx.frame_size]
 have V:=h.le;have Y:log.size-k=b.size+6+more.size:=by simp at J;omega
 refine⟨by omega,fun S q G=>h.sy S q (Bx.Says.go d I ?_)⟩
 have e:log.extract (k+b.size+6) log.size=more:=by
  have h1:(log.extract k log.size).data.toList=log.data.toList.drop k:=by
   rw[ei];exact List.take_of_length_le (by simp)
  have h2:(log.extract (k+b.size+6) log.size).data.toList=log.data.toList.drop (k+b.size+6):=by
   rw[ei];exact List.take_of_length_le (by simp)
  refine Bx.ba_ext ?_;rw[h2,Nat.add_assoc,←List.drop_drop,←h1,d.1,ByteArray.data_append,Array.toList_append];have U:(Bx.frame b).data.toList.length=b.size+6:=by rw[Bx.ba_len,Bx.frame_size]
  rw[←U,List.drop_left]
 have O:(((k+b.size+6:Nat):Int)==0)=false:=by simp;omega
 rw[O,e] at G;exact G
set_option maxRecDepth 10000 in
set_option maxHeartbeats 0 in
theorem pm (log:ByteArray) (w:World) (hl:log.size≤50000) (hT:TabLH w) (hM:Tab w):
 Calls Tryz.prog 63 #[.string log] w fun e w'=>RdR log w' e∧Below w.heap.size w w':=by
 have HT:=Hq hT;have HM:=Hq hM;clear hT hM;have bt:=Cl.new w [.string {data:= #[]},.int .i64 0,.int .i64 0,.slice none 0 0,.slice none 0 0] 77;have aX:=dx w (.cells #[.string {data:= #[]},.int .i64 0,.int .i64 0,.slice none 0 0,.slice none 0 0] 77)
 go_enter Tryz.func63,Tryz.ntmps63
 go_upto_region 1 with fail;have aO:Cl (w.alloc (.cells #[.string {data:= #[]},.int .i64 0,.int .i64 0,.slice none 0 0,.slice none 0 0] 77)) w.heap.size 77 [.string {data:= #[]},.int .i64 0,.int .i64 0,.slice none 0 0,.slice none 0 0]:=bt;clear bt;generalize w.alloc (.cells #[.string {data:= #[]},.int .i64 0,.int .i64 0,.slice none 0 0,.slice none 0 0] 77)=W at *;go_wp2_with fail;refine (iW W).mono ?_;rintro e w0 ⟨rfl,aE⟩;have bp:=Cl.new w0 [.string Px.first.tab,.int .i64 Px.first.clock,.int .i64 Px.first.next,.slice none 0 0,.slice none 0 0] 77
 have bo:=(aO.later aE).later (dx w0 (pstO Px.first (.slice none 0 0) (.slice none 0 0)))
 have bq:Below w.heap.size w (w0.alloc (pstO Px.first (.slice none 0 0) (.slice none 0 0))):=(aX.trans (aE.mono aX.size)).alloc (by have h1:=aX.size;have h2:=aE.size;omega) _
 have bT:w.heap.size<w0.heap.size:=(aO.later aE).ty.lt
 have br:Hid (RI w (w0.alloc (pstO Px.first (.slice none 0 0) (.slice none 0 0))) w0.heap.size log 0 Px.first (.slice none 0 0) (.slice none 0 0)):=by
  refine⟨Nat.zero_le _,⟨Bx.first_ok,List.Pairwise.nil,fun x hx=>by simp[Px.first] at hx⟩,fun S q hq=>?_,bp,bo,⟨TRow.nil _ _,TRow.nil _ _⟩,bq,bT⟩
  have e:log.extract 0 log.size=log:=by simp
  rw[e] at hq;exact hq
 clear bp bo bq aO aE aX;go_upto_region 2 with fail;have bB:=Hq br.out;clear br;generalize w0.alloc (.cells #[.string Px.first.tab,.int .i64 Px.first.clock,.int .i64 Px.first.next,.slice none 0 0,.slice none 0 0] 77)=W1 at *
 generalize w0.heap.size=Y at *;go_wp2_with fail
 go_loopw [5] (fun av wr=>∃(k:Nat) (s:Px.St) (sl en:Value),av=.int .i64 k∧RI w wr Y log k s sl en) (fun av _=>log.size-(intOf av).toNat)
 case atStart=>exact⟨0,Px.first,_,_,rfl,bB.out⟩
 case round=>
  obtain⟨k,s,sl,en,rfl,hI⟩:=hrel;obtain⟨ad,ay,rfl,_⟩:=hI.a.sl.form;obtain⟨aw,ah,rfl,_⟩:=hI.a.en.form;have HI:=Hq hI;have b8:=hI.le;clear hI
  by_cases b9:k<log.size
  ·have y1:(0:Int)≤(k:Int):=by omega
   have y2:(k:Int)≤(log.size:Int):=by omega
   have y3:((k:Int)).toNat=k:=by omega
   go_wp2_with fail;refine (nw (log.extract k log.size) _ (by simp;omega)).mono ?_
   rintro e w1 ⟨bO,ag⟩
   cases bO with
   | no hno=>
     have aI:Hid (¬∃b more t,Bx.Nx (log.extract k log.size) b more∧Bx.Stp ((k:Int)==0) (Px.abs s) b t):=qa hno;have HS:Hid (Bx.Says true Bx.first log (Px.abs s) (log.extract k log.size)∧(k:Int)+((log.extract k log.size).size:Int)=(log.size:Int)):=HI.out.stop aI.out
     have d:=(HI.out.later ag).later (dx w1 (.cells (ctC ct0 nilS nilS).toArray 163));clear hno ag HI aI;go_upto_region 5 with fail;have bg:RI w (w1.alloc (.cells #[.string ct0.kind,.string ct0.tab,.int .i64 ct0.num,.string ct0.st.tab,.int .i64 ct0.st.clock,.int .i64 ct0.st.next,.slice none 0 0,.slice none 0 0,.int .i64 ct0.size] 163)) Y log k s (.slice ad s.slots.length ay) (.slice aw s.ends.length ah):=d;clear d;generalize w1.alloc (.cells #[.string ct0.kind,.string ct0.tab,.int .i64 ct0.num,.string ct0.st.tab,.int .i64 ct0.st.clock,.int .i64 ct0.st.next,.slice none 0 0,.slice none 0 0,.int .i64 ct0.size] 163)=W4 at *;have d:=bg;clear bg;have x0:=d.c.c 0 _ rfl;have x1:=d.c.c 1 _ rfl;have x2:=d.c.c 2 _ rfl;have x3:=d.c.c 3 _ rfl;have x4:=d.c.c 4 _ rfl;have z0:=d.z.c 0 _ rfl;have z1:=d.z.c 1 _ rfl;have z2:=d.z.c 2 _ rfl;have z3:=d.z.c 3 _ rfl;have z4:=d.z.c 4 _ rfl;have f0:=d.z.f 0 (by simp);have f1:=d.z.f 1 (by simp);have f2:=d.z.f 2 (by simp);have f3:=d.z.f 3 (by simp);have f4:=d.z.f 4 (by simp)
     have yz:=d.z.ty.lt;have yx:=d.c.ty.lt;have ap:=Hq d.b;have au:=Hq d.z.ty;have ao:=Hq d.a;have ae:=Hq d.ok;clear d;go_wp2_with fail;refine bodyPost_ret (v:=.tuple #[pstV s (.slice ad s.slots.length ay) (.slice aw s.ends.length ah),.int .i64 k]) (by simp[results,Tryz.results63,go_sem,z0,z1,z2,z3,z4]) rfl ⟨⟨s,_,_,_,_,rfl,ae.out,HS.out.1,HS.out.2,ao.out.store au.out _ _ _ _ _⟩,dL ap.out (Nat.le_refl _) _ _ _ _ _⟩
   | ch b more c hN h hs hz=>
     have a3:=Hq h;have bx:=Hq hs;clear h hs;have HN:=Hq hN;have HZ:=Hq hz;clear hz
     have bv:b.size≤100000:=by
      have h1:=congrArg ByteArray.size hN.1;rw[ByteArray.size_append,Bx.frame_size] at h1;simp at h1;omega
     have hC:=Cl.new w1 (ctC c (.slice none 0 0) (.slice none 0 0)) 163;have aJ:=(HI.out.later ag).later (dx w1 (.cells (ctC c (.slice none 0 0) (.slice none 0 0)).toArray 163));have bR:w.heap.size<w1.heap.size:=by have:=(HI.out.later ag).z.ty.lt;exact this
     have bU:Y<w1.heap.size:=(HI.out.later ag).c.ty.lt;clear hN ag HI;go_upto_region 7 with fail;have J:Cl (w1.alloc (.cells #[.string c.kind,.string c.tab,.int .i64 c.num,.string c.st.tab,.int .i64 c.st.clock,.int .i64 c.st.next,(.slice none 0 0),(.slice none 0 0),.int .i64 c.size] 163)) w1.heap.size 163 (ctC c (.slice none 0 0) (.slice none 0 0)):=hC;have O:RI w (w1.alloc (.cells #[.string c.kind,.string c.tab,.int .i64 c.num,.string c.st.tab,.int .i64 c.st.clock,.int .i64 c.st.next,(.slice none 0 0),(.slice none 0 0),.int .i64 c.size] 163)) Y log k s (.slice ad s.slots.length ay) (.slice aw s.ends.length ah):=aJ;clear hC aJ;generalize w1.alloc (.cells #[.string c.kind,.string c.tab,.int .i64 c.num,.string c.st.tab,.int .i64 c.st.clock,.int .i64 c.st.next,(.slice none 0 0),(.slice none 0 0),.int .i64 c.size] 163)=W2 at *;generalize w1.heap.size=cq at *;have af:=Hq O;have aH:=Hq J;have i0:=O.c.c 0 _ rfl;have i1:=O.c.c 1 _ rfl;have i2:=O.c.c 2 _ rfl;have i3:=O.c.c 3 _ rfl;have i4:=O.c.c 4 _ rfl;have x0:=J.c 0 _ rfl;have x1:=J.c 1 _ rfl;have x2:=J.c 2 _ rfl;have x3:=J.c 3 _ rfl;have x4:=J.c 4 _ rfl;have x5:=J.c 5 _ rfl;have x6:=J.c 6 _ rfl;have x7:=J.c 7 _ rfl;have x8:=J.c 8 _ rfl;have yi:=O.c.ty.lt;have yx:=J.ty.lt;clear O J;go_wp2_with fail;refine (ou ((k:Int)==0) s _ _ c b _ af.out.ok (HT.out.later af.out.b) (HM.out.later af.out.b) af.out.a bv a3.out bx.out).mono ?_;rintro e w3 ⟨hB,ar⟩;have Z:=Hq (af.out.later ar);have al:=Hq (aH.out.later ar);have bL:cq<w3.heap.size:=al.out.ty.lt;clear i0 i1 i2 i3 i4 x0 x1 x2 x3 x4 x5 x6 x7 x8 yi yx ar af aH
     cases hB with
     | no t slt ent hno hff=>
       obtain⟨⟨U,G,rfl⟩,⟨Q,I,rfl⟩⟩:=hff;have HS:Hid (Bx.Says true Bx.first log (Px.abs s) (log.extract k log.size)∧(k:Int)+((log.extract k log.size).size:Int)=(log.size:Int)):=Z.out.stop (lQ HN.out hno)
       have d:=Z.out.later (dx w3 (pstO t (.slice U t.slots.length G) (.slice Q t.ends.length I)));clear hno Z al;go_upto_region 8 with fail;generalize w3.alloc (pstO t (.slice U t.slots.length G) (.slice Q t.ends.length I))=W4 at *;have x0:=d.c.c 0 _ rfl;have x1:=d.c.c 1 _ rfl;have x2:=d.c.c 2 _ rfl;have x3:=d.c.c 3 _ rfl;have x4:=d.c.c 4 _ rfl;have z0:=d.z.c 0 _ rfl;have z1:=d.z.c 1 _ rfl;have z2:=d.z.c 2 _ rfl;have z3:=d.z.c 3 _ rfl;have z4:=d.z.c 4 _ rfl;have f0:=d.z.f 0 (by simp);have f1:=d.z.f 1 (by simp);have f2:=d.z.f 2 (by simp);have f3:=d.z.f 3 (by simp);have f4:=d.z.f 4 (by simp)
       have yz:=d.z.ty.lt;have yx:=d.c.ty.lt;have ap:=Hq d.b;have au:=Hq d.z.ty;have ao:=Hq d.a;have ae:=Hq d.ok;clear d;go_wp2_with fail;refine bodyPost_ret (v:=.tuple #[pstV s (.slice ad s.slots.length ay) (.slice aw s.ends.length ah),.int .i64 k]) (by simp[results,Tryz.results63,go_sem,z0,z1,z2,z3,z4]) rfl ⟨⟨s,_,_,_,_,rfl,ae.out,HS.out.1,HS.out.2,ao.out.store au.out _ _ _ _ _⟩,dL ap.out (Nat.le_refl _) _ _ _ _ _⟩
     | yes t slt ent hst hok hat=>
       obtain⟨U,G,rfl,_⟩:=hat.sl.form;obtain⟨Q,I,rfl,_⟩:=hat.en.form;obtain⟨g1,g2⟩:=Z.out.go HN.out hst;have a6:=Hq g2;have ae:=Hq hok;have am:=dx w3 (pstO t (.slice U t.slots.length G) (.slice Q t.ends.length I));have d:=Z.out.later am;have az:=al.out.later am;have aD:=hat.later am;have bn:=PIn.new w3 t (.slice U t.slots.length G) (.slice Q t.ends.length I);have bH:w3.heap.size<(w3.alloc (pstO t (.slice U t.slots.length G) (.slice Q t.ends.length I))).heap.size:=by simp
       clear hst hok hat g2 am Z al;go_upto_region 10 with fail;generalize w3.alloc (pstO t (.slice U t.slots.length G) (.slice Q t.ends.length I))=W4 at *;generalize w3.heap.size=aq at *;have bI:Y<aq:=by omega
       have bJ:=d.q;have a4:=Hq aD;obtain⟨j0,j1,j2,j3,j4⟩:=bn;have i0:=d.c.c 0 _ rfl;have i1:=d.c.c 1 _ rfl;have i2:=d.c.c 2 _ rfl;have i3:=d.c.c 3 _ rfl;have i4:=d.c.c 4 _ rfl;have g0:=d.c.f 0 (by simp);have g3:=d.c.f 1 (by simp);have g4:=d.c.f 2 (by simp);have g5:=d.c.f 3 (by simp);have g6:=d.c.f 4 (by simp)
       have yi:=d.c.ty.lt;have x8:=az.c 8 _ rfl;have yx:=az.ty.lt;have V:=Hq d;have aC:=((((d.c.set 0 (by simp) (.string t.tab)).set 1 (by simp) (.int .i64 t.clock)).set 2 (by simp) (.int .i64 t.next)).set 3 (by simp) (.slice U t.slots.length G)).set 4 (by simp) (.slice Q t.ends.length I)
       have aF:=Hq aC;have bN:cq≠Y:=by omega
       clear d aD az aC
       have bc:Hid (RI w (((((W4.setCell ⟨Y,0,none⟩ (.string t.tab)).setCell ⟨Y,1,none⟩ (.int .i64 t.clock)).setCell ⟨Y,2,none⟩ (.int .i64 t.next)).setCell ⟨Y,3,none⟩ (.slice U t.slots.length G)).setCell ⟨Y,4,none⟩ (.slice Q t.ends.length I)) Y log (k+b.size+6) t (.slice U t.slots.length G) (.slice Q t.ends.length I)):=
        ⟨g1,ae.out,a6.out,aF.out,V.out.z.far5 (by have:=V.out.q;omega) _ _ _ _ _,a4.out.store V.out.c.ty _ _ _ _ _,dL V.out.b (Nat.le_of_lt V.out.q) _ _ _ _ _,V.out.q⟩
       rw[HZ.out] at x8;clear V aF HZ;go_wp2_with fail;go_roundw
       case rel=>exact⟨k+b.size+6,t,_,_,by first |rfl|(go_num)|(congr 1;omega),bc.out⟩
       case measure=>simp[intOf];omega
   | wh b more c csl cen hN h hz ha=>
     obtain⟨aj,aa,rfl,_⟩:=ha.sl.form;obtain⟨ai,ab,rfl,_⟩:=ha.en.form;have a3:=Hq h;have bs:=ha.later (dx w1 (.cells (ctC c (.slice aj c.st.slots.length aa) (.slice ai c.st.ends.length ab)).toArray 163));clear h ha;have HN:=Hq hN;have HZ:=Hq hz;clear hz
     have bv:b.size≤100000:=by
      have h1:=congrArg ByteArray.size hN.1;rw[ByteArray.size_append,Bx.frame_size] at h1;simp at h1;omega
     have hC:=Cl.new w1 (ctC c (.slice aj c.st.slots.length aa) (.slice ai c.st.ends.length ab)) 163;have aJ:=(HI.out.later ag).later (dx w1 (.cells (ctC c (.slice aj c.st.slots.length aa) (.slice ai c.st.ends.length ab)).toArray 163));have bR:w.heap.size<w1.heap.size:=by have:=(HI.out.later ag).z.ty.lt;exact this
     have bU:Y<w1.heap.size:=(HI.out.later ag).c.ty.lt;clear hN ag HI;go_upto_region 7 with fail;have J:Cl (w1.alloc (.cells #[.string c.kind,.string c.tab,.int .i64 c.num,.string c.st.tab,.int .i64 c.st.clock,.int .i64 c.st.next,(.slice aj c.st.slots.length aa),(.slice ai c.st.ends.length ab),.int .i64 c.size] 163)) w1.heap.size 163 (ctC c (.slice aj c.st.slots.length aa) (.slice ai c.st.ends.length ab)):=hC;have O:RI w (w1.alloc (.cells #[.string c.kind,.string c.tab,.int .i64 c.num,.string c.st.tab,.int .i64 c.st.clock,.int .i64 c.st.next,(.slice aj c.st.slots.length aa),(.slice ai c.st.ends.length ab),.int .i64 c.size] 163)) Y log k s (.slice ad s.slots.length ay) (.slice aw s.ends.length ah):=aJ;have aZ:PAt (w1.alloc (.cells #[.string c.kind,.string c.tab,.int .i64 c.num,.string c.st.tab,.int .i64 c.st.clock,.int .i64 c.st.next,(.slice aj c.st.slots.length aa),(.slice ai c.st.ends.length ab),.int .i64 c.size] 163)) c.st (.slice aj c.st.slots.length aa) (.slice ai c.st.ends.length ab):=bs;clear hC aJ bs;generalize w1.alloc (.cells #[.string c.kind,.string c.tab,.int .i64 c.num,.string c.st.tab,.int .i64 c.st.clock,.int .i64 c.st.next,(.slice aj c.st.slots.length aa),(.slice ai c.st.ends.length ab),.int .i64 c.size] 163)=W2 at *;generalize w1.heap.size=cq at *;have af:=Hq O;have aH:=Hq J;have bu:=Hq aZ;have i0:=O.c.c 0 _ rfl;have i1:=O.c.c 1 _ rfl;have i2:=O.c.c 2 _ rfl;have i3:=O.c.c 3 _ rfl;have i4:=O.c.c 4 _ rfl;have x0:=J.c 0 _ rfl;have x1:=J.c 1 _ rfl;have x2:=J.c 2 _ rfl;have x3:=J.c 3 _ rfl;have x4:=J.c 4 _ rfl;have x5:=J.c 5 _ rfl;have x6:=J.c 6 _ rfl;have x7:=J.c 7 _ rfl;have x8:=J.c 8 _ rfl;have yi:=O.c.ty.lt;have yx:=J.ty.lt;clear O J aZ;go_wp2_with fail;refine (nH ((k:Int)==0) s _ _ c _ _ b _ (HT.out.later af.out.b) af.out.a bu.out a3.out).mono ?_;rintro e w3 ⟨hB,ar⟩;have Z:=Hq (af.out.later ar);have al:=Hq (aH.out.later ar);have bL:cq<w3.heap.size:=al.out.ty.lt;clear i0 i1 i2 i3 i4 x0 x1 x2 x3 x4 x5 x6 x7 x8 yi yx ar af aH bu
     cases hB with
     | no t slt ent hno hff=>
       obtain⟨⟨U,G,rfl⟩,⟨Q,I,rfl⟩⟩:=hff;have HS:Hid (Bx.Says true Bx.first log (Px.abs s) (log.extract k log.size)∧(k:Int)+((log.extract k log.size).size:Int)=(log.size:Int)):=Z.out.stop (lQ HN.out hno)
       have d:=Z.out.later (dx w3 (pstO t (.slice U t.slots.length G) (.slice Q t.ends.length I)));clear hno Z al;go_upto_region 8 with fail;generalize w3.alloc (pstO t (.slice U t.slots.length G) (.slice Q t.ends.length I))=W4 at *;have x0:=d.c.c 0 _ rfl;have x1:=d.c.c 1 _ rfl;have x2:=d.c.c 2 _ rfl;have x3:=d.c.c 3 _ rfl;have x4:=d.c.c 4 _ rfl;have z0:=d.z.c 0 _ rfl;have z1:=d.z.c 1 _ rfl;have z2:=d.z.c 2 _ rfl;have z3:=d.z.c 3 _ rfl;have z4:=d.z.c 4 _ rfl;have f0:=d.z.f 0 (by simp);have f1:=d.z.f 1 (by simp);have f2:=d.z.f 2 (by simp);have f3:=d.z.f 3 (by simp);have f4:=d.z.f 4 (by simp)
       have yz:=d.z.ty.lt;have yx:=d.c.ty.lt;have ap:=Hq d.b;have au:=Hq d.z.ty;have ao:=Hq d.a;have ae:=Hq d.ok;clear d;go_wp2_with fail;refine bodyPost_ret (v:=.tuple #[pstV s (.slice ad s.slots.length ay) (.slice aw s.ends.length ah),.int .i64 k]) (by simp[results,Tryz.results63,go_sem,z0,z1,z2,z3,z4]) rfl ⟨⟨s,_,_,_,_,rfl,ae.out,HS.out.1,HS.out.2,ao.out.store au.out _ _ _ _ _⟩,dL ap.out (Nat.le_refl _) _ _ _ _ _⟩
     | yes t slt ent hst hok hat=>
       obtain⟨U,G,rfl,_⟩:=hat.sl.form;obtain⟨Q,I,rfl,_⟩:=hat.en.form;obtain⟨g1,g2⟩:=Z.out.go HN.out hst;have a6:=Hq g2;have ae:=Hq hok;have am:=dx w3 (pstO t (.slice U t.slots.length G) (.slice Q t.ends.length I));have d:=Z.out.later am;have az:=al.out.later am;have aD:=hat.later am;have bn:=PIn.new w3 t (.slice U t.slots.length G) (.slice Q t.ends.length I);have bH:w3.heap.size<(w3.alloc (pstO t (.slice U t.slots.length G) (.slice Q t.ends.length I))).heap.size:=by simp
       clear hst hok hat g2 am Z al;go_upto_region 10 with fail;generalize w3.alloc (pstO t (.slice U t.slots.length G) (.slice Q t.ends.length I))=W4 at *;generalize w3.heap.size=aq at *;have bI:Y<aq:=by omega
       have bJ:=d.q;have a4:=Hq aD;obtain⟨j0,j1,j2,j3,j4⟩:=bn;have i0:=d.c.c 0 _ rfl;have i1:=d.c.c 1 _ rfl;have i2:=d.c.c 2 _ rfl;have i3:=d.c.c 3 _ rfl;have i4:=d.c.c 4 _ rfl;have g0:=d.c.f 0 (by simp);have g3:=d.c.f 1 (by simp);have g4:=d.c.f 2 (by simp);have g5:=d.c.f 3 (by simp);have g6:=d.c.f 4 (by simp)
       have yi:=d.c.ty.lt;have x8:=az.c 8 _ rfl;have yx:=az.ty.lt;have V:=Hq d;have aC:=((((d.c.set 0 (by simp) (.string t.tab)).set 1 (by simp) (.int .i64 t.clock)).set 2 (by simp) (.int .i64 t.next)).set 3 (by simp) (.slice U t.slots.length G)).set 4 (by simp) (.slice Q t.ends.length I)
       have aF:=Hq aC;have bN:cq≠Y:=by omega
       clear d aD az aC
       have bc:Hid (RI w (((((W4.setCell ⟨Y,0,none⟩ (.string t.tab)).setCell ⟨Y,1,none⟩ (.int .i64 t.clock)).setCell ⟨Y,2,none⟩ (.int .i64 t.next)).setCell ⟨Y,3,none⟩ (.slice U t.slots.length G)).setCell ⟨Y,4,none⟩ (.slice Q t.ends.length I)) Y log (k+b.size+6) t (.slice U t.slots.length G) (.slice Q t.ends.length I)):=
        ⟨g1,ae.out,a6.out,aF.out,V.out.z.far5 (by have:=V.out.q;omega) _ _ _ _ _,a4.out.store V.out.c.ty _ _ _ _ _,dL V.out.b (Nat.le_of_lt V.out.q) _ _ _ _ _,V.out.q⟩
       rw[HZ.out] at x8;clear V aF HZ;go_wp2_with fail;go_roundw
       case rel=>exact⟨k+b.size+6,t,_,_,by first |rfl|(go_num)|(congr 1;omega),bc.out⟩
       case measure=>simp[intOf];omega
  ·have aI:Hid (¬∃b more t,Bx.Nx (log.extract k log.size) b more∧Bx.Stp ((k:Int)==0) (Px.abs s) b t):=by
    rintro ⟨b,more,t,hN,_⟩;have h1:=congrArg ByteArray.size hN.1;rw[ByteArray.size_append,Bx.frame_size] at h1;simp at h1;omega
   have HS:Hid (Bx.Says true Bx.first log (Px.abs s) (log.extract k log.size)∧(k:Int)+((log.extract k log.size).size:Int)=(log.size:Int)):=HI.out.stop aI.out
   have d:=HI.out;clear HI aI;have x0:=d.c.c 0 _ rfl;have x1:=d.c.c 1 _ rfl;have x2:=d.c.c 2 _ rfl;have x3:=d.c.c 3 _ rfl;have x4:=d.c.c 4 _ rfl;have z0:=d.z.c 0 _ rfl;have z1:=d.z.c 1 _ rfl;have z2:=d.z.c 2 _ rfl;have z3:=d.z.c 3 _ rfl;have z4:=d.z.c 4 _ rfl;have f0:=d.z.f 0 (by simp);have f1:=d.z.f 1 (by simp);have f2:=d.z.f 2 (by simp);have f3:=d.z.f 3 (by simp);have f4:=d.z.f 4 (by simp)
   have yz:=d.z.ty.lt;have yx:=d.c.ty.lt;have ap:=Hq d.b;have au:=Hq d.z.ty;have ao:=Hq d.a;have ae:=Hq d.ok;clear d;go_wp2_with fail;refine bodyPost_ret (v:=.tuple #[pstV s (.slice ad s.slots.length ay) (.slice aw s.ends.length ah),.int .i64 k]) (by simp[results,Tryz.results63,go_sem,z0,z1,z2,z3,z4]) rfl ⟨⟨s,_,_,_,_,rfl,ae.out,HS.out.1,HS.out.2,ao.out.store au.out _ _ _ _ _⟩,dL ap.out (Nat.le_refl _) _ _ _ _ _⟩
theorem lO {t:ByteArray} (h:ChkR t 0 0):t.size≤300:=by
 rcases h with ⟨_,_,h⟩|⟨h,_⟩|⟨h,_⟩|⟨h,_⟩|⟨h,_⟩
 ·exact absurd h (by decide)
 all_goals exact h
theorem PB.putS {w:World}{B:Nat}{b:Px.Bo}{sl en:Value} (h:PB w B b sl en) (t:Px.St) (e d:Value) (I:PAt w t e d):
 PB (((((w.setCell ⟨B,2,none⟩ (.string t.tab)).setCell ⟨B,3,none⟩ (.int .i64 t.clock)).setCell ⟨B,4,none⟩ (.int .i64 t.next)).setCell ⟨B,5,none⟩ e).setCell ⟨B,6,none⟩ d) B {b with st:=t} e d:=by
 obtain⟨c0,c1,c2,c3,c4,c5,c6,c7,f,ty,_⟩:=h;have st:∀(w:World) (j:Nat) (x:Value),(Typed w B 79∧PAt w t e d)→(Typed (w.setCell ⟨B,j,none⟩ x) B 79∧PAt (w.setCell ⟨B,j,none⟩ x) t e d):=fun w j x h=>⟨h.1.setCell _ _ _,h.2.set h.1 (by decide) (by decide) _ _⟩
 have G:=st _ 6 d (st _ 5 e (st _ 4 (.int .i64 t.next) (st _ 3 (.int .i64 t.clock) (st _ 2 (.string t.tab) ⟨ty,I⟩))));refine⟨?_,?_,?_,?_,?_,?_,?_,?_,fun j J=>?_,G.1,G.2⟩
 case refine_9=>simp[go_sem,f j J]
 all_goals simp[go_sem,c0,c1,c2,c3,c4,c5,c6,c7]
theorem PB.putL {w:World}{B:Nat}{b:Px.Bo}{sl en:Value} (h:PB w B b sl en) (log:ByteArray):PB (w.setCell ⟨B,7,none⟩ (.string log)) B {b with log:=log} sl en:=by
 obtain⟨c0,c1,c2,c3,c4,c5,c6,c7,f,ty,e⟩:=h;refine⟨?_,?_,?_,?_,?_,?_,?_,?_,fun j d=>?_,ty.setCell _ _ _,e.set ty (by decide) (by decide) _ _⟩
 case refine_9=>simp[go_sem,f j d]
 all_goals simp[go_sem,c0,c1,c2,c3,c4,c5,c6,c7]
theorem lf {n q:Nat}{w e:World} (h:Below n w e) (d:n≤q) (O G I J Q:Value):Below n w (((((e.setCell ⟨q,2,none⟩ O).setCell ⟨q,3,none⟩ G).setCell ⟨q,4,none⟩ I).setCell ⟨q,5,none⟩ J).setCell ⟨q,6,none⟩ Q):=
 ((((h.setCell d _).setCell d _).setCell d _).setCell d _).setCell d _
set_option maxRecDepth 10000 in
set_option maxHeartbeats 0 in
theorem kG (b:Px.Bo) (B:Nat) (w:World) (hm:Bx.MayS (Px.abs b.st)) (hB:∃sl en,PB w B b sl en):
 Calls Tryz.prog 15 #[.pointer (some ⟨B,0,none⟩)] w fun e Q=>e=.returned (.int .i64 (Px.compB b).log.size)∧(∃sl en,PB Q B (Px.compB b) sl en)∧w.grownBy Q (some B):=by
 obtain⟨sl,en,hB⟩:=hB;obtain⟨ad,O,rfl,af⟩:=hB.rows.sl.form;obtain⟨U,I,rfl,V⟩:=hB.rows.en.form;have J:=Hq hB;have HF:=Hq hm.fit;have HT:Hid (b.st.tab.size≤1000):=Nat.le_trans (lO hm.tab) (by decide)
 have HZ:Hid ((Bx.frame (Bx.wholeS (Px.abs b.st))).size≤456):=Px.whole_le hm;have ao:=hB.ty.lt;have e2:=hB.c2;have e3:=hB.c3;have e4:=hB.c4;have e5:=hB.c5;have e6:=hB.c6;clear hB hm
 go_enter Tryz.func15,Tryz.ntmps15
 go_wp2_with fail;refine (iU b.st _ _ _ HF.out HT.out J.out.rows).mono ?_;rintro e w1 ⟨rfl,G⟩;have d:=J.out.later G;have hX:Hid (PB (w1.setCell ⟨B,7,none⟩ (.string (Bx.frame (Bx.wholeS (Px.abs b.st))))) B (Px.compB b) (.slice ad b.st.slots.length O) (.slice U b.st.ends.length I)):=d.putL _;have Y:Hid (w.grownBy (w1.setCell ⟨B,7,none⟩ (.string (Bx.frame (Bx.wholeS (Px.abs b.st))))) (some B)):=dJ (dy G _) _ _;have c7:=d.c7;have f7:=d.f 7 (by decide)
 have Z:=d.ty.lt;have HC:Hid ((Px.compB b).log=Bx.frame (Bx.wholeS (Px.abs b.st))):=rfl;have hz:=HZ.out;clear e2 e3 e4 e5 e6 d G;generalize Bx.frame (Bx.wholeS (Px.abs b.st))=lg at *;go_wp2_with fail;go_ret;exact⟨by rw[HC.out];rfl,⟨_,_,hX.out⟩,Y.out⟩
def OpR (l r:Int) (log:ByteArray) (w w':World) (e:Ending):Prop:=∃(s:Px.St) (q:ByteArray) (n:Int) (B:Nat),e=.returned (.tuple #[.pointer (some ⟨B,0,none⟩),.int .i64 n,.int .i64 0])∧Bx.Says true Bx.first log (Px.abs s) q∧n+(q.size:Int)=(log.size:Int)∧KB w w' B (Px.openB l r s)
set_option maxRecDepth 10000 in
set_option maxHeartbeats 0 in
theorem oR (l r:Int) (log:ByteArray) (w:World) (h:mayB l r=true) (hl:log.size≤4000) (hT:TT w):Calls Tryz.prog 34 #[.int .i64 l,.int .i64 r,.string log] w fun e w'=>OpR l r log w w' e:=by
 have H:=Hq h;have HT:=Hq hT;clear h hT
 go_enter Tryz.func34,Tryz.ntmps34
 go_wp2_with fail;refine (kg l r _ H.out).mono ?_;rintro e w1 ⟨⟨B,rfl,hB,hP⟩,hb⟩;have HP:=Hq hP;have HB:=Hq hb;have aH:=hP.ty.lt;have ai:=Hq (HT.out.later hb);clear hP hb;have h4:¬(4000:Int)<(log.size:Int):=by omega
 go_wp2_with fail;refine (pm log w1 (by omega) ai.out.lh ai.out.mo).mono ?_
 rintro e w2 ⟨⟨s,sl,en,q,n,rfl,ae,V,hn,hA⟩,hb⟩;have HS:Hid (Px.Ok s∧Bx.Says true Bx.first log (Px.abs s) q∧n+(q.size:Int)=(log.size:Int)):=⟨ae,V,hn⟩
 have aP:=ae.len;have hm:Bx.MayS (Px.abs s):=Bx.says_may V Bx.first_may;have am:Bx.MayS (Px.abs (Px.intP s)):=by rw[Px.int_abs];exact hm.int
 have HF:=Hq am.fit;have ay:Hid ((Px.intP s).tab.size≤1000):=Nat.le_trans (lO am.tab) (by decide)
 obtain⟨ad,Y,rfl,aN⟩:=hA.sl.form;obtain⟨aa,I,rfl,aD⟩:=hA.en.form;have ak:=hb.trans ((dx w2 (pstO s (.slice ad s.slots.length Y) (.slice aa s.ends.length I))).mono hb.size);have hI:=PIn.new w2 s (.slice ad s.slots.length Y) (.slice aa s.ends.length I);have ap:=hA.later (dx w2 (pstO s (.slice ad s.slots.length Y) (.slice aa s.ends.length I)));have a5:=hb.size;clear ae V hn hm am hA hb;go_upto_region 7 with fail;generalize w2.alloc (pstO s (.slice ad s.slots.length Y) (.slice aa s.ends.length I))=W at *;generalize w2.heap.size=xq at *;have aq:=Hq ap;have ar:=Hq (HP.out.later ak);have ah:=Hq (HB.out.trans (ak.mono HB.out.size));obtain⟨i0,i1,i2,i3,i4⟩:=hI;clear ap ak HP HB ai HT;go_wp2_with fail;refine (py s _ _ _ (by omega) aq.out).mono ?_
 rintro e w3 ⟨⟨a4,a3,rfl,Z⟩,ab⟩;obtain⟨aj,Q,rfl,aF⟩:=Z.sl.form;obtain⟨ag,U,rfl,aE⟩:=Z.en.form;have d:=ar.out.later ab;have G:=d.putS (Px.intP s) _ _ Z;have al:Hid (Below w.heap.size w _):=lf (ah.out.trans (ab.mono ah.out.size)) hB (.string (Px.intP s).tab) (.int .i64 (Px.intP s).clock) (.int .i64 (Px.intP s).next) (.slice aj (Px.intP s).slots.length Q) (.slice ag (Px.intP s).ends.length U);have c2:=d.c2;have c3:=d.c3;have c4:=d.c4;have c5:=d.c5;have c6:=d.c6;have f2:=d.f 2 (by decide);have f3:=d.f 3 (by decide);have f4:=d.f 4 (by decide);have f5:=d.f 5 (by decide);have f6:=d.f 6 (by decide)
 have aZ:=d.ty.lt;have HO:Hid (Px.openB l r s=⟨l,r,Px.intP s,Bx.frame (Bx.wholeS (Px.abs (Px.intP s)))⟩):=rfl;clear i0 i1 i2 i3 i4 Z ab d ar ah aq;generalize Px.intP s=t at *;go_upto_region 8 with fail;clear c2 c3 c4 c5 c6 f2 f3 f4 f5 f6;generalize ((((w3.setCell ⟨B,2,none⟩ (.string t.tab)).setCell ⟨B,3,none⟩ (.int .i64 t.clock)).setCell ⟨B,4,none⟩ (.int .i64 t.next)).setCell ⟨B,5,none⟩ (.slice aj t.slots.length Q)).setCell ⟨B,6,none⟩ (.slice ag t.ends.length U)=W4 at *;have O:=Hq G;have c2:=G.c2;have c3:=G.c3;have c4:=G.c4;have c5:=G.c5;have c6:=G.c6;have aU:=G.ty.lt;clear G;go_wp2_with fail;refine (iU t _ _ _ HF.out ay.out O.out.rows).mono ?_;rintro e w5 ⟨rfl,af⟩;have J:=O.out.later af;have hX:Hid (PB (w5.setCell ⟨B,7,none⟩ (.string (Bx.frame (Bx.wholeS (Px.abs t))))) B ⟨l,r,t,Bx.frame (Bx.wholeS (Px.abs t))⟩ (.slice aj t.slots.length Q) (.slice ag t.ends.length U)):=J.putL _;have hG:Hid (Below w.heap.size w (w5.setCell ⟨B,7,none⟩ (.string (Bx.frame (Bx.wholeS (Px.abs t)))))):=(al.out.trans (af.mono al.out.size)).setCell hB _;have c7:=J.c7;have f7:=J.f 7 (by decide)
 have aQ:=J.ty.lt;clear c2 c3 c4 c5 c6 J af O al;go_wp2_with fail;refine bodyPost_ret (v:=.tuple #[.pointer (some ⟨B,0,none⟩),.int .i64 n,.int .i64 0]) (by simp[results,Tryz.results34]) rfl ?_
 exact⟨s,q,n,B,rfl,HS.out.2.1,HS.out.2.2,hB,hG.out,_,_,by rw[HO.out];exact hX.out⟩
end Go.Proofs.YtdajolpoiffimabGreatDoor
