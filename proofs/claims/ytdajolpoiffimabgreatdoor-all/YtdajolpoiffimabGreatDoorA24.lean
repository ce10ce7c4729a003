import Derived.Deep.RegionHeld3
import Derived.Deep.DrawnRows
import Derived.Test.YtdajolpoiffimabGreatDoorA23

namespace Go.Proofs.YtdajolpoiffimabGreatDoor
open Go.RowKit
theorem oY {s:Px.St} (h:Px.Ok s) (n:Int) (h0:(Px.startP s n).2=0):Px.Ok (Px.startP s n).1∧(Px.startP s n).1.slots.length=s.slots.length∧0≤n∧n≤100000:=by
 rcases Px.start_abs h.dist n with ⟨e8,hf⟩|⟨i,hi,hF,hn,V⟩
 ·omega
 rcases V with ⟨e,q⟩|⟨e,O,J⟩|⟨e,O,J,U⟩|⟨e,O,J,U,G,Q⟩
 ·omega
 ·omega
 ·omega
 have w:s.slots[i]∈s.slots:=List.getElem_mem hi
 have d:Bx.StOk (Px.abs (Px.startP s n).1):=by
  have:=Bx.about_ok h.st 83 n;rw[Q] at this;exact this
 have I:=h.ex _ w;have Y:s.slots[i].heard=ByteArray.empty:=I.2.2.2.2.2 (by omega)
 obtain⟨s1,s5,sz⟩:=Px.steps_size h w;have he:=h.each w;have Z:s.next≤10000:=h.st.n2;refine⟨?_,?_,by omega,by omega⟩
 ·rw[G] at d ⊢;exact h.repl _ d ⟨h.st.c1,h.st.c2,by show (0:Int)≤1;omega,by show (1:Int)≤((Px.stepsL s s.slots[i]).length:Int);omega,by show s.slots[i].heard.size≤8;omega,fun q=>by simp[Px.beg] at q⟩
 ·rw[G];exact iP _ _
theorem pR (s:Px.St) (n:Int):(Px.startP s n).2=0∨(Px.startP s n).2=8∨(Px.startP s n).2=9∨(Px.startP s n).2=10∨(Px.startP s n).2=11:=by
 unfold Px.startP
 cases Px.find s.slots n with
 | none=>right;left;rfl
 | some x=>simp only;repeat' split
           all_goals simp
set_option maxRecDepth 10000 in
set_option maxHeartbeats 4000000 in
theorem mD (b:Px.Bo) (B:Nat) (n:Int) (sl en:Value) (w:World) (hO:Px.Ok b.st) (ba:b.log.size≤10000) (hT:TabLH w) (hB:PB w B b sl en):
 Calls Tryz.prog 25 #[.pointer (some ⟨B,0,none⟩),.int .i64 n] w fun e w'=>AnsA (Px.startB b n) B w e w':=by
 obtain⟨ad,aC,rfl,bM⟩:=hB.rows.sl.form;obtain⟨aA,ak,rfl,bG⟩:=hB.rows.en.form;have HB:=Hq hB;have HT:=Hq hT;have HO:=Hq hO;have hl:b.st.slots.length≤8:=hO.len;have he:b.st.ends.length≤6:=hO.st.en;have bV:=hB.ty.lt;have e2:=hB.c2;have e3:=hB.c3;have e4:=hB.c4;have e5:=hB.c5;have e6:=hB.c6;clear hB hT hO
 go_enter Tryz.func25,Tryz.ntmps25
 go_wp2_with fail;refine (gJ b.st n _ _ _ HO.out HT.out HB.out.rows).mono ?_;rintro e w1 ⟨⟨bS,bW,rfl,aj⟩,am⟩;have ao:=HB.out.later am;have ap:=dx am (some B);have aJ:=HT.out.later am;clear e2 e3 e4 e5 e6 am;obtain⟨aa,V,bw,_⟩:=aj.sl.form;obtain⟨Z,U,bz,_⟩:=aj.en.form;subst bw bz;have bA:=pR b.st n
 by_cases hd:(Px.startP b.st n).2=0
 rotate_left
 ·have HM:Hid (Px.startB b n=(b,ByteArray.empty,(Px.startP b.st n).2)):=by unfold Hid Px.startB;rw[if_pos hd]
  have bU:((Px.startP b.st n).2 !=0)=true:=by simpa using hd
  have ai:Hid (∀o,PB (w1.alloc o) B b (.slice ad b.st.slots.length aC) (.slice aA b.st.ends.length ak)):=fun o=>ao.later (cw w1 o)
  have ah:Hid (∀o,w.grownBy (w1.alloc o) (some B)):=fun o=>dz ap (dx (cw w1 o) _)
  clear hd ao ap aj aJ;generalize (Px.startP b.st n).2=r at *;generalize (Px.startP b.st n).1=t at *;go_wp2_with fail;go_ret2;exact AnsA.of HM.out ⟨_,_,ai.out _⟩ (ah.out _)
 obtain⟨ae,aO,a9,aV⟩:=oY HO.out n hd;have bs:=Hq ae;have bY:(Px.startP b.st n).1.slots.length≤8:=ae.len;have bX:(Px.startP b.st n).1.ends.length≤6:=ae.st.en
 have aw:Hid (Px.startB b n=if b.limit<((Px.runs (Px.startP b.st n).1:Nat):Int) then (b,ByteArray.empty,12) else Px.talkB b (Px.startP b.st n).1 n ByteArray.empty (Bx.frame (Bx.body (chS n)))):=by
  unfold Hid Px.startB;rw[if_neg (by omega)]
 rw[hd];clear bA hd ae aO;generalize (Px.startP b.st n).1=t at *;have au:=ao.later (cw w1 (pstO t (.slice aa t.slots.length V) (.slice Z t.ends.length U)));have bc:=dz ap (dx (cw w1 (pstO t (.slice aa t.slots.length V) (.slice Z t.ends.length U))) (some B));have aT:=aj.later (cw w1 (pstO t (.slice aa t.slots.length V) (.slice Z t.ends.length U)));have aY:=aJ.later (cw w1 (pstO t (.slice aa t.slots.length V) (.slice Z t.ends.length U)));have a7:=PIn.new w1 t (.slice aa t.slots.length V) (.slice Z t.ends.length U);have bR:w1.heap.size<(w1.alloc (pstO t (.slice aa t.slots.length V) (.slice Z t.ends.length U))).heap.size:=by simp
 clear ao ap aj aJ;go_upto_region 2 with fail;generalize w1.alloc (pstO t (.slice aa t.slots.length V) (.slice Z t.ends.length U))=W2 at *;generalize w1.heap.size=tq at *;have aB:=Hq au;have aI:=Hq bc;have al:=Hq aT;have aE:=Hq aY;have aH:=Hq a7;obtain⟨i0,i1,i2,i3,i4⟩:=a7;have c0:=au.c0;have bF:B<W2.heap.size:=au.ty.lt
 have bT:((Px.runs t:Nat):Int)≤100:=by
  have:Px.runs t≤t.slots.length:=by unfold Px.runs;exact List.length_filter_le _ _
  omega
 clear au bc aT aY;go_wp2_with fail
 go_region_held3 (fun w'=>∀b o,b<W2.heap.size→w'.cell? ⟨b,o,none⟩=W2.cell? ⟨b,o,none⟩)
  ((intro b' o' h1;first |(exact Y.cell (p:=⟨b',o',none⟩) h1)|rfl))
  ((go_at_call 55;refine (kZ t _ _ _ ?hl ?hs).mono ?_;(case hl=>omega);(case hs=>exact al.out.later (Below.refl _ _).drew);rintro e w4 ⟨rfl,aU⟩;have Y:Below W2.heap.size W2 w4:=(Below.refl _ _).drew.trans aU))
 rename ∀(b o:Nat),b<W2.heap.size→w4.cell? ⟨b,o,none⟩=W2.cell? ⟨b,o,none⟩=>hSold
 clear hSold;have aF:=Hq (aB.out.later Y);have ay:Hid (w.grownBy w4 (some B)):=dz aI.out (dx Y _);have a4:=Hq (al.out.later Y);have a6:=Hq (aE.out.later Y);have aX:=aH.out.later Y;clear i0 i1 i2 i3 i4 c0 bF aB aI al aE aH Y aU
 by_cases aq:b.limit<((Px.runs t:Nat):Int)
 ·have HM:Hid (Px.startB b n=(b,ByteArray.empty,12)):=by unfold Hid;rw[aw.out,if_pos aq]
  have bm:decide (b.limit<((Px.runs t:Nat):Int))=true:=decide_eq_true aq;clear aX;go_wp2_with fail;go_ret2;exact AnsA.of HM.out ⟨_,_,aF.out⟩ ay.out
 have ar:Hid (Px.startB b n=Px.talkB b t n ByteArray.empty (Bx.frame (Bx.body (chS n)))):=by unfold Hid;rw[aw.out,if_neg aq]
 have bm:decide (b.limit<((Px.runs t:Nat):Int))=false:=decide_eq_false aq;clear aw;obtain⟨i0,i1,i2,i3,i4⟩:=aX;go_wp2_with fail;refine (kG t n _ _ _ _ bs.out (by show (0:Nat)≤100;omega) a6.out a4.out).mono ?_
 rintro e d ⟨hR,ax⟩;have ab:=aF.out.later ax;have ac:=dz ay.out (dx ax (some B));clear i0 i1 i2 i3 i4 ax aF ay a4 a6
 cases hR with
 | none h=>
   have HM:Hid (Px.startB b n=(b,ByteArray.empty,8)):=by unfold Hid;rw[ar.out];unfold Px.talkB;rw[h]
   have ai:Hid (∀o,PB (d.alloc o) B b (.slice ad b.st.slots.length aC) (.slice aA b.st.ends.length ak)):=fun o=>ab.later (cw d o)
   have ah:Hid (∀o,w.grownBy (d.alloc o) (some B)):=fun o=>dz ac (dx (cw d o) _)
   clear ab ac h;go_wp2_with fail;go_ret2;exact AnsA.of HM.out ⟨_,_,ai.out _⟩ (ah.out _)
 | wait y h hs=>
   have HM:Hid (Px.startB b n=(b,ByteArray.empty,9)):=by unfold Hid;rw[ar.out];unfold Px.talkB;rw[h];simp only;rw[if_pos hs]
   have ai:Hid (∀o,PB (d.alloc o) B b (.slice ad b.st.slots.length aC) (.slice aA b.st.ends.length ak)):=fun o=>ab.later (cw d o)
   have ah:Hid (∀o,w.grownBy (d.alloc o) (some B)):=fun o=>dz ac (dx (cw d o) _)
   clear ab ac h hs;go_wp2_with fail;go_ret2;exact AnsA.of HM.out ⟨_,_,ai.out _⟩ (ah.out _)
 | ok y sl2 en2 said over u h hs ht h1 h2 ha=>
   have HM:Hid (Px.startB b n=ctB b u n (Bx.frame (Bx.body (chS n))) said over):=by unfold Hid;rw[ar.out,j6 b t n _ _ y h hs,ht,h1,h2];rfl
   have a2:u.slots.length≤10000∧u.ends.length≤10000:=by
    rw[ht];have:(Px.talkT t y ByteArray.empty).slots.length=t.slots.length:=iP _ _;have e2:(Px.talkT t y ByteArray.empty).ends=t.ends:=rfl
    constructor
    ·show (Px.talkT t y ByteArray.empty).slots.length≤10000;omega
    ·show (Px.talkT t y ByteArray.empty).ends.length≤10000;rw[e2];omega
   obtain⟨J,G,bu,_⟩:=ha.sl.form;obtain⟨O,I,bB,_⟩:=ha.en.form;subst bu bB;have a5:=ab.later (cw d (.cells #[.string u.tab,.int .i64 u.clock,.int .i64 u.next,.slice J u.slots.length G,.slice O u.ends.length I,.string said,.bool over] 110));have aW:=ha.later (cw d (.cells #[.string u.tab,.int .i64 u.clock,.int .i64 u.next,.slice J u.slots.length G,.slice O u.ends.length I,.string said,.bool over] 110));have bb:=dz ac (dx (cw d (.cells #[.string u.tab,.int .i64 u.clock,.int .i64 u.next,.slice J u.slots.length G,.slice O u.ends.length I,.string said,.bool over] 110)) (some B));have y0:(d.alloc (.cells #[.string u.tab,.int .i64 u.clock,.int .i64 u.next,.slice J u.slots.length G,.slice O u.ends.length I,.string said,.bool over] 110)).cell? ⟨d.heap.size,0,none⟩=some (.string u.tab):=by simp[go_sem]
   have y1:(d.alloc (.cells #[.string u.tab,.int .i64 u.clock,.int .i64 u.next,.slice J u.slots.length G,.slice O u.ends.length I,.string said,.bool over] 110)).cell? ⟨d.heap.size,1,none⟩=some (.int .i64 u.clock):=by simp[go_sem]
   have y2:(d.alloc (.cells #[.string u.tab,.int .i64 u.clock,.int .i64 u.next,.slice J u.slots.length G,.slice O u.ends.length I,.string said,.bool over] 110)).cell? ⟨d.heap.size,2,none⟩=some (.int .i64 u.next):=by simp[go_sem]
   have y3:(d.alloc (.cells #[.string u.tab,.int .i64 u.clock,.int .i64 u.next,.slice J u.slots.length G,.slice O u.ends.length I,.string said,.bool over] 110)).cell? ⟨d.heap.size,3,none⟩=some (.slice J u.slots.length G):=by simp[go_sem]
   have y4:(d.alloc (.cells #[.string u.tab,.int .i64 u.clock,.int .i64 u.next,.slice J u.slots.length G,.slice O u.ends.length I,.string said,.bool over] 110)).cell? ⟨d.heap.size,4,none⟩=some (.slice O u.ends.length I):=by simp[go_sem]
   have y5:(d.alloc (.cells #[.string u.tab,.int .i64 u.clock,.int .i64 u.next,.slice J u.slots.length G,.slice O u.ends.length I,.string said,.bool over] 110)).cell? ⟨d.heap.size,5,none⟩=some (.string said):=by simp[go_sem]
   have y6:(d.alloc (.cells #[.string u.tab,.int .i64 u.clock,.int .i64 u.next,.slice J u.slots.length G,.slice O u.ends.length I,.string said,.bool over] 110)).cell? ⟨d.heap.size,6,none⟩=some (.bool over):=by simp[go_sem]
   clear ab ac h hs ht h1 h2 ha;go_upto_region 7 with fail;generalize d.alloc (.cells #[.string u.tab,.int .i64 u.clock,.int .i64 u.next,.slice J u.slots.length G,.slice O u.ends.length I,.string said,.bool over] 110)=W6 at *;generalize d.heap.size=uq at *;have aG:=Hq a5;have aK:=Hq aW;have aD:=Hq bb;clear a5 aW bb;go_wp2_with fail;refine (mS n _ a9 aV).mono ?_;rintro e w7 ⟨rfl,Q⟩;have a3:(Bx.frame (Bx.body (chS n))).size≤10000:=by have:=eY (chS n) (by show (0:Nat)≤300;omega);omega
   have aZ:=Hq (aG.out.later Q);have a8:=Hq (aK.out.later Q);have bt:Hid (w.grownBy w7 (some B)):=dz aD.out (dx Q _);replace y0:=cell_later Q y0;replace y1:=cell_later Q y1;replace y2:=cell_later Q y2;replace y3:=cell_later Q y3;replace y4:=cell_later Q y4;replace y5:=cell_later Q y5;replace y6:=cell_later Q y6;clear Q aG aK aD
   have HX:Hid (∀e w3,AnsA (ctB b u n (Bx.frame (Bx.body (chS n))) said over) B w7 e w3→∃y r,e=.returned (.tuple #[.string y,.int .i64 r])∧AnsA (Px.startB b n) B w (.returned (.tuple #[.string y,.int .i64 r])) w3):=by
    intro e w3 hA
    cases hA with
    | mk _ hB hg=>exact⟨_,_,rfl,by rw[←HM.out] at hB ⊢;exact AnsA.mk w3 hB (dz bt.out hg)⟩
   have hc:=a2.1;have hd:=a2.2;clear ar;generalize Bx.frame (Bx.body (chS n))=fr at *
   cases over
   ·go_wp2_with fail;refine (gM b B u n _ said _ _ _ _ w7 ba a3 aZ.out a8.out).mono ?_;intro e w3 ag;obtain⟨y',r',rfl,hF⟩:=HX.out _ _ ag;have HF:=Hq hF;clear ag hF y0 y1 y2 y3 y4 y5 y6;go_wp2_with fail;go_ret2;exact HF.out
   ·go_wp2_with fail;refine (gg b B u n _ said _ _ _ _ w7 ba a3 hc hd a9 aV aZ.out a8.out).mono ?_;intro e w3 ag;obtain⟨y',r',rfl,hF⟩:=HX.out _ _ ag;have HF:=Hq hF;clear ag hF y0 y1 y2 y3 y4 y5 y6;go_wp2_with fail;go_ret2;exact HF.out
inductive AnsT (p:Px.Bo×Int×Int) (B:Nat) (w:World):Ending→World→Prop
 | mk (w':World) (hB:PBx w' B p.1) (hg:w.grownBy w' (some B)):AnsT p B w (.returned (.tuple #[.int .i64 p.2.1,.int .i64 p.2.2])) w'
theorem AnsT.of {p:Px.Bo×Int×Int} {B:Nat} {w d:World} {b:Px.Bo} {x r:Int} (h:p=(b,x,r)) (hB:PBx d B b) (e:w.grownBy d (some B)):AnsT p B w (.returned (.tuple #[.int .i64 x,.int .i64 r])) d:=by
 subst h;exact AnsT.mk d hB e
theorem px (s:Px.St) (m:Int):(Px.clockP s m).2=0∨(Px.clockP s m).2=4∨(Px.clockP s m).2=6∨(Px.clockP s m).2=7:=by
 rw[Px.clock_err];repeat' split
 all_goals simp
theorem rB (s:Px.St) (n:Int):(Px.failP s n).2=0∨(Px.failP s n).2=8∨(Px.failP s n).2=9:=by
 unfold Px.failP
 cases Px.find s.slots n with
 | none=>right;left;rfl
 | some x=>simp only;repeat' split
           all_goals simp
theorem pK (l:List Int):∀(p:Px.St×ByteArray),Px.Ok p.1→Px.Ok (l.foldl Px.failStep p).1:=by
 induction l with
 | nil=>intro p h;exact h
 | cons n r d=>
   intro p h
   apply d
   unfold Px.failStep
   by_cases q:(Px.failP p.1 n).2=0
   ·rw[if_pos q];exact Px.fail_ok h n q
   ·rw[if_neg q];exact h
theorem qx (l:List Int):∀(p:Px.St×ByteArray),(l.foldl Px.failStep p).2.size≤p.2.size+400*l.length:=by
 induction l with
 | nil=>intro p;simp
 | cons n r d=>
   intro p;have h1:=d (Px.failStep p n)
   have h2:(Px.failStep p n).2.size≤p.2.size+400:=by
    unfold Px.failStep
    by_cases q:(Px.failP p.1 n).2=0
    ·rw[if_pos q];have:=eY (chF n) (by show (0:Nat)≤300;omega);show (p.2++_).size≤_;rw[ByteArray.size_append];omega
    ·rw[if_neg q];omega
   rw[List.foldl_cons,List.length_cons];omega
theorem mV (l:List Int) (p:Px.St×ByteArray) (k:Nat) (h:k<l.length):(l.take (k+1)).foldl Px.failStep p=Px.failStep ((l.take k).foldl Px.failStep p) l[k]:=by
 rw[List.take_succ_eq_append_getElem h,List.foldl_append];rfl
theorem pq {s:Px.St} (h:Px.Ok s) {n:Int} (d:n∈Px.late s):0≤n∧n≤100000:=by
 unfold Px.late at d;obtain⟨x,e,rfl⟩:=List.mem_map.1 d;have:=h.each (List.mem_filter.1 e).1;have:s.next≤10000:=h.st.n2;omega
theorem qi (s:Px.St):(Px.late s).length≤s.slots.length:=by unfold Px.late;rw[List.length_map];exact List.length_filter_le _ _
structure TkIn (w wr:World) (q:Nat) (t:Px.St) (slt ent v:Value) (L:List Int):Prop where
 pw:PW wr q t slt ent
 at':PAt wr t slt ent
 row:TRow wr 3 v L.length (L.map (Value.int .i64))
 bel:Below w.heap.size w wr
theorem TkIn.later {w wr G:World} {q:Nat} {t:Px.St} {d e v:Value} {L:List Int} (h:TkIn w wr q t d e v L) (hb:Below wr.heap.size wr G):TkIn w G q t d e v L:=
 ⟨h.pw.later hb,h.at'.later hb,h.row.later hb,h.bel.trans (hb.mono h.bel.size)⟩
theorem TkIn.put {w wr:World} {q:Nat} {t u:Px.St} {I G e d v:Value} {L:List Int} (h:TkIn w wr q t I G v L) (O:w.heap.size≤q) (J:PAt wr u e d):
 TkIn w (((((wr.setCell ⟨q,0,none⟩ (.string u.tab)).setCell ⟨q,1,none⟩ (.int .i64 u.clock)).setCell ⟨q,2,none⟩ (.int .i64 u.next)).setCell ⟨q,3,none⟩ e).setCell ⟨q,4,none⟩ d) q u e d v L:=by
 refine⟨h.pw.put u e d,J.store h.pw.ty _ _ _ _ _,?_,dE h.bel O _ _ _ _ _⟩;have st:∀(w:World) (j:Nat) (x:Value),(Typed w q 77∧TRow w 3 v L.length (L.map (Value.int .i64)))→(Typed (w.setCell ⟨q,j,none⟩ x) q 77∧TRow (w.setCell ⟨q,j,none⟩ x) 3 v L.length (L.map (Value.int .i64))):=fun w j x h=>⟨h.1.setCell _ _ _,h.2.set h.1 (by decide) _ _⟩
 exact (st _ _ _ (st _ _ _ (st _ _ _ (st _ _ _ (st _ _ _ ⟨h.pw.ty,h.row⟩))))).2
set_option maxRecDepth 10000 in
set_option maxHeartbeats 8000000 in
theorem oK (b:Px.Bo) (B:Nat) (m:Int) (sl en:Value) (w:World) (hO:Px.Ok b.st) (db:b.log.size≤10000) (hT:TabLH w) (hM:Tab w) (hB:PB w B b sl en):
 Calls Tryz.prog 22 #[.pointer (some ⟨B,0,none⟩),.int .i64 m] w fun e w'=>AnsT (Px.tickB b m) B w e w':=by
 obtain⟨ad,bY,rfl,cy⟩:=hB.rows.sl.form;obtain⟨bS,bA,rfl,cn⟩:=hB.rows.en.form;have HB:=Hq hB;have HT:=Hq hT;have b4:=Hq hM;have HO:=Hq hO;have hl:b.st.slots.length≤8:=hO.len;have he:b.st.ends.length≤6:=hO.st.en;have da:1≤b.st.next:=hO.st.n1;have cO:b.st.next≤10000:=hO.st.n2;have cU:=hB.ty.lt;have e2:=hB.c2;have e3:=hB.c3;have e4:=hB.c4;have e5:=hB.c5;have e6:=hB.c6;clear hB hT hO hM
 go_enter Tryz.func22,Tryz.ntmps22
 go_wp2_with fail;refine (gL b.st m _ _ _ HO.out HT.out b4.out HB.out.rows).mono ?_;rintro e w1 ⟨⟨aI,aU,rfl,af⟩,aq⟩;have ay:=HB.out.later aq;have aR:=dx aq (some B);have V:=aq;clear e2 e3 e4 e5 e6 aq;obtain⟨ab,O,bZ,_⟩:=af.sl.form;obtain⟨aa,J,b3,_⟩:=af.en.form;subst bZ b3;have b5:=px b.st m
 by_cases hd:(Px.clockP b.st m).2=0
 rotate_left
 ·have HM:Hid (Px.tickB b m=(b,0,(Px.clockP b.st m).2)):=by unfold Hid Px.tickB;rw[if_pos hd]
  have cS:((Px.clockP b.st m).2 !=0)=true:=by simpa using hd
  have aB:Hid (∀o,PB (w1.alloc o) B b (.slice ad b.st.slots.length bY) (.slice bS b.st.ends.length bA)):=fun o=>ay.later (cw w1 o)
  have az:Hid (∀o,w.grownBy (w1.alloc o) (some B)):=fun o=>dz aR (dx (cw w1 o) _)
  clear hd ay aR af V;generalize (Px.clockP b.st m).2=r at *;generalize (Px.clockP b.st m).1=t at *;go_wp2_with fail;go_ret2;exact AnsT.of HM.out ⟨_,_,aB.out _⟩ (az.out _)
 have d:=Px.clock_ok HO.out hd;have aW:=Px.clock_st hd;have bQ:=aW.1;have bT:=aW.2.1;have bf:=Hq d;have df:(Px.clockP b.st m).1.slots.length≤8:=d.len;have cZ:(Px.clockP b.st m).1.ends.length≤6:=d.st.en;have cv:1≤(Px.clockP b.st m).1.next:=d.st.n1;have ct:(Px.clockP b.st m).1.next≤10000:=d.st.n2;have bv: -1≤(Px.clockP b.st m).1.clock:=d.st.c1;have bD:(Px.clockP b.st m).1.clock≤4223371679:=d.st.c2
 have ba:Hid (Px.tickB b m=if b.room<(b.log.size:Int)+((Px.late (Px.clockP b.st m).1).foldl Px.failStep ((Px.clockP b.st m).1,Bx.frame (Bx.body (chCl m)))).2.size then (b,0,13)
  else ({b with st:=((Px.late (Px.clockP b.st m).1).foldl Px.failStep ((Px.clockP b.st m).1,Bx.frame (Bx.body (chCl m)))).1,log:=b.log++((Px.late (Px.clockP b.st m).1).foldl Px.failStep ((Px.clockP b.st m).1,Bx.frame (Bx.body (chCl m)))).2},(Px.clockP b.st m).1.next-b.st.next,0)):=by
  unfold Hid Px.tickB;rw[if_neg (by omega)];rfl
 rw[hd];clear b5 hd d aW;generalize (Px.clockP b.st m).1=t at *;have a9:=ay.later (cw w1 (pstO t (.slice ab t.slots.length O) (.slice aa t.ends.length J)));have a6:=V.alloc V.size (pstO t (.slice ab t.slots.length O) (.slice aa t.ends.length J));have ar:=af.later (cw w1 (pstO t (.slice ab t.slots.length O) (.slice aa t.ends.length J)));have aV:=PW.new w1 t (.slice ab t.slots.length O) (.slice aa t.ends.length J);have hq:w.heap.size≤w1.heap.size:=V.size;clear ay aR af V;go_upto_region 2 with fail;generalize w1.alloc (pstO t (.slice ab t.slots.length O) (.slice aa t.ends.length J))=W2 at *;generalize w1.heap.size=q at *;have ac:=Hq a6;have aS:=Hq ar;have a7:=Hq aV;obtain⟨i0,i1,i2,i3,i4⟩:=aV.st;have c4:=a9.c4;have dh:B<W2.heap.size:=a9.ty.lt;clear a9 a6 ar aV;go_wp2_with fail
 go_quiet (fail)
 clear c4 i0 i1 i2 i3 i4;go_wp2_with fail;refine (m9 m _ bQ bT).mono ?_;rintro e w3 ⟨rfl,aL⟩;have aE:Below W2.heap.size W2 w3:=(below_drewN (Below.refl _ _) nq).trans aL;clear aL;have am:=Hq (ac.out.trans (aE.mono ac.out.size));have aY:=Hq (aS.out.later aE);have aK:=Hq (a7.out.later aE);obtain⟨i0,i1,i2,i3,i4⟩:=aK.out.st;clear aE ac aS a7;have cR:(Bx.frame (Bx.body (chCl m))).size≤400:=eY (chCl m) (by show (0:Nat)≤300;omega)
 generalize Bx.frame (Bx.body (chCl m))=fr at *;go_wp2_with fail;refine (jr t _ _ _ (by omega) bv bD aY.out).mono ?_
 rintro e w4 ⟨⟨v,rfl,a3⟩,au⟩;have ao:=TRow.of_own a3;obtain⟨bk,aT,bU,_⟩:=ao.form;subst bU
 have bm:Hid (TkIn w w4 q t (.slice ab t.slots.length O) (.slice aa t.ends.length J) (.slice bk (Px.late t).length aT) (Px.late t)):=
  ⟨aK.out.later au,aY.out.later au,ao,am.out.trans (au.mono am.out.size)⟩
 have cN:=qi t;have bO:Hid (∀n∈Px.late t,0≤n∧n≤100000):=fun n hn=>pq bf.out hn
 clear i0 i1 i2 i3 i4 a3 au ao am aY aK;generalize Px.late t=L at *;go_wp2_with fail
 go_loopw [9,11] (fun f i wr=>∃(k:Nat) (aI aU:Value),k≤L.length∧i=.int .i64 k∧f=.string ((L.take k).foldl Px.failStep (t,fr)).2∧TkIn w wr q ((L.take k).foldl Px.failStep (t,fr)).1 aI aU (.slice bk L.length aT) L) (fun _ i _=>L.length-(intOf i).toNat)
 case atStart=>exact⟨0,_,_,Nat.zero_le _,rfl,rfl,bm.out⟩
 case round=>
  clear bm;obtain⟨k,aI,aU,hk,rfl,rfl,G⟩:=hrel;have ax:=pK (L.take k) (t,fr) bf.out;have bj:=qx (L.take k) (t,fr);have bJ:(L.take k).length=k:=by simp;omega
  rw[bJ] at bj
  by_cases aC:k<L.length
  ·have Q:Hid ((L.take (k+1)).foldl Px.failStep (t,fr)=Px.failStep ((L.take k).foldl Px.failStep (t,fr)) L[k]):=mV L (t,fr) k aC;obtain⟨bL,bC⟩:=bO.out L[k] (List.getElem_mem aC);obtain⟨b',br,cF,hv,_,aD⟩:=G.row.1.some' (by omega)
   cases hv
   have d0:wr.cell? ⟨b',br+k,none⟩=some (.int .i64 L[k]):=by
    have:=aD k (by simpa using aC);simpa using this
   obtain⟨aj,Z,a5,_⟩:=G.at'.sl.form;obtain⟨ah,Y,aP,_⟩:=G.at'.en.form;subst a5 aP;have cP:b'<wr.heap.size:=World.block_lt_of_cell? _ _ d0;have cT:q<wr.heap.size:=G.pw.ty.lt;obtain⟨c0,c1,c2,c3,c4⟩:=G.pw.st;have av:=Hq G;have bn:=Hq ax;have cQ:(0:Int)≤(k:Int):=by omega
   have c9:(k:Int)<(L.length:Int):=by omega
   have bp:=Hq (HT.out.later G.bel);clear aD G ax;generalize ((L.take k).foldl Px.failStep (t,fr))=P at *;generalize bc:L[k]=n at *;have cg:=Hq bc;clear bc;obtain⟨T,f⟩:=P;simp only at *;go_wp2_with fail
   go_cut [12,13] from 45 to 52 (fun ce bV wx=>∃g aN aZ,ce=.pointer (some ⟨g,0,none⟩)∧bV=.int .i64 (Px.failP T n).2∧PIn wx g (Px.failP T n).1 aN aZ∧PAt wx (Px.failP T n).1 aN aZ∧Below wr.heap.size wr wx)
   case first=>
    have ck:Hid (PAt wr.drew T (.slice aj T.slots.length Z) (.slice ah T.ends.length Y)):=av.out.at'.later (Below.refl _ _).drew;have ar:Hid (PAt (wr.alloc pzO).drew T (.slice aj T.slots.length Z) (.slice ah T.ends.length Y)):=(av.out.at'.later (cw _ _)).later (Below.refl _ _).drew;have cl:Hid (TabLH wr.drew):=bp.out.later (Below.refl _ _).drew;have bN:Hid (TabLH (wr.alloc pzO).drew):=(bp.out.later (cw _ _)).later (Below.refl _ _).drew
    go_region_with (first
     | (go_at_call 50;refine (fL T n (.slice aj T.slots.length Z) (.slice ah T.ends.length Y) wr.drew bn.out cl.out ck.out).mono ?_;rintro e w2 ⟨⟨ca,cd,rfl,I⟩,ae⟩;obtain⟨aJ,ak,rfl,bo⟩:=I.sl.form;obtain⟨a2,ap,rfl,bh⟩:=I.en.form;have cj:Below wr.heap.size wr w2:=(Below.refl _ _).drew.trans ae)
     | (go_at_call 50;refine (fL T n (.slice aj T.slots.length Z) (.slice ah T.ends.length Y) (wr.alloc pzO).drew bn.out bN.out ar.out).mono ?_;rintro e w2 ⟨⟨ca,cd,rfl,I⟩,ae⟩;obtain⟨aJ,ak,rfl,bo⟩:=I.sl.form;obtain⟨a2,ap,rfl,bh⟩:=I.en.form;have b8:Below wr.heap.size wr w2:=(cw _ _).drew.trans (ae.mono (by simp));have hZ:=((PW.new wr Px.st0 (.slice none 0 0) (.slice none 0 0)).later (Below.refl _ _).drew).later ae;obtain⟨⟨z0,z1,z2,z3,z4⟩,zf,zt⟩:=hZ;have HZ:Hid (PW w2 wr.heap.size Px.st0 (.slice none 0 0) (.slice none 0 0)):=((PW.new wr Px.st0 (.slice none 0 0) (.slice none 0 0)).later (Below.refl _ _).drew).later ae;have cW:=zf 0 (by decide);have cV:=zf 1 (by decide);have dc:=zf 2 (by decide);have cY:=zf 3 (by decide);have dd:=zf 4 (by decide)))
    all_goals (go_wp2_with fail;go_meet)
    all_goals (first |(have bq:=cj;exact⟨_,_,_,rfl,rfl,PIn.new w2 (Px.failP T n).1 _ _,I.later (cw _ _),bq.alloc bq.size _⟩)|exact⟨_,_,_,rfl,rfl,(HZ.out.put (Px.failP T n).1 _ _).st,I.store HZ.out.ty _ _ _ _ _,dE b8 (Nat.le_refl _) _ _ _ _ _⟩)
   case rest=>
    obtain⟨g,aN,aZ,rfl,rfl,bb,ai,aM⟩:=hcut;obtain⟨aJ,ak,rfl,bo⟩:=ai.sl.form;obtain⟨a2,ap,rfl,bh⟩:=ai.en.form;have ag:=av.out.later aM;clear c0 c1 c2 c3 c4 av;have bK:=rB T n;have aw:Hid (Px.failStep (T,f) n=if (Px.failP T n).2=0 then ((Px.failP T n).1,f++Bx.frame (Bx.body (chF n))) else (T,f)):=rfl
    by_cases hF:(Px.failP T n).2=0
    ·have HN:Hid ((L.take (k+1)).foldl Px.failStep (t,fr)=((Px.failP T n).1,f++Bx.frame (Bx.body (chF n)))):=by unfold Hid;rw[Q.out,aw.out,if_pos hF]
     have aA:=ag.put hq ai;obtain⟨bP,b9,b6,bX,bM⟩:=bb;obtain⟨⟨e0,e1,e2,e3,e4⟩,fq,_⟩:=ag.pw;have g0:=fq 0 (by decide);have g1:=fq 1 (by decide);have g2:=fq 2 (by decide);have g3:=fq 3 (by decide);have g4:=fq 4 (by decide)
     rw[hF];have cs:(Bx.frame (Bx.body (chF n))).size≤400:=eY (chF n) (by show (0:Nat)≤300;omega)
     clear aw Q hF bK ag ai aM fq d0;generalize (Px.failP T n).1=U at *;go_upto_region 13 with fail;clear bP b9 b6 bX bM e0 e1 e2 e3 e4 g0 g1 g2 g3 g4;have al:=Hq aA;clear aA;generalize ((((wc.setCell ⟨q,0,none⟩ (.string U.tab)).setCell ⟨q,1,none⟩ (.int .i64 U.clock)).setCell ⟨q,2,none⟩ (.int .i64 U.next)).setCell ⟨q,3,none⟩ (.slice aJ U.slots.length ak)).setCell ⟨q,4,none⟩ (.slice a2 U.ends.length ap)=W6 at *
     have d0:W6.cell? ⟨b',br+k,none⟩=some (.int .i64 n):=by
      obtain⟨b2,cJ,cm,hv,_,aD⟩:=al.out.row.1.some' (by omega)
      cases hv
      have:=aD k (by simpa using aC);simpa [cg.out] using this
     go_wp2_with fail;refine (nx n _ bL bC).mono ?_;rintro e w7 ⟨rfl,bg⟩;have bW:=Hq (al.out.later bg);clear al bg d0;generalize Bx.frame (Bx.body (chF n))=fn at *;have cX:¬9223372036854775807<f.size+fn.size:=by omega
     go_wp2_with fail;go_roundw
     case rel=>exact⟨k+1,_,_,by omega,by go_num,by rw[HN.out],by rw[HN.out];exact bW.out⟩
     case measure=>simp[intOf];omega
    ·have HN:Hid ((L.take (k+1)).foldl Px.failStep (t,fr)=(T,f)):=by unfold Hid;rw[Q.out,aw.out,if_neg hF]
     have de:((Px.failP T n).2==0)=false:=by simpa using hF
     have aA:=Hq ag;clear ag bb ai aM aw Q d0 hF;generalize (Px.failP T n).2=r at *;generalize (Px.failP T n).1=U at *;go_wp2_with fail;go_roundw
     case rel=>exact⟨k+1,_,_,by omega,by go_num,by rw[HN.out],by rw[HN.out];exact aA.out⟩
     case measure=>simp[intOf];omega
  ·obtain rfl:k=L.length:=by omega
   have Q:Hid (L.take L.length=L):=List.take_length;rw[Q.out] at G bj ax ⊢;obtain⟨aj,Z,a5,_⟩:=G.at'.sl.form;obtain⟨ah,Y,aP,_⟩:=G.at'.en.form;subst a5 aP;obtain⟨c0,c1,c2,c3,c4⟩:=G.pw.st;have aB:=Hq (HB.out.later G.bel);have az:Hid (w.grownBy wr (some B)):=dx G.bel _;have HA:Hid (PAt wr (L.foldl Px.failStep (t,fr)).1 _ _):=G.at';clear G ax Q;generalize L.foldl Px.failStep (t,fr)=P at *;obtain⟨T,f⟩:=P;simp only at *;go_wp2_with fail;refine (fj b B T f _ _ _ _ _ (by omega) (by omega) aB.out HA.out).mono ?_
   intro e w5 b7;clear c0 c1 c2 c3 c4
   cases b7 with
   | no _ h hb=>
     have a8:Hid (AnsT (Px.tickB b m) B w (.returned (.tuple #[.int .i64 0,.int .i64 13])) w5):=AnsT.of (by rw[ba.out,if_pos h]) ⟨_,_,aB.out.later hb⟩ (dz az.out (dx hb _))
     clear hb h;go_wp2_with fail;go_ret2;exact a8.out
   | yes _ h hB hg=>
     have a8:Hid (AnsT (Px.tickB b m) B w (.returned (.tuple #[.int .i64 (t.next-b.st.next),.int .i64 0])) w5):=AnsT.of (by rw[ba.out,if_neg h]) ⟨_,_,hB⟩ (dz az.out hg)
     clear hB hg h;go_wp2_with fail;go_ret2;exact a8.out
theorem oV (b:Px.Bo) (B:Nat) (m:Int) (w:World) (I:Px.Ok b.st) (G:b.log.size≤10000) (J:TabLH w) (O:Tab w) (hB:∃sl en,PB w B b sl en):
 Calls Tryz.prog 22 #[.pointer (some ⟨B,0,none⟩),.int .i64 m] w fun e d=>e=.returned (.tuple #[.int .i64 (Px.tickB b m).2.1,.int .i64 (Px.tickB b m).2.2])∧(∃sl en,PB d B (Px.tickB b m).1 sl en)∧w.grownBy d (some B):=by
 obtain⟨sl,en,hB⟩:=hB;refine (oK b B m sl en w I G J O hB).mono fun e d h=>?_
 cases h with
 | mk _ hB hg=>exact⟨rfl,hB,hg⟩
theorem m5 (b:Px.Bo) (B:Nat) (n:Int) (w:World) (I:Px.Ok b.st) (G:b.log.size≤10000) (J:TabLH w) (hB:∃sl en,PB w B b sl en):
 Calls Tryz.prog 25 #[.pointer (some ⟨B,0,none⟩),.int .i64 n] w fun e d=>e=.returned (.tuple #[.string (Px.startB b n).2.1,.int .i64 (Px.startB b n).2.2])∧(∃sl en,PB d B (Px.startB b n).1 sl en)∧w.grownBy d (some B):=by
 obtain⟨sl,en,hB⟩:=hB;refine (mD b B n sl en w I G J hB).mono fun e d h=>?_
 cases h with
 | mk _ hB hg=>exact⟨rfl,hB,hg⟩
theorem nd (b:Px.Bo) (B:Nat) (n:Int) (x:ByteArray) (w:World) (I:Px.Ok b.st) (G:b.log.size≤10000) (J:TabLH w) (hB:∃sl en,PB w B b sl en):
 Calls Tryz.prog 28 #[.pointer (some ⟨B,0,none⟩),.int .i64 n,.string x] w fun e d=>e=.returned (.tuple #[.string (Px.feedB b n x).2.1,.int .i64 (Px.feedB b n x).2.2])∧(∃sl en,PB d B (Px.feedB b n x).1 sl en)∧w.grownBy d (some B):=by
 obtain⟨sl,en,hB⟩:=hB;refine (om b B n x sl en w I G J hB).mono fun e d h=>?_
 cases h with
 | mk _ hB hg=>exact⟨rfl,hB,hg⟩
theorem nC (b:Px.Bo) (B:Nat) (tab:ByteArray) (w:World) (J:Px.Ok b.st) (I:b.log.size≤10000) (Q:tab.size≤maxLen) (O:TabLH w) (hB:∃sl en,PB w B b sl en):
 Calls Tryz.prog 21 #[.pointer (some ⟨B,0,none⟩),.string tab] w fun e G=>∃d a r,e=.returned (.tuple #[.int .i64 a,.int .i64 r])∧Px.LoadB b tab d a r∧(∃sl en,PB G B d sl en)∧w.grownBy G (some B):=by
 obtain⟨sl,en,hB⟩:=hB;refine (og b B tab sl en w J I Q O hB).mono fun e G h=>?_
 cases h with
 | mk _ d a r hl hB hg=>exact⟨d,a,r,rfl,hl,hB,hg⟩
end Go.Proofs.YtdajolpoiffimabGreatDoor
