import Derived.Test.YtdajolpoiffimabGreatDoorRows
import Derived.ProofKit
import Derived.OpenShut
import Derived.Deep.DeepHandedRow
import Derived.Lib.LaidTab
import Derived.Test.YtdajolpoiffimabGreatDoorA10
import Derived.Test.YtdajolpoiffimabGreatDoorA20

namespace Go.Proofs.YtdajolpoiffimabGreatDoor
open Go.ChangeShapes Go.WideShapes Go.ChangeAt Go.RowKit
theorem own:ownKnob Tryz.prog.godebug=none:=by kernel_rfl
theorem laidOut:laidOutB Tryz.prog=true:=by kernel_rfl
theorem gTab:Tryz.prog.globalNamed "bellman/calendar.monthLengths" =some 2:=by kernel_rfl
theorem gTabType:(Tryz.prog.globals[2]?).map (·.type)=some 269:=by kernel_rfl
theorem cellsTab:Tryz.prog.cellsOf 269=12:=by kernel_rfl
theorem cellsInt:Tryz.prog.cellsOf 3=1:=by kernel_rfl
theorem tab_of {W:World} (h:Lib.TabIs Tryz.prog W "bellman/calendar.monthLengths" .i64 [31,28,31,30,31,30,31,31,30,31,30,31]):Tab W:=by
 intro m m1 m2;have:m=1∨m=2∨m=3∨m=4∨m=5∨m=6∨m=7∨m=8∨m=9∨m=10∨m=11∨m=12:=by omega
 rcases this with rfl|rfl|rfl|rfl|rfl|rfl|rfl|rfl|rfl|rfl|rfl|rfl
 ·exact h.cell gTab 0 (by decide)
 ·exact h.cell gTab 1 (by decide)
 ·exact h.cell gTab 2 (by decide)
 ·exact h.cell gTab 3 (by decide)
 ·exact h.cell gTab 4 (by decide)
 ·exact h.cell gTab 5 (by decide)
 ·exact h.cell gTab 6 (by decide)
 ·exact h.cell gTab 7 (by decide)
 ·exact h.cell gTab 8 (by decide)
 ·exact h.cell gTab 9 (by decide)
 ·exact h.cell gTab 10 (by decide)
 ·exact h.cell gTab 11 (by decide)
theorem tS {α:Type}{w:Array α} (h:w.size=6):∃a b c d e f,w= #[a,b,c,d,e,f]:=by
 obtain⟨l⟩:=w
 match l,h with
 | [a,b,c,d,e,f],_=>exact⟨a,b,c,d,e,f,rfl⟩
end Go.Proofs.YtdajolpoiffimabGreatDoor

namespace Go.Proofs.YtdajolpoiffimabGreatDoor
open Go.RowKit
structure Kept (S:Nat→Prop) (w w':World):Prop where
 os:w'.os=w.os
 tape:w'.tape=w.tape
 output:w'.output=w.output
 size:w.heap.size≤w'.heap.size
 block:∀k,k<w.heap.size→¬S k→w'.heap[k]? =w.heap[k]?
theorem Kept.refl (S:Nat→Prop) (w:World):Kept S w w:=⟨rfl,rfl,rfl,Nat.le_refl _,fun _ _ _=>rfl⟩
theorem Kept.of_below {w d:World} (S:Nat→Prop) (h:Below w.heap.size w d):Kept S w d:=⟨h.os,h.tape,h.output,h.size,fun k e _=>h.block k e⟩
theorem Kept.of_grow {w d:World}{B:Nat}{S:Nat→Prop} (h:w.grownBy d (some B)) (hS:S B):Kept S w d:=⟨h.os,h.tape,h.output,h.size,fun k I G=>h.block k I (fun e=>G (by cases e;exact hS))⟩
theorem Kept.of_two {w G:World}{D:Nat}{r:Option Nat}{S:Nat→Prop} (h:TwoBy w G D r) (hS:S D) (J:∀g,r=some g→S g):Kept S w G:=
 ⟨h.os,h.tape,h.output,h.size,fun k I d=>h.block k I (fun e=>d (by subst e;exact hS)) (fun e=>d (J k e.symm))⟩
theorem Kept.trans {S:Nat→Prop}{w w1 e:World} (h1:Kept S w w1) (h2:Kept S w1 e):Kept S w e:=
 ⟨h2.os.trans h1.os,h2.tape.trans h1.tape,h2.output.trans h1.output,Nat.le_trans h1.size h2.size,fun k G d=>(h2.block k (Nat.lt_of_lt_of_le G h1.size) d).trans (h1.block k G d)⟩
theorem Kept.mono {S T:Nat→Prop}{w d:World} (h:Kept S w d) (J:∀k,S k→T k):Kept T w d:=⟨h.os,h.tape,h.output,h.size,fun k I G=>h.block k I (fun e=>G (J k e))⟩
theorem Kept.below {S:Nat→Prop}{w d:World}{n:Nat} (h:Kept S w d) (J:∀k,S k→n≤k) (G:n≤w.heap.size):Below n w d:=
 ⟨h.os,h.tape,h.output,h.size,fun k I=>h.block k (Nat.lt_of_lt_of_le I G) (fun e=>by have:=J k e;omega)⟩
theorem Kept.cell {S:Nat→Prop}{w e:World}{g j:Nat}{v:Value} (h:Kept S w e) (G:¬S g) (d:w.cell? ⟨g,j,none⟩=some v):e.cell? ⟨g,j,none⟩=some v:=by
 have I:g<w.heap.size:=World.block_lt_of_cell? _ _ d;rw[World.cell?_of_block (a:=⟨g,j,none⟩) (h.block g I G)];exact d
theorem Kept.typed {S:Nat→Prop}{w G:World}{g:Nat}{e:TypeId} (h:Kept S w G) (J:¬S g) (d:Typed w g e):Typed G g e:=by
 have O:=d.lt;obtain⟨cur,fr,I⟩:=d;exact⟨cur,fr,(h.block g O J).trans I⟩
theorem Kept.row {S:Nat→Prop}{w U:World}{e:TypeId}{v:Value}{n:Nat}{J:List Value} (h:Kept S w U) (Y:∀g,S g→¬Typed w g e) (O:TRow w e v n J):TRow U e v n J:=by
 have far:∀b G m d,v=.slice (some ⟨b,G,none⟩) m d→¬S b:=fun b G m d I q=>Y b q (O.2 b G m d I)
 refine⟨?_,fun b G m d I=>?_⟩
 ·rcases O.1 with a|⟨b,G,d,I,Q,V⟩
  ·exact Or.inl a
  ·exact Or.inr ⟨b,G,d,I,Q,fun j Z=>h.cell (far b G n d I) (V j Z)⟩
 ·exact h.typed (far b G m d I) (O.2 b G m d I)
theorem Kept.own {S:Nat→Prop}{w U:World}{d size n:Nat}{e:TypeId}{v:Value}{I:List Value} (h:Kept S w U) (Y:∀g,v.ownBlock=some g→¬S g) (J:w.ownsRow d e size v n I):U.ownsRow d e size v n I:=by
 refine⟨J.1,?_⟩
 rcases J.2 with h2|⟨g,G,cur,O,hbase,Q,V⟩
 ·exact Or.inl h2
 ·refine Or.inr ⟨g,G,cur,O,hbase,?_,V⟩;rw[h.block g (eM Q) (Y g (by rw[O];rfl))];exact Q
theorem Typed.ne {w:World}{g:Nat}{e G:TypeId} (h:Typed w g e) (I:e≠G):¬Typed w g G:=by
 rintro ⟨cur,fr,d⟩;obtain⟨J,O,h⟩:=h;rw[h] at d;cases d;exact I rfl
theorem Kept.pb {S:Nat→Prop}{w d:World}{B:Nat}{b:Px.Bo}{sl en:Value} (h:Kept S w d) (hB:¬S B) (h1:∀g,S g→¬Typed w g 143) (h2:∀g,S g→¬Typed w g 85) (hb:PB w B b sl en):PB d B b sl en:=
 ⟨h.cell hB hb.c0,h.cell hB hb.c1,h.cell hB hb.c2,h.cell hB hb.c3,h.cell hB hb.c4,h.cell hB hb.c5,h.cell hB hb.c6,h.cell hB hb.c7,
  fun j e=>(World.frozen?_of_block (a:=⟨B,j,none⟩) (h.block B hb.ty.lt hB)).trans (hb.f j e),h.typed hB hb.ty,⟨h.row h1 hb.rows.sl,h.row h2 hb.rows.en⟩⟩
theorem Kept.bi {S:Nat→Prop}{w e:World}{D:Nat}{d:Bx.Bo}{sl en tk:Value} (h:Kept S w e) (hD:¬S D) (h1:∀g,S g→¬Typed w g 218) (h2:∀g,S g→¬Typed w g 85) (I:∀g,tk.ownBlock=some g→¬S g) (hb:BoxIn w D d sl en tk):BoxIn e D d sl en tk:=
 ⟨h.cell hD hb.c0,h.cell hD hb.c1,h.cell hD hb.c2,h.cell hD hb.c3,h.cell hD hb.c4,h.cell hD hb.c5,h.cell hD hb.c6,h.cell hD hb.c7,h.cell hD hb.c8,
  fun j G=>(World.frozen?_of_block (a:=⟨D,j,none⟩) (h.block D hb.ty.lt hD)).trans (hb.f j G),h.typed hD hb.ty,⟨h.row h1 hb.rows.sl,h.row h2 hb.rows.en⟩,h.own I hb.tk⟩
theorem fU {w:World}{d size n g:Nat}{e:TypeId}{v:Value}{J:List Value} (h:w.ownsRow d e size v n J) (G:v.ownBlock=some g):Typed w g e∧d≤g:=by
 rcases h.2 with ⟨rfl,_⟩|⟨Q,O,cur,rfl,hb,I,_⟩
 ·cases G
 ·cases G;exact⟨⟨cur,_,I⟩,hb⟩
def Ft (B D:Nat) (tk:Value) (g:Nat):Prop:=g=B∨g=D∨tk.ownBlock=some g
structure PairIn (w:World) (P B D:Nat) (l r:Int):Prop where
 c0:w.cell? ⟨P,0,none⟩=some (.pointer (some ⟨B,0,none⟩))
 c1:w.cell? ⟨P,1,none⟩=some (.pointer (some ⟨D,0,none⟩))
 c2:w.cell? ⟨P,2,none⟩=some (.int .i64 l)
 c3:w.cell? ⟨P,3,none⟩=some (.int .i64 r)
 ty:Typed w P 124
theorem PairIn.kept {S:Nat→Prop}{w G:World}{P B D:Nat}{l r:Int} (h:Kept S w G) (e:¬S P) (d:PairIn w P B D l r):PairIn G P B D l r:=
 ⟨h.cell e d.c0,h.cell e d.c1,h.cell e d.c2,h.cell e d.c3,h.typed e d.ty⟩
structure Duo (w:World) (base P B D:Nat) (tk:Value) (b:Px.Bo) (d:Bx.Bo):Prop where
 p:PairIn w P B D b.limit b.room
 x:∃sl en,PB w B b sl en
 y:∃sl en,BoxIn w D d sl en tk
 rel:Px.Rel b d
 lo:base≤P∧base≤B∧base≤D
theorem Duo.tyB {w:World}{e P B D:Nat}{tk:Value}{b:Px.Bo}{d:Bx.Bo} (h:Duo w e P B D tk b d):Typed w B 79:=by obtain⟨_,_,q⟩:=h.x;exact q.ty
theorem Duo.tyD {w:World}{e P B D:Nat}{tk:Value}{b:Px.Bo}{d:Bx.Bo} (h:Duo w e P B D tk b d):Typed w D 173:=by obtain⟨_,_,q⟩:=h.y;exact q.ty
theorem Duo.tyK {w:World}{e P B D g:Nat}{tk:Value}{b:Px.Bo}{d:Bx.Bo} (h:Duo w e P B D tk b d) (G:tk.ownBlock=some g):Typed w g 220∧D+1≤g:=by
 obtain⟨_,_,q⟩:=h.y;exact fU q.tk G
theorem Duo.ft {w:World}{G P B D:Nat}{tk:Value}{b:Px.Bo}{d:Bx.Bo} (h:Duo w G P B D tk b d) (e:TypeId) (h1:e≠79) (h2:e≠173) (I:e≠220):∀g,Ft B D tk g→¬Typed w g e:=by
 rintro g (rfl|rfl|q)
 ·exact h.tyB.ne (Ne.symm h1)
 ·exact h.tyD.ne (Ne.symm h2)
 ·exact (h.tyK q).1.ne (Ne.symm I)
theorem Duo.ftLo {w:World}{e P B D:Nat}{tk:Value}{b:Px.Bo}{d:Bx.Bo} (h:Duo w e P B D tk b d):∀g,Ft B D tk g→e≤g:=by
 rintro g (rfl|rfl|q)
 ·exact h.lo.2.1
 ·exact h.lo.2.2
 ·have:=(h.tyK q).2;have:=h.lo.2.2;omega
theorem Duo.kept {S:Nat→Prop}{w V:World}{G P B D:Nat}{tk:Value}{b:Px.Bo}{d:Bx.Bo} (h:Duo w G P B D tk b d) (J:Kept S w V) (I:∀g,S g→¬Ft B D tk g) (h0:∀g,S g→¬Typed w g 124)
 (h1:∀g,S g→¬Typed w g 143) (h2:∀g,S g→¬Typed w g 85) (Y:∀g,S g→¬Typed w g 218):Duo V G P B D tk b d:=by
 obtain⟨Q,⟨sl,en,Z⟩,⟨O,U,hy⟩,hr,hl⟩:=h;exact⟨PairIn.kept J (fun q=>h0 P q Q.ty) Q,⟨sl,en,J.pb (fun q=>I B q (Or.inl rfl)) h1 h2 Z⟩,⟨O,U,J.bi (fun q=>I D q (Or.inr (Or.inl rfl))) Y h2 (fun g e q=>I g q (Or.inr (Or.inr e))) hy⟩,hr,hl⟩
theorem Duo.later {w G:World}{e P B D:Nat}{tk:Value}{b:Px.Bo}{d:Bx.Bo} (h:Duo w e P B D tk b d) (hb:Below w.heap.size w G):Duo G e P B D tk b d:=
 h.kept (S:=fun _=>False) (Kept.of_below _ hb) (fun _ q=>q.elim) (fun _ q=>q.elim) (fun _ q=>q.elim) (fun _ q=>q.elim) (fun _ q=>q.elim)
theorem Duo.prg {w I:World}{J P B D:Nat}{tk:Value}{b:Px.Bo}{d:Bx.Bo} (h:Duo w J P B D tk b d) (V:w.grownBy I (some B)):PairIn I P B D b.limit b.room∧(∃sl en,BoxIn I D d sl en tk)∧Kept (Ft B D tk) w I:=by
 have Q:Kept (fun g=>g=B) w I:=Kept.of_grow V rfl
 have G:∀e,e≠79→∀g,g=B→¬Typed w g e:=fun e U g q=>by subst q;exact h.tyB.ne (Ne.symm U)
 obtain⟨sl,en,O⟩:=h.y;refine⟨PairIn.kept Q (fun q=>G 124 (by decide) P q h.p.ty) h.p,⟨sl,en,Q.bi (fun q=>G 173 (by decide) D q O.ty) (G _ (by decide)) (G _ (by decide)) (fun g e q=>G 220 (by decide) g q (fU O.tk e).1) O⟩,Q.mono fun g q=>Or.inl q⟩
theorem sS {w G:World}{B D:Nat}{b:Px.Bo}{d:Bx.Bo}{sl en O U tk:Value} (J:PB w B b sl en) (Q:BoxIn w D d O U tk) (Y:TwoBy w G D tk.ownBlock):PB G B b sl en∧Kept (Ft B D tk) w G:=by
 have V:Kept (fun g=>g=D∨tk.ownBlock=some g) w G:=Kept.of_two Y (Or.inl rfl) (fun g e=>Or.inr e)
 have I:∀e,e≠173→e≠220→∀g,(g=D∨tk.ownBlock=some g)→¬Typed w g e:=by
  rintro e h1 h2 g (rfl|q)
  ·exact Q.ty.ne (Ne.symm h1)
  ·exact (fU Q.tk q).1.ne (Ne.symm h2)
 exact⟨V.pb (fun q=>I 79 (by decide) (by decide) B q J.ty) (I _ (by decide) (by decide)) (I _ (by decide) (by decide)) J,V.mono fun g q=>Or.inr q⟩
theorem pK {w I:World}{P B D:Nat}{l r:Int}{d:Bx.Bo}{J Q tk:Value} (G:PairIn w P B D l r) (O:BoxIn w D d J Q tk) (U:TwoBy w I D tk.ownBlock):PairIn I P B D l r:=by
 have V:Kept (fun g=>g=D∨tk.ownBlock=some g) w I:=Kept.of_two U (Or.inl rfl) (fun g e=>Or.inr e)
 refine PairIn.kept V ?_ G;rintro (q|q)
 ·subst q;exact O.ty.ne (by decide) G.ty
 ·exact (fU O.tk q).1.ne (by decide) G.ty
theorem nK (b:Px.Bo) (d:Bx.Bo) (D:Nat) (tk:Value) (i:Int) (w:World) (G:Px.Rel b d) (hD:∃sl en,BoxIn w D d sl en tk):
 Calls Tryz.prog 119 #[.pointer (some ⟨D,0,none⟩),.int .i64 i] w fun e J=>e=.returned (.tuple #[paslV (slotA b.st.slots i).1,.int .i64 (slotA b.st.slots i).2])∧Below w.heap.size w J:=by
 obtain⟨sl,en,hD⟩:=hD
 by_cases hi:i<0∨(b.st.slots.length:Int)≤i
 ·refine (qY d D i sl en tk w (by rw[G.slen];exact hi) hD).mono fun e J h=>⟨?_,h.2⟩
  rw[kf hi,h.1];rfl
 ·obtain⟨k,rfl⟩:∃k:Nat,i=(k:Int):=⟨i.toNat,by omega⟩
  have I:k<b.st.slots.length:=by omega
  refine (ot d D k sl en tk w G.boOk (by rw[G.slen];exact I) hD).mono fun e J h=>⟨?_,h.2⟩
  rw[jL I,h.1,G.sl I];have:stepOf d (Px.absS b.st.slots[k]).num=b.st.slots[k].step:=G.step (List.getElem_mem I);rw[this];rfl
theorem qJ (b:Px.Bo) (d:Bx.Bo) (D:Nat) (tk:Value) (i:Int) (w:World) (G:Px.Rel b d) (hD:∃sl en,BoxIn w D d sl en tk):
 Calls Tryz.prog 120 #[.pointer (some ⟨D,0,none⟩),.int .i64 i] w fun e I=>e=.returned (.tuple #[enV (endA b.st.ends i).1,.int .i64 (endA b.st.ends i).2])∧Below w.heap.size w I:=by
 obtain⟨sl,en,hD⟩:=hD;have J:d.now.ends.length≤6:=by rw[G.ends];exact G.ok.st.en
 by_cases hi:i<0∨(b.st.ends.length:Int)≤i
 ·refine (sr d D i sl en tk w J (by rw[G.ends];exact hi) hD).mono fun e I h=>⟨?_,h.2⟩
  rw[lS hi,h.1]
 ·obtain⟨k,rfl⟩:∃k:Nat,i=(k:Int):=⟨i.toNat,by omega⟩
  have Q:k<b.st.ends.length:=by omega
  have O:k<d.now.ends.length:=by rw[G.ends];exact Q
  refine (pB d D k sl en tk w J O hD).mono fun e I h=>⟨?_,h.2⟩
  have U:d.now.ends[k]=b.st.ends[k]:=by congr 1;exact G.ends
  rw[kX Q,h.1,U]
theorem nL (b:Px.Bo) (d:Bx.Bo) (D:Nat) (tk:Value) (w:World) (G:Px.Rel b d) (hD:∃sl en,BoxIn w D d sl en tk):
 Calls Tryz.prog 118 #[.pointer (some ⟨D,0,none⟩)] w fun e I=>e=.returned (pviewV b.st)∧Below w.heap.size w I:=by
 obtain⟨sl,en,hD⟩:=hD;have J:d.now.ends.length≤6:=by rw[G.ends];exact G.ok.st.en
 refine (o8 d D sl en tk w J hD).mono fun e I h=>⟨?_,h.2⟩
 have:viewV d.now=pviewV b.st:=by
  have h1:=G.slen;have h2:=G.ends;unfold viewV pviewV;rw[h1,h2,G.now];rfl
 rw[h.1,this]
theorem j9 (b:Px.Bo) (d:Bx.Bo) (D:Nat) (tk:Value) (w:World) (I:Px.Rel b d) (hD:∃sl en,BoxIn w D d sl en tk):
 Calls Tryz.prog 71 #[.pointer (some ⟨D,0,none⟩)] w fun e G=>e=.returned (.string b.log)∧G=w:=by
 obtain⟨sl,en,hD⟩:=hD;refine (pW d D sl en tk w hD).mono fun e G h=>?_
 rw[I.txt] at h;exact h
def Did (w w':World) (base P B D:Nat) (tk:Value) (b':Px.Bo) (d':Bx.Bo):Prop:=∃tk',Duo w' base P B D tk' b' d'∧NewTk w tk tk'∧Kept (Ft B D tk) w w'
theorem Did.same {w:World}{e P B D:Nat}{tk:Value}{b:Px.Bo}{d:Bx.Bo} (h:Duo w e P B D tk b d):Did w w e P B D tk b d:=⟨tk,h,Or.inl rfl,Kept.refl _ _⟩
theorem Did.later {w e I:World}{d P B D:Nat}{tk:Value}{G:Px.Bo}{O:Bx.Bo} (h:Did w e d P B D tk G O) (hb:Below e.heap.size e I):Did w I d P B D tk G O:=by
 obtain⟨J,h1,h2,Q⟩:=h;exact⟨J,h1.later hb,h2,Q.trans (Kept.of_below _ hb)⟩
theorem Did.ahead {w w1 J:World}{d P B D:Nat}{tk:Value}{e:Px.Bo}{I:Bx.Bo} (h:Did w1 J d P B D tk e I) (hb:Below w.heap.size w w1):Did w J d P B D tk e I:=by
 obtain⟨G,h1,h2,O⟩:=h;exact⟨G,h1,h2.grow hb.size,(Kept.of_below _ hb).trans O⟩
theorem Did.of {w w1 O:World}{I P B D:Nat}{tk G:Value}{b e:Px.Bo}{d Q:Bx.Bo} (hd:Duo w I P B D tk b d) (hg:w.grownBy w1 (some B)) (U:∃sl en,PB w1 B e sl en)
 (hy:∃sl en,BoxIn O D Q sl en G) (hn:NewTk w1 tk G) (Z:TwoBy w1 O D tk.ownBlock) (hr:Px.Rel e Q) (hl:e.limit=b.limit∧e.room=b.room):Did w O I P B D tk e Q:=by
 obtain⟨hp,⟨sl,en,J⟩,Y⟩:=hd.prg hg;obtain⟨ac,V,U⟩:=U;have h2:=sS U J Z;have h3:=pK hp J Z;exact⟨G,⟨by rw[hl.1,hl.2];exact h3,⟨ac,V,h2.1⟩,hy,hr,hd.lo⟩,hn.grow hg.size,Y.trans h2.2⟩
theorem Duo.logsz {w:World}{e P B D:Nat}{tk:Value}{b:Px.Bo}{d:Bx.Bo} (h:Duo w e P B D tk b d):b.log.size≤10000:=by have:=h.rel.log;have:=h.rel.r1;omega
theorem qP (b:Px.Bo) (m:Int):(Px.tickB b m).1.limit=b.limit∧(Px.tickB b m).1.room=b.room:=by
 unfold Px.tickB;repeat' split
 all_goals exact⟨rfl,rfl⟩
theorem na (b:Px.Bo) (s:Px.St) (x y:ByteArray):(Px.commitB b s x y).1.limit=b.limit∧(Px.commitB b s x y).1.room=b.room:=by
 unfold Px.commitB;split<;>exact⟨rfl,rfl⟩
theorem kV (b:Px.Bo) (s:Px.St) (n:Int) (x y:ByteArray):(Px.talkB b s n x y).1.limit=b.limit∧(Px.talkB b s n x y).1.room=b.room:=by
 unfold Px.talkB
 repeat' split
 all_goals first |exact⟨rfl,rfl⟩|exact na _ _ _ _
theorem oG (b:Px.Bo) (n:Int):(Px.startB b n).1.limit=b.limit∧(Px.startB b n).1.room=b.room:=by
 unfold Px.startB
 repeat' split
 all_goals first |exact⟨rfl,rfl⟩|exact kV _ _ _ _ _
theorem pZ (b:Px.Bo) (n:Int) (x:ByteArray):(Px.feedB b n x).1.limit=b.limit∧(Px.feedB b n x).1.room=b.room:=by
 unfold Px.feedB
 repeat' split
 all_goals first |exact⟨rfl,rfl⟩|exact kV _ _ _ _ _
theorem mV (b:Px.Bo) (n:Int):(Px.cancelB b n).1.limit=b.limit∧(Px.cancelB b n).1.room=b.room:=by
 unfold Px.cancelB;repeat' split
 all_goals exact⟨rfl,rfl⟩
theorem qg {b d:Px.Bo}{tab:ByteArray}{a r:Int} (h:Px.LoadB b tab d a r):d.limit=b.limit∧d.room=b.room:=by
 rcases h with ⟨_,_,rfl⟩|⟨_,_,rfl,_⟩|⟨_,_,_,rfl,_⟩|⟨_,_,_,rfl,_⟩<;>exact⟨rfl,rfl⟩
theorem nj (b:Px.Bo) (d:Bx.Bo) (D:Nat) (tk:Value) (m:Int) (w:World) (J:Px.Rel b d) (hD:∃sl en,BoxIn w D d sl en tk):
 Calls Tryz.prog 111 #[.pointer (some ⟨D,0,none⟩),.int .i64 m] w fun e I=>e=.returned (.tuple #[.int .i64 (Px.tickB b m).2.1,.int .i64 (Px.tickB b m).2.2])∧(∃G,(∃sl en,BoxIn I D (tickP d m).1 sl en G)∧NewTk w tk G)∧TwoBy w I D tk.ownBlock:=by
 obtain⟨sl,en,hD⟩:=hD;refine (ny d D m sl en tk w J.boOk hD).mono fun e I ⟨⟨sl',en',G,he,hB,hn⟩,hg⟩=>⟨?_,⟨G,⟨sl',en',hB⟩,hn⟩,TwoBy.of_grow hg _⟩
 rw[he,(Px.tick_rel J m).1]
theorem nd (b:Px.Bo) (d:Bx.Bo) (D:Nat) (tk:Value) (n:Int) (w:World) (J:Px.Rel b d) (hD:∃sl en,BoxIn w D d sl en tk):
 Calls Tryz.prog 112 #[.pointer (some ⟨D,0,none⟩),.int .i64 n] w fun e I=>e=.returned (.tuple #[.string (Px.startB b n).2.1,.int .i64 (Px.startB b n).2.2])∧(∃G,(∃sl en,BoxIn I D (startP d n).1 sl en G)∧NewTk w tk G)∧TwoBy w I D tk.ownBlock:=by
 obtain⟨sl,en,hD⟩:=hD;refine (mK d D n sl en tk w J.boOk hD).mono fun e I ⟨⟨sl',en',G,he,hB,hn⟩,hg⟩=>⟨?_,⟨G,⟨sl',en',hB⟩,hn⟩,hg⟩
 rw[he,(Px.start_rel J n).1]
theorem nt (b:Px.Bo) (d:Bx.Bo) (D:Nat) (tk:Value) (n:Int) (x:ByteArray) (w:World) (N:Nat) (Q:N≤100000000000000000) (hm:Px.HMax d N) (O:x.size≤maxLen) (I:Px.Rel b d) (hD:∃sl en,BoxIn w D d sl en tk):
 Calls Tryz.prog 113 #[.pointer (some ⟨D,0,none⟩),.int .i64 n,.string x] w fun e J=>e=.returned (.tuple #[.string (Px.feedB b n x).2.1,.int .i64 (Px.feedB b n x).2.2])∧(∃G,(∃sl en,BoxIn J D (feedP d n x).1 sl en G)∧NewTk w tk G)∧TwoBy w J D tk.ownBlock:=by
 obtain⟨sl,en,hD⟩:=hD;refine (om d D n x sl en tk w I.boOk O (fun t U=>Nat.le_trans (hm.1 t U) Q) (I.at_le n) hD).mono fun e J ⟨⟨sl',en',G,he,hB,hn⟩,hg⟩=>⟨?_,⟨G,⟨sl',en',hB⟩,hn⟩,hg⟩
 rw[he,(Px.feed_rel I n x).1]
theorem lJ (b:Px.Bo) (d:Bx.Bo) (D:Nat) (tk:Value) (n:Int) (w:World) (J:Px.Rel b d) (hD:∃sl en,BoxIn w D d sl en tk):
 Calls Tryz.prog 77 #[.pointer (some ⟨D,0,none⟩),.int .i64 n] w fun e I=>e=.returned (.int .i64 (Px.cancelB b n).2)∧(∃G,(∃sl en,BoxIn I D (cancelP d n).1 sl en G)∧NewTk w tk G)∧TwoBy w I D tk.ownBlock:=by
 obtain⟨sl,en,hD⟩:=hD;refine (lE d D n sl en tk w J.boOk hD).mono fun e I ⟨⟨sl',en',G,he,hB,hn⟩,hg⟩=>⟨?_,⟨G,⟨sl',en',hB⟩,hn⟩,TwoBy.of_grow hg _⟩
 rw[he,(Px.cancel_rel J n).1]
theorem nZ (b O:Px.Bo) (d:Bx.Bo) (D:Nat) (tk:Value) (tab:ByteArray) (a r:Int) (w:World) (U:tab.size≤maxLen) (V:Px.LoadB b tab O a r) (Q:Px.Rel b d) (hD:∃sl en,BoxIn w D d sl en tk):
 Calls Tryz.prog 73 #[.pointer (some ⟨D,0,none⟩),.string tab] w fun e J=>e=.returned (.tuple #[.int .i64 a,.int .i64 r])∧(∃I G,LoadR d tab I a r∧Px.Rel O I∧(∃sl en,BoxIn J D I sl en G)∧NewTk w tk G)∧TwoBy w J D tk.ownBlock:=by
 obtain⟨sl,en,hD⟩:=hD;refine (nX d D tab sl en tk w Q.boOk U hD).mono fun e J ⟨⟨I,a',r',sl',en',G,he,hL,hB,hn⟩,hg⟩=>?_
 obtain⟨rfl,rfl,hR⟩:=Px.load_rel Q V hL;exact⟨he,⟨I,G,hL,hR,⟨sl',en',hB⟩,hn⟩,TwoBy.of_grow hg _⟩
theorem k9 (b:Px.Bo) (B:Nat) (n:Int) (w:World) (I:Px.Ok b.st) (G:b.log.size≤10000) (hB:∃sl en,PB w B b sl en):
 Calls Tryz.prog 30 #[.pointer (some ⟨B,0,none⟩),.int .i64 n] w fun e d=>e=.returned (.int .i64 (Px.cancelB b n).2)∧(∃sl en,PB d B (Px.cancelB b n).1 sl en)∧w.grownBy d (some B):=by
 obtain⟨sl,en,hB⟩:=hB;refine (lC b B n sl en w I G hB).mono fun e d h=>?_
 cases h with
 | mk _ hB hg=>exact⟨rfl,hB,hg⟩
structure KB (w0 w:World) (B:Nat) (b:Px.Bo):Prop where
 lo:w0.heap.size≤B
 bl:Below w0.heap.size w0 w
 pb:∃sl en,PB w B b sl en
structure TT (w:World):Prop where
 lh:TabLH w
 mo:Tab w
theorem TT.later {w d:World} (h:TT w) (hb:Below w.heap.size w d):TT d:=⟨h.lh.later hb,fun m a b=>cell_later hb (h.mo m a b)⟩
end Go.Proofs.YtdajolpoiffimabGreatDoor

namespace Go.Proofs.YtdajolpoiffimabGreatDoor
namespace Bx
end Bx
namespace Px
theorem start_told {s:St} (h:Ok s) (n:Int) (h0:(startP s n).2=0):Bx.told (abs s) [chS n]=abs (startP s n).1:=by
 rcases start_abs h.dist n with ⟨q,_⟩|⟨i,hi,_,d,q⟩
 ·omega
 ·rcases q with ⟨q,_⟩|⟨q,_⟩|⟨q,_⟩|⟨_,_,_,_,_,q⟩
  ·omega
  ·omega
  ·omega
  ·exact (told_one _ _).trans (tell_about (by decide) (by decide) q)
theorem startP_ok {s:St} (h:Ok s) (n:Int) (h0:(startP s n).2=0):Ok (startP s n).1:=by
 rcases start_abs h.dist n with ⟨e8,hf⟩|⟨i,hi,hF,hn,O⟩
 ·omega
 rcases O with ⟨e,q⟩|⟨e,w,G⟩|⟨e,w,G,U⟩|⟨e,w,G,U,Q,V⟩
 ·omega
 ·omega
 ·omega
 have I:s.slots[i]∈s.slots:=List.getElem_mem hi
 have d:Bx.StOk (abs (startP s n).1):=by
  have:=Bx.about_ok h.st 83 n;rw[V] at this;exact this
 have J:=h.ex _ I;have Y:s.slots[i].heard=ByteArray.empty:=J.2.2.2.2.2 (by omega)
 obtain⟨Z,s5,sz⟩:=steps_size h I;rw[Q] at d ⊢;exact h.repl _ d ⟨h.st.c1,h.st.c2,by show (0:Int)≤1;omega,by show (1:Int)≤((stepsL s s.slots[i]).length:Int);omega,by show s.slots[i].heard.size≤8;omega,fun q=>by simp[beg] at q⟩
end Px
namespace Bx
def intS (s:St):St:={s with slots:=s.slots.map fun x=>{x with runs:=false}}
theorem MayS.int {s:St} (h:MayS s):MayS (intS s):=by
 refine⟨h.tab,h.c1,h.c2,h.n1,h.n2,by simpa [intS] using h.sl,h.en,?_,?_,h.dif,?_,?_⟩
 ·show (s.slots.map _).Pairwise _
  rw[List.pairwise_map];exact h.rise
 ·show (s.slots.map _).Pairwise _
  rw[List.pairwise_map];exact h.lock.imp fun _ _ _ q=>by cases q
 ·intro x w;obtain⟨y,d,rfl⟩:=List.mem_map.1 w;have q:=h.es y d;exact⟨q.n,q.l,q.m0,q.m,q.a,q.f1,q.f2,fun e=>by cases e⟩
 ·intro x w;have q:=h.ee x w;refine⟨q.n,q.h,fun z G=>?_⟩
  obtain⟨y,d,rfl⟩:=List.mem_map.1 G;exact q.o y d
end Bx
namespace Px
def compB (b:Bo):Bo:={b with log:=Bx.frame (Bx.wholeS (abs b.st))}
theorem whole_le {s:Bx.St} (h:Bx.MayS s):(Bx.frame (Bx.wholeS s)).size≤456:=by rw[Bx.frame_size];have:=Bx.wholeS_size h;omega
def wait (x:Sl):Sl:={x with step:=0,ans:=0,heard:=ByteArray.empty}
def intP (s:St):St:={s with slots:=s.slots.map wait}
theorem int_abs (s:St):abs (intP s)=Bx.intS (abs s):=by
 unfold abs intP Bx.intS;simp only [List.map_map];rfl
def openB (l r:Int) (s:St):Bo:=⟨l,r,intP s,Bx.frame (Bx.wholeS (abs (intP s)))⟩
theorem int_ok {s:St} (h:Bx.MayS (abs s)):Ok (intP s):=by
 have hm:Bx.MayS (abs (intP s)):=by rw[int_abs];exact h.int
 refine⟨hm.ok,?_,fun x d=>?_⟩
 ·have:=hm.rise;unfold abs at this;rw[List.pairwise_map] at this;exact this
 ·obtain⟨y,_,rfl⟩:=List.mem_map.1 d;exact⟨by show (-1:Int)≤0;omega,by show (0:Int)≤_;omega,by show (0:Int)≤0;omega,by show (0:Int)≤((_:Nat):Int);omega,by show (0:Nat)≤8;omega,fun _=>rfl⟩
end Px
end Go.Proofs.YtdajolpoiffimabGreatDoor
