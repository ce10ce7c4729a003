import Derived.Deep.Slices
import Derived.ChangeArms
import Derived.Test.YtdajolpoiffimabGreatDoorA18
import Derived.Test.YtdajolpoiffimabGreatDoorA26

namespace Go.Proofs.YtdajolpoiffimabGreatDoor
open Go.RowKit
set_option maxHeartbeats 1000000 in
theorem oZ (l r:Int) (w:World) (h:mayB l r=false):Calls Tryz.prog 38 #[.int .i64 l,.int .i64 r] w fun e d=>e=.returned (.tuple #[.pointer none,.bool true])∧d=w:=by
 go_enter Tryz.func38,Tryz.ntmps38
 go_wp2_with fail;refine (rL l r _ h).mono ?_;rintro e w1 ⟨rfl,rfl⟩;go_wp2_with fail;refine (rE l r _ h).mono ?_;rintro e w1 ⟨rfl,rfl⟩;go_wp2_with ((go_at_call 70;refine (ey _ _).mono ?_;rintro e G ⟨rfl,rfl⟩));go_ret2;exact⟨rfl,rfl⟩
abbrev pairO (B D:Nat) (l r:Int):Obj:=.cells #[.pointer (some ⟨B,0,none⟩),.pointer (some ⟨D,0,none⟩),.int .i64 l,.int .i64 r] 124
set_option maxHeartbeats 1000000 in
theorem i5 (l r:Int) (w:World) (h:mayB l r=true):Calls Tryz.prog 38 #[.int .i64 l,.int .i64 r] w fun e w'=>
 (∃P B D,e=.returned (.tuple #[.pointer (some ⟨P,0,none⟩),.bool true])∧Duo w' w.heap.size P B D nilV ⟨l,r,Px.first,ByteArray.empty⟩ ⟨l,r,Bx.first,ByteArray.empty,[]⟩)∧Below w.heap.size w w':=by
 have HR:Hid (Px.Rel ⟨l,r,Px.first,ByteArray.empty⟩ ⟨l,r,Bx.first,ByteArray.empty,[]⟩):=Px.Rel.new h
 go_enter Tryz.func38,Tryz.ntmps38
 go_wp2_with fail;refine (kp l r _ h).mono ?_;rintro e w1 ⟨⟨B,rfl,hB,Z⟩,O⟩;have HX:=Hq Z;have J:=Hq O;have V:=Hq hB;clear Z O hB;go_wp2_with fail;refine (py l r _ h).mono ?_;rintro e G ⟨⟨D,rfl,hD,U⟩,d⟩;have Q:=J.out.size;have ad:=d.size;have I:PairIn (G.alloc (pairO B D l r)) G.heap.size B D l r:=⟨by simp[go_sem],by simp[go_sem],by simp[go_sem],by simp[go_sem],Typed.new _ _ _⟩
 have HF:Hid (Duo (G.alloc (pairO B D l r)) w.heap.size G.heap.size B D nilV ⟨l,r,Px.first,ByteArray.empty⟩ ⟨l,r,Bx.first,ByteArray.empty,[]⟩):=
  ⟨I,⟨_,_,(HX.out.later d).later (cw _ _)⟩,⟨_,_,U.later (cw _ _)⟩,HR.out,⟨by omega,V.out,by omega⟩⟩
 have Y:Hid (Below w.heap.size w (G.alloc (pairO B D l r))):=(J.out.trans (d.mono Q)).alloc (by omega) _
 clear U d I hD;go_wp2_with ((go_at_call 70;refine (ey _ _).mono ?_;rintro e w3 ⟨rfl,rfl⟩));go_ret2;exact⟨⟨_,_,_,rfl,HF.out⟩,Y.out⟩
def PlayI (w0 wr:World) (N P Q:Nat):Prop:=Below w0.heap.size w0 wr∧∃B D tk b d B2 D2 tk2 b2 d2,Duo wr w0.heap.size P B D tk b d∧Px.HMax d N∧Duo wr w0.heap.size Q B2 D2 tk2 b2 d2∧Px.HMax d2 N∧∀g,Ft B D tk g→¬Ft B2 D2 tk2 g
theorem PlayI.later {w wr e:World} {N P Q:Nat} (h:PlayI w wr N P Q) (hb:Below wr.heap.size wr e):PlayI w e N P Q:=by
 obtain⟨h1,B,D,tk,b,d,O,V,G,Z,d2,h2,J,I,Y,U⟩:=h;exact⟨h1.trans (hb.mono h1.size),B,D,tk,b,d,O,V,G,Z,d2,h2.later hb,J,I.later hb,Y,U⟩
theorem PlayI.mono {e wr:World} {N M P Q:Nat} (h:PlayI e wr N P Q) (hm:N≤M):PlayI e wr M P Q:=by
 obtain⟨h1,B,D,tk,b,d,J,U,w,Y,d2,h2,I,G,V,O⟩:=h;exact⟨h1,B,D,tk,b,d,J,U,w,Y,d2,h2,I.mono hm,G,V.mono hm,O⟩
theorem PlayI.swap {e wr:World} {N P Q:Nat} (h:PlayI e wr N P Q):PlayI e wr N Q P:=by
 obtain⟨h1,B,D,tk,b,d,J,U,w,Z,d2,h2,I,G,Y,O⟩:=h;exact⟨h1,J,U,w,Z,d2,B,D,tk,b,d,G,Y,h2,I,fun g q V=>O g V q⟩
theorem Ft.lt {w:World} {e P B D g:Nat} {tk:Value} {b:Px.Bo} {d:Bx.Bo} (h:Duo w e P B D tk b d) (G:Ft B D tk g):g<w.heap.size:=by
 rcases G with rfl|rfl|q
 ·exact h.tyB.lt
 ·exact h.tyD.lt
 ·exact (h.tyK q).1.lt
theorem PlayI.did {G wr O:World} {N M P Q B D U V:Nat} {tk I:Value} {b b2 b':Px.Bo} {d d2 Y:Bx.Bo} (h1:Below G.heap.size G wr) (h2:Duo wr G.heap.size P B D tk b d) (Z:Duo wr G.heap.size Q U V I b2 d2) (h5:Px.HMax d2 N) (J:∀g,Ft B D tk g→¬Ft U V I g)
 (hd:Did wr O G.heap.size P B D tk b' Y) (hm:Px.HMax Y M) (hN:N≤M):PlayI G O M P Q:=by
 obtain⟨ac,g1,g2,g3⟩:=hd;have w:∀e,e≠79→e≠173→e≠220→∀g,Ft B D tk g→¬Typed wr g e:=fun e a b c=>h2.ft e a b c
 refine⟨h1.trans (g3.below h2.ftLo h1.size),B,D,ac,b',Y,U,V,I,b2,d2,g1,hm,Z.kept g3 J (w _ (by decide) (by decide) (by decide)) (w _ (by decide) (by decide) (by decide)) (w _ (by decide) (by decide) (by decide)) (w _ (by decide) (by decide) (by decide)),h5.mono hN,?_⟩
 rintro g (rfl|rfl|q) q2
 ·exact J _ (Or.inl rfl) q2
 ·exact J _ (Or.inr (Or.inl rfl)) q2
 ·rcases g2 with e|e
  ·exact J g (Or.inr (Or.inr (by rw[←e];exact q))) q2
  ·have:=e g q;have:=Ft.lt Z q2;omega
def ScriptAt (w:World) (v:Value) (L:List (Int×Int×ByteArray)):Prop:=∃ad cap,v=.slice ad L.length cap∧L.length≤cap∧∀i (h:i<L.length),∃b off,ad=some ⟨b,off,none⟩∧
 w.cell? ⟨b,off+i*3,none⟩=some (.int .i64 L[i].1)∧w.cell? ⟨b,off+i*3+1,none⟩=some (.int .i64 L[i].2.1)∧w.cell? ⟨b,off+i*3+2,none⟩=some (.string L[i].2.2)
theorem ScriptAt.later {w I:World} {v:Value} {L:List (Int×Int×ByteArray)} (h:ScriptAt w v L) (hb:Below w.heap.size w I):ScriptAt I v L:=by
 obtain⟨O,d,h1,h2,J⟩:=h;refine⟨O,d,h1,h2,fun i hi=>?_⟩
 obtain⟨b,G,e,c0,c1,c2⟩:=J i hi;exact⟨b,G,e,cell_later hb c0,cell_later hb c1,cell_later hb c2⟩
def inK (K:List Int) (k:Int) (j:Nat):Bool:=(K.take j).any fun x=>x==k
theorem pL {K:List Int} {k:Int} {j:Nat} (h:j<K.length):inK K k (j+1)=(inK K k j||(K[j]==k)):=by
 unfold inK;rw[List.take_succ_eq_append_getElem h,List.any_append];simp
theorem rI {K:List Int} {k:Int} (h:inK K k K.length=true):k∈K:=by
 unfold inK at h;rw[List.take_length,List.any_eq_true] at h;obtain⟨x,h1,h2⟩:=h;have:x=k:=by simpa using h2
 rw[←this];exact h1
def hm (K:List Int) (i:Nat):Nat:=if 5∈K then 40*i else 0
theorem rC {K:List Int} {k:Int} (d:k∈K) (i:Nat):(if k=5 then hm K i+40 else hm K i)≤hm K (i+1):=by
 unfold hm
 by_cases h:k=5
 ·subst h;rw[if_pos rfl,if_pos d,if_pos d];omega
 ·rw[if_neg h];split<;>omega
theorem io {K:List Int} (i:Nat):hm K i≤hm K (i+1):=by unfold hm;split<;>omega
end Go.Proofs.YtdajolpoiffimabGreatDoor

namespace Go.Proofs.YtdajolpoiffimabGreatDoor
open Go.RowKit Go.ChangeShapes Go.WideShapes Go.Deep
theorem rA (w:World) (K:List Int) (t:TypeId):RowAt (w.alloc (.cells (K.map (Value.int .i64)).toArray t)) (.slice (some ⟨w.heap.size,0,none⟩) K.length K.length) K.length (K.map (Value.int .i64)):=by
 refine Or.inr ⟨w.heap.size,0,K.length,rfl,Nat.le_refl _,fun j e=>?_⟩
 have hb:(w.alloc (.cells (K.map (Value.int .i64)).toArray t)).heap[w.heap.size]? =some (.cells (K.map (Value.int .i64)).toArray t (0,0)):=by show (w.heap.push (.cells (K.map (Value.int .i64)).toArray t))[w.heap.size]? =_;simp
 rw[cell_of_row _ _ _ (K.map (Value.int .i64)).toArray t (0,0) hb];have d:j<K.length:=by simpa using e
 simp[d]
set_option maxRecDepth 100000 in
theorem tN:∃f0 f1 f2:Field,Tryz.prog.underlying 99=some (.struct #[f0,f1,f2])∧f0.offset=0∧f1.offset=1∧f2.offset=2∧f0.type=3∧f1.type=3∧f2.type=9:=⟨_,_,_,Tryz.underlying99,rfl,rfl,rfl,rfl,rfl,rfl⟩
theorem rg:Tryz.prog.cellsOf 99=3:=by kernel_rfl
theorem qB:Tryz.prog.cellsOf 3=1:=by kernel_rfl
theorem pW:Tryz.prog.cellsOf 9=1:=by kernel_rfl
set_option maxRecDepth 100000 in
theorem open_script {H:Type} {Y:TypeId×Value→H} {W:World} {r:Reach} {b0:Nat} {v:Value} {d:DataW H} {ps:List MemPlace} (ac:Value.okWide Tryz.prog W r b0 56 v) (hd:DataW.Trod Y Tryz.prog W 0 (fun _=>true) true 56 v d ps):
 ∃L,ScriptAt W v L∧(∀x∈L,x.2.2.size≤maxLen)∧L.length≤maxLen∧((d=.nil∧L=[])∨∃w U,d=.slice w U∧w.length=L.length):=by
 obtain⟨a0,V,c0,rfl⟩:=okWide_slice Tryz.underlying56 ac;obtain⟨aa,hf⟩:=hd;have au:DataW.trod Y Tryz.prog W 0 (fun _=>true) true aa 56 [.slice a0 V c0]=some (d,ps):=by simpa [Value.cells] using hf
 obtain⟨f0,f1,f2,he,o0,o1,o2,t0,t1,t2⟩:=tN
 rcases open_slice Tryz.underlying56 au with ⟨h1,h2⟩|⟨a,len,aL,m,n,D,Pl,h1,hb,hl,hm,aj,h2,hx⟩
 ·simp at h1
  obtain⟨rfl,rfl,rfl⟩:=h1;simp only [Prod.mk.injEq] at h2;exact⟨[],⟨none,0,rfl,Nat.le_refl _,fun i h=>absurd h (by simp)⟩,by simp,by simp,Or.inl ⟨h2.1,rfl⟩⟩
 ·simp at h1
  obtain⟨rfl,rfl,rfl⟩:=h1;simp only [Prod.mk.injEq] at h2;have aK:m=c0:=by rw[aj];simp
  have each:∀i,i<V→∃q:Int×Int×ByteArray,W.cell? (a.add (i*3))=some (.int .i64 q.1)∧W.cell? (a.add (i*3+1))=some (.int .i64 q.2.1)∧W.cell? (a.add (i*3+2))=some (.string q.2.2)∧q.2.2.size≤maxLen:=by
   intro i hi;obtain⟨ah,g1,g2⟩:=hx i (by omega)
   rw[rg] at g1;obtain⟨_,ad,e⟩:=World.cells?_some g1;obtain⟨xs,k,hk,aM,_,ag,J⟩:=DataW.trod_struct he g2
   match xs,ag,ah,ad with
   | [y0,y1,y2],_,[v0,v1,v2],_=>
     have k0:=J 0 f0 rfl;have k1:=J 1 f1 rfl;have k2:=J 2 f2 rfl;simp[o0,o1,o2,t0,t1,t2,qB,pW] at k0 k1 k2;have O:=e 0 (by omega)
     have I:=e 1 (by omega)
     have Q:=e 2 (by omega)
     rw[add_add] at O I Q;obtain⟨G,q0,_,_⟩:=DataW.trod_int Tryz.underlying3 k0;obtain⟨z1,q1,_,_⟩:=DataW.trod_int Tryz.underlying3 k1;obtain⟨z2,q2,_,q3⟩:=DataW.trod_string Tryz.underlying9 k2;simp at q0 q1 q2;subst q0 q1 q2;exact⟨(G,z1,z2),by simpa using O,by simpa using I,by simpa using Q,q3⟩
  obtain⟨q,hq⟩:=choose_lt each;refine⟨(List.range V).map q,⟨some a,c0,by simp,by simpa using hl,fun i hi=>?_⟩,?_,by simp;omega,Or.inr ⟨_,_,h2.1,by simp⟩⟩
  ·have af:i<V:=by simpa using hi
   obtain⟨O,I,Q,_⟩:=hq i af;have G:=(hq 0 (by omega)).1
   obtain⟨ab,ao,Z⟩:=a
   have al:Z=none:=by
    cases Z with
    | none=>rfl
    | some z=>
      exfalso
      simp only [World.cell?,Addr.add] at G
      split at G
      ·simp at G
      ·cases G
   subst al;refine⟨ab,ao,rfl,?_⟩;simp only [List.getElem_map,List.getElem_range];rw[add_plain] at O I Q;exact⟨O,I,Q⟩
  ·intro x am;obtain⟨i,hi,rfl⟩:=List.mem_map.1 am;exact (hq i (List.mem_range.1 hi)).2.2.2
end Go.Proofs.YtdajolpoiffimabGreatDoor

namespace Go.Proofs.YtdajolpoiffimabGreatDoor
def slMB (s:Bx.St) (i:Nat) (x pv:Bx.Sl):Bool:=
 !decide (x.num<1)&& !decide (s.next≤x.num)&& !(decide (0<i)&&decide (x.num≤pv.num))&& !decide (x.line<1)&& !decide ((tn s.tab:Int)<x.line)&& !decide (s.clock<x.minute)&&
  !decide (x.att<1)&& !decide (Bx.opt s x.line 2-48<x.att)&&(if x.att=1 then decide (x.frm=x.minute) else decide (x.minute<x.frm)&&decide (x.frm≤s.clock+10))
def daks:ByteArray:={data:= #[100,97,107,115]}
def EnMay (s:Bx.St) (i:Nat) (x:Bx.En):Prop:=
 Txt.AmgP x.how daks∧Bx.find s x.num<0∧1≤x.num∧x.num<s.next∧∀j (hj:j<s.ends.length),j≠i→s.ends[j].num≠x.num
open Classical in
noncomputable def enMB (s:Bx.St) (i:Nat) (x:Bx.En):Bool:=decide (EnMay s i x)
open Classical in
theorem kf {s:Bx.St} {i:Nat} {x:Bx.En} (h:EnMay s i x):enMB s i x=true:=by unfold enMB;exact decide_eq_true h
open Classical in
theorem gq {s:Bx.St} {i:Nat} {x:Bx.En} (h:¬EnMay s i x):enMB s i x=false:=by unfold enMB;exact decide_eq_false h
open Classical in
theorem qC {s:Bx.St} {i:Nat} {x:Bx.En}:enMB s i x=true↔EnMay s i x:=by unfold enMB;exact decide_eq_true_iff
open Classical in
noncomputable def mayD (s:Bx.St):Bool:=decide (Bx.MayS s)
open Classical in
theorem qV {s:Bx.St} (h:Bx.MayS s):mayD s=true:=by unfold mayD;exact decide_eq_true h
open Classical in
theorem eO {s:Bx.St} (h:¬Bx.MayS s):mayD s=false:=by unfold mayD;exact decide_eq_false h
open Classical in
theorem qT {s:Bx.St}:mayD s=true↔Bx.MayS s:=by unfold mayD;exact decide_eq_true_iff
theorem iL {s:Bx.St} {i:Nat} {x pv:Bx.Sl}:slMB s i x pv=true↔(1≤x.num∧x.num<s.next∧(0<i→pv.num<x.num)∧1≤x.line∧x.line≤(tn s.tab:Int)∧x.minute≤s.clock∧1≤x.att∧x.att≤Bx.opt s x.line 2-48∧(x.att=1→x.frm=x.minute)∧(x.att≠1→x.minute<x.frm∧x.frm≤s.clock+10)):=by
 unfold slMB
 have U:(!(decide (0<i)&&decide (x.num≤pv.num)))=true↔(0<i→pv.num<x.num):=by
  by_cases h:0<i
  ·simp[h]
  ·simp[h]
 by_cases w:x.att=1
 ·rw[if_pos w];simp only [Bool.and_eq_true,U];simp only [Bool.not_eq_true',decide_eq_false_iff_not,decide_eq_true_eq]
  constructor
  ·rintro ⟨⟨⟨⟨⟨⟨⟨⟨h1,h2⟩,d⟩,G⟩,O⟩,J⟩,I⟩,Q⟩,e⟩;exact⟨by omega,by omega,d,by omega,by omega,by omega,by omega,by omega,fun _=>e,fun q=>absurd w q⟩
  ·rintro ⟨h1,h2,d,G,O,J,I,Q,e,_⟩;exact⟨⟨⟨⟨⟨⟨⟨⟨by omega,by omega⟩,d⟩,by omega⟩,by omega⟩,by omega⟩,by omega⟩,by omega⟩,e w⟩
 ·rw[if_neg w];simp only [Bool.and_eq_true,U];simp only [Bool.not_eq_true',decide_eq_false_iff_not,decide_eq_true_eq]
  constructor
  ·rintro ⟨⟨⟨⟨⟨⟨⟨⟨h1,h2⟩,d⟩,G⟩,O⟩,J⟩,I⟩,Q⟩,e⟩;exact⟨by omega,by omega,d,by omega,by omega,by omega,by omega,by omega,fun q=>absurd q w,fun _=>e⟩
  ·rintro ⟨h1,h2,d,G,O,J,I,Q,_,e⟩;exact⟨⟨⟨⟨⟨⟨⟨⟨by omega,by omega⟩,d⟩,by omega⟩,by omega⟩,by omega⟩,by omega⟩,by omega⟩,e w⟩
theorem sO {s:Bx.St} (h:Bx.MayS s) (j:Nat) (d:j<s.slots.length):slMB s j s.slots[j] (Bx.slAt s (j-1))=true:=by
 have q:=h.es _ (List.getElem_mem d);refine iL.2 ⟨q.n.1,q.n.2,fun h0=>?_,q.l.1,q.l.2,q.m,q.a.1,q.a.2,q.f1,q.f2⟩
 rw[Bx.slAt_eq (by omega:j-1<s.slots.length)]
 exact List.pairwise_iff_getElem.1 h.rise (j-1) j (by omega) d (by omega)
theorem oo {s:Bx.St} {i k:Nat} (h:Bx.lockK s i k=true):∃j,j<k∧j≠i∧(Bx.slAt s j).line=(Bx.slAt s i).line∧(Bx.slAt s j).runs=true:=by
 induction k with
 | zero=>cases h
 | succ k d=>
   have e:Bx.lockK s i (k+1)=(Bx.lockK s i k||(decide (¬k=i)&&(decide ((Bx.slAt s k).line=(Bx.slAt s i).line)&&(Bx.slAt s k).runs))):=rfl
   rw[e,Bool.or_eq_true] at h
   rcases h with h|h
   ·obtain⟨j,h1,h2⟩:=d h;exact⟨j,by omega,h2⟩
   ·simp only [Bool.and_eq_true,decide_eq_true_eq] at h
    exact⟨k,by omega,h.1,h.2.1,h.2.2⟩
theorem sC {s:Bx.St} (h:Bx.MayS s) (j:Nat) (G:j<s.slots.length) (O:s.slots[j].runs=true):Bx.locked s j=false∧s.slots[j].frm≤s.clock:=by
 refine⟨?_,(h.es _ (List.getElem_mem G)).r O⟩
 cases J:Bx.locked s j with
 | false=>rfl
 | true=>
   exfalso
   unfold Bx.locked at J;rw[Bool.and_eq_true] at J;obtain⟨Q,Y⟩:=J;obtain⟨k,e,V,d,w⟩:=oo Y;rw[Bx.slAt_eq G] at Q d;rw[Bx.slAt_eq e] at d w;have I:Bx.opt s s.slots[j].line 0=120:=by simpa using Q
   have U:=List.pairwise_iff_getElem.1 h.lock
   rcases Nat.lt_or_gt_of_ne V with q|q
   ·exact U k j e G q d (by rw[d];exact I) w O
   ·exact U j k G e q d.symm I O w
theorem findK_no {l:List Bx.Sl} {n:Int} {k:Nat} (h:Bx.findK l n k<0):∀j (G:j<l.length),j<k→l[j].num≠n:=by
 induction k with
 | zero=>intro j _ h;omega
 | succ k I=>
   intro j G J;rw[Bx.findK] at h
   by_cases w:k<l.length
   ·by_cases e:l[k].num=n
    ·simp[w,e] at h;omega
    ·simp[w,e] at h
     by_cases d:j=k
     ·subst d;exact e
     ·exact I h j G (by omega)
   ·have d:j<k:=by omega
    refine I ?_ j G d
    simpa [w] using h
theorem md {s:Bx.St} {n:Int}:Bx.find s n<0↔∀y∈s.slots,y.num≠n:=by
 constructor
 ·intro h y G;obtain⟨j,d,rfl⟩:=List.mem_iff_getElem.1 G;exact findK_no h j d d
 ·intro h
  by_cases w:Bx.find s n<0
  ·exact w
  ·obtain⟨hi,e⟩:=Bx.find_num w;exact absurd e (h _ (List.getElem_mem hi))
theorem lN {h:ByteArray}:Txt.AmgP h daks↔(h=Bx.hD∨h=Bx.hA∨h=Bx.hK∨h=Bx.hS):=by
 have I:∀(h:ByteArray) (v:UInt8),h.size=1→h.data.toList[0]? =some v→h=⟨#[v]⟩:=by
  intro h v w h0;refine Bx.ba_ext ?_;have d:h.data.toList.length=1:=by rw[Bx.ba_len];exact w
  cases G:h.data.toList with
  | nil=>rw[G] at d;cases d
  | cons a r=>
    rw[G] at d h0;have:r=[]:=List.eq_nil_of_length_eq_zero (by simpa using d)
    subst this;simp at h0;rw[h0]
 constructor
 ·rintro ⟨w,j,J,e⟩
  have h0:h.data.toList[0]? =some h[0]:=by
   rw[List.getElem?_eq_getElem (by rw[Bx.ba_len];omega)];rfl
  rw[e] at h0;have O:j<4:=J;have:=I h _ w h0
  rcases (by omega:j=0∨j=1∨j=2∨j=3) with rfl|rfl|rfl|rfl
  ·exact Or.inl this
  ·exact Or.inr (Or.inl this)
  ·exact Or.inr (Or.inr (Or.inl this))
  ·exact Or.inr (Or.inr (Or.inr this))
 ·rintro (rfl|rfl|rfl|rfl)
  ·exact⟨rfl,0,by decide,rfl⟩
  ·exact⟨rfl,1,by decide,rfl⟩
  ·exact⟨rfl,2,by decide,rfl⟩
  ·exact⟨rfl,3,by decide,rfl⟩
theorem sH {s:Bx.St} (h:Bx.MayS s) (j:Nat) (d:j<s.ends.length):EnMay s j s.ends[j]:=by
 have q:=h.ee _ (List.getElem_mem d);refine⟨lN.2 q.h,md.2 q.o,q.n.1,q.n.2,fun k I G=>?_⟩
 have w:=List.pairwise_iff_getElem.1 h.dif
 rcases Nat.lt_or_gt_of_ne G with e|e
 ·exact w k j I d e
 ·exact fun q=>w j k d I e q.symm
theorem p9 {l:List Bx.Sl} (h:∀j (I:j+1<l.length),(l[j]'(by omega)).num<(l[j+1]).num):∀j k (d:k<l.length) (w:j<k),(l[j]'(by omega)).num<l[k].num:=by
 intro j k
 induction k with
 | zero=>intro _ h;omega
 | succ k G=>
   intro d w;have h1:=h k d
   by_cases e:j=k
   ·subst e;exact h1
   ·exact Int.lt_trans (G (by omega) (by omega)) h1
theorem rJ {s:Bx.St} (hT:ChkR s.tab 0 0) (c1: -1≤s.clock) (c2:s.clock≤4223371679) (n1:1≤s.next) (n2:s.next≤10000) (sl:s.slots.length≤8) (en:s.ends.length≤6) (hm:∀x∈s.slots,0≤x.minute)
 (A:∀j (d:j<s.slots.length),slMB s j s.slots[j] (Bx.slAt s (j-1))=true) (B:∀j (d:j<s.slots.length),s.slots[j].runs=true→Bx.locked s j=false∧s.slots[j].frm≤s.clock) (C:∀j (d:j<s.ends.length),EnMay s j s.ends[j]):Bx.MayS s:=by
 have V:=fun j d=>iL.1 (A j d)
 refine⟨hT,c1,c2,n1,n2,sl,en,?_,?_,?_,?_,?_⟩
 ·rw[List.pairwise_iff_getElem];intro i j hi d G;refine p9 (fun k hk=>?_) i j d G
  have q:=(V (k+1) hk).2.2.1 (by omega)
  rw[Bx.slAt_eq (by omega:k+1-1<s.slots.length)] at q
  exact q
 ·rw[List.pairwise_iff_getElem];intro i j hi d G e1 e2 e3 e4;have w:=(B i hi e3).1;unfold Bx.locked at w;rw[Bx.slAt_eq hi] at w;have U:(Bx.opt s s.slots[i].line 0==120)=true:=by simpa using e2
  rw[U,Bool.true_and] at w;exact Bx.lockK_no w j d (by omega) (by rw[Bx.slAt_eq d,Bx.slAt_eq hi];exact e1.symm) (by rw[Bx.slAt_eq d];exact e4)
 ·rw[List.pairwise_iff_getElem];intro i j hi d G e;exact (C i hi).2.2.2.2 j d (by omega) e.symm
 ·intro x I;obtain⟨j,d,rfl⟩:=List.mem_iff_getElem.1 I;obtain⟨Q,J,_,O,Z,q6,q7,q8,q9,Y⟩:=V j d;exact⟨⟨Q,J⟩,⟨O,Z⟩,hm _ I,q6,⟨q7,q8⟩,q9,Y,fun e=>(B j d e).2⟩
 ·intro x I;obtain⟨j,d,rfl⟩:=List.mem_iff_getElem.1 I;obtain⟨Q,J,q3,O,_⟩:=C j d;exact⟨⟨q3,O⟩,lN.1 Q,md.1 J⟩
end Go.Proofs.YtdajolpoiffimabGreatDoor

namespace Go.Proofs.YtdajolpoiffimabGreatDoor
open Go.RowKit
theorem dP {a b:Bool} (h:a=b):Ending.returned (.bool a)=.returned (.bool b):=by rw[h]
set_option maxRecDepth 10000 in
set_option maxHeartbeats 4000000 in
theorem lC (s:Bx.St) (i:Nat) (hi:i<s.slots.length) (sl en:Value) (lb lc:Nat) (w:World) (hT:ChkR s.tab 0 0) (h8:s.slots.length≤255) (c1: -1≤s.clock) (c2:s.clock≤4223371679) (hL:LinesAt w lb s.tab) (hS:StAt w s sl en):
 Calls Tryz.prog 213 #[stV s sl en,.int .i64 i,.slice (some ⟨lb,0,none⟩) (tn s.tab) lc] w fun e w'=>e=.returned (.bool (slMB s i s.slots[i] (Bx.slAt s (i-1))))∧Below w.heap.size w w':=by
 obtain⟨ad,Z,rfl,bp⟩:=hS.sl.form;obtain⟨Y,O,rfl,bj⟩:=hS.en.form;have ac:=cw w (stO s (.slice ad s.slots.length Z) (.slice Y s.ends.length O));have hI:=StIn.new w s (.slice ad s.slots.length Z) (.slice Y s.ends.length O);have HT:=Hq hT;have aI:Hid (0<i→∃h:i-1<s.slots.length,Bx.slAt s (i-1)=s.slots[i-1]):=fun h=>⟨by omega,Bx.slAt_eq (by omega)⟩
 obtain⟨eb,aa,bx,hv,_,hc⟩:=(hS.sl.1.later ac).some' (by omega)
 cases hv
 obtain⟨d0,d1,d2,d3,d4,d5⟩:=dS hc i hi
 have aM:Hid (0<i→(w.alloc (stO s (.slice (some ⟨eb,aa,none⟩) s.slots.length Z) (.slice Y s.ends.length O))).cell? ⟨eb,aa+(i-1)*6,none⟩=some (.int .i64 (Bx.slAt s (i-1)).num)):=fun h=>by
  obtain⟨h1,h2⟩:=aI.out h;rw[h2];exact (dS hc (i-1) h1).1
 have HL:=Hq (hL.later ac);generalize s.slots[i]=x at *;generalize Bx.slAt s (i-1)=pv at *;have b1:(0:Int)≤(i:Int):=by omega
 have b2:(i:Int)<(s.slots.length:Int):=by omega
 clear hc hS hL hT aI
 go_enter Tryz.func213,Tryz.ntmps213
 go_upto_region 1 with fail;have ao:StIn (w.alloc (stO s (.slice (some ⟨eb,aa,none⟩) s.slots.length Z) (.slice Y s.ends.length O))) w.heap.size s (.slice (some ⟨eb,aa,none⟩) s.slots.length Z) (.slice Y s.ends.length O):=hI;clear hI;generalize w.alloc (stO s (.slice (some ⟨eb,aa,none⟩) s.slots.length Z) (.slice Y s.ends.length O))=W at *;have c3:=ao.c3;have hq:w.heap.size<W.heap.size:=World.block_lt_of_cell? _ _ c3;have af:=cw W (.cells #[.int .i64 x.num,.int .i64 x.line,.int .i64 x.minute,.int .i64 x.att,.int .i64 x.frm,.bool x.runs] 218);have hX:=Cl.new W [.int .i64 x.num,.int .i64 x.line,.int .i64 x.minute,.int .i64 x.att,.int .i64 x.frm,.bool x.runs] 218;go_upto_region 2 with fail;have U:Cl (W.alloc (.cells #[.int .i64 x.num,.int .i64 x.line,.int .i64 x.minute,.int .i64 x.att,.int .i64 x.frm,.bool x.runs] 218)) W.heap.size 218 [.int .i64 x.num,.int .i64 x.line,.int .i64 x.minute,.int .i64 x.att,.int .i64 x.frm,.bool x.runs]:=hX;clear hX d0 d1 d2 d3 d4 d5;have HB:=Hq (ac.trans (af.mono ac.size));have aZ:=ao.later af;have aP:=Hq (HL.out.later af);have al:Hid (0<i→(W.alloc (.cells #[.int .i64 x.num,.int .i64 x.line,.int .i64 x.minute,.int .i64 x.att,.int .i64 x.frm,.bool x.runs] 218)).cell? ⟨eb,aa+(i-1)*6,none⟩=some (.int .i64 pv.num)):=fun h=>cell_later af (aM.out h)
 clear af ac ao HL aM c3 hq;generalize W.alloc (.cells #[.int .i64 x.num,.int .i64 x.line,.int .i64 x.minute,.int .i64 x.att,.int .i64 x.frm,.bool x.runs] 218)=W2 at *;generalize W.heap.size=xq at *;obtain⟨g0,g1,g2,g3,g4⟩:=aZ;have aG:w.heap.size<W2.heap.size:=World.block_lt_of_cell? _ _ g3;have e0:=U.c 0 _ rfl;have e1:=U.c 1 _ rfl;have e2:=U.c 2 _ rfl;have e3:=U.c 3 _ rfl;have e4:=U.c 4 _ rfl;have aN:=U.ty.lt;clear U
 by_cases k1:x.num<1
 ·have ak:decide (x.num<1)=true:=decide_eq_true k1;have d:Hid (slMB s i x pv=false):=by unfold Hid slMB;simp[k1]
  go_wp2_with fail
  go_quiet (fail)
  go_wp2_with fail;go_ret;exact⟨dP d.out.symm,below_drewN HB.out _⟩
 ·have ak:decide (x.num<1)=false:=decide_eq_false k1
  by_cases k2:s.next≤x.num
  ·have aw:decide (s.next≤x.num)=true:=decide_eq_true k2;have d:Hid (slMB s i x pv=false):=by unfold Hid slMB;simp[k2]
   go_wp2_with fail
   go_quiet (fail)
   go_wp2_with fail;go_ret;exact⟨dP d.out.symm,below_drewN HB.out _⟩
  ·have aw:decide (s.next≤x.num)=false:=decide_eq_false k2
   by_cases k3:0<i
   case' pos=>
    have aC:decide (0<i)=true:=decide_eq_true k3;have pc:=al.out k3;obtain⟨im,a8⟩:∃im:Nat,i=im+1:=⟨i-1,by omega⟩
    have bG:IntKind.i64.wrap ((i:Int)-1)=(im:Int):=by rw[IntKind.wrap_i64];omega
    have av:i-1=im:=by omega
    rw[av] at pc;have p1:(0:Int)≤(im:Int):=by omega
    have p2:(im:Int)<(s.slots.length:Int):=by omega
    have bA:eb<W2.heap.size:=World.block_lt_of_cell? _ _ pc;clear a8 av
    by_cases ap:x.num≤pv.num
    ·have aB:decide (x.num≤pv.num)=true:=decide_eq_true ap;have d:Hid (slMB s i x pv=false):=by unfold Hid slMB;simp[k3,ap]
     go_wp2_with fail
     go_quiet (fail)
     go_wp2_with fail;go_ret;exact⟨dP d.out.symm,below_drewN HB.out _⟩
    have aB:decide (x.num≤pv.num)=false:=decide_eq_false ap
   case' neg=>
    have aC:decide (0<i)=false:=decide_eq_false k3
   all_goals
    by_cases k4:x.line<1
    ·have aj:decide (x.line<1)=true:=decide_eq_true k4;have d:Hid (slMB s i x pv=false):=by unfold Hid slMB;simp[k4]
     go_wp2_with fail
     go_quiet (fail)
     go_wp2_with fail;go_ret;exact⟨dP d.out.symm,below_drewN HB.out _⟩
    ·have aj:decide (x.line<1)=false:=decide_eq_false k4
     by_cases k5:(tn s.tab:Int)<x.line
     ·have ay:decide ((tn s.tab:Int)<x.line)=true:=decide_eq_true k5;have d:Hid (slMB s i x pv=false):=by unfold Hid slMB;simp[k5]
      go_wp2_with fail
      go_quiet (fail)
      go_wp2_with fail;go_ret;exact⟨dP d.out.symm,below_drewN HB.out _⟩
     ·have ay:decide ((tn s.tab:Int)<x.line)=false:=decide_eq_false k5
      by_cases k6:s.clock<x.minute
      ·have am:decide (s.clock<x.minute)=true:=decide_eq_true k6;have d:Hid (slMB s i x pv=false):=by unfold Hid slMB;simp[k6]
       go_wp2_with fail
       go_quiet (fail)
       go_wp2_with fail;go_ret;exact⟨dP d.out.symm,below_drewN HB.out _⟩
      ·have am:decide (s.clock<x.minute)=false:=decide_eq_false k6;obtain⟨j,hj⟩:∃j:Nat,x.line=(j:Int)+1:=⟨(x.line-1).toNat,by omega⟩
       have ax:j<tn s.tab:=by omega
       obtain⟨ar,_,ag⟩:=HT.out.lines;have a7:=iX HT.out;have bf:Hid (LineP (tl s.tab j)):=ag _ ax;have aK:(tl s.tab j).size≤300:=fD ar _ (by have:=eP s.tab;omega)
       clear ar ag;have a4:IntKind.i64.wrap (x.line-1)=(j:Int):=by rw[IntKind.wrap_i64];omega
       clear a7;have p3:(0:Int)≤(j:Int):=by omega
       have p4:(j:Int)<(tn s.tab:Int):=by omega
       have aJ:Hid (Bx.opt s x.line 2-48=ob (tl s.tab j) 2-48):=by unfold Hid Bx.opt;rw[show (x.line-1).toNat=j by omega]
       clear hj;go_wp2_with fail
       go_quiet (fail)
       have I:Below W2.heap.size W2 (W2.drewN nq):=below_drewN (Below.refl _ _) nq;have aA:=Hq (HB.out.trans (I.mono HB.out.size));have f1:=cell_later I e1;have f2:=cell_later I e2;have f3:=cell_later I e3;have f4:=cell_later I e4;have f5:=cell_later I g1;have cl:=cell_later I (aP.out j ax);have aH:xq<(W2.drewN nq).heap.size:=Nat.lt_of_lt_of_le aN I.size;have aO:w.heap.size<(W2.drewN nq).heap.size:=Nat.lt_of_lt_of_le aG I.size;clear e0 e1 e2 e3 e4 g0 g1 g2 g3 g4 I aN aG aP al HB;generalize W2.drewN nq=W4 at *;go_wp2_with fail;refine (ew (tl s.tab j) _ aK bf.out).mono ?_;rintro e w5 ⟨rfl,J⟩;have Q:=Hq (aA.out.trans (J.mono aA.out.size));have e1:=cell_later J f1;have e2:=cell_later J f2;have e3:=cell_later J f3;have e4:=cell_later J f4;have g1:=cell_later J f5;have bF:xq<w5.heap.size:=Nat.lt_of_lt_of_le aH J.size;have bI:w.heap.size<w5.heap.size:=Nat.lt_of_lt_of_le aO J.size
       have G:Hid (slMB s i x pv=(!decide (x.att<1)&& !decide (ob (tl s.tab j) 2-48<x.att)&&(if x.att=1 then decide (x.frm=x.minute) else decide (x.minute<x.frm)&&decide (x.frm≤s.clock+10)))):=by
        unfold Hid slMB;rw[aJ.out];first |simp only [ak,aw,aj,ay,am,aC,aB,Bool.not_false,Bool.true_and,Bool.and_true,Bool.and_false]|simp only [ak,aw,aj,ay,am,aC,Bool.not_false,Bool.true_and,Bool.and_true,Bool.false_and]
       clear f1 f2 f3 f4 f5 cl J aH aO aA aJ ax aK a4;generalize ob (tl s.tab j) 2-48=mo at *
       by_cases k7:x.att<1
       ·have d:Hid (slMB s i x pv=false):=by unfold Hid;rw[G.out];simp[k7]
        go_wp2_with fail;go_ret;exact⟨dP d.out.symm,Q.out⟩
       ·by_cases k8:mo<x.att
        ·have d:Hid (slMB s i x pv=false):=by unfold Hid;rw[G.out];simp[k8]
         go_wp2_with fail;go_ret;exact⟨dP d.out.symm,Q.out⟩
        ·by_cases V:x.att=1
         ·by_cases ae:x.frm=x.minute
          ·have d:Hid (slMB s i x pv=true):=by unfold Hid;rw[G.out,if_pos V];simp[k7,k8,ae]
           rw[V] at e3 k7 k8;rw[←ae] at e2;clear V ae G;go_wp2_with fail;go_ret;exact⟨dP d.out.symm,Q.out⟩
          ·have d:Hid (slMB s i x pv=false):=by unfold Hid;rw[G.out,if_pos V];simp[ae]
           rw[V] at e3 k7 k8;have bs:(x.frm==x.minute)=false:=by rw[beq_eq_false_iff_ne];exact ae
           clear V G;go_wp2_with fail;go_ret;exact⟨dP d.out.symm,Q.out⟩
         ·have bJ:(x.att==1)=false:=by rw[beq_eq_false_iff_ne];exact V
          have bH:IntKind.i64.wrap (s.clock+10)=s.clock+10:=by rw[IntKind.wrap_i64];omega
          by_cases aL:x.minute<x.frm
          ·by_cases az:x.frm≤s.clock+10
           ·have d:Hid (slMB s i x pv=true):=by unfold Hid;rw[G.out,if_neg V];simp[k7,k8,aL,az]
            clear G;go_wp2_with fail;go_ret;exact⟨dP d.out.symm,Q.out⟩
           ·have d:Hid (slMB s i x pv=false):=by unfold Hid;rw[G.out,if_neg V];simp[az]
            have br:decide (x.frm≤s.clock+10)=false:=decide_eq_false az;clear G;go_wp2_with fail;go_ret;exact⟨dP d.out.symm,Q.out⟩
          ·have d:Hid (slMB s i x pv=false):=by unfold Hid;rw[G.out,if_neg V];simp[aL]
           clear G;go_wp2_with fail;go_ret;exact⟨dP d.out.symm,Q.out⟩
theorem rN (s t:ByteArray) (w:World) (I:s.size≤300) (G:t.size≤10):
 Calls Tryz.prog 176 #[.string s,.string t] w fun e d=>e=.returned (.bool (Txt.amgB s t))∧Below w.heap.size w d:=
 (fT s t w I G).mono fun _ _ h=>⟨h.1,by obtain⟨n,e⟩:=h.2;rw[e];exact below_drewN (Below.refl _ _) n⟩
set_option maxRecDepth 10000 in
set_option maxHeartbeats 4000000 in
theorem mi (s:Bx.St) (i:Nat) (hi:i<s.ends.length) (sl en:Value) (w:World) (h8:s.slots.length≤255) (h6:s.ends.length≤255) (hh:s.ends[i].how.size=1) (hS:StAt w s sl en):
 Calls Tryz.prog 214 #[stV s sl en,.int .i64 i] w fun e w'=>e=.returned (.bool (enMB s i s.ends[i]))∧Below w.heap.size w w':=by
 obtain⟨ad,Y,rfl,a4⟩:=hS.sl.form;obtain⟨au,I,rfl,aW⟩:=hS.en.form;have aa:=cw w (stO s (.slice ad s.slots.length Y) (.slice au s.ends.length I));have hI:=StIn.new w s (.slice ad s.slots.length Y) (.slice au s.ends.length I);have ax:=Hq hS;obtain⟨eb,J,a9,hv,_,hc⟩:=(hS.en.1.later aa).some' (by omega)
 cases hv
 obtain⟨d0,d1⟩:=fS hc i hi;have aC:Hid (∀k (O:k<s.ends.length),(w.alloc (stO s (.slice ad s.slots.length Y) (.slice (some ⟨eb,J,none⟩) s.ends.length I))).cell? ⟨eb,J+k*2,none⟩=some (.int .i64 s.ends[k].num)):=fun k O=>(fS hc k O).1
 have HS:=Hq (ax.out.later aa);have HX:Hid (∀x,x=s.ends[i]→enMB s i s.ends[i]=enMB s i x):=fun x e=>by rw[e]
 have aL:Hid (EnMay s i s.ends[i]↔EnMay s i s.ends[i]):=Iff.rfl;generalize s.ends[i]=x at *;have b1:(0:Int)≤(i:Int):=by omega
 have b2:(i:Int)<(s.ends.length:Int):=by omega
 clear hc hS ax HX aL
 go_enter Tryz.func214,Tryz.ntmps214
 go_upto_region 1 with fail;have aj:StIn (w.alloc (stO s (.slice ad s.slots.length Y) (.slice (some ⟨eb,J,none⟩) s.ends.length I))) w.heap.size s (.slice ad s.slots.length Y) (.slice (some ⟨eb,J,none⟩) s.ends.length I):=hI;clear hI;generalize w.alloc (stO s (.slice ad s.slots.length Y) (.slice (some ⟨eb,J,none⟩) s.ends.length I))=W at *;have c4:=aj.c4;have hq:w.heap.size<W.heap.size:=World.block_lt_of_cell? _ _ c4;have ac:=cw W (.cells #[.int .i64 x.num,.string x.how] 85);have hX:=Cl.new W [.int .i64 x.num,.string x.how] 85;go_upto_region 2 with fail;have ag:Cl (W.alloc (.cells #[.int .i64 x.num,.string x.how] 85)) W.heap.size 85 [.int .i64 x.num,.string x.how]:=hX;clear hX d0 d1;have HB:=Hq (aa.trans (ac.mono aa.size));have aw:=aj.later ac;have ar:=Hq (HS.out.later ac);have az:Hid (∀k (O:k<s.ends.length),(W.alloc (.cells #[.int .i64 x.num,.string x.how] 85)).cell? ⟨eb,J+k*2,none⟩=some (.int .i64 s.ends[k].num)):=fun k O=>cell_later ac (aC.out k O)
 clear ac aa aj HS aC c4 hq;generalize W.alloc (.cells #[.int .i64 x.num,.string x.how] 85)=W2 at *;generalize W.heap.size=xq at *;have e0:=ag.c 0 _ rfl;have e1:=ag.c 1 _ rfl;have aR:=ag.ty.lt;clear ag;go_wp2_with fail;refine (rN x.how {data:= #[100,97,107,115]} _ (by omega) (by decide)).mono ?_
 rintro e w3 ⟨rfl,Z⟩;have ae:=Hq (HB.out.trans (Z.mono HB.out.size));have f0:=cell_later Z e0;have aN:=aw.later Z;have ak:=Hq (ar.out.later Z);have aA:Hid (∀k (O:k<s.ends.length),w3.cell? ⟨eb,J+k*2,none⟩=some (.int .i64 s.ends[k].num)):=fun k O=>cell_later Z (az.out k O)
 obtain⟨g0,g1,g2,g3,g4⟩:=aN;clear e0 e1 aw Z HB ar az aR
 have HA:Hid (∀b,Txt.amgB x.how {data:= #[100,97,107,115]}=b→(Txt.AmgP x.how daks↔b=true)):=by
  intro b hb
  constructor
  ·intro h;rw[←hb];exact Txt.amgB_yes h
  ·intro h;rw[h] at hb;by_cases q:Txt.AmgP x.how daks
   ·exact q
   ·have:=Txt.amgB_no q;unfold daks at this;rw[hb] at this;cases this
 cases ha:Txt.amgB x.how {data:= #[100,97,107,115]}
 ·have V:Hid (enMB s i x=false):=gq fun h=>by have:=(HA.out _ ha).1 h.1;cases this
  clear HA ha;go_wp2_with fail;refine (eW s x.num _ _ _ (by omega) ak.out).mono ?_
  rintro e w4 ⟨rfl,d⟩;have U:=Hq (ae.out.trans (d.mono ae.out.size));clear d;go_wp2_with fail;go_ret;exact⟨dP V.out.symm,U.out⟩
 ·have aD:Hid (Txt.AmgP x.how daks):=(HA.out _ ha).2 rfl;clear HA ha;go_wp2_with fail;refine (eW s x.num _ _ _ (by omega) ak.out).mono ?_
  rintro e w4 ⟨rfl,d⟩;have U:=Hq (ae.out.trans (d.mono ae.out.size));have e0:=cell_later d f0;have k2:=cell_later d g2;have k4:=cell_later d g4;have aP:Hid (∀k (O:k<s.ends.length),w4.cell? ⟨eb,J+k*2,none⟩=some (.int .i64 s.ends[k].num)):=fun k O=>cell_later d (aA.out k O)
  clear f0 g0 g1 g2 g3 g4 d ae ak aA
  have aB:Hid (∀z,Bx.find s x.num=z→(EnMay s i x↔(z<0∧1≤x.num∧x.num<s.next∧∀j (Q:j<s.ends.length),j≠i→s.ends[j].num≠x.num))):=by
   intro z hz;subst hz;exact⟨fun h=>h.2,fun h=>⟨aD.out,h⟩⟩
  obtain⟨z,hz⟩:∃z,Bx.find s x.num=z:=⟨_,rfl⟩;have HF:=aB.out z hz;have G:=Hq HF;clear HF aB aD;rw[hz];clear hz
  by_cases q1:0≤z
  ·have V:Hid (enMB s i x=false):=gq fun h=>by have:=(G.out.1 h).1;omega
   clear G;go_wp2_with fail;go_ret;exact⟨dP V.out.symm,U.out⟩
  ·by_cases q2:x.num<1
   ·have V:Hid (enMB s i x=false):=gq fun h=>by have:=(G.out.1 h).2.1;omega
    clear G;go_wp2_with fail;go_ret;exact⟨dP V.out.symm,U.out⟩
   ·by_cases q3:s.next≤x.num
    ·have V:Hid (enMB s i x=false):=gq fun h=>by have:=(G.out.1 h).2.2.1;omega
     clear G;go_wp2_with fail;go_ret;exact⟨dP V.out.symm,U.out⟩
    ·have av:Hid (EnMay s i x↔∀j (Q:j<s.ends.length),j≠i→s.ends[j].num≠x.num):=⟨fun h=>(G.out.1 h).2.2.2,fun h=>G.out.2 ⟨by omega,by omega,by omega,h⟩⟩
     clear G;go_wp2_with fail
     go_loopw [8] (fun iv wr=>∃k n:Nat,k≤s.ends.length∧iv=.int .i64 k∧wr=w4.drewN n∧∀j (Q:j<s.ends.length),j<k→j≠i→s.ends[j].num≠x.num) (fun iv _=>s.ends.length-(intOf iv).toNat)
     case atStart=>exact⟨0,0,Nat.zero_le _,rfl,rfl,fun j _ h=>by omega⟩
     case round=>
      obtain⟨k,n,O,rfl,rfl,aq⟩:=hrel;have am:=Hq aq;clear aq
      by_cases ay:k<s.ends.length
      ·have y2:(k:Int)<(s.ends.length:Int):=by omega
       have y1:(0:Int)≤(k:Int):=by omega
       have ck:=aP.out k ay
       by_cases e1:k=i
       ·have HN:Hid (∀j (Q:j<s.ends.length),j<k+1→j≠i→s.ends[j].num≠x.num):=fun j Q h1 h2=>am.out j Q (by omega) h2
        have z1:((k:Int) !=(i:Int))=false:=by simp[e1]
        clear ck e1;go_wp2_with fail
        go_quiet (fail)
        go_wp2_with fail;go_roundw
        case rel=>exact⟨k+1,_,by omega,by go_num,rfl,HN.out⟩
        case measure=>simp[intOf];omega
       ·have z1:((k:Int) !=(i:Int))=true:=by simp;omega
        have HY:Hid (s.ends[k].num=x.num→enMB s i x=false):=fun h=>gq fun h2=>av.out.1 h2 k ay e1 h
        have ai:Hid (¬s.ends[k].num=x.num→∀j (Q:j<s.ends.length),j<k+1→j≠i→s.ends[j].num≠x.num):=fun h j Q h1 h2=>by
         by_cases q:j=k
         ·subst q;exact h
         ·exact am.out j Q (by omega) h2
        generalize s.ends[k].num=kn at *
        cases e2:(kn==x.num)
        ·have HN:Hid (∀j (Q:j<s.ends.length),j<k+1→j≠i→s.ends[j].num≠x.num):=ai.out (by simpa using e2)
         clear ai HY e1;go_wp2_with fail
         go_quiet (fail)
         go_wp2_with fail;go_roundw
         case rel=>exact⟨k+1,_,by omega,by go_num,rfl,HN.out⟩
         case measure=>simp[intOf];omega
        ·have V:Hid (enMB s i x=false):=HY.out (by simpa using e2)
         clear ai HY e1;go_wp2_with fail
         go_quiet (fail)
         go_wp2_with fail;go_ret;exact⟨dP V.out.symm,below_drewN (below_drewN U.out _) _⟩
      ·obtain rfl:k=s.ends.length:=by omega
       have V:Hid (enMB s i x=true):=kf (av.out.2 fun j Q h=>am.out j Q Q h)
       go_wp2_with fail;go_ret;exact⟨dP V.out.symm,below_drewN U.out _⟩
end Go.Proofs.YtdajolpoiffimabGreatDoor
