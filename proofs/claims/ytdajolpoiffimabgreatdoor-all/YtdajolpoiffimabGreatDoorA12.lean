import Derived.Deep.RegionHeld3
import Derived.Deep.DrawnRows
import Derived.Deep.CutRange
import Derived.Test.YtdajolpoiffimabGreatDoorA11

namespace Go.Proofs.YtdajolpoiffimabGreatDoor
open Go.RowKit
theorem mj {s:ByteArray} (h:Txt.digs s=true):Txt.star s=false∧Txt.cut3 45 s=false:=by
 constructor
 ·cases e:Txt.star s
  ·rfl
  ·have w:s.toList=[42]:=by simpa [Txt.star] using e
   have G:s.data.toList=[42]:=by rw[←w];simp[ByteArray.toList_eq]
   rw[Txt.digs,G] at h
   cases h
 ·have d:Txt.NoSep 45 s 0 s.size:=by
   intro j I _ _;have:=Txt.dg_of (Txt.digs_at h j I);have:¬((s[j].toNat:Int)=45):=by omega
   simpa using this
  exact (Txt.cut_no d).2.2
theorem oc {l g:Int}{s:ByteArray} (l1:0≤l) (h:Txt.digs s=false) (k:rvK l g s=true):Txt.star s=true∨Txt.cut3 45 s=true:=by
 cases h1:Txt.star s
 ·cases d:Txt.cut3 45 s
  ·exfalso
   have w:¬Txt.fst 45 s<s.size:=by simpa [Txt.cut3] using d
   have e:Txt.cut1 45 s=s:=by simp[Txt.cut1,w]
   have v:Txt.val s= -1:=Txt.val_no (Or.inr (Or.inr h));have:=(of_decide_eq_true k).1;simp[rvA,h1,e,v] at this;omega
  ·exact Or.inr rfl
 ·exact Or.inl rfl
theorem ic (l g:Int) (p:ByteArray):Txt.spK l g p=decide ((Txt.star (Txt.cut1 47 p)=true∨Txt.cut3 47 p=false∨Txt.cut3 45 (Txt.cut1 47 p)=true)∧1≤Txt.spS p∧rvK l g (Txt.cut1 47 p)=true):=by
 have:Txt.spK l g p=decide ((Txt.star (Txt.cut1 47 p)=true∨Txt.cut3 47 p=false∨Txt.cut3 45 (Txt.cut1 47 p)=true)∧1≤Txt.spS p∧l≤rvA l (Txt.cut1 47 p)∧rvA l (Txt.cut1 47 p)≤rvB g (Txt.cut1 47 p)∧rvB g (Txt.cut1 47 p)≤g):=rfl;rw[this];simp only [rvK,decide_eq_true_eq]
set_option maxHeartbeats 0 in
theorem tM (p:ByteArray) (l g:Int) (w:World) (G:p.size≤300) (l1:0≤l) (Y:l≤1) (V:6≤g) (Z:g≤59) (h2:Txt.cut3 47 p=false):
 Calls Tryz.prog 185 #[.string p,.int .i64 l,.int .i64 g] w fun e Q=>PartR (Txt.spK l g p) (Txt.spA l p) (Txt.spB g p) (Txt.spS p) e∧Below w.heap.size w Q:=by
 have K:Hid (Txt.spK l g p=rvK l g (Txt.cut1 47 p)):=by
  have e:Txt.spS p=1:=by simp[Txt.spS,h2]
  unfold Hid;rw[ic,e]
  cases q:rvK l g (Txt.cut1 47 p)<;>simp[h2]
 have S:Hid (Txt.spS p=1):=by unfold Hid;simp[Txt.spS,h2]
 have U:Hid ((Txt.cut1 47 p).size≤300):=Nat.le_trans (Txt.cut1_size _ _) G;have s2:Hid ((Txt.cut2 47 p).size≤300):=Nat.le_trans (Txt.cut2_size _ _) G
 go_enter Tryz.func185,Tryz.ntmps185
 go_wp2_with fail;refine (gn _ _ _ G).mono ?_;rintro e Q ⟨rfl,n1,rfl⟩;go_wp2_with fail;refine (gl _ _ _ _ U.out l1 Y V Z).mono ?_;rintro e w1 ⟨hR,hb⟩;have O:Hid (Below w.heap.size w w1):=(below_drewN (dx w _) _).trans (hb.mono (by simp))
 obtain⟨J,hf⟩:=dU hb;have hz:w.heap.size<w1.heap.size:=by have:=hb.size;simp at this;omega
 have d:w.heap.size≤w1.heap.size:=by omega
 clear hb
 rcases hR with ⟨k,rfl⟩|⟨k,rfl⟩
 ·have I:Hid (Txt.spK l g p=true):=K.out.trans k;clear k;go_wp2_with fail;exact bodyPost_ret (v:=.tuple #[partV (rvA l (Txt.cut1 47 p)) (rvB g (Txt.cut1 47 p)) 1,.bool true]) (by simp[results,Tryz.results185,go_sem,J]) rfl ⟨fC I.out rfl rfl S.out,by repeat (first |exact Below.refl _ _|exact O.out|refine below_drewN ?_ _|refine Below.setCell ?_ (by simp) _|refine Below.alloc ?_ (by first |exact d|(simp;done)|(simp;omega)) _)⟩
 ·have I:Hid (Txt.spK l g p=false):=K.out.trans k;clear k;go_wp2_with fail;exact bodyPost_ret (v:=.tuple #[partV 0 0 0,.bool false]) (by simp[results,Tryz.results185,go_sem,J]) rfl ⟨ec I.out,by repeat (first |exact Below.refl _ _|exact O.out|refine below_drewN ?_ _|refine Below.setCell ?_ (by simp) _|refine Below.alloc ?_ (by first |exact d|(simp;done)|(simp;omega)) _)⟩
set_option maxHeartbeats 0 in
theorem tQ (p:ByteArray) (l g:Int) (w:World) (d:p.size≤300) (_l1:0≤l) (_l2:l≤1) (_g1:6≤g) (_g2:g≤59) (h2:Txt.cut3 47 p=true) (hd:Txt.digs (Txt.cut1 47 p)=true):
 Calls Tryz.prog 185 #[.string p,.int .i64 l,.int .i64 g] w fun e G=>PartR (Txt.spK l g p) (Txt.spA l p) (Txt.spB g p) (Txt.spS p) e∧Below w.heap.size w G:=by
 have J:Hid (Txt.spK l g p=false):=by
  have:=mj hd;unfold Hid;rw[ic];simp[h2,this.1,this.2]
 have I:Hid ((Txt.cut1 47 p).size≤300):=Nat.le_trans (Txt.cut1_size _ _) d;have O:Hid ((Txt.cut2 47 p).size≤300):=Nat.le_trans (Txt.cut2_size _ _) d
 go_enter Tryz.func185,Tryz.ntmps185
 go_wp2_with fail;refine (gn _ _ _ d).mono ?_;rintro e G ⟨rfl,n1,rfl⟩;go_wp2_with fail;refine (fk _ _ I.out).mono ?_;rintro e G ⟨rfl,rfl⟩;go_wp2_with fail;exact bodyPost_ret (v:=.tuple #[partV 0 0 0,.bool false]) (by simp[results,Tryz.results185,go_sem]) rfl ⟨ec J.out,by repeat (first |exact Below.refl _ _|refine below_drewN ?_ _|refine Below.setCell ?_ (by simp) _|refine Below.alloc ?_ (by simp) _)⟩
set_option maxHeartbeats 0 in
theorem tO (p:ByteArray) (l g:Int) (w:World) (Q:p.size≤300) (l1:0≤l) (l2:l≤1) (g1:6≤g) (g2:g≤59) (h2:Txt.cut3 47 p=true) (hd:Txt.digs (Txt.cut1 47 p)=false):
 Calls Tryz.prog 185 #[.string p,.int .i64 l,.int .i64 g] w fun e O=>PartR (Txt.spK l g p) (Txt.spA l p) (Txt.spB g p) (Txt.spS p) e∧Below w.heap.size w O:=by
 have S:Hid (Txt.spS p=Txt.val (Txt.cut2 47 p)):=by unfold Hid;simp[Txt.spS,h2]
 have K0:Hid (rvK l g (Txt.cut1 47 p)=false→Txt.spK l g p=false):=fun k=>by rw[ic];simp[k]
 have V:Hid (Txt.val (Txt.cut2 47 p)<1→Txt.spK l g p=false):=fun k=>by rw[ic,S.out];exact decide_eq_false (by omega)
 have K2:Hid (rvK l g (Txt.cut1 47 p)=true→1≤Txt.val (Txt.cut2 47 p)→Txt.spK l g p=true):=fun k q=>by
  rw[ic,S.out];exact decide_eq_true ⟨by rcases oc l1 hd k with h|h<;>simp[h],q,k⟩
 have U:Hid ((Txt.cut1 47 p).size≤300):=Nat.le_trans (Txt.cut1_size _ _) Q;have s2:Hid ((Txt.cut2 47 p).size≤300):=Nat.le_trans (Txt.cut2_size _ _) Q
 go_enter Tryz.func185,Tryz.ntmps185
 go_wp2_with fail;refine (gn _ _ _ Q).mono ?_;rintro e O ⟨rfl,n1,rfl⟩;go_wp2_with fail;refine (fk _ _ U.out).mono ?_;rintro e O ⟨rfl,rfl⟩;go_wp2_with fail;refine (gl _ _ _ _ U.out l1 l2 g1 g2).mono ?_;rintro e w1 ⟨hR,hb⟩;have J:Hid (Below w.heap.size w w1):=(below_drewN (dx w _) _).trans (hb.mono (by simp))
 obtain⟨G,hf⟩:=dU hb;have I:w.heap.size<w1.heap.size:=by have:=hb.size;simp at this;omega
 have d:w.heap.size≤w1.heap.size:=by omega
 clear hb;have bS:=Txt.val_bd (Txt.cut2 47 p)
 rcases hR with ⟨k,rfl⟩|⟨k,rfl⟩
 ·have Z:=Hq k;clear k;go_wp2_with fail;refine (eD _ _ s2.out).mono ?_;rintro e O ⟨rfl,rfl⟩
  by_cases Y:Txt.val (Txt.cut2 47 p)<0
  ·obtain⟨r1,r2⟩:=ik Y;go_wp2_with fail;exact bodyPost_ret (v:=.tuple #[partV 0 0 0,.bool false]) (by simp[results,Tryz.results185,go_sem,G,I]) rfl ⟨ec (V.out (by omega)),by repeat (first |exact Below.refl _ _|exact J.out|refine below_drewN ?_ _|refine Below.setCell ?_ (by simp) _|refine Below.alloc ?_ (by first |exact d|(simp;done)|(simp;omega)) _)⟩
  obtain⟨r1,r2⟩:=jd (show 0≤Txt.val (Txt.cut2 47 p) by omega)
  by_cases q2:Txt.val (Txt.cut2 47 p)<1
  ·go_wp2_with fail;exact bodyPost_ret (v:=.tuple #[partV 0 0 0,.bool false]) (by simp[results,Tryz.results185,go_sem,G,I]) rfl ⟨ec (V.out (by omega)),by repeat (first |exact Below.refl _ _|exact J.out|refine below_drewN ?_ _|refine Below.setCell ?_ (by simp) _|refine Below.alloc ?_ (by first |exact d|(simp;done)|(simp;omega)) _)⟩
  go_wp2_with fail;exact bodyPost_ret (v:=.tuple #[partV (rvA l (Txt.cut1 47 p)) (rvB g (Txt.cut1 47 p)) (Txt.val (Txt.cut2 47 p)),.bool true]) (by simp[results,Tryz.results185,go_sem,G,I]) rfl ⟨fC (K2.out Z.out (by omega)) rfl rfl S.out,by repeat (first |exact Below.refl _ _|exact J.out|refine below_drewN ?_ _|refine Below.setCell ?_ (by simp) _|refine Below.alloc ?_ (by first |exact d|(simp;done)|(simp;omega)) _)⟩
 ·have KK:Hid (Txt.spK l g p=false):=K0.out k;clear k;go_wp2_with fail;exact bodyPost_ret (v:=.tuple #[partV 0 0 0,.bool false]) (by simp[results,Tryz.results185,go_sem,G,I]) rfl ⟨ec KK.out,by repeat (first |exact Below.refl _ _|exact J.out|refine below_drewN ?_ _|refine Below.setCell ?_ (by simp) _|refine Below.alloc ?_ (by first |exact d|(simp;done)|(simp;omega)) _)⟩
theorem gX (p:ByteArray) (l g:Int) (w:World) (G:p.size≤300) (l1:0≤l) (I:l≤1) (d:6≤g) (J:g≤59):
 Calls Tryz.prog 185 #[.string p,.int .i64 l,.int .i64 g] w fun e O=>PartR (Txt.spK l g p) (Txt.spA l p) (Txt.spB g p) (Txt.spS p) e∧Below w.heap.size w O:=by
 cases h2:Txt.cut3 47 p
 ·exact tM p l g w G l1 I d J h2
 ·cases hd:Txt.digs (Txt.cut1 47 p)
  ·exact tO p l g w G l1 I d J h2 hd
  ·exact tQ p l g w G l1 I d J h2 hd
def PartsAt (w:World) (b:Nat) (l g:Int) (L:List ByteArray):Prop:=∀k (h:k<L.length),w.cell? ⟨b,k*3,none⟩=some (.int .i64 (Txt.spA l L[k]))∧w.cell? ⟨b,k*3+1,none⟩=some (.int .i64 (Txt.spB g L[k]))∧w.cell? ⟨b,k*3+2,none⟩=some (.int .i64 (Txt.spS L[k]))
theorem PartsAt.later {w d:World}{b:Nat}{l g:Int}{L:List ByteArray} (a:PartsAt w b l g L) (hb:Below w.heap.size w d):PartsAt d b l g L:=
 fun k h=>⟨cell_later hb (a k h).1,cell_later hb (a k h).2.1,cell_later hb (a k h).2.2⟩
set_option maxHeartbeats 0 in
theorem ji (f:ByteArray) (l g v:Int) (o:Bool) (b d:Nat) (w:World) (hs:f.size≤300) (l1:0≤l) (g2:g≤59) (v1:0≤v) (v2:v≤60) (U:Txt.fldB l g f=true) (hP:PartsAt w b l g (Txt.pcs 44 f)) (_hcap:(Txt.pcs 44 f).length≤d):
 Calls Tryz.prog 163 #[.agg #[.bool o,.slice (some ⟨b,0,none⟩) (Txt.pcs 44 f).length d],.int .i64 v] w fun e w'=>e=.returned (.bool (Txt.hldB l g v f))∧Below w.heap.size w w':=by
 have HF:=Hq U;have HP:Hid (∀o,PartsAt (w.alloc o) b l g (Txt.pcs 44 f)):=fun o=>hP.later (dx _ _)
 have ah:=Txt.pcs_len 44 f;clear U hP
 go_enter Tryz.func163,Tryz.ntmps163
 go_wp2_with fail
 go_loopw [5] (fun x wr=>∃k:Nat,k≤(Txt.pcs 44 f).length∧x=.int .i64 k∧(∀j (O:j<(Txt.pcs 44 f).length),j<k→Txt.inB (Txt.spA l (Txt.pcs 44 f)[j]) (Txt.spB g (Txt.pcs 44 f)[j]) (Txt.spS (Txt.pcs 44 f)[j]) v=false)∧Below (w.alloc (.cells #[.bool o,.slice (some ⟨b,0,none⟩) (Txt.pcs 44 f).length d] 148)).heap.size (w.alloc (.cells #[.bool o,.slice (some ⟨b,0,none⟩) (Txt.pcs 44 f).length d] 148)) wr) (fun x _=>(Txt.pcs 44 f).length-(intOf x).toNat)
 case atStart=>exact⟨0,Nat.zero_le _,rfl,fun j _ h=>by omega,Below.refl _ _⟩
 case round=>
  obtain⟨k,hk,rfl,J,hb⟩:=hrel;have HA:=Hq J;clear J;have Q:wr.cell? ⟨w.heap.size,1,none⟩=some (.slice (some ⟨b,0,none⟩) (Txt.pcs 44 f).length d):=cell_later hb (by simp[go_sem])
  have Y:Hid (Below w.heap.size w wr):=(dx w _).trans (hb.mono (by simp))
  by_cases G:k<(Txt.pcs 44 f).length
  ·obtain⟨c0,c1,c2⟩:=((HP.out _).later hb) k G;have hK:=Txt.fldB_at HF.out k G;have al:=Txt.spK_bd hK;clear hK;go_wp2_with fail;refine (jU _ _ _ _ _ v1 v2 (by omega) (by omega) (by omega) (by omega)).mono ?_
   rintro e w2 ⟨rfl,I⟩;have aa:=hb.trans (I.mono hb.size);have V:Hid (Below w.heap.size w w2):=Y.out.trans (I.mono (by have:=hb.size;simp at this;omega))
   clear hb I c0 c1 c2 Q
   cases Z:Txt.inB (Txt.spA l (Txt.pcs 44 f)[k]) (Txt.spB g (Txt.pcs 44 f)[k]) (Txt.spS (Txt.pcs 44 f)[k]) v
   ·have HQ:=Hq Z;go_wp2_with fail;go_roundw
    case rel=>
     refine⟨k+1,by omega,by go_num,fun j O h=>?_,aa⟩
     by_cases q:j=k
     ·subst q;exact HQ.out
     ·exact HA.out j O (by omega)
    case measure=>simp[intOf];omega
   ·have e:Hid (Txt.hldB l g v f=true):=Txt.hldB_yes G Z;go_wp2_with fail;go_ret;exact⟨dz e.out.symm,V.out⟩
  ·have e:Hid (Txt.hldB l g v f=false):=Txt.hldB_no (fun j O=>HA.out j O (by omega))
   go_wp2_with fail;go_ret;exact⟨dz e.out.symm,Y.out⟩
open Txt (NoSep)
set_option maxHeartbeats 0 in
theorem ga (s:ByteArray) (c:Int) (w:World) (hs:s.size≤300):
 Calls Tryz.prog 155 #[.string s,.int .u8 c] w fun e w'=>(∃b O,e=.returned (.slice (some ⟨b,0,none⟩) (Txt.pcs c s).length O)∧w.heap.size≤b∧(Txt.pcs c s).length≤O∧StrsAt w' b (Txt.pcs c s))∧Below w.heap.size w w':=by
 obtain⟨i0,hi,ac,aa,Y⟩:=info_parts md
 go_enter Tryz.func155,Tryz.ntmps155
 go_wp2_with fail
 go_loopw [5,6,7] (fun v st i wr=>∃(k a:Nat) (L:List ByteArray),k≤s.size∧a≤k∧i=.int .i64 k∧st=.int .i64 a∧L.length≤a∧Txt.pcs c s=L++Txt.pcs c (s.extract a s.size)∧NoSep c s a k∧wr.ownsRow w.heap.size 9 1 v L.length (L.map Value.string)∧Below w.heap.size w wr) (fun _ _ i _=>s.size-(intOf i).toNat)
 case atStart=>
  refine⟨0,0,[],Nat.zero_le _,Nat.le_refl _,rfl,rfl,Nat.le_refl _,?_,NoSep.nil _ _ _,?_,dx _ _⟩
  ·rw[Txt.whole];rfl
  ·exact⟨rfl,Or.inr ⟨w.heap.size,0,#[],rfl,Nat.le_refl _,(MapKept.heap_alloc w _).1,Nat.le_refl _,Nat.zero_le _,rfl,rfl⟩⟩
 case round=>
  obtain⟨k,a,L,hk,ha,rfl,rfl,hL,hp,hn,d,Q⟩:=hrel;have HP:=Hq hp;have HN:=Hq hn;have ab:=Q.size;clear hp hn
  by_cases Z:k<s.size
  ·cases he:((s[k].toNat:Int)==c)
   ·have ap:Hid (NoSep c s a (k+1)):=HN.out.snoc Z he;go_wp2_with fail;go_roundw
    case rel=>exact⟨k+1,a,L,by omega,by omega,by go_num,rfl,hL,HP.out,ap.out,d,Q⟩
    case measure=>simp[intOf];omega
   ·have U:Hid (Txt.pcs c s=(L++[s.extract a k])++Txt.pcs c (s.extract (k+1) s.size)):=by
     unfold Hid;rw[HP.out,Txt.pcs_step HN.out Z ha he];simp
    go_wp2_with (at_builtin;refine wpList_append_lies _ rfl (.tmp 20) (.tmp 25) 60 rfl w.heap.size 9 i0 (.string ByteArray.empty) 1 16 Tryz.underlying60 hi ac aa Y rfl (by decide) _ _ _ rfl (d.alloc _) ⟨wr.heap.size,0,none⟩ 1 1 [.string (s.extract a k)] rfl rfl ?c1 ?c2 (by decide) ?c3 ?c4 ?c5 _ rfl ?_)
    case c1=>exact cell_one_new _ _ _
    case c2=>intro u V;simp at V;subst V;rfl
    case c3=>unfold maxLen;omega
    case c4=>omega
    case c5=>simp;omega
    ·intro g O w1 I G _ ag;have B1:Below w.heap.size w w1:=(Q.alloc ab _).grown G (by simp;omega) (fun k' e=>(d.lt k' e).1)
     have J:w1.ownsRow w.heap.size 9 1 (.slice (some ⟨g,0,none⟩) (L.length+1) O) (L++[s.extract a k]).length ((L++[s.extract a k]).map Value.string):=by simpa using I
     clear I G d Q;go_wp2_with fail;go_roundw
     case rel=>exact⟨k+1,k+1,L++[s.extract a k],by omega,by omega,by go_num,by go_num,by simp;omega,U.out,NoSep.nil _ _ _,J,B1⟩
     case measure=>simp[intOf];omega
  ·obtain rfl:k=s.size:=by omega
   have U:Hid (Txt.pcs c s=L++[s.extract a s.size]):=by unfold Hid;rw[HP.out,Txt.pcs_last HN.out]
   go_wp2_with (at_builtin;refine wpList_append_lies _ rfl (.tmp 29) (.tmp 33) 60 rfl w.heap.size 9 i0 (.string ByteArray.empty) 1 16 Tryz.underlying60 hi ac aa Y rfl (by decide) _ _ _ rfl (d.alloc _) ⟨wr.heap.size,0,none⟩ 1 1 [.string (s.extract a s.size)] rfl rfl ?c1 ?c2 (by decide) ?c3 ?c4 ?c5 _ rfl ?_)
   case c1=>exact cell_one_new _ _ _
   case c2=>intro u V;simp at V;subst V;rfl
   case c3=>unfold maxLen;omega
   case c4=>omega
   case c5=>simp;omega
   ·intro g O w1 I G _ ag;have B1:Below w.heap.size w w1:=(Q.alloc ab _).grown G (by simp;omega) (fun k' e=>(d.lt k' e).1)
    have J:w1.ownsRow w.heap.size 9 1 (.slice (some ⟨g,0,none⟩) (L.length+1) O) (L.length+1) ((L++[s.extract a s.size]).map Value.string):=by simpa using I
    have ai:L.length+1=(Txt.pcs c s).length:=by rw[U.out];simp
    have hA:StrsAt w1 g (Txt.pcs c s):=by rw[U.out];exact iA J (by simp)
    have ae:L.length+1≤O∧w.heap.size≤g:=by
     rcases J.2 with ⟨h,_⟩|⟨g',av,cur,h,h3,_,h2,_⟩
     ·cases h
     ·cases h;exact⟨h2,h3⟩
    clear I G d Q J;go_wp2_with fail;go_ret;exact⟨⟨g,O,oJ ai,ae.2,by omega,hA⟩,B1⟩
set_option maxHeartbeats 0 in
theorem jt (s:ByteArray) (w:World) (V:s.size≤300):
 Calls Tryz.prog 121 #[.string s] w fun e Q=>(∃b d,e=.returned (.tuple #[.slice (some ⟨b,0,none⟩) (tn s) d,.string (tl s (tn s))])∧w.heap.size≤b∧tn s≤d∧StrsAt Q b (Txt.pcs 10 s))∧Below w.heap.size w Q:=by
 go_enter Tryz.func121,Tryz.ntmps121
 go_wp2_with fail;refine (ga _ _ _ V).mono ?_;rintro e w1 ⟨⟨b,d,rfl,O,I,hS⟩,hb⟩;have G:=Txt.pcs_len 10 s;have J:=iT s;have Z:=Hq J;have U:=Hq hS;rw[J] at I G ⊢;have c:w1.cell? ⟨b,tn s,none⟩=some (.string (tl s (tn s))):=by rw[←gb (eQ s)];exact hS _ (eQ s)
 clear J hS;have b1:(0:Int)≤(tn s:Int):=by omega
 have b2:(tn s:Int)<((tn s+1:Nat):Int):=by omega
 have Y:(tn s:Int)≤(d:Int):=by omega
 go_wp2_with fail
 go_quiet (fail)
 go_wp2_with fail;go_ret2;exact⟨⟨b,d,rfl,O,by omega,U.out⟩,below_drewN hb _⟩
def pc (l g:Int) (p:ByteArray):List Value:=[.int .i64 (Txt.spA l p),.int .i64 (Txt.spB g p),.int .i64 (Txt.spS p)]
theorem m7 (l g:Int) (L:List ByteArray) (k:Nat) (h:k<L.length) (j:Nat) (d:j<3):(L.flatMap (pc l g))[k*3+j]? =(pc l g L[k])[j]? :=by
 induction L generalizing k with
 | nil=>simp at h
 | cons a r w=>
   cases k with
   | zero=>
     simp only [List.flatMap_cons,Nat.zero_mul,Nat.zero_add,List.getElem_cons_zero]
     rw[List.getElem?_append_left (by simpa [pc] using d)]
   | succ k=>
     simp only [List.flatMap_cons,List.getElem_cons_succ]
     rw[List.getElem?_append_right (by simp[pc];omega)]
     have e:(k+1)*3+j-(pc l g a).length=k*3+j:=by simp[pc];omega
     rw[e];exact w k (by simpa using h)
theorem hU {w:World}{d b n I:Nat}{e:TypeId}{l g:Int}{L:List ByteArray} (h:w.ownsRow d e 3 (.slice (some ⟨b,0,none⟩) n I) n (L.flatMap (pc l g))) (J:n=L.length):PartsAt w b l g L:=by
 intro k G;refine⟨?_,?_,?_⟩
 ·have:=h.cellAt (k*3) (by omega)
  rw[this];have:=m7 l g L k G 0 (by decide);simpa [pc] using this
 ·have:=h.cellAt (k*3+1) (by omega)
  rw[this];have:=m7 l g L k G 1 (by decide);simpa [pc] using this
 ·have:=h.cellAt (k*3+2) (by omega)
  rw[this];have:=m7 l g L k G 2 (by decide);simpa [pc] using this
structure FInv (w wr:World) (base b:Nat) (o:Bool) (v:Value) (L:List ByteArray) (n:Nat) (xs:List Value):Prop where
 c0:wr.cell? ⟨w.heap.size+1,0,none⟩=some (.bool o)
 c1:wr.cell? ⟨w.heap.size+1,1,none⟩=some v
 r0:wr.cell? ⟨w.heap.size,0,none⟩=some (.bool false)
 r1:wr.cell? ⟨w.heap.size,1,none⟩=some (.slice none 0 0)
 f0:wr.frozen? ⟨w.heap.size,0,none⟩=false
 f1:wr.frozen? ⟨w.heap.size,1,none⟩=false
 f2:wr.frozen? ⟨w.heap.size+1,1,none⟩=false
 strs:StrsAt wr b L
 own:wr.ownsRow base 251 3 v n xs
 bel:Below w.heap.size w wr
 hB:w.heap.size+1<base
 hb:b<base
 hbg:w.heap.size+1<b
 hbase:base≤wr.heap.size
theorem FInv.below {w wr G:World}{d b:Nat}{o:Bool}{v:Value}{L:List ByteArray}{n:Nat}{e:List Value} (h:FInv w wr d b o v L n e) (k:Below wr.heap.size wr G):FInv w G d b o v L n e:=by
 have h1:=h.hB;have h2:=h.hbase;have I:=h.bel.size
 exact⟨cell_later k h.c0,cell_later k h.c1,cell_later k h.r0,cell_later k h.r1,(k.frozen (by simp;omega)).trans h.f0,(k.frozen (by simp;omega)).trans h.f1,(k.frozen (by simp;omega)).trans h.f2,
  h.strs.later k,dV h.own k,h.bel.trans (k.mono I),h.hB,h.hb,h.hbg,Nat.le_trans h2 k.size⟩
theorem FInv.far {w wr G:World}{d b:Nat}{o:Bool}{v:Value}{L:List ByteArray}{n:Nat}{I:List Value} (h:FInv w wr d b o v L n I) (J:wr.grownBy G v.ownBlock):Below d wr G:=
 (Below.refl _ _).grown J h.hbase (fun k e=>(h.own.lt k e).1)
theorem FInv.app {w wr e:World}{d b:Nat}{o:Bool}{v I:Value}{L:List ByteArray}{n U:Nat}{Y J:List Value} (h:FInv w wr d b o v L n Y) (Q:wr.grownBy e v.ownBlock) (Z:e.ownsRow d 251 3 I U J):
 FInv w (e.setCell ⟨w.heap.size+1,1,none⟩ I) d b o I L U J:=by
 have k:=h.far Q;have h1:=h.hB;have h2:=h.hbase;have h4:=h.bel.size
 have cell:∀(a:Nat) (j:Nat) (u:Value),a<d→¬(a=w.heap.size+1∧j=1)→wr.cell? ⟨a,j,none⟩=some u→(e.setCell ⟨w.heap.size+1,1,none⟩ I).cell? ⟨a,j,none⟩=some u:=by
  intro a j u O ab V;rw[World.cell?_setCell_other _ _ _ _ (by first |(simp;done)|(simp;omega)),k.cell (p:=⟨a,j,none⟩) O];exact V
 have G:∀(a j:Nat),a<d→(e.setCell ⟨w.heap.size+1,1,none⟩ I).frozen? ⟨a,j,none⟩=wr.frozen? ⟨a,j,none⟩:=by
  intro a j O;rw[World.frozen?_setCell,k.frozen (p:=⟨a,j,none⟩) O]
 refine⟨cell _ _ _ (by omega) (by omega) h.c0,?_,cell _ _ _ (by omega) (by omega) h.r0,cell _ _ _ (by omega) (by omega) h.r1,(G _ _ (by omega)).trans h.f0,(G _ _ (by omega)).trans h.f1,(G _ _ (by omega)).trans h.f2,?_,?_,?_,h.hB,h.hb,h.hbg,?_⟩
 ·exact World.cell?_setCell_same' _ _ _ (by rw[k.cell (p:=⟨w.heap.size+1,1,none⟩) (by simp;omega),h.c1];rfl)
 ·intro j hj;have:=h.hbg;exact cell _ _ _ h.hb (by omega) (h.strs j hj)
 ·exact ownsRow_setCell_below Z (by simp;omega) _
 ·exact (h.bel.trans (k.mono (by omega))).setCell (by simp) _
 ·have:=Q.size;simp[World.setCell];omega
theorem kU:(Tryz.prog.info? 251).map (fun i=>(i.zero,i.size,i.bytes))=some (some (.agg #[.int .i64 0,.int .i64 0,.int .i64 0]),3,24):=by kernel_rfl
def FieldR (l g:Int) (f:ByteArray) (h:Nat) (w':World) (e:Ending):Prop:=
 (Txt.fldB l g f=true∧∃b cap,e=.returned (.tuple #[.agg #[.bool (Txt.opn f),.slice (some ⟨b,0,none⟩) (Txt.pcs 44 f).length cap],.bool true])∧h≤b∧(Txt.pcs 44 f).length≤cap∧PartsAt w' b l g (Txt.pcs 44 f))∨
 (Txt.fldB l g f=false∧e=.returned (.tuple #[.agg #[.bool false,.slice none 0 0],.bool false]))
theorem lY (l g:Int) (L:List ByteArray) (k:Nat) (h:k<L.length):(L.take (k+1)).flatMap (pc l g)=(L.take k).flatMap (pc l g)++pc l g L[k]:=by
 rw[List.take_succ_eq_append_getElem h,List.flatMap_append];simp
set_option maxHeartbeats 0 in
theorem lM (f:ByteArray) (l g:Int) (w:World) (hs:f.size≤300) (l1:0≤l) (l2:l≤1) (g1:6≤g) (g2:g≤59) (ap:0<f.size):
 Calls Tryz.prog 156 #[.string f,.int .i64 l,.int .i64 g] w fun e w'=>FieldR l g f w.heap.size w' e∧Below w.heap.size w w':=by
 obtain⟨i0,hi,aC,ay,au⟩:=info_parts kU;have aO:=Txt.pcs_len 44 f;have ho:Hid (((f[0].toNat:Int)==42)=Txt.opn f):=(Txt.opn_at ap).symm
 go_enter Tryz.func156,Tryz.ntmps156
 go_wp2_with fail;refine (ga _ _ _ hs).mono ?_;rintro e w1 ⟨⟨b,aU,rfl,ai,aJ,hS⟩,hb⟩;have aP:w.heap.size+1<b∧b<w1.heap.size:=⟨by simp at ai;omega,World.block_lt_of_cell? _ _ (hS 0 (Txt.pcs_ne _ _))⟩
 have H0:∃o:Bool,o=Txt.opn f∧FInv w w1 w1.heap.size b o (.slice none 0 0) (Txt.pcs 44 f) 0 []:=by
  refine⟨_,ho.out,?_,?_,?_,?_,?_,?_,?_,hS,World.ownsRow_nil _ _ _ _,?_,by omega,by omega,by omega,Nat.le_refl _⟩
  ·exact cell_later hb (by simp[go_sem])
  ·exact cell_later hb (by simp[go_sem])
  ·exact cell_later hb (by simp[go_sem])
  ·exact cell_later hb (by simp[go_sem])
  ·exact (hb.frozen (by simp;omega)).trans (by simp[go_sem])
  ·exact (hb.frozen (by simp;omega)).trans (by simp[go_sem])
  ·exact (hb.frozen (by simp)).trans (by simp[go_sem])
  ·exact ((dx w _).alloc (by simp) _).trans (hb.mono (by simp;omega))
 clear hb hS ai ho;go_wp2_with fail
 go_loopw [10] (fun x wr=>∃(k:Nat) (o:Bool) (v:Value),k≤(Txt.pcs 44 f).length∧x=.int .i64 k∧o=Txt.opn f∧(∀j (G:j<(Txt.pcs 44 f).length),j<k→Txt.spK l g (Txt.pcs 44 f)[j]=true)∧FInv w wr w1.heap.size b o v (Txt.pcs 44 f) k (((Txt.pcs 44 f).take k).flatMap (pc l g))) (fun x _=>(Txt.pcs 44 f).length-(intOf x).toNat)
 case atStart=>
  obtain⟨o,h1,h2⟩:=H0;exact⟨0,o,_,Nat.zero_le _,rfl,h1,fun j _ h=>by omega,h2⟩
 case round=>
  clear H0;obtain⟨k,o,v,hk,rfl,ho,ae,I⟩:=hrel;have HO:=Hq ho;have HA:=Hq ae;clear ae ho
  by_cases V:k<(Txt.pcs 44 f).length
  ·have af:=I.strs k V;have aA:Hid ((Txt.pcs 44 f)[k].size≤300):=Txt.pcs_sz hs k V;go_wp2_with fail;refine (gX _ _ _ _ aA.out l1 l2 g1 g2).mono ?_;rintro e Z ⟨hR,ah⟩;have d:=I.below ah;clear I ah af;have c1:=d.c1;have r0:=d.r0;have r1:=d.r1;have f0:=d.f0;have f1:=d.f1;have f2:=d.f2;have hz:w.heap.size+1<Z.heap.size:=by have:=d.hB;have:=d.hbase;omega
   have aw:w.heap.size<Z.heap.size:=by omega
   rcases hR with ⟨kk,rfl⟩|⟨kk,rfl⟩
   ·have KK:=Hq kk;clear kk;have aF:k≤301:=by omega
    have av:Hid (w1.heap.size≤Z.heap.size):=d.hbase;go_wp2_with (at_builtin;refine wpList_append_lies _ rfl (.tmp 44) (.tmp 46) 146 rfl w1.heap.size 251 i0 (.agg #[.int .i64 0,.int .i64 0,.int .i64 0]) 3 24 Tryz.underlying146 hi aC ay au rfl (by decide) _ _ _ rfl ((d.own.alloc _).alloc _) ⟨Z.heap.size+1,0,none⟩ 1 1 (pc l g (Txt.pcs 44 f)[k]) rfl rfl ?c1 ?c2 (by decide) ?c3 ?c4 ?c5 _ rfl ?_)
    case c1=>
     intro j u G
     match j,G with
     | 0,G=>simp[pc] at G;subst G;simp[Addr.add,go_sem]
     | 1,G=>simp[pc] at G;subst G;simp[Addr.add,go_sem]
     | 2,G=>simp[pc] at G;subst G;simp[Addr.add,go_sem]
    case c2=>intro u hu;simp[pc] at hu;rcases hu with rfl|rfl|rfl<;>rfl
    case c3=>unfold maxLen;omega
    case c4=>omega
    case c5=>have:=av.out;simp;omega
    ·intro g' U w3 Y Q _ aI;have J:=(d.below (dx Z (.cells #[.int .i64 (Txt.spA l (Txt.pcs 44 f)[k]),.int .i64 (Txt.spB g (Txt.pcs 44 f)[k]),.int .i64 (Txt.spS (Txt.pcs 44 f)[k])] 251))).below (dx _ (.cells #[.int .i64 (Txt.spA l (Txt.pcs 44 f)[k]),.int .i64 (Txt.spB g (Txt.pcs 44 f)[k]),.int .i64 (Txt.spS (Txt.pcs 44 f)[k])] 251));have HF:=J.far Q;have aj:=J.app Q Y;rw[←lY l g _ k V] at aj;have d1:w3.cell? ⟨w.heap.size+1,1,none⟩=some v:=(HF.cell (by have:=J.hB;simp;omega)).trans J.c1
     have d2:w3.frozen? ⟨w.heap.size+1,1,none⟩=false:=(HF.frozen (by have:=J.hB;simp;omega)).trans J.f2
     clear Y Q d J HF c1 r0 r1 f0 f1 f2;go_wp2_with fail;go_roundw
     case rel=>
      refine⟨k+1,o,_,by omega,by go_num,HO.out,fun j G h=>?_,aj⟩
      by_cases q:j=k
      ·subst q;exact KK.out
      ·exact HA.out j G (by omega)
     case measure=>simp[intOf];omega
   ·have KK:Hid (Txt.fldB l g f=false):=Txt.fldB_no V kk;have BB:Hid (Below w.heap.size w Z):=d.bel;clear kk d;go_wp2_with fail;exact bodyPost_ret (v:=.tuple #[.agg #[.bool false,.slice none 0 0],.bool false]) (by simp[results,Tryz.results156,go_sem,r0,r1,aw]) rfl ⟨Or.inr ⟨KK.out,rfl⟩,by repeat (first |exact BB.out|refine Below.setCell ?_ (by simp) _|refine Below.alloc ?_ (by first |(simp;done)|(simp;omega)) _)⟩
  ·obtain rfl:k=(Txt.pcs 44 f).length:=by omega
   have KK:Hid (Txt.fldB l g f=true):=Txt.fldB_yes (fun j G=>HA.out j G G)
   have O:=I.own;rw[List.take_length] at O;obtain⟨g',U,hv,aT,_⟩:=O.form (Txt.pcs_ne _ _);subst hv;have hP:Hid (PartsAt wr g' l g (Txt.pcs 44 f)):=hU O rfl
   have ao:Hid ((Txt.pcs 44 f).length≤U):=by
    rcases O.2 with ⟨h,_⟩|⟨g2,aN,cur,h,_,_,h2,_⟩
    ·cases h
    ·cases h;exact h2
   have c0:=I.c0;have c1:=I.c1;have r0:=I.r0;have r1:=I.r1;have f0:=I.f0;have f1:=I.f1;have BB:Hid (Below w.heap.size w wr):=I.bel;have ag:Hid (w.heap.size<g'):=by have:=I.hB;unfold Hid;omega
   have aB:=HO.out;subst aB;clear I O HO;go_wp2_with fail;refine bodyPost_ret (v:=.tuple #[.agg #[.bool (Txt.opn f),.slice (some ⟨g',0,none⟩) (Txt.pcs 44 f).length U],.bool true]) (by simp[results,Tryz.results156,go_sem,r0,r1]) rfl ⟨Or.inl ⟨KK.out,g',U,rfl,Nat.le_of_lt ag.out,ao.out,?_⟩,by repeat (first |exact BB.out|refine Below.setCell ?_ (by simp) _)⟩
   have ne:=ag.out;intro j G;obtain⟨p0,p1,p2⟩:=hP.out j G;refine⟨?_,?_,?_⟩
   ·rw[World.cell?_setCell_other _ _ _ _ (by first |(simp;done)|(simp;omega)),World.cell?_setCell_other _ _ _ _ (by first |(simp;done)|(simp;omega))];exact p0
   ·rw[World.cell?_setCell_other _ _ _ _ (by first |(simp;done)|(simp;omega)),World.cell?_setCell_other _ _ _ _ (by first |(simp;done)|(simp;omega))];exact p1
   ·rw[World.cell?_setCell_other _ _ _ _ (by first |(simp;done)|(simp;omega)),World.cell?_setCell_other _ _ _ _ (by first |(simp;done)|(simp;omega))];exact p2
set_option maxHeartbeats 0 in
theorem lu (f:ByteArray) (l g:Int) (w:World) (hs:f.size≤300) (l1:0≤l) (l2:l≤1) (g1:6≤g) (g2:g≤59) (ap:f.size=0):
 Calls Tryz.prog 156 #[.string f,.int .i64 l,.int .i64 g] w fun e w'=>FieldR l g f w.heap.size w' e∧Below w.heap.size w w':=by
 obtain⟨i0,hi,aC,ay,au⟩:=info_parts kU;have aO:=Txt.pcs_len 44 f;have ho:Hid (false=Txt.opn f):=(Txt.opn_nil ap).symm
 go_enter Tryz.func156,Tryz.ntmps156
 go_wp2_with fail;refine (ga _ _ _ hs).mono ?_;rintro e w1 ⟨⟨b,aU,rfl,ai,aJ,hS⟩,hb⟩;have aP:w.heap.size+1<b∧b<w1.heap.size:=⟨by simp at ai;omega,World.block_lt_of_cell? _ _ (hS 0 (Txt.pcs_ne _ _))⟩
 have H0:∃o:Bool,o=Txt.opn f∧FInv w w1 w1.heap.size b o (.slice none 0 0) (Txt.pcs 44 f) 0 []:=by
  refine⟨_,ho.out,?_,?_,?_,?_,?_,?_,?_,hS,World.ownsRow_nil _ _ _ _,?_,by omega,by omega,by omega,Nat.le_refl _⟩
  ·exact cell_later hb (by simp[go_sem])
  ·exact cell_later hb (by simp[go_sem])
  ·exact cell_later hb (by simp[go_sem])
  ·exact cell_later hb (by simp[go_sem])
  ·exact (hb.frozen (by simp;omega)).trans (by simp[go_sem])
  ·exact (hb.frozen (by simp;omega)).trans (by simp[go_sem])
  ·exact (hb.frozen (by simp)).trans (by simp[go_sem])
  ·exact ((dx w _).alloc (by simp) _).trans (hb.mono (by simp;omega))
 clear hb hS ai ho;go_wp2_with fail
 go_loopw [10] (fun x wr=>∃(k:Nat) (o:Bool) (v:Value),k≤(Txt.pcs 44 f).length∧x=.int .i64 k∧o=Txt.opn f∧(∀j (G:j<(Txt.pcs 44 f).length),j<k→Txt.spK l g (Txt.pcs 44 f)[j]=true)∧FInv w wr w1.heap.size b o v (Txt.pcs 44 f) k (((Txt.pcs 44 f).take k).flatMap (pc l g))) (fun x _=>(Txt.pcs 44 f).length-(intOf x).toNat)
 case atStart=>
  obtain⟨o,h1,h2⟩:=H0;exact⟨0,o,_,Nat.zero_le _,rfl,h1,fun j _ h=>by omega,h2⟩
 case round=>
  clear H0;obtain⟨k,o,v,hk,rfl,ho,ae,I⟩:=hrel;have HO:=Hq ho;have HA:=Hq ae;clear ae ho
  by_cases V:k<(Txt.pcs 44 f).length
  ·have af:=I.strs k V;have aA:Hid ((Txt.pcs 44 f)[k].size≤300):=Txt.pcs_sz hs k V;go_wp2_with fail;refine (gX _ _ _ _ aA.out l1 l2 g1 g2).mono ?_;rintro e Z ⟨hR,ah⟩;have d:=I.below ah;clear I ah af;have c1:=d.c1;have r0:=d.r0;have r1:=d.r1;have f0:=d.f0;have f1:=d.f1;have f2:=d.f2;have hz:w.heap.size+1<Z.heap.size:=by have:=d.hB;have:=d.hbase;omega
   have aw:w.heap.size<Z.heap.size:=by omega
   rcases hR with ⟨kk,rfl⟩|⟨kk,rfl⟩
   ·have KK:=Hq kk;clear kk;have aF:k≤301:=by omega
    have av:Hid (w1.heap.size≤Z.heap.size):=d.hbase;go_wp2_with (at_builtin;refine wpList_append_lies _ rfl (.tmp 44) (.tmp 46) 146 rfl w1.heap.size 251 i0 (.agg #[.int .i64 0,.int .i64 0,.int .i64 0]) 3 24 Tryz.underlying146 hi aC ay au rfl (by decide) _ _ _ rfl ((d.own.alloc _).alloc _) ⟨Z.heap.size+1,0,none⟩ 1 1 (pc l g (Txt.pcs 44 f)[k]) rfl rfl ?c1 ?c2 (by decide) ?c3 ?c4 ?c5 _ rfl ?_)
    case c1=>
     intro j u G
     match j,G with
     | 0,G=>simp[pc] at G;subst G;simp[Addr.add,go_sem]
     | 1,G=>simp[pc] at G;subst G;simp[Addr.add,go_sem]
     | 2,G=>simp[pc] at G;subst G;simp[Addr.add,go_sem]
    case c2=>intro u hu;simp[pc] at hu;rcases hu with rfl|rfl|rfl<;>rfl
    case c3=>unfold maxLen;omega
    case c4=>omega
    case c5=>have:=av.out;simp;omega
    ·intro g' U w3 Y Q _ aI;have J:=(d.below (dx Z (.cells #[.int .i64 (Txt.spA l (Txt.pcs 44 f)[k]),.int .i64 (Txt.spB g (Txt.pcs 44 f)[k]),.int .i64 (Txt.spS (Txt.pcs 44 f)[k])] 251))).below (dx _ (.cells #[.int .i64 (Txt.spA l (Txt.pcs 44 f)[k]),.int .i64 (Txt.spB g (Txt.pcs 44 f)[k]),.int .i64 (Txt.spS (Txt.pcs 44 f)[k])] 251));have HF:=J.far Q;have aj:=J.app Q Y;rw[←lY l g _ k V] at aj;have d1:w3.cell? ⟨w.heap.size+1,1,none⟩=some v:=(HF.cell (by have:=J.hB;simp;omega)).trans J.c1
     have d2:w3.frozen? ⟨w.heap.size+1,1,none⟩=false:=(HF.frozen (by have:=J.hB;simp;omega)).trans J.f2
     clear Y Q d J HF c1 r0 r1 f0 f1 f2;go_wp2_with fail;go_roundw
     case rel=>
      refine⟨k+1,o,_,by omega,by go_num,HO.out,fun j G h=>?_,aj⟩
      by_cases q:j=k
      ·subst q;exact KK.out
      ·exact HA.out j G (by omega)
     case measure=>simp[intOf];omega
   ·have KK:Hid (Txt.fldB l g f=false):=Txt.fldB_no V kk;have BB:Hid (Below w.heap.size w Z):=d.bel;clear kk d;go_wp2_with fail;exact bodyPost_ret (v:=.tuple #[.agg #[.bool false,.slice none 0 0],.bool false]) (by simp[results,Tryz.results156,go_sem,r0,r1,aw]) rfl ⟨Or.inr ⟨KK.out,rfl⟩,by repeat (first |exact BB.out|refine Below.setCell ?_ (by simp) _|refine Below.alloc ?_ (by first |(simp;done)|(simp;omega)) _)⟩
  ·obtain rfl:k=(Txt.pcs 44 f).length:=by omega
   have KK:Hid (Txt.fldB l g f=true):=Txt.fldB_yes (fun j G=>HA.out j G G)
   have O:=I.own;rw[List.take_length] at O;obtain⟨g',U,hv,aT,_⟩:=O.form (Txt.pcs_ne _ _);subst hv;have hP:Hid (PartsAt wr g' l g (Txt.pcs 44 f)):=hU O rfl
   have ao:Hid ((Txt.pcs 44 f).length≤U):=by
    rcases O.2 with ⟨h,_⟩|⟨g2,aN,cur,h,_,_,h2,_⟩
    ·cases h
    ·cases h;exact h2
   have c0:=I.c0;have c1:=I.c1;have r0:=I.r0;have r1:=I.r1;have f0:=I.f0;have f1:=I.f1;have BB:Hid (Below w.heap.size w wr):=I.bel;have ag:Hid (w.heap.size<g'):=by have:=I.hB;unfold Hid;omega
   have aB:=HO.out;subst aB;clear I O HO;go_wp2_with fail;refine bodyPost_ret (v:=.tuple #[.agg #[.bool (Txt.opn f),.slice (some ⟨g',0,none⟩) (Txt.pcs 44 f).length U],.bool true]) (by simp[results,Tryz.results156,go_sem,r0,r1]) rfl ⟨Or.inl ⟨KK.out,g',U,rfl,Nat.le_of_lt ag.out,ao.out,?_⟩,by repeat (first |exact BB.out|refine Below.setCell ?_ (by simp) _)⟩
   have ne:=ag.out;intro j G;obtain⟨p0,p1,p2⟩:=hP.out j G;refine⟨?_,?_,?_⟩
   ·rw[World.cell?_setCell_other _ _ _ _ (by first |(simp;done)|(simp;omega)),World.cell?_setCell_other _ _ _ _ (by first |(simp;done)|(simp;omega))];exact p0
   ·rw[World.cell?_setCell_other _ _ _ _ (by first |(simp;done)|(simp;omega)),World.cell?_setCell_other _ _ _ _ (by first |(simp;done)|(simp;omega))];exact p1
   ·rw[World.cell?_setCell_other _ _ _ _ (by first |(simp;done)|(simp;omega)),World.cell?_setCell_other _ _ _ _ (by first |(simp;done)|(simp;omega))];exact p2
theorem jR (f:ByteArray) (l g:Int) (w:World) (G:f.size≤300) (l1:0≤l) (I:l≤1) (d:6≤g) (J:g≤59):
 Calls Tryz.prog 156 #[.string f,.int .i64 l,.int .i64 g] w fun e O=>FieldR l g f w.heap.size O e∧Below w.heap.size w O:=by
 by_cases h:0<f.size
 ·exact lM f l g w G l1 I d J h
 ·exact lu f l g w G l1 I d J (by omega)
def FieldF (l g:Int) (f:ByteArray) (h:Nat) (w':World) (o:Bool) (ad:Option Addr) (n c:Nat) (ok:Bool):Prop:=
 (Txt.fldB l g f=true∧ok=true∧o=Txt.opn f∧∃b,ad=some ⟨b,0,none⟩∧n=(Txt.pcs 44 f).length∧h≤b∧(Txt.pcs 44 f).length≤c∧PartsAt w' b l g (Txt.pcs 44 f))∨
 (Txt.fldB l g f=false∧ok=false∧o=false∧ad=none∧n=0∧c=0)
theorem jh (f:ByteArray) (l g:Int) (w:World) (O:f.size≤300) (l1:0≤l) (Q:l≤1) (J:6≤g) (U:g≤59):
 Calls Tryz.prog 156 #[.string f,.int .i64 l,.int .i64 g] w fun e d=>∃o G n c ok,e=.returned (.tuple #[.agg #[.bool o,.slice G n c],.bool ok])∧Hid (FieldF l g f w.heap.size d o G n c ok)∧Below w.heap.size w d:=by
 refine (jR f l g w O l1 Q J U).mono ?_;rintro e d ⟨⟨k,b,V,rfl,h1,h2,I⟩|⟨k,rfl⟩,hb⟩
 ·exact⟨_,_,_,_,_,rfl,Or.inl ⟨k,rfl,rfl,b,rfl,rfl,h1,h2,I⟩,hb⟩
 ·exact⟨_,_,_,_,_,rfl,Or.inr ⟨k,rfl,rfl,rfl,rfl,rfl⟩,hb⟩
attribute [local go_sem ↓] Go.wp_at_zero Go.wp_at_succ
def TabLH (w:World):Prop:=∀j:Nat,j<5→w.cell? ⟨0,j,none⟩=some (.int .i64 (lo j))∧w.cell? ⟨1,j,none⟩=some (.int .i64 (hi j))
theorem TabLH.later {w e:World} (h:TabLH w) (hb:Below w.heap.size w e):TabLH e:=fun j d=>⟨cell_later hb (h j d).1,cell_later hb (h j d).2⟩
def fv (s:ByteArray) (bb cc:Nat→Nat) (i:Nat):Value:=.slice (some ⟨bb i,0,none⟩) (Txt.pcs 44 (pt s i)).length (cc i)
def zc:Nat→Value
 | 0=>.bool false|2=>.bool false|4=>.bool false|6=>.bool false|8=>.bool false|10=>.bool false
 | 11=>.int .u8 0|12=>.int .i64 0|_=>.slice none 0 0
structure LInv (w wr:World) (b LB:Nat) (s:ByteArray) (k:Nat) (bb cc:Nat→Nat):Prop where
 strs:StrsAt wr b (Txt.pcs 32 s)
 tabs:TabLH wr
 res:∀j,j<14→wr.cell? ⟨w.heap.size,j,none⟩=some (zc j)∧wr.frozen? ⟨w.heap.size,j,none⟩=false
 ln1:∀j,j<k→wr.cell? ⟨LB,j*2,none⟩=some (.bool (Txt.opn (pt s j)))∧wr.cell? ⟨LB,j*2+1,none⟩=some (fv s bb cc j)
 ln2:∀j,k≤j→j<5→wr.cell? ⟨LB,j*2,none⟩=some (.bool false)∧wr.cell? ⟨LB,j*2+1,none⟩=some (.slice none 0 0)
 ln3:∀j,10≤j→j<14→wr.cell? ⟨LB,j,none⟩=some (zc j)
 lnf:∀j,j<14→wr.frozen? ⟨LB,j,none⟩=false
 prt:∀j:Nat,j<k→LB<bb j∧(Txt.pcs 44 (pt s j)).length≤cc j∧PartsAt wr (bb j) (lo j) (hi j) (Txt.pcs 44 (pt s j))
 bel:Below w.heap.size w wr
 hR:w.heap.size<b
 hb:b<LB
 hL:LB<wr.heap.size
 h2:0<w.heap.size∧1<w.heap.size
theorem LInv.below {w wr O:World}{b LB k:Nat}{s:ByteArray}{J G:Nat→Nat} (h:LInv w wr b LB s k J G) (q:Below wr.heap.size wr O):LInv w O b LB s k J G:=by
 have h1:=h.hR;have U:=h.hb;have I:=h.hL;have Q:=h.bel.size
 exact⟨h.strs.later q,h.tabs.later q,fun j d=>⟨cell_later q (h.res j d).1,(q.frozen (by simp;omega)).trans (h.res j d).2⟩,
  fun j d=>⟨cell_later q (h.ln1 j d).1,cell_later q (h.ln1 j d).2⟩,fun j e d=>⟨cell_later q (h.ln2 j e d).1,cell_later q (h.ln2 j e d).2⟩,fun j e d=>cell_later q (h.ln3 j e d),
  fun j d=>(q.frozen (by simpa using I)).trans (h.lnf j d),fun j d=>⟨(h.prt j d).1,(h.prt j d).2.1,(h.prt j d).2.2.later q⟩,h.bel.trans (q.mono Q),h.hR,h.hb,Nat.lt_of_lt_of_le I q.size,h.h2⟩
theorem LInv.store {w wr:World}{b LB k O V:Nat}{s:ByteArray}{Y Z:Nat→Nat} (h:LInv w wr b LB s k Y Z) (hk:k<5) (aa:LB<O) (ab:(Txt.pcs 44 (pt s k)).length≤V) (hP:PartsAt wr O (lo k) (hi k) (Txt.pcs 44 (pt s k))):
 LInv w ((wr.setCell ⟨LB,k*2,none⟩ (.bool (Txt.opn (pt s k)))).setCell ⟨LB,k*2+1,none⟩ (.slice (some ⟨O,0,none⟩) (Txt.pcs 44 (pt s k)).length V)) b LB s (k+1) (fun j=>if j=k then O else Y j) (fun j=>if j=k then V else Z j):=by
 have h1:=h.hR;have h3:=h.hb;have h4:=h.hL;have h5:=h.bel.size;have h6:=h.h2
 have d:∀(Q U:Value) (a j:Nat) (u:Value),¬(a=LB∧(j=k*2∨j=k*2+1))→wr.cell? ⟨a,j,none⟩=some u→((wr.setCell ⟨LB,k*2,none⟩ Q).setCell ⟨LB,k*2+1,none⟩ U).cell? ⟨a,j,none⟩=some u:=by
  intro Q U a j u ak hc;rw[World.cell?_setCell_other _ _ _ _ (by simp;omega),World.cell?_setCell_other _ _ _ _ (by simp;omega)];exact hc
 have J:∀(Q U:Value) (x:Nat) (l g:Int) (L:List ByteArray),LB<x→PartsAt wr x l g L→PartsAt ((wr.setCell ⟨LB,k*2,none⟩ Q).setCell ⟨LB,k*2+1,none⟩ U) x l g L:=by
  intro Q U x l g L hx hp j G;obtain⟨p0,p1,p2⟩:=hp j G;exact⟨d _ _ _ _ _ (by omega) p0,d _ _ _ _ _ (by omega) p1,d _ _ _ _ _ (by omega) p2⟩
 have z:=h.ln2 k (Nat.le_refl _) hk;refine⟨fun j G=>d _ _ _ _ _ (by omega) (h.strs j G),fun j G=>⟨d _ _ _ _ _ (by omega) (h.tabs j G).1,d _ _ _ _ _ (by omega) (h.tabs j G).2⟩,?_,?_,?_,fun j h6 G=>d _ _ _ _ _ (by omega) (h.ln3 j h6 G),?_,?_,?_,h.hR,h.hb,?_,h.h2⟩
 ·intro j G;exact⟨d _ _ _ _ _ (by omega) (h.res j G).1,by rw[World.frozen?_setCell,World.frozen?_setCell];exact (h.res j G).2⟩
 ·intro j G
  by_cases e:j=k
  ·subst e;refine⟨?_,?_⟩
   ·rw[World.cell?_setCell_other _ _ _ _ (by simp)]
    exact World.cell?_setCell_same' _ _ _ (by rw[z.1];rfl)
   ·rw[World.cell?_setCell_same' _ _ _ (by rw[World.cell?_setCell_other _ _ _ _ (by simp),z.2];rfl)]
    simp[fv]
  ·have I:j<k:=by omega
   refine⟨d _ _ _ _ _ (by omega) (h.ln1 j I).1,?_⟩
   have:fv s (fun j=>if j=k then O else Y j) (fun j=>if j=k then V else Z j) j=fv s Y Z j:=by simp[fv,e]
   rw[this];exact d _ _ _ _ _ (by omega) (h.ln1 j I).2
 ·intro j h7 G;exact⟨d _ _ _ _ _ (by omega) (h.ln2 j (by omega) G).1,d _ _ _ _ _ (by omega) (h.ln2 j (by omega) G).2⟩
 ·intro j G;rw[World.frozen?_setCell,World.frozen?_setCell];exact h.lnf j G
 ·intro j G
  by_cases e:j=k
  ·subst e;simp only [if_true];exact⟨aa,ab,J _ _ _ _ _ _ aa hP⟩
  ·have I:j<k:=by omega
   simp only [e,if_false]
   exact⟨(h.prt j I).1,(h.prt j I).2.1,J _ _ _ _ _ _ (h.prt j I).1 (h.prt j I).2.2⟩
 ·exact (h.bel.setCell (by simp;omega) _).setCell (by simp;omega) _
 ·simp[World.setCell];omega
def spC (x:ByteArray):List Value:=[.bool (sayB x),.string (x.extract 1 x.size)]
theorem lX (x:ByteArray):(spC x).length=2:=rfl
theorem ru (x:ByteArray):∀u∈spC x,u.oneCell'=true:=by intro u d;simp[spC] at d;rcases d with rfl|rfl<;>rfl
def stps (s:ByteArray):List ByteArray:=(Txt.pcs 32 s).drop 6
theorem iM (s:ByteArray):(stps s).length=(Txt.pcs 32 s).length-6:=by simp[stps]
theorem rT {s:ByteArray}{n:Nat} (h:n<(stps s).length):(stps s)[n]=(Txt.pcs 32 s)[6+n]'(by rw[iM] at h;omega):=by simp[stps]
theorem nR:(Tryz.prog.info? 202).map (fun i=>(i.zero,i.size,i.bytes))=some (some (.agg #[.bool false,.string ByteArray.empty]),2,24):=by kernel_rfl
structure SInv (w wr:World) (b LB base:Nat) (s:ByteArray) (n:Nat) (bb cc:Nat→Nat) (v:Value):Prop where
 strs:StrsAt wr b (Txt.pcs 32 s)
 res:∀j,j<14→wr.cell? ⟨w.heap.size,j,none⟩=some (zc j)∧wr.frozen? ⟨w.heap.size,j,none⟩=false
 ln1:∀j,j<5→wr.cell? ⟨LB,j*2,none⟩=some (.bool (Txt.opn (pt s j)))∧wr.cell? ⟨LB,j*2+1,none⟩=some (fv s bb cc j)
 o0:wr.cell? ⟨LB,10,none⟩=some (.bool (obt (pt s 5) 0==120))
 o1:wr.cell? ⟨LB,11,none⟩=some (.int .u8 (obt (pt s 5) 1))
 o2:wr.cell? ⟨LB,12,none⟩=some (.int .i64 (obt (pt s 5) 2-48))
 o3:wr.cell? ⟨LB,13,none⟩=some v
 lnf:∀j,j<14→wr.frozen? ⟨LB,j,none⟩=false
 prt:∀j:Nat,j<5→LB<bb j∧bb j<base∧(Txt.pcs 44 (pt s j)).length≤cc j∧PartsAt wr (bb j) (lo j) (hi j) (Txt.pcs 44 (pt s j))
 own:wr.ownsRow base 202 2 v n (((stps s).take n).flatMap spC)
 bel:Below w.heap.size w wr
 hR:w.heap.size<b
 hb:b<LB
 hL:LB<base
 hbase:base≤wr.heap.size
theorem SInv.below {w wr J:World}{b LB e n:Nat}{s:ByteArray}{I G:Nat→Nat}{v:Value} (h:SInv w wr b LB e s n I G v) (q:Below wr.heap.size wr J):SInv w J b LB e s n I G v:=by
 have h1:=h.hR;have Q:=h.hb;have U:=h.hL;have O:=h.bel.size;have V:=h.hbase
 exact⟨h.strs.later q,fun j d=>⟨cell_later q (h.res j d).1,(q.frozen (by simp;omega)).trans (h.res j d).2⟩,
  fun j d=>⟨cell_later q (h.ln1 j d).1,cell_later q (h.ln1 j d).2⟩,cell_later q h.o0,cell_later q h.o1,cell_later q h.o2,cell_later q h.o3,
  fun j d=>(q.frozen (by simp;omega)).trans (h.lnf j d),fun j d=>⟨(h.prt j d).1,(h.prt j d).2.1,(h.prt j d).2.2.1,(h.prt j d).2.2.2.later q⟩,dV h.own q,h.bel.trans (q.mono O),h.hR,h.hb,h.hL,Nat.le_trans h.hbase q.size⟩
theorem SInv.far {w wr G:World}{b LB d n:Nat}{s:ByteArray}{J I:Nat→Nat}{v:Value} (h:SInv w wr b LB d s n J I v) (O:wr.grownBy G v.ownBlock):Below d wr G:=
 (Below.refl _ _).grown O h.hbase (fun k e=>(h.own.lt k e).1)
theorem SInv.app {w wr I:World}{b LB d n:Nat}{s:ByteArray}{V Z:Nat→Nat}{v J:Value} (h:SInv w wr b LB d s n V Z v) (Y:wr.grownBy I v.ownBlock) (ho:I.ownsRow d 202 2 J (n+1) (((stps s).take (n+1)).flatMap spC)):
 SInv w (I.setCell ⟨LB,13,none⟩ J) b LB d s (n+1) V Z J:=by
 have k:=h.far Y;have h1:=h.hR;have h3:=h.hb;have G:=h.hL;have h5:=h.bel.size;have h6:=h.hbase
 have cell:∀(a j:Nat) (u:Value),a<d→¬(a=LB∧j=13)→wr.cell? ⟨a,j,none⟩=some u→(I.setCell ⟨LB,13,none⟩ J).cell? ⟨a,j,none⟩=some u:=by
  intro a j u U aj hc;rw[World.cell?_setCell_other _ _ _ _ (by first |(simp;done)|(simp;omega)),k.cell (p:=⟨a,j,none⟩) U];exact hc
 have Q:∀(a j:Nat),a<d→(I.setCell ⟨LB,13,none⟩ J).frozen? ⟨a,j,none⟩=wr.frozen? ⟨a,j,none⟩:=by
  intro a j U;rw[World.frozen?_setCell,k.frozen (p:=⟨a,j,none⟩) U]
 refine⟨fun j e=>cell _ _ _ (by omega) (by omega) (h.strs j e),fun j e=>⟨cell _ _ _ (by omega) (by omega) (h.res j e).1,(Q _ _ (by omega)).trans (h.res j e).2⟩,fun j e=>⟨cell _ _ _ G (by omega) (h.ln1 j e).1,cell _ _ _ G (by omega) (h.ln1 j e).2⟩,
  cell _ _ _ G (by omega) h.o0,cell _ _ _ G (by omega) h.o1,cell _ _ _ G (by omega) h.o2,?_,fun j e=>(Q _ _ G).trans (h.lnf j e),fun j e=>?_,ownsRow_setCell_below ho (by simp;omega) _,?_,h.hR,h.hb,h.hL,?_⟩
 ·exact World.cell?_setCell_same' _ _ _ (by rw[k.cell (p:=⟨LB,13,none⟩) (by simpa using G),h.o3];rfl)
 ·obtain⟨p1,O,p3,p4⟩:=h.prt j e;refine⟨p1,O,p3,fun t ht=>?_⟩
  obtain⟨q0,q1,q2⟩:=p4 t ht;exact⟨cell _ _ _ O (by omega) q0,cell _ _ _ O (by omega) q1,cell _ _ _ O (by omega) q2⟩
 ·exact (h.bel.trans (k.mono (by omega))).setCell (by simp;omega) _
 ·have:=Y.size;simp[World.setCell];omega
theorem SInv.start {w wr:World}{b LB:Nat}{s:ByteArray}{Q V:Nat→Nat} (h:LInv w wr b LB s 5 Q V) {x:Bool}{c k:Int} (J:x=(obt (pt s 5) 0==120)) (G:c=obt (pt s 5) 1) (I:k=obt (pt s 5) 2-48):
 SInv w (((wr.setCell ⟨LB,10,none⟩ (.bool x)).setCell ⟨LB,11,none⟩ (.int .u8 c)).setCell ⟨LB,12,none⟩ (.int .i64 k)) b LB wr.heap.size s 0 Q V (.slice none 0 0):=by
 subst J G I;have h1:=h.hR;have h3:=h.hb;have h4:=h.hL;have h5:=h.bel.size;generalize J:(Value.bool (obt (pt s 5) 0==120))=u0;generalize G:(Value.int .u8 (obt (pt s 5) 1))=u1;generalize I:(Value.int .i64 (obt (pt s 5) 2-48))=u2
 have d:∀(a j:Nat) (u:Value),¬(a=LB∧(j=10∨j=11∨j=12))→wr.cell? ⟨a,j,none⟩=some u→(((wr.setCell ⟨LB,10,none⟩ u0).setCell ⟨LB,11,none⟩ u1).setCell ⟨LB,12,none⟩ u2).cell? ⟨a,j,none⟩=some u:=by
  intro a j u ag G;rw[World.cell?_setCell_other _ _ _ _ (by simp;omega),World.cell?_setCell_other _ _ _ _ (by simp;omega),World.cell?_setCell_other _ _ _ _ (by simp;omega)];exact G
 have O:=h.ln3 10 (by decide) (by decide)
 have Y:=h.ln3 11 (by decide) (by decide)
 have U:=h.ln3 12 (by decide) (by decide)
 refine⟨fun j e=>d _ _ _ (by omega) (h.strs j e),fun j e=>⟨d _ _ _ (by omega) (h.res j e).1,by rw[World.frozen?_setCell,World.frozen?_setCell,World.frozen?_setCell];exact (h.res j e).2⟩,
  fun j e=>⟨d _ _ _ (by omega) (h.ln1 j e).1,d _ _ _ (by omega) (h.ln1 j e).2⟩,?_,?_,?_,d _ _ _ (by omega) (h.ln3 13 (by decide) (by decide)),?_,?_,World.ownsRow_nil _ _ _ _,?_,h.hR,h.hb,h.hL,by simp[World.setCell]⟩
 ·rw[World.cell?_setCell_other _ _ _ _ (by simp),World.cell?_setCell_other _ _ _ _ (by simp),World.cell?_setCell_same' _ _ _ (by rw[O];rfl),J]
 ·rw[World.cell?_setCell_other _ _ _ _ (by simp),World.cell?_setCell_same' _ _ _ (by rw[World.cell?_setCell_other _ _ _ _ (by simp),Y];rfl),G]
 ·rw[World.cell?_setCell_same' _ _ _ (by rw[World.cell?_setCell_other _ _ _ _ (by simp),World.cell?_setCell_other _ _ _ _ (by simp),U];rfl),I]
 ·intro j e;rw[World.frozen?_setCell,World.frozen?_setCell,World.frozen?_setCell];exact h.lnf j e
 ·intro j e;obtain⟨p1,p2,Z⟩:=h.prt j e;refine⟨p1,?_,p2,fun t ht=>?_⟩
  ·exact World.block_lt_of_cell? _ _ (Z 0 (Txt.pcs_ne _ _)).1
  ·obtain⟨q0,q1,q2⟩:=Z t ht;exact⟨d _ _ _ (by omega) q0,d _ _ _ (by omega) q1,d _ _ _ (by omega) q2⟩
 ·exact ((h.bel.setCell (by simp;omega) _).setCell (by simp;omega) _).setCell (by simp;omega) _
def Flat (l g:Int) (f:ByteArray) (wr W:World) (q:Nat) (o:Bool) (ad:Option Addr) (n c:Nat) (ok:Bool):Prop:=
 Below wr.heap.size wr W∧W.cell? ⟨q,0,none⟩=some (.bool o)∧W.cell? ⟨q,1,none⟩=some (.slice ad n c)∧FieldF l g f wr.heap.size W o ad n c ok
theorem FieldF.mono {l g:Int}{f:ByteArray}{h e:Nat}{w I:World}{o:Bool}{d:Option Addr}{n c:Nat}{ok:Bool} (a:FieldF l g f h w o d n c ok) (Z:e≤h) (V:∀x L,h≤x→PartsAt w x l g L→PartsAt I x l g L):FieldF l g f e I o d n c ok:=by
 rcases a with ⟨h1,h2,J,b,U,Y,G,Q,O⟩|h
 ·exact Or.inl ⟨h1,h2,J,b,U,Y,Nat.le_trans Z G,Q,V _ _ G O⟩
 ·exact Or.inr h
theorem tK {l g:Int}{f:ByteArray}{wr d:World}{o:Bool}{w:Option Addr}{n c:Nat}{ok:Bool} (h:FieldF l g f wr.drew.heap.size d o w n c ok) (hb:Below wr.drew.heap.size wr.drew d) (t:TypeId):
 Flat l g f wr (d.alloc (.cells #[.bool o,.slice w n c] t)) d.heap.size o w n c ok:=by
 have e:Below wr.heap.size wr d:=(Below.refl _ _).drew.trans hb;refine⟨e.alloc e.size _,by simp[go_sem],by simp[go_sem],?_⟩
 exact h.mono (Nat.le_refl _) (fun x L _ G=>G.later (dx _ _))
theorem tA {l g:Int}{f:ByteArray}{wr d:World}{o:Bool}{e:Option Addr}{n c:Nat}{ok:Bool}{t:TypeId} (h:FieldF l g f (wr.alloc (.cells #[.bool false,.slice none 0 0] t)).drew.heap.size d o e n c ok)
 (hb:Below (wr.alloc (.cells #[.bool false,.slice none 0 0] t)).drew.heap.size (wr.alloc (.cells #[.bool false,.slice none 0 0] t)).drew d):
 Flat l g f wr ((d.setCell ⟨wr.heap.size,0,none⟩ (.bool o)).setCell ⟨wr.heap.size,1,none⟩ (.slice e n c)) wr.heap.size o e n c ok:=by
 have O:(wr.alloc (.cells #[.bool false,.slice none 0 0] t)).drew.heap.size=wr.heap.size+1:=by simp
 have w:Below wr.heap.size wr d:=((dx wr _).drew).trans (hb.mono (by omega))
 have Y:d.cell? ⟨wr.heap.size,0,none⟩=some (.bool false):=cell_later hb (by simp[go_sem])
 have k1:d.cell? ⟨wr.heap.size,1,none⟩=some (.slice none 0 0):=cell_later hb (by simp[go_sem])
 refine⟨(w.setCell (by simp) _).setCell (by simp) _,?_,?_,?_⟩
 ·rw[World.cell?_setCell_other _ _ _ _ (by simp)]
  exact World.cell?_setCell_same' _ _ _ (by rw[Y];rfl)
 ·exact World.cell?_setCell_same' _ _ _ (by rw[World.cell?_setCell_other _ _ _ _ (by simp),k1];rfl)
 ·refine h.mono (by omega) (fun x L I J j V=>?_)
  rw[O] at I;obtain⟨Q,G,U⟩:=J j V;refine⟨?_,?_,?_⟩
  ·rw[World.cell?_setCell_other _ _ _ _ (by first |(simp;done)|(simp;omega)),World.cell?_setCell_other _ _ _ _ (by first |(simp;done)|(simp;omega))];exact Q
  ·rw[World.cell?_setCell_other _ _ _ _ (by first |(simp;done)|(simp;omega)),World.cell?_setCell_other _ _ _ _ (by first |(simp;done)|(simp;omega))];exact G
  ·rw[World.cell?_setCell_other _ _ _ _ (by first |(simp;done)|(simp;omega)),World.cell?_setCell_other _ _ _ _ (by first |(simp;done)|(simp;omega))];exact U
end Go.Proofs.YtdajolpoiffimabGreatDoor
